import Derived.Test.YtkfokddlgmcimaaGreatDoorK51
import Derived.Deep.RegionHeld
set_option maxRecDepth 100000
set_option maxHeartbeats 4000000
namespace Go.Proofs.YtkfokddlgmcimaaGreatDoor
open Go.RowKit
theorem dS_behind (a b : Ls.Ln) : Ls.dS (Ls.behindL a b) = Ls.behindD (Ls.dS a) (Ls.dS b) := by simp [Ls.behindL, Ls.dS]
theorem dV_behind (a b : Ls.Ln) : Ls.dV (Ls.behindL a b) = Ls.behindD (Ls.dV a) (Ls.dV b) := by simp [Ls.behindL, Ls.dV]
theorem dS_change (a b : Ls.Ln) : Ls.dS (Ls.changeL a b) = Ls.behindD (Ls.dS a) (Ls.dS b) := by simp [Ls.changeL, Ls.dS]
theorem dV_change (a b : Ls.Ln) : Ls.dV (Ls.changeL a b) = Ls.behindD (Ls.dV b) (Ls.dV a) := by simp [Ls.changeL, Ls.dV]
theorem dS_union (a b : Ls.Ln) : Ls.dS (Ls.unionL a b) = Ls.eitherD (Ls.dS a) (Ls.dS b) := by simp [Ls.unionL, Ls.dS]
theorem dV_union (a b : Ls.Ln) : Ls.dV (Ls.unionL a b) = Ls.eitherD (Ls.dV a) (Ls.dV b) := by simp [Ls.unionL, Ls.dV]
theorem part_two {w w2 w3 : World} {G : Nat -> Prop} {l : Ls.Ln} {t1 t2 : TypeId} {y1 y2 : Value} {n1 n2 : Nat} (hG : Old w G) (hb2 : Below w.heap.size w w2) (hb3 : Below w2.heap.size w2 w3) (h1 : Tx w2 (Gn w G w2) (.iface t1 y1) n1 (Ls.dS l)) (h2 : Tx w3 (Gn w2 G w3) (.iface t2 y2) n2 (Ls.dV l)) :
  PartV (w3.alloc (.cells #[.iface t1 y1, .pointer (some ⟨n1, 0, none⟩), .iface t2 y2, .pointer (some ⟨n2, 0, none⟩)] 89)) (Gn w G (w3.alloc (.cells #[.iface t1 y1, .pointer (some ⟨n1, 0, none⟩), .iface t2 y2, .pointer (some ⟨n2, 0, none⟩)] 89))) w3.heap.size l := by
 have z2 := hb2.size
 have z3 := hb3.size
 exact part_new (Below.join hb2 hb3) hG (h1.below (Gn.old hG z2) hb3) h2 (fun k hk => hk.imp id (fun h => ⟨h.1, by have := h.2; omega⟩)) (fun k hk => hk.imp id (fun h => ⟨by have := h.1; omega, h.2⟩))
theorem inRow_part (a b : Ls.Ln) (hs : Ls.dsize (Ls.dS a) + Ls.dsize (Ls.dS b) <= 24) (hv : Ls.dsize (Ls.dV a) + Ls.dsize (Ls.dV b) <= 24) (hns : dn (Ls.dS a) + dn (Ls.dS b) <= 100000) (hnv : dn (Ls.dV a) + dn (Ls.dV b) <= 100000)
  (w : World) (G : Nat -> Prop) (hG : Old w G) (a3 : Addr) (hc : EType w a3) (p q : Nat) (ha : PartV w G p a) (hb : PartV w G q b) (F : Prop) (hF : F ↔ (¬ Ls.Twice (Ls.toPat (Ls.dS a)) (Ls.toPat (Ls.dS b)) /\ ¬ Ls.Twice (Ls.toPat (Ls.dV a)) (Ls.toPat (Ls.dV b)))) :
  Calls Tryz.prog 120 #[.pointer (some ⟨p, 0, none⟩), .pointer (some ⟨q, 0, none⟩)] w (PartPost w G a3 F (Ls.behindL a b)) := by
 obtain ⟨t1, y1, n1, t2, y2, n2, hp1, hp2, hp3, hp4⟩ := ha
 obtain ⟨t3, y3, n3, t4, y4, n4, hq1, hq2, hq3, hq4⟩ := hb
 have HS : Hid (∀ W : World, Below w.heap.size w W -> W.cell? ⟨p, 0, none⟩ = some (.iface t1 y1) /\ W.cell? ⟨p, 1, none⟩ = some (.pointer (some ⟨n1, 0, none⟩)) /\ W.cell? ⟨p, 2, none⟩ = some (.iface t2 y2) /\ W.cell? ⟨p, 3, none⟩ = some (.pointer (some ⟨n2, 0, none⟩)) /\ W.cell? ⟨q, 0, none⟩ = some (.iface t3 y3) /\ W.cell? ⟨q, 1, none⟩ = some (.pointer (some ⟨n3, 0, none⟩)) /\ W.cell? ⟨q, 2, none⟩ = some (.iface t4 y4) /\ W.cell? ⟨q, 3, none⟩ = some (.pointer (some ⟨n4, 0, none⟩))) := fun W hW => by
  obtain ⟨e0, e1, e2, e3⟩ := (hp2.below hW hp2.lt).four
  obtain ⟨f0, f1, f2, f3⟩ := (hq2.below hW hq2.lt).four
  exact ⟨e0, e1, e2, e3, f0, f1, f2, f3⟩
 have H1 : Hid (∀ W, Below w.heap.size w W -> Calls Tryz.prog 135 #[.agg #[.iface t1 y1, .pointer (some ⟨n1, 0, none⟩)], .agg #[.iface t3 y3, .pointer (some ⟨n3, 0, none⟩)]] W (TyPost W G a3 (¬ Ls.Twice (Ls.toPat (Ls.dS a)) (Ls.toPat (Ls.dS b))) (Ls.behindD (Ls.dS a) (Ls.dS b)))) := fun W hW =>
  behind_tx _ _ hs hns W G (fun k hk => Nat.lt_of_lt_of_le (hG k hk) hW.size) a3 (hc.below hW) _ _ _ _ _ _ (hp3.below hG hW) (hq3.below hG hW)
 have H2 : Hid (∀ W, Below w.heap.size w W -> Calls Tryz.prog 135 #[.agg #[.iface t2 y2, .pointer (some ⟨n2, 0, none⟩)], .agg #[.iface t4 y4, .pointer (some ⟨n4, 0, none⟩)]] W (TyPost W G a3 (¬ Ls.Twice (Ls.toPat (Ls.dV a)) (Ls.toPat (Ls.dV b))) (Ls.behindD (Ls.dV a) (Ls.dV b)))) := fun W hW =>
  behind_tx _ _ (by omega) (by omega) W G (fun k hk => Nat.lt_of_lt_of_le (hG k hk) hW.size) a3 (hc.below hW) _ _ _ _ _ _ (hp4.below hG hW) (hq4.below hG hW)
 obtain ⟨e0, e1, e2, e3, f0, f1, f2, f3⟩ := HS.out w (Below.refl _ _)
 have HF : Hid (F ↔ (¬ Ls.Twice (Ls.toPat (Ls.dS a)) (Ls.toPat (Ls.dS b)) /\ ¬ Ls.Twice (Ls.toPat (Ls.dV a)) (Ls.toPat (Ls.dV b)))) := hF
 clear hp1 hp2 hp3 hp4 hq1 hq2 hq3 hq4 hc hF
 go_enter Tryz.func120, Tryz.ntmps120
 go_wp2_with fail
 go_region_held (fun w' => w'.cell? ⟨p, 0, none⟩ = some (.iface t1 y1) /\ w'.cell? ⟨p, 1, none⟩ = some (.pointer (some ⟨n1, 0, none⟩)) /\ w'.cell? ⟨p, 2, none⟩ = some (.iface t2 y2) /\ w'.cell? ⟨p, 3, none⟩ = some (.pointer (some ⟨n2, 0, none⟩)) /\ w'.cell? ⟨q, 0, none⟩ = some (.iface t3 y3) /\ w'.cell? ⟨q, 1, none⟩ = some (.pointer (some ⟨n3, 0, none⟩)) /\ w'.cell? ⟨q, 2, none⟩ = some (.iface t4 y4) /\ w'.cell? ⟨q, 3, none⟩ = some (.pointer (some ⟨n4, 0, none⟩))) (first | assumption | exact HS.out _ (Below.refl _ _).drew | exact HS.out _ hcur | exact HS.out _ (Below.join hcur (below_alloc1 _ _)))
  (first
   | (go_at_call_of 135 (Value.agg #[.iface t1 y1, .pointer (some ⟨n1, 0, none⟩)]); refine (H1.out _ ?_).mono ?_; exact (Below.refl _ _).drew; rintro e w2 (⟨hok1, u1, z1, m1, rfl, hT2, hb2d⟩ | ⟨hno, rfl, hb2d⟩); rotate_left; (have HNO : Hid _ := hno; clear hno; go_wp2_with fail; exact ⟨rfl, .inr ⟨fun h => HNO.out (HF.out.1 h).1, rfl, Below.join (Below.refl _ _).drew hb2d⟩⟩); have HOK1 : Hid _ := hok1; clear hok1; have hb2 : Below w.heap.size w w2 := Below.join (Below.refl _ _).drew hb2d; have hcur : Below w.heap.size w w2 := hb2)
   | (go_at_call_of 135 (Value.agg #[.iface t2 y2, .pointer (some ⟨n2, 0, none⟩)]); refine (H2.out _ hcur).mono ?_; rintro e w3 (⟨hok2, u2, z2, m2, rfl, hT3, hb3⟩ | ⟨hno, rfl, hb3⟩); rotate_left; (have HNO : Hid _ := hno; clear hno; go_wp2_with fail; exact ⟨rfl, .inr ⟨fun h => HNO.out (HF.out.1 h).2, rfl, Below.join hcur hb3⟩⟩); have HOK2 : Hid _ := hok2; clear hok2; have hcur : Below w.heap.size w w3 := Below.join hcur hb3))
 all_goals
  have HP : Hid (PartPost w G a3 F (Ls.behindL a b) (.returned (.pointer (some ⟨w3.heap.size, 0, none⟩))) (w3.alloc (.cells #[.iface u1 z1, .pointer (some ⟨m1, 0, none⟩), .iface u2 z2, .pointer (some ⟨m2, 0, none⟩)] 89))) :=
   .inl ⟨HF.out.2 ⟨HOK1.out, HOK2.out⟩, w3.heap.size, rfl, part_two hG hb2 hb3 (by rw [dS_behind]; exact hT2) (by rw [dV_behind]; exact hT3), Below.join hcur (below_alloc1 _ _)⟩
  clear hT2 hT3
  go_wp2_with fail
  go_ret
  exact HP.out
theorem change_part (a b : Ls.Ln) (hs : Ls.dsize (Ls.dS a) + Ls.dsize (Ls.dS b) <= 24) (hv : Ls.dsize (Ls.dV a) + Ls.dsize (Ls.dV b) <= 24) (hns : dn (Ls.dS a) + dn (Ls.dS b) <= 100000) (hnv : dn (Ls.dV a) + dn (Ls.dV b) <= 100000)
  (w : World) (G : Nat -> Prop) (hG : Old w G) (a3 : Addr) (hc : EType w a3) (p q : Nat) (ha : PartV w G p a) (hb : PartV w G q b) (F : Prop) (hF : F ↔ (¬ Ls.Twice (Ls.toPat (Ls.dS a)) (Ls.toPat (Ls.dS b)) /\ ¬ Ls.Twice (Ls.toPat (Ls.dV b)) (Ls.toPat (Ls.dV a)))) :
  Calls Tryz.prog 148 #[.pointer (some ⟨p, 0, none⟩), .pointer (some ⟨q, 0, none⟩)] w (PartPost w G a3 F (Ls.changeL a b)) := by
 obtain ⟨t1, y1, n1, t2, y2, n2, hp1, hp2, hp3, hp4⟩ := ha
 obtain ⟨t3, y3, n3, t4, y4, n4, hq1, hq2, hq3, hq4⟩ := hb
 have HS : Hid (∀ W : World, Below w.heap.size w W -> W.cell? ⟨p, 0, none⟩ = some (.iface t1 y1) /\ W.cell? ⟨p, 1, none⟩ = some (.pointer (some ⟨n1, 0, none⟩)) /\ W.cell? ⟨p, 2, none⟩ = some (.iface t2 y2) /\ W.cell? ⟨p, 3, none⟩ = some (.pointer (some ⟨n2, 0, none⟩)) /\ W.cell? ⟨q, 0, none⟩ = some (.iface t3 y3) /\ W.cell? ⟨q, 1, none⟩ = some (.pointer (some ⟨n3, 0, none⟩)) /\ W.cell? ⟨q, 2, none⟩ = some (.iface t4 y4) /\ W.cell? ⟨q, 3, none⟩ = some (.pointer (some ⟨n4, 0, none⟩))) := fun W hW => by
  obtain ⟨e0, e1, e2, e3⟩ := (hp2.below hW hp2.lt).four
  obtain ⟨f0, f1, f2, f3⟩ := (hq2.below hW hq2.lt).four
  exact ⟨e0, e1, e2, e3, f0, f1, f2, f3⟩
 have H1 : Hid (∀ W, Below w.heap.size w W -> Calls Tryz.prog 135 #[.agg #[.iface t1 y1, .pointer (some ⟨n1, 0, none⟩)], .agg #[.iface t3 y3, .pointer (some ⟨n3, 0, none⟩)]] W (TyPost W G a3 (¬ Ls.Twice (Ls.toPat (Ls.dS a)) (Ls.toPat (Ls.dS b))) (Ls.behindD (Ls.dS a) (Ls.dS b)))) := fun W hW =>
  behind_tx _ _ hs hns W G (fun k hk => Nat.lt_of_lt_of_le (hG k hk) hW.size) a3 (hc.below hW) _ _ _ _ _ _ (hp3.below hG hW) (hq3.below hG hW)
 have H2 : Hid (∀ W, Below w.heap.size w W -> Calls Tryz.prog 135 #[.agg #[.iface t4 y4, .pointer (some ⟨n4, 0, none⟩)], .agg #[.iface t2 y2, .pointer (some ⟨n2, 0, none⟩)]] W (TyPost W G a3 (¬ Ls.Twice (Ls.toPat (Ls.dV b)) (Ls.toPat (Ls.dV a))) (Ls.behindD (Ls.dV b) (Ls.dV a)))) := fun W hW =>
  behind_tx _ _ (by omega) (by omega) W G (fun k hk => Nat.lt_of_lt_of_le (hG k hk) hW.size) a3 (hc.below hW) _ _ _ _ _ _ (hq4.below hG hW) (hp4.below hG hW)
 obtain ⟨e0, e1, e2, e3, f0, f1, f2, f3⟩ := HS.out w (Below.refl _ _)
 have HF : Hid (F ↔ (¬ Ls.Twice (Ls.toPat (Ls.dS a)) (Ls.toPat (Ls.dS b)) /\ ¬ Ls.Twice (Ls.toPat (Ls.dV b)) (Ls.toPat (Ls.dV a)))) := hF
 clear hp1 hp2 hp3 hp4 hq1 hq2 hq3 hq4 hc hF
 go_enter Tryz.func148, Tryz.ntmps148
 go_wp2_with fail
 go_region_held (fun w' => w'.cell? ⟨p, 0, none⟩ = some (.iface t1 y1) /\ w'.cell? ⟨p, 1, none⟩ = some (.pointer (some ⟨n1, 0, none⟩)) /\ w'.cell? ⟨p, 2, none⟩ = some (.iface t2 y2) /\ w'.cell? ⟨p, 3, none⟩ = some (.pointer (some ⟨n2, 0, none⟩)) /\ w'.cell? ⟨q, 0, none⟩ = some (.iface t3 y3) /\ w'.cell? ⟨q, 1, none⟩ = some (.pointer (some ⟨n3, 0, none⟩)) /\ w'.cell? ⟨q, 2, none⟩ = some (.iface t4 y4) /\ w'.cell? ⟨q, 3, none⟩ = some (.pointer (some ⟨n4, 0, none⟩))) (first | assumption | exact HS.out _ (Below.refl _ _).drew | exact HS.out _ hcur | exact HS.out _ (Below.join hcur (below_alloc1 _ _)))
  (first
   | (go_at_call_of 135 (Value.agg #[.iface t1 y1, .pointer (some ⟨n1, 0, none⟩)]); refine (H1.out _ ?_).mono ?_; exact (Below.refl _ _).drew; rintro e w2 (⟨hok1, u1, z1, m1, rfl, hT2, hb2d⟩ | ⟨hno, rfl, hb2d⟩); rotate_left; (have HNO : Hid _ := hno; clear hno; go_wp2_with fail; exact ⟨rfl, .inr ⟨fun h => HNO.out (HF.out.1 h).1, rfl, Below.join (Below.refl _ _).drew hb2d⟩⟩); have HOK1 : Hid _ := hok1; clear hok1; have hb2 : Below w.heap.size w w2 := Below.join (Below.refl _ _).drew hb2d; have hcur : Below w.heap.size w w2 := hb2)
   | (go_at_call_of 135 (Value.agg #[.iface t4 y4, .pointer (some ⟨n4, 0, none⟩)]); refine (H2.out _ hcur).mono ?_; rintro e w3 (⟨hok2, u2, z2, m2, rfl, hT3, hb3⟩ | ⟨hno, rfl, hb3⟩); rotate_left; (have HNO : Hid _ := hno; clear hno; go_wp2_with fail; exact ⟨rfl, .inr ⟨fun h => HNO.out (HF.out.1 h).2, rfl, Below.join hcur hb3⟩⟩); have HOK2 : Hid _ := hok2; clear hok2; have hcur : Below w.heap.size w w3 := Below.join hcur hb3))
 all_goals
  have HP : Hid (PartPost w G a3 F (Ls.changeL a b) (.returned (.pointer (some ⟨w3.heap.size, 0, none⟩))) (w3.alloc (.cells #[.iface u1 z1, .pointer (some ⟨m1, 0, none⟩), .iface u2 z2, .pointer (some ⟨m2, 0, none⟩)] 89))) :=
   .inl ⟨HF.out.2 ⟨HOK1.out, HOK2.out⟩, w3.heap.size, rfl, part_two hG hb2 hb3 (by rw [dS_change]; exact hT2) (by rw [dV_change]; exact hT3), Below.join hcur (below_alloc1 _ _)⟩
  clear hT2 hT3
  go_wp2_with fail
  go_ret
  exact HP.out
end Go.Proofs.YtkfokddlgmcimaaGreatDoor
