import Derived.Test.YtkfokddlgmcimaaGreatDoorK52
set_option maxRecDepth 100000
set_option maxHeartbeats 4000000
namespace Go.Proofs.YtkfokddlgmcimaaGreatDoor
open Go.RowKit
theorem need_any (z : Bool) (a3 : Addr) (w : World) (hc : EType w a3) :
  Calls Tryz.prog 122 #[.bool z] w fun e w' => w' = w /\ ((z = true /\ e = .returned (.tuple #[])) \/ (z = false /\ e = .panicked [{ v := errS a3, recovered := false }])) := by
 cases z with
 | true => exact (need_yes w).mono (fun e w' h => ⟨h.2, .inl ⟨rfl, h.1⟩⟩)
 | false => exact (need_no a3 w hc).mono (fun e w' h => ⟨h.2, .inr ⟨rfl, h.1⟩⟩)
theorem united_part (a b : Ls.Ln) (hs : Ls.dsize (Ls.dS a) + Ls.dsize (Ls.dS b) <= 24) (hv : Ls.dsize (Ls.dV a) + Ls.dsize (Ls.dV b) <= 24) (hns : dn (Ls.dS a) + dn (Ls.dS b) <= 100000) (hnv : dn (Ls.dV a) + dn (Ls.dV b) <= 100000)
  (w : World) (G : Nat -> Prop) (hG : Old w G) (a3 : Addr) (hc : EType w a3) (p q : Nat) (ha : PartV w G p a) (hb : PartV w G q b) (F : Prop) (hF : F ↔ ¬ Ls.Both (Ls.toPat (Ls.dS a)) (Ls.toPat (Ls.dS b))) :
  Calls Tryz.prog 110 #[.pointer (some ⟨p, 0, none⟩), .pointer (some ⟨q, 0, none⟩)] w (PartPost w G a3 F (Ls.unionL a b)) := by
 obtain ⟨t1, y1, n1, t2, y2, n2, hp1, hp2, hp3, hp4⟩ := ha
 obtain ⟨t3, y3, n3, t4, y4, n4, hq1, hq2, hq3, hq4⟩ := hb
 have HS : Hid (∀ W : World, Below w.heap.size w W -> W.cell? ⟨p, 0, none⟩ = some (.iface t1 y1) /\ W.cell? ⟨p, 1, none⟩ = some (.pointer (some ⟨n1, 0, none⟩)) /\ W.cell? ⟨p, 2, none⟩ = some (.iface t2 y2) /\ W.cell? ⟨p, 3, none⟩ = some (.pointer (some ⟨n2, 0, none⟩)) /\ W.cell? ⟨q, 0, none⟩ = some (.iface t3 y3) /\ W.cell? ⟨q, 1, none⟩ = some (.pointer (some ⟨n3, 0, none⟩)) /\ W.cell? ⟨q, 2, none⟩ = some (.iface t4 y4) /\ W.cell? ⟨q, 3, none⟩ = some (.pointer (some ⟨n4, 0, none⟩))) := fun W hW => by
  obtain ⟨e0, e1, e2, e3⟩ := (hp2.below hW hp2.lt).four
  obtain ⟨f0, f1, f2, f3⟩ := (hq2.below hW hq2.lt).four
  exact ⟨e0, e1, e2, e3, f0, f1, f2, f3⟩
 have HA : Hid (∀ W, Below w.heap.size w W -> Calls Tryz.prog 29 #[.pointer (some ⟨n1, 0, none⟩), .pointer (some ⟨n3, 0, none⟩)] W (AskPost W (Ls.Both (Ls.toPat (Ls.dS a)) (Ls.toPat (Ls.dS b))))) := fun W hW => by
  have hO : Old W G := fun k hk => Nat.lt_of_lt_of_le (hG k hk) hW.size
  obtain ⟨P, Q, hN⟩ := (hp3.below hG hW).nt hO (by omega)
  obtain ⟨P', Q', hN'⟩ := (hq3.below hG hW).nt hO (by omega)
  exact asks_apart W n1 n3 P Q P' Q' _ _ hp3.wd hq3.wd hN hN'
 have H1 : Hid (∀ W, Below w.heap.size w W -> Calls Tryz.prog 123 #[.agg #[.iface t1 y1, .pointer (some ⟨n1, 0, none⟩)], .agg #[.iface t3 y3, .pointer (some ⟨n3, 0, none⟩)]] W (TxPost W G (Ls.eitherD (Ls.dS a) (Ls.dS b)))) := fun W hW =>
  either_tx _ _ hs hns W G (fun k hk => Nat.lt_of_lt_of_le (hG k hk) hW.size) _ _ _ _ _ _ (hp3.below hG hW) (hq3.below hG hW)
 have H2 : Hid (∀ W, Below w.heap.size w W -> Calls Tryz.prog 123 #[.agg #[.iface t2 y2, .pointer (some ⟨n2, 0, none⟩)], .agg #[.iface t4 y4, .pointer (some ⟨n4, 0, none⟩)]] W (TxPost W G (Ls.eitherD (Ls.dV a) (Ls.dV b)))) := fun W hW =>
  either_tx _ _ hv hnv W G (fun k hk => Nat.lt_of_lt_of_le (hG k hk) hW.size) _ _ _ _ _ _ (hp4.below hG hW) (hq4.below hG hW)
 obtain ⟨e0, e1, e2, e3, f0, f1, f2, f3⟩ := HS.out w (Below.refl _ _)
 have HF : Hid (F ↔ ¬ Ls.Both (Ls.toPat (Ls.dS a)) (Ls.toPat (Ls.dS b))) := hF
 have HC : Hid (EType w a3) := hc
 clear hp1 hp2 hp3 hp4 hq1 hq2 hq3 hq4 hc hF
 go_enter Tryz.func110, Tryz.ntmps110
 go_wp2_with fail
 go_region_held (fun w' => w'.cell? ⟨p, 0, none⟩ = some (.iface t1 y1) /\ w'.cell? ⟨p, 1, none⟩ = some (.pointer (some ⟨n1, 0, none⟩)) /\ w'.cell? ⟨p, 2, none⟩ = some (.iface t2 y2) /\ w'.cell? ⟨p, 3, none⟩ = some (.pointer (some ⟨n2, 0, none⟩)) /\ w'.cell? ⟨q, 0, none⟩ = some (.iface t3 y3) /\ w'.cell? ⟨q, 1, none⟩ = some (.pointer (some ⟨n3, 0, none⟩)) /\ w'.cell? ⟨q, 2, none⟩ = some (.iface t4 y4) /\ w'.cell? ⟨q, 3, none⟩ = some (.pointer (some ⟨n4, 0, none⟩))) (first | assumption | exact HS.out _ (Below.refl _ _).drew | exact HS.out _ hcur)
  (first
   | (go_at_call 29; refine (HA.out _ ?_).mono ?_; exact (Below.refl _ _).drew; rintro e w1 ⟨z, rfl, hz, hb1d⟩; have HZ : Hid (z = true ↔ ¬ Ls.Both (Ls.toPat (Ls.dS a)) (Ls.toPat (Ls.dS b))) := hz; clear hz; have hb1 : Below w.heap.size w w1 := Below.join (Below.refl _ _).drew hb1d; have hcur : Below w.heap.size w w1 := hb1)
   | (go_at_call 122; refine (need_any z a3 _ (HC.out.below hb1)).mono ?_; rintro e w2 ⟨rfl, ⟨hz1, rfl⟩ | ⟨hz0, rfl⟩⟩; rotate_left; (have HN : Hid (¬ F) := (fun h => by have := HZ.out.2 (HF.out.1 h); rw [hz0] at this; cases this); clear HZ hz0; go_wp2_with fail; exact ⟨rfl, .inr ⟨HN.out, rfl, hb1⟩⟩); have HOK : Hid F := HF.out.2 (HZ.out.1 hz1); clear HZ hz1))
 all_goals
  obtain ⟨e0, e1, e2, e3, f0, f1, f2, f3⟩ := HS.out w2 hb1
  go_wp2_with fail
  go_region_held (fun w' => w'.cell? ⟨p, 0, none⟩ = some (.iface t1 y1) /\ w'.cell? ⟨p, 1, none⟩ = some (.pointer (some ⟨n1, 0, none⟩)) /\ w'.cell? ⟨p, 2, none⟩ = some (.iface t2 y2) /\ w'.cell? ⟨p, 3, none⟩ = some (.pointer (some ⟨n2, 0, none⟩)) /\ w'.cell? ⟨q, 0, none⟩ = some (.iface t3 y3) /\ w'.cell? ⟨q, 1, none⟩ = some (.pointer (some ⟨n3, 0, none⟩)) /\ w'.cell? ⟨q, 2, none⟩ = some (.iface t4 y4) /\ w'.cell? ⟨q, 3, none⟩ = some (.pointer (some ⟨n4, 0, none⟩))) (first | assumption | exact HS.out _ hb1.drew | exact HS.out _ hcur | exact HS.out _ (Below.join hcur (below_alloc1 _ _)))
   (first
    | (go_at_call_of 123 (Value.agg #[.iface t1 y1, .pointer (some ⟨n1, 0, none⟩)]); refine (H1.out _ ?_).mono ?_; exact hb1.drew; rintro e w3 ⟨u1, z1, m1, rfl, hT3, hb3d⟩; have hb3 : Below w2.heap.size w2 w3 := Below.join (Below.refl _ _).drew hb3d; have hcur : Below w.heap.size w w3 := Below.join hb1 hb3)
    | (go_at_call_of 123 (Value.agg #[.iface t2 y2, .pointer (some ⟨n2, 0, none⟩)]); refine (H2.out _ hcur).mono ?_; rintro e w4 ⟨u2, z2, m2, rfl, hT4, hb4⟩; have hcur3 := hcur; have hcur : Below w.heap.size w w4 := Below.join hcur hb4))
  all_goals
   have HP : Hid (PartPost w G a3 F (Ls.unionL a b) (.returned (.pointer (some ⟨w4.heap.size, 0, none⟩))) (w4.alloc (.cells #[.iface u1 z1, .pointer (some ⟨m1, 0, none⟩), .iface u2 z2, .pointer (some ⟨m2, 0, none⟩)] 89))) :=
    .inl ⟨HOK.out, w4.heap.size, rfl, part_two hG hcur3 hb4 (by rw [dS_union]; exact hT3.mono (fun k hk => hk.imp id (fun h => ⟨Nat.le_trans hb1.size h.1, h.2⟩)) (fun _ _ => rfl)) (by rw [dV_union]; exact hT4), Below.join hcur (below_alloc1 _ _)⟩
   clear hT3 hT4
   go_wp2_with fail
   go_ret
   exact HP.out
theorem repeated_part (a l : Ls.Ln) (hl1 : Ls.dS l = Ls.rep 5 (Ls.dS a)) (hl2 : Ls.dV l = Ls.rep 5 (Ls.dV a)) (hs : Ls.dsize (Ls.dS a) <= 24) (hv : Ls.dsize (Ls.dV a) <= 24) (hns : dn (Ls.dS a) <= 100000) (hnv : dn (Ls.dV a) <= 100000)
  (w : World) (G : Nat -> Prop) (hG : Old w G) (a3 : Addr) (hc : EType w a3) (p : Nat) (ha : PartV w G p a) (F : Prop) (hF : F ↔ ((¬ Ls.inL (Ls.toPat (Ls.dS a)) [] /\ ¬ Ls.Twice (Ls.toPat (Ls.dS a)) (Ls.toPat (Ls.rep 5 (Ls.dS a)))) /\ (¬ Ls.inL (Ls.toPat (Ls.dV a)) [] /\ ¬ Ls.Twice (Ls.toPat (Ls.dV a)) (Ls.toPat (Ls.rep 5 (Ls.dV a)))))) :
  Calls Tryz.prog 151 #[.pointer (some ⟨p, 0, none⟩)] w (PartPost w G a3 F l) := by
 obtain ⟨t1, y1, n1, t2, y2, n2, hp1, hp2, hp3, hp4⟩ := ha
 have HS : Hid (∀ W : World, Below w.heap.size w W -> W.cell? ⟨p, 0, none⟩ = some (.iface t1 y1) /\ W.cell? ⟨p, 1, none⟩ = some (.pointer (some ⟨n1, 0, none⟩)) /\ W.cell? ⟨p, 2, none⟩ = some (.iface t2 y2) /\ W.cell? ⟨p, 3, none⟩ = some (.pointer (some ⟨n2, 0, none⟩))) := fun W hW => by
  obtain ⟨e0, e1, e2, e3⟩ := (hp2.below hW hp2.lt).four
  exact ⟨e0, e1, e2, e3⟩
 have H1 : Hid (∀ W, Below w.heap.size w W -> Calls Tryz.prog 163 #[.agg #[.iface t1 y1, .pointer (some ⟨n1, 0, none⟩)]] W (TyPost W G a3 (¬ Ls.inL (Ls.toPat (Ls.dS a)) [] /\ ¬ Ls.Twice (Ls.toPat (Ls.dS a)) (Ls.toPat (Ls.rep 5 (Ls.dS a)))) (Ls.rep 5 (Ls.dS a)))) := fun W hW =>
  many_tx _ hs hns W G (fun k hk => Nat.lt_of_lt_of_le (hG k hk) hW.size) a3 (hc.below hW) _ _ _ (hp3.below hG hW)
 have H2 : Hid (∀ W, Below w.heap.size w W -> Calls Tryz.prog 163 #[.agg #[.iface t2 y2, .pointer (some ⟨n2, 0, none⟩)]] W (TyPost W G a3 (¬ Ls.inL (Ls.toPat (Ls.dV a)) [] /\ ¬ Ls.Twice (Ls.toPat (Ls.dV a)) (Ls.toPat (Ls.rep 5 (Ls.dV a)))) (Ls.rep 5 (Ls.dV a)))) := fun W hW =>
  many_tx _ hv hnv W G (fun k hk => Nat.lt_of_lt_of_le (hG k hk) hW.size) a3 (hc.below hW) _ _ _ (hp4.below hG hW)
 obtain ⟨e0, e1, e2, e3⟩ := HS.out w (Below.refl _ _)
 have HF : Hid (F ↔ ((¬ Ls.inL (Ls.toPat (Ls.dS a)) [] /\ ¬ Ls.Twice (Ls.toPat (Ls.dS a)) (Ls.toPat (Ls.rep 5 (Ls.dS a)))) /\ (¬ Ls.inL (Ls.toPat (Ls.dV a)) [] /\ ¬ Ls.Twice (Ls.toPat (Ls.dV a)) (Ls.toPat (Ls.rep 5 (Ls.dV a)))))) := hF
 have HL : Hid (Ls.dS l = Ls.rep 5 (Ls.dS a) /\ Ls.dV l = Ls.rep 5 (Ls.dV a)) := ⟨hl1, hl2⟩
 clear hp1 hp2 hp3 hp4 hc hF hl1 hl2
 go_enter Tryz.func151, Tryz.ntmps151
 go_wp2_with fail
 go_region_held (fun w' => w'.cell? ⟨p, 0, none⟩ = some (.iface t1 y1) /\ w'.cell? ⟨p, 1, none⟩ = some (.pointer (some ⟨n1, 0, none⟩)) /\ w'.cell? ⟨p, 2, none⟩ = some (.iface t2 y2) /\ w'.cell? ⟨p, 3, none⟩ = some (.pointer (some ⟨n2, 0, none⟩))) (first | assumption | exact HS.out _ (Below.refl _ _).drew | exact HS.out _ hcur | exact HS.out _ (Below.join hcur (below_alloc1 _ _)))
  (first
   | (go_at_call_of 163 (Value.agg #[.iface t1 y1, .pointer (some ⟨n1, 0, none⟩)]); refine (H1.out _ ?_).mono ?_; exact (Below.refl _ _).drew; rintro e w2 (⟨hok1, u1, z1, m1, rfl, hT2, hb2d⟩ | ⟨hno, rfl, hb2d⟩); rotate_left; (have HNO : Hid _ := hno; clear hno; go_wp2_with fail; exact ⟨rfl, .inr ⟨fun h => HNO.out (HF.out.1 h).1, rfl, Below.join (Below.refl _ _).drew hb2d⟩⟩); have HOK1 : Hid _ := hok1; clear hok1; have hb2 : Below w.heap.size w w2 := Below.join (Below.refl _ _).drew hb2d; have hcur : Below w.heap.size w w2 := hb2)
   | (go_at_call_of 163 (Value.agg #[.iface t2 y2, .pointer (some ⟨n2, 0, none⟩)]); refine (H2.out _ hcur).mono ?_; rintro e w3 (⟨hok2, u2, z2, m2, rfl, hT3, hb3⟩ | ⟨hno, rfl, hb3⟩); rotate_left; (have HNO : Hid _ := hno; clear hno; go_wp2_with fail; exact ⟨rfl, .inr ⟨fun h => HNO.out (HF.out.1 h).2, rfl, Below.join hcur hb3⟩⟩); have HOK2 : Hid _ := hok2; clear hok2; have hcur : Below w.heap.size w w3 := Below.join hcur hb3))
 all_goals
  have HP : Hid (PartPost w G a3 F l (.returned (.pointer (some ⟨w3.heap.size, 0, none⟩))) (w3.alloc (.cells #[.iface u1 z1, .pointer (some ⟨m1, 0, none⟩), .iface u2 z2, .pointer (some ⟨m2, 0, none⟩)] 89))) :=
   .inl ⟨HF.out.2 ⟨HOK1.out, HOK2.out⟩, w3.heap.size, rfl, part_two hG hb2 hb3 (by rw [HL.out.1]; exact hT2) (by rw [HL.out.2]; exact hT3), Below.join hcur (below_alloc1 _ _)⟩
  clear hT2 hT3
  go_wp2_with fail
  go_ret
  exact HP.out
end Go.Proofs.YtkfokddlgmcimaaGreatDoor
