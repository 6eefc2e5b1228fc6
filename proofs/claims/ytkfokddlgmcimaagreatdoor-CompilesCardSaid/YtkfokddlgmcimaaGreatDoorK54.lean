import Derived.Test.YtkfokddlgmcimaaGreatDoorK53
import Derived.Test.YtkfokddlgmcimaaGreatDoorK08
import Derived.Test.YtkfokddlgmcimaaGreatDoorK39
set_option maxRecDepth 100000
set_option maxHeartbeats 4000000
namespace Go.Proofs.YtkfokddlgmcimaaGreatDoor
open Go.RowKit
theorem PartPost.congr {w : World} {G : Nat -> Prop} {a3 : Addr} {ok ok' : Prop} {l l' : Ls.Ln} {e : Ending} {w' : World} (h : PartPost w G a3 ok l e w') (h1 : Ls.dS l = Ls.dS l') (h2 : Ls.dV l = Ls.dV l') (h3 : ok ↔ ok') : PartPost w G a3 ok' l' e w' := by
 unfold PartPost PartV at h ⊢
 rw [h1, h2] at h
 rcases h with ⟨a, b⟩ | ⟨a, b⟩
 ·exact .inl ⟨h3.1 a, b⟩
 ·exact .inr ⟨fun h => a (h3.2 h), b⟩
theorem PartPost.up {w w1 : World} {G G1 : Nat -> Prop} {a3 : Addr} {ok : Prop} {l : Ls.Ln} {e : Ending} {w' : World} (h : PartPost w1 G1 a3 ok l e w') (hb : Below w.heap.size w w1) (hG : ∀ k, G1 k -> G k \/ (w.heap.size <= k /\ k < w1.heap.size)) : PartPost w G a3 ok l e w' := by
 have hz := hb.size
 rcases h with ⟨a, p, rfl, hp, hb2⟩ | ⟨a, rfl, hb2⟩
 ·have hz2 := hb2.size
  refine .inl ⟨a, p, rfl, hp.mono (fun k hk => ?_) (fun _ _ => rfl), Below.join hb hb2⟩
  rcases hk with hk | hk
  ·exact (hG k hk).imp id (fun h => ⟨h.1, by have := h.2; omega⟩)
  ·exact .inr ⟨by have := hk.1; omega, hk.2⟩
 ·exact .inr ⟨a, rfl, Below.join hb hb2⟩
theorem twice_congr {p q p' q' : Ls.Pat} (h1 : ∀ s, Ls.inL p s ↔ Ls.inL p' s) (h2 : ∀ s, Ls.inL q s ↔ Ls.inL q' s) : Ls.Twice p q ↔ Ls.Twice p' q' := by
 unfold Ls.Twice
 simp only [h1, h2]
theorem both_congr {p q p' q' : Ls.Pat} (h1 : ∀ s, Ls.inL p s ↔ Ls.inL p' s) (h2 : ∀ s, Ls.inL q s ↔ Ls.inL q' s) : Ls.Both p q ↔ Ls.Both p' q' := by
 unfold Ls.Both
 simp only [h1, h2]
theorem pieces_iff {d : Ls.D} {p : Ls.Pat} (hp : Ls.wf p) (h : ∀ s, Ls.inL (Ls.toPat d) s ↔ Ls.inL p s) : (¬ Ls.inL (Ls.toPat d) [] /\ ¬ Ls.Twice (Ls.toPat d) (Ls.toPat (Ls.rep 5 d))) ↔ piecesP p := by
 unfold piecesP
 have h5 : ∀ s, Ls.inL (Ls.toPat (Ls.rep 5 d)) s ↔ Ls.inL (Ls.star p) s := fun s => by
  rw [Ls.inL_manyD, Ls.inL_star]
  exact Ls.pieces_congr h s
 rw [twice_congr h h5, h []]
 have he := Ls.empty_inL p hp
 constructor
 ·rintro ⟨a, b⟩
  refine ⟨?_, b⟩
  cases hx : Ls.empty p with
  | false => rfl
  | true => exact absurd (he.1 hx) a
 ·rintro ⟨a, b⟩
  exact ⟨fun hx => (by rw [he.2 hx] at a; cases a), b⟩
def BuildSaid (l : Ls.Ln) : Prop := ∀ (w : World) (G : Nat -> Prop) (f : Nat) (caps : Array Value) (a3 : Addr), Old w G -> PlanV w G l (.func (.func f) #[] caps) -> EType w a3 ->
 (∀ W, (callFunc f caps).run Tryz.prog W = .ok (.enter f caps) W) /\ Calls Tryz.prog f caps w (PartPost w G a3 (typedP l) l)
theorem func_inj {f g : Nat} {c d : Array Value} (h : Value.func (.func f) #[] c = .func (.func g) #[] d) : f = g /\ c = d := by
 injection h with h1 _ h2
 injection h1 with h1
 exact ⟨h1, h2⟩
theorem build_copy (d : Ls.D) (ws : List UInt8) (h24 : Ls.dsize d <= 24) (hn : dn d <= 100000) : BuildSaid ⟨0, d, ws, []⟩ := by
 intro w G f caps a3 hG hp hc
 rw [PlanV] at hp
 rcases hp with ⟨_, g, v, h1, h2, h3, h4⟩ | ⟨h0, _⟩ | ⟨h0, _⟩
 rotate_left
 ·cases h0
 ·cases h0
 obtain ⟨rfl, rfl⟩ := func_inj h2
 refine ⟨fun W => by kernel_rfl, ?_⟩
 obtain ⟨ty, y, rfl⟩ := h4.iface
 obtain ⟨c0, c1⟩ := h3.one
 have hC := copied_part d h24 hn w G hG a3 ty y h4
 have HT : Hid (True ↔ typedP ⟨0, d, ws, []⟩) := by show _ ↔ _; rw [typedP]; simp
 clear h2 h3 h4
 go_enter Tryz.func145, Tryz.ntmps145
 go_wp2_with fail
 refine hC.mono ?_
 intro e w1 hq
 have hq2 : PartPost w G a3 (typedP ⟨0, d, ws, []⟩) ⟨0, d, ws, []⟩ e w1 := hq.congr (by simp [Ls.copyL, Ls.dS]) (by simp [Ls.copyL, Ls.dV]) HT.out
 rcases hq with ⟨_, p, rfl, _⟩ | ⟨ha, _⟩
 ·have HQ : Hid (PartPost w G a3 (typedP ⟨0, d, ws, []⟩) ⟨0, d, ws, []⟩ (.returned (.pointer (some ⟨p, 0, none⟩))) w1) := hq2
  clear hq2 hC
  generalize typedP ⟨0, d, ws, []⟩ = F at *
  go_wp2_with fail
  go_ret
  exact HQ.out
 ·exact absurd trivial ha
theorem build_put (d : Ls.D) (ws : List UInt8) (h24 : ws.length <= 24) (hok : ∀ c ∈ ws, c.toNat <= 126) : BuildSaid ⟨2, d, ws, []⟩ := by
 intro w G f caps a3 hG hp hc
 rw [PlanV] at hp
 rcases hp with ⟨h0, _⟩ | ⟨h0, _⟩ | ⟨_, g, h1, h2, h3⟩
 ·cases h0
 ·cases h0
 obtain ⟨rfl, rfl⟩ := func_inj h2
 refine ⟨fun W => by kernel_rfl, ?_⟩
 obtain ⟨c0, c1⟩ := h3.one
 have hC := putIn_part ⟨ws.toArray⟩ (by simpa [ByteArray.size] using h24) (by simpa using hok) w G hG a3
 have HT : Hid (True ↔ typedP ⟨2, d, ws, []⟩) := by show _ ↔ _; rw [typedP]; simp
 clear h2 h3 hok
 go_enter Tryz.func156, Tryz.ntmps156
 go_wp2_with fail
 refine hC.mono ?_
 intro e w1 hq
 have hq2 : PartPost w G a3 (typedP ⟨2, d, ws, []⟩) ⟨2, d, ws, []⟩ e w1 := hq.congr (by simp [Ls.putL, Ls.dS]) (by simp [Ls.putL, Ls.dV]) HT.out
 rcases hq with ⟨_, p, rfl, _⟩ | ⟨ha, _⟩
 ·have HQ : Hid (PartPost w G a3 (typedP ⟨2, d, ws, []⟩) ⟨2, d, ws, []⟩ (.returned (.pointer (some ⟨p, 0, none⟩))) w1) := hq2
  clear hq2 hC
  generalize typedP ⟨2, d, ws, []⟩ = F at *
  go_wp2_with fail
  go_ret
  exact HQ.out
 ·exact absurd trivial ha
theorem build_leave (d : Ls.D) (ws : List UInt8) (h24 : Ls.dsize d <= 24) (hn : dn d <= 100000) (hws : ws.length <= 1048576) (hwf : Ls.wf (Ls.toPat d)) : BuildSaid ⟨1, d, ws, []⟩ := by
 intro w G f caps a3 hG hp hc
 rw [PlanV] at hp
 rcases hp with ⟨h0, _⟩ | ⟨_, g, h, v, h1, h2, h3, h4, h5, h6⟩ | ⟨h0, _⟩
 ·cases h0
 rotate_left
 ·cases h0
 obtain ⟨rfl, rfl⟩ := func_inj h3
 refine ⟨fun W => by kernel_rfl, ?_⟩
 obtain ⟨ty, y, rfl⟩ := h5.iface
 obtain ⟨c0, c1⟩ := h4.one
 obtain ⟨b0, b1⟩ := h6.one
 have hC := leftOut_part d h24 hn ⟨ws.toArray⟩ (by simpa [ByteArray.size] using hws) w G hG a3 hc ty y h5
 have HT : Hid (Ls.inL (Ls.toPat d) ws ↔ typedP ⟨1, d, ws, []⟩) := by
  show _ ↔ _
  rw [typedP, Ls.is_iff _ hwf]
  simp
 clear h3 h4 h5 h6
 go_enter Tryz.func154, Tryz.ntmps154
 go_wp2_with fail
 refine hC.mono ?_
 intro e w1 hq
 have hq2 : PartPost w G a3 (typedP ⟨1, d, ws, []⟩) ⟨1, d, ws, []⟩ e w1 := hq.congr (by simp [Ls.leaveL, Ls.dS]) (by simp [Ls.leaveL, Ls.dV]) HT.out
 rcases hq with ⟨_, p, rfl, _⟩ | ⟨_, rfl, _⟩
 ·have HQ : Hid (PartPost w G a3 (typedP ⟨1, d, ws, []⟩) ⟨1, d, ws, []⟩ (.returned (.pointer (some ⟨p, 0, none⟩))) w1) := hq2
  clear hq2 hC HT
  generalize typedP ⟨1, d, ws, []⟩ = F at *
  go_wp2_with fail
  go_ret
  exact HQ.out
 ·have HQ : Hid (PartPost w G a3 (typedP ⟨1, d, ws, []⟩) ⟨1, d, ws, []⟩ (.panicked [{ v := errS a3, recovered := false }]) w1) := hq2
  clear hq2 hC HT
  generalize typedP ⟨1, d, ws, []⟩ = F at *
  go_wp2_with fail
  exact ⟨rfl, HQ.out⟩
theorem build_again (k : Nat) (d : Ls.D) (ws : List UInt8) (a : Ls.Ln) (_hk : k = 6 \/ k = 7) (ha : BuildSaid a) (hok : Ls.OkL 120 a) (h24 : Ls.lsize a <= 24) (hn : cn a <= 100000) : BuildSaid ⟨k, d, ws, [a]⟩ := by
 intro w G f caps a3 hG hp hc
 rw [PlanV] at hp
 obtain ⟨_, g, n, x, h1, h2, h3, h4⟩ := hp
 obtain ⟨rfl, rfl⟩ := func_inj h2
 refine ⟨fun W => by kernel_rfl, ?_⟩
 obtain ⟨f1, caps1, rfl⟩ := PlanV.func _ _ h4
 obtain ⟨hcf, hC⟩ := ha w G f1 caps1 a3 hG h4 hc
 obtain ⟨c0, c1, c2, c3⟩ := h3.two
 have HT : Hid (typedP ⟨k, d, ws, [a]⟩ ↔ typedP a /\ piecesP (Ls.srcP a) /\ piecesP (Ls.viewP a)) := by show _ ↔ _; rw [typedP]
 have HR : Hid (∀ W p, Below w.heap.size w W -> PartV W (Gn w G W) p a -> Calls Tryz.prog 151 #[.pointer (some ⟨p, 0, none⟩)] W (PartPost W (Gn w G W) a3 (piecesP (Ls.srcP a) /\ piecesP (Ls.viewP a)) ⟨k, d, ws, [a]⟩)) := fun W p hW hp =>
  repeated_part a ⟨k, d, ws, [a]⟩ (by rw [Ls.dS]) (by rw [Ls.dV]) (by have := Ls.dS_size a hok; omega) (by have := Ls.dV_size a hok; omega) (by have := dS_dn a; omega) (by have := dV_dn a; omega) W _ (Gn.old hG hW.size) a3 (hc.below hW) p hp _ (by rw [pieces_iff hok.src.ok (Ls.dS_ok a hok), pieces_iff hok.view.ok (Ls.dV_ok a hok)])
 generalize typedP ⟨k, d, ws, [a]⟩ = F at *
 clear h2 h3 h4 hc ha
 go_enter Tryz.func150, Tryz.ntmps150
 go_wp2_with fail
 refine hC.mono ?_
 rintro e w1 (⟨hta, p, rfl, hpv, hb1⟩ | ⟨hno, rfl, hb1⟩)
 ·have HTA : Hid (typedP a) := hta
  have hC2 := HR.out w1 p hb1 hpv
  clear hta hpv hC
  go_wp2_with fail
  refine hC2.mono ?_
  rintro e w2 (⟨hok2, p2, rfl, hpv2, hb2⟩ | ⟨hno, rfl, hb2⟩)
  ·have HQ : Hid (PartPost w G a3 F ⟨k, d, ws, [a]⟩ (.returned (.pointer (some ⟨p2, 0, none⟩))) w2) := PartPost.up (G1 := Gn w G w1) (.inl ⟨HT.out.2 ⟨HTA.out, hok2⟩, p2, rfl, hpv2, hb2⟩) hb1 (fun k hk => hk)
   clear hok2 hpv2 hC2
   go_wp2_with fail
   go_ret
   exact HQ.out
  ·have HN : Hid (¬ F) := fun h => hno (HT.out.1 h).2
   clear hno hC2
   go_wp2_with fail
   exact ⟨rfl, .inr ⟨HN.out, rfl, Below.join hb1 hb2⟩⟩
 ·have HN : Hid (¬ F) := fun h => hno (HT.out.1 h).1
  clear hno hC
  go_wp2_with fail
  exact ⟨rfl, .inr ⟨HN.out, rfl, hb1⟩⟩
end Go.Proofs.YtkfokddlgmcimaaGreatDoor
namespace Go.Proofs.YtkfokddlgmcimaaGreatDoor
open Go.RowKit
theorem build_row (d : Ls.D) (ws : List UInt8) (a b : Ls.Ln) (ha : BuildSaid a) (hb : BuildSaid b) (hoa : Ls.OkL 120 a) (hob : Ls.OkL 120 b) (h24 : Ls.lsize a + Ls.lsize b <= 24) (hn : cn a + cn b <= 100000) : BuildSaid ⟨3, d, ws, [a, b]⟩ := by
 intro w G f caps a3 hG hp hc
 rw [PlanV] at hp
 obtain ⟨_, gj, g, h, n, m, x, y, k0, k1, k2, hf, bj, b1, b2, hpa, hpb⟩ := hp
 obtain ⟨rfl, rfl⟩ := func_inj hf
 refine ⟨fun W => by kernel_rfl, ?_⟩
 obtain ⟨f1, caps1, rfl⟩ := PlanV.func _ _ hpa
 obtain ⟨f2, caps2, rfl⟩ := PlanV.func _ _ hpb
 have hcf1 := (ha w G f1 caps1 a3 hG hpa hc).1
 have hcf2 := (hb w G f2 caps2 a3 hG hpb hc).1
 have H1 : Hid (∀ W, Below w.heap.size w W -> Calls Tryz.prog f1 caps1 W (PartPost W G a3 (typedP a) a)) := fun W hW => (ha W G f1 caps1 a3 (fun k hk => Nat.lt_of_lt_of_le (hG k hk) hW.size) (hpa.later hG hW) (hc.below hW)).2
 have H2 : Hid (∀ W, Below w.heap.size w W -> Calls Tryz.prog f2 caps2 W (PartPost W G a3 (typedP b) b)) := fun W hW => (hb W G f2 caps2 a3 (fun k hk => Nat.lt_of_lt_of_le (hG k hk) hW.size) (hpb.later hG hW) (hc.below hW)).2
 have HS : Hid (∀ W : World, Below w.heap.size w W -> W.cell? ⟨gj, 0, none⟩ = some (.func (.func 120) #[] #[]) /\ W.cell? ⟨g, 1, none⟩ = some (.func (.func f1) #[] caps1) /\ W.cell? ⟨h, 1, none⟩ = some (.func (.func f2) #[] caps2)) := fun W hW => ⟨(bj.below hW bj.lt).cell 0, (b1.below hW b1.lt).cell 1, (b2.below hW b2.lt).cell 1⟩
 have HT : Hid (typedP ⟨3, d, ws, [a, b]⟩ ↔ typedP a /\ typedP b /\ (¬ Ls.Twice (Ls.srcP a) (Ls.srcP b) /\ ¬ Ls.Twice (Ls.viewP a) (Ls.viewP b))) := by show _ ↔ _; rw [typedP]; simp
 have HJ : Hid (∀ W p q, Below w.heap.size w W -> PartV W (Gn w G W) p a -> PartV W (Gn w G W) q b -> Calls Tryz.prog 120 #[.pointer (some ⟨p, 0, none⟩), .pointer (some ⟨q, 0, none⟩)] W (PartPost W (Gn w G W) a3 ((¬ Ls.Twice (Ls.srcP a) (Ls.srcP b) /\ ¬ Ls.Twice (Ls.viewP a) (Ls.viewP b))) ⟨3, d, ws, [a, b]⟩)) := fun W p q hW hp hq =>
  (inRow_part a b (by have := Ls.dS_size a hoa; have := Ls.dS_size b hob; omega) (by have := Ls.dV_size a hoa; have := Ls.dV_size b hob; omega) (by have := dS_dn a; have := dS_dn b; omega) (by have := dV_dn a; have := dV_dn b; omega) W _ (Gn.old hG hW.size) a3 (hc.below hW) p q hp hq _ (by rw [twice_congr (Ls.dS_ok a hoa) (Ls.dS_ok b hob), twice_congr (Ls.dV_ok a hoa) (Ls.dV_ok b hob)])).mono (fun e w' hq => hq.congr (by simp [Ls.behindL, Ls.dS]) (by simp [Ls.behindL, Ls.dV]) Iff.rfl)
 obtain ⟨e0, e1, e2⟩ := HS.out w (Below.refl _ _)
 generalize typedP ⟨3, d, ws, [a, b]⟩ = F at *
 generalize hOK : ((¬ Ls.Twice (Ls.srcP a) (Ls.srcP b) /\ ¬ Ls.Twice (Ls.viewP a) (Ls.viewP b))) = OK at *
 clear hf bj b1 b2 hpa hpb hc ha hb hOK
 go_enter Tryz.func121, Tryz.ntmps121
 go_wp2_with fail
 go_region_held (fun w' => w'.cell? ⟨gj, 0, none⟩ = some (.func (.func 120) #[] #[]) /\ w'.cell? ⟨g, 1, none⟩ = some (.func (.func f1) #[] caps1) /\ w'.cell? ⟨h, 1, none⟩ = some (.func (.func f2) #[] caps2)) (first | assumption | exact HS.out _ (Below.refl _ _).drew | exact HS.out _ hcur)
  (first
   | (refine (H1.out _ ?_).mono ?_; exact (Below.refl _ _).drew; rintro e w2 (⟨hta, p, rfl, hpa, hb2d⟩ | ⟨hno, rfl, hb2d⟩); rotate_left; (have HN : Hid (¬ F) := (fun h => hno (HT.out.1 h).1); clear hno; go_wp2_with fail; exact ⟨rfl, .inr ⟨HN.out, rfl, Below.join (Below.refl _ _).drew hb2d⟩⟩); have HTA : Hid (typedP a) := hta; clear hta; have hb2 : Below w.heap.size w w2 := Below.join (Below.refl _ _).drew hb2d; have hcur : Below w.heap.size w w2 := hb2)
   | (refine (H2.out _ hcur).mono ?_; rintro e w3 (⟨htb, q, rfl, hpb, hb3⟩ | ⟨hno, rfl, hb3⟩); rotate_left; (have HN : Hid (¬ F) := (fun h => hno (HT.out.1 h).2.1); clear hno; go_wp2_with fail; exact ⟨rfl, .inr ⟨HN.out, rfl, Below.join hcur hb3⟩⟩); have HTB : Hid (typedP b) := htb; clear htb; have hb3w : Below w.heap.size w w3 := Below.join hcur hb3; have hcur : Below w.heap.size w w3 := hb3w)
   | (go_at_call 120; refine (HJ.out _ p q hb3w ?_ ?_).mono ?_; exact (hpa.below (Gn.old hG hb2.size) hb3).mono (fun k hk => hk.imp id (fun h => ⟨h.1, Nat.lt_of_lt_of_le h.2 hb3.size⟩)) (fun _ _ => rfl); exact hpb.mono (fun k hk => hk.imp id (fun h => ⟨Nat.le_trans hb2.size h.1, h.2⟩)) (fun _ _ => rfl); rintro e w4 (⟨hok4, p4, rfl, hpv4, hb4⟩ | ⟨hno, rfl, hb4⟩); rotate_left; (have HN : Hid (¬ F) := (fun h => hno (HT.out.1 h).2.2); clear hno; go_wp2_with fail; exact ⟨rfl, .inr ⟨HN.out, rfl, Below.join hb3w hb4⟩⟩); have HOK4 : Hid OK := hok4; clear hok4; have hcur : Below w.heap.size w w4 := Below.join hb3w hb4))
 all_goals
  have HQ : Hid (PartPost w G a3 F ⟨3, d, ws, [a, b]⟩ (.returned (.pointer (some ⟨p4, 0, none⟩))) w4) := PartPost.up (G1 := Gn w G w3) (.inl ⟨HT.out.2 ⟨HTA.out, HTB.out, HOK4.out⟩, p4, rfl, hpv4, hb4⟩) hb3w (fun k hk => hk)
  clear hpv4 hpa hpb
  go_wp2_with fail
  go_ret
  exact HQ.out
theorem build_change (d : Ls.D) (ws : List UInt8) (a b : Ls.Ln) (ha : BuildSaid a) (hb : BuildSaid b) (hoa : Ls.OkL 120 a) (hob : Ls.OkL 120 b) (h24 : Ls.lsize a + Ls.lsize b <= 24) (hn : cn a + cn b <= 100000) : BuildSaid ⟨4, d, ws, [a, b]⟩ := by
 intro w G f caps a3 hG hp hc
 rw [PlanV] at hp
 obtain ⟨_, gj, g, h, n, m, x, y, k0, k1, k2, hf, bj, b1, b2, hpa, hpb⟩ := hp
 obtain ⟨rfl, rfl⟩ := func_inj hf
 refine ⟨fun W => by kernel_rfl, ?_⟩
 obtain ⟨f1, caps1, rfl⟩ := PlanV.func _ _ hpa
 obtain ⟨f2, caps2, rfl⟩ := PlanV.func _ _ hpb
 have hcf1 := (ha w G f1 caps1 a3 hG hpa hc).1
 have hcf2 := (hb w G f2 caps2 a3 hG hpb hc).1
 have H1 : Hid (∀ W, Below w.heap.size w W -> Calls Tryz.prog f1 caps1 W (PartPost W G a3 (typedP a) a)) := fun W hW => (ha W G f1 caps1 a3 (fun k hk => Nat.lt_of_lt_of_le (hG k hk) hW.size) (hpa.later hG hW) (hc.below hW)).2
 have H2 : Hid (∀ W, Below w.heap.size w W -> Calls Tryz.prog f2 caps2 W (PartPost W G a3 (typedP b) b)) := fun W hW => (hb W G f2 caps2 a3 (fun k hk => Nat.lt_of_lt_of_le (hG k hk) hW.size) (hpb.later hG hW) (hc.below hW)).2
 have HS : Hid (∀ W : World, Below w.heap.size w W -> W.cell? ⟨gj, 0, none⟩ = some (.func (.func 148) #[] #[]) /\ W.cell? ⟨g, 1, none⟩ = some (.func (.func f1) #[] caps1) /\ W.cell? ⟨h, 1, none⟩ = some (.func (.func f2) #[] caps2)) := fun W hW => ⟨(bj.below hW bj.lt).cell 0, (b1.below hW b1.lt).cell 1, (b2.below hW b2.lt).cell 1⟩
 have HT : Hid (typedP ⟨4, d, ws, [a, b]⟩ ↔ typedP a /\ typedP b /\ (¬ Ls.Twice (Ls.srcP a) (Ls.srcP b) /\ ¬ Ls.Twice (Ls.viewP b) (Ls.viewP a))) := by show _ ↔ _; rw [typedP]; simp
 have HJ : Hid (∀ W p q, Below w.heap.size w W -> PartV W (Gn w G W) p a -> PartV W (Gn w G W) q b -> Calls Tryz.prog 148 #[.pointer (some ⟨p, 0, none⟩), .pointer (some ⟨q, 0, none⟩)] W (PartPost W (Gn w G W) a3 ((¬ Ls.Twice (Ls.srcP a) (Ls.srcP b) /\ ¬ Ls.Twice (Ls.viewP b) (Ls.viewP a))) ⟨4, d, ws, [a, b]⟩)) := fun W p q hW hp hq =>
  (change_part a b (by have := Ls.dS_size a hoa; have := Ls.dS_size b hob; omega) (by have := Ls.dV_size a hoa; have := Ls.dV_size b hob; omega) (by have := dS_dn a; have := dS_dn b; omega) (by have := dV_dn a; have := dV_dn b; omega) W _ (Gn.old hG hW.size) a3 (hc.below hW) p q hp hq _ (by rw [twice_congr (Ls.dS_ok a hoa) (Ls.dS_ok b hob), twice_congr (Ls.dV_ok b hob) (Ls.dV_ok a hoa)])).mono (fun e w' hq => hq.congr (by simp [Ls.changeL, Ls.dS]) (by simp [Ls.changeL, Ls.dV]) Iff.rfl)
 obtain ⟨e0, e1, e2⟩ := HS.out w (Below.refl _ _)
 generalize typedP ⟨4, d, ws, [a, b]⟩ = F at *
 generalize hOK : ((¬ Ls.Twice (Ls.srcP a) (Ls.srcP b) /\ ¬ Ls.Twice (Ls.viewP b) (Ls.viewP a))) = OK at *
 clear hf bj b1 b2 hpa hpb hc ha hb hOK
 go_enter Tryz.func121, Tryz.ntmps121
 go_wp2_with fail
 go_region_held (fun w' => w'.cell? ⟨gj, 0, none⟩ = some (.func (.func 148) #[] #[]) /\ w'.cell? ⟨g, 1, none⟩ = some (.func (.func f1) #[] caps1) /\ w'.cell? ⟨h, 1, none⟩ = some (.func (.func f2) #[] caps2)) (first | assumption | exact HS.out _ (Below.refl _ _).drew | exact HS.out _ hcur)
  (first
   | (refine (H1.out _ ?_).mono ?_; exact (Below.refl _ _).drew; rintro e w2 (⟨hta, p, rfl, hpa, hb2d⟩ | ⟨hno, rfl, hb2d⟩); rotate_left; (have HN : Hid (¬ F) := (fun h => hno (HT.out.1 h).1); clear hno; go_wp2_with fail; exact ⟨rfl, .inr ⟨HN.out, rfl, Below.join (Below.refl _ _).drew hb2d⟩⟩); have HTA : Hid (typedP a) := hta; clear hta; have hb2 : Below w.heap.size w w2 := Below.join (Below.refl _ _).drew hb2d; have hcur : Below w.heap.size w w2 := hb2)
   | (refine (H2.out _ hcur).mono ?_; rintro e w3 (⟨htb, q, rfl, hpb, hb3⟩ | ⟨hno, rfl, hb3⟩); rotate_left; (have HN : Hid (¬ F) := (fun h => hno (HT.out.1 h).2.1); clear hno; go_wp2_with fail; exact ⟨rfl, .inr ⟨HN.out, rfl, Below.join hcur hb3⟩⟩); have HTB : Hid (typedP b) := htb; clear htb; have hb3w : Below w.heap.size w w3 := Below.join hcur hb3; have hcur : Below w.heap.size w w3 := hb3w)
   | (go_at_call 148; refine (HJ.out _ p q hb3w ?_ ?_).mono ?_; exact (hpa.below (Gn.old hG hb2.size) hb3).mono (fun k hk => hk.imp id (fun h => ⟨h.1, Nat.lt_of_lt_of_le h.2 hb3.size⟩)) (fun _ _ => rfl); exact hpb.mono (fun k hk => hk.imp id (fun h => ⟨Nat.le_trans hb2.size h.1, h.2⟩)) (fun _ _ => rfl); rintro e w4 (⟨hok4, p4, rfl, hpv4, hb4⟩ | ⟨hno, rfl, hb4⟩); rotate_left; (have HN : Hid (¬ F) := (fun h => hno (HT.out.1 h).2.2); clear hno; go_wp2_with fail; exact ⟨rfl, .inr ⟨HN.out, rfl, Below.join hb3w hb4⟩⟩); have HOK4 : Hid OK := hok4; clear hok4; have hcur : Below w.heap.size w w4 := Below.join hb3w hb4))
 all_goals
  have HQ : Hid (PartPost w G a3 F ⟨4, d, ws, [a, b]⟩ (.returned (.pointer (some ⟨p4, 0, none⟩))) w4) := PartPost.up (G1 := Gn w G w3) (.inl ⟨HT.out.2 ⟨HTA.out, HTB.out, HOK4.out⟩, p4, rfl, hpv4, hb4⟩) hb3w (fun k hk => hk)
  clear hpv4 hpa hpb
  go_wp2_with fail
  go_ret
  exact HQ.out
theorem build_union (d : Ls.D) (ws : List UInt8) (a b : Ls.Ln) (ha : BuildSaid a) (hb : BuildSaid b) (hoa : Ls.OkL 120 a) (hob : Ls.OkL 120 b) (h24 : Ls.lsize a + Ls.lsize b <= 24) (hn : cn a + cn b <= 100000) : BuildSaid ⟨5, d, ws, [a, b]⟩ := by
 intro w G f caps a3 hG hp hc
 rw [PlanV] at hp
 obtain ⟨_, gj, g, h, n, m, x, y, k0, k1, k2, hf, bj, b1, b2, hpa, hpb⟩ := hp
 obtain ⟨rfl, rfl⟩ := func_inj hf
 refine ⟨fun W => by kernel_rfl, ?_⟩
 obtain ⟨f1, caps1, rfl⟩ := PlanV.func _ _ hpa
 obtain ⟨f2, caps2, rfl⟩ := PlanV.func _ _ hpb
 have hcf1 := (ha w G f1 caps1 a3 hG hpa hc).1
 have hcf2 := (hb w G f2 caps2 a3 hG hpb hc).1
 have H1 : Hid (∀ W, Below w.heap.size w W -> Calls Tryz.prog f1 caps1 W (PartPost W G a3 (typedP a) a)) := fun W hW => (ha W G f1 caps1 a3 (fun k hk => Nat.lt_of_lt_of_le (hG k hk) hW.size) (hpa.later hG hW) (hc.below hW)).2
 have H2 : Hid (∀ W, Below w.heap.size w W -> Calls Tryz.prog f2 caps2 W (PartPost W G a3 (typedP b) b)) := fun W hW => (hb W G f2 caps2 a3 (fun k hk => Nat.lt_of_lt_of_le (hG k hk) hW.size) (hpb.later hG hW) (hc.below hW)).2
 have HS : Hid (∀ W : World, Below w.heap.size w W -> W.cell? ⟨gj, 0, none⟩ = some (.func (.func 110) #[] #[]) /\ W.cell? ⟨g, 1, none⟩ = some (.func (.func f1) #[] caps1) /\ W.cell? ⟨h, 1, none⟩ = some (.func (.func f2) #[] caps2)) := fun W hW => ⟨(bj.below hW bj.lt).cell 0, (b1.below hW b1.lt).cell 1, (b2.below hW b2.lt).cell 1⟩
 have HT : Hid (typedP ⟨5, d, ws, [a, b]⟩ ↔ typedP a /\ typedP b /\ (¬ Ls.Both (Ls.srcP a) (Ls.srcP b))) := by show _ ↔ _; rw [typedP]; simp
 have HJ : Hid (∀ W p q, Below w.heap.size w W -> PartV W (Gn w G W) p a -> PartV W (Gn w G W) q b -> Calls Tryz.prog 110 #[.pointer (some ⟨p, 0, none⟩), .pointer (some ⟨q, 0, none⟩)] W (PartPost W (Gn w G W) a3 ((¬ Ls.Both (Ls.srcP a) (Ls.srcP b))) ⟨5, d, ws, [a, b]⟩)) := fun W p q hW hp hq =>
  (united_part a b (by have := Ls.dS_size a hoa; have := Ls.dS_size b hob; omega) (by have := Ls.dV_size a hoa; have := Ls.dV_size b hob; omega) (by have := dS_dn a; have := dS_dn b; omega) (by have := dV_dn a; have := dV_dn b; omega) W _ (Gn.old hG hW.size) a3 (hc.below hW) p q hp hq _ (by rw [both_congr (Ls.dS_ok a hoa) (Ls.dS_ok b hob)])).mono (fun e w' hq => hq.congr (by simp [Ls.unionL, Ls.dS]) (by simp [Ls.unionL, Ls.dV]) Iff.rfl)
 obtain ⟨e0, e1, e2⟩ := HS.out w (Below.refl _ _)
 generalize typedP ⟨5, d, ws, [a, b]⟩ = F at *
 generalize hOK : ((¬ Ls.Both (Ls.srcP a) (Ls.srcP b))) = OK at *
 clear hf bj b1 b2 hpa hpb hc ha hb hOK
 go_enter Tryz.func121, Tryz.ntmps121
 go_wp2_with fail
 go_region_held (fun w' => w'.cell? ⟨gj, 0, none⟩ = some (.func (.func 110) #[] #[]) /\ w'.cell? ⟨g, 1, none⟩ = some (.func (.func f1) #[] caps1) /\ w'.cell? ⟨h, 1, none⟩ = some (.func (.func f2) #[] caps2)) (first | assumption | exact HS.out _ (Below.refl _ _).drew | exact HS.out _ hcur)
  (first
   | (refine (H1.out _ ?_).mono ?_; exact (Below.refl _ _).drew; rintro e w2 (⟨hta, p, rfl, hpa, hb2d⟩ | ⟨hno, rfl, hb2d⟩); rotate_left; (have HN : Hid (¬ F) := (fun h => hno (HT.out.1 h).1); clear hno; go_wp2_with fail; exact ⟨rfl, .inr ⟨HN.out, rfl, Below.join (Below.refl _ _).drew hb2d⟩⟩); have HTA : Hid (typedP a) := hta; clear hta; have hb2 : Below w.heap.size w w2 := Below.join (Below.refl _ _).drew hb2d; have hcur : Below w.heap.size w w2 := hb2)
   | (refine (H2.out _ hcur).mono ?_; rintro e w3 (⟨htb, q, rfl, hpb, hb3⟩ | ⟨hno, rfl, hb3⟩); rotate_left; (have HN : Hid (¬ F) := (fun h => hno (HT.out.1 h).2.1); clear hno; go_wp2_with fail; exact ⟨rfl, .inr ⟨HN.out, rfl, Below.join hcur hb3⟩⟩); have HTB : Hid (typedP b) := htb; clear htb; have hb3w : Below w.heap.size w w3 := Below.join hcur hb3; have hcur : Below w.heap.size w w3 := hb3w)
   | (go_at_call 110; refine (HJ.out _ p q hb3w ?_ ?_).mono ?_; exact (hpa.below (Gn.old hG hb2.size) hb3).mono (fun k hk => hk.imp id (fun h => ⟨h.1, Nat.lt_of_lt_of_le h.2 hb3.size⟩)) (fun _ _ => rfl); exact hpb.mono (fun k hk => hk.imp id (fun h => ⟨Nat.le_trans hb2.size h.1, h.2⟩)) (fun _ _ => rfl); rintro e w4 (⟨hok4, p4, rfl, hpv4, hb4⟩ | ⟨hno, rfl, hb4⟩); rotate_left; (have HN : Hid (¬ F) := (fun h => hno (HT.out.1 h).2.2); clear hno; go_wp2_with fail; exact ⟨rfl, .inr ⟨HN.out, rfl, Below.join hb3w hb4⟩⟩); have HOK4 : Hid OK := hok4; clear hok4; have hcur : Below w.heap.size w w4 := Below.join hb3w hb4))
 all_goals
  have HQ : Hid (PartPost w G a3 F ⟨5, d, ws, [a, b]⟩ (.returned (.pointer (some ⟨p4, 0, none⟩))) w4) := PartPost.up (G1 := Gn w G w3) (.inl ⟨HT.out.2 ⟨HTA.out, HTB.out, HOK4.out⟩, p4, rfl, hpv4, hb4⟩) hb3w (fun k hk => hk)
  clear hpv4 hpa hpb
  go_wp2_with fail
  go_ret
  exact HQ.out
theorem build_all : (l : Ls.Ln) -> Ls.OkL 120 l -> Ls.lsize l <= 24 -> cn l <= 100000 -> BuildSaid l
 | ⟨k, p, w, []⟩, h, hs, hn => by
  have h0 := h
  rw [Ls.OkL] at h
  rw [Ls.lsize] at hs
  rw [cn] at hn
  rcases h.2 with rfl | rfl | rfl
  ·exact build_copy p w (by omega) (by omega)
  ·exact build_leave p w (by omega) (by omega) (by omega) (by have := h.1.1.ok; simpa [Ls.srcP] using this)
  ·exact build_put p w (by omega) (okl_word h0)
 | ⟨k, p, w, [a]⟩, h, hs, hn => by
  rw [Ls.OkL] at h
  rw [Ls.lsize, if_pos h.2.1] at hs
  rw [cn] at hn
  exact build_again k p w a h.2.1 (build_all a h.2.2 (by omega) (by omega)) h.2.2 (by omega) (by omega)
 | ⟨k, p, w, [a, b]⟩, h, hs, hn => by
  rw [Ls.OkL] at h
  rw [Ls.lsize] at hs
  rw [cn] at hn
  obtain ⟨_, hk, oa, ob⟩ := h
  have ha := build_all a oa (by omega) (by omega)
  have hb := build_all b ob (by omega) (by omega)
  rcases hk with rfl | rfl | rfl
  ·exact build_row p w a b ha hb oa ob (by omega) (by omega)
  ·exact build_change p w a b ha hb oa ob (by omega) (by omega)
  ·exact build_union p w a b ha hb oa ob (by omega) (by omega)
 | ⟨k, p, w, _ :: _ :: _ :: _⟩, h, _, _ => by simp [Ls.OkL] at h
end Go.Proofs.YtkfokddlgmcimaaGreatDoor
