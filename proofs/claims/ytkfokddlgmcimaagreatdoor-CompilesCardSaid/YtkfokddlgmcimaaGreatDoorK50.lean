import Derived.Test.YtkfokddlgmcimaaGreatDoorK10
import Derived.Test.YtkfokddlgmcimaaGreatDoorK49
set_option maxRecDepth 100000
set_option maxHeartbeats 4000000
namespace Go.Proofs.YtkfokddlgmcimaaGreatDoor
open Go.RowKit
theorem need_yes (w : World) : Calls Tryz.prog 122 #[.bool true] w fun e w' => e = .returned (.tuple #[]) /\ w' = w := by
 go_enter Tryz.func122, Tryz.ntmps122
 go_wp2_with fail
 go_end0
 exact ⟨rfl, rfl⟩
theorem need_no (a3 : Addr) (w : World) (hc : w.cell? ⟨2, 0, none⟩ = some (errS a3)) :
  Calls Tryz.prog 122 #[.bool false] w fun e w' => e = .panicked [{ v := errS a3, recovered := false }] /\ w' = w := by
 go_enter Tryz.func122, Tryz.ntmps122
 go_wp2_with fail
 exact ⟨rfl, rfl, rfl⟩
abbrev Gn (w : World) (G : Nat -> Prop) (w' : World) : Nat -> Prop := fun k => G k \/ (w.heap.size <= k /\ k < w'.heap.size)
structure Tx (w : World) (G : Nat -> Prop) (v : Value) (nb : Nat) (d : Ls.D) : Prop where
 rep : Rep w G 0 d [v]
 net : ∃ B P Q, NetL w B nb P Q (Ls.add d net0).1 (Ls.add d net0).2 /\ G nb /\ (∀ k, P.ownBlock = some k -> G k) /\ (∀ k, Q.ownBlock = some k -> G k)
theorem Tx.mono {w w' : World} {G G' : Nat -> Prop} (hG : ∀ k, G k -> G' k) (hw : ∀ k, G k -> w'.heap[k]? = w.heap[k]?) {v : Value} {nb : Nat} {d : Ls.D} (h : Tx w G v nb d) : Tx w' G' v nb d := by
 obtain ⟨B, P, Q, h1, h2, h3, h4⟩ := h.net
 exact ⟨h.rep.mono hG hw, B, P, Q, h1.same (hw _ h2) (fun k hk => hw k (h3 k hk)) (fun k hk => hw k (h4 k hk)), hG _ h2, fun k hk => hG k (h3 k hk), fun k hk => hG k (h4 k hk)⟩
theorem Tx.below {w w' : World} {G : Nat -> Prop} {v : Value} {nb : Nat} {d : Ls.D} (h : Tx w G v nb d) (hG : Old w G) (hb : Below w.heap.size w w') : Tx w' G v nb d := h.mono (fun _ h => h) (fun k hk => hb.block k (hG k hk))
theorem Tx.wd {w : World} {G : Nat -> Prop} {v : Value} {nb : Nat} {d : Ls.D} (h : Tx w G v nb d) : Ls.Wd 0 d := h.rep.wd
theorem Tx.nt {w : World} {G : Nat -> Prop} {v : Value} {nb : Nat} {d : Ls.D} (h : Tx w G v nb d) (_hG : Old w G) (h24 : Ls.dsize d <= 24) : ∃ P Q, Nt w w.heap.size nb P Q (Ls.add d net0).1 (Ls.add d net0).2 := by
 obtain ⟨B, P, Q, h1, h2, h3, h4⟩ := h.net
 obtain ⟨q1, q2, _, _⟩ := add_bd h.wd (n := net0) rfl (by simp [net0]; omega)
 exact ⟨P, Q, h1.nt q1 q2⟩
theorem Gn.old {w w' : World} {G : Nat -> Prop} (hG : Old w G) (hb : w.heap.size <= w'.heap.size) : Old w' (Gn w G w') := fun k hk => by
 rcases hk with h | h
 ·exact Nat.lt_of_lt_of_le (hG k h) hb
 ·exact h.2
abbrev txV (v : Value) (nb : Nat) : Value := .agg #[v, .pointer (some ⟨nb, 0, none⟩)]
def TxPost (w : World) (G : Nat -> Prop) (d : Ls.D) : Ending -> World -> Prop := fun e w' =>
 ∃ ty y nb, e = .returned (txV (.iface ty y) nb) /\ Tx w' (Gn w G w') (.iface ty y) nb d /\ Below w.heap.size w w'
theorem textsOf_any (d : Ls.D) (hd : dn d <= 1048576) (h24 : Ls.dsize d <= 24) (w : World) (G : Nat -> Prop) (hG : Old w G) (ty : TypeId) (y : Value) (h : Rep w G 0 d [.iface ty y]) :
  Calls Tryz.prog 136 #[.iface ty y] w (TxPost w G d) := by
 have hb0 := below_alloc1 w (.cells #[.nilIface, .pointer none] 85)
 have hx := Blk.new w #[.nilIface, .pointer none] 85
 have hz0 : (w.alloc (.cells #[.nilIface, .pointer none] 85)).heap.size = w.heap.size + 1 := by simp
 have hN := NewNet_any d hd h24 _ G (fun k hk => Nat.lt_of_lt_of_le (hG k hk) hb0.size) ty y (h.later hG hb0)
 have HR : Hid (Rep w G 0 d [.iface ty y]) := h
 have HX : Hid (Blk (w.alloc (.cells #[.nilIface, .pointer none] 85)) w.heap.size #[.nilIface, .pointer none] 85) := hx
 have HB0 : Hid _ := hb0
 clear h hx hb0
 go_enter Tryz.func136, Tryz.ntmps136
 go_wp2_with fail
 refine hN.mono ?_
 clear hN
 generalize w.alloc (.cells #[.nilIface, .pointer none] 85) = W0 at *
 rintro e w1 ⟨nb, P, Q, rfl, hnet, hb1⟩
 have hz1 := hb1.size
 have hx1 := HX.out.below hb1 (by omega)
 obtain ⟨r0, r1, s0, s1⟩ := hx1.two
 have HT : Hid (Tx ((w1.setCell ⟨w.heap.size, 0, none⟩ (.iface ty y)).setCell ⟨w.heap.size, 1, none⟩ (.pointer (some ⟨nb, 0, none⟩))) (Gn w G ((w1.setCell ⟨w.heap.size, 0, none⟩ (.iface ty y)).setCell ⟨w.heap.size, 1, none⟩ (.pointer (some ⟨nb, 0, none⟩)))) (.iface ty y) nb d) := by
  refine Tx.mono (w := w1) (G := fun k => G k \/ (w.heap.size < k /\ k < w1.heap.size)) (fun k hk => ?_) (fun k hk => set2_other _ _ _ _ _ ?_) ⟨?_, W0.heap.size, P, Q, hnet, ?_, fun k hk => ?_, fun k hk => ?_⟩
  ·rcases hk with h | h
   ·exact .inl h
   ·exact .inr ⟨by omega, by rw [set2_size]; exact h.2⟩
  ·rcases hk with h | h
   ·have := hG k h; omega
   ·omega
  ·exact HR.out.mono (fun k hk => .inl hk) (fun k hk => by
    have := hG k hk
    rw [hb1.block k (by omega)]; exact HB0.out.block k this)
  ·exact .inr ⟨by have := hnet.base; omega, hnet.lt⟩
  ·obtain ⟨los, _, _, hP⟩ := hnet.pls
   have := hP.lt k hk
   exact .inr ⟨by omega, this.2⟩
  ·have := hnet.bhs.lt k hk
   exact .inr ⟨by omega, this.2⟩
 have HB : Hid (Below w.heap.size w ((w1.setCell ⟨w.heap.size, 0, none⟩ (.iface ty y)).setCell ⟨w.heap.size, 1, none⟩ (.pointer (some ⟨nb, 0, none⟩)))) := set2_below (Below.join HB0.out hb1) (Nat.le_refl _) _ _
 clear hx1 hnet
 go_wp2_with fail
 exact bodyPost_ret (v := txV (.iface ty y) nb) (by simp [results, Tryz.results136, go_sem, r0, r1]) rfl ⟨ty, y, nb, rfl, HT.out, HB.out⟩
theorem pbehind_any (t1 t2 : TypeId) (y1 y2 : Value) (w : World) :
  Calls Tryz.prog 158 #[.iface t1 y1, .iface t2 y2] w fun e w' => e = .returned (rowV (.slice (some ⟨w.heap.size, 0, none⟩) 2 2)) /\ w' = w.alloc (.cells #[.iface t1 y1, .iface t2 y2] 82) := by
 go_enter Tryz.func158, Tryz.ntmps158
 go_wp2_with fail
 go_ret
 exact ⟨rfl, rfl⟩
theorem peither_any (t1 t2 : TypeId) (y1 y2 : Value) (w : World) :
  Calls Tryz.prog 137 #[.iface t1 y1, .iface t2 y2] w fun e w' => e = .returned (choiceV (.slice (some ⟨w.heap.size, 0, none⟩) 2 2)) /\ w' = w.alloc (.cells #[.iface t1 y1, .iface t2 y2] 82) := by
 go_enter Tryz.func137, Tryz.ntmps137
 go_wp2_with fail
 go_ret
 exact ⟨rfl, rfl⟩
theorem shows_two (w : World) (x y : Value) (G : Nat -> Prop) (hG : G w.heap.size) : Shows (w.alloc (.cells #[x, y] 82)) G (.slice (some ⟨w.heap.size, 0, none⟩) 2 2) [x, y] := ⟨World.ownsRow_lit (e := 82) (size := 1) w #[x, y] 2 (Nat.zero_le _) (by unfold maxLen; omega) rfl, fun k hk => by
  simp [Value.ownBlock] at hk
  subst hk; exact hG⟩
theorem rep_behind {w : World} {G : Nat -> Prop} (hG : Old w G) {a b : Ls.D} {x y : Value} (ha : Rep w G 0 a [x]) (hb : Rep w G 0 b [y]) :
  Rep (w.alloc (.cells #[x, y] 82)) (Gn w G (w.alloc (.cells #[x, y] 82))) 0 (Ls.behindD a b) [rowV (.slice (some ⟨w.heap.size, 0, none⟩) 2 2)] := by
 have hbl := below_alloc1 w (.cells #[x, y] 82)
 have ha' := (ha.later hG hbl).mono (G' := Gn w G (w.alloc (.cells #[x, y] 82))) (fun _ h => .inl h) (fun _ _ => rfl)
 have hb' := (hb.later hG hbl).mono (G' := Gn w G (w.alloc (.cells #[x, y] 82))) (fun _ h => .inl h) (fun _ _ => rfl)
 exact .row (shows_two w x y _ (.inr ⟨Nat.le_refl _, by simp⟩)) (.rcons ha' (.rcons hb' .rnil))
theorem rep_either {w : World} {G : Nat -> Prop} (hG : Old w G) {a b : Ls.D} {x y : Value} (ha : Rep w G 0 a [x]) (hb : Rep w G 0 b [y]) :
  Rep (w.alloc (.cells #[x, y] 82)) (Gn w G (w.alloc (.cells #[x, y] 82))) 0 (Ls.eitherD a b) [choiceV (.slice (some ⟨w.heap.size, 0, none⟩) 2 2)] := by
 have hbl := below_alloc1 w (.cells #[x, y] 82)
 have ha' := (ha.later hG hbl).mono (G' := Gn w G (w.alloc (.cells #[x, y] 82))) (fun _ h => .inl h) (fun _ _ => rfl)
 have hb' := (hb.later hG hbl).mono (G' := Gn w G (w.alloc (.cells #[x, y] 82))) (fun _ h => .inl h) (fun _ _ => rfl)
 exact .choice (shows_two w x y _ (.inr ⟨Nat.le_refl _, by simp⟩)) (.ccons ha' (.clast hb'))
end Go.Proofs.YtkfokddlgmcimaaGreatDoor
namespace Go.Proofs.YtkfokddlgmcimaaGreatDoor
open Go.RowKit
def TyPost (w : World) (G : Nat -> Prop) (a3 : Addr) (ok : Prop) (d : Ls.D) : Ending -> World -> Prop := fun e w' =>
 (ok /\ TxPost w G d e w') \/ (¬ ok /\ e = .panicked [{ v := errS a3, recovered := false }] /\ Below w.heap.size w w')
abbrev txO (v : Value) (nb : Nat) : Obj := .cells #[v, .pointer (some ⟨nb, 0, none⟩)] 85
abbrev txZ : Obj := .cells #[.nilIface, .pointer none] 85
abbrev EType (w : World) (a3 : Addr) : Prop := w.cell? ⟨2, 0, none⟩ = some (errS a3)
theorem EType.below {w w' : World} {a3 : Addr} (h : EType w a3) (hb : Below w.heap.size w w') : EType w' a3 :=
 (hb.cell (p := ⟨2, 0, none⟩) (World.block_lt_of_cell? w _ h)).trans h
theorem TxPost.up {w W w1 : World} {G G' : Nat -> Prop} {d : Ls.D} {ty : TypeId} {y : Value} {nb g : Nat} (ht : Tx w1 G' (.iface ty y) nb d) (hG' : ∀ k, G' k -> k ≠ g /\ (G k \/ (w.heap.size <= k /\ k < w1.heap.size))) (hb : Below w.heap.size w w1) (hg : w.heap.size <= g) (hW : W = (w1.setCell ⟨g, 0, none⟩ (.iface ty y)).setCell ⟨g, 1, none⟩ (.pointer (some ⟨nb, 0, none⟩))) :
  TxPost w G d (.returned (txV (.iface ty y) nb)) W := by
 subst hW
 refine ⟨ty, y, nb, rfl, ht.mono (fun k hk => ?_) (fun k hk => set2_other _ _ _ _ _ (hG' k hk).1), set2_below hb hg _ _⟩
 exact (hG' k hk).2.imp id (fun h => ⟨h.1, by rw [set2_size]; exact h.2⟩)
structure Vars3 (w W : World) (x1 x2 : Value) (n1 n2 : Nat) : Prop where
 v1 : Blk W w.heap.size #[x1, .pointer (some ⟨n1, 0, none⟩)] 85
 v2 : Blk W (w.heap.size + 1) #[x2, .pointer (some ⟨n2, 0, none⟩)] 85
 r : Blk W (w.heap.size + 1 + 1) #[.nilIface, .pointer none] 85
theorem Vars3.start (w : World) (x1 x2 : Value) (n1 n2 : Nat) : Vars3 w (((w.alloc (txO x1 n1)).alloc (txO x2 n2)).alloc txZ) x1 x2 n1 n2 := by
 refine ⟨((Blk.new w _ _).of (Below.heap_alloc _ _ _ (by simp))).of (Below.heap_alloc _ _ _ (by simp; omega)), ?_, ?_⟩
 ·have := Blk.new (w.alloc (txO x1 n1)) #[x2, .pointer (some ⟨n2, 0, none⟩)] 85
  rw [World.size_alloc] at this
  exact this.of (Below.heap_alloc _ _ _ (by simp))
 ·have := Blk.new ((w.alloc (txO x1 n1)).alloc (txO x2 n2)) #[.nilIface, .pointer none] 85
  rw [World.size_alloc, World.size_alloc] at this
  exact this
theorem Vars3.below {w W W' : World} {x1 x2 : Value} {n1 n2 : Nat} (h : Vars3 w W x1 x2 n1 n2) (hb : Below W.heap.size W W') : Vars3 w W' x1 x2 n1 n2 := ⟨h.v1.below hb h.v1.lt, h.v2.below hb h.v2.lt, h.r.below hb h.r.lt⟩
theorem behind_tx (a b : Ls.D) (h24 : Ls.dsize a + Ls.dsize b <= 24) (hn : dn a + dn b <= 100000) (w : World) (G : Nat -> Prop) (hG : Old w G) (a3 : Addr) (hc : EType w a3) (t1 t2 : TypeId) (y1 y2 : Value) (n1 n2 : Nat) (h1 : Tx w G (.iface t1 y1) n1 a) (h2 : Tx w G (.iface t2 y2) n2 b) :
  Calls Tryz.prog 135 #[txV (.iface t1 y1) n1, txV (.iface t2 y2) n2] w (TyPost w G a3 (¬ Ls.Twice (Ls.toPat a) (Ls.toPat b)) (Ls.behindD a b)) := by
 have hb0 : Below w.heap.size w (((w.alloc (txO (.iface t1 y1) n1)).alloc (txO (.iface t2 y2) n2)).alloc txZ) := below_alloc3 w _ _ _
 have hz0 : (((w.alloc (txO (.iface t1 y1) n1)).alloc (txO (.iface t2 y2) n2)).alloc txZ).heap.size = w.heap.size + 1 + 1 + 1 := by simp
 have hv0 := Vars3.start w (.iface t1 y1) (.iface t2 y2) n1 n2
 have hO : Old (((w.alloc (txO (.iface t1 y1) n1)).alloc (txO (.iface t2 y2) n2)).alloc txZ) G := fun k hk => Nat.lt_of_lt_of_le (hG k hk) hb0.size
 obtain ⟨P, Q, hN⟩ := (h1.below hG hb0).nt hO (by omega)
 obtain ⟨P', Q', hN'⟩ := (h2.below hG hb0).nt hO (by omega)
 have hK := asks_once _ n1 n2 P Q P' Q' a b h1.wd h2.wd hN hN'
 obtain ⟨a0, a1, a2, a4⟩ := hv0.v1.two
 obtain ⟨b0, b1, b2, b4⟩ := hv0.v2.two
 have HT : Hid (∀ W, Below w.heap.size w W -> Tx W G (.iface t1 y1) n1 a /\ Tx W G (.iface t2 y2) n2 b) := fun W hW => ⟨h1.below hG hW, h2.below hG hW⟩
 have HV0 : Hid _ := hv0
 have HB0 : Hid _ := hb0
 clear h1 h2 hN hN' hv0 hb0 hO
 go_enter Tryz.func135, Tryz.ntmps135
 go_wp2_with fail
 refine hK.mono ?_
 clear hK
 generalize ((w.alloc (txO (.iface t1 y1) n1)).alloc (txO (.iface t2 y2) n2)).alloc txZ = W0 at *
 rintro e w1 ⟨z, rfl, hz, hb1⟩
 have hbw1 := Below.join HB0.out hb1
 have HZ : Hid (z = true ↔ ¬ Ls.Twice (Ls.toPat a) (Ls.toPat b)) := hz
 have hz1 := hb1.size
 clear hz
 cases z with
 | false =>
  have hNo := need_no a3 w1 (hc.below hbw1)
  go_wp2_with fail
  refine hNo.mono ?_
  rintro e w2 ⟨rfl, rfl⟩
  go_wp2_with fail
  exact ⟨rfl, .inr ⟨fun h => (by have := HZ.out.2 h; cases this), rfl, hbw1⟩⟩
 | true =>
  have hv1 := HV0.out.below hb1
  clear a0 a1 a2 a4 b0 b1 b2 b4
  obtain ⟨a0, a1, a2, a4⟩ := hv1.v1.two
  obtain ⟨b0, b1, b2, b4⟩ := hv1.v2.two
  have HV1 : Hid _ := hv1
  clear hv1
  go_wp2_with fail
  refine (need_yes w1).mono ?_
  rintro e w2 ⟨rfl, rfl⟩
  go_wp2_with fail
  refine (pbehind_any t1 t2 y1 y2 w2).mono ?_
  rintro e w3 ⟨rfl, rfl⟩
  have hO2 : Old w2 G := fun k hk => Nat.lt_of_lt_of_le (hG k hk) hbw1.size
  have hb3 := below_alloc1 w2 (.cells #[.iface t1 y1, .iface t2 y2] 82)
  have hT3 := textsOf_any (Ls.behindD a b) (by rw [Ls.behindD, dn_rcons, dn_rcons, dn_rnil]; omega) (by rw [Ls.dsize_behindD]; exact h24) (w2.alloc (.cells #[.iface t1 y1, .iface t2 y2] 82)) _ (Gn.old hO2 hb3.size) _ _ (rep_behind hO2 (HT.out w2 hbw1).1.rep (HT.out w2 hbw1).2.rep)
  have hz3 : (w2.alloc (.cells #[.iface t1 y1, .iface t2 y2] 82)).heap.size = w2.heap.size + 1 := by simp
  have HB3 : Hid _ := hb3
  clear hb3 hO2
  go_wp2_with fail
  refine hT3.mono ?_
  clear hT3
  generalize w2.alloc (.cells #[.iface t1 y1, .iface t2 y2] 82) = w3 at *
  rintro e w4 ⟨ty, y, nb, rfl, ht, hb4⟩
  have hbx := Below.join HB3.out hb4
  have hv4 := HV1.out.below hbx
  obtain ⟨r0, r1, s0, s1⟩ := hv4.r.two
  have HP : Hid (TxPost w G (Ls.behindD a b) (.returned (txV (.iface ty y) nb)) ((w4.setCell ⟨w.heap.size + 1 + 1, 0, none⟩ (.iface ty y)).setCell ⟨w.heap.size + 1 + 1, 1, none⟩ (.pointer (some ⟨nb, 0, none⟩)))) := by
   have hzz := hb4.size
   refine TxPost.up ht (fun k hk => ?_) (Below.join hbw1 hbx) (by omega) rfl
   rcases hk with (hk | hk) | hk
   ·have := hG k hk; exact ⟨by omega, .inl hk⟩
   ·exact ⟨by omega, .inr ⟨by omega, by omega⟩⟩
   ·exact ⟨by omega, .inr ⟨by omega, by omega⟩⟩
  clear hv4 ht a0 a1 a2 a4 b0 b1 b2 b4
  go_wp2_with fail
  exact bodyPost_ret (v := txV (.iface ty y) nb) (by simp [results, Tryz.results135, go_sem, r0, r1]) rfl (.inl ⟨HZ.out.1 (by simp), HP.out⟩)
theorem either_tx (a b : Ls.D) (h24 : Ls.dsize a + Ls.dsize b <= 24) (hn : dn a + dn b <= 100000) (w : World) (G : Nat -> Prop) (hG : Old w G) (t1 t2 : TypeId) (y1 y2 : Value) (n1 n2 : Nat) (h1 : Tx w G (.iface t1 y1) n1 a) (h2 : Tx w G (.iface t2 y2) n2 b) :
  Calls Tryz.prog 123 #[txV (.iface t1 y1) n1, txV (.iface t2 y2) n2] w (TxPost w G (Ls.eitherD a b)) := by
 have hb0 : Below w.heap.size w (((w.alloc (txO (.iface t1 y1) n1)).alloc (txO (.iface t2 y2) n2)).alloc txZ) := below_alloc3 w _ _ _
 have hz0 : (((w.alloc (txO (.iface t1 y1) n1)).alloc (txO (.iface t2 y2) n2)).alloc txZ).heap.size = w.heap.size + 1 + 1 + 1 := by simp
 have hv0 := Vars3.start w (.iface t1 y1) (.iface t2 y2) n1 n2
 obtain ⟨a0, a1, a2, a4⟩ := hv0.v1.two
 obtain ⟨b0, b1, b2, b4⟩ := hv0.v2.two
 have HT : Hid (∀ W, Below w.heap.size w W -> Tx W G (.iface t1 y1) n1 a /\ Tx W G (.iface t2 y2) n2 b) := fun W hW => ⟨h1.below hG hW, h2.below hG hW⟩
 have HZ0 : Hid ((((w.alloc (txO (.iface t1 y1) n1)).alloc (txO (.iface t2 y2) n2)).alloc txZ).heap.size = w.heap.size + 1 + 1 + 1) := hz0
 have HV0 : Hid _ := hv0
 have HB0 : Hid _ := hb0
 clear h1 h2 hv0 hb0 hz0
 go_enter Tryz.func123, Tryz.ntmps123
 go_wp2_with fail
 generalize ((w.alloc (txO (.iface t1 y1) n1)).alloc (txO (.iface t2 y2) n2)).alloc txZ = W0 at *
 refine (peither_any t1 t2 y1 y2 W0).mono ?_
 rintro e w3 ⟨rfl, rfl⟩
 have hO2 : Old W0 G := fun k hk => Nat.lt_of_lt_of_le (hG k hk) HB0.out.size
 have hb3 := below_alloc1 W0 (.cells #[.iface t1 y1, .iface t2 y2] 82)
 have hT3 := textsOf_any (Ls.eitherD a b) (by rw [Ls.eitherD, dn_ccons, dn_clast]; omega) (by rw [Ls.dsize_eitherD]; exact h24) (W0.alloc (.cells #[.iface t1 y1, .iface t2 y2] 82)) _ (Gn.old hO2 hb3.size) _ _ (rep_either hO2 (HT.out W0 HB0.out).1.rep (HT.out W0 HB0.out).2.rep)
 have hz3 : (W0.alloc (.cells #[.iface t1 y1, .iface t2 y2] 82)).heap.size = W0.heap.size + 1 := by simp
 have HB3 : Hid _ := hb3
 clear hb3 hO2
 go_wp2_with fail
 refine hT3.mono ?_
 clear hT3
 generalize W0.alloc (.cells #[.iface t1 y1, .iface t2 y2] 82) = w3 at *
 rintro e w4 ⟨ty, y, nb, rfl, ht, hb4⟩
 have hbx := Below.join HB3.out hb4
 have hv4 := HV0.out.below hbx
 obtain ⟨r0, r1, s0, s1⟩ := hv4.r.two
 have HP : Hid (TxPost w G (Ls.eitherD a b) (.returned (txV (.iface ty y) nb)) ((w4.setCell ⟨w.heap.size + 1 + 1, 0, none⟩ (.iface ty y)).setCell ⟨w.heap.size + 1 + 1, 1, none⟩ (.pointer (some ⟨nb, 0, none⟩)))) := by
  have hzz := hb4.size
  have hz0 := HZ0.out
  refine TxPost.up ht (fun k hk => ?_) (Below.join HB0.out hbx) (by omega) rfl
  rcases hk with (hk | hk) | hk
  ·have := hG k hk; exact ⟨by omega, .inl hk⟩
  ·exact ⟨by omega, .inr ⟨by omega, by omega⟩⟩
  ·exact ⟨by omega, .inr ⟨by omega, by omega⟩⟩
 clear hv4 ht a0 a1 a2 a4 b0 b1 b2 b4
 go_wp2_with fail
 exact bodyPost_ret (v := txV (.iface ty y) nb) (by simp [results, Tryz.results123, go_sem, r0, r1]) rfl HP.out
end Go.Proofs.YtkfokddlgmcimaaGreatDoor
