import Derived.Test.YtkfokddlgmcimaaGreatDoorK50
set_option maxRecDepth 100000
set_option maxHeartbeats 4000000
namespace Go.Proofs.YtkfokddlgmcimaaGreatDoor
open Go.RowKit
theorem matches_tx {w : World} {G : Nat -> Prop} {v : Value} {nb : Nat} {d : Ls.D} (h : Tx w G v nb d) (h24 : Ls.dsize d <= 24) (s : ByteArray) (hs : s.size <= 1048576) :
  Calls Tryz.prog 72 #[.pointer (some ⟨nb, 0, none⟩), .string s] w fun e w' => ∃ b : Bool, e = .returned (.bool b) /\ (b = true ↔ Ls.inL (Ls.toPat d) s.data.toList) /\ Below w.heap.size w w' := by
 obtain ⟨B, P, Q, h1, _⟩ := h.net
 obtain ⟨q1, q2, _, _⟩ := add_bd h.wd (n := net0) rfl (by simp [net0]; omega)
 refine (Matches_any w B nb P Q _ _ h1 q1 q2 s hs).mono ?_
 rintro e w' ⟨b, rfl, hb, hbl⟩
 exact ⟨b, rfl, hb.trans (lets_iff h.wd _), hbl⟩
theorem many_tx (a : Ls.D) (h24 : Ls.dsize a <= 24) (hn : dn a <= 100000) (w : World) (G : Nat -> Prop) (hG : Old w G) (a3 : Addr) (hc : EType w a3) (t1 : TypeId) (y1 : Value) (n1 : Nat) (h1 : Tx w G (.iface t1 y1) n1 a) :
  Calls Tryz.prog 163 #[txV (.iface t1 y1) n1] w (TyPost w G a3 (¬ Ls.inL (Ls.toPat a) [] /\ ¬ Ls.Twice (Ls.toPat a) (Ls.toPat (Ls.rep 5 a))) (Ls.rep 5 a)) := by
 have hb0 : Below w.heap.size w ((w.alloc (txO (.iface t1 y1) n1)).alloc txZ) := below_alloc2 w _ _
 have hz0 : ((w.alloc (txO (.iface t1 y1) n1)).alloc txZ).heap.size = w.heap.size + 1 + 1 := by simp
 have hv : Blk ((w.alloc (txO (.iface t1 y1) n1)).alloc txZ) w.heap.size #[.iface t1 y1, .pointer (some ⟨n1, 0, none⟩)] 85 := (Blk.new w _ _).of (Below.heap_alloc _ _ _ (by simp))
 have hr : Blk ((w.alloc (txO (.iface t1 y1) n1)).alloc txZ) (w.heap.size + 1) #[.nilIface, .pointer none] 85 := by
  have := Blk.new (w.alloc (txO (.iface t1 y1) n1)) #[.nilIface, .pointer none] 85
  rw [World.size_alloc] at this
  exact this
 have hO : Old ((w.alloc (txO (.iface t1 y1) n1)).alloc txZ) G := fun k hk => Nat.lt_of_lt_of_le (hG k hk) hb0.size
 have HT : Hid (∀ W, Below w.heap.size w W -> Tx W G (.iface t1 y1) n1 a) := fun W hW => h1.below hG hW
 have hT1 := textsOf_any (Ls.rep 5 a) (by rw [dn_rep]; omega) (by rw [Ls.dsize_rep]; exact h24) _ G hO _ _ (Rep.rep (.inl rfl) (HT.out _ hb0).rep)
 obtain ⟨a0, a1, a2, a4⟩ := hv.two
 have HV : Hid (Blk ((w.alloc (txO (.iface t1 y1) n1)).alloc txZ) w.heap.size #[.iface t1 y1, .pointer (some ⟨n1, 0, none⟩)] 85) := hv
 have HRs : Hid (Blk ((w.alloc (txO (.iface t1 y1) n1)).alloc txZ) (w.heap.size + 1) #[.nilIface, .pointer none] 85) := hr
 have HB0 : Hid _ := hb0
 clear h1 hv hr hb0 hO
 go_enter Tryz.func163, Tryz.ntmps163
 go_wp2_with fail
 refine (many_any t1 y1 _).mono ?_
 rintro e w0 ⟨rfl, rfl⟩
 go_wp2_with fail
 refine hT1.mono ?_
 clear hT1
 generalize (w.alloc (txO (.iface t1 y1) n1)).alloc txZ = W0 at *
 rintro e w1 ⟨ty, y, nb, rfl, ht, hb1⟩
 have hbw1 := Below.join HB0.out hb1
 have hb2 := below_alloc1 w1 (txO (.iface ty y) nb)
 have hx2 : Blk (w1.alloc (txO (.iface ty y) nb)) w1.heap.size #[.iface ty y, .pointer (some ⟨nb, 0, none⟩)] 85 := Blk.new w1 _ _
 have hz1 := hb1.size
 have hz2 : (w1.alloc (txO (.iface ty y) nb)).heap.size = w1.heap.size + 1 := by simp
 have hbw2 := Below.join hbw1 hb2
 have hv2 := HV.out.below (Below.join hb1 hb2) (by omega)
 have hr2 := HRs.out.below (Below.join hb1 hb2) (by omega)
 have ht2 := ht.below (Gn.old (fun k hk => Nat.lt_of_lt_of_le (hG k hk) HB0.out.size) hz1) hb2
 clear a0 a1 a2 a4 ht hb2
 go_upto_region 2 with (fail)
 generalize w1.alloc (txO (.iface ty y) nb) = w2 at *
 obtain ⟨a0, a1, a2, a4⟩ := hv2.two
 obtain ⟨b0, b1, b2, b4⟩ := hx2.two
 have HV2 : Hid (Blk w2 w.heap.size #[.iface t1 y1, .pointer (some ⟨n1, 0, none⟩)] 85) := hv2
 have HX2 : Hid (Blk w2 w1.heap.size #[.iface ty y, .pointer (some ⟨nb, 0, none⟩)] 85) := hx2
 have HR2 : Hid (Blk w2 (w.heap.size + 1) #[.nilIface, .pointer none] 85) := hr2
 have HT2 : Hid (Tx w2 (Gn W0 G w1) (.iface ty y) nb (Ls.rep 5 a)) := ht2
 have HO2 : Hid (Old w2 (Gn W0 G w1)) := fun k hk => by
  rcases hk with h | h
  ·exact Nat.lt_of_lt_of_le (hG k h) hbw2.size
  ·have := h.2; omega
 have hM := matches_tx (HT.out w2 hbw2) h24 ⟨#[]⟩ (by decide)
 clear hv2 hx2 hr2 ht2
 go_wp2_with fail
 refine hM.mono ?_
 clear hM
 rintro e w3 ⟨b, rfl, hbe, hb3⟩
 have HBE : Hid (b = true ↔ Ls.inL (Ls.toPat a) []) := hbe
 have hbw3 := Below.join hbw2 hb3
 have hz3 := hb3.size
 have hv3 := HV2.out.below hb3 HV2.out.lt
 have hx3 := HX2.out.below hb3 HX2.out.lt
 clear hbe a0 a1 a2 a4 b0 b1 b2 b4
 cases b with
 | true =>
  have HN : Hid (¬ (¬ Ls.inL (Ls.toPat a) [] /\ ¬ Ls.Twice (Ls.toPat a) (Ls.toPat (Ls.rep 5 a)))) := fun h => h.1 (HBE.out.1 (by simp))
  have hNo := need_no a3 w3 (hc.below hbw3)
  clear HBE
  go_wp2_with fail
  refine hNo.mono ?_
  rintro e w4 ⟨rfl, rfl⟩
  go_wp2_with fail
  exact ⟨rfl, .inr ⟨HN.out, rfl, hbw3⟩⟩
 | false =>
  have HN : Hid (¬ Ls.inL (Ls.toPat a) []) := fun h => (by have := HBE.out.2 h; cases this)
  obtain ⟨a0, a1, a2, a4⟩ := hv3.two
  obtain ⟨b0, b1, b2, b4⟩ := hx3.two
  obtain ⟨P, Q, hNt⟩ := (HT.out w3 hbw3).nt (fun k hk => Nat.lt_of_lt_of_le (hG k hk) hbw3.size) h24
  obtain ⟨P', Q', hNt'⟩ := (HT2.out.below HO2.out hb3).nt (fun k hk => Nat.lt_of_lt_of_le (HO2.out k hk) hz3) (by rw [Ls.dsize_rep]; exact h24)
  have hK := asks_once w3 n1 nb P Q P' Q' a (Ls.rep 5 a) (HT.out w3 hbw3).wd HT2.out.wd hNt hNt'
  clear HBE hNt hNt' hv3 hx3
  go_wp2_with fail
  refine hK.mono ?_
  clear hK
  rintro e w4 ⟨z, rfl, hz, hb4⟩
  have HZ : Hid (z = true ↔ ¬ Ls.Twice (Ls.toPat a) (Ls.toPat (Ls.rep 5 a))) := hz
  have hbw4 := Below.join hbw3 hb4
  clear hz
  cases z with
  | false =>
   have HN2 : Hid (¬ (¬ Ls.inL (Ls.toPat a) [] /\ ¬ Ls.Twice (Ls.toPat a) (Ls.toPat (Ls.rep 5 a)))) := fun h => (by have := HZ.out.2 h.2; cases this)
   have hNo := need_no a3 w4 (hc.below hbw4)
   clear HZ
   go_wp2_with fail
   refine hNo.mono ?_
   rintro e w5 ⟨rfl, rfl⟩
   go_wp2_with fail
   exact ⟨rfl, .inr ⟨HN2.out, rfl, hbw4⟩⟩
  | true =>
   have HOK : Hid (¬ Ls.inL (Ls.toPat a) [] /\ ¬ Ls.Twice (Ls.toPat a) (Ls.toPat (Ls.rep 5 a))) := ⟨HN.out, HZ.out.1 (by simp)⟩
   have hb34 := Below.join hb3 hb4
   have hx4 := HX2.out.below hb34 HX2.out.lt
   have hr4 := HR2.out.below hb34 HR2.out.lt
   clear a0 a1 a2 a4 b0 b1 b2 b4 HZ
   obtain ⟨b0, b1, b2, b4⟩ := hx4.two
   obtain ⟨r0, r1, s0, s1⟩ := hr4.two
   have HP : Hid (TxPost w G (Ls.rep 5 a) (.returned (txV (.iface ty y) nb)) ((w4.setCell ⟨w.heap.size + 1, 0, none⟩ (.iface ty y)).setCell ⟨w.heap.size + 1, 1, none⟩ (.pointer (some ⟨nb, 0, none⟩)))) := by
    have hzz := hb4.size
    refine TxPost.up (HT2.out.below HO2.out hb34) (fun k hk => ?_) hbw4 (by omega) rfl
    rcases hk with hk | hk
    ·have := hG k hk; exact ⟨by omega, .inl hk⟩
    ·exact ⟨by omega, .inr ⟨by omega, by omega⟩⟩
   clear hx4 hr4
   go_wp2_with fail
   refine (need_yes w4).mono ?_
   rintro e w5 ⟨rfl, rfl⟩
   go_wp2_with fail
   exact bodyPost_ret (v := txV (.iface ty y) nb) (by simp [results, Tryz.results163, go_sem, r0, r1]) rfl (.inl ⟨HOK.out, HP.out⟩)
theorem Parts.below {w0 w w' : World} {v : Value} {l : List Ls.D} {vs : List Value} (h : Parts w0 w v l vs) (hb : Below w.heap.size w w') : Parts w0 w' v l vs := by
 refine ⟨h.own.kept (grownBy_of_below hb none) ?_, h.each.mono (fun k hk => ⟨hk.1, Nat.lt_of_lt_of_le hk.2.1 hb.size, hk.2.2⟩) (fun k hk => hb.block k hk.2.1)⟩
 cases hv : v.ownBlock with
 | none => exact .inl rfl
 | some k => exact .inr (by simp)
theorem wordD_snoc (l : List UInt8) : Ls.wordD l = (l.map fun c => Ls.place [c]).foldr Ls.rcons Ls.rnil := by
 induction l with
 | nil => rfl
 | cons c l ih => rw [Ls.wordD, ih]; rfl
theorem pWord_any (s : ByteArray) (hs : s.size <= 120) (hok : ∀ c ∈ s.data.toList, c.toNat <= 126) (w : World) :
  Calls Tryz.prog 165 #[.string s] w fun e w' => ∃ sl, e = .returned (rowV sl) /\ Rep w' (New w w') 0 (Ls.wordD s.data.toList) [rowV sl] /\ Below w.heap.size w w' := by
 have HOK : Hid (∀ c ∈ s.data.toList, c.toNat <= 126) := hok
 have HX : Hid (∀ k (h : k < s.size), s.data.toList.take (k + 1) = s.data.toList.take k ++ [s[k]]) := fun k h => by
  have := List.take_succ_eq_append_getElem (l := s.data.toList) (i := k) (by simpa using h)
  rw [this]; rfl
 have HM : Hid (∀ k (h : k < s.size), s[k].toNat <= 126) := fun k h => hok _ (by
  have : s[k] = s.data.toList[k]'(by simpa using h) := rfl
  rw [this]; exact List.getElem_mem _)
 have HL : Hid (s.data.toList.length = s.size) := by show _ = _; simp
 obtain ⟨q, hq, hq0, hq1, hqb⟩ := info_parts infoPattern
 clear hok
 go_enter Tryz.func165, Tryz.ntmps165
 go_wp2_with fail
 go_loopw [3, 7] (fun v t wr => ∃ (k : Nat) (vs : List Value), k <= s.size /\ t = .int .i64 k /\ Below w.heap.size w wr /\ vs.length = k /\ Parts w wr v ((s.data.toList.take k).map fun c => Ls.place [c]) vs) (fun _ t _ => s.size - (intOf t).toNat)
 case atStart => exact ⟨0, [], Nat.zero_le _, rfl, Below.refl _ _, rfl, Parts.nil _ _⟩
 case round =>
  obtain ⟨k, vs, hk, rfl, hbw, hlen, hp⟩ := hrel
  obtain ⟨x1, x2, x3, rfl⟩ := hp.slice
  have HP : Hid (Parts w wr (.slice x1 x2 x3) ((s.data.toList.take k).map fun c => Ls.place [c]) vs) := hp
  clear hp
  by_cases hlt : k < s.size
  ·have hz1 : (0 : Int) <= (k : Int) := by omega
   have hz2 : (k : Int) < (s.size : Int) := by omega
   have hC := onlySign_any s[k] wr (HM.out k hlt)
   have HX1 : Hid (s.data.toList.take (k + 1) = s.data.toList.take k ++ [s[k]]) := HX.out k hlt
   go_wp2_with fail
   refine hC.mono ?_
   generalize s[k] = c at *
   rintro e w3 ⟨⟨lo, hi, rfl, hSB⟩, hb3⟩
   have hbw3 := Below.join hbw hb3
   have hz3 := hbw3.size
   have hpa := (HP.out.below hb3).alloc (.cells #[placeV lo hi] 82)
   have hfa : Rep (w3.alloc (.cells #[placeV lo hi] 82)) (Els w (w3.alloc (.cells #[placeV lo hi] 82)) (.slice x1 x2 x3)) 0 (Ls.place [c]) [placeV lo hi] := .place hSB
   have hoa := hpa.own
   have hcn := cells_new1 w3 (placeV lo hi) 82
   have Hpa : Hid (Parts w (w3.alloc (.cells #[placeV lo hi] 82)) (.slice x1 x2 x3) ((s.data.toList.take k).map fun c => Ls.place [c]) vs) := hpa
   have Hfa : Hid (Rep (w3.alloc (.cells #[placeV lo hi] 82)) (Els w (w3.alloc (.cells #[placeV lo hi] 82)) (.slice x1 x2 x3)) 0 (Ls.place [c]) [placeV lo hi]) := hfa
   clear hpa hfa hC hSB
   go_wp2_with (at_builtin; refine wpList_append_own2 _ rfl _ _ 172 rfl w.heap.size 82 q _ 1 16 Tryz.underlying172 hq hq0 hq1 hqb rfl (by omega) (.slice x1 x2 x3) vs.length vs rfl hoa ⟨w3.heap.size, 0, none⟩ 1 1 [placeV lo hi] rfl ?l1 hcn ?l0 ?l2 ?l3 ?l4 ?l5 ?_)
   case l1 => rfl
   case l0 => intro u hu; simp at hu; subst hu; rfl
   case l2 => unfold maxLen; omega
   case l3 => omega
   case l4 => simp; omega
   case l5 => omega
   intro v' w' ho hg hvv
   have hbw' : Below w.heap.size w w' := (hbw3.alloc hz3 (.cells #[placeV lo hi] 82)).grown hg (by simp; omega) (fun m e => (hoa.lt m e).1)
   have HP7 : Hid (Parts w w' v' ((s.data.toList.take (k + 1)).map fun c => Ls.place [c]) (vs ++ [placeV lo hi])) := by
    show Parts _ _ _ _ _
    rw [HX1.out, List.map_append]
    exact Hpa.out.push Hfa.out hg (by rw [hlen]; exact ho) (by simpa using hvv)
   clear hg ho hvv hoa hcn
   go_wp2_with fail
   go_roundw
   case rel => exact ⟨k + 1, vs ++ [placeV lo hi], by omega, by go_num, hbw', by simp [hlen], HP7.out⟩
   case measure => simp [intOf]; omega
  ·have hz2 : ¬ (k : Int) < (s.size : Int) := by omega
   have hkk : k = s.size := by omega
   have HR : Hid (Rep wr (New w wr) 0 (Ls.wordD s.data.toList) [rowV (.slice x1 x2 x3)]) := by
    have hsh := HP.out.shows
    show Rep _ _ _ _ _
    rw [wordD_snoc]
    have h2 := hsh.2.row
    rw [List.take_of_length_le (by rw [HL.out]; omega)] at h2
    exact .row hsh.1 h2
   clear hkk
   go_wp2_with fail
   go_ret
   exact ⟨_, rfl, HR.out, hbw⟩
end Go.Proofs.YtkfokddlgmcimaaGreatDoor
namespace Go.Proofs.YtkfokddlgmcimaaGreatDoor
open Go.RowKit
def PartV (w : World) (G : Nat -> Prop) (p : Nat) (l : Ls.Ln) : Prop :=
 ∃ t1 y1 n1 t2 y2 n2, G p /\ Blk w p #[.iface t1 y1, .pointer (some ⟨n1, 0, none⟩), .iface t2 y2, .pointer (some ⟨n2, 0, none⟩)] 89 /\ Tx w G (.iface t1 y1) n1 (Ls.dS l) /\ Tx w G (.iface t2 y2) n2 (Ls.dV l)
theorem PartV.mono {w w' : World} {G G' : Nat -> Prop} (hG : ∀ k, G k -> G' k) (hw : ∀ k, G k -> w'.heap[k]? = w.heap[k]?) {p : Nat} {l : Ls.Ln} (h : PartV w G p l) : PartV w' G' p l := by
 obtain ⟨t1, y1, n1, t2, y2, n2, h1, h2, h3, h4⟩ := h
 exact ⟨t1, y1, n1, t2, y2, n2, hG _ h1, h2.of (hw _ h1), h3.mono hG hw, h4.mono hG hw⟩
theorem PartV.below {w w' : World} {G : Nat -> Prop} {p : Nat} {l : Ls.Ln} (h : PartV w G p l) (hG : Old w G) (hb : Below w.heap.size w w') : PartV w' G p l := h.mono (fun _ h => h) (fun k hk => hb.block k (hG k hk))
theorem Blk.four {w : World} {g : Nat} {x y u v : Value} {T : TypeId} (h : Blk w g #[x, y, u, v] T) : w.cell? ⟨g, 0, none⟩ = some x /\ w.cell? ⟨g, 1, none⟩ = some y /\ w.cell? ⟨g, 2, none⟩ = some u /\ w.cell? ⟨g, 3, none⟩ = some v := ⟨h.cell 0, h.cell 1, h.cell 2, h.cell 3⟩
def PartPost (w : World) (G : Nat -> Prop) (a3 : Addr) (ok : Prop) (l : Ls.Ln) : Ending -> World -> Prop := fun e w' =>
 (ok /\ ∃ p, e = .returned (.pointer (some ⟨p, 0, none⟩)) /\ PartV w' (Gn w G w') p l /\ Below w.heap.size w w') \/ (¬ ok /\ e = .panicked [{ v := errS a3, recovered := false }] /\ Below w.heap.size w w')
theorem part_new {w W : World} {G G1 G2 : Nat -> Prop} {l : Ls.Ln} {t1 t2 : TypeId} {y1 y2 : Value} {n1 n2 : Nat} (hb : Below w.heap.size w W) (hG : Old w G) (h1 : Tx W G1 (.iface t1 y1) n1 (Ls.dS l)) (h2 : Tx W G2 (.iface t2 y2) n2 (Ls.dV l)) (hG1 : ∀ k, G1 k -> G k \/ (w.heap.size <= k /\ k < W.heap.size)) (hG2 : ∀ k, G2 k -> G k \/ (w.heap.size <= k /\ k < W.heap.size)) :
  PartV (W.alloc (.cells #[.iface t1 y1, .pointer (some ⟨n1, 0, none⟩), .iface t2 y2, .pointer (some ⟨n2, 0, none⟩)] 89)) (Gn w G (W.alloc (.cells #[.iface t1 y1, .pointer (some ⟨n1, 0, none⟩), .iface t2 y2, .pointer (some ⟨n2, 0, none⟩)] 89))) W.heap.size l := by
 have hz := hb.size
 have hu : ∀ k, G k \/ (w.heap.size <= k /\ k < W.heap.size) -> Gn w G (W.alloc (.cells #[.iface t1 y1, .pointer (some ⟨n1, 0, none⟩), .iface t2 y2, .pointer (some ⟨n2, 0, none⟩)] 89)) k := fun k hk => hk.imp id (fun h => ⟨h.1, by have := h.2; simp; omega⟩)
 have hl : ∀ k, G k \/ (w.heap.size <= k /\ k < W.heap.size) -> k < W.heap.size := fun k hk => by
  rcases hk with h | h
  ·exact Nat.lt_of_lt_of_le (hG k h) hz
  ·exact h.2
 exact ⟨t1, y1, n1, t2, y2, n2, .inr ⟨hz, by simp⟩, Blk.new W _ _, h1.mono (fun k hk => hu k (hG1 k hk)) (fun k hk => Below.heap_alloc _ _ _ (hl k (hG1 k hk))), h2.mono (fun k hk => hu k (hG2 k hk)) (fun k hk => Below.heap_alloc _ _ _ (hl k (hG2 k hk)))⟩
theorem dS_copy (d : Ls.D) : Ls.dS (Ls.copyL d) = d := by simp [Ls.copyL, Ls.dS]
theorem dV_copy (d : Ls.D) : Ls.dV (Ls.copyL d) = d := by simp [Ls.copyL, Ls.dV]
theorem dS_leave (d : Ls.D) (ws : List UInt8) : Ls.dS (Ls.leaveL d ws) = d := by simp [Ls.leaveL, Ls.dS]
theorem dV_leave (d : Ls.D) (ws : List UInt8) : Ls.dV (Ls.leaveL d ws) = Ls.rnil := by simp [Ls.leaveL, Ls.dV]
theorem dS_put (ws : List UInt8) : Ls.dS (Ls.putL ws) = Ls.rnil := by simp [Ls.putL, Ls.dS]
theorem dV_put (ws : List UInt8) : Ls.dV (Ls.putL ws) = Ls.wordD ws := by simp [Ls.putL, Ls.dV]
theorem copied_part (d : Ls.D) (h24 : Ls.dsize d <= 24) (hn : dn d <= 100000) (w : World) (G : Nat -> Prop) (hG : Old w G) (a3 : Addr) (ty : TypeId) (y : Value) (h : Rep w G 0 d [.iface ty y]) :
  Calls Tryz.prog 146 #[.iface ty y] w (PartPost w G a3 True (Ls.copyL d)) := by
 have hT := textsOf_any d (by omega) h24 w G hG ty y h
 clear h
 go_enter Tryz.func146, Tryz.ntmps146
 go_wp2_with fail
 refine hT.mono ?_
 clear hT
 rintro e w1 ⟨ty, y, nb, rfl, ht, hb1⟩
 have hb2 := below_alloc1 w1 (txO (.iface ty y) nb)
 have hx2 : Blk (w1.alloc (txO (.iface ty y) nb)) w1.heap.size #[.iface ty y, .pointer (some ⟨nb, 0, none⟩)] 85 := Blk.new w1 _ _
 have hbw := Below.join hb1 hb2
 have hz1 := hb1.size
 have hz2 : (w1.alloc (txO (.iface ty y) nb)).heap.size = w1.heap.size + 1 := by simp
 have ht2 := ht.below (Gn.old hG hz1) hb2
 clear ht hb2
 go_upto_region 1 with (fail)
 generalize w1.alloc (txO (.iface ty y) nb) = w2 at *
 obtain ⟨a0, a1, a2, a4⟩ := hx2.two
 have HP : Hid (PartPost w G a3 True (Ls.copyL d) (.returned (.pointer (some ⟨w1.heap.size + 1, 0, none⟩))) (w2.alloc (.cells #[.iface ty y, .pointer (some ⟨nb, 0, none⟩), .iface ty y, .pointer (some ⟨nb, 0, none⟩)] 89))) := by
  rw [<- hz2]
  refine .inl ⟨trivial, w2.heap.size, rfl, part_new hbw hG (by rw [dS_copy]; exact ht2) (by rw [dV_copy]; exact ht2) (fun k hk => ?_) (fun k hk => ?_), Below.join hbw (below_alloc1 _ _)⟩
  ·exact hk.imp id (fun h => ⟨h.1, by have := h.2; omega⟩)
  ·exact hk.imp id (fun h => ⟨h.1, by have := h.2; omega⟩)
 clear ht2 hx2 hz2
 go_wp2_with fail
 go_ret
 exact HP.out
theorem isSource_any {w : World} {G : Nat -> Prop} (hG : Old w G) {t1 t2 : TypeId} {y1 y2 : Value} {n1 n2 : Nat} {d : Ls.D} (h : Tx w G (.iface t1 y1) n1 d) (h24 : Ls.dsize d <= 24) (s : ByteArray) (hs : s.size <= 1048576) :
  Calls Tryz.prog 40 #[.agg #[.iface t1 y1, .pointer (some ⟨n1, 0, none⟩), .iface t2 y2, .pointer (some ⟨n2, 0, none⟩)], .string s] w fun e w' => ∃ b : Bool, e = .returned (.bool b) /\ (b = true ↔ Ls.inL (Ls.toPat d) s.data.toList) /\ Below w.heap.size w w' := by
 have hb0 := below_alloc1 w (.cells #[.iface t1 y1, .pointer (some ⟨n1, 0, none⟩), .iface t2 y2, .pointer (some ⟨n2, 0, none⟩)] 87)
 have hM := matches_tx (h.below hG hb0) h24 s hs
 have HB : Hid _ := hb0
 clear h hb0
 go_enter Tryz.func40, Tryz.ntmps40
 go_wp2_with fail
 refine hM.mono ?_
 rintro e w1 ⟨b, rfl, hb, hb1⟩
 have HE : Hid (b = true ↔ Ls.inL (Ls.toPat d) s.data.toList) := hb
 clear hb hM
 go_wp2_with fail
 go_ret
 exact ⟨b, rfl, HE.out, Below.join HB.out hb1⟩
theorem word_nil (w : World) : Calls Tryz.prog 165 #[.string ⟨#[]⟩] w fun e w' => ∃ sl, e = .returned (rowV sl) /\ Rep w' (New w w') 0 Ls.rnil [rowV sl] /\ Below w.heap.size w w' :=
 pWord_any ⟨#[]⟩ (by decide) (fun c hc => by cases hc) w
theorem rnil_bd : Ls.dsize Ls.rnil <= 24 /\ dn Ls.rnil <= 1048576 := by rw [Ls.dsize_rnil, dn_rnil]; omega
theorem putIn_part (s : ByteArray) (hs : s.size <= 24) (hok : ∀ c ∈ s.data.toList, c.toNat <= 126) (w : World) (G : Nat -> Prop) (hG : Old w G) (a3 : Addr) :
  Calls Tryz.prog 157 #[.string s] w (PartPost w G a3 True (Ls.putL s.data.toList)) := by
 have HOK : Hid (∀ c ∈ s.data.toList, c.toNat <= 126) := hok
 clear hok
 go_enter Tryz.func157, Tryz.ntmps157
 go_wp2_with fail
 refine (word_nil w).mono ?_
 rintro e w1 ⟨sl, rfl, hr1, hb1⟩
 have hT1 := textsOf_any Ls.rnil rnil_bd.2 rnil_bd.1 w1 _ (fun k hk => hk.2) _ _ hr1
 clear hr1
 go_wp2_with fail
 refine hT1.mono ?_
 clear hT1
 rintro e w2 ⟨ty, y, nb, rfl, ht2, hb2⟩
 have hbw2 := Below.join hb1 hb2
 have HT2 : Hid (Tx w2 (Gn w1 (New w w1) w2) (.iface ty y) nb Ls.rnil) := ht2
 clear ht2
 go_wp2_with fail
 refine (pWord_any s (by omega) HOK.out w2).mono ?_
 rintro e w3 ⟨sl3, rfl, hr3, hb3⟩
 have hl : s.data.toList.length = s.size := by simp
 have hT3 := textsOf_any (Ls.wordD s.data.toList) (by rw [dn_wordD, hl]; omega) (by rw [Ls.dsize_wordD, hl]; omega) w3 _ (fun k hk => hk.2) _ _ hr3
 clear hr3 hl
 go_wp2_with fail
 refine hT3.mono ?_
 clear hT3
 rintro e w4 ⟨ty4, y4, nb4, rfl, ht4, hb4⟩
 have hb24 := Below.join hb3 hb4
 have hbw4 := Below.join hbw2 hb24
 have z1 := hb1.size
 have z2 := hb2.size
 have z3 := hb3.size
 have z4 := hb4.size
 have HP : Hid (PartPost w G a3 True (Ls.putL s.data.toList) (.returned (.pointer (some ⟨w4.heap.size, 0, none⟩))) (w4.alloc (.cells #[.iface ty y, .pointer (some ⟨nb, 0, none⟩), .iface ty4 y4, .pointer (some ⟨nb4, 0, none⟩)] 89))) := by
  refine .inl ⟨trivial, w4.heap.size, rfl, part_new hbw4 hG (by rw [dS_put]; exact HT2.out.below (Gn.old (fun k hk => hk.2) z2) hb24) (by rw [dV_put]; exact ht4) (fun k hk => ?_) (fun k hk => ?_), Below.join hbw4 (below_alloc1 _ _)⟩
  ·rcases hk with h | h
   ·exact .inr ⟨h.1, by have := h.2; omega⟩
   ·exact .inr ⟨by omega, by omega⟩
  ·rcases hk with h | h
   ·exact .inr ⟨by have := h.1; omega, by have := h.2; omega⟩
   ·exact .inr ⟨by omega, by omega⟩
 clear ht4
 go_wp2_with fail
 go_ret
 exact HP.out
theorem leftOut_part (d : Ls.D) (h24 : Ls.dsize d <= 24) (hn : dn d <= 100000) (s : ByteArray) (hs : s.size <= 1048576) (w : World) (G : Nat -> Prop) (hG : Old w G) (a3 : Addr) (hc : EType w a3) (ty : TypeId) (y : Value) (h : Rep w G 0 d [.iface ty y]) :
  Calls Tryz.prog 155 #[.iface ty y, .string s] w (PartPost w G a3 (Ls.inL (Ls.toPat d) s.data.toList) (Ls.leaveL d s.data.toList)) := by
 have hT := textsOf_any d (by omega) h24 w G hG ty y h
 clear h
 go_enter Tryz.func155, Tryz.ntmps155
 go_wp2_with fail
 refine hT.mono ?_
 clear hT
 rintro e w1 ⟨t1, y1, n1, rfl, ht1, hb1⟩
 have HT1 : Hid (Tx w1 (Gn w G w1) (.iface t1 y1) n1 d) := ht1
 clear ht1
 go_wp2_with fail
 refine (word_nil w1).mono ?_
 rintro e w2 ⟨sl, rfl, hr2, hb2⟩
 have hT2 := textsOf_any Ls.rnil rnil_bd.2 rnil_bd.1 w2 _ (fun k hk => hk.2) _ _ hr2
 clear hr2
 go_wp2_with fail
 refine hT2.mono ?_
 clear hT2
 rintro e w3 ⟨t3, y3, n3, rfl, ht3, hb3⟩
 have hb13 := Below.join hb2 hb3
 have hbw3 := Below.join hb1 hb13
 have z1 := hb1.size
 have z2 := hb2.size
 have z3 := hb3.size
 have hPV : PartV (w3.alloc (.cells #[.iface t1 y1, .pointer (some ⟨n1, 0, none⟩), .iface t3 y3, .pointer (some ⟨n3, 0, none⟩)] 89)) (Gn w G (w3.alloc (.cells #[.iface t1 y1, .pointer (some ⟨n1, 0, none⟩), .iface t3 y3, .pointer (some ⟨n3, 0, none⟩)] 89))) w3.heap.size (Ls.leaveL d s.data.toList) := by
  refine part_new hbw3 hG (by rw [dS_leave]; exact HT1.out.below (Gn.old hG z1) hb13) (by rw [dV_leave]; exact ht3) (fun k hk => ?_) (fun k hk => ?_)
  ·exact hk.imp id (fun h => ⟨h.1, by have := h.2; omega⟩)
  ·rcases hk with h | h
   ·exact .inr ⟨by have := h.1; omega, by have := h.2; omega⟩
   ·exact .inr ⟨by omega, by omega⟩
 have hb4 := below_alloc1 w3 (.cells #[.iface t1 y1, .pointer (some ⟨n1, 0, none⟩), .iface t3 y3, .pointer (some ⟨n3, 0, none⟩)] 89)
 have hx4 : Blk (w3.alloc (.cells #[.iface t1 y1, .pointer (some ⟨n1, 0, none⟩), .iface t3 y3, .pointer (some ⟨n3, 0, none⟩)] 89)) w3.heap.size #[.iface t1 y1, .pointer (some ⟨n1, 0, none⟩), .iface t3 y3, .pointer (some ⟨n3, 0, none⟩)] 89 := Blk.new w3 _ _
 have hbw4 := Below.join hbw3 hb4
 have hS := isSource_any (t2 := t3) (y2 := y3) (n2 := n3) (Gn.old (w' := w3.alloc (.cells #[.iface t1 y1, .pointer (some ⟨n1, 0, none⟩), .iface t3 y3, .pointer (some ⟨n3, 0, none⟩)] 89)) hG hbw4.size) ((HT1.out.below (Gn.old hG z1) (Below.join hb13 hb4)).mono (fun k hk => hk.imp id (fun h => ⟨h.1, by have := h.2; have := (Below.join hb13 hb4).size; omega⟩)) (fun _ _ => rfl)) h24 s hs
 have HPV : Hid (PartV (w3.alloc (.cells #[.iface t1 y1, .pointer (some ⟨n1, 0, none⟩), .iface t3 y3, .pointer (some ⟨n3, 0, none⟩)] 89)) (Gn w G (w3.alloc (.cells #[.iface t1 y1, .pointer (some ⟨n1, 0, none⟩), .iface t3 y3, .pointer (some ⟨n3, 0, none⟩)] 89))) w3.heap.size (Ls.leaveL d s.data.toList)) := hPV
 clear hPV ht3 hb4
 go_upto_region 1 with (fail)
 generalize w3.alloc (.cells #[.iface t1 y1, .pointer (some ⟨n1, 0, none⟩), .iface t3 y3, .pointer (some ⟨n3, 0, none⟩)] 89) = w4 at *
 obtain ⟨a0, a1, a2, a4⟩ := hx4.four
 clear hx4
 go_wp2_with fail
 refine hS.mono ?_
 clear hS
 rintro e w5 ⟨b, rfl, hbe, hb5⟩
 have HBE : Hid (b = true ↔ Ls.inL (Ls.toPat d) s.data.toList) := hbe
 have hbw5 := Below.join hbw4 hb5
 clear hbe
 cases b with
 | false =>
  have HN : Hid (¬ Ls.inL (Ls.toPat d) s.data.toList) := fun h => (by have := HBE.out.2 h; cases this)
  have hNo := need_no a3 w5 (hc.below hbw5)
  clear HBE
  go_wp2_with fail
  refine hNo.mono ?_
  rintro e w6 ⟨rfl, rfl⟩
  go_wp2_with fail
  exact ⟨rfl, .inr ⟨HN.out, rfl, hbw5⟩⟩
 | true =>
  have HOK : Hid (Ls.inL (Ls.toPat d) s.data.toList) := HBE.out.1 rfl
  have HP : Hid (PartPost w G a3 (Ls.inL (Ls.toPat d) s.data.toList) (Ls.leaveL d s.data.toList) (.returned (.pointer (some ⟨w3.heap.size, 0, none⟩))) w5) := by
   refine .inl ⟨HOK.out, w3.heap.size, rfl, (HPV.out.below (Gn.old hG hbw4.size) hb5).mono (fun k hk => hk.imp id (fun h => ⟨h.1, Nat.lt_of_lt_of_le h.2 hb5.size⟩)) (fun _ _ => rfl), hbw5⟩
  clear HBE
  go_wp2_with fail
  refine (need_yes w5).mono ?_
  rintro e w6 ⟨rfl, rfl⟩
  go_wp2_with fail
  go_ret
  exact HP.out
end Go.Proofs.YtkfokddlgmcimaaGreatDoor
