import Derived.Test.YtbdjchmnahjjlaaDoorDvH
/- row of the reader. -/
namespace Go.Proofs.YtbdjchmnahjjlaaDoor
open Go.RowKit

/-- What row answers. -/
def RowSaid (s : ByteArray) (a1 : Addr) (z : Nat) : Prop := ∀ (rb i : Nat) (w : World), RB w rb s i z → Env w rb a1 → i ≤ s.size →
  Calls Tryd.prog 62 #[.pointer (some ⟨rb, 0, Option.none⟩)] w (RPost w rb s i z a1 (clean (Ls.things (Ls.pat (12 - z)) ((rest s i).length + 1) (rest s i))))

theorem done_l (rb : Nat) (s : ByteArray) (i z : Nat) (w : World) (h : RB w rb s i z) (hs : s.size ≤ 1048576) (hi : i ≤ 1048577) (b : Bool) (hb : decide (s.size ≤ i) = b) :
    Calls Tryd.prog 48 #[.pointer (some ⟨rb, 0, Option.none⟩)] w fun e w' => e = .returned (.bool b) ∧ RLeft w rb s i z w' := by
  subst hb
  refine (done_any rb s i z w h hs hi).mono ?_
  rintro e w1 ⟨rfl, n, rfl⟩
  exact ⟨rfl, RLeft.of_below h (below_drewN n)⟩

theorem sees_l (rb : Nat) (s : ByteArray) (i z : Nat) (c : UInt8) (w : World) (h : RB w rb s i z) (hs : s.size ≤ 1048576) (hi : i ≤ 1048577) (b : Bool) (hb : sees s i c = b) :
    Calls Tryd.prog 67 #[.pointer (some ⟨rb, 0, Option.none⟩), .int .u8 c.toNat] w fun e w' => e = .returned (.bool b) ∧ RLeft w rb s i z w' := by
  subst hb
  refine (sees_any rb s i z c w h hs hi).mono ?_
  rintro e w1 ⟨rfl, n, rfl⟩
  exact ⟨rfl, RLeft.of_below h (below_drewN n)⟩

theorem thing_step {P : List UInt8 → Ls.Rd} {n : Nat} {l : List Ls.D} {s : ByteArray} {k j : Nat} {d : Ls.D} (hk : k < s.size) (h124 : sees s k 124 = false) (h41 : sees s k 41 = false) (hr : Ls.oneOf P (rest s k) = some (d, rest s j)) (hn : (rest s k).length < n) :
    ∃ n', n = n' + 1 ∧ rowTo P n l (rest s k) = rowTo P n' (l ++ [repD s j d]) (rest s (repAt s j)) := by
  obtain ⟨n', rfl⟩ : ∃ n', n = n' + 1 := ⟨n - 1, by omega⟩
  refine ⟨n', rfl, rowTo_step (stops_of ?_ ?_ ?_ ?_) (rep_thing hr)⟩
  · rw [rest_lt hk]; simp
  · rw [Ne, sees_head, h124]; simp
  · rw [Ne, sees_head, h41]; simp
  · intro e
    rw [rest_lt hk] at hr e
    simp at e
    rw [e] at hr
    simp [Ls.oneOf, Ls.closer] at hr

theorem thing_none {P : List UInt8 → Ls.Rd} {n : Nat} {l : List Ls.D} {s : ByteArray} {k : Nat} (hk : k < s.size) (h124 : sees s k 124 = false) (h41 : sees s k 41 = false) (hr : Ls.oneOf P (rest s k) = .none) : rowTo P n l (rest s k) = .none :=
  rowTo_bad (by rw [rest_lt hk]; simp) (by rw [Ne, sees_head, h124]; simp) (by rw [Ne, sees_head, h41]; simp) hr

set_option maxRecDepth 100000 in
set_option maxHeartbeats 2000000 in
theorem row_go (s : ByteArray) (hs : s.size ≤ 1048576) (a1 : Addr) (z : Nat) (hT : RThingSaid s a1 z) : RowSaid s a1 z := by
  intro rb i w h hE hi
  have hrl := h.lt
  have HT : Hid (RThingSaid s a1 z) := hT
  clear hT
  have HE : Hid _ := hE
  have Hh : Hid _ := h
  clear hE h
  go_enter Tryd.func62, Tryd.ntmps62
  go_wp2_with fail
  go_loopw [3] (fun v wr => ∃ (k n : Nat) (l : List Ls.D) (vs : List Value), i ≤ k ∧ k ≤ s.size ∧ l.length ≤ k ∧ (rest s k).length < n ∧ clean (Ls.things (Ls.pat (12 - z)) ((rest s i).length + 1) (rest s i)) = rowTo (Ls.pat (12 - z)) n l (rest s k) ∧ RLeft w rb s k z wr ∧ Parts w wr v l vs) (fun _ wr => s.size + 1 - atOf wr rb)
  case atStart =>
    exact ⟨i, _, [], [], Nat.le_refl _, hi, by simp, Nat.lt_succ_self _, (rowTo_nil _ _ _).symm, RLeft.of_below Hh.out (Below.refl _ _), Parts.nil _ _⟩
  case round =>
    obtain ⟨k, n, l, vs, hik, hks, hll, hn, hres, hl, hp⟩ := hrel
    have Hres : Hid (clean (Ls.things (Ls.pat (12 - z)) ((rest s i).length + 1) (rest s i)) = rowTo (Ls.pat (12 - z)) n l (rest s k)) := hres
    clear hres
    obtain ⟨x1, x2, x3, rfl⟩ := hp.slice
    have hmes : atOf wr rb = k := atOf_eq hl.lies
    have fin : (rest s k = [] ∨ (rest s k).head? = some 124 ∨ (rest s k).head? = some 41) → ∀ w2, RLeft wr rb s k z w2 → RPost w rb s i z a1 (clean (Ls.things (Ls.pat (12 - z)) ((rest s i).length + 1) (rest s i))) (.returned (rowV (.slice x1 x2 x3))) w2 := by
      intro hstop w2 hl2
      refine .inl ⟨l.foldr Ls.rcons Ls.rnil, k, _, ?_, hik, hks, rfl, ?_, hl.trans hl2⟩
      · rw [Hres.out]
        cases n with
        | zero => omega
        | succ n => exact rowTo_stop hstop
      · have hsh := (hp.kept hl2.grown hrl).shows
        exact .row hsh.1 hsh.2.row
    have Hfin : Hid _ := fin
    clear fin
    have HP : Hid _ := hp
    clear hp
    have HL : Hid _ := hl
    rcases Nat.lt_or_ge k s.size with hk1 | hk1
    · have hD := done_l rb s k z wr hl.lies hs (by omega) false (by simp; omega)
      cases h124 : sees s k 124 with
      | true =>
        have Hst : Hid _ := Hfin.out (.inr (.inl (sees_head.2 h124)))
        have H1 : Hid _ := h124
        clear h124 hl
        go_wp2_with fail
        refine hD.mono ?_
        rintro e w2 ⟨rfl, hl2⟩
        go_wp2_with fail
        refine (sees_l rb s k z 124 w2 hl2.lies hs (by omega) true H1.out).mono ?_
        rintro e w3 ⟨rfl, hl3⟩
        go_wp2_with fail
        go_ret
        exact Hst.out _ (hl2.trans hl3)
      | false =>
        have H1 : Hid _ := h124
        clear h124
        cases h41 : sees s k 41 with
        | true =>
          have Hst : Hid _ := Hfin.out (.inr (.inr (sees_head.2 h41)))
          have H2 : Hid _ := h41
          clear h41 hl
          go_wp2_with fail
          refine hD.mono ?_
          rintro e w2 ⟨rfl, hl2⟩
          go_wp2_with fail
          refine (sees_l rb s k z 124 w2 hl2.lies hs (by omega) false H1.out).mono ?_
          rintro e w3 ⟨rfl, hl3⟩
          go_wp2_with fail
          refine (sees_l rb s k z 41 w3 hl3.lies hs (by omega) true H2.out).mono ?_
          rintro e w4 ⟨rfl, hl4⟩
          go_wp2_with fail
          go_ret
          exact Hst.out _ (hl2.trans (hl3.trans hl4))
        | false =>
          have H2 : Hid _ := h41
          clear h41 hl Hfin
          go_wp2_with fail
          refine hD.mono ?_
          rintro e w2 ⟨rfl, hl2⟩
          go_wp2_with fail
          refine (sees_l rb s k z 124 w2 hl2.lies hs (by omega) false H1.out).mono ?_
          rintro e w3 ⟨rfl, hl3⟩
          go_wp2_with fail
          refine (sees_l rb s k z 41 w3 hl3.lies hs (by omega) false H2.out).mono ?_
          rintro e w4 ⟨rfl, hl4⟩
          have hlx := hl2.trans (hl3.trans hl4)
          have hlw := HL.out.trans hlx
          have hp4 := HP.out.kept hlx.grown hrl
          have HP4 : Hid _ := hp4
          clear hp4 hl2 hl3 hl4
          go_wp2_with fail
          refine (HT.out rb k w4 hlw.lies (HE.out.grown hlw.grown) hks).mono ?_
          rintro e w5 (⟨d, j, x, hr, hkj, hj, rfl, hrep, hl5⟩ | ⟨hr, rfl, hg⟩)
          · obtain ⟨n', rfl, hstep⟩ := thing_step (l := l) hk1 H1.out H2.out hr hn
            have hlt := (Ls.oneOf_suf (Ls.pat_suf _) hr).2
            rw [rest_len, rest_len] at hlt
            have Hstep : Hid _ := hstep
            clear hr hstep
            obtain ⟨ty, y, rfl⟩ := hrep.iface
            have Hrep : Hid _ := hrep
            clear hrep
            go_wp2_with fail
            refine (repeat_any rb s j z ty y w5 hl5.lies hs hj).mono ?_
            rintro e w6 ⟨rfl, hl6⟩
            have hl56 := hl5.trans hl6
            have hrep6 := rep_rep (Hrep.out.mono (w' := w6) (G' := New w4 w6) (fun m hm => ⟨hm.1, Nat.lt_of_lt_of_le hm.2 hl6.grown.size⟩) (fun m hm => hl6.grown.block m hm.2 (by have := hm.1; have := hlw.grown.size; simp; omega))) s j
            have hfit := HP4.out.fits hlw.grown.size hrep6
            have hp6 := HP4.out.kept hl56.grown hrl
            have hlw6 := hlw.trans hl56
            have hbd := repAt_bd hj
            obtain ⟨ty2, y2, hy2⟩ := hrep6.iface
            clear hrep6 hl6 hl5 Hrep
            rw [hy2] at hfit ⊢
            clear hy2
            have hpa := hp6.alloc (.cells #[.iface ty2 y2] 35)
            have hfa : Rep (w6.alloc (.cells #[.iface ty2 y2] 35)) (Els w (w6.alloc (.cells #[.iface ty2 y2] 35)) (.slice x1 x2 x3)) 0 (repD s j d) [.iface ty2 y2] := hfit.mono (fun m hm => ⟨hm.1, by have := hm.2.1; simp; omega, hm.2.2⟩) (fun m hm => Below.heap_alloc _ _ _ hm.2.1)
            have hoa := hpa.own
            have hcn := cells_new1 w6 (.iface ty2 y2) 35
            have hlen := HP4.out.each.length
            obtain ⟨q, hq, hz0, hz1, hzb⟩ := info_parts infoPattern
            have Hpa : Hid _ := hpa
            have Hfa : Hid _ := hfa
            have hz6 := hlw6.grown.size
            clear hpa hfa hfit hp6
            go_wp2_with (at_builtin; refine wpList_append_own2 _ rfl _ _ 115 rfl w.heap.size 35 q _ 1 16 Tryd.underlying115 hq hz0 hz1 hzb rfl (by omega) (.slice x1 x2 x3) vs.length vs rfl hoa ⟨w6.heap.size, 0, Option.none⟩ 1 1 [.iface ty2 y2] rfl ?l1 hcn ?l0 ?l2 ?l3 ?l4 ?l5 ?_)
            case l1 => rfl
            case l0 => intro u hu; simp at hu; subst hu; rfl
            case l2 => unfold maxLen; omega
            case l3 => omega
            case l4 => simp; omega
            case l5 => omega
            intro v' w' ho hg hvv
            go_wp2_with fail
            go_roundw
            case rel =>
              refine ⟨repAt s j, n', l ++ [repD s j d], vs ++ [.iface ty2 y2], by omega, hbd.2, by simp; omega, ?_, Hres.out.trans Hstep.out, ?_, ?_⟩
              · rw [rest_len] at hn ⊢; omega
              · exact (hlw6.below (below_alloc1 _ _)).own hrl hg (fun m e => (hoa.lt m e).1)
              · exact Hpa.out.push Hfa.out hg (by rw [hlen]; exact ho) (by simpa using hvv)
            case measure =>
              have hl7 := (hlw6.below (below_alloc1 w6 (.cells #[.iface ty2 y2] 35))).own hrl hg (fun m e => (hoa.lt m e).1)
              rw [hmes, atOf_eq hl7.lies]
              omega
          · have HR : Hid _ := Hres.out.trans (thing_none hk1 H1.out H2.out hr)
            go_wp2_with fail
            exact ⟨rfl, .inr ⟨HR.out, rfl, grownBy_trans hlw.grown hg⟩⟩
    · have hD := done_l rb s k z wr hl.lies hs (by omega) true (by simp; omega)
      have Hst : Hid _ := Hfin.out (.inl (rest_ge hk1))
      clear hl
      go_wp2_with fail
      refine hD.mono ?_
      rintro e w2 ⟨rfl, hl2⟩
      go_wp2_with fail
      go_ret
      exact Hst.out _ hl2

end Go.Proofs.YtbdjchmnahjjlaaDoor
