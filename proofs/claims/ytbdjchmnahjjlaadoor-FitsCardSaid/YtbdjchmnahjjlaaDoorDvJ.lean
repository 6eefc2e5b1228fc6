import Derived.Test.YtbdjchmnahjjlaaDoorDvI
/- choice of the reader, and all of it. -/
namespace Go.Proofs.YtbdjchmnahjjlaaDoor
open Go.RowKit

theorem pat_succ (n : Nat) (r : List UInt8) : Ls.pat (n + 1) r = Ls.alts (Ls.pat n) (r.length + 1) r := rfl

theorem head_ne {s : ByteArray} {k : Nat} {c : UInt8} (h : sees s k c = false) : (rest s k).head? ≠ some c := by rw [Ne, sees_head, h]; simp

theorem Parts.one {w0 w : World} {a : Ls.D} {ty : TypeId} {y : Value} (hw : w0.heap.size ≤ w.heap.size) (h : Rep w (New w0 w) 0 a [.iface ty y]) : Parts w0 (w.alloc (.cells #[.iface ty y] 35)) (.slice (some ⟨w.heap.size, 0, Option.none⟩) 1 1) [a] [.iface ty y] := by
  refine ⟨World.ownsRow_lit (e := 35) (size := 1) w #[.iface ty y] 1 hw (by unfold maxLen; omega) rfl, .cons (h.mono (fun k hk => ⟨hk.1, by have := hk.2; simp; omega, ?_⟩) (fun k hk => Below.heap_alloc _ _ _ hk.2)) .nil⟩
  have := hk.2
  show some k ≠ some w.heap.size
  simp; omega

set_option maxRecDepth 100000 in
set_option maxHeartbeats 2000000 in
theorem choice_go (s : ByteArray) (hs : s.size ≤ 1048576) (a1 : Addr) (z : Nat) (hz : z ≤ 12) (hR : RowSaid s a1 z) : ChoiceSaid s a1 z := by
  intro rb i w h hE hi
  have hrl := h.lt
  have HR : Hid (RowSaid s a1 z) := hR
  have HE : Hid _ := hE
  have HQ : Hid (clean (Ls.pat (13 - z) (rest s i)) = clean (Ls.alts (Ls.pat (12 - z)) ((rest s i).length + 1) (rest s i))) := by
    show _ = _
    rw [show 13 - z = (12 - z) + 1 from by omega, pat_succ]
  clear hR hE
  go_enter Tryd.func47, Tryd.ntmps47
  go_wp2_with fail
  refine (HR.out rb i w h HE.out hi).mono ?_
  rintro e w1 (⟨d, j, x, hr, hij, hj, rfl, hrep, hl⟩ | ⟨hr, rfl, hg⟩)
  · have Hr : Hid (clean (Ls.pat (13 - z) (rest s i)) = choiceTo (Ls.pat (12 - z)) (rest s i).length [d] (rest s j)) := HQ.out.trans (alts_row hr)
    clear hr
    obtain ⟨ty, y, rfl⟩ := hrep.iface
    have hp := Parts.one hl.grown.size hrep
    have Hp : Hid _ := hp
    clear hp hrep
    go_wp2_with fail
    go_loopw [3] (fun v wr => ∃ (k n : Nat) (l : List Ls.D) (vs : List Value), i ≤ k ∧ k ≤ s.size ∧ l ≠ [] ∧ l.length ≤ k + 1 ∧ (rest s k).length ≤ n ∧ clean (Ls.pat (13 - z) (rest s i)) = choiceTo (Ls.pat (12 - z)) n l (rest s k) ∧ RLeft w rb s k z wr ∧ Parts w wr v l vs) (fun _ wr => s.size + 1 - atOf wr rb)
    case atStart =>
      refine ⟨j, _, [d], _, hij, hj, by simp, by simp, ?_, Hr.out, hl.below (below_alloc1 _ _), Hp.out⟩
      rw [rest_len, rest_len]; omega
    case round =>
      obtain ⟨k, n, l, vs, hik, hks, hle, hll, hn, hres, hlk, hp⟩ := hrel
      have Hres : Hid (clean (Ls.pat (13 - z) (rest s i)) = choiceTo (Ls.pat (12 - z)) n l (rest s k)) := hres
      clear hres Hr Hp
      obtain ⟨x1, x2, x3, rfl⟩ := hp.slice
      have hmes : atOf wr rb = k := atOf_eq hlk.lies
      have HP : Hid _ := hp
      have Hle : Hid _ := hle
      clear hp hle
      cases h124 : sees s k 124 with
      | false =>
        have hS := skip_no rb s k z 124 wr hlk.lies hs (by omega) h124
        have HN : Hid _ := Hres.out.trans (choiceTo_end (head_ne h124))
        clear h124
        go_wp2_with fail
        refine hS.mono ?_
        rintro e w2 ⟨rfl, hl2⟩
        go_wp2_with fail
        go_ret
        have hsh := (HP.out.kept hl2.grown hrl).shows
        exact .inl ⟨chainD l, k, _, HN.out, hik, hks, rfl, .choice hsh.1 (hsh.2.chain Hle.out), hlk.trans hl2⟩
      | true =>
        have hS := skip_yes rb s k z 124 wr hlk.lies hs h124
        have hk1 := (sees_true h124).1
        have H124 : Hid _ := sees_head.2 h124
        clear h124
        go_wp2_with fail
        refine hS.mono ?_
        rintro e w2 ⟨rfl, hl2⟩
        have hlw := hlk.trans hl2
        have HP2 : Hid _ := HP.out.kept hl2.grown hrl
        go_wp2_with fail
        refine (HR.out rb (k + 1) w2 hlw.lies (HE.out.grown hlw.grown) (by omega)).mono ?_
        rintro e w3 (⟨d3, j3, x3', hr3, hkj, hj3, rfl, hrep3, hl3⟩ | ⟨hr3, rfl, hg3⟩)
        · obtain ⟨n', rfl⟩ : ∃ n', n = n' + 1 := ⟨n - 1, by rw [rest_len] at hn; omega⟩
          have Hstep : Hid _ := Hres.out.trans (choiceTo_step H124.out (by rw [rest_tail]; exact hr3))
          clear hr3
          obtain ⟨ty2, y2, rfl⟩ := hrep3.iface
          have hfit := HP2.out.fits hlw.grown.size hrep3
          have hp3 := HP2.out.kept hl3.grown hrl
          have hlw3 := hlw.trans hl3
          have hpa := hp3.alloc (.cells #[.iface ty2 y2] 35)
          have hfa : Rep (w3.alloc (.cells #[.iface ty2 y2] 35)) (Els w (w3.alloc (.cells #[.iface ty2 y2] 35)) (.slice x1 x2 x3)) 0 d3 [.iface ty2 y2] := hfit.mono (fun m hm => ⟨hm.1, by have := hm.2.1; simp; omega, hm.2.2⟩) (fun m hm => Below.heap_alloc _ _ _ hm.2.1)
          have hoa := hpa.own
          have hcn := cells_new1 w3 (.iface ty2 y2) 35
          have hlen := HP2.out.each.length
          obtain ⟨q, hq, hz0, hz1, hzb⟩ := info_parts infoPattern
          have Hpa : Hid _ := hpa
          have Hfa : Hid _ := hfa
          have hz6 := hlw3.grown.size
          clear hpa hfa hfit hp3 hrep3
          go_wp2_with (at_builtin; refine wpList_append_own2 _ rfl _ _ 115 rfl w.heap.size 35 q _ 1 16 Tryd.underlying115 hq hz0 hz1 hzb rfl (by omega) (.slice x1 x2 x3) vs.length vs rfl hoa ⟨w3.heap.size, 0, Option.none⟩ 1 1 [.iface ty2 y2] rfl ?l1 hcn ?l0 ?l2 ?l3 ?l4 ?l5 ?_)
          case l1 => rfl
          case l0 => intro u hu; simp at hu; subst hu; rfl
          case l2 => unfold maxLen; omega
          case l3 => omega
          case l4 => simp; omega
          case l5 => omega
          intro v' w' ho hg hvv
          go_wp2_with fail
          go_roundw
          case rel =>
            refine ⟨j3, n', l ++ [d3], vs ++ [.iface ty2 y2], by omega, hj3, by simp, by simp; omega, ?_, Hstep.out, ?_, ?_⟩
            · rw [rest_len] at hn ⊢; omega
            · exact (hlw3.below (below_alloc1 _ _)).own hrl hg (fun m e => (hoa.lt m e).1)
            · exact Hpa.out.push Hfa.out hg (by rw [hlen]; exact ho) (by simpa using hvv)
          case measure =>
            have hl7 := (hlw3.below (below_alloc1 w3 (.cells #[.iface ty2 y2] 35))).own hrl hg (fun m e => (hoa.lt m e).1)
            rw [hmes, atOf_eq hl7.lies]
            omega
        · have HN : Hid _ := Hres.out.trans (choiceTo_bad H124.out (by rw [rest_tail]; exact hr3))
          go_wp2_with fail
          exact ⟨rfl, .inr ⟨HN.out, rfl, grownBy_trans hlw.grown hg3⟩⟩
  · have HN : Hid (clean (Ls.pat (13 - z) (rest s i)) = .none) := HQ.out.trans (alts_bad hr)
    go_wp2_with fail
    exact ⟨rfl, .inr ⟨HN.out, rfl, hg⟩⟩

theorem choice_step (s : ByteArray) (hs : s.size ≤ 1048576) (a1 : Addr) (z : Nat) (hz : z ≤ 12) (hC : z ≤ 11 → ChoiceSaid s a1 (z + 1)) : ChoiceSaid s a1 z :=
  choice_go s hs a1 z hz (row_go s hs a1 z (rthing_any s hs a1 z hz hC))

theorem choice_any (s : ByteArray) (hs : s.size ≤ 1048576) (a1 : Addr) : (k : Nat) → k ≤ 12 → ChoiceSaid s a1 (12 - k)
  | 0, _ => choice_step s hs a1 12 (Nat.le_refl _) (fun h => by omega)
  | k + 1, hk => by
    have h := choice_any s hs a1 k (by omega)
    refine choice_step s hs a1 (12 - (k + 1)) (by omega) (fun _ => ?_)
    rw [show 12 - (k + 1) + 1 = 12 - k from by omega]
    exact h

end Go.Proofs.YtbdjchmnahjjlaaDoor
