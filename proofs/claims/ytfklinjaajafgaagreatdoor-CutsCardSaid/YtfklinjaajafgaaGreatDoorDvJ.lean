import Derived.Test.YtfklinjaajafgaaGreatDoorDvI
/- choice of the reader, and all of it. -/
namespace Go.Proofs.YtfklinjaajafgaaGreatDoor
open Go.RowKit

theorem pat_succ (n : Nat) (r : List UInt8) : Ls.pat (n + 1) r = Ls.alts (Ls.pat n) (r.length + 1) r := rfl

theorem head_ne {s : ByteArray} {k : Nat} {c : UInt8} (h : sees s k c = false) : (rest s k).head? ≠ some c := by rw [Ne, sees_head, h]; simp

theorem Parts.one {w0 w : World} {a : Ls.D} {ty : TypeId} {y : Value} (hw : w0.heap.size ≤ w.heap.size) (h : Rep w (New w0 w) 0 a [.iface ty y]) : Parts w0 (w.alloc (.cells #[.iface ty y] 89)) (.slice (some ⟨w.heap.size, 0, Option.none⟩) 1 1) [a] [.iface ty y] := by
  refine ⟨World.ownsRow_lit (e := 89) (size := 1) w #[.iface ty y] 1 hw (by unfold maxLen; omega) rfl, .cons (h.mono (fun k hk => ⟨hk.1, by have := hk.2; simp; omega, ?_⟩) (fun k hk => Below.heap_alloc _ _ _ hk.2)) .nil⟩
  have := hk.2
  show some k ≠ some w.heap.size
  simp; omega

set_option maxRecDepth 100000 in
set_option maxHeartbeats 2000000 in
theorem choice_go (s : ByteArray) (hs : s.size ≤ 1048576) (a1 : Addr) (z : Nat) (hz : z ≤ 12) (hR : RowSaid s a1 z) : ChoiceSaid s a1 z := by
  intro rb i w h hE hi
  have hrl := h.lt
  have HR : Hid (RowSaid s a1 z) := hR
  have HE : Hid (Env w rb a1) := hE
  have HQ : Hid (Ls.pat (13 - z) (rest s i) = Ls.alts (Ls.pat (12 - z)) ((rest s i).length + 1) (rest s i)) := by
    show _ = _
    rw [show 13 - z = (12 - z) + 1 from by omega, pat_succ]
  have HI0 : Hid (In 177 w rb s i z (w.alloc (bxO 177 rb))) := In.enter 177 h
  have hz0 : (w.alloc (bxO 177 rb)).heap.size = w.heap.size + 1 := by simp
  have hC0 := HR.out rb i _ HI0.out.lies (HI0.out.env HE.out) hi
  clear hR hE h
  go_enter Tryz.func113, Tryz.ntmps113
  go_wp2_with fail
  generalize w.alloc (bxO 177 rb) = W0 at *
  refine hC0.mono ?_
  rintro e w1 (⟨d, j, x, hr, hij, hj, rfl, hrep, hl⟩ | ⟨hr, rfl, hg⟩)
  · have Hr : Hid (Ls.pat (13 - z) (rest s i) = choiceTo (Ls.pat (12 - z)) (rest s i).length [d] (rest s j)) := HQ.out.trans (alts_row hr)
    clear hr hC0
    obtain ⟨ty, y, rfl⟩ := hrep.iface
    have hI1 := HI0.out.go hl
    have hp := Parts.one hl.grown.size hrep
    have Hp : Hid (Parts W0 (w1.alloc (.cells #[.iface ty y] 89)) (.slice (some ⟨w1.heap.size, 0, Option.none⟩) 1 1) [d] [.iface ty y]) := hp
    have hz1 := hl.grown.size
    clear hp hrep
    go_wp2_with fail
    go_loopw [3] (fun v wr => ∃ (k n : Nat) (l : List Ls.D) (vs : List Value), i ≤ k ∧ k ≤ s.size ∧ l ≠ [] ∧ l.length ≤ k + 1 ∧ (rest s k).length ≤ n ∧ Ls.pat (13 - z) (rest s i) = choiceTo (Ls.pat (12 - z)) n l (rest s k) ∧ In 177 w rb s k z wr ∧ W0.heap.size ≤ wr.heap.size ∧ Parts W0 wr v l vs) (fun _ wr => s.size + 1 - atOf wr rb)
    case atStart =>
      refine ⟨j, _, [d], _, hij, hj, by simp, by simp, ?_, Hr.out, hI1.below (below_alloc1 _ _), by simp; omega, Hp.out⟩
      rw [rest_len, rest_len]; omega
    case round =>
      obtain ⟨k, n, l, vs, hik, hks, hle, hll, hn, hres, hlk, hzr, hp⟩ := hrel
      have Hres : Hid (Ls.pat (13 - z) (rest s i) = choiceTo (Ls.pat (12 - z)) n l (rest s k)) := hres
      clear hres Hr Hp HI0
      obtain ⟨x1, x2, x3, rfl⟩ := hp.slice
      have hmes : atOf wr rb = k := atOf_eq hlk.lies
      have HP : Hid (Parts W0 wr (.slice x1 x2 x3) l vs) := hp
      have Hle : Hid (l ≠ []) := hle
      have b0 := hlk.cell
      clear hp hle
      cases h124 : sees s k 124 with
      | false =>
        have hS := skip_no rb s k z 124 wr hlk.lies hs (by omega) h124
        have HN : Hid (Ls.pat (13 - z) (rest s i) = some (chainD l, rest s k)) := Hres.out.trans (choiceTo_end (head_ne h124))
        clear h124
        go_wp2_with fail
        refine hS.mono ?_
        rintro e w2 ⟨rfl, hl2⟩
        go_wp2_with fail
        go_ret
        have hsh := (HP.out.kept hl2.grown (by omega)).shows
        have hm : ∀ m, New W0 w2 m → New w w2 m := fun m hm => ⟨by have := hm.1; omega, hm.2⟩
        exact .inl ⟨chainD l, k, _, HN.out, hik, hks, rfl, .choice (hsh.1.mono hm (fun _ _ => rfl)) ((hsh.2.mono hm (fun _ _ => rfl)).chain Hle.out), (hlk.go hl2).left⟩
      | true =>
        have hS := skip_yes rb s k z 124 wr hlk.lies hs h124
        have hk1 := (sees_true h124).1
        have H124 : Hid ((rest s k).head? = some 124) := sees_head.2 h124
        clear h124
        go_wp2_with fail
        refine hS.mono ?_
        rintro e w2 ⟨rfl, hl2⟩
        have hlw := hlk.go hl2
        have HP2 : Hid (Parts W0 w2 (.slice x1 x2 x3) l vs) := HP.out.kept hl2.grown (by omega)
        have hz2 := hl2.grown.size
        have b2 := hlw.cell
        clear b0
        go_wp2_with fail
        refine (HR.out rb (k + 1) w2 hlw.lies (hlw.env HE.out) (by omega)).mono ?_
        rintro e w3 (⟨d3, j3, x3', hr3, hkj, hj3, rfl, hrep3, hl3⟩ | ⟨hr3, rfl, hg3⟩)
        · obtain ⟨n', rfl⟩ : ∃ n', n = n' + 1 := ⟨n - 1, by rw [rest_len] at hn; omega⟩
          have Hstep : Hid (Ls.pat (13 - z) (rest s i) = choiceTo (Ls.pat (12 - z)) n' (l ++ [d3]) (rest s j3)) := Hres.out.trans (choiceTo_step H124.out (by rw [rest_tail]; exact hr3))
          clear hr3
          obtain ⟨ty2, y2, rfl⟩ := hrep3.iface
          have hfit := HP2.out.fits (by omega) hrep3
          have hp3 := HP2.out.kept hl3.grown (by omega)
          have hlw3 := hlw.go hl3
          have hpa := hp3.alloc (.cells #[.iface ty2 y2] 89)
          have hfa : Rep (w3.alloc (.cells #[.iface ty2 y2] 89)) (Els W0 (w3.alloc (.cells #[.iface ty2 y2] 89)) (.slice x1 x2 x3)) 0 d3 [.iface ty2 y2] := hfit.mono (fun m hm => ⟨hm.1, by have := hm.2.1; simp; omega, hm.2.2⟩) (fun m hm => Below.heap_alloc _ _ _ hm.2.1)
          have hoa := hpa.own
          have hcn := cells_new1 w3 (.iface ty2 y2) 89
          have hlen := HP2.out.each.length
          obtain ⟨q, hq, hq0, hq1, hqb⟩ := info_parts infoPattern
          have Hpa : Hid (Parts W0 (w3.alloc (.cells #[.iface ty2 y2] 89)) (.slice x1 x2 x3) l vs) := hpa
          have Hfa : Hid (Rep (w3.alloc (.cells #[.iface ty2 y2] 89)) (Els W0 (w3.alloc (.cells #[.iface ty2 y2] 89)) (.slice x1 x2 x3)) 0 d3 [.iface ty2 y2]) := hfa
          have hz3 := hl3.grown.size
          clear hpa hfa hfit hp3 hrep3
          go_wp2_with (at_builtin; refine wpList_append_own2 _ rfl _ _ 182 rfl W0.heap.size 89 q _ 1 16 Tryz.underlying182 hq hq0 hq1 hqb rfl (by omega) (.slice x1 x2 x3) vs.length vs rfl hoa ⟨w3.heap.size, 0, Option.none⟩ 1 1 [.iface ty2 y2] rfl ?l1 hcn ?l0 ?l2 ?l3 ?l4 ?l5 ?_)
          case l1 => rfl
          case l0 => intro u hu; simp at hu; subst hu; rfl
          case l2 => unfold maxLen; omega
          case l3 => omega
          case l4 => simp; omega
          case l5 => omega
          intro v' w' ho hg hvv
          have hI7 := (hlw3.below (below_alloc1 w3 (.cells #[.iface ty2 y2] 89))).own hg (fun m e => by have := (hoa.lt m e).1; omega)
          have hz7 := hg.size
          simp at hz7
          go_wp2_with fail
          go_roundw
          case rel =>
            refine ⟨j3, n', l ++ [d3], vs ++ [.iface ty2 y2], by omega, hj3, by simp, by simp; omega, ?_, Hstep.out, hI7, by omega, ?_⟩
            · rw [rest_len] at hn ⊢; omega
            · exact Hpa.out.push Hfa.out hg (by rw [hlen, hz0]; exact ho) (by simpa using hvv)
          case measure =>
            rw [hmes, atOf_eq hI7.lies]
            omega
        · have HN : Hid (Ls.pat (13 - z) (rest s i) = .none) := Hres.out.trans (choiceTo_bad H124.out (by rw [rest_tail]; exact hr3))
          go_wp2_with fail
          exact ⟨rfl, .inr ⟨HN.out, rfl, hlw.threw rfl hg3⟩⟩
  · have HN : Hid (Ls.pat (13 - z) (rest s i) = .none) := HQ.out.trans (alts_bad hr)
    go_wp2_with fail
    exact ⟨rfl, .inr ⟨HN.out, rfl, HI0.out.threw rfl hg⟩⟩

theorem choice_step (s : ByteArray) (hs : s.size ≤ 1048576) (a1 : Addr) (z : Nat) (hz : z ≤ 12) (hC : z ≤ 11 → ChoiceSaid s a1 (z + 1)) : ChoiceSaid s a1 z :=
  choice_go s hs a1 z hz (row_go s hs a1 z (rthing_any s hs a1 z hz hC))

theorem choice_any (s : ByteArray) (hs : s.size ≤ 1048576) (a1 : Addr) : (k : Nat) → k ≤ 12 → ChoiceSaid s a1 (12 - k)
  | 0, _ => choice_step s hs a1 12 (Nat.le_refl _) (fun h => by omega)
  | k + 1, hk => by
    have h := choice_any s hs a1 k (by omega)
    refine choice_step s hs a1 (12 - (k + 1)) (by omega) (fun _ => ?_)
    rw [show 12 - (k + 1) + 1 = 12 - k from by omega]
    exact h

end Go.Proofs.YtfklinjaajafgaaGreatDoor
