import Derived.Test.YtfklinjaajafgaaGreatDoorDvH
import Derived.Deep.AppendLies
/- row of the reader. -/
namespace Go.Proofs.YtfklinjaajafgaaGreatDoor
open Go.RowKit

/-- What row answers. -/
def RowSaid (s : ByteArray) (a1 : Addr) (z : Nat) : Prop := ∀ (rb i : Nat) (w : World), RB w rb s i z → Env w rb a1 → i ≤ s.size →
  Calls Tryz.prog 127 #[rdV rb] w (RPost w rb s i z a1 (Ls.things (Ls.pat (12 - z)) ((rest s i).length + 1) (rest s i)))

theorem done_l (rb : Nat) (s : ByteArray) (i z : Nat) (w : World) (h : RB w rb s i z) (hs : s.size ≤ 1048576) (hi : i ≤ 1048577) (b : Bool) (hb : decide (s.size ≤ i) = b) :
    Calls Tryz.prog 102 #[.pointer (some ⟨rb, 0, Option.none⟩)] w fun e w' => e = .returned (.bool b) ∧ RLeft w rb s i z w' := by
  subst hb
  refine (done_any rb s i z w h hs hi).mono ?_
  rintro e w1 ⟨rfl, n, rfl⟩
  exact ⟨rfl, RLeft.of_below h (below_drewN n)⟩

/-- Some bytes, that lie in the newest block. -/
theorem sees_new (cs : List UInt8) (vs : Array Value) (hvs : vs = (cs.map fun c => Value.int .u8 c.toNat).toArray) (n : Nat) (hn : n = cs.length) (hcs : cs.length ≤ 8) (rb : Nat) (s : ByteArray) (i z : Nat) (w : World) (t : TypeId) (h : RB w rb s i z) (hs : s.size ≤ 1048576) (hi : i ≤ 1048577) (b : Bool) (hb : cs.any (sees s i) = b) :
    Calls Tryz.prog 131 #[.pointer (some ⟨rb, 0, Option.none⟩), .slice (some ⟨w.heap.size, 0, Option.none⟩) n n] (w.alloc (.cells vs t)) fun e w' => e = .returned (.bool b) ∧ RLeft w rb s i z w' := by
  subst hb hn hvs
  refine (sees_few rb s i z cs w.heap.size _ (h.below (below_alloc1 _ _)) hcs (by simp) (fun k hk => ?_) hs hi).mono ?_
  · have := heap_alloc_new w (.cells (cs.map fun c => Value.int .u8 c.toNat).toArray t)
    show World.cell? _ ⟨w.heap.size, k, Option.none⟩ = _
    unfold World.cell?
    rw [this]
    simp [hk]
  · rintro e w1 ⟨rfl, hb⟩
    exact ⟨rfl, RLeft.of_below h (Below.join (below_alloc1 _ _) hb)⟩

theorem thing_step {P : List UInt8 → Ls.Rd} {n : Nat} {l : List Ls.D} {s : ByteArray} {k j : Nat} {d : Ls.D} (hst : Ls.stops (rest s k) = false) (hr : Ls.oneOf P (rest s k) = some (d, rest s j)) (hn : (rest s k).length < n) :
    ∃ n', n = n' + 1 ∧ rowTo P n l (rest s k) = rowTo P n' (l ++ [repD s j d]) (rest s (repAt s j)) := by
  obtain ⟨n', rfl⟩ : ∃ n', n = n' + 1 := ⟨n - 1, by omega⟩
  exact ⟨n', rfl, rowTo_step hst (rep_thing hr)⟩

theorem In.own {T : TypeId} {w w1 w2 : World} {rb : Nat} {s : ByteArray} {a z : Nat} (h : In T w rb s a z w1) {r : Option Nat} (hg : w1.grownBy w2 r) (hk : ∀ k, r = some k → w.heap.size < k) : In T w rb s a z w2 := by
  refine ⟨h.left.own h.old hg (fun k e => Nat.le_of_lt (hk k e)), ⟨?_⟩, h.old⟩
  rw [hg.block _ h.size (fun e => by have := hk _ e.symm; omega)]
  exact h.box.lies

set_option maxRecDepth 100000 in
set_option maxHeartbeats 4000000 in
theorem row_go (s : ByteArray) (hs : s.size ≤ 1048576) (a1 : Addr) (z : Nat) (hT : RThingSaid s a1 z) : RowSaid s a1 z := by
  intro rb i w h hE hi
  have hrl := h.lt
  have HT : Hid (RThingSaid s a1 z) := hT
  clear hT
  have HE : Hid (Env w rb a1) := hE
  have HI0 : Hid (In 177 w rb s i z (w.alloc (bxO 177 rb))) := In.enter 177 h
  have hz0 : (w.alloc (bxO 177 rb)).heap.size = w.heap.size + 1 := by simp
  clear hE h
  go_enter Tryz.func127, Tryz.ntmps127
  go_wp2_with fail
  generalize w.alloc (bxO 177 rb) = W0 at *
  go_loopw [3] (fun v wr => ∃ (k n : Nat) (l : List Ls.D) (vs : List Value), i ≤ k ∧ k ≤ s.size ∧ l.length ≤ k ∧ (rest s k).length < n ∧ Ls.things (Ls.pat (12 - z)) ((rest s i).length + 1) (rest s i) = rowTo (Ls.pat (12 - z)) n l (rest s k) ∧ In 177 w rb s k z wr ∧ W0.heap.size ≤ wr.heap.size ∧ Parts W0 wr v l vs) (fun _ wr => s.size + 1 - atOf wr rb)
  case atStart =>
    exact ⟨i, _, [], [], Nat.le_refl _, hi, by simp, Nat.lt_succ_self _, (rowTo_nil _ _ _).symm, HI0.out, Nat.le_refl _, Parts.nil _ _⟩
  case round =>
    obtain ⟨k, n, l, vs, hik, hks, hll, hn, hres, hj, hzr, hp⟩ := hrel
    have Hres : Hid (Ls.things (Ls.pat (12 - z)) ((rest s i).length + 1) (rest s i) = rowTo (Ls.pat (12 - z)) n l (rest s k)) := hres
    clear hres HI0
    obtain ⟨x1, x2, x3, rfl⟩ := hp.slice
    have hmes : atOf wr rb = k := atOf_eq hj.lies
    have fin : Ls.stops (rest s k) = true → ∀ w2, RLeft wr rb s k z w2 → RPost w rb s i z a1 (Ls.things (Ls.pat (12 - z)) ((rest s i).length + 1) (rest s i)) (.returned (rowV (.slice x1 x2 x3))) w2 := by
      intro hstop w2 hl2
      refine .inl ⟨l.foldr Ls.rcons Ls.rnil, k, _, ?_, hik, hks, rfl, ?_, (hj.go hl2).left⟩
      · rw [Hres.out]
        cases n with
        | zero => omega
        | succ n => exact rowTo_stop hstop
      · have hsh := (hp.kept hl2.grown (by omega)).shows
        have hm : ∀ m, New W0 w2 m → New w w2 m := fun m hm => ⟨by have := hm.1; omega, hm.2⟩
        exact .row (hsh.1.mono hm (fun _ _ => rfl)) (hsh.2.mono hm (fun _ _ => rfl)).row
    have Hfin : Hid (Ls.stops (rest s k) = true → ∀ w2, RLeft wr rb s k z w2 → RPost w rb s i z a1 (Ls.things (Ls.pat (12 - z)) ((rest s i).length + 1) (rest s i)) (.returned (rowV (.slice x1 x2 x3))) w2) := fin
    clear fin
    have HP : Hid (Parts W0 wr (.slice x1 x2 x3) l vs) := hp
    clear hp
    have b0 := hj.cell
    rcases Nat.lt_or_ge k s.size with hk1 | hk1
    · have hD := done_l rb s k z wr hj.lies hs (by omega) false (by simp; omega)
      have hst := stops_sees hk1
      cases hse : Ls.stops (rest s k) with
      | true =>
        rw [hse] at hst
        have Hst : Hid (∀ w2, RLeft wr rb s k z w2 → RPost w rb s i z a1 (Ls.things (Ls.pat (12 - z)) ((rest s i).length + 1) (rest s i)) (.returned (rowV (.slice x1 x2 x3))) w2) := Hfin.out hse
        have HSe : Hid (([124, 41, 47] : List UInt8).any (sees s k) = true) := hst
        clear hst hse Hfin
        go_wp2_with fail
        refine hD.mono ?_
        rintro e w2 ⟨rfl, hl2⟩
        have b2 := (hj.go hl2).cell
        go_wp2_with fail
        refine (sees_new [124, 41, 47] _ rfl 3 rfl (by decide) rb s k z w2 _ hl2.lies hs (by omega) true HSe.out).mono ?_
        rintro e w3 ⟨rfl, hl3⟩
        go_wp2_with fail
        go_ret
        exact Hst.out _ (hl2.trans hl3)
      | false =>
        rw [hse] at hst
        have HSe : Hid (([124, 41, 47] : List UInt8).any (sees s k) = false) := hst
        have Hse : Hid (Ls.stops (rest s k) = false) := hse
        clear hst hse Hfin
        go_wp2_with fail
        refine hD.mono ?_
        rintro e w2 ⟨rfl, hl2⟩
        have b2 := (hj.go hl2).cell
        go_wp2_with fail
        refine (sees_new [124, 41, 47] _ rfl 3 rfl (by decide) rb s k z w2 _ hl2.lies hs (by omega) false HSe.out).mono ?_
        rintro e w4 ⟨rfl, hl4⟩
        have hlx := hl2.trans hl4
        have hj4 := hj.go hlx
        have HP4 : Hid (Parts W0 w4 (.slice x1 x2 x3) l vs) := HP.out.kept hlx.grown (by omega)
        have hz4 := hlx.grown.size
        have b4 := hj4.cell
        have HJ4 : Hid (In 177 w rb s k z w4) := hj4
        clear hl2 hl4 hlx b0 b2 hD hj hj4
        go_wp2_with fail
        cases hr : Ls.oneOf (Ls.pat (12 - z)) (rest s k) with
        | none =>
          have HR : Hid (Ls.things (Ls.pat (12 - z)) ((rest s i).length + 1) (rest s i) = .none) := Hres.out.trans (rowTo_bad Hse.out hr)
          have HN : Hid (∀ W, Below w4.heap.size w4 W → Calls Tryz.prog 141 #[rdV rb] W (Threw w rb a1)) := by
            intro W hW
            have hJ := HJ4.out.below hW
            refine (HT.out rb k W hJ.lies (hJ.env HE.out) hks).mono ?_
            rintro e w' (⟨d, j, x, hr2, _⟩ | ⟨_, rfl, hg⟩)
            · rw [hr] at hr2; cases hr2
            · exact ⟨rfl, hJ.threw rfl hg⟩
          clear hr
          refine wp_region_held_drew (S := fun w' => w'.cell? ⟨w.heap.size, 0, Option.none⟩ = some (.pointer (some ⟨rb, 0, Option.none⟩))) (by kernel_rfl) (by simp [b4]) (fun hHeld => ?_)
          refine wpAnyH_take (i := 0) (oi := ⟨_, _, _, _, _, _⟩) (v := .slice x1 x2 x3) rfl (by kernel_rfl) (by kernel_rfl) (by kernel_rfl) (fun _ _ _ h => h) (Or.inl ⟨by rfl, fun w' hSw => by go_simp⟩) hHeld ?_
          simp only [Act.put, List.setIfInBounds_toArray, List.set_cons_zero, List.set_cons_succ]
          refine wpAnyH_take (i := 1) (oi := ⟨_, _, _, _, _, _⟩) (v := rdV rb) rfl (by kernel_rfl) (by kernel_rfl) (by kernel_rfl) (fun _ _ _ h => h) (Or.inl ⟨by rfl, fun w' hSw => by go_simp⟩) hHeld ?_
          simp only [Act.put, List.setIfInBounds_toArray, List.set_cons_zero, List.set_cons_succ]
          refine wpAnyH_take (i := 2) (oi := ⟨_, _, _, _, _, _⟩) (v := rdV rb) rfl (by kernel_rfl) (by kernel_rfl) (by kernel_rfl) (fun _ _ _ h => h) (Or.inl ⟨by rfl, fun w' hSw => by go_simp⟩) hHeld ?_
          simp only [Act.put, List.setIfInBounds_toArray, List.set_cons_zero, List.set_cons_succ]
          refine wpAnyH_ready (rs := [3]) (by kernel_rfl) (by simp) (AllReadyH.cons (o := ⟨_, _, _, _, _, _⟩) rfl (fun K hK => ?_) AllReadyH.nil)
          go_simp
          refine (HN.out _ (Below.refl _ _).drew).mono ?_
          rintro e w5 ⟨rfl, hg⟩
          go_wp2_with fail
          exact ⟨rfl, .inr ⟨HR.out, rfl, hg⟩⟩
        | some q =>
          obtain ⟨d, t⟩ := q
          have HN : Hid (∀ W, Below w4.heap.size w4 W → Calls Tryz.prog 141 #[rdV rb] W fun e w' => ∃ ty x j, e = .returned (.iface ty x) ∧ t = rest s j ∧ k ≤ j ∧ j ≤ s.size ∧ In 177 w rb s j z w' ∧ W0.heap.size ≤ w'.heap.size ∧ Parts W0 w' (.slice x1 x2 x3) l vs ∧ Rep w' (Els W0 w' (.slice x1 x2 x3)) 0 d [.iface ty x]) := by
            intro W hW
            have hJ := HJ4.out.below hW
            have hPW : Parts W0 W (.slice x1 x2 x3) l vs := HP4.out.kept (rb := rb) (grownBy_of_below hW _) (by omega)
            refine (HT.out rb k W hJ.lies (hJ.env HE.out) hks).mono ?_
            rintro e w' (⟨d', j, x, hr2, hkj, hjs, rfl, hrep, hl5⟩ | ⟨hr2, _⟩)
            · rw [hr] at hr2
              simp at hr2
              obtain ⟨rfl, rfl⟩ := hr2
              obtain ⟨ty, y, rfl⟩ := hrep.iface
              have hWz : W0.heap.size ≤ W.heap.size := Nat.le_trans (by omega) hW.size
              exact ⟨ty, y, j, rfl, rfl, hkj, hjs, hJ.go hl5, Nat.le_trans hWz hl5.grown.size, hPW.kept hl5.grown (by omega), hPW.fits hWz hrep⟩
            · rw [hr] at hr2; cases hr2
          have HQ : Hid (∀ (W : World) (ty : TypeId) (x : Value) (j : Nat), In 177 w rb s j z W → W0.heap.size ≤ W.heap.size → j ≤ s.size → Parts W0 W (.slice x1 x2 x3) l vs → Rep W (Els W0 W (.slice x1 x2 x3)) 0 d [.iface ty x] → Calls Tryz.prog 140 #[rdV rb, .iface ty x] W fun e w' => ∃ ty2 y2, e = .returned (.iface ty2 y2) ∧ In 177 w rb s (repAt s j) z w' ∧ W0.heap.size ≤ w'.heap.size ∧ Parts W0 w' (.slice x1 x2 x3) l vs ∧ Rep w' (Els W0 w' (.slice x1 x2 x3)) 0 (repD s j d) [.iface ty2 y2]) := by
            intro W ty x j hJ hWz hjs hPW hrep
            refine (repeat_any rb s j z ty x W hJ.lies hs hjs).mono ?_
            rintro e w' ⟨rfl, hl6⟩
            have hrep6 : Rep w' (Els W0 w' (.slice x1 x2 x3)) 0 d [.iface ty x] := hrep.mono (fun m hm => ⟨hm.1, Nat.lt_of_lt_of_le hm.2.1 hl6.grown.size, hm.2.2⟩) (fun m hm => hl6.grown.block m hm.2.1 (by have := hm.1; simp; omega))
            have hr6 := rep_rep hrep6 s j
            obtain ⟨ty2, y2, hy2⟩ := hr6.iface
            rw [hy2] at hr6
            exact ⟨ty2, y2, by rw [hy2], hJ.go hl6, Nat.le_trans hWz hl6.grown.size, hPW.kept hl6.grown (by omega), hr6⟩
          have HStep : Hid (∀ j, t = rest s j → ∃ n', n = n' + 1 ∧ Ls.things (Ls.pat (12 - z)) ((rest s i).length + 1) (rest s i) = rowTo (Ls.pat (12 - z)) n' (l ++ [repD s j d]) (rest s (repAt s j)) ∧ s.size - j < s.size - k) := by
            rintro j rfl
            obtain ⟨n', e1, e2⟩ := thing_step (l := l) Hse.out hr hn
            refine ⟨n', e1, Hres.out.trans e2, ?_⟩
            have hlt := (Ls.oneOf_suf (Ls.pat_suf _) hr).2
            rw [rest_len, rest_len] at hlt
            exact hlt
          have hlen := HP4.out.each.length
          obtain ⟨q, hq, hq0, hq1, hqb⟩ := info_parts infoPattern
          clear hr Hres
          go_region_held3 (fun w' => w'.cell? ⟨w.heap.size, 0, Option.none⟩ = some (.pointer (some ⟨rb, 0, Option.none⟩))) (first | assumption | go_keep | exact (hj6.below (below_alloc1 _ _)).cell)
            (first
              | (go_at_call 141; refine (HN.out _ ?_).mono ?_; exact (Below.refl _ _).drew; rintro e w5 ⟨ty, x, j, rfl, hjt, hkj, hjs, hj5, hz5, hp5, hrep5⟩; have b5 := hj5.cell)
              | (go_at_call 140; refine (HQ.out _ ty x j hj5 hz5 hjs hp5 hrep5).mono ?_; rintro e w6 ⟨ty2, y2, rfl, hj6, hz6, hp6, hrep6⟩; have b6 := hj6.cell)
              | (refine step_append_lies _ (by rfl) _ _ _ (by rfl) W0.heap.size 89 q _ 1 16 Tryz.underlying182 hq hq0 hq1 hqb rfl (by omega) (.slice x1 x2 x3) vs.length vs (by rfl) (hp6.alloc _).own ⟨w6.heap.size, 0, Option.none⟩ 1 1 [.iface ty2 y2] (by rfl) (by rfl) (cells_new1 w6 (.iface ty2 y2) 89) (by simp [Value.oneCell']) (by omega) (by unfold maxLen; omega) (by omega) (by simp; omega) (w6.heap.size + 1) (by simp) ?_; intro gg cap w7 hown7 hgrow hat hlt7; have hj7 := (hj6.below (below_alloc1 w6 (.cells #[.iface ty2 y2] 89))).own hgrow (fun m e => by have := ((hp6.alloc (.cells #[.iface ty2 y2] 89)).own.lt m e).1; omega); have b7 := hj7.cell))
          all_goals
            obtain ⟨n', rfl, hres7, hlt⟩ := HStep.out j hjt
            have Hres7 : Hid (Ls.things (Ls.pat (12 - z)) ((rest s i).length + 1) (rest s i) = rowTo (Ls.pat (12 - z)) n' (l ++ [repD s j d]) (rest s (repAt s j))) := hres7
            have hbd := repAt_bd hjs
            have hpa := hp6.alloc (.cells #[.iface ty2 y2] 89)
            have hfa : Rep (w6.alloc (.cells #[.iface ty2 y2] 89)) (Els W0 (w6.alloc (.cells #[.iface ty2 y2] 89)) (.slice x1 x2 x3)) 0 (repD s j d) [.iface ty2 y2] := hrep6.mono (fun m hm => ⟨hm.1, by have := hm.2.1; simp; omega, hm.2.2⟩) (fun m hm => Below.heap_alloc _ _ _ hm.2.1)
            have HP7 : Hid (Parts W0 w7 (.slice (some ⟨gg, 0, Option.none⟩) (l.length + 1) cap) (l ++ [repD s j d]) (vs ++ [.iface ty2 y2])) := by
              show Parts _ _ _ _ _
              rw [← hlen]
              refine hpa.push hfa hgrow hown7 ?_
              rcases hat with e | e
              · exact .inl e.symm
              · exact .inr ⟨gg, rfl, by simp; omega⟩
            have hz7 := hgrow.size
            simp at hz7
            have HM7 : Hid (atOf w7 rb = repAt s j) := atOf_eq hj7.lies
            clear hpa hfa hgrow hown7 hat hrep6 hrep5 hp5 hp6 hres7 HStep HN HQ
            go_wp2_with fail
            go_roundw
            case rel =>
              refine ⟨repAt s j, n', l ++ [repD s j d], vs ++ [.iface ty2 y2], by omega, hbd.2, by simp; omega, ?_, Hres7.out, hj7, by omega, HP7.out⟩
              rw [rest_len] at hn ⊢; omega
            case measure =>
              rw [hmes, HM7.out]
              omega
    · have hD := done_l rb s k z wr hj.lies hs (by omega) true (by simp; omega)
      have Hst : Hid (∀ w2, RLeft wr rb s k z w2 → RPost w rb s i z a1 (Ls.things (Ls.pat (12 - z)) ((rest s i).length + 1) (rest s i)) (.returned (rowV (.slice x1 x2 x3))) w2) := Hfin.out (stops_end hk1)
      clear Hfin
      go_wp2_with fail
      refine hD.mono ?_
      rintro e w2 ⟨rfl, hl2⟩
      go_wp2_with fail
      go_ret
      exact Hst.out _ hl2

end Go.Proofs.YtfklinjaajafgaaGreatDoor
