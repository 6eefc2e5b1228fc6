import Derived.Test.YtfklinjaajafgaaGreatDoorRdrB
/- repeat, inner and thing of the reader. -/
namespace Go.Proofs.YtfklinjaajafgaaGreatDoor
open Go.RowKit

theorem Rep.iface {w : World} {G : Nat → Prop} {d : Ls.D} {v : Value} (h : Rep w G 0 d [v]) : ∃ t x, v = .iface t x := by
  rcases h.at0 with ⟨_, _, _, _, _, rfl⟩ | ⟨_, _, _, _, _, _, rfl⟩ | ⟨_, _, _, _, rfl⟩ | ⟨_, _, _, _, rfl⟩ <;> exact ⟨_, _, rfl⟩

def repVal (s : ByteArray) (i : Nat) (v : Value) : Value := if sees s i 42 = true then repV v true true else if sees s i 43 = true then repV v false true else if sees s i 63 = true then repV v true false else v
def repD (s : ByteArray) (i : Nat) (d : Ls.D) : Ls.D := if sees s i 42 = true then Ls.rep 5 d else if sees s i 43 = true then Ls.rep 6 d else if sees s i 63 = true then Ls.rep 7 d else d
def repAt (s : ByteArray) (i : Nat) : Nat := if sees s i 42 = true then i + 1 else if sees s i 43 = true then i + 1 else if sees s i 63 = true then i + 1 else i

theorem rep_thing {P : List UInt8 → Ls.Rd} {r : List UInt8} {s : ByteArray} {j : Nat} {d : Ls.D} (h : Ls.oneOf P r = some (d, rest s j)) : Ls.thing P r = some (repD s j d, rest s (repAt s j)) := by
  rw [Ls.thing, h]
  dsimp only
  unfold repD repAt
  cases h1 : sees s j 42 with
  | true => rw [if_pos (sees_head.2 h1), rest_tail]; simp
  | false =>
    rw [if_neg (by rw [sees_head, h1]; simp)]
    cases h2 : sees s j 43 with
    | true => rw [if_pos (sees_head.2 h2), rest_tail]; simp
    | false =>
      rw [if_neg (by rw [sees_head, h2]; simp)]
      cases h3 : sees s j 63 with
      | true => rw [if_pos (sees_head.2 h3), rest_tail]; simp
      | false => rw [if_neg (by rw [sees_head, h3]; simp)]; simp

theorem rep_rep {w : World} {G : Nat → Prop} {d : Ls.D} {v : Value} (h : Rep w G 0 d [v]) (s : ByteArray) (i : Nat) : Rep w G 0 (repD s i d) [repVal s i v] := by
  unfold repD repVal
  split
  · exact .rep (t := 5) (by simp) h
  · split
    · exact .rep (t := 6) (by simp) h
    · split
      · exact .rep (t := 7) (by simp) h
      · exact h

theorem repAt_bd {s : ByteArray} {i : Nat} (h : i ≤ s.size) : i ≤ repAt s i ∧ repAt s i ≤ s.size := by
  unfold repAt
  have h1 : ∀ c, sees s i c = true → i < s.size := fun c hc => (sees_true hc).1
  split
  · rename_i h2; have := h1 _ h2; omega
  · split
    · rename_i h2; have := h1 _ h2; omega
    · split
      · rename_i h2; have := h1 _ h2; omega
      · omega

set_option maxRecDepth 100000 in
set_option maxHeartbeats 400000 in
theorem many_any (ty : TypeId) (x : Value) (w : World) :
    Calls Tryz.prog 159 #[.iface ty x] w fun e w' => e = .returned (repV (.iface ty x) true true) ∧ w' = w := by
  go_enter Tryz.func159, Tryz.ntmps159
  go_wp2_with fail
  go_ret
  exact ⟨rfl, rfl⟩

set_option maxRecDepth 100000 in
set_option maxHeartbeats 1000000 in
theorem repeat_any (rb : Nat) (s : ByteArray) (i z : Nat) (ty : TypeId) (x : Value) (w : World) (h : RB w rb s i z) (hs : s.size ≤ 1048576) (hi : i ≤ s.size) :
    Calls Tryz.prog 140 #[rdV rb, .iface ty x] w fun e w' => e = .returned (repVal s i (.iface ty x)) ∧ RLeft w rb s (repAt s i) z w' := by
  have HI0 : Hid (In 177 w rb s i z (w.alloc (bxO 177 rb))) := In.enter 177 h
  cases h1 : sees s i 42 with
  | true =>
    have HV : Hid (repVal s i (.iface ty x) = repV (.iface ty x) true true ∧ repAt s i = i + 1) := by simp [Hid, repVal, repAt, h1]
    have hc := skip_yes rb s i z 42 _ HI0.out.lies hs h1
    clear h1
    go_enter Tryz.func140, Tryz.ntmps140
    go_wp2_with fail
    refine hc.mono ?_
    rintro e w1 ⟨rfl, hl⟩
    go_wp2_with fail
    refine (many_any ty x _).mono ?_
    rintro e w2 ⟨rfl, rfl⟩
    go_wp2_with fail
    go_ret
    rw [HV.out.1, HV.out.2]
    exact ⟨rfl, (HI0.out.go hl).left⟩
  | false =>
    have hc1 := skip_no rb s i z 42 _ HI0.out.lies hs (by omega) h1
    cases h2 : sees s i 43 with
    | true =>
      have HV : Hid (repVal s i (.iface ty x) = repV (.iface ty x) false true ∧ repAt s i = i + 1) := by simp [Hid, repVal, repAt, h1, h2]
      clear h1
      have H2 : Hid (sees s i 43 = true) := h2
      clear h2
      go_enter Tryz.func140, Tryz.ntmps140
      go_wp2_with fail
      refine hc1.mono ?_
      rintro e w1 ⟨rfl, hl⟩
      have hi1 := HI0.out.go hl
      have b1 := hi1.cell
      go_wp2_with fail
      refine (skip_yes rb s i z 43 w1 hl.lies hs H2.out).mono ?_
      rintro e w2 ⟨rfl, hl2⟩
      go_wp2_with fail
      go_ret
      rw [HV.out.1, HV.out.2]
      exact ⟨rfl, (hi1.go hl2).left⟩
    | false =>
      have H2 : Hid (sees s i 43 = false) := h2
      cases h3 : sees s i 63 with
      | true =>
        have HV : Hid (repVal s i (.iface ty x) = repV (.iface ty x) true false ∧ repAt s i = i + 1) := by simp [Hid, repVal, repAt, h1, h2, h3]
        have H3 : Hid (sees s i 63 = true) := h3
        clear h1 h2 h3
        go_enter Tryz.func140, Tryz.ntmps140
        go_wp2_with fail
        refine hc1.mono ?_
        rintro e w1 ⟨rfl, hl⟩
        have hi1 := HI0.out.go hl
        have b1 := hi1.cell
        go_wp2_with fail
        refine (skip_no rb s i z 43 w1 hl.lies hs (by omega) H2.out).mono ?_
        rintro e w2 ⟨rfl, hl2⟩
        have hi2 := hi1.go hl2
        have b2 := hi2.cell
        go_wp2_with fail
        refine (skip_yes rb s i z 63 w2 hl2.lies hs H3.out).mono ?_
        rintro e w3 ⟨rfl, hl3⟩
        go_wp2_with fail
        go_ret
        rw [HV.out.1, HV.out.2]
        exact ⟨rfl, (hi2.go hl3).left⟩
      | false =>
        have HV : Hid (repVal s i (.iface ty x) = .iface ty x ∧ repAt s i = i) := by simp [Hid, repVal, repAt, h1, h2, h3]
        have H3 : Hid (sees s i 63 = false) := h3
        clear h1 h2 h3
        go_enter Tryz.func140, Tryz.ntmps140
        go_wp2_with fail
        refine hc1.mono ?_
        rintro e w1 ⟨rfl, hl⟩
        have hi1 := HI0.out.go hl
        have b1 := hi1.cell
        go_wp2_with fail
        refine (skip_no rb s i z 43 w1 hl.lies hs (by omega) H2.out).mono ?_
        rintro e w2 ⟨rfl, hl2⟩
        have hi2 := hi1.go hl2
        have b2 := hi2.cell
        go_wp2_with fail
        refine (skip_no rb s i z 63 w2 hl2.lies hs (by omega) H3.out).mono ?_
        rintro e w3 ⟨rfl, hl3⟩
        go_wp2_with fail
        go_ret
        rw [HV.out.1, HV.out.2]
        exact ⟨rfl, (hi2.go hl3).left⟩

/-- What choice answers. -/
def ChoiceSaid (s : ByteArray) (a1 : Addr) (z : Nat) : Prop := ∀ (rb i : Nat) (w : World), RB w rb s i z → Env w rb a1 → i ≤ s.size →
  Calls Tryz.prog 113 #[rdV rb] w (RPost w rb s i z a1 (Ls.pat (13 - z) (rest s i)))

/-- What inner answers. -/
def innerOf (P : List UInt8 → Ls.Rd) (r : List UInt8) : Ls.Rd :=
  match P r with
  | .none => .none
  | some (d, u) => if u.head? = some 41 then some (d, u.tail) else .none

theorem innerOf_yes {P : List UInt8 → Ls.Rd} {r : List UInt8} {s : ByteArray} {d : Ls.D} {j : Nat} (h : P r = some (d, rest s j)) (hse : sees s j 41 = true) : innerOf P r = some (d, rest s (j + 1)) := by
  unfold innerOf
  rw [h]
  dsimp only
  rw [if_pos (sees_head.2 hse), rest_tail]

theorem innerOf_no {P : List UInt8 → Ls.Rd} {r : List UInt8} {s : ByteArray} {d : Ls.D} {j : Nat} (h : P r = some (d, rest s j)) (hse : sees s j 41 = false) : innerOf P r = .none := by
  unfold innerOf
  rw [h]
  dsimp only
  rw [if_neg (by rw [sees_head, hse]; simp)]

theorem innerOf_none {P : List UInt8 → Ls.Rd} {r : List UInt8} (h : P r = .none) : innerOf P r = .none := by
  unfold innerOf
  rw [h]

theorem Rep.grown {w w1 w2 : World} {rb : Nat} (hr : rb < w.heap.size) {d : Ls.D} {v : Value} {W : World} (hW : w.heap.size ≤ W.heap.size) (h : Rep w1 (New W w1) 0 d [v]) (hg : w1.grownBy w2 (some rb)) : Rep w2 (New w w2) 0 d [v] :=
  h.mono (fun k hk => ⟨Nat.le_trans hW hk.1, Nat.lt_of_lt_of_le hk.2 hg.size⟩) (fun k hk => hg.block k hk.2 (by have := hk.1; simp; omega))

set_option maxRecDepth 100000 in
set_option maxHeartbeats 1000000 in
theorem inner_any (s : ByteArray) (hs : s.size ≤ 1048576) (a1 : Addr) (z : Nat) (hz : z ≤ 12) (hC : z ≤ 11 → ChoiceSaid s a1 (z + 1)) (rb i : Nat) (w : World) (h : RB w rb s i z) (hE : Env w rb a1) (hi : i ≤ s.size) :
    Calls Tryz.prog 160 #[rdV rb] w (RPost w rb s i z a1 (innerOf (Ls.pat (12 - z)) (rest s i))) := by
  have HI0 : Hid (In 177 w rb s i z (w.alloc (bxO 177 rb))) := In.enter 177 h
  have hrl := h.lt
  by_cases h12 : z = 12
  · subst h12
    have HN : Hid (innerOf (Ls.pat (12 - 12)) (rest s i) = .none) := rfl
    have hO := open_no rb s i a1 _ HI0.out.lies (HI0.out.env hE)
    go_enter Tryz.func160, Tryz.ntmps160
    go_wp2_with fail
    refine hO.mono ?_
    rintro e w3 ⟨rfl, hg⟩
    go_wp2_with fail
    exact ⟨rfl, .inr ⟨HN.out, rfl, HI0.out.threw rfl hg⟩⟩
  · have HC : Hid (ChoiceSaid s a1 (z + 1)) := hC (by omega)
    have hO := open_yes rb s i z _ HI0.out.lies (by omega)
    clear hC
    go_enter Tryz.func160, Tryz.ntmps160
    go_wp2_with fail
    refine hO.mono ?_
    rintro e w1 ⟨rfl, hl1⟩
    have hi1 := HI0.out.go hl1
    have b1 := hi1.cell
    clear hO
    go_wp2_with fail
    refine (HC.out rb i w1 hi1.lies (hi1.env hE) hi).mono ?_
    rintro e w2 (⟨d, j, v, hr, hij, hj, rfl, hrep, hl2⟩ | ⟨hr, rfl, hg⟩)
    · rw [show 13 - (z + 1) = 12 - z from by omega] at hr
      have Hr : Hid (Ls.pat (12 - z) (rest s i) = some (d, rest s j)) := hr
      clear hr b1
      have hi2 := hi1.go hl2
      have b2 := hi2.cell
      obtain ⟨ty, x, rfl⟩ := hrep.iface
      have HW : Hid (w.heap.size ≤ w1.heap.size) := Nat.le_of_lt hi1.size
      have Hrep : Hid (Rep w2 (New w1 w2) 0 d [.iface ty x]) := hrep
      clear hrep
      cases hse : sees s j 41 with
      | true =>
        have HN : Hid (innerOf (Ls.pat (12 - z)) (rest s i) = some (d, rest s (j + 1))) := innerOf_yes Hr.out hse
        have hj2 := (sees_true hse).1
        have hcl := close_yes rb s j z 41 w2 hi2.lies hs (by omega) hse
        clear hse
        go_wp2_with fail
        refine hcl.mono ?_
        rintro e w3 ⟨rfl, hl3⟩
        have HP : Hid (Rep w3 (New w w3) 0 d [.iface ty x]) := Hrep.out.grown hrl HW.out hl3.grown
        go_wp2_with fail
        go_ret
        exact .inl ⟨d, j + 1, _, HN.out, by omega, by omega, rfl, HP.out, (hi2.go hl3).left⟩
      | false =>
        have HN : Hid (innerOf (Ls.pat (12 - z)) (rest s i) = .none) := innerOf_no Hr.out hse
        have hcl := close_no rb s j (z + 1) 41 a1 w2 hi2.lies (hi2.env hE) hs (by omega) hse
        clear hse
        go_wp2_with fail
        refine hcl.mono ?_
        rintro e w3 ⟨rfl, hg⟩
        go_wp2_with fail
        exact ⟨rfl, .inr ⟨HN.out, rfl, hi2.threw rfl hg⟩⟩
    · rw [show 13 - (z + 1) = 12 - z from by omega] at hr
      have HN : Hid (innerOf (Ls.pat (12 - z)) (rest s i) = .none) := innerOf_none hr
      go_wp2_with fail
      exact ⟨rfl, .inr ⟨HN.out, rfl, hi1.threw rfl hg⟩⟩

end Go.Proofs.YtfklinjaajafgaaGreatDoor
