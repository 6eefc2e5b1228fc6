import Derived.Test.YtbdjchmnahjjlaaDoorRdr
/- repeat, inner and thing of the reader. -/
namespace Go.Proofs.YtbdjchmnahjjlaaDoor
open Go.RowKit

theorem Rep.iface {w : World} {G : Nat → Prop} {d : Ls.D} {v : Value} (h : Rep w G 0 d [v]) : ∃ t x, v = .iface t x := by
  rcases h.at0 with ⟨_, _, _, _, _, rfl⟩ | ⟨_, _, _, _, _, _, rfl⟩ | ⟨_, _, _, _, rfl⟩ | ⟨_, _, _, _, rfl⟩ <;> exact ⟨_, _, rfl⟩

def repVal (s : ByteArray) (i : Nat) (v : Value) : Value := if sees s i 42 = true then repV v true true else if sees s i 43 = true then repV v false true else if sees s i 63 = true then repV v true false else v
def repD (s : ByteArray) (i : Nat) (d : Ls.D) : Ls.D := if sees s i 42 = true then Ls.rep 5 d else if sees s i 43 = true then Ls.rep 6 d else if sees s i 63 = true then Ls.rep 7 d else d
def repAt (s : ByteArray) (i : Nat) : Nat := if sees s i 42 = true then i + 1 else if sees s i 43 = true then i + 1 else if sees s i 63 = true then i + 1 else i

theorem rep_thing {P : List UInt8 → Ls.Rd} {r : List UInt8} {s : ByteArray} {j : Nat} {d : Ls.D} (h : Ls.oneOf P r = some (d, rest s j)) : Ls.thing P r = some (repD s j d, rest s (repAt s j)) := by
  rw [Ls.thing, h]
  dsimp only
  unfold repD repAt
  cases h1 : sees s j 42 with
  | true => rw [if_pos (sees_head.2 h1), rest_tail]; simp
  | false =>
    rw [if_neg (by rw [sees_head, h1]; simp)]
    cases h2 : sees s j 43 with
    | true => rw [if_pos (sees_head.2 h2), rest_tail]; simp
    | false =>
      rw [if_neg (by rw [sees_head, h2]; simp)]
      cases h3 : sees s j 63 with
      | true => rw [if_pos (sees_head.2 h3), rest_tail]; simp
      | false => rw [if_neg (by rw [sees_head, h3]; simp)]; simp

theorem rep_rep {w : World} {G : Nat → Prop} {d : Ls.D} {v : Value} (h : Rep w G 0 d [v]) (s : ByteArray) (i : Nat) : Rep w G 0 (repD s i d) [repVal s i v] := by
  unfold repD repVal
  split
  · exact .rep (t := 5) (by simp) h
  · split
    · exact .rep (t := 6) (by simp) h
    · split
      · exact .rep (t := 7) (by simp) h
      · exact h

theorem repAt_bd {s : ByteArray} {i : Nat} (h : i ≤ s.size) : i ≤ repAt s i ∧ repAt s i ≤ s.size := by
  unfold repAt
  have h1 : ∀ c, sees s i c = true → i < s.size := fun c hc => (sees_true hc).1
  split
  · rename_i h2; have := h1 _ h2; omega
  · split
    · rename_i h2; have := h1 _ h2; omega
    · split
      · rename_i h2; have := h1 _ h2; omega
      · omega

set_option maxRecDepth 100000 in
set_option maxHeartbeats 1000000 in
theorem repeat_any (rb : Nat) (s : ByteArray) (i z : Nat) (ty : TypeId) (x : Value) (w : World) (h : RB w rb s i z) (hs : s.size ≤ 1048576) (hi : i ≤ s.size) :
    Calls Tryd.prog 68 #[.pointer (some ⟨rb, 0, Option.none⟩), .iface ty x] w fun e w' => e = .returned (repVal s i (.iface ty x)) ∧ RLeft w rb s (repAt s i) z w' := by
  cases h1 : sees s i 42 with
  | true =>
    have HV : Hid (repVal s i (.iface ty x) = repV (.iface ty x) true true ∧ repAt s i = i + 1) := by simp [Hid, repVal, repAt, h1]
    have hc := skip_yes rb s i z 42 w h hs h1
    clear h1
    go_enter Tryd.func68, Tryd.ntmps68
    go_wp2_with fail
    refine hc.mono ?_
    rintro e w1 ⟨rfl, hl⟩
    go_wp2_with fail
    go_ret
    rw [HV.out.1, HV.out.2]
    exact ⟨rfl, hl⟩
  | false =>
    have hc1 := skip_no rb s i z 42 w h hs (by omega) h1
    cases h2 : sees s i 43 with
    | true =>
      have HV : Hid (repVal s i (.iface ty x) = repV (.iface ty x) false true ∧ repAt s i = i + 1) := by simp [Hid, repVal, repAt, h1, h2]
      clear h1
      have H2 : Hid _ := h2
      clear h2
      go_enter Tryd.func68, Tryd.ntmps68
      go_wp2_with fail
      refine hc1.mono ?_
      rintro e w1 ⟨rfl, hl⟩
      go_wp2_with fail
      refine (skip_yes rb s i z 43 w1 hl.lies hs H2.out).mono ?_
      rintro e w2 ⟨rfl, hl2⟩
      go_wp2_with fail
      go_ret
      rw [HV.out.1, HV.out.2]
      exact ⟨rfl, hl.trans hl2⟩
    | false =>
      have H2 : Hid _ := h2
      cases h3 : sees s i 63 with
      | true =>
        have HV : Hid (repVal s i (.iface ty x) = repV (.iface ty x) true false ∧ repAt s i = i + 1) := by simp [Hid, repVal, repAt, h1, h2, h3]
        have H3 : Hid _ := h3
        clear h1 h2 h3
        go_enter Tryd.func68, Tryd.ntmps68
        go_wp2_with fail
        refine hc1.mono ?_
        rintro e w1 ⟨rfl, hl⟩
        go_wp2_with fail
        refine (skip_no rb s i z 43 w1 hl.lies hs (by omega) H2.out).mono ?_
        rintro e w2 ⟨rfl, hl2⟩
        go_wp2_with fail
        refine (skip_yes rb s i z 63 w2 hl2.lies hs H3.out).mono ?_
        rintro e w3 ⟨rfl, hl3⟩
        go_wp2_with fail
        go_ret
        rw [HV.out.1, HV.out.2]
        exact ⟨rfl, hl.trans (hl2.trans hl3)⟩
      | false =>
        have HV : Hid (repVal s i (.iface ty x) = .iface ty x ∧ repAt s i = i) := by simp [Hid, repVal, repAt, h1, h2, h3]
        have H3 : Hid _ := h3
        clear h1 h2 h3
        go_enter Tryd.func68, Tryd.ntmps68
        go_wp2_with fail
        refine hc1.mono ?_
        rintro e w1 ⟨rfl, hl⟩
        go_wp2_with fail
        refine (skip_no rb s i z 43 w1 hl.lies hs (by omega) H2.out).mono ?_
        rintro e w2 ⟨rfl, hl2⟩
        go_wp2_with fail
        refine (skip_no rb s i z 63 w2 hl2.lies hs (by omega) H3.out).mono ?_
        rintro e w3 ⟨rfl, hl3⟩
        go_wp2_with fail
        go_ret
        rw [HV.out.1, HV.out.2]
        exact ⟨rfl, hl.trans (hl2.trans hl3)⟩

/-- The reader fails where a row ends at '/'. -/
def clean (x : Ls.Rd) : Ls.Rd :=
  match x with
  | .none => .none
  | some (d, t) => if t.head? = some 47 then .none else some (d, t)

/-- What choice answers. -/
def ChoiceSaid (s : ByteArray) (a1 : Addr) (z : Nat) : Prop := ∀ (rb i : Nat) (w : World), RB w rb s i z → Env w rb a1 → i ≤ s.size →
  Calls Tryd.prog 47 #[.pointer (some ⟨rb, 0, Option.none⟩)] w (RPost w rb s i z a1 (clean (Ls.pat (13 - z) (rest s i))))

/-- What inner answers. -/
def innerOf (P : List UInt8 → Ls.Rd) (r : List UInt8) : Ls.Rd :=
  match P r with
  | .none => .none
  | some (d, u) => if u.head? = some 41 then some (d, u.tail) else .none

theorem innerOf_yes {P : List UInt8 → Ls.Rd} {r : List UInt8} {s : ByteArray} {d : Ls.D} {j : Nat} (h : clean (P r) = some (d, rest s j)) (hse : sees s j 41 = true) : innerOf P r = some (d, rest s (j + 1)) := by
  unfold clean at h
  unfold innerOf
  split at h
  · cases h
  · rename_i d' t ht
    split at h
    · cases h
    · simp at h; obtain ⟨rfl, rfl⟩ := h
      rw [if_pos (sees_head.2 hse), rest_tail]

theorem innerOf_no {P : List UInt8 → Ls.Rd} {r : List UInt8} {s : ByteArray} {d : Ls.D} {j : Nat} (h : clean (P r) = some (d, rest s j)) (hse : sees s j 41 = false) : innerOf P r = .none := by
  unfold clean at h
  unfold innerOf
  split at h
  · cases h
  · rename_i d' t ht
    split at h
    · cases h
    · simp at h; obtain ⟨rfl, rfl⟩ := h
      rw [if_neg (by rw [sees_head, hse]; simp)]

theorem innerOf_none {P : List UInt8 → Ls.Rd} {r : List UInt8} (h : clean (P r) = .none) : innerOf P r = .none := by
  unfold clean at h
  unfold innerOf
  split at h
  · rfl
  · rename_i d' t ht
    split at h
    · rename_i h47; rw [if_neg (by rw [h47]; simp)]
    · cases h

theorem Rep.grown {w w1 w2 : World} {rb : Nat} (hr : rb < w.heap.size) {d : Ls.D} {v : Value} {W : World} (hW : w.heap.size ≤ W.heap.size) (h : Rep w1 (New W w1) 0 d [v]) (hg : w1.grownBy w2 (some rb)) : Rep w2 (New w w2) 0 d [v] :=
  h.mono (fun k hk => ⟨Nat.le_trans hW hk.1, Nat.lt_of_lt_of_le hk.2 hg.size⟩) (fun k hk => hg.block k hk.2 (by have := hk.1; simp; omega))

set_option maxRecDepth 100000 in
set_option maxHeartbeats 1000000 in
theorem inner_any (s : ByteArray) (hs : s.size ≤ 1048576) (a1 : Addr) (z : Nat) (hz : z ≤ 12) (hC : z ≤ 11 → ChoiceSaid s a1 (z + 1)) (rb i : Nat) (w : World) (h : RB w rb s i z) (hE : Env w rb a1) (hi : i ≤ s.size) :
    Calls Tryd.prog 72 #[.pointer (some ⟨rb, 0, Option.none⟩)] w (RPost w rb s i z a1 (innerOf (Ls.pat (12 - z)) (rest s i))) := by
  have hrl := h.lt
  have c2 := h.c2
  have f2 := h.fr 2
  have hl0 := (RLeft.of_below h (Below.refl _ _)).set2 (z + 1)
  have hE0 := hE.grown hl0.grown
  by_cases h12 : z = 12
  · subst h12
    have HN : Hid (innerOf (Ls.pat (12 - 12)) (rest s i) = .none) := rfl
    go_enter Tryd.func72, Tryd.ntmps72
    go_wp2_with fail
    refine (fail_any _ a1 _ hE0.sc).mono ?_
    rintro e w3 ⟨rfl, rfl⟩
    go_wp2_with fail
    exact ⟨rfl, .inr ⟨HN.out, rfl, hl0.grown⟩⟩
  · have hC' := hC (by omega)
    have hd : ¬ (12 : Int) < (z : Int) + 1 := by omega
    go_enter Tryd.func72, Tryd.ntmps72
    go_wp2_with fail
    refine (hC' rb i _ hl0.lies hE0 hi).mono ?_
    rintro e w1 (⟨d, j, v, hr, hij, hj, rfl, hrep, hl1⟩ | ⟨hr, rfl, hg⟩)
    · rw [show 13 - (z + 1) = 12 - z from by omega] at hr
      have Hr : Hid _ := hr
      clear hr
      obtain ⟨ty, x, rfl⟩ := hrep.iface
      go_wp2_with fail
      refine (skip_any rb s j (z + 1) 41 _ hl1.lies hs (by omega)).mono ?_
      rintro e w2 ⟨rfl, hl2⟩
      cases hse : sees s j 41 with
      | true =>
        have HN : Hid (innerOf (Ls.pat (12 - z)) (rest s i) = some (d, rest s (j + 1))) := innerOf_yes Hr.out hse
        rw [hse] at hl2
        simp only [if_true] at hl2
        have hj2 := (sees_true hse).1
        clear hse
        have k2 := hl2.lies.c2
        have g2 := hl2.lies.fr 2
        have hl3 := (hl0.trans (hl1.trans hl2)).set2 z
        have hg3 : w1.grownBy (w2.setCell ⟨rb, 2, Option.none⟩ (.int .i64 z)) (some rb) := (hl2.set2 z).grown
        have hz0 : w.heap.size ≤ (w.setCell ⟨rb, 2, Option.none⟩ (.int .i64 ((z + 1 : Nat) : Int))).heap.size := by simp [World.setCell]
        have Hrep : Hid _ := hrep.grown hrl hz0 hg3
        clear hrep
        go_wp2_with fail
        go_ret
        exact .inl ⟨d, j + 1, _, HN.out, by omega, by omega, rfl, Hrep.out, hl3⟩
      | false =>
        have HN : Hid (innerOf (Ls.pat (12 - z)) (rest s i) = .none) := innerOf_no Hr.out hse
        clear hse
        have hgw := grownBy_trans hl0.grown (grownBy_trans hl1.grown hl2.grown)
        go_wp2_with fail
        refine (fail_any _ a1 _ (hE.grown hgw).sc).mono ?_
        rintro e w3 ⟨rfl, rfl⟩
        go_wp2_with fail
        exact ⟨rfl, .inr ⟨HN.out, rfl, hgw⟩⟩
    · rw [show 13 - (z + 1) = 12 - z from by omega] at hr
      have HN : Hid (innerOf (Ls.pat (12 - z)) (rest s i) = .none) := innerOf_none hr
      go_wp2_with fail
      exact ⟨rfl, .inr ⟨HN.out, rfl, grownBy_trans hl0.grown hg⟩⟩

end Go.Proofs.YtbdjchmnahjjlaaDoor
