import Derived.Test.YtfklinjaajafgaaGreatDoorLsT
namespace Go.Proofs.YtfklinjaajafgaaGreatDoor
open Go.RowKit

theorem one_any (s : ByteArray) (hs : s.size ≤ 1048576) (D : Nat) (hD : D ≤ 12) (hP : PatSaid s (D + 1)) : OneSaid s D := by
  intro pb i z w h hi hz
  by_cases hx : ∀ x, x ∈ ([40, 91, 46, 92, 41, 93, 42, 43, 63, 124, 47, 34] : List UInt8) → nx s i ≠ x
  · cases hsg : Ls.sign (nx s i) with
    | true => exact one_plain s hs D (nx s i) pb i z w h hi hz hx hsg rfl
    | false => exact one_nosign s hs D (nx s i) pb i z w h hi hz hx hsg rfl
  · have hx2 : ∃ x, x ∈ ([40, 91, 46, 92, 41, 93, 42, 43, 63, 124, 47, 34] : List UInt8) ∧ nx s i = x := by
      apply Classical.byContradiction
      intro hn
      exact hx fun x hm e => hn ⟨x, hm, e⟩
    obtain ⟨x, hm, he⟩ := hx2
    simp only [List.mem_cons, List.not_mem_nil, or_false] at hm
    rcases hm with rfl | rfl | rfl | rfl | rfl | rfl | rfl | rfl | rfl | rfl | rfl | rfl
    · exact one_paren s hs D hD hP pb i z w h hi hz he
    · exact one_class s hs D pb i z w h hi hz he
    · exact one_dot s hs D pb i z w h hi hz he
    · cases hsg : Ls.sign (nx s (i + 1)) with
      | true => exact one_escyes s hs D pb i z w h hi hz hsg he
      | false => exact one_escno s hs D pb i z w h hi hz hsg he
    · exact one_c41 s hs D pb i z w h hi hz he
    · exact one_c93 s hs D pb i z w h hi hz he
    · exact one_c42 s hs D pb i z w h hi hz he
    · exact one_c43 s hs D pb i z w h hi hz he
    · exact one_c63 s hs D pb i z w h hi hz he
    · exact one_c124 s hs D pb i z w h hi hz he
    · exact one_c47 s hs D pb i z w h hi hz he
    · exact one_c34 s hs D pb i z w h hi hz he

/-- How a reading stands: it is none, or it has come to place i'. -/
def Case (res : Ls.Rd) (s : ByteArray) (z i' z' : Nat) (bad : Bool) (p : Ls.Pat) : Prop :=
  (bad = true ∧ res = .none) ∨ (bad = false ∧ ∃ d, res = some (d, rest s i') ∧ p = Ls.toPat d ∧ z' = z + Ls.dsize d ∧ i' ≤ s.size)

theorem PPost.mid {w w' : World} {pb : Nat} {s : ByteArray} {i z : Nat} {res : Ls.Rd} {e : Ending} (h : PPost w pb s i z res e w') (hsuf : ∀ d t, res = some (d, t) → t <:+ rest s i ∧ Ls.dsize d + t.length ≤ (rest s i).length) (hi : i ≤ s.size) :
    ∃ p y1 y2 y3 i' z' bad, e = .returned (patA p (.slice y1 y2 y3)) ∧ PV w' (New w w') p (.slice y1 y2 y3) ∧ i ≤ i' ∧ i' ≤ s.size + 1 ∧ z' ≤ z + (i' - i) ∧ Left w pb s i' z' bad w' ∧ Case res s z i' z' bad p := by
  rcases h with ⟨d, t, y, hr, he, hv, hl⟩ | ⟨hr, p, y, i', z', he, hv, h1, h2, h3, hl⟩
  · obtain ⟨h1, h2⟩ := hsuf d t hr
    have htl := suf_rest h1
    have hln := h1.length_le
    rw [rest_len] at hln h2
    obtain ⟨y1, y2, y3, rfl⟩ := PV.slice _ _ hv
    exact ⟨_, y1, y2, y3, s.size - t.length, z + Ls.dsize d, false, he, hv, by omega, by omega, by omega, hl, .inr ⟨rfl, d, by rw [hr, ← htl], rfl, rfl, by omega⟩⟩
  · obtain ⟨y1, y2, y3, rfl⟩ := PV.slice _ _ hv
    exact ⟨p, y1, y2, y3, i', z', true, he, hv, h1, h2, h3, hl, .inl ⟨rfl, hr⟩⟩

/-- The answer is laid into the result's variable. -/
theorem ppost_store {w W : World} {pb : Nat} {s : ByteArray} {i z i' z' : Nat} {bad : Bool} {res : Ls.Rd} {p : Ls.Pat} {x : Value} {H : Nat → Prop} (hc : Case res s z i' z' bad p) (hpl : pb < w.heap.size) (h1 : i ≤ i') (h2 : i' ≤ s.size + 1) (h3 : z' ≤ z + (i' - i))
    (hl : Left w pb s i' z' bad W) (hp : PV W H p x) (hH : ∀ k, H k → w.heap.size < k ∧ k < W.heap.size) :
    PPost w pb s i z res (.returned (patA p x)) (((W.setCell ⟨w.heap.size, 0, Option.none⟩ (.int .i64 p.kind)).setCell ⟨w.heap.size, 1, Option.none⟩ (.string ⟨p.signs.toArray⟩)).setCell ⟨w.heap.size, 2, Option.none⟩ x) := by
  have hv : PV (((W.setCell ⟨w.heap.size, 0, Option.none⟩ (.int .i64 p.kind)).setCell ⟨w.heap.size, 1, Option.none⟩ (.string ⟨p.signs.toArray⟩)).setCell ⟨w.heap.size, 2, Option.none⟩ x) (New w (((W.setCell ⟨w.heap.size, 0, Option.none⟩ (.int .i64 p.kind)).setCell ⟨w.heap.size, 1, Option.none⟩ (.string ⟨p.signs.toArray⟩)).setCell ⟨w.heap.size, 2, Option.none⟩ x)) p x :=
    PV.mono (fun k hk => ⟨Nat.le_of_lt (hH k hk).1, by simp [World.setCell]; exact (hH k hk).2⟩) (fun k hk => set3_other _ _ _ _ _ _ (by have := (hH k hk).1; omega)) _ _ hp
  have hl' := hl.res (Nat.le_refl _) hpl (.int .i64 p.kind) (.string ⟨p.signs.toArray⟩) x
  rcases hc with ⟨rfl, hr⟩ | ⟨rfl, d, hr, rfl, rfl, hi'⟩
  · exact .inr ⟨hr, _, _, i', z', rfl, hv, h1, h2, h3, hl'⟩
  · refine .inl ⟨d, _, _, hr, rfl, hv, ?_⟩
    rw [rest_len, show s.size - (s.size - i') = i' from by omega]
    exact hl'

theorem thing_star {P : List UInt8 → Ls.Rd} {r : List UInt8} {s : ByteArray} {z i' z' : Nat} {bad : Bool} {p : Ls.Pat} (h : Case (Ls.oneOf P r) s z i' z' bad p) (hse : sees s i' 42 = true) : Case (Ls.thing P r) s z (i' + 1) z' bad (Ls.star p) := by
  rcases h with ⟨rfl, hr⟩ | ⟨rfl, d, hr, rfl, rfl, hi'⟩
  · exact .inl ⟨rfl, by rw [Ls.thing, hr]⟩
  · refine .inr ⟨rfl, Ls.rep 5 d, ?_, by rw [Ls.toPat_star], by rw [Ls.dsize_rep], (sees_true hse).1⟩
    rw [Ls.thing, hr]; dsimp only; rw [if_pos (sees_head.2 hse), rest_tail]

theorem sees_ne {s : ByteArray} {i : Nat} {a b : UInt8} (h : sees s i a = true) (hab : a ≠ b) : sees s i b = false := by
  obtain ⟨h1, h2⟩ := sees_true h
  simp [sees, h1, h2, hab]

theorem thing_plus {P : List UInt8 → Ls.Rd} {r : List UInt8} {s : ByteArray} {z i' z' : Nat} {bad : Bool} {p : Ls.Pat} (h : Case (Ls.oneOf P r) s z i' z' bad p) (hse : sees s i' 43 = true) : Case (Ls.thing P r) s z (i' + 1) z' bad (Ls.row p (Ls.star p)) := by
  rcases h with ⟨rfl, hr⟩ | ⟨rfl, d, hr, rfl, rfl, hi'⟩
  · exact .inl ⟨rfl, by rw [Ls.thing, hr]⟩
  · refine .inr ⟨rfl, Ls.rep 6 d, ?_, by rw [Ls.toPat_plus], by rw [Ls.dsize_rep], (sees_true hse).1⟩
    rw [Ls.thing, hr]; dsimp only
    rw [if_neg (by rw [sees_head, sees_ne hse (by decide)]; simp), if_pos (sees_head.2 hse), rest_tail]

theorem thing_opt {P : List UInt8 → Ls.Rd} {r : List UInt8} {s : ByteArray} {z i' z' : Nat} {bad : Bool} {p : Ls.Pat} (h : Case (Ls.oneOf P r) s z i' z' bad p) (hse : sees s i' 63 = true) : Case (Ls.thing P r) s z (i' + 1) z' bad (Ls.any p Ls.none) := by
  rcases h with ⟨rfl, hr⟩ | ⟨rfl, d, hr, rfl, rfl, hi'⟩
  · exact .inl ⟨rfl, by rw [Ls.thing, hr]⟩
  · refine .inr ⟨rfl, Ls.rep 7 d, ?_, by rw [Ls.toPat_opt], by rw [Ls.dsize_rep], (sees_true hse).1⟩
    rw [Ls.thing, hr]; dsimp only
    rw [if_neg (by rw [sees_head, sees_ne hse (by decide)]; simp), if_neg (by rw [sees_head, sees_ne hse (by decide)]; simp), if_pos (sees_head.2 hse), rest_tail]

theorem thing_bare {P : List UInt8 → Ls.Rd} {r : List UInt8} {s : ByteArray} {z i' z' : Nat} {bad : Bool} {p : Ls.Pat} (h : Case (Ls.oneOf P r) s z i' z' bad p) (h1 : sees s i' 42 = false) (h2 : sees s i' 43 = false) (h3 : sees s i' 63 = false) : Case (Ls.thing P r) s z i' z' bad p := by
  rcases h with ⟨rfl, hr⟩ | ⟨rfl, d, hr, rfl, rfl, hi'⟩
  · exact .inl ⟨rfl, by rw [Ls.thing, hr]⟩
  · refine .inr ⟨rfl, d, ?_, rfl, rfl, hi'⟩
    rw [Ls.thing, hr]; dsimp only
    rw [if_neg (by rw [sees_head, h1]; simp), if_neg (by rw [sees_head, h2]; simp), if_neg (by rw [sees_head, h3]; simp)]

/-- The sign at a place is c, or it isn't: as the walk asks it. -/
theorem nx_eq {s : ByteArray} {i : Nat} {c : UInt8} (h : sees s i c = true) : nx s i = c := (sees_true h).2
theorem nx_ne {s : ByteArray} {i : Nat} {c : UInt8} (hc : c ≠ 0) (h : sees s i c = false) : nx s i ≠ c := by
  intro e
  rcases Nat.lt_or_ge i s.size with h1 | h1
  · simp [sees, h1, e] at h
  · rw [nx_ge h1] at e; exact hc e.symm

def ThingSaid (s : ByteArray) (D : Nat) : Prop := ∀ (pb i z : Nat) (w : World), PB w pb s i z false → i < s.size → z ≤ 1048576 + i →
  Calls Tryz.prog 99 #[.pointer (some ⟨pb, 0, Option.none⟩), .int .i64 (D : Int)] w (PPost w pb s i z (Ls.thing (Ls.pat (12 - D)) (rest s i)))

set_option maxRecDepth 100000 in
set_option maxHeartbeats 2000000 in
theorem thing_any (s : ByteArray) (hs : s.size ≤ 1048576) (D : Nat) (hO : OneSaid s D) : ThingSaid s D := by
  intro pb i z w h hi hz
  have hpl := h.lt
  have hne : ¬ w.heap.size = pb := by omega
  have hne' : ¬ pb = w.heap.size := by omega
  go_enter Tryz.func99, Tryz.ntmps99
  go_wp2_with fail
  refine (hO pb i z _ (h.below (below_alloc1 _ _)) hi hz).mono ?_
  rintro e w1 hpp
  obtain ⟨p, y1, y2, y3, i', z', bad, rfl, hv, hi1, hi2, hz2, hl1', hcase⟩ := hpp.mid (fun d t hr => ⟨(Ls.oneOf_suf (Ls.pat_suf _) hr).1, Ls.oneOf_siz (Ls.pat_siz _) hr⟩) (by omega)
  clear hpp
  have hl1 := (Left.of_below h (below_alloc1 w (.cells #[.int .i64 0, .string ⟨#[]⟩, .slice Option.none 0 0] 27))).trans hl1'
  have hlie1 := (lies_new w [.int .i64 0, .string ⟨#[]⟩, .slice Option.none 0 0]).grown hl1'.grown (by simp [hne])
  have hz1 := hlie1.lt
  go_wp2_with fail
  have hN := next_any pb s i' z' bad _ (hl1.lies.below (below_alloc1 w1 (.cells #[.int .i64 p.kind, .string ⟨p.signs.toArray⟩, .slice y1 y2 y3] 27))) (by omega) (by omega)
  have HB : Hid (∀ k, New (w.alloc (.cells #[.int .i64 0, .string ⟨#[]⟩, .slice Option.none 0 0] 27)) w1 k → w.heap.size < k ∧ k < w1.heap.size) := fun k hk => by have h1 := hk.1; simp at h1; exact ⟨by omega, hk.2⟩
  have hne1 : ¬ w1.heap.size = pb := by omega
  have hne2 : ¬ pb = w1.heap.size := by omega
  have hne3 : ¬ w.heap.size = w1.heap.size := by omega
  have hne4 : ¬ w1.heap.size = w.heap.size := by omega
  have fin : ∀ w2, Below (w1.alloc (.cells #[.int .i64 p.kind, .string ⟨p.signs.toArray⟩, .slice y1 y2 y3] 27)).heap.size (w1.alloc (.cells #[.int .i64 p.kind, .string ⟨p.signs.toArray⟩, .slice y1 y2 y3] 27)) w2 →
      Left w pb s i' z' bad w2 ∧ Lies w2 w1.heap.size (patC p (.slice y1 y2 y3)) ∧ Lies w2 w.heap.size [.int .i64 0, .string ⟨#[]⟩, .slice Option.none 0 0] ∧ w1.heap.size < w2.heap.size ∧ PV w2 (New (w.alloc (.cells #[.int .i64 0, .string ⟨#[]⟩, .slice Option.none 0 0] 27)) w1) p (.slice y1 y2 y3) := fun w2 hb2 =>
    ⟨(hl1.below (below_alloc1 _ _)).below hb2, (lies_new w1 _).below hb2 (by simp), (hlie1.below (below_alloc1 _ _) hz1).below hb2 (by simp; omega), by have := hb2.size; simp at this; omega, (hv.below (below_alloc1 _ _) (fun _ h => h.2) (fun _ h => h)).below hb2 (fun k hk => by have := hk.2; simp; omega) (fun _ h => h)⟩
  have Hfin : Hid _ := fin
  clear fin hv hl1' hl1 hlie1 h
  cases h42 : sees s i' 42 with
  | true =>
    have HC := thing_star hcase h42
    rw [nx_eq h42] at hN
    have hi3 := (sees_true h42).1
    clear h42 hcase
    refine hN.mono ?_
    rintro e w2 ⟨rfl, hb2⟩
    obtain ⟨hl2, hla, hlr, hz3, hv2⟩ := Hfin.out w2 hb2
    obtain ⟨m0, m1, m2⟩ := hla.three
    have k1 := hl2.lies.c1
    have f1 := hl2.lies.fr 1
    go_wp2_with fail
    refine (star_any p (.slice y1 y2 y3) _ _ (fun k hk => by have := HB.out k hk; simp [World.setCell]; omega) (PV.mono (fun _ h => h) (fun k hk => Below.heap_setCell _ _ _ _ (by have := HB.out k hk; show k ≠ pb; omega)) _ _ hv2)).mono ?_
    rintro e w3 ⟨x, rfl, hx, hb3⟩
    obtain ⟨x1, x2, x3, rfl⟩ := PV.slice _ _ hx
    have hl3 := (hl2.set1 (i' + 1)).below hb3
    have hlr3 := (hlr.set_other pb 1 (.int .i64 ((i' + 1 : Nat) : Int)) hne).below hb3 (by simp [World.setCell]; omega)
    have hs3 := hb3.size
    simp [World.setCell] at hs3
    obtain ⟨q0, q1, q2⟩ := hlr3.three (a := Ls.none)
    have g0 := hlr3.fr 0
    have g1 := hlr3.fr 1
    have g2 := hlr3.fr 2
    go_wp2_with fail
    exact bodyPost_ret (v := patA (Ls.star p) (.slice x1 x2 x3)) (by simp [results, Tryz.results99, go_sem, q0, q1, q2]) rfl (ppost_store HC hpl (by omega) (by omega) (by omega) hl3 hx (fun k hk => by
      rcases hk with hk | hk
      · have := HB.out k hk; omega
      · have := hk.1; simp [World.setCell] at this; have := hk.2; omega))
  | false =>
    cases h43 : sees s i' 43 with
    | true =>
      have HC := thing_plus hcase h43
      rw [nx_eq h43] at hN
      have hi3 := (sees_true h43).1
      clear h42 h43 hcase
      refine hN.mono ?_
      rintro e w2 ⟨rfl, hb2⟩
      obtain ⟨hl2, hla, hlr, hz3, hv2⟩ := Hfin.out w2 hb2
      obtain ⟨m0, m1, m2⟩ := hla.three
      have k1 := hl2.lies.c1
      have f1 := hl2.lies.fr 1
      go_wp2_with fail
      have hvs := PV.mono (fun _ h => h) (fun k hk => Below.heap_setCell w2 ⟨pb, 1, Option.none⟩ (.int .i64 ((i' + 1 : Nat) : Int)) _ (by have := HB.out k hk; show k ≠ pb; omega)) _ _ hv2
      refine (star_any p (.slice y1 y2 y3) _ _ (fun k hk => by have := HB.out k hk; simp [World.setCell]; omega) hvs).mono ?_
      rintro e w3 ⟨x, rfl, hx, hb3⟩
      obtain ⟨x1, x2, x3, rfl⟩ := PV.slice _ _ hx
      have hl3 := (hl2.set1 (i' + 1)).below hb3
      have hlr3 := (hlr.set_other pb 1 (.int .i64 ((i' + 1 : Nat) : Int)) hne).below hb3 (by simp [World.setCell]; omega)
      have hla3 := (hla.set_other pb 1 (.int .i64 ((i' + 1 : Nat) : Int)) hne1).below hb3 (by simp [World.setCell]; omega)
      have hv3 := hvs.below (G' := Plus (New (w.alloc (.cells #[.int .i64 0, .string ⟨#[]⟩, .slice Option.none 0 0] 27)) w1) (w2.setCell ⟨pb, 1, Option.none⟩ (.int .i64 ((i' + 1 : Nat) : Int))) w3) hb3 (fun k hk => by have := HB.out k hk; simp [World.setCell]; omega) (fun _ h => Or.inl h)
      have hs3 := hb3.size
      simp [World.setCell] at hs3
      clear m0 m1 m2 k1 f1
      have hz4 : w1.heap.size < w3.heap.size := by omega
      have hz5 : w.heap.size < w3.heap.size := by omega
      obtain ⟨m0, m1, m2⟩ := hla3.three
      go_wp2_with fail
      refine (row_any p (Ls.star p) (.slice y1 y2 y3) (.slice x1 x2 x3) _ _ (fun k hk => ?_) (hv3.below (below_alloc1 _ _) (fun k hk => ?_) (fun _ h => h)) (hx.below (below_alloc1 _ _) (fun k hk => ?_) (fun _ h => h))).mono ?_
      · rcases hk with hk | hk
        · have := HB.out k hk; simp; omega
        · have := hk.2; simp; omega
      · rcases hk with hk | hk
        · have := HB.out k hk; omega
        · exact hk.2
      · rcases hk with hk | hk
        · have := HB.out k hk; omega
        · exact hk.2
      rintro e w4 ⟨u, rfl, hu, hb4⟩
      obtain ⟨u1, u2, u3, rfl⟩ := PV.slice _ _ hu
      have hl4 := (hl3.below (below_alloc1 _ _)).below hb4
      have hlr4 := (hlr3.below (below_alloc1 _ _) hlr3.lt).below hb4 (by simp; omega)
      have hs4 := hb4.size
      simp at hs4
      obtain ⟨q0, q1, q2⟩ := hlr4.three (a := Ls.none)
      have g0 := hlr4.fr 0
      have g1 := hlr4.fr 1
      have g2 := hlr4.fr 2
      go_wp2_with fail
      exact bodyPost_ret (v := patA (Ls.row p (Ls.star p)) (.slice u1 u2 u3)) (by simp [results, Tryz.results99, go_sem, q0, q1, q2]) rfl (ppost_store HC hpl (by omega) (by omega) (by omega) hl4 hu (fun k hk => by
        rcases hk with (hk | hk) | hk
        · have := HB.out k hk; omega
        · have := hk.1; simp [World.setCell] at this; have := hk.2; omega
        · have := hk.1; simp at this; have := hk.2; omega))
    | false =>
      cases h63 : sees s i' 63 with
      | true =>
        have HC := thing_opt hcase h63
        rw [nx_eq h63] at hN
        have hi3 := (sees_true h63).1
        clear h42 h43 h63 hcase
        refine hN.mono ?_
        rintro e w2 ⟨rfl, hb2⟩
        obtain ⟨hl2, hla, hlr, hz3, hv2⟩ := Hfin.out w2 hb2
        obtain ⟨m0, m1, m2⟩ := hla.three
        have k1 := hl2.lies.c1
        have f1 := hl2.lies.fr 1
        go_wp2_with fail
        refine (either_any p Ls.none (.slice y1 y2 y3) (.slice Option.none 0 0) _ _ (fun k hk => by have := HB.out k hk; simp [World.setCell]; omega) (PV.mono (fun _ h => h) (fun k hk => Below.heap_setCell _ _ _ _ (by have := HB.out k hk; show k ≠ pb; omega)) _ _ hv2) (pv_leaf _ _ _ _)).mono ?_
        rintro e w3 ⟨x, rfl, hx, hb3⟩
        obtain ⟨x1, x2, x3, rfl⟩ := PV.slice _ _ hx
        have hl3 := (hl2.set1 (i' + 1)).below hb3
        have hlr3 := (hlr.set_other pb 1 (.int .i64 ((i' + 1 : Nat) : Int)) hne).below hb3 (by simp [World.setCell]; omega)
        have hs3 := hb3.size
        simp [World.setCell] at hs3
        obtain ⟨q0, q1, q2⟩ := hlr3.three (a := Ls.none)
        have g0 := hlr3.fr 0
        have g1 := hlr3.fr 1
        have g2 := hlr3.fr 2
        go_wp2_with fail
        exact bodyPost_ret (v := patA (Ls.any p Ls.none) (.slice x1 x2 x3)) (by simp [results, Tryz.results99, go_sem, q0, q1, q2]) rfl (ppost_store HC hpl (by omega) (by omega) (by omega) hl3 hx (fun k hk => by
          rcases hk with hk | hk
          · have := HB.out k hk; omega
          · have := hk.1; simp [World.setCell] at this; have := hk.2; omega))
      | false =>
        have HC := thing_bare hcase h42 h43 h63
        have n42 : (((nx s i').toNat : Int) == 42) = false := by rw [beq_eq_false_iff_ne]; intro e; exact nx_ne (c := 42) (by decide) h42 (UInt8.toNat_inj.1 (by simp; omega))
        have n43 : (((nx s i').toNat : Int) == 43) = false := by rw [beq_eq_false_iff_ne]; intro e; exact nx_ne (c := 43) (by decide) h43 (UInt8.toNat_inj.1 (by simp; omega))
        have n63 : (((nx s i').toNat : Int) == 63) = false := by rw [beq_eq_false_iff_ne]; intro e; exact nx_ne (c := 63) (by decide) h63 (UInt8.toNat_inj.1 (by simp; omega))
        clear h42 h43 h63 hcase
        refine hN.mono ?_
        rintro e w2 ⟨rfl, hb2⟩
        obtain ⟨hl2, hla, hlr, hz3, hv2⟩ := Hfin.out w2 hb2
        obtain ⟨m0, m1, m2⟩ := hla.three
        obtain ⟨q0, q1, q2⟩ := hlr.three (a := Ls.none)
        have g0 := hlr.fr 0
        have g1 := hlr.fr 1
        have g2 := hlr.fr 2
        go_wp2_with fail
        exact bodyPost_ret (v := patA p (.slice y1 y2 y3)) (by simp [results, Tryz.results99, go_sem, q0, q1, q2]) rfl (ppost_store HC hpl (by omega) (by omega) (by omega) hl2 hv2 (fun k hk => by
          have := HB.out k hk; omega))

end Go.Proofs.YtfklinjaajafgaaGreatDoor
