import Derived.Test.YtfklinjaajafgaaGreatDoorLsV
namespace Go.Proofs.YtfklinjaajafgaaGreatDoor
open Go.RowKit

def PatSaidN (s : ByteArray) (D n : Nat) : Prop := ∀ (pb i z : Nat) (w : World), PB w pb s i z false → i ≤ s.size → z ≤ 1048576 + i → (rest s i).length < n →
  Calls Tryz.prog 39 #[.pointer (some ⟨pb, 0, Option.none⟩), .int .i64 (D : Int)] w (PPost w pb s i z (Ls.alts (Ls.pat (12 - D)) n (rest s i)))

theorem case_alts_last {P : List UInt8 → Ls.Rd} {n : Nat} {s : ByteArray} {i z i1 z1 : Nat} {p : Ls.Pat} (h1 : Case (Ls.things P ((rest s i).length + 1) (rest s i)) s z i1 z1 false p) (hse : sees s i1 124 = false) : Case (Ls.alts P (n + 1) (rest s i)) s z i1 z1 false p := by
  rcases h1 with ⟨h0, _⟩ | ⟨_, d, hr, rfl, rfl, hi'⟩
  · cases h0
  · exact .inr ⟨rfl, Ls.clast d, by rw [Ls.alts, hr]; dsimp only; rw [if_neg (by rw [sees_head, hse]; simp)], by rw [Ls.toPat_clast], by rw [Ls.dsize_clast], hi'⟩

theorem case_alts_bad {P : List UInt8 → Ls.Rd} {n : Nat} {s : ByteArray} {i z i1 z1 i2 z2 : Nat} {p q : Ls.Pat} (h1 : Case (Ls.things P ((rest s i).length + 1) (rest s i)) s z i1 z1 true p) : Case (Ls.alts P (n + 1) (rest s i)) s z i2 z2 true q := by
  rcases h1 with ⟨_, hr⟩ | ⟨h0, _⟩
  · exact .inl ⟨rfl, by rw [Ls.alts, hr]⟩
  · cases h0

theorem case_alts_more {P : List UInt8 → Ls.Rd} {n : Nat} {s : ByteArray} {i z i1 z1 i2 z2 : Nat} {p q : Ls.Pat} {bad : Bool} (h1 : Case (Ls.things P ((rest s i).length + 1) (rest s i)) s z i1 z1 false p) (hse : sees s i1 124 = true) (h2 : Case (Ls.alts P n (rest s (i1 + 1))) s z1 i2 z2 bad q) : Case (Ls.alts P (n + 1) (rest s i)) s z i2 z2 bad (Ls.any p q) := by
  rcases h1 with ⟨h0, _⟩ | ⟨_, d, hr, rfl, rfl, hi'⟩
  · cases h0
  rcases h2 with ⟨rfl, hr2⟩ | ⟨rfl, d2, hr2, rfl, rfl, hi2⟩
  · exact .inl ⟨rfl, by rw [Ls.alts, hr]; dsimp only; rw [if_pos (sees_head.2 hse), rest_tail, hr2]⟩
  · exact .inr ⟨rfl, Ls.ccons d d2, by rw [Ls.alts, hr]; dsimp only; rw [if_pos (sees_head.2 hse), rest_tail, hr2], by rw [Ls.toPat_ccons], by rw [Ls.dsize_ccons]; omega, hi2⟩

set_option maxRecDepth 100000 in
set_option maxHeartbeats 2000000 in
theorem pattern_deep (s : ByteArray) : PatSaid s 13 := by
  intro pb i z w h hi hz
  have hpl := h.lt
  have hne : ¬ w.heap.size = pb := by omega
  have hne' : ¬ pb = w.heap.size := by omega
  have hl := Left.of_below h (below_alloc1 w (.cells #[.int .i64 0, .string ⟨#[]⟩, .slice Option.none 0 0] 27))
  have k3 := h.c3
  have f3 := h.fr 3
  have hlie := lies_new w [.int .i64 0, .string ⟨#[]⟩, .slice Option.none 0 0]
  go_enter Tryz.func39, Tryz.ntmps39
  go_wp2_with fail
  exact bodyPost_ret (v := patA Ls.none (.slice Option.none 0 0)) (by simp [results, Tryz.results39, go_sem, Ls.none]) rfl (ppost_bad rfl (((Left.of_below h (Below.refl _ _)).set3 true).below (below_alloc1 _ _)) (Nat.le_refl _) (by omega) (by omega))

set_option maxRecDepth 100000 in
set_option maxHeartbeats 2000000 in
theorem pattern_go (s : ByteArray) (hs : s.size ≤ 1048576) (D n : Nat) (hD : D ≤ 12) (hT : ∀ m, ThingsSaid s D m) (hN : PatSaidN s D n) : PatSaidN s D (n + 1) := by
  intro pb i z w h hi hz hn
  have hpl := h.lt
  have hne : ¬ w.heap.size = pb := by omega
  have hne' : ¬ pb = w.heap.size := by omega
  have hl := Left.of_below h (below_alloc1 w (.cells #[.int .i64 0, .string ⟨#[]⟩, .slice Option.none 0 0] 27))
  have hlie := lies_new w [.int .i64 0, .string ⟨#[]⟩, .slice Option.none 0 0]
  have hD' : ¬ (12 : Int) < (D : Int) := by omega
  go_enter Tryz.func39, Tryz.ntmps39
  go_wp2_with fail
  refine (hT ((rest s i).length + 1) pb i z _ hl.lies hi hz (Nat.lt_succ_self _)).mono ?_
  rintro e w1 hpp
  obtain ⟨p, y1, y2, y3, i1, z1, bad, rfl, hv, hi1, hi2, hz2, hl1', hcase⟩ := hpp.mid (fun d t hr => ⟨Ls.things_suf (Ls.pat_suf _) _ _ _ _ hr, Ls.things_siz (Ls.pat_siz _) _ _ _ _ hr⟩) hi
  clear hpp
  have hl1 := hl.trans hl1'
  have hlie1 := hlie.grown hl1'.grown (by simp [hne])
  have hz1 := hlie1.lt
  have hz01 := hl1'.grown.size
  simp at hz01
  go_wp2_with fail
  refine (take_any pb s i1 z1 bad 124 _ (hl1.lies.below (below_alloc1 w1 (.cells #[.int .i64 p.kind, .string ⟨p.signs.toArray⟩, .slice y1 y2 y3] 27))) (by omega) (by omega)).mono ?_
  rintro e w2 ⟨rfl, hl2'⟩
  have hl2 := (hl1.below (below_alloc1 w1 (.cells #[.int .i64 p.kind, .string ⟨p.signs.toArray⟩, .slice y1 y2 y3] 27))).trans hl2'
  have hne1 : ¬ w1.heap.size = pb := by omega
  have hlie2 := (hlie1.below (below_alloc1 w1 (.cells #[.int .i64 p.kind, .string ⟨p.signs.toArray⟩, .slice y1 y2 y3] 27)) hz1).grown hl2'.grown (by simp [hne])
  have hlia2 := (lies_new w1 (patC p (.slice y1 y2 y3))).grown hl2'.grown (by simp [hne1])
  have hz2' := hlia2.lt
  have hv2 : PV w2 (New (w.alloc (.cells #[.int .i64 0, .string ⟨#[]⟩, .slice Option.none 0 0] 27)) w1) p (.slice y1 y2 y3) := PV.mono (fun k hk => hk) (fun k hk => by
    rw [hl2'.grown.block k (by have := hk.2; simp; omega) (by have := hk.1; simp at this; simp; omega)]
    exact Below.heap_alloc _ _ _ hk.2) _ _ hv
  have HB : Hid (∀ k, New (w.alloc (.cells #[.int .i64 0, .string ⟨#[]⟩, .slice Option.none 0 0] 27)) w1 k → w.heap.size < k ∧ k < w1.heap.size) := fun k hk => by have h1 := hk.1; simp at h1; exact ⟨by omega, hk.2⟩
  obtain ⟨q0, q1, q2⟩ := hlie2.three (a := Ls.none)
  have g0 := hlie2.fr 0
  have g1 := hlie2.fr 1
  have g2 := hlie2.fr 2
  obtain ⟨m0, m1, m2⟩ := hlia2.three
  have k3 := hl2.lies.c3
  cases hse : sees s i1 124 with
  | false =>
    have hl3 := hl2
    rw [hse] at hl3
    simp only [Bool.false_eq_true, if_false] at hl3
    have HC : Hid (Case (Ls.alts (Ls.pat (12 - D)) (n + 1) (rest s i)) s z i1 z1 bad p) := by
      cases bad with
      | true => exact case_alts_bad hcase
      | false => exact case_alts_last hcase hse
    clear hse hcase
    go_wp2_with fail
    exact bodyPost_ret (v := patA p (.slice y1 y2 y3)) (by simp [results, Tryz.results39, go_sem, q0, q1, q2]) rfl (ppost_store HC.out hpl (by omega) (by omega) (by omega) hl3 hv2 (fun k hk => by have := HB.out k hk; omega))
  | true =>
    have hi3 := (sees_true hse).1
    have hl3 := hl2
    rw [hse] at hl3
    simp only [if_true] at hl3
    cases bad with
    | true =>
      have HC : Hid (Case (Ls.alts (Ls.pat (12 - D)) (n + 1) (rest s i)) s z (i1 + 1) z1 true p) := case_alts_bad hcase
      clear hse hcase
      go_wp2_with fail
      exact bodyPost_ret (v := patA p (.slice y1 y2 y3)) (by simp [results, Tryz.results39, go_sem, q0, q1, q2]) rfl (ppost_store HC.out hpl (by omega) (by omega) (by omega) hl3 hv2 (fun k hk => by have := HB.out k hk; omega))
    | false =>
      have Hse : Hid (sees s i1 124 = true) := hse
      clear hse
      go_wp2_with fail
      refine (hN pb (i1 + 1) z1 _ hl3.lies (by omega) (by omega) (by simp at hn ⊢; omega)).mono ?_
      rintro e w3 hpp
      obtain ⟨q, u1, u2, u3, i2, z2, bad2, rfl, hv3, h1, h2, h3, hl4', hcase2⟩ := hpp.mid (fun d t hr => ⟨Ls.alts_suf (Ls.pat_suf _) _ _ _ _ hr, Ls.alts_siz (Ls.pat_siz _) _ _ _ _ hr⟩) (by omega)
      clear hpp
      have HC : Hid (Case (Ls.alts (Ls.pat (12 - D)) (n + 1) (rest s i)) s z i2 z2 bad2 (Ls.any p q)) := case_alts_more hcase Hse.out hcase2
      clear hcase hcase2
      have hl4 := hl3.trans hl4'
      have hlie3 := hlie2.grown hl4'.grown (by simp [hne])
      have hlia3 := hlia2.grown hl4'.grown (by simp [hne1])
      have hz3 := hl4'.grown.size
      clear q0 q1 q2 g0 g1 g2 m0 m1 m2 k3
      obtain ⟨m0, m1, m2⟩ := hlia3.three
      have hz4 : w1.heap.size < w3.heap.size := by omega
      have hvp : PV w3 (New w w3) p (.slice y1 y2 y3) := PV.mono (fun k hk => ⟨by have := HB.out k hk; omega, by have := HB.out k hk; omega⟩) (fun k hk => hl4'.grown.block k (by have := HB.out k hk; omega) (by have := HB.out k hk; simp; omega)) _ _ hv2
      have hvq : PV w3 (New w1 w3) q (.slice u1 u2 u3) := PV.mono (fun k hk => ⟨by have := hk.1; omega, hk.2⟩) (fun _ _ => rfl) _ _ hv3
      have hvp' : PV w3 (fun k => w.heap.size < k ∧ k < w3.heap.size) p (.slice y1 y2 y3) := PV.mono (fun k hk => ⟨by have := HB.out k hk; omega, by have := HB.out k hk; omega⟩) (fun k hk => hl4'.grown.block k (by have := HB.out k hk; omega) (by have := HB.out k hk; simp; omega)) _ _ hv2
      have hvq' : PV w3 (fun k => w.heap.size < k ∧ k < w3.heap.size) q (.slice u1 u2 u3) := PV.mono (fun k hk => ⟨by have := hk.1; omega, hk.2⟩) (fun _ _ => rfl) _ _ hv3
      go_wp2_with fail
      refine (either_any p q (.slice y1 y2 y3) (.slice u1 u2 u3) _ _ (fun k hk => by have := hk.2; simp; omega) (hvp'.below (below_alloc1 _ _) (fun k hk => hk.2) (fun _ h => h)) (hvq'.below (below_alloc1 _ _) (fun k hk => hk.2) (fun _ h => h))).mono ?_
      rintro e w5 ⟨x, rfl, hx, hb5⟩
      obtain ⟨x1, x2, x3, rfl⟩ := PV.slice _ _ hx
      have hl5 := (hl4.below (below_alloc1 _ _)).below hb5
      have hlie5 := (hlie3.below (below_alloc1 _ _) hlie3.lt).below hb5 (by have := hlie3.lt; simp; omega)
      have hs5 := hb5.size
      simp at hs5
      obtain ⟨q0, q1, q2⟩ := hlie5.three (a := Ls.none)
      have g0 := hlie5.fr 0
      have g1 := hlie5.fr 1
      have g2 := hlie5.fr 2
      go_wp2_with fail
      exact bodyPost_ret (v := patA (Ls.any p q) (.slice x1 x2 x3)) (by simp [results, Tryz.results39, go_sem, q0, q1, q2]) rfl (ppost_store HC.out hpl (by omega) (by omega) (by omega) hl5 hx (fun k hk => by
        rcases hk with hk | hk
        · have h1 := hk.1; have h2 := hk.2; omega
        · have h1 := hk.1; have h2 := hk.2; simp at h1; omega))

theorem patternN (s : ByteArray) (hs : s.size ≤ 1048576) (D : Nat) (hD : D ≤ 12) (hT : ∀ m, ThingsSaid s D m) : (n : Nat) → PatSaidN s D n
  | 0 => fun _ _ _ _ _ _ _ hn => absurd hn (Nat.not_lt_zero _)
  | n + 1 => pattern_go s hs D n hD hT (patternN s hs D hD hT n)

theorem pattern_step (s : ByteArray) (hs : s.size ≤ 1048576) (D : Nat) (hD : D ≤ 12) (hP : PatSaid s (D + 1)) : PatSaid s D := by
  intro pb i z w h hi hz
  have hT := things_any s hs D (thing_any s hs D (one_any s hs D hD hP))
  have := patternN s hs D hD hT ((rest s i).length + 1) pb i z w h hi hz (Nat.lt_succ_self _)
  rw [show 13 - D = (12 - D) + 1 from by omega, Ls.pat]
  exact this

theorem pattern_any (s : ByteArray) (hs : s.size ≤ 1048576) : (k : Nat) → k ≤ 13 → PatSaid s (13 - k)
  | 0, _ => pattern_deep s
  | k + 1, hk => by
    have h := pattern_any s hs k (by omega)
    refine pattern_step s hs (13 - (k + 1)) (by omega) ?_
    rw [show 13 - (k + 1) + 1 = 13 - k from by omega]
    exact h

end Go.Proofs.YtfklinjaajafgaaGreatDoor
