import Derived.Test.YtkfokddlgmcimaaGreatDoorK22
import Derived.Test.YtkfokddlgmcimaaGreatDoorK02
import Derived.Test.YtkfokddlgmcimaaGreatDoorK24
import Derived.Deep.CutBlock
import Derived.Deep.DeepCutAuto
set_option maxRecDepth 100000
set_option maxHeartbeats 4000000
namespace Go.Proofs.YtkfokddlgmcimaaGreatDoor
open Go.RowKit
def PatSaidN (s : ByteArray) (D n : Nat) : Prop := ∀ (pb i z : Nat) (w : World), PB w pb s i z false -> i <= s.size -> z <= 1048576 + i -> (rest s i).length < n ->
 Calls Tryz.prog 30 #[.pointer (some ⟨pb, 0, none⟩), .int .i64 (D : Int)] w (PPost w pb s i z (Ls.alts (Ls.pat (12 - D)) n (rest s i)))
theorem case_alts_last {P : List UInt8 -> Ls.Rd} {n : Nat} {s : ByteArray} {i z i1 z1 : Nat} {p : Ls.Pat} (h1 : Case (Ls.things P ((rest s i).length + 1) (rest s i)) s z i1 z1 false p) (hse : sees s i1 124 = false) : Case (Ls.alts P (n + 1) (rest s i)) s z i1 z1 false p := by
 rcases h1 with ⟨h0, _⟩ | ⟨_, d, hr, rfl, rfl, hi'⟩
 ·cases h0
 ·exact .inr ⟨rfl, Ls.clast d, by rw [Ls.alts, hr]; dsimp only; rw [if_neg (by rw [sees_head, hse]; simp)], by rw [Ls.toPat_clast], by rw [Ls.dsize_clast], hi'⟩
theorem case_alts_bad {P : List UInt8 -> Ls.Rd} {n : Nat} {s : ByteArray} {i z i1 z1 i2 z2 : Nat} {p q : Ls.Pat} (h1 : Case (Ls.things P ((rest s i).length + 1) (rest s i)) s z i1 z1 true p) : Case (Ls.alts P (n + 1) (rest s i)) s z i2 z2 true q := by
 rcases h1 with ⟨_, hr⟩ | ⟨h0, _⟩
 ·exact .inl ⟨rfl, by rw [Ls.alts, hr]⟩
 ·cases h0
theorem case_alts_more {P : List UInt8 -> Ls.Rd} {n : Nat} {s : ByteArray} {i z i1 z1 i2 z2 : Nat} {p q : Ls.Pat} {bad : Bool} (h1 : Case (Ls.things P ((rest s i).length + 1) (rest s i)) s z i1 z1 false p) (hse : sees s i1 124 = true) (h2 : Case (Ls.alts P n (rest s (i1 + 1))) s z1 i2 z2 bad q) : Case (Ls.alts P (n + 1) (rest s i)) s z i2 z2 bad (Ls.any p q) := by
 rcases h1 with ⟨h0, _⟩ | ⟨_, d, hr, rfl, rfl, hi'⟩
 ·cases h0
 rcases h2 with ⟨rfl, hr2⟩ | ⟨rfl, d2, hr2, rfl, rfl, hi2⟩
 ·exact .inl ⟨rfl, by rw [Ls.alts, hr]; dsimp only; rw [if_pos (sees_head.2 hse), rest_tail, hr2]⟩
 ·exact .inr ⟨rfl, Ls.ccons d d2, by rw [Ls.alts, hr]; dsimp only; rw [if_pos (sees_head.2 hse), rest_tail, hr2], by rw [Ls.toPat_ccons], by rw [Ls.dsize_ccons]; omega, hi2⟩
theorem pattern_deep (s : ByteArray) : PatSaid s 13 := by
 intro pb i z w h hi hz
 have hpl := h.lt
 have hne : ¬ w.heap.size = pb := by omega
 have hne' : ¬ pb = w.heap.size := by omega
 have hl := Left.of_below h (below_alloc1 w (.cells #[.int .i64 0, .string ⟨#[]⟩, .slice none 0 0] 27))
 have k3 := h.c3
 have f3 := h.fr 3
 have hlie := lies_new w [.int .i64 0, .string ⟨#[]⟩, .slice none 0 0]
 go_enter Tryz.func30, Tryz.ntmps30
 go_wp2_with fail
 exact bodyPost_ret (v := patA Ls.none (.slice none 0 0)) (by simp [results, Tryz.results30, go_sem, Ls.none]) rfl (ppost_bad rfl (((Left.of_below h (Below.refl _ _)).set3 true).below (below_alloc1 _ _)) (Nat.le_refl _) (by omega) (by omega))
theorem pattern_go (s : ByteArray) (hs : s.size <= 1048576) (D n : Nat) (hD : D <= 12) (hT : ∀ m, ThingsSaid s D m) (hN : PatSaidN s D n) : PatSaidN s D (n + 1) := by
 intro pb i z w h hi hz hn
 have hpl := h.lt
 have hne : ¬ w.heap.size = pb := by omega
 have hne' : ¬ pb = w.heap.size := by omega
 have hl := Left.of_below h (below_alloc1 w (.cells #[.int .i64 0, .string ⟨#[]⟩, .slice none 0 0] 27))
 have hlie := lies_new w [.int .i64 0, .string ⟨#[]⟩, .slice none 0 0]
 have hD' : ¬ (12 : Int) < (D : Int) := by omega
 go_enter Tryz.func30, Tryz.ntmps30
 go_wp2_with fail
 refine (hT ((rest s i).length + 1) pb i z _ hl.lies hi hz (Nat.lt_succ_self _)).mono ?_
 rintro e w1 hpp
 obtain ⟨p, y1, y2, y3, i1, z1, bad, rfl, hv, hi1, hi2, hz2, hl1', hcase⟩ := hpp.mid (fun d t hr => ⟨Ls.things_suf (Ls.pat_suf _) _ _ _ _ hr, Ls.things_siz (Ls.pat_siz _) _ _ _ _ hr⟩) hi
 clear hpp
 have hl1 := hl.trans hl1'
 have hlie1 := hlie.grown hl1'.grown (by simp [hne])
 have hz1 := hlie1.lt
 have hz01 := hl1'.grown.size
 simp at hz01
 go_wp2_with fail
 refine (take_any pb s i1 z1 bad 124 _ (hl1.lies.below (below_alloc1 w1 (.cells #[.int .i64 p.kind, .string ⟨p.signs.toArray⟩, .slice y1 y2 y3] 27))) (by omega) (by omega)).mono ?_
 rintro e w2 ⟨rfl, hl2'⟩
 have hl2 := (hl1.below (below_alloc1 w1 (.cells #[.int .i64 p.kind, .string ⟨p.signs.toArray⟩, .slice y1 y2 y3] 27))).trans hl2'
 have hne1 : ¬ w1.heap.size = pb := by omega
 have hlie2 := (hlie1.below (below_alloc1 w1 (.cells #[.int .i64 p.kind, .string ⟨p.signs.toArray⟩, .slice y1 y2 y3] 27)) hz1).grown hl2'.grown (by simp [hne])
 have hlia2 := (lies_new w1 (patC p (.slice y1 y2 y3))).grown hl2'.grown (by simp [hne1])
 have hz2' := hlia2.lt
 have hv2 : PV w2 (New (w.alloc (.cells #[.int .i64 0, .string ⟨#[]⟩, .slice none 0 0] 27)) w1) p (.slice y1 y2 y3) := PV.mono (fun k hk => hk) (fun k hk => by
  rw [hl2'.grown.block k (by have := hk.2; simp; omega) (by have := hk.1; simp at this; simp; omega)]
  exact Below.heap_alloc _ _ _ hk.2) _ _ hv
 have HB : Hid (∀ k, New (w.alloc (.cells #[.int .i64 0, .string ⟨#[]⟩, .slice none 0 0] 27)) w1 k -> w.heap.size < k /\ k < w1.heap.size) := fun k hk => by have h1 := hk.1; simp at h1; exact ⟨by omega, hk.2⟩
 obtain ⟨q0, q1, q2⟩ := hlie2.three (a := Ls.none)
 have g0 := hlie2.fr 0
 have g1 := hlie2.fr 1
 have g2 := hlie2.fr 2
 obtain ⟨m0, m1, m2⟩ := hlia2.three
 have k3 := hl2.lies.c3
 cases hse : sees s i1 124 with
 | false =>
  have hl3 := hl2
  rw [hse] at hl3
  simp only [Bool.false_eq_true, if_false] at hl3
  have HC : Hid (Case (Ls.alts (Ls.pat (12 - D)) (n + 1) (rest s i)) s z i1 z1 bad p) := by
   cases bad with
   | true => exact case_alts_bad hcase
   | false => exact case_alts_last hcase hse
  clear hse hcase
  go_wp2_with fail
  exact bodyPost_ret (v := patA p (.slice y1 y2 y3)) (by simp [results, Tryz.results30, go_sem, q0, q1, q2]) rfl (ppost_store HC.out hpl (by omega) (by omega) (by omega) hl3 hv2 (fun k hk => by have := HB.out k hk; omega))
 | true =>
  have hi3 := (sees_true hse).1
  have hl3 := hl2
  rw [hse] at hl3
  simp only [if_true] at hl3
  cases bad with
  | true =>
   have HC : Hid (Case (Ls.alts (Ls.pat (12 - D)) (n + 1) (rest s i)) s z (i1 + 1) z1 true p) := case_alts_bad hcase
   clear hse hcase
   go_wp2_with fail
   exact bodyPost_ret (v := patA p (.slice y1 y2 y3)) (by simp [results, Tryz.results30, go_sem, q0, q1, q2]) rfl (ppost_store HC.out hpl (by omega) (by omega) (by omega) hl3 hv2 (fun k hk => by have := HB.out k hk; omega))
  | false =>
   have Hse : Hid (sees s i1 124 = true) := hse
   clear hse
   go_wp2_with fail
   refine (hN pb (i1 + 1) z1 _ hl3.lies (by omega) (by omega) (by simp at hn ⊢; omega)).mono ?_
   rintro e w3 hpp
   obtain ⟨q, u1, u2, u3, i2, z2, bad2, rfl, hv3, h1, h2, h3, hl4', hcase2⟩ := hpp.mid (fun d t hr => ⟨Ls.alts_suf (Ls.pat_suf _) _ _ _ _ hr, Ls.alts_siz (Ls.pat_siz _) _ _ _ _ hr⟩) (by omega)
   clear hpp
   have HC : Hid (Case (Ls.alts (Ls.pat (12 - D)) (n + 1) (rest s i)) s z i2 z2 bad2 (Ls.any p q)) := case_alts_more hcase Hse.out hcase2
   clear hcase hcase2
   have hl4 := hl3.trans hl4'
   have hlie3 := hlie2.grown hl4'.grown (by simp [hne])
   have hlia3 := hlia2.grown hl4'.grown (by simp [hne1])
   have hz3 := hl4'.grown.size
   clear q0 q1 q2 g0 g1 g2 m0 m1 m2 k3
   obtain ⟨m0, m1, m2⟩ := hlia3.three
   have hz4 : w1.heap.size < w3.heap.size := by omega
   have hvp : PV w3 (New w w3) p (.slice y1 y2 y3) := PV.mono (fun k hk => ⟨by have := HB.out k hk; omega, by have := HB.out k hk; omega⟩) (fun k hk => hl4'.grown.block k (by have := HB.out k hk; omega) (by have := HB.out k hk; simp; omega)) _ _ hv2
   have hvq : PV w3 (New w1 w3) q (.slice u1 u2 u3) := PV.mono (fun k hk => ⟨by have := hk.1; omega, hk.2⟩) (fun _ _ => rfl) _ _ hv3
   have hvp' : PV w3 (fun k => w.heap.size < k /\ k < w3.heap.size) p (.slice y1 y2 y3) := PV.mono (fun k hk => ⟨by have := HB.out k hk; omega, by have := HB.out k hk; omega⟩) (fun k hk => hl4'.grown.block k (by have := HB.out k hk; omega) (by have := HB.out k hk; simp; omega)) _ _ hv2
   have hvq' : PV w3 (fun k => w.heap.size < k /\ k < w3.heap.size) q (.slice u1 u2 u3) := PV.mono (fun k hk => ⟨by have := hk.1; omega, hk.2⟩) (fun _ _ => rfl) _ _ hv3
   go_wp2_with fail
   refine (either_any p q (.slice y1 y2 y3) (.slice u1 u2 u3) _ _ (fun k hk => by have := hk.2; simp; omega) (hvp'.below (below_alloc1 _ _) (fun k hk => hk.2) (fun _ h => h)) (hvq'.below (below_alloc1 _ _) (fun k hk => hk.2) (fun _ h => h))).mono ?_
   rintro e w5 ⟨x, rfl, hx, hb5⟩
   obtain ⟨x1, x2, x3, rfl⟩ := PV.slice _ _ hx
   have hl5 := (hl4.below (below_alloc1 _ _)).below hb5
   have hlie5 := (hlie3.below (below_alloc1 _ _) hlie3.lt).below hb5 (by have := hlie3.lt; simp; omega)
   have hs5 := hb5.size
   simp at hs5
   obtain ⟨q0, q1, q2⟩ := hlie5.three (a := Ls.none)
   have g0 := hlie5.fr 0
   have g1 := hlie5.fr 1
   have g2 := hlie5.fr 2
   go_wp2_with fail
   exact bodyPost_ret (v := patA (Ls.any p q) (.slice x1 x2 x3)) (by simp [results, Tryz.results30, go_sem, q0, q1, q2]) rfl (ppost_store HC.out hpl (by omega) (by omega) (by omega) hl5 hx (fun k hk => by
    rcases hk with hk | hk
    ·have h1 := hk.1; have h2 := hk.2; omega
    ·have h1 := hk.1; have h2 := hk.2; simp at h1; omega))
theorem patternN (s : ByteArray) (hs : s.size <= 1048576) (D : Nat) (hD : D <= 12) (hT : ∀ m, ThingsSaid s D m) : (n : Nat) -> PatSaidN s D n
 | 0 => fun _ _ _ _ _ _ _ hn => absurd hn (Nat.not_lt_zero _)
 | n + 1 => pattern_go s hs D n hD hT (patternN s hs D hD hT n)
theorem pattern_step (s : ByteArray) (hs : s.size <= 1048576) (D : Nat) (hD : D <= 12) (hP : PatSaid s (D + 1)) : PatSaid s D := by
 intro pb i z w h hi hz
 have hT := things_any s hs D (thing_any s hs D (one_any s hs D hD hP))
 have := patternN s hs D hD hT ((rest s i).length + 1) pb i z w h hi hz (Nat.lt_succ_self _)
 rw [show 13 - D = (12 - D) + 1 from by omega, Ls.pat]
 exact this
theorem pattern_any (s : ByteArray) (hs : s.size <= 1048576) : (k : Nat) -> k <= 13 -> PatSaid s (13 - k)
 | 0, _ => pattern_deep s
 | k + 1, hk => by
  have h := pattern_any s hs k (by omega)
  refine pattern_step s hs (13 - (k + 1)) (by omega) ?_
  rw [show 13 - (k + 1) + 1 = 13 - k from by omega]
  exact h
end Go.Proofs.YtkfokddlgmcimaaGreatDoor
namespace Go.Proofs.YtkfokddlgmcimaaGreatDoor
open Go.RowKit
def okW (c : UInt8) : Bool := Ls.sign c && c != 10
theorem wordOf_end (t : List UInt8) : Ls.wordOf (34 :: t) = some ([], t) := by simp [Ls.wordOf]
theorem wordOf_bad {c : UInt8} (t : List UInt8) (h : c ≠ 34) (hb : okW c = false) : Ls.wordOf (c :: t) = .none := by
  rw [Ls.wordOf, if_neg h, if_pos]
  unfold okW at hb
  cases hs : Ls.sign c with
  | false => exact .inl rfl
  | true => rw [hs] at hb; simp at hb; exact .inr hb
theorem wordOf_more {c : UInt8} (t : List UInt8) (h : c ≠ 34) (hb : okW c = true) : Ls.wordOf (c :: t) = match Ls.wordOf t with | .none => .none | some (w, u) => some (c :: w, u) := by
  unfold okW at hb
  simp at hb
  have h2 : ¬ (Ls.sign c = false \/ c = 10) := by
    rintro (h1 | h1)
    · rw [hb.1] at h1; cases h1
    · exact hb.2 h1
  rw [Ls.wordOf, if_neg h, if_neg h2]
  cases Ls.wordOf t with
  | none => rfl
  | some x => obtain ⟨w, u⟩ := x; rfl
structure Scan (s : ByteArray) (i k : Nat) (bad : Bool) : Prop where
  le : i <= k
  lt : k <= s.size
  ok : bad = false -> Ls.wordOf (rest s i) = match Ls.wordOf (rest s k) with | .none => .none | some (w, u) => some ((rest s i).take (k - i) ++ w, u)
  no : bad = true -> Ls.wordOf (rest s i) = .none
theorem Scan.start (s : ByteArray) (i : Nat) (hi : i <= s.size) : Scan s i i false := by
  refine ⟨Nat.le_refl _, hi, fun _ => ?_, by simp⟩
  cases Ls.wordOf (rest s i) with
  | none => rfl
  | some x => obtain ⟨w, u⟩ := x; simp
theorem take_more {s : ByteArray} {i k : Nat} (h1 : i <= k) (hk : k < s.size) : (rest s i).take (k + 1 - i) = (rest s i).take (k - i) ++ [nx s k] := by
  have hl : k - i < (rest s i).length := by rw [rest_len]; omega
  rw [show k + 1 - i = (k - i) + 1 by omega, List.take_succ_eq_append_getElem hl]
  congr 2
  rw [List.getElem_drop, nx_lt hk, ByteArray.getElem_eq_getElem_data]
  simp [show i + (k - i) = k by omega]
theorem Scan.next {s : ByteArray} {i k : Nat} {bad : Bool} (h : Scan s i k bad) (hk : k < s.size) (hc : nx s k ≠ 34) : Scan s i (k + 1) (bad || !okW (nx s k)) := by
  have hle := h.le
  refine ⟨by omega, by omega, fun hb => ?_, fun hb => ?_⟩
  · simp at hb
    rw [h.ok hb.1, rest_lt hk, wordOf_more _ hc hb.2, take_more h.le hk]
    cases Ls.wordOf (rest s (k + 1)) with
    | none => rfl
    | some x => obtain ⟨w, u⟩ := x; simp
  · simp at hb
    rcases hb with hb | hb
    · exact h.no hb
    · cases bad with
      | true => exact h.no rfl
      | false => rw [h.ok rfl, rest_lt hk, wordOf_bad _ hc hb]
def atPB (w : World) (pb : Nat) : Nat := match w.cell? ⟨pb, 1, none⟩ with
  | some (.int _ a) => a.toNat
  | _ => 0
theorem atOf_PB {w : World} {pb : Nat} {s : ByteArray} {a z : Nat} {b : Bool} (h : PB w pb s a z b) : atPB w pb = a := by unfold atPB; rw [h.c1]; simp
theorem Left.drew' {w w1 : World} {pb : Nat} {s : ByteArray} {a z : Nat} {b : Bool} (h : Left w pb s a z b w1) : Left w pb s a z b w1.drew := h.below ⟨rfl, rfl, rfl, Nat.le_refl _, fun _ _ => rfl⟩
theorem word_next {w w4 : World} {pb : Nat} {s : ByteArray} {i1 k z : Nat} {bad bad' : Bool} (sc : Scan s i1 k bad) (hk : k < s.size) (hc : nx s k ≠ 34) (hb : bad' = (bad || !okW (nx s k))) (hl : Left w pb s k z bad w4) :
    (∃ (k' : Nat) (b : Bool), Scan s i1 k' b /\ Left w pb s k' z b ((w4.setCell ⟨pb, 3, none⟩ (.bool bad')).setCell ⟨pb, 1, none⟩ (.int .i64 (((k + 1 : Nat)) : Int))).drew) /\
    s.size - atPB ((w4.setCell ⟨pb, 3, none⟩ (.bool bad')).setCell ⟨pb, 1, none⟩ (.int .i64 (((k + 1 : Nat)) : Int))).drew pb < s.size - k := by
  have h1 := ((hl.set3 bad').set1 (k + 1)).drew'
  exact ⟨⟨k + 1, bad', by rw [hb]; exact sc.next hk hc, h1⟩, by rw [atOf_PB h1.lies]; omega⟩
theorem extract_str (s : ByteArray) (i k : Nat) : s.extract i k = ⟨((rest s i).take (k - i)).toArray⟩ := by
  apply ByteArray.ext
  apply Array.toList_inj.1
  simp [ByteArray.data_extract, List.take_drop]
theorem extract_len {s : ByteArray} {i k : Nat} (h1 : i <= k) (h2 : k <= s.size) : (s.extract i k).size = k - i := by
  rw [ByteArray.size_extract]; omega
def WPost (w : World) (pb : Nat) (s : ByteArray) (i z : Nat) : Ending -> World -> Prop := fun e w' =>
  (∃ x t, Ls.wordR (rest s i) = some (x, t) /\ e = .returned (strV x) /\ Left w pb s (s.size - t.length) (z + x.length) false w') \/
  (Ls.wordR (rest s i) = .none /\ ∃ x i' z', e = .returned (strV x) /\ i <= i' /\ i' <= s.size + 1 /\ z' <= z + (i' - i) /\ Left w pb s i' z' true w')
theorem word_done {w w3 : World} {pb : Nat} {s : ByteArray} {i i1 k z : Nat} {bad : Bool} (sc : Scan s i1 k bad) (hend : s.size <= k \/ nx s k = 34) (hi : i1 = (if sees s i 34 = true then i + 1 else i)) (hl : Left w pb s (if sees s k 34 = true then k + 1 else k) z bad w3) :
    WPost w pb s i z (.returned (.string (s.extract i1 k))) ((w3.setCell ⟨pb, 3, none⟩ (.bool (bad || !sees s i 34 || !sees s k 34))).setCell ⟨pb, 2, none⟩ (.int .i64 ((z + (k - i1) : Nat) : Int))) := by
  have hkb := sc.le
  have hks := sc.lt
  have hl2 := (hl.set3 (bad || !sees s i 34 || !sees s k 34)).set2 (z + (k - i1))
  have hi' : (if sees s k 34 = true then k + 1 else k) <= s.size + 1 /\ k <= (if sees s k 34 = true then k + 1 else k) := by split <;> omega
  have hii : i <= i1 := by rw [hi]; split <;> omega
  rw [extract_str]
  cases ht : sees s i 34 with
  | false =>
    have hn : Ls.wordR (rest s i) = .none := by unfold Ls.wordR; rw [if_neg (by rw [sees_head, ht]; simp)]
    rw [ht] at hl2
    exact .inr ⟨hn, _, _, z + (k - i1), rfl, by omega, hi'.1, by omega, by simpa using hl2⟩
  | true =>
    have hr : Ls.wordR (rest s i) = Ls.wordOf (rest s i1) := by unfold Ls.wordR; rw [if_pos (sees_head.2 ht), rest_tail, hi, if_pos ht]
    rw [ht] at hl2
    cases bad with
    | true =>
      exact .inr ⟨by rw [hr]; exact sc.no rfl, _, _, z + (k - i1), rfl, by omega, hi'.1, by omega, by simpa using hl2⟩
    | false =>
      have hok := sc.ok rfl
      cases he : sees s k 34 with
      | false =>
        have hk : s.size <= k := by
          rcases hend with h | h
          · exact h
          · rcases Nat.lt_or_ge k s.size with h1 | h1
            · unfold sees at he; simp [h1, h] at he
            · exact h1
        rw [rest_ge hk] at hok
        rw [he] at hl2 hi'
        exact .inr ⟨by rw [hr]; exact hok, _, k, z + (k - i1), rfl, by omega, by omega, by omega, by simpa using hl2⟩
      | true =>
        have hk := (sees_true he).1
        rw [sees_rest he, wordOf_end] at hok
        rw [he] at hl2
        refine .inl ⟨_, _, by rw [hr]; exact hok, by simp, ?_⟩
        rw [rest_len, show s.size - (s.size - (k + 1)) = k + 1 by omega]
        have hlen : ((rest s i1).take (k - i1) ++ []).length = k - i1 := by simp; omega
        rw [hlen]
        simpa using hl2
theorem word_any (s : ByteArray) (hs : s.size <= 1048576) (pb i z : Nat) (w : World) (h : PB w pb s i z false) (hi : i <= s.size) (hz : z <= 1048576 + i) :
    Calls Tryz.prog 113 #[.pointer (some ⟨pb, 0, none⟩)] w (WPost w pb s i z) := by
  go_enter Tryz.func113, Tryz.ntmps113
  go_wp2_with fail
  refine (take_any pb s i z false 34 _ h (by omega) (by omega)).mono ?_
  rintro e w1 ⟨rfl, hl1⟩
  have k1 := hl1.lies.c1
  obtain ⟨i1, hi1, hi1a, hi1b⟩ : ∃ i1, i1 = (if sees s i 34 = true then i + 1 else i) /\ i <= i1 /\ i1 <= s.size := by
    refine ⟨_, rfl, ?_, ?_⟩
    · split <;> omega
    · split
      · rename_i hse; have := (sees_true hse).1; omega
      · exact hi
  rw [<- hi1] at hl1 k1
  have Hi1 : Hid (i1 = (if sees s i 34 = true then i + 1 else i)) := hi1
  clear hi1
  go_upto_block 0 with fail
  go_cut [5] (fun _ wx => ∃ (k : Nat) (bad : Bool), Scan s i1 k bad /\ (s.size <= k \/ nx s k = 34) /\ Left w pb s k z bad wx)
  case first =>
   go_wp2_with fail
   go_loopw [5] (fun _ wr => ∃ (k : Nat) (bad : Bool), Scan s i1 k bad /\ Left w pb s k z bad wr) (fun _ wr => s.size - atPB wr pb)
   case atStart => exact ⟨i1, false, Scan.start s i1 hi1b, hl1⟩
   case round =>
     obtain ⟨k, bad, sc, hl⟩ := hrel
     have hkb := sc.le
     have hks := sc.lt
     have c0 := hl.lies.c0
     have c1 := hl.lies.c1
     have c3 := hl.lies.c3
     by_cases hlt : k < s.size
     · have hkn : decide ((k : Int) < (s.size : Int)) = true := by simp; omega
       by_cases hc : nx s k = 34
       · have hcb : ((s[k].toNat : Int) != 34) = false := by
           rw [nx_lt hlt] at hc
           simp [hc]
         have HN : Hid (nx s k = 34) := hc
         clear hc
         go_wp2_with fail
         go_quiet (fail)
         go_wp2_with fail
         go_meet
         case rel => exact ⟨k, bad, sc, .inr HN.out, hl.below (below_drewN (w := wr) nq)⟩
       · have hcb : ((s[k].toNat : Int) != 34) = true := by
           rw [nx_lt hlt] at hc
           simp
           intro e
           exact hc (UInt8.toNat_inj.1 (by simpa using Int.ofNat.inj (by simpa using e)))
         have HN : Hid (nx s k ≠ 34) := hc
         have HS : Hid (∀ W, Calls Tryz.prog 59 #[.int .u8 s[k].toNat] W fun e w' => e = .returned (.bool (Ls.sign s[k])) /\ w' = W) := fun W => sign_any s[k] W
         clear hc
         go_wp2_with fail
         go_quiet (fail)
         go_wp2_with fail
         have hl2 := hl.below (below_drewN (w := wr) nq)
         have hat := atOf_PB hl.lies
         clear c0 c1 c3 hl
         generalize wr.drewN nq = w2 at *
         have c0 := hl2.lies.c0
         have c1 := hl2.lies.c1
         go_quiet ((go_at_call 59; exact Calls.quiet_of_same (HS.out _)))
         go_wp2_with fail
         have hl3 := hl2.below (below_drewN (w := w2) nq)
         clear c0 c1 hl2 HS
         generalize w2.drewN nq = w4 at *
         have c0 := hl3.lies.c0
         have c1 := hl3.lies.c1
         have c3 := hl3.lies.c3
         have f1 := hl3.lies.fr 1
         have f3 := hl3.lies.fr 3
         have Hat : Hid (atPB wr pb = k) := hat
         clear hat
         have HO : Hid (okW (nx s k) = (Ls.sign s[k] && s[k] != 10)) := by show _ = _; rw [nx_lt hlt]; rfl
         cases bad with
         | true =>
           go_region
           go_wp2_with fail
           rw [Hat.out]
           exact word_next sc hlt HN.out (by simp) hl3
         | false =>
           cases hsg : Ls.sign s[k] with
           | false =>
             have Hsg : Hid (Ls.sign s[k] = false) := hsg
             clear hsg
             go_region
             go_wp2_with fail
             rw [Hat.out]
             exact word_next sc hlt HN.out (by rw [HO.out, Hsg.out]; rfl) hl3
           | true =>
             have Hsg : Hid (Ls.sign s[k] = true) := hsg
             clear hsg
             by_cases h10 : s[k] = 10
             · have h10b : ((s[k].toNat : Int) == 10) = true := by simp [h10]
               have H10 : Hid (s[k] = 10) := h10
               clear h10
               go_region
               go_wp2_with fail
               rw [Hat.out]
               exact word_next sc hlt HN.out (by rw [HO.out, Hsg.out, H10.out]; rfl) hl3
             · have h10b : ((s[k].toNat : Int) == 10) = false := by
                 simp
                 intro e
                 exact h10 (UInt8.toNat_inj.1 (by simpa using Int.ofNat.inj (by simpa using e)))
               have H10 : Hid (s[k] ≠ 10) := h10
               clear h10
               go_region
               go_wp2_with fail
               rw [Hat.out]
               exact word_next sc hlt HN.out (by rw [HO.out, Hsg.out]; simp [H10.out]) hl3
     · have hkn : decide ((k : Int) < (s.size : Int)) = false := by simp; omega
       go_wp2_with fail
       go_quiet (fail)
       go_wp2_with fail
       go_meet
       case rel => exact ⟨k, bad, sc, .inl (by omega), hl.below (below_drewN (w := wr) nq)⟩
  case rest =>
    obtain ⟨k, bad, sc, hend, hl⟩ := hcut
    have hkb := sc.le
    have hks := sc.lt
    have c0 := hl.lies.c0
    have c1 := hl.lies.c1
    go_wp2_with fail
    go_quiet (fail)
    go_wp2_with fail
    have hl2 := hl.below (below_drewN (w := wc) nq)
    clear c0 c1 hl
    generalize wc.drewN nq = w2 at *
    refine (take_any pb s k z bad 34 _ hl2.lies (by omega) (by omega)).mono ?_
    rintro e w3 ⟨rfl, hl3'⟩
    have hl3 := hl2.trans hl3'
    have hxl := extract_len hkb hks
    have c2 := hl3.lies.c2
    have c3 := hl3.lies.c3
    have f2 := hl3.lies.fr 2
    have f3 := hl3.lies.fr 3
    clear hl3' hl2
    have hd := word_done sc hend Hi1.out hl3
    have HD : Hid _ := hd
    clear hd hl3 sc hend
    generalize ht : sees s i 34 = t at *
    generalize he : sees s k 34 = e' at *
    clear ht he
    cases bad <;> cases t <;> cases e' <;>
      (go_wp2_with fail
       go_ret
       exact HD.out)
end Go.Proofs.YtkfokddlgmcimaaGreatDoor
