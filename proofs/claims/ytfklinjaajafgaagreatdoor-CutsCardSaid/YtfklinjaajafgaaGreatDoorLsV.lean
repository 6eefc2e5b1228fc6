import Derived.Test.YtfklinjaajafgaaGreatDoorLsU
namespace Go.Proofs.YtfklinjaajafgaaGreatDoor
open Go.RowKit

/-- things ends at once. -/
def StopPost (w : World) (pb : Nat) (s : ByteArray) (i z : Nat) (b : Bool) : Ending → World → Prop := fun e w' => e = .returned (patA Ls.none (.slice Option.none 0 0)) ∧ Left w pb s i z b w'

set_option maxRecDepth 100000 in
set_option maxHeartbeats 1000000 in
theorem things_bad (s : ByteArray) (D : Nat) (pb i z : Nat) (w : World) (h : PB w pb s i z true) :
    Calls Tryz.prog 67 #[.pointer (some ⟨pb, 0, Option.none⟩), .int .i64 (D : Int)] w (StopPost w pb s i z true) := by
  have hpl := h.lt
  have k0 := h.c0
  have k1 := h.c1
  have k3 := h.c3
  have hl := Left.of_below h (below_alloc1 w (.cells #[.int .i64 0, .string ⟨#[]⟩, .slice Option.none 0 0] 27))
  have hlie := lies_new w [.int .i64 0, .string ⟨#[]⟩, .slice Option.none 0 0]
  go_enter Tryz.func67, Tryz.ntmps67
  go_wp2_with fail
  go_quiet (fail)
  have hl2 := hl.below (below_drewN (w := w.alloc (.cells #[.int .i64 0, .string ⟨#[]⟩, .slice Option.none 0 0] 27)) nq)
  have hlie2 := hlie.below (below_drewN (w := w.alloc (.cells #[.int .i64 0, .string ⟨#[]⟩, .slice Option.none 0 0] 27)) nq) hlie.lt
  clear hl hlie h
  generalize (w.alloc (.cells #[.int .i64 0, .string ⟨#[]⟩, .slice Option.none 0 0] 27)).drewN nq = w2 at *
  obtain ⟨q0, q1, q2⟩ := hlie2.three (a := Ls.none)
  have g0 := hlie2.fr 0
  have g1 := hlie2.fr 1
  have g2 := hlie2.fr 2
  go_wp2_with fail
  exact bodyPost_ret (v := patA Ls.none (.slice Option.none 0 0)) (by simp [results, Tryz.results67, go_sem, q0, q1, q2, Ls.none]) rfl ⟨rfl, hl2.res (Nat.le_refl _) hpl _ _ _⟩

set_option maxRecDepth 100000 in
set_option maxHeartbeats 1000000 in
theorem things_end (s : ByteArray) (D : Nat) (pb i z : Nat) (w : World) (h : PB w pb s i z false) (_hs : s.size ≤ 1048576) (hi : s.size ≤ i) (_hi2 : i ≤ 4611686018427387904) :
    Calls Tryz.prog 67 #[.pointer (some ⟨pb, 0, Option.none⟩), .int .i64 (D : Int)] w (StopPost w pb s i z false) := by
  have hpl := h.lt
  have k0 := h.c0
  have k1 := h.c1
  have k3 := h.c3
  have hd : decide ((s.size : Int) ≤ (i : Int)) = true := by simp; omega
  have hl := Left.of_below h (below_alloc1 w (.cells #[.int .i64 0, .string ⟨#[]⟩, .slice Option.none 0 0] 27))
  have hlie := lies_new w [.int .i64 0, .string ⟨#[]⟩, .slice Option.none 0 0]
  go_enter Tryz.func67, Tryz.ntmps67
  go_wp2_with fail
  go_quiet (fail)
  have hl2 := hl.below (below_drewN (w := w.alloc (.cells #[.int .i64 0, .string ⟨#[]⟩, .slice Option.none 0 0] 27)) nq)
  have hlie2 := hlie.below (below_drewN (w := w.alloc (.cells #[.int .i64 0, .string ⟨#[]⟩, .slice Option.none 0 0] 27)) nq) hlie.lt
  clear hl hlie h
  generalize (w.alloc (.cells #[.int .i64 0, .string ⟨#[]⟩, .slice Option.none 0 0] 27)).drewN nq = w2 at *
  obtain ⟨q0, q1, q2⟩ := hlie2.three (a := Ls.none)
  have g0 := hlie2.fr 0
  have g1 := hlie2.fr 1
  have g2 := hlie2.fr 2
  go_wp2_with fail
  exact bodyPost_ret (v := patA Ls.none (.slice Option.none 0 0)) (by simp [results, Tryz.results67, go_sem, q0, q1, q2, Ls.none]) rfl ⟨rfl, hl2.res (Nat.le_refl _) hpl _ _ _⟩

set_option maxRecDepth 100000 in
set_option maxHeartbeats 1000000 in
theorem things_c124 (s : ByteArray) (D : Nat) (pb i z : Nat) (w : World) (h : PB w pb s i z false) (_hs : s.size ≤ 1048576) (hi : i < s.size) (hc : nx s i = 124) :
    Calls Tryz.prog 67 #[.pointer (some ⟨pb, 0, Option.none⟩), .int .i64 (D : Int)] w (StopPost w pb s i z false) := by
  have hpl := h.lt
  have k0 := h.c0
  have k1 := h.c1
  have k3 := h.c3
  have hd : decide ((s.size : Int) ≤ (i : Int)) = false := by simp; omega
  have hd2 : (i : Int) < (s.size : Int) := by omega
  have hd3 : decide (s.size ≤ i) = false := by simp; omega
  have n124 : ((s[i].toNat : Int) == 124) = true := by rw [← nx_lt hi, hc]; rfl
  clear hc
  have hl := Left.of_below h (below_alloc1 w (.cells #[.int .i64 0, .string ⟨#[]⟩, .slice Option.none 0 0] 27))
  have hlie := lies_new w [.int .i64 0, .string ⟨#[]⟩, .slice Option.none 0 0]
  go_enter Tryz.func67, Tryz.ntmps67
  go_wp2_with fail
  go_quiet (fail)
  have hl2 := hl.below (below_drewN (w := w.alloc (.cells #[.int .i64 0, .string ⟨#[]⟩, .slice Option.none 0 0] 27)) nq)
  have hlie2 := hlie.below (below_drewN (w := w.alloc (.cells #[.int .i64 0, .string ⟨#[]⟩, .slice Option.none 0 0] 27)) nq) hlie.lt
  clear hl hlie h
  generalize (w.alloc (.cells #[.int .i64 0, .string ⟨#[]⟩, .slice Option.none 0 0] 27)).drewN nq = w2 at *
  obtain ⟨q0, q1, q2⟩ := hlie2.three (a := Ls.none)
  have g0 := hlie2.fr 0
  have g1 := hlie2.fr 1
  have g2 := hlie2.fr 2
  go_wp2_with fail
  exact bodyPost_ret (v := patA Ls.none (.slice Option.none 0 0)) (by simp [results, Tryz.results67, go_sem, q0, q1, q2, Ls.none]) rfl ⟨rfl, hl2.res (Nat.le_refl _) hpl _ _ _⟩

set_option maxRecDepth 100000 in
set_option maxHeartbeats 1000000 in
theorem things_c41 (s : ByteArray) (D : Nat) (pb i z : Nat) (w : World) (h : PB w pb s i z false) (_hs : s.size ≤ 1048576) (hi : i < s.size) (hc : nx s i = 41) :
    Calls Tryz.prog 67 #[.pointer (some ⟨pb, 0, Option.none⟩), .int .i64 (D : Int)] w (StopPost w pb s i z false) := by
  have hpl := h.lt
  have k0 := h.c0
  have k1 := h.c1
  have k3 := h.c3
  have hd : decide ((s.size : Int) ≤ (i : Int)) = false := by simp; omega
  have hd2 : (i : Int) < (s.size : Int) := by omega
  have hd3 : decide (s.size ≤ i) = false := by simp; omega
  have n124 : ((s[i].toNat : Int) == 124) = false := by rw [← nx_lt hi, hc]; rfl
  have n41 : ((s[i].toNat : Int) == 41) = true := by rw [← nx_lt hi, hc]; rfl
  clear hc
  have hl := Left.of_below h (below_alloc1 w (.cells #[.int .i64 0, .string ⟨#[]⟩, .slice Option.none 0 0] 27))
  have hlie := lies_new w [.int .i64 0, .string ⟨#[]⟩, .slice Option.none 0 0]
  go_enter Tryz.func67, Tryz.ntmps67
  go_wp2_with fail
  go_quiet (fail)
  have hl2 := hl.below (below_drewN (w := w.alloc (.cells #[.int .i64 0, .string ⟨#[]⟩, .slice Option.none 0 0] 27)) nq)
  have hlie2 := hlie.below (below_drewN (w := w.alloc (.cells #[.int .i64 0, .string ⟨#[]⟩, .slice Option.none 0 0] 27)) nq) hlie.lt
  clear hl hlie h
  generalize (w.alloc (.cells #[.int .i64 0, .string ⟨#[]⟩, .slice Option.none 0 0] 27)).drewN nq = w2 at *
  obtain ⟨q0, q1, q2⟩ := hlie2.three (a := Ls.none)
  have g0 := hlie2.fr 0
  have g1 := hlie2.fr 1
  have g2 := hlie2.fr 2
  go_wp2_with fail
  exact bodyPost_ret (v := patA Ls.none (.slice Option.none 0 0)) (by simp [results, Tryz.results67, go_sem, q0, q1, q2, Ls.none]) rfl ⟨rfl, hl2.res (Nat.le_refl _) hpl _ _ _⟩

set_option maxRecDepth 100000 in
set_option maxHeartbeats 1000000 in
theorem things_c47 (s : ByteArray) (D : Nat) (pb i z : Nat) (w : World) (h : PB w pb s i z false) (_hs : s.size ≤ 1048576) (hi : i < s.size) (hc : nx s i = 47) :
    Calls Tryz.prog 67 #[.pointer (some ⟨pb, 0, Option.none⟩), .int .i64 (D : Int)] w (StopPost w pb s i z false) := by
  have hpl := h.lt
  have k0 := h.c0
  have k1 := h.c1
  have k3 := h.c3
  have hd : decide ((s.size : Int) ≤ (i : Int)) = false := by simp; omega
  have hd2 : (i : Int) < (s.size : Int) := by omega
  have hd3 : decide (s.size ≤ i) = false := by simp; omega
  have n124 : ((s[i].toNat : Int) == 124) = false := by rw [← nx_lt hi, hc]; rfl
  have n41 : ((s[i].toNat : Int) == 41) = false := by rw [← nx_lt hi, hc]; rfl
  have n47 : ((s[i].toNat : Int) == 47) = true := by rw [← nx_lt hi, hc]; rfl
  clear hc
  have hl := Left.of_below h (below_alloc1 w (.cells #[.int .i64 0, .string ⟨#[]⟩, .slice Option.none 0 0] 27))
  have hlie := lies_new w [.int .i64 0, .string ⟨#[]⟩, .slice Option.none 0 0]
  go_enter Tryz.func67, Tryz.ntmps67
  go_wp2_with fail
  go_quiet (fail)
  have hl2 := hl.below (below_drewN (w := w.alloc (.cells #[.int .i64 0, .string ⟨#[]⟩, .slice Option.none 0 0] 27)) nq)
  have hlie2 := hlie.below (below_drewN (w := w.alloc (.cells #[.int .i64 0, .string ⟨#[]⟩, .slice Option.none 0 0] 27)) nq) hlie.lt
  clear hl hlie h
  generalize (w.alloc (.cells #[.int .i64 0, .string ⟨#[]⟩, .slice Option.none 0 0] 27)).drewN nq = w2 at *
  obtain ⟨q0, q1, q2⟩ := hlie2.three (a := Ls.none)
  have g0 := hlie2.fr 0
  have g1 := hlie2.fr 1
  have g2 := hlie2.fr 2
  go_wp2_with fail
  exact bodyPost_ret (v := patA Ls.none (.slice Option.none 0 0)) (by simp [results, Tryz.results67, go_sem, q0, q1, q2, Ls.none]) rfl ⟨rfl, hl2.res (Nat.le_refl _) hpl _ _ _⟩

theorem things_stop (s : ByteArray) (hs : s.size ≤ 1048576) (D : Nat) (pb i z : Nat) (w : World) (h : PB w pb s i z false) (hi : i ≤ s.size) (hst : Ls.stops (rest s i) = true) :
    Calls Tryz.prog 67 #[.pointer (some ⟨pb, 0, Option.none⟩), .int .i64 (D : Int)] w (StopPost w pb s i z false) := by
  rcases Nat.lt_or_ge i s.size with h1 | h1
  · rw [rest_lt h1] at hst
    simp only [Ls.stops, Bool.or_eq_true, beq_iff_eq] at hst
    rcases hst with (hc | hc) | hc
    · exact things_c124 s D pb i z w h hs h1 hc
    · exact things_c41 s D pb i z w h hs h1 hc
    · exact things_c47 s D pb i z w h hs h1 hc
  · exact things_end s D pb i z w h hs h1 (by omega)

def ThingsSaid (s : ByteArray) (D n : Nat) : Prop := ∀ (pb i z : Nat) (w : World), PB w pb s i z false → i ≤ s.size → z ≤ 1048576 + i → (rest s i).length < n →
  Calls Tryz.prog 67 #[.pointer (some ⟨pb, 0, Option.none⟩), .int .i64 (D : Int)] w (PPost w pb s i z (Ls.things (Ls.pat (12 - D)) n (rest s i)))

theorem case_things {P : List UInt8 → Ls.Rd} {n : Nat} {s : ByteArray} {i z i1 z1 i2 z2 : Nat} {p q : Ls.Pat} (hst : Ls.stops (rest s i) = false) (h1 : Case (Ls.thing P (rest s i)) s z i1 z1 false p) {bad : Bool} (h2 : Case (Ls.things P n (rest s i1)) s z1 i2 z2 bad q) : Case (Ls.things P (n + 1) (rest s i)) s z i2 z2 bad (Ls.row p q) := by
  rcases h1 with ⟨h0, _⟩ | ⟨_, d, hr, rfl, rfl, hi'⟩
  · cases h0
  rcases h2 with ⟨rfl, hr2⟩ | ⟨rfl, d2, hr2, rfl, rfl, hi2⟩
  · exact .inl ⟨rfl, by rw [Ls.things, if_neg (by simp [hst]), hr]; dsimp only; rw [hr2]⟩
  · exact .inr ⟨rfl, Ls.rcons d d2, by rw [Ls.things, if_neg (by simp [hst]), hr]; dsimp only; rw [hr2], by rw [Ls.toPat_rcons], by rw [Ls.dsize_rcons]; omega, hi2⟩

theorem case_things_bad {P : List UInt8 → Ls.Rd} {n : Nat} {s : ByteArray} {i z i1 z1 z2 i2 : Nat} {p q : Ls.Pat} (hst : Ls.stops (rest s i) = false) (h1 : Case (Ls.thing P (rest s i)) s z i1 z1 true p) : Case (Ls.things P (n + 1) (rest s i)) s z i2 z2 true q := by
  rcases h1 with ⟨_, hr⟩ | ⟨h0, _⟩
  · exact .inl ⟨rfl, by rw [Ls.things, if_neg (by simp [hst]), hr]⟩
  · cases h0

theorem stops_no {s : ByteArray} {i : Nat} (hst : Ls.stops (rest s i) = false) : ∃ _h : i < s.size, nx s i ≠ 124 ∧ nx s i ≠ 41 ∧ nx s i ≠ 47 := by
  rcases Nat.lt_or_ge i s.size with h1 | h1
  · rw [rest_lt h1] at hst
    simp only [Ls.stops, Bool.or_eq_false_iff, beq_eq_false_iff_ne] at hst
    exact ⟨h1, hst.1.1, hst.1.2, hst.2⟩
  · rw [rest_ge h1] at hst; cases hst

set_option maxRecDepth 100000 in
set_option maxHeartbeats 2000000 in
theorem things_go (s : ByteArray) (_hs : s.size ≤ 1048576) (D n : Nat) (hT : ThingSaid s D) (hN : ThingsSaid s D n) (pb i z : Nat) (w : World) (h : PB w pb s i z false) (hz : z ≤ 1048576 + i) (hn : (rest s i).length < n + 1) (hst : Ls.stops (rest s i) = false) :
    Calls Tryz.prog 67 #[.pointer (some ⟨pb, 0, Option.none⟩), .int .i64 (D : Int)] w (PPost w pb s i z (Ls.things (Ls.pat (12 - D)) (n + 1) (rest s i))) := by
  obtain ⟨hi, x1, x2, x3⟩ := stops_no hst
  have hpl := h.lt
  have hne : ¬ w.heap.size = pb := by omega
  have hne' : ¬ pb = w.heap.size := by omega
  have k0 := h.c0
  have k1 := h.c1
  have k3 := h.c3
  have hd : decide ((s.size : Int) ≤ (i : Int)) = false := by simp; omega
  have hd2 : (i : Int) < (s.size : Int) := by omega
  have hd3 : decide (s.size ≤ i) = false := by simp; omega
  have n124 : ((s[i].toNat : Int) == 124) = false := by rw [beq_eq_false_iff_ne, ← nx_lt hi]; intro e; exact x1 (UInt8.toNat_inj.1 (by simp; omega))
  have n41 : ((s[i].toNat : Int) == 41) = false := by rw [beq_eq_false_iff_ne, ← nx_lt hi]; intro e; exact x2 (UInt8.toNat_inj.1 (by simp; omega))
  have n47 : ((s[i].toNat : Int) == 47) = false := by rw [beq_eq_false_iff_ne, ← nx_lt hi]; intro e; exact x3 (UInt8.toNat_inj.1 (by simp; omega))
  clear x1 x2 x3
  have hl := Left.of_below h (below_alloc1 w (.cells #[.int .i64 0, .string ⟨#[]⟩, .slice Option.none 0 0] 27))
  have hlie := lies_new w [.int .i64 0, .string ⟨#[]⟩, .slice Option.none 0 0]
  go_enter Tryz.func67, Tryz.ntmps67
  go_wp2_with fail
  go_quiet (fail)
  have hl2 := hl.below (below_drewN (w := w.alloc (.cells #[.int .i64 0, .string ⟨#[]⟩, .slice Option.none 0 0] 27)) nq)
  have hlie2 := hlie.below (below_drewN (w := w.alloc (.cells #[.int .i64 0, .string ⟨#[]⟩, .slice Option.none 0 0] 27)) nq) hlie.lt
  clear hl hlie h k0 k1 k3
  generalize (w.alloc (.cells #[.int .i64 0, .string ⟨#[]⟩, .slice Option.none 0 0] 27)).drewN nq = w2 at *
  go_wp2_with fail
  refine (hT pb i z _ hl2.lies hi hz).mono ?_
  rintro e w3 hpp
  obtain ⟨p, y1, y2, y3, i1, z1, bad, rfl, hv, hi1, hi2, hz2, hl3', hcase⟩ := hpp.mid (fun d t hr => ⟨(Ls.thing_suf (Ls.pat_suf _) hr).1, Ls.thing_siz (Ls.pat_siz _) hr⟩) (by omega)
  clear hpp
  have hl3 := hl2.trans hl3'
  have hlie3 := hlie2.grown hl3'.grown (by simp [hne])
  have hz23 := hl3'.grown.size
  have hzr := hlie2.lt
  go_wp2_with fail
  have hl3a := hl3.below (below_alloc1 w3 (.cells #[.int .i64 p.kind, .string ⟨p.signs.toArray⟩, .slice y1 y2 y3] 27))
  have hlie3a := hlie3.below (below_alloc1 w3 (.cells #[.int .i64 p.kind, .string ⟨p.signs.toArray⟩, .slice y1 y2 y3] 27)) hlie3.lt
  have hsecond : Calls Tryz.prog 67 #[.pointer (some ⟨pb, 0, Option.none⟩), .int .i64 (D : Int)] (w3.alloc (.cells #[.int .i64 p.kind, .string ⟨p.signs.toArray⟩, .slice y1 y2 y3] 27)) fun e w4 =>
      ∃ q u1 u2 u3 i2 z2 bad2, e = .returned (patA q (.slice u1 u2 u3)) ∧ PV w4 (New (w3.alloc (.cells #[.int .i64 p.kind, .string ⟨p.signs.toArray⟩, .slice y1 y2 y3] 27)) w4) q (.slice u1 u2 u3) ∧ i1 ≤ i2 ∧ i2 ≤ s.size + 1 ∧ z2 ≤ z1 + (i2 - i1) ∧ Left (w3.alloc (.cells #[.int .i64 p.kind, .string ⟨p.signs.toArray⟩, .slice y1 y2 y3] 27)) pb s i2 z2 bad2 w4 ∧ Case (Ls.things (Ls.pat (12 - D)) (n + 1) (rest s i)) s z i2 z2 bad2 (Ls.row p q) := by
    cases bad with
    | true =>
      refine (things_bad s D pb i1 z1 _ hl3a.lies).mono ?_
      rintro e w4 ⟨rfl, hl4⟩
      exact ⟨Ls.none, Option.none, 0, 0, i1, z1, true, rfl, pv_leaf _ _ _ _, Nat.le_refl _, hi2, by omega, hl4, case_things_bad hst hcase⟩
    | false =>
      have hi3 : i1 ≤ s.size ∧ (rest s i1).length < n := by
        rcases hcase with ⟨h0, _⟩ | ⟨_, d, hr, _, _, hi'⟩
        · cases h0
        · have := (Ls.thing_suf (Ls.pat_suf _) hr).2
          exact ⟨hi', by omega⟩
      refine (hN pb i1 z1 _ hl3a.lies hi3.1 (by omega) hi3.2).mono ?_
      rintro e w4 hpp
      obtain ⟨q, u1, u2, u3, i2, z2, bad2, rfl, hv4, h1, h2, h3, hl4, hcase2⟩ := hpp.mid (fun d t hr => ⟨Ls.things_suf (Ls.pat_suf _) _ _ _ _ hr, Ls.things_siz (Ls.pat_siz _) _ _ _ _ hr⟩) hi3.1
      exact ⟨q, u1, u2, u3, i2, z2, bad2, rfl, hv4, h1, h2, h3, hl4, case_things hst hcase hcase2⟩
  refine hsecond.mono ?_
  clear hsecond hcase
  rintro e w4 ⟨q, u1, u2, u3, i2, z2, bad2, rfl, hv4, h1, h2, h3, hl4', hcase⟩
  have hne1 : ¬ w3.heap.size = pb := by omega
  have hl4 := hl3a.trans hl4'
  have hlie4 := hlie3a.grown hl4'.grown (by simp [hne])
  have hlia4 := (lies_new w3 (patC p (.slice y1 y2 y3))).grown hl4'.grown (by simp [hne1])
  have hz34 := hlia4.lt
  have hv3 : PV w4 (New w2 w4) p (.slice y1 y2 y3) := PV.mono (fun k hk => ⟨hk.1, by have := hk.2; omega⟩) (fun k hk => by
    rw [hl4'.grown.block k (by have := hk.2; simp; omega) (by have := hk.1; simp; omega)]
    exact Below.heap_alloc _ _ _ hk.2) _ _ hv
  have hv4' : PV w4 (New w2 w4) q (.slice u1 u2 u3) := PV.mono (fun k hk => ⟨by have := hk.1; simp at this; omega, hk.2⟩) (fun _ _ => rfl) _ _ hv4
  obtain ⟨m0, m1, m2⟩ := hlia4.three
  go_wp2_with fail
  refine (row_any p q (.slice y1 y2 y3) (.slice u1 u2 u3) _ _ (fun k hk => by have := hk.2; simp; omega) (hv3.below (below_alloc1 _ _) (fun k hk => hk.2) (fun _ h => h)) (hv4'.below (below_alloc1 _ _) (fun k hk => hk.2) (fun _ h => h))).mono ?_
  rintro e w5 ⟨x, rfl, hx, hb5⟩
  obtain ⟨x1, x2, x3, rfl⟩ := PV.slice _ _ hx
  have hl5 := (hl4.below (below_alloc1 _ _)).below hb5
  have hlie5 := (hlie4.below (below_alloc1 _ _) hlie4.lt).below hb5 (by have := hlie4.lt; simp; omega)
  have hs5 := hb5.size
  simp at hs5
  obtain ⟨q0, q1, q2⟩ := hlie5.three (a := Ls.none)
  have g0 := hlie5.fr 0
  have g1 := hlie5.fr 1
  have g2 := hlie5.fr 2
  go_wp2_with fail
  exact bodyPost_ret (v := patA (Ls.row p q) (.slice x1 x2 x3)) (by simp [results, Tryz.results67, go_sem, q0, q1, q2]) rfl (ppost_store hcase hpl (by omega) (by omega) (by omega) hl5 hx (fun k hk => by
    rcases hk with hk | hk
    · have h1 := hk.1; have h2 := hk.2; omega
    · have h1 := hk.1; have h2 := hk.2; simp at h1; omega))

theorem things_any (s : ByteArray) (hs : s.size ≤ 1048576) (D : Nat) (hT : ThingSaid s D) : (n : Nat) → ThingsSaid s D n
  | 0 => fun pb i z w _ _ _ hn => absurd hn (Nat.not_lt_zero _)
  | n + 1 => fun pb i z w h hi hz hn => by
    cases hst : Ls.stops (rest s i) with
    | true =>
      refine (things_stop s hs D pb i z w h hi hst).mono ?_
      rintro e w' ⟨rfl, hl⟩
      refine .inl ⟨Ls.rnil, rest s i, _, by rw [Ls.things, if_pos hst], by rw [Ls.toPat_rnil], by rw [Ls.toPat_rnil]; exact pv_leaf _ _ _ _, ?_⟩
      rw [rest_len, Ls.dsize_rnil, show s.size - (s.size - i) = i from by omega]
      exact hl
    | false => exact things_go s hs D n hT (things_any s hs D hT n) pb i z w h hz hn hst

end Go.Proofs.YtfklinjaajafgaaGreatDoor
