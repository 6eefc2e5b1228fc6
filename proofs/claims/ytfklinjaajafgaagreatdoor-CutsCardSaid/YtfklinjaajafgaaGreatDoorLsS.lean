import Derived.Test.YtfklinjaajafgaaGreatDoorLsR
namespace Go.Proofs.YtfklinjaajafgaaGreatDoor
open Go.RowKit

/-- What a method of the parser that answers a pattern leaves. -/
def PPost (w : World) (pb : Nat) (s : ByteArray) (i z : Nat) (res : Ls.Rd) : Ending → World → Prop := fun e w' =>
  (∃ d t y, res = some (d, t) ∧ e = .returned (patA (Ls.toPat d) y) ∧ PV w' (New w w') (Ls.toPat d) y ∧ Left w pb s (s.size - t.length) (z + Ls.dsize d) false w') ∨
  (res = .none ∧ ∃ p y i' z', e = .returned (patA p y) ∧ PV w' (New w w') p y ∧ i ≤ i' ∧ i' ≤ s.size + 1 ∧ z' ≤ z + (i' - i) ∧ Left w pb s i' z' true w')

/-- pattern, inside D brackets. -/
def PatSaid (s : ByteArray) (D : Nat) : Prop := ∀ (pb i z : Nat) (w : World), PB w pb s i z false → i ≤ s.size → z ≤ 1048576 + i →
  Calls Tryz.prog 39 #[.pointer (some ⟨pb, 0, Option.none⟩), .int .i64 (D : Int)] w (PPost w pb s i z (Ls.pat (13 - D) (rest s i)))

/-- one, inside D brackets. -/
def OneSaid (s : ByteArray) (D : Nat) : Prop := ∀ (pb i z : Nat) (w : World), PB w pb s i z false → i < s.size → z ≤ 1048576 + i →
  Calls Tryz.prog 118 #[.pointer (some ⟨pb, 0, Option.none⟩), .int .i64 (D : Int)] w (PPost w pb s i z (Ls.oneOf (Ls.pat (12 - D)) (rest s i)))

theorem pv_leaf (w : World) (G : Nat → Prop) (k : Nat) (s : List UInt8) : PV w G ⟨k, s, []⟩ (.slice Option.none 0 0) := by simp [PV]

theorem ppost_place {w W : World} {pb : Nat} {s : ByteArray} {i z j : Nat} {res : Ls.Rd} {sg : List UInt8} (hr : res = some (Ls.place sg, rest s j)) (hj : j ≤ s.size) (hl : Left w pb s j (z + 1) false W) :
    PPost w pb s i z res (.returned (patA (Ls.set sg) (.slice Option.none 0 0))) W := by
  refine .inl ⟨_, _, _, hr, by rw [Ls.toPat_place], by rw [Ls.toPat_place]; exact pv_leaf _ _ _ _, ?_⟩
  rw [rest_len, Ls.dsize_place, show s.size - (s.size - j) = j from by omega]
  exact hl

theorem ppost_bad {w W : World} {pb : Nat} {s : ByteArray} {i z i' z' : Nat} {res : Ls.Rd} (hr : res = .none) (hl : Left w pb s i' z' true W) (h1 : i ≤ i') (h2 : i' ≤ s.size + 1) (h3 : z' ≤ z + (i' - i)) :
    PPost w pb s i z res (.returned (patA Ls.none (.slice Option.none 0 0))) W :=
  .inr ⟨hr, _, _, i', z', rfl, pv_leaf _ _ _ _, h1, h2, h3, hl⟩

set_option maxRecDepth 100000 in
set_option maxHeartbeats 1000000 in
theorem one_dot (s : ByteArray) (hs : s.size ≤ 1048576) (D : Nat) (pb i z : Nat) (w : World) (h : PB w pb s i z false) (hi : i < s.size) (hz : z ≤ 1048576 + i) (hc : nx s i = 46) :
    Calls Tryz.prog 118 #[.pointer (some ⟨pb, 0, Option.none⟩), .int .i64 (D : Int)] w (PPost w pb s i z (Ls.oneOf (Ls.pat (12 - D)) (rest s i))) := by
  have hpl := h.lt
  have hne : ¬ w.heap.size = pb := by omega
  have hne' : ¬ pb = w.heap.size := by omega
  have HR : Hid (Ls.oneOf (Ls.pat (12 - D)) (rest s i) = some (Ls.place Ls.az, rest s (i + 1))) := by
    show _ = _
    rw [rest_lt hi, hc]; rfl
  have Hc : Hid (nx s i = 46) := hc
  clear hc
  have hcv := run_conv1
  go_enter Tryz.func118, Tryz.ntmps118
  go_wp2_with fail
  refine (next_any pb s i z false _ (h.below (below_alloc1 _ _)) (by omega) (by omega)).mono ?_
  rw [Hc.out]
  rintro e w1 ⟨rfl, hb1⟩
  go_wp2_with fail
  refine (sign_any 46 _).mono ?_
  rintro e w2 ⟨rfl, rfl⟩
  have hl1 := (Left.of_below h (below_alloc1 w (.cells #[.int .i64 0, .string ⟨#[]⟩, .slice Option.none 0 0] 27))).below hb1
  have hlie1 := (lies_new w [.int .i64 0, .string ⟨#[]⟩, .slice Option.none 0 0]).below hb1 (by simp)
  have hz1 := hlie1.lt
  obtain ⟨q0, q1, q2⟩ := hlie1.three (a := Ls.none)
  have g0 := hlie1.fr 0
  have g1 := hlie1.fr 1
  have g2 := hlie1.fr 2
  have f1 := hl1.lies.fr 1
  have k1 := hl1.lies.c1
  have f2 := hl1.lies.fr 2
  have k2 := hl1.lies.c2
  have f3 := hl1.lies.fr 3
  have k3 := hl1.lies.c3
  go_wp2_with fail
  exact bodyPost_ret (v := patA (Ls.set Ls.az) (.slice Option.none 0 0)) (by simp [results, Tryz.results118, go_sem, q0, q1, q2, Ls.set, Ls.az]) rfl (ppost_place HR.out (by omega) (((hl1.set1 (i + 1)).set2 (z + 1)).res (Nat.le_refl _) hpl _ _ _))

set_option maxRecDepth 100000 in
set_option maxHeartbeats 1000000 in
theorem one_plain (s : ByteArray) (hs : s.size ≤ 1048576) (D : Nat) (c : UInt8) (pb i z : Nat) (w : World) (h : PB w pb s i z false) (hi : i < s.size) (hz : z ≤ 1048576 + i) (hx : ∀ x, x ∈ ([40, 91, 46, 92, 41, 93, 42, 43, 63, 124, 47, 34] : List UInt8) → c ≠ x) (hsg : Ls.sign c = true) (hc : nx s i = c) :
    Calls Tryz.prog 118 #[.pointer (some ⟨pb, 0, Option.none⟩), .int .i64 (D : Int)] w (PPost w pb s i z (Ls.oneOf (Ls.pat (12 - D)) (rest s i))) := by
  have hpl := h.lt
  have hne : ¬ w.heap.size = pb := by omega
  have hne' : ¬ pb = w.heap.size := by omega
  have HR : Hid (Ls.oneOf (Ls.pat (12 - D)) (rest s i) = some (Ls.place [c], rest s (i + 1))) := by
    show _ = _
    rw [rest_lt hi, hc]
    unfold Ls.oneOf; dsimp only
    rw [if_neg (hx 40 (by decide)), if_neg (hx 91 (by decide)), if_neg (hx 46 (by decide)), if_neg (hx 92 (by decide)), if_neg]
    rintro (h1 | h1)
    · simp only [Ls.closer, Bool.or_eq_true, beq_iff_eq] at h1
      rcases h1 with ((((((h1 | h1) | h1) | h1) | h1) | h1) | h1) | h1 <;> exact hx _ (by decide) h1
    · rw [hsg] at h1; cases h1
  have n40 : ((c.toNat : Int) == 40) = false := by rw [beq_eq_false_iff_ne]; intro e; exact hx 40 (by decide) (UInt8.toNat_inj.1 (by simp; omega))
  have n91 : ((c.toNat : Int) == 91) = false := by rw [beq_eq_false_iff_ne]; intro e; exact hx 91 (by decide) (UInt8.toNat_inj.1 (by simp; omega))
  have n46 : ((c.toNat : Int) == 46) = false := by rw [beq_eq_false_iff_ne]; intro e; exact hx 46 (by decide) (UInt8.toNat_inj.1 (by simp; omega))
  have n92 : ((c.toNat : Int) == 92) = false := by rw [beq_eq_false_iff_ne]; intro e; exact hx 92 (by decide) (UInt8.toNat_inj.1 (by simp; omega))
  have n41 : ((c.toNat : Int) == 41) = false := by rw [beq_eq_false_iff_ne]; intro e; exact hx 41 (by decide) (UInt8.toNat_inj.1 (by simp; omega))
  have n93 : ((c.toNat : Int) == 93) = false := by rw [beq_eq_false_iff_ne]; intro e; exact hx 93 (by decide) (UInt8.toNat_inj.1 (by simp; omega))
  have n42 : ((c.toNat : Int) == 42) = false := by rw [beq_eq_false_iff_ne]; intro e; exact hx 42 (by decide) (UInt8.toNat_inj.1 (by simp; omega))
  have n43 : ((c.toNat : Int) == 43) = false := by rw [beq_eq_false_iff_ne]; intro e; exact hx 43 (by decide) (UInt8.toNat_inj.1 (by simp; omega))
  have n63 : ((c.toNat : Int) == 63) = false := by rw [beq_eq_false_iff_ne]; intro e; exact hx 63 (by decide) (UInt8.toNat_inj.1 (by simp; omega))
  have n124 : ((c.toNat : Int) == 124) = false := by rw [beq_eq_false_iff_ne]; intro e; exact hx 124 (by decide) (UInt8.toNat_inj.1 (by simp; omega))
  have n47 : ((c.toNat : Int) == 47) = false := by rw [beq_eq_false_iff_ne]; intro e; exact hx 47 (by decide) (UInt8.toNat_inj.1 (by simp; omega))
  have n34 : ((c.toNat : Int) == 34) = false := by rw [beq_eq_false_iff_ne]; intro e; exact hx 34 (by decide) (UInt8.toNat_inj.1 (by simp; omega))
  clear hx
  have Hc : Hid (nx s i = c) := hc
  clear hc
  have hcv := run_conv1
  go_enter Tryz.func118, Tryz.ntmps118
  go_wp2_with fail
  refine (next_any pb s i z false _ (h.below (below_alloc1 _ _)) (by omega) (by omega)).mono ?_
  rw [Hc.out]
  rintro e w1 ⟨rfl, hb1⟩
  go_wp2_with fail
  refine (sign_any c _).mono ?_
  rintro e w2 ⟨rfl, rfl⟩
  have hl1 := (Left.of_below h (below_alloc1 w (.cells #[.int .i64 0, .string ⟨#[]⟩, .slice Option.none 0 0] 27))).below hb1
  have hlie1 := (lies_new w [.int .i64 0, .string ⟨#[]⟩, .slice Option.none 0 0]).below hb1 (by simp)
  have hz1 := hlie1.lt
  obtain ⟨q0, q1, q2⟩ := hlie1.three (a := Ls.none)
  have g0 := hlie1.fr 0
  have g1 := hlie1.fr 1
  have g2 := hlie1.fr 2
  have f1 := hl1.lies.fr 1
  have k1 := hl1.lies.c1
  have f2 := hl1.lies.fr 2
  have k2 := hl1.lies.c2
  have f3 := hl1.lies.fr 3
  have k3 := hl1.lies.c3
  go_wp2_with fail
  exact bodyPost_ret (v := patA (Ls.set [c]) (.slice Option.none 0 0)) (by simp [results, Tryz.results118, go_sem, q0, q1, q2, hz1, Ls.set]) rfl (ppost_place HR.out (by omega) ((((hl1.set1 (i + 1)).set2 (z + 1)).res (Nat.le_refl _) hpl _ _ _).below (below_alloc1 _ _)))

set_option maxRecDepth 100000 in
set_option maxHeartbeats 1000000 in
theorem one_nosign (s : ByteArray) (hs : s.size ≤ 1048576) (D : Nat) (c : UInt8) (pb i z : Nat) (w : World) (h : PB w pb s i z false) (hi : i < s.size) (hz : z ≤ 1048576 + i) (hx : ∀ x, x ∈ ([40, 91, 46, 92, 41, 93, 42, 43, 63, 124, 47, 34] : List UInt8) → c ≠ x) (hsg : Ls.sign c = false) (hc : nx s i = c) :
    Calls Tryz.prog 118 #[.pointer (some ⟨pb, 0, Option.none⟩), .int .i64 (D : Int)] w (PPost w pb s i z (Ls.oneOf (Ls.pat (12 - D)) (rest s i))) := by
  have hpl := h.lt
  have hne : ¬ w.heap.size = pb := by omega
  have hne' : ¬ pb = w.heap.size := by omega
  have HR : Hid (Ls.oneOf (Ls.pat (12 - D)) (rest s i) = .none) := by
    show _ = _
    rw [rest_lt hi, hc]
    unfold Ls.oneOf; dsimp only
    rw [if_neg (hx 40 (by decide)), if_neg (hx 91 (by decide)), if_neg (hx 46 (by decide)), if_neg (hx 92 (by decide)), if_pos (Or.inr hsg)]
  have n40 : ((c.toNat : Int) == 40) = false := by rw [beq_eq_false_iff_ne]; intro e; exact hx 40 (by decide) (UInt8.toNat_inj.1 (by simp; omega))
  have n91 : ((c.toNat : Int) == 91) = false := by rw [beq_eq_false_iff_ne]; intro e; exact hx 91 (by decide) (UInt8.toNat_inj.1 (by simp; omega))
  have n46 : ((c.toNat : Int) == 46) = false := by rw [beq_eq_false_iff_ne]; intro e; exact hx 46 (by decide) (UInt8.toNat_inj.1 (by simp; omega))
  have n92 : ((c.toNat : Int) == 92) = false := by rw [beq_eq_false_iff_ne]; intro e; exact hx 92 (by decide) (UInt8.toNat_inj.1 (by simp; omega))
  have n41 : ((c.toNat : Int) == 41) = false := by rw [beq_eq_false_iff_ne]; intro e; exact hx 41 (by decide) (UInt8.toNat_inj.1 (by simp; omega))
  have n93 : ((c.toNat : Int) == 93) = false := by rw [beq_eq_false_iff_ne]; intro e; exact hx 93 (by decide) (UInt8.toNat_inj.1 (by simp; omega))
  have n42 : ((c.toNat : Int) == 42) = false := by rw [beq_eq_false_iff_ne]; intro e; exact hx 42 (by decide) (UInt8.toNat_inj.1 (by simp; omega))
  have n43 : ((c.toNat : Int) == 43) = false := by rw [beq_eq_false_iff_ne]; intro e; exact hx 43 (by decide) (UInt8.toNat_inj.1 (by simp; omega))
  have n63 : ((c.toNat : Int) == 63) = false := by rw [beq_eq_false_iff_ne]; intro e; exact hx 63 (by decide) (UInt8.toNat_inj.1 (by simp; omega))
  have n124 : ((c.toNat : Int) == 124) = false := by rw [beq_eq_false_iff_ne]; intro e; exact hx 124 (by decide) (UInt8.toNat_inj.1 (by simp; omega))
  have n47 : ((c.toNat : Int) == 47) = false := by rw [beq_eq_false_iff_ne]; intro e; exact hx 47 (by decide) (UInt8.toNat_inj.1 (by simp; omega))
  have n34 : ((c.toNat : Int) == 34) = false := by rw [beq_eq_false_iff_ne]; intro e; exact hx 34 (by decide) (UInt8.toNat_inj.1 (by simp; omega))
  clear hx
  have Hc : Hid (nx s i = c) := hc
  clear hc
  have hcv := run_conv1
  go_enter Tryz.func118, Tryz.ntmps118
  go_wp2_with fail
  refine (next_any pb s i z false _ (h.below (below_alloc1 _ _)) (by omega) (by omega)).mono ?_
  rw [Hc.out]
  rintro e w1 ⟨rfl, hb1⟩
  go_wp2_with fail
  refine (sign_any c _).mono ?_
  rintro e w2 ⟨rfl, rfl⟩
  have hl1 := (Left.of_below h (below_alloc1 w (.cells #[.int .i64 0, .string ⟨#[]⟩, .slice Option.none 0 0] 27))).below hb1
  have hlie1 := (lies_new w [.int .i64 0, .string ⟨#[]⟩, .slice Option.none 0 0]).below hb1 (by simp)
  have hz1 := hlie1.lt
  obtain ⟨q0, q1, q2⟩ := hlie1.three (a := Ls.none)
  have g0 := hlie1.fr 0
  have g1 := hlie1.fr 1
  have g2 := hlie1.fr 2
  have f1 := hl1.lies.fr 1
  have k1 := hl1.lies.c1
  have f2 := hl1.lies.fr 2
  have k2 := hl1.lies.c2
  have f3 := hl1.lies.fr 3
  have k3 := hl1.lies.c3
  go_wp2_with fail
  exact bodyPost_ret (v := patA Ls.none (.slice Option.none 0 0)) (by simp [results, Tryz.results118, go_sem, q0, q1, q2, Ls.none]) rfl (ppost_bad HR.out ((((hl1.set1 (i + 1)).set2 (z + 1)).set3 true).res (Nat.le_refl _) hpl _ _ _) (by omega) (by omega) (by omega))

set_option maxRecDepth 100000 in
set_option maxHeartbeats 1000000 in
theorem one_c41 (s : ByteArray) (hs : s.size ≤ 1048576) (D : Nat) (pb i z : Nat) (w : World) (h : PB w pb s i z false) (hi : i < s.size) (hz : z ≤ 1048576 + i) (hc : nx s i = 41) :
    Calls Tryz.prog 118 #[.pointer (some ⟨pb, 0, Option.none⟩), .int .i64 (D : Int)] w (PPost w pb s i z (Ls.oneOf (Ls.pat (12 - D)) (rest s i))) := by
  have hpl := h.lt
  have hne : ¬ w.heap.size = pb := by omega
  have hne' : ¬ pb = w.heap.size := by omega
  have HR : Hid (Ls.oneOf (Ls.pat (12 - D)) (rest s i) = .none) := by
    show _ = _
    rw [rest_lt hi, hc]; rfl
  have Hc : Hid (nx s i = 41) := hc
  clear hc
  have hcv := run_conv1
  go_enter Tryz.func118, Tryz.ntmps118
  go_wp2_with fail
  refine (next_any pb s i z false _ (h.below (below_alloc1 _ _)) (by omega) (by omega)).mono ?_
  rw [Hc.out]
  rintro e w1 ⟨rfl, hb1⟩
  go_wp2_with fail
  refine (sign_any 41 _).mono ?_
  rintro e w2 ⟨rfl, rfl⟩
  have hl1 := (Left.of_below h (below_alloc1 w (.cells #[.int .i64 0, .string ⟨#[]⟩, .slice Option.none 0 0] 27))).below hb1
  have hlie1 := (lies_new w [.int .i64 0, .string ⟨#[]⟩, .slice Option.none 0 0]).below hb1 (by simp)
  have hz1 := hlie1.lt
  obtain ⟨q0, q1, q2⟩ := hlie1.three (a := Ls.none)
  have g0 := hlie1.fr 0
  have g1 := hlie1.fr 1
  have g2 := hlie1.fr 2
  have f1 := hl1.lies.fr 1
  have k1 := hl1.lies.c1
  have f2 := hl1.lies.fr 2
  have k2 := hl1.lies.c2
  have f3 := hl1.lies.fr 3
  have k3 := hl1.lies.c3
  go_wp2_with fail
  exact bodyPost_ret (v := patA Ls.none (.slice Option.none 0 0)) (by simp [results, Tryz.results118, go_sem, q0, q1, q2, Ls.none]) rfl (ppost_bad HR.out ((((hl1.set1 (i + 1)).set2 (z + 1)).set3 true).res (Nat.le_refl _) hpl _ _ _) (by omega) (by omega) (by omega))

set_option maxRecDepth 100000 in
set_option maxHeartbeats 1000000 in
theorem one_c93 (s : ByteArray) (hs : s.size ≤ 1048576) (D : Nat) (pb i z : Nat) (w : World) (h : PB w pb s i z false) (hi : i < s.size) (hz : z ≤ 1048576 + i) (hc : nx s i = 93) :
    Calls Tryz.prog 118 #[.pointer (some ⟨pb, 0, Option.none⟩), .int .i64 (D : Int)] w (PPost w pb s i z (Ls.oneOf (Ls.pat (12 - D)) (rest s i))) := by
  have hpl := h.lt
  have hne : ¬ w.heap.size = pb := by omega
  have hne' : ¬ pb = w.heap.size := by omega
  have HR : Hid (Ls.oneOf (Ls.pat (12 - D)) (rest s i) = .none) := by
    show _ = _
    rw [rest_lt hi, hc]; rfl
  have Hc : Hid (nx s i = 93) := hc
  clear hc
  have hcv := run_conv1
  go_enter Tryz.func118, Tryz.ntmps118
  go_wp2_with fail
  refine (next_any pb s i z false _ (h.below (below_alloc1 _ _)) (by omega) (by omega)).mono ?_
  rw [Hc.out]
  rintro e w1 ⟨rfl, hb1⟩
  go_wp2_with fail
  refine (sign_any 93 _).mono ?_
  rintro e w2 ⟨rfl, rfl⟩
  have hl1 := (Left.of_below h (below_alloc1 w (.cells #[.int .i64 0, .string ⟨#[]⟩, .slice Option.none 0 0] 27))).below hb1
  have hlie1 := (lies_new w [.int .i64 0, .string ⟨#[]⟩, .slice Option.none 0 0]).below hb1 (by simp)
  have hz1 := hlie1.lt
  obtain ⟨q0, q1, q2⟩ := hlie1.three (a := Ls.none)
  have g0 := hlie1.fr 0
  have g1 := hlie1.fr 1
  have g2 := hlie1.fr 2
  have f1 := hl1.lies.fr 1
  have k1 := hl1.lies.c1
  have f2 := hl1.lies.fr 2
  have k2 := hl1.lies.c2
  have f3 := hl1.lies.fr 3
  have k3 := hl1.lies.c3
  go_wp2_with fail
  exact bodyPost_ret (v := patA Ls.none (.slice Option.none 0 0)) (by simp [results, Tryz.results118, go_sem, q0, q1, q2, Ls.none]) rfl (ppost_bad HR.out ((((hl1.set1 (i + 1)).set2 (z + 1)).set3 true).res (Nat.le_refl _) hpl _ _ _) (by omega) (by omega) (by omega))

set_option maxRecDepth 100000 in
set_option maxHeartbeats 1000000 in
theorem one_c42 (s : ByteArray) (hs : s.size ≤ 1048576) (D : Nat) (pb i z : Nat) (w : World) (h : PB w pb s i z false) (hi : i < s.size) (hz : z ≤ 1048576 + i) (hc : nx s i = 42) :
    Calls Tryz.prog 118 #[.pointer (some ⟨pb, 0, Option.none⟩), .int .i64 (D : Int)] w (PPost w pb s i z (Ls.oneOf (Ls.pat (12 - D)) (rest s i))) := by
  have hpl := h.lt
  have hne : ¬ w.heap.size = pb := by omega
  have hne' : ¬ pb = w.heap.size := by omega
  have HR : Hid (Ls.oneOf (Ls.pat (12 - D)) (rest s i) = .none) := by
    show _ = _
    rw [rest_lt hi, hc]; rfl
  have Hc : Hid (nx s i = 42) := hc
  clear hc
  have hcv := run_conv1
  go_enter Tryz.func118, Tryz.ntmps118
  go_wp2_with fail
  refine (next_any pb s i z false _ (h.below (below_alloc1 _ _)) (by omega) (by omega)).mono ?_
  rw [Hc.out]
  rintro e w1 ⟨rfl, hb1⟩
  go_wp2_with fail
  refine (sign_any 42 _).mono ?_
  rintro e w2 ⟨rfl, rfl⟩
  have hl1 := (Left.of_below h (below_alloc1 w (.cells #[.int .i64 0, .string ⟨#[]⟩, .slice Option.none 0 0] 27))).below hb1
  have hlie1 := (lies_new w [.int .i64 0, .string ⟨#[]⟩, .slice Option.none 0 0]).below hb1 (by simp)
  have hz1 := hlie1.lt
  obtain ⟨q0, q1, q2⟩ := hlie1.three (a := Ls.none)
  have g0 := hlie1.fr 0
  have g1 := hlie1.fr 1
  have g2 := hlie1.fr 2
  have f1 := hl1.lies.fr 1
  have k1 := hl1.lies.c1
  have f2 := hl1.lies.fr 2
  have k2 := hl1.lies.c2
  have f3 := hl1.lies.fr 3
  have k3 := hl1.lies.c3
  go_wp2_with fail
  exact bodyPost_ret (v := patA Ls.none (.slice Option.none 0 0)) (by simp [results, Tryz.results118, go_sem, q0, q1, q2, Ls.none]) rfl (ppost_bad HR.out ((((hl1.set1 (i + 1)).set2 (z + 1)).set3 true).res (Nat.le_refl _) hpl _ _ _) (by omega) (by omega) (by omega))

set_option maxRecDepth 100000 in
set_option maxHeartbeats 1000000 in
theorem one_c43 (s : ByteArray) (hs : s.size ≤ 1048576) (D : Nat) (pb i z : Nat) (w : World) (h : PB w pb s i z false) (hi : i < s.size) (hz : z ≤ 1048576 + i) (hc : nx s i = 43) :
    Calls Tryz.prog 118 #[.pointer (some ⟨pb, 0, Option.none⟩), .int .i64 (D : Int)] w (PPost w pb s i z (Ls.oneOf (Ls.pat (12 - D)) (rest s i))) := by
  have hpl := h.lt
  have hne : ¬ w.heap.size = pb := by omega
  have hne' : ¬ pb = w.heap.size := by omega
  have HR : Hid (Ls.oneOf (Ls.pat (12 - D)) (rest s i) = .none) := by
    show _ = _
    rw [rest_lt hi, hc]; rfl
  have Hc : Hid (nx s i = 43) := hc
  clear hc
  have hcv := run_conv1
  go_enter Tryz.func118, Tryz.ntmps118
  go_wp2_with fail
  refine (next_any pb s i z false _ (h.below (below_alloc1 _ _)) (by omega) (by omega)).mono ?_
  rw [Hc.out]
  rintro e w1 ⟨rfl, hb1⟩
  go_wp2_with fail
  refine (sign_any 43 _).mono ?_
  rintro e w2 ⟨rfl, rfl⟩
  have hl1 := (Left.of_below h (below_alloc1 w (.cells #[.int .i64 0, .string ⟨#[]⟩, .slice Option.none 0 0] 27))).below hb1
  have hlie1 := (lies_new w [.int .i64 0, .string ⟨#[]⟩, .slice Option.none 0 0]).below hb1 (by simp)
  have hz1 := hlie1.lt
  obtain ⟨q0, q1, q2⟩ := hlie1.three (a := Ls.none)
  have g0 := hlie1.fr 0
  have g1 := hlie1.fr 1
  have g2 := hlie1.fr 2
  have f1 := hl1.lies.fr 1
  have k1 := hl1.lies.c1
  have f2 := hl1.lies.fr 2
  have k2 := hl1.lies.c2
  have f3 := hl1.lies.fr 3
  have k3 := hl1.lies.c3
  go_wp2_with fail
  exact bodyPost_ret (v := patA Ls.none (.slice Option.none 0 0)) (by simp [results, Tryz.results118, go_sem, q0, q1, q2, Ls.none]) rfl (ppost_bad HR.out ((((hl1.set1 (i + 1)).set2 (z + 1)).set3 true).res (Nat.le_refl _) hpl _ _ _) (by omega) (by omega) (by omega))

set_option maxRecDepth 100000 in
set_option maxHeartbeats 1000000 in
theorem one_c63 (s : ByteArray) (hs : s.size ≤ 1048576) (D : Nat) (pb i z : Nat) (w : World) (h : PB w pb s i z false) (hi : i < s.size) (hz : z ≤ 1048576 + i) (hc : nx s i = 63) :
    Calls Tryz.prog 118 #[.pointer (some ⟨pb, 0, Option.none⟩), .int .i64 (D : Int)] w (PPost w pb s i z (Ls.oneOf (Ls.pat (12 - D)) (rest s i))) := by
  have hpl := h.lt
  have hne : ¬ w.heap.size = pb := by omega
  have hne' : ¬ pb = w.heap.size := by omega
  have HR : Hid (Ls.oneOf (Ls.pat (12 - D)) (rest s i) = .none) := by
    show _ = _
    rw [rest_lt hi, hc]; rfl
  have Hc : Hid (nx s i = 63) := hc
  clear hc
  have hcv := run_conv1
  go_enter Tryz.func118, Tryz.ntmps118
  go_wp2_with fail
  refine (next_any pb s i z false _ (h.below (below_alloc1 _ _)) (by omega) (by omega)).mono ?_
  rw [Hc.out]
  rintro e w1 ⟨rfl, hb1⟩
  go_wp2_with fail
  refine (sign_any 63 _).mono ?_
  rintro e w2 ⟨rfl, rfl⟩
  have hl1 := (Left.of_below h (below_alloc1 w (.cells #[.int .i64 0, .string ⟨#[]⟩, .slice Option.none 0 0] 27))).below hb1
  have hlie1 := (lies_new w [.int .i64 0, .string ⟨#[]⟩, .slice Option.none 0 0]).below hb1 (by simp)
  have hz1 := hlie1.lt
  obtain ⟨q0, q1, q2⟩ := hlie1.three (a := Ls.none)
  have g0 := hlie1.fr 0
  have g1 := hlie1.fr 1
  have g2 := hlie1.fr 2
  have f1 := hl1.lies.fr 1
  have k1 := hl1.lies.c1
  have f2 := hl1.lies.fr 2
  have k2 := hl1.lies.c2
  have f3 := hl1.lies.fr 3
  have k3 := hl1.lies.c3
  go_wp2_with fail
  exact bodyPost_ret (v := patA Ls.none (.slice Option.none 0 0)) (by simp [results, Tryz.results118, go_sem, q0, q1, q2, Ls.none]) rfl (ppost_bad HR.out ((((hl1.set1 (i + 1)).set2 (z + 1)).set3 true).res (Nat.le_refl _) hpl _ _ _) (by omega) (by omega) (by omega))

set_option maxRecDepth 100000 in
set_option maxHeartbeats 1000000 in
theorem one_c124 (s : ByteArray) (hs : s.size ≤ 1048576) (D : Nat) (pb i z : Nat) (w : World) (h : PB w pb s i z false) (hi : i < s.size) (hz : z ≤ 1048576 + i) (hc : nx s i = 124) :
    Calls Tryz.prog 118 #[.pointer (some ⟨pb, 0, Option.none⟩), .int .i64 (D : Int)] w (PPost w pb s i z (Ls.oneOf (Ls.pat (12 - D)) (rest s i))) := by
  have hpl := h.lt
  have hne : ¬ w.heap.size = pb := by omega
  have hne' : ¬ pb = w.heap.size := by omega
  have HR : Hid (Ls.oneOf (Ls.pat (12 - D)) (rest s i) = .none) := by
    show _ = _
    rw [rest_lt hi, hc]; rfl
  have Hc : Hid (nx s i = 124) := hc
  clear hc
  have hcv := run_conv1
  go_enter Tryz.func118, Tryz.ntmps118
  go_wp2_with fail
  refine (next_any pb s i z false _ (h.below (below_alloc1 _ _)) (by omega) (by omega)).mono ?_
  rw [Hc.out]
  rintro e w1 ⟨rfl, hb1⟩
  go_wp2_with fail
  refine (sign_any 124 _).mono ?_
  rintro e w2 ⟨rfl, rfl⟩
  have hl1 := (Left.of_below h (below_alloc1 w (.cells #[.int .i64 0, .string ⟨#[]⟩, .slice Option.none 0 0] 27))).below hb1
  have hlie1 := (lies_new w [.int .i64 0, .string ⟨#[]⟩, .slice Option.none 0 0]).below hb1 (by simp)
  have hz1 := hlie1.lt
  obtain ⟨q0, q1, q2⟩ := hlie1.three (a := Ls.none)
  have g0 := hlie1.fr 0
  have g1 := hlie1.fr 1
  have g2 := hlie1.fr 2
  have f1 := hl1.lies.fr 1
  have k1 := hl1.lies.c1
  have f2 := hl1.lies.fr 2
  have k2 := hl1.lies.c2
  have f3 := hl1.lies.fr 3
  have k3 := hl1.lies.c3
  go_wp2_with fail
  exact bodyPost_ret (v := patA Ls.none (.slice Option.none 0 0)) (by simp [results, Tryz.results118, go_sem, q0, q1, q2, Ls.none]) rfl (ppost_bad HR.out ((((hl1.set1 (i + 1)).set2 (z + 1)).set3 true).res (Nat.le_refl _) hpl _ _ _) (by omega) (by omega) (by omega))

set_option maxRecDepth 100000 in
set_option maxHeartbeats 1000000 in
theorem one_c47 (s : ByteArray) (hs : s.size ≤ 1048576) (D : Nat) (pb i z : Nat) (w : World) (h : PB w pb s i z false) (hi : i < s.size) (hz : z ≤ 1048576 + i) (hc : nx s i = 47) :
    Calls Tryz.prog 118 #[.pointer (some ⟨pb, 0, Option.none⟩), .int .i64 (D : Int)] w (PPost w pb s i z (Ls.oneOf (Ls.pat (12 - D)) (rest s i))) := by
  have hpl := h.lt
  have hne : ¬ w.heap.size = pb := by omega
  have hne' : ¬ pb = w.heap.size := by omega
  have HR : Hid (Ls.oneOf (Ls.pat (12 - D)) (rest s i) = .none) := by
    show _ = _
    rw [rest_lt hi, hc]; rfl
  have Hc : Hid (nx s i = 47) := hc
  clear hc
  have hcv := run_conv1
  go_enter Tryz.func118, Tryz.ntmps118
  go_wp2_with fail
  refine (next_any pb s i z false _ (h.below (below_alloc1 _ _)) (by omega) (by omega)).mono ?_
  rw [Hc.out]
  rintro e w1 ⟨rfl, hb1⟩
  go_wp2_with fail
  refine (sign_any 47 _).mono ?_
  rintro e w2 ⟨rfl, rfl⟩
  have hl1 := (Left.of_below h (below_alloc1 w (.cells #[.int .i64 0, .string ⟨#[]⟩, .slice Option.none 0 0] 27))).below hb1
  have hlie1 := (lies_new w [.int .i64 0, .string ⟨#[]⟩, .slice Option.none 0 0]).below hb1 (by simp)
  have hz1 := hlie1.lt
  obtain ⟨q0, q1, q2⟩ := hlie1.three (a := Ls.none)
  have g0 := hlie1.fr 0
  have g1 := hlie1.fr 1
  have g2 := hlie1.fr 2
  have f1 := hl1.lies.fr 1
  have k1 := hl1.lies.c1
  have f2 := hl1.lies.fr 2
  have k2 := hl1.lies.c2
  have f3 := hl1.lies.fr 3
  have k3 := hl1.lies.c3
  go_wp2_with fail
  exact bodyPost_ret (v := patA Ls.none (.slice Option.none 0 0)) (by simp [results, Tryz.results118, go_sem, q0, q1, q2, Ls.none]) rfl (ppost_bad HR.out ((((hl1.set1 (i + 1)).set2 (z + 1)).set3 true).res (Nat.le_refl _) hpl _ _ _) (by omega) (by omega) (by omega))

set_option maxRecDepth 100000 in
set_option maxHeartbeats 1000000 in
theorem one_c34 (s : ByteArray) (hs : s.size ≤ 1048576) (D : Nat) (pb i z : Nat) (w : World) (h : PB w pb s i z false) (hi : i < s.size) (hz : z ≤ 1048576 + i) (hc : nx s i = 34) :
    Calls Tryz.prog 118 #[.pointer (some ⟨pb, 0, Option.none⟩), .int .i64 (D : Int)] w (PPost w pb s i z (Ls.oneOf (Ls.pat (12 - D)) (rest s i))) := by
  have hpl := h.lt
  have hne : ¬ w.heap.size = pb := by omega
  have hne' : ¬ pb = w.heap.size := by omega
  have HR : Hid (Ls.oneOf (Ls.pat (12 - D)) (rest s i) = .none) := by
    show _ = _
    rw [rest_lt hi, hc]; rfl
  have Hc : Hid (nx s i = 34) := hc
  clear hc
  have hcv := run_conv1
  go_enter Tryz.func118, Tryz.ntmps118
  go_wp2_with fail
  refine (next_any pb s i z false _ (h.below (below_alloc1 _ _)) (by omega) (by omega)).mono ?_
  rw [Hc.out]
  rintro e w1 ⟨rfl, hb1⟩
  go_wp2_with fail
  refine (sign_any 34 _).mono ?_
  rintro e w2 ⟨rfl, rfl⟩
  have hl1 := (Left.of_below h (below_alloc1 w (.cells #[.int .i64 0, .string ⟨#[]⟩, .slice Option.none 0 0] 27))).below hb1
  have hlie1 := (lies_new w [.int .i64 0, .string ⟨#[]⟩, .slice Option.none 0 0]).below hb1 (by simp)
  have hz1 := hlie1.lt
  obtain ⟨q0, q1, q2⟩ := hlie1.three (a := Ls.none)
  have g0 := hlie1.fr 0
  have g1 := hlie1.fr 1
  have g2 := hlie1.fr 2
  have f1 := hl1.lies.fr 1
  have k1 := hl1.lies.c1
  have f2 := hl1.lies.fr 2
  have k2 := hl1.lies.c2
  have f3 := hl1.lies.fr 3
  have k3 := hl1.lies.c3
  go_wp2_with fail
  exact bodyPost_ret (v := patA Ls.none (.slice Option.none 0 0)) (by simp [results, Tryz.results118, go_sem, q0, q1, q2, Ls.none]) rfl (ppost_bad HR.out ((((hl1.set1 (i + 1)).set2 (z + 1)).set3 true).res (Nat.le_refl _) hpl _ _ _) (by omega) (by omega) (by omega))

end Go.Proofs.YtfklinjaajafgaaGreatDoor
