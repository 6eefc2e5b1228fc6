import Derived.Test.YtfklinjaajafgaaGreatDoorLsS
namespace Go.Proofs.YtfklinjaajafgaaGreatDoor
open Go.RowKit

theorem suf_rest {s : ByteArray} {i : Nat} {t : List UInt8} (h : t <:+ rest s i) : t = rest s (s.size - t.length) := by
  have h3 := h.trans (List.drop_suffix i s.data.toList)
  have h4 := List.suffix_iff_eq_drop.1 h3
  simpa using h4

set_option maxRecDepth 100000 in
set_option maxHeartbeats 1000000 in
theorem one_class (s : ByteArray) (hs : s.size ≤ 1048576) (D : Nat) (pb i z : Nat) (w : World) (h : PB w pb s i z false) (hi : i < s.size) (hz : z ≤ 1048576 + i) (hc : nx s i = 91) :
    Calls Tryz.prog 118 #[.pointer (some ⟨pb, 0, Option.none⟩), .int .i64 (D : Int)] w (PPost w pb s i z (Ls.oneOf (Ls.pat (12 - D)) (rest s i))) := by
  have hpl := h.lt
  have hne : ¬ w.heap.size = pb := by omega
  have hne' : ¬ pb = w.heap.size := by omega
  have HR : Hid (Ls.oneOf (Ls.pat (12 - D)) (rest s i) = match Ls.cls ((rest s (i + 1)).length + 1) [] (rest s (i + 1)) with | .none => .none | some (s, u) => some (Ls.place s, u)) := by
    show _ = _
    rw [rest_lt hi, hc]; rfl
  have Hc : Hid (nx s i = 91) := hc
  clear hc
  have hcv := run_conv1
  go_enter Tryz.func118, Tryz.ntmps118
  go_wp2_with fail
  refine (next_any pb s i z false _ (h.below (below_alloc1 _ _)) (by omega) (by omega)).mono ?_
  rw [Hc.out]
  rintro e w1 ⟨rfl, hb1⟩
  go_wp2_with fail
  refine (sign_any 91 _).mono ?_
  rintro e w2 ⟨rfl, rfl⟩
  have hl1 := (Left.of_below h (below_alloc1 w (.cells #[.int .i64 0, .string ⟨#[]⟩, .slice Option.none 0 0] 27))).below hb1
  have hlie1 := (lies_new w [.int .i64 0, .string ⟨#[]⟩, .slice Option.none 0 0]).below hb1 (by simp)
  have hz1 := hlie1.lt
  obtain ⟨q0, q1, q2⟩ := hlie1.three (a := Ls.none)
  have g0 := hlie1.fr 0
  have g1 := hlie1.fr 1
  have g2 := hlie1.fr 2
  have f1 := hl1.lies.fr 1
  have k1 := hl1.lies.c1
  have f2 := hl1.lies.fr 2
  have k2 := hl1.lies.c2
  have f3 := hl1.lies.fr 3
  have k3 := hl1.lies.c3
  go_wp2_with fail
  have hl2 := (hl1.set1 (i + 1)).set2 (z + 1)
  have hlie2 := (hlie1.set_other pb 1 (.int .i64 ((i + 1 : Nat) : Int)) hne).set_other pb 2 (.int .i64 ((z + 1 : Nat) : Int)) hne
  refine (class_any pb s (i + 1) (z + 1) _ hl2.lies hs (by omega)).mono ?_
  rintro e w3 hcp
  have hgr : ∃ b i' , Left w pb s i' (z + 1) b w3 := by
    rcases hcp with ⟨sg, t, _, _, hl⟩ | ⟨_, i', _, _, _, hl⟩
    · exact ⟨_, _, hl2.trans hl⟩
    · exact ⟨_, _, hl2.trans hl⟩
  have hg2 : ∃ b i', Left ((w2.setCell ⟨pb, 1, Option.none⟩ (.int .i64 ((i + 1 : Nat) : Int))).setCell ⟨pb, 2, Option.none⟩ (.int .i64 ((z + 1 : Nat) : Int))) pb s i' (z + 1) b w3 := by
    rcases hcp with ⟨sg, t, _, _, hl⟩ | ⟨_, i', _, _, _, hl⟩
    · exact ⟨_, _, hl⟩
    · exact ⟨_, _, hl⟩
  obtain ⟨_, _, hg2⟩ := hg2
  have hlie3 := hlie2.grown hg2.grown (by simp [hne])
  clear hgr hg2 q0 q1 q2 g0 g1 g2
  obtain ⟨q0, q1, q2⟩ := hlie3.three (a := Ls.none)
  have g0 := hlie3.fr 0
  have g1 := hlie3.fr 1
  have g2 := hlie3.fr 2
  rcases hcp with ⟨sg, t, hcl, rfl, hl⟩ | ⟨hcl, i', h1, h2, rfl, hl⟩
  · have hsuf := Ls.cls_suf _ _ _ _ _ hcl
    have htl : Hid (t = rest s (s.size - t.length)) := suf_rest hsuf.1
    have htn : t.length ≤ s.size := by have := hsuf.2; simp at this; omega
    have HR2 : Hid (Ls.oneOf (Ls.pat (12 - D)) (rest s i) = some (Ls.place sg, rest s (s.size - t.length))) := by
      show _ = _
      rw [HR.out, hcl, ← htl.out]
    clear hcl hsuf HR
    go_wp2_with fail
    exact bodyPost_ret (v := patA (Ls.set sg) (.slice Option.none 0 0)) (by simp [results, Tryz.results118, go_sem, q0, q1, q2, Ls.set]) rfl (ppost_place HR2.out (by omega) ((hl2.trans hl).res (Nat.le_refl _) hpl _ _ _))
  · have HR2 : Hid (Ls.oneOf (Ls.pat (12 - D)) (rest s i) = .none) := by
      show _ = _
      rw [HR.out, hcl]
    clear hcl HR
    go_wp2_with fail
    exact bodyPost_ret (v := patA Ls.none (.slice Option.none 0 0)) (by simp [results, Tryz.results118, go_sem, q0, q1, q2, Ls.none]) rfl (ppost_bad HR2.out ((hl2.trans hl).res (Nat.le_refl _) hpl _ _ _) (by omega) (by omega) (by omega))

set_option maxRecDepth 100000 in
set_option maxHeartbeats 1000000 in
theorem one_escno (s : ByteArray) (hs : s.size ≤ 1048576) (D : Nat) (pb i z : Nat) (w : World) (h : PB w pb s i z false) (hi : i < s.size) (hz : z ≤ 1048576 + i) (hsg : Ls.sign (nx s (i + 1)) = false) (hc : nx s i = 92) :
    Calls Tryz.prog 118 #[.pointer (some ⟨pb, 0, Option.none⟩), .int .i64 (D : Int)] w (PPost w pb s i z (Ls.oneOf (Ls.pat (12 - D)) (rest s i))) := by
  have hpl := h.lt
  have Hsg : Hid (Ls.sign (nx s (i + 1)) = false) := hsg
  clear hsg
  have hne : ¬ w.heap.size = pb := by omega
  have hne' : ¬ pb = w.heap.size := by omega
  have Hc : Hid (nx s i = 92) := hc
  clear hc
  have hcv := run_conv1
  go_enter Tryz.func118, Tryz.ntmps118
  go_wp2_with fail
  refine (next_any pb s i z false _ (h.below (below_alloc1 _ _)) (by omega) (by omega)).mono ?_
  rw [Hc.out]
  rintro e w1 ⟨rfl, hb1⟩
  go_wp2_with fail
  refine (sign_any 92 _).mono ?_
  rintro e w2 ⟨rfl, rfl⟩
  have hl1 := (Left.of_below h (below_alloc1 w (.cells #[.int .i64 0, .string ⟨#[]⟩, .slice Option.none 0 0] 27))).below hb1
  have hlie1 := (lies_new w [.int .i64 0, .string ⟨#[]⟩, .slice Option.none 0 0]).below hb1 (by simp)
  have hz1 := hlie1.lt
  obtain ⟨q0, q1, q2⟩ := hlie1.three (a := Ls.none)
  have g0 := hlie1.fr 0
  have g1 := hlie1.fr 1
  have g2 := hlie1.fr 2
  have f1 := hl1.lies.fr 1
  have k1 := hl1.lies.c1
  have f2 := hl1.lies.fr 2
  have k2 := hl1.lies.c2
  have f3 := hl1.lies.fr 3
  have k3 := hl1.lies.c3
  go_wp2_with fail
  have hl2 := hl1.set1 (i + 1)
  have hlie2 := hlie1.set_other pb 1 (.int .i64 ((i + 1 : Nat) : Int)) hne
  refine (next_any pb s (i + 1) z false _ hl2.lies (by omega) (by omega)).mono ?_
  rintro e w3 ⟨rfl, hb3⟩
  have hl3 := hl2.below hb3
  have hlie3 := hlie2.below hb3 hlie2.lt
  clear q0 q1 q2 g0 g1 g2 k1 k2 k3 f1 f2 f3
  have hz3 := hlie3.lt
  obtain ⟨q0, q1, q2⟩ := hlie3.three (a := Ls.none)
  have g0 := hlie3.fr 0
  have g1 := hlie3.fr 1
  have g2 := hlie3.fr 2
  have f1 := hl3.lies.fr 1
  have k0 := hl3.lies.c0
  have k1 := hl3.lies.c1
  have f2 := hl3.lies.fr 2
  have k2 := hl3.lies.c2
  have f3 := hl3.lies.fr 3
  have k3 := hl3.lies.c3
  have hsg := Hsg.out
  clear Hsg
  have HR2 : Hid (Ls.oneOf (Ls.pat (12 - D)) (rest s i) = .none) := by
    show _ = _
    rw [rest_lt hi, Hc.out]
    rcases Nat.lt_or_ge (i + 1) s.size with h1 | h1
    · rw [rest_lt h1]; simp [Ls.oneOf, hsg]
    · rw [rest_ge h1]; rfl
  have HS : Hid (∀ W, Calls Tryz.prog 71 #[.int .u8 (nx s (i + 1)).toNat] W fun e w' => e = .returned (.bool false) ∧ w' = W) := fun W => by have := sign_any (nx s (i + 1)) W; rw [hsg] at this; exact this
  clear hsg
  go_wp2_with fail
  go_quiet ((go_at_call 71; exact Calls.quiet_of_same (HS.out _)))
  go_wp2_with fail
  exact bodyPost_ret (v := patA Ls.none (.slice Option.none 0 0)) (by simp [results, Tryz.results118, go_sem, q0, q1, q2, Ls.none]) rfl (ppost_bad HR2.out (((((hl3.below (below_drewN (w := w3) nq)).set1 (i + 1 + 1)).set2 (z + 1)).set3 true).res (Nat.le_refl _) hpl _ _ _) (by omega) (by omega) (by omega))

set_option maxRecDepth 100000 in
set_option maxHeartbeats 1000000 in
theorem one_escyes (s : ByteArray) (hs : s.size ≤ 1048576) (D : Nat) (pb i z : Nat) (w : World) (h : PB w pb s i z false) (hi : i < s.size) (hz : z ≤ 1048576 + i) (hsg : Ls.sign (nx s (i + 1)) = true) (hc : nx s i = 92) :
    Calls Tryz.prog 118 #[.pointer (some ⟨pb, 0, Option.none⟩), .int .i64 (D : Int)] w (PPost w pb s i z (Ls.oneOf (Ls.pat (12 - D)) (rest s i))) := by
  have hpl := h.lt
  have Hsg : Hid (Ls.sign (nx s (i + 1)) = true) := hsg
  clear hsg
  have hne : ¬ w.heap.size = pb := by omega
  have hne' : ¬ pb = w.heap.size := by omega
  have Hc : Hid (nx s i = 92) := hc
  clear hc
  have hcv := run_conv1
  go_enter Tryz.func118, Tryz.ntmps118
  go_wp2_with fail
  refine (next_any pb s i z false _ (h.below (below_alloc1 _ _)) (by omega) (by omega)).mono ?_
  rw [Hc.out]
  rintro e w1 ⟨rfl, hb1⟩
  go_wp2_with fail
  refine (sign_any 92 _).mono ?_
  rintro e w2 ⟨rfl, rfl⟩
  have hl1 := (Left.of_below h (below_alloc1 w (.cells #[.int .i64 0, .string ⟨#[]⟩, .slice Option.none 0 0] 27))).below hb1
  have hlie1 := (lies_new w [.int .i64 0, .string ⟨#[]⟩, .slice Option.none 0 0]).below hb1 (by simp)
  have hz1 := hlie1.lt
  obtain ⟨q0, q1, q2⟩ := hlie1.three (a := Ls.none)
  have g0 := hlie1.fr 0
  have g1 := hlie1.fr 1
  have g2 := hlie1.fr 2
  have f1 := hl1.lies.fr 1
  have k1 := hl1.lies.c1
  have f2 := hl1.lies.fr 2
  have k2 := hl1.lies.c2
  have f3 := hl1.lies.fr 3
  have k3 := hl1.lies.c3
  go_wp2_with fail
  have hl2 := hl1.set1 (i + 1)
  have hlie2 := hlie1.set_other pb 1 (.int .i64 ((i + 1 : Nat) : Int)) hne
  refine (next_any pb s (i + 1) z false _ hl2.lies (by omega) (by omega)).mono ?_
  rintro e w3 ⟨rfl, hb3⟩
  have hl3 := hl2.below hb3
  have hlie3 := hlie2.below hb3 hlie2.lt
  clear q0 q1 q2 g0 g1 g2 k1 k2 k3 f1 f2 f3
  have hz3 := hlie3.lt
  obtain ⟨q0, q1, q2⟩ := hlie3.three (a := Ls.none)
  have g0 := hlie3.fr 0
  have g1 := hlie3.fr 1
  have g2 := hlie3.fr 2
  have f1 := hl3.lies.fr 1
  have k0 := hl3.lies.c0
  have k1 : w3.cell? ⟨pb, 1, Option.none⟩ = some (.int .i64 ((i : Int) + 1)) := by have := hl3.lies.c1; simpa using this
  have f2 := hl3.lies.fr 2
  have k2 := hl3.lies.c2
  have f3 := hl3.lies.fr 3
  have k3 := hl3.lies.c3
  have hsg := Hsg.out
  clear Hsg
  have hi1 : i + 1 < s.size := by
    rcases Nat.lt_or_ge (i + 1) s.size with h1 | h1
    · exact h1
    · rw [nx_ge h1] at hsg; exact absurd hsg (by decide)
  have HR2 : Hid (Ls.oneOf (Ls.pat (12 - D)) (rest s i) = some (Ls.place [nx s (i + 1)], rest s (i + 1 + 1))) := by
    show _ = _
    rw [rest_lt hi, Hc.out, rest_lt hi1]; simp [Ls.oneOf, hsg]
  have HS : Hid (∀ W, Calls Tryz.prog 71 #[.int .u8 (nx s (i + 1)).toNat] W fun e w' => e = .returned (.bool true) ∧ w' = W) := fun W => by have := sign_any (nx s (i + 1)) W; rw [hsg] at this; exact this
  clear hsg
  have hd : decide (((i : Int) + 1) < (s.size : Int)) = true := by simp; omega
  have hd2 : ((i : Int) + 1) < (s.size : Int) := by omega
  go_wp2_with fail
  go_quiet ((go_at_call 71; exact Calls.quiet_of_same (HS.out _)))
  clear hd hd2 HS k0 k3 f3 hb3 hb1 hlie1 hlie2 hl1 hl2 q0 q1 q2 g0 g1 g2 f1 k1 f2 k2
  have hl4 := hl3.below (below_drewN (w := w3) nq)
  have hlie4 := hlie3.below (below_drewN (w := w3) nq) hlie3.lt
  clear hl3 hlie3
  generalize w3.drewN nq = w4 at *
  have hz4 := hlie4.lt
  obtain ⟨q0, q1, q2⟩ := hlie4.three (a := Ls.none)
  have g0 := hlie4.fr 0
  have g1 := hlie4.fr 1
  have g2 := hlie4.fr 2
  have f1 := hl4.lies.fr 1
  have k1 := hl4.lies.c1
  have f2 := hl4.lies.fr 2
  have k2 := hl4.lies.c2
  go_wp2_with fail
  exact bodyPost_ret (v := patA (Ls.set [nx s (i + 1)]) (.slice Option.none 0 0)) (by simp [results, Tryz.results118, go_sem, q0, q1, q2, hz4, Ls.set]) rfl (ppost_place HR2.out (by omega) ((((hl4.set1 (i + 1 + 1)).set2 (z + 1)).res (Nat.le_refl _) hpl _ _ _).below (below_alloc1 _ _)))

set_option maxRecDepth 100000 in
set_option maxHeartbeats 1000000 in
theorem one_paren (s : ByteArray) (hs : s.size ≤ 1048576) (D : Nat) (hD : D ≤ 12) (hP : PatSaid s (D + 1)) (pb i z : Nat) (w : World) (h : PB w pb s i z false) (hi : i < s.size) (hz : z ≤ 1048576 + i) (hc : nx s i = 40) :
    Calls Tryz.prog 118 #[.pointer (some ⟨pb, 0, Option.none⟩), .int .i64 (D : Int)] w (PPost w pb s i z (Ls.oneOf (Ls.pat (12 - D)) (rest s i))) := by
  have hpl := h.lt
  have hne : ¬ w.heap.size = pb := by omega
  have hne' : ¬ pb = w.heap.size := by omega
  have HR : Hid (Ls.oneOf (Ls.pat (12 - D)) (rest s i) = match Ls.pat (12 - D) (rest s (i + 1)) with | .none => .none | some (d, u) => if u.head? = some 41 then some (d, u.tail) else .none) := by
    show _ = _
    rw [rest_lt hi, hc]; rfl
  have Hc : Hid (nx s i = 40) := hc
  clear hc
  have hcv := run_conv1
  go_enter Tryz.func118, Tryz.ntmps118
  go_wp2_with fail
  refine (next_any pb s i z false _ (h.below (below_alloc1 _ _)) (by omega) (by omega)).mono ?_
  rw [Hc.out]
  rintro e w1 ⟨rfl, hb1⟩
  go_wp2_with fail
  refine (sign_any 40 _).mono ?_
  rintro e w2 ⟨rfl, rfl⟩
  have hl1 := (Left.of_below h (below_alloc1 w (.cells #[.int .i64 0, .string ⟨#[]⟩, .slice Option.none 0 0] 27))).below hb1
  have hlie1 := (lies_new w [.int .i64 0, .string ⟨#[]⟩, .slice Option.none 0 0]).below hb1 (by simp)
  have hz1 := hlie1.lt
  obtain ⟨q0, q1, q2⟩ := hlie1.three (a := Ls.none)
  have g0 := hlie1.fr 0
  have g1 := hlie1.fr 1
  have g2 := hlie1.fr 2
  have f1 := hl1.lies.fr 1
  have k1 := hl1.lies.c1
  have f2 := hl1.lies.fr 2
  have k2 := hl1.lies.c2
  have f3 := hl1.lies.fr 3
  have k3 := hl1.lies.c3
  go_wp2_with fail
  have hl2 := hl1.set1 (i + 1)
  have hlie2 := hlie1.set_other pb 1 (.int .i64 ((i + 1 : Nat) : Int)) hne
  have hPc := hP pb (i + 1) z _ hl2.lies (by omega) (by omega)
  rw [show ((D + 1 : Nat) : Int) = (D : Int) + 1 from by omega, show 13 - (D + 1) = 12 - D from by omega] at hPc
  refine hPc.mono ?_
  clear hPc
  rintro e w3 hpp
  clear q0 q1 q2 g0 g1 g2 k1 k2 k3 f1 f2 f3
  have hmid : ∃ (p : Ls.Pat) (y : Value) (i' z' : Nat) (bad : Bool), e = .returned (patA p y) ∧ PV w3 (New (w2.setCell ⟨pb, 1, Option.none⟩ (.int .i64 ((i + 1 : Nat) : Int))) w3) p y ∧ i' ≤ s.size + 1 ∧ i + 1 ≤ i' ∧ z' ≤ z + (i' - (i + 1)) ∧ Left (w2.setCell ⟨pb, 1, Option.none⟩ (.int .i64 ((i + 1 : Nat) : Int))) pb s i' z' bad w3 ∧
      ((bad = true ∧ Ls.pat (12 - D) (rest s (i + 1)) = .none) ∨ (bad = false ∧ ∃ d, Ls.pat (12 - D) (rest s (i + 1)) = some (d, rest s i') ∧ p = Ls.toPat d ∧ z' = z + Ls.dsize d ∧ i' ≤ s.size)) := by
    rcases hpp with ⟨d, t, y, hr, he, hv, hl⟩ | ⟨hr, p, y, i', z', he, hv, h1, h2, h3, hl⟩
    · have hsuf := Ls.pat_suf _ _ _ _ hr
      have hsz := Ls.pat_siz _ _ _ _ hr
      rw [rest_len] at hsz
      have htl := suf_rest hsuf
      have hln := hsuf.length_le
      rw [rest_len] at hln
      exact ⟨_, y, s.size - t.length, z + Ls.dsize d, false, he, hv, by omega, by omega, by omega, hl, .inr ⟨rfl, d, by rw [hr, ← htl], rfl, rfl, by omega⟩⟩
    · exact ⟨p, y, i', z', true, he, hv, h2, h1, h3, hl, .inl ⟨rfl, hr⟩⟩
  obtain ⟨p, y, i', z', bad, rfl, hv, hi1, hi2, hz2, hl3, hcase⟩ := hmid
  clear hpp
  have hlie3 := hlie2.grown hl3.grown (by simp [hne])
  have hl3w := hl2.trans hl3
  obtain ⟨y1, y2, y3, rfl⟩ := PV.slice _ _ hv
  have hz3 := hl3.grown.size
  simp [World.setCell] at hz3
  go_wp2_with fail
  refine (take_any pb s i' z' bad 41 _ (hl3w.lies.below (below_alloc1 _ _)) (by omega) (by omega)).mono ?_
  rintro e w4 ⟨rfl, hl4⟩
  have hl4w := (hl3w.below (below_alloc1 w3 (.cells #[.int .i64 p.kind, .string ⟨p.signs.toArray⟩, .slice y1 y2 y3] 27))).trans hl4
  have hlie4 := (hlie3.below (below_alloc1 w3 (.cells #[.int .i64 p.kind, .string ⟨p.signs.toArray⟩, .slice y1 y2 y3] 27)) hlie3.lt).grown hl4.grown (by simp [hne])
  have hne3 : ¬ w3.heap.size = pb := by omega
  have hliea := (lies_new w3 (patC p (.slice y1 y2 y3))).grown hl4.grown (by simp [hne3])
  obtain ⟨q0, q1, q2⟩ := hlie4.three (a := Ls.none)
  have g0 := hlie4.fr 0
  have g1 := hlie4.fr 1
  have g2 := hlie4.fr 2
  obtain ⟨m0, m1, m2⟩ := hliea.three
  have k3 := hl4w.lies.c3
  have f3 := hl4w.lies.fr 3
  have hzz : w3.heap.size < w4.heap.size := hliea.lt
  have hzw : w.heap.size < w3.heap.size := hlie3.lt
  have hne4 : ¬ pb = w3.heap.size := by omega
  have hne5 : ¬ w.heap.size = w3.heap.size := by omega
  have hne6 : ¬ w3.heap.size = w.heap.size := by omega
  have HB : Hid (∀ b' k, New (w2.setCell ⟨pb, 1, Option.none⟩ (.int .i64 ((i + 1 : Nat) : Int))) w3 k → ((((w4.setCell ⟨pb, 3, Option.none⟩ (.bool b')).setCell ⟨w.heap.size, 0, Option.none⟩ (.int .i64 p.kind)).setCell ⟨w.heap.size, 1, Option.none⟩ (.string ⟨p.signs.toArray⟩)).setCell ⟨w.heap.size, 2, Option.none⟩ (.slice y1 y2 y3)).heap[k]? = w3.heap[k]?) := by
    intro b' k hk
    have h1 := hk.1
    have h2 := hk.2
    simp [World.setCell] at h1
    rw [set3_other _ _ _ _ _ _ (by omega), Below.heap_setCell _ _ _ _ (by show k ≠ pb; omega), hl4.grown.block k (by simp; omega) (by simp; omega)]
    exact Below.heap_alloc _ _ _ h2
  have HV : Hid (∀ b', PV ((((w4.setCell ⟨pb, 3, Option.none⟩ (.bool b')).setCell ⟨w.heap.size, 0, Option.none⟩ (.int .i64 p.kind)).setCell ⟨w.heap.size, 1, Option.none⟩ (.string ⟨p.signs.toArray⟩)).setCell ⟨w.heap.size, 2, Option.none⟩ (.slice y1 y2 y3)) (New w ((((w4.setCell ⟨pb, 3, Option.none⟩ (.bool b')).setCell ⟨w.heap.size, 0, Option.none⟩ (.int .i64 p.kind)).setCell ⟨w.heap.size, 1, Option.none⟩ (.string ⟨p.signs.toArray⟩)).setCell ⟨w.heap.size, 2, Option.none⟩ (.slice y1 y2 y3))) p (.slice y1 y2 y3)) := by
    intro b'
    refine PV.mono (fun k hk => ?_) (HB.out b') _ _ hv
    have h1 := hk.1
    have h2 := hk.2
    simp [World.setCell] at h1
    exact ⟨by omega, by simp [World.setCell]; omega⟩
  have HL : Hid (∀ b', Left w pb s (if sees s i' 41 = true then i' + 1 else i') z' b' ((((w4.setCell ⟨pb, 3, Option.none⟩ (.bool b')).setCell ⟨w.heap.size, 0, Option.none⟩ (.int .i64 p.kind)).setCell ⟨w.heap.size, 1, Option.none⟩ (.string ⟨p.signs.toArray⟩)).setCell ⟨w.heap.size, 2, Option.none⟩ (.slice y1 y2 y3))) := fun b' => (hl4w.set3 b').res (Nat.le_refl _) hpl _ _ _
  clear HB
  cases bad with
  | true =>
    have HN : Hid (Ls.oneOf (Ls.pat (12 - D)) (rest s i) = .none) := by
      rcases hcase with ⟨_, hr⟩ | ⟨h0, _⟩
      · show _ = _; rw [HR.out, hr]
      · cases h0
    clear hcase
    go_wp2_with fail
    have hsl : sees s i' 41 = true → i' < s.size := fun h => (sees_true h).1
    refine bodyPost_ret (v := patA p (.slice y1 y2 y3)) (by simp [results, Tryz.results118, go_sem, q0, q1, q2]) rfl (.inr ⟨HN.out, p, _, _, z', rfl, HV.out true, ?_, ?_, ?_, HL.out true⟩) <;> (split <;> first | omega | (have := hsl (by assumption); omega))
  | false =>
    obtain ⟨d, hr, rfl, rfl, hi3⟩ : ∃ d, Ls.pat (12 - D) (rest s (i + 1)) = some (d, rest s i') ∧ p = Ls.toPat d ∧ z' = z + Ls.dsize d ∧ i' ≤ s.size := by
      rcases hcase with ⟨h0, _⟩ | ⟨_, h0⟩
      · cases h0
      · exact h0
    clear hcase
    have Hr : Hid (Ls.pat (12 - D) (rest s (i + 1)) = some (d, rest s i')) := hr
    clear hr
    cases hse : sees s i' 41 with
    | true =>
      have HN : Hid (Ls.oneOf (Ls.pat (12 - D)) (rest s i) = some (d, rest s (i' + 1))) := by
        show _ = _
        rw [HR.out, Hr.out]
        dsimp only
        rw [if_pos (sees_head.2 hse), rest_tail]
      have hi4 := (sees_true hse).1
      have hl5 := HL.out false
      rw [hse] at hl5
      simp only [if_true] at hl5
      have Hl5 : Hid _ := hl5
      clear hl5 HL hse
      go_wp2_with fail
      refine bodyPost_ret (v := patA (Ls.toPat d) (.slice y1 y2 y3)) (by simp [results, Tryz.results118, go_sem, q0, q1, q2]) rfl (.inl ⟨d, _, _, HN.out, rfl, HV.out false, ?_⟩)
      rw [rest_len, show s.size - (s.size - (i' + 1)) = i' + 1 from by omega]
      exact Hl5.out
    | false =>
      have HN : Hid (Ls.oneOf (Ls.pat (12 - D)) (rest s i) = .none) := by
        show _ = _
        rw [HR.out, Hr.out]
        dsimp only
        rw [if_neg (by rw [sees_head, hse]; simp)]
      have hl5 := HL.out true
      rw [hse] at hl5
      simp only [Bool.false_eq_true, if_false] at hl5
      have Hl5 : Hid _ := hl5
      clear hl5 HL hse
      go_wp2_with fail
      exact bodyPost_ret (v := patA (Ls.toPat d) (.slice y1 y2 y3)) (by simp [results, Tryz.results118, go_sem, q0, q1, q2]) rfl (.inr ⟨HN.out, _, _, _, _, rfl, HV.out true, by omega, by omega, by omega, Hl5.out⟩)

end Go.Proofs.YtfklinjaajafgaaGreatDoor
