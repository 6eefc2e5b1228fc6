import Derived.Test.YtfklinjaajafgaaGreatDoorRdr
/- A class; what the reader makes, as it lies in memory. -/
namespace Go.Proofs.YtfklinjaajafgaaGreatDoor
open Go.RowKit

/-- The result's two words are filled. -/
theorem RLeft.res2 {w W : World} {rb : Nat} {s : ByteArray} {a z : Nat} (h : RLeft w rb s a z W) {g : Nat} (hg : w.heap.size ≤ g) (hp : rb < w.heap.size) (x y : Value) : RLeft w rb s a z ((W.setCell ⟨g, 0, Option.none⟩ x).setCell ⟨g, 1, Option.none⟩ y) := by
  refine ⟨?_, ?_⟩
  · have := h.lies
    unfold RB at this ⊢
    rw [Below.heap_setCell _ _ _ _ (by show rb ≠ g; omega), Below.heap_setCell _ _ _ _ (by show rb ≠ g; omega)]; exact this
  · refine ⟨h.grown.os, h.grown.tape, h.grown.output, by simpa [World.setCell] using h.grown.size, fun k hk hr => ?_⟩
    rw [Below.heap_setCell _ _ _ _ (by show k ≠ g; omega), Below.heap_setCell _ _ _ _ (by show k ≠ g; omega)]; exact h.grown.block k hk hr

/-- What classRange answers. -/
def RangePost (w : World) (rb : Nat) (s : ByteArray) (i z : Nat) (a1 : Addr) (g : List UInt8) : Ending → World → Prop := fun e w' =>
  (∃ a b j lo hi, Ls.range1 (rest s i) = some (a, b, rest s j) ∧ j ≤ s.size ∧ i < j ∧ e = .returned (.agg #[.int .u64 (lo : Nat), .int .u64 (hi : Nat)]) ∧ SB (Ls.rng g a b) lo hi ∧ RLeft w rb s j z w') ∨
  (Ls.range1 (rest s i) = .none ∧ Threw w rb a1 e w')

/-- The three variables of classRange. -/
abbrev crW (w : World) (rb lo hi : Nat) : World := ((w.alloc (.cells #[.pointer (some ⟨rb, 0, Option.none⟩)] 177)).alloc (.cells #[.int .u64 lo, .int .u64 hi] 157)).alloc (.cells #[.int .u64 (0 : Nat), .int .u64 (0 : Nat)] 157)

set_option maxRecDepth 100000 in
set_option maxHeartbeats 1000000 in
theorem classRange_any (rb : Nat) (s : ByteArray) (i z : Nat) (a1 : Addr) (g : List UInt8) (lo hi : Nat) (w : World) (h : RB w rb s i z) (hE : Env w rb a1) (hs : s.size ≤ 1048576) (hi' : i ≤ s.size) (hSB : SB g lo hi) :
    Calls Tryz.prog 183 #[rdV rb, .agg #[.int .u64 lo, .int .u64 hi]] w (RangePost w rb s i z a1 g) := by
  have hrl := h.lt
  have hne : ¬ rb = w.heap.size := by omega
  have hne2 : ¬ w.heap.size = rb := by omega
  have hne3 : ¬ w.heap.size + 1 = rb := by omega
  have hb0 := below_alloc3 w (.cells #[.pointer (some ⟨rb, 0, Option.none⟩)] 177) (.cells #[.int .u64 lo, .int .u64 hi] 157) (.cells #[.int .u64 (0 : Nat), .int .u64 (0 : Nat)] 157)
  have hl0 : RLeft w rb s i z (crW w rb lo hi) := RLeft.of_below h hb0
  have hE0 : Env (crW w rb lo hi) rb a1 := hE.below hb0
  have hv0 : Bx 177 (crW w rb lo hi) w.heap.size rb := ((Bx.new w 177 rb).below (below_alloc1 _ _)).below (below_alloc1 _ _)
  have hx0 : (crW w rb lo hi).heap[w.heap.size + 1]? = some (.cells #[.int .u64 lo, .int .u64 hi] 157 (0, 0)) := by
    rw [Below.heap_alloc _ _ _ (by simp)]
    have := heap_alloc_new (w.alloc (.cells #[.pointer (some ⟨rb, 0, Option.none⟩)] 177)) (.cells #[.int .u64 lo, .int .u64 hi] 157)
    simpa using this
  have hy0 : (crW w rb lo hi).heap[w.heap.size + 1 + 1]? = some (.cells #[.int .u64 (0 : Nat), .int .u64 (0 : Nat)] 157 (0, 0)) := by
    have := heap_alloc_new ((w.alloc (.cells #[.pointer (some ⟨rb, 0, Option.none⟩)] 177)).alloc (.cells #[.int .u64 lo, .int .u64 hi] 157)) (.cells #[.int .u64 (0 : Nat), .int .u64 (0 : Nat)] 157)
    rw [World.size_alloc, World.size_alloc] at this
    exact this
  have hz0 : (crW w rb lo hi).heap.size = w.heap.size + 1 + 1 + 1 := by simp
  have HL0 : Hid (RLeft w rb s i z (crW w rb lo hi)) := hl0
  have HE0 : Hid (Env (crW w rb lo hi) rb a1) := hE0
  have HV0 : Hid (Bx 177 (crW w rb lo hi) w.heap.size rb) := hv0
  have Hx0 : Hid ((crW w rb lo hi).heap[w.heap.size + 1]? = some (.cells #[.int .u64 lo, .int .u64 hi] 157 (0, 0))) := hx0
  have Hy0 : Hid ((crW w rb lo hi).heap[w.heap.size + 1 + 1]? = some (.cells #[.int .u64 (0 : Nat), .int .u64 (0 : Nat)] 157 (0, 0))) := hy0
  clear hx0 hy0 hl0 hE0 hv0 hb0
  cases hm : Ls.mark (nx s i) with
  | false =>
    have HR : Hid (Ls.range1 (rest s i) = .none) := range1_no hm
    have hC := lod_no rb s i z a1 _ HL0.out.lies HE0.out hs (by omega) hm
    clear hm
    go_enter Tryz.func183, Tryz.ntmps183
    go_wp2_with fail
    refine hC.mono ?_
    rintro e w1 ⟨rfl, hg⟩
    go_wp2_with fail
    exact ⟨rfl, .inr ⟨HR.out, rfl, grownBy_trans HL0.out.grown hg⟩⟩
  | true =>
    have hi1 := mark_lt hm
    have Hm : Hid (Ls.mark (nx s i) = true) := hm
    have hC := lod_yes rb s i z _ HL0.out.lies hs hm
    clear hm
    go_enter Tryz.func183, Tryz.ntmps183
    go_wp2_with fail
    refine hC.mono ?_
    rintro e w1 ⟨rfl, hl1⟩
    clear hC
    have hE1 := HE0.out.grown hl1.grown
    have hv1 := HV0.out.grown hl1.grown hne2
    have k1 := hv1.cell
    have hC2 := skip_any rb s (i + 1) z 45 w1 hl1.lies hs (by omega)
    go_wp2_with fail
    refine hC2.mono ?_
    rintro e w2 ⟨rfl, hl2⟩
    clear hC2 k1
    have hE2 := hE1.grown hl2.grown
    have hv2 := hv1.grown hl2.grown hne2
    have k2 := hv2.cell
    have hlw := HL0.out.trans (hl1.trans hl2)
    have hx2 := Hx0.out
    rw [← (hl1.trans hl2).grown.block _ (by omega) (by simpa using hne3)] at hx2
    have hy2 := Hy0.out
    rw [← (hl1.trans hl2).grown.block _ (by omega) (by simp; omega)] at hy2
    have hz2 := (hl1.trans hl2).grown.size
    rw [hz0] at hz2
    have Hx2 : Hid (w2.heap[w.heap.size + 1]? = some (.cells #[.int .u64 lo, .int .u64 hi] 157 (0, 0))) := hx2
    have Hy2 : Hid (w2.heap[w.heap.size + 1 + 1]? = some (.cells #[.int .u64 (0 : Nat), .int .u64 (0 : Nat)] 157 (0, 0))) := hy2
    clear hx2 hy2
    cases hse : sees s (i + 1) 45 with
    | false =>
      have HR : Hid (Ls.range1 (rest s i) = some (nx s i, nx s i, rest s (i + 1))) := range1_one Hm.out hse
      rw [hse] at hlw
      simp only [Bool.false_eq_true, if_false] at hlw
      obtain ⟨c0, c1, f0, f1⟩ := two_cells Hx2.out
      have hmb := Ls.mark_bd Hm.out
      clear hse
      go_wp2_with fail
      refine (with_any lo hi (nx s i) (nx s i) _ (Nat.le_refl _) (by omega) hSB.loLt hSB.hiLt).mono ?_
      rintro e w3 ⟨lo3, hi3, rfl, h1, h2, h3, hb3⟩
      have hSB3 := SB.with hSB h1 h2 (by omega) h3
      clear h3
      have hl3 := hlw.below hb3
      have hz3 := hb3.size
      have hy3 := Hy2.out
      rw [← hb3.block _ (by omega)] at hy3
      obtain ⟨r0, r1, s0, s1⟩ := two_cells hy3
      clear hy3 c0 c1 f0 f1
      go_wp2_with fail
      refine bodyPost_ret (v := .agg #[.int .u64 lo3, .int .u64 hi3]) (by simp [results, Tryz.results183, go_sem, r0, r1]) rfl (.inl ⟨nx s i, nx s i, i + 1, lo3, hi3, HR.out, by omega, by omega, rfl, hSB3, hl3.res2 (by omega) hrl _ _⟩)
    | true =>
      have hse' := hse
      rw [hse] at hlw hl2
      simp only [if_true] at hlw hl2
      have hi2 := (sees_true hse').1
      have Hse : Hid (sees s (i + 1) 45 = true) := hse'
      clear hse hse'
      cases hm2 : Ls.mark (nx s (i + 1 + 1)) with
      | false =>
        have HR : Hid (Ls.range1 (rest s i) = .none) := range1_bad Hm.out Hse.out (.inl hm2)
        have hC3 := lod_no rb s (i + 1 + 1) z a1 _ hlw.lies hE2 hs (by omega) hm2
        clear hm2
        go_wp2_with fail
        refine hC3.mono ?_
        rintro e w3 ⟨rfl, hg⟩
        go_wp2_with fail
        exact ⟨rfl, .inr ⟨HR.out, rfl, grownBy_trans hlw.grown hg⟩⟩
      | true =>
        have hi3 := mark_lt hm2
        have Hm2 : Hid (Ls.mark (nx s (i + 1 + 1)) = true) := hm2
        have hC3 := lod_yes rb s (i + 1 + 1) z _ hlw.lies hs hm2
        clear hm2
        go_wp2_with fail
        refine hC3.mono ?_
        rintro e w3 ⟨rfl, hl3⟩
        clear hC3 k2
        have hlw3 := hlw.trans hl3
        have hE3 := hE2.grown hl3.grown
        have hv3 := hv2.grown hl3.grown hne2
        have k3 := hv3.cell
        have hz3 := hl3.grown.size
        have hx3 := Hx2.out
        rw [← hl3.grown.block _ (by omega) (by simpa using hne3)] at hx3
        have hy3 := Hy2.out
        rw [← hl3.grown.block _ (by omega) (by simp; omega)] at hy3
        have Hx3 : Hid (w3.heap[w.heap.size + 1]? = some (.cells #[.int .u64 lo, .int .u64 hi] 157 (0, 0))) := hx3
        have Hy3 : Hid (w3.heap[w.heap.size + 1 + 1]? = some (.cells #[.int .u64 (0 : Nat), .int .u64 (0 : Nat)] 157 (0, 0))) := hy3
        clear hx3 hy3
        by_cases hgt : (nx s (i + 1 + 1)).toNat < (nx s i).toNat
        · have HR : Hid (Ls.range1 (rest s i) = .none) := range1_bad Hm.out Hse.out (.inr hgt)
          go_wp2_with fail
          refine (fail_any _ a1 _ hE3.sc).mono ?_
          rintro e w4 ⟨rfl, rfl⟩
          go_wp2_with fail
          exact ⟨rfl, .inr ⟨HR.out, rfl, hlw3.grown⟩⟩
        · have HR : Hid (Ls.range1 (rest s i) = some (nx s i, nx s (i + 1 + 1), rest s (i + 1 + 1 + 1))) := range1_two Hm.out Hse.out Hm2.out hgt
          obtain ⟨c0, c1, f0, f1⟩ := two_cells Hx3.out
          have hmb := Ls.mark_bd Hm2.out
          go_wp2_with fail
          refine (with_any lo hi (nx s i) (nx s (i + 1 + 1)) _ (by omega) (by omega) hSB.loLt hSB.hiLt).mono ?_
          rintro e w4 ⟨lo3, hi3', rfl, h1, h2, h3, hb4⟩
          have hSB3 := SB.with hSB h1 h2 (by omega) h3
          clear h3
          have hl4 := hlw3.below hb4
          have hz4 := hb4.size
          have hy4 := Hy3.out
          rw [← hb4.block _ (by omega)] at hy4
          obtain ⟨r0, r1, s0, s1⟩ := two_cells hy4
          clear hy4 c0 c1 f0 f1
          go_wp2_with fail
          refine bodyPost_ret (v := .agg #[.int .u64 lo3, .int .u64 hi3']) (by simp [results, Tryz.results183, go_sem, r0, r1]) rfl (.inl ⟨nx s i, nx s (i + 1 + 1), i + 1 + 1 + 1, lo3, hi3', HR.out, by omega, by omega, rfl, hSB3, hl4.res2 (by omega) hrl _ _⟩)

end Go.Proofs.YtfklinjaajafgaaGreatDoor

/- What the reader makes, as it lies in memory; strings.IndexByte. -/
namespace Go.Proofs.YtfklinjaajafgaaGreatDoor
open Go.RowKit

theorem idx_call (c : UInt8) (s : ByteArray) (w : World) : (callFunc 207 #[.string s, .int .u8 c.toNat]).run Tryz.prog w = .ok (.value (.int .i64 (firstIdx s c))) w := by
  rw [run_callFunc_indexByte Tryz.func207 (by kernel_rfl) (by kernel_rfl) (by kernel_rfl) (by kernel_rfl), run_indexByte_string]
  simp [Result.andThen]

set_option maxRecDepth 100000 in
set_option maxHeartbeats 400000 in
theorem index_any (c : UInt8) (s : ByteArray) (w : World) :
    Calls Tryz.prog 164 #[.string s, .int .u8 c.toNat] w fun e w' => e = .returned (.int .i64 (firstIdx s c)) ∧ w' = w := by
  have hx := idx_call
  go_enter Tryz.func164, Tryz.ntmps164
  go_wp2
  go_ret
  exact ⟨rfl, rfl⟩

abbrev rowV (sl : Value) : Value := .iface 184 (.agg #[sl])
abbrev choiceV (sl : Value) : Value := .iface 187 (.agg #[sl])
abbrev repV (v : Value) (m a : Bool) : Value := .iface 189 (.agg #[v, .bool m, .bool a])

/-- A slice shows some patterns; its row is in G. -/
structure Shows (w : World) (G : Nat → Prop) (sl : Value) (vs : List Value) : Prop where
  own : w.ownsRow 0 89 1 sl vs.length vs
  inG : ∀ k, sl.ownBlock = some k → G k

/-- What was read, as it lies in memory. Role 0: a pattern; 1: the things of a row; 2: the sides of a choice. All blocks are in G. -/
structure RepC (w : World) (G : Nat → Prop) (P : Nat → Ls.D → List Value → Prop) : Prop where
  place : ∀ {s : List UInt8} {lo hi : Nat}, SB s lo hi → P 0 (Ls.place s) [placeV lo hi]
  rep : ∀ {t : Nat} {a : Ls.D} {v : Value}, t = 5 ∨ t = 6 ∨ t = 7 → P 0 a [v] → P 0 (Ls.rep t a) [repV v (t != 6) (t != 7)]
  row : ∀ {d : Ls.D} {sl : Value} {vs : List Value}, Shows w G sl vs → P 1 d vs → P 0 d [rowV sl]
  choice : ∀ {d : Ls.D} {sl : Value} {vs : List Value}, Shows w G sl vs → P 2 d vs → P 0 d [choiceV sl]
  rnil : P 1 Ls.rnil []
  rcons : ∀ {a r : Ls.D} {v : Value} {vs : List Value}, P 0 a [v] → P 1 r vs → P 1 (Ls.rcons a r) (v :: vs)
  clast : ∀ {r : Ls.D} {v : Value}, P 0 r [v] → P 2 (Ls.clast r) [v]
  ccons : ∀ {r c : Ls.D} {v : Value} {vs : List Value}, P 0 r [v] → P 2 c vs → P 2 (Ls.ccons r c) (v :: vs)

structure Rep (w : World) (G : Nat → Prop) (r : Nat) (d : Ls.D) (vs : List Value) : Prop where
  all : ∀ P, RepC w G P → P r d vs

section
variable {w : World} {G : Nat → Prop}
theorem Rep.place {s : List UInt8} {lo hi : Nat} (h : SB s lo hi) : Rep w G 0 (Ls.place s) [placeV lo hi] := ⟨fun _ c => c.place h⟩
theorem Rep.rep {t : Nat} {a : Ls.D} {v : Value} (ht : t = 5 ∨ t = 6 ∨ t = 7) (h : Rep w G 0 a [v]) : Rep w G 0 (Ls.rep t a) [repV v (t != 6) (t != 7)] := ⟨fun P c => c.rep ht (h.all P c)⟩
theorem Rep.row {d : Ls.D} {sl : Value} {vs : List Value} (hs : Shows w G sl vs) (h : Rep w G 1 d vs) : Rep w G 0 d [rowV sl] := ⟨fun P c => c.row hs (h.all P c)⟩
theorem Rep.choice {d : Ls.D} {sl : Value} {vs : List Value} (hs : Shows w G sl vs) (h : Rep w G 2 d vs) : Rep w G 0 d [choiceV sl] := ⟨fun P c => c.choice hs (h.all P c)⟩
theorem Rep.rnil : Rep w G 1 Ls.rnil [] := ⟨fun _ c => c.rnil⟩
theorem Rep.rcons {a r : Ls.D} {v : Value} {vs : List Value} (h1 : Rep w G 0 a [v]) (h2 : Rep w G 1 r vs) : Rep w G 1 (Ls.rcons a r) (v :: vs) := ⟨fun P c => c.rcons (h1.all P c) (h2.all P c)⟩
theorem Rep.clast {r : Ls.D} {v : Value} (h : Rep w G 0 r [v]) : Rep w G 2 (Ls.clast r) [v] := ⟨fun P c => c.clast (h.all P c)⟩
theorem Rep.ccons {r d : Ls.D} {v : Value} {vs : List Value} (h1 : Rep w G 0 r [v]) (h2 : Rep w G 2 d vs) : Rep w G 2 (Ls.ccons r d) (v :: vs) := ⟨fun P c => c.ccons (h1.all P c) (h2.all P c)⟩

/-- By what a pattern in memory is. -/
theorem Rep.ind {motive : (r : Nat) → (d : Ls.D) → (vs : List Value) → Rep w G r d vs → Prop}
    (place : ∀ {s : List UInt8} {lo hi : Nat} (h : SB s lo hi), motive 0 (Ls.place s) [placeV lo hi] (.place h))
    (rep : ∀ {t : Nat} {a : Ls.D} {v : Value} (ht : t = 5 ∨ t = 6 ∨ t = 7) (h : Rep w G 0 a [v]), motive 0 a [v] h → motive 0 (Ls.rep t a) [repV v (t != 6) (t != 7)] (.rep ht h))
    (row : ∀ {d : Ls.D} {sl : Value} {vs : List Value} (hs : Shows w G sl vs) (h : Rep w G 1 d vs), motive 1 d vs h → motive 0 d [rowV sl] (.row hs h))
    (choice : ∀ {d : Ls.D} {sl : Value} {vs : List Value} (hs : Shows w G sl vs) (h : Rep w G 2 d vs), motive 2 d vs h → motive 0 d [choiceV sl] (.choice hs h))
    (rnil : motive 1 Ls.rnil [] .rnil)
    (rcons : ∀ {a r : Ls.D} {v : Value} {vs : List Value} (h1 : Rep w G 0 a [v]) (h2 : Rep w G 1 r vs), motive 0 a [v] h1 → motive 1 r vs h2 → motive 1 (Ls.rcons a r) (v :: vs) (.rcons h1 h2))
    (clast : ∀ {r : Ls.D} {v : Value} (h : Rep w G 0 r [v]), motive 0 r [v] h → motive 2 (Ls.clast r) [v] (.clast h))
    (ccons : ∀ {r c : Ls.D} {v : Value} {vs : List Value} (h1 : Rep w G 0 r [v]) (h2 : Rep w G 2 c vs), motive 0 r [v] h1 → motive 2 c vs h2 → motive 2 (Ls.ccons r c) (v :: vs) (.ccons h1 h2))
    {r : Nat} {d : Ls.D} {vs : List Value} (h : Rep w G r d vs) : motive r d vs h :=
  (h.all (fun r d vs => ∃ h : Rep w G r d vs, motive r d vs h)
    ⟨fun h => ⟨_, place h⟩, fun ht ⟨_, m⟩ => ⟨_, rep ht _ m⟩, fun hs ⟨_, m⟩ => ⟨_, row hs _ m⟩, fun hs ⟨_, m⟩ => ⟨_, choice hs _ m⟩, ⟨_, rnil⟩,
      fun ⟨_, m1⟩ ⟨_, m2⟩ => ⟨_, rcons _ _ m1 m2⟩, fun ⟨_, m⟩ => ⟨_, clast _ m⟩, fun ⟨_, m1⟩ ⟨_, m2⟩ => ⟨_, ccons _ _ m1 m2⟩⟩).2
end

theorem Shows.mono {w w' : World} {G G' : Nat → Prop} (hG : ∀ k, G k → G' k) (hw : ∀ k, G k → w'.heap[k]? = w.heap[k]?) {sl : Value} {vs : List Value} (h : Shows w G sl vs) : Shows w' G' sl vs := by
  refine ⟨⟨h.own.1, ?_⟩, fun k hk => hG k (h.inG k hk)⟩
  rcases h.own.2 with h2 | ⟨g, cap, cur, rfl, hbg, hg, h3⟩
  · exact .inl h2
  · exact .inr ⟨g, cap, cur, rfl, hbg, by rw [hw g (h.inG g rfl)]; exact hg, h3⟩

theorem Rep.mono {w w' : World} {G G' : Nat → Prop} (hG : ∀ k, G k → G' k) (hw : ∀ k, G k → w'.heap[k]? = w.heap[k]?) {r : Nat} {d : Ls.D} {vs : List Value} (h : Rep w G r d vs) : Rep w' G' r d vs := by
  induction h using Rep.ind with
  | place h => exact .place h
  | rep ht _ ih => exact .rep ht ih
  | row hs _ ih => exact .row (hs.mono hG hw) ih
  | choice hs _ ih => exact .choice (hs.mono hG hw) ih
  | rnil => exact .rnil
  | rcons _ _ i1 i2 => exact .rcons i1 i2
  | clast _ ih => exact .clast ih
  | ccons _ _ i1 i2 => exact .ccons i1 i2

/-- What a pattern in memory is. -/
theorem Rep.at0 {w : World} {G : Nat → Prop} {d : Ls.D} {v : Value} (h : Rep w G 0 d [v]) :
    (∃ s lo hi, SB s lo hi ∧ d = Ls.place s ∧ v = placeV lo hi) ∨ (∃ t a v', (t = 5 ∨ t = 6 ∨ t = 7) ∧ Rep w G 0 a [v'] ∧ d = Ls.rep t a ∧ v = repV v' (t != 6) (t != 7)) ∨
    (∃ sl vs, Shows w G sl vs ∧ Rep w G 1 d vs ∧ v = rowV sl) ∨ (∃ sl vs, Shows w G sl vs ∧ Rep w G 2 d vs ∧ v = choiceV sl) := by
  generalize hr : 0 = r, hv : [v] = vs at h
  induction h using Rep.ind with
  | place h => injection hv with hv; exact .inl ⟨_, _, _, h, rfl, hv⟩
  | rep ht h => injection hv with hv; exact .inr (.inl ⟨_, _, _, ht, h, rfl, hv⟩)
  | row hs h => injection hv with hv; exact .inr (.inr (.inl ⟨_, _, hs, h, hv⟩))
  | choice hs h => injection hv with hv; exact .inr (.inr (.inr ⟨_, _, hs, h, hv⟩))
  | rnil => cases hr
  | rcons => cases hr
  | clast => cases hr
  | ccons => cases hr

theorem Rep.one {w : World} {G : Nat → Prop} {d : Ls.D} {v : Value} (h : Rep w G 0 d [v]) : v.oneCell' = true := by
  rcases h.at0 with ⟨_, _, _, _, _, rfl⟩ | ⟨_, _, _, _, _, _, rfl⟩ | ⟨_, _, _, _, rfl⟩ | ⟨_, _, _, _, rfl⟩ <;> rfl

/-- What a method of the reader that reads a pattern leaves. -/
def RPost (w : World) (rb : Nat) (s : ByteArray) (i z : Nat) (a1 : Addr) (res : Ls.Rd) : Ending → World → Prop := fun e w' =>
  (∃ d j v, res = some (d, rest s j) ∧ i ≤ j ∧ j ≤ s.size ∧ e = .returned v ∧ Rep w' (New w w') 0 d [v] ∧ RLeft w rb s j z w') ∨
  (res = .none ∧ Threw w rb a1 e w')

end Go.Proofs.YtfklinjaajafgaaGreatDoor

/- A class, and what '*', '+' and '?' make. -/
namespace Go.Proofs.YtfklinjaajafgaaGreatDoor
open Go.RowKit

/-- Where the reader stands. -/
def atOf (w : World) (rb : Nat) : Nat := (intOf ((w.cell? ⟨rb, 1, Option.none⟩).getD (.int .i64 0))).toNat

theorem atOf_eq {w : World} {rb : Nat} {s : ByteArray} {a z : Nat} (h : RB w rb s a z) : atOf w rb = a := by
  unfold atOf
  rw [h.c1]
  simp [intOf]

/-- What is left to do of a class. -/
def clsTo (n : Nat) (acc r : List UInt8) : Option (List UInt8 × List UInt8) := if r.head? = some 93 then some (acc, r.tail) else Ls.cls n acc r

theorem cls_step {n : Nat} {acc r : List UInt8} {a b : UInt8} {t : List UInt8} (h : Ls.range1 r = some (a, b, t)) : Ls.cls (n + 1) acc r = clsTo n (Ls.rng acc a b) t := by
  rw [Ls.cls, h]; rfl

theorem cls_none {n : Nat} {acc r : List UInt8} (h : Ls.range1 r = .none) : Ls.cls n acc r = .none := by
  cases n with
  | zero => rfl
  | succ n => rw [Ls.cls, h]

/-- What class answers. -/
def RClassPost (w : World) (rb : Nat) (s : ByteArray) (i z : Nat) (a1 : Addr) : Ending → World → Prop := fun e w' =>
  (∃ g j lo hi, Ls.cls ((rest s i).length + 1) [] (rest s i) = some (g, rest s j) ∧ i ≤ j ∧ j ≤ s.size ∧ e = .returned (placeV lo hi) ∧ SB g lo hi ∧ RLeft w rb s j z w') ∨
  (Ls.cls ((rest s i).length + 1) [] (rest s i) = .none ∧ Threw w rb a1 e w')

set_option maxRecDepth 100000 in
set_option maxHeartbeats 1000000 in
theorem rclass_any (rb : Nat) (s : ByteArray) (i z : Nat) (a1 : Addr) (w : World) (h : RB w rb s i z) (hE : Env w rb a1) (hs : s.size ≤ 1048576) (hi' : i ≤ s.size) :
    Calls Tryz.prog 161 #[rdV rb] w (RClassPost w rb s i z a1) := by
  have hrl := h.lt
  have hne0 : w.heap.size ≠ rb := by omega
  have hb0 := below_alloc1 w (.cells #[.pointer (some ⟨rb, 0, Option.none⟩)] 177)
  have HL0 : Hid (RLeft w rb s i z (w.alloc (.cells #[.pointer (some ⟨rb, 0, Option.none⟩)] 177))) := RLeft.of_below h hb0
  have HV0 : Hid (Bx 177 (w.alloc (.cells #[.pointer (some ⟨rb, 0, Option.none⟩)] 177)) w.heap.size rb) := Bx.new w 177 rb
  have hC := classRange_any rb s i z a1 [] 0 0 _ HL0.out.lies (hE.below hb0) hs hi' SB.empty
  go_enter Tryz.func161, Tryz.ntmps161
  go_wp2_with fail
  refine hC.mono ?_
  rintro e w1 (⟨a, b, j, lo, hi, hr, hj, hij, rfl, hSB, hl1⟩ | ⟨hr, rfl, hg⟩)
  · have Hr : Hid (Ls.cls ((rest s i).length + 1) [] (rest s i) = clsTo (rest s i).length (Ls.rng [] a b) (rest s j)) := cls_step hr
    have hl := HL0.out.trans hl1
    have hv1 := HV0.out.grown hl1.grown hne0
    clear hr hC
    have hz1 := hl1.grown.size
    simp at hz1
    go_wp2_with fail
    go_loopw [] (fun wr => ∃ (k n : Nat) (acc : List UInt8) (lo hi : Nat), SB acc lo hi ∧ i < k ∧ k ≤ s.size ∧ (rest s k).length < n + 1 ∧ Ls.cls ((rest s i).length + 1) [] (rest s i) = clsTo n acc (rest s k) ∧ RLeft w rb s k z wr ∧ Bx 177 wr w.heap.size rb ∧ wr.heap[w1.heap.size]? = some (.cells #[.int .u64 lo, .int .u64 hi] 157 (0, 0))) (fun wr => s.size + 1 - atOf wr rb)
    case atStart => 
      refine ⟨j, (rest s i).length, _, lo, hi, hSB, hij, hj, ?_, Hr.out, hl.below (below_alloc1 _ _), hv1.below (below_alloc1 _ _), heap_alloc_new _ _⟩
      rw [rest_len, rest_len]; omega
    case round =>
      obtain ⟨k, n, acc, lo2, hi2, hSB2, hik, hks, hn, hcls, hl2, hv2, hx⟩ := hrel
      have Hcls : Hid (Ls.cls ((rest s i).length + 1) [] (rest s i) = clsTo n acc (rest s k)) := hcls
      clear hcls Hr
      have hE2 := hE.grown hl2.grown
      have Hx : Hid (wr.heap[w1.heap.size]? = some (.cells #[.int .u64 lo2, .int .u64 hi2] 157 (0, 0))) := hx
      clear hx
      have hmes : atOf wr rb = k := atOf_eq hl2.lies
      have kb := hv2.cell
      go_wp2_with fail
      refine (skip_any rb s k z 93 _ hl2.lies hs (by omega)).mono ?_
      rintro e w3 ⟨rfl, hl3⟩
      clear kb
      have hv3 := hv2.grown hl3.grown hne0
      have kb := hv3.cell
      have hne : some w1.heap.size ≠ some rb := by simp; omega
      have hx3 := Hx.out
      rw [← hl3.grown.block _ (Array.getElem?_eq_some_iff.1 hx3).1 hne] at hx3
      obtain ⟨c0, c1, f0, f1⟩ := two_cells hx3
      have hz3 := (Array.getElem?_eq_some_iff.1 hx3).1
      have Hx3 : Hid (w3.heap[w1.heap.size]? = some (.cells #[.int .u64 lo2, .int .u64 hi2] 157 (0, 0))) := hx3
      clear hx3
      cases hse : sees s k 93 with
      | true =>
        rw [hse] at hl3
        simp only [if_true] at hl3
        have hks2 := (sees_true hse).1
        have HR : Hid (Ls.cls ((rest s i).length + 1) [] (rest s i) = some (acc, rest s (k + 1))) := by
          show _ = _
          rw [Hcls.out, clsTo, if_pos (sees_head.2 hse), rest_tail]
        clear hse
        go_wp2_with fail
        go_ret
        exact .inl ⟨acc, k + 1, lo2, hi2, HR.out, by omega, by omega, rfl, hSB2, hl2.trans hl3⟩
      | false =>
        rw [hse] at hl3
        simp only [Bool.false_eq_true, if_false] at hl3
        have Hcls2 : Hid (Ls.cls ((rest s i).length + 1) [] (rest s i) = Ls.cls n acc (rest s k)) := by
          show _ = _
          rw [Hcls.out, clsTo, if_neg (by rw [sees_head, hse]; simp)]
        clear hse
        go_wp2_with fail
        refine (classRange_any rb s k z a1 acc lo2 hi2 _ hl3.lies (hE2.grown hl3.grown) hs hks hSB2).mono ?_
        rintro e w4 (⟨a4, b4, j4, lo4, hi4, hr4, hj4, hij4, rfl, hSB4, hl4⟩ | ⟨hr4, rfl, hg4⟩)
        · obtain ⟨n', rfl⟩ : ∃ n', n = n' + 1 := by
            cases n with
            | zero => 
              have := Ls.range1_suf hr4
              omega
            | succ n => exact ⟨n, rfl⟩
          have Hc4 : Hid (Ls.cls ((rest s i).length + 1) [] (rest s i) = clsTo n' (Ls.rng acc a4 b4) (rest s j4)) := by
            show _ = _
            rw [Hcls2.out, cls_step hr4]
          clear hr4
          have hv4 := hv3.grown hl4.grown hne0
          have hx4 := Hx3.out
          rw [← hl4.grown.block _ hz3 hne] at hx4
          obtain ⟨c0, c1, f0, f1⟩ := two_cells hx4
          have hz4 := (Array.getElem?_eq_some_iff.1 hx4).1
          have Hx4 : Hid (w4.heap[w1.heap.size]? = some (.cells #[.int .u64 lo2, .int .u64 hi2] 157 (0, 0))) := hx4
          clear hx4
          have hlw := hl2.trans (hl3.trans hl4)
          have HV5 : Hid (Bx 177 ((w4.setCell ⟨w1.heap.size, 0, Option.none⟩ (.int .u64 lo4)).setCell ⟨w1.heap.size, 1, Option.none⟩ (.int .u64 hi4)) w.heap.size rb) := ⟨by
            rw [Below.heap_setCell _ _ _ _ (by show w.heap.size ≠ w1.heap.size; omega), Below.heap_setCell _ _ _ _ (by show w.heap.size ≠ w1.heap.size; omega)]; exact hv4.lies⟩
          go_wp2_with fail
          go_roundw
          case rel =>
            refine ⟨j4, n', _, lo4, hi4, hSB4, by omega, hj4, ?_, Hc4.out, hlw.res2 (by omega) hrl _ _, HV5.out, ?_⟩
            · rw [rest_len] at hn ⊢; omega
            · have := Hx4.out
              simp [World.setCell, Array.getElem?_modify, this]
          case measure =>
            rw [hmes, atOf_eq (hlw.res2 (by omega) hrl _ _).lies]
            omega
        · have HR : Hid (Ls.cls ((rest s i).length + 1) [] (rest s i) = .none) := by
            show _ = _
            rw [Hcls2.out, cls_none hr4]
          go_wp2_with fail
          exact ⟨rfl, .inr ⟨HR.out, rfl, grownBy_trans (grownBy_trans hl2.grown hl3.grown) hg4⟩⟩
  · have HR : Hid (Ls.cls ((rest s i).length + 1) [] (rest s i) = .none) := cls_none hr
    go_wp2_with fail
    exact ⟨rfl, .inr ⟨HR.out, rfl, grownBy_trans HL0.out.grown hg⟩⟩

end Go.Proofs.YtfklinjaajafgaaGreatDoor
