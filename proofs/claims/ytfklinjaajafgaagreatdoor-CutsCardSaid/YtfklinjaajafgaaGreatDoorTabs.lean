import Derived.Test.YtfklinjaajafgaaGreatDoorPairs
import Derived.Test.YtfklinjaajafgaaGreatDoorPlain
import Derived.Test.YtfklinjaajafgaaGreatDoorLsR
/- sets: the sets of signs in a pattern. -/
namespace Go.Proofs.YtfklinjaajafgaaGreatDoor
open Go.RowKit

theorem infoString : (Tryz.prog.info? 9).map (fun i => (i.zero, i.size, i.bytes)) = some (some (.string ⟨#[]⟩), 1, 16) := by kernel_rfl

abbrev strV (g : List UInt8) : Value := .string ⟨g.toArray⟩

/-- A row of the call's own shows some texts. -/
structure SV (w : World) (base : Nat) (v : Value) (ss : List (List UInt8)) : Prop where
  own : w.ownsRow base 9 1 v ss.length (ss.map strV)
  nil : ss = [] → v = .slice Option.none 0 0

theorem SV.below {w w' : World} {base : Nat} {v : Value} {ss : List (List UInt8)} (h : SV w base v ss) (hb : Below w.heap.size w w') : SV w' base v ss :=
  ⟨h.own.kept (grownBy_of_below hb Option.none) (by cases hv : v.ownBlock <;> simp), h.nil⟩

theorem SV.empty (w : World) (base : Nat) : SV w base (.slice Option.none 0 0) [] := ⟨World.ownsRow_nil _ _ _ _, fun _ => rfl⟩

theorem SV.weak {w : World} {base base' : Nat} (hb : base ≤ base') {v : Value} {ss : List (List UInt8)} (h : SV w base' v ss) : SV w base v ss := by
  refine ⟨⟨h.own.1, h.own.2.imp id ?_⟩, h.nil⟩
  rintro ⟨g, cap, cur, hv, hg, r⟩
  exact ⟨g, cap, cur, hv, Nat.le_trans hb hg, r⟩

/-- Some texts more, out of another row. -/
theorem wpList_append_rows {w : World} {ops : Array Oper} {rest : List Oper} {o : Oper} {a : Act} {Q : Exit → Act → World → Prop} (hgd : o.guard = none) (s x : Operand)
    (ho : o.op = .call { callee := .builtin .append, args := #[s, x], argTypes := #[41, 41] })
    (base base' : Nat) (v vm : Value) (ss ms : List (List UInt8)) (hs : a.eval s = v) (hx : a.eval x = vm) (hv : SV w base v ss) (hm : SV w base' vm ms) (hn : ss.length + ms.length ≤ 1000000000000) (hbase : base ≤ w.heap.size)
    (h : ∀ v' w', SV w' base v' (ss ++ ms) → w.grownBy w' v.ownBlock → (v'.ownBlock = v.ownBlock ∨ ∃ k, v'.ownBlock = some k ∧ w.heap.size ≤ k) → wpList Tryz.prog ops Q rest (a.put o.dst v') w') : wpList Tryz.prog ops Q (o :: rest) a w := by
  obtain ⟨i, hi, hz0, hz1, hzb⟩ := info_parts infoString
  rcases ownsRow_split hm.own with ⟨e, h0⟩ | ⟨g, cap, e⟩
  · have : ms = [] := List.eq_nil_of_length_eq_zero h0
    subst this
    subst e
    have hr := run_append_owned_none (P := Tryz.prog) (w := w) base 41 o.type 9 i 1 Tryz.underlying41 hi v ss.length (ss.map strV) hv.own
    refine wpList_plain hgd fun K hK' => ?_
    unfold Oper.wp
    simp [execOp, ho, resolve, invoke, builtin, hs, hx, hr, Result.andThen]
    exact hK' _ _ (h v w (by simpa using hv) (World.grownBy.refl _ _) (.inl rfl))
  · have hne : 0 < ms.length := by
      rcases Nat.eq_zero_or_pos ms.length with h0 | h0
      · have := hm.nil (List.eq_nil_of_length_eq_zero h0)
        rw [e] at this
        cases this
      · exact h0
    have hmo := hm.own
    rw [e] at hmo hx
    refine wpList_append_own2 w hgd s x 41 ho base 9 i _ 1 16 Tryz.underlying41 hi hz0 hz1 hzb rfl (by omega) v ss.length (ss.map strV) hs hv.own ⟨g, 0, Option.none⟩ ms.length cap (ms.map strV) hx (by simp) ?_ ?_ ?_ ?_ hbase hne ?_
    · exact hmo.cells rfl
    · intro u hu
      obtain ⟨t, _, rfl⟩ := List.mem_map.1 hu
      rfl
    · unfold maxLen; omega
    · omega
    · intro v' w' ho' hg hr
      refine h v' w' ⟨?_, fun e => ?_⟩ hg hr
      · rw [List.length_append, List.map_append]; exact ho'
      · rw [List.append_eq_nil_iff] at e
        rw [e.2] at hne
        simp at hne

/-- What sets answers of p. -/
def SetsPost (p : Ls.Pat) (w : World) : Ending → World → Prop := fun e w' => ∃ v, e = .returned v ∧ SV w' w.heap.size v (Ls.sets p) ∧ Below w.heap.size w w'

def SetsSaid (p : Ls.Pat) : Prop := Ls.nd p ≤ 1000000000 → ∀ (y : Value) (w : World) (G : Nat → Prop), Old w G → PV w G p y → Calls Tryz.prog 70 #[patA p y] w (SetsPost p w)

set_option maxRecDepth 100000 in
set_option maxHeartbeats 400000 in
theorem sets_none : SetsSaid Ls.none := by
  intro _ y w G hG hp
  have hy : y = .slice Option.none 0 0 := hp
  subst hy
  clear hp
  show Calls _ _ #[.agg #[.int .i64 0, .string ⟨#[]⟩, .slice Option.none 0 0]] w _
  go_enter Tryz.func70, Tryz.ntmps70
  go_wp2_with fail
  refine wp_loop_rounds 1 ?_
  rw [rounds_succ]
  go_wp2_with fail
  go_ret
  exact ⟨_, rfl, by rw [Ls.sets_none]; exact SV.empty _ _, below_alloc1 _ _⟩

set_option maxRecDepth 100000 in
set_option maxHeartbeats 400000 in
theorem sets_set (s : List UInt8) : SetsSaid (Ls.set s) := by
  intro _ y w G hG hp
  have hy : y = .slice Option.none 0 0 := hp
  subst hy
  clear hp
  show Calls _ _ #[.agg #[.int .i64 1, .string ⟨s.toArray⟩, .slice Option.none 0 0]] w _
  go_enter Tryz.func70, Tryz.ntmps70
  go_wp2_with fail
  go_ret
  refine ⟨_, rfl, ⟨?_, by rw [Ls.sets_set]; simp⟩, below_alloc2 _ _ _⟩
  rw [Ls.sets_set]
  have h := World.ownsRow_lit (e := 9) (size := 1) (base := w.heap.size) (w.alloc (.cells #[.int .i64 1, .string ⟨s.toArray⟩, .slice Option.none 0 0] 27)) #[strV s] 1 (by simp) (by unfold maxLen; omega) rfl
  simpa using h

theorem sets_length (p : Ls.Pat) (hp : Ls.wf p) : (Ls.sets p).length ≤ Ls.nd p := by
  refine Ls.ind (P := fun p => (Ls.sets p).length ≤ Ls.nd p) ?_ ?_ ?_ ?_ ?_ p hp
  · simp [Ls.sets_none]
  · intro s _; rw [Ls.sets_set]; simp [Ls.set, Ls.nd]
  · intro a b _ _ _ _ ha hb; rw [Ls.sets_rowB, Ls.nd_rowB, List.length_append]; omega
  · intro a b _ _ ha hb; rw [Ls.sets_any, Ls.nd_any, List.length_append]; omega
  · intro a _ ha; rw [Ls.sets_star, Ls.nd_star]; exact ha

theorem SV.grown {w w' : World} {base : Nat} {v : Value} {ss : List (List UInt8)} (h : SV w base v ss) {r : Option Nat} (hg : w.grownBy w' r) (hne : v.ownBlock = Option.none ∨ v.ownBlock ≠ r) : SV w' base v ss := ⟨h.own.kept hg hne, h.nil⟩

set_option maxRecDepth 100000 in
set_option maxHeartbeats 400000 in
theorem sets_star (a : Ls.Pat) (wa : Ls.wf a) (ha : SetsSaid a) : SetsSaid (Ls.star a) := by
  intro hn sl w G hG hp
  rw [Ls.nd_star] at hn
  obtain ⟨g, y, hg, rfl, hl, h1⟩ := hp
  have hgl := hl.lt
  obtain ⟨c0, c1, c2⟩ := hl.three
  clear hg
  show Calls _ _ #[.agg #[.int .i64 4, .string ⟨#[]⟩, .slice (some ⟨g, 0, Option.none⟩) 1 1]] w _
  go_enter Tryz.func70, Tryz.ntmps70
  go_wp2_with fail
  refine wp_loop_rounds 2 ?_
  rw [rounds_succ]
  go_wp2_with fail
  refine (ha hn y _ G (Old.alloc hG _) (h1.below (below_alloc1 _ _) hG fun _ h => h)).mono ?_
  rintro e w1 ⟨v1, rfl, hs1, hb1⟩
  obtain ⟨d1, d2⟩ := bcell hb1
  have d3 := cellg (below_alloc1 _ _) hb1 hgl
  have hz := hb1.size
  simp at hz
  have hsl := sets_length a wa
  have hs0 := SV.empty w1 w.heap.size
  go_wp2_with (at_builtin; refine wpList_append_rows rfl _ _ rfl w.heap.size _ (.slice Option.none 0 0) v1 [] (Ls.sets a) rfl rfl hs0 hs1 (by simp; omega) (by omega) ?_)
  intro v2 w2 hs2 hg2 hr2
  have hb2 : Below w1.heap.size w1 w2 := (Below.refl _ _).grown hg2 (Nat.le_refl _) (by simp [Value.ownBlock])
  obtain ⟨e1, e2⟩ := bcell hb2
  have hz2 : w.heap.size < w1.heap.size := by omega
  go_wp2_with fail
  rw [rounds_succ]
  go_wp2_with fail
  go_ret
  exact ⟨_, rfl, by rw [Ls.sets_star]; simpa using hs2, Below.join (Below.join (below_alloc1 _ _) hb1) hb2⟩

set_option maxRecDepth 100000 in
set_option maxHeartbeats 400000 in
theorem sets_row2 (a b : Ls.Pat) (wa : Ls.wf a) (wb : Ls.wf b) (ha : SetsSaid a) (hb : SetsSaid b) : SetsSaid (Ls.rowB a b) := by
  intro hn sl w G hG hp
  rw [Ls.nd_rowB] at hn
  obtain ⟨g, y, z, hg, rfl, hl, h1, h2⟩ := hp
  have hgl := hl.lt
  obtain ⟨c0, c1, c2, c3, c4, c5⟩ := hl.six
  clear hg
  show Calls _ _ #[.agg #[.int .i64 2, .string ⟨#[]⟩, .slice (some ⟨g, 0, Option.none⟩) 2 2]] w _
  go_enter Tryz.func70, Tryz.ntmps70
  go_wp2_with fail
  refine wp_loop_rounds 3 ?_
  rw [rounds_succ]
  go_wp2_with fail
  refine (ha (by omega) y _ G (Old.alloc hG _) (h1.below (below_alloc1 _ _) hG fun _ h => h)).mono ?_
  rintro e w1 ⟨v1, rfl, hs1, hb1⟩
  have hb01 := Below.join (below_alloc1 _ _) hb1
  have hz := hb1.size
  simp at hz
  have hsl := sets_length a wa
  have hsm := sets_length b wb
  have hs0 := SV.empty w1 w.heap.size
  go_wp2_with (at_builtin; refine wpList_append_rows rfl _ _ rfl w.heap.size _ (.slice Option.none 0 0) v1 [] (Ls.sets a) rfl rfl hs0 hs1 (by simp; omega) (by omega) ?_)
  intro v2 w2 hs2 hg2 hr2
  have hb2 : Below w1.heap.size w1 w2 := (Below.refl _ _).grown hg2 (Nat.le_refl _) (by simp [Value.ownBlock])
  have hb02 := Below.join hb01 hb2
  have hz2 := hb2.size
  have hcc : ∀ o, w2.cell? ⟨g, o, Option.none⟩ = w.cell? ⟨g, o, Option.none⟩ := fun o => hb02.cell (p := ⟨g, o, Option.none⟩) hgl
  have hcw : w2.cell? ⟨w.heap.size, 2, Option.none⟩ = some (.slice (some ⟨g, 0, Option.none⟩) 2 2) :=
    ((Below.join hb1 hb2).cell (p := ⟨w.heap.size, 2, Option.none⟩) (by simp)).trans ((lies_new w (patC (Ls.rowB a b) (.slice (some ⟨g, 0, Option.none⟩) 2 2))).cell 2)
  have q3 := (hcc 3).trans c3
  have q4 := (hcc 4).trans c4
  have q5 := (hcc 5).trans c5
  clear hcc c0 c1 c2 c3 c4 c5
  go_wp2_with fail
  rw [rounds_succ]
  go_wp2_with fail
  refine (hb (by omega) z _ G (Old.below hG hb02) (h2.below hb02 hG fun _ h => h)).mono ?_
  rintro e w3 ⟨v3, rfl, hs3, hb3⟩
  have hz3 := hb3.size
  have hs23 := hs2.below hb3
  have hp3 : w3.cell? ⟨w.heap.size, 2, Option.none⟩ = some (.slice (some ⟨g, 0, Option.none⟩) 2 2) := (hb3.cell (p := ⟨w.heap.size, 2, Option.none⟩) (by show w.heap.size < _; omega)).trans hcw
  clear q3 q4 q5 hcw
  go_wp2_with (at_builtin; refine wpList_append_rows rfl _ _ rfl w.heap.size _ v2 v3 (Ls.sets a) (Ls.sets b) rfl rfl hs23 hs3 (by omega) (by omega) ?_)
  intro v4 w4 hs4 hg4 hr4
  have hv2 : ∀ k, v2.ownBlock = some k → w1.heap.size ≤ k := by
    intro k e
    rcases hr2 with e2 | ⟨m, e2, hm⟩
    · rw [e] at e2; simp [Value.ownBlock] at e2
    · rw [e] at e2; injection e2 with e2; omega
  have hp4 : w4.cell? ⟨w.heap.size, 2, Option.none⟩ = some (.slice (some ⟨g, 0, Option.none⟩) 2 2) := by
    refine (cell_of_block (hg4.block w.heap.size (by omega) ?_) 2).trans hp3
    intro e
    have := hv2 _ e.symm
    omega
  have hb4 : Below w.heap.size w w4 := (Below.join hb02 hb3).grown hg4 (by omega) (fun k e => by have := hv2 k e; omega)
  clear hp3
  go_wp2_with fail
  rw [rounds_succ]
  go_wp2_with fail
  go_ret
  exact ⟨_, rfl, by rw [Ls.sets_rowB]; exact hs4, hb4⟩

set_option maxRecDepth 100000 in
set_option maxHeartbeats 400000 in
theorem sets_or (a b : Ls.Pat) (wa : Ls.wf a) (wb : Ls.wf b) (ha : SetsSaid a) (hb : SetsSaid b) : SetsSaid (Ls.any a b) := by
  intro hn sl w G hG hp
  rw [Ls.nd_any] at hn
  obtain ⟨g, y, z, hg, rfl, hl, h1, h2⟩ := hp
  have hgl := hl.lt
  obtain ⟨c0, c1, c2, c3, c4, c5⟩ := hl.six
  clear hg
  show Calls _ _ #[.agg #[.int .i64 3, .string ⟨#[]⟩, .slice (some ⟨g, 0, Option.none⟩) 2 2]] w _
  go_enter Tryz.func70, Tryz.ntmps70
  go_wp2_with fail
  refine wp_loop_rounds 3 ?_
  rw [rounds_succ]
  go_wp2_with fail
  refine (ha (by omega) y _ G (Old.alloc hG _) (h1.below (below_alloc1 _ _) hG fun _ h => h)).mono ?_
  rintro e w1 ⟨v1, rfl, hs1, hb1⟩
  have hb01 := Below.join (below_alloc1 _ _) hb1
  have hz := hb1.size
  simp at hz
  have hsl := sets_length a wa
  have hsm := sets_length b wb
  have hs0 := SV.empty w1 w.heap.size
  go_wp2_with (at_builtin; refine wpList_append_rows rfl _ _ rfl w.heap.size _ (.slice Option.none 0 0) v1 [] (Ls.sets a) rfl rfl hs0 hs1 (by simp; omega) (by omega) ?_)
  intro v2 w2 hs2 hg2 hr2
  have hb2 : Below w1.heap.size w1 w2 := (Below.refl _ _).grown hg2 (Nat.le_refl _) (by simp [Value.ownBlock])
  have hb02 := Below.join hb01 hb2
  have hz2 := hb2.size
  have hcc : ∀ o, w2.cell? ⟨g, o, Option.none⟩ = w.cell? ⟨g, o, Option.none⟩ := fun o => hb02.cell (p := ⟨g, o, Option.none⟩) hgl
  have hcw : w2.cell? ⟨w.heap.size, 2, Option.none⟩ = some (.slice (some ⟨g, 0, Option.none⟩) 2 2) :=
    ((Below.join hb1 hb2).cell (p := ⟨w.heap.size, 2, Option.none⟩) (by simp)).trans ((lies_new w (patC (Ls.any a b) (.slice (some ⟨g, 0, Option.none⟩) 2 2))).cell 2)
  have q3 := (hcc 3).trans c3
  have q4 := (hcc 4).trans c4
  have q5 := (hcc 5).trans c5
  clear hcc c0 c1 c2 c3 c4 c5
  go_wp2_with fail
  rw [rounds_succ]
  go_wp2_with fail
  refine (hb (by omega) z _ G (Old.below hG hb02) (h2.below hb02 hG fun _ h => h)).mono ?_
  rintro e w3 ⟨v3, rfl, hs3, hb3⟩
  have hz3 := hb3.size
  have hs23 := hs2.below hb3
  have hp3 : w3.cell? ⟨w.heap.size, 2, Option.none⟩ = some (.slice (some ⟨g, 0, Option.none⟩) 2 2) := (hb3.cell (p := ⟨w.heap.size, 2, Option.none⟩) (by show w.heap.size < _; omega)).trans hcw
  clear q3 q4 q5 hcw
  go_wp2_with (at_builtin; refine wpList_append_rows rfl _ _ rfl w.heap.size _ v2 v3 (Ls.sets a) (Ls.sets b) rfl rfl hs23 hs3 (by omega) (by omega) ?_)
  intro v4 w4 hs4 hg4 hr4
  have hv2 : ∀ k, v2.ownBlock = some k → w1.heap.size ≤ k := by
    intro k e
    rcases hr2 with e2 | ⟨m, e2, hm⟩
    · rw [e] at e2; simp [Value.ownBlock] at e2
    · rw [e] at e2; injection e2 with e2; omega
  have hp4 : w4.cell? ⟨w.heap.size, 2, Option.none⟩ = some (.slice (some ⟨g, 0, Option.none⟩) 2 2) := by
    refine (cell_of_block (hg4.block w.heap.size (by omega) ?_) 2).trans hp3
    intro e
    have := hv2 _ e.symm
    omega
  have hb4 : Below w.heap.size w w4 := (Below.join hb02 hb3).grown hg4 (by omega) (fun k e => by have := hv2 k e; omega)
  clear hp3
  go_wp2_with fail
  rw [rounds_succ]
  go_wp2_with fail
  go_ret
  exact ⟨_, rfl, by rw [Ls.sets_any]; exact hs4, hb4⟩

theorem sets_all (p : Ls.Pat) (h : Ls.wf p) : SetsSaid p :=
  Ls.ind sets_none (fun s _ => sets_set s) (fun a b wa wb _ _ => sets_row2 a b wa wb) (fun a b wa wb => sets_or a b wa wb) (fun a wa => sets_star a wa) p h

end Go.Proofs.YtfklinjaajafgaaGreatDoor

/- letters: of all signs that two patterns do not tell apart, one. -/
namespace Go.Proofs.YtfklinjaajafgaaGreatDoor
open Go.RowKit

/-- By which of some sets a sign is had. -/
def marks (l : List (List UInt8)) (c : UInt8) : List UInt8 := l.map fun g => if Ls.has g c = true then 49 else 48

theorem marks_eq {l : List (List UInt8)} {c d : UInt8} (h : marks l c = marks l d) : ∀ g, g ∈ l → Ls.has g c = Ls.has g d := by
  induction l with
  | nil => intro g hg; simp at hg
  | cons x l ih =>
    simp only [marks, List.map_cons, List.cons.injEq] at h
    intro g hg
    simp only [List.mem_cons] at hg
    rcases hg with rfl | hg
    · have h1 := h.1
      cases hc : Ls.has g c <;> cases hd : Ls.has g d <;> simp [hc, hd] at h1 <;> rfl
    · exact ih h.2 g hg

theorem marks_take {l : List (List UInt8)} {c : UInt8} {i : Nat} (h : i < l.length) : marks (l.take (i + 1)) c = marks (l.take i) c ++ [if Ls.has l[i] c = true then 49 else 48] := by
  unfold marks
  simp only [List.take_succ_eq_append_getElem h, List.map_append, List.map_cons, List.map_nil]

theorem marks_length (l : List (List UInt8)) (c : UInt8) : (marks l c).length = l.length := by simp [marks]

theorem sign_nat (k : Nat) (w : World) (hk : k < 256) : Calls Tryz.prog 71 #[.int .u8 (k : Int)] w fun e w' => e = .returned (.bool (Ls.sign (UInt8.ofNat k))) ∧ w' = w := by
  have h := sign_any (UInt8.ofNat k) w
  rw [show ((UInt8.ofNat k).toNat : Int) = (k : Int) from by simp; omega] at h
  exact h

/-- All sets are short enough. -/
theorem sets_short (p : Ls.Pat) (hp : Ls.wf p) : ∀ g, g ∈ Ls.sets p → g.length ≤ Ls.ks p := by
  refine Ls.ind (P := fun p => ∀ g, g ∈ Ls.sets p → g.length ≤ Ls.ks p) ?_ ?_ ?_ ?_ ?_ p hp
  · simp [Ls.sets_none]
  · intro s _ g hg; rw [Ls.sets_set] at hg; simp only [List.mem_singleton] at hg; subst hg; rw [Ls.ks_set]; omega
  · intro a b _ _ _ _ ha hb g hg
    rw [Ls.sets_rowB, List.mem_append] at hg
    rw [Ls.ks_rowB]
    rcases hg with hg | hg
    · have := ha g hg; omega
    · have := hb g hg; omega
  · intro a b _ _ ha hb g hg
    rw [Ls.sets_any, List.mem_append] at hg
    rw [Ls.ks_any]
    rcases hg with hg | hg
    · have := ha g hg; omega
    · have := hb g hg; omega
  · intro a _ ha g hg
    rw [Ls.sets_star] at hg
    rw [Ls.ks_star]
    have := ha g hg; omega

theorem SV.shape {w : World} {base : Nat} {v : Value} {ss : List (List UInt8)} (h : SV w base v ss) : ∃ ao cap, v = .slice ao ss.length cap ∧ (0 < ss.length → ∃ g, ao = some ⟨g, 0, Option.none⟩ ∧ g < w.heap.size ∧ ∀ i (h : i < ss.length), w.cell? ⟨g, i, Option.none⟩ = some (strV ss[i])) := by
  have ho := h.own
  rcases ownsRow_split ho with ⟨e, h0⟩ | ⟨g, cap, e⟩
  · exact ⟨_, _, by rw [e, h0], by omega⟩
  · subst e
    refine ⟨_, _, rfl, fun _ => ⟨g, rfl, (ho.lt g rfl).2, fun i hi => ?_⟩⟩
    rw [ho.cellAt i (by simpa using hi)]
    simp [hi]

theorem cells_newS (w : World) (s : List UInt8) : ∀ j u, [strV s][j]? = some u → (w.alloc (.cells #[strV s] 9)).cell? ((⟨w.heap.size, 0, Option.none⟩ : Addr).add j) = some u := by
  intro j u hu
  match j, hu with
  | 0, hu =>
    simp at hu
    subst hu
    have : (w.alloc (.cells #[strV s] 9)).heap[w.heap.size]? = some (.cells #[strV s] 9) := heap_alloc_new w _
    show World.cell? _ ⟨w.heap.size, 0, Option.none⟩ = _
    simp only [World.cell?, this]
    rfl
  | j + 1, hu => simp at hu

/-- The letters so far, behind the signs below k. -/
structure Lt (l : List (List UInt8)) (out : List UInt8) (k : Nat) : Prop where
  all : ∀ c : UInt8, Ls.sign c = true → c.toNat < k → ∃ d, d ∈ out ∧ marks l d = marks l c
  small : out.length + 10 ≤ k

theorem nat_byte {c : UInt8} {k : Nat} (h : c.toNat < k + 1) : c.toNat < k ∨ c = UInt8.ofNat k := by
  rcases Nat.lt_or_ge c.toNat k with h1 | h1
  · exact .inl h1
  · have : c.toNat = k := by omega
    subst this
    exact .inr (by simp)

theorem Lt.skip {l : List (List UInt8)} {out : List UInt8} {k : Nat} (h : Lt l out k) (hs : Ls.sign (UInt8.ofNat k) = false) : Lt l out (k + 1) := by
  refine ⟨fun c hc hk => ?_, by have := h.small; omega⟩
  rcases nat_byte hk with h1 | rfl
  · exact h.all c hc h1
  · rw [hs] at hc; cases hc

theorem Lt.had {l : List (List UInt8)} {out : List UInt8} {k : Nat} (h : Lt l out k) (hs : ∃ d, d ∈ out ∧ marks l d = marks l (UInt8.ofNat k)) : Lt l out (k + 1) := by
  refine ⟨fun c hc hk => ?_, by have := h.small; omega⟩
  rcases nat_byte hk with h1 | rfl
  · exact h.all c hc h1
  · exact hs

theorem Lt.new {l : List (List UInt8)} {out : List UInt8} {k : Nat} (h : Lt l out k) : Lt l (out ++ [UInt8.ofNat k]) (k + 1) := by
  refine ⟨fun c hc hk => ?_, by have := h.small; simp; omega⟩
  rcases nat_byte hk with h1 | rfl
  · obtain ⟨d, hd, he⟩ := h.all c hc h1; exact ⟨d, by simp [hd], he⟩
  · exact ⟨UInt8.ofNat k, by simp, rfl⟩

theorem Lt.letters {p q : Ls.Pat} {out : List UInt8} (h : Lt (Ls.sets p ++ Ls.sets q) out 127) : Ls.Letters p q out := by
  intro c hc
  obtain ⟨d, hd, he⟩ := h.all c hc (by simp [Ls.sign] at hc; omega)
  exact ⟨d, hd, marks_eq he⟩

set_option maxRecDepth 100000 in
set_option maxHeartbeats 1000000 in
theorem letters_any (p q : Ls.Pat) (wp : Ls.wf p) (wq : Ls.wf q) (np : Ls.nd p ≤ 1000000000) (nq : Ls.nd q ≤ 1000000000) (kp : Ls.ks p ≤ 4611686018427387904) (kq : Ls.ks q ≤ 4611686018427387904) (y z : Value) (w : World) (G : Nat → Prop) (hG : Old w G) (hp : PV w G p y) (hq : PV w G q z) :
    Calls Tryz.prog 40 #[patA p y, patA q z] w fun e w' => ∃ L : List UInt8, e = .returned (strV L) ∧ Ls.Letters p q L ∧ L.length ≤ 117 ∧ Below w.heap.size w w' := by
  have Hp : Hid (PV w G p y) := hp
  have Hq : Hid (PV w G q z) := hq
  obtain ⟨y1, y2, y3, rfl⟩ := PV.slice _ _ hp
  obtain ⟨z1, z2, z3, rfl⟩ := PV.slice _ _ hq
  clear hp hq
  go_enter Tryz.func40, Tryz.ntmps40
  go_wp2_with fail
  refine (sets_all p wp np _ _ G (Old.alloc (Old.alloc hG _) _) (Hp.out.below (below_alloc2 _ _ _) hG fun _ h => h)).mono ?_
  rintro e w1 ⟨v1, rfl, hs1, hb1⟩
  have hb01 := Below.join (below_alloc2 _ _ _) hb1
  have hz1 := hb1.size
  simp at hz1
  have hl2 := lies_new (w.alloc (.cells #[.int .i64 p.kind, .string ⟨p.signs.toArray⟩, .slice y1 y2 y3] 27)) (patC q (.slice z1 z2 z3))
  have hc : ∀ o, w1.cell? ⟨w.heap.size + 1, o, Option.none⟩ = (patC q (.slice z1 z2 z3))[o]? := fun o => by
    have h0 := hl2.cell o
    rw [show (w.alloc (.cells #[.int .i64 p.kind, .string ⟨p.signs.toArray⟩, .slice y1 y2 y3] 27)).heap.size = w.heap.size + 1 by simp] at h0
    exact (hb1.cell (p := ⟨w.heap.size + 1, o, Option.none⟩) (by simp)).trans h0
  have c0 := hc 0
  have c1 := hc 1
  have c2 := hc 2
  simp only [patC, List.getElem?_cons_zero, List.getElem?_cons_succ] at c0 c1 c2
  clear hc hl2
  go_wp2_with fail
  refine (sets_all q wq nq _ _ G (Old.below hG hb01) (Hq.out.below hb01 hG fun _ h => h)).mono ?_
  rintro e w2 ⟨v2, rfl, hs2, hb2⟩
  have hb02 := Below.join hb01 hb2
  have hz2 := hb2.size
  have hs12 := (hs1.below hb2).weak (base := w.heap.size) (by simp; omega)
  have hsp := sets_length p wp
  have hsq := sets_length q wq
  have Hsh : Hid (∀ g, g ∈ Ls.sets p ++ Ls.sets q → g.length ≤ 4611686018427387904) := by
    intro g hg
    rw [List.mem_append] at hg
    rcases hg with hg | hg
    · have := sets_short p wp g hg; omega
    · have := sets_short q wq g hg; omega
  clear c0 c1 c2
  go_wp2_with (at_builtin; refine wpList_append_rows rfl _ _ rfl w.heap.size _ v1 v2 (Ls.sets p) (Ls.sets q) rfl rfl hs12 hs2 (by omega) (by omega) ?_)
  intro v3 w3 hs3 hg3 hr3
  have hb03 : Below w.heap.size w w3 := hb02.grown hg3 (by omega) (fun k e => (hs12.own.lt k e).1)
  generalize hl : Ls.sets p ++ Ls.sets q = l at *
  have hll : l.length ≤ 2000000000 := by rw [← hl, List.length_append]; omega
  clear hs1 hs2 hs12 hb1 hb2 hb01 hb02 hg3 hr3 hz1 hz2 Hp Hq
  obtain ⟨la, lc, rfl, hlc⟩ := hs3.shape
  have Hlc : Hid (0 < l.length → ∃ g, la = some ⟨g, 0, Option.none⟩ ∧ g < w3.heap.size ∧ ∀ i (h : i < l.length), w3.cell? ⟨g, i, Option.none⟩ = some (strV l[i])) := hlc
  clear hlc hs3 hsp hsq
  go_wp2_with fail
  go_loopw [7, 8, 9] (fun ov sv cv wr => ∃ (k : Nat) (out : List UInt8), k ≤ 127 ∧ cv = .int .i64 k ∧ ov = strV out ∧ SV wr w3.heap.size sv (out.map (marks l)) ∧ Lt l out k ∧ Below w3.heap.size w3 wr) (fun _ _ cv _ => 127 - (intOf cv).toNat)
  case atStart => exact ⟨10, [], by omega, rfl, rfl, SV.empty _ _, ⟨fun c hc hk => by simp [Ls.sign] at hc; omega, by simp⟩, Below.refl _ _⟩
  case round =>
    obtain ⟨k, out, hk, rfl, rfl, hsv, hlt, hb⟩ := hrel
    by_cases hk126 : k ≤ 126
    · cases hsg : Ls.sign (UInt8.ofNat k) with
      | false =>
        go_wp2_with fail
        refine (sign_nat k _ (by omega)).mono ?_
        rintro e w4 ⟨rfl, rfl⟩
        go_wp2_with fail
        exact ⟨⟨k + 1, out, by omega, by go_num, rfl, hsv, hlt.skip hsg, hb⟩, by simp [intOf]; omega⟩
      | true =>
        go_wp2_with fail
        refine (sign_nat k _ (by omega)).mono ?_
        rintro e w4 ⟨rfl, rfl⟩
        go_wp2_with fail
        go_loop [11, 12] (fun mv iv => ∃ i : Nat, i ≤ l.length ∧ iv = .int .i64 i ∧ mv = strV (marks (l.take i) (UInt8.ofNat k))) (fun _ iv => l.length - (intOf iv).toNat)
        case atStart => exact ⟨0, Nat.zero_le _, rfl, by simp [marks]⟩
        case round =>
          obtain ⟨i, hi, rfl, rfl⟩ := hrel
          have hml := marks_length (l.take i) (UInt8.ofNat k)
          have htl : (l.take i).length ≤ i := List.length_take_le _ _
          by_cases hil : i < l.length
          · obtain ⟨g, rfl, hg, hcl⟩ := Hlc.out (by omega)
            have e0 : w4.cell? ⟨g, i, Option.none⟩ = some (strV l[i]) := (hb.cell (p := ⟨g, i, Option.none⟩) hg).trans (hcl i hil)
            have HM : Hid (marks (l.take (i + 1)) (UInt8.ofNat k) = marks (l.take i) (UInt8.ofNat k) ++ [if Ls.has l[i] (UInt8.ofNat k) = true then 49 else 48]) := marks_take hil
            have hsi := Hsh.out l[i] (List.getElem_mem hil)
            clear hcl
            go_wp2_with fail
            refine (has_nat l[i] k _ (by omega) hsi).mono ?_
            rintro e w5 ⟨rfl, rfl⟩
            cases hh : Ls.has l[i] (UInt8.ofNat k) with
            | true =>
              go_wp2_with fail
              refine ⟨⟨i + 1, by omega, by go_num, ?_⟩, by simp [intOf]; omega⟩
              rw [HM.out, hh, str_snoc]
              rfl
            | false =>
              go_wp2_with fail
              refine ⟨⟨i + 1, by omega, by go_num, ?_⟩, by simp [intOf]; omega⟩
              rw [HM.out, hh, str_snoc]
              rfl
          · have hie : i = l.length := by omega
            subst hie
            rw [List.take_length] at hml ⊢
            generalize hmk : marks l (UInt8.ofNat k) = mk at *
            obtain ⟨sa, sc, rfl, hsc⟩ := hsv.shape
            have Hsc : Hid (0 < (out.map (marks l)).length → ∃ g, sa = some ⟨g, 0, Option.none⟩ ∧ g < w4.heap.size ∧ ∀ i (h : i < (out.map (marks l)).length), w4.cell? ⟨g, i, Option.none⟩ = some (strV (out.map (marks l))[i])) := hsc
            have hol := hlt.small
            clear hsc
            rw [List.length_map]
            go_wp2_with fail
            go_loop [14, 15] (fun ov iv => ∃ (j : Nat) (b : Bool), j ≤ out.length ∧ iv = .int .i64 j ∧ ov = .bool b ∧ (b = true → ∃ d, d ∈ out ∧ marks l d = mk) ∧ (b = false → ∀ d, d ∈ out.take j → marks l d ≠ mk)) (fun _ iv => out.length - (intOf iv).toNat)
            case atStart => exact ⟨0, false, Nat.zero_le _, rfl, rfl, by simp, by simp⟩
            case round =>
              obtain ⟨j, b, hj, rfl, rfl, hbt, hbf⟩ := hrel
              have Hbt : Hid (b = true → ∃ d, d ∈ out ∧ marks l d = mk) := hbt
              have Hbf : Hid (b = false → ∀ d, d ∈ out.take j → marks l d ≠ mk) := hbf
              clear hbt hbf
              by_cases hjl : j < out.length
              · cases b with
                | true =>
                  go_wp2_with fail
                  exact ⟨⟨j + 1, true, by omega, by go_num, rfl, Hbt.out, by simp⟩, by simp [intOf]; omega⟩
                | false =>
                  obtain ⟨g, rfl, hg, hcl⟩ := Hsc.out (by simp; omega)
                  have e0 := hcl j (by simpa using hjl)
                  rw [List.getElem_map] at e0
                  have Hcl : Hid (∀ i (h : i < (out.map (marks l)).length), w4.cell? ⟨g, i, Option.none⟩ = some (strV (out.map (marks l))[i])) := hcl
                  clear hcl
                  by_cases hm : marks l out[j] = mk
                  · have hmb : (marks l out[j] == mk) = true := by simp [hm]
                    have Hm : Hid (marks l out[j] = mk) := hm
                    clear hm
                    go_wp2_with fail
                    exact ⟨⟨j + 1, true, by omega, by go_num, rfl, fun _ => ⟨out[j], List.getElem_mem hjl, Hm.out⟩, by simp⟩, by simp [intOf]; omega⟩
                  · have hmb : (marks l out[j] == mk) = false := by simp [hm]
                    have Hm : Hid (¬ marks l out[j] = mk) := hm
                    clear hm
                    go_wp2_with fail
                    refine ⟨⟨j + 1, false, by omega, by go_num, rfl, by simp, fun _ d hd => ?_⟩, by simp [intOf]; omega⟩
                    rw [List.take_succ_eq_append_getElem hjl] at hd
                    rcases List.mem_append.1 hd with hd | hd
                    · exact Hbf.out rfl d hd
                    · simp only [List.mem_singleton] at hd
                      rw [hd]; exact Hm.out
              · cases b with
                | true =>
                  go_wp2_with fail
                  refine ⟨⟨k + 1, out, by omega, by go_num, rfl, ?_, hlt.had (by rw [hmk]; exact Hbt.out rfl), hb⟩, by simp [intOf]; omega⟩
                  rw [List.length_map] at hsv
                  exact hsv
                | false =>
                  rw [List.length_map] at hsv
                  have hza := hb.size
                  have hs4 : SV (w4.alloc (.cells #[strV mk] 9)) w3.heap.size (.slice sa out.length sc) (out.map (marks l)) := hsv.below (below_alloc1 _ _)
                  have hs5 : SV (w4.alloc (.cells #[strV mk] 9)) w4.heap.size (.slice (some ⟨w4.heap.size, 0, Option.none⟩) 1 1) [mk] :=
                    ⟨World.ownsRow_lit (e := 9) (size := 1) w4 #[strV mk] 1 (Nat.le_refl _) (by unfold maxLen; omega) rfl, by simp⟩
                  have hcv := run_conv1
                  clear Hsc
                  go_wp2_with (at_builtin; refine wpList_append_rows rfl _ _ rfl w3.heap.size w4.heap.size (.slice sa out.length sc) (.slice (some ⟨w4.heap.size, 0, Option.none⟩) 1 1) (out.map (marks l)) [mk] rfl rfl hs4 hs5 (by simp; omega) (by simp; omega) ?_)
                  intro v7 w7 hs7 hg7 hr7
                  have hb7 : Below w3.heap.size w3 w7 := (hb.trans ((below_alloc1 w4 (.cells #[strV mk] 9)).mono hza)).grown hg7 (by simp; omega) (fun k e => (hs4.own.lt k e).1)
                  go_wp2_with fail
                  have hz7 := hb7.size
                  refine ⟨⟨k + 1, out ++ [UInt8.ofNat k], by omega, by go_num, str_snoc _ _, ?_, hlt.new, hb7.alloc hz7 _⟩, by simp [intOf]; omega⟩
                  rw [List.map_append, List.map_cons, List.map_nil, hmk]
                  exact hs7.below (below_alloc1 _ _)
    · go_wp2_with fail
      go_ret
      have : k = 127 := by omega
      subst this
      exact ⟨out, rfl, Lt.letters (by rw [hl]; exact hlt), by have := hlt.small; omega, Below.join hb03 hb⟩

end Go.Proofs.YtfklinjaajafgaaGreatDoor

/- Several rows that grow side by side; tables in memory. -/
namespace Go.Proofs.YtfklinjaajafgaaGreatDoor
open Go.RowKit

/-- A block that is the row of none of vs. -/
def Fix (w : World) (vs : List Value) (k : Nat) : Prop := k < w.heap.size ∧ ∀ u, u ∈ vs → u.ownBlock ≠ some k

/-- Rows of the call's own, no two of them one block. -/
structure Dis (B : Nat) (w : World) (vs : List Value) : Prop where
  lt : ∀ u, u ∈ vs → ∀ k, u.ownBlock = some k → B ≤ k ∧ k < w.heap.size
  ne : ∀ (i j : Nat) (u v : Value), i ≠ j → vs[i]? = some u → vs[j]? = some v → ∀ k, u.ownBlock = some k → v.ownBlock ≠ some k

/-- What is the row of none stays so, as it is. -/
def Moved (w w' : World) (vs vs' : List Value) : Prop := ∀ k, Fix w vs k → Fix w' vs' k ∧ w'.heap[k]? = w.heap[k]?

theorem Moved.trans {a b c : World} {x y z : List Value} (h : Moved a b x y) (k : Moved b c y z) : Moved a c x z := fun j hj =>
  ⟨(k j (h j hj).1).1, (k j (h j hj).1).2.trans (h j hj).2⟩

theorem set_get {vs : List Value} {i j : Nat} {v' u : Value} (h : (vs.set i v')[j]? = some u) : (j = i ∧ u = v') ∨ (j ≠ i ∧ vs[j]? = some u) := by
  rw [List.getElem?_set] at h
  by_cases hij : i = j
  · rw [if_pos hij] at h
    by_cases hl : i < vs.length
    · rw [if_pos hl] at h; injection h with h; exact .inl ⟨hij.symm, h.symm⟩
    · rw [if_neg hl] at h; cases h
  · rw [if_neg hij] at h; exact .inr ⟨fun e => hij e.symm, h⟩

theorem Dis.set {B : Nat} {w w' : World} {vs : List Value} (h : Dis B w vs) {i : Nat} {v v' : Value} (hi : vs[i]? = some v) (hg : w.grownBy w' v.ownBlock)
    (hv : v'.ownBlock = v.ownBlock ∨ ∃ k, v'.ownBlock = some k ∧ w.heap.size ≤ k) (hlt : ∀ k, v'.ownBlock = some k → B ≤ k ∧ k < w'.heap.size) :
    Dis B w' (vs.set i v') ∧ Moved w w' vs (vs.set i v') ∧ (∀ (j : Nat) (u : Value), j ≠ i → vs[j]? = some u → ∀ k, u.ownBlock = some k → w'.heap[k]? = w.heap[k]?) := by
  have hmem : v ∈ vs := List.mem_of_getElem? hi
  have other : ∀ (j : Nat) (u : Value), j ≠ i → vs[j]? = some u → ∀ k, u.ownBlock = some k → v'.ownBlock ≠ some k := by
    intro j u hj hu k hk e
    rcases hv with e2 | ⟨m, e2, hm⟩
    · rw [e2] at e; exact h.ne j i u v hj hu hi k hk e
    · rw [e2] at e; injection e with e; have := (h.lt u (List.mem_of_getElem? hu) k hk).2; omega
  refine ⟨⟨?_, ?_⟩, ?_, ?_⟩
  · intro u hu k hk
    obtain ⟨j, hj⟩ := List.getElem?_of_mem hu
    rcases set_get hj with ⟨_, rfl⟩ | ⟨_, hj⟩
    · exact hlt k hk
    · have := h.lt u (List.mem_of_getElem? hj) k hk
      exact ⟨this.1, Nat.lt_of_lt_of_le this.2 hg.size⟩
  · intro a b u x hab hu hx k hk e
    rcases set_get hu with ⟨rfl, rfl⟩ | ⟨ha, hu2⟩
    · rcases set_get hx with ⟨rfl, _⟩ | ⟨hb, hx⟩
      · exact hab rfl
      · exact other b x hb hx k e hk
    · rcases set_get hx with ⟨rfl, rfl⟩ | ⟨hb, hx⟩
      · exact other a u ha hu2 k hk e
      · exact h.ne a b u x hab hu2 hx k hk e
  · intro k hk
    have hne : some k ≠ v.ownBlock := fun e => hk.2 v hmem e.symm
    refine ⟨⟨Nat.lt_of_lt_of_le hk.1 hg.size, fun u hu => ?_⟩, hg.block k hk.1 hne⟩
    obtain ⟨j, hj⟩ := List.getElem?_of_mem hu
    rcases set_get hj with ⟨_, rfl⟩ | ⟨_, hj⟩
    · rcases hv with e2 | ⟨m, e2, hm⟩
      · rw [e2]; exact hk.2 v hmem
      · rw [e2]; intro e; injection e with e; have := hk.1; omega
    · exact hk.2 u (List.mem_of_getElem? hj)
  · intro j u hj hu k hk
    exact hg.block k (h.lt u (List.mem_of_getElem? hu) k hk).2 (fun e => h.ne j i u v hj hu hi k hk e.symm)

theorem Dis.below {B : Nat} {w w' : World} {vs : List Value} (h : Dis B w vs) (hb : Below w.heap.size w w') : Dis B w' vs ∧ Moved w w' vs vs :=
  ⟨⟨fun u hu k hk => ⟨(h.lt u hu k hk).1, Nat.lt_of_lt_of_le (h.lt u hu k hk).2 hb.size⟩, h.ne⟩, fun k hk => ⟨⟨Nat.lt_of_lt_of_le hk.1 hb.size, hk.2⟩, hb.block k hk.1⟩⟩

theorem Dis.push {B : Nat} {w : World} {vs : List Value} (h : Dis B w vs) : Dis B w (.slice Option.none 0 0 :: vs) ∧ Moved w w vs (.slice Option.none 0 0 :: vs) := by
  refine ⟨⟨fun u hu k hk => ?_, fun i j u v hij hu hv k hk => ?_⟩, fun k hk => ⟨⟨hk.1, fun u hu => ?_⟩, rfl⟩⟩
  · simp only [List.mem_cons] at hu
    rcases hu with rfl | hu
    · simp [Value.ownBlock] at hk
    · exact h.lt u hu k hk
  · cases i with
    | zero => simp at hu; subst hu; simp [Value.ownBlock] at hk
    | succ i =>
      cases j with
      | zero => simp at hv; subst hv; simp [Value.ownBlock]
      | succ j => exact h.ne i j u v (by omega) (by simpa using hu) (by simpa using hv) k hk
  · simp only [List.mem_cons] at hu
    rcases hu with rfl | hu
    · simp [Value.ownBlock]
    · exact hk.2 u hu

theorem Dis.pop {B : Nat} {w : World} {v : Value} {vs : List Value} (h : Dis B w (v :: vs)) : Dis B w vs ∧ Moved w w (v :: vs) vs ∧ (∀ k, v.ownBlock = some k → Fix w vs k) := by
  refine ⟨⟨fun u hu => h.lt u (by simp [hu]), fun i j u x hij hu hx => h.ne (i + 1) (j + 1) u x (by omega) (by simpa using hu) (by simpa using hx)⟩, fun k hk => ⟨⟨hk.1, fun u hu => hk.2 u (by simp [hu])⟩, rfl⟩, fun k hk => ⟨(h.lt v (by simp) k hk).2, fun u hu => ?_⟩⟩
  obtain ⟨j, hj⟩ := List.getElem?_of_mem hu
  exact h.ne 0 (j + 1) v u (by omega) (by simp) (by simpa using hj) k hk

theorem ownsRow_same {w w' : World} {base : Nat} {e : TypeId} {size : Nat} {v : Value} {n : Nat} {xs : List Value} (h : w.ownsRow base e size v n xs) (hb : ∀ k, v.ownBlock = some k → w'.heap[k]? = w.heap[k]?) : w'.ownsRow base e size v n xs := by
  refine ⟨h.1, ?_⟩
  rcases h.2 with h2 | ⟨g, cap, cur, rfl, hbg, hg, r⟩
  · exact .inl h2
  · exact .inr ⟨g, cap, cur, rfl, hbg, by rw [hb g rfl]; exact hg, r⟩

/-- A slice shows some values. -/
def VV (w : World) (G : Nat → Prop) (v : Value) (xs : List Value) : Prop :=
  (v = .slice Option.none 0 0 ∧ xs = []) ∨ ∃ g cap, G g ∧ v = .slice (some ⟨g, 0, Option.none⟩) xs.length cap ∧ ∀ i (h : i < xs.length), w.cell? ⟨g, i, Option.none⟩ = some xs[i]

theorem VV.mono {w w' : World} {G G' : Nat → Prop} (hw : ∀ k, G k → G' k ∧ w'.heap[k]? = w.heap[k]?) {v : Value} {xs : List Value} (h : VV w G v xs) : VV w' G' v xs := by
  rcases h with h | ⟨g, cap, hg, rfl, hc⟩
  · exact .inl h
  · exact .inr ⟨g, cap, (hw g hg).1, rfl, fun i hi => by rw [cell_of_block (hw g hg).2]; exact hc i hi⟩

theorem VV.of_own {w : World} {G : Nat → Prop} {base : Nat} {e : TypeId} {v : Value} {xs : List Value} (h : w.ownsRow base e 1 v xs.length xs) (hG : ∀ k, v.ownBlock = some k → G k) : VV w G v xs := by
  rcases ownsRow_split h with ⟨h1, h2⟩ | ⟨g, cap, rfl⟩
  · exact .inl ⟨h1, List.eq_nil_of_length_eq_zero h2⟩
  · refine .inr ⟨g, cap, hG g rfl, rfl, fun i hi => ?_⟩
    rw [h.cellAt i (by simpa using hi)]
    simp [hi]

theorem VV.shape {w : World} {G : Nat → Prop} {v : Value} {xs : List Value} (h : VV w G v xs) : ∃ ao cap, v = .slice ao xs.length cap ∧ (0 < xs.length → ∃ g, ao = some ⟨g, 0, Option.none⟩ ∧ G g ∧ ∀ i (h : i < xs.length), w.cell? ⟨g, i, Option.none⟩ = some xs[i]) := by
  rcases h with ⟨rfl, rfl⟩ | ⟨g, cap, hg, rfl, hc⟩
  · exact ⟨_, _, rfl, by simp⟩
  · exact ⟨_, _, rfl, fun _ => ⟨g, rfl, hg, hc⟩⟩

abbrev intsV (l : List Nat) : List Value := l.map fun (n : Nat) => Value.int .i64 (n : Int)

theorem VV.ints {w : World} {G : Nat → Prop} {v : Value} {l : List Nat} (h : VV w G v (intsV l)) : IV w G v l := by
  rcases h with ⟨rfl, h0⟩ | ⟨g, cap, hg, rfl, hc⟩
  · exact .inl ⟨rfl, by simpa using h0⟩
  · refine .inr ⟨g, cap, hg, by simp, fun i hi => ?_⟩
    have := hc i (by simpa using hi)
    simpa using this

/-- Some rows of numbers. -/
def II (w : World) (G : Nat → Prop) (v : Value) (ll : List (List Nat)) : Prop := ∃ xs : List Value, VV w G v xs ∧ xs.length = ll.length ∧ ∀ (i : Nat) (x : Value) (l : List Nat), xs[i]? = some x → ll[i]? = some l → IV w G x l
def III (w : World) (G : Nat → Prop) (v : Value) (ll : List (List (List Nat))) : Prop := ∃ xs : List Value, VV w G v xs ∧ xs.length = ll.length ∧ ∀ (i : Nat) (x : Value) (l : List (List Nat)), xs[i]? = some x → ll[i]? = some l → II w G x l

theorem IV.mono2 {w w' : World} {G G' : Nat → Prop} (hw : ∀ k, G k → G' k ∧ w'.heap[k]? = w.heap[k]?) {v : Value} {l : List Nat} (h : IV w G v l) : IV w' G' v l :=
  h.mono (fun k hk => (hw k hk).1) (fun k hk => (hw k hk).2)
theorem II.mono {w w' : World} {G G' : Nat → Prop} (hw : ∀ k, G k → G' k ∧ w'.heap[k]? = w.heap[k]?) {v : Value} {l : List (List Nat)} (h : II w G v l) : II w' G' v l := by
  obtain ⟨xs, h1, h2, h3⟩ := h
  exact ⟨xs, h1.mono hw, h2, fun i x l hx hl => (h3 i x l hx hl).mono2 hw⟩
theorem III.mono {w w' : World} {G G' : Nat → Prop} (hw : ∀ k, G k → G' k ∧ w'.heap[k]? = w.heap[k]?) {v : Value} {l : List (List (List Nat))} (h : III w G v l) : III w' G' v l := by
  obtain ⟨xs, h1, h2, h3⟩ := h
  exact ⟨xs, h1.mono hw, h2, fun i x l hx hl => (h3 i x l hx hl).mono hw⟩
theorem PV.mono2 {w w' : World} {G G' : Nat → Prop} (hw : ∀ k, G k → G' k ∧ w'.heap[k]? = w.heap[k]?) {p : Ls.Pat} {v : Value} (h : PV w G p v) : PV w' G' p v :=
  PV.mono (fun k hk => (hw k hk).1) (fun k hk => (hw k hk).2) _ _ h

/-- A table in memory. -/
def TV (w : World) (G : Nat → Prop) (tb : Nat) (t : Ls.Tab) : Prop :=
  G tb ∧ ∃ vT vE, w.heap[tb]? = some (.cells #[vT, vE] 73 (0, 0)) ∧ III w G vT t.to ∧ VV w G vE (t.ends.map Value.bool)

theorem TV.mono {w w' : World} {G G' : Nat → Prop} (hw : ∀ k, G k → G' k ∧ w'.heap[k]? = w.heap[k]?) {tb : Nat} {t : Ls.Tab} (h : TV w G tb t) : TV w' G' tb t := by
  obtain ⟨h0, vT, vE, h1, h2, h3⟩ := h
  exact ⟨(hw tb h0).1, vT, vE, by rw [(hw tb h0).2]; exact h1, h2.mono hw, h3.mono hw⟩

end Go.Proofs.YtfklinjaajafgaaGreatDoor

/- What table keeps while it is made. -/
namespace Go.Proofs.YtfklinjaajafgaaGreatDoor
open Go.RowKit

abbrev tbV (tb : Nat) : Value := .slice (some ⟨tb, 0, Option.none⟩) 0 0

/-- New blocks that are the row of none. -/
def FixB (B : Nat) (w : World) (vs : List Value) (k : Nat) : Prop := Fix w vs k ∧ B ≤ k

theorem Moved.fixB {w w' : World} {vs vs' : List Value} (h : Moved w w' vs vs') (B : Nat) : ∀ k, FixB B w vs k → FixB B w' vs' k ∧ w'.heap[k]? = w.heap[k]? := fun k hk => ⟨⟨(h k hk.1).1, hk.2⟩, (h k hk.1).2⟩

/-- The rows of table: states, keys, ends, to; those in work (ex); what the table's own cells hold. -/
structure TS (w0 w : World) (tb : Nat) (vS vK vE vT cT cE : Value) (ex : List Value) (qs : List (Ls.Pat × Value)) (ks : List (List UInt8)) (ends : List Bool) (tt : List (List (List Nat))) : Prop where
  bel : Below w0.heap.size w0 w
  dis : Dis w0.heap.size w (ex ++ [vS, vK, vE, vT, tbV tb])
  ownS : w.ownsRow w0.heap.size 27 3 vS qs.length (flat qs)
  each : ∀ q, q ∈ qs → PV w (Fix w (ex ++ [vS, vK, vE, vT, tbV tb])) q.1 q.2
  keys : SV w w0.heap.size vK ks
  ownE : w.ownsRow w0.heap.size 4 1 vE ends.length (ends.map Value.bool)
  rows : ∃ xs : List Value, w.ownsRow w0.heap.size 76 1 vT xs.length xs ∧ xs.length = tt.length ∧ ∀ (i : Nat) (x : Value) (l : List (List Nat)), xs[i]? = some x → tt[i]? = some l → II w (FixB w0.heap.size w (ex ++ [vS, vK, vE, vT, tbV tb])) x l
  tab : w.heap[tb]? = some (.cells #[cT, cE] 73 (0, 0))

section
variable {w0 w w' : World} {tb : Nat} {vS vK vE vT cT cE : Value} {ex : List Value} {qs : List (Ls.Pat × Value)} {ks : List (List UInt8)} {ends : List Bool} {tt : List (List (List Nat))}

theorem at0 (ex : List Value) (a b c d e : Value) : (ex ++ [a, b, c, d, e])[ex.length]? = some a := by simp
theorem at1 (ex : List Value) (a b c d e : Value) : (ex ++ [a, b, c, d, e])[ex.length + 1]? = some b := by rw [List.getElem?_append_right (by omega)]; simp
theorem at2 (ex : List Value) (a b c d e : Value) : (ex ++ [a, b, c, d, e])[ex.length + 2]? = some c := by rw [List.getElem?_append_right (by omega)]; simp
theorem at3 (ex : List Value) (a b c d e : Value) : (ex ++ [a, b, c, d, e])[ex.length + 3]? = some d := by rw [List.getElem?_append_right (by omega)]; simp
theorem at4 (ex : List Value) (a b c d e : Value) : (ex ++ [a, b, c, d, e])[ex.length + 4]? = some e := by rw [List.getElem?_append_right (by omega)]; simp
theorem set_at (ex l : List Value) (i : Nat) (v : Value) : (ex ++ l).set (ex.length + i) v = ex ++ l.set i v := by rw [List.set_append_right _ _ (by omega)]; simp

theorem TS.size (h : TS w0 w tb vS vK vE vT cT cE ex qs ks ends tt) : w0.heap.size ≤ w.heap.size := h.bel.size

/-- Nothing was written that was there. -/
theorem TS.below (h : TS w0 w tb vS vK vE vT cT cE ex qs ks ends tt) (hb : Below w.heap.size w w') : TS w0 w' tb vS vK vE vT cT cE ex qs ks ends tt := by
  obtain ⟨d, m⟩ := h.dis.below hb
  have sm : ∀ (i : Nat) (v : Value), (ex ++ [vS, vK, vE, vT, tbV tb])[i]? = some v → ∀ k, v.ownBlock = some k → w'.heap[k]? = w.heap[k]? := fun i v hi k hk => hb.block k (h.dis.lt v (List.mem_of_getElem? hi) k hk).2
  obtain ⟨xs, r1, r2, r3⟩ := h.rows
  exact ⟨h.bel.trans (hb.mono h.size), d, ownsRow_same h.ownS (sm _ _ (at0 ..)), fun q hq => (h.each q hq).mono2 m, ⟨ownsRow_same h.keys.own (sm _ _ (at1 ..)), h.keys.nil⟩, ownsRow_same h.ownE (sm _ _ (at2 ..)),
    ⟨xs, ownsRow_same r1 (sm _ _ (at3 ..)), r2, fun i x l hx hl => (r3 i x l hx hl).mono (m.fixB _)⟩, by rw [sm _ _ (at4 ..) tb rfl]; exact h.tab⟩

/-- What an append leaves. -/
structure Appd (w w' : World) (base : Nat) (e : TypeId) (size : Nat) (v v' : Value) (n : Nat) (xs : List Value) : Prop where
  own : w'.ownsRow base e size v' n xs
  grown : w.grownBy w' v.ownBlock
  place : v'.ownBlock = v.ownBlock ∨ ∃ k, v'.ownBlock = some k ∧ w.heap.size ≤ k

theorem TS.bel' (h : TS w0 w tb vS vK vE vT cT cE ex qs ks ends tt) {i : Nat} {v : Value} (hi : (ex ++ [vS, vK, vE, vT, tbV tb])[i]? = some v) (hg : w.grownBy w' v.ownBlock) : Below w0.heap.size w0 w' :=
  h.bel.grown hg h.size (fun k e => (h.dis.lt v (List.mem_of_getElem? hi) k e).1)

/-- A state more. -/
theorem TS.state (h : TS w0 w tb vS vK vE vT cT cE ex qs ks ends tt) {vS' : Value} {p : Ls.Pat} {y : Value} (hp : PV w (Fix w (ex ++ [vS, vK, vE, vT, tbV tb])) p y)
    (ha : Appd w w' w0.heap.size 27 3 vS vS' (qs.length + 1) (flat qs ++ patC p y)) : TS w0 w' tb vS' vK vE vT cT cE ex (qs ++ [(p, y)]) ks ends tt := by
  obtain ⟨d, m, o⟩ := h.dis.set (at0 ex vS vK vE vT (tbV tb)) ha.grown ha.place (fun k e => ha.own.lt k e)
  rw [show ex.length = ex.length + 0 from rfl, set_at] at d m
  obtain ⟨xs, r1, r2, r3⟩ := h.rows
  refine ⟨h.bel' (at0 ..) ha.grown, d, ?_, ?_, ⟨ownsRow_same h.keys.own (o _ _ (by omega) (at1 ..)), h.keys.nil⟩, ownsRow_same h.ownE (o _ _ (by omega) (at2 ..)),
    ⟨xs, ownsRow_same r1 (o _ _ (by omega) (at3 ..)), r2, fun i x l hx hl => (r3 i x l hx hl).mono (m.fixB _)⟩, by rw [o _ _ (by omega) (at4 ..) tb rfl]; exact h.tab⟩
  · rw [flat_append, List.length_append]; exact ha.own
  · intro q hq
    rcases List.mem_append.1 hq with hq | hq
    · exact (h.each q hq).mono2 m
    · simp only [List.mem_singleton] at hq
      subst hq
      exact hp.mono2 m

/-- A key more. -/
theorem TS.key (h : TS w0 w tb vS vK vE vT cT cE ex qs ks ends tt) {vK' : Value} {ks' : List (List UInt8)} (hs : SV w' w0.heap.size vK' ks') (hg : w.grownBy w' vK.ownBlock) (hr : vK'.ownBlock = vK.ownBlock ∨ ∃ k, vK'.ownBlock = some k ∧ w.heap.size ≤ k) :
    TS w0 w' tb vS vK' vE vT cT cE ex qs ks' ends tt := by
  obtain ⟨d, m, o⟩ := h.dis.set (at1 ex vS vK vE vT (tbV tb)) hg hr (fun k e => hs.own.lt k e)
  rw [set_at] at d m
  obtain ⟨xs, r1, r2, r3⟩ := h.rows
  exact ⟨h.bel' (at1 ..) hg, d, ownsRow_same h.ownS (o _ _ (by omega) (at0 ..)), fun q hq => (h.each q hq).mono2 m, hs, ownsRow_same h.ownE (o _ _ (by omega) (at2 ..)),
    ⟨xs, ownsRow_same r1 (o _ _ (by omega) (at3 ..)), r2, fun i x l hx hl => (r3 i x l hx hl).mono (m.fixB _)⟩, by rw [o _ _ (by omega) (at4 ..) tb rfl]; exact h.tab⟩

/-- An end more. -/
theorem TS.endd (h : TS w0 w tb vS vK vE vT cT cE ex qs ks ends tt) {vE' : Value} {b : Bool} (ha : Appd w w' w0.heap.size 4 1 vE vE' (ends.length + 1) (ends.map Value.bool ++ [.bool b])) :
    TS w0 w' tb vS vK vE' vT cT cE ex qs ks (ends ++ [b]) tt := by
  obtain ⟨d, m, o⟩ := h.dis.set (at2 ex vS vK vE vT (tbV tb)) ha.grown ha.place (fun k e => ha.own.lt k e)
  rw [set_at] at d m
  obtain ⟨xs, r1, r2, r3⟩ := h.rows
  exact ⟨h.bel' (at2 ..) ha.grown, d, ownsRow_same h.ownS (o _ _ (by omega) (at0 ..)), fun q hq => (h.each q hq).mono2 m, ⟨ownsRow_same h.keys.own (o _ _ (by omega) (at1 ..)), h.keys.nil⟩,
    by rw [List.map_append, List.length_append]; exact ha.own,
    ⟨xs, ownsRow_same r1 (o _ _ (by omega) (at3 ..)), r2, fun i x l hx hl => (r3 i x l hx hl).mono (m.fixB _)⟩, by rw [o _ _ (by omega) (at4 ..) tb rfl]; exact h.tab⟩

/-- A row of rows more. -/
theorem TS.row (h : TS w0 w tb vS vK vE vT cT cE ex qs ks ends tt) {vT' : Value} {x : Value} {l : List (List Nat)} (hx : II w (FixB w0.heap.size w (ex ++ [vS, vK, vE, vT, tbV tb])) x l)
    (ha : ∀ xs : List Value, w.ownsRow w0.heap.size 76 1 vT xs.length xs → xs.length = tt.length → Appd w w' w0.heap.size 76 1 vT vT' (xs.length + 1) (xs ++ [x])) :
    TS w0 w' tb vS vK vE vT' cT cE ex qs ks ends (tt ++ [l]) := by
  obtain ⟨xs, r1, r2, r3⟩ := h.rows
  have ha := ha xs r1 r2
  obtain ⟨d, m, o⟩ := h.dis.set (at3 ex vS vK vE vT (tbV tb)) ha.grown ha.place (fun k e => ha.own.lt k e)
  rw [set_at] at d m
  refine ⟨h.bel' (at3 ..) ha.grown, d, ownsRow_same h.ownS (o _ _ (by omega) (at0 ..)), fun q hq => (h.each q hq).mono2 m, ⟨ownsRow_same h.keys.own (o _ _ (by omega) (at1 ..)), h.keys.nil⟩, ownsRow_same h.ownE (o _ _ (by omega) (at2 ..)),
    ⟨xs ++ [x], by rw [List.length_append]; exact ha.own, by simp [r2], ?_⟩, by rw [o _ _ (by omega) (at4 ..) tb rfl]; exact h.tab⟩
  intro i y l' hy hl'
  by_cases hi : i < xs.length
  · rw [List.getElem?_append_left hi] at hy
    rw [List.getElem?_append_left (by omega)] at hl'
    exact (r3 i y l' hy hl').mono (m.fixB _)
  · have hi2 : i < (xs ++ [x]).length := (List.getElem?_eq_some_iff.1 hy).1
    have hi3 : i = xs.length := by simp at hi2; omega
    subst hi3
    rw [r2] at hl'
    simp at hy hl'
    subst hy hl'
    exact hx.mono (m.fixB _)

theorem grownBy_setCell (w : World) (g o : Nat) (v : Value) : w.grownBy (w.setCell ⟨g, o, Option.none⟩ v) (some g) :=
  ⟨rfl, rfl, rfl, by simp [World.setCell], fun k _ hne => Below.heap_setCell _ _ _ _ (fun e => hne (by rw [e]))⟩

/-- The table's cells are filled. -/
theorem TS.store (h : TS w0 w tb vS vK vE vT cT cE ex qs ks ends tt) (o : Nat) (v cT' cE' : Value) (hc : (#[cT, cE] : Array Value).set! o v = #[cT', cE']) : TS w0 (w.setCell ⟨tb, o, Option.none⟩ v) tb vS vK vE vT cT' cE' ex qs ks ends tt := by
  have hg : w.grownBy (w.setCell ⟨tb, o, Option.none⟩ v) (tbV tb).ownBlock := grownBy_setCell w tb o v
  have ht := h.dis.lt (tbV tb) (List.mem_of_getElem? (at4 ex vS vK vE vT (tbV tb))) tb rfl
  obtain ⟨d, m, s⟩ := h.dis.set (at4 ex vS vK vE vT (tbV tb)) hg (.inl rfl) (fun k e => by injection e with e; subst e; exact ⟨ht.1, Nat.lt_of_lt_of_le ht.2 hg.size⟩)
  rw [set_at] at d m
  obtain ⟨xs, r1, r2, r3⟩ := h.rows
  refine ⟨h.bel' (at4 ..) hg, d, ownsRow_same h.ownS (s _ _ (by omega) (at0 ..)), fun q hq => (h.each q hq).mono2 m, ⟨ownsRow_same h.keys.own (s _ _ (by omega) (at1 ..)), h.keys.nil⟩, ownsRow_same h.ownE (s _ _ (by omega) (at2 ..)),
    ⟨xs, ownsRow_same r1 (s _ _ (by omega) (at3 ..)), r2, fun i x l hx hl => (r3 i x l hx hl).mono (m.fixB _)⟩, ?_⟩
  have := h.tab
  simp [World.setCell, Array.getElem?_modify, this, ← hc]

/-- A new row in work. -/
theorem TS.push (h : TS w0 w tb vS vK vE vT cT cE ex qs ks ends tt) : TS w0 w tb vS vK vE vT cT cE (.slice Option.none 0 0 :: ex) qs ks ends tt := by
  obtain ⟨d, m⟩ := h.dis.push
  obtain ⟨xs, r1, r2, r3⟩ := h.rows
  exact ⟨h.bel, d, h.ownS, fun q hq => (h.each q hq).mono2 m, h.keys, h.ownE, ⟨xs, r1, r2, fun i x l hx hl => (r3 i x l hx hl).mono (m.fixB _)⟩, h.tab⟩

/-- The row in work is done. -/
theorem TS.pop {v : Value} (h : TS w0 w tb vS vK vE vT cT cE (v :: ex) qs ks ends tt) : TS w0 w tb vS vK vE vT cT cE ex qs ks ends tt ∧ Moved w w (v :: (ex ++ [vS, vK, vE, vT, tbV tb])) (ex ++ [vS, vK, vE, vT, tbV tb]) ∧ (∀ k, v.ownBlock = some k → FixB w0.heap.size w (ex ++ [vS, vK, vE, vT, tbV tb]) k) := by
  obtain ⟨d, m, f⟩ := Dis.pop h.dis
  obtain ⟨xs, r1, r2, r3⟩ := h.rows
  exact ⟨⟨h.bel, d, h.ownS, fun q hq => (h.each q hq).mono2 m, h.keys, h.ownE, ⟨xs, r1, r2, fun i x l hx hl => (r3 i x l hx hl).mono (m.fixB _)⟩, h.tab⟩, m, fun k e => ⟨f k e, (h.dis.lt v (by simp) k e).1⟩⟩

/-- The row in work grows. -/
theorem TS.grow {v v' : Value} (h : TS w0 w tb vS vK vE vT cT cE (v :: ex) qs ks ends tt) (hg : w.grownBy w' v.ownBlock) (hr : v'.ownBlock = v.ownBlock ∨ ∃ k, v'.ownBlock = some k ∧ w.heap.size ≤ k) (hl : ∀ k, v'.ownBlock = some k → w0.heap.size ≤ k ∧ k < w'.heap.size) :
    TS w0 w' tb vS vK vE vT cT cE (v' :: ex) qs ks ends tt ∧ Moved w w' (v :: (ex ++ [vS, vK, vE, vT, tbV tb])) (v' :: (ex ++ [vS, vK, vE, vT, tbV tb])) := by
  have h0 : ((v :: ex) ++ [vS, vK, vE, vT, tbV tb])[0]? = some v := rfl
  obtain ⟨d, m, o⟩ := h.dis.set h0 hg hr hl
  have e : (v :: ex).length = ex.length + 1 := rfl
  obtain ⟨xs, r1, r2, r3⟩ := h.rows
  exact ⟨⟨h.bel' h0 hg, d, ownsRow_same h.ownS (o _ _ (by omega) (at0 (v :: ex) ..)), fun q hq => (h.each q hq).mono2 m, ⟨ownsRow_same h.keys.own (o _ _ (by omega) (at1 (v :: ex) ..)), h.keys.nil⟩, ownsRow_same h.ownE (o _ _ (by omega) (at2 (v :: ex) ..)),
    ⟨xs, ownsRow_same r1 (o _ _ (by omega) (at3 (v :: ex) ..)), r2, fun i x l hx hl => (r3 i x l hx hl).mono (m.fixB _)⟩, by rw [o _ _ (by omega) (at4 (v :: ex) ..) tb rfl]; exact h.tab⟩, m⟩

/-- The table that is done. -/
theorem TS.done (h : TS w0 w tb vS vK vE vT vT vE [] qs ks ends tt) : TV w (fun k => w0.heap.size ≤ k ∧ k < w.heap.size) tb ⟨tt, ends⟩ := by
  obtain ⟨xs, r1, r2, r3⟩ := h.rows
  refine ⟨h.dis.lt (tbV tb) (by simp) tb rfl, vT, vE, h.tab, ⟨xs, VV.of_own r1 (fun k e => r1.lt k e), r2, fun i x l hx hl => (r3 i x l hx hl).mono (fun k hk => ⟨⟨hk.2, hk.1.1⟩, rfl⟩)⟩, ?_⟩
  have := h.ownE
  rw [show ends.length = (ends.map Value.bool).length by simp] at this
  exact VV.of_own this (fun k e => h.ownE.lt k e)
end

end Go.Proofs.YtfklinjaajafgaaGreatDoor

/- table: its mathematics, and the list that behind answers. -/
namespace Ls

/-- Where the states lead by the letters so far. -/
def RowOk (L : List UInt8) (sts : List Pat) (r : List (List Nat)) (q : Pat) : Prop := ∀ (k : Nat) (c : UInt8), k < r.length → L[k]? = some c → ∃ l : List Nat, r[k]? = some l ∧ l.map (fun j => sts[j]?) = (behind q c).map some

/-- The table so far: n ends, m rows. -/
structure TInv (p : Pat) (L : List UInt8) (R : List Pat) (sts : List Pat) (n : Nat) (ends : List Bool) (m : Nat) (tt : List (List (List Nat))) : Prop where
  first : sts[0]? = some p
  room : ∀ x, x ∈ sts → x ∈ R
  kd : KD sts
  le : n ≤ sts.length
  ends : ends = (sts.take n).map empty
  lenT : tt.length = m
  rows : ∀ (i : Nat) (q : Pat) (r : List (List Nat)), sts[i]? = some q → tt[i]? = some r → r.length = L.length ∧ RowOk L sts r q

theorem lead_mono {sts : List Pat} {l : List Nat} {m : List Pat} (x : Pat) (h : l.map (fun j => sts[j]?) = m.map some) : l.map (fun j => (sts ++ [x])[j]?) = m.map some := by
  rw [← h]
  apply List.map_congr_left
  intro j hj
  have : sts[j]? ∈ m.map some := by rw [← h]; exact List.mem_map.2 ⟨j, hj, rfl⟩
  obtain ⟨y, _, hy⟩ := List.mem_map.1 this
  have hlt : j < sts.length := (List.getElem?_eq_some_iff.1 hy.symm).1
  rw [List.getElem?_append_left hlt]

theorem RowOk.mono {L : List UInt8} {sts : List Pat} {r : List (List Nat)} {q : Pat} (h : RowOk L sts r q) (x : Pat) : RowOk L (sts ++ [x]) r q := fun k c hk hc => by
  obtain ⟨l, h1, h2⟩ := h k c hk hc
  exact ⟨l, h1, lead_mono x h2⟩

/-- A state more. -/
theorem TInv.push {p : Pat} {L : List UInt8} {R sts : List Pat} {n m : Nat} {ends : List Bool} {tt : List (List (List Nat))} (h : TInv p L R sts n ends m tt) (hm : m ≤ sts.length) {x : Pat} (hx : x ∈ R) (hk : ∀ y, y ∈ sts → key y ≠ key x) : TInv p L R (sts ++ [x]) n ends m tt := by
  refine ⟨?_, ?_, ?_, ?_, ?_, h.lenT, ?_⟩
  · rw [List.getElem?_append_left ((List.getElem?_eq_some_iff.1 h.first).1)]; exact h.first
  · intro y hy
    rw [List.mem_append] at hy
    rcases hy with hy | hy
    · exact h.room y hy
    · simp only [List.mem_singleton] at hy; subst hy; exact hx
  · unfold KD
    rw [List.map_append, List.nodup_append]
    refine ⟨h.kd, by simp, ?_⟩
    intro a ha b hb
    simp only [List.map_cons, List.map_nil, List.mem_singleton] at hb
    subst hb
    obtain ⟨y, hy, rfl⟩ := List.mem_map.1 ha
    exact hk y hy
  · have := h.le; simp; omega
  · rw [List.take_append_of_le_length h.le]; exact h.ends
  · intro i q r hq hr
    have hi : i < m := by have := (List.getElem?_eq_some_iff.1 hr).1; have := h.lenT; omega
    rw [List.getElem?_append_left (by omega)] at hq
    obtain ⟨h1, h2⟩ := h.rows i q r hq hr
    exact ⟨h1, h2.mono x⟩

/-- An end more. -/
theorem TInv.endd {p : Pat} {L : List UInt8} {R sts : List Pat} {n m : Nat} {ends : List Bool} {tt : List (List (List Nat))} (h : TInv p L R sts n ends m tt) (hn : n < sts.length) : TInv p L R sts (n + 1) (ends ++ [empty sts[n]]) m tt := by
  refine ⟨h.first, h.room, h.kd, hn, ?_, h.lenT, h.rows⟩
  rw [List.take_succ_eq_append_getElem hn, List.map_append, ← h.ends]
  simp

/-- A row more. -/
theorem TInv.row {p : Pat} {L : List UInt8} {R sts : List Pat} {n m : Nat} {ends : List Bool} {tt : List (List (List Nat))} (h : TInv p L R sts n ends m tt) {q : Pat} (hq : sts[m]? = some q) {r : List (List Nat)} (hr : r.length = L.length) (ho : RowOk L sts r q) : TInv p L R sts n ends (m + 1) (tt ++ [r]) := by
  refine ⟨h.first, h.room, h.kd, h.le, h.ends, by simp [h.lenT], ?_⟩
  intro i q' r' hq' hr'
  by_cases hi : i < tt.length
  · rw [List.getElem?_append_left hi] at hr'; exact h.rows i q' r' hq' hr'
  · have h2 := (List.getElem?_eq_some_iff.1 hr').1
    have h3 : i = tt.length := by simp at h2; omega
    subst h3
    rw [h.lenT, hq] at hq'
    simp at hr'
    cases hq'
    subst hr'
    exact ⟨hr, ho⟩

theorem RowOk.snoc {L : List UInt8} {sts : List Pat} {r : List (List Nat)} {q : Pat} (h : RowOk L sts r q) {c : UInt8} (hc : L[r.length]? = some c) {l : List Nat} (hl : l.map (fun j => sts[j]?) = (behind q c).map some) : RowOk L sts (r ++ [l]) q := by
  intro k c' hk hc'
  by_cases hi : k < r.length
  · obtain ⟨l', h1, h2⟩ := h k c' hi hc'
    exact ⟨l', by rw [List.getElem?_append_left hi]; exact h1, h2⟩
  · have h3 : k = r.length := by simp at hk; omega
    subst h3
    rw [hc] at hc'
    cases hc'
    exact ⟨l, by simp, hl⟩

/-- The table that is done. -/
theorem TInv.done {p : Pat} {L : List UInt8} {R sts : List Pat} {ends : List Bool} {tt : List (List (List Nat))} (h : TInv p L R sts sts.length ends sts.length tt) (hR : ∀ x, x ∈ R → wf x) : TabOf p L ⟨tt, ends⟩ sts := by
  refine ⟨h.first, fun q hq => hR q (h.room q hq), h.lenT, ?_, ?_, ?_⟩
  · show ends.length = _
    rw [h.ends]; simp
  · intro i q hq
    show ends[i]? = _
    rw [h.ends, List.take_length, List.getElem?_map, hq]; rfl
  · intro i q hq
    have hi : i < tt.length := by have := (List.getElem?_eq_some_iff.1 hq).1; have := h.lenT; omega
    obtain ⟨h1, h2⟩ := h.rows i q tt[i] hq (by simp [hi])
    refine ⟨tt[i], by simp [hi], h1, fun k c hc => h2 k c ?_ hc⟩
    have := (List.getElem?_eq_some_iff.1 hc).1
    omega

end Ls

namespace Go.Proofs.YtfklinjaajafgaaGreatDoor
open Go.RowKit

/-- A slice shows some patterns; its row and theirs are in G. -/
def MV (w : World) (G : Nat → Prop) (v : Value) (qm : List (Ls.Pat × Value)) : Prop :=
  ((v = .slice Option.none 0 0 ∧ qm = []) ∨ ∃ g cap, G g ∧ v = .slice (some ⟨g, 0, Option.none⟩) qm.length cap ∧ ∀ i (h : i < qm.length), w.cell? ⟨g, i * 3, Option.none⟩ = some (.int .i64 qm[i].1.kind) ∧ w.cell? ⟨g, i * 3 + 1, Option.none⟩ = some (.string ⟨qm[i].1.signs.toArray⟩) ∧ w.cell? ⟨g, i * 3 + 2, Option.none⟩ = some qm[i].2) ∧
  ∀ q, q ∈ qm → PV w G q.1 q.2

theorem MV.mono {w w' : World} {G G' : Nat → Prop} (hw : ∀ k, G k → G' k ∧ w'.heap[k]? = w.heap[k]?) {v : Value} {qm : List (Ls.Pat × Value)} (h : MV w G v qm) : MV w' G' v qm := by
  refine ⟨?_, fun q hq => (h.2 q hq).mono2 hw⟩
  rcases h.1 with h | ⟨g, cap, hg, rfl, hc⟩
  · exact .inl h
  · refine .inr ⟨g, cap, (hw g hg).1, rfl, fun i hi => ?_⟩
    simp only [cell_of_block (hw g hg).2]
    exact hc i hi

theorem MV.shape {w : World} {G : Nat → Prop} {v : Value} {qm : List (Ls.Pat × Value)} (h : MV w G v qm) : ∃ ao cap, v = .slice ao qm.length cap ∧ (0 < qm.length → ∃ g, ao = some ⟨g, 0, Option.none⟩) := by
  rcases h.1 with ⟨rfl, rfl⟩ | ⟨g, cap, _, rfl, _⟩
  · exact ⟨_, _, rfl, by simp⟩
  · exact ⟨_, _, rfl, fun _ => ⟨g, rfl⟩⟩

theorem MV.cells {w : World} {G : Nat → Prop} {g n cap : Nat} {qm : List (Ls.Pat × Value)} (h : MV w G (.slice (some ⟨g, 0, Option.none⟩) n cap) qm) (i : Nat) (hi : i < qm.length) :
    w.cell? ⟨g, i * 3, Option.none⟩ = some (.int .i64 qm[i].1.kind) ∧ w.cell? ⟨g, i * 3 + 1, Option.none⟩ = some (.string ⟨qm[i].1.signs.toArray⟩) ∧ w.cell? ⟨g, i * 3 + 2, Option.none⟩ = some qm[i].2 := by
  rcases h.1 with ⟨e, _⟩ | ⟨g', cap', _, e, hc⟩
  · cases e
  · cases e; exact hc i hi

/-- What behind answers, beside some rows. -/
theorem behind_MV {W w' : World} {B : Nat} {vs : List Value} (hd : Dis B W vs) {p : Ls.Pat} {c : UInt8} {e : Ending} (h : BehindPost p c W (Fix W vs) e w') : ∃ v qm, e = .returned v ∧ qm.map (·.1) = Ls.behind p c ∧ MV w' (Fix w' vs) v qm ∧ Below W.heap.size W w' := by
  obtain ⟨v, qm, he, hq, lw, hb⟩ := h
  have new : ∀ k, W.heap.size ≤ k → k < w'.heap.size → Fix w' vs k := fun k h1 h2 => ⟨h2, fun u hu e => by have := (hd.lt u hu k e).2; omega⟩
  have m := (hd.below hb).2
  have up : ∀ k, GG (Fix W vs) W.heap.size w' v k → Fix w' vs k ∧ w'.heap[k]? = w'.heap[k]? := fun k hk => by
    refine ⟨?_, rfl⟩
    rcases hk.1 with h | h
    · exact (m k h).1
    · exact new k h hk.2.1
  refine ⟨v, qm, he, hq, ⟨?_, fun q hqm => (lw.each q hqm).mono2 up⟩, hb⟩
  rcases ownsRow_split lw.own with ⟨h1, h2⟩ | ⟨g, cap, rfl⟩
  · exact .inl ⟨h1, List.eq_nil_of_length_eq_zero h2⟩
  · have hg := lw.own.lt g rfl
    exact .inr ⟨g, cap, new g hg.1 hg.2, rfl, fun i hi => cells_at lw.own rfl i hi⟩

abbrev vs5 (ex : List Value) (vS vK vE vT : Value) (tb : Nat) : List Value := ex ++ [vS, vK, vE, vT, tbV tb]

/-- The rows of numbers that were made for one state so far. -/
def OW (w0 w : World) (vs : List Value) (ov : Value) (ll : List (List Nat)) : Prop :=
  ∃ xs : List Value, w.ownsRow w0.heap.size 75 1 ov xs.length xs ∧ xs.length = ll.length ∧ ∀ (i : Nat) (x : Value) (l : List Nat), xs[i]? = some x → ll[i]? = some l → IV w (FixB w0.heap.size w vs) x l

theorem OW.moved {w0 w w' : World} {vs vs' : List Value} {ov : Value} {ll : List (List Nat)} (h : OW w0 w vs ov ll) (m : Moved w w' vs vs') (hb : ∀ k, ov.ownBlock = some k → w'.heap[k]? = w.heap[k]?) : OW w0 w' vs' ov ll := by
  obtain ⟨xs, h1, h2, h3⟩ := h
  exact ⟨xs, ownsRow_same h1 hb, h2, fun i x l hx hl => (h3 i x l hx hl).mono2 (m.fixB _)⟩

/-- What is kept while the letters are gone through. -/
structure TK (w0 w : World) (tb : Nat) (vS vK vE vT ov : Value) (qs : List (Ls.Pat × Value)) (ends : List Bool) (tt : List (List (List Nat))) (ll : List (List Nat)) : Prop where
  ts : TS w0 w tb vS vK vE vT vT vE [ov] qs (qs.map fun q => Ls.key q.1) ends tt
  ow : OW w0 w (vs5 [ov] vS vK vE vT tb) ov ll

/-- What is kept while the patterns behind a letter are gone through. -/
structure TJ (w0 w : World) (tb : Nat) (vS vK vE vT ov lv vm : Value) (qs : List (Ls.Pat × Value)) (ks : List (List UInt8)) (ends : List Bool) (tt : List (List (List Nat))) (ll : List (List Nat)) (ns : List Nat) (qm : List (Ls.Pat × Value)) : Prop where
  ts : TS w0 w tb vS vK vE vT vT vE [lv, ov] qs ks ends tt
  ow : OW w0 w (vs5 [lv, ov] vS vK vE vT tb) ov ll
  lw : w.ownsRow w0.heap.size 3 1 lv ns.length (intsV ns)
  mv : MV w (Fix w (vs5 [lv, ov] vS vK vE vT tb)) vm qm

section
variable {w0 w w' : World} {tb : Nat} {vS vK vE vT ov lv vm : Value} {qs qm : List (Ls.Pat × Value)} {ks : List (List UInt8)} {ends : List Bool} {tt : List (List (List Nat))} {ll : List (List Nat)} {ns : List Nat}

theorem TK.below (h : TK w0 w tb vS vK vE vT ov qs ends tt ll) (hb : Below w.heap.size w w') : TK w0 w' tb vS vK vE vT ov qs ends tt ll :=
  ⟨h.ts.below hb, h.ow.moved (h.ts.dis.below hb).2 (fun k e => hb.block k (h.ts.dis.lt ov (by simp) k e).2)⟩

theorem TJ.below (h : TJ w0 w tb vS vK vE vT ov lv vm qs ks ends tt ll ns qm) (hb : Below w.heap.size w w') : TJ w0 w' tb vS vK vE vT ov lv vm qs ks ends tt ll ns qm :=
  ⟨h.ts.below hb, h.ow.moved (h.ts.dis.below hb).2 (fun k e => hb.block k (h.ts.dis.lt ov (by simp) k e).2), ownsRow_same h.lw (fun k e => hb.block k (h.ts.dis.lt lv (by simp) k e).2), h.mv.mono (h.ts.dis.below hb).2⟩

/-- A letter is begun. -/
theorem TK.open' (h : TK w0 w tb vS vK vE vT ov qs ends tt ll) (hm : MV w (Fix w (vs5 [ov] vS vK vE vT tb)) vm qm) : TJ w0 w tb vS vK vE vT ov (.slice Option.none 0 0) vm qs (qs.map fun q => Ls.key q.1) ends tt ll [] qm :=
  ⟨h.ts.push, h.ow.moved h.ts.dis.push.2 (fun _ _ => rfl), World.ownsRow_nil _ _ _ _, hm.mono h.ts.dis.push.2⟩

/-- A state more. -/
theorem TJ.state (h : TJ w0 w tb vS vK vE vT ov lv vm qs ks ends tt ll ns qm) {vS' : Value} {p : Ls.Pat} {y : Value} (hp : PV w (Fix w (vs5 [lv, ov] vS vK vE vT tb)) p y)
    (ha : Appd w w' w0.heap.size 27 3 vS vS' (qs.length + 1) (flat qs ++ patC p y)) : TJ w0 w' tb vS' vK vE vT ov lv vm (qs ++ [(p, y)]) ks ends tt ll ns qm := by
  obtain ⟨_, m, o⟩ := h.ts.dis.set (at0 [lv, ov] vS vK vE vT (tbV tb)) ha.grown ha.place (fun k e => ha.own.lt k e)
  exact ⟨h.ts.state hp ha, h.ow.moved m (o 1 ov (by simp) rfl), ownsRow_same h.lw (o 0 lv (by simp) rfl), h.mv.mono m⟩

/-- A key more. -/
theorem TJ.key (h : TJ w0 w tb vS vK vE vT ov lv vm qs ks ends tt ll ns qm) {vK' : Value} {ks' : List (List UInt8)} (hs : SV w' w0.heap.size vK' ks') (hg : w.grownBy w' vK.ownBlock) (hr : vK'.ownBlock = vK.ownBlock ∨ ∃ k, vK'.ownBlock = some k ∧ w.heap.size ≤ k) :
    TJ w0 w' tb vS vK' vE vT ov lv vm qs ks' ends tt ll ns qm := by
  obtain ⟨_, m, o⟩ := h.ts.dis.set (at1 [lv, ov] vS vK vE vT (tbV tb)) hg hr (fun k e => hs.own.lt k e)
  exact ⟨h.ts.key hs hg hr, h.ow.moved m (o 1 ov (by simp) rfl), ownsRow_same h.lw (o 0 lv (by simp) rfl), h.mv.mono m⟩

/-- A number more. -/
theorem TJ.number (h : TJ w0 w tb vS vK vE vT ov lv vm qs ks ends tt ll ns qm) {lv' : Value} {n : Nat} (ha : Appd w w' w0.heap.size 3 1 lv lv' (ns.length + 1) (intsV ns ++ [.int .i64 n])) :
    TJ w0 w' tb vS vK vE vT ov lv' vm qs ks ends tt ll (ns ++ [n]) qm := by
  obtain ⟨_, m, o⟩ := h.ts.dis.set (i := 0) (v := lv) rfl ha.grown ha.place (fun k e => ha.own.lt k e)
  exact ⟨(h.ts.grow ha.grown ha.place (fun k e => ha.own.lt k e)).1, h.ow.moved m (o 1 ov (by simp) rfl), by rw [show intsV (ns ++ [n]) = intsV ns ++ [.int .i64 n] by simp, List.length_append]; exact ha.own, h.mv.mono m⟩

/-- The letter is done: the row of numbers is one of the rows. -/
theorem TJ.close (h : TJ w0 w tb vS vK vE vT ov lv vm qs (qs.map fun q => Ls.key q.1) ends tt ll ns qm) : TK w0 w tb vS vK vE vT ov qs ends tt ll ∧ IV w (FixB w0.heap.size w (vs5 [ov] vS vK vE vT tb)) lv ns := by
  obtain ⟨t, m, f⟩ := h.ts.pop
  refine ⟨⟨t, h.ow.moved m (fun _ _ => rfl)⟩, VV.ints (VV.of_own (e := 3) (base := w0.heap.size) (by have := h.lw; rw [show ns.length = (intsV ns).length by simp] at this; exact this) f)⟩

/-- A row of numbers more. -/
theorem TK.more (h : TK w0 w tb vS vK vE vT ov qs ends tt ll) {ov' x : Value} {l : List Nat} (hx : IV w (FixB w0.heap.size w (vs5 [ov] vS vK vE vT tb)) x l)
    (ha : ∀ xs : List Value, w.ownsRow w0.heap.size 75 1 ov xs.length xs → xs.length = ll.length → Appd w w' w0.heap.size 75 1 ov ov' (xs.length + 1) (xs ++ [x])) :
    TK w0 w' tb vS vK vE vT ov' qs ends tt (ll ++ [l]) := by
  obtain ⟨xs, r1, r2, r3⟩ := h.ow
  have ha := ha xs r1 r2
  obtain ⟨_, m, _⟩ := h.ts.dis.set (i := 0) (v := ov) rfl ha.grown ha.place (fun k e => ha.own.lt k e)
  refine ⟨(h.ts.grow ha.grown ha.place (fun k e => ha.own.lt k e)).1, ⟨xs ++ [x], by rw [List.length_append]; exact ha.own, by simp [r2], ?_⟩⟩
  intro i y l' hy hl'
  by_cases hi : i < xs.length
  · rw [List.getElem?_append_left hi] at hy
    rw [List.getElem?_append_left (by omega)] at hl'
    exact (r3 i y l' hy hl').mono2 (m.fixB _)
  · have hi2 : i < (xs ++ [x]).length := (List.getElem?_eq_some_iff.1 hy).1
    have hi3 : i = xs.length := by simp at hi2; omega
    subst hi3
    rw [r2] at hl'
    simp at hy hl'
    subst hy hl'
    exact hx.mono2 (m.fixB _)

/-- The state's rows are done. -/
theorem TK.close (h : TK w0 w tb vS vK vE vT ov qs ends tt ll) : TS w0 w tb vS vK vE vT vT vE [] qs (qs.map fun q => Ls.key q.1) ends tt ∧ II w (FixB w0.heap.size w (vs5 [] vS vK vE vT tb)) ov ll := by
  obtain ⟨t, m, f⟩ := h.ts.pop
  obtain ⟨xs, r1, r2, r3⟩ := h.ow
  exact ⟨t, ⟨xs, VV.of_own r1 f, r2, fun i x l hx hl => (r3 i x l hx hl).mono2 (m.fixB _)⟩⟩

theorem TK.start (h : TS w0 w tb vS vK vE vT vT vE [] qs (qs.map fun q => Ls.key q.1) ends tt) : TK w0 w tb vS vK vE vT (.slice Option.none 0 0) qs ends tt [] :=
  ⟨h.push, ⟨[], World.ownsRow_nil _ _ _ _, rfl, by simp⟩⟩
end

end Go.Proofs.YtfklinjaajafgaaGreatDoor

/- The search through pairs of states in plain mathematics. -/
namespace Ls

theorem behind_KD (p : Pat) (hp : wf p) (c : UInt8) : KD (behind p c) := by
  refine ind (P := fun p => KD (behind p c)) ?_ ?_ ?_ ?_ ?_ p hp
  · rw [behind_none]; exact KD_nil
  · intro s _; rw [behind_set]; split
    · simp [KD]
    · exact KD_nil
  · intro a b _ _ _ _ _ _
    rw [behind_rowB]
    split
    · exact KD_putAll (KD_putAll KD_nil _) _
    · exact KD_putAll KD_nil _
  · intro a b _ _ ha _; rw [behind_any]; exact KD_putAll ha _
  · intro a _ _; rw [behind_star]; exact KD_putAll KD_nil _

/-- Where state i leads by letter k. -/
def Tab.row (t : Tab) (i k : Nat) : List Nat := match t.to[i]? with
  | .none => []
  | some r => match r[k]? with
    | .none => []
    | some l => l

theorem Tab.mem_row (t : Tab) (i k j : Nat) : j ∈ t.row i k ↔ t.go i k j := by
  unfold Tab.row Tab.go
  cases h1 : t.to[i]? with
  | none => simp
  | some r =>
    cases h2 : r[k]? with
    | none => simp [h2]
    | some l => simp [h2]

theorem TabOf.row_lt {p : Pat} {L : List UInt8} {t : Tab} {sts : List Pat} (h : TabOf p L t sts) {i k : Nat} (hi : i < sts.length) (hk : k < L.length) : ∀ j, j ∈ t.row i k → j < sts.length := by
  intro j hj
  rw [Tab.mem_row] at hj
  obtain ⟨q', h1, _⟩ := h.fwd (List.getElem?_eq_getElem hi) hk hj
  exact (List.getElem?_eq_some_iff.1 h1).1

theorem TabOf.row_length {p : Pat} {L : List UInt8} {t : Tab} {sts : List Pat} (h : TabOf p L t sts) {R : List Pat} (hR : Room R) (hs : ∀ x, x ∈ sts → x ∈ R) {i k : Nat} (hi : i < sts.length) (hk : k < L.length) : (t.row i k).length ≤ R.length := by
  obtain ⟨r, h1, _, h3⟩ := h.row i sts[i] (List.getElem?_eq_getElem hi)
  obtain ⟨l, h4, h5⟩ := h3 k L[k] (List.getElem?_eq_getElem hk)
  have h6 : t.row i k = l := by unfold Tab.row; rw [h1]; dsimp only; rw [h4]
  have hm : sts[i] ∈ R := hs _ (List.getElem_mem hi)
  have h7 := congrArg List.length h5
  simp only [List.length_map] at h7
  rw [h6, h7]
  exact KD_length (behind_KD _ (hR.ok _ hm).1 _) (fun x hx => hR.closed _ hm _ x hx)

end Ls

namespace Go.Proofs.YtfklinjaajafgaaGreatDoor


theorem addP_mem (l : List Ls.Pr) (x y : Ls.Pr) : y ∈ addP l x ↔ y ∈ l ∨ y = x := by
  unfold addP
  split
  · rename_i h
    constructor
    · exact .inl
    · rintro (h1 | rfl)
      · exact h1
      · exact h
  · simp
theorem addAll_mem (l m : List Ls.Pr) (y : Ls.Pr) : y ∈ addAll l m ↔ y ∈ l ∨ y ∈ m := by
  induction m generalizing l with
  | nil => simp [addAll]
  | cons x m ih =>
    show y ∈ addAll (addP l x) m ↔ _
    rw [ih, addP_mem]
    simp only [List.mem_cons]
    constructor
    · rintro ((h | h) | h)
      · exact .inl h
      · exact .inr (.inl h)
      · exact .inr (.inr h)
    · rintro (h | h | h)
      · exact .inl (.inl h)
      · exact .inl (.inr h)
      · exact .inr h
theorem addP_nodup {l : List Ls.Pr} (h : l.Nodup) (x : Ls.Pr) : (addP l x).Nodup := by
  unfold addP
  split
  · exact h
  · rename_i hn
    rw [List.nodup_append]
    refine ⟨h, by simp, ?_⟩
    intro a ha b hb
    simp only [List.mem_singleton] at hb
    subst hb
    rintro rfl
    exact hn ha
theorem addAll_nodup {l : List Ls.Pr} (h : l.Nodup) (m : List Ls.Pr) : (addAll l m).Nodup := by
  induction m generalizing l with
  | nil => exact h
  | cons x m ih => exact ih (addP_nodup h x)
theorem addP_pre (l : List Ls.Pr) (x : Ls.Pr) : l <+: addP l x := by
  unfold addP
  split
  · exact List.prefix_refl _
  · exact List.prefix_append _ _
theorem addAll_pre (l m : List Ls.Pr) : l <+: addAll l m := by
  induction m generalizing l with
  | nil => exact List.prefix_refl _
  | cons x m ih => exact (addP_pre l x).trans (ih _)

/-- All pairs below a number. -/
def allPr (N : Nat) : List Ls.Pr := [0, 1, 2].flatMap fun ph => (List.range N).flatMap fun x => (List.range N).map fun y => (ph, x, y)
theorem flatMap_len {α : Type} (l : List α) (f : α → List Ls.Pr) (n : Nat) (h : ∀ a, (f a).length = n) : (l.flatMap f).length = l.length * n := by
  induction l with
  | nil => simp
  | cons x l ih => rw [List.flatMap_cons, List.length_append, ih, h]; simp [Nat.add_mul]; omega
theorem allPr_length (N : Nat) : (allPr N).length = 3 * (N * N) := by
  unfold allPr
  rw [flatMap_len _ _ (N * N) (fun ph => by rw [flatMap_len _ _ N (fun x => by simp)]; simp)]
  rfl
theorem inR_length {N : Nat} {l : List Ls.Pr} (h : l.Nodup) (hr : ∀ a, a ∈ l → (a.1 = 0 ∨ a.1 = 1 ∨ a.1 = 2) ∧ a.2.1 < N ∧ a.2.2 < N) : l.length ≤ 3 * (N * N) := by
  rw [← allPr_length]
  refine Ls.nodup_le _ _ h (fun a ha => ?_)
  obtain ⟨h1, h2, h3⟩ := hr a ha
  obtain ⟨p, x, y⟩ := a
  unfold allPr
  simp only [List.mem_flatMap, List.mem_map, List.mem_range]
  refine ⟨p, ?_, x, h2, y, h3, rfl⟩
  simp only at h1
  rcases h1 with rfl | rfl | rfl <;> simp

/-- The search so far: the first i pairs are done. -/
structure BF (E : Ls.Pr → Ls.Pr → Prop) (A I : Ls.Pr → Prop) (ps : List Ls.Pr) (i : Nat) : Prop where
  le : i ≤ ps.length
  first : (0, 0, 0) ∈ ps
  sound : Ls.Sound E A ps
  nodup : ps.Nodup
  inR : ∀ a, a ∈ ps → I a
  closed : ∀ j (h : j < ps.length), j < i → ∀ b, E ps[j] b → b ∈ ps
  none : ∀ j (h : j < ps.length), j < i → ¬ A ps[j]

theorem BF.start (E : Ls.Pr → Ls.Pr → Prop) (A : Ls.Pr → Prop) {I : Ls.Pr → Prop} (hI : I (0, 0, 0)) : BF E A I [(0, 0, 0)] 0 := by
  refine ⟨by simp, by simp, ?_, by simp, ?_, fun j _ h => by omega, fun j _ h => by omega⟩
  · intro a ha h
    simp only [List.mem_singleton] at ha
    subst ha; exact h
  · intro a ha
    simp only [List.mem_singleton] at ha
    subst ha
    exact hI

theorem BF.length {E : Ls.Pr → Ls.Pr → Prop} {A I : Ls.Pr → Prop} {ps : List Ls.Pr} {i : Nat} (h : BF E A I ps i) {N : Nat} (hI : ∀ a, I a → (a.1 = 0 ∨ a.1 = 1 ∨ a.1 = 2) ∧ a.2.1 < N ∧ a.2.2 < N) : ps.length ≤ 3 * (N * N) := inR_length h.nodup (fun a ha => hI a (h.inR a ha))

/-- Some of what the pair i leads to was added. -/
theorem BF.part {E : Ls.Pr → Ls.Pr → Prop} {A I : Ls.Pr → Prop} {ps : List Ls.Pr} {i : Nat} (h : BF E A I ps i) (hi : i < ps.length) {m : List Ls.Pr} (hm : ∀ b, b ∈ m → E ps[i] b) (hr : ∀ b, E ps[i] b → I b) {N : Nat} (hI : ∀ a, I a → (a.1 = 0 ∨ a.1 = 1 ∨ a.1 = 2) ∧ a.2.1 < N ∧ a.2.2 < N) : (addAll ps m).length ≤ 3 * (N * N) := by
  refine inR_length (addAll_nodup h.nodup m) (fun a ha => hI a ?_)
  rw [addAll_mem] at ha
  rcases ha with ha | ha
  · exact h.inR a ha
  · exact hr a (hm a ha)

theorem pre_get {ps qs : List Ls.Pr} (h : ps <+: qs) {j : Nat} (hj : j < ps.length) : ∃ hq : j < qs.length, qs[j] = ps[j] := by
  obtain ⟨t, rfl⟩ := h
  exact ⟨by simp; omega, by rw [List.getElem_append_left hj]⟩

/-- The pair i is done. -/
theorem BF.next {E : Ls.Pr → Ls.Pr → Prop} {A I : Ls.Pr → Prop} {ps : List Ls.Pr} {i : Nat} (h : BF E A I ps i) (hi : i < ps.length) {m : List Ls.Pr} (hm : ∀ b, b ∈ m ↔ E ps[i] b) (hr : ∀ b, E ps[i] b → I b) (hA : ¬ A ps[i]) : BF E A I (addAll ps m) (i + 1) := by
  have hp := addAll_pre ps m
  have hle : ps.length ≤ (addAll ps m).length := hp.length_le
  have key : ∀ j (_ : j < (addAll ps m).length), j < i + 1 → ∃ hq : j < ps.length, (addAll ps m)[j] = ps[j] := fun j hj hji => by
    have hq : j < ps.length := by omega
    obtain ⟨h1, h2⟩ := pre_get hp hq
    exact ⟨hq, h2⟩
  refine ⟨by omega, ?_, ?_, addAll_nodup h.nodup m, ?_, ?_, ?_⟩
  · rw [addAll_mem]; exact .inl h.first
  · intro a ha hh
    rw [addAll_mem] at ha
    rcases ha with ha | ha
    · exact h.sound a ha hh
    · obtain ⟨n, hn⟩ := hh
      exact h.sound ps[i] (List.getElem_mem hi) ⟨n + 1, a, (hm a).1 ha, hn⟩
  · intro a ha
    rw [addAll_mem] at ha
    rcases ha with ha | ha
    · exact h.inR a ha
    · exact hr a ((hm a).1 ha)
  · intro j hj hji b hb
    obtain ⟨hq, e⟩ := key j hj hji
    rw [e] at hb
    rw [addAll_mem]
    rcases Nat.lt_or_ge j i with h1 | h1
    · exact .inl (h.closed j hq h1 b hb)
    · have : j = i := by omega
      subst this
      exact .inr ((hm b).2 hb)
  · intro j hj hji
    obtain ⟨hq, e⟩ := key j hj hji
    rw [e]
    rcases Nat.lt_or_ge j i with h1 | h1
    · exact h.none j hq h1
    · have : j = i := by omega
      subst this
      exact hA

/-- Nothing is found. -/
theorem BF.done {E : Ls.Pr → Ls.Pr → Prop} {A I : Ls.Pr → Prop} {ps : List Ls.Pr} (h : BF E A I ps ps.length) : ¬ ∃ n, Ls.Hit E A n (0, 0, 0) := by
  rintro ⟨n, hn⟩
  refine Ls.hit_none (l := ps) ?_ ?_ n (0, 0, 0) h.first hn
  · intro a ha b hb
    obtain ⟨j, hj, rfl⟩ := List.getElem_of_mem ha
    exact h.closed j hj hj b hb
  · intro a ha
    obtain ⟨j, hj, rfl⟩ := List.getElem_of_mem ha
    exact h.none j hj hj

/-- One is found. -/
theorem BF.found {E : Ls.Pr → Ls.Pr → Prop} {A I : Ls.Pr → Prop} {ps : List Ls.Pr} {i : Nat} (h : BF E A I ps i) (hi : i < ps.length) (hA : A ps[i]) : ∃ n, Ls.Hit E A n (0, 0, 0) := h.sound ps[i] (List.getElem_mem hi) ⟨0, hA⟩

end Go.Proofs.YtfklinjaajafgaaGreatDoor
