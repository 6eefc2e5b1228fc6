import Derived.Test.YtbdjchmnahjjlaaDoorLsC
namespace Go.Proofs.YtbdjchmnahjjlaaDoor
open Go.RowKit

/-- 'string([]byte)b' of one byte. -/
theorem run_conv1 (w : World) (b c : Nat) (n : Int) (h : w.cell? ⟨b, 0, Option.none⟩ = some (.int .u8 n)) :
    (convert 98 9 (.slice (some ⟨b, 0, Option.none⟩) 1 c)).run Tryd.prog w = .ok (.string ⟨#[UInt8.ofNat n.toNat]⟩) w := by
  rw [run_convert_bytes_string w 98 9 5 _ _ _ Tryd.underlying98 Tryd.underlying5 Tryd.underlying9]
  rw [run_bytesToString w _ 1 c [n] (by
    have := run_loadCells_list (P := Tryd.prog) w ⟨b, 0, Option.none⟩ [.int .u8 n] (by
      intro j v hj
      match j, hj with
      | 0, hj => simp at hj; subst hj; exact h)
    simpa using this)]
  rfl

/-- What key answers of p, wherever p is shown. -/
def KeySaid (p : Ls.Pat) : Prop := (Ls.key p).length ≤ 4611686018427387904 → ∀ (y : Value) (w : World) (G : Nat → Prop), Old w G → PV w G p y →
    Calls Tryd.prog 38 #[patA p y] w fun e w' => e = .returned (.string ⟨(Ls.key p).toArray⟩) ∧ Below w.heap.size w w'

/-- A cell of an old block, two steps later. -/
theorem cellg {w W w1 : World} (hw : Below w.heap.size w W) (hb : Below W.heap.size W w1) {g : Nat} (hg : g < w.heap.size) : ∀ o, w1.cell? ⟨g, o, Option.none⟩ = w.cell? ⟨g, o, Option.none⟩ := fun o =>
  (hb.cell (p := ⟨g, o, Option.none⟩) (Nat.lt_of_lt_of_le hg hw.size)).trans (hw.cell (p := ⟨g, o, Option.none⟩) hg)

theorem Below.join {a b c : World} (h : Below a.heap.size a b) (k : Below b.heap.size b c) : Below a.heap.size a c := h.trans (k.mono h.size)

theorem ret_string {a b : ByteArray} (h : a.data.toList = b.data.toList) : Ending.returned (.string a) = .returned (.string b) := by
  rw [show a = b from ByteArray.ext (Array.toList_inj.1 h)]

set_option maxRecDepth 100000 in
set_option maxHeartbeats 400000 in
theorem key_none : KeySaid Ls.none := by
  intro hk y w G hG hp
  have hy : y = .slice Option.none 0 0 := hp
  subst hy
  clear hk hp
  show Calls _ _ #[.agg #[.int .i64 0, .string ⟨#[]⟩, .slice Option.none 0 0]] w _
  have hcv := run_conv1
  go_enter Tryd.func38, Tryd.ntmps38
  go_wp2_with fail
  refine wp_loop_rounds 1 ?_
  rw [rounds_succ]
  go_wp2_with fail
  go_ret
  refine ⟨ret_string ?_, below_alloc2 _ _ _⟩
  simp [Ls.key, Ls.none]

set_option maxRecDepth 100000 in
set_option maxHeartbeats 400000 in
theorem key_set (s : List UInt8) : KeySaid (Ls.set s) := by
  intro hk y w G hG hp
  have hy : y = .slice Option.none 0 0 := hp
  subst hy
  have hs : s.length ≤ 4611686018427387904 := by simp [Ls.set, Ls.key] at hk; omega
  clear hk hp
  show Calls _ _ #[.agg #[.int .i64 1, .string ⟨s.toArray⟩, .slice Option.none 0 0]] w _
  have hcv := run_conv1
  go_enter Tryd.func38, Tryd.ntmps38
  go_wp2_with fail
  refine wp_loop_rounds 1 ?_
  rw [rounds_succ]
  go_wp2_with fail
  go_ret
  refine ⟨ret_string ?_, below_alloc2 _ _ _⟩
  simp [Ls.key, Ls.set]

set_option maxRecDepth 100000 in
set_option maxHeartbeats 400000 in
theorem key_star (a : Ls.Pat) (ha : KeySaid a) : KeySaid (Ls.star a) := by
  intro hk sl w G hG hp
  obtain ⟨g, y, hg, rfl, hl, h1⟩ := hp
  have hgl := hl.lt
  obtain ⟨c0, c1, c2⟩ := hl.three
  have hs : (Ls.key a).length ≤ 4611686018427387901 := by simp [Ls.star, Ls.key] at hk; omega
  clear hk hg
  show Calls _ _ #[.agg #[.int .i64 4, .string ⟨#[]⟩, .slice (some ⟨g, 0, Option.none⟩) 1 1]] w _
  have hcv := run_conv1
  go_enter Tryd.func38, Tryd.ntmps38
  go_wp2_with fail
  refine wp_loop_rounds 2 ?_
  rw [rounds_succ]
  go_wp2_with fail
  refine (ha (by omega) y _ G (Old.alloc (Old.alloc hG _) _) (h1.below (below_alloc2 _ _ _) hG fun _ h => h)).mono ?_
  rintro e w1 ⟨rfl, hb1⟩
  obtain ⟨d1, d2⟩ := bcell hb1
  have d3 := cellg (below_alloc2 _ _ _) hb1 hgl
  clear hcv
  go_wp2_with fail
  rw [rounds_succ]
  go_wp2_with fail
  go_ret
  refine ⟨ret_string ?_, Below.join (below_alloc2 _ _ _) hb1⟩
  simp [Ls.key, Ls.star]

set_option maxRecDepth 100000 in
set_option maxHeartbeats 400000 in
theorem key_rowB (a b : Ls.Pat) (ha : KeySaid a) (hb : KeySaid b) : KeySaid (Ls.rowB a b) := by
  intro hk sl w G hG hp
  obtain ⟨g, y, z, hg, rfl, hl, h1, h2⟩ := hp
  have hgl := hl.lt
  obtain ⟨c0, c1, c2, c3, c4, c5⟩ := hl.six
  have hs : (Ls.key a).length + (Ls.key b).length ≤ 4611686018427387901 := by simp [Ls.rowB, Ls.key] at hk; omega
  clear hk hg
  show Calls _ _ #[.agg #[.int .i64 2, .string ⟨#[]⟩, .slice (some ⟨g, 0, Option.none⟩) 2 2]] w _
  have hcv := run_conv1
  go_enter Tryd.func38, Tryd.ntmps38
  go_wp2_with fail
  refine wp_loop_rounds 3 ?_
  rw [rounds_succ]
  go_wp2_with fail
  refine (ha (by omega) y _ G (Old.alloc (Old.alloc hG _) _) (h1.below (below_alloc2 _ _ _) hG fun _ h => h)).mono ?_
  rintro e w1 ⟨rfl, hb1⟩
  obtain ⟨d1, d2⟩ := bcell hb1
  have d3 := cellg (below_alloc2 _ _ _) hb1 hgl
  clear hcv
  go_wp2_with fail
  rw [rounds_succ]
  go_wp2_with fail
  refine (hb (by omega) z _ G (Old.below (Old.alloc (Old.alloc hG _) _) hb1) ((h2.below (below_alloc2 _ _ _) hG fun _ h => h).below hb1 (Old.alloc (Old.alloc hG _) _) fun _ h => h)).mono ?_
  rintro e w2 ⟨rfl, hb2⟩
  have hz := hb1.size
  simp at hz
  have hz1 : w.heap.size < w1.heap.size := by omega
  obtain ⟨e1, e2⟩ := bcell hb2
  go_wp2_with fail
  rw [rounds_succ]
  go_wp2_with fail
  go_ret
  refine ⟨ret_string ?_, Below.join (Below.join (below_alloc2 _ _ _) hb1) hb2⟩
  simp [Ls.key, Ls.rowB]

set_option maxRecDepth 100000 in
set_option maxHeartbeats 400000 in
theorem key_or (a b : Ls.Pat) (ha : KeySaid a) (hb : KeySaid b) : KeySaid (Ls.any a b) := by
  intro hk sl w G hG hp
  obtain ⟨g, y, z, hg, rfl, hl, h1, h2⟩ := hp
  have hgl := hl.lt
  obtain ⟨c0, c1, c2, c3, c4, c5⟩ := hl.six
  have hs : (Ls.key a).length + (Ls.key b).length ≤ 4611686018427387901 := by simp [Ls.any, Ls.key] at hk; omega
  clear hk hg
  show Calls _ _ #[.agg #[.int .i64 3, .string ⟨#[]⟩, .slice (some ⟨g, 0, Option.none⟩) 2 2]] w _
  have hcv := run_conv1
  go_enter Tryd.func38, Tryd.ntmps38
  go_wp2_with fail
  refine wp_loop_rounds 3 ?_
  rw [rounds_succ]
  go_wp2_with fail
  refine (ha (by omega) y _ G (Old.alloc (Old.alloc hG _) _) (h1.below (below_alloc2 _ _ _) hG fun _ h => h)).mono ?_
  rintro e w1 ⟨rfl, hb1⟩
  obtain ⟨d1, d2⟩ := bcell hb1
  have d3 := cellg (below_alloc2 _ _ _) hb1 hgl
  clear hcv
  go_wp2_with fail
  rw [rounds_succ]
  go_wp2_with fail
  refine (hb (by omega) z _ G (Old.below (Old.alloc (Old.alloc hG _) _) hb1) ((h2.below (below_alloc2 _ _ _) hG fun _ h => h).below hb1 (Old.alloc (Old.alloc hG _) _) fun _ h => h)).mono ?_
  rintro e w2 ⟨rfl, hb2⟩
  have hz := hb1.size
  simp at hz
  have hz1 : w.heap.size < w1.heap.size := by omega
  obtain ⟨e1, e2⟩ := bcell hb2
  go_wp2_with fail
  rw [rounds_succ]
  go_wp2_with fail
  go_ret
  refine ⟨ret_string ?_, Below.join (Below.join (below_alloc2 _ _ _) hb1) hb2⟩
  simp [Ls.key, Ls.any]

theorem key_any (p : Ls.Pat) (h : Ls.wf p) : KeySaid p :=
  Ls.ind key_none (fun s _ => key_set s) (fun a b _ _ _ _ => key_rowB a b) (fun a b _ _ => key_or a b) (fun a _ => key_star a) p h

end Go.Proofs.YtbdjchmnahjjlaaDoor
