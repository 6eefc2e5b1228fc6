import Derived.Test.YtbdjchmnahjjlaaDoorLsB
namespace Go.Proofs.YtbdjchmnahjjlaaDoor
open Go.RowKit

/-- The cells of a block of two patterns. -/
theorem Lies.six {w : World} {g : Nat} {a b : Ls.Pat} {y z : Value} (h : Lies w g (patC a y ++ patC b z)) :
    w.cell? ⟨g, 0, Option.none⟩ = some (.int .i64 a.kind) ∧ w.cell? ⟨g, 1, Option.none⟩ = some (.string ⟨a.signs.toArray⟩) ∧ w.cell? ⟨g, 2, Option.none⟩ = some y ∧
    w.cell? ⟨g, 3, Option.none⟩ = some (.int .i64 b.kind) ∧ w.cell? ⟨g, 4, Option.none⟩ = some (.string ⟨b.signs.toArray⟩) ∧ w.cell? ⟨g, 5, Option.none⟩ = some z :=
  ⟨h.cell 0, h.cell 1, h.cell 2, h.cell 3, h.cell 4, h.cell 5⟩

theorem Lies.three {w : World} {g : Nat} {a : Ls.Pat} {y : Value} (h : Lies w g (patC a y)) :
    w.cell? ⟨g, 0, Option.none⟩ = some (.int .i64 a.kind) ∧ w.cell? ⟨g, 1, Option.none⟩ = some (.string ⟨a.signs.toArray⟩) ∧ w.cell? ⟨g, 2, Option.none⟩ = some y :=
  ⟨h.cell 0, h.cell 1, h.cell 2⟩

theorem bcell {W w1 : World} (hb : Below W.heap.size W w1) : (∀ b o, b < W.heap.size → w1.cell? ⟨b, o, Option.none⟩ = W.cell? ⟨b, o, Option.none⟩) ∧ (∀ b o, b < W.heap.size → w1.frozen? ⟨b, o, Option.none⟩ = W.frozen? ⟨b, o, Option.none⟩) :=
  ⟨fun b o h => hb.cell (p := ⟨b, o, Option.none⟩) h, fun b o h => hb.frozen (p := ⟨b, o, Option.none⟩) h⟩

theorem Old.alloc {w : World} {G : Nat → Prop} (h : Old w G) (o : Obj) : Old (w.alloc o) G := fun k hk => by have := h k hk; simp; omega
theorem Old.below {w w' : World} {G : Nat → Prop} {B : Nat} (h : Old w G) (hb : Below B w w') : Old w' G := fun k hk => by have := h k hk; have := hb.size; omega

/-- What Empty answers of p, wherever p is shown. -/
def EmptySaid (p : Ls.Pat) : Prop := ∀ (y : Value) (w : World) (G : Nat → Prop), Old w G → PV w G p y →
    Calls Tryd.prog 20 #[patA p y] w fun e w' => e = .returned (.bool (Ls.empty p)) ∧ Below w.heap.size w w'

set_option maxHeartbeats 400000 in
theorem empty_none : EmptySaid Ls.none := by
  intro y w G hG hp
  clear hp hG
  show Calls _ _ #[.agg #[.int .i64 0, .string ⟨#[]⟩, y]] w _
  go_enter Tryd.func20, Tryd.ntmps20
  go_wp2_with fail
  go_ret
  exact ⟨rfl, below_alloc1 _ _⟩

set_option maxHeartbeats 400000 in
theorem empty_set (s : List UInt8) : EmptySaid (Ls.set s) := by
  intro y w G hG hp
  clear hp hG
  show Calls _ _ #[.agg #[.int .i64 1, .string ⟨s.toArray⟩, y]] w _
  go_enter Tryd.func20, Tryd.ntmps20
  go_wp2_with fail
  go_ret
  exact ⟨rfl, below_alloc1 _ _⟩

set_option maxHeartbeats 400000 in
theorem empty_star (a : Ls.Pat) : EmptySaid (Ls.star a) := by
  intro y w G hG hp
  clear hp hG
  show Calls _ _ #[.agg #[.int .i64 4, .string ⟨#[]⟩, y]] w _
  go_enter Tryd.func20, Tryd.ntmps20
  go_wp2_with fail
  go_ret
  exact ⟨rfl, below_alloc1 _ _⟩

set_option maxHeartbeats 400000 in
theorem empty_rowB (a b : Ls.Pat) (ha : EmptySaid a) (hb : EmptySaid b) : EmptySaid (Ls.rowB a b) := by
  intro sl w G hG hp
  obtain ⟨g, y, z, hg, rfl, hl, h1, h2⟩ := hp
  have hgl := hl.lt
  obtain ⟨c0, c1, c2, c3, c4, c5⟩ := hl.six
  clear hg
  show Calls _ _ #[.agg #[.int .i64 2, .string ⟨#[]⟩, .slice (some ⟨g, 0, Option.none⟩) 2 2]] w _
  go_enter Tryd.func20, Tryd.ntmps20
  go_wp2_with fail
  refine (ha y _ G (Old.alloc hG _) (h1.below (below_alloc1 _ _) hG fun _ h => h)).mono ?_
  rintro e w1 ⟨rfl, hb1⟩
  obtain ⟨d1, d2⟩ := bcell hb1
  go_wp2_with fail
  refine (hb z _ G (Old.below (Old.alloc hG _) hb1) ((h2.below (below_alloc1 _ _) hG fun _ h => h).below hb1 (Old.alloc hG _) fun _ h => h)).mono ?_
  rintro e w2 ⟨rfl, hb2⟩
  go_wp2_with fail
  all_goals
    go_ret
    refine ⟨ret_bool (by simp [Ls.empty, Ls.rowB, *]), ((below_alloc1 _ _).trans (hb1.mono (by simp))).trans (hb2.mono ?_)⟩
    have := hb1.size; simp at this; omega

set_option maxHeartbeats 400000 in
theorem empty_or (a b : Ls.Pat) (ha : EmptySaid a) (hb : EmptySaid b) : EmptySaid (Ls.any a b) := by
  intro sl w G hG hp
  obtain ⟨g, y, z, hg, rfl, hl, h1, h2⟩ := hp
  have hgl := hl.lt
  obtain ⟨c0, c1, c2, c3, c4, c5⟩ := hl.six
  clear hg
  show Calls _ _ #[.agg #[.int .i64 3, .string ⟨#[]⟩, .slice (some ⟨g, 0, Option.none⟩) 2 2]] w _
  go_enter Tryd.func20, Tryd.ntmps20
  go_wp2_with fail
  refine (ha y _ G (Old.alloc hG _) (h1.below (below_alloc1 _ _) hG fun _ h => h)).mono ?_
  rintro e w1 ⟨rfl, hb1⟩
  obtain ⟨d1, d2⟩ := bcell hb1
  go_wp2_with fail
  refine (hb z _ G (Old.below (Old.alloc hG _) hb1) ((h2.below (below_alloc1 _ _) hG fun _ h => h).below hb1 (Old.alloc hG _) fun _ h => h)).mono ?_
  rintro e w2 ⟨rfl, hb2⟩
  go_wp2_with fail
  all_goals
    go_ret
    refine ⟨ret_bool (by simp [Ls.empty, Ls.any, *]), ((below_alloc1 _ _).trans (hb1.mono (by simp))).trans (hb2.mono ?_)⟩
    have := hb1.size; simp at this; omega

theorem empty_any (p : Ls.Pat) (h : Ls.wf p) : EmptySaid p :=
  Ls.ind empty_none (fun s _ => empty_set s) (fun a b _ _ _ _ => empty_rowB a b) (fun a b _ _ => empty_or a b) (fun a _ _ => empty_star a) p h

end Go.Proofs.YtbdjchmnahjjlaaDoor
