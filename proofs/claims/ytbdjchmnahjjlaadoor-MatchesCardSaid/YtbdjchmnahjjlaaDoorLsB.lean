import Derived.Test.YtbdjchmnahjjlaaDoorLsA
import Derived.Handy
namespace Go.Proofs.YtbdjchmnahjjlaaDoor
open Go.RowKit

/-- The three cells of a pattern, its parts' slice given. -/
abbrev patC (p : Ls.Pat) (sl : Value) : List Value := [.int .i64 p.kind, .string ⟨p.signs.toArray⟩, sl]
abbrev patA (p : Ls.Pat) (sl : Value) : Value := .agg #[.int .i64 p.kind, .string ⟨p.signs.toArray⟩, sl]

/-- The cells x lie in block g, whole. -/
def Lies (w : World) (g : Nat) (x : List Value) : Prop := w.heap[g]? = some (.cells x.toArray 27 (0, 0))

theorem Lies.cell {w : World} {g : Nat} {x : List Value} (h : Lies w g x) (j : Nat) : w.cell? ⟨g, j, Option.none⟩ = x[j]? := by
  unfold Lies at h
  simp [World.cell?, h]

theorem Lies.lt {w : World} {g : Nat} {x : List Value} (h : Lies w g x) : g < w.heap.size := (Array.getElem?_eq_some_iff.1 h).1

/-- All of G lies in w. -/
def Old (w : World) (G : Nat → Prop) : Prop := ∀ k, G k → k < w.heap.size

/-- The slice sl shows the pattern's parts; all blocks that it reaches are in G, and they are as w has them. -/
def PV (w : World) (G : Nat → Prop) : Ls.Pat → Value → Prop
  | ⟨_, _, []⟩, sl => sl = .slice Option.none 0 0
  | ⟨_, _, [a]⟩, sl => ∃ g y, G g ∧ sl = .slice (some ⟨g, 0, Option.none⟩) 1 1 ∧ Lies w g (patC a y) ∧ PV w G a y
  | ⟨_, _, [a, b]⟩, sl => ∃ g y z, G g ∧ sl = .slice (some ⟨g, 0, Option.none⟩) 2 2 ∧ Lies w g (patC a y ++ patC b z) ∧ PV w G a y ∧ PV w G b z
  | _, _ => False

theorem PV.mono {w w' : World} {G G' : Nat → Prop} (hG : ∀ k, G k → G' k) (hw : ∀ k, G k → w'.heap[k]? = w.heap[k]?) : (p : Ls.Pat) → (x : Value) → PV w G p x → PV w' G' p x
  | ⟨k, s, []⟩, x, h => by simpa [PV] using h
  | ⟨k, s, [a]⟩, x, h => by
    rw [PV] at h ⊢
    obtain ⟨g, y, h1, h2, h4, h5⟩ := h
    exact ⟨g, y, hG g h1, h2, by unfold Lies at h4 ⊢; rw [hw g h1]; exact h4, PV.mono hG hw a y h5⟩
  | ⟨k, s, [a, b]⟩, x, h => by
    rw [PV] at h ⊢
    obtain ⟨g, y, z, h1, h2, h5, h6, h7⟩ := h
    exact ⟨g, y, z, hG g h1, h2, by unfold Lies at h5 ⊢; rw [hw g h1]; exact h5, PV.mono hG hw a y h6, PV.mono hG hw b z h7⟩
  | ⟨k, s, _ :: _ :: _ :: _⟩, x, h => by simp [PV] at h

theorem PV.slice {w : World} {G : Nat → Prop} : (p : Ls.Pat) → (x : Value) → PV w G p x → ∃ a n c, x = .slice a n c
  | ⟨k, s, []⟩, x, h => ⟨_, _, _, by simpa [PV] using h⟩
  | ⟨k, s, [a]⟩, x, h => by rw [PV] at h; obtain ⟨g, y, h1, h2, h4, h5⟩ := h; exact ⟨_, _, _, h2⟩
  | ⟨k, s, [a, b]⟩, x, h => by rw [PV] at h; obtain ⟨g, y, z, h1, h2, h5, h6, h7⟩ := h; exact ⟨_, _, _, h2⟩
  | ⟨k, s, _ :: _ :: _ :: _⟩, x, h => by simp [PV] at h

/-- A world in which all that lay below the first heap's end is as it was keeps what is shown there. -/
theorem PV.below {w w' : World} {G G' : Nat → Prop} {B : Nat} (hb : Below B w w') (hB : ∀ k, G k → k < B) (hG : ∀ k, G k → G' k) {p : Ls.Pat} {x : Value} (h : PV w G p x) : PV w' G' p x :=
  PV.mono hG (fun k hk => hb.block k (hB k hk)) p x h

/-- What was in G, and what is new between two worlds. -/
def Plus (G : Nat → Prop) (w w' : World) : Nat → Prop := fun k => G k ∨ (w.heap.size ≤ k ∧ k < w'.heap.size)

theorem lies_new (w : World) (x : List Value) : Lies (w.alloc (.cells x.toArray 27)) w.heap.size x := by
  unfold Lies
  exact heap_alloc_new w _

theorem size_alloc3 (w : World) (a b c : Obj) : (((w.alloc a).alloc b).alloc c).heap.size = w.heap.size + 1 + 1 + 1 := by simp

theorem PV.two {w w' : World} {G : Nat → Prop} {p q : Ls.Pat} {y z : Value} (hp : PV w G p y) (hq : PV w G q z) (hG : Old w G) (hb : Below w.heap.size w w') {g : Nat} (hg : w.heap.size ≤ g) (hl : Lies w' g (patC p y ++ patC q z)) (k : Nat) (s : List UInt8) :
    PV w' (Plus G w w') ⟨k, s, [p, q]⟩ (.slice (some ⟨g, 0, Option.none⟩) 2 2) := by
  rw [PV]
  exact ⟨g, y, z, .inr ⟨hg, hl.lt⟩, rfl, hl, hp.below hb hG fun _ => .inl, hq.below hb hG fun _ => .inl⟩

theorem PV.one {w w' : World} {G : Nat → Prop} {p : Ls.Pat} {y : Value} (hp : PV w G p y) (hG : Old w G) (hb : Below w.heap.size w w') {g : Nat} (hg : w.heap.size ≤ g) (hl : Lies w' g (patC p y)) (k : Nat) (s : List UInt8) :
    PV w' (Plus G w w') ⟨k, s, [p]⟩ (.slice (some ⟨g, 0, Option.none⟩) 1 1) := by
  rw [PV]
  exact ⟨g, y, .inr ⟨hg, hl.lt⟩, rfl, hl, hp.below hb hG fun _ => .inl⟩

theorem below_alloc1 (w : World) (a : Obj) : Below w.heap.size w (w.alloc a) := (Below.refl _ _).alloc (Nat.le_refl _) _
theorem below_alloc2 (w : World) (a b : Obj) : Below w.heap.size w ((w.alloc a).alloc b) := (below_alloc1 w a).alloc (by simp) _
theorem below_alloc3 (w : World) (a b c : Obj) : Below w.heap.size w (((w.alloc a).alloc b).alloc c) := (below_alloc2 w a b).alloc (by simp; omega) _
theorem below_alloc4 (w : World) (a b c d : Obj) : Below w.heap.size w ((((w.alloc a).alloc b).alloc c).alloc d) := (below_alloc3 w a b c).alloc (by simp; omega) _

theorem lies_new2 (w : World) (a b : Obj) (x : List Value) : Lies (((w.alloc a).alloc b).alloc (.cells x.toArray 27)) (w.heap.size + 1 + 1) x := by
  have := lies_new ((w.alloc a).alloc b) x
  simpa using this
theorem lies_new3 (w : World) (a b c : Obj) (x : List Value) : Lies ((((w.alloc a).alloc b).alloc c).alloc (.cells x.toArray 27)) (w.heap.size + 1 + 1 + 1) x := by
  have := lies_new (((w.alloc a).alloc b).alloc c) x
  rwa [size_alloc3] at this

set_option maxHeartbeats 400000 in
theorem either_any (p q : Ls.Pat) (y z : Value) (w : World) (G : Nat → Prop) (hG : Old w G) (hp : PV w G p y) (hq : PV w G q z) :
    Calls Tryd.prog 35 #[patA p y, patA q z] w fun e w' => ∃ x, e = .returned (patA (Ls.any p q) x) ∧ PV w' (Plus G w w') (Ls.any p q) x ∧ Below w.heap.size w w' := by
  have Hp : Hid (PV w G p y) := hp
  have Hq : Hid (PV w G q z) := hq
  clear hp hq
  go_enter Tryd.func35, Tryd.ntmps35
  go_wp2
  refine bodyPost_ret (v := patA (Ls.any p q) (.slice (some ⟨w.heap.size + 1 + 1 + 1, 0, Option.none⟩) 2 2)) (by simp [results, Tryd.results35, go_sem, Ls.any]) rfl ⟨_, rfl, ?_, ?_⟩
  · exact PV.two Hp.out Hq.out hG (below_alloc4 _ _ _ _ _) (by omega) (lies_new3 w _ _ _ (patC p y ++ patC q z)) 3 []
  · exact below_alloc4 _ _ _ _ _

set_option maxHeartbeats 400000 in
theorem star_any (p : Ls.Pat) (y : Value) (w : World) (G : Nat → Prop) (hG : Old w G) (hp : PV w G p y) :
    Calls Tryd.prog 66 #[patA p y] w fun e w' => ∃ x, e = .returned (patA (Ls.star p) x) ∧ PV w' (Plus G w w') (Ls.star p) x ∧ Below w.heap.size w w' := by
  have Hp : Hid (PV w G p y) := hp
  clear hp
  go_enter Tryd.func66, Tryd.ntmps66
  go_wp2
  refine bodyPost_ret (v := patA (Ls.star p) (.slice (some ⟨w.heap.size + 1 + 1, 0, Option.none⟩) 1 1)) (by simp [results, Tryd.results66, go_sem, Ls.star]) rfl ⟨_, rfl, ?_, ?_⟩
  · exact PV.one Hp.out hG (below_alloc3 _ _ _ _) (by omega) (lies_new2 w _ _ (patC p y)) 4 []
  · exact below_alloc3 _ _ _ _

set_option maxHeartbeats 400000 in
theorem row_any (p q : Ls.Pat) (y z : Value) (w : World) (G : Nat → Prop) (hG : Old w G) (hp : PV w G p y) (hq : PV w G q z) :
    Calls Tryd.prog 37 #[patA p y, patA q z] w fun e w' => ∃ x, e = .returned (patA (Ls.row p q) x) ∧ PV w' (Plus G w w') (Ls.row p q) x ∧ Below w.heap.size w w' := by
  obtain ⟨y1, y2, y3, rfl⟩ := PV.slice _ _ hp
  obtain ⟨z1, z2, z3, rfl⟩ := PV.slice _ _ hq
  have Hp : Hid (PV w G p _) := hp
  have Hq : Hid (PV w G q _) := hq
  clear hp hq
  by_cases h1 : p.kind = 0
  · have h1' : ((p.kind : Int) == 0) = true := by simp [h1]
    have hr : Hid (Ls.row p q = q) := by unfold Ls.row; rw [if_pos h1]; rfl
    clear h1
    go_enter Tryd.func37, Tryd.ntmps37
    go_wp2
    (try simp only [Exit.inBlock, Exit.then])
    refine bodyPost_ret (v := patA q (.slice z1 z2 z3)) (by simp [results, Tryd.results37, go_sem]) rfl ⟨_, by rw [hr.out], ?_, ?_⟩
    · rw [hr.out]; exact Hq.out.below (below_alloc3 _ _ _ _) hG fun _ => .inl
    · exact below_alloc3 _ _ _ _
  · have h1' : ((p.kind : Int) == 0) = false := by simp [h1]
    by_cases h2 : q.kind = 0
    · have h2' : ((q.kind : Int) == 0) = true := by simp [h2]
      have hr : Hid (Ls.row p q = p) := by unfold Ls.row; rw [if_neg h1, if_pos h2]; rfl
      clear h1 h2
      go_enter Tryd.func37, Tryd.ntmps37
      go_wp2
      (try simp only [Exit.inBlock, Exit.then])
      refine bodyPost_ret (v := patA p (.slice y1 y2 y3)) (by simp [results, Tryd.results37, go_sem]) rfl ⟨_, by rw [hr.out], ?_, ?_⟩
      · rw [hr.out]; exact Hp.out.below (below_alloc3 _ _ _ _) hG fun _ => .inl
      · exact below_alloc3 _ _ _ _
    · have h2' : ((q.kind : Int) == 0) = false := by simp [h2]
      have hr : Hid (Ls.row p q = Ls.rowB p q) := by unfold Ls.row; rw [if_neg h1, if_neg h2]; rfl
      clear h1 h2
      go_enter Tryd.func37, Tryd.ntmps37
      go_wp2
      refine bodyPost_ret (v := patA (Ls.rowB p q) (.slice (some ⟨w.heap.size + 1 + 1 + 1, 0, Option.none⟩) 2 2)) (by simp [results, Tryd.results37, go_sem, Ls.rowB]) rfl ⟨_, by rw [hr.out], ?_, ?_⟩
      · rw [hr.out]; exact PV.two Hp.out Hq.out hG (below_alloc4 _ _ _ _ _) (by omega) (lies_new3 w _ _ _ (patC p _ ++ patC q _)) 2 []
      · exact below_alloc4 _ _ _ _ _

end Go.Proofs.YtbdjchmnahjjlaaDoor
