import Derived.Test.YtfklinjaajafgaaGreatDoorRows
import Derived.WalkKit
import Derived.WalkSpells
import Derived.WalkLawsBesides
import Derived.Deep.QuietTactic
import Derived.BigQuiet
import Derived.Test.YtfklinjaajafgaaGreatDoorPlain
import Derived.Handy
namespace Go.Proofs.YtfklinjaajafgaaGreatDoor
open Go.RowKit

theorem ret_bool {a b : Bool} (h : a = b) : Ending.returned (.bool a) = .returned (.bool b) := by rw [h]

set_option maxHeartbeats 400000 in
theorem sign_any (c : UInt8) (w : World) :
    Calls Tryz.prog 71 #[.int .u8 c.toNat] w fun e w' => e = .returned (.bool (Ls.sign c)) ∧ w' = w := by
  go_enter Tryz.func71, Tryz.ntmps71
  go_wp2
  all_goals
    go_ret
    refine ⟨ret_bool ?_, rfl⟩
    rw [Bool.eq_iff_iff]
    simp [Ls.sign]
    omega

set_option maxHeartbeats 400000 in
theorem mark_any (c : UInt8) (w : World) :
    Calls Tryz.prog 142 #[.int .u8 c.toNat] w fun e w' => e = .returned (.bool (Ls.mark c)) ∧ w' = w := by
  go_enter Tryz.func142, Tryz.ntmps142
  go_wp2
  all_goals
    go_ret
    refine ⟨ret_bool ?_, rfl⟩
    rw [Bool.eq_iff_iff]
    simp [Ls.mark]
    omega

theorem take_snoc (s : ByteArray) (k : Nat) (h : k < s.size) : s.data.toList.take (k + 1) = s.data.toList.take k ++ [s[k]] := by
  rw [List.take_succ_eq_append_getElem (by simpa using h)]; rfl

theorem mem_byte (s : ByteArray) (k : Nat) (h : k < s.size) : s[k] ∈ s.data.toList := by
  rw [ByteArray.getElem_eq_getElem_data]; simp

set_option maxHeartbeats 400000 in
theorem has_any (s : ByteArray) (c : UInt8) (w : World) (hs : s.size ≤ maxLen) :
    Calls Tryz.prog 72 #[.string s, .int .u8 c.toNat] w fun e w' => e = .returned (.bool (Ls.has s.data.toList c)) ∧ w' = w := by
  unfold maxLen at hs
  go_enter Tryz.func72, Tryz.ntmps72
  go_wp2
  go_loop [5] (fun i => ∃ k : Nat, k ≤ s.size ∧ i = .int .i64 k ∧ Ls.has (s.data.toList.take k) c = false) (fun i => s.size - (intOf i).toNat)
  case atStart => exact ⟨0, Nat.zero_le _, rfl, rfl⟩
  case round =>
    obtain ⟨k, hk, rfl, hno⟩ := hrel
    have Hno : Hid (Ls.has (s.data.toList.take k) c = false) := hno
    clear hno
    by_cases hlt : k < s.size
    · have HS : Hid (s.data.toList.take (k + 1) = s.data.toList.take k ++ [s[k]]) := take_snoc s k hlt
      by_cases hc : s[k] = c
      · have hc' : ((s[k].toNat : Int) == (c.toNat : Int)) = true := by simp [hc]
        have Hc : Hid (s[k] = c) := hc
        clear hc
        go_wp2
        go_ret
        refine ⟨ret_bool ?_, rfl⟩
        symm
        rw [Ls.has, List.any_eq_true]
        exact ⟨s[k], mem_byte s k hlt, by simp [Hc.out]⟩
      · have hc' : ((s[k].toNat : Int) == (c.toNat : Int)) = false := by
          rw [beq_eq_false_iff_ne]; intro h; exact hc (UInt8.toNat_inj.1 (by omega))
        have Hc : Hid (¬ s[k] = c) := hc
        clear hc
        go_wp2
        go_round
        case rel => exact ⟨k + 1, by omega, by go_num, by rw [HS.out, Ls.has, List.any_append]; have h1 := Hno.out; rw [Ls.has] at h1; simp [h1, Hc.out]⟩
        case measure => simp [intOf]; omega
    · go_wp2
      go_ret
      have h1 := Hno.out
      rw [List.take_of_length_le (by simp; omega)] at h1
      exact ⟨ret_bool h1.symm, rfl⟩

end Go.Proofs.YtfklinjaajafgaaGreatDoor

namespace Go.Proofs.YtfklinjaajafgaaGreatDoor
open Go.RowKit

/-- The three cells of a pattern, its parts' slice given. -/
abbrev patC (p : Ls.Pat) (sl : Value) : List Value := [.int .i64 p.kind, .string ⟨p.signs.toArray⟩, sl]
abbrev patA (p : Ls.Pat) (sl : Value) : Value := .agg #[.int .i64 p.kind, .string ⟨p.signs.toArray⟩, sl]

/-- The cells x lie in block g, whole. -/
def Lies (w : World) (g : Nat) (x : List Value) : Prop := w.heap[g]? = some (.cells x.toArray 27 (0, 0))

theorem Lies.cell {w : World} {g : Nat} {x : List Value} (h : Lies w g x) (j : Nat) : w.cell? ⟨g, j, Option.none⟩ = x[j]? := by
  unfold Lies at h
  simp [World.cell?, h]

theorem Lies.lt {w : World} {g : Nat} {x : List Value} (h : Lies w g x) : g < w.heap.size := (Array.getElem?_eq_some_iff.1 h).1

/-- All of G lies in w. -/
def Old (w : World) (G : Nat → Prop) : Prop := ∀ k, G k → k < w.heap.size

/-- The slice sl shows the pattern's parts; all blocks that it reaches are in G, and they are as w has them. -/
def PV (w : World) (G : Nat → Prop) : Ls.Pat → Value → Prop
  | ⟨_, _, []⟩, sl => sl = .slice Option.none 0 0
  | ⟨_, _, [a]⟩, sl => ∃ g y, G g ∧ sl = .slice (some ⟨g, 0, Option.none⟩) 1 1 ∧ Lies w g (patC a y) ∧ PV w G a y
  | ⟨_, _, [a, b]⟩, sl => ∃ g y z, G g ∧ sl = .slice (some ⟨g, 0, Option.none⟩) 2 2 ∧ Lies w g (patC a y ++ patC b z) ∧ PV w G a y ∧ PV w G b z
  | _, _ => False

theorem PV.mono {w w' : World} {G G' : Nat → Prop} (hG : ∀ k, G k → G' k) (hw : ∀ k, G k → w'.heap[k]? = w.heap[k]?) : (p : Ls.Pat) → (x : Value) → PV w G p x → PV w' G' p x
  | ⟨k, s, []⟩, x, h => by simpa [PV] using h
  | ⟨k, s, [a]⟩, x, h => by
    rw [PV] at h ⊢
    obtain ⟨g, y, h1, h2, h4, h5⟩ := h
    exact ⟨g, y, hG g h1, h2, by unfold Lies at h4 ⊢; rw [hw g h1]; exact h4, PV.mono hG hw a y h5⟩
  | ⟨k, s, [a, b]⟩, x, h => by
    rw [PV] at h ⊢
    obtain ⟨g, y, z, h1, h2, h5, h6, h7⟩ := h
    exact ⟨g, y, z, hG g h1, h2, by unfold Lies at h5 ⊢; rw [hw g h1]; exact h5, PV.mono hG hw a y h6, PV.mono hG hw b z h7⟩
  | ⟨k, s, _ :: _ :: _ :: _⟩, x, h => by simp [PV] at h

theorem PV.slice {w : World} {G : Nat → Prop} : (p : Ls.Pat) → (x : Value) → PV w G p x → ∃ a n c, x = .slice a n c
  | ⟨k, s, []⟩, x, h => ⟨_, _, _, by simpa [PV] using h⟩
  | ⟨k, s, [a]⟩, x, h => by rw [PV] at h; obtain ⟨g, y, h1, h2, h4, h5⟩ := h; exact ⟨_, _, _, h2⟩
  | ⟨k, s, [a, b]⟩, x, h => by rw [PV] at h; obtain ⟨g, y, z, h1, h2, h5, h6, h7⟩ := h; exact ⟨_, _, _, h2⟩
  | ⟨k, s, _ :: _ :: _ :: _⟩, x, h => by simp [PV] at h

/-- A world in which all that lay below the first heap's end is as it was keeps what is shown there. -/
theorem PV.below {w w' : World} {G G' : Nat → Prop} {B : Nat} (hb : Below B w w') (hB : ∀ k, G k → k < B) (hG : ∀ k, G k → G' k) {p : Ls.Pat} {x : Value} (h : PV w G p x) : PV w' G' p x :=
  PV.mono hG (fun k hk => hb.block k (hB k hk)) p x h

/-- What was in G, and what is new between two worlds. -/
def Plus (G : Nat → Prop) (w w' : World) : Nat → Prop := fun k => G k ∨ (w.heap.size ≤ k ∧ k < w'.heap.size)

theorem lies_new (w : World) (x : List Value) : Lies (w.alloc (.cells x.toArray 27)) w.heap.size x := by
  unfold Lies
  exact heap_alloc_new w _

theorem size_alloc3 (w : World) (a b c : Obj) : (((w.alloc a).alloc b).alloc c).heap.size = w.heap.size + 1 + 1 + 1 := by simp

theorem PV.two {w w' : World} {G : Nat → Prop} {p q : Ls.Pat} {y z : Value} (hp : PV w G p y) (hq : PV w G q z) (hG : Old w G) (hb : Below w.heap.size w w') {g : Nat} (hg : w.heap.size ≤ g) (hl : Lies w' g (patC p y ++ patC q z)) (k : Nat) (s : List UInt8) :
    PV w' (Plus G w w') ⟨k, s, [p, q]⟩ (.slice (some ⟨g, 0, Option.none⟩) 2 2) := by
  rw [PV]
  exact ⟨g, y, z, .inr ⟨hg, hl.lt⟩, rfl, hl, hp.below hb hG fun _ => .inl, hq.below hb hG fun _ => .inl⟩

theorem PV.one {w w' : World} {G : Nat → Prop} {p : Ls.Pat} {y : Value} (hp : PV w G p y) (hG : Old w G) (hb : Below w.heap.size w w') {g : Nat} (hg : w.heap.size ≤ g) (hl : Lies w' g (patC p y)) (k : Nat) (s : List UInt8) :
    PV w' (Plus G w w') ⟨k, s, [p]⟩ (.slice (some ⟨g, 0, Option.none⟩) 1 1) := by
  rw [PV]
  exact ⟨g, y, .inr ⟨hg, hl.lt⟩, rfl, hl, hp.below hb hG fun _ => .inl⟩

theorem below_alloc1 (w : World) (a : Obj) : Below w.heap.size w (w.alloc a) := (Below.refl _ _).alloc (Nat.le_refl _) _
theorem below_alloc2 (w : World) (a b : Obj) : Below w.heap.size w ((w.alloc a).alloc b) := (below_alloc1 w a).alloc (by simp) _
theorem below_alloc3 (w : World) (a b c : Obj) : Below w.heap.size w (((w.alloc a).alloc b).alloc c) := (below_alloc2 w a b).alloc (by simp; omega) _
theorem below_alloc4 (w : World) (a b c d : Obj) : Below w.heap.size w ((((w.alloc a).alloc b).alloc c).alloc d) := (below_alloc3 w a b c).alloc (by simp; omega) _

theorem lies_new2 (w : World) (a b : Obj) (x : List Value) : Lies (((w.alloc a).alloc b).alloc (.cells x.toArray 27)) (w.heap.size + 1 + 1) x := by
  have := lies_new ((w.alloc a).alloc b) x
  simpa using this
theorem lies_new3 (w : World) (a b c : Obj) (x : List Value) : Lies ((((w.alloc a).alloc b).alloc c).alloc (.cells x.toArray 27)) (w.heap.size + 1 + 1 + 1) x := by
  have := lies_new (((w.alloc a).alloc b).alloc c) x
  rwa [size_alloc3] at this

set_option maxHeartbeats 400000 in
theorem either_any (p q : Ls.Pat) (y z : Value) (w : World) (G : Nat → Prop) (hG : Old w G) (hp : PV w G p y) (hq : PV w G q z) :
    Calls Tryz.prog 69 #[patA p y, patA q z] w fun e w' => ∃ x, e = .returned (patA (Ls.any p q) x) ∧ PV w' (Plus G w w') (Ls.any p q) x ∧ Below w.heap.size w w' := by
  have Hp : Hid (PV w G p y) := hp
  have Hq : Hid (PV w G q z) := hq
  clear hp hq
  go_enter Tryz.func69, Tryz.ntmps69
  go_wp2
  refine bodyPost_ret (v := patA (Ls.any p q) (.slice (some ⟨w.heap.size + 1 + 1 + 1, 0, Option.none⟩) 2 2)) (by simp [results, Tryz.results69, go_sem, Ls.any]) rfl ⟨_, rfl, ?_, ?_⟩
  · exact PV.two Hp.out Hq.out hG (below_alloc4 _ _ _ _ _) (by omega) (lies_new3 w _ _ _ (patC p y ++ patC q z)) 3 []
  · exact below_alloc4 _ _ _ _ _

set_option maxHeartbeats 400000 in
theorem star_any (p : Ls.Pat) (y : Value) (w : World) (G : Nat → Prop) (hG : Old w G) (hp : PV w G p y) :
    Calls Tryz.prog 85 #[patA p y] w fun e w' => ∃ x, e = .returned (patA (Ls.star p) x) ∧ PV w' (Plus G w w') (Ls.star p) x ∧ Below w.heap.size w w' := by
  have Hp : Hid (PV w G p y) := hp
  clear hp
  go_enter Tryz.func85, Tryz.ntmps85
  go_wp2
  refine bodyPost_ret (v := patA (Ls.star p) (.slice (some ⟨w.heap.size + 1 + 1, 0, Option.none⟩) 1 1)) (by simp [results, Tryz.results85, go_sem, Ls.star]) rfl ⟨_, rfl, ?_, ?_⟩
  · exact PV.one Hp.out hG (below_alloc3 _ _ _ _) (by omega) (lies_new2 w _ _ (patC p y)) 4 []
  · exact below_alloc3 _ _ _ _

set_option maxHeartbeats 400000 in
theorem row_any (p q : Ls.Pat) (y z : Value) (w : World) (G : Nat → Prop) (hG : Old w G) (hp : PV w G p y) (hq : PV w G q z) :
    Calls Tryz.prog 84 #[patA p y, patA q z] w fun e w' => ∃ x, e = .returned (patA (Ls.row p q) x) ∧ PV w' (Plus G w w') (Ls.row p q) x ∧ Below w.heap.size w w' := by
  obtain ⟨y1, y2, y3, rfl⟩ := PV.slice _ _ hp
  obtain ⟨z1, z2, z3, rfl⟩ := PV.slice _ _ hq
  have Hp : Hid (PV w G p _) := hp
  have Hq : Hid (PV w G q _) := hq
  clear hp hq
  by_cases h1 : p.kind = 0
  · have h1' : ((p.kind : Int) == 0) = true := by simp [h1]
    have hr : Hid (Ls.row p q = q) := by unfold Ls.row; rw [if_pos h1]; rfl
    clear h1
    go_enter Tryz.func84, Tryz.ntmps84
    go_wp2
    (try simp only [Exit.inBlock, Exit.then])
    refine bodyPost_ret (v := patA q (.slice z1 z2 z3)) (by simp [results, Tryz.results84, go_sem]) rfl ⟨_, by rw [hr.out], ?_, ?_⟩
    · rw [hr.out]; exact Hq.out.below (below_alloc3 _ _ _ _) hG fun _ => .inl
    · exact below_alloc3 _ _ _ _
  · have h1' : ((p.kind : Int) == 0) = false := by simp [h1]
    by_cases h2 : q.kind = 0
    · have h2' : ((q.kind : Int) == 0) = true := by simp [h2]
      have hr : Hid (Ls.row p q = p) := by unfold Ls.row; rw [if_neg h1, if_pos h2]; rfl
      clear h1 h2
      go_enter Tryz.func84, Tryz.ntmps84
      go_wp2
      (try simp only [Exit.inBlock, Exit.then])
      refine bodyPost_ret (v := patA p (.slice y1 y2 y3)) (by simp [results, Tryz.results84, go_sem]) rfl ⟨_, by rw [hr.out], ?_, ?_⟩
      · rw [hr.out]; exact Hp.out.below (below_alloc3 _ _ _ _) hG fun _ => .inl
      · exact below_alloc3 _ _ _ _
    · have h2' : ((q.kind : Int) == 0) = false := by simp [h2]
      have hr : Hid (Ls.row p q = Ls.rowB p q) := by unfold Ls.row; rw [if_neg h1, if_neg h2]; rfl
      clear h1 h2
      go_enter Tryz.func84, Tryz.ntmps84
      go_wp2
      refine bodyPost_ret (v := patA (Ls.rowB p q) (.slice (some ⟨w.heap.size + 1 + 1 + 1, 0, Option.none⟩) 2 2)) (by simp [results, Tryz.results84, go_sem, Ls.rowB]) rfl ⟨_, by rw [hr.out], ?_, ?_⟩
      · rw [hr.out]; exact PV.two Hp.out Hq.out hG (below_alloc4 _ _ _ _ _) (by omega) (lies_new3 w _ _ _ (patC p _ ++ patC q _)) 2 []
      · exact below_alloc4 _ _ _ _ _

end Go.Proofs.YtfklinjaajafgaaGreatDoor

namespace Go.Proofs.YtfklinjaajafgaaGreatDoor
open Go.RowKit

/-- The cells of a block of two patterns. -/
theorem Lies.six {w : World} {g : Nat} {a b : Ls.Pat} {y z : Value} (h : Lies w g (patC a y ++ patC b z)) :
    w.cell? ⟨g, 0, Option.none⟩ = some (.int .i64 a.kind) ∧ w.cell? ⟨g, 1, Option.none⟩ = some (.string ⟨a.signs.toArray⟩) ∧ w.cell? ⟨g, 2, Option.none⟩ = some y ∧
    w.cell? ⟨g, 3, Option.none⟩ = some (.int .i64 b.kind) ∧ w.cell? ⟨g, 4, Option.none⟩ = some (.string ⟨b.signs.toArray⟩) ∧ w.cell? ⟨g, 5, Option.none⟩ = some z :=
  ⟨h.cell 0, h.cell 1, h.cell 2, h.cell 3, h.cell 4, h.cell 5⟩

theorem Lies.three {w : World} {g : Nat} {a : Ls.Pat} {y : Value} (h : Lies w g (patC a y)) :
    w.cell? ⟨g, 0, Option.none⟩ = some (.int .i64 a.kind) ∧ w.cell? ⟨g, 1, Option.none⟩ = some (.string ⟨a.signs.toArray⟩) ∧ w.cell? ⟨g, 2, Option.none⟩ = some y :=
  ⟨h.cell 0, h.cell 1, h.cell 2⟩

theorem bcell {W w1 : World} (hb : Below W.heap.size W w1) : (∀ b o, b < W.heap.size → w1.cell? ⟨b, o, Option.none⟩ = W.cell? ⟨b, o, Option.none⟩) ∧ (∀ b o, b < W.heap.size → w1.frozen? ⟨b, o, Option.none⟩ = W.frozen? ⟨b, o, Option.none⟩) :=
  ⟨fun b o h => hb.cell (p := ⟨b, o, Option.none⟩) h, fun b o h => hb.frozen (p := ⟨b, o, Option.none⟩) h⟩

theorem Old.alloc {w : World} {G : Nat → Prop} (h : Old w G) (o : Obj) : Old (w.alloc o) G := fun k hk => by have := h k hk; simp; omega
theorem Old.below {w w' : World} {G : Nat → Prop} {B : Nat} (h : Old w G) (hb : Below B w w') : Old w' G := fun k hk => by have := h k hk; have := hb.size; omega

/-- What Empty answers of p, wherever p is shown. -/
def EmptySaid (p : Ls.Pat) : Prop := ∀ (y : Value) (w : World) (G : Nat → Prop), Old w G → PV w G p y →
    Calls Tryz.prog 74 #[patA p y] w fun e w' => e = .returned (.bool (Ls.empty p)) ∧ Below w.heap.size w w'

set_option maxHeartbeats 400000 in
theorem empty_none : EmptySaid Ls.none := by
  intro y w G hG hp
  clear hp hG
  show Calls _ _ #[.agg #[.int .i64 0, .string ⟨#[]⟩, y]] w _
  go_enter Tryz.func74, Tryz.ntmps74
  go_wp2_with fail
  go_ret
  exact ⟨rfl, below_alloc1 _ _⟩

set_option maxHeartbeats 400000 in
theorem empty_set (s : List UInt8) : EmptySaid (Ls.set s) := by
  intro y w G hG hp
  clear hp hG
  show Calls _ _ #[.agg #[.int .i64 1, .string ⟨s.toArray⟩, y]] w _
  go_enter Tryz.func74, Tryz.ntmps74
  go_wp2_with fail
  go_ret
  exact ⟨rfl, below_alloc1 _ _⟩

set_option maxHeartbeats 400000 in
theorem empty_star (a : Ls.Pat) : EmptySaid (Ls.star a) := by
  intro y w G hG hp
  clear hp hG
  show Calls _ _ #[.agg #[.int .i64 4, .string ⟨#[]⟩, y]] w _
  go_enter Tryz.func74, Tryz.ntmps74
  go_wp2_with fail
  go_ret
  exact ⟨rfl, below_alloc1 _ _⟩

set_option maxHeartbeats 400000 in
theorem empty_rowB (a b : Ls.Pat) (ha : EmptySaid a) (hb : EmptySaid b) : EmptySaid (Ls.rowB a b) := by
  intro sl w G hG hp
  obtain ⟨g, y, z, hg, rfl, hl, h1, h2⟩ := hp
  have hgl := hl.lt
  obtain ⟨c0, c1, c2, c3, c4, c5⟩ := hl.six
  clear hg
  show Calls _ _ #[.agg #[.int .i64 2, .string ⟨#[]⟩, .slice (some ⟨g, 0, Option.none⟩) 2 2]] w _
  go_enter Tryz.func74, Tryz.ntmps74
  go_wp2_with fail
  refine (ha y _ G (Old.alloc hG _) (h1.below (below_alloc1 _ _) hG fun _ h => h)).mono ?_
  rintro e w1 ⟨rfl, hb1⟩
  obtain ⟨d1, d2⟩ := bcell hb1
  go_wp2_with fail
  refine (hb z _ G (Old.below (Old.alloc hG _) hb1) ((h2.below (below_alloc1 _ _) hG fun _ h => h).below hb1 (Old.alloc hG _) fun _ h => h)).mono ?_
  rintro e w2 ⟨rfl, hb2⟩
  go_wp2_with fail
  all_goals
    go_ret
    refine ⟨ret_bool (by simp [Ls.empty, Ls.rowB, *]), ((below_alloc1 _ _).trans (hb1.mono (by simp))).trans (hb2.mono ?_)⟩
    have := hb1.size; simp at this; omega

set_option maxHeartbeats 400000 in
theorem empty_or (a b : Ls.Pat) (ha : EmptySaid a) (hb : EmptySaid b) : EmptySaid (Ls.any a b) := by
  intro sl w G hG hp
  obtain ⟨g, y, z, hg, rfl, hl, h1, h2⟩ := hp
  have hgl := hl.lt
  obtain ⟨c0, c1, c2, c3, c4, c5⟩ := hl.six
  clear hg
  show Calls _ _ #[.agg #[.int .i64 3, .string ⟨#[]⟩, .slice (some ⟨g, 0, Option.none⟩) 2 2]] w _
  go_enter Tryz.func74, Tryz.ntmps74
  go_wp2_with fail
  refine (ha y _ G (Old.alloc hG _) (h1.below (below_alloc1 _ _) hG fun _ h => h)).mono ?_
  rintro e w1 ⟨rfl, hb1⟩
  obtain ⟨d1, d2⟩ := bcell hb1
  go_wp2_with fail
  refine (hb z _ G (Old.below (Old.alloc hG _) hb1) ((h2.below (below_alloc1 _ _) hG fun _ h => h).below hb1 (Old.alloc hG _) fun _ h => h)).mono ?_
  rintro e w2 ⟨rfl, hb2⟩
  go_wp2_with fail
  all_goals
    go_ret
    refine ⟨ret_bool (by simp [Ls.empty, Ls.any, *]), ((below_alloc1 _ _).trans (hb1.mono (by simp))).trans (hb2.mono ?_)⟩
    have := hb1.size; simp at this; omega

theorem empty_any (p : Ls.Pat) (h : Ls.wf p) : EmptySaid p :=
  Ls.ind empty_none (fun s _ => empty_set s) (fun a b _ _ _ _ => empty_rowB a b) (fun a b _ _ => empty_or a b) (fun a _ _ => empty_star a) p h

end Go.Proofs.YtfklinjaajafgaaGreatDoor

namespace Go.Proofs.YtfklinjaajafgaaGreatDoor
open Go.RowKit

/-- 'string([]byte)b' of one byte. -/
theorem run_conv1 (w : World) (b c : Nat) (n : Int) (h : w.cell? ⟨b, 0, Option.none⟩ = some (.int .u8 n)) :
    (convert 105 9 (.slice (some ⟨b, 0, Option.none⟩) 1 c)).run Tryz.prog w = .ok (.string ⟨#[UInt8.ofNat n.toNat]⟩) w := by
  rw [run_convert_bytes_string w 105 9 5 _ _ _ Tryz.underlying105 Tryz.underlying5 Tryz.underlying9]
  rw [run_bytesToString w _ 1 c [n] (by
    have := run_loadCells_list (P := Tryz.prog) w ⟨b, 0, Option.none⟩ [.int .u8 n] (by
      intro j v hj
      match j, hj with
      | 0, hj => simp at hj; subst hj; exact h)
    simpa using this)]
  rfl

/-- What key answers of p, wherever p is shown. -/
def KeySaid (p : Ls.Pat) : Prop := (Ls.key p).length ≤ 4611686018427387904 → ∀ (y : Value) (w : World) (G : Nat → Prop), Old w G → PV w G p y →
    Calls Tryz.prog 73 #[patA p y] w fun e w' => e = .returned (.string ⟨(Ls.key p).toArray⟩) ∧ Below w.heap.size w w'

/-- A cell of an old block, two steps later. -/
theorem cellg {w W w1 : World} (hw : Below w.heap.size w W) (hb : Below W.heap.size W w1) {g : Nat} (hg : g < w.heap.size) : ∀ o, w1.cell? ⟨g, o, Option.none⟩ = w.cell? ⟨g, o, Option.none⟩ := fun o =>
  (hb.cell (p := ⟨g, o, Option.none⟩) (Nat.lt_of_lt_of_le hg hw.size)).trans (hw.cell (p := ⟨g, o, Option.none⟩) hg)

theorem Below.join {a b c : World} (h : Below a.heap.size a b) (k : Below b.heap.size b c) : Below a.heap.size a c := h.trans (k.mono h.size)

theorem ret_string {a b : ByteArray} (h : a.data.toList = b.data.toList) : Ending.returned (.string a) = .returned (.string b) := by
  rw [show a = b from ByteArray.ext (Array.toList_inj.1 h)]

set_option maxRecDepth 100000 in
set_option maxHeartbeats 400000 in
theorem key_none : KeySaid Ls.none := by
  intro hk y w G hG hp
  have hy : y = .slice Option.none 0 0 := hp
  subst hy
  clear hk hp
  show Calls _ _ #[.agg #[.int .i64 0, .string ⟨#[]⟩, .slice Option.none 0 0]] w _
  have hcv := run_conv1
  go_enter Tryz.func73, Tryz.ntmps73
  go_wp2_with fail
  refine wp_loop_rounds 1 ?_
  rw [rounds_succ]
  go_wp2_with fail
  go_ret
  refine ⟨ret_string ?_, below_alloc2 _ _ _⟩
  simp [Ls.key, Ls.none]

set_option maxRecDepth 100000 in
set_option maxHeartbeats 400000 in
theorem key_set (s : List UInt8) : KeySaid (Ls.set s) := by
  intro hk y w G hG hp
  have hy : y = .slice Option.none 0 0 := hp
  subst hy
  have hs : s.length ≤ 4611686018427387904 := by simp [Ls.set, Ls.key] at hk; omega
  clear hk hp
  show Calls _ _ #[.agg #[.int .i64 1, .string ⟨s.toArray⟩, .slice Option.none 0 0]] w _
  have hcv := run_conv1
  go_enter Tryz.func73, Tryz.ntmps73
  go_wp2_with fail
  refine wp_loop_rounds 1 ?_
  rw [rounds_succ]
  go_wp2_with fail
  go_ret
  refine ⟨ret_string ?_, below_alloc2 _ _ _⟩
  simp [Ls.key, Ls.set]

set_option maxRecDepth 100000 in
set_option maxHeartbeats 400000 in
theorem key_star (a : Ls.Pat) (ha : KeySaid a) : KeySaid (Ls.star a) := by
  intro hk sl w G hG hp
  obtain ⟨g, y, hg, rfl, hl, h1⟩ := hp
  have hgl := hl.lt
  obtain ⟨c0, c1, c2⟩ := hl.three
  have hs : (Ls.key a).length ≤ 4611686018427387901 := by simp [Ls.star, Ls.key] at hk; omega
  clear hk hg
  show Calls _ _ #[.agg #[.int .i64 4, .string ⟨#[]⟩, .slice (some ⟨g, 0, Option.none⟩) 1 1]] w _
  have hcv := run_conv1
  go_enter Tryz.func73, Tryz.ntmps73
  go_wp2_with fail
  refine wp_loop_rounds 2 ?_
  rw [rounds_succ]
  go_wp2_with fail
  refine (ha (by omega) y _ G (Old.alloc (Old.alloc hG _) _) (h1.below (below_alloc2 _ _ _) hG fun _ h => h)).mono ?_
  rintro e w1 ⟨rfl, hb1⟩
  obtain ⟨d1, d2⟩ := bcell hb1
  have d3 := cellg (below_alloc2 _ _ _) hb1 hgl
  clear hcv
  go_wp2_with fail
  rw [rounds_succ]
  go_wp2_with fail
  go_ret
  refine ⟨ret_string ?_, Below.join (below_alloc2 _ _ _) hb1⟩
  simp [Ls.key, Ls.star]

set_option maxRecDepth 100000 in
set_option maxHeartbeats 400000 in
theorem key_rowB (a b : Ls.Pat) (ha : KeySaid a) (hb : KeySaid b) : KeySaid (Ls.rowB a b) := by
  intro hk sl w G hG hp
  obtain ⟨g, y, z, hg, rfl, hl, h1, h2⟩ := hp
  have hgl := hl.lt
  obtain ⟨c0, c1, c2, c3, c4, c5⟩ := hl.six
  have hs : (Ls.key a).length + (Ls.key b).length ≤ 4611686018427387901 := by simp [Ls.rowB, Ls.key] at hk; omega
  clear hk hg
  show Calls _ _ #[.agg #[.int .i64 2, .string ⟨#[]⟩, .slice (some ⟨g, 0, Option.none⟩) 2 2]] w _
  have hcv := run_conv1
  go_enter Tryz.func73, Tryz.ntmps73
  go_wp2_with fail
  refine wp_loop_rounds 3 ?_
  rw [rounds_succ]
  go_wp2_with fail
  refine (ha (by omega) y _ G (Old.alloc (Old.alloc hG _) _) (h1.below (below_alloc2 _ _ _) hG fun _ h => h)).mono ?_
  rintro e w1 ⟨rfl, hb1⟩
  obtain ⟨d1, d2⟩ := bcell hb1
  have d3 := cellg (below_alloc2 _ _ _) hb1 hgl
  clear hcv
  go_wp2_with fail
  rw [rounds_succ]
  go_wp2_with fail
  refine (hb (by omega) z _ G (Old.below (Old.alloc (Old.alloc hG _) _) hb1) ((h2.below (below_alloc2 _ _ _) hG fun _ h => h).below hb1 (Old.alloc (Old.alloc hG _) _) fun _ h => h)).mono ?_
  rintro e w2 ⟨rfl, hb2⟩
  have hz := hb1.size
  simp at hz
  have hz1 : w.heap.size < w1.heap.size := by omega
  obtain ⟨e1, e2⟩ := bcell hb2
  go_wp2_with fail
  rw [rounds_succ]
  go_wp2_with fail
  go_ret
  refine ⟨ret_string ?_, Below.join (Below.join (below_alloc2 _ _ _) hb1) hb2⟩
  simp [Ls.key, Ls.rowB]

set_option maxRecDepth 100000 in
set_option maxHeartbeats 400000 in
theorem key_or (a b : Ls.Pat) (ha : KeySaid a) (hb : KeySaid b) : KeySaid (Ls.any a b) := by
  intro hk sl w G hG hp
  obtain ⟨g, y, z, hg, rfl, hl, h1, h2⟩ := hp
  have hgl := hl.lt
  obtain ⟨c0, c1, c2, c3, c4, c5⟩ := hl.six
  have hs : (Ls.key a).length + (Ls.key b).length ≤ 4611686018427387901 := by simp [Ls.any, Ls.key] at hk; omega
  clear hk hg
  show Calls _ _ #[.agg #[.int .i64 3, .string ⟨#[]⟩, .slice (some ⟨g, 0, Option.none⟩) 2 2]] w _
  have hcv := run_conv1
  go_enter Tryz.func73, Tryz.ntmps73
  go_wp2_with fail
  refine wp_loop_rounds 3 ?_
  rw [rounds_succ]
  go_wp2_with fail
  refine (ha (by omega) y _ G (Old.alloc (Old.alloc hG _) _) (h1.below (below_alloc2 _ _ _) hG fun _ h => h)).mono ?_
  rintro e w1 ⟨rfl, hb1⟩
  obtain ⟨d1, d2⟩ := bcell hb1
  have d3 := cellg (below_alloc2 _ _ _) hb1 hgl
  clear hcv
  go_wp2_with fail
  rw [rounds_succ]
  go_wp2_with fail
  refine (hb (by omega) z _ G (Old.below (Old.alloc (Old.alloc hG _) _) hb1) ((h2.below (below_alloc2 _ _ _) hG fun _ h => h).below hb1 (Old.alloc (Old.alloc hG _) _) fun _ h => h)).mono ?_
  rintro e w2 ⟨rfl, hb2⟩
  have hz := hb1.size
  simp at hz
  have hz1 : w.heap.size < w1.heap.size := by omega
  obtain ⟨e1, e2⟩ := bcell hb2
  go_wp2_with fail
  rw [rounds_succ]
  go_wp2_with fail
  go_ret
  refine ⟨ret_string ?_, Below.join (Below.join (below_alloc2 _ _ _) hb1) hb2⟩
  simp [Ls.key, Ls.any]

theorem key_any (p : Ls.Pat) (h : Ls.wf p) : KeySaid p :=
  Ls.ind key_none (fun s _ => key_set s) (fun a b _ _ _ _ => key_rowB a b) (fun a b _ _ => key_or a b) (fun a _ => key_star a) p h

end Go.Proofs.YtfklinjaajafgaaGreatDoor

namespace Go.Proofs.YtfklinjaajafgaaGreatDoor
open Go.RowKit

/-- The append law, with one limb more: the row stays where it was, or is new. -/
theorem run_append_own2 {P : Program} (w : World) (base : Nat) (t ty e : TypeId) (i : TypeInfo) (z : Value) (size bytes : Nat) (ht : P.underlying t = some (.slice e)) (hi : P.info? e = some i) (hz : i.zero = some z)
    (hsize : i.size = size) (hby : i.bytes = bytes) (hzs : z.cells.size = size) (hsz : 0 < size)
    (v : Value) (n : Nat) (xs : List Value) (hown : w.ownsRow base e size v n xs)
    (a : Addr) (m c : Nat) (news : List Value) (hl : news.length = m * size) (hnews : ∀ j u, news[j]? = some u → w.cell? (a.add j) = some u) (h1 : ∀ u ∈ news, u.oneCell' = true)
    (h63 : n + m ≤ maxLen) (hbytes : (n + m) * bytes ≤ 140737488355328) (hbase : base ≤ w.heap.size) (hm : 0 < m) :
    ∃ v' w', (Builtin.append_ #[t, t] ty #[v, .slice (some a) m c]).run P w = .ok v' w' ∧ w'.ownsRow base e size v' (n + m) (xs ++ news) ∧ w.grownBy w' v.ownBlock ∧
      (v'.ownBlock = v.ownBlock ∨ ∃ k, v'.ownBlock = some k ∧ w.heap.size ≤ k) := by
  obtain ⟨v', w', hr, h2, h3, h4⟩ := run_append_own (P := P) w base t ty e i z size bytes ht hi hz hsize hby hzs hsz v n xs hown a m c news hl hnews h1 h63 hbytes hbase
  refine ⟨v', w', hr, h2, h3, ?_⟩
  subst hsize
  subst hby
  rcases hown.2 with ⟨rfl, rfl⟩ | ⟨g, cap, cur, rfl, hbg, hg, hnc, hcm, hcs, htake⟩
  · have hx : xs = [] := List.eq_nil_of_length_eq_zero (by simpa using hown.1)
    subst hx
    have hsmall : m ≤ 9223372036854775807 := by simp only [maxLen] at h63; omega
    have hr2 := run_append_nil (P := P) w t ty e i z ht hi hz a m c news hl hnews (by omega) (by omega) (by have hb := hbytes; simp only [Nat.zero_add] at hb; omega)
    rw [hr] at hr2
    injection hr2 with hv _
    subst hv
    exact .inr ⟨_, rfl, Nat.le_refl _⟩
  · have hsmall : n + m ≤ 9223372036854775807 := by simp only [maxLen] at h63; omega
    by_cases hroom : n + m ≤ cap
    · have hfit : n * i.size + news.length ≤ cur.size := by rw [hl, hcs, ← Nat.add_mul]; exact Nat.mul_le_mul_right _ hroom
      have hr2 := run_append_room (P := P) w t ty e i ht hi g n cap cur hg a m c news hl hnews h1 hroom hfit
      rw [hr] at hr2
      injection hr2 with hv _
      subst hv
      exact .inl rfl
    · have holds : ∀ j u, xs[j]? = some u → w.cell? ((⟨g, 0, Option.none⟩ : Addr).add j) = some u := hown.cells (g := g) rfl
      have hr2 := run_append_grow (P := P) w t ty e i z ht hi hz ⟨g, 0, Option.none⟩ n cap xs hown.1 holds a m c news hl hnews (by omega) (by omega) (growslice_fits (by omega) hbytes)
      rw [hr] at hr2
      injection hr2 with hv _
      subst hv
      exact .inr ⟨_, rfl, Nat.le_refl _⟩

theorem wpList_append_own2 {P : Program} (w : World) {ops : Array Oper} {rest : List Oper} {o : Oper} {a : Act} {Q : Exit → Act → World → Prop} (hgd : o.guard = none) (s x : Operand) (t : TypeId)
    (ho : o.op = .call { callee := .builtin .append, args := #[s, x], argTypes := #[t, t] })
    (base : Nat) (e : TypeId) (i : TypeInfo) (z : Value) (size bytes : Nat) (ht : P.underlying t = some (.slice e)) (hi : P.info? e = some i) (hz : i.zero = some z)
    (hsize : i.size = size) (hby : i.bytes = bytes) (hzs : z.cells.size = size) (hsz : 0 < size)
    (v : Value) (n : Nat) (xs : List Value) (hs : a.eval s = v) (hown : w.ownsRow base e size v n xs)
    (ad : Addr) (m c : Nat) (news : List Value) (hx : a.eval x = .slice (some ad) m c) (hl : news.length = m * size) (hnews : ∀ j u, news[j]? = some u → w.cell? (ad.add j) = some u) (h1 : ∀ u ∈ news, u.oneCell' = true)
    (h63 : n + m ≤ maxLen) (hbytes : (n + m) * bytes ≤ 140737488355328) (hbase : base ≤ w.heap.size) (hm : 0 < m)
    (h : ∀ v' w', w'.ownsRow base e size v' (n + m) (xs ++ news) → w.grownBy w' v.ownBlock → (v'.ownBlock = v.ownBlock ∨ ∃ k, v'.ownBlock = some k ∧ w.heap.size ≤ k) → wpList P ops Q rest (a.put o.dst v') w') : wpList P ops Q (o :: rest) a w := by
  refine wpList_plain hgd fun K hK' => ?_
  obtain ⟨v', w', hrun, r1, r2, r3⟩ := run_append_own2 (P := P) w base t o.type e i z size bytes ht hi hz hsize hby hzs hsz v n xs hown ad m c news hl hnews h1 h63 hbytes hbase hm
  unfold Oper.wp
  simp [execOp, ho, resolve, invoke, builtin, hs, hx, hrun, Result.andThen]
  exact hK' _ _ (h v' w' r1 r2 r3)

theorem infoPat : (Tryz.prog.info? 27).map (fun i => (i.zero, i.size, i.bytes)) = some (some (.agg #[.int .i64 0, .string ⟨#[]⟩, .slice Option.none 0 0]), 3, 48) := by kernel_rfl

/-- The cells of some patterns, one behind the other, their slices given. -/
def flat (qs : List (Ls.Pat × Value)) : List Value := qs.flatMap fun q => patC q.1 q.2

theorem flat_length (qs : List (Ls.Pat × Value)) : (flat qs).length = qs.length * 3 := by
  induction qs with
  | nil => rfl
  | cons q r ih => simp only [flat, List.flatMap_cons, List.length_append, List.length_cons] at ih ⊢; rw [ih]; simp; omega

theorem flat_append (a b : List (Ls.Pat × Value)) : flat (a ++ b) = flat a ++ flat b := by simp [flat]

theorem flat_get (qs : List (Ls.Pat × Value)) (i j : Nat) (hj : j < 3) (hi : i < qs.length) : (flat qs)[i * 3 + j]? = (patC qs[i].1 qs[i].2)[j]? := by
  induction qs generalizing i with
  | nil => simp at hi
  | cons q r ih =>
    show (patC q.1 q.2 ++ flat r)[i * 3 + j]? = _
    cases i with
    | zero => rw [List.getElem?_append_left (by simp; omega)]; simp
    | succ i =>
      rw [List.getElem?_append_right (by simp; omega)]
      rw [show (i + 1) * 3 + j - (patC q.1 q.2).length = i * 3 + j from by simp; omega]
      rw [ih i (by simpa using hi)]
      simp

/-- A row of the call's own (from block 'base' on) shows some patterns; what they reach is in G, and not the row itself. -/
structure LV (w : World) (base : Nat) (G : Nat → Prop) (v : Value) (qs : List (Ls.Pat × Value)) : Prop where
  own : w.ownsRow base 27 3 v qs.length (flat qs)
  each : ∀ q, q ∈ qs → PV w G q.1 q.2
  apart : ∀ k, G k → some k ≠ v.ownBlock
  old : Old w G

end Go.Proofs.YtfklinjaajafgaaGreatDoor

namespace Go.Proofs.YtfklinjaajafgaaGreatDoor
open Go.RowKit

theorem grownBy_of_below {w w' : World} (h : Below w.heap.size w w') (r : Option Nat) : w.grownBy w' r := ⟨h.os, h.tape, h.output, h.size, fun k hk _ => h.block k hk⟩

theorem grownBy_trans {a b c : World} {r : Option Nat} (h : a.grownBy b r) (k : b.grownBy c r) : a.grownBy c r :=
  ⟨k.os.trans h.os, k.tape.trans h.tape, k.output.trans h.output, Nat.le_trans h.size k.size, fun i hi hr => (k.block i (Nat.lt_of_lt_of_le hi h.size) hr).trans (h.block i hi hr)⟩

theorem LV.cells {w : World} {base : Nat} {G : Nat → Prop} {g cap : Nat} {qs : List (Ls.Pat × Value)} (h : LV w base G (.slice (some ⟨g, 0, Option.none⟩) qs.length cap) qs) (i : Nat) (hi : i < qs.length) :
    w.cell? ⟨g, i * 3, Option.none⟩ = some (.int .i64 qs[i].1.kind) ∧ w.cell? ⟨g, i * 3 + 1, Option.none⟩ = some (.string ⟨qs[i].1.signs.toArray⟩) ∧ w.cell? ⟨g, i * 3 + 2, Option.none⟩ = some qs[i].2 := by
  refine ⟨?_, ?_, ?_⟩
  · rw [h.own.cellAt (i * 3) (by omega)]; have := flat_get qs i 0 (by omega) hi; simpa using this
  · rw [h.own.cellAt (i * 3 + 1) (by omega), flat_get qs i 1 (by omega) hi]; rfl
  · rw [h.own.cellAt (i * 3 + 2) (by omega), flat_get qs i 2 (by omega) hi]; rfl

theorem LV.kept {w w' : World} {base : Nat} {G : Nat → Prop} {v : Value} {qs : List (Ls.Pat × Value)} (h : LV w base G v qs) (hb : Below w.heap.size w w') : LV w' base G v qs :=
  ⟨h.own.kept (grownBy_of_below hb Option.none) (by cases hv : v.ownBlock <;> simp), fun q hq => (h.each q hq).below hb h.old fun _ h => h, h.apart, h.old.below hb⟩

theorem LV.pushed {w w' : World} {base : Nat} {G : Nat → Prop} {v v' : Value} {qs : List (Ls.Pat × Value)} (h : LV w base G v qs) {p : Ls.Pat} {y : Value} (hp : PV w G p y) (hg : w.grownBy w' v.ownBlock)
    (hown : w'.ownsRow base 27 3 v' (qs.length + 1) (flat qs ++ patC p y)) (hv : v'.ownBlock = v.ownBlock ∨ ∃ k, v'.ownBlock = some k ∧ w.heap.size ≤ k) : LV w' base G v' (qs ++ [(p, y)]) := by
  have hk : ∀ k, G k → w'.heap[k]? = w.heap[k]? := fun k hk => hg.block k (h.old k hk) (h.apart k hk)
  refine ⟨?_, ?_, ?_, ?_⟩
  · rw [flat_append, List.length_append]; exact hown
  · intro q hq
    rcases List.mem_append.1 hq with hq | hq
    · exact PV.mono (fun _ h => h) hk _ _ (h.each q hq)
    · simp only [List.mem_singleton] at hq
      subst hq
      exact PV.mono (fun _ h => h) hk _ _ hp
  · intro k hG
    rcases hv with hv | ⟨m, hv, hm⟩
    · rw [hv]; exact h.apart k hG
    · rw [hv]; have := h.old k hG; intro e; injection e with e; omega
  · exact fun k hG => Nat.lt_of_lt_of_le (h.old k hG) hg.size

theorem patC_one {p : Ls.Pat} {y : Value} {w : World} {G : Nat → Prop} (hp : PV w G p y) : ∀ u ∈ patC p y, u.oneCell' = true := by
  obtain ⟨a, n, c, rfl⟩ := PV.slice _ _ hp
  intro u hu
  simp only [List.mem_cons, List.not_mem_nil, or_false] at hu
  rcases hu with rfl | rfl | rfl <;> rfl

theorem cells_new3 (w : World) (p : Ls.Pat) (y : Value) : ∀ j u, (patC p y)[j]? = some u → (w.alloc (.cells #[.int .i64 p.kind, .string ⟨p.signs.toArray⟩, y] 27)).cell? ((⟨w.heap.size, 0, Option.none⟩ : Addr).add j) = some u := by
  intro j u hu
  have hl := lies_new w (patC p y)
  have := hl.cell j
  rw [hu] at this
  rw [← this]
  unfold Addr.add
  split
  · subst_vars; rfl
  · simp

/-- What put answers of l and p. -/
def PutPost (w : World) (base : Nat) (G : Nat → Prop) (v : Value) (qs : List (Ls.Pat × Value)) (p : Ls.Pat) : Ending → World → Prop := fun e w' =>
  ∃ v' qs', e = .returned v' ∧ qs'.map (·.1) = Ls.put (qs.map (·.1)) p ∧ LV w' base G v' qs' ∧ w.grownBy w' v.ownBlock ∧ (v'.ownBlock = v.ownBlock ∨ ∃ k, v'.ownBlock = some k ∧ w.heap.size ≤ k)

theorem put_found {qs : List (Ls.Pat × Value)} {p : Ls.Pat} {k : Nat} (hk : k < qs.length) (h : Ls.key qs[k].1 = Ls.key p) : Ls.put (qs.map (·.1)) p = qs.map (·.1) := by
  unfold Ls.put
  rw [if_pos]
  rw [List.any_eq_true]
  exact ⟨qs[k].1, List.mem_map.2 ⟨qs[k], List.getElem_mem hk, rfl⟩, by simp [h]⟩

theorem put_lacks {qs : List (Ls.Pat × Value)} {p : Ls.Pat} (h : ∀ q, q ∈ qs → Ls.key q.1 ≠ Ls.key p) (y : Value) : (qs ++ [(p, y)]).map (·.1) = Ls.put (qs.map (·.1)) p := by
  unfold Ls.put
  rw [if_neg]
  · simp
  · rw [List.any_eq_true]
    rintro ⟨x, hx, hq⟩
    obtain ⟨q, hq1, rfl⟩ := List.mem_map.1 hx
    exact h q hq1 (by simpa using hq)

set_option maxRecDepth 100000 in
set_option maxHeartbeats 800000 in
theorem put_some (w : World) (base : Nat) (hbase : base ≤ w.heap.size) (G : Nat → Prop) (g cap : Nat) (qs : List (Ls.Pat × Value)) (h : LV w base G (.slice (some ⟨g, 0, Option.none⟩) qs.length cap) qs) (hn : qs.length ≤ 1000000000)
    (hq : ∀ q, q ∈ qs → Ls.wf q.1 ∧ (Ls.key q.1).length ≤ 4611686018427387904) (p : Ls.Pat) (y : Value) (hp : PV w G p y) (hwp : Ls.wf p) (hkp : (Ls.key p).length ≤ 4611686018427387904) :
    Calls Tryz.prog 92 #[.slice (some ⟨g, 0, Option.none⟩) qs.length cap, patA p y] w (PutPost w base G (.slice (some ⟨g, 0, Option.none⟩) qs.length cap) qs p) := by
  have Hq : Hid (∀ q, q ∈ qs → Ls.wf q.1 ∧ (Ls.key q.1).length ≤ 4611686018427387904) := hq
  clear hq
  go_enter Tryz.func92, Tryz.ntmps92
  go_wp2_with fail
  refine (key_any p hwp hkp y _ G (Old.alloc h.old _) (hp.below (below_alloc1 _ _) h.old fun _ h => h)).mono ?_
  rintro e w1 ⟨rfl, hb1⟩
  have hb0 := Below.join (below_alloc1 w (.cells #[.int .i64 p.kind, .string ⟨p.signs.toArray⟩, y] 27)) hb1
  have hz0 := hb1.size
  simp at hz0
  have b0 : w1.cell? ⟨w.heap.size, 0, Option.none⟩ = some (.int .i64 p.kind) := (hb1.cell (p := ⟨w.heap.size, 0, Option.none⟩) (by simp)).trans ((lies_new w (patC p y)).cell 0)
  have b1 : w1.cell? ⟨w.heap.size, 1, Option.none⟩ = some (.string ⟨p.signs.toArray⟩) := (hb1.cell (p := ⟨w.heap.size, 1, Option.none⟩) (by simp)).trans ((lies_new w (patC p y)).cell 1)
  have b2 : w1.cell? ⟨w.heap.size, 2, Option.none⟩ = some y := (hb1.cell (p := ⟨w.heap.size, 2, Option.none⟩) (by simp)).trans ((lies_new w (patC p y)).cell 2)
  go_wp2_with fail
  go_loopw [6] (fun i wr => ∃ k : Nat, k ≤ qs.length ∧ i = .int .i64 k ∧ Below w1.heap.size w1 wr ∧ ∀ q, q ∈ qs.take k → Ls.key q.1 ≠ Ls.key p) (fun i _ => qs.length - (intOf i).toNat)
  case atStart => exact ⟨0, Nat.zero_le _, rfl, Below.refl _ _, by simp⟩
  case round =>
    obtain ⟨k, hk, rfl, hb2, hno⟩ := hrel
    have Hno : Hid (∀ q, q ∈ qs.take k → Ls.key q.1 ≠ Ls.key p) := hno
    clear hno
    have hbw := Below.join hb0 hb2
    have hv := h.kept hbw
    by_cases hlt : k < qs.length
    · obtain ⟨c0, c1, c2⟩ := hv.cells k hlt
      go_wp2_with fail
      have hqk := Hq.out qs[k] (List.getElem_mem hlt)
      refine (key_any qs[k].1 hqk.1 hqk.2 qs[k].2 _ G hv.old (hv.each _ (List.getElem_mem hlt))).mono ?_
      rintro e w3 ⟨rfl, hb3⟩
      by_cases hkey : Ls.key qs[k].1 = Ls.key p
      · have hkb : (Ls.key qs[k].1 == Ls.key p) = true := by simp [hkey]
        have Hkey : Hid (Ls.key qs[k].1 = Ls.key p) := hkey
        clear hkey
        go_wp2_with fail
        go_ret
        exact ⟨_, qs, rfl, (put_found hlt Hkey.out).symm, hv.kept hb3, grownBy_of_below (Below.join hbw hb3) _, .inl rfl⟩
      · have hkb : (Ls.key qs[k].1 == Ls.key p) = false := by simp [hkey]
        have Hkey : Hid (¬ Ls.key qs[k].1 = Ls.key p) := hkey
        clear hkey
        go_wp2_with fail
        go_roundw
        case rel =>
          refine ⟨k + 1, by omega, by go_num, Below.join hb2 hb3, fun q hq => ?_⟩
          rw [List.take_succ_eq_append_getElem hlt] at hq
          rcases List.mem_append.1 hq with hq | hq
          · exact Hno.out q hq
          · simp only [List.mem_singleton] at hq
            rw [hq]; exact Hkey.out
        case measure => simp [intOf]; omega
    · have r0 := (hb2.cell (p := ⟨w.heap.size, 0, Option.none⟩) (by show w.heap.size < _; omega)).trans b0
      have r1 := (hb2.cell (p := ⟨w.heap.size, 1, Option.none⟩) (by show w.heap.size < _; omega)).trans b1
      have r2 := (hb2.cell (p := ⟨w.heap.size, 2, Option.none⟩) (by show w.heap.size < _; omega)).trans b2
      have hz2 := hb2.size
      obtain ⟨i, hi, hz0, hz1, hzb⟩ := info_parts infoPat
      have hoa := hv.own.alloc (.cells #[.int .i64 p.kind, .string ⟨p.signs.toArray⟩, y] 27)
      have hcn := cells_new3 wr p y
      have hpo := patC_one hp
      go_wp2_with (at_builtin; refine wpList_append_own2 _ rfl _ _ 25 rfl base 27 i _ 3 48 Tryz.underlying25 hi hz0 hz1 hzb rfl (by omega) (.slice (some ⟨g, 0, Option.none⟩) qs.length cap) qs.length (flat qs) rfl hoa ⟨wr.heap.size, 0, Option.none⟩ 1 1 (patC p y) rfl ?l1 hcn hpo ?l2 ?l3 ?l4 ?l5 ?_)
      case l1 => rfl
      case l2 => unfold maxLen; omega
      case l3 => omega
      case l4 => simp; omega
      case l5 => omega
      intro v' w' ho hg hvv
      go_wp2_with fail
      go_ret
      have hk1 : k = qs.length := by omega
      have hno := Hno.out
      rw [hk1, List.take_length] at hno
      have hva := hv.kept (below_alloc1 wr (.cells #[.int .i64 p.kind, .string ⟨p.signs.toArray⟩, y] 27))
      have hbx := Below.join hbw (below_alloc1 wr (.cells #[.int .i64 p.kind, .string ⟨p.signs.toArray⟩, y] 27))
      refine ⟨v', qs ++ [(p, y)], rfl, put_lacks hno y, hva.pushed (hp.below hbx h.old fun _ h => h) hg ho (by simpa using hvv), grownBy_trans (grownBy_of_below hbx _) hg, ?_⟩
      rcases hvv with hvv | ⟨m, hvv, hm⟩
      · exact .inl hvv
      · exact .inr ⟨m, hvv, by have := hbw.size; omega⟩

set_option maxRecDepth 100000 in
set_option maxHeartbeats 800000 in
theorem put_nil (w : World) (base : Nat) (hbase : base ≤ w.heap.size) (G : Nat → Prop) (h : LV w base G (.slice Option.none 0 0) [])
    (p : Ls.Pat) (y : Value) (hp : PV w G p y) (hwp : Ls.wf p) (hkp : (Ls.key p).length ≤ 4611686018427387904) :
    Calls Tryz.prog 92 #[.slice Option.none 0 0, patA p y] w (PutPost w base G (.slice Option.none 0 0) [] p) := by
  go_enter Tryz.func92, Tryz.ntmps92
  go_wp2_with fail
  refine (key_any p hwp hkp y _ G (Old.alloc h.old _) (hp.below (below_alloc1 _ _) h.old fun _ h => h)).mono ?_
  rintro e w1 ⟨rfl, hb1⟩
  have hb0 := Below.join (below_alloc1 w (.cells #[.int .i64 p.kind, .string ⟨p.signs.toArray⟩, y] 27)) hb1
  have hz0 := hb1.size
  simp at hz0
  have b0 : w1.cell? ⟨w.heap.size, 0, Option.none⟩ = some (.int .i64 p.kind) := (hb1.cell (p := ⟨w.heap.size, 0, Option.none⟩) (by simp)).trans ((lies_new w (patC p y)).cell 0)
  have b1 : w1.cell? ⟨w.heap.size, 1, Option.none⟩ = some (.string ⟨p.signs.toArray⟩) := (hb1.cell (p := ⟨w.heap.size, 1, Option.none⟩) (by simp)).trans ((lies_new w (patC p y)).cell 1)
  have b2 : w1.cell? ⟨w.heap.size, 2, Option.none⟩ = some y := (hb1.cell (p := ⟨w.heap.size, 2, Option.none⟩) (by simp)).trans ((lies_new w (patC p y)).cell 2)
  have hv := h.kept hb0
  obtain ⟨i, hi, hi0, hi1, hib⟩ := info_parts infoPat
  have hoa := hv.own.alloc (.cells #[.int .i64 p.kind, .string ⟨p.signs.toArray⟩, y] 27)
  have hcn := cells_new3 w1 p y
  have hpo := patC_one hp
  go_wp2_with fail
  refine wp_loop_rounds 1 ?_
  rw [rounds_succ]
  go_wp2_with (at_builtin; refine wpList_append_own2 _ rfl _ _ 25 rfl base 27 i _ 3 48 Tryz.underlying25 hi hi0 hi1 hib rfl (by omega) (.slice Option.none 0 0) 0 (flat []) rfl hoa ⟨w1.heap.size, 0, Option.none⟩ 1 1 (patC p y) rfl ?l1 hcn hpo ?l2 ?l3 ?l4 ?l5 ?_)
  case l1 => rfl
  case l2 => unfold maxLen; omega
  case l3 => omega
  case l4 => simp; omega
  case l5 => omega
  intro v' w' ho hg hvv
  go_wp2_with fail
  go_ret
  have hva := hv.kept (below_alloc1 w1 (.cells #[.int .i64 p.kind, .string ⟨p.signs.toArray⟩, y] 27))
  have hbx := Below.join hb0 (below_alloc1 w1 (.cells #[.int .i64 p.kind, .string ⟨p.signs.toArray⟩, y] 27))
  refine ⟨v', [] ++ [(p, y)], rfl, put_lacks (by simp) y, hva.pushed (hp.below hbx h.old fun _ h => h) hg ho (by simpa using hvv), grownBy_trans (grownBy_of_below hbx _) hg, ?_⟩
  rcases hvv with hvv | ⟨m, hvv, hm⟩
  · exact .inl hvv
  · exact .inr ⟨m, hvv, by omega⟩

/-- put, whatever the list. -/
theorem put_any (w : World) (base : Nat) (hbase : base ≤ w.heap.size) (G : Nat → Prop) (v : Value) (qs : List (Ls.Pat × Value)) (h : LV w base G v qs) (hn : qs.length ≤ 1000000000)
    (hq : ∀ q, q ∈ qs → Ls.wf q.1 ∧ (Ls.key q.1).length ≤ 4611686018427387904) (p : Ls.Pat) (y : Value) (hp : PV w G p y) (hwp : Ls.wf p) (hkp : (Ls.key p).length ≤ 4611686018427387904) :
    Calls Tryz.prog 92 #[v, patA p y] w (PutPost w base G v qs p) := by
  rcases h.own.2 with ⟨rfl, h0⟩ | ⟨g, cap, cur, rfl, _⟩
  · have : qs = [] := List.eq_nil_of_length_eq_zero h0
    subst this
    exact put_nil w base hbase G h p y hp hwp hkp
  · exact put_some w base hbase G g cap qs h hn hq p y hp hwp hkp

end Go.Proofs.YtfklinjaajafgaaGreatDoor

namespace Go.Proofs.YtfklinjaajafgaaGreatDoor
open Go.RowKit

/-- What some patterns of a row may reach: what was in G, or is from B0 on; not the row itself. -/
def GG (G : Nat → Prop) (B0 : Nat) (w : World) (v : Value) : Nat → Prop := fun k => (G k ∨ B0 ≤ k) ∧ k < w.heap.size ∧ some k ≠ v.ownBlock

abbrev LW (G : Nat → Prop) (B0 : Nat) (w : World) (base : Nat) (v : Value) (qs : List (Ls.Pat × Value)) : Prop := LV w base (GG G B0 w v) v qs

theorem LW.of {G : Nat → Prop} {B0 : Nat} {w : World} {base : Nat} {v : Value} {qs : List (Ls.Pat × Value)} {H : Nat → Prop} (h : LV w base H v qs) (hH : ∀ k, H k → G k ∨ B0 ≤ k) : LW G B0 w base v qs :=
  ⟨h.own, fun q hq => PV.mono (fun k hk => ⟨hH k hk, h.old k hk, h.apart k hk⟩) (fun _ _ => rfl) _ _ (h.each q hq), fun _ hk => hk.2.2, fun _ hk => hk.2.1⟩

theorem LW.nil (G : Nat → Prop) (B0 : Nat) (w : World) (base : Nat) : LW G B0 w base (.slice Option.none 0 0) [] :=
  ⟨World.ownsRow_nil _ _ _ _, by simp, fun _ hk => hk.2.2, fun _ hk => hk.2.1⟩

theorem LW.below {G : Nat → Prop} {B0 : Nat} {w w' : World} {base : Nat} {v : Value} {qs : List (Ls.Pat × Value)} (h : LW G B0 w base v qs) (hb : Below w.heap.size w w') : LW G B0 w' base v qs :=
  LW.of (h.kept hb) fun _ hk => hk.1

/-- A list that grows from v0 (as it was in w2) on. -/
structure Grows (G : Nat → Prop) (B0 : Nat) (w2 : World) (base : Nat) (v0 : Value) (w : World) (v : Value) (qs : List (Ls.Pat × Value)) : Prop where
  lw : LW G B0 w base v qs
  grown : w2.grownBy w v0.ownBlock
  row : v.ownBlock = v0.ownBlock ∨ ∃ k, v.ownBlock = some k ∧ w2.heap.size ≤ k

theorem Grows.start {G : Nat → Prop} {B0 : Nat} {w2 : World} {base : Nat} {v0 : Value} {qs : List (Ls.Pat × Value)} (h : LW G B0 w2 base v0 qs) : Grows G B0 w2 base v0 w2 v0 qs :=
  ⟨h, World.grownBy.refl _ _, .inl rfl⟩

theorem Grows.below {G : Nat → Prop} {B0 : Nat} {w2 : World} {base : Nat} {v0 : Value} {w w' : World} {v : Value} {qs : List (Ls.Pat × Value)} (h : Grows G B0 w2 base v0 w v qs) (hb : Below w.heap.size w w') : Grows G B0 w2 base v0 w' v qs :=
  ⟨h.lw.below hb, grownBy_trans h.grown (grownBy_of_below hb _), h.row⟩

/-- A block of w2 other than the first row is as it was. -/
theorem Grows.block {G : Nat → Prop} {B0 : Nat} {w2 : World} {base : Nat} {v0 : Value} {w : World} {v : Value} {qs : List (Ls.Pat × Value)} (h : Grows G B0 w2 base v0 w v qs) {k : Nat} (hk : k < w2.heap.size) (hne : some k ≠ v0.ownBlock) : w.heap[k]? = w2.heap[k]? ∧ some k ≠ v.ownBlock := by
  refine ⟨h.grown.block k hk hne, ?_⟩
  rcases h.row with e | ⟨m, e, hm⟩
  · rw [e]; exact hne
  · rw [e]; intro e2; injection e2 with e2; omega

/-- A pattern that was shown in w2, away from the first row, may be put into the list. -/
theorem Grows.fits {G : Nat → Prop} {B0 : Nat} {w2 : World} {base : Nat} {v0 : Value} {w : World} {v : Value} {qs : List (Ls.Pat × Value)} (h : Grows G B0 w2 base v0 w v qs) {H : Nat → Prop} (hH : ∀ k, H k → (G k ∨ B0 ≤ k) ∧ k < w2.heap.size ∧ some k ≠ v0.ownBlock)
    {p : Ls.Pat} {y : Value} (hp : PV w2 H p y) : PV w (GG G B0 w v) p y :=
  PV.mono (fun k hk => ⟨(hH k hk).1, Nat.lt_of_lt_of_le (hH k hk).2.1 h.grown.size, (h.block (hH k hk).2.1 (hH k hk).2.2).2⟩) (fun k hk => (h.block (hH k hk).2.1 (hH k hk).2.2).1) _ _ hp

/-- One more put. -/
theorem Grows.put {G : Nat → Prop} {B0 : Nat} {w2 : World} {base : Nat} {v0 : Value} {w : World} {v : Value} {qs : List (Ls.Pat × Value)} (h : Grows G B0 w2 base v0 w v qs) {p : Ls.Pat} {e : Ending} {w' : World} (hp : PutPost w base (GG G B0 w v) v qs p e w') :
    ∃ v' qs', e = .returned v' ∧ qs'.map (·.1) = Ls.put (qs.map (·.1)) p ∧ Grows G B0 w2 base v0 w' v' qs' := by
  obtain ⟨v', qs', he, hm, hl, hg, hr⟩ := hp
  refine ⟨v', qs', he, hm, LW.of hl fun _ hk => hk.1, ?_, ?_⟩
  · refine ⟨hg.os.trans h.grown.os, hg.tape.trans h.grown.tape, hg.output.trans h.grown.output, Nat.le_trans h.grown.size hg.size, fun k hk hne => ?_⟩
    obtain ⟨h1, h2⟩ := h.block hk hne
    exact (hg.block k (Nat.lt_of_lt_of_le hk h.grown.size) h2).trans h1
  · rcases hr with e | ⟨m, e, hm⟩
    · rw [e]; exact h.row
    · exact .inr ⟨m, e, Nat.le_trans h.grown.size hm⟩

/-- The row of another list, made in w1 .. w2 and not the first row, is as it was. -/
theorem Grows.other {G : Nat → Prop} {B0 : Nat} {w2 : World} {base : Nat} {v0 : Value} {w : World} {v : Value} {qs : List (Ls.Pat × Value)} (h : Grows G B0 w2 base v0 w v qs) {base' : Nat} {vm : Value} {n : Nat} {xs : List Value} (hm : w2.ownsRow base' 27 3 vm n xs) (hne : vm.ownBlock = Option.none ∨ vm.ownBlock ≠ v0.ownBlock) : w.ownsRow base' 27 3 vm n xs :=
  hm.kept h.grown hne

end Go.Proofs.YtfklinjaajafgaaGreatDoor
