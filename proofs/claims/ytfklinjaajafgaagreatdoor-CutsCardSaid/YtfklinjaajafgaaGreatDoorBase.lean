import Derived.Test.YtfklinjaajafgaaGreatDoorPats
import Derived.Test.YtfklinjaajafgaaGreatDoorPlain
/- A text that is read place by place; what is new between two worlds. -/
namespace Go.Proofs.YtfklinjaajafgaaGreatDoor
open Go.RowKit

/-- The sign at a place; 0: there is none. -/
def nx (s : ByteArray) (i : Nat) : UInt8 := s.data.toList[i]?.getD 0

theorem nx_lt {s : ByteArray} {i : Nat} (h : i < s.size) : nx s i = s[i] := by
  unfold nx
  rw [List.getElem?_eq_getElem (by simpa using h)]
  rfl
theorem nx_ge {s : ByteArray} {i : Nat} (h : s.size ≤ i) : nx s i = 0 := by
  unfold nx
  rw [List.getElem?_eq_none (by simpa using h)]
  rfl

theorem below_drewN {w : World} (n : Nat) : Below w.heap.size w (w.drewN n) := by
  exact ⟨rfl, rfl, rfl, Nat.le_refl _, fun _ _ => rfl⟩

theorem grownBy_set (w : World) (pb o : Nat) (v : Value) : w.grownBy (w.setCell ⟨pb, o, Option.none⟩ v) (some pb) :=
  ⟨rfl, rfl, rfl, by simp [World.setCell], fun k _ hk => Below.heap_setCell _ _ _ _ (fun e => hk (by simp [e]))⟩

/-- Does the sign c stand here? -/
def sees (s : ByteArray) (i : Nat) (c : UInt8) : Bool := decide (i < s.size) && nx s i == c

/-- What is left of the text from place i on. -/
abbrev rest (s : ByteArray) (i : Nat) : List UInt8 := s.data.toList.drop i

theorem rest_lt {s : ByteArray} {i : Nat} (h : i < s.size) : rest s i = nx s i :: rest s (i + 1) := by
  rw [nx_lt h]
  exact List.drop_eq_getElem_cons (by simpa using h)
theorem rest_ge {s : ByteArray} {i : Nat} (h : s.size ≤ i) : rest s i = [] := List.drop_eq_nil_of_le (by simpa using h)
theorem rest_len (s : ByteArray) (i : Nat) : (rest s i).length = s.size - i := by simp

theorem mark_lt {s : ByteArray} {i : Nat} (h : Ls.mark (nx s i) = true) : i < s.size := by
  rcases Nat.lt_or_ge i s.size with h1 | h1
  · exact h1
  · rw [nx_ge h1] at h; exact absurd h (by decide)

theorem range1_no {s : ByteArray} {i : Nat} (h : Ls.mark (nx s i) = false) : Ls.range1 (rest s i) = .none := by
  rcases Nat.lt_or_ge i s.size with h1 | h1
  · rw [rest_lt h1]; unfold Ls.range1; dsimp only; rw [if_pos h]
  · rw [rest_ge h1]; rfl

theorem sees_true {s : ByteArray} {i : Nat} {c : UInt8} (h : sees s i c = true) : i < s.size ∧ nx s i = c := by simpa [sees] using h
theorem sees_rest {s : ByteArray} {i : Nat} {c : UInt8} (h : sees s i c = true) : rest s i = c :: rest s (i + 1) := by
  obtain ⟨h1, h2⟩ := sees_true h
  rw [rest_lt h1, h2]
theorem sees_head {s : ByteArray} {i : Nat} {c : UInt8} : ((rest s i).head? = some c) ↔ sees s i c = true := by
  rcases Nat.lt_or_ge i s.size with h1 | h1
  · rw [rest_lt h1]; simp [sees, h1]
  · rw [rest_ge h1]; simp [sees]; omega

theorem rest_tail (s : ByteArray) (i : Nat) : (rest s i).tail = rest s (i + 1) := by simp

theorem range1_one {s : ByteArray} {i : Nat} (h : Ls.mark (nx s i) = true) (h2 : sees s (i + 1) 45 = false) : Ls.range1 (rest s i) = some (nx s i, nx s i, rest s (i + 1)) := by
  rw [rest_lt (mark_lt h)]; unfold Ls.range1; dsimp only
  rw [if_neg (by simp [h]), if_neg (by rw [sees_head, h2]; simp)]

theorem range1_bad {s : ByteArray} {i : Nat} (h : Ls.mark (nx s i) = true) (h2 : sees s (i + 1) 45 = true) (h3 : Ls.mark (nx s (i + 1 + 1)) = false ∨ (nx s (i + 1 + 1)).toNat < (nx s i).toNat) : Ls.range1 (rest s i) = .none := by
  rw [rest_lt (mark_lt h)]; unfold Ls.range1; dsimp only
  rw [if_neg (by simp [h]), if_pos (sees_head.2 h2), rest_tail]
  rcases Nat.lt_or_ge (i + 1 + 1) s.size with h1 | h1
  · rw [rest_lt h1]; dsimp only; rw [if_pos h3]
  · rw [rest_ge h1]

theorem range1_two {s : ByteArray} {i : Nat} (h : Ls.mark (nx s i) = true) (h2 : sees s (i + 1) 45 = true) (h3 : Ls.mark (nx s (i + 1 + 1)) = true) (h4 : ¬ (nx s (i + 1 + 1)).toNat < (nx s i).toNat) : Ls.range1 (rest s i) = some (nx s i, nx s (i + 1 + 1), rest s (i + 1 + 1 + 1)) := by
  rw [rest_lt (mark_lt h)]; unfold Ls.range1; dsimp only
  rw [if_neg (by simp [h]), if_pos (sees_head.2 h2), rest_tail, rest_lt (mark_lt h3)]
  dsimp only
  rw [if_neg (by rw [h3]; simp; omega)]

theorem rngTo_succ (acc : List UInt8) (a b : UInt8) (n : Nat) : Ls.rngTo acc a b (n + 1) = if a.toNat ≤ n ∧ n ≤ b.toNat ∧ Ls.has (Ls.rngTo acc a b n) (UInt8.ofNat n) = false then Ls.rngTo acc a b n ++ [UInt8.ofNat n] else Ls.rngTo acc a b n := by
  unfold Ls.rngTo
  rw [List.range_succ, List.foldl_append]
  rfl

theorem rngTo_length (acc : List UInt8) (a b : UInt8) (n : Nat) : (Ls.rngTo acc a b n).length ≤ acc.length + n := by
  induction n with
  | zero => simp [Ls.rngTo]
  | succ n ih =>
    rw [rngTo_succ]
    split
    · rw [List.length_append]; simp only [List.length_cons, List.length_nil]; omega
    · omega

/-- What is new between two worlds. -/
def New (w w' : World) : Nat → Prop := fun k => w.heap.size ≤ k ∧ k < w'.heap.size

/-- A text that is read to its end. -/
def readAll (l : List UInt8) : Option Ls.D :=
  match Ls.pat 13 l with
  | .none => .none
  | some (d, t) => if t = [] then some d else .none

/-- The error of a pattern's text. -/
def readErr (l : List UInt8) : Nat :=
  if 120 < l.length then 1 else
  match readAll l with
  | .none => 2
  | some d => if 24 < Ls.dsize d then 3 else 0

end Go.Proofs.YtfklinjaajafgaaGreatDoor
