import Derived.Test.YtfklinjaajafgaaGreatDoorBase
import Derived.Test.YtfklinjaajafgaaGreatDoorPlain
/- What Once and Apart are to answer. -/
namespace Go.Proofs.YtfklinjaajafgaaGreatDoor
open Go.RowKit

theorem readErr_le3 (p : List UInt8) : readErr p ≤ 3 := by
  unfold readErr
  split
  · omega
  · split
    · omega
    · split <;> omega

/-- The error of two patterns. -/
def cutErr (a b : List UInt8) : Nat := if readErr a = 0 then readErr b else readErr a

/-- What Once or Apart is to answer; F: what no text is to do. -/
def CutPost (F : Ls.Pat → Ls.Pat → Prop) (a b : ByteArray) (w : World) : Ending → World → Prop := fun e w' =>
  ∃ x : Bool, e = .returned (.tuple #[.bool x, .int .i64 (cutErr a.data.toList b.data.toList)]) ∧ (cutErr a.data.toList b.data.toList ≠ 0 → x = false) ∧
    (∀ c d, readAll a.data.toList = some c → readAll b.data.toList = some d → cutErr a.data.toList b.data.toList = 0 → (x = true ↔ ¬ F (Ls.toPat c) (Ls.toPat d))) ∧ Below w.heap.size w w'

/-- A pattern that is read: its room, its signs, its few states. -/
theorem read_all {s : List UInt8} {d : Ls.D} (h1 : readErr s = 0) (h2 : readAll s = some d) : Ls.Room (Ls.toPat d :: Ls.pds (Ls.toPat d)) ∧ Ls.Signed (Ls.toPat d) ∧ (Ls.toPat d :: Ls.pds (Ls.toPat d)).length ≤ 991233 := by
  unfold readErr at h1
  have hl : ¬ 120 < s.length := by intro h; rw [if_pos h] at h1; cases h1
  unfold readAll at h2
  split at h2
  · cases h2
  · rename_i d' t' hpat
    split at h2
    · simp at h2; subst h2
      exact ⟨Ls.read_room hpat (by omega), Ls.pat_sg 13 _ _ _ hpat, Ls.read_few hpat (by omega)⟩
    · cases h2

end Go.Proofs.YtfklinjaajafgaaGreatDoor
