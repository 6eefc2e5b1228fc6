import Derived.Test.YtfklinjaajafgaaGreatDoorPlain
import Derived.Test.YtfklinjaajafgaaGreatDoorPats
/- Rows of the search's states: their shape, how many there can be. -/
namespace Go.Proofs.YtfklinjaajafgaaGreatDoor
open Go.RowKit

theorem ownsRow_cut {w : World} {base : Nat} {e : TypeId} {size : Nat} {v : Value} {n : Nat} {xs : List Value} (h : w.ownsRow base e size v n xs) : (v = .slice Option.none 0 0 ∧ n = 0) ∨ ∃ g cap, v = .slice (some ⟨g, 0, Option.none⟩) n cap := by
  rcases h.2 with ⟨h1, h2⟩ | ⟨g, cap, cur, e, _⟩
  · exact .inl ⟨h1, h2⟩
  · exact .inr ⟨g, cap, e⟩

/-- All states below a number. -/
def allSt (N : Nat) : List Ls.Pr := [0, 1, 2].flatMap fun ph => (List.range N).flatMap fun x => (List.range N).map fun y => (ph, x, y)
theorem flatMap_size {α : Type} (l : List α) (f : α → List Ls.Pr) (n : Nat) (h : ∀ a, (f a).length = n) : (l.flatMap f).length = l.length * n := by
  induction l with
  | nil => simp
  | cons x l ih => rw [List.flatMap_cons, List.length_append, ih, h]; simp [Nat.add_mul]; omega
theorem allSt_length (N : Nat) : (allSt N).length = 3 * (N * N) := by
  unfold allSt
  rw [flatMap_size _ _ (N * N) (fun ph => by rw [flatMap_size _ _ N (fun x => by simp)]; simp)]
  rfl
theorem states_length {N : Nat} {l : List Ls.Pr} (h : l.Nodup) (hr : ∀ a, a ∈ l → (a.1 = 0 ∨ a.1 = 1 ∨ a.1 = 2) ∧ a.2.1 < N ∧ a.2.2 < N) : l.length ≤ 3 * (N * N) := by
  rw [← allSt_length]
  refine Ls.nodup_le _ _ h (fun a ha => ?_)
  obtain ⟨h1, h2, h3⟩ := hr a ha
  obtain ⟨p, x, y⟩ := a
  unfold allSt
  simp only [List.mem_flatMap, List.mem_map, List.mem_range]
  refine ⟨p, ?_, x, h2, y, h3, rfl⟩
  simp only at h1
  rcases h1 with rfl | rfl | rfl <;> simp

end Go.Proofs.YtfklinjaajafgaaGreatDoor
