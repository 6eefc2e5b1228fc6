import Derived.Test.YtfklinjaajafgaaGreatDoorLsOO
/- Once in plain mathematics: what a pair leads to. -/
namespace Go.Proofs.YtfklinjaajafgaaGreatDoor
open Go.RowKit

def crossO (S T : Ls.Tab) (a : Ls.Pr) (k : Nat) : List Ls.Pr := if a.1 = 0 ∧ S.ends[a.2.1]? = some true then prs 1 (S.row a.2.2 k) (T.row 0 k) else []
def stayO (S T : Ls.Tab) (a : Ls.Pr) (k : Nat) : List Ls.Pr := prs a.1 ((Ls.sideX S T a.1).row a.2.1 k) ((Ls.sideY S T a.1).row a.2.2 k)
/-- What the pair a leads to by the letters below k. -/
def sucO (S T : Ls.Tab) (a : Ls.Pr) (k : Nat) : List Ls.Pr := (List.range k).flatMap fun k => crossO S T a k ++ stayO S T a k
def lastO (S : Ls.Tab) (a : Ls.Pr) : List Ls.Pr := if a.1 = 1 ∧ S.ends[a.2.1]? = some true then [(2, a.2.2, 0)] else []

theorem sucO_succ (S T : Ls.Tab) (a : Ls.Pr) (k : Nat) : sucO S T a (k + 1) = sucO S T a k ++ (crossO S T a k ++ stayO S T a k) := by
  unfold sucO
  rw [List.range_succ, List.flatMap_append]
  simp

theorem mem_crossO {S T : Ls.Tab} {a b : Ls.Pr} {k : Nat} : b ∈ crossO S T a k ↔ (a.1 = 0 ∧ S.ends[a.2.1]? = some true ∧ b.1 = 1 ∧ S.go a.2.2 k b.2.1 ∧ T.go 0 k b.2.2) := by
  unfold crossO
  split
  · rename_i h
    rw [mem_prs]
    simp only [Ls.Tab.mem_row]
    constructor
    · rintro ⟨h1, h2, h3⟩; exact ⟨h.1, h.2, h1, h2, h3⟩
    · rintro ⟨_, _, h1, h2, h3⟩; exact ⟨h1, h2, h3⟩
  · rename_i h
    simp only [List.not_mem_nil, false_iff]
    rintro ⟨h1, h2, _⟩
    exact h ⟨h1, h2⟩

theorem mem_stayO {S T : Ls.Tab} {a b : Ls.Pr} {k : Nat} : b ∈ stayO S T a k ↔ (b.1 = a.1 ∧ (Ls.sideX S T a.1).go a.2.1 k b.2.1 ∧ (Ls.sideY S T a.1).go a.2.2 k b.2.2) := by
  unfold stayO
  rw [mem_prs]
  simp only [Ls.Tab.mem_row]

theorem mem_sucO {S T : Ls.Tab} {a b : Ls.Pr} {n : Nat} : b ∈ sucO S T a n ++ lastO S a ↔ Ls.edgeO S T n a b := by
  unfold sucO lastO Ls.edgeO
  simp only [List.mem_append, List.mem_flatMap, List.mem_range, mem_crossO, mem_stayO]
  constructor
  · rintro (⟨k, hk, h | h⟩ | h)
    · exact .inr (.inl ⟨h.1, h.2.1, h.2.2.1, k, hk, h.2.2.2⟩)
    · exact .inl ⟨h.1, k, hk, h.2⟩
    · split at h
      · rename_i h1
        simp only [List.mem_singleton] at h
        exact .inr (.inr ⟨h1.1, h1.2, h⟩)
      · simp at h
  · rintro (⟨h1, k, hk, h2⟩ | ⟨h1, h2, h3, k, hk, h4⟩ | ⟨h1, h2, h3⟩)
    · exact .inl ⟨k, hk, .inr ⟨h1, h2⟩⟩
    · exact .inl ⟨k, hk, .inl ⟨h1, h2, h3, h4⟩⟩
    · refine .inr ?_
      rw [if_pos ⟨h1, h2⟩]
      simp [h3]

theorem edgeO_mono {S T : Ls.Tab} {a b : Ls.Pr} {k n : Nat} (h : Ls.edgeO S T k a b) (hk : k ≤ n) : Ls.edgeO S T n a b := by
  rcases h with ⟨h1, k', h2, h3⟩ | ⟨h1, h2, h3, k', h4, h5⟩ | h
  · exact .inl ⟨h1, k', by omega, h3⟩
  · exact .inr (.inl ⟨h1, h2, h3, k', by omega, h5⟩)
  · exact .inr (.inr h)

theorem mem_sucO' {S T : Ls.Tab} {a b : Ls.Pr} {k n : Nat} (h : b ∈ sucO S T a k) (hk : k ≤ n) : Ls.edgeO S T n a b :=
  edgeO_mono (mem_sucO.1 (List.mem_append.2 (.inl h))) hk

/-- Which numbers a pair may have. -/
def IO3 (ns nt : Nat) (a : Ls.Pr) : Prop := (a.1 = 0 ∧ a.2.1 < ns ∧ a.2.2 < ns) ∨ (a.1 = 1 ∧ a.2.1 < ns ∧ a.2.2 < nt) ∨ (a.1 = 2 ∧ a.2.1 < nt ∧ a.2.2 < nt)

theorem IO3.inR {ns nt : Nat} {a : Ls.Pr} (h : IO3 ns nt a) : (a.1 = 0 ∨ a.1 = 1 ∨ a.1 = 2) ∧ a.2.1 < max ns nt ∧ a.2.2 < max ns nt := by
  rcases h with ⟨h1, h2, h3⟩ | ⟨h1, h2, h3⟩ | ⟨h1, h2, h3⟩
  · exact ⟨.inl h1, by omega, by omega⟩
  · exact ⟨.inr (.inl h1), by omega, by omega⟩
  · exact ⟨.inr (.inr h1), by omega, by omega⟩

theorem IO3.step {p q : Ls.Pat} {L : List UInt8} {S T : Ls.Tab} {ss ts : List Ls.Pat} (hS : Ls.TabOf p L S ss) (hT : Ls.TabOf q L T ts) {a b : Ls.Pr} (h : IO3 ss.length ts.length a) (he : Ls.edgeO S T L.length a b) : IO3 ss.length ts.length b := by
  have h0T : 0 < ts.length := (List.getElem?_eq_some_iff.1 hT.first).1
  have rS : ∀ {i k j : Nat}, i < ss.length → k < L.length → S.go i k j → j < ss.length := fun hi hk hj => hS.row_lt hi hk _ ((S.mem_row _ _ _).2 hj)
  have rT : ∀ {i k j : Nat}, i < ts.length → k < L.length → T.go i k j → j < ts.length := fun hi hk hj => hT.row_lt hi hk _ ((T.mem_row _ _ _).2 hj)
  obtain ⟨ph, x, y⟩ := a
  obtain ⟨ph', x', y'⟩ := b
  rcases he with ⟨h1, k, hk, h2, h3⟩ | ⟨h1, _, h2, k, hk, h3, h4⟩ | ⟨h1, _, h2⟩
  · simp only at h1 h2 h3
    subst h1
    rcases h with ⟨e, h4, h5⟩ | ⟨e, h4, h5⟩ | ⟨e, h4, h5⟩ <;> simp only at e h4 h5 <;> subst e
    · exact .inl ⟨rfl, rS h4 hk h2, rS h5 hk h3⟩
    · exact .inr (.inl ⟨rfl, rS h4 hk h2, rT h5 hk h3⟩)
    · exact .inr (.inr ⟨rfl, rT h4 hk h2, rT h5 hk h3⟩)
  · simp only at h1 h2 h3 h4
    subst h1
    subst h2
    rcases h with ⟨_, _, h6⟩ | ⟨e, _⟩ | ⟨e, _⟩
    · exact .inr (.inl ⟨rfl, rS h6 hk h3, rT h0T hk h4⟩)
    · cases e
    · cases e
  · simp only at h1
    subst h1
    cases h2
    rcases h with ⟨e, _⟩ | ⟨_, _, h6⟩ | ⟨e, _⟩
    · cases e
    · exact .inr (.inr ⟨rfl, h6, h0T⟩)
    · cases e

end Go.Proofs.YtfklinjaajafgaaGreatDoor
