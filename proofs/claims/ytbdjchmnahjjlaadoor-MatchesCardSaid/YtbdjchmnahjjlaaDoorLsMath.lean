/- The document's patterns as plain data, and what each function of the reference computes. Imports nothing of the program. -/
namespace Ls

/-- A pattern: the kinds are the reference's (0 none, 1 set, 2 row, 3 any, 4 star). -/
structure Pat where
  kind : Nat
  signs : List UInt8
  parts : List Pat

def none : Pat := ⟨0, [], []⟩
def set (s : List UInt8) : Pat := ⟨1, s, []⟩
def rowB (a b : Pat) : Pat := ⟨2, [], [a, b]⟩
def any (a b : Pat) : Pat := ⟨3, [], [a, b]⟩
def star (a : Pat) : Pat := ⟨4, [], [a]⟩
def row (a b : Pat) : Pat := if a.kind = 0 then b else if b.kind = 0 then a else rowB a b

def sign (c : UInt8) : Bool := decide (c.toNat = 10 ∨ (32 ≤ c.toNat ∧ c.toNat ≤ 126))
def mark (c : UInt8) : Bool := decide ((48 ≤ c.toNat ∧ c.toNat ≤ 57) ∨ (97 ≤ c.toNat ∧ c.toNat ≤ 122) ∨ (65 ≤ c.toNat ∧ c.toNat ≤ 90))
def has (s : List UInt8) (c : UInt8) : Bool := s.any (· == c)

/-- The sets that a pattern may have: one sign, or some signs among which there is no round bracket. -/
def okSigns (s : List UInt8) : Prop := (∃ c, s = [c]) ∨ (s ≠ [] ∧ ∀ c, c ∈ s → 48 ≤ c.toNat ∧ c.toNat ≤ 122)

/-- Well formed: of the five kinds, each with its own number of parts. -/
def wf : Pat → Prop
  | ⟨k, s, []⟩ => (k = 0 ∧ s = []) ∨ (k = 1 ∧ okSigns s)
  | ⟨k, s, [a]⟩ => k = 4 ∧ s = [] ∧ wf a
  | ⟨k, s, [a, b]⟩ => ((k = 2 ∧ a.kind ≠ 0 ∧ b.kind ≠ 0) ∨ k = 3) ∧ s = [] ∧ wf a ∧ wf b
  | _ => False

/-- Induction over well formed patterns. -/
theorem ind {P : Pat → Prop} (hn : P none) (hs : ∀ s, okSigns s → P (set s))
    (hr : ∀ a b, wf a → wf b → a.kind ≠ 0 → b.kind ≠ 0 → P a → P b → P (rowB a b)) (ha : ∀ a b, wf a → wf b → P a → P b → P (any a b)) (ht : ∀ a, wf a → P a → P (star a)) : (p : Pat) → wf p → P p
  | ⟨k, s, []⟩, h => by
    rw [wf] at h
    rcases h with ⟨rfl, rfl⟩ | ⟨rfl, h⟩
    · exact hn
    · exact hs s h
  | ⟨k, s, [a]⟩, h => by
    rw [wf] at h
    obtain ⟨rfl, rfl, h⟩ := h
    exact ht a h (ind hn hs hr ha ht a h)
  | ⟨k, s, [a, b]⟩, h => by
    rw [wf] at h
    obtain ⟨hk, rfl, h1, h2⟩ := h
    rcases hk with ⟨rfl, h3, h4⟩ | rfl
    · exact hr a b h1 h2 h3 h4 (ind hn hs hr ha ht a h1) (ind hn hs hr ha ht b h2)
    · exact ha a b h1 h2 (ind hn hs hr ha ht a h1) (ind hn hs hr ha ht b h2)
  | ⟨k, s, _ :: _ :: _ :: _⟩, h => by simp [wf] at h

theorem wf_none : wf none := by simp [none, wf]
theorem wf_set {s : List UInt8} (h : okSigns s) : wf (set s) := by simp [set, wf, h]
theorem wf_any {a b : Pat} (h1 : wf a) (h2 : wf b) : wf (any a b) := by simp [any, wf, h1, h2]
theorem wf_star {a : Pat} (h1 : wf a) : wf (star a) := by simp [star, wf, h1]
theorem wf_row {a b : Pat} (h1 : wf a) (h2 : wf b) : wf (row a b) := by
  unfold row
  split
  · exact h2
  · split
    · exact h1
    · simp [rowB, wf, *]

def empty : Pat → Bool
  | ⟨k, _, [a, b]⟩ => if k = 2 then empty a && empty b else empty a || empty b
  | ⟨k, _, _⟩ => k != 1

def key : Pat → List UInt8
  | ⟨k, s, []⟩ => UInt8.ofNat (48 + k) :: s ++ [40, 41]
  | ⟨k, s, [a]⟩ => UInt8.ofNat (48 + k) :: s ++ 40 :: key a ++ [41]
  | ⟨k, s, [a, b]⟩ => UInt8.ofNat (48 + k) :: s ++ 40 :: key a ++ key b ++ [41]
  | _ => []

def put (l : List Pat) (p : Pat) : List Pat := if l.any (fun q => key q == key p) then l else l ++ [p]

def putAll (l m : List Pat) : List Pat := m.foldl put l

def behind : Pat → UInt8 → List Pat
  | ⟨k, s, []⟩, c => if k = 1 ∧ has s c = true then [none] else []
  | ⟨_, _, [a]⟩, c => putAll [] ((behind a c).map (fun x => row x (star a)))
  | ⟨k, _, [a, b]⟩, c =>
    if k = 3 then putAll (behind a c) (behind b c)
    else if empty a then putAll (putAll [] ((behind a c).map (fun x => row x b))) (behind b c) else putAll [] ((behind a c).map (fun x => row x b))
  | _, _ => []

/-- One sign behind some patterns. -/
def step (l : List Pat) (c : UInt8) : List Pat := l.foldl (fun n p => putAll n (behind p c)) []

def is (p : Pat) (s : List UInt8) : Bool := (s.foldl step [p]).any empty

end Ls
