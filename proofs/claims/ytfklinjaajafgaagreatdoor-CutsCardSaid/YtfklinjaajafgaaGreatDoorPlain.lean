/- The document's patterns as plain data, and what each function of the reference computes. Imports nothing of the program. -/
namespace Ls

/-- A pattern: the kinds are the reference's (0 none, 1 set, 2 row, 3 any, 4 star). -/
structure Pat where
  kind : Nat
  signs : List UInt8
  parts : List Pat

def none : Pat := ⟨0, [], []⟩
def set (s : List UInt8) : Pat := ⟨1, s, []⟩
def rowB (a b : Pat) : Pat := ⟨2, [], [a, b]⟩
def any (a b : Pat) : Pat := ⟨3, [], [a, b]⟩
def star (a : Pat) : Pat := ⟨4, [], [a]⟩
def row (a b : Pat) : Pat := if a.kind = 0 then b else if b.kind = 0 then a else rowB a b

def sign (c : UInt8) : Bool := decide (c.toNat = 10 ∨ (32 ≤ c.toNat ∧ c.toNat ≤ 126))
def mark (c : UInt8) : Bool := decide ((48 ≤ c.toNat ∧ c.toNat ≤ 57) ∨ (97 ≤ c.toNat ∧ c.toNat ≤ 122) ∨ (65 ≤ c.toNat ∧ c.toNat ≤ 90))
def has (s : List UInt8) (c : UInt8) : Bool := s.any (· == c)

/-- The sets that a pattern may have: one sign, or some signs among which there is no round bracket. -/
def okSigns (s : List UInt8) : Prop := (∃ c, s = [c]) ∨ (s ≠ [] ∧ ∀ c, c ∈ s → 48 ≤ c.toNat ∧ c.toNat ≤ 122)

/-- Well formed: of the five kinds, each with its own number of parts. -/
def wf : Pat → Prop
  | ⟨k, s, []⟩ => (k = 0 ∧ s = []) ∨ (k = 1 ∧ okSigns s)
  | ⟨k, s, [a]⟩ => k = 4 ∧ s = [] ∧ wf a
  | ⟨k, s, [a, b]⟩ => ((k = 2 ∧ a.kind ≠ 0 ∧ b.kind ≠ 0) ∨ k = 3) ∧ s = [] ∧ wf a ∧ wf b
  | _ => False

/-- Induction over well formed patterns. -/
theorem ind {P : Pat → Prop} (hn : P none) (hs : ∀ s, okSigns s → P (set s))
    (hr : ∀ a b, wf a → wf b → a.kind ≠ 0 → b.kind ≠ 0 → P a → P b → P (rowB a b)) (ha : ∀ a b, wf a → wf b → P a → P b → P (any a b)) (ht : ∀ a, wf a → P a → P (star a)) : (p : Pat) → wf p → P p
  | ⟨k, s, []⟩, h => by
    rw [wf] at h
    rcases h with ⟨rfl, rfl⟩ | ⟨rfl, h⟩
    · exact hn
    · exact hs s h
  | ⟨k, s, [a]⟩, h => by
    rw [wf] at h
    obtain ⟨rfl, rfl, h⟩ := h
    exact ht a h (ind hn hs hr ha ht a h)
  | ⟨k, s, [a, b]⟩, h => by
    rw [wf] at h
    obtain ⟨hk, rfl, h1, h2⟩ := h
    rcases hk with ⟨rfl, h3, h4⟩ | rfl
    · exact hr a b h1 h2 h3 h4 (ind hn hs hr ha ht a h1) (ind hn hs hr ha ht b h2)
    · exact ha a b h1 h2 (ind hn hs hr ha ht a h1) (ind hn hs hr ha ht b h2)
  | ⟨k, s, _ :: _ :: _ :: _⟩, h => by simp [wf] at h

theorem wf_none : wf none := by simp [none, wf]
theorem wf_set {s : List UInt8} (h : okSigns s) : wf (set s) := by simp [set, wf, h]
theorem wf_any {a b : Pat} (h1 : wf a) (h2 : wf b) : wf (any a b) := by simp [any, wf, h1, h2]
theorem wf_star {a : Pat} (h1 : wf a) : wf (star a) := by simp [star, wf, h1]
theorem wf_row {a b : Pat} (h1 : wf a) (h2 : wf b) : wf (row a b) := by
  unfold row
  split
  · exact h2
  · split
    · exact h1
    · simp [rowB, wf, *]

def empty : Pat → Bool
  | ⟨k, _, [a, b]⟩ => if k = 2 then empty a && empty b else empty a || empty b
  | ⟨k, _, _⟩ => k != 1

def key : Pat → List UInt8
  | ⟨k, s, []⟩ => UInt8.ofNat (48 + k) :: s ++ [40, 41]
  | ⟨k, s, [a]⟩ => UInt8.ofNat (48 + k) :: s ++ 40 :: key a ++ [41]
  | ⟨k, s, [a, b]⟩ => UInt8.ofNat (48 + k) :: s ++ 40 :: key a ++ key b ++ [41]
  | _ => []

def put (l : List Pat) (p : Pat) : List Pat := if l.any (fun q => key q == key p) then l else l ++ [p]

def putAll (l m : List Pat) : List Pat := m.foldl put l

def behind : Pat → UInt8 → List Pat
  | ⟨k, s, []⟩, c => if k = 1 ∧ has s c = true then [none] else []
  | ⟨_, _, [a]⟩, c => putAll [] ((behind a c).map (fun x => row x (star a)))
  | ⟨k, _, [a, b]⟩, c =>
    if k = 3 then putAll (behind a c) (behind b c)
    else if empty a then putAll (putAll [] ((behind a c).map (fun x => row x b))) (behind b c) else putAll [] ((behind a c).map (fun x => row x b))
  | _, _ => []

/-- One sign behind some patterns. -/
def step (l : List Pat) (c : UInt8) : List Pat := l.foldl (fun n p => putAll n (behind p c)) []

def is (p : Pat) (s : List UInt8) : Bool := (s.foldl step [p]).any empty

end Ls

/- How many, and how great, the patterns are that may still come behind a sign. -/
namespace Ls

def ks (p : Pat) : Nat := (key p).length

theorem ks_none : ks none = 3 := rfl
theorem ks_set (s : List UInt8) : ks (set s) = s.length + 3 := by simp [ks, set, key]
theorem ks_rowB (a b : Pat) : ks (rowB a b) = ks a + ks b + 3 := by simp [ks, rowB, key]; omega
theorem ks_any (a b : Pat) : ks (any a b) = ks a + ks b + 3 := by simp [ks, any, key]; omega
theorem ks_star (a : Pat) : ks (star a) = ks a + 3 := by simp [ks, star, key]
theorem ks_row (a b : Pat) : ks (row a b) ≤ ks a + ks b + 3 := by
  unfold row
  split
  · omega
  · split
    · omega
    · rw [ks_rowB]; exact Nat.le_refl _

/-- How many at most. -/
def nd : Pat → Nat
  | ⟨_, _, [a, b]⟩ => nd a + nd b
  | ⟨_, _, [a]⟩ => nd a
  | _ => 1

/-- How great at most. -/
def md : Pat → Nat
  | ⟨k, _, [a, b]⟩ => if k = 2 then max (md a + ks b + 3) (md b) else max (md a) (md b)
  | ⟨_, _, [a]⟩ => md a + ks a + 6
  | _ => 3

theorem putAll_nil (l : List Pat) : putAll l [] = l := rfl
theorem putAll_snoc (l m : List Pat) (x : Pat) : putAll l (m ++ [x]) = put (putAll l m) x := by simp [putAll]
theorem putAll_append (l m n : List Pat) : putAll l (m ++ n) = putAll (putAll l m) n := by simp [putAll]

theorem put_length (l : List Pat) (x : Pat) : (put l x).length ≤ l.length + 1 := by
  unfold put; split <;> simp

theorem mem_put {l : List Pat} {x q : Pat} (h : q ∈ put l x) : q ∈ l ∨ q = x := by
  unfold put at h
  split at h
  · exact .inl h
  · simpa using h

theorem putAll_length (l m : List Pat) : (putAll l m).length ≤ l.length + m.length := by
  induction m generalizing l with
  | nil => simp [putAll]
  | cons x m ih =>
    have h1 := ih (put l x)
    have h2 := put_length l x
    show (putAll (put l x) m).length ≤ _
    simp only [List.length_cons]; omega

theorem mem_putAll {l m : List Pat} {q : Pat} (h : q ∈ putAll l m) : q ∈ l ∨ q ∈ m := by
  induction m generalizing l with
  | nil => exact .inl h
  | cons x m ih =>
    rcases ih (l := put l x) h with h | h
    · rcases mem_put h with h | rfl
      · exact .inl h
      · exact .inr (by simp)
    · exact .inr (by simp [h])

theorem behind_none (c : UInt8) : behind none c = [] := by simp [none, behind]
theorem behind_set (s : List UInt8) (c : UInt8) : behind (set s) c = if has s c = true then [none] else [] := by simp [set, behind]
theorem behind_rowB (a b : Pat) (c : UInt8) : behind (rowB a b) c =
    if empty a = true then putAll (putAll [] ((behind a c).map (fun x => row x b))) (behind b c) else putAll [] ((behind a c).map (fun x => row x b)) := by simp [rowB, behind]
theorem behind_any (a b : Pat) (c : UInt8) : behind (any a b) c = putAll (behind a c) (behind b c) := by simp [any, behind]
theorem behind_star (a : Pat) (c : UInt8) : behind (star a) c = putAll [] ((behind a c).map (fun x => row x (star a))) := by simp [star, behind]

theorem md_rowB (a b : Pat) : md (rowB a b) = max (md a + ks b + 3) (md b) := by simp [rowB, md]
theorem md_any (a b : Pat) : md (any a b) = max (md a) (md b) := by simp [any, md]
theorem md_star (a : Pat) : md (star a) = md a + ks a + 6 := by simp [star, md]
theorem nd_rowB (a b : Pat) : nd (rowB a b) = nd a + nd b := by simp [rowB, nd]
theorem nd_any (a b : Pat) : nd (any a b) = nd a + nd b := by simp [any, nd]
theorem nd_star (a : Pat) : nd (star a) = nd a := by simp [star, nd]

theorem behind_length (p : Pat) (hp : wf p) (c : UInt8) : (behind p c).length ≤ nd p := by
  refine ind (P := fun p => (behind p c).length ≤ nd p) ?_ ?_ ?_ ?_ ?_ p hp
  · simp [behind_none]
  · intro s _; rw [behind_set]; split <;> simp [set, nd]
  · intro a b _ _ _ _ ha hb
    rw [behind_rowB, nd_rowB]
    have h1 := putAll_length [] ((behind a c).map (fun x => row x b))
    have h2 := putAll_length (putAll [] ((behind a c).map (fun x => row x b))) (behind b c)
    simp at h1
    split <;> omega
  · intro a b _ _ ha hb
    rw [behind_any, nd_any]
    have h2 := putAll_length (behind a c) (behind b c)
    omega
  · intro a _ ha
    rw [behind_star, nd_star]
    have h1 := putAll_length [] ((behind a c).map (fun x => row x (star a)))
    simp at h1
    omega

theorem behind_ok (p : Pat) (hp : wf p) (c : UInt8) : ∀ x, x ∈ behind p c → wf x ∧ ks x ≤ md p := by
  refine ind (P := fun p => ∀ x, x ∈ behind p c → wf x ∧ ks x ≤ md p) ?_ ?_ ?_ ?_ ?_ p hp
  · simp [behind_none]
  · intro s _ x hx
    rw [behind_set] at hx
    split at hx
    · simp only [List.mem_singleton] at hx; subst hx; exact ⟨wf_none, by simp [ks_none, set, md]⟩
    · simp at hx
  · intro a b wa wb _ _ ha hb x hx
    rw [behind_rowB] at hx
    have key : ∀ x, x ∈ (behind a c).map (fun x => row x b) → wf x ∧ ks x ≤ md (rowB a b) := by
      intro x hx
      obtain ⟨z, hz, rfl⟩ := List.mem_map.1 hx
      have := ha z hz
      have h2 := ks_row z b
      exact ⟨wf_row this.1 wb, by rw [md_rowB]; omega⟩
    have k1 : ∀ x, x ∈ putAll [] ((behind a c).map (fun x => row x b)) → wf x ∧ ks x ≤ md (rowB a b) := fun x hx => by
      rcases mem_putAll hx with h | h
      · simp at h
      · exact key x h
    split at hx
    · rcases mem_putAll hx with h | h
      · exact k1 x h
      · have := hb x h; exact ⟨this.1, by rw [md_rowB]; omega⟩
    · exact k1 x hx
  · intro a b _ _ ha hb x hx
    rw [behind_any] at hx
    rcases mem_putAll hx with h | h
    · have := ha x h; exact ⟨this.1, by rw [md_any]; omega⟩
    · have := hb x h; exact ⟨this.1, by rw [md_any]; omega⟩
  · intro a wa ha x hx
    rw [behind_star] at hx
    rcases mem_putAll hx with h | h
    · simp at h
    · obtain ⟨z, hz, rfl⟩ := List.mem_map.1 h
      have := ha z hz
      have h2 := ks_row z (star a)
      rw [ks_star] at h2
      exact ⟨wf_row this.1 (wf_star wa), by rw [md_star]; omega⟩

end Ls

/- The states that a pattern can come to: finitely many. -/
namespace Ls

/-- A list of patterns that what may still come never leaves, each of them not too great. -/
structure Room (L : List Pat) : Prop where
  closed : ∀ q, q ∈ L → ∀ c x, x ∈ behind q c → x ∈ L
  ok : ∀ q, q ∈ L → wf q ∧ ks q ≤ 4611686018427387904 ∧ nd q ≤ 1000000000 ∧ md q ≤ 4611686018427387904
  small : L.length ≤ 500000000

/-- No two of one key. -/
def KD (l : List Pat) : Prop := (l.map key).Nodup

theorem KD_nil : KD [] := by simp [KD]

theorem KD_put {l : List Pat} (h : KD l) (x : Pat) : KD (put l x) := by
  unfold put
  split
  · exact h
  · rename_i hn
    unfold KD at h ⊢
    rw [List.map_append, List.nodup_append]
    refine ⟨h, by simp, ?_⟩
    intro a ha b hb
    simp only [List.map_cons, List.map_nil, List.mem_singleton] at hb
    subst hb
    rintro rfl
    apply hn
    rw [List.any_eq_true]
    obtain ⟨q, hq, e⟩ := List.mem_map.1 ha
    exact ⟨q, hq, by simp [e]⟩

theorem KD_putAll {l : List Pat} (h : KD l) (m : List Pat) : KD (putAll l m) := by
  induction m generalizing l with
  | nil => exact h
  | cons x m ih => exact ih (KD_put h x)

theorem nodup_le {α : Type} [DecidableEq α] : (l L : List α) → l.Nodup → (∀ x, x ∈ l → x ∈ L) → l.length ≤ L.length
  | [], _, _, _ => by simp
  | a :: l, L, h, hs => by
    rw [List.nodup_cons] at h
    have ha := hs a (by simp)
    have := nodup_le l (L.erase a) h.2 (fun x hx => by
      rw [List.mem_erase_of_ne (by rintro rfl; exact h.1 hx)]
      exact hs x (by simp [hx]))
    rw [List.length_erase_of_mem ha] at this
    have hp : 0 < L.length := List.length_pos_of_mem ha
    simp only [List.length_cons]
    omega

/-- A list of such patterns, no two of one key, is no longer than the room. -/
theorem KD_length {l L : List Pat} (h : KD l) (hs : ∀ x, x ∈ l → x ∈ L) : l.length ≤ L.length := by
  have := nodup_le (l.map key) (L.map key) h (fun x hx => by
    obtain ⟨q, hq, rfl⟩ := List.mem_map.1 hx
    exact List.mem_map.2 ⟨q, hs q hq, rfl⟩)
  simpa using this

/-- What the first k of some patterns come to. -/
def stepTo (l : List Pat) (c : UInt8) : List Pat := l.foldl (fun n p => putAll n (behind p c)) []

theorem step_eq (l : List Pat) (c : UInt8) : step l c = stepTo l c := rfl

theorem stepTo_snoc (l : List Pat) (p : Pat) (c : UInt8) : stepTo (l ++ [p]) c = putAll (stepTo l c) (behind p c) := by simp [stepTo]

theorem stepTo_KD (l : List Pat) (c : UInt8) : KD (stepTo l c) := by
  have : ∀ (l m : List Pat), KD m → KD (l.foldl (fun n p => putAll n (behind p c)) m) := by
    intro l
    induction l with
    | nil => intro m h; exact h
    | cons p l ih => intro m h; exact ih _ (KD_putAll h _)
  exact this l [] KD_nil

theorem stepTo_room {L l : List Pat} (hL : Room L) (h : ∀ x, x ∈ l → x ∈ L) (c : UInt8) : ∀ x, x ∈ stepTo l c → x ∈ L := by
  have : ∀ (l m : List Pat), (∀ x, x ∈ l → x ∈ L) → (∀ x, x ∈ m → x ∈ L) → ∀ x, x ∈ l.foldl (fun n p => putAll n (behind p c)) m → x ∈ L := by
    intro l
    induction l with
    | nil => intro m _ h; exact h
    | cons p l ih =>
      intro m h1 h2
      refine ih _ (fun x hx => h1 x (by simp [hx])) (fun x hx => ?_)
      rcases mem_putAll hx with hx | hx
      · exact h2 x hx
      · exact hL.closed p (h1 p (by simp)) c x hx
  exact this l [] h (by simp)

/-- The list behind a text. -/
def after (p : Pat) (s : List UInt8) : List Pat := s.foldl step [p]

theorem after_snoc (p : Pat) (s : List UInt8) (c : UInt8) : after p (s ++ [c]) = step (after p s) c := by simp [after]

theorem is_eq (p : Pat) (s : List UInt8) : is p s = (after p s).any empty := rfl

theorem after_ok {L : List Pat} (hL : Room L) {p : Pat} (hp : p ∈ L) (s : List UInt8) : KD (after p s) ∧ ∀ x, x ∈ after p s → x ∈ L := by
  have : ∀ (s : List UInt8) (l : List Pat), KD l → (∀ x, x ∈ l → x ∈ L) → KD (s.foldl step l) ∧ ∀ x, x ∈ s.foldl step l → x ∈ L := by
    intro s
    induction s with
    | nil => intro l h1 h2; exact ⟨h1, h2⟩
    | cons c s ih => intro l h1 h2; exact ih _ (stepTo_KD l c) (stepTo_room hL h2 c)
  exact this s [p] (by simp [KD]) (by simpa using hp)

end Ls

/- Reading a pattern: the document's grammar, on what is left of the text. -/
namespace Ls

/-- What was read. tag: 0 a place (signs), 1 a row of none, 2 a thing and a row, 3 the last alternative, 4 an alternative and the rest, 5 '*', 6 '+', 7 '?'. -/
structure D where
  tag : Nat
  signs : List UInt8
  parts : List D

def place (s : List UInt8) : D := ⟨0, s, []⟩
def rnil : D := ⟨1, [], []⟩
def rcons (a r : D) : D := ⟨2, [], [a, r]⟩
def clast (r : D) : D := ⟨3, [], [r]⟩
def ccons (r c : D) : D := ⟨4, [], [r, c]⟩
def rep (t : Nat) (a : D) : D := ⟨t, [], [a]⟩

/-- The pattern that the reference makes of it. -/
def toPat : D → Pat
  | ⟨t, s, []⟩ => if t = 0 then set s else none
  | ⟨t, _, [a]⟩ => if t = 3 then toPat a else if t = 5 then star (toPat a) else if t = 6 then row (toPat a) (star (toPat a)) else any (toPat a) none
  | ⟨t, _, [a, b]⟩ => if t = 2 then row (toPat a) (toPat b) else any (toPat a) (toPat b)
  | _ => none

/-- How many places. -/
def dsize : D → Nat
  | ⟨t, _, []⟩ => if t = 0 then 1 else 0
  | ⟨_, _, [a]⟩ => dsize a
  | ⟨_, _, [a, b]⟩ => dsize a + dsize b
  | _ => 0

theorem toPat_place (s : List UInt8) : toPat (place s) = set s := by simp [place, toPat]
theorem toPat_rnil : toPat rnil = none := by simp [rnil, toPat]
theorem toPat_rcons (a r : D) : toPat (rcons a r) = row (toPat a) (toPat r) := by simp [rcons, toPat]
theorem toPat_clast (r : D) : toPat (clast r) = toPat r := by simp [clast, toPat]
theorem toPat_ccons (r c : D) : toPat (ccons r c) = any (toPat r) (toPat c) := by simp [ccons, toPat]
theorem toPat_star (a : D) : toPat (rep 5 a) = star (toPat a) := by simp [rep, toPat]
theorem toPat_plus (a : D) : toPat (rep 6 a) = row (toPat a) (star (toPat a)) := by simp [rep, toPat]
theorem toPat_opt (a : D) : toPat (rep 7 a) = any (toPat a) none := by simp [rep, toPat]
theorem dsize_place (s : List UInt8) : dsize (place s) = 1 := by simp [place, dsize]
theorem dsize_rnil : dsize rnil = 0 := by simp [rnil, dsize]
theorem dsize_rcons (a r : D) : dsize (rcons a r) = dsize a + dsize r := by simp [rcons, dsize]
theorem dsize_clast (r : D) : dsize (clast r) = dsize r := by simp [clast, dsize]
theorem dsize_ccons (r c : D) : dsize (ccons r c) = dsize r + dsize c := by simp [ccons, dsize]
theorem dsize_rep (t : Nat) (a : D) : dsize (rep t a) = dsize a := by simp [rep, dsize]

abbrev Rd := Option (D × List UInt8)

/-- The signs from a to b, behind those that are there. -/
def rngTo (acc : List UInt8) (a b : UInt8) (n : Nat) : List UInt8 :=
  (List.range n).foldl (fun o c => if a.toNat ≤ c ∧ c ≤ b.toNat ∧ has o (UInt8.ofNat c) = false then o ++ [UInt8.ofNat c] else o) acc
def rng (acc : List UInt8) (a b : UInt8) : List UInt8 := rngTo acc a b 128

/-- One range of a class. -/
def range1 : List UInt8 → Option (UInt8 × UInt8 × List UInt8)
  | [] => .none
  | a :: r => if mark a = false then .none else
    if r.head? = some 45 then
      match r.tail with
      | [] => .none
      | b :: t => if mark b = false ∨ b.toNat < a.toNat then .none else some (a, b, t)
    else some (a, a, r)

/-- A class, behind its bracket. -/
def cls : Nat → List UInt8 → List UInt8 → Option (List UInt8 × List UInt8)
  | 0, _, _ => .none
  | n + 1, acc, r =>
    match range1 r with
    | .none => .none
    | some (a, b, t) => if t.head? = some 93 then some (rng acc a b, t.tail) else cls n (rng acc a b) t

def az : List UInt8 := [97, 98, 99, 100, 101, 102, 103, 104, 105, 106, 107, 108, 109, 110, 111, 112, 113, 114, 115, 116, 117, 118, 119, 120, 121, 122]

/-- The signs that stand for themselves behind a backslash alone, but for those that open something. -/
def closer (c : UInt8) : Bool := c == 41 || c == 93 || c == 42 || c == 43 || c == 63 || c == 124 || c == 47 || c == 34

def oneOf (P : List UInt8 → Rd) : List UInt8 → Rd
  | [] => .none
  | c :: t =>
    if c = 40 then
      match P t with
      | .none => .none
      | some (d, u) => if u.head? = some 41 then some (d, u.tail) else .none
    else if c = 91 then
      match cls (t.length + 1) [] t with
      | .none => .none
      | some (s, u) => some (place s, u)
    else if c = 46 then some (place az, t)
    else if c = 92 then
      match t with
      | [] => .none
      | e :: u => if sign e = true then some (place [e], u) else .none
    else if closer c = true ∨ sign c = false then .none
    else some (place [c], t)

def thing (P : List UInt8 → Rd) (r : List UInt8) : Rd :=
  match oneOf P r with
  | .none => .none
  | some (a, t) =>
    if t.head? = some 42 then some (rep 5 a, t.tail)
    else if t.head? = some 43 then some (rep 6 a, t.tail)
    else if t.head? = some 63 then some (rep 7 a, t.tail)
    else some (a, t)

/-- Does a row end here? -/
def stops : List UInt8 → Bool
  | [] => true
  | c :: _ => c == 124 || c == 41 || c == 47

def things (P : List UInt8 → Rd) : Nat → List UInt8 → Rd
  | 0, _ => .none
  | n + 1, r =>
    if stops r = true then some (rnil, r) else
    match thing P r with
    | .none => .none
    | some (a, r1) =>
      match things P n r1 with
      | .none => .none
      | some (b, r2) => some (rcons a b, r2)

def alts (P : List UInt8 → Rd) : Nat → List UInt8 → Rd
  | 0, _ => .none
  | n + 1, r =>
    match things P (r.length + 1) r with
    | .none => .none
    | some (a, r1) =>
      if r1.head? = some 124 then
        match alts P n r1.tail with
        | .none => .none
        | some (b, r3) => some (ccons a b, r3)
      else some (clast a, r1)

/-- A pattern inside so many brackets that d more are let, less one. -/
def pat : Nat → List UInt8 → Rd
  | 0, _ => .none
  | d + 1, r => alts (pat d) (r.length + 1) r

theorem suf_tail {t r : List UInt8} (h : t <:+ r) : t.tail <:+ r := (List.tail_suffix t).trans h

theorem tail_len {t : List UInt8} {c : UInt8} (h : t.head? = some c) : t.tail.length + 1 = t.length := by
  cases t with
  | nil => simp at h
  | cons a t => simp

/-- What is left is the text's end, and less than it was given. -/
def Suf (P : List UInt8 → Rd) : Prop := ∀ r d t, P r = some (d, t) → t <:+ r

theorem range1_suf {r : List UInt8} {a b : UInt8} {t : List UInt8} (h : range1 r = some (a, b, t)) : t <:+ r ∧ t.length < r.length := by
  cases r with
  | nil => simp [range1] at h
  | cons c r =>
    unfold range1 at h
    dsimp only at h
    split at h
    · simp at h
    · split at h
      · rename_i h45
        have hl := tail_len h45
        split at h
        · simp at h
        · rename_i e u hu
          split at h
          · simp at h
          · simp at h
            obtain ⟨_, _, rfl⟩ := h
            rw [hu] at hl
            simp only [List.length_cons] at hl ⊢
            refine ⟨((List.suffix_cons e u).trans ?_).trans (List.suffix_cons c r), by omega⟩
            rw [← hu]; exact List.tail_suffix r
      · simp at h
        obtain ⟨_, _, rfl⟩ := h
        exact ⟨List.suffix_cons _ _, by simp⟩

theorem cls_suf : (n : Nat) → (acc r s t : List UInt8) → cls n acc r = some (s, t) → t <:+ r ∧ t.length < r.length
  | 0, _, _, _, _, h => by simp [cls] at h
  | n + 1, acc, r, s, t, h => by
    rw [cls] at h
    split at h
    · simp at h
    · rename_i a b u hr
      have h1 := range1_suf hr
      split at h
      · rename_i h93
        have := tail_len h93
        simp at h; obtain ⟨_, rfl⟩ := h
        exact ⟨suf_tail h1.1, by omega⟩
      · have h2 := cls_suf n _ _ _ _ h; exact ⟨h2.1.trans h1.1, by omega⟩

theorem oneOf_suf {P : List UInt8 → Rd} (hP : Suf P) {r : List UInt8} {d : D} {t : List UInt8} (h : oneOf P r = some (d, t)) : t <:+ r ∧ t.length < r.length := by
  cases r with
  | nil => simp [oneOf] at h
  | cons c r =>
    unfold oneOf at h
    dsimp only at h
    have sc := List.suffix_cons c r
    split at h
    · split at h
      · simp at h
      · rename_i e u he
        have h1 := hP _ _ _ he
        have h2 := h1.length_le
        split at h
        · rename_i h41
          have := tail_len h41
          simp at h; obtain ⟨_, rfl⟩ := h
          exact ⟨(suf_tail h1).trans sc, by simp only [List.length_cons]; omega⟩
        · simp at h
    · split at h
      · split at h
        · simp at h
        · rename_i e u he
          have h1 := cls_suf _ _ _ _ _ he
          simp at h; obtain ⟨_, rfl⟩ := h
          exact ⟨h1.1.trans sc, by simp only [List.length_cons]; omega⟩
      · split at h
        · simp at h; obtain ⟨_, rfl⟩ := h; exact ⟨sc, by simp⟩
        · split at h
          · split at h
            · simp at h
            · rename_i e u
              split at h
              · simp at h; obtain ⟨_, rfl⟩ := h
                exact ⟨(List.suffix_cons _ _).trans sc, by simp only [List.length_cons]; omega⟩
              · simp at h
          · split at h
            · simp at h
            · simp at h; obtain ⟨_, rfl⟩ := h; exact ⟨sc, by simp⟩

theorem thing_suf {P : List UInt8 → Rd} (hP : Suf P) {r : List UInt8} {d : D} {t : List UInt8} (h : thing P r = some (d, t)) : t <:+ r ∧ t.length < r.length := by
  rw [thing] at h
  split at h
  · simp at h
  · rename_i a u hu
    have h1 := oneOf_suf hP hu
    split at h
    · rename_i hx
      have := tail_len hx
      simp at h; obtain ⟨_, rfl⟩ := h; exact ⟨suf_tail h1.1, by omega⟩
    · split at h
      · rename_i hx
        have := tail_len hx
        simp at h; obtain ⟨_, rfl⟩ := h; exact ⟨suf_tail h1.1, by omega⟩
      · split at h
        · rename_i hx
          have := tail_len hx
          simp at h; obtain ⟨_, rfl⟩ := h; exact ⟨suf_tail h1.1, by omega⟩
        · simp at h; obtain ⟨_, rfl⟩ := h; exact h1

theorem things_suf {P : List UInt8 → Rd} (hP : Suf P) : (n : Nat) → (r : List UInt8) → (d : D) → (t : List UInt8) → things P n r = some (d, t) → t <:+ r
  | 0, _, _, _, h => by simp [things] at h
  | n + 1, r, d, t, h => by
    rw [things] at h
    split at h
    · simp at h; obtain ⟨_, rfl⟩ := h; exact List.suffix_refl _
    · split at h
      · simp at h
      · rename_i a r1 h1
        have h2 := thing_suf hP h1
        split at h
        · simp at h
        · rename_i b r2 h3
          have h4 := things_suf hP n r1 b r2 h3
          simp at h; obtain ⟨_, rfl⟩ := h; exact h4.trans h2.1

theorem alts_suf {P : List UInt8 → Rd} (hP : Suf P) : (n : Nat) → (r : List UInt8) → (d : D) → (t : List UInt8) → alts P n r = some (d, t) → t <:+ r
  | 0, _, _, _, h => by simp [alts] at h
  | n + 1, r, d, t, h => by
    rw [alts] at h
    split at h
    · simp at h
    · rename_i a r1 h1
      have h2 := things_suf hP _ _ _ _ h1
      split at h
      · split at h
        · simp at h
        · rename_i b r3 h3
          have h4 := alts_suf hP n _ b r3 h3
          simp at h; obtain ⟨_, rfl⟩ := h; exact h4.trans (suf_tail h2)
      · simp at h; obtain ⟨_, rfl⟩ := h; exact h2

theorem pat_suf : (d : Nat) → Suf (pat d)
  | 0 => fun r e t h => by simp [pat] at h
  | d + 1 => fun r e t h => alts_suf (pat_suf d) _ _ _ _ h

/-- No more places than signs were read. -/
def Siz (P : List UInt8 → Rd) : Prop := ∀ r d t, P r = some (d, t) → dsize d + t.length ≤ r.length

theorem oneOf_siz {P : List UInt8 → Rd} (hP : Siz P) {r : List UInt8} {d : D} {t : List UInt8} (h : oneOf P r = some (d, t)) : dsize d + t.length ≤ r.length := by
  cases r with
  | nil => simp [oneOf] at h
  | cons c r =>
    unfold oneOf at h
    dsimp only at h
    split at h
    · split at h
      · simp at h
      · rename_i e u he
        have h1 := hP _ _ _ he
        split at h
        · rename_i h41
          have := tail_len h41
          simp at h; obtain ⟨rfl, rfl⟩ := h
          simp only [List.length_cons]; omega
        · simp at h
    · split at h
      · split at h
        · simp at h
        · rename_i e u he
          have h1 := cls_suf _ _ _ _ _ he
          simp at h; obtain ⟨rfl, rfl⟩ := h
          rw [dsize_place]; simp only [List.length_cons]; omega
      · split at h
        · simp at h; obtain ⟨rfl, rfl⟩ := h; rw [dsize_place]; simp only [List.length_cons]; omega
        · split at h
          · split at h
            · simp at h
            · split at h
              · simp at h; obtain ⟨rfl, rfl⟩ := h
                rw [dsize_place]; simp only [List.length_cons]; omega
              · simp at h
          · split at h
            · simp at h
            · simp at h; obtain ⟨rfl, rfl⟩ := h; rw [dsize_place]; simp only [List.length_cons]; omega

theorem thing_siz {P : List UInt8 → Rd} (hP : Siz P) {r : List UInt8} {d : D} {t : List UInt8} (h : thing P r = some (d, t)) : dsize d + t.length ≤ r.length := by
  rw [thing] at h
  split at h
  · simp at h
  · rename_i a u hu
    have h1 := oneOf_siz hP hu
    split at h
    · rename_i hx
      have := tail_len hx
      simp at h; obtain ⟨rfl, rfl⟩ := h; rw [dsize_rep]; omega
    · split at h
      · rename_i hx
        have := tail_len hx
        simp at h; obtain ⟨rfl, rfl⟩ := h; rw [dsize_rep]; omega
      · split at h
        · rename_i hx
          have := tail_len hx
          simp at h; obtain ⟨rfl, rfl⟩ := h; rw [dsize_rep]; omega
        · simp at h; obtain ⟨rfl, rfl⟩ := h; exact h1

theorem things_siz {P : List UInt8 → Rd} (hP : Siz P) : (n : Nat) → (r : List UInt8) → (d : D) → (t : List UInt8) → things P n r = some (d, t) → dsize d + t.length ≤ r.length
  | 0, _, _, _, h => by simp [things] at h
  | n + 1, r, d, t, h => by
    rw [things] at h
    split at h
    · simp at h; obtain ⟨rfl, rfl⟩ := h; rw [dsize_rnil]; omega
    · split at h
      · simp at h
      · rename_i a r1 h1
        have h2 := thing_siz hP h1
        split at h
        · simp at h
        · rename_i b r2 h3
          have h4 := things_siz hP n r1 b r2 h3
          simp at h; obtain ⟨rfl, rfl⟩ := h; rw [dsize_rcons]; omega

theorem alts_siz {P : List UInt8 → Rd} (hP : Siz P) : (n : Nat) → (r : List UInt8) → (d : D) → (t : List UInt8) → alts P n r = some (d, t) → dsize d + t.length ≤ r.length
  | 0, _, _, _, h => by simp [alts] at h
  | n + 1, r, d, t, h => by
    rw [alts] at h
    split at h
    · simp at h
    · rename_i a r1 h1
      have h2 := things_siz hP _ _ _ _ h1
      split at h
      · rename_i hx
        have := tail_len hx
        split at h
        · simp at h
        · rename_i b r3 h3
          have h4 := alts_siz hP n _ b r3 h3
          simp at h; obtain ⟨rfl, rfl⟩ := h; rw [dsize_ccons]; omega
      · simp at h; obtain ⟨rfl, rfl⟩ := h; rw [dsize_clast]; exact h2

theorem pat_siz : (d : Nat) → Siz (pat d)
  | 0 => fun r e t h => by simp [pat] at h
  | d + 1 => fun r e t h => alts_siz (pat_siz d) _ _ _ _ h

end Ls

/- Every pattern that is read has room: what may still come is among finitely many patterns, none too great. -/
namespace Ls

/-- What may still come behind one sign or more. -/
def pds : Pat → List Pat
  | ⟨k, _, []⟩ => if k = 1 then [none] else []
  | ⟨_, _, [a]⟩ => (pds a).map (fun x => row x (star a))
  | ⟨k, _, [a, b]⟩ => if k = 3 then pds a ++ pds b else (pds a).map (fun x => row x b) ++ pds b
  | _ => []

/-- How deep the stars stand within one another, and one. -/
def hs : Pat → Nat
  | ⟨_, _, [a]⟩ => hs a + 1
  | ⟨_, _, [a, b]⟩ => max (hs a) (hs b)
  | _ => 1

theorem pds_none : pds none = [] := by simp [none, pds]
theorem pds_set (s : List UInt8) : pds (set s) = [none] := by simp [set, pds]
theorem pds_rowB (a b : Pat) : pds (rowB a b) = (pds a).map (fun x => row x b) ++ pds b := by simp [rowB, pds]
theorem pds_any (a b : Pat) : pds (any a b) = pds a ++ pds b := by simp [any, pds]
theorem pds_star (a : Pat) : pds (star a) = (pds a).map (fun x => row x (star a)) := by simp [star, pds]
theorem hs_rowB (a b : Pat) : hs (rowB a b) = max (hs a) (hs b) := by simp [rowB, hs]
theorem hs_any (a b : Pat) : hs (any a b) = max (hs a) (hs b) := by simp [any, hs]
theorem hs_star (a : Pat) : hs (star a) = hs a + 1 := by simp [star, hs]
theorem nd_set (s : List UInt8) : nd (set s) = 1 := by simp [set, nd]
theorem nd_none : nd none = 1 := by simp [none, nd]
theorem md_none : md none = 3 := by simp [none, md]
theorem md_set (s : List UInt8) : md (set s) = 3 := by simp [set, md]

theorem behind_pds (p : Pat) (hp : wf p) (c : UInt8) : ∀ x, x ∈ behind p c → x ∈ pds p := by
  refine ind (P := fun p => ∀ x, x ∈ behind p c → x ∈ pds p) ?_ ?_ ?_ ?_ ?_ p hp
  · simp [behind_none]
  · intro s _ x hx
    rw [behind_set] at hx
    rw [pds_set]
    split at hx
    · exact hx
    · simp at hx
  · intro a b _ _ _ _ ha hb x hx
    rw [behind_rowB] at hx
    rw [pds_rowB, List.mem_append]
    have key : x ∈ putAll [] ((behind a c).map (fun x => row x b)) → x ∈ (pds a).map (fun x => row x b) := fun h => by
      rcases mem_putAll h with h | h
      · simp at h
      · obtain ⟨z, hz, rfl⟩ := List.mem_map.1 h
        exact List.mem_map.2 ⟨z, ha z hz, rfl⟩
    split at hx
    · rcases mem_putAll hx with h | h
      · exact .inl (key h)
      · exact .inr (hb x h)
    · exact .inl (key hx)
  · intro a b _ _ ha hb x hx
    rw [behind_any] at hx
    rw [pds_any, List.mem_append]
    rcases mem_putAll hx with h | h
    · exact .inl (ha x h)
    · exact .inr (hb x h)
  · intro a _ ha x hx
    rw [behind_star] at hx
    rw [pds_star]
    rcases mem_putAll hx with h | h
    · simp at h
    · obtain ⟨z, hz, rfl⟩ := List.mem_map.1 h
      exact List.mem_map.2 ⟨z, ha z hz, rfl⟩

theorem row_kind0 {z b : Pat} (h : z.kind = 0) : row z b = b := by unfold row; rw [if_pos h]
theorem row_kinds {z b : Pat} (h : z.kind ≠ 0) (hb : b.kind ≠ 0) : row z b = rowB z b := by unfold row; rw [if_neg h, if_neg hb]

theorem pds_wf (p : Pat) (hp : wf p) : ∀ q, q ∈ pds p → wf q := by
  refine ind (P := fun p => ∀ q, q ∈ pds p → wf q) ?_ ?_ ?_ ?_ ?_ p hp
  · simp [pds_none]
  · intro s _ q hq; rw [pds_set] at hq; simp only [List.mem_singleton] at hq; subst hq; exact wf_none
  · intro a b wa wb _ _ ha hb q hq
    rw [pds_rowB, List.mem_append] at hq
    rcases hq with h | h
    · obtain ⟨z, hz, rfl⟩ := List.mem_map.1 h; exact wf_row (ha z hz) wb
    · exact hb q h
  · intro a b _ _ ha hb q hq
    rw [pds_any, List.mem_append] at hq
    exact hq.elim (ha q) (hb q)
  · intro a wa ha q hq
    rw [pds_star] at hq
    obtain ⟨z, hz, rfl⟩ := List.mem_map.1 hq; exact wf_row (ha z hz) (wf_star wa)

/-- Behind one of them comes one of them. -/
theorem pds_closed (p : Pat) (hp : wf p) (c : UInt8) : ∀ q, q ∈ pds p → ∀ x, x ∈ behind q c → x ∈ pds p := by
  refine ind (P := fun p => ∀ q, q ∈ pds p → ∀ x, x ∈ behind q c → x ∈ pds p) ?_ ?_ ?_ ?_ ?_ p hp
  · simp [pds_none]
  · intro s _ q hq x hx
    rw [pds_set] at hq; simp only [List.mem_singleton] at hq; subst hq
    simp [behind_none] at hx
  · intro a b wa wb _ kb ha hb q hq x hx
    rw [pds_rowB, List.mem_append] at hq ⊢
    rcases hq with h | h
    · obtain ⟨z, hz, rfl⟩ := List.mem_map.1 h
      by_cases kz : z.kind = 0
      · rw [row_kind0 kz] at hx; exact .inr (behind_pds b wb c x hx)
      · rw [row_kinds kz kb, behind_rowB] at hx
        have key : x ∈ putAll [] ((behind z c).map (fun x => row x b)) → x ∈ (pds a).map (fun x => row x b) := fun h => by
          rcases mem_putAll h with h | h
          · simp at h
          · obtain ⟨u, hu, rfl⟩ := List.mem_map.1 h
            exact List.mem_map.2 ⟨u, ha z hz u hu, rfl⟩
        split at hx
        · rcases mem_putAll hx with h | h
          · exact .inl (key h)
          · exact .inr (behind_pds b wb c x h)
        · exact .inl (key hx)
    · exact .inr (hb q h x hx)
  · intro a b _ _ ha hb q hq x hx
    rw [pds_any, List.mem_append] at hq ⊢
    exact hq.imp (fun h => ha q h x hx) (fun h => hb q h x hx)
  · intro a wa ha q hq x hx
    have hst : ∀ x, x ∈ behind (star a) c → x ∈ pds (star a) := behind_pds (star a) (wf_star wa) c
    rw [pds_star] at hq
    obtain ⟨z, hz, rfl⟩ := List.mem_map.1 hq
    by_cases kz : z.kind = 0
    · rw [row_kind0 kz] at hx; exact hst x hx
    · rw [row_kinds kz (by simp [star]), behind_rowB] at hx
      have key : x ∈ putAll [] ((behind z c).map (fun x => row x (star a))) → x ∈ pds (star a) := fun h => by
        rcases mem_putAll h with h | h
        · simp at h
        · obtain ⟨u, hu, rfl⟩ := List.mem_map.1 h
          rw [pds_star]
          exact List.mem_map.2 ⟨u, ha z hz u hu, rfl⟩
      split at hx
      · rcases mem_putAll hx with h | h
        · exact key h
        · exact hst x h
      · exact key hx

theorem pds_length (p : Pat) (hp : wf p) : (pds p).length ≤ nd p := by
  refine ind (P := fun p => (pds p).length ≤ nd p) ?_ ?_ ?_ ?_ ?_ p hp
  · simp [pds_none]
  · intro s _; simp [pds_set, nd_set]
  · intro a b _ _ _ _ ha hb; rw [pds_rowB, nd_rowB]; simp; omega
  · intro a b _ _ ha hb; rw [pds_any, nd_any]; simp; omega
  · intro a _ ha; rw [pds_star, nd_star]; simpa using ha

theorem ks_pos (p : Pat) (hp : wf p) : 3 ≤ ks p := by
  refine ind (P := fun p => 3 ≤ ks p) ?_ ?_ ?_ ?_ ?_ p hp
  · rw [ks_none]; omega
  · intro s _; rw [ks_set]; omega
  · intro a b _ _ _ _ ha hb; rw [ks_rowB]; omega
  · intro a b _ _ ha hb; rw [ks_any]; omega
  · intro a _ ha; rw [ks_star]; omega

theorem sq_le {a b : Nat} (h : a ≤ b) : a * a ≤ b * b := Nat.mul_le_mul h h

theorem sq_row (a b : Nat) (ha : 3 ≤ a) (hb : 3 ≤ b) : a * a + b + 3 ≤ (a + b + 3) * (a + b + 3) := by
  have h1 : (a + b + 3) * (a + b + 3) = a * a + a * (b + 3) + (b + 3) * (a + b + 3) := by rw [Nat.add_assoc, Nat.mul_add, Nat.add_mul]; simp [Nat.mul_add, Nat.mul_comm]
  have h2 : b + 3 ≤ (b + 3) * (a + b + 3) := Nat.le_mul_of_pos_right _ (by omega)
  omega

theorem sq_star (a : Nat) : a * a + a + 6 ≤ (a + 3) * (a + 3) := by
  have h1 : (a + 3) * (a + 3) = a * a + 6 * a + 9 := by simp [Nat.mul_add, Nat.mul_comm]; omega
  omega

theorem md_sq (p : Pat) (hp : wf p) : md p ≤ ks p * ks p := by
  refine ind (P := fun p => md p ≤ ks p * ks p) ?_ ?_ ?_ ?_ ?_ p hp
  · rw [md_none, ks_none]; omega
  · intro s _; rw [md_set, ks_set]; have := sq_le (show 3 ≤ s.length + 3 by omega); omega
  · intro a b wa wb _ _ ha hb
    rw [md_rowB, ks_rowB]
    have h1 := sq_row (ks a) (ks b) (ks_pos a wa) (ks_pos b wb)
    have h2 := sq_le (show ks b ≤ ks a + ks b + 3 by omega)
    omega
  · intro a b wa wb ha hb
    rw [md_any, ks_any]
    have h1 := sq_le (show ks a ≤ ks a + ks b + 3 by omega)
    have h2 := sq_le (show ks b ≤ ks a + ks b + 3 by omega)
    omega
  · intro a wa ha
    rw [md_star, ks_star]
    have := sq_star (ks a)
    omega

/-- How great the patterns are that may still come, in all three ways. -/
theorem pds_small (p : Pat) (hp : wf p) : ∀ q, q ∈ pds p → ks q ≤ ks p * ks p ∧ md q ≤ ks p * ks p ∧ nd q ≤ nd p * hs p := by
  refine ind (P := fun p => ∀ q, q ∈ pds p → ks q ≤ ks p * ks p ∧ md q ≤ ks p * ks p ∧ nd q ≤ nd p * hs p) ?_ ?_ ?_ ?_ ?_ p hp
  · simp [pds_none]
  · intro s _ q hq
    rw [pds_set] at hq; simp only [List.mem_singleton] at hq; subst hq
    rw [ks_none, ks_set, md_none, nd_none, nd_set]
    have := sq_le (show 3 ≤ s.length + 3 by omega)
    exact ⟨by omega, by omega, by simp [set, hs]⟩
  · intro a b wa wb _ kb ha hb q hq
    have pa := ks_pos a wa
    have pb := ks_pos b wb
    rw [pds_rowB, List.mem_append] at hq
    rw [ks_rowB, nd_rowB, hs_rowB]
    have s1 := sq_row (ks a) (ks b) pa pb
    have s2 := sq_le (show ks b ≤ ks a + ks b + 3 by omega)
    have n1 : nd a * hs a ≤ nd a * max (hs a) (hs b) := Nat.mul_le_mul_left _ (Nat.le_max_left _ _)
    have n2 : nd b * hs b ≤ nd b * max (hs a) (hs b) := Nat.mul_le_mul_left _ (Nat.le_max_right _ _)
    have hb1 : 1 ≤ max (hs a) (hs b) := by
      have : 1 ≤ hs a := by
        obtain ⟨k, s, l⟩ := a
        match l with
        | [] => simp [hs]
        | [_] => simp [hs]
        | [x, y] => 
          refine ind (P := fun p => 1 ≤ hs p) ?_ ?_ ?_ ?_ ?_ _ wa
          · simp [none, hs]
          · intro s _; simp [set, hs]
          · intro a b _ _ _ _ h1 h2; rw [hs_rowB]; omega
          · intro a b _ _ h1 h2; rw [hs_any]; omega
          · intro a _ h1; rw [hs_star]; omega
        | _ :: _ :: _ :: _ => simp [wf] at wa
      omega
    have n3 : nd b ≤ nd b * max (hs a) (hs b) := Nat.le_mul_of_pos_right _ hb1
    rw [Nat.add_mul (nd a) (nd b)]
    rcases hq with h | h
    · obtain ⟨z, hz, rfl⟩ := List.mem_map.1 h
      obtain ⟨i1, i2, i3⟩ := ha z hz
      have hk := ks_row z b
      have hmb := md_sq b wb
      by_cases kz : z.kind = 0
      · rw [row_kind0 kz]
        refine ⟨by have := sq_le (show 1 ≤ ks b by omega); have : ks b ≤ ks b * ks b := Nat.le_mul_of_pos_right _ (by omega); omega, by omega, by omega⟩
      · rw [row_kinds kz kb] at hk ⊢
        rw [md_rowB, nd_rowB]
        exact ⟨by omega, by omega, by omega⟩
    · obtain ⟨i1, i2, i3⟩ := hb q h
      exact ⟨by omega, by omega, by omega⟩
  · intro a b wa wb ha hb q hq
    rw [pds_any, List.mem_append] at hq
    rw [ks_any, nd_any, hs_any, Nat.add_mul (nd a) (nd b)]
    have s1 := sq_le (show ks a ≤ ks a + ks b + 3 by omega)
    have s2 := sq_le (show ks b ≤ ks a + ks b + 3 by omega)
    have n1 : nd a * hs a ≤ nd a * max (hs a) (hs b) := Nat.mul_le_mul_left _ (Nat.le_max_left _ _)
    have n2 : nd b * hs b ≤ nd b * max (hs a) (hs b) := Nat.mul_le_mul_left _ (Nat.le_max_right _ _)
    rcases hq with h | h
    · obtain ⟨i1, i2, i3⟩ := ha q h; exact ⟨by omega, by omega, by omega⟩
    · obtain ⟨i1, i2, i3⟩ := hb q h; exact ⟨by omega, by omega, by omega⟩
  · intro a wa ha q hq
    rw [pds_star] at hq
    rw [ks_star, nd_star, hs_star]
    obtain ⟨z, hz, rfl⟩ := List.mem_map.1 hq
    obtain ⟨i1, i2, i3⟩ := ha z hz
    have hk := ks_row z (star a)
    rw [ks_star] at hk
    have s1 := sq_star (ks a)
    have hm := md_sq a wa
    have n1 : nd a * (hs a + 1) = nd a * hs a + nd a := Nat.mul_succ _ _
    by_cases kz : z.kind = 0
    · rw [row_kind0 kz, ks_star, md_star, nd_star]
      refine ⟨?_, by omega, by omega⟩
      have := sq_le (show 1 ≤ ks a + 3 by omega)
      have : ks a + 3 ≤ (ks a + 3) * (ks a + 3) := Nat.le_mul_of_pos_right _ (by omega)
      omega
    · rw [row_kinds kz (by simp [star])] at hk ⊢
      rw [md_rowB, nd_rowB, nd_star, md_star, ks_star]
      exact ⟨by omega, by omega, by omega⟩

/-- Room for a pattern that is not too great. -/
theorem room (p : Pat) (hp : wf p) (hk : ks p ≤ 1000000000) (hn : nd p * hs p ≤ 400000000) (h1 : 1 ≤ hs p) : Room (p :: pds p) := by
  have hsq : ks p * ks p ≤ 1000000000 * 1000000000 := sq_le hk
  have hnd : nd p ≤ nd p * hs p := Nat.le_mul_of_pos_right _ h1
  refine ⟨?_, ?_, ?_⟩
  · intro q hq c x hx
    rcases List.mem_cons.1 hq with rfl | hq
    · exact List.mem_cons_of_mem _ (behind_pds q hp c x hx)
    · exact List.mem_cons_of_mem _ (pds_closed p hp c q hq x hx)
  · intro q hq
    rcases List.mem_cons.1 hq with rfl | hq
    · have := md_sq q hp; exact ⟨hp, by omega, by omega, by omega⟩
    · obtain ⟨i1, i2, i3⟩ := pds_small p hp q hq
      exact ⟨pds_wf p hp q hq, by omega, by omega, by omega⟩
  · have := pds_length p hp
    simp only [List.length_cons]; omega

end Ls

/- How great a pattern is that is read out of a short text. -/
namespace Ls

theorem hs_pos (p : Pat) (hp : wf p) : 1 ≤ hs p := by
  refine ind (P := fun p => 1 ≤ hs p) ?_ ?_ ?_ ?_ ?_ p hp
  · simp [none, hs]
  · intro s _; simp [set, hs]
  · intro a b _ _ _ _ h1 h2; rw [hs_rowB]; omega
  · intro a b _ _ h1 h2; rw [hs_any]; omega
  · intro a _ h1; rw [hs_star]; omega

theorem nd_row (a b : Pat) : nd (row a b) ≤ nd a + nd b := by
  unfold row; split
  · omega
  · split
    · omega
    · rw [nd_rowB]; omega

theorem hs_row (a b : Pat) : hs (row a b) ≤ max (hs a) (hs b) := by
  unfold row; split
  · omega
  · split
    · omega
    · rw [hs_rowB]; omega

theorem rngTo_len (acc : List UInt8) (a b : UInt8) (n : Nat) : (rngTo acc a b n).length ≤ acc.length + n := by
  induction n with
  | zero => simp [rngTo]
  | succ n ih =>
    unfold rngTo at ih ⊢
    rw [List.range_succ, List.foldl_append]
    simp only [List.foldl_cons, List.foldl_nil]
    split
    · rw [List.length_append]; simp only [List.length_cons, List.length_nil]; omega
    · omega

theorem rngTo_mem {acc : List UInt8} {a b : UInt8} (n : Nat) (hn : n ≤ 128) : ∀ c, c ∈ rngTo acc a b n → c ∈ acc ∨ (a.toNat ≤ c.toNat ∧ c.toNat ≤ b.toNat) := by
  induction n with
  | zero => intro c hc; exact .inl (by simpa [rngTo] using hc)
  | succ n ih =>
    intro c hc
    have ih := ih (by omega)
    unfold rngTo at ih hc
    rw [List.range_succ, List.foldl_append] at hc
    simp only [List.foldl_cons, List.foldl_nil] at hc
    split at hc
    · rename_i h
      rcases List.mem_append.1 hc with h1 | h1
      · exact ih c h1
      · simp only [List.mem_singleton] at h1
        subst h1
        have : (UInt8.ofNat n).toNat = n := by simp; omega
        exact .inr ⟨by omega, by omega⟩
    · exact ih c hc

theorem rngTo_has {acc : List UInt8} {a b : UInt8} (hab : a.toNat ≤ b.toNat) (n : Nat) (hn : a.toNat < n) : rngTo acc a b n ≠ [] := by
  induction n with
  | zero => omega
  | succ n ih =>
    unfold rngTo at ih ⊢
    rw [List.range_succ, List.foldl_append]
    simp only [List.foldl_cons, List.foldl_nil]
    split
    · simp
    · rename_i h
      rcases Nat.lt_or_ge a.toNat n with h1 | h1
      · exact ih h1
      · have e : a.toNat = n := by omega
        intro h0
        rw [h0] at h
        exact h ⟨by omega, by omega, by simp [has]⟩

theorem mark_bd {c : UInt8} (h : mark c = true) : 48 ≤ c.toNat ∧ c.toNat ≤ 122 := by
  simp [mark] at h; omega

theorem range1_ok {r t : List UInt8} {a b : UInt8} (h : range1 r = some (a, b, t)) : mark a = true ∧ mark b = true ∧ a.toNat ≤ b.toNat := by
  cases r with
  | nil => simp [range1] at h
  | cons c r =>
    unfold range1 at h
    dsimp only at h
    split at h
    · simp at h
    · rename_i hm
      split at h
      · split at h
        · simp at h
        · split at h
          · simp at h
          · rename_i hb
            simp at h
            obtain ⟨rfl, rfl, _⟩ := h
            simp only [not_or, Bool.not_eq_false] at hb
            exact ⟨by simpa using hm, hb.1, by omega⟩
      · simp at h
        obtain ⟨rfl, rfl, _⟩ := h
        exact ⟨by simpa using hm, by simpa using hm, Nat.le_refl _⟩

theorem cls_ok : (n : Nat) → (acc r s t : List UInt8) → (∀ c, c ∈ acc → 48 ≤ c.toNat ∧ c.toNat ≤ 122) → cls n acc r = some (s, t) → s ≠ [] ∧ (∀ c, c ∈ s → 48 ≤ c.toNat ∧ c.toNat ≤ 122) ∧ s.length + 128 * t.length ≤ acc.length + 128 * r.length
  | 0, _, _, _, _, _, h => by simp [cls] at h
  | n + 1, acc, r, s, t, hacc, h => by
    rw [cls] at h
    split at h
    · simp at h
    · rename_i a b u hr
      obtain ⟨ma, mb, hab⟩ := range1_ok hr
      have ba := mark_bd ma
      have bb := mark_bd mb
      have hs := range1_suf hr
      have hl := rngTo_len acc a b 128
      have hmem : ∀ c, c ∈ rng acc a b → 48 ≤ c.toNat ∧ c.toNat ≤ 122 := fun c hc => by
        rcases rngTo_mem 128 (Nat.le_refl _) c hc with h | h
        · exact hacc c h
        · omega
      split at h
      · rename_i hx
        have := tail_len hx
        simp at h
        obtain ⟨rfl, rfl⟩ := h
        exact ⟨rngTo_has hab 128 (by omega), hmem, by unfold rng; omega⟩
      · obtain ⟨h1, h2, h3⟩ := cls_ok n _ _ _ _ hmem h
        exact ⟨h1, h2, by unfold rng at h3; omega⟩

/-- How great what is read is: c signs were read. -/
def Bd (X Y c : Nat) (p : Pat) : Prop := wf p ∧ nd p ≤ X ∧ ks p ≤ Y ∧ hs p ≤ c

def Bnd (X Y : Nat) (P : List UInt8 → Rd) : Prop := ∀ r d t, P r = some (d, t) → ∃ c, r.length = t.length + c ∧ Bd ((c + 1) * X) ((c + 1) * Y) (c + 1) (toPat d)

theorem bd_place {X Y c : Nat} (hX : 1 ≤ X) (hY : 131 ≤ Y) (hc : 1 ≤ c) {s : List UInt8} (hs : okSigns s) (hl : s.length + 3 ≤ 131 * c) : Bd (c * X) (c * Y) c (toPat (place s)) := by
  rw [toPat_place]
  refine ⟨wf_set hs, ?_, ?_, by simp [set, Ls.hs]; omega⟩
  · rw [nd_set]; exact Nat.mul_pos hc hX
  · rw [ks_set]
    have : c * 131 ≤ c * Y := Nat.mul_le_mul_left _ hY
    omega

theorem oneOf_bd {X Y : Nat} (hX : 1 ≤ X) (hY : 131 ≤ Y) {P : List UInt8 → Rd} (hP : Bnd X Y P) {r : List UInt8} {d : D} {t : List UInt8} (h : oneOf P r = some (d, t)) : ∃ c, 1 ≤ c ∧ r.length = t.length + c ∧ Bd (c * X) (c * Y) c (toPat d) := by
  cases r with
  | nil => simp [oneOf] at h
  | cons e r =>
    unfold oneOf at h
    dsimp only at h
    split at h
    · split at h
      · simp at h
      · rename_i d' u he
        obtain ⟨c, h1, h2, h3, h4, h5⟩ := hP _ _ _ he
        split at h
        · rename_i h41
          have := tail_len h41
          simp at h; obtain ⟨rfl, rfl⟩ := h
          refine ⟨c + 2, by omega, by simp only [List.length_cons]; omega, h2, ?_, ?_, by omega⟩
          · have : (c + 1) * X ≤ (c + 2) * X := Nat.mul_le_mul_right _ (by omega); omega
          · have : (c + 1) * Y ≤ (c + 2) * Y := Nat.mul_le_mul_right _ (by omega); omega
        · simp at h
    · split at h
      · split at h
        · simp at h
        · rename_i s u he
          obtain ⟨h1, h2, h3⟩ := cls_ok _ _ _ _ _ (by simp) he
          have h4 := (cls_suf _ _ _ _ _ he).2
          simp at h; obtain ⟨rfl, rfl⟩ := h
          refine ⟨r.length + 1 - u.length, by omega, by simp only [List.length_cons]; omega, bd_place hX hY (by omega) (.inr ⟨h1, h2⟩) ?_⟩
          simp at h3; omega
      · split at h
        · simp at h; obtain ⟨rfl, rfl⟩ := h
          exact ⟨1, by omega, by simp, bd_place hX hY (by omega) (.inr ⟨by simp [az], by decide⟩) (by decide)⟩
        · split at h
          · split at h
            · simp at h
            · split at h
              · simp at h; obtain ⟨rfl, rfl⟩ := h
                exact ⟨2, by omega, by simp, bd_place hX hY (by omega) (.inl ⟨_, rfl⟩) (by simp)⟩
              · simp at h
          · split at h
            · simp at h
            · simp at h; obtain ⟨rfl, rfl⟩ := h
              exact ⟨1, by omega, by simp, bd_place hX hY (by omega) (.inl ⟨_, rfl⟩) (by simp)⟩

theorem thing_bd {X Y : Nat} (hX : 1 ≤ X) (hY : 131 ≤ Y) {P : List UInt8 → Rd} (hP : Bnd X Y P) {r : List UInt8} {d : D} {t : List UInt8} (h : thing P r = some (d, t)) : ∃ c, 1 ≤ c ∧ r.length = t.length + c ∧ Bd (c * (2 * X)) (c * (2 * Y + 6)) c (toPat d) := by
  rw [thing] at h
  split at h
  · simp at h
  · rename_i a u hu
    obtain ⟨c, h0, h1, h2, h3, h4, h5⟩ := oneOf_bd hX hY hP hu
    have e1 : c * (2 * X) = 2 * (c * X) := Nat.mul_left_comm _ _ _
    have e2 : c * (2 * Y + 6) = 2 * (c * Y) + 6 * c := by rw [Nat.mul_add, Nat.mul_left_comm, Nat.mul_comm c 6]
    have e3 : (c + 1) * (2 * X) = 2 * (c * X) + 2 * X := by rw [Nat.add_mul, e1, Nat.one_mul]
    have e4 : (c + 1) * (2 * Y + 6) = 2 * (c * Y) + 6 * c + 2 * Y + 6 := by rw [Nat.add_mul, e2, Nat.one_mul]; omega
    split at h
    · rename_i hx
      have := tail_len hx
      simp at h; obtain ⟨rfl, rfl⟩ := h
      rw [toPat_star]
      exact ⟨c + 1, by omega, by omega, wf_star h2, by rw [nd_star]; omega, by rw [ks_star]; omega, by rw [hs_star]; omega⟩
    · split at h
      · rename_i hx
        have := tail_len hx
        simp at h; obtain ⟨rfl, rfl⟩ := h
        rw [toPat_plus]
        have a1 := nd_row (toPat a) (star (toPat a))
        have a2 := ks_row (toPat a) (star (toPat a))
        have a3 := hs_row (toPat a) (star (toPat a))
        rw [nd_star] at a1
        rw [ks_star] at a2
        rw [hs_star] at a3
        exact ⟨c + 1, by omega, by omega, wf_row h2 (wf_star h2), by omega, by omega, by omega⟩
      · split at h
        · rename_i hx
          have := tail_len hx
          simp at h; obtain ⟨rfl, rfl⟩ := h
          rw [toPat_opt]
          exact ⟨c + 1, by omega, by omega, wf_any h2 wf_none, by rw [nd_any, nd_none]; omega, by rw [ks_any, ks_none]; omega, by rw [hs_any]; simp [none, Ls.hs]; omega⟩
        · simp at h; obtain ⟨rfl, rfl⟩ := h
          exact ⟨c, h0, h1, h2, by omega, by omega, h5⟩

theorem things_bd {X Y : Nat} (hX : 1 ≤ X) (hY : 131 ≤ Y) {P : List UInt8 → Rd} (hP : Bnd X Y P) : (n : Nat) → (r : List UInt8) → (d : D) → (t : List UInt8) → things P n r = some (d, t) → ∃ c, r.length = t.length + c ∧ Bd (c * (2 * X) + 1) (c * (2 * Y + 9) + 3) (c + 1) (toPat d)
  | 0, _, _, _, h => by simp [things] at h
  | n + 1, r, d, t, h => by
    rw [things] at h
    split at h
    · simp at h; obtain ⟨rfl, rfl⟩ := h
      rw [toPat_rnil]
      exact ⟨0, by omega, wf_none, by rw [nd_none]; omega, by rw [ks_none]; omega, by simp [none, Ls.hs]⟩
    · split at h
      · simp at h
      · rename_i a r1 h1
        obtain ⟨c1, a0, a1, a2, a3, a4, a5⟩ := thing_bd hX hY hP h1
        split at h
        · simp at h
        · rename_i b r2 h3
          obtain ⟨c2, b1, b2, b3, b4, b5⟩ := things_bd hX hY hP n r1 b r2 h3
          simp at h; obtain ⟨rfl, rfl⟩ := h
          rw [toPat_rcons]
          have e1 := nd_row (toPat a) (toPat b)
          have e2 := ks_row (toPat a) (toPat b)
          have e3 := hs_row (toPat a) (toPat b)
          have e4 : (c1 + c2) * (2 * X) = c1 * (2 * X) + c2 * (2 * X) := Nat.add_mul _ _ _
          have e5 : (c1 + c2) * (2 * Y + 9) = c1 * (2 * Y + 6) + 3 * c1 + c2 * (2 * Y + 9) := by
            rw [Nat.add_mul, show 2 * Y + 9 = (2 * Y + 6) + 3 from by omega, Nat.mul_add c1, Nat.mul_comm c1 3]
          exact ⟨c1 + c2, by omega, wf_row a2 b2, by omega, by omega, by omega⟩

theorem alts_bd {X Y : Nat} (hX : 1 ≤ X) (hY : 131 ≤ Y) {P : List UInt8 → Rd} (hP : Bnd X Y P) : (n : Nat) → (r : List UInt8) → (d : D) → (t : List UInt8) → alts P n r = some (d, t) → ∃ c, r.length = t.length + c ∧ Bd ((c + 1) * (2 * X)) ((c + 1) * (2 * Y + 12)) (c + 1) (toPat d)
  | 0, _, _, _, h => by simp [alts] at h
  | n + 1, r, d, t, h => by
    rw [alts] at h
    split at h
    · simp at h
    · rename_i a r1 h1
      obtain ⟨c1, a1, a2, a3, a4, a5⟩ := things_bd hX hY hP _ _ _ _ h1
      have f1 : (c1 + 1) * (2 * X) = c1 * (2 * X) + 2 * X := by rw [Nat.add_mul, Nat.one_mul]
      have f2 : (c1 + 1) * (2 * Y + 12) = c1 * (2 * Y + 9) + 3 * c1 + 2 * Y + 12 := by
        rw [Nat.add_mul, Nat.one_mul, show 2 * Y + 12 = (2 * Y + 9) + 3 from by omega, Nat.mul_add c1, Nat.mul_comm c1 3]; omega
      split at h
      · rename_i hx
        have := tail_len hx
        split at h
        · simp at h
        · rename_i b r3 h3
          obtain ⟨c2, b1, b2, b3, b4, b5⟩ := alts_bd hX hY hP n _ b r3 h3
          simp at h; obtain ⟨rfl, rfl⟩ := h
          rw [toPat_ccons]
          have g1 : (c1 + 1 + c2 + 1) * (2 * X) = (c1 + 1) * (2 * X) + (c2 + 1) * (2 * X) := by rw [Nat.add_assoc, Nat.add_mul]
          have g2 : (c1 + 1 + c2 + 1) * (2 * Y + 12) = (c1 + 1) * (2 * Y + 12) + (c2 + 1) * (2 * Y + 12) := by rw [Nat.add_assoc, Nat.add_mul]
          exact ⟨c1 + 1 + c2, by omega, wf_any a2 b2, by rw [nd_any]; omega, by rw [ks_any]; omega, by rw [hs_any]; omega⟩
      · simp at h; obtain ⟨rfl, rfl⟩ := h
        rw [toPat_clast]
        exact ⟨c1, a1, a2, by omega, by omega, a5⟩

theorem pat_bd : (d : Nat) → Bnd (2 ^ d) (143 * 2 ^ d - 12) (pat d)
  | 0 => fun r e t h => by simp [pat] at h
  | d + 1 => fun r e t h => by
    have hp : 1 ≤ 2 ^ d := Nat.one_le_two_pow
    have h1 := alts_bd (X := 2 ^ d) (Y := 143 * 2 ^ d - 12) hp (by omega) (pat_bd d) _ _ _ _ h
    rw [show 2 ^ (d + 1) = 2 * 2 ^ d from by rw [Nat.pow_succ, Nat.mul_comm], show 143 * (2 * 2 ^ d) - 12 = 2 * (143 * 2 ^ d - 12) + 12 from by omega]
    exact h1

/-- Every pattern that is read out of a text of at most 120 signs has room. -/
theorem read_room {r : List UInt8} {d : D} {t : List UInt8} (h : pat 13 r = some (d, t)) (hr : r.length ≤ 120) : Room (toPat d :: pds (toPat d)) := by
  obtain ⟨c, h1, h2, h3, h4, h5⟩ := pat_bd 13 r d t h
  have hc : c + 1 ≤ 121 := by omega
  have e13 : (2 : Nat) ^ 13 = 8192 := by decide
  rw [e13] at h3 h4
  have n1 : (c + 1) * 8192 ≤ 121 * 8192 := Nat.mul_le_mul_right _ hc
  have n2 : (c + 1) * (143 * 8192 - 12) ≤ 121 * (143 * 8192 - 12) := Nat.mul_le_mul_right _ hc
  have m1 : nd (toPat d) ≤ 991232 := by omega
  have m2 : hs (toPat d) ≤ 121 := by omega
  have n3 := Nat.mul_le_mul m1 m2
  exact room _ h2 (by omega) (by omega) (hs_pos _ h2)

end Ls

/- What texts are of a pattern; the reference's answer is that. -/
namespace Ls

/-- Pieces of L, one behind the other. -/
def Pieces (L : List UInt8 → Prop) (s : List UInt8) : Prop := ∃ ps : List (List UInt8), s = ps.flatten ∧ ∀ x, x ∈ ps → L x

/-- The text s is one of the pattern. -/
def inL : Pat → List UInt8 → Prop
  | ⟨k, g, []⟩, s => if k = 1 then ∃ c, s = [c] ∧ has g c = true else s = []
  | ⟨_, _, [a]⟩, s => Pieces (inL a) s
  | ⟨k, _, [a, b]⟩, s => if k = 3 then inL a s ∨ inL b s else ∃ u v, s = u ++ v ∧ inL a u ∧ inL b v
  | _, _ => False

theorem inL_none (s : List UInt8) : inL none s ↔ s = [] := by simp [none, inL]
theorem inL_set (g s : List UInt8) : inL (set g) s ↔ ∃ c, s = [c] ∧ has g c = true := by simp [set, inL]
theorem inL_rowB (a b : Pat) (s : List UInt8) : inL (rowB a b) s ↔ ∃ u v, s = u ++ v ∧ inL a u ∧ inL b v := by simp [rowB, inL]
theorem inL_any (a b : Pat) (s : List UInt8) : inL (any a b) s ↔ inL a s ∨ inL b s := by simp [any, inL]
theorem inL_star (a : Pat) (s : List UInt8) : inL (star a) s ↔ Pieces (inL a) s := by simp [star, inL]

theorem wf_kind0 {p : Pat} (h : wf p) (hk : p.kind = 0) : p = none := by
  refine ind (P := fun p => p.kind = 0 → p = none) ?_ ?_ ?_ ?_ ?_ p h hk
  · intro _; rfl
  · intro s _ h; simp [set] at h
  · intro a b _ _ _ _ _ _ h; simp [rowB] at h
  · intro a b _ _ _ _ h; simp [any] at h
  · intro a _ _ h; simp [star] at h

theorem inL_row {a b : Pat} (ha : wf a) (hb : wf b) (s : List UInt8) : inL (row a b) s ↔ ∃ u v, s = u ++ v ∧ inL a u ∧ inL b v := by
  unfold row
  split
  · rename_i h
    rw [wf_kind0 ha h]
    constructor
    · intro h; exact ⟨[], s, rfl, (inL_none _).2 rfl, h⟩
    · rintro ⟨u, v, rfl, hu, hv⟩; rw [inL_none] at hu; subst hu; exact hv
  · split
    · rename_i h
      rw [wf_kind0 hb h]
      constructor
      · intro h; exact ⟨s, [], by simp, h, (inL_none _).2 rfl⟩
      · rintro ⟨u, v, rfl, hu, hv⟩; rw [inL_none] at hv; subst hv; simpa using hu
    · exact inL_rowB a b s

theorem empty_none' : empty none = true := by simp [none, empty]
theorem empty_set' (g : List UInt8) : empty (set g) = false := by simp [set, empty]
theorem empty_rowB' (a b : Pat) : empty (rowB a b) = (empty a && empty b) := by simp [rowB, empty]
theorem empty_any' (a b : Pat) : empty (any a b) = (empty a || empty b) := by simp [any, empty]
theorem empty_star' (a : Pat) : empty (star a) = true := by simp [star, empty]

theorem empty_inL (p : Pat) (h : wf p) : empty p = true ↔ inL p [] := by
  refine ind (P := fun p => empty p = true ↔ inL p []) ?_ ?_ ?_ ?_ ?_ p h
  · simp [empty_none', inL_none]
  · intro g _; simp [empty_set', inL_set]
  · intro a b _ _ _ _ ha hb
    rw [empty_rowB', inL_rowB, Bool.and_eq_true, ha, hb]
    constructor
    · rintro ⟨h1, h2⟩; exact ⟨[], [], rfl, h1, h2⟩
    · rintro ⟨u, v, e, h1, h2⟩
      obtain ⟨rfl, rfl⟩ := List.nil_eq_append_iff.1 e
      exact ⟨h1, h2⟩
  · intro a b _ _ ha hb; rw [empty_any', inL_any, Bool.or_eq_true, ha, hb]
  · intro a _ _; rw [empty_star', inL_star]; simp; exact ⟨[], rfl, by simp⟩

/-! ### Keys tell patterns apart -/

theorem sep40 {a b x y : List UInt8} (ha : ∀ c, c ∈ a → c ≠ 40) (hb : ∀ c, c ∈ b → c ≠ 40) (h : a ++ 40 :: x = b ++ 40 :: y) : a = b ∧ x = y := by
  induction a generalizing b with
  | nil =>
    cases b with
    | nil => simp at h; exact ⟨rfl, h⟩
    | cons c b => simp at h; exact absurd h.1.symm (hb c (by simp))
  | cons c a ih =>
    cases b with
    | nil => simp at h; exact absurd h.1 (ha c (by simp))
    | cons d b =>
      simp at h
      obtain ⟨rfl, h⟩ := h
      obtain ⟨rfl, rfl⟩ := ih (fun c hc => ha c (by simp [hc])) (fun c hc => hb c (by simp [hc])) h
      exact ⟨rfl, rfl⟩

theorem ne40 {c : UInt8} (h : 48 ≤ c.toNat) : c ≠ 40 := by rintro rfl; exact absurd h (by decide)

theorem signs_inj {a b x y : List UInt8} (ha : okSigns a) (hb : okSigns b) (h : a ++ 40 :: 41 :: x = b ++ 40 :: 41 :: y) : a = b ∧ x = y := by
  rcases ha with ⟨c, rfl⟩ | ⟨ha, ha2⟩
  · rcases hb with ⟨d, rfl⟩ | ⟨hb, hb2⟩
    · simp at h; exact ⟨by rw [h.1], h.2⟩
    · cases b with
      | nil => exact absurd rfl hb
      | cons d b =>
        simp at h
        obtain ⟨rfl, h⟩ := h
        cases b with
        | nil => simp at h; exact ⟨rfl, h⟩
        | cons e b => simp at h; exact absurd h.1.symm (ne40 (hb2 e (by simp)).1)
  · rcases hb with ⟨d, rfl⟩ | ⟨hb, hb2⟩
    · cases a with
      | nil => exact absurd rfl ha
      | cons c a =>
        simp at h
        obtain ⟨rfl, h⟩ := h
        cases a with
        | nil => simp at h; exact ⟨rfl, h⟩
        | cons e a => simp at h; exact absurd h.1 (ne40 (ha2 e (by simp)).1)
    · obtain ⟨h1, h2⟩ := sep40 (fun c hc => ne40 (ha2 c hc).1) (fun c hc => ne40 (hb2 c hc).1) h
      simp at h2
      exact ⟨h1, h2⟩

theorem key_none' (x : List UInt8) : key none ++ x = 48 :: 40 :: 41 :: x := by simp [none, key]
theorem key_set' (g x : List UInt8) : key (set g) ++ x = 49 :: (g ++ 40 :: 41 :: x) := by simp [set, key]
theorem key_rowB' (a b : Pat) (x : List UInt8) : key (rowB a b) ++ x = 50 :: 40 :: (key a ++ (key b ++ 41 :: x)) := by simp [rowB, key]
theorem key_any' (a b : Pat) (x : List UInt8) : key (any a b) ++ x = 51 :: 40 :: (key a ++ (key b ++ 41 :: x)) := by simp [any, key]
theorem key_star' (a : Pat) (x : List UInt8) : key (star a) ++ x = 52 :: 40 :: (key a ++ 41 :: x) := by simp [star, key]

/-- A well formed pattern is one of five. -/
theorem wf_cases {p : Pat} (h : wf p) : p = none ∨ (∃ g, okSigns g ∧ p = set g) ∨ (∃ a b, wf a ∧ wf b ∧ p = rowB a b) ∨ (∃ a b, wf a ∧ wf b ∧ p = any a b) ∨ (∃ a, wf a ∧ p = star a) := by
  refine ind (P := fun p => p = none ∨ (∃ g, okSigns g ∧ p = set g) ∨ (∃ a b, wf a ∧ wf b ∧ p = rowB a b) ∨ (∃ a b, wf a ∧ wf b ∧ p = any a b) ∨ (∃ a, wf a ∧ p = star a)) ?_ ?_ ?_ ?_ ?_ p h
  · exact .inl rfl
  · intro g hg; exact .inr (.inl ⟨g, hg, rfl⟩)
  · intro a b wa wb _ _ _ _; exact .inr (.inr (.inl ⟨a, b, wa, wb, rfl⟩))
  · intro a b wa wb _ _; exact .inr (.inr (.inr (.inl ⟨a, b, wa, wb, rfl⟩)))
  · intro a wa _; exact .inr (.inr (.inr (.inr ⟨a, wa, rfl⟩)))

theorem key_prefix (p : Pat) (hp : wf p) : ∀ q, wf q → ∀ x y, key p ++ x = key q ++ y → p = q ∧ x = y := by
  refine ind (P := fun p => ∀ q, wf q → ∀ x y, key p ++ x = key q ++ y → p = q ∧ x = y) ?_ ?_ ?_ ?_ ?_ p hp
  · intro q hq x y h
    rcases wf_cases hq with rfl | ⟨g, hg, rfl⟩ | ⟨a, b, wa, wb, rfl⟩ | ⟨a, b, wa, wb, rfl⟩ | ⟨a, wa, rfl⟩ <;> simp only [key_none', key_set', key_rowB', key_any', key_star', List.cons.injEq] at h
    · exact ⟨rfl, h.2.2.2⟩
    all_goals exact absurd h.1 (by decide)
  · intro g hg q hq x y h
    rcases wf_cases hq with rfl | ⟨g', hg', rfl⟩ | ⟨a, b, wa, wb, rfl⟩ | ⟨a, b, wa, wb, rfl⟩ | ⟨a, wa, rfl⟩ <;> simp only [key_none', key_set', key_rowB', key_any', key_star', List.cons.injEq] at h
    · exact absurd h.1 (by decide)
    · obtain ⟨rfl, rfl⟩ := signs_inj hg hg' h.2
      exact ⟨rfl, rfl⟩
    all_goals exact absurd h.1 (by decide)
  · intro a b wa wb _ _ ha hb q hq x y h
    rcases wf_cases hq with rfl | ⟨g', hg', rfl⟩ | ⟨a', b', wa', wb', rfl⟩ | ⟨a', b', wa', wb', rfl⟩ | ⟨a', wa', rfl⟩ <;> simp only [key_none', key_set', key_rowB', key_any', key_star', List.cons.injEq] at h
    · exact absurd h.1 (by decide)
    · exact absurd h.1 (by decide)
    · obtain ⟨rfl, h2⟩ := ha a' wa' _ _ h.2.2
      obtain ⟨rfl, h3⟩ := hb b' wb' _ _ h2
      simp at h3
      exact ⟨rfl, h3⟩
    all_goals exact absurd h.1 (by decide)
  · intro a b wa wb ha hb q hq x y h
    rcases wf_cases hq with rfl | ⟨g', hg', rfl⟩ | ⟨a', b', wa', wb', rfl⟩ | ⟨a', b', wa', wb', rfl⟩ | ⟨a', wa', rfl⟩ <;> simp only [key_none', key_set', key_rowB', key_any', key_star', List.cons.injEq] at h
    · exact absurd h.1 (by decide)
    · exact absurd h.1 (by decide)
    · exact absurd h.1 (by decide)
    · obtain ⟨rfl, h2⟩ := ha a' wa' _ _ h.2.2
      obtain ⟨rfl, h3⟩ := hb b' wb' _ _ h2
      simp at h3
      exact ⟨rfl, h3⟩
    · exact absurd h.1 (by decide)
  · intro a wa ha q hq x y h
    rcases wf_cases hq with rfl | ⟨g', hg', rfl⟩ | ⟨a', b', wa', wb', rfl⟩ | ⟨a', b', wa', wb', rfl⟩ | ⟨a', wa', rfl⟩ <;> simp only [key_none', key_set', key_rowB', key_any', key_star', List.cons.injEq] at h
    · exact absurd h.1 (by decide)
    · exact absurd h.1 (by decide)
    · exact absurd h.1 (by decide)
    · exact absurd h.1 (by decide)
    · obtain ⟨rfl, h2⟩ := ha a' wa' _ _ h.2.2
      simp at h2
      exact ⟨rfl, h2⟩

theorem key_inj {p q : Pat} (hp : wf p) (hq : wf q) (h : key p = key q) : p = q := (key_prefix p hp q hq [] [] (by simpa using h)).1

/-! ### What is put is there -/

theorem put_mem {l : List Pat} {x : Pat} (hl : ∀ y, y ∈ l → wf y) (hx : wf x) : ∀ q, q ∈ put l x ↔ q ∈ l ∨ q = x := by
  intro q
  unfold put
  split
  · rename_i h
    constructor
    · exact .inl
    · rintro (h1 | rfl)
      · exact h1
      · rw [List.any_eq_true] at h
        obtain ⟨y, hy, e⟩ := h
        rw [← key_inj (hl y hy) hx (by simpa using e)]
        exact hy
  · simp

theorem put_wf {l : List Pat} {x : Pat} (hl : ∀ y, y ∈ l → wf y) (hx : wf x) : ∀ q, q ∈ put l x → wf q := fun q hq => by
  rcases (put_mem hl hx q).1 hq with h | rfl
  · exact hl q h
  · exact hx

theorem putAll_mem {l m : List Pat} (hl : ∀ y, y ∈ l → wf y) (hm : ∀ y, y ∈ m → wf y) : ∀ q, q ∈ putAll l m ↔ q ∈ l ∨ q ∈ m := by
  induction m generalizing l with
  | nil => intro q; simp [putAll]
  | cons x m ih =>
    intro q
    have hx := hm x (by simp)
    show q ∈ putAll (put l x) m ↔ _
    rw [ih (put_wf hl hx) (fun y hy => hm y (by simp [hy])), put_mem hl hx]
    simp [or_assoc]

/-! ### What comes behind a sign -/

theorem pieces_cons {L : List UInt8 → Prop} {c : UInt8} {s : List UInt8} : Pieces L (c :: s) ↔ ∃ u v, s = u ++ v ∧ L (c :: u) ∧ Pieces L v := by
  constructor
  · rintro ⟨ps, e, h⟩
    induction ps with
    | nil => simp at e
    | cons p ps ih =>
      cases p with
      | nil => simp at e; exact ih (by simpa using e) (fun x hx => h x (by simp [hx]))
      | cons d p =>
        simp at e
        obtain ⟨rfl, e⟩ := e
        exact ⟨p, ps.flatten, e, h _ (by simp), ps, rfl, fun x hx => h x (by simp [hx])⟩
  · rintro ⟨u, v, rfl, h1, ps, rfl, h2⟩
    refine ⟨(c :: u) :: ps, by simp, fun x hx => ?_⟩
    rcases List.mem_cons.1 hx with rfl | hx
    · exact h1
    · exact h2 x hx

theorem behind_inL (p : Pat) (hp : wf p) (c : UInt8) : ∀ s, inL p (c :: s) ↔ ∃ q, q ∈ behind p c ∧ inL q s := by
  refine ind (P := fun p => ∀ s, inL p (c :: s) ↔ ∃ q, q ∈ behind p c ∧ inL q s) ?_ ?_ ?_ ?_ ?_ p hp
  · intro s; simp [inL_none, behind_none]
  · intro g _ s
    rw [inL_set, behind_set]
    constructor
    · rintro ⟨d, e, h⟩
      simp at e
      obtain ⟨rfl, rfl⟩ := e
      exact ⟨none, by simp [h], (inL_none _).2 rfl⟩
    · rintro ⟨q, hq, h⟩
      split at hq
      · rename_i hg
        simp at hq; subst hq
        rw [inL_none] at h; subst h
        exact ⟨c, rfl, hg⟩
      · simp at hq
  · intro a b wa wb ka kb ha hb s
    have hma : ∀ y, y ∈ (behind a c).map (fun x => row x b) → wf y := fun y hy => by
      obtain ⟨z, hz, rfl⟩ := List.mem_map.1 hy
      exact wf_row (behind_ok a wa c z hz).1 wb
    have hmb : ∀ y, y ∈ behind b c → wf y := fun y hy => (behind_ok b wb c y hy).1
    have hm0 : ∀ q, q ∈ putAll [] ((behind a c).map (fun x => row x b)) ↔ q ∈ (behind a c).map (fun x => row x b) := fun q => by
      rw [putAll_mem (by simp) hma]; simp
    have left : (∃ u v, s = u ++ v ∧ inL a (c :: u) ∧ inL b v) ↔ ∃ q, q ∈ (behind a c).map (fun x => row x b) ∧ inL q s := by
      constructor
      · rintro ⟨u, v, rfl, h1, h2⟩
        obtain ⟨z, hz, h3⟩ := (ha u).1 h1
        exact ⟨row z b, List.mem_map.2 ⟨z, hz, rfl⟩, (inL_row (behind_ok a wa c z hz).1 wb _).2 ⟨u, v, rfl, h3, h2⟩⟩
      · rintro ⟨q, hq, h⟩
        obtain ⟨z, hz, rfl⟩ := List.mem_map.1 hq
        obtain ⟨u, v, rfl, h1, h2⟩ := (inL_row (behind_ok a wa c z hz).1 wb _).1 h
        exact ⟨u, v, rfl, (ha u).2 ⟨z, hz, h1⟩, h2⟩
    have hsplit : inL (rowB a b) (c :: s) ↔ (∃ u v, s = u ++ v ∧ inL a (c :: u) ∧ inL b v) ∨ (inL a [] ∧ inL b (c :: s)) := by
      rw [inL_rowB]
      constructor
      · rintro ⟨u, v, e, h1, h2⟩
        cases u with
        | nil => simp at e; subst e; exact .inr ⟨h1, h2⟩
        | cons d u => simp at e; obtain ⟨rfl, rfl⟩ := e; exact .inl ⟨u, v, rfl, h1, h2⟩
      · rintro (⟨u, v, rfl, h1, h2⟩ | ⟨h1, h2⟩)
        · exact ⟨c :: u, v, rfl, h1, h2⟩
        · exact ⟨[], c :: s, rfl, h1, h2⟩
    rw [hsplit, left, behind_rowB, ← empty_inL a wa]
    split
    · rename_i hE
      simp only [hE, true_and, hb s]
      have hw0 : ∀ y, y ∈ putAll [] ((behind a c).map (fun x => row x b)) → wf y := fun y hy => hma y ((hm0 y).1 hy)
      constructor
      · rintro (⟨q, hq, h⟩ | ⟨q, hq, h⟩)
        · exact ⟨q, (putAll_mem hw0 hmb q).2 (.inl ((hm0 q).2 hq)), h⟩
        · exact ⟨q, (putAll_mem hw0 hmb q).2 (.inr hq), h⟩
      · rintro ⟨q, hq, h⟩
        rcases (putAll_mem hw0 hmb q).1 hq with h1 | h1
        · exact .inl ⟨q, (hm0 q).1 h1, h⟩
        · exact .inr ⟨q, h1, h⟩
    · rename_i hE
      simp only [hE, Bool.false_eq_true, false_and, or_false]
      constructor
      · rintro ⟨q, hq, h⟩; exact ⟨q, (hm0 q).2 hq, h⟩
      · rintro ⟨q, hq, h⟩; exact ⟨q, (hm0 q).1 hq, h⟩
  · intro a b wa wb ha hb s
    rw [inL_any, behind_any, ha s, hb s]
    have h1 : ∀ y, y ∈ behind a c → wf y := fun y hy => (behind_ok a wa c y hy).1
    have h2 : ∀ y, y ∈ behind b c → wf y := fun y hy => (behind_ok b wb c y hy).1
    constructor
    · rintro (⟨q, hq, h⟩ | ⟨q, hq, h⟩)
      · exact ⟨q, (putAll_mem h1 h2 q).2 (.inl hq), h⟩
      · exact ⟨q, (putAll_mem h1 h2 q).2 (.inr hq), h⟩
    · rintro ⟨q, hq, h⟩
      rcases (putAll_mem h1 h2 q).1 hq with h3 | h3
      · exact .inl ⟨q, h3, h⟩
      · exact .inr ⟨q, h3, h⟩
  · intro a wa ha s
    have hm : ∀ y, y ∈ (behind a c).map (fun x => row x (star a)) → wf y := fun y hy => by
      obtain ⟨z, hz, rfl⟩ := List.mem_map.1 hy
      exact wf_row (behind_ok a wa c z hz).1 (wf_star wa)
    have hm0 : ∀ q, q ∈ putAll [] ((behind a c).map (fun x => row x (star a))) ↔ q ∈ (behind a c).map (fun x => row x (star a)) := fun q => by
      rw [putAll_mem (by simp) hm]; simp
    rw [inL_star, behind_star, pieces_cons]
    constructor
    · rintro ⟨u, v, rfl, h1, h2⟩
      obtain ⟨z, hz, h3⟩ := (ha u).1 h1
      exact ⟨row z (star a), (hm0 _).2 (List.mem_map.2 ⟨z, hz, rfl⟩), (inL_row (behind_ok a wa c z hz).1 (wf_star wa) _).2 ⟨u, v, rfl, h3, (inL_star _ _).2 h2⟩⟩
    · rintro ⟨q, hq, h⟩
      obtain ⟨z, hz, rfl⟩ := List.mem_map.1 ((hm0 q).1 hq)
      obtain ⟨u, v, rfl, h1, h2⟩ := (inL_row (behind_ok a wa c z hz).1 (wf_star wa) _).1 h
      exact ⟨u, v, rfl, (ha u).2 ⟨z, hz, h1⟩, (inL_star _ _).1 h2⟩

theorem step_mem {l : List Pat} (hl : ∀ y, y ∈ l → wf y) (c : UInt8) : (∀ q, q ∈ step l c → wf q) ∧ ∀ q, q ∈ step l c ↔ ∃ p, p ∈ l ∧ q ∈ behind p c := by
  have : ∀ (l m : List Pat), (∀ y, y ∈ l → wf y) → (∀ y, y ∈ m → wf y) → (∀ q, q ∈ l.foldl (fun n p => putAll n (behind p c)) m → wf q) ∧ ∀ q, q ∈ l.foldl (fun n p => putAll n (behind p c)) m ↔ q ∈ m ∨ ∃ p, p ∈ l ∧ q ∈ behind p c := by
    intro l
    induction l with
    | nil => intro m _ hm; exact ⟨hm, fun q => by simp⟩
    | cons p l ih =>
      intro m hl hm
      have hp := hl p (by simp)
      have hb : ∀ y, y ∈ behind p c → wf y := fun y hy => (behind_ok p hp c y hy).1
      have hw : ∀ y, y ∈ putAll m (behind p c) → wf y := fun y hy => by
        rcases (putAll_mem hm hb y).1 hy with h | h
        · exact hm y h
        · exact hb y h
      obtain ⟨h1, h2⟩ := ih (putAll m (behind p c)) (fun y hy => hl y (by simp [hy])) hw
      refine ⟨h1, fun q => ?_⟩
      rw [List.foldl_cons, h2, putAll_mem hm hb]
      simp [or_assoc]
  obtain ⟨h1, h2⟩ := this l [] hl (by simp)
  exact ⟨h1, fun q => by have := h2 q; simpa [step] using this⟩

/-- The reference's answer: the text is one of the pattern. -/
theorem is_iff (p : Pat) (hp : wf p) (s : List UInt8) : is p s = true ↔ inL p s := by
  have : ∀ (s : List UInt8) (l : List Pat), (∀ y, y ∈ l → wf y) → ((s.foldl step l).any empty = true ↔ ∃ q, q ∈ l ∧ inL q s) := by
    intro s
    induction s with
    | nil =>
      intro l hl
      rw [List.foldl_nil, List.any_eq_true]
      constructor
      · rintro ⟨q, hq, h⟩; exact ⟨q, hq, (empty_inL q (hl q hq)).1 h⟩
      · rintro ⟨q, hq, h⟩; exact ⟨q, hq, (empty_inL q (hl q hq)).2 h⟩
    | cons c s ih =>
      intro l hl
      obtain ⟨h1, h2⟩ := step_mem hl c
      rw [List.foldl_cons, ih _ h1]
      constructor
      · rintro ⟨q, hq, h⟩
        obtain ⟨p, hp, hb⟩ := (h2 q).1 hq
        exact ⟨p, hp, (behind_inL p (hl p hp) c s).2 ⟨q, hb, h⟩⟩
      · rintro ⟨p, hp, h⟩
        obtain ⟨q, hq, h3⟩ := (behind_inL p (hl p hp) c s).1 h
        exact ⟨q, (h2 q).2 ⟨p, hp, hq⟩, h3⟩
  have h := this s [p] (by simpa using hp)
  simpa [is] using h

end Ls

/- Once and Apart in plain mathematics: letters, tables, what a search through pairs of states finds. -/
namespace Ls

/-- The sets of signs in a pattern. -/
def sets : Pat → List (List UInt8)
  | ⟨k, s, []⟩ => if k = 1 then [s] else []
  | ⟨_, _, [a]⟩ => sets a
  | ⟨_, _, [a, b]⟩ => sets a ++ sets b
  | _ => []

theorem sets_none : sets none = [] := by simp [none, sets]
theorem sets_set (g : List UInt8) : sets (set g) = [g] := by simp [set, sets]
theorem sets_rowB (a b : Pat) : sets (rowB a b) = sets a ++ sets b := by simp [rowB, sets]
theorem sets_any (a b : Pat) : sets (any a b) = sets a ++ sets b := by simp [any, sets]
theorem sets_star (a : Pat) : sets (star a) = sets a := by simp [star, sets]

/-- All signs of a pattern are signs. -/
def Signed (p : Pat) : Prop := ∀ g, g ∈ sets p → ∀ c, has g c = true → sign c = true

theorem pieces_map {L : List UInt8 → Prop} (f : UInt8 → UInt8) (h : ∀ x, L x → L (x.map f)) {s : List UInt8} (hs : Pieces L s) : Pieces L (s.map f) := by
  obtain ⟨ps, rfl, hp⟩ := hs
  refine ⟨ps.map (fun x => x.map f), by rw [List.map_flatten], ?_⟩
  intro x hx
  obtain ⟨y, hy, rfl⟩ := List.mem_map.1 hx
  exact h y (hp y hy)

theorem inL_map (f : UInt8 → UInt8) (p : Pat) (hp : wf p) : (∀ g, g ∈ sets p → ∀ c, has g c = true → has g (f c) = true) → ∀ u, inL p u → inL p (u.map f) := by
  refine ind (P := fun p => (∀ g, g ∈ sets p → ∀ c, has g c = true → has g (f c) = true) → ∀ u, inL p u → inL p (u.map f)) ?_ ?_ ?_ ?_ ?_ p hp
  · intro _ u h; rw [inL_none] at h ⊢; subst h; rfl
  · intro g _ hf u h
    rw [inL_set] at h ⊢
    obtain ⟨c, rfl, hc⟩ := h
    exact ⟨f c, rfl, hf g (by simp [sets_set]) c hc⟩
  · intro a b _ _ _ _ ia ib hf u h
    rw [inL_rowB] at h ⊢
    obtain ⟨x, y, rfl, hx, hy⟩ := h
    rw [sets_rowB] at hf
    exact ⟨x.map f, y.map f, by simp, ia (fun g hg => hf g (by simp [hg])) x hx, ib (fun g hg => hf g (by simp [hg])) y hy⟩
  · intro a b _ _ ia ib hf u h
    rw [inL_any] at h ⊢
    rw [sets_any] at hf
    rcases h with h | h
    · exact .inl (ia (fun g hg => hf g (by simp [hg])) u h)
    · exact .inr (ib (fun g hg => hf g (by simp [hg])) u h)
  · intro a _ ia hf u h
    rw [inL_star] at h ⊢
    rw [sets_star] at hf
    exact pieces_map f (ia hf) h

theorem inL_signs (p : Pat) (hp : wf p) : Signed p → ∀ u, inL p u → ∀ c, c ∈ u → sign c = true := by
  refine ind (P := fun p => Signed p → ∀ u, inL p u → ∀ c, c ∈ u → sign c = true) ?_ ?_ ?_ ?_ ?_ p hp
  · intro _ u h; rw [inL_none] at h; subst h; simp
  · intro g _ hf u h
    rw [inL_set] at h
    obtain ⟨c, rfl, hc⟩ := h
    intro d hd
    simp only [List.mem_singleton] at hd
    subst hd
    exact hf g (by simp [sets_set]) d hc
  · intro a b _ _ _ _ ia ib hf u h
    unfold Signed at hf
    rw [inL_rowB] at h
    rw [sets_rowB] at hf
    obtain ⟨x, y, rfl, hx, hy⟩ := h
    intro c hc
    rw [List.mem_append] at hc
    rcases hc with hc | hc
    · exact ia (fun g hg => hf g (by simp [hg])) x hx c hc
    · exact ib (fun g hg => hf g (by simp [hg])) y hy c hc
  · intro a b _ _ ia ib hf u h
    unfold Signed at hf
    rw [inL_any] at h
    rw [sets_any] at hf
    rcases h with h | h
    · exact ia (fun g hg => hf g (by simp [hg])) u h
    · exact ib (fun g hg => hf g (by simp [hg])) u h
  · intro a _ ia hf u h
    unfold Signed at hf
    rw [inL_star] at h
    rw [sets_star] at hf
    obtain ⟨ps, rfl, hps⟩ := h
    intro c hc
    rw [List.mem_flatten] at hc
    obtain ⟨x, hx, hc⟩ := hc
    exact ia hf x (hps x hx) c hc

/-- One of all signs that two patterns do not tell apart. -/
def Letters (p q : Pat) (L : List UInt8) : Prop := ∀ c, sign c = true → ∃ d, d ∈ L ∧ ∀ g, g ∈ sets p ++ sets q → has g d = has g c

/-- A text is one of both. -/
def Both (p q : Pat) : Prop := ∃ u, inL p u ∧ inL q u
/-- A text can be cut in two ways. -/
def Twice (p q : Pat) : Prop := ∃ u w v, w ≠ [] ∧ inL p u ∧ inL p (u ++ w) ∧ inL q (w ++ v) ∧ inL q v

/-- A text of some letters. -/
def Of (L : List UInt8) (u : List UInt8) : Prop := ∀ c, c ∈ u → c ∈ L

theorem turn {p q : Pat} {L : List UInt8} (h : Letters p q L) : ∃ f : UInt8 → UInt8, (∀ c, sign c = true → f c ∈ L) ∧ (∀ g, g ∈ sets p ++ sets q → ∀ c, sign c = true → has g (f c) = has g c) := by
  have : ∀ c, ∃ d, sign c = true → d ∈ L ∧ ∀ g, g ∈ sets p ++ sets q → has g d = has g c := fun c => by
    cases hc : sign c with
    | false => exact ⟨c, by simp⟩
    | true => obtain ⟨d, hd⟩ := h c hc; exact ⟨d, fun _ => hd⟩
  exact ⟨fun c => Classical.choose (this c), fun c hc => (Classical.choose_spec (this c) hc).1, fun g hg c hc => (Classical.choose_spec (this c) hc).2 g hg⟩

theorem both_by {p q : Pat} (hp : wf p) (hq : wf q) (sp : Signed p) (sq : Signed q) {L : List UInt8} (h : Letters p q L) : Both p q ↔ ∃ u, Of L u ∧ inL p u ∧ inL q u := by
  constructor
  · rintro ⟨u, h1, h2⟩
    obtain ⟨f, hf, hg⟩ := turn h
    refine ⟨u.map f, ?_, inL_map f p hp (fun g hgp c hc => by rw [hg g (by simp [hgp]) c (sp g hgp c hc)]; exact hc) u h1, inL_map f q hq (fun g hgp c hc => by rw [hg g (by simp [hgp]) c (sq g hgp c hc)]; exact hc) u h2⟩
    intro c hc
    obtain ⟨d, hd, rfl⟩ := List.mem_map.1 hc
    exact hf d (inL_signs p hp sp u h1 d hd)
  · rintro ⟨u, _, h⟩; exact ⟨u, h⟩

theorem twice_by {p q : Pat} (hp : wf p) (hq : wf q) (sp : Signed p) (sq : Signed q) {L : List UInt8} (h : Letters p q L) : Twice p q ↔ ∃ u w v, (Of L u ∧ Of L w ∧ Of L v) ∧ w ≠ [] ∧ inL p u ∧ inL p (u ++ w) ∧ inL q (w ++ v) ∧ inL q v := by
  constructor
  · rintro ⟨u, w, v, hw, h1, h2, h3, h4⟩
    obtain ⟨f, hf, hg⟩ := turn h
    have mp : ∀ u, inL p u → inL p (u.map f) := inL_map f p hp (fun g hgp c hc => by rw [hg g (by simp [hgp]) c (sp g hgp c hc)]; exact hc)
    have mq : ∀ u, inL q u → inL q (u.map f) := inL_map f q hq (fun g hgp c hc => by rw [hg g (by simp [hgp]) c (sq g hgp c hc)]; exact hc)
    have s1 := inL_signs p hp sp _ h2
    have s2 := inL_signs q hq sq _ h4
    have on : ∀ x : List UInt8, (∀ c, c ∈ x → sign c = true) → Of L (x.map f) := fun x hx c hc => by
      obtain ⟨d, hd, rfl⟩ := List.mem_map.1 hc
      exact hf d (hx d hd)
    refine ⟨u.map f, w.map f, v.map f, ⟨on u (fun c hc => s1 c (by simp [hc])), on w (fun c hc => s1 c (by simp [hc])), on v s2⟩, by simpa using hw, mp u h1, ?_, ?_, mq v h4⟩
    · rw [← List.map_append]; exact mp _ h2
    · rw [← List.map_append]; exact mq _ h3
  · rintro ⟨u, w, v, _, h⟩; exact ⟨u, w, v, h⟩

/-- A table: where each state leads by each letter; which may end. -/
structure Tab where
  to : List (List (List Nat))
  ends : List Bool

/-- It leads from i by letter k to j. -/
def Tab.go (t : Tab) (i k j : Nat) : Prop := ∃ r l, t.to[i]? = some r ∧ r[k]? = some l ∧ j ∈ l

/-- The table of a pattern by some letters. -/
structure TabOf (p : Pat) (L : List UInt8) (t : Tab) (sts : List Pat) : Prop where
  first : sts[0]? = some p
  wfs : ∀ q, q ∈ sts → wf q
  lenT : t.to.length = sts.length
  lenE : t.ends.length = sts.length
  ends : ∀ (i : Nat) (q : Pat), sts[i]? = some q → t.ends[i]? = some (empty q)
  row : ∀ (i : Nat) (q : Pat), sts[i]? = some q → ∃ r, t.to[i]? = some r ∧ r.length = L.length ∧ ∀ (k : Nat) (c : UInt8), L[k]? = some c → ∃ l : List Nat, r[k]? = some l ∧ l.map (fun j => sts[j]?) = (behind q c).map some

theorem TabOf.fwd {p : Pat} {L : List UInt8} {t : Tab} {sts : List Pat} (h : TabOf p L t sts) {i k j : Nat} {q : Pat} (hi : sts[i]? = some q) (hk : k < L.length) (hj : t.go i k j) : ∃ q', sts[j]? = some q' ∧ q' ∈ behind q L[k] := by
  obtain ⟨r, l, h1, h2, h3⟩ := hj
  obtain ⟨r', h4, _, h6⟩ := h.row i q hi
  obtain rfl : r = r' := Option.some.inj (h1.symm.trans h4)
  obtain ⟨l', h7, h8⟩ := h6 k L[k] (by simp [hk])
  obtain rfl : l = l' := Option.some.inj (h2.symm.trans h7)
  have h9 : sts[j]? ∈ (behind q L[k]).map some := by rw [← h8]; exact List.mem_map.2 ⟨j, h3, rfl⟩
  obtain ⟨q', h10, h11⟩ := List.mem_map.1 h9
  exact ⟨q', h11.symm, h10⟩

theorem TabOf.bwd {p : Pat} {L : List UInt8} {t : Tab} {sts : List Pat} (h : TabOf p L t sts) {i k : Nat} {q q' : Pat} (hi : sts[i]? = some q) (hk : k < L.length) (hq : q' ∈ behind q L[k]) : ∃ j, t.go i k j ∧ sts[j]? = some q' := by
  obtain ⟨r', h4, _, h6⟩ := h.row i q hi
  obtain ⟨l', h7, h8⟩ := h6 k L[k] (by simp [hk])
  have h9 : some q' ∈ l'.map (fun j => sts[j]?) := by rw [h8]; exact List.mem_map.2 ⟨q', hq, rfl⟩
  obtain ⟨j, h10, h11⟩ := List.mem_map.1 h9
  exact ⟨j, ⟨r', l', h4, h7, h10⟩, h11⟩

theorem TabOf.nil {p : Pat} {L : List UInt8} {t : Tab} {sts : List Pat} (h : TabOf p L t sts) {i : Nat} {q : Pat} (hi : sts[i]? = some q) : t.ends[i]? = some true ↔ inL q [] := by
  rw [h.ends i q hi, ← empty_inL q (h.wfs q (List.mem_of_getElem? hi))]
  simp

/-- A sign of a text is a letter of some number. -/
theorem TabOf.cons {p : Pat} {L : List UInt8} {t : Tab} {sts : List Pat} (h : TabOf p L t sts) {i : Nat} {q : Pat} (hi : sts[i]? = some q) {k : Nat} (hk : k < L.length) (s : List UInt8) : inL q (L[k] :: s) ↔ ∃ j q', t.go i k j ∧ sts[j]? = some q' ∧ inL q' s := by
  rw [behind_inL q (h.wfs q (List.mem_of_getElem? hi))]
  constructor
  · rintro ⟨q', h1, h2⟩
    obtain ⟨j, h3, h4⟩ := h.bwd hi hk h1
    exact ⟨j, q', h3, h4, h2⟩
  · rintro ⟨j, q', h1, h2, h3⟩
    obtain ⟨q2, h4, h5⟩ := h.fwd hi hk h1
    rw [h2] at h4
    cases h4
    exact ⟨q', h5, h3⟩

theorem of_cons {L : List UInt8} {c : UInt8} {u : List UInt8} (h : Of L (c :: u)) : (∃ k, ∃ hk : k < L.length, L[k] = c) ∧ Of L u :=
  ⟨List.getElem_of_mem (h c (by simp)), fun d hd => h d (by simp [hd])⟩

theorem cons_of {L : List UInt8} {k : Nat} (hk : k < L.length) {u : List UInt8} (h : Of L u) : Of L (L[k] :: u) := by
  intro c hc
  simp only [List.mem_cons] at hc
  rcases hc with rfl | hc
  · exact List.getElem_mem hk
  · exact h c hc

abbrev Pr := Nat × Nat × Nat

/-- From a pair one that is looked for is found in n steps. -/
def Hit (E : Pr → Pr → Prop) (A : Pr → Prop) : Nat → Pr → Prop
  | 0, a => A a
  | n + 1, a => ∃ b, E a b ∧ Hit E A n b

/-- A list of pairs that is closed and has none that is looked for. -/
theorem hit_none {E : Pr → Pr → Prop} {A : Pr → Prop} {l : List Pr} (hc : ∀ a, a ∈ l → ∀ b, E a b → b ∈ l) (hn : ∀ a, a ∈ l → ¬ A a) : ∀ n a, a ∈ l → ¬ Hit E A n a := by
  intro n
  induction n with
  | zero => intro a ha h; exact hn a ha h
  | succ n ih => rintro a ha ⟨b, hb, h⟩; exact ih b (hc a ha b hb) h

/-- What is found from these is found from the first. -/
def Sound (E : Pr → Pr → Prop) (A : Pr → Prop) (l : List Pr) : Prop := ∀ a, a ∈ l → (∃ n, Hit E A n a) → ∃ n, Hit E A n (0, 0, 0)

theorem Sound.step {E : Pr → Pr → Prop} {A : Pr → Prop} {l : List Pr} (h : Sound E A l) {a : Pr} (ha : a ∈ l) {b : Pr} (hb : E a b) : Sound E A (l ++ [b]) := by
  intro x hx hh
  rw [List.mem_append] at hx
  rcases hx with hx | hx
  · exact h x hx hh
  · simp only [List.mem_singleton] at hx
    subst hx
    obtain ⟨n, hn⟩ := hh
    exact h a ha ⟨n + 1, x, hb, hn⟩

def edgeA (S T : Tab) (n : Nat) (a b : Pr) : Prop := b.1 = 0 ∧ ∃ k, k < n ∧ S.go a.2.1 k b.2.1 ∧ T.go a.2.2 k b.2.2
def accA (S T : Tab) (a : Pr) : Prop := S.ends[a.2.1]? = some true ∧ T.ends[a.2.2]? = some true

def sideX (S T : Tab) (ph : Nat) : Tab := if ph = 2 then T else S
def sideY (S T : Tab) (ph : Nat) : Tab := if ph = 0 then S else T

def edgeO (S T : Tab) (n : Nat) (a b : Pr) : Prop :=
  (b.1 = a.1 ∧ ∃ k, k < n ∧ (sideX S T a.1).go a.2.1 k b.2.1 ∧ (sideY S T a.1).go a.2.2 k b.2.2) ∨
  (a.1 = 0 ∧ S.ends[a.2.1]? = some true ∧ b.1 = 1 ∧ ∃ k, k < n ∧ S.go a.2.2 k b.2.1 ∧ T.go 0 k b.2.2) ∨
  (a.1 = 1 ∧ S.ends[a.2.1]? = some true ∧ b = (2, a.2.2, 0))
def accO (T : Tab) (a : Pr) : Prop := a.1 = 2 ∧ T.ends[a.2.1]? = some true ∧ T.ends[a.2.2]? = some true

theorem hitA_text {p q : Pat} {L : List UInt8} {S T : Tab} {ss ts : List Pat} (hS : TabOf p L S ss) (hT : TabOf q L T ts) : ∀ n x y a b, ss[x]? = some a → ts[y]? = some b → Hit (edgeA S T L.length) (accA S T) n (0, x, y) → ∃ u, Of L u ∧ inL a u ∧ inL b u := by
  intro n
  induction n with
  | zero =>
    rintro x y a b hx hy ⟨h1, h2⟩
    exact ⟨[], by simp [Of], (hS.nil hx).1 h1, (hT.nil hy).1 h2⟩
  | succ n ih =>
    rintro x y a b hx hy ⟨⟨ph, x', y'⟩, ⟨h0, k, hk, h1, h2⟩, h3⟩
    obtain rfl : ph = 0 := h0
    obtain ⟨a', h4, _⟩ := hS.fwd hx hk h1
    obtain ⟨b', h5, _⟩ := hT.fwd hy hk h2
    obtain ⟨u, hu, h6, h7⟩ := ih x' y' a' b' h4 h5 h3
    exact ⟨L[k] :: u, cons_of hk hu, (hS.cons hx hk u).2 ⟨x', a', h1, h4, h6⟩, (hT.cons hy hk u).2 ⟨y', b', h2, h5, h7⟩⟩

theorem text_hitA {p q : Pat} {L : List UInt8} {S T : Tab} {ss ts : List Pat} (hS : TabOf p L S ss) (hT : TabOf q L T ts) : ∀ u, Of L u → ∀ x y a b, ss[x]? = some a → ts[y]? = some b → inL a u → inL b u → ∃ n, Hit (edgeA S T L.length) (accA S T) n (0, x, y) := by
  intro u
  induction u with
  | nil => intro _ x y a b hx hy h1 h2; exact ⟨0, (hS.nil hx).2 h1, (hT.nil hy).2 h2⟩
  | cons c u ih =>
    intro hu x y a b hx hy h1 h2
    obtain ⟨⟨k, hk, rfl⟩, hu2⟩ := of_cons hu
    obtain ⟨x', a', h3, h4, h5⟩ := (hS.cons hx hk u).1 h1
    obtain ⟨y', b', h6, h7, h8⟩ := (hT.cons hy hk u).1 h2
    obtain ⟨n, hn⟩ := ih hu2 x' y' a' b' h4 h7 h5 h8
    exact ⟨n + 1, (0, x', y'), ⟨rfl, k, hk, h3, h6⟩, hn⟩

theorem hitO2 {q : Pat} {L : List UInt8} {S T : Tab} {ts : List Pat} (hT : TabOf q L T ts) : ∀ n x y a b, ts[x]? = some a → ts[y]? = some b → Hit (edgeO S T L.length) (accO T) n (2, x, y) → ∃ v, Of L v ∧ inL a v ∧ inL b v := by
  intro n
  induction n with
  | zero =>
    rintro x y a b hx hy ⟨_, h1, h2⟩
    exact ⟨[], by simp [Of], (hT.nil hx).1 h1, (hT.nil hy).1 h2⟩
  | succ n ih =>
    rintro x y a b hx hy ⟨⟨ph, x', y'⟩, he, h3⟩
    rcases he with ⟨h0, k, hk, h1, h2⟩ | ⟨h0, _⟩ | ⟨h0, _⟩
    · obtain rfl : ph = 2 := h0
      have h1 : T.go x k x' := h1
      have h2 : T.go y k y' := h2
      obtain ⟨a', h4, _⟩ := hT.fwd hx hk h1
      obtain ⟨b', h5, _⟩ := hT.fwd hy hk h2
      obtain ⟨u, hu, h6, h7⟩ := ih x' y' a' b' h4 h5 h3
      exact ⟨L[k] :: u, cons_of hk hu, (hT.cons hx hk u).2 ⟨x', a', h1, h4, h6⟩, (hT.cons hy hk u).2 ⟨y', b', h2, h5, h7⟩⟩
    · cases h0
    · cases h0

theorem hitO1 {p q : Pat} {L : List UInt8} {S T : Tab} {ss ts : List Pat} (hS : TabOf p L S ss) (hT : TabOf q L T ts) : ∀ n x y a b, ss[x]? = some a → ts[y]? = some b → Hit (edgeO S T L.length) (accO T) n (1, x, y) → ∃ w v, (Of L w ∧ Of L v) ∧ inL a w ∧ inL b (w ++ v) ∧ inL q v := by
  intro n
  induction n with
  | zero =>
    rintro x y a b hx hy ⟨h1, _⟩
    cases h1
  | succ n ih =>
    rintro x y a b hx hy ⟨⟨ph, x', y'⟩, he, h3⟩
    rcases he with ⟨h0, k, hk, h1, h2⟩ | ⟨h0, _⟩ | ⟨_, h1, h2⟩
    · obtain rfl : ph = 1 := h0
      have h1 : S.go x k x' := h1
      have h2 : T.go y k y' := h2
      obtain ⟨a', h4, _⟩ := hS.fwd hx hk h1
      obtain ⟨b', h5, _⟩ := hT.fwd hy hk h2
      obtain ⟨w, v, hu, h6, h7, h8⟩ := ih x' y' a' b' h4 h5 h3
      exact ⟨L[k] :: w, v, ⟨cons_of hk hu.1, hu.2⟩, (hS.cons hx hk w).2 ⟨x', a', h1, h4, h6⟩, (hT.cons hy hk (w ++ v)).2 ⟨y', b', h2, h5, h7⟩, h8⟩
    · cases h0
    · cases h2
      obtain ⟨v, hv, h4, h5⟩ := hitO2 hT n y 0 b q hy hT.first h3
      exact ⟨[], v, ⟨by simp [Of], hv⟩, (hS.nil hx).1 h1, h4, h5⟩

theorem hitO0 {p q : Pat} {L : List UInt8} {S T : Tab} {ss ts : List Pat} (hS : TabOf p L S ss) (hT : TabOf q L T ts) : ∀ n x y a b, ss[x]? = some a → ss[y]? = some b → Hit (edgeO S T L.length) (accO T) n (0, x, y) → ∃ u w v, (Of L u ∧ Of L w ∧ Of L v) ∧ w ≠ [] ∧ inL a u ∧ inL b (u ++ w) ∧ inL q (w ++ v) ∧ inL q v := by
  intro n
  induction n with
  | zero =>
    rintro x y a b hx hy ⟨h1, _⟩
    cases h1
  | succ n ih =>
    rintro x y a b hx hy ⟨⟨ph, x', y'⟩, he, h3⟩
    rcases he with ⟨h0, k, hk, h1, h2⟩ | ⟨_, h1, h0, k, hk, h2, h4⟩ | ⟨h0, _⟩
    · obtain rfl : ph = 0 := h0
      have h1 : S.go x k x' := h1
      have h2 : S.go y k y' := h2
      obtain ⟨a', h4, _⟩ := hS.fwd hx hk h1
      obtain ⟨b', h5, _⟩ := hS.fwd hy hk h2
      obtain ⟨u, w, v, hu, hw, h6, h7, h8⟩ := ih x' y' a' b' h4 h5 h3
      exact ⟨L[k] :: u, w, v, ⟨cons_of hk hu.1, hu.2⟩, hw, (hS.cons hx hk u).2 ⟨x', a', h1, h4, h6⟩, (hS.cons hy hk (u ++ w)).2 ⟨y', b', h2, h5, h7⟩, h8⟩
    · obtain rfl : ph = 1 := h0
      have h2 : S.go y k x' := h2
      have h4 : T.go 0 k y' := h4
      obtain ⟨a', h5, _⟩ := hS.fwd hy hk h2
      obtain ⟨b', h6, _⟩ := hT.fwd hT.first hk h4
      obtain ⟨w, v, hu, h7, h8, h9⟩ := hitO1 hS hT n x' y' a' b' h5 h6 h3
      exact ⟨[], L[k] :: w, v, ⟨by simp [Of], cons_of hk hu.1, hu.2⟩, by simp, (hS.nil hx).1 h1, (hS.cons hy hk w).2 ⟨x', a', h2, h5, h7⟩, (hT.cons hT.first hk (w ++ v)).2 ⟨y', b', h4, h6, h8⟩, h9⟩
    · cases h0

theorem textO2 {q : Pat} {L : List UInt8} {S T : Tab} {ts : List Pat} (hT : TabOf q L T ts) : ∀ v, Of L v → ∀ x y a b, ts[x]? = some a → ts[y]? = some b → inL a v → inL b v → ∃ n, Hit (edgeO S T L.length) (accO T) n (2, x, y) := by
  intro u
  induction u with
  | nil => intro _ x y a b hx hy h1 h2; exact ⟨0, rfl, (hT.nil hx).2 h1, (hT.nil hy).2 h2⟩
  | cons c u ih =>
    intro hu x y a b hx hy h1 h2
    obtain ⟨⟨k, hk, rfl⟩, hu2⟩ := of_cons hu
    obtain ⟨x', a', h3, h4, h5⟩ := (hT.cons hx hk u).1 h1
    obtain ⟨y', b', h6, h7, h8⟩ := (hT.cons hy hk u).1 h2
    obtain ⟨n, hn⟩ := ih hu2 x' y' a' b' h4 h7 h5 h8
    exact ⟨n + 1, (2, x', y'), .inl ⟨rfl, k, hk, h3, h6⟩, hn⟩

theorem textO1 {p q : Pat} {L : List UInt8} {S T : Tab} {ss ts : List Pat} (hS : TabOf p L S ss) (hT : TabOf q L T ts) {v : List UInt8} (hv : Of L v) (hq : inL q v) : ∀ w, Of L w → ∀ x y a b, ss[x]? = some a → ts[y]? = some b → inL a w → inL b (w ++ v) → ∃ n, Hit (edgeO S T L.length) (accO T) n (1, x, y) := by
  intro u
  induction u with
  | nil =>
    intro _ x y a b hx hy h1 h2
    obtain ⟨n, hn⟩ := textO2 hT v hv y 0 b q hy hT.first h2 hq
    exact ⟨n + 1, (2, y, 0), .inr (.inr ⟨rfl, (hS.nil hx).2 h1, rfl⟩), hn⟩
  | cons c u ih =>
    intro hu x y a b hx hy h1 h2
    obtain ⟨⟨k, hk, rfl⟩, hu2⟩ := of_cons hu
    obtain ⟨x', a', h3, h4, h5⟩ := (hS.cons hx hk u).1 h1
    obtain ⟨y', b', h6, h7, h8⟩ := (hT.cons hy hk (u ++ v)).1 h2
    obtain ⟨n, hn⟩ := ih hu2 x' y' a' b' h4 h7 h5 h8
    exact ⟨n + 1, (1, x', y'), .inl ⟨rfl, k, hk, h3, h6⟩, hn⟩

theorem textO0 {p q : Pat} {L : List UInt8} {S T : Tab} {ss ts : List Pat} (hS : TabOf p L S ss) (hT : TabOf q L T ts) {w v : List UInt8} (hw : Of L w) (hv : Of L v) (hne : w ≠ []) (h3 : inL q (w ++ v)) (h4 : inL q v) : ∀ u, Of L u → ∀ x y a b, ss[x]? = some a → ss[y]? = some b → inL a u → inL b (u ++ w) → ∃ n, Hit (edgeO S T L.length) (accO T) n (0, x, y) := by
  intro u
  induction u with
  | nil =>
    intro _ x y a b hx hy h1 h2
    cases w with
    | nil => exact absurd rfl hne
    | cons c w =>
      obtain ⟨⟨k, hk, rfl⟩, hw2⟩ := of_cons hw
      obtain ⟨x', a', h5, h6, h7⟩ := (hS.cons hy hk w).1 h2
      obtain ⟨y', b', h8, h9, h10⟩ := (hT.cons hT.first hk (w ++ v)).1 h3
      obtain ⟨n, hn⟩ := textO1 hS hT hv h4 w hw2 x' y' a' b' h6 h9 h7 h10
      exact ⟨n + 1, (1, x', y'), .inr (.inl ⟨rfl, (hS.nil hx).2 h1, rfl, k, hk, h5, h8⟩), hn⟩
  | cons c u ih =>
    intro hu x y a b hx hy h1 h2
    obtain ⟨⟨k, hk, rfl⟩, hu2⟩ := of_cons hu
    obtain ⟨x', a', h5, h6, h7⟩ := (hS.cons hx hk u).1 h1
    obtain ⟨y', b', h8, h9, h10⟩ := (hS.cons hy hk (u ++ w)).1 h2
    obtain ⟨n, hn⟩ := ih hu2 x' y' a' b' h6 h9 h7 h10
    exact ⟨n + 1, (0, x', y'), .inl ⟨rfl, k, hk, h5, h8⟩, hn⟩

theorem apart_iff {p q : Pat} (hp : wf p) (hq : wf q) (sp : Signed p) (sq : Signed q) {L : List UInt8} (hL : Letters p q L) {S T : Tab} {ss ts : List Pat} (hS : TabOf p L S ss) (hT : TabOf q L T ts) : (∃ n, Hit (edgeA S T L.length) (accA S T) n (0, 0, 0)) ↔ Both p q := by
  rw [both_by hp hq sp sq hL]
  constructor
  · rintro ⟨n, hn⟩; exact hitA_text hS hT n 0 0 p q hS.first hT.first hn
  · rintro ⟨u, hu, h1, h2⟩; exact text_hitA hS hT u hu 0 0 p q hS.first hT.first h1 h2

theorem once_iff {p q : Pat} (hp : wf p) (hq : wf q) (sp : Signed p) (sq : Signed q) {L : List UInt8} (hL : Letters p q L) {S T : Tab} {ss ts : List Pat} (hS : TabOf p L S ss) (hT : TabOf q L T ts) : (∃ n, Hit (edgeO S T L.length) (accO T) n (0, 0, 0)) ↔ Twice p q := by
  rw [twice_by hp hq sp sq hL]
  constructor
  · rintro ⟨n, hn⟩; exact hitO0 hS hT n 0 0 p p hS.first hS.first hn
  · rintro ⟨u, w, v, ⟨hu, hw, hv⟩, hne, h1, h2, h3, h4⟩; exact textO0 hS hT hw hv hne h3 h4 u hu 0 0 p p hS.first hS.first h1 h2

end Ls

/- All that is read is of signs, and has few states. -/
namespace Ls

theorem has_mem {g : List UInt8} {c : UInt8} : has g c = true ↔ c ∈ g := by
  unfold has
  rw [List.any_eq_true]
  constructor
  · rintro ⟨x, hx, e⟩
    have h2 : x = c := by simpa using e
    rw [← h2]; exact hx
  · intro h; exact ⟨c, h, by simp⟩

theorem signed_set {g : List UInt8} (h : ∀ c, c ∈ g → sign c = true) : Signed (set g) := by
  intro s hs c hc
  rw [sets_set] at hs
  simp only [List.mem_singleton] at hs
  subst hs
  exact h c (has_mem.1 hc)
theorem signed_none : Signed none := by intro s hs; rw [sets_none] at hs; simp at hs
theorem signed_any {a b : Pat} (ha : Signed a) (hb : Signed b) : Signed (any a b) := by
  intro s hs
  rw [sets_any, List.mem_append] at hs
  rcases hs with hs | hs
  · exact ha s hs
  · exact hb s hs
theorem signed_star {a : Pat} (ha : Signed a) : Signed (star a) := by intro s hs; rw [sets_star] at hs; exact ha s hs
theorem signed_row {a b : Pat} (ha : Signed a) (hb : Signed b) : Signed (row a b) := by
  unfold row
  split
  · exact hb
  · split
    · exact ha
    · intro s hs
      rw [sets_rowB, List.mem_append] at hs
      rcases hs with hs | hs
      · exact ha s hs
      · exact hb s hs

def Sg (P : List UInt8 → Rd) : Prop := ∀ r d t, P r = some (d, t) → Signed (toPat d)

theorem oneOf_sg {P : List UInt8 → Rd} (hP : Sg P) {r : List UInt8} {d : D} {t : List UInt8} (h : oneOf P r = some (d, t)) : Signed (toPat d) := by
  cases r with
  | nil => simp [oneOf] at h
  | cons c r =>
    unfold oneOf at h
    dsimp only at h
    split at h
    · split at h
      · simp at h
      · rename_i e u he
        have h1 := hP _ _ _ he
        split at h
        · simp at h; obtain ⟨rfl, rfl⟩ := h
          exact h1
        · simp at h
    · split at h
      · split at h
        · simp at h
        · rename_i e u he
          have h1 := cls_ok _ _ _ _ _ (by simp) he
          simp at h; obtain ⟨rfl, rfl⟩ := h
          rw [toPat_place]
          refine signed_set (fun x hx => ?_)
          have := h1.2.1 x hx
          simp [sign]; omega
      · split at h
        · simp at h; obtain ⟨rfl, rfl⟩ := h; rw [toPat_place]
          exact signed_set (by decide)
        · split at h
          · split at h
            · simp at h
            · split at h
              · rename_i hs
                simp at h; obtain ⟨rfl, rfl⟩ := h
                rw [toPat_place]
                exact signed_set (fun x hx => by simp only [List.mem_singleton] at hx; subst hx; exact hs)
              · simp at h
          · split at h
            · simp at h
            · rename_i hs
              simp at h; obtain ⟨rfl, rfl⟩ := h; rw [toPat_place]
              refine signed_set (fun x hx => ?_)
              simp only [List.mem_singleton] at hx
              subst hx
              cases hc : sign x with
              | true => rfl
              | false => exact absurd (.inr hc) hs

theorem thing_sg {P : List UInt8 → Rd} (hP : Sg P) {r : List UInt8} {d : D} {t : List UInt8} (h : thing P r = some (d, t)) : Signed (toPat d) := by
  rw [thing] at h
  split at h
  · simp at h
  · rename_i a u hu
    have h1 := oneOf_sg hP hu
    split at h
    · simp at h; obtain ⟨rfl, rfl⟩ := h; rw [toPat_star]; exact signed_star h1
    · split at h
      · simp at h; obtain ⟨rfl, rfl⟩ := h; rw [toPat_plus]; exact signed_row h1 (signed_star h1)
      · split at h
        · simp at h; obtain ⟨rfl, rfl⟩ := h; rw [toPat_opt]; exact signed_any h1 signed_none
        · simp at h; obtain ⟨rfl, rfl⟩ := h; exact h1

theorem things_sg {P : List UInt8 → Rd} (hP : Sg P) : (n : Nat) → (r : List UInt8) → (d : D) → (t : List UInt8) → things P n r = some (d, t) → Signed (toPat d)
  | 0, _, _, _, h => by simp [things] at h
  | n + 1, r, d, t, h => by
    rw [things] at h
    split at h
    · simp at h; obtain ⟨rfl, rfl⟩ := h; rw [toPat_rnil]; exact signed_none
    · split at h
      · simp at h
      · rename_i a r1 h1
        have h2 := thing_sg hP h1
        split at h
        · simp at h
        · rename_i b r2 h3
          have h4 := things_sg hP n r1 b r2 h3
          simp at h; obtain ⟨rfl, rfl⟩ := h; rw [toPat_rcons]; exact signed_row h2 h4

theorem alts_sg {P : List UInt8 → Rd} (hP : Sg P) : (n : Nat) → (r : List UInt8) → (d : D) → (t : List UInt8) → alts P n r = some (d, t) → Signed (toPat d)
  | 0, _, _, _, h => by simp [alts] at h
  | n + 1, r, d, t, h => by
    rw [alts] at h
    split at h
    · simp at h
    · rename_i a r1 h1
      have h2 := things_sg hP _ _ _ _ h1
      split at h
      · split at h
        · simp at h
        · rename_i b r3 h3
          have h4 := alts_sg hP n _ b r3 h3
          simp at h; obtain ⟨rfl, rfl⟩ := h; rw [toPat_ccons]; exact signed_any h2 h4
      · simp at h; obtain ⟨rfl, rfl⟩ := h; rw [toPat_clast]; exact h2

theorem pat_sg : (d : Nat) → Sg (pat d)
  | 0 => fun r e t h => by simp [pat] at h
  | d + 1 => fun r e t h => alts_sg (pat_sg d) _ _ _ _ h

/-- A pattern that is read has few states. -/
theorem read_few {r : List UInt8} {d : D} {t : List UInt8} (h : pat 13 r = some (d, t)) (hr : r.length ≤ 120) : (toPat d :: pds (toPat d)).length ≤ 991233 := by
  obtain ⟨c, h1, h2, h3, _, _⟩ := pat_bd 13 r d t h
  have e13 : (2 : Nat) ^ 13 = 8192 := by decide
  rw [e13] at h3
  have n1 : (c + 1) * 8192 ≤ 121 * 8192 := Nat.mul_le_mul_right _ (by omega)
  have := pds_length (toPat d) h2
  simp only [List.length_cons]
  omega

end Ls

/- A net of places: which texts it lets through; how nets are joined. Plain mathematics. -/
namespace Ls

/-- What a place takes, and which may come behind which. -/
structure Rules where
  pl : Nat → UInt8 → Bool
  E : Nat → Nat → Bool

/-- Behind place p the text goes to an end. -/
def Acc (R : Rules) (L : Nat → Bool) : List UInt8 → Nat → Prop
  | [], p => L p = true
  | c :: u, p => ∃ q, R.E p q = true ∧ R.pl q c = true ∧ Acc R L u q

/-- From one of some places on the text goes to an end. -/
def From (R : Rules) (F L : Nat → Bool) (c : UInt8) (u : List UInt8) : Prop := ∃ q, F q = true ∧ R.pl q c = true ∧ Acc R L u q

/-- The places from b on, below m, let the texts T through. -/
structure Sem (R : Rules) (b m : Nat) (F L : Nat → Bool) (e : Bool) (T : List UInt8 → Prop) : Prop where
  closed : ∀ p q, b ≤ p → p < m → R.E p q = true → b ≤ q ∧ q < m
  fst : ∀ q, F q = true → b ≤ q ∧ q < m
  lst : ∀ q, L q = true → b ≤ q ∧ q < m
  nil : T [] ↔ e = true
  cons : ∀ c u, T (c :: u) ↔ From R F L c u

theorem Acc.congr {R R' : Rules} {L L' : Nat → Bool} {b m : Nat} (hc : ∀ p q, b ≤ p → p < m → R.E p q = true → b ≤ q ∧ q < m) (hE : ∀ p q, b ≤ p → p < m → R'.E p q = R.E p q) (hp : ∀ q c, b ≤ q → q < m → R'.pl q c = R.pl q c) (hL : ∀ q, b ≤ q → q < m → L' q = L q) :
    ∀ u p, b ≤ p → p < m → (Acc R' L' u p ↔ Acc R L u p)
  | [], p, h1, h2 => by simp only [Acc]; rw [hL p h1 h2]
  | c :: u, p, h1, h2 => by
    simp only [Acc]
    constructor
    · rintro ⟨q, h3, h4, h5⟩
      rw [hE p q h1 h2] at h3
      have h6 := hc p q h1 h2 h3
      rw [hp q c h6.1 h6.2] at h4
      exact ⟨q, h3, h4, (Acc.congr hc hE hp hL u q h6.1 h6.2).1 h5⟩
    · rintro ⟨q, h3, h4, h5⟩
      have h6 := hc p q h1 h2 h3
      exact ⟨q, by rw [hE p q h1 h2]; exact h3, by rw [hp q c h6.1 h6.2]; exact h4, (Acc.congr hc hE hp hL u q h6.1 h6.2).2 h5⟩

theorem Sem.keep {R R' : Rules} {b m : Nat} {F L : Nat → Bool} {e : Bool} {T : List UInt8 → Prop} (h : Sem R b m F L e T) (hE : ∀ p q, b ≤ p → p < m → R'.E p q = R.E p q) (hp : ∀ q c, b ≤ q → q < m → R'.pl q c = R.pl q c) : Sem R' b m F L e T := by
  refine ⟨fun p q h1 h2 h3 => h.closed p q h1 h2 (by rw [← hE p q h1 h2]; exact h3), h.fst, h.lst, h.nil, fun c u => (h.cons c u).trans ?_⟩
  have hA := Acc.congr (L' := L) (L := L) h.closed hE hp (fun _ _ _ => rfl)
  constructor
  · rintro ⟨q, h1, h2, h3⟩
    have h4 := h.fst q h1
    exact ⟨q, h1, by rw [hp q c h4.1 h4.2]; exact h2, (hA u q h4.1 h4.2).2 h3⟩
  · rintro ⟨q, h1, h2, h3⟩
    have h4 := h.fst q h1
    exact ⟨q, h1, by rw [← hp q c h4.1 h4.2]; exact h2, (hA u q h4.1 h4.2).1 h3⟩

theorem Sem.congr {R : Rules} {b m : Nat} {F L F' L' : Nat → Bool} {e : Bool} {T T' : List UInt8 → Prop} (h : Sem R b m F L e T) (hT : ∀ u, T' u ↔ T u) (hF : ∀ q, F' q = F q) (hL : ∀ q, L' q = L q) : Sem R b m F' L' e T' := by
  obtain rfl : F' = F := funext hF
  obtain rfl : L' = L := funext hL
  exact ⟨h.closed, h.fst, h.lst, (hT []).trans h.nil, fun c u => (hT _).trans (h.cons c u)⟩

/-- One behind the other. -/
theorem Sem.seq {R R' : Rules} {b m n : Nat} {F1 L1 F2 L2 : Nat → Bool} {e1 e2 : Bool} {A B : List UInt8 → Prop} (hbm : b ≤ m) (hmn : m ≤ n) (hA : Sem R b m F1 L1 e1 A) (hB : Sem R m n F2 L2 e2 B)
    (hpl : ∀ q c, R'.pl q c = R.pl q c) (hE : ∀ p q, R'.E p q = (R.E p q || (L1 p && F2 q))) :
    Sem R' b n (fun q => F1 q || (e1 && F2 q)) (fun q => (e2 && L1 q) || L2 q) (e1 && e2) (fun u => ∃ v w, u = v ++ w ∧ A v ∧ B w) := by
  have hEB : ∀ p q, m ≤ p → p < n → R'.E p q = R.E p q := fun p q h1 h2 => by
    rw [hE]
    cases h3 : L1 p with
    | false => simp
    | true => have := hA.lst p h3; omega
  have k1 : ∀ u p, m ≤ p → p < n → (Acc R' (fun q => (e2 && L1 q) || L2 q) u p ↔ Acc R L2 u p) :=
    Acc.congr hB.closed hEB (fun q c _ _ => hpl q c) (fun q h1 h2 => by
      cases h3 : L1 q with
      | false => simp
      | true => have := hA.lst q h3; omega)
  have k2 : ∀ u p, b ≤ p → p < m → (Acc R' (fun q => (e2 && L1 q) || L2 q) u p ↔ ∃ v w, u = v ++ w ∧ Acc R L1 v p ∧ B w) := by
    intro u
    induction u with
    | nil =>
      intro p h1 h2
      simp only [Acc]
      have h3 : L2 p = false := by
        cases h3 : L2 p with
        | false => rfl
        | true => have := hB.lst p h3; omega
      constructor
      · intro h
        simp only [h3, Bool.or_false, Bool.and_eq_true] at h
        exact ⟨[], [], rfl, h.2, hB.nil.2 h.1⟩
      · rintro ⟨v, w, e, hv, hw⟩
        obtain ⟨rfl, rfl⟩ := List.nil_eq_append_iff.1 e
        simp only [Acc] at hv
        simp [hv, hB.nil.1 hw]
    | cons c u ih =>
      intro p h1 h2
      constructor
      · rintro ⟨q, h3, h4, h5⟩
        rw [hE, Bool.or_eq_true, Bool.and_eq_true] at h3
        rw [hpl] at h4
        rcases h3 with h3 | ⟨h3, h6⟩
        · have h7 := hA.closed p q h1 h2 h3
          obtain ⟨v, w, rfl, hv, hw⟩ := (ih q h7.1 h7.2).1 h5
          exact ⟨c :: v, w, rfl, ⟨q, h3, h4, hv⟩, hw⟩
        · have h7 := hB.fst q h6
          exact ⟨[], c :: u, rfl, h3, (hB.cons c u).2 ⟨q, h6, h4, (k1 u q h7.1 h7.2).1 h5⟩⟩
      · rintro ⟨v, w, e, hv, hw⟩
        cases v with
        | nil =>
          simp only [List.nil_append] at e
          subst e
          obtain ⟨q, h3, h4, h5⟩ := (hB.cons c u).1 hw
          have h7 := hB.fst q h3
          simp only [Acc] at hv
          exact ⟨q, by rw [hE, hv, h3]; simp, by rw [hpl]; exact h4, (k1 u q h7.1 h7.2).2 h5⟩
        | cons d v =>
          simp only [List.cons_append, List.cons.injEq] at e
          obtain ⟨rfl, rfl⟩ := e
          obtain ⟨q, h3, h4, h5⟩ := hv
          have h7 := hA.closed p q h1 h2 h3
          exact ⟨q, by rw [hE, h3]; simp, by rw [hpl]; exact h4, (ih q h7.1 h7.2).2 ⟨v, w, rfl, h5, hw⟩⟩
  refine ⟨?_, ?_, ?_, ?_, ?_⟩
  · intro p q h1 h2 h3
    rw [hE, Bool.or_eq_true, Bool.and_eq_true] at h3
    rcases h3 with h3 | ⟨h3, h4⟩
    · rcases Nat.lt_or_ge p m with h5 | h5
      · have := hA.closed p q h1 h5 h3; omega
      · have := hB.closed p q h5 h2 h3; omega
    · have := hB.fst q h4; omega
  · intro q h
    simp only [Bool.or_eq_true, Bool.and_eq_true] at h
    rcases h with h | ⟨_, h⟩
    · have := hA.fst q h; omega
    · have := hB.fst q h; omega
  · intro q h
    simp only [Bool.or_eq_true, Bool.and_eq_true] at h
    rcases h with ⟨_, h⟩ | h
    · have := hA.lst q h; omega
    · have := hB.lst q h; omega
  · constructor
    · rintro ⟨v, w, e, hv, hw⟩
      obtain ⟨rfl, rfl⟩ := List.nil_eq_append_iff.1 e
      simp [hA.nil.1 hv, hB.nil.1 hw]
    · intro h
      rw [Bool.and_eq_true] at h
      exact ⟨[], [], rfl, hA.nil.2 h.1, hB.nil.2 h.2⟩
  · intro c u
    constructor
    · rintro ⟨v, w, e, hv, hw⟩
      cases v with
      | nil =>
        simp only [List.nil_append] at e
        subst e
        obtain ⟨q, h3, h4, h5⟩ := (hB.cons c u).1 hw
        have h7 := hB.fst q h3
        exact ⟨q, by simp [h3, hA.nil.1 hv], by rw [hpl]; exact h4, (k1 u q h7.1 h7.2).2 h5⟩
      | cons d v =>
        simp only [List.cons_append, List.cons.injEq] at e
        obtain ⟨rfl, rfl⟩ := e
        obtain ⟨q, h3, h4, h5⟩ := (hA.cons c v).1 hv
        have h7 := hA.fst q h3
        exact ⟨q, by simp [h3], by rw [hpl]; exact h4, (k2 _ q h7.1 h7.2).2 ⟨v, w, rfl, h5, hw⟩⟩
    · rintro ⟨q, h3, h4, h5⟩
      rw [hpl] at h4
      rw [Bool.or_eq_true, Bool.and_eq_true] at h3
      rcases h3 with h3 | ⟨h6, h3⟩
      · have h7 := hA.fst q h3
        obtain ⟨v, w, rfl, hv, hw⟩ := (k2 u q h7.1 h7.2).1 h5
        exact ⟨c :: v, w, rfl, (hA.cons c v).2 ⟨q, h3, h4, hv⟩, hw⟩
      · have h7 := hB.fst q h3
        exact ⟨[], c :: u, rfl, hA.nil.2 h6, (hB.cons c u).2 ⟨q, h3, h4, (k1 u q h7.1 h7.2).1 h5⟩⟩

/-- One or the other. -/
theorem Sem.alt {R : Rules} {b m n : Nat} {F1 L1 F2 L2 : Nat → Bool} {e1 e2 : Bool} {A B : List UInt8 → Prop} (hbm : b ≤ m) (hmn : m ≤ n) (hA : Sem R b m F1 L1 e1 A) (hB : Sem R m n F2 L2 e2 B) :
    Sem R b n (fun q => F1 q || F2 q) (fun q => L1 q || L2 q) (e1 || e2) (fun u => A u ∨ B u) := by
  have k1 : ∀ u p, m ≤ p → p < n → (Acc R (fun q => L1 q || L2 q) u p ↔ Acc R L2 u p) :=
    Acc.congr hB.closed (fun _ _ _ _ => rfl) (fun _ _ _ _ => rfl) (fun q h1 h2 => by
      cases h3 : L1 q with
      | false => simp
      | true => have := hA.lst q h3; omega)
  have k2 : ∀ u p, b ≤ p → p < m → (Acc R (fun q => L1 q || L2 q) u p ↔ Acc R L1 u p) :=
    Acc.congr hA.closed (fun _ _ _ _ => rfl) (fun _ _ _ _ => rfl) (fun q h1 h2 => by
      cases h3 : L2 q with
      | false => simp
      | true => have := hB.lst q h3; omega)
  refine ⟨?_, ?_, ?_, ?_, ?_⟩
  · intro p q h1 h2 h3
    rcases Nat.lt_or_ge p m with h5 | h5
    · have := hA.closed p q h1 h5 h3; omega
    · have := hB.closed p q h5 h2 h3; omega
  · intro q h
    rw [Bool.or_eq_true] at h
    rcases h with h | h
    · have := hA.fst q h; omega
    · have := hB.fst q h; omega
  · intro q h
    rw [Bool.or_eq_true] at h
    rcases h with h | h
    · have := hA.lst q h; omega
    · have := hB.lst q h; omega
  · rw [hA.nil, hB.nil, Bool.or_eq_true]
  · intro c u
    rw [hA.cons, hB.cons]
    constructor
    · rintro (⟨q, h3, h4, h5⟩ | ⟨q, h3, h4, h5⟩)
      · have h7 := hA.fst q h3
        exact ⟨q, by simp [h3], h4, (k2 u q h7.1 h7.2).2 h5⟩
      · have h7 := hB.fst q h3
        exact ⟨q, by simp [h3], h4, (k1 u q h7.1 h7.2).2 h5⟩
    · rintro ⟨q, h3, h4, h5⟩
      rw [Bool.or_eq_true] at h3
      rcases h3 with h3 | h3
      · have h7 := hA.fst q h3
        exact .inl ⟨q, h3, h4, (k2 u q h7.1 h7.2).1 h5⟩
      · have h7 := hB.fst q h3
        exact .inr ⟨q, h3, h4, (k1 u q h7.1 h7.2).1 h5⟩

theorem pieces_nil (L : List UInt8 → Prop) : Pieces L [] := ⟨[], rfl, by simp⟩

/-- Again and again. -/
theorem Sem.again {R R' : Rules} {b m : Nat} {F L : Nat → Bool} {e : Bool} {A : List UInt8 → Prop} (hA : Sem R b m F L e A) (hpl : ∀ q c, R'.pl q c = R.pl q c) (hE : ∀ p q, R'.E p q = (R.E p q || (L p && F q))) :
    Sem R' b m F L e (fun u => ∃ v w, u = v ++ w ∧ A v ∧ Pieces A w) := by
  have key : ∀ u p, b ≤ p → p < m → (Acc R' L u p ↔ ∃ v w, u = v ++ w ∧ Acc R L v p ∧ Pieces A w) := by
    intro u
    induction u with
    | nil =>
      intro p h1 h2
      simp only [Acc]
      constructor
      · intro h; exact ⟨[], [], rfl, h, pieces_nil A⟩
      · rintro ⟨v, w, e, hv, hw⟩
        obtain ⟨rfl, rfl⟩ := List.nil_eq_append_iff.1 e
        exact hv
    | cons c u ih =>
      intro p h1 h2
      constructor
      · rintro ⟨q, h3, h4, h5⟩
        rw [hE, Bool.or_eq_true, Bool.and_eq_true] at h3
        rw [hpl] at h4
        rcases h3 with h3 | ⟨h3, h6⟩
        · have h7 := hA.closed p q h1 h2 h3
          obtain ⟨v, w, rfl, hv, hw⟩ := (ih q h7.1 h7.2).1 h5
          exact ⟨c :: v, w, rfl, ⟨q, h3, h4, hv⟩, hw⟩
        · have h7 := hA.fst q h6
          obtain ⟨v, w, rfl, hv, hw⟩ := (ih q h7.1 h7.2).1 h5
          exact ⟨[], c :: (v ++ w), rfl, h3, pieces_cons.2 ⟨v, w, rfl, (hA.cons c v).2 ⟨q, h6, h4, hv⟩, hw⟩⟩
      · rintro ⟨v, w, e, hv, hw⟩
        cases v with
        | nil =>
          simp only [List.nil_append] at e
          subst e
          obtain ⟨x, y, rfl, hx, hy⟩ := pieces_cons.1 hw
          obtain ⟨q, h3, h4, h5⟩ := (hA.cons c x).1 hx
          have h7 := hA.fst q h3
          simp only [Acc] at hv
          exact ⟨q, by rw [hE, hv, h3]; simp, by rw [hpl]; exact h4, (ih q h7.1 h7.2).2 ⟨x, y, rfl, h5, hy⟩⟩
        | cons d v =>
          simp only [List.cons_append, List.cons.injEq] at e
          obtain ⟨rfl, rfl⟩ := e
          obtain ⟨q, h3, h4, h5⟩ := hv
          have h7 := hA.closed p q h1 h2 h3
          exact ⟨q, by rw [hE, h3]; simp, by rw [hpl]; exact h4, (ih q h7.1 h7.2).2 ⟨v, w, rfl, h5, hw⟩⟩
  refine ⟨?_, hA.fst, hA.lst, ?_, ?_⟩
  · intro p q h1 h2 h3
    rw [hE, Bool.or_eq_true, Bool.and_eq_true] at h3
    rcases h3 with h3 | ⟨_, h3⟩
    · exact hA.closed p q h1 h2 h3
    · exact hA.fst q h3
  · constructor
    · rintro ⟨v, w, e, hv, hw⟩
      obtain ⟨rfl, rfl⟩ := List.nil_eq_append_iff.1 e
      exact hA.nil.1 hv
    · intro h; exact ⟨[], [], rfl, hA.nil.2 h, pieces_nil A⟩
  · intro c u
    constructor
    · rintro ⟨v, w, e, hv, hw⟩
      cases v with
      | nil =>
        simp only [List.nil_append] at e
        subst e
        obtain ⟨x, y, rfl, hx, hy⟩ := pieces_cons.1 hw
        obtain ⟨q, h3, h4, h5⟩ := (hA.cons c x).1 hx
        have h7 := hA.fst q h3
        exact ⟨q, h3, by rw [hpl]; exact h4, (key _ q h7.1 h7.2).2 ⟨x, y, rfl, h5, hy⟩⟩
      | cons d v =>
        simp only [List.cons_append, List.cons.injEq] at e
        obtain ⟨rfl, rfl⟩ := e
        obtain ⟨q, h3, h4, h5⟩ := (hA.cons c v).1 hv
        have h7 := hA.fst q h3
        exact ⟨q, h3, by rw [hpl]; exact h4, (key _ q h7.1 h7.2).2 ⟨v, w, rfl, h5, hw⟩⟩
    · rintro ⟨q, h3, h4, h5⟩
      rw [hpl] at h4
      have h7 := hA.fst q h3
      obtain ⟨v, w, rfl, hv, hw⟩ := (key u q h7.1 h7.2).1 h5
      exact ⟨c :: v, w, rfl, (hA.cons c v).2 ⟨q, h3, h4, hv⟩, hw⟩

/-- It may be missing. -/
theorem Sem.missing {R : Rules} {b m : Nat} {F L : Nat → Bool} {e : Bool} {A : List UInt8 → Prop} (hA : Sem R b m F L e A) : Sem R b m F L true (fun u => u = [] ∨ A u) :=
  ⟨hA.closed, hA.fst, hA.lst, by simp, fun c u => by simp [hA.cons c u]⟩

end Ls

/- The net of what was read, and that it is right. Plain mathematics. -/
namespace Ls

structure Net where
  places : List (List UInt8)
  behind : List Nat

structure Span where
  first : Nat
  last : Nat
  empty : Bool

def rules (n : Net) : Rules := ⟨fun q c => has (n.places.getD q []) c, fun p q => (n.behind.getD p 0).testBit q⟩

def linkN (n : Net) (f t : Nat) : Net := ⟨n.places, n.behind.mapIdx fun i x => if f.testBit i = true then x ||| t else x⟩
def rowS (a x : Span) : Span := ⟨if a.empty = true then a.first ||| x.first else a.first, (if x.empty = true then a.last else 0) ||| x.last, a.empty && x.empty⟩
def orS (a x : Span) : Span := ⟨a.first ||| x.first, a.last ||| x.last, a.empty || x.empty⟩
def placeN (s : List UInt8) (n : Net) : Net := ⟨n.places ++ [s], n.behind ++ [0]⟩
def placeS (k : Nat) : Span := ⟨2 ^ k, 2 ^ k, false⟩

/-- What a row, a choice begins with. -/
def start (d : D) : Span := ⟨0, 0, decide (d.tag = 1 ∨ d.tag = 2)⟩

/-- What is added to a net, and to what was there of a row or choice. -/
def go : D → Net → Span → Net × Span
  | ⟨t, s, []⟩, n, a => if t = 0 then (placeN s n, placeS n.places.length) else (n, a)
  | ⟨t, _, [x]⟩, n, a =>
    if t = 3 then ((go x n (start x)).1, orS a (go x n (start x)).2)
    else if t = 7 then ((go x n (start x)).1, ⟨(go x n (start x)).2.first, (go x n (start x)).2.last, true⟩)
    else (linkN (go x n (start x)).1 (go x n (start x)).2.last (go x n (start x)).2.first, ⟨(go x n (start x)).2.first, (go x n (start x)).2.last, (go x n (start x)).2.empty || t != 6⟩)
  | ⟨t, _, [x, y]⟩, n, a =>
    if t = 2 then go y (linkN (go x n (start x)).1 a.last (go x n (start x)).2.first) (rowS a (go x n (start x)).2)
    else go y (go x n (start x)).1 (orS a (go x n (start x)).2)
  | _, n, a => (n, a)

def add (d : D) (n : Net) : Net × Span := go d n (start d)

theorem go_place (s : List UInt8) (n : Net) (a : Span) : go (place s) n a = (placeN s n, placeS n.places.length) := by simp [place, go]
theorem go_rnil (n : Net) (a : Span) : go rnil n a = (n, a) := by simp [rnil, go]
theorem go_rcons (x r : D) (n : Net) (a : Span) : go (rcons x r) n a = go r (linkN (add x n).1 a.last (add x n).2.first) (rowS a (add x n).2) := by simp [rcons, go, add]
theorem go_clast (x : D) (n : Net) (a : Span) : go (clast x) n a = ((add x n).1, orS a (add x n).2) := by simp [clast, go, add]
theorem go_ccons (x c : D) (n : Net) (a : Span) : go (ccons x c) n a = go c (add x n).1 (orS a (add x n).2) := by simp [ccons, go, add]
theorem go_opt (x : D) (n : Net) (a : Span) : go (rep 7 x) n a = ((add x n).1, ⟨(add x n).2.first, (add x n).2.last, true⟩) := by simp [rep, go, add]
theorem go_star (x : D) (n : Net) (a : Span) : go (rep 5 x) n a = (linkN (add x n).1 (add x n).2.last (add x n).2.first, ⟨(add x n).2.first, (add x n).2.last, true⟩) := by simp [rep, go, add]
theorem go_plus (x : D) (n : Net) (a : Span) : go (rep 6 x) n a = (linkN (add x n).1 (add x n).2.last (add x n).2.first, ⟨(add x n).2.first, (add x n).2.last, (add x n).2.empty⟩) := by simp [rep, go, add]

/-- What was read is well formed: as a pattern (0), a row's things (1), a choice's sides (2). -/
structure WdC (P : Nat → D → Prop) : Prop where
  place : ∀ (s : List UInt8), P 0 (Ls.place s)
  rep : ∀ {t : Nat} {a : D}, t = 5 ∨ t = 6 ∨ t = 7 → P 0 a → P 0 (Ls.rep t a)
  row : ∀ {d : D}, P 1 d → P 0 d
  choice : ∀ {d : D}, P 2 d → P 0 d
  rnil : P 1 Ls.rnil
  rcons : ∀ {a r : D}, P 0 a → P 1 r → P 1 (Ls.rcons a r)
  clast : ∀ {r : D}, P 0 r → P 2 (Ls.clast r)
  ccons : ∀ {r c : D}, P 0 r → P 2 c → P 2 (Ls.ccons r c)

structure Wd (r : Nat) (d : D) : Prop where
  all : ∀ P, WdC P → P r d

theorem Wd.place (s : List UInt8) : Wd 0 (Ls.place s) := ⟨fun _ c => c.place s⟩
theorem Wd.rep {t : Nat} {a : D} (ht : t = 5 ∨ t = 6 ∨ t = 7) (h : Wd 0 a) : Wd 0 (Ls.rep t a) := ⟨fun P c => c.rep ht (h.all P c)⟩
theorem Wd.row {d : D} (h : Wd 1 d) : Wd 0 d := ⟨fun P c => c.row (h.all P c)⟩
theorem Wd.choice {d : D} (h : Wd 2 d) : Wd 0 d := ⟨fun P c => c.choice (h.all P c)⟩
theorem Wd.rnil : Wd 1 Ls.rnil := ⟨fun _ c => c.rnil⟩
theorem Wd.rcons {a r : D} (h1 : Wd 0 a) (h2 : Wd 1 r) : Wd 1 (Ls.rcons a r) := ⟨fun P c => c.rcons (h1.all P c) (h2.all P c)⟩
theorem Wd.clast {r : D} (h : Wd 0 r) : Wd 2 (Ls.clast r) := ⟨fun P c => c.clast (h.all P c)⟩
theorem Wd.ccons {r d : D} (h1 : Wd 0 r) (h2 : Wd 2 d) : Wd 2 (Ls.ccons r d) := ⟨fun P c => c.ccons (h1.all P c) (h2.all P c)⟩

/-- By what a well formed pattern is. -/
theorem Wd.ind {motive : (r : Nat) → (d : D) → Wd r d → Prop}
    (place : ∀ (s : List UInt8), motive 0 (Ls.place s) (.place s))
    (rep : ∀ {t : Nat} {a : D} (ht : t = 5 ∨ t = 6 ∨ t = 7) (h : Wd 0 a), motive 0 a h → motive 0 (Ls.rep t a) (.rep ht h))
    (row : ∀ {d : D} (h : Wd 1 d), motive 1 d h → motive 0 d (.row h))
    (choice : ∀ {d : D} (h : Wd 2 d), motive 2 d h → motive 0 d (.choice h))
    (rnil : motive 1 Ls.rnil .rnil)
    (rcons : ∀ {a r : D} (h1 : Wd 0 a) (h2 : Wd 1 r), motive 0 a h1 → motive 1 r h2 → motive 1 (Ls.rcons a r) (.rcons h1 h2))
    (clast : ∀ {r : D} (h : Wd 0 r), motive 0 r h → motive 2 (Ls.clast r) (.clast h))
    (ccons : ∀ {r c : D} (h1 : Wd 0 r) (h2 : Wd 2 c), motive 0 r h1 → motive 2 c h2 → motive 2 (Ls.ccons r c) (.ccons h1 h2))
    {r : Nat} {d : D} (h : Wd r d) : motive r d h :=
  (h.all (fun r d => ∃ h : Wd r d, motive r d h)
    ⟨fun s => ⟨_, place s⟩, fun ht ⟨_, m⟩ => ⟨_, rep ht _ m⟩, fun ⟨_, m⟩ => ⟨_, row _ m⟩, fun ⟨_, m⟩ => ⟨_, choice _ m⟩, ⟨_, rnil⟩,
      fun ⟨_, m1⟩ ⟨_, m2⟩ => ⟨_, rcons _ _ m1 m2⟩, fun ⟨_, m⟩ => ⟨_, clast _ m⟩, fun ⟨_, m1⟩ ⟨_, m2⟩ => ⟨_, ccons _ _ m1 m2⟩⟩).2

theorem tag_row {r : Nat} {d : D} (h : Wd r d) (hr : r = 1) : start d = ⟨0, 0, true⟩ := by
  induction h using Wd.ind with
  | rnil => rfl
  | rcons => rfl
  | _ => cases hr
theorem tag_choice {r : Nat} {d : D} (h : Wd r d) (hr : r = 2) : start d = ⟨0, 0, false⟩ := by
  induction h using Wd.ind with
  | clast => rfl
  | ccons => rfl
  | _ => cases hr

/-- A pattern of kind 0 is the text of no signs. -/
theorem kind0 : (d : D) → (toPat d).kind = 0 → ∀ s, inL (toPat d) s ↔ s = []
  | ⟨t, g, []⟩, h, s => by
    unfold toPat at h ⊢
    split at h
    · simp [set] at h
    · rename_i ht; rw [if_neg ht]; exact inL_none s
  | ⟨t, g, [a]⟩, h, s => by
    unfold toPat at h ⊢
    split at h
    · rename_i ht; rw [if_pos ht]; exact kind0 a h s
    · split at h
      · simp [star] at h
      · split at h
        · unfold row at h
          split at h
          · simp [star] at h
          · split at h
            · rename_i h1 _; exact absurd h h1
            · simp [rowB] at h
        · simp [any] at h
  | ⟨t, g, [a, b]⟩, h, s => by
    unfold toPat at h ⊢
    split at h
    · rename_i ht
      rw [if_pos ht]
      unfold row at h ⊢
      split at h
      · rename_i h1; rw [if_pos h1]; exact kind0 b h s
      · split at h
        · rename_i h1 _; exact absurd h h1
        · simp [rowB] at h
    · simp [any] at h
  | ⟨t, g, _ :: _ :: _ :: _⟩, h, s => by
    unfold toPat
    exact inL_none s

theorem inL_rowD (a b : Pat) (ha : a.kind = 0 → ∀ s, inL a s ↔ s = []) (hb : b.kind = 0 → ∀ s, inL b s ↔ s = []) (s : List UInt8) : inL (row a b) s ↔ ∃ u v, s = u ++ v ∧ inL a u ∧ inL b v := by
  unfold row
  split
  · rename_i h
    constructor
    · intro h1; exact ⟨[], s, rfl, (ha h _).2 rfl, h1⟩
    · rintro ⟨u, v, rfl, hu, hv⟩; rw [ha h] at hu; subst hu; exact hv
  · split
    · rename_i h
      constructor
      · intro h1; exact ⟨s, [], by simp, h1, (hb h _).2 rfl⟩
      · rintro ⟨u, v, rfl, hu, hv⟩; rw [hb h] at hv; subst hv; simpa using hu
    · exact inL_rowB a b s

/-- As many places as rows of followers. -/
def Good (n : Net) : Prop := n.behind.length = n.places.length

/-- Below b nothing is changed. -/
def Keep (n n' : Net) (b : Nat) : Prop := n.places.length ≤ n'.places.length ∧ ∀ q, q < b → n'.places.getD q [] = n.places.getD q [] ∧ n'.behind.getD q 0 = n.behind.getD q 0

theorem Keep.trans {n n1 n2 : Net} {b c : Nat} (h : Keep n n1 b) (k : Keep n1 n2 c) (hbc : b ≤ c) : Keep n n2 b :=
  ⟨Nat.le_trans h.1 k.1, fun q hq => ⟨((k.2 q (by omega)).1).trans (h.2 q hq).1, ((k.2 q (by omega)).2).trans (h.2 q hq).2⟩⟩

theorem Keep.mono {n n1 : Net} {b c : Nat} (h : Keep n n1 c) (hbc : b ≤ c) : Keep n n1 b := ⟨h.1, fun q hq => h.2 q (by omega)⟩

theorem Sem.kept {n n' : Net} {b m : Nat} {F L : Nat → Bool} {e : Bool} {T : List UInt8 → Prop} (h : Sem (rules n) b m F L e T) (hk : Keep n n' m) : Sem (rules n') b m F L e T :=
  h.keep (fun p q _ hp => by simp only [rules]; rw [(hk.2 p hp).2]) (fun q c _ hq => by simp only [rules]; rw [(hk.2 q hq).1])

theorem getD_mapIdx (l : List Nat) (f : Nat → Nat → Nat) (p : Nat) : (l.mapIdx f).getD p 0 = if p < l.length then f p (l.getD p 0) else 0 := by
  rw [List.getD_eq_getElem?_getD, List.getElem?_mapIdx, List.getD_eq_getElem?_getD]
  rcases Nat.lt_or_ge p l.length with h | h
  · rw [if_pos h, List.getElem?_eq_getElem h]; rfl
  · rw [if_neg (by omega), List.getElem?_eq_none h]; rfl

theorem link_E (n : Net) (f t : Nat) (hf : ∀ p, f.testBit p = true → p < n.behind.length) (p q : Nat) : (rules (linkN n f t)).E p q = ((rules n).E p q || (f.testBit p && t.testBit q)) := by
  simp only [rules, linkN]
  rw [getD_mapIdx]
  rcases Nat.lt_or_ge p n.behind.length with h | h
  · rw [if_pos h]
    cases hp : f.testBit p with
    | true => simp [Nat.testBit_or]
    | false => simp
  · rw [if_neg (by omega)]
    have h1 : f.testBit p = false := by
      cases hp : f.testBit p with
      | true => have := hf p hp; omega
      | false => rfl
    rw [h1, List.getD_eq_getElem?_getD, List.getElem?_eq_none h]
    simp

theorem link_good {n : Net} (h : Good n) (f t : Nat) : Good (linkN n f t) := by
  unfold Good at h ⊢; unfold linkN; simpa using h

theorem link_keep (n : Net) (f t b : Nat) (hf : ∀ p, f.testBit p = true → b ≤ p) : Keep n (linkN n f t) b := by
  refine ⟨Nat.le_refl _, fun q hq => ⟨rfl, ?_⟩⟩
  simp only [linkN]
  rw [getD_mapIdx]
  split
  · rw [if_neg (fun e => by have := hf q e; omega)]
  · rename_i h
    rw [List.getD_eq_getElem?_getD, List.getElem?_eq_none (by omega)]; rfl

/-- The places of the span. -/
abbrev fb (x : Span) : Nat → Bool := fun q => x.first.testBit q
abbrev lb (x : Span) : Nat → Bool := fun q => x.last.testBit q

/-- What was added is right. -/
structure Added (n n' : Net) (b : Nat) (x : Span) (T : List UInt8 → Prop) : Prop where
  good : Good n'
  sem : Sem (rules n') b n'.places.length (fb x) (lb x) x.empty T
  keep : Keep n n' b

theorem place_ok (s : List UInt8) (n : Net) (h : Good n) : Added n (placeN s n) n.places.length (placeS n.places.length) (inL (toPat (place s))) := by
  have hpl : ∀ q, (placeN s n).places.getD q [] = if q = n.places.length then s else n.places.getD q [] := fun q => by
    simp only [placeN, List.getD_eq_getElem?_getD]
    rcases Nat.lt_or_ge q n.places.length with h1 | h1
    · rw [List.getElem?_append_left h1, if_neg (by omega)]
    · rw [List.getElem?_append_right h1]
      by_cases h2 : q = n.places.length
      · rw [if_pos h2, h2]; simp
      · rw [if_neg h2, List.getElem?_eq_none (by simp; omega), List.getElem?_eq_none h1]
  have hbh : ∀ q, (placeN s n).behind.getD q 0 = n.behind.getD q 0 := fun q => by
    simp only [placeN, List.getD_eq_getElem?_getD]
    rcases Nat.lt_or_ge q n.behind.length with h1 | h1
    · rw [List.getElem?_append_left h1]
    · rw [List.getElem?_append_right h1, List.getElem?_eq_none h1]
      rcases Nat.eq_zero_or_pos (q - n.behind.length) with h2 | h2
      · rw [h2]; rfl
      · rw [List.getElem?_eq_none (by simp; omega)]
  have hbz : n.behind.getD n.places.length 0 = 0 := by rw [List.getD_eq_getElem?_getD, List.getElem?_eq_none (by unfold Good at h; omega)]; rfl
  have hb2 : ∀ q, (2 ^ n.places.length : Nat).testBit q = decide (q = n.places.length) := fun q => by
    rw [Nat.testBit_two_pow]
    by_cases e : n.places.length = q
    · simp [e]
    · simp [e, Ne.symm e]
  have hlen : (placeN s n).places.length = n.places.length + 1 := by simp [placeN]
  refine ⟨by unfold Good at h ⊢; simp [placeN, h], ⟨?_, ?_, ?_, ?_, ?_⟩, by rw [hlen]; omega, fun q hq => ⟨by rw [hpl, if_neg (by omega)], hbh q⟩⟩
  · intro p q h1 h2 h3
    rw [hlen] at h2
    obtain rfl : p = n.places.length := by omega
    simp only [rules] at h3
    rw [hbh, hbz] at h3
    simp at h3
  · intro q h1
    simp only [fb, placeS, hb2, decide_eq_true_eq] at h1
    rw [hlen]; omega
  · intro q h1
    simp only [lb, placeS, hb2, decide_eq_true_eq] at h1
    rw [hlen]; omega
  · rw [toPat_place, inL_set]; simp [placeS]
  · intro c u
    rw [toPat_place, inL_set]
    constructor
    · rintro ⟨d, e, hd⟩
      injection e with e1 e2
      subst e1 e2
      refine ⟨n.places.length, by simp [fb, placeS], ?_, by simp [Acc, lb, placeS]⟩
      simp only [rules]; rw [hpl, if_pos rfl]; exact hd
    · rintro ⟨q, h1, h2, h3⟩
      simp only [fb, placeS, hb2, decide_eq_true_eq] at h1
      subst h1
      simp only [rules] at h2
      rw [hpl, if_pos rfl] at h2
      cases u with
      | nil => exact ⟨c, rfl, h2⟩
      | cons d u =>
        obtain ⟨q, h4, _⟩ := h3
        simp only [rules] at h4
        rw [hbh, hbz] at h4
        simp at h4

theorem row_empty (R : Rules) (b : Nat) : Sem R b b (fb ⟨0, 0, true⟩) (lb ⟨0, 0, true⟩) true (fun u => u = []) :=
  ⟨fun _ _ h1 h2 => by omega, fun q h => by simp [fb] at h, fun q h => by simp [lb] at h, by simp, fun c u => by
    constructor
    · intro h; cases h
    · rintro ⟨q, h, _⟩; simp [fb] at h⟩

theorem choice_empty (R : Rules) (b : Nat) : Sem R b b (fb ⟨0, 0, false⟩) (lb ⟨0, 0, false⟩) false (fun _ => False) :=
  ⟨fun _ _ h1 h2 => by omega, fun q h => by simp [fb] at h, fun q h => by simp [lb] at h, by simp, fun c u => by
    constructor
    · intro h; cases h
    · rintro ⟨q, h, _⟩; simp [fb] at h⟩

/-- What is said of each role. -/
def Said : Nat → D → Prop
  | 0, d => ∀ n, Good n → Added n (add d n).1 n.places.length (add d n).2 (inL (toPat d))
  | 1, d => ∀ n a b A, Good n → b ≤ n.places.length → Sem (rules n) b n.places.length (fb a) (lb a) a.empty A → Added n (go d n a).1 b (go d n a).2 (fun u => ∃ v w, u = v ++ w ∧ A v ∧ inL (toPat d) w)
  | _, d => ∀ n a b A, Good n → b ≤ n.places.length → Sem (rules n) b n.places.length (fb a) (lb a) a.empty A → Added n (go d n a).1 b (go d n a).2 (fun u => A u ∨ inL (toPat d) u)

theorem Added.congr {n n' : Net} {b : Nat} {x : Span} {T T' : List UInt8 → Prop} (h : Added n n' b x T) (hT : ∀ u, T' u ↔ T u) : Added n n' b x T' :=
  ⟨h.good, h.sem.congr hT (fun _ => rfl) (fun _ => rfl), h.keep⟩

theorem go_ok {r : Nat} {d : D} (h : Wd r d) : Said r d := by
  induction h using Wd.ind with
  | place s =>
    intro n hn
    unfold add
    rw [go_place]
    exact place_ok s n hn
  | @rep t a ht _ ih =>
    intro n hn
    have h1 := ih n hn
    have hlk := link_E (add a n).1 (add a n).2.last (add a n).2.first (fun p hp => by have := (h1.sem.lst p hp).2; have := h1.good; unfold Good at this; omega)
    have hkp := link_keep (add a n).1 (add a n).2.last (add a n).2.first n.places.length (fun p hp => (h1.sem.lst p hp).1)
    have hag := h1.sem.again (R' := rules (linkN (add a n).1 (add a n).2.last (add a n).2.first)) (fun _ _ => rfl) hlk
    rcases ht with rfl | rfl | rfl
    · unfold add
      rw [go_star, toPat_star]
      refine ⟨link_good h1.good _ _, hag.missing.congr (fun u => ?_) (fun _ => rfl) (fun _ => rfl), h1.keep.trans hkp (Nat.le_refl _)⟩
      rw [inL_star]
      cases u with
      | nil => simp [pieces_nil]
      | cons c u =>
        constructor
        · intro hp
          obtain ⟨x, y, rfl, hx, hy⟩ := pieces_cons.1 hp
          exact .inr ⟨c :: x, y, rfl, hx, hy⟩
        · rintro (e | ⟨v, w, e, hv, hw⟩)
          · cases e
          · cases v with
            | nil => rw [e]; exact hw
            | cons d v =>
              simp only [List.cons_append, List.cons.injEq] at e
              obtain ⟨rfl, rfl⟩ := e
              exact pieces_cons.2 ⟨v, w, rfl, hv, hw⟩
    · unfold add
      rw [go_plus, toPat_plus]
      refine ⟨link_good h1.good _ _, hag.congr (fun u => ?_) (fun _ => rfl) (fun _ => rfl), h1.keep.trans hkp (Nat.le_refl _)⟩
      rw [inL_rowD _ _ (kind0 a) (fun e => by simp [star] at e)]
      simp only [inL_star]
    · unfold add
      rw [go_opt, toPat_opt]
      refine ⟨h1.good, h1.sem.missing.congr (fun u => ?_) (fun _ => rfl) (fun _ => rfl), h1.keep⟩
      rw [inL_any, inL_none]
      exact or_comm
  | @row d hd ih =>
    intro n hn
    unfold add
    rw [tag_row hd rfl]
    refine (ih n ⟨0, 0, true⟩ n.places.length (fun u => u = []) hn (Nat.le_refl _) (row_empty _ _)).congr (fun u => ?_)
    constructor
    · intro h; exact ⟨[], u, rfl, rfl, h⟩
    · rintro ⟨v, w, rfl, rfl, h⟩; exact h
  | @choice d hd ih =>
    intro n hn
    unfold add
    rw [tag_choice hd rfl]
    refine (ih n ⟨0, 0, false⟩ n.places.length (fun _ => False) hn (Nat.le_refl _) (choice_empty _ _)).congr (fun u => ?_)
    simp
  | rnil =>
    intro n a b A hn hb hA
    rw [go_rnil]
    refine ⟨hn, hA.congr (fun u => ?_) (fun _ => rfl) (fun _ => rfl), Nat.le_refl _, fun _ _ => ⟨rfl, rfl⟩⟩
    rw [toPat_rnil]
    constructor
    · rintro ⟨v, w, rfl, hv, hw⟩; rw [inL_none] at hw; subst hw; simpa using hv
    · intro h; exact ⟨u, [], by simp, h, (inL_none _).2 rfl⟩
  | @rcons x r _ _ i1 i2 =>
    intro n a b A hn hb hA
    rw [go_rcons]
    have h1 := i1 n hn
    have hA1 := hA.kept h1.keep
    have hlk := link_E (add x n).1 a.last (add x n).2.first (fun p hp => by have := (hA.lst p hp).2; have := h1.good; have := h1.keep.1; unfold Good at *; omega)
    have hkp := link_keep (add x n).1 a.last (add x n).2.first b (fun p hp => (hA.lst p hp).1)
    have hs := Sem.seq (R' := rules (linkN (add x n).1 a.last (add x n).2.first)) hb h1.keep.1 hA1 h1.sem (fun _ _ => rfl) hlk
    have h2 := i2 (linkN (add x n).1 a.last (add x n).2.first) (rowS a (add x n).2) b (fun u => ∃ v w, u = v ++ w ∧ A v ∧ inL (toPat x) w) (link_good h1.good _ _) (Nat.le_trans hb h1.keep.1) (hs.congr (fun _ => Iff.rfl) (fun q => by
        simp only [fb, rowS]
        cases a.empty <;> simp [Nat.testBit_or]) (fun q => by
        simp only [lb, rowS, Nat.testBit_or]
        cases (add x n).2.empty <;> simp))
    refine ⟨h2.good, h2.sem.congr (fun u => ?_) (fun _ => rfl) (fun _ => rfl), ((Keep.mono h1.keep hb).trans hkp (Nat.le_refl _)).trans h2.keep (Nat.le_refl _)⟩
    · rw [toPat_rcons]
      constructor
      · rintro ⟨v, w, rfl, hv, hw⟩
        rw [inL_rowD _ _ (kind0 x) (kind0 r)] at hw
        obtain ⟨w1, w2, rfl, h3, h4⟩ := hw
        exact ⟨v ++ w1, w2, by simp, ⟨v, w1, rfl, hv, h3⟩, h4⟩
      · rintro ⟨v, w2, rfl, ⟨v1, w1, rfl, hv, h3⟩, h4⟩
        exact ⟨v1, w1 ++ w2, by simp, hv, (inL_rowD _ _ (kind0 x) (kind0 r) _).2 ⟨w1, w2, rfl, h3, h4⟩⟩
  | @clast x _ ih =>
    intro n a b A hn hb hA
    rw [go_clast]
    have h1 := ih n hn
    have hs := Sem.alt hb h1.keep.1 (hA.kept h1.keep) h1.sem
    refine ⟨h1.good, hs.congr (fun u => by rw [toPat_clast]) (fun q => by simp [fb, orS, Nat.testBit_or]) (fun q => by simp [lb, orS, Nat.testBit_or]), h1.keep.1, fun q hq => h1.keep.2 q (by omega)⟩
  | @ccons x c _ _ i1 i2 =>
    intro n a b A hn hb hA
    rw [go_ccons]
    have h1 := i1 n hn
    have hs := Sem.alt hb h1.keep.1 (hA.kept h1.keep) h1.sem
    have h2 := i2 (add x n).1 (orS a (add x n).2) b (fun u => A u ∨ inL (toPat x) u) h1.good (Nat.le_trans hb h1.keep.1) (hs.congr (fun _ => Iff.rfl) (fun q => by simp [fb, orS, Nat.testBit_or]) (fun q => by simp [lb, orS, Nat.testBit_or]))
    refine ⟨h2.good, h2.sem.congr (fun u => ?_) (fun _ => rfl) (fun _ => rfl), Nat.le_trans h1.keep.1 h2.keep.1, fun q hq => ?_⟩
    · rw [toPat_ccons, inL_any, or_assoc]
    · have e1 := h1.keep.2 q (by omega)
      have e2 := h2.keep.2 q hq
      exact ⟨e2.1.trans e1.1, e2.2.trans e1.2⟩

end Ls
