import Derived.Test.YtbdjchmnahjjlaaDoorLsN
/- What texts are of a pattern; the reference's answer is that. -/
namespace Ls

/-- Pieces of L, one behind the other. -/
def Pieces (L : List UInt8 → Prop) (s : List UInt8) : Prop := ∃ ps : List (List UInt8), s = ps.flatten ∧ ∀ x, x ∈ ps → L x

/-- The text s is one of the pattern. -/
def inL : Pat → List UInt8 → Prop
  | ⟨k, g, []⟩, s => if k = 1 then ∃ c, s = [c] ∧ has g c = true else s = []
  | ⟨_, _, [a]⟩, s => Pieces (inL a) s
  | ⟨k, _, [a, b]⟩, s => if k = 3 then inL a s ∨ inL b s else ∃ u v, s = u ++ v ∧ inL a u ∧ inL b v
  | _, _ => False

theorem inL_none (s : List UInt8) : inL none s ↔ s = [] := by simp [none, inL]
theorem inL_set (g s : List UInt8) : inL (set g) s ↔ ∃ c, s = [c] ∧ has g c = true := by simp [set, inL]
theorem inL_rowB (a b : Pat) (s : List UInt8) : inL (rowB a b) s ↔ ∃ u v, s = u ++ v ∧ inL a u ∧ inL b v := by simp [rowB, inL]
theorem inL_any (a b : Pat) (s : List UInt8) : inL (any a b) s ↔ inL a s ∨ inL b s := by simp [any, inL]
theorem inL_star (a : Pat) (s : List UInt8) : inL (star a) s ↔ Pieces (inL a) s := by simp [star, inL]

theorem wf_kind0 {p : Pat} (h : wf p) (hk : p.kind = 0) : p = none := by
  refine ind (P := fun p => p.kind = 0 → p = none) ?_ ?_ ?_ ?_ ?_ p h hk
  · intro _; rfl
  · intro s _ h; simp [set] at h
  · intro a b _ _ _ _ _ _ h; simp [rowB] at h
  · intro a b _ _ _ _ h; simp [any] at h
  · intro a _ _ h; simp [star] at h

theorem inL_row {a b : Pat} (ha : wf a) (hb : wf b) (s : List UInt8) : inL (row a b) s ↔ ∃ u v, s = u ++ v ∧ inL a u ∧ inL b v := by
  unfold row
  split
  · rename_i h
    rw [wf_kind0 ha h]
    constructor
    · intro h; exact ⟨[], s, rfl, (inL_none _).2 rfl, h⟩
    · rintro ⟨u, v, rfl, hu, hv⟩; rw [inL_none] at hu; subst hu; exact hv
  · split
    · rename_i h
      rw [wf_kind0 hb h]
      constructor
      · intro h; exact ⟨s, [], by simp, h, (inL_none _).2 rfl⟩
      · rintro ⟨u, v, rfl, hu, hv⟩; rw [inL_none] at hv; subst hv; simpa using hu
    · exact inL_rowB a b s

theorem empty_none' : empty none = true := by simp [none, empty]
theorem empty_set' (g : List UInt8) : empty (set g) = false := by simp [set, empty]
theorem empty_rowB' (a b : Pat) : empty (rowB a b) = (empty a && empty b) := by simp [rowB, empty]
theorem empty_any' (a b : Pat) : empty (any a b) = (empty a || empty b) := by simp [any, empty]
theorem empty_star' (a : Pat) : empty (star a) = true := by simp [star, empty]

theorem empty_inL (p : Pat) (h : wf p) : empty p = true ↔ inL p [] := by
  refine ind (P := fun p => empty p = true ↔ inL p []) ?_ ?_ ?_ ?_ ?_ p h
  · simp [empty_none', inL_none]
  · intro g _; simp [empty_set', inL_set]
  · intro a b _ _ _ _ ha hb
    rw [empty_rowB', inL_rowB, Bool.and_eq_true, ha, hb]
    constructor
    · rintro ⟨h1, h2⟩; exact ⟨[], [], rfl, h1, h2⟩
    · rintro ⟨u, v, e, h1, h2⟩
      obtain ⟨rfl, rfl⟩ := List.nil_eq_append_iff.1 e
      exact ⟨h1, h2⟩
  · intro a b _ _ ha hb; rw [empty_any', inL_any, Bool.or_eq_true, ha, hb]
  · intro a _ _; rw [empty_star', inL_star]; simp; exact ⟨[], rfl, by simp⟩

/-! ### Keys tell patterns apart -/

theorem sep40 {a b x y : List UInt8} (ha : ∀ c, c ∈ a → c ≠ 40) (hb : ∀ c, c ∈ b → c ≠ 40) (h : a ++ 40 :: x = b ++ 40 :: y) : a = b ∧ x = y := by
  induction a generalizing b with
  | nil =>
    cases b with
    | nil => simp at h; exact ⟨rfl, h⟩
    | cons c b => simp at h; exact absurd h.1.symm (hb c (by simp))
  | cons c a ih =>
    cases b with
    | nil => simp at h; exact absurd h.1 (ha c (by simp))
    | cons d b =>
      simp at h
      obtain ⟨rfl, h⟩ := h
      obtain ⟨rfl, rfl⟩ := ih (fun c hc => ha c (by simp [hc])) (fun c hc => hb c (by simp [hc])) h
      exact ⟨rfl, rfl⟩

theorem ne40 {c : UInt8} (h : 48 ≤ c.toNat) : c ≠ 40 := by rintro rfl; exact absurd h (by decide)

theorem signs_inj {a b x y : List UInt8} (ha : okSigns a) (hb : okSigns b) (h : a ++ 40 :: 41 :: x = b ++ 40 :: 41 :: y) : a = b ∧ x = y := by
  rcases ha with ⟨c, rfl⟩ | ⟨ha, ha2⟩
  · rcases hb with ⟨d, rfl⟩ | ⟨hb, hb2⟩
    · simp at h; exact ⟨by rw [h.1], h.2⟩
    · cases b with
      | nil => exact absurd rfl hb
      | cons d b =>
        simp at h
        obtain ⟨rfl, h⟩ := h
        cases b with
        | nil => simp at h; exact ⟨rfl, h⟩
        | cons e b => simp at h; exact absurd h.1.symm (ne40 (hb2 e (by simp)).1)
  · rcases hb with ⟨d, rfl⟩ | ⟨hb, hb2⟩
    · cases a with
      | nil => exact absurd rfl ha
      | cons c a =>
        simp at h
        obtain ⟨rfl, h⟩ := h
        cases a with
        | nil => simp at h; exact ⟨rfl, h⟩
        | cons e a => simp at h; exact absurd h.1 (ne40 (ha2 e (by simp)).1)
    · obtain ⟨h1, h2⟩ := sep40 (fun c hc => ne40 (ha2 c hc).1) (fun c hc => ne40 (hb2 c hc).1) h
      simp at h2
      exact ⟨h1, h2⟩

theorem key_none' (x : List UInt8) : key none ++ x = 48 :: 40 :: 41 :: x := by simp [none, key]
theorem key_set' (g x : List UInt8) : key (set g) ++ x = 49 :: (g ++ 40 :: 41 :: x) := by simp [set, key]
theorem key_rowB' (a b : Pat) (x : List UInt8) : key (rowB a b) ++ x = 50 :: 40 :: (key a ++ (key b ++ 41 :: x)) := by simp [rowB, key]
theorem key_any' (a b : Pat) (x : List UInt8) : key (any a b) ++ x = 51 :: 40 :: (key a ++ (key b ++ 41 :: x)) := by simp [any, key]
theorem key_star' (a : Pat) (x : List UInt8) : key (star a) ++ x = 52 :: 40 :: (key a ++ 41 :: x) := by simp [star, key]

/-- A well formed pattern is one of five. -/
theorem wf_cases {p : Pat} (h : wf p) : p = none ∨ (∃ g, okSigns g ∧ p = set g) ∨ (∃ a b, wf a ∧ wf b ∧ p = rowB a b) ∨ (∃ a b, wf a ∧ wf b ∧ p = any a b) ∨ (∃ a, wf a ∧ p = star a) := by
  refine ind (P := fun p => p = none ∨ (∃ g, okSigns g ∧ p = set g) ∨ (∃ a b, wf a ∧ wf b ∧ p = rowB a b) ∨ (∃ a b, wf a ∧ wf b ∧ p = any a b) ∨ (∃ a, wf a ∧ p = star a)) ?_ ?_ ?_ ?_ ?_ p h
  · exact .inl rfl
  · intro g hg; exact .inr (.inl ⟨g, hg, rfl⟩)
  · intro a b wa wb _ _ _ _; exact .inr (.inr (.inl ⟨a, b, wa, wb, rfl⟩))
  · intro a b wa wb _ _; exact .inr (.inr (.inr (.inl ⟨a, b, wa, wb, rfl⟩)))
  · intro a wa _; exact .inr (.inr (.inr (.inr ⟨a, wa, rfl⟩)))

theorem key_prefix (p : Pat) (hp : wf p) : ∀ q, wf q → ∀ x y, key p ++ x = key q ++ y → p = q ∧ x = y := by
  refine ind (P := fun p => ∀ q, wf q → ∀ x y, key p ++ x = key q ++ y → p = q ∧ x = y) ?_ ?_ ?_ ?_ ?_ p hp
  · intro q hq x y h
    rcases wf_cases hq with rfl | ⟨g, hg, rfl⟩ | ⟨a, b, wa, wb, rfl⟩ | ⟨a, b, wa, wb, rfl⟩ | ⟨a, wa, rfl⟩ <;> simp only [key_none', key_set', key_rowB', key_any', key_star', List.cons.injEq] at h
    · exact ⟨rfl, h.2.2.2⟩
    all_goals exact absurd h.1 (by decide)
  · intro g hg q hq x y h
    rcases wf_cases hq with rfl | ⟨g', hg', rfl⟩ | ⟨a, b, wa, wb, rfl⟩ | ⟨a, b, wa, wb, rfl⟩ | ⟨a, wa, rfl⟩ <;> simp only [key_none', key_set', key_rowB', key_any', key_star', List.cons.injEq] at h
    · exact absurd h.1 (by decide)
    · obtain ⟨rfl, rfl⟩ := signs_inj hg hg' h.2
      exact ⟨rfl, rfl⟩
    all_goals exact absurd h.1 (by decide)
  · intro a b wa wb _ _ ha hb q hq x y h
    rcases wf_cases hq with rfl | ⟨g', hg', rfl⟩ | ⟨a', b', wa', wb', rfl⟩ | ⟨a', b', wa', wb', rfl⟩ | ⟨a', wa', rfl⟩ <;> simp only [key_none', key_set', key_rowB', key_any', key_star', List.cons.injEq] at h
    · exact absurd h.1 (by decide)
    · exact absurd h.1 (by decide)
    · obtain ⟨rfl, h2⟩ := ha a' wa' _ _ h.2.2
      obtain ⟨rfl, h3⟩ := hb b' wb' _ _ h2
      simp at h3
      exact ⟨rfl, h3⟩
    all_goals exact absurd h.1 (by decide)
  · intro a b wa wb ha hb q hq x y h
    rcases wf_cases hq with rfl | ⟨g', hg', rfl⟩ | ⟨a', b', wa', wb', rfl⟩ | ⟨a', b', wa', wb', rfl⟩ | ⟨a', wa', rfl⟩ <;> simp only [key_none', key_set', key_rowB', key_any', key_star', List.cons.injEq] at h
    · exact absurd h.1 (by decide)
    · exact absurd h.1 (by decide)
    · exact absurd h.1 (by decide)
    · obtain ⟨rfl, h2⟩ := ha a' wa' _ _ h.2.2
      obtain ⟨rfl, h3⟩ := hb b' wb' _ _ h2
      simp at h3
      exact ⟨rfl, h3⟩
    · exact absurd h.1 (by decide)
  · intro a wa ha q hq x y h
    rcases wf_cases hq with rfl | ⟨g', hg', rfl⟩ | ⟨a', b', wa', wb', rfl⟩ | ⟨a', b', wa', wb', rfl⟩ | ⟨a', wa', rfl⟩ <;> simp only [key_none', key_set', key_rowB', key_any', key_star', List.cons.injEq] at h
    · exact absurd h.1 (by decide)
    · exact absurd h.1 (by decide)
    · exact absurd h.1 (by decide)
    · exact absurd h.1 (by decide)
    · obtain ⟨rfl, h2⟩ := ha a' wa' _ _ h.2.2
      simp at h2
      exact ⟨rfl, h2⟩

theorem key_inj {p q : Pat} (hp : wf p) (hq : wf q) (h : key p = key q) : p = q := (key_prefix p hp q hq [] [] (by simpa using h)).1

/-! ### What is put is there -/

theorem put_mem {l : List Pat} {x : Pat} (hl : ∀ y, y ∈ l → wf y) (hx : wf x) : ∀ q, q ∈ put l x ↔ q ∈ l ∨ q = x := by
  intro q
  unfold put
  split
  · rename_i h
    constructor
    · exact .inl
    · rintro (h1 | rfl)
      · exact h1
      · rw [List.any_eq_true] at h
        obtain ⟨y, hy, e⟩ := h
        rw [← key_inj (hl y hy) hx (by simpa using e)]
        exact hy
  · simp

theorem put_wf {l : List Pat} {x : Pat} (hl : ∀ y, y ∈ l → wf y) (hx : wf x) : ∀ q, q ∈ put l x → wf q := fun q hq => by
  rcases (put_mem hl hx q).1 hq with h | rfl
  · exact hl q h
  · exact hx

theorem putAll_mem {l m : List Pat} (hl : ∀ y, y ∈ l → wf y) (hm : ∀ y, y ∈ m → wf y) : ∀ q, q ∈ putAll l m ↔ q ∈ l ∨ q ∈ m := by
  induction m generalizing l with
  | nil => intro q; simp [putAll]
  | cons x m ih =>
    intro q
    have hx := hm x (by simp)
    show q ∈ putAll (put l x) m ↔ _
    rw [ih (put_wf hl hx) (fun y hy => hm y (by simp [hy])), put_mem hl hx]
    simp [or_assoc]

/-! ### What comes behind a sign -/

theorem pieces_cons {L : List UInt8 → Prop} {c : UInt8} {s : List UInt8} : Pieces L (c :: s) ↔ ∃ u v, s = u ++ v ∧ L (c :: u) ∧ Pieces L v := by
  constructor
  · rintro ⟨ps, e, h⟩
    induction ps with
    | nil => simp at e
    | cons p ps ih =>
      cases p with
      | nil => simp at e; exact ih (by simpa using e) (fun x hx => h x (by simp [hx]))
      | cons d p =>
        simp at e
        obtain ⟨rfl, e⟩ := e
        exact ⟨p, ps.flatten, e, h _ (by simp), ps, rfl, fun x hx => h x (by simp [hx])⟩
  · rintro ⟨u, v, rfl, h1, ps, rfl, h2⟩
    refine ⟨(c :: u) :: ps, by simp, fun x hx => ?_⟩
    rcases List.mem_cons.1 hx with rfl | hx
    · exact h1
    · exact h2 x hx

theorem behind_inL (p : Pat) (hp : wf p) (c : UInt8) : ∀ s, inL p (c :: s) ↔ ∃ q, q ∈ behind p c ∧ inL q s := by
  refine ind (P := fun p => ∀ s, inL p (c :: s) ↔ ∃ q, q ∈ behind p c ∧ inL q s) ?_ ?_ ?_ ?_ ?_ p hp
  · intro s; simp [inL_none, behind_none]
  · intro g _ s
    rw [inL_set, behind_set]
    constructor
    · rintro ⟨d, e, h⟩
      simp at e
      obtain ⟨rfl, rfl⟩ := e
      exact ⟨none, by simp [h], (inL_none _).2 rfl⟩
    · rintro ⟨q, hq, h⟩
      split at hq
      · rename_i hg
        simp at hq; subst hq
        rw [inL_none] at h; subst h
        exact ⟨c, rfl, hg⟩
      · simp at hq
  · intro a b wa wb ka kb ha hb s
    have hma : ∀ y, y ∈ (behind a c).map (fun x => row x b) → wf y := fun y hy => by
      obtain ⟨z, hz, rfl⟩ := List.mem_map.1 hy
      exact wf_row (behind_ok a wa c z hz).1 wb
    have hmb : ∀ y, y ∈ behind b c → wf y := fun y hy => (behind_ok b wb c y hy).1
    have hm0 : ∀ q, q ∈ putAll [] ((behind a c).map (fun x => row x b)) ↔ q ∈ (behind a c).map (fun x => row x b) := fun q => by
      rw [putAll_mem (by simp) hma]; simp
    have left : (∃ u v, s = u ++ v ∧ inL a (c :: u) ∧ inL b v) ↔ ∃ q, q ∈ (behind a c).map (fun x => row x b) ∧ inL q s := by
      constructor
      · rintro ⟨u, v, rfl, h1, h2⟩
        obtain ⟨z, hz, h3⟩ := (ha u).1 h1
        exact ⟨row z b, List.mem_map.2 ⟨z, hz, rfl⟩, (inL_row (behind_ok a wa c z hz).1 wb _).2 ⟨u, v, rfl, h3, h2⟩⟩
      · rintro ⟨q, hq, h⟩
        obtain ⟨z, hz, rfl⟩ := List.mem_map.1 hq
        obtain ⟨u, v, rfl, h1, h2⟩ := (inL_row (behind_ok a wa c z hz).1 wb _).1 h
        exact ⟨u, v, rfl, (ha u).2 ⟨z, hz, h1⟩, h2⟩
    have hsplit : inL (rowB a b) (c :: s) ↔ (∃ u v, s = u ++ v ∧ inL a (c :: u) ∧ inL b v) ∨ (inL a [] ∧ inL b (c :: s)) := by
      rw [inL_rowB]
      constructor
      · rintro ⟨u, v, e, h1, h2⟩
        cases u with
        | nil => simp at e; subst e; exact .inr ⟨h1, h2⟩
        | cons d u => simp at e; obtain ⟨rfl, rfl⟩ := e; exact .inl ⟨u, v, rfl, h1, h2⟩
      · rintro (⟨u, v, rfl, h1, h2⟩ | ⟨h1, h2⟩)
        · exact ⟨c :: u, v, rfl, h1, h2⟩
        · exact ⟨[], c :: s, rfl, h1, h2⟩
    rw [hsplit, left, behind_rowB, ← empty_inL a wa]
    split
    · rename_i hE
      simp only [hE, true_and, hb s]
      have hw0 : ∀ y, y ∈ putAll [] ((behind a c).map (fun x => row x b)) → wf y := fun y hy => hma y ((hm0 y).1 hy)
      constructor
      · rintro (⟨q, hq, h⟩ | ⟨q, hq, h⟩)
        · exact ⟨q, (putAll_mem hw0 hmb q).2 (.inl ((hm0 q).2 hq)), h⟩
        · exact ⟨q, (putAll_mem hw0 hmb q).2 (.inr hq), h⟩
      · rintro ⟨q, hq, h⟩
        rcases (putAll_mem hw0 hmb q).1 hq with h1 | h1
        · exact .inl ⟨q, (hm0 q).1 h1, h⟩
        · exact .inr ⟨q, h1, h⟩
    · rename_i hE
      simp only [hE, Bool.false_eq_true, false_and, or_false]
      constructor
      · rintro ⟨q, hq, h⟩; exact ⟨q, (hm0 q).2 hq, h⟩
      · rintro ⟨q, hq, h⟩; exact ⟨q, (hm0 q).1 hq, h⟩
  · intro a b wa wb ha hb s
    rw [inL_any, behind_any, ha s, hb s]
    have h1 : ∀ y, y ∈ behind a c → wf y := fun y hy => (behind_ok a wa c y hy).1
    have h2 : ∀ y, y ∈ behind b c → wf y := fun y hy => (behind_ok b wb c y hy).1
    constructor
    · rintro (⟨q, hq, h⟩ | ⟨q, hq, h⟩)
      · exact ⟨q, (putAll_mem h1 h2 q).2 (.inl hq), h⟩
      · exact ⟨q, (putAll_mem h1 h2 q).2 (.inr hq), h⟩
    · rintro ⟨q, hq, h⟩
      rcases (putAll_mem h1 h2 q).1 hq with h3 | h3
      · exact .inl ⟨q, h3, h⟩
      · exact .inr ⟨q, h3, h⟩
  · intro a wa ha s
    have hm : ∀ y, y ∈ (behind a c).map (fun x => row x (star a)) → wf y := fun y hy => by
      obtain ⟨z, hz, rfl⟩ := List.mem_map.1 hy
      exact wf_row (behind_ok a wa c z hz).1 (wf_star wa)
    have hm0 : ∀ q, q ∈ putAll [] ((behind a c).map (fun x => row x (star a))) ↔ q ∈ (behind a c).map (fun x => row x (star a)) := fun q => by
      rw [putAll_mem (by simp) hm]; simp
    rw [inL_star, behind_star, pieces_cons]
    constructor
    · rintro ⟨u, v, rfl, h1, h2⟩
      obtain ⟨z, hz, h3⟩ := (ha u).1 h1
      exact ⟨row z (star a), (hm0 _).2 (List.mem_map.2 ⟨z, hz, rfl⟩), (inL_row (behind_ok a wa c z hz).1 (wf_star wa) _).2 ⟨u, v, rfl, h3, (inL_star _ _).2 h2⟩⟩
    · rintro ⟨q, hq, h⟩
      obtain ⟨z, hz, rfl⟩ := List.mem_map.1 ((hm0 q).1 hq)
      obtain ⟨u, v, rfl, h1, h2⟩ := (inL_row (behind_ok a wa c z hz).1 (wf_star wa) _).1 h
      exact ⟨u, v, rfl, (ha u).2 ⟨z, hz, h1⟩, (inL_star _ _).1 h2⟩

theorem step_mem {l : List Pat} (hl : ∀ y, y ∈ l → wf y) (c : UInt8) : (∀ q, q ∈ step l c → wf q) ∧ ∀ q, q ∈ step l c ↔ ∃ p, p ∈ l ∧ q ∈ behind p c := by
  have : ∀ (l m : List Pat), (∀ y, y ∈ l → wf y) → (∀ y, y ∈ m → wf y) → (∀ q, q ∈ l.foldl (fun n p => putAll n (behind p c)) m → wf q) ∧ ∀ q, q ∈ l.foldl (fun n p => putAll n (behind p c)) m ↔ q ∈ m ∨ ∃ p, p ∈ l ∧ q ∈ behind p c := by
    intro l
    induction l with
    | nil => intro m _ hm; exact ⟨hm, fun q => by simp⟩
    | cons p l ih =>
      intro m hl hm
      have hp := hl p (by simp)
      have hb : ∀ y, y ∈ behind p c → wf y := fun y hy => (behind_ok p hp c y hy).1
      have hw : ∀ y, y ∈ putAll m (behind p c) → wf y := fun y hy => by
        rcases (putAll_mem hm hb y).1 hy with h | h
        · exact hm y h
        · exact hb y h
      obtain ⟨h1, h2⟩ := ih (putAll m (behind p c)) (fun y hy => hl y (by simp [hy])) hw
      refine ⟨h1, fun q => ?_⟩
      rw [List.foldl_cons, h2, putAll_mem hm hb]
      simp [or_assoc]
  obtain ⟨h1, h2⟩ := this l [] hl (by simp)
  exact ⟨h1, fun q => by have := h2 q; simpa [step] using this⟩

/-- The reference's answer: the text is one of the pattern. -/
theorem is_iff (p : Pat) (hp : wf p) (s : List UInt8) : is p s = true ↔ inL p s := by
  have : ∀ (s : List UInt8) (l : List Pat), (∀ y, y ∈ l → wf y) → ((s.foldl step l).any empty = true ↔ ∃ q, q ∈ l ∧ inL q s) := by
    intro s
    induction s with
    | nil =>
      intro l hl
      rw [List.foldl_nil, List.any_eq_true]
      constructor
      · rintro ⟨q, hq, h⟩; exact ⟨q, hq, (empty_inL q (hl q hq)).1 h⟩
      · rintro ⟨q, hq, h⟩; exact ⟨q, hq, (empty_inL q (hl q hq)).2 h⟩
    | cons c s ih =>
      intro l hl
      obtain ⟨h1, h2⟩ := step_mem hl c
      rw [List.foldl_cons, ih _ h1]
      constructor
      · rintro ⟨q, hq, h⟩
        obtain ⟨p, hp, hb⟩ := (h2 q).1 hq
        exact ⟨p, hp, (behind_inL p (hl p hp) c s).2 ⟨q, hb, h⟩⟩
      · rintro ⟨p, hp, h⟩
        obtain ⟨q, hq, h3⟩ := (behind_inL p (hl p hp) c s).1 h
        exact ⟨q, (h2 q).2 ⟨p, hp, hq⟩, h3⟩
  have h := this s [p] (by simpa using hp)
  simpa [is] using h

end Ls
