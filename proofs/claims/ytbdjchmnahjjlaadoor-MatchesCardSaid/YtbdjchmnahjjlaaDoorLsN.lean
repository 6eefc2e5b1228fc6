import Derived.Test.YtbdjchmnahjjlaaDoorLsMath
/- How many, and how great, the patterns are that may still come behind a sign. -/
namespace Ls

def ks (p : Pat) : Nat := (key p).length

theorem ks_none : ks none = 3 := rfl
theorem ks_set (s : List UInt8) : ks (set s) = s.length + 3 := by simp [ks, set, key]
theorem ks_rowB (a b : Pat) : ks (rowB a b) = ks a + ks b + 3 := by simp [ks, rowB, key]; omega
theorem ks_any (a b : Pat) : ks (any a b) = ks a + ks b + 3 := by simp [ks, any, key]; omega
theorem ks_star (a : Pat) : ks (star a) = ks a + 3 := by simp [ks, star, key]
theorem ks_row (a b : Pat) : ks (row a b) ≤ ks a + ks b + 3 := by
  unfold row
  split
  · omega
  · split
    · omega
    · rw [ks_rowB]; exact Nat.le_refl _

/-- How many at most. -/
def nd : Pat → Nat
  | ⟨_, _, [a, b]⟩ => nd a + nd b
  | ⟨_, _, [a]⟩ => nd a
  | _ => 1

/-- How great at most. -/
def md : Pat → Nat
  | ⟨k, _, [a, b]⟩ => if k = 2 then max (md a + ks b + 3) (md b) else max (md a) (md b)
  | ⟨_, _, [a]⟩ => md a + ks a + 6
  | _ => 3

theorem putAll_nil (l : List Pat) : putAll l [] = l := rfl
theorem putAll_snoc (l m : List Pat) (x : Pat) : putAll l (m ++ [x]) = put (putAll l m) x := by simp [putAll]
theorem putAll_append (l m n : List Pat) : putAll l (m ++ n) = putAll (putAll l m) n := by simp [putAll]

theorem put_length (l : List Pat) (x : Pat) : (put l x).length ≤ l.length + 1 := by
  unfold put; split <;> simp

theorem mem_put {l : List Pat} {x q : Pat} (h : q ∈ put l x) : q ∈ l ∨ q = x := by
  unfold put at h
  split at h
  · exact .inl h
  · simpa using h

theorem putAll_length (l m : List Pat) : (putAll l m).length ≤ l.length + m.length := by
  induction m generalizing l with
  | nil => simp [putAll]
  | cons x m ih =>
    have h1 := ih (put l x)
    have h2 := put_length l x
    show (putAll (put l x) m).length ≤ _
    simp only [List.length_cons]; omega

theorem mem_putAll {l m : List Pat} {q : Pat} (h : q ∈ putAll l m) : q ∈ l ∨ q ∈ m := by
  induction m generalizing l with
  | nil => exact .inl h
  | cons x m ih =>
    rcases ih (l := put l x) h with h | h
    · rcases mem_put h with h | rfl
      · exact .inl h
      · exact .inr (by simp)
    · exact .inr (by simp [h])

theorem behind_none (c : UInt8) : behind none c = [] := by simp [none, behind]
theorem behind_set (s : List UInt8) (c : UInt8) : behind (set s) c = if has s c = true then [none] else [] := by simp [set, behind]
theorem behind_rowB (a b : Pat) (c : UInt8) : behind (rowB a b) c =
    if empty a = true then putAll (putAll [] ((behind a c).map (fun x => row x b))) (behind b c) else putAll [] ((behind a c).map (fun x => row x b)) := by simp [rowB, behind]
theorem behind_any (a b : Pat) (c : UInt8) : behind (any a b) c = putAll (behind a c) (behind b c) := by simp [any, behind]
theorem behind_star (a : Pat) (c : UInt8) : behind (star a) c = putAll [] ((behind a c).map (fun x => row x (star a))) := by simp [star, behind]

theorem md_rowB (a b : Pat) : md (rowB a b) = max (md a + ks b + 3) (md b) := by simp [rowB, md]
theorem md_any (a b : Pat) : md (any a b) = max (md a) (md b) := by simp [any, md]
theorem md_star (a : Pat) : md (star a) = md a + ks a + 6 := by simp [star, md]
theorem nd_rowB (a b : Pat) : nd (rowB a b) = nd a + nd b := by simp [rowB, nd]
theorem nd_any (a b : Pat) : nd (any a b) = nd a + nd b := by simp [any, nd]
theorem nd_star (a : Pat) : nd (star a) = nd a := by simp [star, nd]

theorem behind_length (p : Pat) (hp : wf p) (c : UInt8) : (behind p c).length ≤ nd p := by
  refine ind (P := fun p => (behind p c).length ≤ nd p) ?_ ?_ ?_ ?_ ?_ p hp
  · simp [behind_none]
  · intro s _; rw [behind_set]; split <;> simp [set, nd]
  · intro a b _ _ _ _ ha hb
    rw [behind_rowB, nd_rowB]
    have h1 := putAll_length [] ((behind a c).map (fun x => row x b))
    have h2 := putAll_length (putAll [] ((behind a c).map (fun x => row x b))) (behind b c)
    simp at h1
    split <;> omega
  · intro a b _ _ ha hb
    rw [behind_any, nd_any]
    have h2 := putAll_length (behind a c) (behind b c)
    omega
  · intro a _ ha
    rw [behind_star, nd_star]
    have h1 := putAll_length [] ((behind a c).map (fun x => row x (star a)))
    simp at h1
    omega

theorem behind_ok (p : Pat) (hp : wf p) (c : UInt8) : ∀ x, x ∈ behind p c → wf x ∧ ks x ≤ md p := by
  refine ind (P := fun p => ∀ x, x ∈ behind p c → wf x ∧ ks x ≤ md p) ?_ ?_ ?_ ?_ ?_ p hp
  · simp [behind_none]
  · intro s _ x hx
    rw [behind_set] at hx
    split at hx
    · simp only [List.mem_singleton] at hx; subst hx; exact ⟨wf_none, by simp [ks_none, set, md]⟩
    · simp at hx
  · intro a b wa wb _ _ ha hb x hx
    rw [behind_rowB] at hx
    have key : ∀ x, x ∈ (behind a c).map (fun x => row x b) → wf x ∧ ks x ≤ md (rowB a b) := by
      intro x hx
      obtain ⟨z, hz, rfl⟩ := List.mem_map.1 hx
      have := ha z hz
      have h2 := ks_row z b
      exact ⟨wf_row this.1 wb, by rw [md_rowB]; omega⟩
    have k1 : ∀ x, x ∈ putAll [] ((behind a c).map (fun x => row x b)) → wf x ∧ ks x ≤ md (rowB a b) := fun x hx => by
      rcases mem_putAll hx with h | h
      · simp at h
      · exact key x h
    split at hx
    · rcases mem_putAll hx with h | h
      · exact k1 x h
      · have := hb x h; exact ⟨this.1, by rw [md_rowB]; omega⟩
    · exact k1 x hx
  · intro a b _ _ ha hb x hx
    rw [behind_any] at hx
    rcases mem_putAll hx with h | h
    · have := ha x h; exact ⟨this.1, by rw [md_any]; omega⟩
    · have := hb x h; exact ⟨this.1, by rw [md_any]; omega⟩
  · intro a wa ha x hx
    rw [behind_star] at hx
    rcases mem_putAll hx with h | h
    · simp at h
    · obtain ⟨z, hz, rfl⟩ := List.mem_map.1 h
      have := ha z hz
      have h2 := ks_row z (star a)
      rw [ks_star] at h2
      exact ⟨wf_row this.1 (wf_star wa), by rw [md_star]; omega⟩

end Ls

/- The states that a pattern can come to: finitely many. -/
namespace Ls

/-- A list of patterns that what may still come never leaves, each of them not too great. -/
structure Room (L : List Pat) : Prop where
  closed : ∀ q, q ∈ L → ∀ c x, x ∈ behind q c → x ∈ L
  ok : ∀ q, q ∈ L → wf q ∧ ks q ≤ 4611686018427387904 ∧ nd q ≤ 1000000000 ∧ md q ≤ 4611686018427387904
  small : L.length ≤ 500000000

/-- No two of one key. -/
def KD (l : List Pat) : Prop := (l.map key).Nodup

theorem KD_nil : KD [] := by simp [KD]

theorem KD_put {l : List Pat} (h : KD l) (x : Pat) : KD (put l x) := by
  unfold put
  split
  · exact h
  · rename_i hn
    unfold KD at h ⊢
    rw [List.map_append, List.nodup_append]
    refine ⟨h, by simp, ?_⟩
    intro a ha b hb
    simp only [List.map_cons, List.map_nil, List.mem_singleton] at hb
    subst hb
    rintro rfl
    apply hn
    rw [List.any_eq_true]
    obtain ⟨q, hq, e⟩ := List.mem_map.1 ha
    exact ⟨q, hq, by simp [e]⟩

theorem KD_putAll {l : List Pat} (h : KD l) (m : List Pat) : KD (putAll l m) := by
  induction m generalizing l with
  | nil => exact h
  | cons x m ih => exact ih (KD_put h x)

theorem nodup_le {α : Type} [DecidableEq α] : (l L : List α) → l.Nodup → (∀ x, x ∈ l → x ∈ L) → l.length ≤ L.length
  | [], _, _, _ => by simp
  | a :: l, L, h, hs => by
    rw [List.nodup_cons] at h
    have ha := hs a (by simp)
    have := nodup_le l (L.erase a) h.2 (fun x hx => by
      rw [List.mem_erase_of_ne (by rintro rfl; exact h.1 hx)]
      exact hs x (by simp [hx]))
    rw [List.length_erase_of_mem ha] at this
    have hp : 0 < L.length := List.length_pos_of_mem ha
    simp only [List.length_cons]
    omega

/-- A list of such patterns, no two of one key, is no longer than the room. -/
theorem KD_length {l L : List Pat} (h : KD l) (hs : ∀ x, x ∈ l → x ∈ L) : l.length ≤ L.length := by
  have := nodup_le (l.map key) (L.map key) h (fun x hx => by
    obtain ⟨q, hq, rfl⟩ := List.mem_map.1 hx
    exact List.mem_map.2 ⟨q, hs q hq, rfl⟩)
  simpa using this

/-- What the first k of some patterns come to. -/
def stepTo (l : List Pat) (c : UInt8) : List Pat := l.foldl (fun n p => putAll n (behind p c)) []

theorem step_eq (l : List Pat) (c : UInt8) : step l c = stepTo l c := rfl

theorem stepTo_snoc (l : List Pat) (p : Pat) (c : UInt8) : stepTo (l ++ [p]) c = putAll (stepTo l c) (behind p c) := by simp [stepTo]

theorem stepTo_KD (l : List Pat) (c : UInt8) : KD (stepTo l c) := by
  have : ∀ (l m : List Pat), KD m → KD (l.foldl (fun n p => putAll n (behind p c)) m) := by
    intro l
    induction l with
    | nil => intro m h; exact h
    | cons p l ih => intro m h; exact ih _ (KD_putAll h _)
  exact this l [] KD_nil

theorem stepTo_room {L l : List Pat} (hL : Room L) (h : ∀ x, x ∈ l → x ∈ L) (c : UInt8) : ∀ x, x ∈ stepTo l c → x ∈ L := by
  have : ∀ (l m : List Pat), (∀ x, x ∈ l → x ∈ L) → (∀ x, x ∈ m → x ∈ L) → ∀ x, x ∈ l.foldl (fun n p => putAll n (behind p c)) m → x ∈ L := by
    intro l
    induction l with
    | nil => intro m _ h; exact h
    | cons p l ih =>
      intro m h1 h2
      refine ih _ (fun x hx => h1 x (by simp [hx])) (fun x hx => ?_)
      rcases mem_putAll hx with hx | hx
      · exact h2 x hx
      · exact hL.closed p (h1 p (by simp)) c x hx
  exact this l [] h (by simp)

/-- The list behind a text. -/
def after (p : Pat) (s : List UInt8) : List Pat := s.foldl step [p]

theorem after_snoc (p : Pat) (s : List UInt8) (c : UInt8) : after p (s ++ [c]) = step (after p s) c := by simp [after]

theorem is_eq (p : Pat) (s : List UInt8) : is p s = (after p s).any empty := rfl

theorem after_ok {L : List Pat} (hL : Room L) {p : Pat} (hp : p ∈ L) (s : List UInt8) : KD (after p s) ∧ ∀ x, x ∈ after p s → x ∈ L := by
  have : ∀ (s : List UInt8) (l : List Pat), KD l → (∀ x, x ∈ l → x ∈ L) → KD (s.foldl step l) ∧ ∀ x, x ∈ s.foldl step l → x ∈ L := by
    intro s
    induction s with
    | nil => intro l h1 h2; exact ⟨h1, h2⟩
    | cons c s ih => intro l h1 h2; exact ih _ (stepTo_KD l c) (stepTo_room hL h2 c)
  exact this s [p] (by simp [KD]) (by simpa using hp)

end Ls
