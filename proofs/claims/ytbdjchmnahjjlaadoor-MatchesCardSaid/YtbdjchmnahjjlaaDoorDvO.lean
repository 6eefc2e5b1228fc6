import Derived.Test.YtbdjchmnahjjlaaDoorLsBB
import Derived.Test.YtbdjchmnahjjlaaDoorLsP
/- A net of places: which texts it lets through; how nets are joined. Plain mathematics. -/
namespace Ls

/-- What a place takes, and which may come behind which. -/
structure Rules where
  pl : Nat → UInt8 → Bool
  E : Nat → Nat → Bool

/-- Behind place p the text goes to an end. -/
def Acc (R : Rules) (L : Nat → Bool) : List UInt8 → Nat → Prop
  | [], p => L p = true
  | c :: u, p => ∃ q, R.E p q = true ∧ R.pl q c = true ∧ Acc R L u q

/-- From one of some places on the text goes to an end. -/
def From (R : Rules) (F L : Nat → Bool) (c : UInt8) (u : List UInt8) : Prop := ∃ q, F q = true ∧ R.pl q c = true ∧ Acc R L u q

/-- The places from b on, below m, let the texts T through. -/
structure Sem (R : Rules) (b m : Nat) (F L : Nat → Bool) (e : Bool) (T : List UInt8 → Prop) : Prop where
  closed : ∀ p q, b ≤ p → p < m → R.E p q = true → b ≤ q ∧ q < m
  fst : ∀ q, F q = true → b ≤ q ∧ q < m
  lst : ∀ q, L q = true → b ≤ q ∧ q < m
  nil : T [] ↔ e = true
  cons : ∀ c u, T (c :: u) ↔ From R F L c u

theorem Acc.congr {R R' : Rules} {L L' : Nat → Bool} {b m : Nat} (hc : ∀ p q, b ≤ p → p < m → R.E p q = true → b ≤ q ∧ q < m) (hE : ∀ p q, b ≤ p → p < m → R'.E p q = R.E p q) (hp : ∀ q c, b ≤ q → q < m → R'.pl q c = R.pl q c) (hL : ∀ q, b ≤ q → q < m → L' q = L q) :
    ∀ u p, b ≤ p → p < m → (Acc R' L' u p ↔ Acc R L u p)
  | [], p, h1, h2 => by simp only [Acc]; rw [hL p h1 h2]
  | c :: u, p, h1, h2 => by
    simp only [Acc]
    constructor
    · rintro ⟨q, h3, h4, h5⟩
      rw [hE p q h1 h2] at h3
      have h6 := hc p q h1 h2 h3
      rw [hp q c h6.1 h6.2] at h4
      exact ⟨q, h3, h4, (Acc.congr hc hE hp hL u q h6.1 h6.2).1 h5⟩
    · rintro ⟨q, h3, h4, h5⟩
      have h6 := hc p q h1 h2 h3
      exact ⟨q, by rw [hE p q h1 h2]; exact h3, by rw [hp q c h6.1 h6.2]; exact h4, (Acc.congr hc hE hp hL u q h6.1 h6.2).2 h5⟩

theorem Sem.keep {R R' : Rules} {b m : Nat} {F L : Nat → Bool} {e : Bool} {T : List UInt8 → Prop} (h : Sem R b m F L e T) (hE : ∀ p q, b ≤ p → p < m → R'.E p q = R.E p q) (hp : ∀ q c, b ≤ q → q < m → R'.pl q c = R.pl q c) : Sem R' b m F L e T := by
  refine ⟨fun p q h1 h2 h3 => h.closed p q h1 h2 (by rw [← hE p q h1 h2]; exact h3), h.fst, h.lst, h.nil, fun c u => (h.cons c u).trans ?_⟩
  have hA := Acc.congr (L' := L) (L := L) h.closed hE hp (fun _ _ _ => rfl)
  constructor
  · rintro ⟨q, h1, h2, h3⟩
    have h4 := h.fst q h1
    exact ⟨q, h1, by rw [hp q c h4.1 h4.2]; exact h2, (hA u q h4.1 h4.2).2 h3⟩
  · rintro ⟨q, h1, h2, h3⟩
    have h4 := h.fst q h1
    exact ⟨q, h1, by rw [← hp q c h4.1 h4.2]; exact h2, (hA u q h4.1 h4.2).1 h3⟩

theorem Sem.congr {R : Rules} {b m : Nat} {F L F' L' : Nat → Bool} {e : Bool} {T T' : List UInt8 → Prop} (h : Sem R b m F L e T) (hT : ∀ u, T' u ↔ T u) (hF : ∀ q, F' q = F q) (hL : ∀ q, L' q = L q) : Sem R b m F' L' e T' := by
  obtain rfl : F' = F := funext hF
  obtain rfl : L' = L := funext hL
  exact ⟨h.closed, h.fst, h.lst, (hT []).trans h.nil, fun c u => (hT _).trans (h.cons c u)⟩

/-- One behind the other. -/
theorem Sem.seq {R R' : Rules} {b m n : Nat} {F1 L1 F2 L2 : Nat → Bool} {e1 e2 : Bool} {A B : List UInt8 → Prop} (hbm : b ≤ m) (hmn : m ≤ n) (hA : Sem R b m F1 L1 e1 A) (hB : Sem R m n F2 L2 e2 B)
    (hpl : ∀ q c, R'.pl q c = R.pl q c) (hE : ∀ p q, R'.E p q = (R.E p q || (L1 p && F2 q))) :
    Sem R' b n (fun q => F1 q || (e1 && F2 q)) (fun q => (e2 && L1 q) || L2 q) (e1 && e2) (fun u => ∃ v w, u = v ++ w ∧ A v ∧ B w) := by
  have hEB : ∀ p q, m ≤ p → p < n → R'.E p q = R.E p q := fun p q h1 h2 => by
    rw [hE]
    cases h3 : L1 p with
    | false => simp
    | true => have := hA.lst p h3; omega
  have k1 : ∀ u p, m ≤ p → p < n → (Acc R' (fun q => (e2 && L1 q) || L2 q) u p ↔ Acc R L2 u p) :=
    Acc.congr hB.closed hEB (fun q c _ _ => hpl q c) (fun q h1 h2 => by
      cases h3 : L1 q with
      | false => simp
      | true => have := hA.lst q h3; omega)
  have k2 : ∀ u p, b ≤ p → p < m → (Acc R' (fun q => (e2 && L1 q) || L2 q) u p ↔ ∃ v w, u = v ++ w ∧ Acc R L1 v p ∧ B w) := by
    intro u
    induction u with
    | nil =>
      intro p h1 h2
      simp only [Acc]
      have h3 : L2 p = false := by
        cases h3 : L2 p with
        | false => rfl
        | true => have := hB.lst p h3; omega
      constructor
      · intro h
        simp only [h3, Bool.or_false, Bool.and_eq_true] at h
        exact ⟨[], [], rfl, h.2, hB.nil.2 h.1⟩
      · rintro ⟨v, w, e, hv, hw⟩
        obtain ⟨rfl, rfl⟩ := List.nil_eq_append_iff.1 e
        simp only [Acc] at hv
        simp [hv, hB.nil.1 hw]
    | cons c u ih =>
      intro p h1 h2
      constructor
      · rintro ⟨q, h3, h4, h5⟩
        rw [hE, Bool.or_eq_true, Bool.and_eq_true] at h3
        rw [hpl] at h4
        rcases h3 with h3 | ⟨h3, h6⟩
        · have h7 := hA.closed p q h1 h2 h3
          obtain ⟨v, w, rfl, hv, hw⟩ := (ih q h7.1 h7.2).1 h5
          exact ⟨c :: v, w, rfl, ⟨q, h3, h4, hv⟩, hw⟩
        · have h7 := hB.fst q h6
          exact ⟨[], c :: u, rfl, h3, (hB.cons c u).2 ⟨q, h6, h4, (k1 u q h7.1 h7.2).1 h5⟩⟩
      · rintro ⟨v, w, e, hv, hw⟩
        cases v with
        | nil =>
          simp only [List.nil_append] at e
          subst e
          obtain ⟨q, h3, h4, h5⟩ := (hB.cons c u).1 hw
          have h7 := hB.fst q h3
          simp only [Acc] at hv
          exact ⟨q, by rw [hE, hv, h3]; simp, by rw [hpl]; exact h4, (k1 u q h7.1 h7.2).2 h5⟩
        | cons d v =>
          simp only [List.cons_append, List.cons.injEq] at e
          obtain ⟨rfl, rfl⟩ := e
          obtain ⟨q, h3, h4, h5⟩ := hv
          have h7 := hA.closed p q h1 h2 h3
          exact ⟨q, by rw [hE, h3]; simp, by rw [hpl]; exact h4, (ih q h7.1 h7.2).2 ⟨v, w, rfl, h5, hw⟩⟩
  refine ⟨?_, ?_, ?_, ?_, ?_⟩
  · intro p q h1 h2 h3
    rw [hE, Bool.or_eq_true, Bool.and_eq_true] at h3
    rcases h3 with h3 | ⟨h3, h4⟩
    · rcases Nat.lt_or_ge p m with h5 | h5
      · have := hA.closed p q h1 h5 h3; omega
      · have := hB.closed p q h5 h2 h3; omega
    · have := hB.fst q h4; omega
  · intro q h
    simp only [Bool.or_eq_true, Bool.and_eq_true] at h
    rcases h with h | ⟨_, h⟩
    · have := hA.fst q h; omega
    · have := hB.fst q h; omega
  · intro q h
    simp only [Bool.or_eq_true, Bool.and_eq_true] at h
    rcases h with ⟨_, h⟩ | h
    · have := hA.lst q h; omega
    · have := hB.lst q h; omega
  · constructor
    · rintro ⟨v, w, e, hv, hw⟩
      obtain ⟨rfl, rfl⟩ := List.nil_eq_append_iff.1 e
      simp [hA.nil.1 hv, hB.nil.1 hw]
    · intro h
      rw [Bool.and_eq_true] at h
      exact ⟨[], [], rfl, hA.nil.2 h.1, hB.nil.2 h.2⟩
  · intro c u
    constructor
    · rintro ⟨v, w, e, hv, hw⟩
      cases v with
      | nil =>
        simp only [List.nil_append] at e
        subst e
        obtain ⟨q, h3, h4, h5⟩ := (hB.cons c u).1 hw
        have h7 := hB.fst q h3
        exact ⟨q, by simp [h3, hA.nil.1 hv], by rw [hpl]; exact h4, (k1 u q h7.1 h7.2).2 h5⟩
      | cons d v =>
        simp only [List.cons_append, List.cons.injEq] at e
        obtain ⟨rfl, rfl⟩ := e
        obtain ⟨q, h3, h4, h5⟩ := (hA.cons c v).1 hv
        have h7 := hA.fst q h3
        exact ⟨q, by simp [h3], by rw [hpl]; exact h4, (k2 _ q h7.1 h7.2).2 ⟨v, w, rfl, h5, hw⟩⟩
    · rintro ⟨q, h3, h4, h5⟩
      rw [hpl] at h4
      rw [Bool.or_eq_true, Bool.and_eq_true] at h3
      rcases h3 with h3 | ⟨h6, h3⟩
      · have h7 := hA.fst q h3
        obtain ⟨v, w, rfl, hv, hw⟩ := (k2 u q h7.1 h7.2).1 h5
        exact ⟨c :: v, w, rfl, (hA.cons c v).2 ⟨q, h3, h4, hv⟩, hw⟩
      · have h7 := hB.fst q h3
        exact ⟨[], c :: u, rfl, hA.nil.2 h6, (hB.cons c u).2 ⟨q, h3, h4, (k1 u q h7.1 h7.2).1 h5⟩⟩

/-- One or the other. -/
theorem Sem.alt {R : Rules} {b m n : Nat} {F1 L1 F2 L2 : Nat → Bool} {e1 e2 : Bool} {A B : List UInt8 → Prop} (hbm : b ≤ m) (hmn : m ≤ n) (hA : Sem R b m F1 L1 e1 A) (hB : Sem R m n F2 L2 e2 B) :
    Sem R b n (fun q => F1 q || F2 q) (fun q => L1 q || L2 q) (e1 || e2) (fun u => A u ∨ B u) := by
  have k1 : ∀ u p, m ≤ p → p < n → (Acc R (fun q => L1 q || L2 q) u p ↔ Acc R L2 u p) :=
    Acc.congr hB.closed (fun _ _ _ _ => rfl) (fun _ _ _ _ => rfl) (fun q h1 h2 => by
      cases h3 : L1 q with
      | false => simp
      | true => have := hA.lst q h3; omega)
  have k2 : ∀ u p, b ≤ p → p < m → (Acc R (fun q => L1 q || L2 q) u p ↔ Acc R L1 u p) :=
    Acc.congr hA.closed (fun _ _ _ _ => rfl) (fun _ _ _ _ => rfl) (fun q h1 h2 => by
      cases h3 : L2 q with
      | false => simp
      | true => have := hB.lst q h3; omega)
  refine ⟨?_, ?_, ?_, ?_, ?_⟩
  · intro p q h1 h2 h3
    rcases Nat.lt_or_ge p m with h5 | h5
    · have := hA.closed p q h1 h5 h3; omega
    · have := hB.closed p q h5 h2 h3; omega
  · intro q h
    rw [Bool.or_eq_true] at h
    rcases h with h | h
    · have := hA.fst q h; omega
    · have := hB.fst q h; omega
  · intro q h
    rw [Bool.or_eq_true] at h
    rcases h with h | h
    · have := hA.lst q h; omega
    · have := hB.lst q h; omega
  · rw [hA.nil, hB.nil, Bool.or_eq_true]
  · intro c u
    rw [hA.cons, hB.cons]
    constructor
    · rintro (⟨q, h3, h4, h5⟩ | ⟨q, h3, h4, h5⟩)
      · have h7 := hA.fst q h3
        exact ⟨q, by simp [h3], h4, (k2 u q h7.1 h7.2).2 h5⟩
      · have h7 := hB.fst q h3
        exact ⟨q, by simp [h3], h4, (k1 u q h7.1 h7.2).2 h5⟩
    · rintro ⟨q, h3, h4, h5⟩
      rw [Bool.or_eq_true] at h3
      rcases h3 with h3 | h3
      · have h7 := hA.fst q h3
        exact .inl ⟨q, h3, h4, (k2 u q h7.1 h7.2).1 h5⟩
      · have h7 := hB.fst q h3
        exact .inr ⟨q, h3, h4, (k1 u q h7.1 h7.2).1 h5⟩

theorem pieces_nil (L : List UInt8 → Prop) : Pieces L [] := ⟨[], rfl, by simp⟩

/-- Again and again. -/
theorem Sem.again {R R' : Rules} {b m : Nat} {F L : Nat → Bool} {e : Bool} {A : List UInt8 → Prop} (hA : Sem R b m F L e A) (hpl : ∀ q c, R'.pl q c = R.pl q c) (hE : ∀ p q, R'.E p q = (R.E p q || (L p && F q))) :
    Sem R' b m F L e (fun u => ∃ v w, u = v ++ w ∧ A v ∧ Pieces A w) := by
  have key : ∀ u p, b ≤ p → p < m → (Acc R' L u p ↔ ∃ v w, u = v ++ w ∧ Acc R L v p ∧ Pieces A w) := by
    intro u
    induction u with
    | nil =>
      intro p h1 h2
      simp only [Acc]
      constructor
      · intro h; exact ⟨[], [], rfl, h, pieces_nil A⟩
      · rintro ⟨v, w, e, hv, hw⟩
        obtain ⟨rfl, rfl⟩ := List.nil_eq_append_iff.1 e
        exact hv
    | cons c u ih =>
      intro p h1 h2
      constructor
      · rintro ⟨q, h3, h4, h5⟩
        rw [hE, Bool.or_eq_true, Bool.and_eq_true] at h3
        rw [hpl] at h4
        rcases h3 with h3 | ⟨h3, h6⟩
        · have h7 := hA.closed p q h1 h2 h3
          obtain ⟨v, w, rfl, hv, hw⟩ := (ih q h7.1 h7.2).1 h5
          exact ⟨c :: v, w, rfl, ⟨q, h3, h4, hv⟩, hw⟩
        · have h7 := hA.fst q h6
          obtain ⟨v, w, rfl, hv, hw⟩ := (ih q h7.1 h7.2).1 h5
          exact ⟨[], c :: (v ++ w), rfl, h3, pieces_cons.2 ⟨v, w, rfl, (hA.cons c v).2 ⟨q, h6, h4, hv⟩, hw⟩⟩
      · rintro ⟨v, w, e, hv, hw⟩
        cases v with
        | nil =>
          simp only [List.nil_append] at e
          subst e
          obtain ⟨x, y, rfl, hx, hy⟩ := pieces_cons.1 hw
          obtain ⟨q, h3, h4, h5⟩ := (hA.cons c x).1 hx
          have h7 := hA.fst q h3
          simp only [Acc] at hv
          exact ⟨q, by rw [hE, hv, h3]; simp, by rw [hpl]; exact h4, (ih q h7.1 h7.2).2 ⟨x, y, rfl, h5, hy⟩⟩
        | cons d v =>
          simp only [List.cons_append, List.cons.injEq] at e
          obtain ⟨rfl, rfl⟩ := e
          obtain ⟨q, h3, h4, h5⟩ := hv
          have h7 := hA.closed p q h1 h2 h3
          exact ⟨q, by rw [hE, h3]; simp, by rw [hpl]; exact h4, (ih q h7.1 h7.2).2 ⟨v, w, rfl, h5, hw⟩⟩
  refine ⟨?_, hA.fst, hA.lst, ?_, ?_⟩
  · intro p q h1 h2 h3
    rw [hE, Bool.or_eq_true, Bool.and_eq_true] at h3
    rcases h3 with h3 | ⟨_, h3⟩
    · exact hA.closed p q h1 h2 h3
    · exact hA.fst q h3
  · constructor
    · rintro ⟨v, w, e, hv, hw⟩
      obtain ⟨rfl, rfl⟩ := List.nil_eq_append_iff.1 e
      exact hA.nil.1 hv
    · intro h; exact ⟨[], [], rfl, hA.nil.2 h, pieces_nil A⟩
  · intro c u
    constructor
    · rintro ⟨v, w, e, hv, hw⟩
      cases v with
      | nil =>
        simp only [List.nil_append] at e
        subst e
        obtain ⟨x, y, rfl, hx, hy⟩ := pieces_cons.1 hw
        obtain ⟨q, h3, h4, h5⟩ := (hA.cons c x).1 hx
        have h7 := hA.fst q h3
        exact ⟨q, h3, by rw [hpl]; exact h4, (key _ q h7.1 h7.2).2 ⟨x, y, rfl, h5, hy⟩⟩
      | cons d v =>
        simp only [List.cons_append, List.cons.injEq] at e
        obtain ⟨rfl, rfl⟩ := e
        obtain ⟨q, h3, h4, h5⟩ := (hA.cons c v).1 hv
        have h7 := hA.fst q h3
        exact ⟨q, h3, by rw [hpl]; exact h4, (key _ q h7.1 h7.2).2 ⟨v, w, rfl, h5, hw⟩⟩
    · rintro ⟨q, h3, h4, h5⟩
      rw [hpl] at h4
      have h7 := hA.fst q h3
      obtain ⟨v, w, rfl, hv, hw⟩ := (key u q h7.1 h7.2).1 h5
      exact ⟨c :: v, w, rfl, (hA.cons c v).2 ⟨q, h3, h4, hv⟩, hw⟩

/-- It may be missing. -/
theorem Sem.missing {R : Rules} {b m : Nat} {F L : Nat → Bool} {e : Bool} {A : List UInt8 → Prop} (hA : Sem R b m F L e A) : Sem R b m F L true (fun u => u = [] ∨ A u) :=
  ⟨hA.closed, hA.fst, hA.lst, by simp, fun c u => by simp [hA.cons c u]⟩

end Ls

/- The net of what was read, and that it is right. Plain mathematics. -/
namespace Ls

structure Net where
  places : List (List UInt8)
  behind : List Nat

structure Span where
  first : Nat
  last : Nat
  empty : Bool

def rules (n : Net) : Rules := ⟨fun q c => has (n.places.getD q []) c, fun p q => (n.behind.getD p 0).testBit q⟩

def linkN (n : Net) (f t : Nat) : Net := ⟨n.places, n.behind.mapIdx fun i x => if f.testBit i = true then x ||| t else x⟩
def rowS (a x : Span) : Span := ⟨if a.empty = true then a.first ||| x.first else a.first, (if x.empty = true then a.last else 0) ||| x.last, a.empty && x.empty⟩
def orS (a x : Span) : Span := ⟨a.first ||| x.first, a.last ||| x.last, a.empty || x.empty⟩
def placeN (s : List UInt8) (n : Net) : Net := ⟨n.places ++ [s], n.behind ++ [0]⟩
def placeS (k : Nat) : Span := ⟨2 ^ k, 2 ^ k, false⟩

/-- What a row, a choice begins with. -/
def start (d : D) : Span := ⟨0, 0, decide (d.tag = 1 ∨ d.tag = 2)⟩

/-- What is added to a net, and to what was there of a row or choice. -/
def go : D → Net → Span → Net × Span
  | ⟨t, s, []⟩, n, a => if t = 0 then (placeN s n, placeS n.places.length) else (n, a)
  | ⟨t, _, [x]⟩, n, a =>
    if t = 3 then ((go x n (start x)).1, orS a (go x n (start x)).2)
    else if t = 7 then ((go x n (start x)).1, ⟨(go x n (start x)).2.first, (go x n (start x)).2.last, true⟩)
    else (linkN (go x n (start x)).1 (go x n (start x)).2.last (go x n (start x)).2.first, ⟨(go x n (start x)).2.first, (go x n (start x)).2.last, (go x n (start x)).2.empty || t != 6⟩)
  | ⟨t, _, [x, y]⟩, n, a =>
    if t = 2 then go y (linkN (go x n (start x)).1 a.last (go x n (start x)).2.first) (rowS a (go x n (start x)).2)
    else go y (go x n (start x)).1 (orS a (go x n (start x)).2)
  | _, n, a => (n, a)

def add (d : D) (n : Net) : Net × Span := go d n (start d)

theorem go_place (s : List UInt8) (n : Net) (a : Span) : go (place s) n a = (placeN s n, placeS n.places.length) := by simp [place, go]
theorem go_rnil (n : Net) (a : Span) : go rnil n a = (n, a) := by simp [rnil, go]
theorem go_rcons (x r : D) (n : Net) (a : Span) : go (rcons x r) n a = go r (linkN (add x n).1 a.last (add x n).2.first) (rowS a (add x n).2) := by simp [rcons, go, add]
theorem go_clast (x : D) (n : Net) (a : Span) : go (clast x) n a = ((add x n).1, orS a (add x n).2) := by simp [clast, go, add]
theorem go_ccons (x c : D) (n : Net) (a : Span) : go (ccons x c) n a = go c (add x n).1 (orS a (add x n).2) := by simp [ccons, go, add]
theorem go_opt (x : D) (n : Net) (a : Span) : go (rep 7 x) n a = ((add x n).1, ⟨(add x n).2.first, (add x n).2.last, true⟩) := by simp [rep, go, add]
theorem go_star (x : D) (n : Net) (a : Span) : go (rep 5 x) n a = (linkN (add x n).1 (add x n).2.last (add x n).2.first, ⟨(add x n).2.first, (add x n).2.last, true⟩) := by simp [rep, go, add]
theorem go_plus (x : D) (n : Net) (a : Span) : go (rep 6 x) n a = (linkN (add x n).1 (add x n).2.last (add x n).2.first, ⟨(add x n).2.first, (add x n).2.last, (add x n).2.empty⟩) := by simp [rep, go, add]

/-- What was read is well formed: as a pattern (0), a row's things (1), a choice's sides (2). -/
structure WdC (P : Nat → D → Prop) : Prop where
  place : ∀ (s : List UInt8), P 0 (Ls.place s)
  rep : ∀ {t : Nat} {a : D}, t = 5 ∨ t = 6 ∨ t = 7 → P 0 a → P 0 (Ls.rep t a)
  row : ∀ {d : D}, P 1 d → P 0 d
  choice : ∀ {d : D}, P 2 d → P 0 d
  rnil : P 1 Ls.rnil
  rcons : ∀ {a r : D}, P 0 a → P 1 r → P 1 (Ls.rcons a r)
  clast : ∀ {r : D}, P 0 r → P 2 (Ls.clast r)
  ccons : ∀ {r c : D}, P 0 r → P 2 c → P 2 (Ls.ccons r c)

structure Wd (r : Nat) (d : D) : Prop where
  all : ∀ P, WdC P → P r d

theorem Wd.place (s : List UInt8) : Wd 0 (Ls.place s) := ⟨fun _ c => c.place s⟩
theorem Wd.rep {t : Nat} {a : D} (ht : t = 5 ∨ t = 6 ∨ t = 7) (h : Wd 0 a) : Wd 0 (Ls.rep t a) := ⟨fun P c => c.rep ht (h.all P c)⟩
theorem Wd.row {d : D} (h : Wd 1 d) : Wd 0 d := ⟨fun P c => c.row (h.all P c)⟩
theorem Wd.choice {d : D} (h : Wd 2 d) : Wd 0 d := ⟨fun P c => c.choice (h.all P c)⟩
theorem Wd.rnil : Wd 1 Ls.rnil := ⟨fun _ c => c.rnil⟩
theorem Wd.rcons {a r : D} (h1 : Wd 0 a) (h2 : Wd 1 r) : Wd 1 (Ls.rcons a r) := ⟨fun P c => c.rcons (h1.all P c) (h2.all P c)⟩
theorem Wd.clast {r : D} (h : Wd 0 r) : Wd 2 (Ls.clast r) := ⟨fun P c => c.clast (h.all P c)⟩
theorem Wd.ccons {r d : D} (h1 : Wd 0 r) (h2 : Wd 2 d) : Wd 2 (Ls.ccons r d) := ⟨fun P c => c.ccons (h1.all P c) (h2.all P c)⟩

/-- By what a well formed pattern is. -/
theorem Wd.ind {motive : (r : Nat) → (d : D) → Wd r d → Prop}
    (place : ∀ (s : List UInt8), motive 0 (Ls.place s) (.place s))
    (rep : ∀ {t : Nat} {a : D} (ht : t = 5 ∨ t = 6 ∨ t = 7) (h : Wd 0 a), motive 0 a h → motive 0 (Ls.rep t a) (.rep ht h))
    (row : ∀ {d : D} (h : Wd 1 d), motive 1 d h → motive 0 d (.row h))
    (choice : ∀ {d : D} (h : Wd 2 d), motive 2 d h → motive 0 d (.choice h))
    (rnil : motive 1 Ls.rnil .rnil)
    (rcons : ∀ {a r : D} (h1 : Wd 0 a) (h2 : Wd 1 r), motive 0 a h1 → motive 1 r h2 → motive 1 (Ls.rcons a r) (.rcons h1 h2))
    (clast : ∀ {r : D} (h : Wd 0 r), motive 0 r h → motive 2 (Ls.clast r) (.clast h))
    (ccons : ∀ {r c : D} (h1 : Wd 0 r) (h2 : Wd 2 c), motive 0 r h1 → motive 2 c h2 → motive 2 (Ls.ccons r c) (.ccons h1 h2))
    {r : Nat} {d : D} (h : Wd r d) : motive r d h :=
  (h.all (fun r d => ∃ h : Wd r d, motive r d h)
    ⟨fun s => ⟨_, place s⟩, fun ht ⟨_, m⟩ => ⟨_, rep ht _ m⟩, fun ⟨_, m⟩ => ⟨_, row _ m⟩, fun ⟨_, m⟩ => ⟨_, choice _ m⟩, ⟨_, rnil⟩,
      fun ⟨_, m1⟩ ⟨_, m2⟩ => ⟨_, rcons _ _ m1 m2⟩, fun ⟨_, m⟩ => ⟨_, clast _ m⟩, fun ⟨_, m1⟩ ⟨_, m2⟩ => ⟨_, ccons _ _ m1 m2⟩⟩).2

theorem tag_row {r : Nat} {d : D} (h : Wd r d) (hr : r = 1) : start d = ⟨0, 0, true⟩ := by
  induction h using Wd.ind with
  | rnil => rfl
  | rcons => rfl
  | _ => cases hr
theorem tag_choice {r : Nat} {d : D} (h : Wd r d) (hr : r = 2) : start d = ⟨0, 0, false⟩ := by
  induction h using Wd.ind with
  | clast => rfl
  | ccons => rfl
  | _ => cases hr

/-- A pattern of kind 0 is the text of no signs. -/
theorem kind0 : (d : D) → (toPat d).kind = 0 → ∀ s, inL (toPat d) s ↔ s = []
  | ⟨t, g, []⟩, h, s => by
    unfold toPat at h ⊢
    split at h
    · simp [set] at h
    · rename_i ht; rw [if_neg ht]; exact inL_none s
  | ⟨t, g, [a]⟩, h, s => by
    unfold toPat at h ⊢
    split at h
    · rename_i ht; rw [if_pos ht]; exact kind0 a h s
    · split at h
      · simp [star] at h
      · split at h
        · unfold row at h
          split at h
          · simp [star] at h
          · split at h
            · rename_i h1 _; exact absurd h h1
            · simp [rowB] at h
        · simp [any] at h
  | ⟨t, g, [a, b]⟩, h, s => by
    unfold toPat at h ⊢
    split at h
    · rename_i ht
      rw [if_pos ht]
      unfold row at h ⊢
      split at h
      · rename_i h1; rw [if_pos h1]; exact kind0 b h s
      · split at h
        · rename_i h1 _; exact absurd h h1
        · simp [rowB] at h
    · simp [any] at h
  | ⟨t, g, _ :: _ :: _ :: _⟩, h, s => by
    unfold toPat
    exact inL_none s

theorem inL_rowD (a b : Pat) (ha : a.kind = 0 → ∀ s, inL a s ↔ s = []) (hb : b.kind = 0 → ∀ s, inL b s ↔ s = []) (s : List UInt8) : inL (row a b) s ↔ ∃ u v, s = u ++ v ∧ inL a u ∧ inL b v := by
  unfold row
  split
  · rename_i h
    constructor
    · intro h1; exact ⟨[], s, rfl, (ha h _).2 rfl, h1⟩
    · rintro ⟨u, v, rfl, hu, hv⟩; rw [ha h] at hu; subst hu; exact hv
  · split
    · rename_i h
      constructor
      · intro h1; exact ⟨s, [], by simp, h1, (hb h _).2 rfl⟩
      · rintro ⟨u, v, rfl, hu, hv⟩; rw [hb h] at hv; subst hv; simpa using hu
    · exact inL_rowB a b s

/-- As many places as rows of followers. -/
def Good (n : Net) : Prop := n.behind.length = n.places.length

/-- Below b nothing is changed. -/
def Keep (n n' : Net) (b : Nat) : Prop := n.places.length ≤ n'.places.length ∧ ∀ q, q < b → n'.places.getD q [] = n.places.getD q [] ∧ n'.behind.getD q 0 = n.behind.getD q 0

theorem Keep.trans {n n1 n2 : Net} {b c : Nat} (h : Keep n n1 b) (k : Keep n1 n2 c) (hbc : b ≤ c) : Keep n n2 b :=
  ⟨Nat.le_trans h.1 k.1, fun q hq => ⟨((k.2 q (by omega)).1).trans (h.2 q hq).1, ((k.2 q (by omega)).2).trans (h.2 q hq).2⟩⟩

theorem Keep.mono {n n1 : Net} {b c : Nat} (h : Keep n n1 c) (hbc : b ≤ c) : Keep n n1 b := ⟨h.1, fun q hq => h.2 q (by omega)⟩

theorem Sem.kept {n n' : Net} {b m : Nat} {F L : Nat → Bool} {e : Bool} {T : List UInt8 → Prop} (h : Sem (rules n) b m F L e T) (hk : Keep n n' m) : Sem (rules n') b m F L e T :=
  h.keep (fun p q _ hp => by simp only [rules]; rw [(hk.2 p hp).2]) (fun q c _ hq => by simp only [rules]; rw [(hk.2 q hq).1])

theorem getD_mapIdx (l : List Nat) (f : Nat → Nat → Nat) (p : Nat) : (l.mapIdx f).getD p 0 = if p < l.length then f p (l.getD p 0) else 0 := by
  rw [List.getD_eq_getElem?_getD, List.getElem?_mapIdx, List.getD_eq_getElem?_getD]
  rcases Nat.lt_or_ge p l.length with h | h
  · rw [if_pos h, List.getElem?_eq_getElem h]; rfl
  · rw [if_neg (by omega), List.getElem?_eq_none h]; rfl

theorem link_E (n : Net) (f t : Nat) (hf : ∀ p, f.testBit p = true → p < n.behind.length) (p q : Nat) : (rules (linkN n f t)).E p q = ((rules n).E p q || (f.testBit p && t.testBit q)) := by
  simp only [rules, linkN]
  rw [getD_mapIdx]
  rcases Nat.lt_or_ge p n.behind.length with h | h
  · rw [if_pos h]
    cases hp : f.testBit p with
    | true => simp [Nat.testBit_or]
    | false => simp
  · rw [if_neg (by omega)]
    have h1 : f.testBit p = false := by
      cases hp : f.testBit p with
      | true => have := hf p hp; omega
      | false => rfl
    rw [h1, List.getD_eq_getElem?_getD, List.getElem?_eq_none h]
    simp

theorem link_good {n : Net} (h : Good n) (f t : Nat) : Good (linkN n f t) := by
  unfold Good at h ⊢; unfold linkN; simpa using h

theorem link_keep (n : Net) (f t b : Nat) (hf : ∀ p, f.testBit p = true → b ≤ p) : Keep n (linkN n f t) b := by
  refine ⟨Nat.le_refl _, fun q hq => ⟨rfl, ?_⟩⟩
  simp only [linkN]
  rw [getD_mapIdx]
  split
  · rw [if_neg (fun e => by have := hf q e; omega)]
  · rename_i h
    rw [List.getD_eq_getElem?_getD, List.getElem?_eq_none (by omega)]; rfl

/-- The places of the span. -/
abbrev fb (x : Span) : Nat → Bool := fun q => x.first.testBit q
abbrev lb (x : Span) : Nat → Bool := fun q => x.last.testBit q

/-- What was added is right. -/
structure Added (n n' : Net) (b : Nat) (x : Span) (T : List UInt8 → Prop) : Prop where
  good : Good n'
  sem : Sem (rules n') b n'.places.length (fb x) (lb x) x.empty T
  keep : Keep n n' b

theorem place_ok (s : List UInt8) (n : Net) (h : Good n) : Added n (placeN s n) n.places.length (placeS n.places.length) (inL (toPat (place s))) := by
  have hpl : ∀ q, (placeN s n).places.getD q [] = if q = n.places.length then s else n.places.getD q [] := fun q => by
    simp only [placeN, List.getD_eq_getElem?_getD]
    rcases Nat.lt_or_ge q n.places.length with h1 | h1
    · rw [List.getElem?_append_left h1, if_neg (by omega)]
    · rw [List.getElem?_append_right h1]
      by_cases h2 : q = n.places.length
      · rw [if_pos h2, h2]; simp
      · rw [if_neg h2, List.getElem?_eq_none (by simp; omega), List.getElem?_eq_none h1]
  have hbh : ∀ q, (placeN s n).behind.getD q 0 = n.behind.getD q 0 := fun q => by
    simp only [placeN, List.getD_eq_getElem?_getD]
    rcases Nat.lt_or_ge q n.behind.length with h1 | h1
    · rw [List.getElem?_append_left h1]
    · rw [List.getElem?_append_right h1, List.getElem?_eq_none h1]
      rcases Nat.eq_zero_or_pos (q - n.behind.length) with h2 | h2
      · rw [h2]; rfl
      · rw [List.getElem?_eq_none (by simp; omega)]
  have hbz : n.behind.getD n.places.length 0 = 0 := by rw [List.getD_eq_getElem?_getD, List.getElem?_eq_none (by unfold Good at h; omega)]; rfl
  have hb2 : ∀ q, (2 ^ n.places.length : Nat).testBit q = decide (q = n.places.length) := fun q => by
    rw [Nat.testBit_two_pow]
    by_cases e : n.places.length = q
    · simp [e]
    · simp [e, Ne.symm e]
  have hlen : (placeN s n).places.length = n.places.length + 1 := by simp [placeN]
  refine ⟨by unfold Good at h ⊢; simp [placeN, h], ⟨?_, ?_, ?_, ?_, ?_⟩, by rw [hlen]; omega, fun q hq => ⟨by rw [hpl, if_neg (by omega)], hbh q⟩⟩
  · intro p q h1 h2 h3
    rw [hlen] at h2
    obtain rfl : p = n.places.length := by omega
    simp only [rules] at h3
    rw [hbh, hbz] at h3
    simp at h3
  · intro q h1
    simp only [fb, placeS, hb2, decide_eq_true_eq] at h1
    rw [hlen]; omega
  · intro q h1
    simp only [lb, placeS, hb2, decide_eq_true_eq] at h1
    rw [hlen]; omega
  · rw [toPat_place, inL_set]; simp [placeS]
  · intro c u
    rw [toPat_place, inL_set]
    constructor
    · rintro ⟨d, e, hd⟩
      injection e with e1 e2
      subst e1 e2
      refine ⟨n.places.length, by simp [fb, placeS], ?_, by simp [Acc, lb, placeS]⟩
      simp only [rules]; rw [hpl, if_pos rfl]; exact hd
    · rintro ⟨q, h1, h2, h3⟩
      simp only [fb, placeS, hb2, decide_eq_true_eq] at h1
      subst h1
      simp only [rules] at h2
      rw [hpl, if_pos rfl] at h2
      cases u with
      | nil => exact ⟨c, rfl, h2⟩
      | cons d u =>
        obtain ⟨q, h4, _⟩ := h3
        simp only [rules] at h4
        rw [hbh, hbz] at h4
        simp at h4

theorem row_empty (R : Rules) (b : Nat) : Sem R b b (fb ⟨0, 0, true⟩) (lb ⟨0, 0, true⟩) true (fun u => u = []) :=
  ⟨fun _ _ h1 h2 => by omega, fun q h => by simp [fb] at h, fun q h => by simp [lb] at h, by simp, fun c u => by
    constructor
    · intro h; cases h
    · rintro ⟨q, h, _⟩; simp [fb] at h⟩

theorem choice_empty (R : Rules) (b : Nat) : Sem R b b (fb ⟨0, 0, false⟩) (lb ⟨0, 0, false⟩) false (fun _ => False) :=
  ⟨fun _ _ h1 h2 => by omega, fun q h => by simp [fb] at h, fun q h => by simp [lb] at h, by simp, fun c u => by
    constructor
    · intro h; cases h
    · rintro ⟨q, h, _⟩; simp [fb] at h⟩

/-- What is said of each role. -/
def Said : Nat → D → Prop
  | 0, d => ∀ n, Good n → Added n (add d n).1 n.places.length (add d n).2 (inL (toPat d))
  | 1, d => ∀ n a b A, Good n → b ≤ n.places.length → Sem (rules n) b n.places.length (fb a) (lb a) a.empty A → Added n (go d n a).1 b (go d n a).2 (fun u => ∃ v w, u = v ++ w ∧ A v ∧ inL (toPat d) w)
  | _, d => ∀ n a b A, Good n → b ≤ n.places.length → Sem (rules n) b n.places.length (fb a) (lb a) a.empty A → Added n (go d n a).1 b (go d n a).2 (fun u => A u ∨ inL (toPat d) u)

theorem Added.congr {n n' : Net} {b : Nat} {x : Span} {T T' : List UInt8 → Prop} (h : Added n n' b x T) (hT : ∀ u, T' u ↔ T u) : Added n n' b x T' :=
  ⟨h.good, h.sem.congr hT (fun _ => rfl) (fun _ => rfl), h.keep⟩

theorem go_ok {r : Nat} {d : D} (h : Wd r d) : Said r d := by
  induction h using Wd.ind with
  | place s =>
    intro n hn
    unfold add
    rw [go_place]
    exact place_ok s n hn
  | @rep t a ht _ ih =>
    intro n hn
    have h1 := ih n hn
    have hlk := link_E (add a n).1 (add a n).2.last (add a n).2.first (fun p hp => by have := (h1.sem.lst p hp).2; have := h1.good; unfold Good at this; omega)
    have hkp := link_keep (add a n).1 (add a n).2.last (add a n).2.first n.places.length (fun p hp => (h1.sem.lst p hp).1)
    have hag := h1.sem.again (R' := rules (linkN (add a n).1 (add a n).2.last (add a n).2.first)) (fun _ _ => rfl) hlk
    rcases ht with rfl | rfl | rfl
    · unfold add
      rw [go_star, toPat_star]
      refine ⟨link_good h1.good _ _, hag.missing.congr (fun u => ?_) (fun _ => rfl) (fun _ => rfl), h1.keep.trans hkp (Nat.le_refl _)⟩
      rw [inL_star]
      cases u with
      | nil => simp [pieces_nil]
      | cons c u =>
        constructor
        · intro hp
          obtain ⟨x, y, rfl, hx, hy⟩ := pieces_cons.1 hp
          exact .inr ⟨c :: x, y, rfl, hx, hy⟩
        · rintro (e | ⟨v, w, e, hv, hw⟩)
          · cases e
          · cases v with
            | nil => rw [e]; exact hw
            | cons d v =>
              simp only [List.cons_append, List.cons.injEq] at e
              obtain ⟨rfl, rfl⟩ := e
              exact pieces_cons.2 ⟨v, w, rfl, hv, hw⟩
    · unfold add
      rw [go_plus, toPat_plus]
      refine ⟨link_good h1.good _ _, hag.congr (fun u => ?_) (fun _ => rfl) (fun _ => rfl), h1.keep.trans hkp (Nat.le_refl _)⟩
      rw [inL_rowD _ _ (kind0 a) (fun e => by simp [star] at e)]
      simp only [inL_star]
    · unfold add
      rw [go_opt, toPat_opt]
      refine ⟨h1.good, h1.sem.missing.congr (fun u => ?_) (fun _ => rfl) (fun _ => rfl), h1.keep⟩
      rw [inL_any, inL_none]
      exact or_comm
  | @row d hd ih =>
    intro n hn
    unfold add
    rw [tag_row hd rfl]
    refine (ih n ⟨0, 0, true⟩ n.places.length (fun u => u = []) hn (Nat.le_refl _) (row_empty _ _)).congr (fun u => ?_)
    constructor
    · intro h; exact ⟨[], u, rfl, rfl, h⟩
    · rintro ⟨v, w, rfl, rfl, h⟩; exact h
  | @choice d hd ih =>
    intro n hn
    unfold add
    rw [tag_choice hd rfl]
    refine (ih n ⟨0, 0, false⟩ n.places.length (fun _ => False) hn (Nat.le_refl _) (choice_empty _ _)).congr (fun u => ?_)
    simp
  | rnil =>
    intro n a b A hn hb hA
    rw [go_rnil]
    refine ⟨hn, hA.congr (fun u => ?_) (fun _ => rfl) (fun _ => rfl), Nat.le_refl _, fun _ _ => ⟨rfl, rfl⟩⟩
    rw [toPat_rnil]
    constructor
    · rintro ⟨v, w, rfl, hv, hw⟩; rw [inL_none] at hw; subst hw; simpa using hv
    · intro h; exact ⟨u, [], by simp, h, (inL_none _).2 rfl⟩
  | @rcons x r _ _ i1 i2 =>
    intro n a b A hn hb hA
    rw [go_rcons]
    have h1 := i1 n hn
    have hA1 := hA.kept h1.keep
    have hlk := link_E (add x n).1 a.last (add x n).2.first (fun p hp => by have := (hA.lst p hp).2; have := h1.good; have := h1.keep.1; unfold Good at *; omega)
    have hkp := link_keep (add x n).1 a.last (add x n).2.first b (fun p hp => (hA.lst p hp).1)
    have hs := Sem.seq (R' := rules (linkN (add x n).1 a.last (add x n).2.first)) hb h1.keep.1 hA1 h1.sem (fun _ _ => rfl) hlk
    have h2 := i2 (linkN (add x n).1 a.last (add x n).2.first) (rowS a (add x n).2) b (fun u => ∃ v w, u = v ++ w ∧ A v ∧ inL (toPat x) w) (link_good h1.good _ _) (Nat.le_trans hb h1.keep.1) (hs.congr (fun _ => Iff.rfl) (fun q => by
        simp only [fb, rowS]
        cases a.empty <;> simp [Nat.testBit_or]) (fun q => by
        simp only [lb, rowS, Nat.testBit_or]
        cases (add x n).2.empty <;> simp))
    refine ⟨h2.good, h2.sem.congr (fun u => ?_) (fun _ => rfl) (fun _ => rfl), ((Keep.mono h1.keep hb).trans hkp (Nat.le_refl _)).trans h2.keep (Nat.le_refl _)⟩
    · rw [toPat_rcons]
      constructor
      · rintro ⟨v, w, rfl, hv, hw⟩
        rw [inL_rowD _ _ (kind0 x) (kind0 r)] at hw
        obtain ⟨w1, w2, rfl, h3, h4⟩ := hw
        exact ⟨v ++ w1, w2, by simp, ⟨v, w1, rfl, hv, h3⟩, h4⟩
      · rintro ⟨v, w2, rfl, ⟨v1, w1, rfl, hv, h3⟩, h4⟩
        exact ⟨v1, w1 ++ w2, by simp, hv, (inL_rowD _ _ (kind0 x) (kind0 r) _).2 ⟨w1, w2, rfl, h3, h4⟩⟩
  | @clast x _ ih =>
    intro n a b A hn hb hA
    rw [go_clast]
    have h1 := ih n hn
    have hs := Sem.alt hb h1.keep.1 (hA.kept h1.keep) h1.sem
    refine ⟨h1.good, hs.congr (fun u => by rw [toPat_clast]) (fun q => by simp [fb, orS, Nat.testBit_or]) (fun q => by simp [lb, orS, Nat.testBit_or]), h1.keep.1, fun q hq => h1.keep.2 q (by omega)⟩
  | @ccons x c _ _ i1 i2 =>
    intro n a b A hn hb hA
    rw [go_ccons]
    have h1 := i1 n hn
    have hs := Sem.alt hb h1.keep.1 (hA.kept h1.keep) h1.sem
    have h2 := i2 (add x n).1 (orS a (add x n).2) b (fun u => A u ∨ inL (toPat x) u) h1.good (Nat.le_trans hb h1.keep.1) (hs.congr (fun _ => Iff.rfl) (fun q => by simp [fb, orS, Nat.testBit_or]) (fun q => by simp [lb, orS, Nat.testBit_or]))
    refine ⟨h2.good, h2.sem.congr (fun u => ?_) (fun _ => rfl) (fun _ => rfl), Nat.le_trans h1.keep.1 h2.keep.1, fun q hq => ?_⟩
    · rw [toPat_ccons, inL_any, or_assoc]
    · have e1 := h1.keep.2 q (by omega)
      have e2 := h2.keep.2 q hq
      exact ⟨e2.1.trans e1.1, e2.2.trans e1.2⟩

end Ls
