import Derived.Test.YtbdjchmnahjjlaaDoorLsN
/- Reading a pattern: the document's grammar, on what is left of the text. -/
namespace Ls

/-- What was read. tag: 0 a place (signs), 1 a row of none, 2 a thing and a row, 3 the last alternative, 4 an alternative and the rest, 5 '*', 6 '+', 7 '?'. -/
structure D where
  tag : Nat
  signs : List UInt8
  parts : List D

def place (s : List UInt8) : D := ⟨0, s, []⟩
def rnil : D := ⟨1, [], []⟩
def rcons (a r : D) : D := ⟨2, [], [a, r]⟩
def clast (r : D) : D := ⟨3, [], [r]⟩
def ccons (r c : D) : D := ⟨4, [], [r, c]⟩
def rep (t : Nat) (a : D) : D := ⟨t, [], [a]⟩

/-- The pattern that the reference makes of it. -/
def toPat : D → Pat
  | ⟨t, s, []⟩ => if t = 0 then set s else none
  | ⟨t, _, [a]⟩ => if t = 3 then toPat a else if t = 5 then star (toPat a) else if t = 6 then row (toPat a) (star (toPat a)) else any (toPat a) none
  | ⟨t, _, [a, b]⟩ => if t = 2 then row (toPat a) (toPat b) else any (toPat a) (toPat b)
  | _ => none

/-- How many places. -/
def dsize : D → Nat
  | ⟨t, _, []⟩ => if t = 0 then 1 else 0
  | ⟨_, _, [a]⟩ => dsize a
  | ⟨_, _, [a, b]⟩ => dsize a + dsize b
  | _ => 0

theorem toPat_place (s : List UInt8) : toPat (place s) = set s := by simp [place, toPat]
theorem toPat_rnil : toPat rnil = none := by simp [rnil, toPat]
theorem toPat_rcons (a r : D) : toPat (rcons a r) = row (toPat a) (toPat r) := by simp [rcons, toPat]
theorem toPat_clast (r : D) : toPat (clast r) = toPat r := by simp [clast, toPat]
theorem toPat_ccons (r c : D) : toPat (ccons r c) = any (toPat r) (toPat c) := by simp [ccons, toPat]
theorem toPat_star (a : D) : toPat (rep 5 a) = star (toPat a) := by simp [rep, toPat]
theorem toPat_plus (a : D) : toPat (rep 6 a) = row (toPat a) (star (toPat a)) := by simp [rep, toPat]
theorem toPat_opt (a : D) : toPat (rep 7 a) = any (toPat a) none := by simp [rep, toPat]
theorem dsize_place (s : List UInt8) : dsize (place s) = 1 := by simp [place, dsize]
theorem dsize_rnil : dsize rnil = 0 := by simp [rnil, dsize]
theorem dsize_rcons (a r : D) : dsize (rcons a r) = dsize a + dsize r := by simp [rcons, dsize]
theorem dsize_clast (r : D) : dsize (clast r) = dsize r := by simp [clast, dsize]
theorem dsize_ccons (r c : D) : dsize (ccons r c) = dsize r + dsize c := by simp [ccons, dsize]
theorem dsize_rep (t : Nat) (a : D) : dsize (rep t a) = dsize a := by simp [rep, dsize]

abbrev Rd := Option (D × List UInt8)

/-- The signs from a to b, behind those that are there. -/
def rngTo (acc : List UInt8) (a b : UInt8) (n : Nat) : List UInt8 :=
  (List.range n).foldl (fun o c => if a.toNat ≤ c ∧ c ≤ b.toNat ∧ has o (UInt8.ofNat c) = false then o ++ [UInt8.ofNat c] else o) acc
def rng (acc : List UInt8) (a b : UInt8) : List UInt8 := rngTo acc a b 128

/-- One range of a class. -/
def range1 : List UInt8 → Option (UInt8 × UInt8 × List UInt8)
  | [] => .none
  | a :: r => if mark a = false then .none else
    if r.head? = some 45 then
      match r.tail with
      | [] => .none
      | b :: t => if mark b = false ∨ b.toNat < a.toNat then .none else some (a, b, t)
    else some (a, a, r)

/-- A class, behind its bracket. -/
def cls : Nat → List UInt8 → List UInt8 → Option (List UInt8 × List UInt8)
  | 0, _, _ => .none
  | n + 1, acc, r =>
    match range1 r with
    | .none => .none
    | some (a, b, t) => if t.head? = some 93 then some (rng acc a b, t.tail) else cls n (rng acc a b) t

def az : List UInt8 := [97, 98, 99, 100, 101, 102, 103, 104, 105, 106, 107, 108, 109, 110, 111, 112, 113, 114, 115, 116, 117, 118, 119, 120, 121, 122]

/-- The signs that stand for themselves behind a backslash alone, but for those that open something. -/
def closer (c : UInt8) : Bool := c == 41 || c == 93 || c == 42 || c == 43 || c == 63 || c == 124 || c == 47 || c == 34

def oneOf (P : List UInt8 → Rd) : List UInt8 → Rd
  | [] => .none
  | c :: t =>
    if c = 40 then
      match P t with
      | .none => .none
      | some (d, u) => if u.head? = some 41 then some (d, u.tail) else .none
    else if c = 91 then
      match cls (t.length + 1) [] t with
      | .none => .none
      | some (s, u) => some (place s, u)
    else if c = 46 then some (place az, t)
    else if c = 92 then
      match t with
      | [] => .none
      | e :: u => if sign e = true then some (place [e], u) else .none
    else if closer c = true ∨ sign c = false then .none
    else some (place [c], t)

def thing (P : List UInt8 → Rd) (r : List UInt8) : Rd :=
  match oneOf P r with
  | .none => .none
  | some (a, t) =>
    if t.head? = some 42 then some (rep 5 a, t.tail)
    else if t.head? = some 43 then some (rep 6 a, t.tail)
    else if t.head? = some 63 then some (rep 7 a, t.tail)
    else some (a, t)

/-- Does a row end here? -/
def stops : List UInt8 → Bool
  | [] => true
  | c :: _ => c == 124 || c == 41 || c == 47

def things (P : List UInt8 → Rd) : Nat → List UInt8 → Rd
  | 0, _ => .none
  | n + 1, r =>
    if stops r = true then some (rnil, r) else
    match thing P r with
    | .none => .none
    | some (a, r1) =>
      match things P n r1 with
      | .none => .none
      | some (b, r2) => some (rcons a b, r2)

def alts (P : List UInt8 → Rd) : Nat → List UInt8 → Rd
  | 0, _ => .none
  | n + 1, r =>
    match things P (r.length + 1) r with
    | .none => .none
    | some (a, r1) =>
      if r1.head? = some 124 then
        match alts P n r1.tail with
        | .none => .none
        | some (b, r3) => some (ccons a b, r3)
      else some (clast a, r1)

/-- A pattern inside so many brackets that d more are let, less one. -/
def pat : Nat → List UInt8 → Rd
  | 0, _ => .none
  | d + 1, r => alts (pat d) (r.length + 1) r

theorem suf_tail {t r : List UInt8} (h : t <:+ r) : t.tail <:+ r := (List.tail_suffix t).trans h

theorem tail_len {t : List UInt8} {c : UInt8} (h : t.head? = some c) : t.tail.length + 1 = t.length := by
  cases t with
  | nil => simp at h
  | cons a t => simp

/-- What is left is the text's end, and less than it was given. -/
def Suf (P : List UInt8 → Rd) : Prop := ∀ r d t, P r = some (d, t) → t <:+ r

theorem range1_suf {r : List UInt8} {a b : UInt8} {t : List UInt8} (h : range1 r = some (a, b, t)) : t <:+ r ∧ t.length < r.length := by
  cases r with
  | nil => simp [range1] at h
  | cons c r =>
    unfold range1 at h
    dsimp only at h
    split at h
    · simp at h
    · split at h
      · rename_i h45
        have hl := tail_len h45
        split at h
        · simp at h
        · rename_i e u hu
          split at h
          · simp at h
          · simp at h
            obtain ⟨_, _, rfl⟩ := h
            rw [hu] at hl
            simp only [List.length_cons] at hl ⊢
            refine ⟨((List.suffix_cons e u).trans ?_).trans (List.suffix_cons c r), by omega⟩
            rw [← hu]; exact List.tail_suffix r
      · simp at h
        obtain ⟨_, _, rfl⟩ := h
        exact ⟨List.suffix_cons _ _, by simp⟩

theorem cls_suf : (n : Nat) → (acc r s t : List UInt8) → cls n acc r = some (s, t) → t <:+ r ∧ t.length < r.length
  | 0, _, _, _, _, h => by simp [cls] at h
  | n + 1, acc, r, s, t, h => by
    rw [cls] at h
    split at h
    · simp at h
    · rename_i a b u hr
      have h1 := range1_suf hr
      split at h
      · rename_i h93
        have := tail_len h93
        simp at h; obtain ⟨_, rfl⟩ := h
        exact ⟨suf_tail h1.1, by omega⟩
      · have h2 := cls_suf n _ _ _ _ h; exact ⟨h2.1.trans h1.1, by omega⟩

theorem oneOf_suf {P : List UInt8 → Rd} (hP : Suf P) {r : List UInt8} {d : D} {t : List UInt8} (h : oneOf P r = some (d, t)) : t <:+ r ∧ t.length < r.length := by
  cases r with
  | nil => simp [oneOf] at h
  | cons c r =>
    unfold oneOf at h
    dsimp only at h
    have sc := List.suffix_cons c r
    split at h
    · split at h
      · simp at h
      · rename_i e u he
        have h1 := hP _ _ _ he
        have h2 := h1.length_le
        split at h
        · rename_i h41
          have := tail_len h41
          simp at h; obtain ⟨_, rfl⟩ := h
          exact ⟨(suf_tail h1).trans sc, by simp only [List.length_cons]; omega⟩
        · simp at h
    · split at h
      · split at h
        · simp at h
        · rename_i e u he
          have h1 := cls_suf _ _ _ _ _ he
          simp at h; obtain ⟨_, rfl⟩ := h
          exact ⟨h1.1.trans sc, by simp only [List.length_cons]; omega⟩
      · split at h
        · simp at h; obtain ⟨_, rfl⟩ := h; exact ⟨sc, by simp⟩
        · split at h
          · split at h
            · simp at h
            · rename_i e u
              split at h
              · simp at h; obtain ⟨_, rfl⟩ := h
                exact ⟨(List.suffix_cons _ _).trans sc, by simp only [List.length_cons]; omega⟩
              · simp at h
          · split at h
            · simp at h
            · simp at h; obtain ⟨_, rfl⟩ := h; exact ⟨sc, by simp⟩

theorem thing_suf {P : List UInt8 → Rd} (hP : Suf P) {r : List UInt8} {d : D} {t : List UInt8} (h : thing P r = some (d, t)) : t <:+ r ∧ t.length < r.length := by
  rw [thing] at h
  split at h
  · simp at h
  · rename_i a u hu
    have h1 := oneOf_suf hP hu
    split at h
    · rename_i hx
      have := tail_len hx
      simp at h; obtain ⟨_, rfl⟩ := h; exact ⟨suf_tail h1.1, by omega⟩
    · split at h
      · rename_i hx
        have := tail_len hx
        simp at h; obtain ⟨_, rfl⟩ := h; exact ⟨suf_tail h1.1, by omega⟩
      · split at h
        · rename_i hx
          have := tail_len hx
          simp at h; obtain ⟨_, rfl⟩ := h; exact ⟨suf_tail h1.1, by omega⟩
        · simp at h; obtain ⟨_, rfl⟩ := h; exact h1

theorem things_suf {P : List UInt8 → Rd} (hP : Suf P) : (n : Nat) → (r : List UInt8) → (d : D) → (t : List UInt8) → things P n r = some (d, t) → t <:+ r
  | 0, _, _, _, h => by simp [things] at h
  | n + 1, r, d, t, h => by
    rw [things] at h
    split at h
    · simp at h; obtain ⟨_, rfl⟩ := h; exact List.suffix_refl _
    · split at h
      · simp at h
      · rename_i a r1 h1
        have h2 := thing_suf hP h1
        split at h
        · simp at h
        · rename_i b r2 h3
          have h4 := things_suf hP n r1 b r2 h3
          simp at h; obtain ⟨_, rfl⟩ := h; exact h4.trans h2.1

theorem alts_suf {P : List UInt8 → Rd} (hP : Suf P) : (n : Nat) → (r : List UInt8) → (d : D) → (t : List UInt8) → alts P n r = some (d, t) → t <:+ r
  | 0, _, _, _, h => by simp [alts] at h
  | n + 1, r, d, t, h => by
    rw [alts] at h
    split at h
    · simp at h
    · rename_i a r1 h1
      have h2 := things_suf hP _ _ _ _ h1
      split at h
      · split at h
        · simp at h
        · rename_i b r3 h3
          have h4 := alts_suf hP n _ b r3 h3
          simp at h; obtain ⟨_, rfl⟩ := h; exact h4.trans (suf_tail h2)
      · simp at h; obtain ⟨_, rfl⟩ := h; exact h2

theorem pat_suf : (d : Nat) → Suf (pat d)
  | 0 => fun r e t h => by simp [pat] at h
  | d + 1 => fun r e t h => alts_suf (pat_suf d) _ _ _ _ h

/-- No more places than signs were read. -/
def Siz (P : List UInt8 → Rd) : Prop := ∀ r d t, P r = some (d, t) → dsize d + t.length ≤ r.length

theorem oneOf_siz {P : List UInt8 → Rd} (hP : Siz P) {r : List UInt8} {d : D} {t : List UInt8} (h : oneOf P r = some (d, t)) : dsize d + t.length ≤ r.length := by
  cases r with
  | nil => simp [oneOf] at h
  | cons c r =>
    unfold oneOf at h
    dsimp only at h
    split at h
    · split at h
      · simp at h
      · rename_i e u he
        have h1 := hP _ _ _ he
        split at h
        · rename_i h41
          have := tail_len h41
          simp at h; obtain ⟨rfl, rfl⟩ := h
          simp only [List.length_cons]; omega
        · simp at h
    · split at h
      · split at h
        · simp at h
        · rename_i e u he
          have h1 := cls_suf _ _ _ _ _ he
          simp at h; obtain ⟨rfl, rfl⟩ := h
          rw [dsize_place]; simp only [List.length_cons]; omega
      · split at h
        · simp at h; obtain ⟨rfl, rfl⟩ := h; rw [dsize_place]; simp only [List.length_cons]; omega
        · split at h
          · split at h
            · simp at h
            · split at h
              · simp at h; obtain ⟨rfl, rfl⟩ := h
                rw [dsize_place]; simp only [List.length_cons]; omega
              · simp at h
          · split at h
            · simp at h
            · simp at h; obtain ⟨rfl, rfl⟩ := h; rw [dsize_place]; simp only [List.length_cons]; omega

theorem thing_siz {P : List UInt8 → Rd} (hP : Siz P) {r : List UInt8} {d : D} {t : List UInt8} (h : thing P r = some (d, t)) : dsize d + t.length ≤ r.length := by
  rw [thing] at h
  split at h
  · simp at h
  · rename_i a u hu
    have h1 := oneOf_siz hP hu
    split at h
    · rename_i hx
      have := tail_len hx
      simp at h; obtain ⟨rfl, rfl⟩ := h; rw [dsize_rep]; omega
    · split at h
      · rename_i hx
        have := tail_len hx
        simp at h; obtain ⟨rfl, rfl⟩ := h; rw [dsize_rep]; omega
      · split at h
        · rename_i hx
          have := tail_len hx
          simp at h; obtain ⟨rfl, rfl⟩ := h; rw [dsize_rep]; omega
        · simp at h; obtain ⟨rfl, rfl⟩ := h; exact h1

theorem things_siz {P : List UInt8 → Rd} (hP : Siz P) : (n : Nat) → (r : List UInt8) → (d : D) → (t : List UInt8) → things P n r = some (d, t) → dsize d + t.length ≤ r.length
  | 0, _, _, _, h => by simp [things] at h
  | n + 1, r, d, t, h => by
    rw [things] at h
    split at h
    · simp at h; obtain ⟨rfl, rfl⟩ := h; rw [dsize_rnil]; omega
    · split at h
      · simp at h
      · rename_i a r1 h1
        have h2 := thing_siz hP h1
        split at h
        · simp at h
        · rename_i b r2 h3
          have h4 := things_siz hP n r1 b r2 h3
          simp at h; obtain ⟨rfl, rfl⟩ := h; rw [dsize_rcons]; omega

theorem alts_siz {P : List UInt8 → Rd} (hP : Siz P) : (n : Nat) → (r : List UInt8) → (d : D) → (t : List UInt8) → alts P n r = some (d, t) → dsize d + t.length ≤ r.length
  | 0, _, _, _, h => by simp [alts] at h
  | n + 1, r, d, t, h => by
    rw [alts] at h
    split at h
    · simp at h
    · rename_i a r1 h1
      have h2 := things_siz hP _ _ _ _ h1
      split at h
      · rename_i hx
        have := tail_len hx
        split at h
        · simp at h
        · rename_i b r3 h3
          have h4 := alts_siz hP n _ b r3 h3
          simp at h; obtain ⟨rfl, rfl⟩ := h; rw [dsize_ccons]; omega
      · simp at h; obtain ⟨rfl, rfl⟩ := h; rw [dsize_clast]; exact h2

theorem pat_siz : (d : Nat) → Siz (pat d)
  | 0 => fun r e t h => by simp [pat] at h
  | d + 1 => fun r e t h => alts_siz (pat_siz d) _ _ _ _ h

end Ls
