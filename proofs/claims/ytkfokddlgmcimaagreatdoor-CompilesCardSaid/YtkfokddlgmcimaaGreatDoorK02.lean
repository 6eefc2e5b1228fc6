import Derived.Test.YtkfokddlgmcimaaGreatDoorK01
set_option maxRecDepth 100000
set_option maxHeartbeats 4000000
namespace Ls
structure Ln where
 kind : Nat
 p : D
 w : List UInt8
 ls : List Ln
def copyL (d : D) : Ln := ⟨0, d, [], []⟩
def leaveL (d : D) (w : List UInt8) : Ln := ⟨1, d, w, []⟩
def putL (w : List UInt8) : Ln := ⟨2, rnil, w, []⟩
def behindL (a b : Ln) : Ln := ⟨3, rnil, [], [a, b]⟩
def changeL (a b : Ln) : Ln := ⟨4, rnil, [], [a, b]⟩
def unionL (a b : Ln) : Ln := ⟨5, rnil, [], [a, b]⟩
def repeatL (a : Ln) : Ln := ⟨6, rnil, [], [a]⟩
def keysL (a : Ln) : Ln := ⟨7, rnil, [], [a]⟩
abbrev Rl := Option (Ln × List UInt8)
def wordOf : List UInt8 -> Option (List UInt8 × List UInt8)
 | [] => .none
 | c :: t => if c = 34 then some ([], t) else if sign c = false \/ c = 10 then .none else
  match wordOf t with
  | .none => .none
  | some (w, u) => some (c :: w, u)
def wordR (r : List UInt8) : Option (List UInt8 × List UInt8) := if r.head? = some 34 then wordOf r.tail else .none
def slashR (P : List UInt8 -> Rd) (r : List UInt8) : Rd :=
 match P r with
 | .none => .none
 | some (d, t) => if t.head? = some 47 then some (d, t.tail) else .none
def againR (l : Ln) (t : List UInt8) : Ln × List UInt8 := if t.head? = some 42 then (repeatL l, t.tail) else (l, t)
def partR (P : List UInt8 -> Rd) (Q : List UInt8 -> Rl) : List UInt8 -> Rl
 | [] => .none
 | c :: t =>
  if c = 47 then
   match slashR P t with
   | .none => .none
   | some (d, u) => some (againR (copyL d) u)
  else if c = 45 then
   if t.head? = some 47 then
    match slashR P t.tail with
    | .none => .none
    | some (d, u) =>
     match wordR u with
     | .none => .none
     | some (w, v) => some (leaveL d w, v)
   else .none
  else if c = 43 then
   match wordR t with
   | .none => .none
   | some (w, v) => some (putL w, v)
  else if c = 60 then
   match Q t with
   | .none => .none
   | some (a, u) => if u.head? = some 62 then some (keysL a, u.tail) else .none
  else if c = 40 then
   match Q t with
   | .none => .none
   | some (a, u) =>
    if u.head? = some 126 then
     match Q u.tail with
     | .none => .none
     | some (b, v) => if v.head? = some 41 then some (againR (changeL a b) v.tail) else .none
    else if u.head? = some 41 then some (againR a u.tail) else .none
  else .none
def endsL : List UInt8 -> Bool
 | [] => true
 | c :: _ => c == 124 || c == 41 || c == 62 || c == 126
def partsR (P : List UInt8 -> Rd) (Q : List UInt8 -> Rl) : Nat -> List UInt8 -> Rl
 | 0, _ => .none
 | n + 1, r =>
  match partR P Q r with
  | .none => .none
  | some (a, r1) =>
   if endsL r1 = true then some (a, r1) else
   match partsR P Q n r1 with
   | .none => .none
   | some (b, r2) => some (behindL a b, r2)
def altsL (P : List UInt8 -> Rd) (Q : List UInt8 -> Rl) : Nat -> List UInt8 -> Rl
 | 0, _ => .none
 | n + 1, r =>
  match partsR P Q (r.length + 1) r with
  | .none => .none
  | some (a, r1) =>
   if r1.head? = some 124 then
    match altsL P Q n r1.tail with
    | .none => .none
    | some (b, r3) => some (unionL a b, r3)
   else some (a, r1)
def lensR : Nat -> List UInt8 -> Rl
 | 0, _ => .none
 | d + 1, r => altsL (pat (d + 1)) (lensR d) (r.length + 1) r
def lsize : Ln -> Nat
 | ⟨_, p, w, []⟩ => dsize p + w.length
 | ⟨k, _, _, [a]⟩ => if k = 6 \/ k = 7 then lsize a + 1 else 0
 | ⟨_, _, _, [a, b]⟩ => lsize a + lsize b
 | _ => 0
theorem lsize_copy (d : D) : lsize (copyL d) = dsize d := by simp [copyL, lsize]
theorem lsize_leave (d : D) (w : List UInt8) : lsize (leaveL d w) = dsize d + w.length := by simp [leaveL, lsize]
theorem lsize_put (w : List UInt8) : lsize (putL w) = w.length := by simp [putL, lsize, dsize_rnil]
theorem lsize_behind (a b : Ln) : lsize (behindL a b) = lsize a + lsize b := by simp [behindL, lsize]
theorem lsize_change (a b : Ln) : lsize (changeL a b) = lsize a + lsize b := by simp [changeL, lsize]
theorem lsize_union (a b : Ln) : lsize (unionL a b) = lsize a + lsize b := by simp [unionL, lsize]
theorem lsize_repeat (a : Ln) : lsize (repeatL a) = lsize a + 1 := by simp [repeatL, lsize]
theorem lsize_keys (a : Ln) : lsize (keysL a) = lsize a + 1 := by simp [keysL, lsize]
end Ls
namespace Ls
def SzP (P : List UInt8 -> Rd) : Prop := ∀ r d t, P r = some (d, t) -> t <:+ r /\ dsize d + t.length <= r.length
def SzL (Q : List UInt8 -> Rl) : Prop := ∀ r l t, Q r = some (l, t) -> t <:+ r /\ lsize l + t.length <= r.length
theorem pat_sz (n : Nat) : SzP (pat n) := fun _ _ _ h => ⟨pat_suf _ _ _ _ h, pat_siz _ _ _ _ h⟩
theorem tail_suf (t : List UInt8) : t.tail <:+ t := List.tail_suffix t
theorem head_len {t : List UInt8} {c : UInt8} (h : t.head? = some c) : t.tail.length + 1 = t.length := by
 cases t with
 | nil => simp at h
 | cons a r => simp
theorem slash_sz {P : List UInt8 -> Rd} (hP : SzP P) {r : List UInt8} {d : D} {t : List UInt8} (h : slashR P r = some (d, t)) : t <:+ r /\ dsize d + t.length + 1 <= r.length := by
 unfold slashR at h
 cases hp : P r with
 | none => rw [hp] at h; cases h
 | some x =>
  obtain ⟨d', u⟩ := x
  rw [hp] at h
  dsimp only at h
  split at h
  ·rename_i hh
   simp only [Option.some.injEq, Prod.mk.injEq] at h
   obtain ⟨rfl, rfl⟩ := h
   obtain ⟨h1, h2⟩ := hP _ _ _ hp
   have := head_len hh
   exact ⟨(tail_suf u).trans h1, by omega⟩
  ·cases h
theorem wordOf_sz : ∀ (r w t : List UInt8), wordOf r = some (w, t) -> t <:+ r /\ w.length + t.length + 1 <= r.length
 | [], w, t, h => by simp [wordOf] at h
 | c :: r, w, t, h => by
  unfold wordOf at h
  split at h
  ·simp only [Option.some.injEq, Prod.mk.injEq] at h
   obtain ⟨rfl, rfl⟩ := h
   exact ⟨List.suffix_cons _ _, by simp⟩
  ·split at h
   ·cases h
   ·cases hw : wordOf r with
    | none => rw [hw] at h; cases h
    | some x =>
     obtain ⟨w', u⟩ := x
     rw [hw] at h
     simp only [Option.some.injEq, Prod.mk.injEq] at h
     obtain ⟨rfl, rfl⟩ := h
     obtain ⟨h1, h2⟩ := wordOf_sz r w' u hw
     exact ⟨h1.trans (List.suffix_cons _ _), by simp; omega⟩
theorem word_sz {r w t : List UInt8} (h : wordR r = some (w, t)) : t <:+ r /\ w.length + t.length + 2 <= r.length := by
 unfold wordR at h
 split at h
 ·rename_i hh
  obtain ⟨h1, h2⟩ := wordOf_sz _ _ _ h
  have := head_len hh
  exact ⟨h1.trans (tail_suf r), by omega⟩
 ·cases h
theorem again_sz (l : Ln) (t : List UInt8) : (againR l t).2 <:+ t /\ lsize (againR l t).1 + (againR l t).2.length = lsize l + t.length := by
 unfold againR
 split
 ·rename_i hh
  have := head_len hh
  exact ⟨tail_suf t, by rw [lsize_repeat]; dsimp only; omega⟩
 ·exact ⟨List.suffix_refl _, rfl⟩
theorem part_sz {P : List UInt8 -> Rd} {Q : List UInt8 -> Rl} (hP : SzP P) (hQ : SzL Q) {r : List UInt8} {l : Ln} {t : List UInt8} (h : partR P Q r = some (l, t)) : t <:+ r /\ lsize l + t.length <= r.length /\ t.length < r.length := by
 cases r with
 | nil => simp [partR] at h
 | cons c r =>
  have hc : ∀ u, u <:+ r -> u <:+ c :: r := fun u hu => hu.trans (List.suffix_cons _ _)
  simp only [partR] at h
  split at h
  ·cases hp : slashR P r with
   | none => rw [hp] at h; cases h
   | some x =>
    obtain ⟨d, u⟩ := x
    rw [hp] at h
    simp only [Option.some.injEq] at h
    obtain ⟨h1, h2⟩ := slash_sz hP hp
    obtain ⟨h3, h4⟩ := again_sz (copyL d) u
    rw [h, lsize_copy] at h4
    rw [h] at h3
    dsimp only at h3 h4
    have := h3.length_le
    exact ⟨hc _ (h3.trans h1), by simp; omega, by simp; omega⟩
  ·split at h
   ·split at h
    ·rename_i hh
     have hl := head_len hh
     cases hp : slashR P r.tail with
     | none => rw [hp] at h; cases h
     | some x =>
      obtain ⟨d, u⟩ := x
      rw [hp] at h
      dsimp only at h
      obtain ⟨h1, h2⟩ := slash_sz hP hp
      cases hw : wordR u with
      | none => rw [hw] at h; cases h
      | some x =>
       obtain ⟨w, v⟩ := x
       rw [hw] at h
       simp only [Option.some.injEq, Prod.mk.injEq] at h
       obtain ⟨rfl, rfl⟩ := h
       obtain ⟨h3, h4⟩ := word_sz hw
       rw [lsize_leave]
       exact ⟨hc _ (h3.trans (h1.trans (tail_suf r))), by simp; omega, by simp; omega⟩
    ·cases h
   ·split at h
    ·cases hw : wordR r with
     | none => rw [hw] at h; cases h
     | some x =>
      obtain ⟨w, v⟩ := x
      rw [hw] at h
      simp only [Option.some.injEq, Prod.mk.injEq] at h
      obtain ⟨rfl, rfl⟩ := h
      obtain ⟨h3, h4⟩ := word_sz hw
      rw [lsize_put]
      exact ⟨hc _ h3, by simp; omega, by simp; omega⟩
    ·split at h
     ·cases hq : Q r with
      | none => rw [hq] at h; cases h
      | some x =>
       obtain ⟨a, u⟩ := x
       rw [hq] at h
       dsimp only at h
       obtain ⟨h1, h2⟩ := hQ _ _ _ hq
       split at h
       ·rename_i hh
        have hl := head_len hh
        simp only [Option.some.injEq, Prod.mk.injEq] at h
        obtain ⟨rfl, rfl⟩ := h
        rw [lsize_keys]
        exact ⟨hc _ ((tail_suf u).trans h1), by simp; omega, by simp; omega⟩
       ·cases h
     ·split at h
      ·cases hq : Q r with
       | none => rw [hq] at h; cases h
       | some x =>
        obtain ⟨a, u⟩ := x
        rw [hq] at h
        dsimp only at h
        obtain ⟨h1, h2⟩ := hQ _ _ _ hq
        split at h
        ·rename_i hh
         have hl := head_len hh
         cases hq2 : Q u.tail with
         | none => rw [hq2] at h; cases h
         | some x =>
          obtain ⟨b, v⟩ := x
          rw [hq2] at h
          dsimp only at h
          obtain ⟨h3, h4⟩ := hQ _ _ _ hq2
          split at h
          ·rename_i hh2
           have hl2 := head_len hh2
           simp only [Option.some.injEq] at h
           obtain ⟨h5, h6⟩ := again_sz (changeL a b) v.tail
           rw [h, lsize_change] at h6
           rw [h] at h5
           dsimp only at h5 h6
           have := h5.length_le
           exact ⟨hc _ (h5.trans ((tail_suf v).trans (h3.trans ((tail_suf u).trans h1)))), by simp; omega, by simp; omega⟩
          ·cases h
        ·split at h
         ·rename_i hh2
          have hl2 := head_len hh2
          simp only [Option.some.injEq] at h
          obtain ⟨h5, h6⟩ := again_sz a u.tail
          rw [h] at h5 h6
          dsimp only at h5 h6
          have := h5.length_le
          exact ⟨hc _ (h5.trans ((tail_suf u).trans h1)), by simp; omega, by simp; omega⟩
         ·cases h
      ·cases h
theorem parts_sz {P : List UInt8 -> Rd} {Q : List UInt8 -> Rl} (hP : SzP P) (hQ : SzL Q) : ∀ n, SzL (partsR P Q n)
 | 0, r, l, t, h => by simp [partsR] at h
 | n + 1, r, l, t, h => by
  simp only [partsR] at h
  cases hp : partR P Q r with
  | none => rw [hp] at h; cases h
  | some x =>
   obtain ⟨a, r1⟩ := x
   rw [hp] at h
   dsimp only at h
   obtain ⟨h1, h2, h3⟩ := part_sz hP hQ hp
   split at h
   ·simp only [Option.some.injEq, Prod.mk.injEq] at h
    obtain ⟨rfl, rfl⟩ := h
    exact ⟨h1, h2⟩
   ·cases hq : partsR P Q n r1 with
    | none => rw [hq] at h; cases h
    | some x =>
     obtain ⟨b, r2⟩ := x
     rw [hq] at h
     simp only [Option.some.injEq, Prod.mk.injEq] at h
     obtain ⟨rfl, rfl⟩ := h
     obtain ⟨h4, h5⟩ := parts_sz hP hQ n _ _ _ hq
     rw [lsize_behind]
     exact ⟨h4.trans h1, by omega⟩
theorem altsL_sz {P : List UInt8 -> Rd} {Q : List UInt8 -> Rl} (hP : SzP P) (hQ : SzL Q) : ∀ n, SzL (altsL P Q n)
 | 0, r, l, t, h => by simp [altsL] at h
 | n + 1, r, l, t, h => by
  simp only [altsL] at h
  cases hp : partsR P Q (r.length + 1) r with
  | none => rw [hp] at h; cases h
  | some x =>
   obtain ⟨a, r1⟩ := x
   rw [hp] at h
   dsimp only at h
   obtain ⟨h1, h2⟩ := parts_sz hP hQ _ _ _ _ hp
   split at h
   ·rename_i hh
    have hl := head_len hh
    cases hq : altsL P Q n r1.tail with
    | none => rw [hq] at h; cases h
    | some x =>
     obtain ⟨b, r3⟩ := x
     rw [hq] at h
     simp only [Option.some.injEq, Prod.mk.injEq] at h
     obtain ⟨rfl, rfl⟩ := h
     obtain ⟨h4, h5⟩ := altsL_sz hP hQ n _ _ _ hq
     rw [lsize_union]
     exact ⟨h4.trans ((tail_suf r1).trans h1), by omega⟩
   ·simp only [Option.some.injEq, Prod.mk.injEq] at h
    obtain ⟨rfl, rfl⟩ := h
    exact ⟨h1, h2⟩
theorem lens_sz : ∀ n, SzL (lensR n)
 | 0, r, l, t, h => by simp [lensR] at h
 | n + 1, r, l, t, h => altsL_sz (pat_sz _) (lens_sz n) _ _ _ _ h
end Ls
namespace Ls
def wordP : List UInt8 -> Pat
 | [] => none
 | c :: t => row (set [c]) (wordP t)
def srcP : Ln -> Pat
 | ⟨k, p, _, []⟩ => if k = 0 \/ k = 1 then toPat p else none
 | ⟨k, _, _, [a]⟩ => if k = 6 \/ k = 7 then star (srcP a) else none
 | ⟨k, _, _, [a, b]⟩ => if k = 3 \/ k = 4 then row (srcP a) (srcP b) else if k = 5 then any (srcP a) (srcP b) else none
 | _ => none
def viewP : Ln -> Pat
 | ⟨k, p, w, []⟩ => if k = 0 then toPat p else if k = 2 then wordP w else none
 | ⟨k, _, _, [a]⟩ => if k = 6 \/ k = 7 then star (viewP a) else none
 | ⟨k, _, _, [a, b]⟩ => if k = 3 then row (viewP a) (viewP b) else if k = 4 then row (viewP b) (viewP a) else if k = 5 then any (viewP a) (viewP b) else none
 | _ => none
structure BdL (c : Nat) (p : Pat) : Prop where
 ok : wf p
 nd : nd p <= c * 8192
 ks : ks p + 3 <= c * 1171456
 hs : hs p <= c
 sg : Signed p
theorem BdL.mono {c c' : Nat} {p : Pat} (h : BdL c p) (hc : c <= c') : BdL c' p := by
 exact ⟨h.ok, Nat.le_trans h.nd (Nat.mul_le_mul_right _ hc), Nat.le_trans h.ks (Nat.mul_le_mul_right _ hc), Nat.le_trans h.hs hc, h.sg⟩
theorem bdl_row {a b : Nat} {p q : Pat} (h : BdL a p) (k : BdL b q) : BdL (a + b) (row p q) := by
 have h1 := h.nd
 have h2 := h.ks
 have h3 := h.hs
 have k1 := k.nd
 have k2 := k.ks
 have k3 := k.hs
 have e1 := nd_row p q
 have e2 := ks_row p q
 have e3 := hs_row p q
 exact ⟨wf_row h.ok k.ok, by omega, by omega, by omega, signed_row h.sg k.sg⟩
theorem bdl_any {a b : Nat} {p q : Pat} (h : BdL a p) (k : BdL b q) : BdL (a + b) (any p q) := by
 have h1 := h.nd
 have h2 := h.ks
 have h3 := h.hs
 have k1 := k.nd
 have k2 := k.ks
 have k3 := k.hs
 exact ⟨wf_any h.ok k.ok, by rw [nd_any]; omega, by rw [ks_any]; omega, by rw [hs_any]; omega, signed_any h.sg k.sg⟩
theorem bdl_star {a : Nat} {p : Pat} (h : BdL a p) : BdL (a + 1) (star p) := by
 have h1 := h.nd
 have h2 := h.ks
 have h3 := h.hs
 have e1 := nd_star p
 have e2 := ks_star p
 have e3 := hs_star p
 exact ⟨wf_star h.ok, by omega, by omega, by omega, signed_star h.sg⟩
theorem bdl_none {c : Nat} (hc : 1 <= c) : BdL c none := ⟨wf_none, by rw [nd_none]; omega, by rw [ks_none]; omega, by simp [none, Ls.hs]; omega, signed_none⟩
theorem bdl_word : (w : List UInt8) -> (∀ c, c ∈ w -> sign c = true) -> BdL (w.length + 1) (wordP w)
 | [], _ => bdl_none (by simp)
 | c :: t, h => by
  have h1 : BdL 1 (set [c]) := ⟨wf_set (.inl ⟨c, rfl⟩), by rw [nd_set]; omega, by rw [ks_set]; show 1 + 3 + 3 <= 1 * 1171456; omega, by simp [set, Ls.hs], signed_set (fun d hd => by simp at hd; subst hd; exact h d (by simp))⟩
  have h2 := bdl_word t (fun d hd => h d (by simp [hd]))
  have := bdl_row h1 h2
  simp only [List.length_cons]
  rw [show t.length + 1 + 1 = 1 + (t.length + 1) by omega]
  exact this
theorem bdl_pat {d : Nat} (hd : d <= 13) {r : List UInt8} {e : D} {t : List UInt8} (h : pat d r = some (e, t)) : ∃ c, r.length = t.length + c /\ BdL (c + 1) (toPat e) := by
 obtain ⟨c, h1, h2, h3, h4, h5⟩ := pat_bd d r e t h
 have hp : 2 ^ d <= 8192 := by
  have := Nat.pow_le_pow_right (n := 2) (by omega) hd
  exact this
 have n1 : (c + 1) * 2 ^ d <= (c + 1) * 8192 := Nat.mul_le_mul_left _ hp
 have n2 : (c + 1) * (143 * 2 ^ d - 12) <= (c + 1) * (1171456 - 12) := Nat.mul_le_mul_left _ (by omega)
 have n3 : (c + 1) * (1171456 - 12) + (c + 1) * 12 = (c + 1) * 1171456 := by rw [<- Nat.mul_add]
 exact ⟨c, h1, h2, by omega, by omega, h5, pat_sg d _ _ _ h⟩
def OkL (c : Nat) : Ln -> Prop
 | ⟨k, p, w, []⟩ => (BdL c (srcP ⟨k, p, w, []⟩) /\ BdL c (viewP ⟨k, p, w, []⟩)) /\ (k = 0 \/ k = 1 \/ k = 2)
 | ⟨k, p, w, [a]⟩ => (BdL c (srcP ⟨k, p, w, [a]⟩) /\ BdL c (viewP ⟨k, p, w, [a]⟩)) /\ (k = 6 \/ k = 7) /\ OkL c a
 | ⟨k, p, w, [a, b]⟩ => (BdL c (srcP ⟨k, p, w, [a, b]⟩) /\ BdL c (viewP ⟨k, p, w, [a, b]⟩)) /\ (k = 3 \/ k = 4 \/ k = 5) /\ OkL c a /\ OkL c b
 | _ => False
theorem OkL.mono {c c' : Nat} (hc : c <= c') : (l : Ln) -> OkL c l -> OkL c' l
 | ⟨k, p, w, []⟩, h => by rw [OkL] at h ⊢; exact ⟨⟨h.1.1.mono hc, h.1.2.mono hc⟩, h.2⟩
 | ⟨k, p, w, [a]⟩, h => by rw [OkL] at h ⊢; exact ⟨⟨h.1.1.mono hc, h.1.2.mono hc⟩, h.2.1, OkL.mono hc a h.2.2⟩
 | ⟨k, p, w, [a, b]⟩, h => by rw [OkL] at h ⊢; exact ⟨⟨h.1.1.mono hc, h.1.2.mono hc⟩, h.2.1, OkL.mono hc a h.2.2.1, OkL.mono hc b h.2.2.2⟩
 | ⟨k, p, w, _ :: _ :: _ :: _⟩, h => by simp [OkL] at h
theorem OkL.src {c : Nat} : (l : Ln) -> OkL c l -> BdL c (srcP l)
 | ⟨k, p, w, []⟩, h => by rw [OkL] at h; exact h.1.1
 | ⟨k, p, w, [a]⟩, h => by rw [OkL] at h; exact h.1.1
 | ⟨k, p, w, [a, b]⟩, h => by rw [OkL] at h; exact h.1.1
 | ⟨k, p, w, _ :: _ :: _ :: _⟩, h => by simp [OkL] at h
theorem OkL.view {c : Nat} : (l : Ln) -> OkL c l -> BdL c (viewP l)
 | ⟨k, p, w, []⟩, h => by rw [OkL] at h; exact h.1.2
 | ⟨k, p, w, [a]⟩, h => by rw [OkL] at h; exact h.1.2
 | ⟨k, p, w, [a, b]⟩, h => by rw [OkL] at h; exact h.1.2
 | ⟨k, p, w, _ :: _ :: _ :: _⟩, h => by simp [OkL] at h
theorem okl_copy {c : Nat} {d : D} (h : BdL c (toPat d)) : OkL c (copyL d) := by
 unfold copyL
 rw [OkL]
 exact ⟨⟨by simpa [srcP] using h, by simpa [viewP] using h⟩, .inl rfl⟩
theorem okl_leave {c : Nat} {d : D} {w : List UInt8} (h : BdL c (toPat d)) (hc : 1 <= c) : OkL c (leaveL d w) := by
 unfold leaveL
 rw [OkL]
 exact ⟨⟨by simpa [srcP] using h, by simpa [viewP] using bdl_none hc⟩, .inr (.inl rfl)⟩
theorem okl_put {c : Nat} {w : List UInt8} (h : BdL c (wordP w)) (hc : 1 <= c) : OkL c (putL w) := by
 unfold putL
 rw [OkL]
 exact ⟨⟨by simpa [srcP] using bdl_none hc, by simpa [viewP] using h⟩, .inr (.inr rfl)⟩
theorem okl_star {c k : Nat} {a : Ln} (hk : k = 6 \/ k = 7) (h : OkL c a) : OkL (c + 1) ⟨k, rnil, [], [a]⟩ := by
 rw [OkL]
 refine ⟨⟨?_, ?_⟩, hk, OkL.mono (by omega) a h⟩
 ·simp only [srcP]; rw [if_pos hk]; exact bdl_star (h.src)
 ·simp only [viewP]; rw [if_pos hk]; exact bdl_star (h.view)
theorem okl_pair {c1 c2 k : Nat} {a b : Ln} (hk : k = 3 \/ k = 4 \/ k = 5) (h1 : OkL c1 a) (h2 : OkL c2 b) : OkL (c1 + c2) ⟨k, rnil, [], [a, b]⟩ := by
 rw [OkL]
 refine ⟨⟨?_, ?_⟩, hk, OkL.mono (by omega) a h1, OkL.mono (by omega) b h2⟩
 ·simp only [srcP]
  rcases hk with rfl | rfl | rfl
  ·rw [if_pos (.inl rfl)]; exact bdl_row h1.src h2.src
  ·rw [if_pos (.inr rfl)]; exact bdl_row h1.src h2.src
  ·rw [if_neg (by omega), if_pos rfl]; exact bdl_any h1.src h2.src
 ·simp only [viewP]
  rcases hk with rfl | rfl | rfl
  ·rw [if_pos rfl]; exact bdl_row h1.view h2.view
  ·rw [if_neg (by omega), if_pos rfl, Nat.add_comm]; exact bdl_row h2.view h1.view
  ·rw [if_neg (by omega), if_neg (by omega), if_pos rfl]; exact bdl_any h1.view h2.view
def BnL (Q : List UInt8 -> Rl) : Prop := ∀ r l t, Q r = some (l, t) -> ∃ c, r.length = t.length + c /\ 1 <= c /\ OkL c l
theorem okl_again {c : Nat} {l : Ln} {t : List UInt8} (h : OkL c l) : ∃ c', t.length + c = (againR l t).2.length + c' /\ c <= c' /\ OkL c' (againR l t).1 := by
 unfold againR
 split
 ·rename_i hh
  have := head_len hh
  exact ⟨c + 1, by dsimp only; omega, by omega, okl_star (.inl rfl) h⟩
 ·exact ⟨c, rfl, Nat.le_refl _, h⟩
theorem wordOf_sign : ∀ (r w t : List UInt8), wordOf r = some (w, t) -> ∀ c, c ∈ w -> sign c = true
 | [], w, t, h => by simp [wordOf] at h
 | e :: r, w, t, h => by
  unfold wordOf at h
  split at h
  ·simp only [Option.some.injEq, Prod.mk.injEq] at h
   obtain ⟨rfl, rfl⟩ := h
   intro c hc
   simp at hc
  ·split at h
   ·cases h
   ·rename_i hs
    cases hw : wordOf r with
    | none => rw [hw] at h; cases h
    | some x =>
     obtain ⟨w', u⟩ := x
     rw [hw] at h
     simp only [Option.some.injEq, Prod.mk.injEq] at h
     obtain ⟨rfl, rfl⟩ := h
     intro c hc
     rcases List.mem_cons.1 hc with rfl | hc
     ·simp only [not_or, Bool.not_eq_false] at hs
      exact hs.1
     ·exact wordOf_sign r w' u hw c hc
theorem word_sign {r w t : List UInt8} (h : wordR r = some (w, t)) : ∀ c, c ∈ w -> sign c = true := by
 unfold wordR at h
 split at h
 ·exact wordOf_sign _ _ _ h
 ·cases h
theorem slash_bd {d : Nat} (hd : d <= 13) {r : List UInt8} {e : D} {t : List UInt8} (h : slashR (pat d) r = some (e, t)) : ∃ c, r.length = t.length + c + 1 /\ BdL (c + 1) (toPat e) := by
 unfold slashR at h
 cases hp : pat d r with
 | none => rw [hp] at h; cases h
 | some x =>
  obtain ⟨d', u⟩ := x
  rw [hp] at h
  dsimp only at h
  split at h
  ·rename_i hh
   simp only [Option.some.injEq, Prod.mk.injEq] at h
   obtain ⟨rfl, rfl⟩ := h
   obtain ⟨c, h1, h2⟩ := bdl_pat hd hp
   have := head_len hh
   exact ⟨c, by omega, h2⟩
  ·cases h
theorem part_bn {d : Nat} (hd : d <= 13) {Q : List UInt8 -> Rl} (hQ : BnL Q) : BnL (partR (pat d) Q) := by
 intro r l t h
 cases r with
 | nil => simp [partR] at h
 | cons e r =>
  simp only [partR] at h
  simp only [List.length_cons]
  split at h
  ·cases hp : slashR (pat d) r with
   | none => rw [hp] at h; cases h
   | some x =>
    obtain ⟨g, u⟩ := x
    rw [hp] at h
    simp only [Option.some.injEq] at h
    obtain ⟨c, h1, h2⟩ := slash_bd hd hp
    obtain ⟨c', h3, h4, h5⟩ := okl_again (t := u) (okl_copy (h2.mono (show c + 1 <= c + 2 by omega)))
    rw [h] at h3 h5
    dsimp only at h3 h5
    exact ⟨c', by omega, by omega, h5⟩
  ·split at h
   ·split at h
    ·rename_i hh
     have hl := head_len hh
     cases hp : slashR (pat d) r.tail with
     | none => rw [hp] at h; cases h
     | some x =>
      obtain ⟨g, u⟩ := x
      rw [hp] at h
      dsimp only at h
      obtain ⟨c, h1, h2⟩ := slash_bd hd hp
      cases hw : wordR u with
      | none => rw [hw] at h; cases h
      | some x =>
       obtain ⟨w, v⟩ := x
       rw [hw] at h
       simp only [Option.some.injEq, Prod.mk.injEq] at h
       obtain ⟨rfl, rfl⟩ := h
       obtain ⟨h3, h4⟩ := word_sz hw
       have := h3.length_le
       exact ⟨r.length + 1 - v.length, by omega, by omega, okl_leave (h2.mono (by omega)) (by omega)⟩
    ·cases h
   ·split at h
    ·cases hw : wordR r with
     | none => rw [hw] at h; cases h
     | some x =>
      obtain ⟨w, v⟩ := x
      rw [hw] at h
      simp only [Option.some.injEq, Prod.mk.injEq] at h
      obtain ⟨rfl, rfl⟩ := h
      obtain ⟨h3, h4⟩ := word_sz hw
      exact ⟨r.length + 1 - v.length, by omega, by omega, okl_put ((bdl_word w (word_sign hw)).mono (by omega)) (by omega)⟩
    ·split at h
     ·cases hq : Q r with
      | none => rw [hq] at h; cases h
      | some x =>
       obtain ⟨a, u⟩ := x
       rw [hq] at h
       dsimp only at h
       obtain ⟨c, h1, h2, h3⟩ := hQ _ _ _ hq
       split at h
       ·rename_i hh
        have hl := head_len hh
        simp only [Option.some.injEq, Prod.mk.injEq] at h
        obtain ⟨rfl, rfl⟩ := h
        exact ⟨c + 2, by omega, by omega, OkL.mono (by omega) _ (okl_star (.inr rfl) h3)⟩
       ·cases h
     ·split at h
      ·cases hq : Q r with
       | none => rw [hq] at h; cases h
       | some x =>
        obtain ⟨a, u⟩ := x
        rw [hq] at h
        dsimp only at h
        obtain ⟨c, h1, h2, h3⟩ := hQ _ _ _ hq
        split at h
        ·rename_i hh
         have hl := head_len hh
         cases hq2 : Q u.tail with
         | none => rw [hq2] at h; cases h
         | some x =>
          obtain ⟨b, v⟩ := x
          rw [hq2] at h
          dsimp only at h
          obtain ⟨c2, g1, g2, g3⟩ := hQ _ _ _ hq2
          split at h
          ·rename_i hh2
           have hl2 := head_len hh2
           simp only [Option.some.injEq] at h
           obtain ⟨c', h5, h6, h7⟩ := okl_again (t := v.tail) (OkL.mono (show c + c2 <= c + c2 + 3 by omega) _ (okl_pair (k := 4) (.inr (.inl rfl)) h3 g3))
           have h' : againR ⟨4, rnil, [], [a, b]⟩ v.tail = (l, t) := h
           rw [h'] at h5 h7
           dsimp only at h5 h7
           exact ⟨c', by omega, by omega, h7⟩
          ·cases h
        ·split at h
         ·rename_i hh2
          have hl2 := head_len hh2
          simp only [Option.some.injEq] at h
          obtain ⟨c', h5, h6, h7⟩ := okl_again (t := u.tail) (OkL.mono (show c <= c + 2 by omega) _ h3)
          rw [h] at h5 h7
          dsimp only at h5 h7
          exact ⟨c', by omega, by omega, h7⟩
         ·cases h
      ·cases h
theorem parts_bn {d : Nat} (hd : d <= 13) {Q : List UInt8 -> Rl} (hQ : BnL Q) : ∀ n, BnL (partsR (pat d) Q n)
 | 0, r, l, t, h => by simp [partsR] at h
 | n + 1, r, l, t, h => by
  simp only [partsR] at h
  cases hp : partR (pat d) Q r with
  | none => rw [hp] at h; cases h
  | some x =>
   obtain ⟨a, r1⟩ := x
   rw [hp] at h
   dsimp only at h
   obtain ⟨c, h1, h2, h3⟩ := part_bn hd hQ _ _ _ hp
   split at h
   ·simp only [Option.some.injEq, Prod.mk.injEq] at h
    obtain ⟨rfl, rfl⟩ := h
    exact ⟨c, h1, h2, h3⟩
   ·cases hq : partsR (pat d) Q n r1 with
    | none => rw [hq] at h; cases h
    | some x =>
     obtain ⟨b, r2⟩ := x
     rw [hq] at h
     simp only [Option.some.injEq, Prod.mk.injEq] at h
     obtain ⟨rfl, rfl⟩ := h
     obtain ⟨c2, g1, g2, g3⟩ := parts_bn hd hQ n _ _ _ hq
     exact ⟨c + c2, by omega, by omega, okl_pair (k := 3) (.inl rfl) h3 g3⟩
theorem alts_bn {d : Nat} (hd : d <= 13) {Q : List UInt8 -> Rl} (hQ : BnL Q) : ∀ n, BnL (altsL (pat d) Q n)
 | 0, r, l, t, h => by simp [altsL] at h
 | n + 1, r, l, t, h => by
  simp only [altsL] at h
  cases hp : partsR (pat d) Q (r.length + 1) r with
  | none => rw [hp] at h; cases h
  | some x =>
   obtain ⟨a, r1⟩ := x
   rw [hp] at h
   dsimp only at h
   obtain ⟨c, h1, h2, h3⟩ := parts_bn hd hQ _ _ _ _ hp
   split at h
   ·rename_i hh
    have hl := head_len hh
    cases hq : altsL (pat d) Q n r1.tail with
    | none => rw [hq] at h; cases h
    | some x =>
     obtain ⟨b, r3⟩ := x
     rw [hq] at h
     simp only [Option.some.injEq, Prod.mk.injEq] at h
     obtain ⟨rfl, rfl⟩ := h
     obtain ⟨c2, g1, g2, g3⟩ := alts_bn hd hQ n _ _ _ hq
     exact ⟨c + c2 + 1, by omega, by omega, OkL.mono (by omega) _ (okl_pair (k := 5) (.inr (.inr rfl)) h3 g3)⟩
   ·simp only [Option.some.injEq, Prod.mk.injEq] at h
    obtain ⟨rfl, rfl⟩ := h
    exact ⟨c, h1, h2, h3⟩
theorem lens_bn : ∀ n, n <= 13 -> BnL (lensR n)
 | 0, _, r, l, t, h => by simp [lensR] at h
 | n + 1, hn, r, l, t, h => alts_bn hn (lens_bn n (by omega)) _ _ _ _ h
theorem lens_ok {r : List UInt8} {l : Ln} {t : List UInt8} (h : lensR 13 r = some (l, t)) (hr : r.length <= 120) : OkL 120 l := by
 obtain ⟨c, h1, _, h3⟩ := lens_bn 13 (Nat.le_refl _) _ _ _ h
 exact OkL.mono (by omega) _ h3
theorem BdL.room {c : Nat} {p : Pat} (h : BdL c p) (hc : c <= 121) : Room (p :: pds p) /\ (p :: pds p).length <= 991233 := by
 have h1 := h.nd
 have h2 := h.ks
 have h3 := h.hs
 have m1 : Ls.nd p <= 991232 := by omega
 have m2 : Ls.hs p <= 121 := by omega
 have n3 := Nat.mul_le_mul m1 m2
 have h4 := pds_length p h.ok
 exact ⟨Ls.room _ h.ok (by omega) (by omega) (hs_pos _ h.ok), by simp; omega⟩
end Ls
