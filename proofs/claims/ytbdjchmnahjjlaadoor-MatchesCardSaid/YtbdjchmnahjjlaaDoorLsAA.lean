import Derived.Test.YtbdjchmnahjjlaaDoorLsZ
/- How great a pattern is that is read out of a short text. -/
namespace Ls

theorem hs_pos (p : Pat) (hp : wf p) : 1 ≤ hs p := by
  refine ind (P := fun p => 1 ≤ hs p) ?_ ?_ ?_ ?_ ?_ p hp
  · simp [none, hs]
  · intro s _; simp [set, hs]
  · intro a b _ _ _ _ h1 h2; rw [hs_rowB]; omega
  · intro a b _ _ h1 h2; rw [hs_any]; omega
  · intro a _ h1; rw [hs_star]; omega

theorem nd_row (a b : Pat) : nd (row a b) ≤ nd a + nd b := by
  unfold row; split
  · omega
  · split
    · omega
    · rw [nd_rowB]; omega

theorem hs_row (a b : Pat) : hs (row a b) ≤ max (hs a) (hs b) := by
  unfold row; split
  · omega
  · split
    · omega
    · rw [hs_rowB]; omega

theorem rngTo_len (acc : List UInt8) (a b : UInt8) (n : Nat) : (rngTo acc a b n).length ≤ acc.length + n := by
  induction n with
  | zero => simp [rngTo]
  | succ n ih =>
    unfold rngTo at ih ⊢
    rw [List.range_succ, List.foldl_append]
    simp only [List.foldl_cons, List.foldl_nil]
    split
    · rw [List.length_append]; simp only [List.length_cons, List.length_nil]; omega
    · omega

theorem rngTo_mem {acc : List UInt8} {a b : UInt8} (n : Nat) (hn : n ≤ 128) : ∀ c, c ∈ rngTo acc a b n → c ∈ acc ∨ (a.toNat ≤ c.toNat ∧ c.toNat ≤ b.toNat) := by
  induction n with
  | zero => intro c hc; exact .inl (by simpa [rngTo] using hc)
  | succ n ih =>
    intro c hc
    have ih := ih (by omega)
    unfold rngTo at ih hc
    rw [List.range_succ, List.foldl_append] at hc
    simp only [List.foldl_cons, List.foldl_nil] at hc
    split at hc
    · rename_i h
      rcases List.mem_append.1 hc with h1 | h1
      · exact ih c h1
      · simp only [List.mem_singleton] at h1
        subst h1
        have : (UInt8.ofNat n).toNat = n := by simp; omega
        exact .inr ⟨by omega, by omega⟩
    · exact ih c hc

theorem rngTo_has {acc : List UInt8} {a b : UInt8} (hab : a.toNat ≤ b.toNat) (n : Nat) (hn : a.toNat < n) : rngTo acc a b n ≠ [] := by
  induction n with
  | zero => omega
  | succ n ih =>
    unfold rngTo at ih ⊢
    rw [List.range_succ, List.foldl_append]
    simp only [List.foldl_cons, List.foldl_nil]
    split
    · simp
    · rename_i h
      rcases Nat.lt_or_ge a.toNat n with h1 | h1
      · exact ih h1
      · have e : a.toNat = n := by omega
        intro h0
        rw [h0] at h
        exact h ⟨by omega, by omega, by simp [has]⟩

theorem mark_bd {c : UInt8} (h : mark c = true) : 48 ≤ c.toNat ∧ c.toNat ≤ 122 := by
  simp [mark] at h; omega

theorem range1_ok {r t : List UInt8} {a b : UInt8} (h : range1 r = some (a, b, t)) : mark a = true ∧ mark b = true ∧ a.toNat ≤ b.toNat := by
  cases r with
  | nil => simp [range1] at h
  | cons c r =>
    unfold range1 at h
    dsimp only at h
    split at h
    · simp at h
    · rename_i hm
      split at h
      · split at h
        · simp at h
        · split at h
          · simp at h
          · rename_i hb
            simp at h
            obtain ⟨rfl, rfl, _⟩ := h
            simp only [not_or, Bool.not_eq_false] at hb
            exact ⟨by simpa using hm, hb.1, by omega⟩
      · simp at h
        obtain ⟨rfl, rfl, _⟩ := h
        exact ⟨by simpa using hm, by simpa using hm, Nat.le_refl _⟩

theorem cls_ok : (n : Nat) → (acc r s t : List UInt8) → (∀ c, c ∈ acc → 48 ≤ c.toNat ∧ c.toNat ≤ 122) → cls n acc r = some (s, t) → s ≠ [] ∧ (∀ c, c ∈ s → 48 ≤ c.toNat ∧ c.toNat ≤ 122) ∧ s.length + 128 * t.length ≤ acc.length + 128 * r.length
  | 0, _, _, _, _, _, h => by simp [cls] at h
  | n + 1, acc, r, s, t, hacc, h => by
    rw [cls] at h
    split at h
    · simp at h
    · rename_i a b u hr
      obtain ⟨ma, mb, hab⟩ := range1_ok hr
      have ba := mark_bd ma
      have bb := mark_bd mb
      have hs := range1_suf hr
      have hl := rngTo_len acc a b 128
      have hmem : ∀ c, c ∈ rng acc a b → 48 ≤ c.toNat ∧ c.toNat ≤ 122 := fun c hc => by
        rcases rngTo_mem 128 (Nat.le_refl _) c hc with h | h
        · exact hacc c h
        · omega
      split at h
      · rename_i hx
        have := tail_len hx
        simp at h
        obtain ⟨rfl, rfl⟩ := h
        exact ⟨rngTo_has hab 128 (by omega), hmem, by unfold rng; omega⟩
      · obtain ⟨h1, h2, h3⟩ := cls_ok n _ _ _ _ hmem h
        exact ⟨h1, h2, by unfold rng at h3; omega⟩

/-- How great what is read is: c signs were read. -/
def Bd (X Y c : Nat) (p : Pat) : Prop := wf p ∧ nd p ≤ X ∧ ks p ≤ Y ∧ hs p ≤ c

def Bnd (X Y : Nat) (P : List UInt8 → Rd) : Prop := ∀ r d t, P r = some (d, t) → ∃ c, r.length = t.length + c ∧ Bd ((c + 1) * X) ((c + 1) * Y) (c + 1) (toPat d)

theorem bd_place {X Y c : Nat} (hX : 1 ≤ X) (hY : 131 ≤ Y) (hc : 1 ≤ c) {s : List UInt8} (hs : okSigns s) (hl : s.length + 3 ≤ 131 * c) : Bd (c * X) (c * Y) c (toPat (place s)) := by
  rw [toPat_place]
  refine ⟨wf_set hs, ?_, ?_, by simp [set, Ls.hs]; omega⟩
  · rw [nd_set]; exact Nat.mul_pos hc hX
  · rw [ks_set]
    have : c * 131 ≤ c * Y := Nat.mul_le_mul_left _ hY
    omega

theorem oneOf_bd {X Y : Nat} (hX : 1 ≤ X) (hY : 131 ≤ Y) {P : List UInt8 → Rd} (hP : Bnd X Y P) {r : List UInt8} {d : D} {t : List UInt8} (h : oneOf P r = some (d, t)) : ∃ c, 1 ≤ c ∧ r.length = t.length + c ∧ Bd (c * X) (c * Y) c (toPat d) := by
  cases r with
  | nil => simp [oneOf] at h
  | cons e r =>
    unfold oneOf at h
    dsimp only at h
    split at h
    · split at h
      · simp at h
      · rename_i d' u he
        obtain ⟨c, h1, h2, h3, h4, h5⟩ := hP _ _ _ he
        split at h
        · rename_i h41
          have := tail_len h41
          simp at h; obtain ⟨rfl, rfl⟩ := h
          refine ⟨c + 2, by omega, by simp only [List.length_cons]; omega, h2, ?_, ?_, by omega⟩
          · have : (c + 1) * X ≤ (c + 2) * X := Nat.mul_le_mul_right _ (by omega); omega
          · have : (c + 1) * Y ≤ (c + 2) * Y := Nat.mul_le_mul_right _ (by omega); omega
        · simp at h
    · split at h
      · split at h
        · simp at h
        · rename_i s u he
          obtain ⟨h1, h2, h3⟩ := cls_ok _ _ _ _ _ (by simp) he
          have h4 := (cls_suf _ _ _ _ _ he).2
          simp at h; obtain ⟨rfl, rfl⟩ := h
          refine ⟨r.length + 1 - u.length, by omega, by simp only [List.length_cons]; omega, bd_place hX hY (by omega) (.inr ⟨h1, h2⟩) ?_⟩
          simp at h3; omega
      · split at h
        · simp at h; obtain ⟨rfl, rfl⟩ := h
          exact ⟨1, by omega, by simp, bd_place hX hY (by omega) (.inr ⟨by simp [az], by decide⟩) (by decide)⟩
        · split at h
          · split at h
            · simp at h
            · split at h
              · simp at h; obtain ⟨rfl, rfl⟩ := h
                exact ⟨2, by omega, by simp, bd_place hX hY (by omega) (.inl ⟨_, rfl⟩) (by simp)⟩
              · simp at h
          · split at h
            · simp at h
            · simp at h; obtain ⟨rfl, rfl⟩ := h
              exact ⟨1, by omega, by simp, bd_place hX hY (by omega) (.inl ⟨_, rfl⟩) (by simp)⟩

theorem thing_bd {X Y : Nat} (hX : 1 ≤ X) (hY : 131 ≤ Y) {P : List UInt8 → Rd} (hP : Bnd X Y P) {r : List UInt8} {d : D} {t : List UInt8} (h : thing P r = some (d, t)) : ∃ c, 1 ≤ c ∧ r.length = t.length + c ∧ Bd (c * (2 * X)) (c * (2 * Y + 6)) c (toPat d) := by
  rw [thing] at h
  split at h
  · simp at h
  · rename_i a u hu
    obtain ⟨c, h0, h1, h2, h3, h4, h5⟩ := oneOf_bd hX hY hP hu
    have e1 : c * (2 * X) = 2 * (c * X) := Nat.mul_left_comm _ _ _
    have e2 : c * (2 * Y + 6) = 2 * (c * Y) + 6 * c := by rw [Nat.mul_add, Nat.mul_left_comm, Nat.mul_comm c 6]
    have e3 : (c + 1) * (2 * X) = 2 * (c * X) + 2 * X := by rw [Nat.add_mul, e1, Nat.one_mul]
    have e4 : (c + 1) * (2 * Y + 6) = 2 * (c * Y) + 6 * c + 2 * Y + 6 := by rw [Nat.add_mul, e2, Nat.one_mul]; omega
    split at h
    · rename_i hx
      have := tail_len hx
      simp at h; obtain ⟨rfl, rfl⟩ := h
      rw [toPat_star]
      exact ⟨c + 1, by omega, by omega, wf_star h2, by rw [nd_star]; omega, by rw [ks_star]; omega, by rw [hs_star]; omega⟩
    · split at h
      · rename_i hx
        have := tail_len hx
        simp at h; obtain ⟨rfl, rfl⟩ := h
        rw [toPat_plus]
        have a1 := nd_row (toPat a) (star (toPat a))
        have a2 := ks_row (toPat a) (star (toPat a))
        have a3 := hs_row (toPat a) (star (toPat a))
        rw [nd_star] at a1
        rw [ks_star] at a2
        rw [hs_star] at a3
        exact ⟨c + 1, by omega, by omega, wf_row h2 (wf_star h2), by omega, by omega, by omega⟩
      · split at h
        · rename_i hx
          have := tail_len hx
          simp at h; obtain ⟨rfl, rfl⟩ := h
          rw [toPat_opt]
          exact ⟨c + 1, by omega, by omega, wf_any h2 wf_none, by rw [nd_any, nd_none]; omega, by rw [ks_any, ks_none]; omega, by rw [hs_any]; simp [none, Ls.hs]; omega⟩
        · simp at h; obtain ⟨rfl, rfl⟩ := h
          exact ⟨c, h0, h1, h2, by omega, by omega, h5⟩

theorem things_bd {X Y : Nat} (hX : 1 ≤ X) (hY : 131 ≤ Y) {P : List UInt8 → Rd} (hP : Bnd X Y P) : (n : Nat) → (r : List UInt8) → (d : D) → (t : List UInt8) → things P n r = some (d, t) → ∃ c, r.length = t.length + c ∧ Bd (c * (2 * X) + 1) (c * (2 * Y + 9) + 3) (c + 1) (toPat d)
  | 0, _, _, _, h => by simp [things] at h
  | n + 1, r, d, t, h => by
    rw [things] at h
    split at h
    · simp at h; obtain ⟨rfl, rfl⟩ := h
      rw [toPat_rnil]
      exact ⟨0, by omega, wf_none, by rw [nd_none]; omega, by rw [ks_none]; omega, by simp [none, Ls.hs]⟩
    · split at h
      · simp at h
      · rename_i a r1 h1
        obtain ⟨c1, a0, a1, a2, a3, a4, a5⟩ := thing_bd hX hY hP h1
        split at h
        · simp at h
        · rename_i b r2 h3
          obtain ⟨c2, b1, b2, b3, b4, b5⟩ := things_bd hX hY hP n r1 b r2 h3
          simp at h; obtain ⟨rfl, rfl⟩ := h
          rw [toPat_rcons]
          have e1 := nd_row (toPat a) (toPat b)
          have e2 := ks_row (toPat a) (toPat b)
          have e3 := hs_row (toPat a) (toPat b)
          have e4 : (c1 + c2) * (2 * X) = c1 * (2 * X) + c2 * (2 * X) := Nat.add_mul _ _ _
          have e5 : (c1 + c2) * (2 * Y + 9) = c1 * (2 * Y + 6) + 3 * c1 + c2 * (2 * Y + 9) := by
            rw [Nat.add_mul, show 2 * Y + 9 = (2 * Y + 6) + 3 from by omega, Nat.mul_add c1, Nat.mul_comm c1 3]
          exact ⟨c1 + c2, by omega, wf_row a2 b2, by omega, by omega, by omega⟩

theorem alts_bd {X Y : Nat} (hX : 1 ≤ X) (hY : 131 ≤ Y) {P : List UInt8 → Rd} (hP : Bnd X Y P) : (n : Nat) → (r : List UInt8) → (d : D) → (t : List UInt8) → alts P n r = some (d, t) → ∃ c, r.length = t.length + c ∧ Bd ((c + 1) * (2 * X)) ((c + 1) * (2 * Y + 12)) (c + 1) (toPat d)
  | 0, _, _, _, h => by simp [alts] at h
  | n + 1, r, d, t, h => by
    rw [alts] at h
    split at h
    · simp at h
    · rename_i a r1 h1
      obtain ⟨c1, a1, a2, a3, a4, a5⟩ := things_bd hX hY hP _ _ _ _ h1
      have f1 : (c1 + 1) * (2 * X) = c1 * (2 * X) + 2 * X := by rw [Nat.add_mul, Nat.one_mul]
      have f2 : (c1 + 1) * (2 * Y + 12) = c1 * (2 * Y + 9) + 3 * c1 + 2 * Y + 12 := by
        rw [Nat.add_mul, Nat.one_mul, show 2 * Y + 12 = (2 * Y + 9) + 3 from by omega, Nat.mul_add c1, Nat.mul_comm c1 3]; omega
      split at h
      · rename_i hx
        have := tail_len hx
        split at h
        · simp at h
        · rename_i b r3 h3
          obtain ⟨c2, b1, b2, b3, b4, b5⟩ := alts_bd hX hY hP n _ b r3 h3
          simp at h; obtain ⟨rfl, rfl⟩ := h
          rw [toPat_ccons]
          have g1 : (c1 + 1 + c2 + 1) * (2 * X) = (c1 + 1) * (2 * X) + (c2 + 1) * (2 * X) := by rw [Nat.add_assoc, Nat.add_mul]
          have g2 : (c1 + 1 + c2 + 1) * (2 * Y + 12) = (c1 + 1) * (2 * Y + 12) + (c2 + 1) * (2 * Y + 12) := by rw [Nat.add_assoc, Nat.add_mul]
          exact ⟨c1 + 1 + c2, by omega, wf_any a2 b2, by rw [nd_any]; omega, by rw [ks_any]; omega, by rw [hs_any]; omega⟩
      · simp at h; obtain ⟨rfl, rfl⟩ := h
        rw [toPat_clast]
        exact ⟨c1, a1, a2, by omega, by omega, a5⟩

theorem pat_bd : (d : Nat) → Bnd (2 ^ d) (143 * 2 ^ d - 12) (pat d)
  | 0 => fun r e t h => by simp [pat] at h
  | d + 1 => fun r e t h => by
    have hp : 1 ≤ 2 ^ d := Nat.one_le_two_pow
    have h1 := alts_bd (X := 2 ^ d) (Y := 143 * 2 ^ d - 12) hp (by omega) (pat_bd d) _ _ _ _ h
    rw [show 2 ^ (d + 1) = 2 * 2 ^ d from by rw [Nat.pow_succ, Nat.mul_comm], show 143 * (2 * 2 ^ d) - 12 = 2 * (143 * 2 ^ d - 12) + 12 from by omega]
    exact h1

/-- Every pattern that is read out of a text of at most 120 signs has room. -/
theorem read_room {r : List UInt8} {d : D} {t : List UInt8} (h : pat 13 r = some (d, t)) (hr : r.length ≤ 120) : Room (toPat d :: pds (toPat d)) := by
  obtain ⟨c, h1, h2, h3, h4, h5⟩ := pat_bd 13 r d t h
  have hc : c + 1 ≤ 121 := by omega
  have e13 : (2 : Nat) ^ 13 = 8192 := by decide
  rw [e13] at h3 h4
  have n1 : (c + 1) * 8192 ≤ 121 * 8192 := Nat.mul_le_mul_right _ hc
  have n2 : (c + 1) * (143 * 8192 - 12) ≤ 121 * (143 * 8192 - 12) := Nat.mul_le_mul_right _ hc
  have m1 : nd (toPat d) ≤ 991232 := by omega
  have m2 : hs (toPat d) ≤ 121 := by omega
  have n3 := Nat.mul_le_mul m1 m2
  exact room _ h2 (by omega) (by omega) (hs_pos _ h2)

end Ls
