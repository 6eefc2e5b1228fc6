import Derived.Test.YtbdjchmnahjjlaaDoorLsN
import Derived.Test.YtbdjchmnahjjlaaDoorLsP
/- Every pattern that is read has room: what may still come is among finitely many patterns, none too great. -/
namespace Ls

/-- What may still come behind one sign or more. -/
def pds : Pat → List Pat
  | ⟨k, _, []⟩ => if k = 1 then [none] else []
  | ⟨_, _, [a]⟩ => (pds a).map (fun x => row x (star a))
  | ⟨k, _, [a, b]⟩ => if k = 3 then pds a ++ pds b else (pds a).map (fun x => row x b) ++ pds b
  | _ => []

/-- How deep the stars stand within one another, and one. -/
def hs : Pat → Nat
  | ⟨_, _, [a]⟩ => hs a + 1
  | ⟨_, _, [a, b]⟩ => max (hs a) (hs b)
  | _ => 1

theorem pds_none : pds none = [] := by simp [none, pds]
theorem pds_set (s : List UInt8) : pds (set s) = [none] := by simp [set, pds]
theorem pds_rowB (a b : Pat) : pds (rowB a b) = (pds a).map (fun x => row x b) ++ pds b := by simp [rowB, pds]
theorem pds_any (a b : Pat) : pds (any a b) = pds a ++ pds b := by simp [any, pds]
theorem pds_star (a : Pat) : pds (star a) = (pds a).map (fun x => row x (star a)) := by simp [star, pds]
theorem hs_rowB (a b : Pat) : hs (rowB a b) = max (hs a) (hs b) := by simp [rowB, hs]
theorem hs_any (a b : Pat) : hs (any a b) = max (hs a) (hs b) := by simp [any, hs]
theorem hs_star (a : Pat) : hs (star a) = hs a + 1 := by simp [star, hs]
theorem nd_set (s : List UInt8) : nd (set s) = 1 := by simp [set, nd]
theorem nd_none : nd none = 1 := by simp [none, nd]
theorem md_none : md none = 3 := by simp [none, md]
theorem md_set (s : List UInt8) : md (set s) = 3 := by simp [set, md]

theorem behind_pds (p : Pat) (hp : wf p) (c : UInt8) : ∀ x, x ∈ behind p c → x ∈ pds p := by
  refine ind (P := fun p => ∀ x, x ∈ behind p c → x ∈ pds p) ?_ ?_ ?_ ?_ ?_ p hp
  · simp [behind_none]
  · intro s _ x hx
    rw [behind_set] at hx
    rw [pds_set]
    split at hx
    · exact hx
    · simp at hx
  · intro a b _ _ _ _ ha hb x hx
    rw [behind_rowB] at hx
    rw [pds_rowB, List.mem_append]
    have key : x ∈ putAll [] ((behind a c).map (fun x => row x b)) → x ∈ (pds a).map (fun x => row x b) := fun h => by
      rcases mem_putAll h with h | h
      · simp at h
      · obtain ⟨z, hz, rfl⟩ := List.mem_map.1 h
        exact List.mem_map.2 ⟨z, ha z hz, rfl⟩
    split at hx
    · rcases mem_putAll hx with h | h
      · exact .inl (key h)
      · exact .inr (hb x h)
    · exact .inl (key hx)
  · intro a b _ _ ha hb x hx
    rw [behind_any] at hx
    rw [pds_any, List.mem_append]
    rcases mem_putAll hx with h | h
    · exact .inl (ha x h)
    · exact .inr (hb x h)
  · intro a _ ha x hx
    rw [behind_star] at hx
    rw [pds_star]
    rcases mem_putAll hx with h | h
    · simp at h
    · obtain ⟨z, hz, rfl⟩ := List.mem_map.1 h
      exact List.mem_map.2 ⟨z, ha z hz, rfl⟩

theorem row_kind0 {z b : Pat} (h : z.kind = 0) : row z b = b := by unfold row; rw [if_pos h]
theorem row_kinds {z b : Pat} (h : z.kind ≠ 0) (hb : b.kind ≠ 0) : row z b = rowB z b := by unfold row; rw [if_neg h, if_neg hb]

theorem pds_wf (p : Pat) (hp : wf p) : ∀ q, q ∈ pds p → wf q := by
  refine ind (P := fun p => ∀ q, q ∈ pds p → wf q) ?_ ?_ ?_ ?_ ?_ p hp
  · simp [pds_none]
  · intro s _ q hq; rw [pds_set] at hq; simp only [List.mem_singleton] at hq; subst hq; exact wf_none
  · intro a b wa wb _ _ ha hb q hq
    rw [pds_rowB, List.mem_append] at hq
    rcases hq with h | h
    · obtain ⟨z, hz, rfl⟩ := List.mem_map.1 h; exact wf_row (ha z hz) wb
    · exact hb q h
  · intro a b _ _ ha hb q hq
    rw [pds_any, List.mem_append] at hq
    exact hq.elim (ha q) (hb q)
  · intro a wa ha q hq
    rw [pds_star] at hq
    obtain ⟨z, hz, rfl⟩ := List.mem_map.1 hq; exact wf_row (ha z hz) (wf_star wa)

/-- Behind one of them comes one of them. -/
theorem pds_closed (p : Pat) (hp : wf p) (c : UInt8) : ∀ q, q ∈ pds p → ∀ x, x ∈ behind q c → x ∈ pds p := by
  refine ind (P := fun p => ∀ q, q ∈ pds p → ∀ x, x ∈ behind q c → x ∈ pds p) ?_ ?_ ?_ ?_ ?_ p hp
  · simp [pds_none]
  · intro s _ q hq x hx
    rw [pds_set] at hq; simp only [List.mem_singleton] at hq; subst hq
    simp [behind_none] at hx
  · intro a b wa wb _ kb ha hb q hq x hx
    rw [pds_rowB, List.mem_append] at hq ⊢
    rcases hq with h | h
    · obtain ⟨z, hz, rfl⟩ := List.mem_map.1 h
      by_cases kz : z.kind = 0
      · rw [row_kind0 kz] at hx; exact .inr (behind_pds b wb c x hx)
      · rw [row_kinds kz kb, behind_rowB] at hx
        have key : x ∈ putAll [] ((behind z c).map (fun x => row x b)) → x ∈ (pds a).map (fun x => row x b) := fun h => by
          rcases mem_putAll h with h | h
          · simp at h
          · obtain ⟨u, hu, rfl⟩ := List.mem_map.1 h
            exact List.mem_map.2 ⟨u, ha z hz u hu, rfl⟩
        split at hx
        · rcases mem_putAll hx with h | h
          · exact .inl (key h)
          · exact .inr (behind_pds b wb c x h)
        · exact .inl (key hx)
    · exact .inr (hb q h x hx)
  · intro a b _ _ ha hb q hq x hx
    rw [pds_any, List.mem_append] at hq ⊢
    exact hq.imp (fun h => ha q h x hx) (fun h => hb q h x hx)
  · intro a wa ha q hq x hx
    have hst : ∀ x, x ∈ behind (star a) c → x ∈ pds (star a) := behind_pds (star a) (wf_star wa) c
    rw [pds_star] at hq
    obtain ⟨z, hz, rfl⟩ := List.mem_map.1 hq
    by_cases kz : z.kind = 0
    · rw [row_kind0 kz] at hx; exact hst x hx
    · rw [row_kinds kz (by simp [star]), behind_rowB] at hx
      have key : x ∈ putAll [] ((behind z c).map (fun x => row x (star a))) → x ∈ pds (star a) := fun h => by
        rcases mem_putAll h with h | h
        · simp at h
        · obtain ⟨u, hu, rfl⟩ := List.mem_map.1 h
          rw [pds_star]
          exact List.mem_map.2 ⟨u, ha z hz u hu, rfl⟩
      split at hx
      · rcases mem_putAll hx with h | h
        · exact key h
        · exact hst x h
      · exact key hx

theorem pds_length (p : Pat) (hp : wf p) : (pds p).length ≤ nd p := by
  refine ind (P := fun p => (pds p).length ≤ nd p) ?_ ?_ ?_ ?_ ?_ p hp
  · simp [pds_none]
  · intro s _; simp [pds_set, nd_set]
  · intro a b _ _ _ _ ha hb; rw [pds_rowB, nd_rowB]; simp; omega
  · intro a b _ _ ha hb; rw [pds_any, nd_any]; simp; omega
  · intro a _ ha; rw [pds_star, nd_star]; simpa using ha

theorem ks_pos (p : Pat) (hp : wf p) : 3 ≤ ks p := by
  refine ind (P := fun p => 3 ≤ ks p) ?_ ?_ ?_ ?_ ?_ p hp
  · rw [ks_none]; omega
  · intro s _; rw [ks_set]; omega
  · intro a b _ _ _ _ ha hb; rw [ks_rowB]; omega
  · intro a b _ _ ha hb; rw [ks_any]; omega
  · intro a _ ha; rw [ks_star]; omega

theorem sq_le {a b : Nat} (h : a ≤ b) : a * a ≤ b * b := Nat.mul_le_mul h h

theorem sq_row (a b : Nat) (ha : 3 ≤ a) (hb : 3 ≤ b) : a * a + b + 3 ≤ (a + b + 3) * (a + b + 3) := by
  have h1 : (a + b + 3) * (a + b + 3) = a * a + a * (b + 3) + (b + 3) * (a + b + 3) := by rw [Nat.add_assoc, Nat.mul_add, Nat.add_mul]; simp [Nat.mul_add, Nat.mul_comm]
  have h2 : b + 3 ≤ (b + 3) * (a + b + 3) := Nat.le_mul_of_pos_right _ (by omega)
  omega

theorem sq_star (a : Nat) : a * a + a + 6 ≤ (a + 3) * (a + 3) := by
  have h1 : (a + 3) * (a + 3) = a * a + 6 * a + 9 := by simp [Nat.mul_add, Nat.mul_comm]; omega
  omega

theorem md_sq (p : Pat) (hp : wf p) : md p ≤ ks p * ks p := by
  refine ind (P := fun p => md p ≤ ks p * ks p) ?_ ?_ ?_ ?_ ?_ p hp
  · rw [md_none, ks_none]; omega
  · intro s _; rw [md_set, ks_set]; have := sq_le (show 3 ≤ s.length + 3 by omega); omega
  · intro a b wa wb _ _ ha hb
    rw [md_rowB, ks_rowB]
    have h1 := sq_row (ks a) (ks b) (ks_pos a wa) (ks_pos b wb)
    have h2 := sq_le (show ks b ≤ ks a + ks b + 3 by omega)
    omega
  · intro a b wa wb ha hb
    rw [md_any, ks_any]
    have h1 := sq_le (show ks a ≤ ks a + ks b + 3 by omega)
    have h2 := sq_le (show ks b ≤ ks a + ks b + 3 by omega)
    omega
  · intro a wa ha
    rw [md_star, ks_star]
    have := sq_star (ks a)
    omega

/-- How great the patterns are that may still come, in all three ways. -/
theorem pds_small (p : Pat) (hp : wf p) : ∀ q, q ∈ pds p → ks q ≤ ks p * ks p ∧ md q ≤ ks p * ks p ∧ nd q ≤ nd p * hs p := by
  refine ind (P := fun p => ∀ q, q ∈ pds p → ks q ≤ ks p * ks p ∧ md q ≤ ks p * ks p ∧ nd q ≤ nd p * hs p) ?_ ?_ ?_ ?_ ?_ p hp
  · simp [pds_none]
  · intro s _ q hq
    rw [pds_set] at hq; simp only [List.mem_singleton] at hq; subst hq
    rw [ks_none, ks_set, md_none, nd_none, nd_set]
    have := sq_le (show 3 ≤ s.length + 3 by omega)
    exact ⟨by omega, by omega, by simp [set, hs]⟩
  · intro a b wa wb _ kb ha hb q hq
    have pa := ks_pos a wa
    have pb := ks_pos b wb
    rw [pds_rowB, List.mem_append] at hq
    rw [ks_rowB, nd_rowB, hs_rowB]
    have s1 := sq_row (ks a) (ks b) pa pb
    have s2 := sq_le (show ks b ≤ ks a + ks b + 3 by omega)
    have n1 : nd a * hs a ≤ nd a * max (hs a) (hs b) := Nat.mul_le_mul_left _ (Nat.le_max_left _ _)
    have n2 : nd b * hs b ≤ nd b * max (hs a) (hs b) := Nat.mul_le_mul_left _ (Nat.le_max_right _ _)
    have hb1 : 1 ≤ max (hs a) (hs b) := by
      have : 1 ≤ hs a := by
        obtain ⟨k, s, l⟩ := a
        match l with
        | [] => simp [hs]
        | [_] => simp [hs]
        | [x, y] => 
          refine ind (P := fun p => 1 ≤ hs p) ?_ ?_ ?_ ?_ ?_ _ wa
          · simp [none, hs]
          · intro s _; simp [set, hs]
          · intro a b _ _ _ _ h1 h2; rw [hs_rowB]; omega
          · intro a b _ _ h1 h2; rw [hs_any]; omega
          · intro a _ h1; rw [hs_star]; omega
        | _ :: _ :: _ :: _ => simp [wf] at wa
      omega
    have n3 : nd b ≤ nd b * max (hs a) (hs b) := Nat.le_mul_of_pos_right _ hb1
    rw [Nat.add_mul (nd a) (nd b)]
    rcases hq with h | h
    · obtain ⟨z, hz, rfl⟩ := List.mem_map.1 h
      obtain ⟨i1, i2, i3⟩ := ha z hz
      have hk := ks_row z b
      have hmb := md_sq b wb
      by_cases kz : z.kind = 0
      · rw [row_kind0 kz]
        refine ⟨by have := sq_le (show 1 ≤ ks b by omega); have : ks b ≤ ks b * ks b := Nat.le_mul_of_pos_right _ (by omega); omega, by omega, by omega⟩
      · rw [row_kinds kz kb] at hk ⊢
        rw [md_rowB, nd_rowB]
        exact ⟨by omega, by omega, by omega⟩
    · obtain ⟨i1, i2, i3⟩ := hb q h
      exact ⟨by omega, by omega, by omega⟩
  · intro a b wa wb ha hb q hq
    rw [pds_any, List.mem_append] at hq
    rw [ks_any, nd_any, hs_any, Nat.add_mul (nd a) (nd b)]
    have s1 := sq_le (show ks a ≤ ks a + ks b + 3 by omega)
    have s2 := sq_le (show ks b ≤ ks a + ks b + 3 by omega)
    have n1 : nd a * hs a ≤ nd a * max (hs a) (hs b) := Nat.mul_le_mul_left _ (Nat.le_max_left _ _)
    have n2 : nd b * hs b ≤ nd b * max (hs a) (hs b) := Nat.mul_le_mul_left _ (Nat.le_max_right _ _)
    rcases hq with h | h
    · obtain ⟨i1, i2, i3⟩ := ha q h; exact ⟨by omega, by omega, by omega⟩
    · obtain ⟨i1, i2, i3⟩ := hb q h; exact ⟨by omega, by omega, by omega⟩
  · intro a wa ha q hq
    rw [pds_star] at hq
    rw [ks_star, nd_star, hs_star]
    obtain ⟨z, hz, rfl⟩ := List.mem_map.1 hq
    obtain ⟨i1, i2, i3⟩ := ha z hz
    have hk := ks_row z (star a)
    rw [ks_star] at hk
    have s1 := sq_star (ks a)
    have hm := md_sq a wa
    have n1 : nd a * (hs a + 1) = nd a * hs a + nd a := Nat.mul_succ _ _
    by_cases kz : z.kind = 0
    · rw [row_kind0 kz, ks_star, md_star, nd_star]
      refine ⟨?_, by omega, by omega⟩
      have := sq_le (show 1 ≤ ks a + 3 by omega)
      have : ks a + 3 ≤ (ks a + 3) * (ks a + 3) := Nat.le_mul_of_pos_right _ (by omega)
      omega
    · rw [row_kinds kz (by simp [star])] at hk ⊢
      rw [md_rowB, nd_rowB, nd_star, md_star, ks_star]
      exact ⟨by omega, by omega, by omega⟩

/-- Room for a pattern that is not too great. -/
theorem room (p : Pat) (hp : wf p) (hk : ks p ≤ 1000000000) (hn : nd p * hs p ≤ 400000000) (h1 : 1 ≤ hs p) : Room (p :: pds p) := by
  have hsq : ks p * ks p ≤ 1000000000 * 1000000000 := sq_le hk
  have hnd : nd p ≤ nd p * hs p := Nat.le_mul_of_pos_right _ h1
  refine ⟨?_, ?_, ?_⟩
  · intro q hq c x hx
    rcases List.mem_cons.1 hq with rfl | hq
    · exact List.mem_cons_of_mem _ (behind_pds q hp c x hx)
    · exact List.mem_cons_of_mem _ (pds_closed p hp c q hq x hx)
  · intro q hq
    rcases List.mem_cons.1 hq with rfl | hq
    · have := md_sq q hp; exact ⟨hp, by omega, by omega, by omega⟩
    · obtain ⟨i1, i2, i3⟩ := pds_small p hp q hq
      exact ⟨pds_wf p hp q hq, by omega, by omega, by omega⟩
  · have := pds_length p hp
    simp only [List.length_cons]; omega

end Ls
