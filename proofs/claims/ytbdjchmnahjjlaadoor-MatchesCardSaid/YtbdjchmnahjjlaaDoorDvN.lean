import Derived.Test.YtbdjchmnahjjlaaDoorDvM
/- Read. -/
namespace Go.Proofs.YtbdjchmnahjjlaaDoor
open Go.RowKit Go.Extern

/-- Few nodes. -/
def Few (P : List UInt8 → Ls.Rd) : Prop := ∀ r d t, P r = some (d, t) → dn d + 4 * t.length ≤ 4 * r.length + 2

theorem dn_place (s : List UInt8) : dn (Ls.place s) = 1 := by simp [Ls.place, dn]
theorem dn_rnil : dn Ls.rnil = 1 := by simp [Ls.rnil, dn]

theorem oneOf_few {P : List UInt8 → Ls.Rd} (hP : Few P) {r : List UInt8} {d : Ls.D} {t : List UInt8} (h : Ls.oneOf P r = some (d, t)) : dn d + 4 * t.length + 1 ≤ 4 * r.length := by
  cases r with
  | nil => simp [Ls.oneOf] at h
  | cons c r =>
    unfold Ls.oneOf at h
    dsimp only at h
    split at h
    · split at h
      · simp at h
      · rename_i e u he
        have h1 := hP _ _ _ he
        split at h
        · rename_i h41
          have := Ls.tail_len h41
          simp at h; obtain ⟨rfl, rfl⟩ := h
          simp only [List.length_cons]; omega
        · simp at h
    · split at h
      · split at h
        · simp at h
        · rename_i e u he
          have h1 := Ls.cls_suf _ _ _ _ _ he
          simp at h; obtain ⟨rfl, rfl⟩ := h
          rw [dn_place]; simp only [List.length_cons]; omega
      · split at h
        · simp at h; obtain ⟨rfl, rfl⟩ := h; rw [dn_place]; simp only [List.length_cons]; omega
        · split at h
          · split at h
            · simp at h
            · split at h
              · simp at h; obtain ⟨rfl, rfl⟩ := h
                rw [dn_place]; simp only [List.length_cons]; omega
              · simp at h
          · split at h
            · simp at h
            · simp at h; obtain ⟨rfl, rfl⟩ := h; rw [dn_place]; simp only [List.length_cons]; omega

theorem thing_few {P : List UInt8 → Ls.Rd} (hP : Few P) {r : List UInt8} {d : Ls.D} {t : List UInt8} (h : Ls.thing P r = some (d, t)) : dn d + 4 * t.length + 1 ≤ 4 * r.length := by
  rw [Ls.thing] at h
  split at h
  · simp at h
  · rename_i a u hu
    have h1 := oneOf_few hP hu
    split at h
    · rename_i hx
      have := Ls.tail_len hx
      simp at h; obtain ⟨rfl, rfl⟩ := h; rw [dn_rep]; omega
    · split at h
      · rename_i hx
        have := Ls.tail_len hx
        simp at h; obtain ⟨rfl, rfl⟩ := h; rw [dn_rep]; omega
      · split at h
        · rename_i hx
          have := Ls.tail_len hx
          simp at h; obtain ⟨rfl, rfl⟩ := h; rw [dn_rep]; omega
        · simp at h; obtain ⟨rfl, rfl⟩ := h; exact h1

theorem things_few {P : List UInt8 → Ls.Rd} (hP : Few P) : (n : Nat) → (r : List UInt8) → (d : Ls.D) → (t : List UInt8) → Ls.things P n r = some (d, t) → dn d + 4 * t.length ≤ 4 * r.length + 1
  | 0, _, _, _, h => by simp [Ls.things] at h
  | n + 1, r, d, t, h => by
    rw [Ls.things] at h
    split at h
    · simp at h; obtain ⟨rfl, rfl⟩ := h; rw [dn_rnil]; omega
    · split at h
      · simp at h
      · rename_i a r1 h1
        have h2 := thing_few hP h1
        split at h
        · simp at h
        · rename_i b r2 h3
          have h4 := things_few hP n r1 b r2 h3
          simp at h; obtain ⟨rfl, rfl⟩ := h; rw [dn_rcons]; omega

theorem alts_few {P : List UInt8 → Ls.Rd} (hP : Few P) : (n : Nat) → (r : List UInt8) → (d : Ls.D) → (t : List UInt8) → Ls.alts P n r = some (d, t) → dn d + 4 * t.length ≤ 4 * r.length + 2
  | 0, _, _, _, h => by simp [Ls.alts] at h
  | n + 1, r, d, t, h => by
    rw [Ls.alts] at h
    split at h
    · simp at h
    · rename_i a r1 h1
      have h2 := things_few hP _ _ _ _ h1
      split at h
      · rename_i hx
        have := Ls.tail_len hx
        split at h
        · simp at h
        · rename_i b r3 h3
          have h4 := alts_few hP n _ b r3 h3
          simp at h; obtain ⟨rfl, rfl⟩ := h; rw [dn_ccons]; omega
      · simp at h; obtain ⟨rfl, rfl⟩ := h; rw [dn_clast]; omega

theorem pat_few : (d : Nat) → Few (Ls.pat d)
  | 0 => fun r e t h => by simp [Ls.pat] at h
  | d + 1 => fun r e t h => alts_few (pat_few d) _ _ _ _ h

theorem readAll_few {l : List UInt8} {d : Ls.D} (h : readAll l = some d) : dn d ≤ 4 * l.length + 2 ∧ Ls.dsize d ≤ l.length := by
  unfold readAll at h
  split at h
  · cases h
  · rename_i d' t hp
    split at h
    · simp at h; subst h
      have h1 := pat_few _ _ _ _ hp
      have h2 := Ls.pat_siz _ _ _ _ hp
      omega
    · cases h

/-- Which error. -/
def errA (a0 a1 a2 : Addr) (n : Nat) : Addr := if n = 1 then a0 else if n = 2 then a1 else a2

/-- What Read answers. -/
def ReadPost (s : ByteArray) (a0 a1 a2 : Addr) (w : World) : Ending → World → Prop := fun e w' => Below w.heap.size w w' ∧
  ((readErr s.data.toList = 0 ∧ ∃ d v, readAll s.data.toList = some d ∧ e = .returned (.tuple #[v, .nilIface]) ∧ Rep w' (New w w') 0 d [v]) ∨
   (readErr s.data.toList ≠ 0 ∧ e = .returned (.tuple #[.nilIface, errS (errA a0 a1 a2 (readErr s.data.toList))])))

set_option maxRecDepth 100000 in
set_option maxHeartbeats 1000000 in
theorem Read_any (s : ByteArray) (hs : s.size ≤ 1048576) (w : World) (a0 a1 a2 : Addr) (hS : Sent w a0 a1 a2) :
    Calls Tryd.prog 13 #[.string s] w (ReadPost s a0 a1 a2 w) := by
  have c0 := hS.c0
  by_cases h120 : 120 < s.size
  · have hd : (120 : Int) < (s.size : Int) := by omega
    have HE : Hid (readErr s.data.toList = 1) := by show _ = _; unfold readErr; rw [if_pos (by simpa using h120)]
    go_enter Tryd.func13, Tryd.ntmps13
    go_wp2_with fail
    go_quiet (fail)
    go_wp2_with fail
    go_ret2
    refine ⟨below_drewN _, .inr ⟨by rw [HE.out]; omega, by rw [HE.out]; rfl⟩⟩
  · have hd : ¬ (120 : Int) < (s.size : Int) := by omega
    have HE : Hid (readErr s.data.toList = match readAll s.data.toList with | .none => 2 | some d => if 24 < Ls.dsize d then 3 else 0) := by
      show _ = _; unfold readErr; rw [if_neg (by simpa using h120)]; rfl
    have hne : ∀ w, (binOp .neq 37 (errS a1) .nilIface).run Tryd.prog w = .ok (.bool true) w := fun w => by kernel_rfl
    have hnn : ∀ w, (binOp .neq 37 .nilIface .nilIface).run Tryd.prog w = .ok (.bool false) w := fun w => by kernel_rfl
    have hW := whole_any s hs a1 w hS.c1
    go_enter Tryd.func13, Tryd.ntmps13
    go_wp2_with fail
    refine hW.mono ?_
    rintro e w1 ⟨hb, ⟨d, v, hr, rfl, hrep⟩ | ⟨hr, rfl⟩⟩
    · rw [hr] at HE
      have Hr : Hid _ := hr
      have hfew := readAll_few hr
      clear hr
      obtain ⟨ty, x, rfl⟩ := hrep.iface
      obtain ⟨f, hm, hcf, hf⟩ := size_any (dn d) d (Nat.le_refl _) (by have := hfew.1; simp at this; omega) (by have := hfew.2; simp at this; omega) w1 (New w w1) ty x (fun k hk => hk.2) hrep
      have Hrep : Hid _ := hrep
      clear hrep hW
      go_wp2_with fail
      refine hf.mono ?_
      rintro e w2 ⟨rfl, hb2⟩
      have hS2 := hS.below (Below.join hb hb2)
      have c2 := hS2.c2
      by_cases h24 : 24 < Ls.dsize d
      · have hd2 : (24 : Int) < (Ls.dsize d : Int) := by omega
        have HE2 : Hid (readErr s.data.toList = 3) := by show _ = _; rw [HE.out, if_pos h24]
        go_wp2_with fail
        go_quiet (fail)
        go_wp2_with fail
        go_ret2
        exact ⟨Below.join (Below.join hb hb2) (below_drewN _), .inr ⟨by rw [HE2.out]; omega, by rw [HE2.out]; rfl⟩⟩
      · have hd2 : ¬ (24 : Int) < (Ls.dsize d : Int) := by omega
        have HE2 : Hid (readErr s.data.toList = 0) := by show _ = _; rw [HE.out, if_neg h24]
        go_wp2_with fail
        go_ret2
        exact ⟨Below.join hb hb2, .inl ⟨HE2.out, d, _, Hr.out, rfl, Hrep.out.mono (fun k hk => ⟨hk.1, Nat.lt_of_lt_of_le hk.2 hb2.size⟩) (fun k hk => hb2.block k hk.2)⟩⟩
    · have HE2 : Hid (readErr s.data.toList = 2) := by show _ = _; rw [HE.out, hr]
      clear hr hW
      go_wp2_with fail
      go_ret2
      exact ⟨hb, .inr ⟨by rw [HE2.out]; omega, by rw [HE2.out]; rfl⟩⟩

end Go.Proofs.YtbdjchmnahjjlaaDoor
