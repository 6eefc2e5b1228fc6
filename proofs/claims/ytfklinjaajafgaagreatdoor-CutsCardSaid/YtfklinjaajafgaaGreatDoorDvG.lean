import Derived.Test.YtfklinjaajafgaaGreatDoorDvF
import Derived.Deep.RegionHeld3
import Derived.Deep.DrawnRows
/- thing of the reader. -/
namespace Go.Proofs.YtfklinjaajafgaaGreatDoor
open Go.RowKit

/-- What thing answers. -/
def RThingSaid (s : ByteArray) (a1 : Addr) (z : Nat) : Prop := ∀ (rb i : Nat) (w : World), RB w rb s i z → Env w rb a1 → i ≤ s.size →
  Calls Tryz.prog 141 #[rdV rb] w (RPost w rb s i z a1 (Ls.oneOf (Ls.pat (12 - z)) (rest s i)))

/-- The post of a later place, as one of an earlier. -/
theorem RPost.after {w w1 w2 : World} {rb : Nat} {s : ByteArray} {i j z : Nat} {a1 : Addr} {res res' : Ls.Rd} {e : Ending} (h : RPost w1 rb s j z a1 res' e w2) (hl : w.grownBy w1 (some rb)) (hij : i ≤ j) (hr : res = res') : RPost w rb s i z a1 res e w2 := by
  subst hr
  rcases h with ⟨d, k, v, hr, h1, h2, he, hrep, hl2⟩ | ⟨hr, he, hg⟩
  · exact .inl ⟨d, k, v, hr, by omega, h2, he, hrep.mono (fun m hm => ⟨Nat.le_trans hl.size hm.1, hm.2⟩) (fun _ _ => rfl), hl2.lies, grownBy_trans hl hl2.grown⟩
  · exact .inr ⟨hr, he, grownBy_trans hl hg⟩

theorem RPost.placed {w W : World} {rb : Nat} {s : ByteArray} {i j z : Nat} {a1 : Addr} {res : Ls.Rd} {g : List UInt8} {lo hi : Nat} (hr : res = some (Ls.place g, rest s j)) (hij : i ≤ j) (hj : j ≤ s.size) (hS : SB g lo hi) (hl : RLeft w rb s j z W) : RPost w rb s i z a1 res (.returned (placeV lo hi)) W :=
  .inl ⟨Ls.place g, j, _, hr, hij, hj, rfl, .place hS, hl⟩

set_option maxRecDepth 100000 in
set_option maxHeartbeats 1000000 in
theorem thing_end (s : ByteArray) (hs : s.size ≤ 1048576) (a1 : Addr) (z rb i : Nat) (w : World) (h : RB w rb s i z) (hE : Env w rb a1) (hi : i = s.size) :
    Calls Tryz.prog 141 #[rdV rb] w (RPost w rb s i z a1 (Ls.oneOf (Ls.pat (12 - z)) (rest s i))) := by
  subst hi
  have HR : Hid (Ls.oneOf (Ls.pat (12 - z)) (rest s s.size) = .none) := by show _ = _; rw [rest_ge (by omega)]; rfl
  have HI0 : Hid (In 177 w rb s s.size z (w.alloc (bxO 177 rb))) := In.enter 177 h
  have hn := rnext_no rb s s.size z a1 _ HI0.out.lies (HI0.out.env hE) hs (by omega) (by omega)
  go_enter Tryz.func141, Tryz.ntmps141
  go_wp2_with fail
  refine hn.mono ?_
  rintro e w1 ⟨rfl, hg⟩
  go_wp2_with fail
  exact ⟨rfl, .inr ⟨HR.out, rfl, HI0.out.threw rfl hg⟩⟩

set_option maxRecDepth 100000 in
set_option maxHeartbeats 1000000 in
theorem thing_paren (s : ByteArray) (hs : s.size ≤ 1048576) (a1 : Addr) (z : Nat) (hz : z ≤ 12) (hC : z ≤ 11 → ChoiceSaid s a1 (z + 1)) (rb i : Nat) (w : World) (h : RB w rb s i z) (hE : Env w rb a1) (hi : i < s.size) (hc : nx s i = 40) :
    Calls Tryz.prog 141 #[rdV rb] w (RPost w rb s i z a1 (Ls.oneOf (Ls.pat (12 - z)) (rest s i))) := by
  have HR : Hid (Ls.oneOf (Ls.pat (12 - z)) (rest s i) = innerOf (Ls.pat (12 - z)) (rest s (i + 1))) := by show _ = _; rw [rest_lt hi, hc]; rfl
  have HI0 : Hid (In 177 w rb s i z (w.alloc (bxO 177 rb))) := In.enter 177 h
  have hn := rnext_yes rb s i z _ HI0.out.lies hs hi
  rw [hc] at hn
  clear hc
  go_enter Tryz.func141, Tryz.ntmps141
  go_wp2_with fail
  refine hn.mono ?_
  rintro e w1 ⟨rfl, hl⟩
  have hi1 := HI0.out.go hl
  have b1 := hi1.cell
  go_wp2_with fail
  refine (inner_any s hs a1 z hz hC rb (i + 1) w1 hi1.lies (hi1.env hE) (by omega)).mono ?_
  rintro e w2 (⟨d, j, v, hr, hij, hj, rfl, hrep, hl1⟩ | ⟨hr, rfl, hg⟩)
  · have Hr : Hid (innerOf (Ls.pat (12 - z)) (rest s (i + 1)) = some (d, rest s j)) := hr
    clear hr
    have HP : Hid (Rep w2 (New w1 w2) 0 d [v]) := hrep
    clear hrep
    go_wp2_with fail
    go_ret
    exact RPost.after (.inl ⟨d, j, v, Hr.out, hij, hj, rfl, HP.out, hl1⟩) hi1.left.grown (by omega) HR.out
  · have Hr : Hid (innerOf (Ls.pat (12 - z)) (rest s (i + 1)) = .none) := hr
    clear hr
    go_wp2_with fail
    exact ⟨rfl, RPost.after (.inr ⟨Hr.out, rfl, hg⟩) hi1.left.grown (Nat.le_succ i) HR.out⟩

set_option maxRecDepth 100000 in
set_option maxHeartbeats 1000000 in
theorem thing_class (s : ByteArray) (hs : s.size ≤ 1048576) (a1 : Addr) (z rb i : Nat) (w : World) (h : RB w rb s i z) (hE : Env w rb a1) (hi : i < s.size) (hc : nx s i = 91) :
    Calls Tryz.prog 141 #[rdV rb] w (RPost w rb s i z a1 (Ls.oneOf (Ls.pat (12 - z)) (rest s i))) := by
  have HR : Hid (Ls.oneOf (Ls.pat (12 - z)) (rest s i) = match Ls.cls ((rest s (i + 1)).length + 1) [] (rest s (i + 1)) with | .none => .none | some (g, u) => some (Ls.place g, u)) := by show _ = _; rw [rest_lt hi, hc]; rfl
  have HI0 : Hid (In 177 w rb s i z (w.alloc (bxO 177 rb))) := In.enter 177 h
  have hn := rnext_yes rb s i z _ HI0.out.lies hs hi
  rw [hc] at hn
  clear hc
  go_enter Tryz.func141, Tryz.ntmps141
  go_wp2_with fail
  refine hn.mono ?_
  rintro e w1 ⟨rfl, hl⟩
  have hi1 := HI0.out.go hl
  have b1 := hi1.cell
  go_wp2_with fail
  refine (rclass_any rb s (i + 1) z a1 w1 hi1.lies (hi1.env hE) hs (by omega)).mono ?_
  rintro e w2 (⟨g, j, lo, hi2, hr, hij, hj, rfl, hS, hl1⟩ | ⟨hr, rfl, hg⟩)
  · have Hr : Hid (Ls.oneOf (Ls.pat (12 - z)) (rest s i) = some (Ls.place g, rest s j)) := by show _ = _; rw [HR.out, hr]
    clear hr
    go_wp2_with fail
    go_ret
    exact RPost.placed Hr.out (by omega) hj hS (hi1.go hl1).left
  · have Hr : Hid (Ls.oneOf (Ls.pat (12 - z)) (rest s i) = .none) := by show _ = _; rw [HR.out, hr]
    clear hr
    go_wp2_with fail
    exact ⟨rfl, .inr ⟨Hr.out, rfl, hi1.threw rfl hg⟩⟩

set_option maxRecDepth 100000 in
set_option maxHeartbeats 1000000 in
theorem thing_dot (s : ByteArray) (hs : s.size ≤ 1048576) (a1 : Addr) (z rb i : Nat) (w : World) (h : RB w rb s i z) (hi : i < s.size) (hc : nx s i = 46) :
    Calls Tryz.prog 141 #[rdV rb] w (RPost w rb s i z a1 (Ls.oneOf (Ls.pat (12 - z)) (rest s i))) := by
  have HR : Hid (Ls.oneOf (Ls.pat (12 - z)) (rest s i) = some (Ls.place Ls.az, rest s (i + 1))) := by show _ = _; rw [rest_lt hi, hc]; rfl
  have HI0 : Hid (In 177 w rb s i z (w.alloc (bxO 177 rb))) := In.enter 177 h
  have hn := rnext_yes rb s i z _ HI0.out.lies hs hi
  rw [hc] at hn
  clear hc
  go_enter Tryz.func141, Tryz.ntmps141
  go_wp2_with fail
  refine hn.mono ?_
  rintro e w1 ⟨rfl, hl⟩
  have hi1 := HI0.out.go hl
  go_wp2_with fail
  refine (with_any 0 0 97 122 _ (by decide) (by decide) (by omega) (by omega)).mono ?_
  rintro e w2 ⟨lo, hi2, rfl, h1, h2, h3, hb⟩
  have hSB : SB Ls.az lo hi2 := (SB.with SB.empty h1 h2 (by decide) h3).congr (fun d => (has_rng_az d).symm)
  clear h3
  go_wp2_with fail
  go_ret
  exact RPost.placed HR.out (by omega) (by omega) hSB (hi1.below hb).left

set_option maxRecDepth 100000 in
set_option maxHeartbeats 1000000 in
theorem thing_esc (s : ByteArray) (hs : s.size ≤ 1048576) (a1 : Addr) (z rb i : Nat) (w : World) (h : RB w rb s i z) (hE : Env w rb a1) (hi : i < s.size) (hc : nx s i = 92) :
    Calls Tryz.prog 141 #[rdV rb] w (RPost w rb s i z a1 (Ls.oneOf (Ls.pat (12 - z)) (rest s i))) := by
  have HI0 : Hid (In 177 w rb s i z (w.alloc (bxO 177 rb))) := In.enter 177 h
  have hn := rnext_yes rb s i z _ HI0.out.lies hs hi
  rw [hc] at hn
  rcases Nat.lt_or_ge (i + 1) s.size with hi1 | hi1
  · cases hsg : Ls.sign (nx s (i + 1)) with
    | true =>
      have HR : Hid (Ls.oneOf (Ls.pat (12 - z)) (rest s i) = some (Ls.place [nx s (i + 1)], rest s (i + 1 + 1))) := by
        show _ = _
        rw [rest_lt hi, hc, rest_lt hi1]; simp [Ls.oneOf, hsg]
      have Hsg : Hid (Ls.sign (nx s (i + 1)) = true) := hsg
      clear hc hsg
      go_enter Tryz.func141, Tryz.ntmps141
      go_wp2_with fail
      refine hn.mono ?_
      rintro e w1 ⟨rfl, hl⟩
      have hj1 := HI0.out.go hl
      have HJ1 : Hid (In 177 w rb s (i + 1) z w1) := hj1
      have b1 := hj1.cell
      clear hj1
      have HN : Hid (∀ W, Below w1.heap.size w1 W → Calls Tryz.prog 143 #[.pointer (some ⟨rb, 0, Option.none⟩)] W fun e w' => e = .returned (.int .u8 (nx s (i + 1)).toNat) ∧ In 177 w rb s (i + 1 + 1) z w') := by
        intro W hW
        have hJ := HJ1.out.below hW
        refine (rnext_yes rb s (i + 1) z W hJ.lies hs hi1).mono ?_
        rintro e w' ⟨rfl, hl2⟩
        exact ⟨rfl, hJ.go hl2⟩
      go_wp2_with fail
      go_region_held3 (fun w' => w'.cell? ⟨w.heap.size, 0, Option.none⟩ = some (.pointer (some ⟨rb, 0, Option.none⟩))) (first | assumption | go_keep)
        (first
          | (go_at_call 143; refine (HN.out _ ?_).mono ?_; exact (Below.refl _ _).drew; rintro e w2 ⟨rfl, hj2⟩; have b2 := hj2.cell)
          | (go_at_call 163; refine (rsign_yes rb (nx s (i + 1)) _ Hsg.out).mono ?_; rintro e w3 ⟨⟨lo, hi2, rfl, hSB⟩, hb⟩; have b3 := (hj2.below hb).cell))
      all_goals
        go_wp2_with fail
        go_ret
        exact RPost.placed HR.out (by omega) (by omega) hSB (hj2.below hb).left
    | false =>
      have HR : Hid (Ls.oneOf (Ls.pat (12 - z)) (rest s i) = .none) := by
        show _ = _
        rw [rest_lt hi, hc, rest_lt hi1]; simp [Ls.oneOf, hsg]
      have Hsg : Hid (Ls.sign (nx s (i + 1)) = false) := hsg
      clear hc hsg
      go_enter Tryz.func141, Tryz.ntmps141
      go_wp2_with fail
      refine hn.mono ?_
      rintro e w1 ⟨rfl, hl⟩
      have hj1 := HI0.out.go hl
      have HJ1 : Hid (In 177 w rb s (i + 1) z w1) := hj1
      have b1 := hj1.cell
      clear hj1
      have HN : Hid (∀ W, Below w1.heap.size w1 W → Calls Tryz.prog 143 #[.pointer (some ⟨rb, 0, Option.none⟩)] W fun e w' => e = .returned (.int .u8 (nx s (i + 1)).toNat) ∧ In 177 w rb s (i + 1 + 1) z w') := by
        intro W hW
        have hJ := HJ1.out.below hW
        refine (rnext_yes rb s (i + 1) z W hJ.lies hs hi1).mono ?_
        rintro e w' ⟨rfl, hl2⟩
        exact ⟨rfl, hJ.go hl2⟩
      have HS : Hid (∀ W, In 177 w rb s (i + 1 + 1) z W → Calls Tryz.prog 163 #[rdV rb, .int .u8 (nx s (i + 1)).toNat] W (Threw w rb a1)) := by
        intro W hJ
        refine (rsign_no rb (nx s (i + 1)) a1 W (hJ.env hE) Hsg.out).mono ?_
        rintro e w' ⟨rfl, hg⟩
        exact ⟨rfl, hJ.threw rfl hg⟩
      go_wp2_with fail
      refine wp_region_held_drew (S := fun w' => w'.cell? ⟨w.heap.size, 0, Option.none⟩ = some (.pointer (some ⟨rb, 0, Option.none⟩))) (by kernel_rfl) (by simp [b1]) (fun hHeld => ?_)
      refine wpAnyH_take (i := 0) (oi := ⟨_, _, _, _, _, _⟩) (v := rdV rb) rfl (by kernel_rfl) (by kernel_rfl) (by kernel_rfl) (fun _ _ _ h => h) (Or.inl ⟨by rfl, fun w' hSw => by go_simp⟩) hHeld ?_
      simp only [Act.put, List.setIfInBounds_toArray, List.set_cons_zero, List.set_cons_succ]
      refine wpAnyH_take (i := 1) (oi := ⟨_, _, _, _, _, _⟩) (v := .pointer (some ⟨w.heap.size, 0, Option.none⟩)) rfl (by kernel_rfl) (by kernel_rfl) (by kernel_rfl) (fun _ _ _ h => h) (Or.inl ⟨by rfl, fun w' hSw => by go_simp⟩) hHeld ?_
      simp only [Act.put, List.setIfInBounds_toArray, List.set_cons_zero, List.set_cons_succ]
      refine wpAnyH_take (i := 2) (oi := ⟨_, _, _, _, _, _⟩) (v := .pointer (some ⟨rb, 0, Option.none⟩)) rfl (by kernel_rfl) (by kernel_rfl) (by kernel_rfl) (fun _ _ _ h => h) (Or.inl ⟨by rfl, fun w' hSw => by go_simp⟩) hHeld ?_
      simp only [Act.put, List.setIfInBounds_toArray, List.set_cons_zero, List.set_cons_succ]
      refine wpAnyH_ready (rs := [3]) (by kernel_rfl) (by simp) (AllReadyH.cons (o := ⟨_, _, _, _, _, _⟩) rfl (fun K hK => ?_) AllReadyH.nil)
      go_simp
      refine (HN.out _ (Below.refl _ _).drew).mono ?_
      rintro e w2 ⟨rfl, hj2⟩
      have b2 := hj2.cell
      go_simp
      refine hK.out _ _ b2 (fun hHeld => ?_)
      refine wpAnyH_ready (rs := [4]) (by kernel_rfl) (by simp) (AllReadyH.cons (o := ⟨_, _, _, _, _, _⟩) rfl (fun K hK => ?_) AllReadyH.nil)
      go_simp
      refine (HS.out _ hj2).mono ?_
      rintro e w3 ⟨rfl, hg⟩
      go_wp2_with fail
      exact ⟨rfl, .inr ⟨HR.out, rfl, hg⟩⟩
  · have HR : Hid (Ls.oneOf (Ls.pat (12 - z)) (rest s i) = .none) := by
      show _ = _
      rw [rest_lt hi, hc, rest_ge hi1]; simp [Ls.oneOf]
    clear hc
    go_enter Tryz.func141, Tryz.ntmps141
    go_wp2_with fail
    refine hn.mono ?_
    rintro e w1 ⟨rfl, hl⟩
    have hj1 := HI0.out.go hl
    have HJ1 : Hid (In 177 w rb s (i + 1) z w1) := hj1
    have b1 := hj1.cell
    clear hj1
    have HN : Hid (∀ W, Below w1.heap.size w1 W → Calls Tryz.prog 143 #[.pointer (some ⟨rb, 0, Option.none⟩)] W (Threw w rb a1)) := by
      intro W hW
      have hJ := HJ1.out.below hW
      refine (rnext_no rb s (i + 1) z a1 W hJ.lies (hJ.env hE) hs hi1 (by omega)).mono ?_
      rintro e w' ⟨rfl, hg⟩
      exact ⟨rfl, hJ.threw rfl hg⟩
    go_wp2_with fail
    refine wp_region_held_drew (S := fun w' => w'.cell? ⟨w.heap.size, 0, Option.none⟩ = some (.pointer (some ⟨rb, 0, Option.none⟩))) (by kernel_rfl) (by simp [b1]) (fun hHeld => ?_)
    refine wpAnyH_take (i := 0) (oi := ⟨_, _, _, _, _, _⟩) (v := rdV rb) rfl (by kernel_rfl) (by kernel_rfl) (by kernel_rfl) (fun _ _ _ h => h) (Or.inl ⟨by rfl, fun w' hSw => by go_simp⟩) hHeld ?_
    simp only [Act.put, List.setIfInBounds_toArray, List.set_cons_zero, List.set_cons_succ]
    refine wpAnyH_take (i := 1) (oi := ⟨_, _, _, _, _, _⟩) (v := .pointer (some ⟨w.heap.size, 0, Option.none⟩)) rfl (by kernel_rfl) (by kernel_rfl) (by kernel_rfl) (fun _ _ _ h => h) (Or.inl ⟨by rfl, fun w' hSw => by go_simp⟩) hHeld ?_
    simp only [Act.put, List.setIfInBounds_toArray, List.set_cons_zero, List.set_cons_succ]
    refine wpAnyH_take (i := 2) (oi := ⟨_, _, _, _, _, _⟩) (v := .pointer (some ⟨rb, 0, Option.none⟩)) rfl (by kernel_rfl) (by kernel_rfl) (by kernel_rfl) (fun _ _ _ h => h) (Or.inl ⟨by rfl, fun w' hSw => by go_simp⟩) hHeld ?_
    simp only [Act.put, List.setIfInBounds_toArray, List.set_cons_zero, List.set_cons_succ]
    refine wpAnyH_ready (rs := [3]) (by kernel_rfl) (by simp) (AllReadyH.cons (o := ⟨_, _, _, _, _, _⟩) rfl (fun K hK => ?_) AllReadyH.nil)
    go_simp
    refine (HN.out _ (Below.refl _ _).drew).mono ?_
    rintro e w2 ⟨rfl, hg⟩
    go_wp2_with fail
    exact ⟨rfl, .inr ⟨HR.out, rfl, hg⟩⟩

/-- The signs that the reader calls special. -/
def specials : ByteArray := ⟨#[40, 41, 91, 93, 42, 43, 63, 124, 47, 34, 92]⟩

theorem special_closer (c : UInt8) (h1 : c ≠ 40) (h2 : c ≠ 91) (h3 : c ≠ 92) : decide (0 ≤ firstIdx specials c) = Ls.closer c := by
  rw [firstIdx_nonneg, Bool.eq_iff_iff]
  simp [specials, Ls.closer]
  constructor
  · rintro (h | h | h | h | h | h | h | h | h | h | h) <;> simp_all
  · rintro (((((((h | h) | h) | h) | h) | h) | h) | h) <;> simp_all

set_option maxRecDepth 100000 in
set_option maxHeartbeats 1000000 in
theorem thing_plain (s : ByteArray) (hs : s.size ≤ 1048576) (a1 : Addr) (z rb i : Nat) (w : World) (h : RB w rb s i z) (hE : Env w rb a1) (hi : i < s.size) (h1 : nx s i ≠ 40) (h2 : nx s i ≠ 91) (h3 : nx s i ≠ 46) (h4 : nx s i ≠ 92) :
    Calls Tryz.prog 141 #[rdV rb] w (RPost w rb s i z a1 (Ls.oneOf (Ls.pat (12 - z)) (rest s i))) := by
  have HI0 : Hid (In 177 w rb s i z (w.alloc (bxO 177 rb))) := In.enter 177 h
  have hn := rnext_yes rb s i z _ HI0.out.lies hs hi
  have hR : Ls.oneOf (Ls.pat (12 - z)) (rest s i) = if Ls.closer (nx s i) = true ∨ Ls.sign (nx s i) = false then .none else some (Ls.place [nx s i], rest s (i + 1)) := by
    rw [rest_lt hi]; simp [Ls.oneOf, h1, h2, h3, h4]
  have HR : Hid _ := hR
  clear hR
  have e1 : (((nx s i).toNat : Int) == 40) = false := by rw [beq_eq_false_iff_ne]; intro e; exact h1 (UInt8.toNat_inj.1 (by simpa using (by omega : (nx s i).toNat = 40)))
  have e2 : (((nx s i).toNat : Int) == 91) = false := by rw [beq_eq_false_iff_ne]; intro e; exact h2 (UInt8.toNat_inj.1 (by simpa using (by omega : (nx s i).toNat = 91)))
  have e3 : (((nx s i).toNat : Int) == 46) = false := by rw [beq_eq_false_iff_ne]; intro e; exact h3 (UInt8.toNat_inj.1 (by simpa using (by omega : (nx s i).toNat = 46)))
  have e4 : (((nx s i).toNat : Int) == 92) = false := by rw [beq_eq_false_iff_ne]; intro e; exact h4 (UInt8.toNat_inj.1 (by simpa using (by omega : (nx s i).toNat = 92)))
  have hsp := special_closer (nx s i) h1 h2 h4
  clear h1 h2 h3 h4
  have HI : Hid (∀ W, Calls Tryz.prog 164 #[.string specials, .int .u8 (nx s i).toNat] W fun e w' => e = .returned (.int .i64 (firstIdx specials (nx s i))) ∧ w' = W) := fun W => index_any (nx s i) specials W
  generalize firstIdx specials (nx s i) = q at *
  cases hcl : Ls.closer (nx s i) with
  | true =>
    have HN : Hid (Ls.oneOf (Ls.pat (12 - z)) (rest s i) = .none) := by show _ = _; rw [HR.out, if_pos (.inl hcl)]
    rw [hcl] at hsp
    have hq : 0 ≤ q := of_decide_eq_true hsp
    clear hcl hsp
    go_enter Tryz.func141, Tryz.ntmps141
    go_wp2_with fail
    refine hn.mono ?_
    rintro e w1 ⟨rfl, hl⟩
    have hi1 := HI0.out.go hl
    have b1 := hi1.cell
    go_wp2_with fail
    refine (HI.out _).mono ?_
    rintro e w2 ⟨rfl, rfl⟩
    go_wp2_with fail
    refine (fail_any _ a1 _ (hi1.env hE).sc).mono ?_
    rintro e w3 ⟨rfl, rfl⟩
    go_wp2_with fail
    exact ⟨rfl, .inr ⟨HN.out, rfl, hi1.left.grown⟩⟩
  | false =>
    rw [hcl] at hsp
    have hq : ¬ 0 ≤ q := of_decide_eq_false hsp
    cases hsg : Ls.sign (nx s i) with
    | true =>
      have HN : Hid (Ls.oneOf (Ls.pat (12 - z)) (rest s i) = some (Ls.place [nx s i], rest s (i + 1))) := by show _ = _; rw [HR.out, if_neg (by rw [hcl, hsg]; simp)]
      have Hsg : Hid _ := hsg
      clear hcl hsp hsg
      go_enter Tryz.func141, Tryz.ntmps141
      go_wp2_with fail
      refine hn.mono ?_
      rintro e w1 ⟨rfl, hl⟩
      have hi1 := HI0.out.go hl
      have b1 := hi1.cell
      go_wp2_with fail
      refine (HI.out _).mono ?_
      rintro e w2 ⟨rfl, rfl⟩
      go_wp2_with fail
      refine (rsign_yes rb (nx s i) _ Hsg.out).mono ?_
      rintro e w3 ⟨⟨lo, hi2, rfl, hSB⟩, hb⟩
      go_wp2_with fail
      go_ret
      exact RPost.placed HN.out (by omega) (by omega) hSB (hi1.below hb).left
    | false =>
      have HN : Hid (Ls.oneOf (Ls.pat (12 - z)) (rest s i) = .none) := by show _ = _; rw [HR.out, if_pos (.inr hsg)]
      have Hsg : Hid _ := hsg
      clear hcl hsp hsg
      go_enter Tryz.func141, Tryz.ntmps141
      go_wp2_with fail
      refine hn.mono ?_
      rintro e w1 ⟨rfl, hl⟩
      have hi1 := HI0.out.go hl
      have b1 := hi1.cell
      go_wp2_with fail
      refine (HI.out _).mono ?_
      rintro e w2 ⟨rfl, rfl⟩
      go_wp2_with fail
      refine (rsign_no rb (nx s i) a1 _ (hi1.env hE) Hsg.out).mono ?_
      rintro e w3 ⟨rfl, hg⟩
      go_wp2_with fail
      exact ⟨rfl, .inr ⟨HN.out, rfl, hi1.threw rfl hg⟩⟩

theorem rthing_any (s : ByteArray) (hs : s.size ≤ 1048576) (a1 : Addr) (z : Nat) (hz : z ≤ 12) (hC : z ≤ 11 → ChoiceSaid s a1 (z + 1)) : RThingSaid s a1 z := by
  intro rb i w h hE hi
  rcases Nat.lt_or_ge i s.size with hi1 | hi1
  · by_cases h1 : nx s i = 40
    · exact thing_paren s hs a1 z hz hC rb i w h hE hi1 h1
    · by_cases h2 : nx s i = 91
      · exact thing_class s hs a1 z rb i w h hE hi1 h2
      · by_cases h3 : nx s i = 46
        · exact thing_dot s hs a1 z rb i w h hi1 h3
        · by_cases h4 : nx s i = 92
          · exact thing_esc s hs a1 z rb i w h hE hi1 h4
          · exact thing_plain s hs a1 z rb i w h hE hi1 h1 h2 h3 h4
  · exact thing_end s hs a1 z rb i w h hE (by omega)

end Go.Proofs.YtfklinjaajafgaaGreatDoor
