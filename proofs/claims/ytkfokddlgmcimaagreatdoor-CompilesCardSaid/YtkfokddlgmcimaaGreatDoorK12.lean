import Derived.Test.YtkfokddlgmcimaaGreatDoorK11
set_option maxRecDepth 100000
set_option maxHeartbeats 4000000
namespace Go.Proofs.YtkfokddlgmcimaaGreatDoor
open Go.RowKit
def roundR (Q : List UInt8 -> Ls.Rl) (r : List UInt8) : Ls.Rl :=
 match Q r with
 | .none => .none
 | some (a, u) =>
  if u.head? = some 126 then
   match Q u.tail with
   | .none => .none
   | some (b, v) => if v.head? = some 41 then some (Ls.changeL a b, v.tail) else .none
  else if u.head? = some 41 then some (a, u.tail) else .none
theorem round_none {Q : List UInt8 -> Ls.Rl} {r : List UInt8} (h : Q r = .none) : roundR Q r = .none := by
 unfold roundR
 rw [h]
section
variable {Q : List UInt8 -> Ls.Rl} {r : List UInt8} {s : ByteArray} {l : Ls.Ln} {j : Nat}
theorem round_plain (h : Q r = some (l, rest s j)) (h1 : sees s j 126 = false) (h2 : sees s j 41 = true) : roundR Q r = some (l, rest s (j + 1)) := by
 unfold roundR
 rw [h]
 dsimp only
 rw [if_neg (by rw [sees_head, h1]; simp), if_pos (sees_head.2 h2), rest_tail]
theorem round_open (h : Q r = some (l, rest s j)) (h1 : sees s j 126 = false) (h2 : sees s j 41 = false) : roundR Q r = .none := by
 unfold roundR
 rw [h]
 dsimp only
 rw [if_neg (by rw [sees_head, h1]; simp), if_neg (by rw [sees_head, h2]; simp)]
theorem round_bad (h : Q r = some (l, rest s j)) (h1 : sees s j 126 = true) (h2 : Q (rest s (j + 1)) = .none) : roundR Q r = .none := by
 unfold roundR
 rw [h]
 dsimp only
 rw [if_pos (sees_head.2 h1), rest_tail, h2]
theorem round_two (h : Q r = some (l, rest s j)) (h1 : sees s j 126 = true) {m : Ls.Ln} {k : Nat} (h2 : Q (rest s (j + 1)) = some (m, rest s k)) : roundR Q r = if sees s k 41 = true then some (Ls.changeL l m, rest s (k + 1)) else .none := by
 unfold roundR
 rw [h]
 dsimp only
 rw [if_pos (sees_head.2 h1), rest_tail, h2]
 dsimp only
 cases h3 : sees s k 41 with
 | true => rw [if_pos (sees_head.2 h3), rest_tail]; simp
 | false => rw [if_neg (by rw [sees_head, h3]; simp)]; simp
end
theorem round_any (s : ByteArray) (hs : s.size <= 120) (a1 : Addr) (z : Nat) (hz : z <= 12) (hL : z <= 11 -> PLensSaid s a1 (z + 1)) (rb i : Nat) (w : World) (h : RB w rb s i z) (hE : Env w rb a1) (hi : i <= s.size) :
  Calls Tryz.prog 130 #[rdV rb] w (PlPost w rb s i z a1 (roundR (Ls.lensR (12 - z)) (rest s i))) := by
 have HI0 : Hid (Inp w rb s i z (inpW w rb)) := Inp.enter h
 have hz0 : (inpW w rb).heap.size = w.heap.size + 1 + 1 := by simp
 have HE : Hid (Env w rb a1) := hE
 by_cases h12 : z = 12
 ·subst h12
  have HN : Hid (roundR (Ls.lensR (12 - 12)) (rest s i) = .none) := rfl
  have hO := open_no rb s i a1 _ HI0.out.lies (HI0.out.env hE)
  go_enter Tryz.func130, Tryz.ntmps130
  go_wp2_with fail
  refine hO.mono ?_
  rintro e w3 ⟨rfl, hg⟩
  go_wp2_with fail
  exact ⟨rfl, .inr ⟨HN.out, rfl, HI0.out.threw rfl hg⟩⟩
 ·have HL : Hid (PLensSaid s a1 (z + 1)) := hL (by omega)
  have hO := open_yes rb s i z _ HI0.out.lies (by omega)
  clear hL hE h
  go_enter Tryz.func130, Tryz.ntmps130
  go_wp2_with fail
  refine hO.mono ?_
  rintro e w1 ⟨rfl, hl1⟩
  have hI1 := HI0.out.go hl1
  have b1 := hI1.cell
  clear hO
  go_wp2_with fail
  refine (HL.out rb i w1 hI1.lies (hI1.env HE.out) hi).mono ?_
  rintro e w2 (⟨l, j, f, caps, hr, hij, hj, rfl, hp, hl2⟩ | ⟨hr, rfl, hg⟩)
  ·rw [show 13 - (z + 1) = 12 - z from by omega] at hr
   have Hr : Hid (Ls.lensR (12 - z) (rest s i) = some (l, rest s j)) := hr
   have hI2 := hI1.go hl2
   have hb3 := below_alloc1 w2 (plO (Ls.lsize l) f caps)
   have hx3 : Blk (w2.alloc (plO (Ls.lsize l) f caps)) w2.heap.size #[.int .i64 (Ls.lsize l), .func (.func f) #[] caps] 119 := Blk.new w2 _ _
   have hI3 := hI2.below hb3
   have hz3 : (w2.alloc (plO (Ls.lsize l) f caps)).heap.size = w2.heap.size + 1 := by simp
   have hz1 := hI1.size
   have hz2 := hl2.grown.size
   have HP3 : Hid (PlanV (w2.alloc (plO (Ls.lsize l) f caps)) (fun k => w.heap.size + 1 < k /\ k < w2.heap.size) l (.func (.func f) #[] caps)) := PlanV.mono (fun k hk => ⟨by have := hk.1; omega, hk.2⟩) (fun k hk => hb3.block k hk.2) _ _ hp
   clear hr b1 hp hl2 hb3
   go_upto_region 3 with (fail)
   generalize w2.alloc (plO (Ls.lsize l) f caps) = w3 at *
   have b3 := hI3.cell
   have HX3 : Hid (Blk w3 w2.heap.size #[.int .i64 (Ls.lsize l), .func (.func f) #[] caps] 119) := hx3
   have HI3 : Hid (Inp w rb s j (z + 1) w3) := hI3
   have ho := hI3.inn.old
   clear hx3 hI3 hI2 hI1
   cases h126 : sees s j 126 with
   | false =>
    have hsk := skip_no rb s j (z + 1) 126 w3 HI3.out.lies (by omega) (by omega) h126
    have H126 : Hid (sees s j 126 = false) := h126
    clear h126
    go_wp2_with fail
    refine hsk.mono ?_
    rintro e w4 ⟨rfl, hl4⟩
    have hI4 := HI3.out.go hl4
    have hx4 := HX3.out.of (hl4.grown.block _ (by omega) (by simp; omega))
    have b4 := hI4.cell
    have hz4 := hl4.grown.size
    have HX4 : Hid (Blk w4 w2.heap.size #[.int .i64 (Ls.lsize l), .func (.func f) #[] caps] 119) := hx4
    have HI4 : Hid (Inp w rb s j (z + 1) w4) := hI4
    have HP4 : Hid (PlanV w4 (fun k => w.heap.size + 1 < k /\ k < w2.heap.size) l (.func (.func f) #[] caps)) := PlanV.mono (fun k hk => hk) (fun k hk => hl4.grown.block k (by have := hk.2; omega) (by have := hk.1; simp; omega)) _ _ HP3.out
    clear hx4 hI4 b3 hsk hl4
    cases hse : sees s j 41 with
    | true =>
     have HN : Hid (roundR (Ls.lensR (12 - z)) (rest s i) = some (l, rest s (j + 1))) := round_plain Hr.out H126.out hse
     have hj2 := (sees_true hse).1
     have hcl := close_yes rb s j z 41 w4 HI4.out.lies (by omega) (by omega) hse
     clear hse
     go_wp2_with fail
     refine hcl.mono ?_
     rintro e w5 ⟨rfl, hl5⟩
     have hI5 := HI4.out.go hl5
     have hx5 := HX4.out.of (hl5.grown.block _ (by omega) (by simp; omega))
     obtain ⟨x0, x1, y0, y1⟩ := hx5.two
     obtain ⟨r0, r1, s0, s1⟩ := hI5.res.two
     have hz5 := hl5.grown.size
     have HP : Hid (PlPost w rb s i z a1 (roundR (Ls.lensR (12 - z)) (rest s i)) (.returned (planA (Ls.lsize l) (.func (.func f) #[] caps))) ((w5.setCell ⟨w.heap.size + 1, 0, none⟩ (.int .i64 (Ls.lsize l))).setCell ⟨w.heap.size + 1, 1, none⟩ (.func (.func f) #[] caps))) := by
      refine hI5.ret HN.out (by omega) (by omega) (PlanV.mono (fun k hk => ⟨hk.1, by have := hk.2; omega⟩) (fun k hk => hl5.grown.block k (by have := hk.2; omega) (by have := hk.1; simp; omega)) _ _ HP4.out)
     clear hx5 hI5 hcl
     go_wp2_with fail
     exact bodyPost_ret (v := planA (Ls.lsize l) (.func (.func f) #[] caps)) (by simp [results, Tryz.results130, go_sem, r0, r1]) rfl HP.out
    | false =>
     have HN : Hid (roundR (Ls.lensR (12 - z)) (rest s i) = .none) := round_open Hr.out H126.out hse
     have hcl := close_no rb s j (z + 1) 41 a1 w4 HI4.out.lies (HI4.out.env HE.out) (by omega) (by omega) hse
     clear hse
     go_wp2_with fail
     refine hcl.mono ?_
     rintro e w5 ⟨rfl, hg⟩
     go_wp2_with fail
     exact ⟨rfl, .inr ⟨HN.out, rfl, HI4.out.threw rfl hg⟩⟩
   | true =>
    have hsk := skip_yes rb s j (z + 1) 126 w3 HI3.out.lies (by omega) h126
    have H126 : Hid (sees s j 126 = true) := h126
    have hj1 := (sees_true h126).1
    clear h126
    go_wp2_with fail
    refine hsk.mono ?_
    rintro e w4 ⟨rfl, hl4⟩
    have hI4 := HI3.out.go hl4
    have hx4 := HX3.out.of (hl4.grown.block _ (by omega) (by simp; omega))
    have b4 := hI4.cell
    have hz4 := hl4.grown.size
    obtain ⟨x0, x1, y0, y1⟩ := hx4.two
    have HX4 : Hid (Blk w4 w2.heap.size #[.int .i64 (Ls.lsize l), .func (.func f) #[] caps] 119) := hx4
    have HI4 : Hid (Inp w rb s (j + 1) (z + 1) w4) := hI4
    have HP4 : Hid (PlanV w4 (fun k => w.heap.size + 1 < k /\ k < w2.heap.size) l (.func (.func f) #[] caps)) := PlanV.mono (fun k hk => hk) (fun k hk => hl4.grown.block k (by have := hk.2; omega) (by have := hk.1; simp; omega)) _ _ HP3.out
    clear hx4 hI4 b3 hsk hl4
    have HL2 : Hid (∀ W, Below w4.heap.size w4 W -> Calls Tryz.prog 92 #[rdV rb] W fun e w' =>
      (∃ m k g daps, Ls.lensR (12 - z) (rest s (j + 1)) = some (m, rest s k) /\ j + 1 + Ls.lsize m <= k /\ k <= s.size /\ e = .returned (planA (Ls.lsize m) (.func (.func g) #[] daps)) /\ Inp w rb s k (z + 1) w' /\ Blk w' w2.heap.size #[.int .i64 (Ls.lsize l), .func (.func f) #[] caps] 119 /\ w4.heap.size <= w'.heap.size /\
       PlanV w' (fun q => w.heap.size + 1 < q /\ q < w'.heap.size /\ q ≠ w2.heap.size) l (.func (.func f) #[] caps) /\ PlanV w' (fun q => w.heap.size + 1 < q /\ q < w'.heap.size /\ q ≠ w2.heap.size) m (.func (.func g) #[] daps)) \/
      (Ls.lensR (12 - z) (rest s (j + 1)) = .none /\ Threw w rb a1 e w')) := by
     intro W hW
     have hJ := HI4.out.below hW
     have hWz := hW.size
     refine (HL.out rb (j + 1) W hJ.lies (hJ.env HE.out) (by omega)).mono ?_
     rintro e w' (⟨m, k, g, daps, hr2, h1, h2, rfl, hp2, hl2⟩ | ⟨hr2, rfl, hg⟩)
     ·rw [show 13 - (z + 1) = 12 - z from by omega] at hr2
      have hgz := hl2.grown.size
      refine .inl ⟨m, k, g, daps, hr2, h1, h2, rfl, hJ.go hl2, (HX4.out.below hW (by omega)).of (hl2.grown.block _ (by omega) (by simp; omega)), by omega, PlanV.mono (fun q hq => ⟨hq.1, by have := hq.2; omega, by have := hq.2; omega⟩) (fun q hq => ?_) _ _ HP4.out, PlanV.mono (fun q hq => ⟨by have := hq.1; omega, hq.2, by have := hq.1; omega⟩) (fun _ _ => rfl) _ _ hp2⟩
      rw [hl2.grown.block q (by have := hq.2; omega) (by have := hq.1; simp; omega)]
      exact hW.block q (by have := hq.2; omega)
     ·rw [show 13 - (z + 1) = 12 - z from by omega] at hr2
      exact .inr ⟨hr2, rfl, hJ.threw rfl hg⟩
    have HJ : Hid (∀ (W : World) (m : Ls.Ln) (g : Nat) (daps : Array Value), Ls.lsize m <= 120 -> PlanV W (fun q => w.heap.size + 1 < q /\ q < W.heap.size /\ q ≠ w2.heap.size) l (.func (.func f) #[] caps) -> PlanV W (fun q => w.heap.size + 1 < q /\ q < W.heap.size /\ q ≠ w2.heap.size) m (.func (.func g) #[] daps) ->
      Calls Tryz.prog 109 #[planA (Ls.lsize l) (.func (.func f) #[] caps), planA (Ls.lsize m) (.func (.func g) #[] daps), .func (.func 148) #[] #[]] W (MkPost W (fun q => w.heap.size + 1 < q /\ q < W.heap.size /\ q ≠ w2.heap.size) (Ls.lsize l + Ls.lsize m) ⟨4, Ls.rnil, [], [l, m]⟩)) :=
     fun W m g daps hm h1 h2 => joined_any 4 (by omega) l m (Ls.lsize l) (Ls.lsize m) f g caps daps (by omega) (by omega) W _ (fun q hq => hq.2.1) h1 h2
    go_wp2_with fail
    go_region_with (first
      | (go_at_call 92; refine (HL2.out _ ?_).mono ?_; exact (Below.refl _ _).drew; rintro e w5 (⟨m, k, g, daps, hr5, hk1, hk2, rfl, hI5, hx5, hz5, hp5, hq5⟩ | ⟨hr5, rfl, hg5⟩); rotate_left; (go_wp2_with fail; exact ⟨rfl, .inr ⟨round_bad Hr.out H126.out hr5, rfl, hg5⟩⟩); have b5 := hI5.cell; obtain ⟨v0, v1, v2, v3⟩ := hx5.two)
      | (go_at_call 109; refine (HJ.out _ m g daps (by omega) hp5 hq5).mono ?_; rintro e w6 ⟨g6, caps6, rfl, hp6, hb6⟩; have hI6 := hI5.below hb6; have hx6 := hx5.below hb6 (by omega); obtain ⟨q0, q1, t0, t1⟩ := hx6.two))
    all_goals
     have hN := round_two Hr.out H126.out hr5
     have hz6 := hb6.size
     have hx7 : Blk ((w6.setCell ⟨w2.heap.size, 0, none⟩ (.int .i64 ((Ls.lsize l + Ls.lsize m : Nat) : Int))).setCell ⟨w2.heap.size, 1, none⟩ (.func (.func g6) #[] caps6)) w2.heap.size #[.int .i64 ((Ls.lsize l + Ls.lsize m : Nat) : Int), .func (.func g6) #[] caps6] 119 := by
      have := hx6
      unfold Blk at this ⊢
      simp [World.setCell, Array.getElem?_modify, this]
     have hI7 : Inp w rb s k (z + 1) ((w6.setCell ⟨w2.heap.size, 0, none⟩ (.int .i64 ((Ls.lsize l + Ls.lsize m : Nat) : Int))).setCell ⟨w2.heap.size, 1, none⟩ (.func (.func g6) #[] caps6)) :=
      ⟨⟨hI6.inn.left.res2 (by omega) ho _ _, ⟨by rw [set2_other _ _ _ _ _ (by omega)]; exact hI6.inn.box.lies⟩, ho⟩, hI6.res.of (set2_other _ _ _ _ _ (by omega))⟩
     have hp7 : PlanV ((w6.setCell ⟨w2.heap.size, 0, none⟩ (.int .i64 ((Ls.lsize l + Ls.lsize m : Nat) : Int))).setCell ⟨w2.heap.size, 1, none⟩ (.func (.func g6) #[] caps6)) (fun q => w.heap.size + 1 < q /\ q < w6.heap.size /\ q ≠ w2.heap.size) (Ls.changeL l m) (.func (.func g6) #[] caps6) :=
      PlanV.mono (fun q hq => by
       rcases hq with hq | hq
       ·exact ⟨hq.1, by have := hq.2.1; omega, hq.2.2⟩
       ·exact ⟨by omega, hq.2, by omega⟩) (fun q hq => set2_other _ _ _ _ _ (by
       rcases hq with hq | hq
       ·exact hq.2.2
       ·omega)) _ _ hp6
     have hz7 : ((w6.setCell ⟨w2.heap.size, 0, none⟩ (.int .i64 ((Ls.lsize l + Ls.lsize m : Nat) : Int))).setCell ⟨w2.heap.size, 1, none⟩ (.func (.func g6) #[] caps6)).heap.size = w6.heap.size := set2_size _ _ _ _
     have HI7 : Hid (Inp w rb s k (z + 1) ((w6.setCell ⟨w2.heap.size, 0, none⟩ (.int .i64 ((Ls.lsize l + Ls.lsize m : Nat) : Int))).setCell ⟨w2.heap.size, 1, none⟩ (.func (.func g6) #[] caps6))) := hI7
     have HX7 : Hid (Blk ((w6.setCell ⟨w2.heap.size, 0, none⟩ (.int .i64 ((Ls.lsize l + Ls.lsize m : Nat) : Int))).setCell ⟨w2.heap.size, 1, none⟩ (.func (.func g6) #[] caps6)) w2.heap.size #[.int .i64 ((Ls.lsize l + Ls.lsize m : Nat) : Int), .func (.func g6) #[] caps6] 119) := hx7
     have HP7 : Hid (PlanV ((w6.setCell ⟨w2.heap.size, 0, none⟩ (.int .i64 ((Ls.lsize l + Ls.lsize m : Nat) : Int))).setCell ⟨w2.heap.size, 1, none⟩ (.func (.func g6) #[] caps6)) (fun q => w.heap.size + 1 < q /\ q < w6.heap.size /\ q ≠ w2.heap.size) (Ls.changeL l m) (.func (.func g6) #[] caps6)) := hp7
     have HN : Hid (roundR (Ls.lensR (12 - z)) (rest s i) = if sees s k 41 = true then some (Ls.changeL l m, rest s (k + 1)) else .none) := hN
     have b7 := hI7.cell
     clear hx7 hI7 hp7 hN hp6 hx6 hI6 hp5 hq5 hx5 hI5 q0 q1 t0 t1 x0 x1 y0 y1 v0 v1 v2 v3 b4 b5 hb6 hr5 HJ HL2
     simp only [Int.natCast_add] at HI7 HX7 HP7 b7 hz7
     generalize (w6.setCell ⟨w2.heap.size, 0, none⟩ (.int .i64 ((Ls.lsize l : Int) + (Ls.lsize m : Int)))).setCell ⟨w2.heap.size, 1, none⟩ (.func (.func g6) #[] caps6) = w7 at *
     cases hse : sees s k 41 with
     | true =>
      have HR : Hid (roundR (Ls.lensR (12 - z)) (rest s i) = some (Ls.changeL l m, rest s (k + 1))) := by show _ = _; rw [HN.out, if_pos hse]
      have hk3 := (sees_true hse).1
      have hcl := close_yes rb s k z 41 w7 HI7.out.lies (by omega) (by omega) hse
      clear hse HN
      go_wp2_with fail
      refine hcl.mono ?_
      rintro e w8 ⟨rfl, hl8⟩
      have hI8 := HI7.out.go hl8
      have hx8 := HX7.out.of (hl8.grown.block _ (by omega) (by simp; omega))
      obtain ⟨x0, x1, y0, y1⟩ := hx8.two
      obtain ⟨r0, r1, s0, s1⟩ := hI8.res.two
      have hz8 := hl8.grown.size
      have HP : Hid (PlPost w rb s i z a1 (roundR (Ls.lensR (12 - z)) (rest s i)) (.returned (planA (Ls.lsize l + Ls.lsize m) (.func (.func g6) #[] caps6))) ((w8.setCell ⟨w.heap.size + 1, 0, none⟩ (.int .i64 ((Ls.lsize l : Int) + (Ls.lsize m : Int)))).setCell ⟨w.heap.size + 1, 1, none⟩ (.func (.func g6) #[] caps6))) := by
       have := hI8.ret (i := i) (a1 := a1) HR.out (by rw [Ls.lsize_change]; omega) (by omega) (PlanV.mono (fun q hq => ⟨hq.1, by have := hq.2.1; omega⟩) (fun q hq => hl8.grown.block q (by have := hq.2.1; omega) (by have := hq.1; simp; omega)) _ _ HP7.out)
       rw [Ls.lsize_change, Int.natCast_add] at this
       exact this
      clear hx8 hI8 hcl
      go_wp2_with fail
      exact bodyPost_ret (v := planA (Ls.lsize l + Ls.lsize m) (.func (.func g6) #[] caps6)) (by simp [results, Tryz.results130, go_sem, r0, r1]) rfl HP.out
     | false =>
      have HR : Hid (roundR (Ls.lensR (12 - z)) (rest s i) = .none) := by show _ = _; rw [HN.out, hse]; simp
      have hcl := close_no rb s k (z + 1) 41 a1 w7 HI7.out.lies (HI7.out.env HE.out) (by omega) (by omega) hse
      clear hse HN
      go_wp2_with fail
      refine hcl.mono ?_
      rintro e w8 ⟨rfl, hg⟩
      go_wp2_with fail
      exact ⟨rfl, .inr ⟨HR.out, rfl, HI7.out.threw rfl hg⟩⟩
  ·rw [show 13 - (z + 1) = 12 - z from by omega] at hr
   have HN : Hid (roundR (Ls.lensR (12 - z)) (rest s i) = .none) := round_none hr
   go_wp2_with fail
   exact ⟨rfl, .inr ⟨HN.out, rfl, hI1.threw rfl hg⟩⟩
end Go.Proofs.YtkfokddlgmcimaaGreatDoor
