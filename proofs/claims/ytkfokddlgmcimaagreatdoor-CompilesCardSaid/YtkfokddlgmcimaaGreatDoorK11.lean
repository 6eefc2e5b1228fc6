import Derived.Test.YtkfokddlgmcimaaGreatDoorK10
import Derived.Deep.RegionHeld
set_option maxRecDepth 100000
set_option maxHeartbeats 4000000
namespace Go.Proofs.YtkfokddlgmcimaaGreatDoor
open Go.RowKit
def leaveR (P : List UInt8 -> Ls.Rd) (r : List UInt8) : Ls.Rl :=
 if r.head? = some 47 then
  match Ls.slashR P r.tail with
  | .none => .none
  | some (d, u) =>
   match Ls.wordR u with
   | .none => .none
   | some (ws, v) => some (Ls.leaveL d ws, v)
 else .none
theorem size_at {d : Ls.D} (hd : dn d <= 1048577) (hs : Ls.dsize d <= 1048576) {w : World} {G : Nat -> Prop} (hG : Old w G) {ty : TypeId} {x : Value} (h : Rep w G 0 d [.iface ty x]) :
  ∃ f, (∀ w, (Go.method 352 ty x "Size").run Tryz.prog w = .ok (f, x) w) /\ (∀ w, (callFunc f #[x]).run Tryz.prog w = .ok (.enter f #[x]) w) /\ ∀ W, Below w.heap.size w W -> Calls Tryz.prog f #[x] W fun e w' => e = .returned (.int .i64 (Ls.dsize d)) /\ Below w.heap.size w w' := by
 obtain ⟨f, hm, hcf, hf⟩ := size_any (dn d) d (Nat.le_refl _) hd hs w G ty x hG h
 refine ⟨f, hm, hcf, fun W hW => ?_⟩
 obtain ⟨f', hm', _, hf'⟩ := size_any (dn d) d (Nat.le_refl _) hd hs W G ty x (fun k hk => Nat.lt_of_lt_of_le (hG k hk) hW.size) (h.later hG hW)
 have he : f = f' := by
  have h1 := (hm w).symm.trans (hm' w)
  injection h1 with h1
  injection h1
 subst he
 refine hf'.mono ?_
 rintro e w' ⟨rfl, hb⟩
 exact ⟨rfl, Below.join hW hb⟩
def LeftSaid (s : ByteArray) (a1 : Addr) : Prop := ∀ (z rb i : Nat) (w : World), z <= 12 -> RB w rb s i z -> Env w rb a1 -> i <= s.size ->
 Calls Tryz.prog 133 #[rdV rb] w (PlPost w rb s i z a1 (leaveR (Ls.pat (13 - z)) (rest s i)))
def starL (s : ByteArray) (j : Nat) (l : Ls.Ln) : Ls.Ln := if sees s j 42 = true then Ls.repeatL l else l
def starAt (s : ByteArray) (j : Nat) : Nat := if sees s j 42 = true then j + 1 else j
theorem again_star (s : ByteArray) (j : Nat) (l : Ls.Ln) : Ls.againR l (rest s j) = (starL s j l, rest s (starAt s j)) := by
 unfold Ls.againR starL starAt
 cases h : sees s j 42 with
 | true => rw [if_pos (sees_head.2 h), rest_tail]; simp
 | false => rw [if_neg (by rw [sees_head, h]; simp)]; simp
def StarPost (w : World) (G : Nat -> Prop) (rb : Nat) (s : ByteArray) (j z : Nat) (l : Ls.Ln) : Ending -> World -> Prop := fun e w' =>
 ∃ f caps, e = .returned (planA (Ls.lsize (starL s j l)) (.func (.func f) #[] caps)) /\ PlanV w' (fun k => G k \/ (w.heap.size <= k /\ k < w'.heap.size)) (starL s j l) (.func (.func f) #[] caps) /\ RLeft w rb s (starAt s j) z w'
abbrev starW (w : World) (rb n f : Nat) (caps : Array Value) : World := ((w.alloc (bxO 157 rb)).alloc (.cells #[.int .i64 n, .func (.func f) #[] caps] 119)).alloc (.cells #[.int .i64 (0 : Nat), .nilFunc] 119)
theorem starred_any (s : ByteArray) (hs : s.size <= 120) (z rb j : Nat) (l : Ls.Ln) (f : Nat) (caps : Array Value) (w : World) (G : Nat -> Prop) (hG : Old w G) (hGr : ¬ G rb) (h : RB w rb s j z) (hj : j <= s.size) (hn : Ls.lsize l <= 120) (hp : PlanV w G l (.func (.func f) #[] caps)) :
  Calls Tryz.prog 128 #[rdV rb, planA (Ls.lsize l) (.func (.func f) #[] caps)] w (StarPost w G rb s j z l) := by
 have hrl := h.lt
 have hb0 : Below w.heap.size w (starW w rb (Ls.lsize l) f caps) := below_alloc3 w _ _ _
 have hz0 : (starW w rb (Ls.lsize l) f caps).heap.size = w.heap.size + 1 + 1 + 1 := by simp
 have hx : Blk (starW w rb (Ls.lsize l) f caps) (w.heap.size + 1) #[.int .i64 (Ls.lsize l), .func (.func f) #[] caps] 119 := by
  have := Blk.new (w.alloc (bxO 157 rb)) #[.int .i64 (Ls.lsize l), .func (.func f) #[] caps] 119
  rw [World.size_alloc] at this
  exact this.of (Below.heap_alloc _ _ _ (by simp))
 have hy : Blk (starW w rb (Ls.lsize l) f caps) (w.heap.size + 1 + 1) #[.int .i64 (0 : Nat), .nilFunc] 119 := by
  have := Blk.new ((w.alloc (bxO 157 rb)).alloc (.cells #[.int .i64 (Ls.lsize l), .func (.func f) #[] caps] 119)) #[.int .i64 (0 : Nat), .nilFunc] 119
  rw [World.size_alloc, World.size_alloc] at this
  exact this
 have hI0 : In 157 w rb s j z (starW w rb (Ls.lsize l) f caps) := ((In.enter _ h).below (below_alloc1 _ _)).below (below_alloc1 _ _)
 have HPL : Hid (PlanV w G l (.func (.func f) #[] caps)) := hp
 have HI0 : Hid (In 157 w rb s j z (starW w rb (Ls.lsize l) f caps)) := hI0
 have HX : Hid (Blk (starW w rb (Ls.lsize l) f caps) (w.heap.size + 1) #[.int .i64 (Ls.lsize l), .func (.func f) #[] caps] 119) := hx
 have HY : Hid (Blk (starW w rb (Ls.lsize l) f caps) (w.heap.size + 1 + 1) #[.int .i64 (0 : Nat), .nilFunc] 119) := hy
 have HB0 : Hid (Below w.heap.size w (starW w rb (Ls.lsize l) f caps)) := hb0
 clear hp hI0 hx hy hb0
 cases h42 : sees s j 42 with
 | false =>
  have HS : Hid (starL s j l = l /\ starAt s j = j) := by simp [Hid, starL, starAt, h42]
  have hC := skip_no rb s j z 42 _ HI0.out.lies (by omega) (by omega) h42
  clear h42
  go_enter Tryz.func128, Tryz.ntmps128
  go_wp2_with fail
  refine hC.mono ?_
  clear hC
  generalize starW w rb (Ls.lsize l) f caps = W0 at *
  rintro e w1 ⟨rfl, hl1⟩
  have hz1 := hl1.grown.size
  have hx1 := HX.out.of (hl1.grown.block _ (by omega) (by simp; omega))
  have hy1 := HY.out.of (hl1.grown.block _ (by omega) (by simp; omega))
  obtain ⟨x0, x1, y0, y1⟩ := hx1.two
  obtain ⟨r0, r1, s0, s1⟩ := hy1.two
  have HP : Hid (StarPost w G rb s j z l (.returned (planA (Ls.lsize l) (.func (.func f) #[] caps))) ((w1.setCell ⟨w.heap.size + 1 + 1, 0, none⟩ (.int .i64 (Ls.lsize l))).setCell ⟨w.heap.size + 1 + 1, 1, none⟩ (.func (.func f) #[] caps))) := by
   unfold Hid StarPost
   rw [HS.out.1, HS.out.2]
   refine ⟨f, caps, rfl, PlanV.mono (fun k hk => .inl hk) (fun k hk => ?_) _ _ HPL.out, ((HI0.out.go hl1).left).res2 (by omega) hrl _ _⟩
   have := hG k hk
   rw [set2_other _ _ _ _ _ (by omega), hl1.grown.block k (by omega) (by simp; rintro rfl; exact hGr hk)]
   exact HB0.out.block k this
  clear hx1 hy1
  go_wp2_with fail
  exact bodyPost_ret (v := planA (Ls.lsize l) (.func (.func f) #[] caps)) (by simp [results, Tryz.results128, go_sem, r0, r1]) rfl HP.out
 | true =>
  have HS : Hid (starL s j l = Ls.repeatL l /\ starAt s j = j + 1) := by simp [Hid, starL, starAt, h42]
  have hC := skip_yes rb s j z 42 _ HI0.out.lies (by omega) h42
  clear h42
  go_enter Tryz.func128, Tryz.ntmps128
  go_wp2_with fail
  refine hC.mono ?_
  clear hC
  generalize starW w rb (Ls.lsize l) f caps = W0 at *
  rintro e w1 ⟨rfl, hl1⟩
  have hz1 := hl1.grown.size
  have hx1 := HX.out.of (hl1.grown.block _ (by omega) (by simp; omega))
  have hy1 := HY.out.of (hl1.grown.block _ (by omega) (by simp; omega))
  obtain ⟨x0, x1, y0, y1⟩ := hx1.two
  have hp1 : PlanV w1 G l (.func (.func f) #[] caps) := PlanV.mono (fun k hk => hk) (fun k hk => by
   have := hG k hk
   rw [hl1.grown.block k (by omega) (by simp; rintro rfl; exact hGr hk)]
   exact HB0.out.block k this) _ _ HPL.out
  have hA := pagain_any 6 (.inl rfl) l (Ls.lsize l) f caps (by omega) w1 G (fun k hk => by have := hG k hk; omega) hp1
  have HI1 : Hid (In 157 w rb s (j + 1) z w1) := HI0.out.go hl1
  have HY1 : Hid (Blk w1 (w.heap.size + 1 + 1) #[.int .i64 (0 : Nat), .nilFunc] 119) := hy1
  clear hx1 hy1 hp1
  go_wp2_with fail
  refine hA.mono ?_
  rintro e w2 ⟨g, daps, rfl, hp2, hb2⟩
  have hy2 := HY1.out.below hb2 (by omega)
  obtain ⟨r0, r1, s0, s1⟩ := hy2.two
  have hz2 := hb2.size
  have HP : Hid (StarPost w G rb s j z l (.returned (planA (Ls.lsize l + 1) (.func (.func g) #[] daps))) ((w2.setCell ⟨w.heap.size + 1 + 1, 0, none⟩ (.int .i64 ((Ls.lsize l + 1 : Nat) : Int))).setCell ⟨w.heap.size + 1 + 1, 1, none⟩ (.func (.func g) #[] daps))) := by
   unfold Hid StarPost
   rw [HS.out.1, HS.out.2, Ls.lsize_repeat]
   refine ⟨g, daps, rfl, PlanV.mono (fun k hk => ?_) (fun k hk => ?_) _ _ hp2, ((HI1.out.below hb2).left).res2 (by omega) hrl _ _⟩
   ·rcases hk with hk | hk
    ·exact .inl hk
    ·exact .inr ⟨by omega, by rw [set2_size]; exact hk.2⟩
   ·rw [set2_other _ _ _ _ _ ?_]
    rcases hk with hk | hk
    ·have := hG k hk; omega
    ·omega
  clear hy2 hp2 hA
  go_wp2_with fail
  exact bodyPost_ret (v := planA (Ls.lsize l + 1) (.func (.func g) #[] daps)) (by simp [results, Tryz.results128, go_sem, r0, r1]) rfl HP.out
end Go.Proofs.YtkfokddlgmcimaaGreatDoor
namespace Go.Proofs.YtkfokddlgmcimaaGreatDoor
open Go.RowKit
def PLensSaid (s : ByteArray) (a1 : Addr) (z : Nat) : Prop := ∀ (rb i : Nat) (w : World), RB w rb s i z -> Env w rb a1 -> i <= s.size ->
 Calls Tryz.prog 92 #[rdV rb] w (PlPost w rb s i z a1 (Ls.lensR (13 - z) (rest s i)))
def pointR (Q : List UInt8 -> Ls.Rl) (r : List UInt8) : Ls.Rl :=
 match Q r with
 | .none => .none
 | some (a, u) => if u.head? = some 62 then some (a, u.tail) else .none
abbrev plO (n f : Nat) (caps : Array Value) : Obj := .cells #[.int .i64 n, .func (.func f) #[] caps] 119
theorem pointed_any (s : ByteArray) (hs : s.size <= 120) (a1 : Addr) (z : Nat) (hz : z <= 12) (hL : z <= 11 -> PLensSaid s a1 (z + 1)) (rb i : Nat) (w : World) (h : RB w rb s i z) (hE : Env w rb a1) (hi : i <= s.size) :
  Calls Tryz.prog 132 #[rdV rb] w (PlPost w rb s i z a1 (pointR (Ls.lensR (12 - z)) (rest s i))) := by
 have HI0 : Hid (Inp w rb s i z (inpW w rb)) := Inp.enter h
 have hz0 : (inpW w rb).heap.size = w.heap.size + 1 + 1 := by simp
 have HE : Hid (Env w rb a1) := hE
 by_cases h12 : z = 12
 ·subst h12
  have HN : Hid (pointR (Ls.lensR (12 - 12)) (rest s i) = .none) := rfl
  have hO := open_no rb s i a1 _ HI0.out.lies (HI0.out.env hE)
  go_enter Tryz.func132, Tryz.ntmps132
  go_wp2_with fail
  refine hO.mono ?_
  rintro e w3 ⟨rfl, hg⟩
  go_wp2_with fail
  exact ⟨rfl, .inr ⟨HN.out, rfl, HI0.out.threw rfl hg⟩⟩
 ·have HL : Hid (PLensSaid s a1 (z + 1)) := hL (by omega)
  have hO := open_yes rb s i z _ HI0.out.lies (by omega)
  clear hL hE h
  go_enter Tryz.func132, Tryz.ntmps132
  go_wp2_with fail
  refine hO.mono ?_
  rintro e w1 ⟨rfl, hl1⟩
  have hI1 := HI0.out.go hl1
  have b1 := hI1.cell
  clear hO
  go_wp2_with fail
  refine (HL.out rb i w1 hI1.lies (hI1.env HE.out) hi).mono ?_
  rintro e w2 (⟨l, j, f, caps, hr, hij, hj, rfl, hp, hl2⟩ | ⟨hr, rfl, hg⟩)
  ·rw [show 13 - (z + 1) = 12 - z from by omega] at hr
   have Hr : Hid (Ls.lensR (12 - z) (rest s i) = some (l, rest s j)) := hr
   have hI2 := hI1.go hl2
   have hb3 := below_alloc1 w2 (plO (Ls.lsize l) f caps)
   have hx3 : Blk (w2.alloc (plO (Ls.lsize l) f caps)) w2.heap.size #[.int .i64 (Ls.lsize l), .func (.func f) #[] caps] 119 := Blk.new w2 _ _
   have hI3 := hI2.below hb3
   have hz3 : (w2.alloc (plO (Ls.lsize l) f caps)).heap.size = w2.heap.size + 1 := by simp
   have hz1 := hI1.size
   have hz2 := hl2.grown.size
   have HP3 : Hid (PlanV (w2.alloc (plO (Ls.lsize l) f caps)) (fun k => w.heap.size + 1 < k /\ k < w2.heap.size) l (.func (.func f) #[] caps)) := PlanV.mono (fun k hk => ⟨by have := hk.1; omega, hk.2⟩) (fun k hk => hb3.block k hk.2) _ _ hp
   clear hr b1 hp hl2 hb3
   go_upto_region 3 with (fail)
   generalize w2.alloc (plO (Ls.lsize l) f caps) = w3 at *
   have b3 := hI3.cell
   have HX3 : Hid (Blk w3 w2.heap.size #[.int .i64 (Ls.lsize l), .func (.func f) #[] caps] 119) := hx3
   have HI3 : Hid (Inp w rb s j (z + 1) w3) := hI3
   have ho := hI3.inn.old
   clear hx3 hI3 hI2 hI1
   cases hse : sees s j 62 with
   | true =>
    have HN : Hid (pointR (Ls.lensR (12 - z)) (rest s i) = some (l, rest s (j + 1))) := by
     show _ = _
     unfold pointR
     rw [Hr.out]
     dsimp only
     rw [if_pos (sees_head.2 hse), rest_tail]
    have hj2 := (sees_true hse).1
    have hcl := close_yes rb s j z 62 w3 HI3.out.lies (by omega) (by omega) hse
    clear hse
    go_wp2_with fail
    refine hcl.mono ?_
    rintro e w4 ⟨rfl, hl4⟩
    have hI4 := HI3.out.go hl4
    have hx4 := HX3.out.of (hl4.grown.block _ (by omega) (by simp; omega))
    obtain ⟨x0, x1, y0, y1⟩ := hx4.two
    obtain ⟨r0, r1, s0, s1⟩ := hI4.res.two
    have hz4 := hl4.grown.size
    have HP : Hid (PlPost w rb s i z a1 (pointR (Ls.lensR (12 - z)) (rest s i)) (.returned (planA (Ls.lsize l) (.func (.func f) #[] caps))) ((w4.setCell ⟨w.heap.size + 1, 0, none⟩ (.int .i64 (Ls.lsize l))).setCell ⟨w.heap.size + 1, 1, none⟩ (.func (.func f) #[] caps))) := by
     refine hI4.ret HN.out (by omega) (by omega) (PlanV.mono (fun k hk => ⟨hk.1, by have := hk.2; omega⟩) (fun k hk => hl4.grown.block k (by have := hk.2; omega) (by have := hk.1; simp; omega)) _ _ HP3.out)
    clear hx4 hI4 hcl
    go_wp2_with fail
    exact bodyPost_ret (v := planA (Ls.lsize l) (.func (.func f) #[] caps)) (by simp [results, Tryz.results132, go_sem, r0, r1]) rfl HP.out
   | false =>
    have HN : Hid (pointR (Ls.lensR (12 - z)) (rest s i) = .none) := by
     show _ = _
     unfold pointR
     rw [Hr.out]
     dsimp only
     rw [if_neg (by rw [sees_head, hse]; simp)]
    have hcl := close_no rb s j (z + 1) 62 a1 w3 HI3.out.lies (HI3.out.env HE.out) (by omega) (by omega) hse
    clear hse
    go_wp2_with fail
    refine hcl.mono ?_
    rintro e w4 ⟨rfl, hg⟩
    go_wp2_with fail
    exact ⟨rfl, .inr ⟨HN.out, rfl, HI3.out.threw rfl hg⟩⟩
  ·rw [show 13 - (z + 1) = 12 - z from by omega] at hr
   have HN : Hid (pointR (Ls.lensR (12 - z)) (rest s i) = .none) := by
    show _ = _
    unfold pointR
    rw [hr]
   go_wp2_with fail
   exact ⟨rfl, .inr ⟨HN.out, rfl, hI1.threw rfl hg⟩⟩
end Go.Proofs.YtkfokddlgmcimaaGreatDoor
