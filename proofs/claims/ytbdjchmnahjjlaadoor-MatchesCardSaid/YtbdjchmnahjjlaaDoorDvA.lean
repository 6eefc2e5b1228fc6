import Derived.Test.YtbdjchmnahjjlaaDoorLsDD
/- The developers' reader: small functions. -/
namespace Go.Proofs.YtbdjchmnahjjlaaDoor
open Go.RowKit

set_option maxHeartbeats 400000 in
theorem isSign_any (c : UInt8) (w : World) :
    Calls Tryd.prog 79 #[.int .u8 c.toNat] w fun e w' => e = .returned (.bool (Ls.sign c)) ∧ w' = w := by
  go_enter Tryd.func79, Tryd.ntmps79
  go_wp2
  all_goals
    go_ret
    refine ⟨ret_bool ?_, rfl⟩
    rw [Bool.eq_iff_iff]
    simp [Ls.sign]
    omega

set_option maxHeartbeats 400000 in
theorem isLetterOrDigit_any (c : UInt8) (w : World) :
    Calls Tryd.prog 83 #[.int .u8 c.toNat] w fun e w' => e = .returned (.bool (Ls.mark c)) ∧ w' = w := by
  go_enter Tryd.func83, Tryd.ntmps83
  go_wp2
  all_goals
    go_ret
    refine ⟨ret_bool ?_, rfl⟩
    rw [Bool.eq_iff_iff]
    simp [Ls.mark]
    omega

/-- The reader that lies in block rb. -/
def RB (w : World) (rb : Nat) (s : ByteArray) (at_ dep : Nat) : Prop := w.heap[rb]? = some (.cells #[.string s, .int .i64 at_, .int .i64 dep] 102 (0, 0))

theorem RB.lt {w : World} {rb : Nat} {s : ByteArray} {a z : Nat} (h : RB w rb s a z) : rb < w.heap.size := (Array.getElem?_eq_some_iff.1 h).1
theorem RB.c0 {w : World} {rb : Nat} {s : ByteArray} {a z : Nat} (h : RB w rb s a z) : w.cell? ⟨rb, 0, Option.none⟩ = some (.string s) := by unfold RB at h; simp [World.cell?, h]
theorem RB.c1 {w : World} {rb : Nat} {s : ByteArray} {a z : Nat} (h : RB w rb s a z) : w.cell? ⟨rb, 1, Option.none⟩ = some (.int .i64 a) := by unfold RB at h; simp [World.cell?, h]
theorem RB.c2 {w : World} {rb : Nat} {s : ByteArray} {a z : Nat} (h : RB w rb s a z) : w.cell? ⟨rb, 2, Option.none⟩ = some (.int .i64 z) := by unfold RB at h; simp [World.cell?, h]
theorem RB.fr {w : World} {rb : Nat} {s : ByteArray} {a z : Nat} (h : RB w rb s a z) (o : Nat) : w.frozen? ⟨rb, o, Option.none⟩ = false := by unfold RB at h; simp [World.frozen?, h]
theorem RB.set1 {w : World} {rb : Nat} {s : ByteArray} {a z : Nat} (h : RB w rb s a z) (a' : Nat) : RB (w.setCell ⟨rb, 1, Option.none⟩ (.int .i64 a')) rb s a' z := by unfold RB at h ⊢; simp [World.setCell, Array.getElem?_modify, h]
theorem RB.set2 {w : World} {rb : Nat} {s : ByteArray} {a z : Nat} (h : RB w rb s a z) (z' : Nat) : RB (w.setCell ⟨rb, 2, Option.none⟩ (.int .i64 z')) rb s a z' := by unfold RB at h ⊢; simp [World.setCell, Array.getElem?_modify, h]
theorem RB.below {w w' : World} {rb : Nat} {s : ByteArray} {a z : Nat} (h : RB w rb s a z) (hb : Below w.heap.size w w') : RB w' rb s a z := by have := h.lt; unfold RB at h ⊢; rw [hb.block rb this]; exact h

/-- What a method of the reader leaves. -/
structure RLeft (w : World) (rb : Nat) (s : ByteArray) (at_ dep : Nat) (w' : World) : Prop where
  lies : RB w' rb s at_ dep
  grown : w.grownBy w' (some rb)

theorem RLeft.of_below {w w' : World} {rb : Nat} {s : ByteArray} {a z : Nat} (h : RB w rb s a z) (hb : Below w.heap.size w w') : RLeft w rb s a z w' := ⟨h.below hb, grownBy_of_below hb _⟩
theorem RLeft.trans {w w1 w2 : World} {rb : Nat} {s : ByteArray} {a z a' z' : Nat} (h : RLeft w rb s a z w1) (k : RLeft w1 rb s a' z' w2) : RLeft w rb s a' z' w2 := ⟨k.lies, grownBy_trans h.grown k.grown⟩
theorem RLeft.below {w w1 w2 : World} {rb : Nat} {s : ByteArray} {a z : Nat} (h : RLeft w rb s a z w1) (hb : Below w1.heap.size w1 w2) : RLeft w rb s a z w2 := ⟨h.lies.below hb, grownBy_trans h.grown (grownBy_of_below hb _)⟩
theorem RLeft.set1 {w w1 : World} {rb : Nat} {s : ByteArray} {a z : Nat} (h : RLeft w rb s a z w1) (a' : Nat) : RLeft w rb s a' z (w1.setCell ⟨rb, 1, Option.none⟩ (.int .i64 a')) := ⟨h.lies.set1 a', grownBy_trans h.grown (grownBy_set _ _ _ _)⟩
theorem RLeft.set2 {w w1 : World} {rb : Nat} {s : ByteArray} {a z : Nat} (h : RLeft w rb s a z w1) (z' : Nat) : RLeft w rb s a z' (w1.setCell ⟨rb, 2, Option.none⟩ (.int .i64 z')) := ⟨h.lies.set2 z', grownBy_trans h.grown (grownBy_set _ _ _ _)⟩

set_option maxRecDepth 100000 in
set_option maxHeartbeats 400000 in
theorem done_any (rb : Nat) (s : ByteArray) (i z : Nat) (w : World) (h : RB w rb s i z) (_hs : s.size ≤ 1048576) (_hi : i ≤ 1048577) :
    Calls Tryd.prog 48 #[.pointer (some ⟨rb, 0, Option.none⟩)] w fun e w' => e = .returned (.bool (decide (s.size ≤ i))) ∧ ∃ n, w' = w.drewN n := by
  have c0 := h.c0
  have c1 := h.c1
  go_enter Tryd.func48, Tryd.ntmps48
  go_wp2_with fail
  go_quiet (fail)
  go_wp2_with fail
  go_ret
  exact ⟨by simp, _, rfl⟩

/-- The value that 'fail' throws. -/
abbrev errS (a1 : Addr) : Value := .iface 148 (.pointer (some a1))

set_option maxRecDepth 100000 in
set_option maxHeartbeats 400000 in
theorem fail_any (v : Value) (a1 : Addr) (w : World) (hc : w.cell? ⟨2, 0, none⟩ = some (errS a1)) :
    Calls Tryd.prog 49 #[v] w fun e w' => e = .panicked [{ v := errS a1, recovered := false }] ∧ w' = w := by
  go_enter Tryd.func49, Tryd.ntmps49
  go_wp2_with fail
  exact ⟨rfl, rfl, rfl⟩

/-- The thrown value's variable, away from the reader. -/
structure Env (w : World) (rb : Nat) (a1 : Addr) : Prop where
  sc : w.cell? ⟨2, 0, none⟩ = some (errS a1)
  ne : rb ≠ 2

theorem Env.grown {w w' : World} {rb : Nat} {a1 : Addr} (h : Env w rb a1) (hg : w.grownBy w' (some rb)) : Env w' rb a1 :=
  ⟨hg.cell h.sc (by simp; exact fun e => h.ne e.symm), h.ne⟩
theorem Env.below {w w' : World} {rb : Nat} {a1 : Addr} (h : Env w rb a1) (hb : Below w.heap.size w w') : Env w' rb a1 := h.grown (grownBy_of_below hb _)

/-- It threw. -/
def Threw (w : World) (rb : Nat) (a1 : Addr) : Ending → World → Prop := fun e w' => e = .panicked [{ v := errS a1, recovered := false }] ∧ w.grownBy w' (some rb)

theorem grown_drewN (w : World) (n : Nat) (r : Option Nat) : w.grownBy (w.drewN n) r := ⟨rfl, rfl, rfl, Nat.le_refl _, fun _ _ _ => rfl⟩

set_option maxRecDepth 100000 in
set_option maxHeartbeats 400000 in
theorem sees_any (rb : Nat) (s : ByteArray) (i z : Nat) (c : UInt8) (w : World) (h : RB w rb s i z) (hs : s.size ≤ 1048576) (hi : i ≤ 1048577) :
    Calls Tryd.prog 67 #[.pointer (some ⟨rb, 0, Option.none⟩), .int .u8 c.toNat] w fun e w' => e = .returned (.bool (sees s i c)) ∧ ∃ n, w' = w.drewN n := by
  have c0 := h.c0
  have c1 := h.c1
  have hq : ∀ n, RB (w.drewN n) rb s i z := fun n => h
  by_cases hlt : i < s.size
  · have hdn : decide (s.size ≤ i) = false := by simp; omega
    have HD : Hid (∀ n, Calls Tryd.prog 48 #[.pointer (some ⟨rb, 0, Option.none⟩)] (w.drewN n) fun e w' => e = .returned (.bool false) ∧ ∃ m, w' = (w.drewN n).drewN m) := fun n => by
      have := done_any rb s i z _ (hq n) hs hi
      rw [hdn] at this
      exact this
    clear hq
    have HS : Hid (sees s i c = (((s[i].toNat : Int) == (c.toNat : Int)))) := by
      show _ = _
      rw [Bool.eq_iff_iff]
      simp [sees, hlt, nx_lt hlt]
      rw [← UInt8.toNat_inj]
      omega
    have hd2 : (i : Int) < (s.size : Int) := by omega
    go_enter Tryd.func67, Tryd.ntmps67
    go_wp2_with fail
    go_quiet ((go_at_call 48; exact Calls.quiet_of (HD.out _)))
    go_wp2_with fail
    go_ret
    exact ⟨by rw [HS.out]; simp, _, rfl⟩
  · have hdn : decide (s.size ≤ i) = true := by simp; omega
    have HD : Hid (∀ n, Calls Tryd.prog 48 #[.pointer (some ⟨rb, 0, Option.none⟩)] (w.drewN n) fun e w' => e = .returned (.bool true) ∧ ∃ m, w' = (w.drewN n).drewN m) := fun n => by
      have := done_any rb s i z _ (hq n) hs hi
      rw [hdn] at this
      exact this
    clear hq
    have HS : Hid (sees s i c = false) := by simp [Hid, sees, hlt]
    go_enter Tryd.func67, Tryd.ntmps67
    go_wp2_with fail
    go_quiet ((go_at_call 48; exact Calls.quiet_of (HD.out _)))
    go_wp2_with fail
    go_ret
    exact ⟨by rw [HS.out]; simp, _, rfl⟩

set_option maxRecDepth 100000 in
set_option maxHeartbeats 400000 in
theorem skip_yes (rb : Nat) (s : ByteArray) (i z : Nat) (c : UInt8) (w : World) (h : RB w rb s i z) (hs : s.size ≤ 1048576) (ht : sees s i c = true) :
    Calls Tryd.prog 63 #[.pointer (some ⟨rb, 0, Option.none⟩), .int .u8 c.toNat] w fun e w' => e = .returned (.bool true) ∧ RLeft w rb s (i + 1) z w' := by
  have hi := (sees_true ht).1
  have hS := sees_any rb s i z c w h hs (by omega)
  rw [ht] at hS
  clear ht
  go_enter Tryd.func63, Tryd.ntmps63
  go_wp2_with fail
  refine hS.mono ?_
  rintro e w1 ⟨rfl, n, rfl⟩
  have hl := RLeft.of_below h (below_drewN (w := w) n)
  clear hS h
  generalize w.drewN n = w1 at *
  have c1 := hl.lies.c1
  have f1 := hl.lies.fr 1
  go_wp2_with fail
  go_ret
  exact ⟨rfl, hl.set1 (i + 1)⟩

set_option maxRecDepth 100000 in
set_option maxHeartbeats 400000 in
theorem skip_no (rb : Nat) (s : ByteArray) (i z : Nat) (c : UInt8) (w : World) (h : RB w rb s i z) (hs : s.size ≤ 1048576) (hi : i ≤ 1048577) (ht : sees s i c = false) :
    Calls Tryd.prog 63 #[.pointer (some ⟨rb, 0, Option.none⟩), .int .u8 c.toNat] w fun e w' => e = .returned (.bool false) ∧ RLeft w rb s i z w' := by
  have hS := sees_any rb s i z c w h hs hi
  rw [ht] at hS
  clear ht
  go_enter Tryd.func63, Tryd.ntmps63
  go_wp2_with fail
  refine hS.mono ?_
  rintro e w1 ⟨rfl, n, rfl⟩
  go_wp2_with fail
  go_ret
  exact ⟨rfl, RLeft.of_below h (below_drewN (w := w) n)⟩

theorem skip_any (rb : Nat) (s : ByteArray) (i z : Nat) (c : UInt8) (w : World) (h : RB w rb s i z) (hs : s.size ≤ 1048576) (hi : i ≤ 1048577) :
    Calls Tryd.prog 63 #[.pointer (some ⟨rb, 0, Option.none⟩), .int .u8 c.toNat] w fun e w' => e = .returned (.bool (sees s i c)) ∧ RLeft w rb s (if sees s i c = true then i + 1 else i) z w' := by
  cases ht : sees s i c with
  | true => simpa using skip_yes rb s i z c w h hs ht
  | false => simpa using skip_no rb s i z c w h hs hi ht

set_option maxRecDepth 100000 in
set_option maxHeartbeats 400000 in
theorem rnext_yes (rb : Nat) (s : ByteArray) (i z : Nat) (w : World) (h : RB w rb s i z) (hs : s.size ≤ 1048576) (hi : i < s.size) :
    Calls Tryd.prog 71 #[.pointer (some ⟨rb, 0, Option.none⟩)] w fun e w' => e = .returned (.int .u8 (nx s i).toNat) ∧ RLeft w rb s (i + 1) z w' := by
  have hS := done_any rb s i z w h hs (by omega)
  rw [show decide (s.size ≤ i) = false from by simp; omega] at hS
  have hx : Hid (nx s i = s[i]) := nx_lt hi
  go_enter Tryd.func71, Tryd.ntmps71
  go_wp2_with fail
  refine hS.mono ?_
  rintro e w1 ⟨rfl, n, rfl⟩
  have hl := RLeft.of_below h (below_drewN (w := w) n)
  clear hS h
  generalize w.drewN n = w1 at *
  have c1 := hl.lies.c1
  have f1 := hl.lies.fr 1
  have hlt := hl.lies.lt
  have c0 := hl.lies.c0
  have hd2 : (i : Int) < (s.size : Int) := by omega
  have hl2 := hl.set1 (i + 1)
  go_wp2_with fail
  go_quiet (fail)
  go_wp2_with fail
  go_ret
  exact ⟨by rw [hx.out]; simp, hl2.below (below_drewN nq)⟩

set_option maxRecDepth 100000 in
set_option maxHeartbeats 400000 in
theorem rnext_no (rb : Nat) (s : ByteArray) (i z : Nat) (a1 : Addr) (w : World) (h : RB w rb s i z) (hE : Env w rb a1) (hs : s.size ≤ 1048576) (hi : s.size ≤ i) (hi2 : i ≤ 1048577) :
    Calls Tryd.prog 71 #[.pointer (some ⟨rb, 0, Option.none⟩)] w (Threw w rb a1) := by
  have hS := done_any rb s i z w h hs hi2
  rw [show decide (s.size ≤ i) = true from by simp; omega] at hS
  go_enter Tryd.func71, Tryd.ntmps71
  go_wp2_with fail
  refine hS.mono ?_
  rintro e w1 ⟨rfl, n, rfl⟩
  have hE2 := hE.below (below_drewN (w := w) n)
  go_wp2_with fail
  refine (fail_any _ a1 _ hE2.sc).mono ?_
  rintro e w2 ⟨rfl, rfl⟩
  go_wp2_with fail
  exact ⟨rfl, rfl, grown_drewN _ _ _⟩

end Go.Proofs.YtbdjchmnahjjlaaDoor
