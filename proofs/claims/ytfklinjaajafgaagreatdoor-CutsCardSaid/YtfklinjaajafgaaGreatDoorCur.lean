import Derived.Test.YtfklinjaajafgaaGreatDoorBase
import Derived.Test.YtfklinjaajafgaaGreatDoorSen
import Derived.Laws.StandIn
import Derived.Laws.Runes
/- The developers' cursor. -/
namespace Go.Proofs.YtfklinjaajafgaaGreatDoor
open Go.RowKit

/-- The cursor that lies in block rb. -/
def RB (w : World) (rb : Nat) (s : ByteArray) (at_ dep : Nat) : Prop := w.heap[rb]? = some (.cells #[.string s, .int .i64 at_, .int .i64 dep] 164 (0, 0))

theorem RB.lt {w : World} {rb : Nat} {s : ByteArray} {a z : Nat} (h : RB w rb s a z) : rb < w.heap.size := (Array.getElem?_eq_some_iff.1 h).1
theorem RB.c0 {w : World} {rb : Nat} {s : ByteArray} {a z : Nat} (h : RB w rb s a z) : w.cell? ⟨rb, 0, Option.none⟩ = some (.string s) := by unfold RB at h; simp [World.cell?, h]
theorem RB.c1 {w : World} {rb : Nat} {s : ByteArray} {a z : Nat} (h : RB w rb s a z) : w.cell? ⟨rb, 1, Option.none⟩ = some (.int .i64 a) := by unfold RB at h; simp [World.cell?, h]
theorem RB.c2 {w : World} {rb : Nat} {s : ByteArray} {a z : Nat} (h : RB w rb s a z) : w.cell? ⟨rb, 2, Option.none⟩ = some (.int .i64 z) := by unfold RB at h; simp [World.cell?, h]
theorem RB.fr {w : World} {rb : Nat} {s : ByteArray} {a z : Nat} (h : RB w rb s a z) (o : Nat) : w.frozen? ⟨rb, o, Option.none⟩ = false := by unfold RB at h; simp [World.frozen?, h]
theorem RB.set1 {w : World} {rb : Nat} {s : ByteArray} {a z : Nat} (h : RB w rb s a z) (a' : Nat) : RB (w.setCell ⟨rb, 1, Option.none⟩ (.int .i64 a')) rb s a' z := by unfold RB at h ⊢; simp [World.setCell, Array.getElem?_modify, h]
theorem RB.set2 {w : World} {rb : Nat} {s : ByteArray} {a z : Nat} (h : RB w rb s a z) (z' : Nat) : RB (w.setCell ⟨rb, 2, Option.none⟩ (.int .i64 z')) rb s a z' := by unfold RB at h ⊢; simp [World.setCell, Array.getElem?_modify, h]
theorem RB.below {w w' : World} {rb : Nat} {s : ByteArray} {a z : Nat} (h : RB w rb s a z) (hb : Below w.heap.size w w') : RB w' rb s a z := by have := h.lt; unfold RB at h ⊢; rw [hb.block rb this]; exact h

/-- What a method of the cursor leaves. -/
structure RLeft (w : World) (rb : Nat) (s : ByteArray) (at_ dep : Nat) (w' : World) : Prop where
  lies : RB w' rb s at_ dep
  grown : w.grownBy w' (some rb)

theorem RLeft.of_below {w w' : World} {rb : Nat} {s : ByteArray} {a z : Nat} (h : RB w rb s a z) (hb : Below w.heap.size w w') : RLeft w rb s a z w' := ⟨h.below hb, grownBy_of_below hb _⟩
theorem RLeft.trans {w w1 w2 : World} {rb : Nat} {s : ByteArray} {a z a' z' : Nat} (h : RLeft w rb s a z w1) (k : RLeft w1 rb s a' z' w2) : RLeft w rb s a' z' w2 := ⟨k.lies, grownBy_trans h.grown k.grown⟩
theorem RLeft.below {w w1 w2 : World} {rb : Nat} {s : ByteArray} {a z : Nat} (h : RLeft w rb s a z w1) (hb : Below w1.heap.size w1 w2) : RLeft w rb s a z w2 := ⟨h.lies.below hb, grownBy_trans h.grown (grownBy_of_below hb _)⟩
theorem RLeft.set1 {w w1 : World} {rb : Nat} {s : ByteArray} {a z : Nat} (h : RLeft w rb s a z w1) (a' : Nat) : RLeft w rb s a' z (w1.setCell ⟨rb, 1, Option.none⟩ (.int .i64 a')) := ⟨h.lies.set1 a', grownBy_trans h.grown (grownBy_set _ _ _ _)⟩
theorem RLeft.set2 {w w1 : World} {rb : Nat} {s : ByteArray} {a z : Nat} (h : RLeft w rb s a z w1) (z' : Nat) : RLeft w rb s a z' (w1.setCell ⟨rb, 2, Option.none⟩ (.int .i64 z')) := ⟨h.lies.set2 z', grownBy_trans h.grown (grownBy_set _ _ _ _)⟩

set_option maxRecDepth 100000 in
set_option maxHeartbeats 400000 in
theorem done_any (rb : Nat) (s : ByteArray) (i z : Nat) (w : World) (h : RB w rb s i z) (_hs : s.size ≤ 1048576) (_hi : i ≤ 1048577) :
    Calls Tryz.prog 102 #[.pointer (some ⟨rb, 0, Option.none⟩)] w fun e w' => e = .returned (.bool (decide (s.size ≤ i))) ∧ ∃ n, w' = w.drewN n := by
  have c0 := h.c0
  have c1 := h.c1
  go_enter Tryz.func102, Tryz.ntmps102
  go_wp2_with fail
  go_quiet (fail)
  go_wp2_with fail
  go_ret
  exact ⟨by simp, _, rfl⟩

/-- The value that 'fail' throws. -/
abbrev errS (a1 : Addr) : Value := .iface 251 (.pointer (some a1))

set_option maxRecDepth 100000 in
set_option maxHeartbeats 400000 in
theorem fail_any (v : Value) (a1 : Addr) (w : World) (hc : w.cell? ⟨3, 0, none⟩ = some (errS a1)) :
    Calls Tryz.prog 103 #[v] w fun e w' => e = .panicked [{ v := errS a1, recovered := false }] ∧ w' = w := by
  go_enter Tryz.func103, Tryz.ntmps103
  go_wp2_with fail
  exact ⟨rfl, rfl, rfl⟩

/-- The thrown value's variable, away from the reader. -/
structure Env (w : World) (rb : Nat) (a1 : Addr) : Prop where
  sc : w.cell? ⟨3, 0, none⟩ = some (errS a1)
  ne : rb ≠ 3

theorem Env.grown {w w' : World} {rb : Nat} {a1 : Addr} (h : Env w rb a1) (hg : w.grownBy w' (some rb)) : Env w' rb a1 :=
  ⟨hg.cell h.sc (by simp; exact fun e => h.ne e.symm), h.ne⟩
theorem Env.below {w w' : World} {rb : Nat} {a1 : Addr} (h : Env w rb a1) (hb : Below w.heap.size w w') : Env w' rb a1 := h.grown (grownBy_of_below hb _)

/-- It threw. -/
def Threw (w : World) (rb : Nat) (a1 : Addr) : Ending → World → Prop := fun e w' => e = .panicked [{ v := errS a1, recovered := false }] ∧ w.grownBy w' (some rb)

theorem grown_drewN (w : World) (n : Nat) (r : Option Nat) : w.grownBy (w.drewN n) r := ⟨rfl, rfl, rfl, Nat.le_refl _, fun _ _ _ => rfl⟩

set_option maxRecDepth 100000 in
set_option maxHeartbeats 1000000 in
/-- Sees, of a few bytes that lie in block g. -/
theorem sees_few (rb : Nat) (s : ByteArray) (i z : Nat) (cs : List UInt8) (g : Nat) (w : World) (h : RB w rb s i z) (hcs : cs.length ≤ 8) (hgl : g < w.heap.size) (hg : ∀ k (hk : k < cs.length), w.cell? ⟨g, k, Option.none⟩ = some (.int .u8 cs[k].toNat)) (hs : s.size ≤ 1048576) (hi : i ≤ 1048577) :
    Calls Tryz.prog 131 #[.pointer (some ⟨rb, 0, Option.none⟩), .slice (some ⟨g, 0, Option.none⟩) cs.length cs.length] w fun e w' => e = .returned (.bool (cs.any (sees s i))) ∧ Below w.heap.size w w' := by
  have HG : Hid (∀ k (hk : k < cs.length), w.cell? ⟨g, k, Option.none⟩ = some (.int .u8 cs[k].toNat)) := hg
  clear hg
  go_enter Tryz.func131, Tryz.ntmps131
  go_wp2_with fail
  go_loopw [9] (fun t wr => ∃ k : Nat, k ≤ cs.length ∧ t = .int .i64 k ∧ Below w.heap.size w wr ∧ (cs.take k).any (sees s i) = false) (fun t _ => cs.length - (intOf t).toNat)
  case atStart => exact ⟨0, Nat.zero_le _, rfl, Below.refl _ _, by simp⟩
  case round =>
    obtain ⟨k, hk, rfl, hbw, hany⟩ := hrel
    have HA : Hid ((cs.take k).any (sees s i) = false) := hany
    have hRB := h.below hbw
    have c0 := hRB.c0
    have c1 := hRB.c1
    clear hany
    by_cases hlt : k < cs.length
    · have ck : wr.cell? ⟨g, k, Option.none⟩ = some (.int .u8 cs[k].toNat) := (hbw.cell (p := ⟨g, k, Option.none⟩) hgl).trans (HG.out k hlt)
      have hz1 : (0 : Int) ≤ (k : Int) := by omega
      have hz2 : (k : Int) < (cs.length : Int) := by omega
      have hT : Hid (cs.any (sees s i) = true ∨ sees s i cs[k] = false) := by
        cases h1 : sees s i cs[k] with
        | true => exact .inl (List.any_eq_true.2 ⟨cs[k], List.getElem_mem hlt, h1⟩)
        | false => exact .inr rfl
      have hF : Hid (sees s i cs[k] = false → (cs.take (k + 1)).any (sees s i) = false) := fun h1 => by
        rw [List.take_succ_eq_append_getElem hlt, List.any_append, HA.out]
        simp [h1]
      have hq : ∀ n, RB (wr.drewN n) rb s i z := fun n => hRB
      have HD : Hid (∀ n, Calls Tryz.prog 102 #[.pointer (some ⟨rb, 0, Option.none⟩)] (wr.drewN n) fun e w' => e = .returned (.bool (decide (s.size ≤ i))) ∧ ∃ m, w' = (wr.drewN n).drewN m) := fun n => done_any rb s i z _ (hq n) hs hi
      clear hq hRB
      generalize cs[k] = c at *
      by_cases hin : i < s.size
      · have HD2 : Hid (∀ n, Calls Tryz.prog 102 #[.pointer (some ⟨rb, 0, Option.none⟩)] (wr.drewN n) fun e w' => e = .returned (.bool false) ∧ ∃ m, w' = (wr.drewN n).drewN m) := fun n => by
          have := HD.out n
          rw [show decide (s.size ≤ i) = false from by simp; omega] at this
          exact this
        have hd2 : (i : Int) < (s.size : Int) := by omega
        have HS : Hid (sees s i c = (((s[i].toNat : Int) == (c.toNat : Int)))) := by
          show _ = _
          rw [Bool.eq_iff_iff]
          simp [sees, hin, nx_lt hin]
          rw [← UInt8.toNat_inj]
          omega
        clear HD
        cases hb : (((s[i].toNat : Int) == (c.toNat : Int))) with
        | true =>
          have HR : Hid (cs.any (sees s i) = true) := by
            rcases hT.out with h1 | h1
            · exact h1
            · rw [HS.out, hb] at h1; cases h1
          go_wp2_with fail
          go_quiet ((go_at_call 102; exact Calls.quiet_of (HD2.out _)))
          go_wp2_with fail
          go_ret
          exact ⟨by rw [HR.out]; rfl, Below.join hbw (below_drewN _)⟩
        | false =>
          have HR : Hid ((cs.take (k + 1)).any (sees s i) = false) := hF.out (by rw [HS.out, hb])
          go_wp2_with fail
          go_quiet ((go_at_call 102; exact Calls.quiet_of (HD2.out _)))
          go_wp2_with fail
          go_roundw
          case rel => exact ⟨k + 1, by omega, by go_num, Below.join hbw (below_drewN _), HR.out⟩
          case measure => simp [intOf]; omega
      · have HD2 : Hid (∀ n, Calls Tryz.prog 102 #[.pointer (some ⟨rb, 0, Option.none⟩)] (wr.drewN n) fun e w' => e = .returned (.bool true) ∧ ∃ m, w' = (wr.drewN n).drewN m) := fun n => by
          have := HD.out n
          rw [show decide (s.size ≤ i) = true from by simp; omega] at this
          exact this
        have HR : Hid ((cs.take (k + 1)).any (sees s i) = false) := hF.out (by simp [sees, hin])
        clear HD
        go_wp2_with fail
        go_quiet ((go_at_call 102; exact Calls.quiet_of (HD2.out _)))
        go_wp2_with fail
        go_roundw
        case rel => exact ⟨k + 1, by omega, by go_num, Below.join hbw (below_drewN _), HR.out⟩
        case measure => simp [intOf]; omega
    · have hke : k = cs.length := by omega
      have HR : Hid (cs.any (sees s i) = false) := by
        have := HA.out
        rwa [hke, List.take_length] at this
      subst hke
      go_wp2_with fail
      go_ret
      exact ⟨by rw [HR.out]; rfl, hbw⟩

/-- One byte, that lies in the newest block. -/
theorem sees_any (rb : Nat) (s : ByteArray) (i z : Nat) (c : UInt8) (w : World) (t : TypeId) (h : RB w rb s i z) (hs : s.size ≤ 1048576) (hi : i ≤ 1048577) :
    Calls Tryz.prog 131 #[.pointer (some ⟨rb, 0, Option.none⟩), .slice (some ⟨w.heap.size, 0, Option.none⟩) 1 1] (w.alloc (.cells #[.int .u8 c.toNat] t)) fun e w' => e = .returned (.bool (sees s i c)) ∧ RLeft w rb s i z w' := by
  refine (sees_few rb s i z [c] w.heap.size (w.alloc (.cells #[.int .u8 c.toNat] t)) (h.below (below_alloc1 _ _)) (by simp) (by simp) (fun k hk => ?_) hs hi).mono ?_
  · obtain rfl : k = 0 := by simp at hk; exact hk
    have := heap_alloc_new w (.cells #[.int .u8 c.toNat] t)
    show World.cell? _ ⟨w.heap.size, 0, Option.none⟩ = _
    unfold World.cell?
    rw [this]
    rfl
  · rintro e w1 ⟨rfl, hb⟩
    exact ⟨by simp, RLeft.of_below h (Below.join (below_alloc1 _ _) hb)⟩

set_option maxRecDepth 100000 in
set_option maxHeartbeats 400000 in
theorem skip_yes (rb : Nat) (s : ByteArray) (i z : Nat) (c : UInt8) (w : World) (h : RB w rb s i z) (hs : s.size ≤ 1048576) (ht : sees s i c = true) :
    Calls Tryz.prog 120 #[.pointer (some ⟨rb, 0, Option.none⟩), .int .u8 c.toNat] w fun e w' => e = .returned (.bool true) ∧ RLeft w rb s (i + 1) z w' := by
  have hi := (sees_true ht).1
  have hS := fun t => sees_any rb s i z c w t h hs (by omega)
  rw [ht] at hS
  have HS : Hid _ := hS
  clear ht hS
  go_enter Tryz.func120, Tryz.ntmps120
  go_wp2_with fail
  refine (HS.out _).mono ?_
  rintro e w1 ⟨rfl, hl⟩
  have c1 := hl.lies.c1
  have f1 := hl.lies.fr 1
  go_wp2_with fail
  go_ret
  exact ⟨rfl, hl.set1 (i + 1)⟩

set_option maxRecDepth 100000 in
set_option maxHeartbeats 400000 in
theorem skip_no (rb : Nat) (s : ByteArray) (i z : Nat) (c : UInt8) (w : World) (h : RB w rb s i z) (hs : s.size ≤ 1048576) (hi : i ≤ 1048577) (ht : sees s i c = false) :
    Calls Tryz.prog 120 #[.pointer (some ⟨rb, 0, Option.none⟩), .int .u8 c.toNat] w fun e w' => e = .returned (.bool false) ∧ RLeft w rb s i z w' := by
  have hS := fun t => sees_any rb s i z c w t h hs hi
  rw [ht] at hS
  have HS : Hid _ := hS
  clear ht hS
  go_enter Tryz.func120, Tryz.ntmps120
  go_wp2_with fail
  refine (HS.out _).mono ?_
  rintro e w1 ⟨rfl, hl⟩
  go_wp2_with fail
  go_ret
  exact ⟨rfl, hl⟩

theorem skip_any (rb : Nat) (s : ByteArray) (i z : Nat) (c : UInt8) (w : World) (h : RB w rb s i z) (hs : s.size ≤ 1048576) (hi : i ≤ 1048577) :
    Calls Tryz.prog 120 #[.pointer (some ⟨rb, 0, Option.none⟩), .int .u8 c.toNat] w fun e w' => e = .returned (.bool (sees s i c)) ∧ RLeft w rb s (if sees s i c = true then i + 1 else i) z w' := by
  cases ht : sees s i c with
  | true => simpa using skip_yes rb s i z c w h hs ht
  | false => simpa using skip_no rb s i z c w h hs hi ht

set_option maxRecDepth 100000 in
set_option maxHeartbeats 400000 in
theorem rnext_yes (rb : Nat) (s : ByteArray) (i z : Nat) (w : World) (h : RB w rb s i z) (hs : s.size ≤ 1048576) (hi : i < s.size) :
    Calls Tryz.prog 143 #[.pointer (some ⟨rb, 0, Option.none⟩)] w fun e w' => e = .returned (.int .u8 (nx s i).toNat) ∧ RLeft w rb s (i + 1) z w' := by
  have hS := done_any rb s i z w h hs (by omega)
  rw [show decide (s.size ≤ i) = false from by simp; omega] at hS
  have hx : Hid (nx s i = s[i]) := nx_lt hi
  go_enter Tryz.func143, Tryz.ntmps143
  go_wp2_with fail
  refine hS.mono ?_
  rintro e w1 ⟨rfl, n, rfl⟩
  have hl := RLeft.of_below h (below_drewN (w := w) n)
  clear hS h
  generalize w.drewN n = w1 at *
  have c1 := hl.lies.c1
  have f1 := hl.lies.fr 1
  have hlt := hl.lies.lt
  have c0 := hl.lies.c0
  have hd2 : (i : Int) < (s.size : Int) := by omega
  have hl2 := hl.set1 (i + 1)
  go_wp2_with fail
  go_quiet (fail)
  go_wp2_with fail
  go_ret
  exact ⟨by rw [hx.out]; simp, hl2.below (below_drewN nq)⟩

set_option maxRecDepth 100000 in
set_option maxHeartbeats 400000 in
theorem rnext_no (rb : Nat) (s : ByteArray) (i z : Nat) (a1 : Addr) (w : World) (h : RB w rb s i z) (hE : Env w rb a1) (hs : s.size ≤ 1048576) (hi : s.size ≤ i) (hi2 : i ≤ 1048577) :
    Calls Tryz.prog 143 #[.pointer (some ⟨rb, 0, Option.none⟩)] w (Threw w rb a1) := by
  have hS := done_any rb s i z w h hs hi2
  rw [show decide (s.size ≤ i) = true from by simp; omega] at hS
  go_enter Tryz.func143, Tryz.ntmps143
  go_wp2_with fail
  refine hS.mono ?_
  rintro e w1 ⟨rfl, n, rfl⟩
  have hE2 := hE.below (below_drewN (w := w) n)
  go_wp2_with fail
  refine (fail_any _ a1 _ hE2.sc).mono ?_
  rintro e w2 ⟨rfl, rfl⟩
  go_wp2_with fail
  exact ⟨rfl, rfl, grown_drewN _ _ _⟩

set_option maxRecDepth 100000 in
set_option maxHeartbeats 400000 in
theorem expect_yes (rb : Nat) (s : ByteArray) (i z : Nat) (c : UInt8) (w : World) (h : RB w rb s i z) (hs : s.size ≤ 1048576) (ht : sees s i c = true) :
    Calls Tryz.prog 175 #[.pointer (some ⟨rb, 0, Option.none⟩), .int .u8 c.toNat] w fun e w' => e = .returned (.tuple #[]) ∧ RLeft w rb s (i + 1) z w' := by
  have hS := skip_yes rb s i z c w h hs ht
  clear ht
  go_enter Tryz.func175, Tryz.ntmps175
  go_wp2_with fail
  refine hS.mono ?_
  rintro e w1 ⟨rfl, hl⟩
  go_wp2_with fail
  go_end0
  exact ⟨rfl, hl⟩

set_option maxRecDepth 100000 in
set_option maxHeartbeats 400000 in
theorem expect_no (rb : Nat) (s : ByteArray) (i z : Nat) (c : UInt8) (a1 : Addr) (w : World) (h : RB w rb s i z) (hE : Env w rb a1) (hs : s.size ≤ 1048576) (hi : i ≤ 1048577) (ht : sees s i c = false) :
    Calls Tryz.prog 175 #[.pointer (some ⟨rb, 0, Option.none⟩), .int .u8 c.toNat] w (Threw w rb a1) := by
  have hS := skip_no rb s i z c w h hs hi ht
  clear ht
  go_enter Tryz.func175, Tryz.ntmps175
  go_wp2_with fail
  refine hS.mono ?_
  rintro e w1 ⟨rfl, hl⟩
  go_wp2_with fail
  refine (fail_any _ a1 _ (hE.grown hl.grown).sc).mono ?_
  rintro e w2 ⟨rfl, rfl⟩
  go_wp2_with fail
  exact ⟨rfl, rfl, hl.grown⟩

set_option maxRecDepth 100000 in
set_option maxHeartbeats 400000 in
theorem open_yes (rb : Nat) (s : ByteArray) (i z : Nat) (w : World) (h : RB w rb s i z) (hz : z ≤ 11) :
    Calls Tryz.prog 169 #[.pointer (some ⟨rb, 0, Option.none⟩)] w fun e w' => e = .returned (.tuple #[]) ∧ RLeft w rb s i (z + 1) w' := by
  have c2 := h.c2
  have f2 := h.fr 2
  have hrl := h.lt
  have hl0 := (RLeft.of_below h (Below.refl _ _)).set2 (z + 1)
  have hd : ¬ (12 : Int) < (z : Int) + 1 := by omega
  go_enter Tryz.func169, Tryz.ntmps169
  go_wp2_with fail
  go_end0
  exact ⟨rfl, hl0⟩

set_option maxRecDepth 100000 in
set_option maxHeartbeats 400000 in
theorem open_no (rb : Nat) (s : ByteArray) (i : Nat) (a1 : Addr) (w : World) (h : RB w rb s i 12) (hE : Env w rb a1) :
    Calls Tryz.prog 169 #[.pointer (some ⟨rb, 0, Option.none⟩)] w (Threw w rb a1) := by
  have c2 := h.c2
  have f2 := h.fr 2
  have hrl := h.lt
  have hl0 := (RLeft.of_below h (Below.refl _ _)).set2 13
  have hE0 := hE.grown hl0.grown
  go_enter Tryz.func169, Tryz.ntmps169
  go_wp2_with fail
  refine (fail_any _ a1 _ hE0.sc).mono ?_
  rintro e w2 ⟨rfl, rfl⟩
  go_wp2_with fail
  exact ⟨rfl, rfl, hl0.grown⟩

set_option maxRecDepth 100000 in
set_option maxHeartbeats 400000 in
theorem close_yes (rb : Nat) (s : ByteArray) (i z : Nat) (c : UInt8) (w : World) (h : RB w rb s i (z + 1)) (hs : s.size ≤ 1048576) (hz : z ≤ 11) (ht : sees s i c = true) :
    Calls Tryz.prog 171 #[.pointer (some ⟨rb, 0, Option.none⟩), .int .u8 c.toNat] w fun e w' => e = .returned (.tuple #[]) ∧ RLeft w rb s (i + 1) z w' := by
  have hS := expect_yes rb s i (z + 1) c w h hs ht
  clear ht
  go_enter Tryz.func171, Tryz.ntmps171
  go_wp2_with fail
  refine hS.mono ?_
  rintro e w1 ⟨rfl, hl⟩
  have c2 := hl.lies.c2
  have f2 := hl.lies.fr 2
  have hrl := hl.lies.lt
  have hl2 := hl.set2 z
  go_wp2_with fail
  go_end0
  exact ⟨rfl, hl2⟩

set_option maxRecDepth 100000 in
set_option maxHeartbeats 400000 in
theorem close_no (rb : Nat) (s : ByteArray) (i z : Nat) (c : UInt8) (a1 : Addr) (w : World) (h : RB w rb s i z) (hE : Env w rb a1) (hs : s.size ≤ 1048576) (hi : i ≤ 1048577) (ht : sees s i c = false) :
    Calls Tryz.prog 171 #[.pointer (some ⟨rb, 0, Option.none⟩), .int .u8 c.toNat] w (Threw w rb a1) := by
  have hS := expect_no rb s i z c a1 w h hE hs hi ht
  clear ht
  go_enter Tryz.func171, Tryz.ntmps171
  go_wp2_with fail
  refine hS.mono ?_
  rintro e w1 ⟨rfl, hg⟩
  go_wp2_with fail
  exact ⟨rfl, rfl, hg⟩

/-- The variable in which a method's own copy of its receiver lies: it names the cursor. -/
structure Bx (T : TypeId) (w : World) (g rb : Nat) : Prop where
  lies : w.heap[g]? = some (.cells #[.pointer (some ⟨rb, 0, Option.none⟩)] T (0, 0))

section
variable {T : TypeId} {w w' : World} {g rb : Nat}
theorem Bx.lt (h : Bx T w g rb) : g < w.heap.size := (Array.getElem?_eq_some_iff.1 h.lies).1
theorem Bx.cell (h : Bx T w g rb) : w.cell? ⟨g, 0, Option.none⟩ = some (.pointer (some ⟨rb, 0, Option.none⟩)) := by simp [World.cell?, h.lies]
theorem Bx.fr (h : Bx T w g rb) : w.frozen? ⟨g, 0, Option.none⟩ = false := by simp [World.frozen?, h.lies]
theorem Bx.grown (h : Bx T w g rb) (hg : w.grownBy w' (some rb)) (hn : g ≠ rb) : Bx T w' g rb := ⟨by rw [hg.block g h.lt (by simpa using hn)]; exact h.lies⟩
theorem Bx.below (h : Bx T w g rb) (hb : Below w.heap.size w w') : Bx T w' g rb := ⟨by rw [hb.block g h.lt]; exact h.lies⟩
theorem Bx.new (w : World) (T : TypeId) (rb : Nat) : Bx T (w.alloc (.cells #[.pointer (some ⟨rb, 0, Option.none⟩)] T)) w.heap.size rb := ⟨heap_alloc_new _ _⟩
end

/-- The box of a receiver that is made. -/
abbrev bxO (T : TypeId) (rb : Nat) : Obj := .cells #[.pointer (some ⟨rb, 0, Option.none⟩)] T

/-- Inside a method: where the cursor stands, and the method's own copy of its receiver. -/
structure In (T : TypeId) (w : World) (rb : Nat) (s : ByteArray) (at_ dep : Nat) (w' : World) : Prop where
  left : RLeft w rb s at_ dep w'
  box : Bx T w' w.heap.size rb
  old : rb < w.heap.size

section
variable {T : TypeId} {w w1 w2 : World} {rb : Nat} {s : ByteArray} {a z a' z' : Nat}
theorem In.enter (T : TypeId) (h : RB w rb s a z) : In T w rb s a z (w.alloc (bxO T rb)) := ⟨RLeft.of_below h (below_alloc1 _ _), Bx.new _ _ _, h.lt⟩
theorem In.go (h : In T w rb s a z w1) (k : RLeft w1 rb s a' z' w2) : In T w rb s a' z' w2 := ⟨h.left.trans k, h.box.grown k.grown (Nat.ne_of_gt h.old), h.old⟩
theorem In.below (h : In T w rb s a z w1) (hb : Below w1.heap.size w1 w2) : In T w rb s a z w2 := ⟨h.left.below hb, h.box.below hb, h.old⟩
theorem In.lies (h : In T w rb s a z w1) : RB w1 rb s a z := h.left.lies
theorem In.cell (h : In T w rb s a z w1) : w1.cell? ⟨w.heap.size, 0, Option.none⟩ = some (.pointer (some ⟨rb, 0, Option.none⟩)) := h.box.cell
theorem In.env (h : In T w rb s a z w1) {a1 : Addr} (hE : Env w rb a1) : Env w1 rb a1 := hE.grown h.left.grown
theorem In.threw (h : In T w rb s a z w1) {r : Option Nat} (hr : r = some rb) (hg : w1.grownBy w2 r) : w.grownBy w2 (some rb) := by
  subst hr
  exact grownBy_trans h.left.grown hg
theorem In.size (h : In T w rb s a z w1) : w.heap.size < w1.heap.size := h.box.lt
end

end Go.Proofs.YtfklinjaajafgaaGreatDoor
