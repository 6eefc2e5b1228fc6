import Derived.Test.YtfklinjaajafgaaGreatDoorLsL
import Derived.Test.YtfklinjaajafgaaGreatDoorPlain
import Derived.Test.YtfklinjaajafgaaGreatDoorBase
namespace Go.Proofs.YtfklinjaajafgaaGreatDoor
open Go.RowKit

/-- The parser that lies in block pb. -/
def PB (w : World) (pb : Nat) (s : ByteArray) (at_ size : Nat) (bad : Bool) : Prop := w.heap[pb]? = some (.cells #[.string s, .int .i64 at_, .int .i64 size, .bool bad] 62 (0, 0))

theorem PB.lt {w : World} {pb : Nat} {s : ByteArray} {a z : Nat} {b : Bool} (h : PB w pb s a z b) : pb < w.heap.size := (Array.getElem?_eq_some_iff.1 h).1
theorem PB.c0 {w : World} {pb : Nat} {s : ByteArray} {a z : Nat} {b : Bool} (h : PB w pb s a z b) : w.cell? ⟨pb, 0, Option.none⟩ = some (.string s) := by unfold PB at h; simp [World.cell?, h]
theorem PB.c1 {w : World} {pb : Nat} {s : ByteArray} {a z : Nat} {b : Bool} (h : PB w pb s a z b) : w.cell? ⟨pb, 1, Option.none⟩ = some (.int .i64 a) := by unfold PB at h; simp [World.cell?, h]
theorem PB.c2 {w : World} {pb : Nat} {s : ByteArray} {a z : Nat} {b : Bool} (h : PB w pb s a z b) : w.cell? ⟨pb, 2, Option.none⟩ = some (.int .i64 z) := by unfold PB at h; simp [World.cell?, h]
theorem PB.c3 {w : World} {pb : Nat} {s : ByteArray} {a z : Nat} {b : Bool} (h : PB w pb s a z b) : w.cell? ⟨pb, 3, Option.none⟩ = some (.bool b) := by unfold PB at h; simp [World.cell?, h]
theorem PB.fr {w : World} {pb : Nat} {s : ByteArray} {a z : Nat} {b : Bool} (h : PB w pb s a z b) (o : Nat) : w.frozen? ⟨pb, o, Option.none⟩ = false := by unfold PB at h; simp [World.frozen?, h]
theorem PB.set1 {w : World} {pb : Nat} {s : ByteArray} {a z : Nat} {b : Bool} (h : PB w pb s a z b) (a' : Nat) : PB (w.setCell ⟨pb, 1, Option.none⟩ (.int .i64 a')) pb s a' z b := by unfold PB at h ⊢; simp [World.setCell, Array.getElem?_modify, h]
theorem PB.set2 {w : World} {pb : Nat} {s : ByteArray} {a z : Nat} {b : Bool} (h : PB w pb s a z b) (z' : Nat) : PB (w.setCell ⟨pb, 2, Option.none⟩ (.int .i64 z')) pb s a z' b := by unfold PB at h ⊢; simp [World.setCell, Array.getElem?_modify, h]
theorem PB.set3 {w : World} {pb : Nat} {s : ByteArray} {a z : Nat} {b : Bool} (h : PB w pb s a z b) (b' : Bool) : PB (w.setCell ⟨pb, 3, Option.none⟩ (.bool b')) pb s a z b' := by unfold PB at h ⊢; simp [World.setCell, Array.getElem?_modify, h]
theorem PB.below {w w' : World} {pb : Nat} {s : ByteArray} {a z : Nat} {b : Bool} (h : PB w pb s a z b) (hb : Below w.heap.size w w') : PB w' pb s a z b := by have := h.lt; unfold PB at h ⊢; rw [hb.block pb this]; exact h

set_option maxRecDepth 100000 in
set_option maxHeartbeats 400000 in
theorem next_any (pb : Nat) (s : ByteArray) (i z : Nat) (b : Bool) (w : World) (h : PB w pb s i z b) (_hs : s.size ≤ 4611686018427387904) (_hi : i ≤ 4611686018427387904) :
    Calls Tryz.prog 100 #[.pointer (some ⟨pb, 0, Option.none⟩)] w fun e w' => e = .returned (.int .u8 (nx s i).toNat) ∧ Below w.heap.size w w' := by
  have c0 := h.c0
  have c1 := h.c1
  by_cases hlt : i < s.size
  · have hd : decide ((s.size : Int) ≤ (i : Int)) = false := by simp; omega
    have hx : Hid (nx s i = s[i]) := nx_lt hlt
    go_enter Tryz.func100, Tryz.ntmps100
    go_wp2_with fail
    go_quiet (fail)
    go_wp2_with fail
    go_quiet (fail)
    go_wp2_with fail
    go_ret
    exact ⟨by rw [hx.out]; rfl, ⟨rfl, rfl, rfl, Nat.le_refl _, fun _ _ => rfl⟩⟩
  · have hd : decide ((s.size : Int) ≤ (i : Int)) = true := by simp; omega
    have hx : Hid (nx s i = 0) := nx_ge (by omega)
    go_enter Tryz.func100, Tryz.ntmps100
    go_wp2_with fail
    go_quiet (fail)
    go_wp2_with fail
    go_ret
    exact ⟨by rw [hx.out]; rfl, ⟨rfl, rfl, rfl, Nat.le_refl _, fun _ _ => rfl⟩⟩

/-- What a method of the parser leaves: the parser as told; all else that was there as it was. -/
structure Left (w : World) (pb : Nat) (s : ByteArray) (at_ size : Nat) (bad : Bool) (w' : World) : Prop where
  lies : PB w' pb s at_ size bad
  grown : w.grownBy w' (some pb)

theorem Left.of_below {w w' : World} {pb : Nat} {s : ByteArray} {a z : Nat} {b : Bool} (h : PB w pb s a z b) (hb : Below w.heap.size w w') : Left w pb s a z b w' := ⟨h.below hb, grownBy_of_below hb _⟩
theorem Left.trans {w w1 w2 : World} {pb : Nat} {s : ByteArray} {a z : Nat} {b : Bool} {a' z' : Nat} {b' : Bool} (h : Left w pb s a z b w1) (k : Left w1 pb s a' z' b' w2) : Left w pb s a' z' b' w2 := ⟨k.lies, grownBy_trans h.grown k.grown⟩
theorem Left.below {w w1 w2 : World} {pb : Nat} {s : ByteArray} {a z : Nat} {b : Bool} (h : Left w pb s a z b w1) (hb : Below w1.heap.size w1 w2) : Left w pb s a z b w2 := ⟨h.lies.below hb, grownBy_trans h.grown (grownBy_of_below hb _)⟩
theorem Left.set1 {w w1 : World} {pb : Nat} {s : ByteArray} {a z : Nat} {b : Bool} (h : Left w pb s a z b w1) (a' : Nat) : Left w pb s a' z b (w1.setCell ⟨pb, 1, Option.none⟩ (.int .i64 a')) := ⟨h.lies.set1 a', grownBy_trans h.grown (grownBy_set _ _ _ _)⟩
theorem Left.set2 {w w1 : World} {pb : Nat} {s : ByteArray} {a z : Nat} {b : Bool} (h : Left w pb s a z b w1) (z' : Nat) : Left w pb s a z' b (w1.setCell ⟨pb, 2, Option.none⟩ (.int .i64 z')) := ⟨h.lies.set2 z', grownBy_trans h.grown (grownBy_set _ _ _ _)⟩
theorem Left.set3 {w w1 : World} {pb : Nat} {s : ByteArray} {a z : Nat} {b : Bool} (h : Left w pb s a z b w1) (b' : Bool) : Left w pb s a z b' (w1.setCell ⟨pb, 3, Option.none⟩ (.bool b')) := ⟨h.lies.set3 b', grownBy_trans h.grown (grownBy_set _ _ _ _)⟩

set_option maxRecDepth 100000 in
set_option maxHeartbeats 400000 in
theorem take_yes (pb : Nat) (s : ByteArray) (i z : Nat) (b : Bool) (c : UInt8) (w : World) (h : PB w pb s i z b) (hs : s.size ≤ 4611686018427387904) (ht : sees s i c = true) :
    Calls Tryz.prog 68 #[.pointer (some ⟨pb, 0, Option.none⟩), .int .u8 c.toNat] w fun e w' => e = .returned (.bool true) ∧ Left w pb s (i + 1) z b w' := by
  have c0 := h.c0
  have c1 := h.c1
  have hpl := h.lt
  have hfr := h.fr 1
  obtain ⟨hlt, hc⟩ : i < s.size ∧ nx s i = c := by simpa [sees] using ht
  clear ht
  subst hc
  have hd : decide ((i : Int) < (s.size : Int)) = true := by simp; omega
  go_enter Tryz.func68, Tryz.ntmps68
  go_wp2_with fail
  refine (next_any pb s i z b _ h hs (by omega)).mono ?_
  rintro e w1 ⟨rfl, hb1⟩
  obtain ⟨d1, d2⟩ := bcell hb1
  have hz1 := hb1.size
  go_wp2_with fail
  go_quiet (fail)
  go_wp2_with fail
  go_ret
  refine ⟨rfl, ?_⟩
  have hl := ((Left.of_below h hb1).below (below_drewN (w := w1) nq)).set1 (i + 1)
  exact hl

set_option maxRecDepth 100000 in
set_option maxHeartbeats 400000 in
theorem take_no (pb : Nat) (s : ByteArray) (i z : Nat) (b : Bool) (c : UInt8) (w : World) (h : PB w pb s i z b) (hs : s.size ≤ 4611686018427387904) (hi : i ≤ 4611686018427387904) (ht : sees s i c = false) :
    Calls Tryz.prog 68 #[.pointer (some ⟨pb, 0, Option.none⟩), .int .u8 c.toNat] w fun e w' => e = .returned (.bool false) ∧ Left w pb s i z b w' := by
  have c0 := h.c0
  have c1 := h.c1
  have hpl := h.lt
  by_cases hlt : i < s.size
  · have hc : ¬ nx s i = c := by simpa [sees, hlt] using ht
    have hcb : (((nx s i).toNat : Int) == (c.toNat : Int)) = false := by
      rw [beq_eq_false_iff_ne]; intro e; exact hc (UInt8.toNat_inj.1 (by omega))
    clear ht hc
    have hd : decide ((i : Int) < (s.size : Int)) = true := by simp; omega
    go_enter Tryz.func68, Tryz.ntmps68
    go_wp2_with fail
    refine (next_any pb s i z b _ h hs (by omega)).mono ?_
    rintro e w1 ⟨rfl, hb1⟩
    obtain ⟨d1, d2⟩ := bcell hb1
    go_wp2_with fail
    go_quiet (fail)
    go_wp2_with fail
    go_ret
    exact ⟨rfl, (Left.of_below h hb1).below (below_drewN (w := w1) nq)⟩
  · clear ht
    have hd : decide ((i : Int) < (s.size : Int)) = false := by simp; omega
    go_enter Tryz.func68, Tryz.ntmps68
    go_wp2_with fail
    refine (next_any pb s i z b _ h hs (by omega)).mono ?_
    rintro e w1 ⟨rfl, hb1⟩
    obtain ⟨d1, d2⟩ := bcell hb1
    go_wp2_with fail
    go_quiet (fail)
    go_wp2_with fail
    go_ret
    exact ⟨rfl, (Left.of_below h hb1).below (below_drewN (w := w1) nq)⟩

/-- take, whatever stands here. -/
theorem take_any (pb : Nat) (s : ByteArray) (i z : Nat) (b : Bool) (c : UInt8) (w : World) (h : PB w pb s i z b) (hs : s.size ≤ 4611686018427387904) (hi : i ≤ 4611686018427387904) :
    Calls Tryz.prog 68 #[.pointer (some ⟨pb, 0, Option.none⟩), .int .u8 c.toNat] w fun e w' => e = .returned (.bool (sees s i c)) ∧ Left w pb s (if sees s i c = true then i + 1 else i) z b w' := by
  cases ht : sees s i c with
  | true => simpa using take_yes pb s i z b c w h hs ht
  | false => simpa using take_no pb s i z b c w h hs hi ht

end Go.Proofs.YtfklinjaajafgaaGreatDoor
