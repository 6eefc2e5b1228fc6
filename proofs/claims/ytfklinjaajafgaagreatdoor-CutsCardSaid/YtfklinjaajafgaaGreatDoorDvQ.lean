import Derived.Test.YtfklinjaajafgaaGreatDoorErrs
import Derived.Deep.DeepCutAuto
import Derived.Deep.CutBlock
import Derived.Test.YtfklinjaajafgaaGreatDoorPlain
/- The sets of a net's places; the sets of signs. -/
namespace Go.Proofs.YtfklinjaajafgaaGreatDoor
open Go.RowKit

theorem bit32 (s i : Nat) (hs : s < 4294967296) : (bits .and .u32 ((s : Int) / 2 ^ i) 1 == 1) = s.testBit i := by
  have h1 : ((s : Int) / 2 ^ i) = ((s / 2 ^ i : Nat) : Int) := by simp
  have h2 : s / 2 ^ i ≤ s := Nat.div_le_self _ _
  rw [h1, show (1 : Int) = ((1 : Nat) : Int) from rfl, u32_and_nat _ 1 (by omega) (by omega), Nat.and_one_is_mod, Nat.testBit_eq_decide_div_mod_eq]
  rw [Bool.eq_iff_iff]
  simp
  omega

theorem bit64 (s i : Nat) (hs : s < 18446744073709551616) : (bits .and .u64 ((s : Int) / 2 ^ i) 1 == 1) = s.testBit i := by
  have h1 : ((s : Int) / 2 ^ i) = ((s / 2 ^ i : Nat) : Int) := by simp
  have h2 : s / 2 ^ i ≤ s := Nat.div_le_self _ _
  rw [h1, show (1 : Int) = ((1 : Nat) : Int) from rfl, u64_and_nat _ 1 (by omega) (by omega), Nat.and_one_is_mod, Nat.testBit_eq_decide_div_mod_eq]
  rw [Bool.eq_iff_iff]
  simp
  omega

theorem or32 (a b : Nat) (ha : a < 4294967296) (hb : b < 4294967296) : a ||| b < 4294967296 := by
  have := Nat.or_lt_two_pow (n := 32) (by simpa using ha) (by simpa using hb)
  simpa using this

theorem pow32 (k : Nat) (hk : k < 32) : (2 : Nat) ^ k < 4294967296 := by
  have h2 : (2 : Nat) ^ k < 2 ^ 32 := Nat.pow_lt_pow_right (by omega) hk
  simpa using h2

theorem wrap32_pow (k : Nat) (hk : k < 32) : IntKind.u32.wrap (2 ^ k) = ((2 ^ k : Nat) : Int) := by
  have h2 := pow32 k hk
  rw [IntKind.wrap_u32, show ((2 : Int) ^ k) = ((2 ^ k : Nat) : Int) from by simp]
  generalize 2 ^ k = y at *
  omega

set_option maxRecDepth 100000 in
set_option maxHeartbeats 400000 in
theorem setHas_any (s i : Nat) (hs : s < 4294967296) (hi : i < 32) (w : World) :
    Calls Tryz.prog 97 #[.int .u32 s, .int .i64 i] w fun e w' => e = .returned (.bool (s.testBit i)) ∧ w' = w := by
  have H : Hid _ := bit32 s i hs
  go_enter Tryz.func97, Tryz.ntmps97
  go_wp2_with fail
  rw [H.out]
  go_ret
  exact ⟨rfl, rfl⟩

set_option maxRecDepth 100000 in
set_option maxHeartbeats 400000 in
theorem signsHas_any (g : List UInt8) (lo hi : Nat) (c : UInt8) (h : SB g lo hi) (w : World) :
    Calls Tryz.prog 126 #[.agg #[.int .u64 lo, .int .u64 hi], .int .u8 c.toNat] w fun e w' => e = .returned (.bool (Ls.has g c)) ∧ Below w.heap.size w w' := by
  have hb1 := below_alloc1 w (.cells #[.int .u64 lo, .int .u64 hi] 157)
  by_cases h128 : c.toNat < 128
  · have HB : Hid _ := h.bit c h128
    have hl := h.loLt
    have hh := h.hiLt
    clear h
    by_cases h64 : c.toNat < 64
    · have hq : (c.toNat : Int) / 64 = 0 := by omega
      have hr : (c.toNat : Int) % 64 = c.toNat := by omega
      have HX : Hid (sbit lo hi c.toNat = lo.testBit c.toNat) := by show _ = _; unfold sbit; rw [if_pos h64]
      have H : Hid _ := bit64 lo c.toNat hl
      go_enter Tryz.func126, Tryz.ntmps126
      go_wp2_with fail
      go_ret
      exact ⟨ret_bool (by rw [← HB.out, HX.out, ← H.out]), hb1⟩
    · have hq : (c.toNat : Int) / 64 = 1 := by omega
      have hr : (c.toNat : Int) % 64 = ((c.toNat - 64 : Nat) : Int) := by omega
      have HX : Hid (sbit lo hi c.toNat = hi.testBit (c.toNat - 64)) := by show _ = _; unfold sbit; rw [if_neg h64]
      have H : Hid _ := bit64 hi (c.toNat - 64) hh
      go_enter Tryz.func126, Tryz.ntmps126
      go_wp2_with fail
      go_ret
      exact ⟨ret_bool (by rw [← HB.out, HX.out, ← H.out]), hb1⟩
  · have HN : Hid _ := h.none c (by omega)
    clear h
    go_enter Tryz.func126, Tryz.ntmps126
    go_wp2_with fail
    go_ret
    exact ⟨ret_bool (by rw [HN.out]), hb1⟩

/-- A net that lies in block nb, its rows P and Q. -/
structure NetL (w : World) (B nb : Nat) (P Q : Value) (n : Ls.Net) (x : Ls.Span) : Prop where
  lies : w.heap[nb]? = some (.cells #[P, Q, .int .u32 x.first, .int .u32 x.last, .bool x.empty] 152 (0, 0))
  base : B ≤ nb
  good : Ls.Good n
  few : n.places.length ≤ 32
  pls : ∃ los : List (Nat × Nat), los.length = n.places.length ∧ (∀ k a, los[k]? = some a → SB (n.places.getD k []) a.1 a.2) ∧ w.ownsRow B 157 2 P n.places.length (los.flatMap fun a => [.int .u64 a.1, .int .u64 a.2])
  bhs : w.ownsRow B 148 1 Q n.places.length (n.behind.map fun (x : Nat) => .int .u32 x)
  small : ∀ x, x ∈ n.behind → x < 4294967296
  apP : P.ownBlock ≠ some nb
  apQ : Q.ownBlock ≠ some nb
  apPQ : P.ownBlock = none ∨ P.ownBlock ≠ Q.ownBlock

/-- A block that is none of the net's. -/
def Free (w : World) (nb : Nat) (P Q : Value) (k : Nat) : Prop := k < w.heap.size ∧ k ≠ nb ∧ some k ≠ P.ownBlock ∧ some k ≠ Q.ownBlock

/-- From w to w' nothing but the net has changed; its rows are where they were, or new. -/
structure NStep (w : World) (nb : Nat) (P Q : Value) (w' : World) (P' Q' : Value) : Prop where
  os : w'.os = w.os
  tape : w'.tape = w.tape
  output : w'.output = w.output
  size : w.heap.size ≤ w'.heap.size
  block : ∀ k, Free w nb P Q k → w'.heap[k]? = w.heap[k]?
  rowP : P'.ownBlock = P.ownBlock ∨ ∃ k, P'.ownBlock = some k ∧ w.heap.size ≤ k
  rowQ : Q'.ownBlock = Q.ownBlock ∨ ∃ k, Q'.ownBlock = some k ∧ w.heap.size ≤ k

theorem NStep.free {w w' : World} {nb : Nat} {P Q P' Q' : Value} (h : NStep w nb P Q w' P' Q') {k : Nat} (hk : Free w nb P Q k) : Free w' nb P' Q' k := by
  refine ⟨Nat.lt_of_lt_of_le hk.1 h.size, hk.2.1, ?_, ?_⟩
  · rcases h.rowP with e | ⟨m, e, hm⟩
    · rw [e]; exact hk.2.2.1
    · rw [e]; have := hk.1; simp; omega
  · rcases h.rowQ with e | ⟨m, e, hm⟩
    · rw [e]; exact hk.2.2.2
    · rw [e]; have := hk.1; simp; omega

theorem NStep.trans {w w1 w2 : World} {nb : Nat} {P Q P1 Q1 P2 Q2 : Value} (h : NStep w nb P Q w1 P1 Q1) (k : NStep w1 nb P1 Q1 w2 P2 Q2) : NStep w nb P Q w2 P2 Q2 := by
  refine ⟨k.os.trans h.os, k.tape.trans h.tape, k.output.trans h.output, Nat.le_trans h.size k.size, fun i hi => (k.block i (h.free hi)).trans (h.block i hi), ?_, ?_⟩
  · rcases k.rowP with e | ⟨m, e, hm⟩
    · rw [e]; exact h.rowP
    · exact .inr ⟨m, e, Nat.le_trans h.size hm⟩
  · rcases k.rowQ with e | ⟨m, e, hm⟩
    · rw [e]; exact h.rowQ
    · exact .inr ⟨m, e, Nat.le_trans h.size hm⟩

theorem NStep.of_below {w w' : World} (nb : Nat) (P Q : Value) (h : Below w.heap.size w w') : NStep w nb P Q w' P Q :=
  ⟨h.os, h.tape, h.output, h.size, fun k hk => h.block k hk.1, .inl rfl, .inl rfl⟩

theorem NetL.lt {w : World} {B nb : Nat} {P Q : Value} {n : Ls.Net} {x : Ls.Span} (h : NetL w B nb P Q n x) : nb < w.heap.size := (Array.getElem?_eq_some_iff.1 h.lies).1

theorem NetL.newFree {w : World} {B nb : Nat} {P Q : Value} {n : Ls.Net} {x : Ls.Span} (h : NetL w B nb P Q n x) (o : Obj) : Free (w.alloc o) nb P Q w.heap.size := by
  obtain ⟨los, _, _, hP⟩ := h.pls
  refine ⟨by simp, by have := h.lt; omega, fun e => ?_, fun e => ?_⟩
  · have := hP.lt _ e.symm; omega
  · have := h.bhs.lt _ e.symm; omega

/-- What lies elsewhere may change. -/
theorem NetL.same {w w' : World} {B nb : Nat} {P Q : Value} {n : Ls.Net} {x : Ls.Span} (h : NetL w B nb P Q n x) (h1 : w'.heap[nb]? = w.heap[nb]?) (h2 : ∀ k, P.ownBlock = some k → w'.heap[k]? = w.heap[k]?) (h3 : ∀ k, Q.ownBlock = some k → w'.heap[k]? = w.heap[k]?) : NetL w' B nb P Q n x := by
  have row : ∀ {e : TypeId} {sz : Nat} {v : Value} {m : Nat} {xs : List Value}, w.ownsRow B e sz v m xs → (∀ k, v.ownBlock = some k → w'.heap[k]? = w.heap[k]?) → w'.ownsRow B e sz v m xs := by
    intro e sz v m xs ho hk
    refine ⟨ho.1, ?_⟩
    rcases ho.2 with h4 | ⟨g, cap, cur, rfl, hbg, hg, h5⟩
    · exact .inl h4
    · exact .inr ⟨g, cap, cur, rfl, hbg, by rw [hk g rfl]; exact hg, h5⟩
  obtain ⟨los, hl, hS, hP⟩ := h.pls
  exact ⟨h1.trans h.lies, h.base, h.good, h.few, ⟨los, hl, hS, row hP h2⟩, row h.bhs h3, h.small, h.apP, h.apQ, h.apPQ⟩

theorem NetL.below {w w' : World} {B nb : Nat} {P Q : Value} {n : Ls.Net} {x : Ls.Span} (h : NetL w B nb P Q n x) (hb : Below w.heap.size w w') : NetL w' B nb P Q n x := by
  obtain ⟨los, _, _, hP⟩ := h.pls
  exact h.same (hb.block _ h.lt) (fun k hk => hb.block k (hP.lt k hk).2) (fun k hk => hb.block k (h.bhs.lt k hk).2)

theorem NetL.set {w : World} {B nb : Nat} {P Q : Value} {n : Ls.Net} {x : Ls.Span} (h : NetL w B nb P Q n x) {k : Nat} (hk : Free w nb P Q k) (o : Nat) (v : Value) : NetL (w.setCell ⟨k, o, none⟩ v) B nb P Q n x :=
  h.same (Below.heap_setCell _ _ _ _ (Ne.symm hk.2.1)) (fun j hj => Below.heap_setCell _ _ _ _ (fun e => hk.2.2.1 (by rw [hj]; exact congrArg some (Eq.symm e)))) (fun j hj => Below.heap_setCell _ _ _ _ (fun e => hk.2.2.2 (by rw [hj]; exact congrArg some (Eq.symm e))))

/-- A variable of the call's own is written. -/
theorem NStep.set {w w1 : World} {nb : Nat} {P Q P1 Q1 : Value} (h : NStep w nb P Q w1 P1 Q1) {k : Nat} (hk : w.heap.size ≤ k) (o : Nat) (v : Value) : NStep w nb P Q (w1.setCell ⟨k, o, none⟩ v) P1 Q1 :=
  ⟨h.os, h.tape, h.output, by simp [World.setCell]; exact h.size, fun i hi => (Below.heap_setCell _ _ _ _ (by have := hi.1; show i ≠ k; omega)).trans (h.block i hi), h.rowP, h.rowQ⟩

end Go.Proofs.YtfklinjaajafgaaGreatDoor
