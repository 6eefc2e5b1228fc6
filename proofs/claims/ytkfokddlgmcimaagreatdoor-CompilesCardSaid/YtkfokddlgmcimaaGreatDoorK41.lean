import Derived.Test.YtkfokddlgmcimaaGreatDoorK08
import Derived.Deep.DeepCutAuto
import Derived.Deep.CutBlock
import Derived.Test.YtkfokddlgmcimaaGreatDoorK01
set_option maxRecDepth 100000
set_option maxHeartbeats 4000000
namespace Go.Proofs.YtkfokddlgmcimaaGreatDoor
open Go.RowKit
theorem bit32 (s i : Nat) (hs : s < 4294967296) : (bits .and .u32 ((s : Int) / 2 ^ i) 1 == 1) = s.testBit i := by
 have h1 : ((s : Int) / 2 ^ i) = ((s / 2 ^ i : Nat) : Int) := by simp
 have h2 : s / 2 ^ i <= s := Nat.div_le_self _ _
 rw [h1, show (1 : Int) = ((1 : Nat) : Int) from rfl, u32_and_nat _ 1 (by omega) (by omega), Nat.and_one_is_mod, Nat.testBit_eq_decide_div_mod_eq]
 rw [Bool.eq_iff_iff]
 simp
 omega
theorem bit64 (s i : Nat) (hs : s < 18446744073709551616) : (bits .and .u64 ((s : Int) / 2 ^ i) 1 == 1) = s.testBit i := by
 have h1 : ((s : Int) / 2 ^ i) = ((s / 2 ^ i : Nat) : Int) := by simp
 have h2 : s / 2 ^ i <= s := Nat.div_le_self _ _
 rw [h1, show (1 : Int) = ((1 : Nat) : Int) from rfl, u64_and_nat _ 1 (by omega) (by omega), Nat.and_one_is_mod, Nat.testBit_eq_decide_div_mod_eq]
 rw [Bool.eq_iff_iff]
 simp
 omega
theorem or32 (a b : Nat) (ha : a < 4294967296) (hb : b < 4294967296) : a ||| b < 4294967296 := by
 have := Nat.or_lt_two_pow (n := 32) (by simpa using ha) (by simpa using hb)
 simpa using this
theorem pow32 (k : Nat) (hk : k < 32) : (2 : Nat) ^ k < 4294967296 := by
 have h2 : (2 : Nat) ^ k < 2 ^ 32 := Nat.pow_lt_pow_right (by omega) hk
 simpa using h2
theorem wrap32_pow (k : Nat) (hk : k < 32) : IntKind.u32.wrap (2 ^ k) = ((2 ^ k : Nat) : Int) := by
 have h2 := pow32 k hk
 rw [IntKind.wrap_u32, show ((2 : Int) ^ k) = ((2 ^ k : Nat) : Int) from by simp]
 generalize 2 ^ k = y at *
 omega
theorem setHas_any (s i : Nat) (hs : s < 4294967296) (hi : i < 32) (w : World) :
  Calls Tryz.prog 84 #[.int .u32 s, .int .i64 i] w fun e w' => e = .returned (.bool (s.testBit i)) /\ w' = w := by
 have H : Hid _ := bit32 s i hs
 go_enter Tryz.func84, Tryz.ntmps84
 go_wp2_with fail
 rw [H.out]
 go_ret
 exact ⟨rfl, rfl⟩
theorem signsHas_any (g : List UInt8) (lo hi : Nat) (c : UInt8) (h : SB g lo hi) (w : World) :
  Calls Tryz.prog 114 #[.agg #[.int .u64 lo, .int .u64 hi], .int .u8 c.toNat] w fun e w' => e = .returned (.bool (Ls.has g c)) /\ Below w.heap.size w w' := by
 have hb1 := below_alloc1 w (.cells #[.int .u64 lo, .int .u64 hi] 145)
 by_cases h128 : c.toNat < 128
 ·have HB : Hid _ := h.bit c h128
  have hl := h.loLt
  have hh := h.hiLt
  clear h
  by_cases h64 : c.toNat < 64
  ·have hq : (c.toNat : Int) / 64 = 0 := by omega
   have hr : (c.toNat : Int) % 64 = c.toNat := by omega
   have HX : Hid (sbit lo hi c.toNat = lo.testBit c.toNat) := by show _ = _; unfold sbit; rw [if_pos h64]
   have H : Hid _ := bit64 lo c.toNat hl
   go_enter Tryz.func114, Tryz.ntmps114
   go_wp2_with fail
   go_ret
   exact ⟨ret_bool (by rw [<- HB.out, HX.out, <- H.out]), hb1⟩
  ·have hq : (c.toNat : Int) / 64 = 1 := by omega
   have hr : (c.toNat : Int) % 64 = ((c.toNat - 64 : Nat) : Int) := by omega
   have HX : Hid (sbit lo hi c.toNat = hi.testBit (c.toNat - 64)) := by show _ = _; unfold sbit; rw [if_neg h64]
   have H : Hid _ := bit64 hi (c.toNat - 64) hh
   go_enter Tryz.func114, Tryz.ntmps114
   go_wp2_with fail
   go_ret
   exact ⟨ret_bool (by rw [<- HB.out, HX.out, <- H.out]), hb1⟩
 ·have HN : Hid _ := h.none c (by omega)
  clear h
  go_enter Tryz.func114, Tryz.ntmps114
  go_wp2_with fail
  go_ret
  exact ⟨ret_bool (by rw [HN.out]), hb1⟩
structure NetL (w : World) (B nb : Nat) (P Q : Value) (n : Ls.Net) (x : Ls.Span) : Prop where
 lies : w.heap[nb]? = some (.cells #[P, Q, .int .u32 x.first, .int .u32 x.last, .bool x.empty] 140 (0, 0))
 base : B <= nb
 good : Ls.Good n
 few : n.places.length <= 32
 pls : ∃ los : List (Nat × Nat), los.length = n.places.length /\ (∀ k a, los[k]? = some a -> SB (n.places.getD k []) a.1 a.2) /\ w.ownsRow B 145 2 P n.places.length (los.flatMap fun a => [.int .u64 a.1, .int .u64 a.2])
 bhs : w.ownsRow B 136 1 Q n.places.length (n.behind.map fun (x : Nat) => .int .u32 x)
 small : ∀ x, x ∈ n.behind -> x < 4294967296
 apP : P.ownBlock ≠ some nb
 apQ : Q.ownBlock ≠ some nb
 apPQ : P.ownBlock = none \/ P.ownBlock ≠ Q.ownBlock
def Free (w : World) (nb : Nat) (P Q : Value) (k : Nat) : Prop := k < w.heap.size /\ k ≠ nb /\ some k ≠ P.ownBlock /\ some k ≠ Q.ownBlock
structure NStep (w : World) (nb : Nat) (P Q : Value) (w' : World) (P' Q' : Value) : Prop where
 os : w'.os = w.os
 tape : w'.tape = w.tape
 output : w'.output = w.output
 size : w.heap.size <= w'.heap.size
 block : ∀ k, Free w nb P Q k -> w'.heap[k]? = w.heap[k]?
 rowP : P'.ownBlock = P.ownBlock \/ ∃ k, P'.ownBlock = some k /\ w.heap.size <= k
 rowQ : Q'.ownBlock = Q.ownBlock \/ ∃ k, Q'.ownBlock = some k /\ w.heap.size <= k
theorem NStep.free {w w' : World} {nb : Nat} {P Q P' Q' : Value} (h : NStep w nb P Q w' P' Q') {k : Nat} (hk : Free w nb P Q k) : Free w' nb P' Q' k := by
 refine ⟨Nat.lt_of_lt_of_le hk.1 h.size, hk.2.1, ?_, ?_⟩
 ·rcases h.rowP with e | ⟨m, e, hm⟩
  ·rw [e]; exact hk.2.2.1
  ·rw [e]; have := hk.1; simp; omega
 ·rcases h.rowQ with e | ⟨m, e, hm⟩
  ·rw [e]; exact hk.2.2.2
  ·rw [e]; have := hk.1; simp; omega
theorem NStep.trans {w w1 w2 : World} {nb : Nat} {P Q P1 Q1 P2 Q2 : Value} (h : NStep w nb P Q w1 P1 Q1) (k : NStep w1 nb P1 Q1 w2 P2 Q2) : NStep w nb P Q w2 P2 Q2 := by
 refine ⟨k.os.trans h.os, k.tape.trans h.tape, k.output.trans h.output, Nat.le_trans h.size k.size, fun i hi => (k.block i (h.free hi)).trans (h.block i hi), ?_, ?_⟩
 ·rcases k.rowP with e | ⟨m, e, hm⟩
  ·rw [e]; exact h.rowP
  ·exact .inr ⟨m, e, Nat.le_trans h.size hm⟩
 ·rcases k.rowQ with e | ⟨m, e, hm⟩
  ·rw [e]; exact h.rowQ
  ·exact .inr ⟨m, e, Nat.le_trans h.size hm⟩
theorem NStep.of_below {w w' : World} (nb : Nat) (P Q : Value) (h : Below w.heap.size w w') : NStep w nb P Q w' P Q :=
 ⟨h.os, h.tape, h.output, h.size, fun k hk => h.block k hk.1, .inl rfl, .inl rfl⟩
theorem NetL.lt {w : World} {B nb : Nat} {P Q : Value} {n : Ls.Net} {x : Ls.Span} (h : NetL w B nb P Q n x) : nb < w.heap.size := (Array.getElem?_eq_some_iff.1 h.lies).1
theorem NetL.newFree {w : World} {B nb : Nat} {P Q : Value} {n : Ls.Net} {x : Ls.Span} (h : NetL w B nb P Q n x) (o : Obj) : Free (w.alloc o) nb P Q w.heap.size := by
 obtain ⟨los, _, _, hP⟩ := h.pls
 refine ⟨by simp, by have := h.lt; omega, fun e => ?_, fun e => ?_⟩
 ·have := hP.lt _ e.symm; omega
 ·have := h.bhs.lt _ e.symm; omega
theorem NetL.same {w w' : World} {B nb : Nat} {P Q : Value} {n : Ls.Net} {x : Ls.Span} (h : NetL w B nb P Q n x) (h1 : w'.heap[nb]? = w.heap[nb]?) (h2 : ∀ k, P.ownBlock = some k -> w'.heap[k]? = w.heap[k]?) (h3 : ∀ k, Q.ownBlock = some k -> w'.heap[k]? = w.heap[k]?) : NetL w' B nb P Q n x := by
 have row : ∀ {e : TypeId} {sz : Nat} {v : Value} {m : Nat} {xs : List Value}, w.ownsRow B e sz v m xs -> (∀ k, v.ownBlock = some k -> w'.heap[k]? = w.heap[k]?) -> w'.ownsRow B e sz v m xs := by
  intro e sz v m xs ho hk
  refine ⟨ho.1, ?_⟩
  rcases ho.2 with h4 | ⟨g, cap, cur, rfl, hbg, hg, h5⟩
  ·exact .inl h4
  ·exact .inr ⟨g, cap, cur, rfl, hbg, by rw [hk g rfl]; exact hg, h5⟩
 obtain ⟨los, hl, hS, hP⟩ := h.pls
 exact ⟨h1.trans h.lies, h.base, h.good, h.few, ⟨los, hl, hS, row hP h2⟩, row h.bhs h3, h.small, h.apP, h.apQ, h.apPQ⟩
theorem NetL.below {w w' : World} {B nb : Nat} {P Q : Value} {n : Ls.Net} {x : Ls.Span} (h : NetL w B nb P Q n x) (hb : Below w.heap.size w w') : NetL w' B nb P Q n x := by
 obtain ⟨los, _, _, hP⟩ := h.pls
 exact h.same (hb.block _ h.lt) (fun k hk => hb.block k (hP.lt k hk).2) (fun k hk => hb.block k (h.bhs.lt k hk).2)
theorem NetL.set {w : World} {B nb : Nat} {P Q : Value} {n : Ls.Net} {x : Ls.Span} (h : NetL w B nb P Q n x) {k : Nat} (hk : Free w nb P Q k) (o : Nat) (v : Value) : NetL (w.setCell ⟨k, o, none⟩ v) B nb P Q n x :=
 h.same (Below.heap_setCell _ _ _ _ (Ne.symm hk.2.1)) (fun j hj => Below.heap_setCell _ _ _ _ (fun e => hk.2.2.1 (by rw [hj]; exact congrArg some (Eq.symm e)))) (fun j hj => Below.heap_setCell _ _ _ _ (fun e => hk.2.2.2 (by rw [hj]; exact congrArg some (Eq.symm e))))
theorem NStep.set {w w1 : World} {nb : Nat} {P Q P1 Q1 : Value} (h : NStep w nb P Q w1 P1 Q1) {k : Nat} (hk : w.heap.size <= k) (o : Nat) (v : Value) : NStep w nb P Q (w1.setCell ⟨k, o, none⟩ v) P1 Q1 :=
 ⟨h.os, h.tape, h.output, by simp [World.setCell]; exact h.size, fun i hi => (Below.heap_setCell _ _ _ _ (by have := hi.1; show i ≠ k; omega)).trans (h.block i hi), h.rowP, h.rowQ⟩
end Go.Proofs.YtkfokddlgmcimaaGreatDoor
namespace Go.Proofs.YtkfokddlgmcimaaGreatDoor
open Go.RowKit
def linkTo (n : Ls.Net) (f t k : Nat) : Ls.Net := ⟨n.places, n.behind.mapIdx fun i x => if i < k /\ f.testBit i = true then x ||| t else x⟩
theorem linkTo_zero (n : Ls.Net) (f t : Nat) : linkTo n f t 0 = n := by
 unfold linkTo
 have : (n.behind.mapIdx fun i x => if i < 0 /\ f.testBit i = true then x ||| t else x) = n.behind := by
  apply List.ext_getElem?
  intro i
  rw [List.getElem?_mapIdx]
  cases n.behind[i]? <;> simp
 rw [this]
theorem linkTo_all (n : Ls.Net) (f t : Nat) : linkTo n f t n.behind.length = Ls.linkN n f t := by
 unfold linkTo Ls.linkN
 congr 1
 apply List.ext_getElem?
 intro i
 rw [List.getElem?_mapIdx, List.getElem?_mapIdx]
 rcases Nat.lt_or_ge i n.behind.length with h | h
 ·rw [List.getElem?_eq_getElem h]; simp [h]
 ·rw [List.getElem?_eq_none h]; rfl
theorem linkTo_no (n : Ls.Net) (f t k : Nat) (h : f.testBit k = false) : linkTo n f t (k + 1) = linkTo n f t k := by
 unfold linkTo
 congr 1
 apply List.ext_getElem?
 intro i
 rw [List.getElem?_mapIdx, List.getElem?_mapIdx]
 cases n.behind[i]? with
 | none => rfl
 | some x =>
  by_cases e : i = k
  ·subst e; simp [h]
  ·have : (i < k + 1 /\ f.testBit i = true) ↔ (i < k /\ f.testBit i = true) := by constructor <;> (rintro ⟨h1, h2⟩; exact ⟨by omega, h2⟩)
   simp only [Option.map_some, this]
theorem linkTo_yes (n : Ls.Net) (f t k : Nat) (hk : k < n.behind.length) (h : f.testBit k = true) : linkTo n f t (k + 1) = ⟨n.places, (linkTo n f t k).behind.set k (n.behind[k] ||| t)⟩ := by
 unfold linkTo
 congr 1
 apply List.ext_getElem?
 intro i
 rw [List.getElem?_set, List.getElem?_mapIdx, List.getElem?_mapIdx]
 by_cases e : k = i
 ·subst e; rw [if_pos rfl, if_pos (by simpa using hk), List.getElem?_eq_getElem hk]; simp [h]
 ·rw [if_neg e]
  cases n.behind[i]? with
  | none => rfl
  | some x =>
   have : (i < k + 1 /\ f.testBit i = true) ↔ (i < k /\ f.testBit i = true) := by constructor <;> (rintro ⟨h1, h2⟩; exact ⟨by omega, h2⟩)
   simp only [Option.map_some, this]
theorem linkTo_get (n : Ls.Net) (f t k : Nat) (hk : k < n.behind.length) : (linkTo n f t k).behind[k]? = some n.behind[k] := by
 unfold linkTo
 rw [List.getElem?_mapIdx, List.getElem?_eq_getElem hk]
 simp
theorem NetL.setQ {w : World} {B nb g cap : Nat} {P : Value} {n : Ls.Net} {x : Ls.Span} (h : NetL w B nb P (.slice (some ⟨g, 0, none⟩) n.places.length cap) n x) {j v : Nat} (hv : v < 4294967296) :
  NetL (w.setCell ⟨g, j, none⟩ (.int .u32 v)) B nb P (.slice (some ⟨g, 0, none⟩) n.places.length cap) ⟨n.places, n.behind.set j v⟩ x := by
 obtain ⟨los, hl, hS, hP⟩ := h.pls
 refine ⟨?_, h.base, ?_, h.few, ⟨los, hl, hS, ?_⟩, ?_, ?_, h.apP, h.apQ, h.apPQ⟩
 ·rw [Below.heap_setCell _ _ _ _ (fun e => h.apQ (by show some g = some nb; rw [e]))]; exact h.lies
 ·have := h.good; unfold Ls.Good at this ⊢; simpa using this
 ·refine ⟨hP.1, ?_⟩
  rcases hP.2 with h4 | ⟨k, cap', cur, rfl, hbg, hg, h5⟩
  ·exact .inl h4
  ·refine .inr ⟨k, cap', cur, rfl, hbg, ?_, h5⟩
   rw [Below.heap_setCell _ _ _ _ (fun e => ?_)]
   ·exact hg
   ·rcases h.apPQ with e2 | e2
    ·cases e2
    ·exact e2 (by show some k = some g; rw [e])
 ·have := h.bhs.stored j (.int .u32 v)
  rw [List.map_set]
  exact this.1
 ·intro y hy
  rcases List.mem_or_eq_of_mem_set hy with hy | rfl
  ·exact h.small y hy
  ·exact hv
theorem NetL.shapeQ {w : World} {B nb : Nat} {P Q : Value} {n : Ls.Net} {x : Ls.Span} (h : NetL w B nb P Q n x) : (Q = .slice none 0 0 /\ n.places.length = 0) \/ ∃ g cap, Q = .slice (some ⟨g, 0, none⟩) n.places.length cap := by
 rcases h.bhs.2 with ⟨h1, h2⟩ | ⟨g, cap, cur, h1, _⟩
 ·exact .inl ⟨h1, h2⟩
 ·exact .inr ⟨g, cap, h1⟩
theorem NetL.c1 {w : World} {B nb : Nat} {P Q : Value} {n : Ls.Net} {x : Ls.Span} (h : NetL w B nb P Q n x) : w.cell? ⟨nb, 1, none⟩ = some Q := by have := h.lies; simp [World.cell?, this]
theorem NetL.c0 {w : World} {B nb : Nat} {P Q : Value} {n : Ls.Net} {x : Ls.Span} (h : NetL w B nb P Q n x) : w.cell? ⟨nb, 0, none⟩ = some P := by have := h.lies; simp [World.cell?, this]
theorem NetL.fr {w : World} {B nb : Nat} {P Q : Value} {n : Ls.Net} {x : Ls.Span} (h : NetL w B nb P Q n x) (o : Nat) : w.frozen? ⟨nb, o, none⟩ = false := by have := h.lies; simp [World.frozen?, this]
theorem link_any (w : World) (B nb : Nat) (P Q : Value) (n : Ls.Net) (x : Ls.Span) (h : NetL w B nb P Q n x) (f t : Nat) (hf : f < 4294967296) (ht : t < 4294967296) :
  Calls Tryz.prog 116 #[.pointer (some ⟨nb, 0, none⟩), .int .u32 f, .int .u32 t] w fun e w' => e = .returned (.tuple #[]) /\ NetL w' B nb P Q (Ls.linkN n f t) x /\ NStep w nb P Q w' P Q := by
 have hgd := h.good
 unfold Ls.Good at hgd
 have hfew := h.few
 have c1 := h.c1
 rcases h.shapeQ with ⟨rfl, h0⟩ | ⟨g, cap, rfl⟩
 ·have HL : Hid (Ls.linkN n f t = n) := by
   show _ = _
   have := linkTo_all n f t
   rw [hgd, h0, linkTo_zero] at this
   exact this.symm
  have Hh : Hid _ := h
  clear h
  go_enter Tryz.func116, Tryz.ntmps116
  go_wp2_with fail
  refine wp_loop_rounds 1 ?_
  rw [rounds_succ]
  go_wp2_with fail
  go_end0
  rw [HL.out]
  exact ⟨rfl, Hh.out, NStep.of_below _ _ _ (Below.refl _ _)⟩
 ·have Hh : Hid _ := h
  clear h
  go_enter Tryz.func116, Tryz.ntmps116
  go_wp2_with fail
  go_loopw [12] (fun i wr => ∃ k : Nat, k <= n.places.length /\ i = .int .i64 k /\ NetL wr B nb P (.slice (some ⟨g, 0, none⟩) n.places.length cap) (linkTo n f t k) x /\ NStep w nb P (.slice (some ⟨g, 0, none⟩) n.places.length cap) wr P (.slice (some ⟨g, 0, none⟩) n.places.length cap)) (fun i _ => n.places.length - (intOf i).toNat)
  case atStart =>
   refine ⟨0, Nat.zero_le _, rfl, ?_, NStep.of_below _ _ _ (Below.refl _ _)⟩
   rw [linkTo_zero]; exact Hh.out
  case round =>
   obtain ⟨k, hk, rfl, hN, hst⟩ := hrel
   have HN : Hid _ := hN
   have HS : Hid _ := hst
   clear hst
   by_cases hlt : k < n.places.length
   ·have k1 := hN.c1
    have hcell : wr.cell? ⟨g, k, none⟩ = some (.int .u32 (n.behind[k]'(by omega))) := by
     have h1 := hN.bhs.cellAt k (by show k < n.places.length * 1; omega)
     rw [h1, List.getElem?_map, linkTo_get n f t k (by omega)]; rfl
    have hfz := hN.bhs.frozenAt k
    have hsm : n.behind[k]'(by omega) < 4294967296 := Hh.out.small _ (List.getElem_mem _)
    have hog : (wr.cell? ⟨g, k, none⟩).isSome := by rw [hcell]; rfl
    clear hN hog
    have HO : Hid _ := u32_or_nat (n.behind[k]'(by omega)) t hsm ht
    have hol := or32 _ t hsm ht
    cases hb : f.testBit k with
    | true =>
     have hH := setHas_any f k hf (by omega) wr
     rw [hb] at hH
     have HY : Hid _ := linkTo_yes n f t k (by omega) hb
     clear hb
     go_wp2_with fail
     refine hH.mono ?_
     rintro e w1 ⟨rfl, rfl⟩
     go_wp2_with fail
     rw [HO.out]
     go_roundw
     case rel =>
      refine ⟨k + 1, by omega, by go_num, ?_, ?_⟩
      ·rw [HY.out]
       exact NetL.setQ (n := linkTo n f t k) HN.out hol
      ·have h1 := HS.out
       refine ⟨h1.os, h1.tape, h1.output, by simp [World.setCell]; exact h1.size, fun i hi => (Below.heap_setCell _ _ _ _ (fun e => hi.2.2.2 (by show some i = some g; rw [e]))).trans (h1.block i hi), h1.rowP, h1.rowQ⟩
     case measure => simp [intOf]; omega
    | false =>
     have hH := setHas_any f k hf (by omega) wr
     rw [hb] at hH
     have HY : Hid _ := linkTo_no n f t k hb
     clear hb
     go_wp2_with fail
     refine hH.mono ?_
     rintro e w1 ⟨rfl, rfl⟩
     go_wp2_with fail
     go_roundw
     case rel =>
      refine ⟨k + 1, by omega, by go_num, ?_, HS.out⟩
      rw [HY.out]
      exact HN.out
     case measure => simp [intOf]; omega
   ·have hk1 : k = n.behind.length := by omega
    have HA : Hid _ := linkTo_all n f t
    clear hN
    go_wp2_with fail
    go_end0
    rw [<- HA.out, <- hk1]
    exact ⟨rfl, HN.out, HS.out⟩
end Go.Proofs.YtkfokddlgmcimaaGreatDoor
