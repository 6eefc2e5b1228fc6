import Derived.Test.YtbdjchmnahjjlaaDoorDvW
/- taking, behindAny. -/
namespace Ls

theorem from_last {R : Rules} {o a L : Nat → Bool} {c : UInt8} (ha : ∀ q, a q = (o q && R.pl q c)) : From R o L c [] ↔ ∃ q, a q = true ∧ L q = true := by
  unfold From
  constructor
  · rintro ⟨q, h1, h2, h3⟩; exact ⟨q, by rw [ha, h1, h2]; rfl, h3⟩
  · rintro ⟨q, h1, h2⟩
    rw [ha, Bool.and_eq_true] at h1
    exact ⟨q, h1.1, h1.2, h2⟩

theorem from_next {R : Rules} {o a o' L : Nat → Bool} {c d : UInt8} {u : List UInt8} (ha : ∀ q, a q = (o q && R.pl q c)) (ho : ∀ q', o' q' = true ↔ ∃ q, a q = true ∧ R.E q q' = true) : From R o L c (d :: u) ↔ From R o' L d u := by
  unfold From
  constructor
  · rintro ⟨q, h1, h2, q', h3, h4, h5⟩
    exact ⟨q', (ho q').2 ⟨q, by rw [ha, h1, h2]; rfl, h3⟩, h4, h5⟩
  · rintro ⟨q', h1, h2, h3⟩
    obtain ⟨q, h4, h5⟩ := (ho q').1 h1
    rw [ha, Bool.and_eq_true] at h4
    exact ⟨q, h4.1, h4.2, q', h5, h2, h3⟩

end Ls

namespace Go.Proofs.YtbdjchmnahjjlaaDoor
open Go.RowKit

theorem flat2_get (los : List (Nat × Nat)) (k : Nat) (hk : k < los.length) : (los.flatMap fun a => [Value.int .u64 a.1, Value.int .u64 a.2])[k * 2]? = some (.int .u64 los[k].1) ∧ (los.flatMap fun a => [Value.int .u64 a.1, Value.int .u64 a.2])[k * 2 + 1]? = some (.int .u64 los[k].2) := by
  induction los generalizing k with
  | nil => simp at hk
  | cons b l ih =>
    cases k with
    | zero => exact ⟨rfl, rfl⟩
    | succ k =>
      have := ih k (by simpa using hk)
      rw [show (k + 1) * 2 = k * 2 + 2 from by omega]
      simpa using this

/-- The signs of a place. -/
theorem NetL.placeAt {w : World} {B nb g cap : Nat} {Q : Value} {n : Ls.Net} {x : Ls.Span} (h : NetL w B nb (.slice (some ⟨g, 0, none⟩) n.places.length cap) Q n x) {k : Nat} (hk : k < n.places.length) :
    ∃ lo hi : Nat, w.cell? ⟨g, k * 2, none⟩ = some (.int .u64 lo) ∧ w.cell? ⟨g, k * 2 + 1, none⟩ = some (.int .u64 hi) ∧ SB (n.places.getD k []) lo hi := by
  obtain ⟨los, h1, h2, h3⟩ := h.pls
  have hk2 : k < los.length := by omega
  obtain ⟨e1, e2⟩ := flat2_get los k hk2
  refine ⟨los[k].1, los[k].2, ?_, ?_, h2 k los[k] (List.getElem?_eq_getElem hk2)⟩
  · rw [h3.cellAt (k * 2) (by omega)]; exact e1
  · rw [h3.cellAt (k * 2 + 1) (by omega)]; exact e2

theorem has_nil (c : UInt8) : Ls.has [] c = false := rfl

set_option maxRecDepth 100000 in
set_option maxHeartbeats 2000000 in
theorem taking_any (w : World) (B nb : Nat) (P Q : Value) (n : Ls.Net) (x : Ls.Span) (h : NetL w B nb P Q n x) (o : Nat) (ho : o < 4294967296) (c : UInt8) :
    Calls Tryd.prog 31 #[.pointer (some ⟨nb, 0, none⟩), .int .u32 o, .int .u8 c.toNat] w fun e w' => ∃ t : Nat, e = .returned (.int .u32 t) ∧ t < 4294967296 ∧ (∀ q, t.testBit q = (o.testBit q && (Ls.rules n).pl q c)) ∧ Below w.heap.size w w' := by
  have hfew := h.few
  have hnl := h.lt
  have c0 := h.c0
  obtain ⟨pa, pc, rfl⟩ := h.shapeP
  have Hh : Hid _ := h
  clear h
  go_enter Tryd.func31, Tryd.ntmps31
  go_wp2_with fail
  go_loopw [7, 15] (fun v i wr => ∃ k t : Nat, k ≤ n.places.length ∧ i = .int .i64 k ∧ v = .int .u32 t ∧ t < 4294967296 ∧ (∀ q, t.testBit q = (decide (q < k) && (o.testBit q && (Ls.rules n).pl q c))) ∧ Below w.heap.size w wr) (fun _ i _ => n.places.length - (intOf i).toNat)
  case atStart => exact ⟨0, 0, Nat.zero_le _, rfl, rfl, by omega, by simp, Below.refl _ _⟩
  case round =>
    obtain ⟨k, t, hk, rfl, rfl, ht, hbit, hb⟩ := hrel
    have Hbit : Hid (∀ q, t.testBit q = (decide (q < k) && (o.testBit q && (Ls.rules n).pl q c))) := hbit
    clear hbit
    by_cases hlt : k < n.places.length
    · obtain ⟨g, rfl⟩ : ∃ g, pa = some ⟨g, 0, none⟩ := by
        obtain ⟨los, h1, h2, h3⟩ := Hh.out.pls
        obtain ⟨g, cap, e, _⟩ := h3.form (by omega)
        injection e with e1
        exact ⟨g, e1⟩
      obtain ⟨lo, hi, d0, d1, hSB⟩ := (Hh.out.below hb).placeAt hlt
      have hH := setHas_any o k ho (by omega) (wr.alloc (.cells #[.int .u64 lo, .int .u64 hi] 111))
      have hno : (Ls.rules n).pl k c = Ls.has (n.places.getD k []) c := rfl
      have step : ∀ t' : Nat, (∀ q, t'.testBit q = (t.testBit q || (decide (q = k) && (o.testBit k && Ls.has (n.places.getD k []) c)))) → ∀ q, t'.testBit q = (decide (q < k + 1) && (o.testBit q && (Ls.rules n).pl q c)) := by
        intro t' h1 q
        rw [h1, Hbit.out q]
        by_cases e : q = k
        · subst e; rw [hno]; simp
        · have e2 : decide (q < k + 1) = decide (q < k) := by rw [decide_eq_decide]; omega
          rw [e2]; simp [e]
      have Hstep : Hid _ := step
      clear step hno
      cases hob : o.testBit k with
      | false =>
        rw [hob] at hH
        have HR : Hid _ := Hstep.out t (fun q => by rw [hob]; simp)
        clear hob
        go_wp2_with fail
        refine hH.mono ?_
        rintro e w1 ⟨rfl, rfl⟩
        go_wp2_with fail
        go_roundw
        case rel => exact ⟨k + 1, t, by omega, by go_num, rfl, ht, HR.out, Below.join hb (below_alloc1 _ _)⟩
        case measure => simp [intOf]; omega
      | true =>
        rw [hob] at hH
        have hG := signsHas_any (n.places.getD k []) lo hi c hSB (wr.alloc (.cells #[.int .u64 lo, .int .u64 hi] 111))
        have hnl2 := heap_alloc_new wr (.cells #[.int .u64 lo, .int .u64 hi] 111)
        cases hhb : Ls.has (n.places.getD k []) c with
        | false =>
          rw [hhb] at hG
          have HR : Hid _ := Hstep.out t (fun q => by rw [hob, hhb]; simp)
          clear hob hhb hnl2
          go_wp2_with fail
          refine hH.mono ?_
          rintro e w1 ⟨rfl, rfl⟩
          go_wp2_with fail
          refine hG.mono ?_
          rintro e w2 ⟨rfl, hb2⟩
          go_wp2_with fail
          go_roundw
          case rel => exact ⟨k + 1, t, by omega, by go_num, rfl, ht, HR.out, Below.join hb (Below.join (below_alloc1 _ _) hb2)⟩
          case measure => simp [intOf]; omega
        | true =>
          rw [hhb] at hG
          have HR : Hid _ := Hstep.out (t ||| 2 ^ k) (fun q => by
            rw [hob, hhb, Nat.testBit_or, Nat.testBit_two_pow]
            by_cases e : k = q
            · simp [e]
            · simp [e, Ne.symm e])
          have hp := pow32 k (by omega)
          have ho2 := or32 t (2 ^ k) ht hp
          have HO : Hid _ := u32_or_nat t (2 ^ k) ht hp
          have HW : Hid ((2 : Int) ^ k % 4294967296 = ((2 ^ k : Nat) : Int)) := by
            have := wrap32_pow k (by omega)
            rw [IntKind.wrap_u32] at this
            exact this
          clear hob hhb hnl2
          go_wp2_with fail
          refine hH.mono ?_
          rintro e w1 ⟨rfl, rfl⟩
          go_wp2_with fail
          refine hG.mono ?_
          rintro e w2 ⟨rfl, hb2⟩
          go_wp2_with fail
          rw [HW.out, HO.out]
          go_roundw
          case rel => exact ⟨k + 1, t ||| 2 ^ k, by omega, by go_num, rfl, ho2, HR.out, Below.join hb (Below.join (below_alloc1 _ _) hb2)⟩
          case measure => simp [intOf]; omega
    · have hk1 : k = n.places.length := by omega
      go_wp2_with fail
      go_ret
      refine ⟨t, rfl, ht, fun q => ?_, hb⟩
      rw [Hbit.out q]
      rcases Nat.lt_or_ge q k with h1 | h1
      · simp [h1]
      · have : (Ls.rules n).pl q c = false := by
          show Ls.has (n.places.getD q []) c = false
          rw [List.getD_eq_getElem?_getD, List.getElem?_eq_none (by omega)]
          exact has_nil c
        rw [this]; simp

end Go.Proofs.YtbdjchmnahjjlaaDoor
