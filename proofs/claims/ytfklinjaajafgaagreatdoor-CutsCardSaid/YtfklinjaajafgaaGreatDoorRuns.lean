import Derived.Test.YtfklinjaajafgaaGreatDoorDvW
/- taking, behindAny. -/
namespace Ls

theorem from_last {R : Rules} {o a L : Nat → Bool} {c : UInt8} (ha : ∀ q, a q = (o q && R.pl q c)) : From R o L c [] ↔ ∃ q, a q = true ∧ L q = true := by
  unfold From
  constructor
  · rintro ⟨q, h1, h2, h3⟩; exact ⟨q, by rw [ha, h1, h2]; rfl, h3⟩
  · rintro ⟨q, h1, h2⟩
    rw [ha, Bool.and_eq_true] at h1
    exact ⟨q, h1.1, h1.2, h2⟩

theorem from_next {R : Rules} {o a o' L : Nat → Bool} {c d : UInt8} {u : List UInt8} (ha : ∀ q, a q = (o q && R.pl q c)) (ho : ∀ q', o' q' = true ↔ ∃ q, a q = true ∧ R.E q q' = true) : From R o L c (d :: u) ↔ From R o' L d u := by
  unfold From
  constructor
  · rintro ⟨q, h1, h2, q', h3, h4, h5⟩
    exact ⟨q', (ho q').2 ⟨q, by rw [ha, h1, h2]; rfl, h3⟩, h4, h5⟩
  · rintro ⟨q', h1, h2, h3⟩
    obtain ⟨q, h4, h5⟩ := (ho q').1 h1
    rw [ha, Bool.and_eq_true] at h4
    exact ⟨q, h4.1, h4.2, q', h5, h2, h3⟩

end Ls

namespace Go.Proofs.YtfklinjaajafgaaGreatDoor
open Go.RowKit

theorem flat2_get (los : List (Nat × Nat)) (k : Nat) (hk : k < los.length) : (los.flatMap fun a => [Value.int .u64 a.1, Value.int .u64 a.2])[k * 2]? = some (.int .u64 los[k].1) ∧ (los.flatMap fun a => [Value.int .u64 a.1, Value.int .u64 a.2])[k * 2 + 1]? = some (.int .u64 los[k].2) := by
  induction los generalizing k with
  | nil => simp at hk
  | cons b l ih =>
    cases k with
    | zero => exact ⟨rfl, rfl⟩
    | succ k =>
      have := ih k (by simpa using hk)
      rw [show (k + 1) * 2 = k * 2 + 2 from by omega]
      simpa using this

/-- The signs of a place. -/
theorem NetL.placeAt {w : World} {B nb g cap : Nat} {Q : Value} {n : Ls.Net} {x : Ls.Span} (h : NetL w B nb (.slice (some ⟨g, 0, none⟩) n.places.length cap) Q n x) {k : Nat} (hk : k < n.places.length) :
    ∃ lo hi : Nat, w.cell? ⟨g, k * 2, none⟩ = some (.int .u64 lo) ∧ w.cell? ⟨g, k * 2 + 1, none⟩ = some (.int .u64 hi) ∧ SB (n.places.getD k []) lo hi := by
  obtain ⟨los, h1, h2, h3⟩ := h.pls
  have hk2 : k < los.length := by omega
  obtain ⟨e1, e2⟩ := flat2_get los k hk2
  refine ⟨los[k].1, los[k].2, ?_, ?_, h2 k los[k] (List.getElem?_eq_getElem hk2)⟩
  · rw [h3.cellAt (k * 2) (by omega)]; exact e1
  · rw [h3.cellAt (k * 2 + 1) (by omega)]; exact e2

theorem has_nil (c : UInt8) : Ls.has [] c = false := rfl

set_option maxRecDepth 100000 in
set_option maxHeartbeats 2000000 in
theorem taking_any (w : World) (B nb : Nat) (P Q : Value) (n : Ls.Net) (x : Ls.Span) (h : NetL w B nb P Q n x) (o : Nat) (ho : o < 4294967296) (c : UInt8) :
    Calls Tryz.prog 109 #[.pointer (some ⟨nb, 0, none⟩), .int .u32 o, .int .u8 c.toNat] w fun e w' => ∃ t : Nat, e = .returned (.int .u32 t) ∧ t < 4294967296 ∧ (∀ q, t.testBit q = (o.testBit q && (Ls.rules n).pl q c)) ∧ Below w.heap.size w w' := by
  have hfew := h.few
  have hnl := h.lt
  have c0 := h.c0
  obtain ⟨pa, pc, rfl⟩ := h.shapeP
  have Hh : Hid _ := h
  clear h
  go_enter Tryz.func109, Tryz.ntmps109
  go_wp2_with fail
  go_loopw [7, 15] (fun v i wr => ∃ k t : Nat, k ≤ n.places.length ∧ i = .int .i64 k ∧ v = .int .u32 t ∧ t < 4294967296 ∧ (∀ q, t.testBit q = (decide (q < k) && (o.testBit q && (Ls.rules n).pl q c))) ∧ Below w.heap.size w wr) (fun _ i _ => n.places.length - (intOf i).toNat)
  case atStart => exact ⟨0, 0, Nat.zero_le _, rfl, rfl, by omega, by simp, Below.refl _ _⟩
  case round =>
    obtain ⟨k, t, hk, rfl, rfl, ht, hbit, hb⟩ := hrel
    have Hbit : Hid (∀ q, t.testBit q = (decide (q < k) && (o.testBit q && (Ls.rules n).pl q c))) := hbit
    clear hbit
    by_cases hlt : k < n.places.length
    · obtain ⟨g, rfl⟩ : ∃ g, pa = some ⟨g, 0, none⟩ := by
        obtain ⟨los, h1, h2, h3⟩ := Hh.out.pls
        obtain ⟨g, cap, e, _⟩ := h3.form (by omega)
        injection e with e1
        exact ⟨g, e1⟩
      obtain ⟨lo, hi, d0, d1, hSB⟩ := (Hh.out.below hb).placeAt hlt
      have hH := setHas_any o k ho (by omega) (wr.alloc (.cells #[.int .u64 lo, .int .u64 hi] 157))
      have hno : (Ls.rules n).pl k c = Ls.has (n.places.getD k []) c := rfl
      have step : ∀ t' : Nat, (∀ q, t'.testBit q = (t.testBit q || (decide (q = k) && (o.testBit k && Ls.has (n.places.getD k []) c)))) → ∀ q, t'.testBit q = (decide (q < k + 1) && (o.testBit q && (Ls.rules n).pl q c)) := by
        intro t' h1 q
        rw [h1, Hbit.out q]
        by_cases e : q = k
        · subst e; rw [hno]; simp
        · have e2 : decide (q < k + 1) = decide (q < k) := by rw [decide_eq_decide]; omega
          rw [e2]; simp [e]
      have Hstep : Hid _ := step
      clear step hno
      cases hob : o.testBit k with
      | false =>
        rw [hob] at hH
        have HR : Hid _ := Hstep.out t (fun q => by rw [hob]; simp)
        clear hob
        go_wp2_with fail
        refine hH.mono ?_
        rintro e w1 ⟨rfl, rfl⟩
        go_wp2_with fail
        go_roundw
        case rel => exact ⟨k + 1, t, by omega, by go_num, rfl, ht, HR.out, Below.join hb (below_alloc1 _ _)⟩
        case measure => simp [intOf]; omega
      | true =>
        rw [hob] at hH
        have hG := signsHas_any (n.places.getD k []) lo hi c hSB (wr.alloc (.cells #[.int .u64 lo, .int .u64 hi] 157))
        have hnl2 := heap_alloc_new wr (.cells #[.int .u64 lo, .int .u64 hi] 157)
        cases hhb : Ls.has (n.places.getD k []) c with
        | false =>
          rw [hhb] at hG
          have HR : Hid _ := Hstep.out t (fun q => by rw [hob, hhb]; simp)
          clear hob hhb hnl2
          go_wp2_with fail
          refine hH.mono ?_
          rintro e w1 ⟨rfl, rfl⟩
          go_wp2_with fail
          refine hG.mono ?_
          rintro e w2 ⟨rfl, hb2⟩
          go_wp2_with fail
          go_roundw
          case rel => exact ⟨k + 1, t, by omega, by go_num, rfl, ht, HR.out, Below.join hb (Below.join (below_alloc1 _ _) hb2)⟩
          case measure => simp [intOf]; omega
        | true =>
          rw [hhb] at hG
          have HR : Hid _ := Hstep.out (t ||| 2 ^ k) (fun q => by
            rw [hob, hhb, Nat.testBit_or, Nat.testBit_two_pow]
            by_cases e : k = q
            · simp [e]
            · simp [e, Ne.symm e])
          have hp := pow32 k (by omega)
          have ho2 := or32 t (2 ^ k) ht hp
          have HO : Hid _ := u32_or_nat t (2 ^ k) ht hp
          have HW : Hid ((2 : Int) ^ k % 4294967296 = ((2 ^ k : Nat) : Int)) := by
            have := wrap32_pow k (by omega)
            rw [IntKind.wrap_u32] at this
            exact this
          clear hob hhb hnl2
          go_wp2_with fail
          refine hH.mono ?_
          rintro e w1 ⟨rfl, rfl⟩
          go_wp2_with fail
          refine hG.mono ?_
          rintro e w2 ⟨rfl, hb2⟩
          go_wp2_with fail
          rw [HW.out, HO.out]
          go_roundw
          case rel => exact ⟨k + 1, t ||| 2 ^ k, by omega, by go_num, rfl, ho2, HR.out, Below.join hb (Below.join (below_alloc1 _ _) hb2)⟩
          case measure => simp [intOf]; omega
    · have hk1 : k = n.places.length := by omega
      go_wp2_with fail
      go_ret
      refine ⟨t, rfl, ht, fun q => ?_, hb⟩
      rw [Hbit.out q]
      rcases Nat.lt_or_ge q k with h1 | h1
      · simp [h1]
      · have : (Ls.rules n).pl q c = false := by
          show Ls.has (n.places.getD q []) c = false
          rw [List.getD_eq_getElem?_getD, List.getElem?_eq_none (by omega)]
          exact has_nil c
        rw [this]; simp

end Go.Proofs.YtfklinjaajafgaaGreatDoor

/- behindAny, Matches, Match. -/
namespace Go.Proofs.YtfklinjaajafgaaGreatDoor
open Go.RowKit

set_option maxRecDepth 100000 in
set_option maxHeartbeats 2000000 in
theorem behindAny_any (w : World) (B nb : Nat) (P Q : Value) (n : Ls.Net) (x : Ls.Span) (h : NetL w B nb P Q n x) (a : Nat) (ha : a < 4294967296) :
    Calls Tryz.prog 110 #[.pointer (some ⟨nb, 0, none⟩), .int .u32 a] w fun e w' => ∃ t : Nat, e = .returned (.int .u32 t) ∧ t < 4294967296 ∧ (∀ q', t.testBit q' = true ↔ ∃ q, a.testBit q = true ∧ (Ls.rules n).E q q' = true) ∧ Below w.heap.size w w' := by
  have hfew := h.few
  have hgd := h.good
  unfold Ls.Good at hgd
  have hnl := h.lt
  have c1 := h.c1
  obtain ⟨qa, qc, rfl⟩ := h.shapeQ'
  have Hh : Hid _ := h
  clear h
  go_enter Tryz.func110, Tryz.ntmps110
  go_wp2_with fail
  go_loopw [5, 13] (fun v i wr => ∃ k t : Nat, k ≤ n.places.length ∧ i = .int .i64 k ∧ v = .int .u32 t ∧ t < 4294967296 ∧ (∀ q', t.testBit q' = true ↔ ∃ q, q < k ∧ a.testBit q = true ∧ (Ls.rules n).E q q' = true) ∧ Below w.heap.size w wr) (fun _ i _ => n.places.length - (intOf i).toNat)
  case atStart => exact ⟨0, 0, Nat.zero_le _, rfl, rfl, by omega, by simp, Below.refl _ _⟩
  case round =>
    obtain ⟨k, t, hk, rfl, rfl, ht, hbit, hb⟩ := hrel
    have Hbit : Hid (∀ q', t.testBit q' = true ↔ ∃ q, q < k ∧ a.testBit q = true ∧ (Ls.rules n).E q q' = true) := hbit
    clear hbit
    by_cases hlt : k < n.places.length
    · obtain ⟨g, rfl⟩ : ∃ g, qa = some ⟨g, 0, none⟩ := by
        obtain ⟨g, cap, e, _⟩ := Hh.out.bhs.form (by omega)
        injection e with e1
        exact ⟨g, e1⟩
      have hkb : k < n.behind.length := by omega
      have hcell : wr.cell? ⟨g, k, none⟩ = some (.int .u32 n.behind[k]) := by
        have h1 := (Hh.out.below hb).bhs.cellAt k (by show k < n.places.length * 1; omega)
        rw [h1, List.getElem?_map, List.getElem?_eq_getElem hkb]; rfl
      have hsm : n.behind[k] < 4294967296 := Hh.out.small _ (List.getElem_mem _)
      have hH := setHas_any a k ha (by omega) wr
      have hE : ∀ q', (Ls.rules n).E k q' = n.behind[k].testBit q' := fun q' => by
        show (n.behind.getD k 0).testBit q' = _
        rw [List.getD_eq_getElem?_getD, List.getElem?_eq_getElem hkb]; rfl
      have HE : Hid _ := hE
      clear hE
      cases hab : a.testBit k with
      | false =>
        rw [hab] at hH
        have HR : Hid (∀ q', t.testBit q' = true ↔ ∃ q, q < k + 1 ∧ a.testBit q = true ∧ (Ls.rules n).E q q' = true) := by
          intro q'
          rw [Hbit.out q']
          constructor
          · rintro ⟨q, h1, h2⟩; exact ⟨q, by omega, h2⟩
          · rintro ⟨q, h1, h2, h3⟩
            refine ⟨q, ?_, h2, h3⟩
            rcases Nat.lt_or_ge q k with h4 | h4
            · exact h4
            · obtain rfl : q = k := by omega
              rw [hab] at h2; cases h2
        clear hab
        go_wp2_with fail
        refine hH.mono ?_
        rintro e w1 ⟨rfl, rfl⟩
        go_wp2_with fail
        go_roundw
        case rel => exact ⟨k + 1, t, by omega, by go_num, rfl, ht, HR.out, hb⟩
        case measure => simp [intOf]; omega
      | true =>
        rw [hab] at hH
        have HR : Hid (∀ q', (t ||| n.behind[k]).testBit q' = true ↔ ∃ q, q < k + 1 ∧ a.testBit q = true ∧ (Ls.rules n).E q q' = true) := by
          intro q'
          rw [Nat.testBit_or, Bool.or_eq_true, Hbit.out q', ← HE.out q']
          constructor
          · rintro (⟨q, h1, h2⟩ | h1)
            · exact ⟨q, by omega, h2⟩
            · exact ⟨k, by omega, hab, h1⟩
          · rintro ⟨q, h1, h2, h3⟩
            rcases Nat.lt_or_ge q k with h4 | h4
            · exact .inl ⟨q, h4, h2, h3⟩
            · obtain rfl : q = k := by omega
              exact .inr h3
        have HO : Hid _ := u32_or_nat t n.behind[k] ht hsm
        have ho2 := or32 t n.behind[k] ht hsm
        clear hab
        go_wp2_with fail
        refine hH.mono ?_
        rintro e w1 ⟨rfl, rfl⟩
        go_wp2_with fail
        rw [HO.out]
        go_roundw
        case rel => exact ⟨k + 1, t ||| n.behind[k], by omega, by go_num, rfl, ho2, HR.out, hb⟩
        case measure => simp [intOf]; omega
    · have hk1 : k = n.places.length := by omega
      go_wp2_with fail
      go_ret
      refine ⟨t, rfl, ht, fun q' => ?_, hb⟩
      rw [Hbit.out q']
      constructor
      · rintro ⟨q, _, h2⟩; exact ⟨q, h2⟩
      · rintro ⟨q, h2, h3⟩
        refine ⟨q, ?_, h2, h3⟩
        rcases Nat.lt_or_ge q k with h4 | h4
        · exact h4
        · have h5 : (n.behind.getD q 0).testBit q' = true := h3
          rw [List.getD_eq_getElem?_getD, List.getElem?_eq_none (by omega)] at h5
          simp at h5

/-- The text is let through. -/
def lets (n : Ls.Net) (x : Ls.Span) : List UInt8 → Prop
  | [] => x.empty = true
  | c :: u => Ls.From (Ls.rules n) (Ls.fb x) (Ls.lb x) c u

theorem and32 (a b : Nat) (ha : a < 4294967296) (hb : b < 4294967296) : (bits .and .u32 (a : Int) (b : Int) != 0) = true ↔ ∃ q, a.testBit q = true ∧ b.testBit q = true := by
  rw [u32_and_nat a b ha hb]
  constructor
  · intro h
    have h1 : a &&& b ≠ 0 := by intro e; rw [e] at h; simp at h
    obtain ⟨q, hq⟩ := Nat.exists_testBit_of_ne_zero h1
    rw [Nat.testBit_and, Bool.and_eq_true] at hq
    exact ⟨q, hq⟩
  · rintro ⟨q, h1, h2⟩
    rw [bne_iff_ne]
    intro e
    have e2 : a &&& b = 0 := by omega
    have : (a &&& b).testBit q = true := by rw [Nat.testBit_and, h1, h2]; rfl
    rw [e2] at this
    simp at this

/-- How the walk over the text stands at place k. -/
def Stands (n : Ls.Net) (x : Ls.Span) (s : ByteArray) (k o a : Nat) : Prop :=
  (k < s.size → (lets n x s.data.toList ↔ Ls.From (Ls.rules n) (fun q => o.testBit q) (Ls.lb x) (nx s k) (rest s (k + 1)))) ∧
  (k = s.size → (lets n x s.data.toList ↔ ∃ q, a.testBit q = true ∧ x.last.testBit q = true))

theorem stands_start (n : Ls.Net) (x : Ls.Span) (s : ByteArray) (h : 0 < s.size) : Stands n x s 0 x.first 0 := by
  refine ⟨fun _ => ?_, fun e => by omega⟩
  have h1 : s.data.toList = nx s 0 :: rest s (0 + 1) := rest_lt (i := 0) h
  rw [h1]
  exact Iff.rfl

theorem stands_next {n : Ls.Net} {x : Ls.Span} {s : ByteArray} {k o a a' o' : Nat} (h : Stands n x s k o a) (hk : k < s.size) (ha : ∀ q, a'.testBit q = (o.testBit q && (Ls.rules n).pl q (nx s k))) (ho : ∀ q', o'.testBit q' = true ↔ ∃ q, a'.testBit q = true ∧ (Ls.rules n).E q q' = true) : Stands n x s (k + 1) o' a' := by
  refine ⟨fun h1 => (h.1 hk).trans ?_, fun h1 => (h.1 hk).trans ?_⟩
  · rw [rest_lt h1]
    exact Ls.from_next (a := fun q => a'.testBit q) ha ho
  · rw [rest_ge (by omega)]
    exact Ls.from_last (a := fun q => a'.testBit q) ha

theorem loop_ne (s : ByteArray) : ∀ m i r, s.size - i ≤ m → r ≠ [] → ByteArray.toList.loop s i r ≠ [] := by
  intro m
  induction m with
  | zero =>
    intro i r h hr
    rw [ByteArray.toList.loop.eq_1, if_neg (by omega)]
    simpa using hr
  | succ m ih =>
    intro i r h hr
    rw [ByteArray.toList.loop.eq_1]
    split
    · exact ih _ _ (by omega) (by simp)
    · simpa using hr

theorem toList_ne {s : ByteArray} (h : 0 < s.size) : s.toList.isEmpty = false := by
  have : s.toList ≠ [] := by
    unfold ByteArray.toList
    rw [ByteArray.toList.loop.eq_1, if_pos h]
    exact loop_ne s _ _ _ (Nat.le_refl _) (by simp)
  cases hh : s.toList with
  | nil => exact absurd hh this
  | cons a l => rfl

set_option maxRecDepth 100000 in
set_option maxHeartbeats 2000000 in
theorem Matches_any (w : World) (B nb : Nat) (P Q : Value) (n : Ls.Net) (x : Ls.Span) (h : NetL w B nb P Q n x) (hf : x.first < 4294967296) (hl : x.last < 4294967296) (s : ByteArray) (hs : s.size ≤ 1048576) :
    Calls Tryz.prog 83 #[.pointer (some ⟨nb, 0, none⟩), .string s] w fun e w' => ∃ b : Bool, e = .returned (.bool b) ∧ (b = true ↔ lets n x s.data.toList) ∧ Below w.heap.size w w' := by
  have hnl := h.lt
  have hli := h.lies
  have c2 : w.cell? ⟨nb, 2, none⟩ = some (.int .u32 x.first) := by simp [World.cell?, hli]
  have c3 : w.cell? ⟨nb, 3, none⟩ = some (.int .u32 x.last) := by simp [World.cell?, hli]
  have c4 : w.cell? ⟨nb, 4, none⟩ = some (.bool x.empty) := by simp [World.cell?, hli]
  have Hh : Hid _ := h
  clear h hli
  rcases Nat.eq_zero_or_pos s.size with h0 | h0
  · have hse : s = ⟨#[]⟩ := ByteArray.ext (Array.eq_empty_of_size_eq_zero h0)
    subst hse
    go_enter Tryz.func83, Tryz.ntmps83
    go_wp2_with fail
    go_ret
    exact ⟨x.empty, rfl, Iff.rfl, Below.refl _ _⟩
  · have hemp := toList_ne h0
    go_enter Tryz.func83, Tryz.ntmps83
    go_wp2_with fail
    go_loopw [5, 6, 22] (fun va vo i wr => ∃ k o a : Nat, k ≤ s.size ∧ i = .int .i64 k ∧ va = .int .u32 a ∧ vo = .int .u32 o ∧ a < 4294967296 ∧ o < 4294967296 ∧ Stands n x s k o a ∧ Below w.heap.size w wr) (fun _ _ i _ => s.size - (intOf i).toNat)
    case atStart => exact ⟨0, x.first, 0, Nat.zero_le _, rfl, rfl, rfl, by omega, hf, stands_start n x s h0, Below.refl _ _⟩
    case round =>
      obtain ⟨k, o, a, hk, rfl, rfl, rfl, ha, ho, hst, hb⟩ := hrel
      have Hst : Hid (Stands n x s k o a) := hst
      clear hst
      have hN := Hh.out.below hb
      by_cases hlt : k < s.size
      · have hd2 : (k : Int) < (s.size : Int) := by omega
        have hT := taking_any wr B nb P Q n x hN o ho (nx s k)
        have hx : nx s k = s[k] := nx_lt hlt
        rw [hx] at hT
        have Hx : Hid _ := hx
        have HN : Hid _ := hN
        clear hN hx
        go_wp2_with fail
        refine hT.mono ?_
        rintro e w1 ⟨a', rfl, ha', hbit, hb1⟩
        have Hbit : Hid _ := hbit
        clear hbit hT
        go_wp2_with fail
        refine (behindAny_any w1 B nb P Q n x (HN.out.below hb1) a' ha').mono ?_
        rintro e w2 ⟨o', rfl, ho', hbit2, hb2⟩
        have Hst2 : Hid (Stands n x s (k + 1) o' a') := stands_next Hst.out hlt (by rw [Hx.out]; exact Hbit.out) hbit2
        clear hbit2
        go_wp2_with fail
        go_roundw
        case rel => exact ⟨k + 1, o', a', by omega, by go_num, rfl, rfl, ha', ho', Hst2.out, Below.join hb (Below.join hb1 hb2)⟩
        case measure => simp [intOf]; omega
      · have hk1 : k = s.size := by omega
        have hli := hN.lies
        have d3 : wr.cell? ⟨nb, 3, none⟩ = some (.int .u32 x.last) := by simp [World.cell?, hli]
        clear hN hli
        have HA : Hid _ := and32 a x.last ha hl
        go_wp2_with fail
        go_ret
        exact ⟨_, rfl, HA.out.trans (Hst.out.2 hk1).symm, hb⟩

end Go.Proofs.YtfklinjaajafgaaGreatDoor

/- What is read. -/
namespace Go.Proofs.YtfklinjaajafgaaGreatDoor
open Go.RowKit

theorem lets_iff {d : Ls.D} (h : Ls.Wd 0 d) (u : List UInt8) : lets (Ls.add d net0).1 (Ls.add d net0).2 u ↔ Ls.inL (Ls.toPat d) u := by
  have h1 := (Ls.go_ok h net0 rfl).sem
  cases u with
  | nil => exact h1.nil.symm
  | cons c u => exact (h1.cons c u).symm

theorem readErr_zero {l : List UInt8} (h : readErr l = 0) {d : Ls.D} (hd : readAll l = some d) : l.length ≤ 120 ∧ Ls.dsize d ≤ 24 ∧ Ls.wf (Ls.toPat d) := by
  unfold readErr at h
  have hl : ¬ 120 < l.length := by intro h1; rw [if_pos h1] at h; cases h
  rw [if_neg hl, hd] at h
  have h24 : ¬ 24 < Ls.dsize d := by intro h1; simp [h1] at h
  refine ⟨by omega, by omega, ?_⟩
  unfold readAll at hd
  split at hd
  · cases hd
  · rename_i d' t' hpat
    split at hd
    · simp at hd; subst hd
      exact ((Ls.read_room hpat (by omega)).ok _ (by simp)).1
    · cases hd

theorem readErr_cases {l : List UInt8} (h : readErr l ≠ 0) : readErr l = 1 ∨ readErr l = 2 ∨ readErr l = 3 ∨ readErr l = 4 := by
  have : readErr l ≤ 3 := by
    unfold readErr
    split
    · omega
    · split
      · omega
      · split <;> omega
  omega

end Go.Proofs.YtfklinjaajafgaaGreatDoor
