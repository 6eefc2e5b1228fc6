import Derived.Test.YtfklinjaajafgaaGreatDoorDvQ
/- link. -/
namespace Go.Proofs.YtfklinjaajafgaaGreatDoor
open Go.RowKit

/-- The first k are linked. -/
def linkTo (n : Ls.Net) (f t k : Nat) : Ls.Net := ⟨n.places, n.behind.mapIdx fun i x => if i < k ∧ f.testBit i = true then x ||| t else x⟩

theorem linkTo_zero (n : Ls.Net) (f t : Nat) : linkTo n f t 0 = n := by
  unfold linkTo
  have : (n.behind.mapIdx fun i x => if i < 0 ∧ f.testBit i = true then x ||| t else x) = n.behind := by
    apply List.ext_getElem?
    intro i
    rw [List.getElem?_mapIdx]
    cases n.behind[i]? <;> simp
  rw [this]

theorem linkTo_all (n : Ls.Net) (f t : Nat) : linkTo n f t n.behind.length = Ls.linkN n f t := by
  unfold linkTo Ls.linkN
  congr 1
  apply List.ext_getElem?
  intro i
  rw [List.getElem?_mapIdx, List.getElem?_mapIdx]
  rcases Nat.lt_or_ge i n.behind.length with h | h
  · rw [List.getElem?_eq_getElem h]; simp [h]
  · rw [List.getElem?_eq_none h]; rfl

theorem linkTo_no (n : Ls.Net) (f t k : Nat) (h : f.testBit k = false) : linkTo n f t (k + 1) = linkTo n f t k := by
  unfold linkTo
  congr 1
  apply List.ext_getElem?
  intro i
  rw [List.getElem?_mapIdx, List.getElem?_mapIdx]
  cases n.behind[i]? with
  | none => rfl
  | some x =>
    by_cases e : i = k
    · subst e; simp [h]
    · have : (i < k + 1 ∧ f.testBit i = true) ↔ (i < k ∧ f.testBit i = true) := by constructor <;> (rintro ⟨h1, h2⟩; exact ⟨by omega, h2⟩)
      simp only [Option.map_some, this]

theorem linkTo_yes (n : Ls.Net) (f t k : Nat) (hk : k < n.behind.length) (h : f.testBit k = true) : linkTo n f t (k + 1) = ⟨n.places, (linkTo n f t k).behind.set k (n.behind[k] ||| t)⟩ := by
  unfold linkTo
  congr 1
  apply List.ext_getElem?
  intro i
  rw [List.getElem?_set, List.getElem?_mapIdx, List.getElem?_mapIdx]
  by_cases e : k = i
  · subst e; rw [if_pos rfl, if_pos (by simpa using hk), List.getElem?_eq_getElem hk]; simp [h]
  · rw [if_neg e]
    cases n.behind[i]? with
    | none => rfl
    | some x =>
      have : (i < k + 1 ∧ f.testBit i = true) ↔ (i < k ∧ f.testBit i = true) := by constructor <;> (rintro ⟨h1, h2⟩; exact ⟨by omega, h2⟩)
      simp only [Option.map_some, this]

theorem linkTo_get (n : Ls.Net) (f t k : Nat) (hk : k < n.behind.length) : (linkTo n f t k).behind[k]? = some n.behind[k] := by
  unfold linkTo
  rw [List.getElem?_mapIdx, List.getElem?_eq_getElem hk]
  simp

theorem NetL.setQ {w : World} {B nb g cap : Nat} {P : Value} {n : Ls.Net} {x : Ls.Span} (h : NetL w B nb P (.slice (some ⟨g, 0, none⟩) n.places.length cap) n x) {j v : Nat} (hv : v < 4294967296) :
    NetL (w.setCell ⟨g, j, none⟩ (.int .u32 v)) B nb P (.slice (some ⟨g, 0, none⟩) n.places.length cap) ⟨n.places, n.behind.set j v⟩ x := by
  obtain ⟨los, hl, hS, hP⟩ := h.pls
  refine ⟨?_, h.base, ?_, h.few, ⟨los, hl, hS, ?_⟩, ?_, ?_, h.apP, h.apQ, h.apPQ⟩
  · rw [Below.heap_setCell _ _ _ _ (fun e => h.apQ (by show some g = some nb; rw [e]))]; exact h.lies
  · have := h.good; unfold Ls.Good at this ⊢; simpa using this
  · refine ⟨hP.1, ?_⟩
    rcases hP.2 with h4 | ⟨k, cap', cur, rfl, hbg, hg, h5⟩
    · exact .inl h4
    · refine .inr ⟨k, cap', cur, rfl, hbg, ?_, h5⟩
      rw [Below.heap_setCell _ _ _ _ (fun e => ?_)]
      · exact hg
      · rcases h.apPQ with e2 | e2
        · cases e2
        · exact e2 (by show some k = some g; rw [e])
  · have := h.bhs.stored j (.int .u32 v)
    rw [List.map_set]
    exact this.1
  · intro y hy
    rcases List.mem_or_eq_of_mem_set hy with hy | rfl
    · exact h.small y hy
    · exact hv

theorem NetL.shapeQ {w : World} {B nb : Nat} {P Q : Value} {n : Ls.Net} {x : Ls.Span} (h : NetL w B nb P Q n x) : (Q = .slice none 0 0 ∧ n.places.length = 0) ∨ ∃ g cap, Q = .slice (some ⟨g, 0, none⟩) n.places.length cap := by
  rcases h.bhs.2 with ⟨h1, h2⟩ | ⟨g, cap, cur, h1, _⟩
  · exact .inl ⟨h1, h2⟩
  · exact .inr ⟨g, cap, h1⟩

theorem NetL.c1 {w : World} {B nb : Nat} {P Q : Value} {n : Ls.Net} {x : Ls.Span} (h : NetL w B nb P Q n x) : w.cell? ⟨nb, 1, none⟩ = some Q := by have := h.lies; simp [World.cell?, this]
theorem NetL.c0 {w : World} {B nb : Nat} {P Q : Value} {n : Ls.Net} {x : Ls.Span} (h : NetL w B nb P Q n x) : w.cell? ⟨nb, 0, none⟩ = some P := by have := h.lies; simp [World.cell?, this]
theorem NetL.fr {w : World} {B nb : Nat} {P Q : Value} {n : Ls.Net} {x : Ls.Span} (h : NetL w B nb P Q n x) (o : Nat) : w.frozen? ⟨nb, o, none⟩ = false := by have := h.lies; simp [World.frozen?, this]

set_option maxRecDepth 100000 in
set_option maxHeartbeats 1000000 in
theorem link_any (w : World) (B nb : Nat) (P Q : Value) (n : Ls.Net) (x : Ls.Span) (h : NetL w B nb P Q n x) (f t : Nat) (hf : f < 4294967296) (ht : t < 4294967296) :
    Calls Tryz.prog 128 #[.pointer (some ⟨nb, 0, none⟩), .int .u32 f, .int .u32 t] w fun e w' => e = .returned (.tuple #[]) ∧ NetL w' B nb P Q (Ls.linkN n f t) x ∧ NStep w nb P Q w' P Q := by
  have hgd := h.good
  unfold Ls.Good at hgd
  have hfew := h.few
  have c1 := h.c1
  rcases h.shapeQ with ⟨rfl, h0⟩ | ⟨g, cap, rfl⟩
  · have HL : Hid (Ls.linkN n f t = n) := by
      show _ = _
      have := linkTo_all n f t
      rw [hgd, h0, linkTo_zero] at this
      exact this.symm
    have Hh : Hid _ := h
    clear h
    go_enter Tryz.func128, Tryz.ntmps128
    go_wp2_with fail
    refine wp_loop_rounds 1 ?_
    rw [rounds_succ]
    go_wp2_with fail
    go_end0
    rw [HL.out]
    exact ⟨rfl, Hh.out, NStep.of_below _ _ _ (Below.refl _ _)⟩
  · have Hh : Hid _ := h
    clear h
    go_enter Tryz.func128, Tryz.ntmps128
    go_wp2_with fail
    go_loopw [12] (fun i wr => ∃ k : Nat, k ≤ n.places.length ∧ i = .int .i64 k ∧ NetL wr B nb P (.slice (some ⟨g, 0, none⟩) n.places.length cap) (linkTo n f t k) x ∧ NStep w nb P (.slice (some ⟨g, 0, none⟩) n.places.length cap) wr P (.slice (some ⟨g, 0, none⟩) n.places.length cap)) (fun i _ => n.places.length - (intOf i).toNat)
    case atStart =>
      refine ⟨0, Nat.zero_le _, rfl, ?_, NStep.of_below _ _ _ (Below.refl _ _)⟩
      rw [linkTo_zero]; exact Hh.out
    case round =>
      obtain ⟨k, hk, rfl, hN, hst⟩ := hrel
      have HN : Hid _ := hN
      have HS : Hid _ := hst
      clear hst
      by_cases hlt : k < n.places.length
      · have k1 := hN.c1
        have hcell : wr.cell? ⟨g, k, none⟩ = some (.int .u32 (n.behind[k]'(by omega))) := by
          have h1 := hN.bhs.cellAt k (by show k < n.places.length * 1; omega)
          rw [h1, List.getElem?_map, linkTo_get n f t k (by omega)]; rfl
        have hfz := hN.bhs.frozenAt k
        have hsm : n.behind[k]'(by omega) < 4294967296 := Hh.out.small _ (List.getElem_mem _)
        have hog : (wr.cell? ⟨g, k, none⟩).isSome := by rw [hcell]; rfl
        clear hN hog
        have HO : Hid _ := u32_or_nat (n.behind[k]'(by omega)) t hsm ht
        have hol := or32 _ t hsm ht
        cases hb : f.testBit k with
        | true =>
          have hH := setHas_any f k hf (by omega) wr
          rw [hb] at hH
          have HY : Hid _ := linkTo_yes n f t k (by omega) hb
          clear hb
          go_wp2_with fail
          refine hH.mono ?_
          rintro e w1 ⟨rfl, rfl⟩
          go_wp2_with fail
          rw [HO.out]
          go_roundw
          case rel =>
            refine ⟨k + 1, by omega, by go_num, ?_, ?_⟩
            · rw [HY.out]
              exact NetL.setQ (n := linkTo n f t k) HN.out hol
            · have h1 := HS.out
              refine ⟨h1.os, h1.tape, h1.output, by simp [World.setCell]; exact h1.size, fun i hi => (Below.heap_setCell _ _ _ _ (fun e => hi.2.2.2 (by show some i = some g; rw [e]))).trans (h1.block i hi), h1.rowP, h1.rowQ⟩
          case measure => simp [intOf]; omega
        | false =>
          have hH := setHas_any f k hf (by omega) wr
          rw [hb] at hH
          have HY : Hid _ := linkTo_no n f t k hb
          clear hb
          go_wp2_with fail
          refine hH.mono ?_
          rintro e w1 ⟨rfl, rfl⟩
          go_wp2_with fail
          go_roundw
          case rel =>
            refine ⟨k + 1, by omega, by go_num, ?_, HS.out⟩
            rw [HY.out]
            exact HN.out
          case measure => simp [intOf]; omega
      · have hk1 : k = n.behind.length := by omega
        have HA : Hid _ := linkTo_all n f t
        clear hN
        go_wp2_with fail
        go_end0
        rw [← HA.out, ← hk1]
        exact ⟨rfl, HN.out, HS.out⟩

end Go.Proofs.YtfklinjaajafgaaGreatDoor
