import Derived.Test.YtfklinjaajafgaaGreatDoorSrch
import Derived.Test.YtfklinjaajafgaaGreatDoorMeet
import Derived.Test.YtfklinjaajafgaaGreatDoorRuns
/- read: both walks by one sign more. -/
namespace Go.Proofs.YtfklinjaajafgaaGreatDoor
open Go.RowKit

/-- A net all of which lies below B. -/
structure Nt (w : World) (B nb : Nat) (P Q : Value) (n : Ls.Net) (x : Ls.Span) : Prop where
  net : ∃ B0, NetL w B0 nb P Q n x
  low : nb < B
  lowP : ∀ k, P.ownBlock = some k → k < B
  lowQ : ∀ k, Q.ownBlock = some k → k < B
  fst : x.first < 4294967296
  lst : x.last < 4294967296

theorem Nt.keep {w w' : World} {B nb : Nat} {P Q : Value} {n : Ls.Net} {x : Ls.Span} (h : Nt w B nb P Q n x) (hb : Below B w w') : Nt w' B nb P Q n x := by
  obtain ⟨B0, h1⟩ := h.net
  exact ⟨⟨B0, h1.same (hb.block _ h.low) (fun k hk => hb.block k (h.lowP k hk)) (fun k hk => hb.block k (h.lowQ k hk))⟩, h.low, h.lowP, h.lowQ, h.fst, h.lst⟩

/-- What has been met so far: all of the places up to k, and behind place k + 1 those up to m. -/
def Part (A C : Ls.Au) (s : Ls.Pr) (M T : List Ls.Pr) (k m : Nat) : Prop :=
  (∀ t, t ∈ T → Ls.Stp A C s t) ∧ ∀ t, Ls.Stp A C s t → t.2.1 ≤ k ∨ (t.2.1 = k + 1 ∧ t.2.2 ≤ m) → t ∈ M ++ T

theorem stp_pos {n n' : Ls.Net} {x x' : Ls.Span} {s t : Ls.Pr} (h : Ls.Stp (Ls.au n x) (Ls.au n' x') s t) : 0 < t.2.1 ∧ t.2.1 ≤ n.places.length ∧ 0 < t.2.2 ∧ t.2.2 ≤ n'.places.length := by
  obtain ⟨_, _, _, c, h1, h2⟩ := h
  obtain ⟨i, e1, h3⟩ := Ls.au_lt h1
  obtain ⟨j, e2, h4⟩ := Ls.au_lt h2
  omega

theorem part_start (n n' : Ls.Net) (x x' : Ls.Span) (s : Ls.Pr) (M : List Ls.Pr) : Part (Ls.au n x) (Ls.au n' x') s M [] 0 0 :=
  ⟨by simp, fun t h1 h2 => by have := stp_pos h1; omega⟩

theorem part_skip {n n' : Ls.Net} {x x' : Ls.Span} {s : Ls.Pr} {M T : List Ls.Pr} {k : Nat} (h : Part (Ls.au n x) (Ls.au n' x') s M T k 0) (hk : (Ls.au n x).nx s.2.1 (k + 1) = false) : Part (Ls.au n x) (Ls.au n' x') s M T (k + 1) 0 := by
  refine ⟨h.1, fun t h1 h2 => ?_⟩
  have h3 := stp_pos h1
  by_cases e : t.2.1 = k + 1
  · have h4 := h1.2.1
    rw [e, hk] at h4
    cases h4
  · exact h.2 t h1 (by omega)

theorem part_end {n n' : Ls.Net} {x x' : Ls.Span} {s : Ls.Pr} {M T : List Ls.Pr} {k m : Nat} (h : Part (Ls.au n x) (Ls.au n' x') s M T k m) (hm : n'.places.length ≤ m) : Part (Ls.au n x) (Ls.au n' x') s M T (k + 1) 0 :=
  ⟨h.1, fun t h1 h2 => h.2 t h1 (by have := stp_pos h1; omega)⟩

theorem part_not {n n' : Ls.Net} {x x' : Ls.Span} {s : Ls.Pr} {M T : List Ls.Pr} {k m : Nat} (h : Part (Ls.au n x) (Ls.au n' x') s M T k m) (hn : ¬ Ls.Stp (Ls.au n x) (Ls.au n' x') s (s.1, k + 1, m + 1)) : Part (Ls.au n x) (Ls.au n' x') s M T k (m + 1) := by
  refine ⟨h.1, fun t h1 h2 => ?_⟩
  by_cases e : t.2.1 = k + 1 ∧ t.2.2 = m + 1
  · refine absurd ?_ hn
    have e2 : t = (s.1, k + 1, m + 1) := Prod.ext h1.1 (Prod.ext e.1 e.2)
    rw [← e2]; exact h1
  · exact h.2 t h1 (by omega)

theorem part_met {n n' : Ls.Net} {x x' : Ls.Span} {s : Ls.Pr} {M T T2 : List Ls.Pr} {k m : Nat} (h : Part (Ls.au n x) (Ls.au n' x') s M T k m) (hn : Ls.Stp (Ls.au n x) (Ls.au n' x') s (s.1, k + 1, m + 1)) (h2 : ∀ t, t ∈ T2 → t = (s.1, k + 1, m + 1)) (h3 : (s.1, k + 1, m + 1) ∈ (M ++ T) ++ T2) : Part (Ls.au n x) (Ls.au n' x') s M (T ++ T2) k (m + 1) := by
  refine ⟨fun t ht => ?_, fun t h4 h5 => ?_⟩
  · rcases List.mem_append.1 ht with h6 | h6
    · exact h.1 t h6
    · rw [h2 t h6]; exact hn
  · rw [← List.append_assoc]
    by_cases e : t.2.1 = k + 1 ∧ t.2.2 = m + 1
    · have e2 : t = (s.1, k + 1, m + 1) := Prod.ext h4.1 (Prod.ext e.1 e.2)
      rw [e2]; exact h3
    · exact List.mem_append_left _ (h.2 t h4 (by omega))

theorem stp_iff {n n' : Ls.Net} {x x' : Ls.Span} {s : Ls.Pr} {k m : Nat} : Ls.Stp (Ls.au n x) (Ls.au n' x') s (s.1, k + 1, m + 1) ↔ (nextV n x s.2.1).testBit k = true ∧ (nextV n' x' s.2.2).testBit m = true ∧ ∃ c, Ls.has (n.places.getD k []) c = true ∧ Ls.has (n'.places.getD m []) c = true := by
  constructor
  · rintro ⟨_, h1, h2, h3⟩
    exact ⟨(nextV_bit _ _ _ _).symm.trans h1, (nextV_bit _ _ _ _).symm.trans h2, h3⟩
  · rintro ⟨h1, h2, h3⟩
    exact ⟨rfl, (nextV_bit _ _ _ _).trans h1, (nextV_bit _ _ _ _).trans h2, h3⟩

set_option maxRecDepth 100000 in
set_option maxHeartbeats 4000000 in
theorem read_any (w : World) (B sb mb : Nat) (V : Value) (M O : List Ls.Pr) (h : Srch w B sb mb V M O) (hB : B ≤ w.heap.size) (s : Ls.Pr) (hph : s.1 = 0 ∨ s.1 = 1 ∨ s.1 = 2)
    (nb nb' : Nat) (P Q P' Q' : Value) (n n' : Ls.Net) (x x' : Ls.Span) (hN : Nt w B nb P Q n x) (hN' : Nt w B nb' P' Q' n' x') (hs1 : s.2.1 ≤ n.places.length) (hs2 : s.2.2 ≤ n'.places.length) :
    Calls Tryz.prog 64 #[.pointer (some ⟨sb, 0, none⟩), stV s, .pointer (some ⟨nb, 0, none⟩), .pointer (some ⟨nb', 0, none⟩)] w (MetPost w B sb mb V M O (fun t => Ls.Stp (Ls.au n x) (Ls.au n' x') s t)) := by
  have hb0 := below_alloc1 w (.cells #[.int .i64 (s.1 : Nat), .int .i64 ((s.2.1 : Int) - 1), .int .i64 ((s.2.2 : Int) - 1)] 112)
  have hbx : (w.alloc (.cells #[.int .i64 (s.1 : Nat), .int .i64 ((s.2.1 : Int) - 1), .int .i64 ((s.2.2 : Int) - 1)] 112)).heap[w.heap.size]? = some (.cells #[.int .i64 (s.1 : Nat), .int .i64 ((s.2.1 : Int) - 1), .int .i64 ((s.2.2 : Int) - 1)] 112 (0, 0)) := heap_alloc_new _ _
  have hS0 := h.below hb0
  have hF0 := h.free (.cells #[.int .i64 (s.1 : Nat), .int .i64 ((s.2.1 : Int) - 1), .int .i64 ((s.2.2 : Int) - 1)] 112)
  have hst0 := SStep.of_below sb mb V hb0
  have hM0 := hN.keep (hb0.mono hB)
  have hM0' := hN'.keep (hb0.mono hB)
  have HPh : Hid (s.1 = 0 ∨ s.1 = 1 ∨ s.1 = 2) := hph
  clear h hN hN' hph
  unfold stV
  go_enter Tryz.func64, Tryz.ntmps64
  go_upto_region 1 with (fail)
  generalize w.alloc (.cells #[.int .i64 (s.1 : Nat), .int .i64 ((s.2.1 : Int) - 1), .int .i64 ((s.2.2 : Int) - 1)] 112) = W at *
  obtain ⟨k0, k1, k2⟩ : W.cell? ⟨w.heap.size, 0, none⟩ = some (.int .i64 (s.1 : Nat)) ∧ W.cell? ⟨w.heap.size, 1, none⟩ = some (.int .i64 ((s.2.1 : Int) - 1)) ∧ W.cell? ⟨w.heap.size, 2, none⟩ = some (.int .i64 ((s.2.2 : Int) - 1)) := by
    refine ⟨?_, ?_, ?_⟩ <;> simp [World.cell?, hbx]
  have H1 : Hid (∀ q, Calls Tryz.prog 96 #[.pointer (some ⟨nb, 0, none⟩), .int .i64 ((s.2.1 : Int) - 1)] (W.drewN q) fun e w' => e = .returned (.int .u32 (nextV n x s.2.1)) ∧ w' = W.drewN q) := fun q => by
    obtain ⟨B0, h1⟩ := hM0.net
    exact nnext_any _ B0 nb P Q n x (h1.below (below_drewN q)) _ hs1
  have H2 : Hid (∀ q, Calls Tryz.prog 96 #[.pointer (some ⟨nb', 0, none⟩), .int .i64 ((s.2.2 : Int) - 1)] (W.drewN q) fun e w' => e = .returned (.int .u32 (nextV n' x' s.2.2)) ∧ w' = W.drewN q) := fun q => by
    obtain ⟨B0, h1⟩ := hM0'.net
    exact nnext_any _ B0 nb' P' Q' n' x' (h1.below (below_drewN q)) _ hs2
  have HM : Hid _ := hM0
  have HM' : Hid _ := hM0'
  have HS0 : Hid _ := hS0
  have HF0 : Hid _ := hF0
  have HST0 : Hid _ := hst0
  have HBX : Hid _ := hbx
  clear hM0 hM0' hS0 hF0 hst0 hbx hb0
  generalize hi1 : ((s.2.1 : Int) - 1) = i1 at *
  generalize hi2 : ((s.2.2 : Int) - 1) = i2 at *
  go_wp2_with fail
  go_quiet (first | (go_at_call_of 96 (Value.int .i64 i1); exact Calls.quiet_of_same (H1.out _)) | (go_at_call_of 96 (Value.int .i64 i2); exact Calls.quiet_of_same (H2.out _)))
  obtain ⟨W1, hW1⟩ : ∃ W1, W1 = W.drewN nq := ⟨_, rfl⟩
  have hbq : Below W.heap.size W W1 := by rw [hW1]; exact below_drewN nq
  have hzW : B ≤ W.heap.size := Nat.le_trans hB HST0.out.size
  have hS1 := HS0.out.below hbq
  have hF1 := (SStep.of_below sb mb V hbq).free HF0.out
  have hst1 := HST0.out.trans (SStep.of_below sb mb V hbq)
  have hbx1 := (hbq.block _ HF0.out.1).trans HBX.out
  have hN1 := HM.out.keep (hbq.mono hzW)
  have hN1' := HM'.out.keep (hbq.mono hzW)
  rw [← hW1]
  clear hW1 hbq HM HM' HS0 HF0 HST0 HBX H1 H2 k0 k1 k2 hzW
  clear W
  obtain ⟨B0, hL⟩ := hN1.net
  obtain ⟨B0', hL'⟩ := hN1'.net
  have hf1 := hN1.net.elim fun _ h => h.nextV_lt hN1.fst s.2.1
  have hf2 := hN1'.net.elim fun _ h => h.nextV_lt hN1'.fst s.2.2
  obtain ⟨pa, pc, rfl⟩ := hL.shapeP
  obtain ⟨pa', pc', rfl⟩ := hL'.shapeP
  have c0 := hL.c0
  have hfew := hL.few
  have hfew' := hL'.few
  have hBz : B ≤ W1.heap.size := Nat.le_trans hB hst1.size
  have HN1 : Hid _ := hN1
  have HN1' : Hid _ := hN1'
  have HS1 : Hid _ := hS1
  have HF1 : Hid _ := hF1
  have HST1 : Hid _ := hst1
  have HBX : Hid _ := hbx1
  obtain ⟨f1, hf1e⟩ : ∃ f1, f1 = nextV n x s.2.1 := ⟨_, rfl⟩
  obtain ⟨f2, hf2e⟩ : ∃ f2, f2 = nextV n' x' s.2.2 := ⟨_, rfl⟩
  rw [← hf1e] at hf1 ⊢
  rw [← hf2e] at hf2 ⊢
  have Hf1 : Hid _ := hf1e
  have Hf2 : Hid _ := hf2e
  clear hf1e hf2e
  clear hL hL' hN1 hN1' hS1 hF1 hst1 hbx1
  go_wp2_with fail
  go_loopw [27] (fun i wr => ∃ k T V1, k ≤ n.places.length ∧ i = .int .i64 (k : Nat) ∧ Srch wr B sb mb V1 (M ++ T) (O ++ T) ∧ SStep W1 sb mb V wr V1 ∧ Part (Ls.au n x) (Ls.au n' x') s M T k 0) (fun i _ => n.places.length - (intOf i).toNat)
  case atStart => exact ⟨0, [], V, Nat.zero_le _, rfl, by simpa using HS1.out, SStep.of_below _ _ _ (Below.refl _ _), part_start n n' x x' s M⟩
  case round =>
    obtain ⟨wo, hwo⟩ : ∃ wo, wo = wr := ⟨_, rfl⟩
    subst hwo
    obtain ⟨k, T, V1, hk, rfl, hS, hst, hpart⟩ := hrel
    have hbB := hst.below HS1.out hBz
    have hNt := HN1.out.keep hbB
    have HP : Hid _ := hpart
    by_cases hlt : k < n.places.length
    · obtain ⟨B1, hL⟩ := hNt.net
      obtain ⟨g, rfl⟩ : ∃ g, pa = some ⟨g, 0, none⟩ := by
        obtain ⟨los, h1, h2, h3⟩ := hL.pls
        obtain ⟨g, cap, e, _⟩ := h3.form (by omega)
        injection e with e1
        exact ⟨g, e1⟩
      obtain ⟨lo, hi, d0, d1, hSB⟩ := hL.placeAt hlt
      have hH := setHas_any f1 k hf1 (by omega) (wo.alloc (.cells #[.int .u64 lo, .int .u64 hi] 157))
      have HS : Hid _ := hS
      have HST : Hid _ := hst
      have HNt' : Hid _ := HN1'.out.keep hbB
      have hBw : B ≤ wo.heap.size := Nat.le_trans hBz hst.size
      clear hS hst hpart hNt hL
      cases hob : f1.testBit k with
      | false =>
        rw [hob] at hH
        have HR : Hid _ := part_skip HP.out (by rw [nextV_bit, ← Hf1.out]; exact hob)
        clear hob
        go_wp2_with fail
        refine hH.mono ?_
        rintro e w1 ⟨rfl, rfl⟩
        go_wp2_with fail
        go_roundw
        case rel => exact ⟨k + 1, T, V1, by omega, by go_num, HS.out.below (below_alloc1 _ _), HST.out.trans (SStep.of_below _ _ _ (below_alloc1 _ _)), HR.out⟩
        case measure => simp [intOf]; omega
      | true =>
        rw [hob] at hH
        have hb1 := below_alloc1 wo (.cells #[.int .u64 lo, .int .u64 hi] 157)
        have hS2 := HS.out.below hb1
        have hst2 := HST.out.trans (SStep.of_below sb mb V1 hb1)
        have hsg : (wo.alloc (.cells #[.int .u64 lo, .int .u64 hi] 157)).heap[wo.heap.size]? = some (.cells #[.int .u64 lo, .int .u64 hi] 157 (0, 0)) := heap_alloc_new _ _
        have hfs := HS.out.free (.cells #[.int .u64 lo, .int .u64 hi] 157)
        have hN2' := HNt'.out.keep (hb1.mono hBw)
        obtain ⟨B2, hL2⟩ := hN2'.net
        have c0' := hL2.c0
        have hBx : B ≤ (wo.alloc (.cells #[.int .u64 lo, .int .u64 hi] 157)).heap.size := Nat.le_trans hBw hb1.size
        have HS2 : Hid _ := hS2
        have HST2 : Hid _ := hst2
        have HSG : Hid _ := hsg
        have HFS : Hid _ := hfs
        have HN2 : Hid _ := hN2'
        have HOB : Hid _ := hob
        clear hS2 hst2 hsg hfs hN2' hL2 hb1 HS HST HNt' hob
        go_wp2_with fail
        refine hH.mono ?_
        rintro e w1 ⟨rfl, hw1⟩
        rw [← hw1] at HS2 HST2 HSG HFS HN2 c0' hBx
        clear hw1 hH
        go_wp2_with fail
        go_loopw [41] (fun j w2 => ∃ m T2 V2, m ≤ n'.places.length ∧ j = .int .i64 (m : Nat) ∧ Srch w2 B sb mb V2 (M ++ T2) (O ++ T2) ∧ SStep w1 sb mb V1 w2 V2 ∧ Part (Ls.au n x) (Ls.au n' x') s M T2 k m) (fun j _ => n'.places.length - (intOf j).toNat)
        case atStart => exact ⟨0, T, V1, Nat.zero_le _, rfl, HS2.out, SStep.of_below _ _ _ (Below.refl _ _), HP.out⟩
        case round =>
          obtain ⟨m, T2, V2, hm, rfl, hS, hst, hpart⟩ := hrel
          have hbB2 := hst.below HS2.out hBx
          have hNt' := HN2.out.keep hbB2
          have HP2 : Hid _ := hpart
          have hfx := HST2.out.free HF1.out
          have hbw := (hst.block _ hfx).trans ((HST2.out.block _ HF1.out).trans HBX.out)
          have hsw := (hst.block _ HFS.out).trans HSG.out
          have k0 : wr.cell? ⟨w.heap.size, 0, none⟩ = some (.int .i64 (s.1 : Nat)) := by simp [World.cell?, hbw]
          have g0 : wr.cell? ⟨wo.heap.size, 0, none⟩ = some (.int .u64 lo) := by simp [World.cell?, hsw]
          have g1 : wr.cell? ⟨wo.heap.size, 1, none⟩ = some (.int .u64 hi) := by simp [World.cell?, hsw]
          have hz0 : w.heap.size < wr.heap.size := Nat.lt_of_lt_of_le hfx.1 hst.size
          have hz1 : wo.heap.size < wr.heap.size := Nat.lt_of_lt_of_le HFS.out.1 hst.size
          clear hfx hbw hsw
          by_cases hlt2 : m < n'.places.length
          · obtain ⟨B3, hL⟩ := hNt'.net
            obtain ⟨g', rfl⟩ : ∃ g, pa' = some ⟨g, 0, none⟩ := by
              obtain ⟨los, h1, h2, h3⟩ := hL.pls
              obtain ⟨g, cap, e, _⟩ := h3.form (by omega)
              injection e with e1
              exact ⟨g, e1⟩
            obtain ⟨lo', hi', d0', d1', hSB'⟩ := hL.placeAt hlt2
            have hH := setHas_any f2 m hf2 (by omega) (wr.alloc (.cells #[.int .u64 lo', .int .u64 hi'] 157))
            have hb1 := below_alloc1 wr (.cells #[.int .u64 lo', .int .u64 hi'] 157)
            have HS : Hid _ := hS.below hb1
            have HST : Hid _ := hst.trans (SStep.of_below sb mb V2 hb1)
            have hBw : B ≤ (wr.alloc (.cells #[.int .u64 lo', .int .u64 hi'] 157)).heap.size := Nat.le_trans (Nat.le_trans hBx hst.size) hb1.size
            clear hS hst hpart hNt' hL hb1
            cases hob : f2.testBit m with
            | false =>
              rw [hob] at hH
              have HR : Hid _ := part_not HP2.out (fun h => by have h1 := (stp_iff.1 h).2.1; rw [← Hf2.out, hob] at h1; cases h1)
              clear hob
              go_wp2_with fail
              refine hH.mono ?_
              rintro e w2 ⟨rfl, rfl⟩
              go_wp2_with fail
              go_roundw
              case rel => exact ⟨m + 1, T2, V2, by omega, by go_num, HS.out, HST.out, HR.out⟩
              case measure => simp [intOf]; omega
            | true =>
              rw [hob] at hH
              have hG := meets_any hSB hSB' (wr.alloc (.cells #[.int .u64 lo', .int .u64 hi'] 157))
              have HOB2 : Hid _ := hob
              clear hob
              go_wp2_with fail
              refine hH.mono ?_
              rintro e w2 ⟨rfl, hw2⟩
              rw [← hw2] at HS HST hG hBw
              have hk2 : w2.cell? ⟨w.heap.size, 0, none⟩ = some (.int .i64 (s.1 : Nat)) := by rw [hw2]; exact ((below_alloc1 wr _).cell (p := ⟨w.heap.size, 0, none⟩) hz0).trans k0
              have hg0 : w2.cell? ⟨wo.heap.size, 0, none⟩ = some (.int .u64 lo) := by rw [hw2]; exact ((below_alloc1 wr _).cell (p := ⟨wo.heap.size, 0, none⟩) hz1).trans g0
              have hg1 : w2.cell? ⟨wo.heap.size, 1, none⟩ = some (.int .u64 hi) := by rw [hw2]; exact ((below_alloc1 wr _).cell (p := ⟨wo.heap.size, 1, none⟩) hz1).trans g1
              have hn2 : w2.heap[wr.heap.size]? = some (.cells #[.int .u64 lo', .int .u64 hi'] 157 (0, 0)) := by rw [hw2]; exact heap_alloc_new _ _
              have hh0 : w2.cell? ⟨wr.heap.size, 0, none⟩ = some (.int .u64 lo') := by simp [World.cell?, hn2]
              have hh1 : w2.cell? ⟨wr.heap.size, 1, none⟩ = some (.int .u64 hi') := by simp [World.cell?, hn2]
              have hz2 : w.heap.size < w2.heap.size := by rw [hw2]; simp; omega
              clear hn2 hw2 hH
              go_wp2_with fail
              refine hG.mono ?_
              rintro e w3 ⟨b, rfl, hb, hb3⟩
              have HB : Hid _ := hb
              clear hb hG
              have hk3 : w3.cell? ⟨w.heap.size, 0, none⟩ = some (.int .i64 (s.1 : Nat)) := (hb3.cell (p := ⟨w.heap.size, 0, none⟩) hz2).trans hk2
              have HS3 : Hid _ := HS.out.below hb3
              have HST3 : Hid _ := HST.out.trans (SStep.of_below sb mb V2 hb3)
              have hB3 : B ≤ w3.heap.size := Nat.le_trans hBw hb3.size
              cases b with
              | false =>
                have HR : Hid _ := part_not HP2.out (fun h => by have h1 := HB.out.2 (stp_iff.1 h).2.2; cases h1)
                go_wp2_with fail
                go_roundw
                case rel => exact ⟨m + 1, T2, V2, by omega, by go_num, HS3.out, HST3.out, HR.out⟩
                case measure => simp [intOf]; omega
              | true =>
                have HSTP : Hid (Ls.Stp (Ls.au n x) (Ls.au n' x') s (s.1, k + 1, m + 1)) := stp_iff.2 ⟨by rw [← Hf1.out]; exact HOB.out, by rw [← Hf2.out]; exact HOB2.out, HB.out.1 rfl⟩
                have hC := meet_any w3 B sb mb V2 (M ++ T2) (O ++ T2) HS3.out hB3 (s.1, k + 1, m + 1) ⟨HPh.out, by show k + 1 < 33; omega, by show m + 1 < 33; omega⟩
                unfold stV at hC
                rw [show (((s.1, k + 1, m + 1) : Ls.Pr).1 : Nat) = s.1 from rfl, show ((((s.1, k + 1, m + 1) : Ls.Pr).2.1 : Nat) : Int) - 1 = (k : Int) by simp, show ((((s.1, k + 1, m + 1) : Ls.Pr).2.2 : Nat) : Int) - 1 = (m : Int) by simp] at hC
                go_wp2_with fail
                refine hC.mono ?_
                rintro e w4 ⟨rfl, V3, T3, hS4, h1, h2, hst4⟩
                have HR : Hid _ := part_met HP2.out HSTP.out h1 (h2 _ rfl)
                have HS4 : Hid (Srch w4 B sb mb V3 (M ++ (T2 ++ T3)) (O ++ (T2 ++ T3))) := by
                  rw [← List.append_assoc, ← List.append_assoc]; exact hS4
                have HST4 : Hid _ := HST3.out.trans hst4
                clear h1 h2 hS4 hst4 hC
                go_wp2_with fail
                go_roundw
                case rel => exact ⟨m + 1, T2 ++ T3, V3, by omega, by go_num, HS4.out, HST4.out, HR.out⟩
                case measure => simp [intOf]; omega
          · have hm1 : n'.places.length ≤ m := by omega
            have HR : Hid _ := part_end HP2.out hm1
            have HS : Hid _ := hS
            have HST : Hid _ := HST2.out.trans hst
            clear hS hst hpart hNt'
            go_wp2_with fail
            go_roundw
            case rel => exact ⟨k + 1, T2, V2, by omega, by go_num, HS.out, HST.out, HR.out⟩
            case measure => simp [intOf]; omega
    · have hk1 : k = n.places.length := by omega
      go_wp2_with fail
      go_end0
      refine ⟨rfl, V1, T, hS, hpart.1, fun t ht => hpart.2 t ht (.inl ?_), HST1.out.trans hst⟩
      have := stp_pos ht
      omega

end Go.Proofs.YtfklinjaajafgaaGreatDoor
