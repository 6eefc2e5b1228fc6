import Derived.Test.YtfklinjaajafgaaGreatDoorCtF
import Derived.Deep.LoopGhost
/- Apart of two nets. -/
namespace Go.Proofs.YtfklinjaajafgaaGreatDoor
open Go.RowKit

theorem reach_in {n n' : Ls.Net} {x x' : Ls.Span} {s : Ls.Pr} (h : Ls.Reach (Ls.Stp (Ls.au n x) (Ls.au n' x')) (0, 0, 0) s) : s.1 = 0 ∧ s.2.1 ≤ n.places.length ∧ s.2.2 ≤ n'.places.length := by
  refine h (fun s => s.1 = 0 ∧ s.2.1 ≤ n.places.length ∧ s.2.2 ≤ n'.places.length) ⟨rfl, Nat.zero_le _, Nat.zero_le _⟩ ?_
  rintro a b ⟨h1, _⟩ h2
  have := stp_pos h2
  exact ⟨h2.1.trans h1, by omega, by omega⟩

/-- How many rounds are still to come, at most. -/
def still (M O : List Ls.Pr) : Nat := 2 * (3267 - M.length) + O.length

theorem still_less {w : World} {B sb mb : Nat} {V : Value} {M O T : List Ls.Pr} {x : Ls.Pr} (h : Srch w B sb mb V (M ++ T) (O ++ T)) : still (M ++ T) (O ++ T) < still M (O ++ [x]) := by
  have := h.few
  unfold still
  simp only [List.length_append, List.length_singleton] at this ⊢
  omega

theorem snoc_of_pos {O : List Ls.Pr} (h : 0 < O.length) : ∃ O' x, O = O' ++ [x] := by
  rcases List.eq_nil_or_concat O with e | ⟨O', x, e⟩
  · subst e; simp at h
  · exact ⟨O', x, by simpa using e⟩

/-- What Apart and Once of two nets answer. -/
def AskPost (w : World) (F : Prop) : Ending → World → Prop := fun e w' => ∃ b : Bool, e = .returned (.bool b) ∧ (b = true ↔ ¬ F) ∧ Below w.heap.size w w'

set_option maxRecDepth 100000 in
set_option maxHeartbeats 4000000 in
theorem pApart_any (w : World) (nb nb' : Nat) (P Q P' Q' : Value) (n n' : Ls.Net) (x x' : Ls.Span) (hN : Nt w w.heap.size nb P Q n x) (hN' : Nt w w.heap.size nb' P' Q' n' x')
    (F : Prop) (hF : (∃ s, Ls.Reach (Ls.Stp (Ls.au n x) (Ls.au n' x')) (0, 0, 0) s ∧ Ls.badA (Ls.au n x) (Ls.au n' x') s) ↔ F) :
    Calls Tryz.prog 38 #[.pointer (some ⟨nb, 0, none⟩), .pointer (some ⟨nb', 0, none⟩)] w (AskPost w F) := by
  have hC := newSearch_any w (0, 0, 0) ⟨.inl rfl, by show 0 < 33; omega, by show 0 < 33; omega⟩
  unfold stV at hC
  rw [show ((((0, 0, 0) : Ls.Pr).1 : Nat) : Int) = 0 from rfl, show (0 : Int) - 1 = -1 from rfl] at hC
  have HF : Hid ((∃ s, Ls.Reach (Ls.Stp (Ls.au n x) (Ls.au n' x')) (0, 0, 0) s ∧ Ls.badA (Ls.au n x) (Ls.au n' x') s) ↔ F) := hF
  have HN : Hid _ := hN
  have HN' : Hid _ := hN'
  clear hN hN' hF
  go_enter Tryz.func38, Tryz.ntmps38
  go_wp2_with fail
  refine hC.mono ?_
  rintro e w1 ⟨sb, mb, V, rfl, hS, hb1⟩
  have HS1 : Hid _ := hS
  have HB1 : Hid _ := hb1
  clear hS hb1 hC
  go_wp2_with fail
  go_loopg [6] (still [(0, 0, 0)] [(0, 0, 0)]) (fun k _ wr => ∃ V M O, Srch wr w.heap.size sb mb V M O ∧ Below w.heap.size w wr ∧ Ls.Sch (Ls.Stp (Ls.au n x) (Ls.au n' x')) (Ls.badA (Ls.au n x) (Ls.au n' x')) (0, 0, 0) M O ∧ k = still M O)
  case atStart => exact ⟨V, _, _, HS1.out, HB1.out, Ls.Sch.start _ _ _, rfl⟩
  case round =>
    obtain ⟨V1, M, O, hS, hb, hsch, rfl⟩ := hrel
    obtain ⟨va, vc, rfl⟩ := hS.shape
    have hli := hS.lies
    have c1 : wr.cell? ⟨sb, 1, none⟩ = some (.slice va O.length vc) := by simp [World.cell?, hli]
    clear hli
    rcases Nat.eq_zero_or_pos O.length with h0 | h0
    · have hO : O = [] := List.eq_nil_of_length_eq_zero h0
      have HE : Hid (¬ ∃ s, Ls.Reach (Ls.Stp (Ls.au n x) (Ls.au n' x')) (0, 0, 0) s ∧ Ls.badA (Ls.au n x) (Ls.au n' x') s) := by
        subst hO; exact hsch.none
      have hd : ¬ (0 : Int) < (O.length : Int) := by omega
      clear hO hsch hS
      go_wp2_with fail
      go_ret
      exact ⟨true, rfl, ⟨fun _ h => HE.out (HF.out.2 h), fun _ => rfl⟩, hb⟩
    · have hd : (0 : Int) < (O.length : Int) := by omega
      obtain ⟨O', y, hO⟩ := snoc_of_pos h0
      have HSc : Hid (Ls.Sch (Ls.Stp (Ls.au n x) (Ls.au n' x')) (Ls.badA (Ls.au n x) (Ls.au n' x')) (0, 0, 0) M (O' ++ [y])) := by rw [← hO]; exact hsch
      have hD := snext_any wr w.heap.size sb mb (.slice va O.length vc) M O' y (by rw [← hO]; exact hS)
      have hBz := hb.size
      have HB : Hid _ := hb
      have HK : Hid (still M O = still M (O' ++ [y])) := by rw [hO]; rfl
      have HSr : Hid (Srch wr w.heap.size sb mb (.slice va O.length vc) M O) := hS
      clear hsch hS hO hb
      unfold stV at hD
      go_wp2_with fail
      refine hD.mono ?_
      rintro e w2 ⟨rfl, V2, hS2, hst2⟩
      have hin := reach_in (HSc.out.came y (HSc.out.sub y (by simp)))
      have hb2 := HB.out.trans (hst2.below HSr.out hBz)
      have hb3 := below_alloc1 w2 (.cells #[.int .i64 (y.1 : Nat), .int .i64 ((y.2.1 : Int) - 1), .int .i64 ((y.2.2 : Int) - 1)] 112)
      have hBz2 : w.heap.size ≤ w2.heap.size := hb2.size
      have hb4 := hb2.trans (hb3.mono hBz2)
      have hN3 := HN.out.keep hb4
      have hN3' := HN'.out.keep hb4
      have hS3 := hS2.below hb3
      have hR := read_any _ w.heap.size sb mb V2 M O' hS3 hb4.size y (.inl hin.1) nb nb' P Q P' Q' n n' x x' hN3 hN3' hin.2.1 hin.2.2
      have hE1 := hN3.net.elim fun B0 h => ends_any _ B0 nb P Q n x h hN3.lst y.2.1 hin.2.1
      have hE2 := hN3'.net.elim fun B0 h => ends_any _ B0 nb' P' Q' n' x' h hN3'.lst y.2.2 hin.2.2
      have hbx := heap_alloc_new w2 (.cells #[.int .i64 (y.1 : Nat), .int .i64 ((y.2.1 : Int) - 1), .int .i64 ((y.2.2 : Int) - 1)] 112)
      have HS3 : Hid _ := hS3
      have HB4 : Hid _ := hb4
      unfold stV at hR
      clear hS2 hst2 hin hb2 hb3 hb4 hN3 hN3' hS3 hD
      have fin : ∀ (w' : World) (V3 : Value) (T : List Ls.Pr), ¬ Ls.badA (Ls.au n x) (Ls.au n' x') y → Srch w' w.heap.size sb mb V3 (M ++ T) (O' ++ T) → (∀ t, t ∈ T → Ls.Stp (Ls.au n x) (Ls.au n' x') y t) → (∀ t, Ls.Stp (Ls.au n x) (Ls.au n' x') y t → t ∈ M ++ T) →
          Ls.Sch (Ls.Stp (Ls.au n x) (Ls.au n' x')) (Ls.badA (Ls.au n x) (Ls.au n' x')) (0, 0, 0) (M ++ T) (O' ++ T) ∧ still (M ++ T) (O' ++ T) < still M O :=
        fun w' V3 T h1 h2 h3 h4 => ⟨HSc.out.next h1 h3 h4, by rw [HK.out]; exact still_less h2⟩
      have HFin : Hid _ := fin
      clear fin
      cases hen : (Ls.au n x).en y.2.1 with
      | false =>
        rw [hen] at hE1
        have HNB : Hid (¬ Ls.badA (Ls.au n x) (Ls.au n' x') y) := fun h => by have h1 := h.1; rw [hen] at h1; cases h1
        clear hen hE2
        go_wp2_with fail
        refine hE1.mono ?_
        rintro e w3 ⟨rfl, rfl⟩
        go_wp2_with fail
        refine hR.mono ?_
        rintro e w4 ⟨rfl, V3, T, hS4, h1, h2, hst4⟩
        have HG : Hid _ := HFin.out w4 V3 T HNB.out hS4 h1 h2
        have HS4 : Hid _ := hS4
        have HB5 : Hid _ := HB4.out.trans (hst4.below HS3.out HB4.out.size)
        clear h1 h2 hS4 hst4
        go_wp2_with fail
        go_roundg (still (M ++ T) (O' ++ T))
        case rel => exact ⟨V3, M ++ T, O' ++ T, HS4.out, HB5.out, HG.out.1, rfl⟩
        case measure => exact HG.out.2
      | true =>
        rw [hen] at hE1
        cases hen2 : (Ls.au n' x').en y.2.2 with
        | false =>
          rw [hen2] at hE2
          have HNB : Hid (¬ Ls.badA (Ls.au n x) (Ls.au n' x') y) := fun h => by have h1 := h.2; rw [hen2] at h1; cases h1
          clear hen hen2
          go_wp2_with fail
          refine hE1.mono ?_
          rintro e w3 ⟨rfl, rfl⟩
          go_wp2_with fail
          refine hE2.mono ?_
          rintro e w3 ⟨rfl, rfl⟩
          go_wp2_with fail
          refine hR.mono ?_
          rintro e w4 ⟨rfl, V3, T, hS4, h1, h2, hst4⟩
          have HG : Hid _ := HFin.out w4 V3 T HNB.out hS4 h1 h2
          have HS4 : Hid _ := hS4
          have HB5 : Hid _ := HB4.out.trans (hst4.below HS3.out HB4.out.size)
          clear h1 h2 hS4 hst4
          go_wp2_with fail
          go_roundg (still (M ++ T) (O' ++ T))
          case rel => exact ⟨V3, M ++ T, O' ++ T, HS4.out, HB5.out, HG.out.1, rfl⟩
          case measure => exact HG.out.2
        | true =>
          rw [hen2] at hE2
          have HBad : Hid (∃ s, Ls.Reach (Ls.Stp (Ls.au n x) (Ls.au n' x')) (0, 0, 0) s ∧ Ls.badA (Ls.au n x) (Ls.au n' x') s) := ⟨y, HSc.out.came y (HSc.out.sub y (by simp)), hen, hen2⟩
          clear hen hen2
          go_wp2_with fail
          refine hE1.mono ?_
          rintro e w3 ⟨rfl, rfl⟩
          go_wp2_with fail
          refine hE2.mono ?_
          rintro e w3 ⟨rfl, rfl⟩
          go_wp2_with fail
          go_ret
          exact ⟨false, rfl, ⟨fun h => (by cases h), fun h => absurd (HF.out.1 HBad.out) h⟩, HB4.out⟩

end Go.Proofs.YtfklinjaajafgaaGreatDoor
