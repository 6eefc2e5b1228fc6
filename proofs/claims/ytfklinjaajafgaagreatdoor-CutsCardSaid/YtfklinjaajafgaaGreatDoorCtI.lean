import Derived.Test.YtfklinjaajafgaaGreatDoorCtH
/- Once of two nets. -/
namespace Go.Proofs.YtfklinjaajafgaaGreatDoor
open Go.RowKit

theorem reach_inO {n n' : Ls.Net} {x x' : Ls.Span} {s : Ls.Pr} (h : Ls.Reach (Ls.NxO (Ls.au n x) (Ls.au n' x')) (0, 0, 0) s) :
    (s.1 = 0 ∧ s.2.1 ≤ n.places.length ∧ s.2.2 ≤ n.places.length) ∨ (s.1 = 1 ∧ s.2.1 ≤ n'.places.length ∧ s.2.2 ≤ n.places.length) ∨ (s.1 = 2 ∧ s.2.1 ≤ n'.places.length ∧ s.2.2 ≤ n'.places.length) := by
  refine h (fun s => (s.1 = 0 ∧ s.2.1 ≤ n.places.length ∧ s.2.2 ≤ n.places.length) ∨ (s.1 = 1 ∧ s.2.1 ≤ n'.places.length ∧ s.2.2 ≤ n.places.length) ∨ (s.1 = 2 ∧ s.2.1 ≤ n'.places.length ∧ s.2.2 ≤ n'.places.length)) (.inl ⟨rfl, Nat.zero_le _, Nat.zero_le _⟩) ?_
  rintro a b h1 (⟨e, h2 | ⟨_, h2⟩⟩ | ⟨e, h2 | ⟨_, rfl⟩⟩ | ⟨e, h2⟩)
  · have := stp_pos h2
    exact .inl ⟨h2.1.trans e, by omega, by omega⟩
  · have := stp_pos h2
    exact .inr (.inl ⟨h2.1, by omega, by omega⟩)
  · have := stp_pos h2
    exact .inr (.inl ⟨h2.1.trans e, by omega, by omega⟩)
  · rcases h1 with h1 | h1 | h1
    · omega
    · exact .inr (.inr ⟨rfl, h1.2.1, Nat.zero_le _⟩)
    · omega
  · have := stp_pos h2
    exact .inr (.inr ⟨h2.1.trans e, by omega, by omega⟩)

theorem nx0 {A C : Ls.Au} {y t : Ls.Pr} (h : y.1 = 0) : Ls.NxO A C y t ↔ Ls.Stp A A y t ∨ (A.en y.2.1 = true ∧ Ls.Stp C A (1, 0, y.2.2) t) := by
  unfold Ls.NxO; simp [h]
theorem nx1 {A C : Ls.Au} {y t : Ls.Pr} (h : y.1 = 1) : Ls.NxO A C y t ↔ Ls.Stp C A y t ∨ (A.en y.2.2 = true ∧ t = (2, y.2.1, 0)) := by
  unfold Ls.NxO; simp [h]
theorem nx2 {A C : Ls.Au} {y t : Ls.Pr} (h : y.1 = 2) : Ls.NxO A C y t ↔ Ls.Stp C C y t := by
  unfold Ls.NxO; simp [h]

/-- Two times some more were met. -/
theorem more_two {S S' N : Ls.Pr → Prop} {M T T2 : List Ls.Pr} (hN : ∀ t, N t ↔ S t ∨ S' t) (h1 : ∀ t, t ∈ T → S t) (h2 : ∀ t, S t → t ∈ M ++ T) (h3 : ∀ t, t ∈ T2 → S' t) (h4 : ∀ t, S' t → t ∈ (M ++ T) ++ T2) : (∀ t, t ∈ T ++ T2 → N t) ∧ ∀ t, N t → t ∈ M ++ (T ++ T2) := by
  refine ⟨fun t ht => ?_, fun t ht => ?_⟩
  · rcases List.mem_append.1 ht with h | h
    · exact (hN t).2 (.inl (h1 t h))
    · exact (hN t).2 (.inr (h3 t h))
  · rw [← List.append_assoc]
    rcases (hN t).1 ht with h | h
    · exact List.mem_append_left _ (h2 t h)
    · exact h4 t h

theorem three_cells {W : World} {g : Nat} {a b c : Value} {t : TypeId} (h : W.heap[g]? = some (.cells #[a, b, c] t (0, 0))) : W.cell? ⟨g, 0, none⟩ = some a ∧ W.cell? ⟨g, 1, none⟩ = some b ∧ W.cell? ⟨g, 2, none⟩ = some c := by
  refine ⟨?_, ?_, ?_⟩ <;> simp [World.cell?, h]

set_option maxRecDepth 100000 in
set_option maxHeartbeats 4000000 in
theorem pOnce_any (w : World) (nb nb' : Nat) (P Q P' Q' : Value) (n n' : Ls.Net) (x x' : Ls.Span) (hN : Nt w w.heap.size nb P Q n x) (hN' : Nt w w.heap.size nb' P' Q' n' x')
    (F : Prop) (hF : (∃ s, Ls.Reach (Ls.NxO (Ls.au n x) (Ls.au n' x')) (0, 0, 0) s ∧ Ls.badO (Ls.au n' x') s) ↔ F) :
    Calls Tryz.prog 37 #[.pointer (some ⟨nb, 0, none⟩), .pointer (some ⟨nb', 0, none⟩)] w (AskPost w F) := by
  have hC := newSearch_any w (0, 0, 0) ⟨.inl rfl, by show 0 < 33; omega, by show 0 < 33; omega⟩
  unfold stV at hC
  rw [show ((((0, 0, 0) : Ls.Pr).1 : Nat) : Int) = 0 from rfl, show (0 : Int) - 1 = -1 from rfl] at hC
  have HF : Hid ((∃ s, Ls.Reach (Ls.NxO (Ls.au n x) (Ls.au n' x')) (0, 0, 0) s ∧ Ls.badO (Ls.au n' x') s) ↔ F) := hF
  have HN : Hid _ := hN
  have HN' : Hid _ := hN'
  clear hN hN' hF
  go_enter Tryz.func37, Tryz.ntmps37
  go_wp2_with fail
  refine hC.mono ?_
  rintro e w1 ⟨sb, mb, V, rfl, hS, hb1⟩
  have HS1 : Hid _ := hS
  have HB1 : Hid _ := hb1
  clear hS hb1 hC
  go_wp2_with fail
  go_loopg [6] (still [(0, 0, 0)] [(0, 0, 0)]) (fun k _ wr => ∃ V M O, Srch wr w.heap.size sb mb V M O ∧ Below w.heap.size w wr ∧ Ls.Sch (Ls.NxO (Ls.au n x) (Ls.au n' x')) (Ls.badO (Ls.au n' x')) (0, 0, 0) M O ∧ k = still M O)
  case atStart => exact ⟨V, _, _, HS1.out, HB1.out, Ls.Sch.start _ _ _, rfl⟩
  case round =>
    obtain ⟨V1, M, O, hS, hb, hsch, rfl⟩ := hrel
    obtain ⟨va, vc, rfl⟩ := hS.shape
    have hli := hS.lies
    have c1 : wr.cell? ⟨sb, 1, none⟩ = some (.slice va O.length vc) := by simp [World.cell?, hli]
    clear hli
    rcases Nat.eq_zero_or_pos O.length with h0 | h0
    · have hO : O = [] := List.eq_nil_of_length_eq_zero h0
      have HE : Hid (¬ ∃ s, Ls.Reach (Ls.NxO (Ls.au n x) (Ls.au n' x')) (0, 0, 0) s ∧ Ls.badO (Ls.au n' x') s) := by
        subst hO; exact hsch.none
      have hd : ¬ (0 : Int) < (O.length : Int) := by omega
      clear hO hsch hS
      go_wp2_with fail
      go_ret
      exact ⟨true, rfl, ⟨fun _ h => HE.out (HF.out.2 h), fun _ => rfl⟩, hb⟩
    · have hd : (0 : Int) < (O.length : Int) := by omega
      obtain ⟨O', y, hO⟩ := snoc_of_pos h0
      have HSc : Hid (Ls.Sch (Ls.NxO (Ls.au n x) (Ls.au n' x')) (Ls.badO (Ls.au n' x')) (0, 0, 0) M (O' ++ [y])) := by rw [← hO]; exact hsch
      have hD := snext_any wr w.heap.size sb mb (.slice va O.length vc) M O' y (by rw [← hO]; exact hS)
      have hBz := hb.size
      have HB : Hid _ := hb
      have HK : Hid (still M O = still M (O' ++ [y])) := by rw [hO]; rfl
      have HSr : Hid (Srch wr w.heap.size sb mb (.slice va O.length vc) M O) := hS
      clear hsch hS hO hb
      unfold stV at hD
      go_wp2_with fail
      refine hD.mono ?_
      rintro e w2 ⟨rfl, V2, hS2, hst2⟩
      have hin := reach_inO (HSc.out.came y (HSc.out.sub y (by simp)))
      have hb2 := HB.out.trans (hst2.below HSr.out hBz)
      have hb3 := below_alloc1 w2 (.cells #[.int .i64 (y.1 : Nat), .int .i64 ((y.2.1 : Int) - 1), .int .i64 ((y.2.2 : Int) - 1)] 112)
      have hBz2 : w.heap.size ≤ w2.heap.size := hb2.size
      have hb4 := hb2.trans (hb3.mono hBz2)
      have hN3 := HN.out.keep hb4
      have hN3' := HN'.out.keep hb4
      have hS3 := hS2.below hb3
      have hFr := hS2.free (.cells #[.int .i64 (y.1 : Nat), .int .i64 ((y.2.1 : Int) - 1), .int .i64 ((y.2.2 : Int) - 1)] 112)
      have hbx := heap_alloc_new w2 (.cells #[.int .i64 (y.1 : Nat), .int .i64 ((y.2.1 : Int) - 1), .int .i64 ((y.2.2 : Int) - 1)] 112)
      have HS3 : Hid _ := hS3
      have HB4 : Hid _ := hb4
      have HFr : Hid _ := hFr
      have HBx : Hid _ := hbx
      have HN3 : Hid _ := hN3
      have HN3' : Hid _ := hN3'
      clear hS2 hst2 hb2 hb3 hb4 hS3 hD hFr hbx hN3 hN3'
      have fin : ∀ (w' : World) (V3 : Value) (T : List Ls.Pr), ¬ Ls.badO (Ls.au n' x') y → Srch w' w.heap.size sb mb V3 (M ++ T) (O' ++ T) → (∀ t, t ∈ T → Ls.NxO (Ls.au n x) (Ls.au n' x') y t) → (∀ t, Ls.NxO (Ls.au n x) (Ls.au n' x') y t → t ∈ M ++ T) →
          Ls.Sch (Ls.NxO (Ls.au n x) (Ls.au n' x')) (Ls.badO (Ls.au n' x')) (0, 0, 0) (M ++ T) (O' ++ T) ∧ still (M ++ T) (O' ++ T) < still M O :=
        fun w' V3 T h1 h2 h3 h4 => ⟨HSc.out.next h1 h3 h4, by rw [HK.out]; exact still_less h2⟩
      have HFin : Hid _ := fin
      clear fin HK
      rcases hin with ⟨e0, hi1, hi2⟩ | ⟨e0, hi1, hi2⟩ | ⟨e0, hi1, hi2⟩
      · have ey : ((y.1 : Nat) : Int) = 0 := by rw [e0]; rfl
        rw [ey] at HS3 HFr HBx HN3 HN3' HB4
        have HNB : Hid (¬ Ls.badO (Ls.au n' x') y) := fun h => by have := h.1; omega
        have hR := read_any _ w.heap.size sb mb V2 M O' HS3.out HB4.out.size y (.inl e0) nb nb P Q P Q n n x x HN3.out HN3.out hi1 hi2
        unfold stV at hR
        rw [ey] at hR
        have HE0 : Hid (y.1 = 0) := e0
        clear e0
        go_wp2_with fail
        refine hR.mono ?_
        rintro e w4 ⟨rfl, V3, T, hS4, h1, h2, hst4⟩
        have hb5 := HB4.out.trans (hst4.below HS3.out HB4.out.size)
        have hN4 := HN.out.keep hb5
        have hN4' := HN'.out.keep hb5
        have hbx4 := (hst4.block _ HFr.out).trans HBx.out
        obtain ⟨_, k1, k2⟩ := three_cells hbx4
        have hE := hN4.net.elim fun B0 h => ends_any w4 B0 nb P Q n x h hN4.lst y.2.1 hi1
        have hR2 := read_any w4 w.heap.size sb mb V3 (M ++ T) (O' ++ T) hS4 hb5.size (1, 0, y.2.2) (.inr (.inl rfl)) nb' nb P' Q' P Q n' n x' x hN4' hN4 (Nat.zero_le _) hi2
        unfold stV at hR2
        rw [show ((((1, 0, y.2.2) : Ls.Pr).1 : Nat) : Int) = 1 from rfl, show ((((1, 0, y.2.2) : Ls.Pr).2.1 : Nat) : Int) - 1 = -1 from rfl, show (((1, 0, y.2.2) : Ls.Pr).2.2 : Nat) = y.2.2 from rfl] at hR2
        have H1 : Hid (∀ t, t ∈ T → Ls.Stp (Ls.au n x) (Ls.au n x) y t) := h1
        have H2 : Hid (∀ t, Ls.Stp (Ls.au n x) (Ls.au n x) y t → t ∈ M ++ T) := h2
        have HS4 : Hid _ := hS4
        have HB5 : Hid _ := hb5
        clear h1 h2 hS4 hb5 hst4 hbx4 hN4 hN4' hR
        cases hen : (Ls.au n x).en y.2.1 with
        | false =>
          rw [hen] at hE
          have HG : Hid _ := HFin.out w4 V3 T HNB.out HS4.out (fun t ht => (nx0 HE0.out).2 (.inl (H1.out t ht))) (fun t ht => by
            rcases (nx0 HE0.out).1 ht with h | ⟨h, _⟩
            · exact H2.out t h
            · rw [hen] at h; cases h)
          clear hen hR2
          go_wp2_with fail
          refine hE.mono ?_
          rintro e w5 ⟨rfl, rfl⟩
          go_wp2_with fail
          go_roundg (still (M ++ T) (O' ++ T))
          case rel => exact ⟨V3, M ++ T, O' ++ T, HS4.out, HB5.out, HG.out.1, rfl⟩
          case measure => exact HG.out.2
        | true =>
          rw [hen] at hE
          have HEn : Hid ((Ls.au n x).en y.2.1 = true) := hen
          clear hen
          go_wp2_with fail
          refine hE.mono ?_
          rintro e w5 ⟨rfl, rfl⟩
          go_wp2_with fail
          refine hR2.mono ?_
          rintro e w6 ⟨rfl, V4, T2, hS6, h3, h4, hst6⟩
          have HS6 : Hid (Srch w6 w.heap.size sb mb V4 (M ++ (T ++ T2)) (O' ++ (T ++ T2))) := by rw [← List.append_assoc, ← List.append_assoc]; exact hS6
          have hmt := more_two (N := fun t => Ls.NxO (Ls.au n x) (Ls.au n' x') y t) (S' := fun t => Ls.Stp (Ls.au n' x') (Ls.au n x) (1, 0, y.2.2) t) (fun t => (nx0 HE0.out).trans (by rw [HEn.out]; simp)) H1.out H2.out h3 h4
          have HG : Hid _ := HFin.out w6 V4 (T ++ T2) HNB.out HS6.out hmt.1 hmt.2
          have HB6 : Hid _ := HB5.out.trans (hst6.below HS4.out HB5.out.size)
          clear h3 h4 hS6 hst6 hmt hR2
          go_wp2_with fail
          go_roundg (still (M ++ (T ++ T2)) (O' ++ (T ++ T2)))
          case rel => exact ⟨V4, M ++ (T ++ T2), O' ++ (T ++ T2), HS6.out, HB6.out, HG.out.1, rfl⟩
          case measure => exact HG.out.2
      · have ey : ((y.1 : Nat) : Int) = 1 := by rw [e0]; rfl
        rw [ey] at HS3 HFr HBx HN3 HN3' HB4
        have HNB : Hid (¬ Ls.badO (Ls.au n' x') y) := fun h => by have := h.1; omega
        have hR := read_any _ w.heap.size sb mb V2 M O' HS3.out HB4.out.size y (.inr (.inl e0)) nb' nb P' Q' P Q n' n x' x HN3'.out HN3.out hi1 hi2
        unfold stV at hR
        rw [ey] at hR
        have HE0 : Hid (y.1 = 1) := e0
        clear e0
        go_wp2_with fail
        refine hR.mono ?_
        rintro e w4 ⟨rfl, V3, T, hS4, h1, h2, hst4⟩
        have hb5 := HB4.out.trans (hst4.below HS3.out HB4.out.size)
        have hN4 := HN.out.keep hb5
        have hfew := HN'.out.net.elim fun _ h => h.few
        have hbx4 := (hst4.block _ HFr.out).trans HBx.out
        obtain ⟨_, k1, k2⟩ := three_cells hbx4
        have hE := hN4.net.elim fun B0 h => ends_any w4 B0 nb P Q n x h hN4.lst y.2.2 hi2
        have hR2 := meet_any w4 w.heap.size sb mb V3 (M ++ T) (O' ++ T) hS4 hb5.size (2, y.2.1, 0) ⟨.inr (.inr rfl), by show y.2.1 < 33; omega, by show 0 < 33; omega⟩
        unfold stV at hR2
        rw [show ((((2, y.2.1, 0) : Ls.Pr).1 : Nat) : Int) = 2 from rfl, show ((((2, y.2.1, 0) : Ls.Pr).2.2 : Nat) : Int) - 1 = -1 from rfl, show (((2, y.2.1, 0) : Ls.Pr).2.1 : Nat) = y.2.1 from rfl] at hR2
        have H1 : Hid (∀ t, t ∈ T → Ls.Stp (Ls.au n' x') (Ls.au n x) y t) := h1
        have H2 : Hid (∀ t, Ls.Stp (Ls.au n' x') (Ls.au n x) y t → t ∈ M ++ T) := h2
        have HS4 : Hid _ := hS4
        have HB5 : Hid _ := hb5
        clear h1 h2 hS4 hb5 hst4 hbx4 hN4 hR
        cases hen : (Ls.au n x).en y.2.2 with
        | false =>
          rw [hen] at hE
          have HG : Hid _ := HFin.out w4 V3 T HNB.out HS4.out (fun t ht => (nx1 HE0.out).2 (.inl (H1.out t ht))) (fun t ht => by
            rcases (nx1 HE0.out).1 ht with h | ⟨h, _⟩
            · exact H2.out t h
            · rw [hen] at h; cases h)
          clear hen hR2
          go_wp2_with fail
          refine hE.mono ?_
          rintro e w5 ⟨rfl, rfl⟩
          go_wp2_with fail
          go_roundg (still (M ++ T) (O' ++ T))
          case rel => exact ⟨V3, M ++ T, O' ++ T, HS4.out, HB5.out, HG.out.1, rfl⟩
          case measure => exact HG.out.2
        | true =>
          rw [hen] at hE
          have HEn : Hid ((Ls.au n x).en y.2.2 = true) := hen
          clear hen
          go_wp2_with fail
          refine hE.mono ?_
          rintro e w5 ⟨rfl, rfl⟩
          go_wp2_with fail
          refine hR2.mono ?_
          rintro e w6 ⟨rfl, V4, T2, hS6, h3, h4, hst6⟩
          have HS6 : Hid (Srch w6 w.heap.size sb mb V4 (M ++ (T ++ T2)) (O' ++ (T ++ T2))) := by rw [← List.append_assoc, ← List.append_assoc]; exact hS6
          have hmt := more_two (N := fun t => Ls.NxO (Ls.au n x) (Ls.au n' x') y t) (S' := fun t => t = (2, y.2.1, 0)) (fun t => (nx1 HE0.out).trans (by rw [HEn.out]; simp)) H1.out H2.out h3 h4
          have HG : Hid _ := HFin.out w6 V4 (T ++ T2) HNB.out HS6.out hmt.1 hmt.2
          have HB6 : Hid _ := HB5.out.trans (hst6.below HS4.out HB5.out.size)
          clear h3 h4 hS6 hst6 hmt hR2
          go_wp2_with fail
          go_roundg (still (M ++ (T ++ T2)) (O' ++ (T ++ T2)))
          case rel => exact ⟨V4, M ++ (T ++ T2), O' ++ (T ++ T2), HS6.out, HB6.out, HG.out.1, rfl⟩
          case measure => exact HG.out.2
      · have ey : ((y.1 : Nat) : Int) = 2 := by rw [e0]; rfl
        rw [ey] at HS3 HFr HBx HN3 HN3' HB4
        have hR := read_any _ w.heap.size sb mb V2 M O' HS3.out HB4.out.size y (.inr (.inr e0)) nb' nb' P' Q' P' Q' n' n' x' x' HN3'.out HN3'.out hi1 hi2
        unfold stV at hR
        rw [ey] at hR
        have HE0 : Hid (y.1 = 2) := e0
        clear e0
        have hE1 := HN3'.out.net.elim fun B0 h => ends_any _ B0 nb' P' Q' n' x' h HN3'.out.lst y.2.1 hi1
        have hE2 := HN3'.out.net.elim fun B0 h => ends_any _ B0 nb' P' Q' n' x' h HN3'.out.lst y.2.2 hi2
        have hbx := HBx.out
        cases hen : (Ls.au n' x').en y.2.1 with
        | false =>
          rw [hen] at hE1
          have HNB : Hid (¬ Ls.badO (Ls.au n' x') y) := fun h => by have h1 := h.2.1; rw [hen] at h1; cases h1
          clear hen hE2
          go_wp2_with fail
          refine hE1.mono ?_
          rintro e w3 ⟨rfl, rfl⟩
          go_wp2_with fail
          refine hR.mono ?_
          rintro e w4 ⟨rfl, V3, T, hS4, h1, h2, hst4⟩
          have HG : Hid _ := HFin.out w4 V3 T HNB.out hS4 (fun t ht => (nx2 HE0.out).2 (h1 t ht)) (fun t ht => h2 t ((nx2 HE0.out).1 ht))
          have HS4 : Hid _ := hS4
          have HB5 : Hid _ := HB4.out.trans (hst4.below HS3.out HB4.out.size)
          clear h1 h2 hS4 hst4
          go_wp2_with fail
          go_roundg (still (M ++ T) (O' ++ T))
          case rel => exact ⟨V3, M ++ T, O' ++ T, HS4.out, HB5.out, HG.out.1, rfl⟩
          case measure => exact HG.out.2
        | true =>
          rw [hen] at hE1
          cases hen2 : (Ls.au n' x').en y.2.2 with
          | false =>
            rw [hen2] at hE2
            have HNB : Hid (¬ Ls.badO (Ls.au n' x') y) := fun h => by have h1 := h.2.2; rw [hen2] at h1; cases h1
            clear hen hen2
            go_wp2_with fail
            refine hE1.mono ?_
            rintro e w3 ⟨rfl, rfl⟩
            go_wp2_with fail
            refine hE2.mono ?_
            rintro e w3 ⟨rfl, rfl⟩
            go_wp2_with fail
            refine hR.mono ?_
            rintro e w4 ⟨rfl, V3, T, hS4, h1, h2, hst4⟩
            have HG : Hid _ := HFin.out w4 V3 T HNB.out hS4 (fun t ht => (nx2 HE0.out).2 (h1 t ht)) (fun t ht => h2 t ((nx2 HE0.out).1 ht))
            have HS4 : Hid _ := hS4
            have HB5 : Hid _ := HB4.out.trans (hst4.below HS3.out HB4.out.size)
            clear h1 h2 hS4 hst4
            go_wp2_with fail
            go_roundg (still (M ++ T) (O' ++ T))
            case rel => exact ⟨V3, M ++ T, O' ++ T, HS4.out, HB5.out, HG.out.1, rfl⟩
            case measure => exact HG.out.2
          | true =>
            rw [hen2] at hE2
            have HBad : Hid (∃ s, Ls.Reach (Ls.NxO (Ls.au n x) (Ls.au n' x')) (0, 0, 0) s ∧ Ls.badO (Ls.au n' x') s) := ⟨y, HSc.out.came y (HSc.out.sub y (by simp)), HE0.out, hen, hen2⟩
            clear hen hen2
            go_wp2_with fail
            refine hE1.mono ?_
            rintro e w3 ⟨rfl, rfl⟩
            go_wp2_with fail
            refine hE2.mono ?_
            rintro e w3 ⟨rfl, rfl⟩
            go_wp2_with fail
            go_ret
            exact ⟨false, rfl, ⟨fun h => (by cases h), fun h => absurd (HF.out.1 HBad.out) h⟩, HB4.out⟩

end Go.Proofs.YtfklinjaajafgaaGreatDoor
