import Derived.Test.YtfklinjaajafgaaGreatDoorLsW
namespace Go.Proofs.YtfklinjaajafgaaGreatDoor
open Go.RowKit

/-- What Pattern answers. -/
def PatternPost (s : ByteArray) (w : World) : Ending → World → Prop := fun e w' =>
  Below w.heap.size w w' ∧
  ((readErr s.data.toList = 0 ∧ ∃ d y, readAll s.data.toList = some d ∧ e = .returned (.tuple #[patA (Ls.toPat d) y, .int .i64 0]) ∧ PV w' (New w w') (Ls.toPat d) y) ∨
   (readErr s.data.toList ≠ 0 ∧ e = .returned (.tuple #[patA Ls.none (.slice Option.none 0 0), .int .i64 (readErr s.data.toList)])))

set_option maxRecDepth 100000 in
set_option maxHeartbeats 1000000 in
theorem Pattern_long (s : ByteArray) (w : World) (hs : 120 < s.size) (hs2 : s.size ≤ 1048576) :
    Calls Tryz.prog 15 #[.string s] w (PatternPost s w) := by
  have hd : (120 : Int) < (s.size : Int) := by omega
  have HE : Hid (readErr s.data.toList = 1) := by show _ = _; unfold readErr; rw [if_pos (by simpa using hs)]
  go_enter Tryz.func15, Tryz.ntmps15
  go_wp2_with fail
  refine bodyPost_ret (v := .tuple #[patA Ls.none (.slice Option.none 0 0), .int .i64 1]) (by simp [results, Tryz.results15, go_sem, Ls.none]) rfl ⟨below_alloc1 _ _, .inr ⟨by rw [HE.out]; omega, by rw [HE.out]; rfl⟩⟩

theorem finB {w w1 : World} (hb : Below w.heap.size w w1) (a b c : Value) (o : Obj) : Below w.heap.size w ((((w1.setCell ⟨w.heap.size, 0, Option.none⟩ a).setCell ⟨w.heap.size, 1, Option.none⟩ b).setCell ⟨w.heap.size, 2, Option.none⟩ c).alloc o) :=
  (((hb.setCell (p := ⟨w.heap.size, 0, Option.none⟩) (Nat.le_refl _) a).setCell (p := ⟨w.heap.size, 1, Option.none⟩) (Nat.le_refl _) b).setCell (p := ⟨w.heap.size, 2, Option.none⟩) (Nat.le_refl _) c).alloc (by have := hb.size; simpa [World.setCell] using this) o

set_option maxRecDepth 100000 in
set_option maxHeartbeats 2000000 in
theorem Pattern_short (s : ByteArray) (w : World) (hs : s.size ≤ 120) :
    Calls Tryz.prog 15 #[.string s] w (PatternPost s w) := by
  have hd : ¬ (120 : Int) < (s.size : Int) := by omega
  have hpb : PB ((w.alloc (.cells #[.int .i64 0, .string ⟨#[]⟩, .slice Option.none 0 0] 27)).alloc (.cells #[.string s, .int .i64 0, .int .i64 0, .bool false] 62)) (w.heap.size + 1) s 0 0 false := by
    unfold PB
    have := heap_alloc_new (w.alloc (.cells #[.int .i64 0, .string ⟨#[]⟩, .slice Option.none 0 0] 27)) (.cells #[.string s, .int .i64 0, .int .i64 0, .bool false] 62)
    simpa using this
  have hlie : Lies ((w.alloc (.cells #[.int .i64 0, .string ⟨#[]⟩, .slice Option.none 0 0] 27)).alloc (.cells #[.string s, .int .i64 0, .int .i64 0, .bool false] 62)) w.heap.size [.int .i64 0, .string ⟨#[]⟩, .slice Option.none 0 0] := (lies_new w _).below (below_alloc1 _ _) (by simp)
  have hbw := below_alloc2 w (.cells #[.int .i64 0, .string ⟨#[]⟩, .slice Option.none 0 0] 27) (.cells #[.string s, .int .i64 0, .int .i64 0, .bool false] 62)
  go_enter Tryz.func15, Tryz.ntmps15
  go_wp2_with fail
  have hP := pattern_any s (by omega) 13 (Nat.le_refl _) (w.heap.size + 1) 0 0 _ hpb (Nat.zero_le _) (by omega)
  refine hP.mono ?_
  clear hP
  rintro e w1 hpp
  obtain ⟨p, y1, y2, y3, i1, z1, bad, rfl, hv, hi1, hi2, hz2, hl1, hcase⟩ := hpp.mid (fun d t hr => ⟨Ls.pat_suf _ _ _ _ hr, Ls.pat_siz _ _ _ _ hr⟩) (Nat.zero_le _)
  clear hpp
  have hbw1 : Below w.heap.size w w1 := hbw.grown hl1.grown (by simp; omega) (by simp)
  have hlie1 := hlie.grown hl1.grown (by simp)
  have hz01 := hl1.grown.size
  simp at hz01
  have hz1 := hlie1.lt
  have k1 := hl1.lies.c1
  have k2 := hl1.lies.c2
  have k3 := hl1.lies.c3
  obtain ⟨q0, q1, q2⟩ := hlie1.three (a := Ls.none)
  have g0 := hlie1.fr 0
  have g1 := hlie1.fr 1
  have g2 := hlie1.fr 2
  have hz2 : w.heap.size + 1 < w1.heap.size := by omega
  cases bad with
  | true =>
    have HE : Hid (readErr s.data.toList = 2) := by
      rcases hcase with ⟨_, hr⟩ | ⟨h0, _⟩
      · show _ = _; unfold readErr; rw [if_neg (by simpa using hs)]; unfold readAll; rw [show s.data.toList = rest s 0 from rfl, show (13 : Nat) = 13 - 0 from rfl, hr]
      · cases h0
    clear hcase
    go_wp2_with fail
    exact bodyPost_ret (v := .tuple #[patA Ls.none (.slice Option.none 0 0), .int .i64 2]) (by simp [results, Tryz.results15, go_sem, q0, q1, q2, hz1, Ls.none]) rfl ⟨finB hbw1 _ _ _ _, .inr ⟨by rw [HE.out]; omega, by rw [HE.out]; rfl⟩⟩
  | false =>
    obtain ⟨d, hr, rfl, rfl, hi3⟩ : ∃ d, Ls.pat (13 - (13 - 13)) (rest s 0) = some (d, rest s i1) ∧ p = Ls.toPat d ∧ z1 = 0 + Ls.dsize d ∧ i1 ≤ s.size := by
      rcases hcase with ⟨h0, _⟩ | ⟨_, h0⟩
      · cases h0
      · exact h0
    clear hcase
    by_cases hend : i1 = s.size
    · have hb1 : ((i1 : Int) != (s.size : Int)) = false := by rw [bne_eq_false_iff_eq]; omega
      have HA : Hid (readAll s.data.toList = some d) := by
        show _ = _
        unfold readAll
        rw [show s.data.toList = rest s 0 from rfl, show (13 : Nat) = 13 - (13 - 13) from rfl, hr]
        dsimp only
        rw [if_pos (rest_ge (by omega))]
      clear hend hr
      by_cases hsz : 24 < Ls.dsize d
      · have hb2 : (24 : Int) < ((0 + Ls.dsize d : Nat) : Int) := by omega
        have HE : Hid (readErr s.data.toList = 3) := by
          show _ = _; unfold readErr; rw [if_neg (by simpa using hs), HA.out]; dsimp only; rw [if_pos hsz]
        go_wp2_with fail
        exact bodyPost_ret (v := .tuple #[patA Ls.none (.slice Option.none 0 0), .int .i64 3]) (by simp [results, Tryz.results15, go_sem, q0, q1, q2, hz1, Ls.none]) rfl ⟨finB hbw1 _ _ _ _, .inr ⟨by rw [HE.out]; omega, by rw [HE.out]; rfl⟩⟩
      · have hb2 : ¬ (24 : Int) < ((0 + Ls.dsize d : Nat) : Int) := by omega
        have HE : Hid (readErr s.data.toList = 0) := by
          show _ = _; unfold readErr; rw [if_neg (by simpa using hs), HA.out]; dsimp only; rw [if_neg hsz]
        go_wp2_with fail
        refine bodyPost_ret (v := .tuple #[patA (Ls.toPat d) (.slice y1 y2 y3), .int .i64 0]) (by simp [results, Tryz.results15, go_sem, q0, q1, q2, hz1]) rfl ⟨finB hbw1 _ _ _ _, .inl ⟨HE.out, d, _, HA.out, rfl, ?_⟩⟩
        refine PV.mono ?g ?b _ _ hv
        case g =>
          intro k hk
          have h1 := hk.1
          have h2 := hk.2
          simp at h1
          exact ⟨by omega, by simp [World.setCell]; omega⟩
        case b =>
          intro k hk
          have h1 := hk.1
          have h2 := hk.2
          simp at h1
          rw [Below.heap_alloc _ _ _ (by simp [World.setCell]; omega), set3_other _ _ _ _ _ _ (by omega)]
    · have hb1 : ((i1 : Int) != (s.size : Int)) = true := by rw [bne_iff_ne]; omega
      have HE : Hid (readErr s.data.toList = 2) := by
        show _ = _; unfold readErr; rw [if_neg (by simpa using hs)]; unfold readAll
        rw [show s.data.toList = rest s 0 from rfl, show (13 : Nat) = 13 - (13 - 13) from rfl, hr]
        dsimp only
        rw [if_neg (by intro h0; have := rest_len s i1; rw [h0] at this; simp at this; omega)]
      clear hend hr
      go_wp2_with fail
      exact bodyPost_ret (v := .tuple #[patA Ls.none (.slice Option.none 0 0), .int .i64 2]) (by simp [results, Tryz.results15, go_sem, q0, q1, q2, hz1, Ls.none]) rfl ⟨finB hbw1 _ _ _ _, .inr ⟨by rw [HE.out]; omega, by rw [HE.out]; rfl⟩⟩

theorem Pattern_any (s : ByteArray) (w : World) (hs : s.size ≤ 1048576) : Calls Tryz.prog 15 #[.string s] w (PatternPost s w) := by
  by_cases h : 120 < s.size
  · exact Pattern_long s w h hs
  · exact Pattern_short s w (by omega)

end Go.Proofs.YtfklinjaajafgaaGreatDoor
