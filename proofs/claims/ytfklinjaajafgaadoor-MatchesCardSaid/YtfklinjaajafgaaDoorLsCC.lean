import Derived.Test.YtfklinjaajafgaaDoorLsY
import Derived.Test.YtfklinjaajafgaaDoorPlain
/- The law Matches, out of the contract of lenses.Match. -/
namespace Go.Proofs.YtfklinjaajafgaaDoor
open Go.RowKit

/-- What Match is to answer: the error, and whether. -/
def matchErr (p t : List UInt8) : Nat := if 60 < t.length then 1 else readErr p
def matchAns (p t : List UInt8) : Bool :=
  match readAll p with
  | .none => false
  | some d => decide (matchErr p t = 0) && Ls.is (Ls.toPat d) t

def MatchPost (p t : ByteArray) (w : World) : Ending → World → Prop := fun e w' =>
  e = .returned (.tuple #[.bool (matchAns p.data.toList t.data.toList), .int .i64 (matchErr p.data.toList t.data.toList)]) ∧ Below w.heap.size w w'

theorem matchAns_err {p t : List UInt8} (h : matchErr p t ≠ 0) : matchAns p t = false := by
  unfold matchAns
  split
  · rfl
  · simp [h]

theorem readErr_le (p : List UInt8) : readErr p ≤ 3 := by
  unfold readErr
  split
  · omega
  · split
    · omega
    · split <;> omega

set_option maxRecDepth 100000 in
set_option maxHeartbeats 1000000 in
theorem law_long1 (p t : ByteArray) (w : World) (hp : p.size ≤ maxLen) (h : 1048576 < p.size) :
    Calls Tryd.prog 3 #[.string p, .string t] w fun e w' => e = .returned (.bool true) ∧ Below w.heap.size w w' := by
  unfold maxLen at hp
  have hd : (1048576 : Int) < (p.size : Int) := by omega
  go_enter Tryd.func3, Tryd.ntmps3
  go_wp2_with fail
  go_ret
  exact ⟨rfl, Below.refl _ _⟩

set_option maxRecDepth 100000 in
set_option maxHeartbeats 1000000 in
theorem law_long2 (p t : ByteArray) (w : World) (hp : p.size ≤ 1048576) (ht : t.size ≤ maxLen) (h : 1048576 < t.size) :
    Calls Tryd.prog 3 #[.string p, .string t] w fun e w' => e = .returned (.bool true) ∧ Below w.heap.size w w' := by
  unfold maxLen at ht
  have hd : ¬ (1048576 : Int) < (p.size : Int) := by omega
  have hd2 : (1048576 : Int) < (t.size : Int) := by omega
  go_enter Tryd.func3, Tryd.ntmps3
  go_wp2_with fail
  go_ret
  exact ⟨rfl, Below.refl _ _⟩

set_option maxRecDepth 100000 in
set_option maxHeartbeats 2000000 in
theorem law_short (p t : ByteArray) (w : World) (hp : p.size ≤ 1048576) (ht : t.size ≤ 1048576) (hM : Calls Tryd.prog 5 #[.string p, .string t] w (MatchPost p t w)) :
    Calls Tryd.prog 3 #[.string p, .string t] w fun e w' => e = .returned (.bool true) ∧ Below w.heap.size w w' := by
  have hd : ¬ (1048576 : Int) < (p.size : Int) := by omega
  have hd2 : ¬ (1048576 : Int) < (t.size : Int) := by omega
  have HM : Hid (Calls Tryd.prog 5 #[.string p, .string t] w (MatchPost p t w)) := hM
  clear hM
  go_enter Tryd.func3, Tryd.ntmps3
  go_wp2_with fail
  refine HM.out.mono ?_
  rintro e w1 ⟨rfl, hb1⟩
  go_wp2_with fail
  refine (Pattern_any p _ hp).mono ?_
  rintro e w2 ⟨hb2, hcase⟩
  rcases hcase with ⟨hE, d, y, hA, rfl, hv⟩ | ⟨hE, rfl⟩
  · have HA : Hid (readAll p.data.toList = some d) := hA
    have HE : Hid (readErr p.data.toList = 0) := hE
    clear hA hE
    obtain ⟨y1, y2, y3, rfl⟩ := PV.slice _ _ hv
    by_cases h60 : 60 < t.size
    · have hd3 : (60 : Int) < (t.size : Int) := by omega
      have he : matchErr p.data.toList t.data.toList = 1 := by unfold matchErr; rw [if_pos (by simpa using h60)]
      have ha := matchAns_err (p := p.data.toList) (t := t.data.toList) (by rw [he]; omega)
      go_wp2_with fail
      go_ret
      exact ⟨rfl, Below.join (Below.join hb1 hb2) (below_alloc1 _ _)⟩
    · have hd3 : ¬ (60 : Int) < (t.size : Int) := by omega
      have he : matchErr p.data.toList t.data.toList = 0 := by unfold matchErr; rw [if_neg (by simpa using h60), HE.out]
      have ha : matchAns p.data.toList t.data.toList = Ls.is (Ls.toPat d) t.data.toList := by unfold matchAns; rw [HA.out]; simp [he]
      have hroom : Ls.Room (Ls.toPat d :: Ls.pds (Ls.toPat d)) := by
        have h1 := HE.out
        have h2 := HA.out
        unfold readErr at h1
        have hl : ¬ 120 < p.data.toList.length := by intro h; rw [if_pos h] at h1; cases h1
        unfold readAll at h2
        split at h2
        · cases h2
        · rename_i d' t' hpat
          split at h2
          · simp at h2; subst h2; exact Ls.read_room hpat (by omega)
          · cases h2
      have hl2 := (lies_new w2 (patC (Ls.toPat d) (.slice y1 y2 y3)))
      obtain ⟨m0, m1, m2⟩ := hl2.three
      have Ha : Hid (matchAns p.data.toList t.data.toList = Ls.is (Ls.toPat d) t.data.toList) := ha
      clear ha m0 m1 m2
      go_wp2_with fail
      refine (is_any (Ls.toPat d) _ hroom (by simp) t (by unfold maxLen; omega) (.slice y1 y2 y3) _ (New w1 w2) (fun k hk => by have := hk.2; simp; omega) (hv.below (below_alloc1 _ _) (fun k hk => hk.2) (fun _ h => h))).mono ?_
      rintro e w3 ⟨rfl, hb3⟩
      have ha := Ha.out
      rw [ha]
      go_wp2_with fail
      all_goals
        go_ret
        exact ⟨ret_bool (by simp), Below.join (Below.join (Below.join hb1 hb2) (below_alloc1 _ _)) hb3⟩
  · have hle := readErr_le p.data.toList
    by_cases h60 : 60 < t.size
    · have hd3 : (60 : Int) < (t.size : Int) := by omega
      have he : matchErr p.data.toList t.data.toList = 1 := by unfold matchErr; rw [if_pos (by simpa using h60)]
      have ha := matchAns_err (p := p.data.toList) (t := t.data.toList) (by rw [he]; omega)
      go_wp2_with fail
      go_ret
      exact ⟨rfl, Below.join (Below.join hb1 hb2) (below_alloc1 _ _)⟩
    · have hd3 : ¬ (60 : Int) < (t.size : Int) := by omega
      have he : matchErr p.data.toList t.data.toList = readErr p.data.toList := by unfold matchErr; rw [if_neg (by simpa using h60)]
      have ha := matchAns_err (p := p.data.toList) (t := t.data.toList) (by rw [he]; exact hE)
      have hn : (((readErr p.data.toList : Nat) : Int) != 0) = true := by rw [bne_iff_ne]; omega
      rw [he, ha]
      clear he ha
      generalize readErr p.data.toList = r at *
      go_wp2_with fail
      go_ret
      exact ⟨ret_bool (by simp), Below.join (Below.join hb1 hb2) (below_alloc1 _ _)⟩

end Go.Proofs.YtfklinjaajafgaaDoor
