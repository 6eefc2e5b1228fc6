import Derived.Test.YtfklinjaajafgaaDoorRuns
import Derived.Test.YtfklinjaajafgaaDoorRd
import Derived.Test.YtfklinjaajafgaaDoorLsDD
/- Match, and the card. -/
namespace Go.Proofs.YtfklinjaajafgaaDoor
open Go.RowKit

set_option maxRecDepth 100000 in
set_option maxHeartbeats 2000000 in
theorem match_said : MatchSaid := by
  intro p t w a0 a1 a2 a3 hS hp ht
  by_cases h60 : 60 < t.size
  · have hd : (60 : Int) < (t.size : Int) := by omega
    have he : matchErr p.data.toList t.data.toList = 1 := by unfold matchErr; rw [if_pos (by simpa using h60)]
    have HE : Hid (matchErr p.data.toList t.data.toList = 1 ∧ matchAns p.data.toList t.data.toList = false) := ⟨he, matchAns_err (by rw [he]; omega)⟩
    clear he
    go_enter Tryd.func5, Tryd.ntmps5
    go_wp2_with fail
    go_ret2
    exact ⟨by rw [HE.out.1, HE.out.2]; rfl, Below.refl _ _⟩
  · have hd : ¬ (60 : Int) < (t.size : Int) := by omega
    have hme : matchErr p.data.toList t.data.toList = readErr p.data.toList := by unfold matchErr; rw [if_neg (by simpa using h60)]
    have Hme : Hid _ := hme
    clear hme
    have hnn : ∀ w, (binOp .neq 36 .nilIface .nilIface).run Tryd.prog w = .ok (.bool false) w := fun w => by kernel_rfl
    have hne : ∀ (a : Addr) w, (binOp .neq 36 (errS a) .nilIface).run Tryd.prog w = .ok (.bool true) w := fun a w => by kernel_rfl
    have hR := Read_any p hp w a0 a1 a2 a3 hS
    have HS : Hid _ := hS
    clear hS
    go_enter Tryd.func5, Tryd.ntmps5
    go_wp2_with fail
    refine hR.mono ?_
    rintro e w1 ⟨hb1, ⟨hE, d, v, hA, rfl, hrep⟩ | ⟨hE, rfl⟩⟩
    · obtain ⟨h120, h24, hwf⟩ := readErr_zero hE hA
      have hfew := (readAll_few hA).1
      have hwd := hrep.wd
      have HA : Hid (matchAns p.data.toList t.data.toList = Ls.is (Ls.toPat d) t.data.toList ∧ matchErr p.data.toList t.data.toList = 0) := by
        have h1 : matchErr p.data.toList t.data.toList = 0 := by rw [Hme.out, hE]
        refine ⟨?_, h1⟩
        unfold matchAns; rw [hA]; simp [h1]
      have HL : Hid (∀ b : Bool, (b = true ↔ lets (Ls.add d net0).1 (Ls.add d net0).2 t.data.toList) → b = Ls.is (Ls.toPat d) t.data.toList) := by
        intro b hb
        rw [lets_iff hwd, ← Ls.is_iff _ hwf] at hb
        rw [Bool.eq_iff_iff]; exact hb
      obtain ⟨hbd1, hbd2, _, _⟩ := add_bd hwd (n := net0) rfl (by simp [net0]; omega)
      obtain ⟨ty, x, rfl⟩ := hrep.iface
      have hN := NewNet_any d (by omega) h24 w1 (New w w1) (fun k hk => hk.2) ty x hrep
      clear hE hA hR hwf hwd hrep
      go_wp2_with fail
      refine hN.mono ?_
      rintro e w2 ⟨nb, P, Q, rfl, hnet, hb2⟩
      clear hN
      go_wp2_with fail
      refine (Matches_any w2 w1.heap.size nb P Q _ _ hnet hbd1 hbd2 t ht).mono ?_
      rintro e w3 ⟨b, rfl, hb, hb3⟩
      have Hb : Hid _ := HL.out b hb
      clear hb hnet
      go_wp2_with fail
      go_ret2
      exact ⟨by rw [HA.out.1, HA.out.2, ← Hb.out]; rfl, Below.join (Below.join hb1 hb2) hb3⟩
    · have hEr := errno_any w1 a0 a1 a2 a3 (HS.out.below hb1) _ (readErr_cases hE)
      have HA : Hid (matchAns p.data.toList t.data.toList = false ∧ matchErr p.data.toList t.data.toList = readErr p.data.toList) := ⟨matchAns_err (by rw [Hme.out]; exact hE), Hme.out⟩
      clear hE hR
      generalize readErr p.data.toList = r at *
      generalize errA a0 a1 a2 a3 r = ad at *
      go_wp2_with fail
      refine hEr.mono ?_
      rintro e w2 ⟨rfl, rfl⟩
      go_wp2_with fail
      go_ret2
      exact ⟨by rw [HA.out.1, HA.out.2]; rfl, hb1⟩

theorem matches_holds : Rows.MatchesCardSaid := card_of match_said

end Go.Proofs.YtfklinjaajafgaaDoor
