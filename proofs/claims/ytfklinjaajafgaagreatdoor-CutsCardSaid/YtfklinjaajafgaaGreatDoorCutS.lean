import Derived.Test.YtfklinjaajafgaaGreatDoorAsks
import Derived.Test.YtfklinjaajafgaaGreatDoorRd
import Derived.Test.YtfklinjaajafgaaGreatDoorCutd
/- askBoth; Once and Apart of package lenses. -/
namespace Go.Proofs.YtfklinjaajafgaaGreatDoor
open Go.RowKit

theorem cutErr_left {a b : List UInt8} (h : readErr a ≠ 0) : cutErr a b = readErr a := by unfold cutErr; rw [if_neg h]
theorem cutErr_right {a b : List UInt8} (h : readErr a = 0) : cutErr a b = readErr b := by unfold cutErr; rw [if_pos h]

set_option maxRecDepth 100000 in
set_option maxHeartbeats 2000000 in
theorem askOnce_any (a b : ByteArray) (ha : a.size ≤ 1048576) (hb : b.size ≤ 1048576) (w : World) (a0 a1 a2 a3 : Addr) (hS : Sent w a0 a1 a2 a3) :
    Calls Tryz.prog 36 #[.string a, .string b, .func (.func 37) #[] #[]] w (CutPost Ls.Twice a b w) := by
  have hnn : ∀ w, (binOp .neq 80 .nilIface .nilIface).run Tryz.prog w = .ok (.bool false) w := fun w => by kernel_rfl
  have hne : ∀ (a : Addr) w, (binOp .neq 80 (errS a) .nilIface).run Tryz.prog w = .ok (.bool true) w := fun a w => by kernel_rfl
  have hR := Read_any a ha w a0 a1 a2 a3 hS
  have HS : Hid _ := hS
  clear hS
  go_enter Tryz.func36, Tryz.ntmps36
  go_wp2_with fail
  refine hR.mono ?_
  rintro e w1 ⟨hb1, ⟨hE, d, v, hA, rfl, hrep⟩ | ⟨hE, rfl⟩⟩
  · have hR2 := Read_any b hb w1 a0 a1 a2 a3 (HS.out.below hb1)
    obtain ⟨ty, x, rfl⟩ := hrep.iface
    have HE : Hid (readErr a.data.toList = 0) := hE
    have HA : Hid (readAll a.data.toList = some d) := hA
    have HRep : Hid _ := hrep
    clear hE hA hrep hR
    go_wp2_with fail
    refine hR2.mono ?_
    rintro e w2 ⟨hb2, ⟨hE2, d2, v2, hA2, rfl, hrep2⟩ | ⟨hE2, rfl⟩⟩
    · obtain ⟨ty2, x2, rfl⟩ := hrep2.iface
      obtain ⟨h120, h24, hwf⟩ := readErr_zero HE.out HA.out
      obtain ⟨h120', h24', hwf'⟩ := readErr_zero hE2 hA2
      have hfew := (readAll_few HA.out).1
      have hfew' := (readAll_few hA2).1
      have hwd := HRep.out.wd
      have hwd' := hrep2.wd
      obtain ⟨q1, q2, _, _⟩ := add_bd hwd (n := net0) rfl (by simp [net0]; omega)
      obtain ⟨q1', q2', _, _⟩ := add_bd hwd' (n := net0) rfl (by simp [net0]; omega)
      have hN := NewNet_any d (by omega) h24 w2 (New w w1) (fun k hk => Nat.lt_of_lt_of_le hk.2 hb2.size) ty x (HRep.out.later (fun k hk => hk.2) hb2)
      have HCut : Hid (cutErr a.data.toList b.data.toList = 0) := (cutErr_right HE.out).trans hE2
      have HA2 : Hid (readAll b.data.toList = some d2) := hA2
      have HRep2 : Hid _ := hrep2
      have Hwd : Hid _ := hwd
      have Hwd' : Hid _ := hwd'
      clear hE2 hA2 hrep2 hwf hwf' hwd hwd' hR2
      go_wp2_with fail
      refine hN.mono ?_
      rintro e w3 ⟨nb, P, Q, rfl, hnet, hb3⟩
      have hN2 := NewNet_any d2 (by omega) h24' w3 (New w1 w2) (fun k hk => Nat.lt_of_lt_of_le hk.2 hb3.size) ty2 x2 (HRep2.out.later (fun k hk => hk.2) hb3)
      have HNet : Hid _ := hnet
      clear hnet hN
      go_wp2_with fail
      refine hN2.mono ?_
      rintro e w4 ⟨nb', P', Q', rfl, hnet', hb4⟩
      have hK := asks_once w4 nb nb' P Q P' Q' d d2 Hwd.out Hwd'.out ((HNet.out.below hb4).nt q1 q2) (hnet'.nt q1' q2')
      clear hnet' hN2
      go_wp2_with fail
      refine hK.mono ?_
      rintro e w5 ⟨z, rfl, hz, hb5⟩
      have HZ : Hid (z = true ↔ ¬ Ls.Twice (Ls.toPat d) (Ls.toPat d2)) := hz
      clear hz hK
      go_wp2_with fail
      go_ret2
      refine ⟨z, by rw [HCut.out]; rfl, fun h => absurd HCut.out h, fun c e hc he _ => ?_, Below.join (Below.join (Below.join (Below.join hb1 hb2) hb3) hb4) hb5⟩
      obtain rfl := Option.some.inj (HA.out.symm.trans hc)
      obtain rfl := Option.some.inj (HA2.out.symm.trans he)
      exact HZ.out
    · have hEr := errno_any w2 a0 a1 a2 a3 (HS.out.below (Below.join hb1 hb2)) _ (readErr_cases hE2)
      have HCut : Hid (cutErr a.data.toList b.data.toList = readErr b.data.toList ∧ readErr b.data.toList ≠ 0) := ⟨cutErr_right HE.out, hE2⟩
      clear hE2 hR2 HRep
      generalize readErr b.data.toList = r at *
      generalize errA a0 a1 a2 a3 r = ad at *
      go_wp2_with fail
      refine hEr.mono ?_
      rintro e w3 ⟨rfl, rfl⟩
      go_wp2_with fail
      go_ret2
      exact ⟨false, by rw [HCut.out.1]; rfl, fun _ => rfl, fun c e _ _ h => absurd (HCut.out.1.symm.trans h) HCut.out.2, Below.join hb1 hb2⟩
  · have hEr := errno_any w1 a0 a1 a2 a3 (HS.out.below hb1) _ (readErr_cases hE)
    have HCut : Hid (cutErr a.data.toList b.data.toList = readErr a.data.toList ∧ readErr a.data.toList ≠ 0) := ⟨cutErr_left hE, hE⟩
    clear hE hR
    generalize readErr a.data.toList = r at *
    generalize errA a0 a1 a2 a3 r = ad at *
    go_wp2_with fail
    refine hEr.mono ?_
    rintro e w2 ⟨rfl, rfl⟩
    go_wp2_with fail
    go_ret2
    exact ⟨false, by rw [HCut.out.1]; rfl, fun _ => rfl, fun c e _ _ h => absurd (HCut.out.1.symm.trans h) HCut.out.2, hb1⟩

set_option maxRecDepth 100000 in
set_option maxHeartbeats 1000000 in
theorem once_said (a b : ByteArray) (ha : a.size ≤ 1048576) (hb : b.size ≤ 1048576) (w : World) (a0 a1 a2 a3 : Addr) (hS : Sent w a0 a1 a2 a3) :
    Calls Tryz.prog 13 #[.string a, .string b] w (CutPost Ls.Twice a b w) := by
  have hC := askOnce_any a b ha hb w a0 a1 a2 a3 hS
  go_enter Tryz.func13, Tryz.ntmps13
  go_wp2_with fail
  refine hC.mono ?_
  rintro e w' ⟨z, rfl, h1, h2, h3⟩
  go_wp2_with fail
  go_ret2
  exact ⟨z, rfl, h1, h2, h3⟩

set_option maxRecDepth 100000 in
set_option maxHeartbeats 2000000 in
theorem askApart_any (a b : ByteArray) (ha : a.size ≤ 1048576) (hb : b.size ≤ 1048576) (w : World) (a0 a1 a2 a3 : Addr) (hS : Sent w a0 a1 a2 a3) :
    Calls Tryz.prog 36 #[.string a, .string b, .func (.func 38) #[] #[]] w (CutPost Ls.Both a b w) := by
  have hnn : ∀ w, (binOp .neq 80 .nilIface .nilIface).run Tryz.prog w = .ok (.bool false) w := fun w => by kernel_rfl
  have hne : ∀ (a : Addr) w, (binOp .neq 80 (errS a) .nilIface).run Tryz.prog w = .ok (.bool true) w := fun a w => by kernel_rfl
  have hR := Read_any a ha w a0 a1 a2 a3 hS
  have HS : Hid _ := hS
  clear hS
  go_enter Tryz.func36, Tryz.ntmps36
  go_wp2_with fail
  refine hR.mono ?_
  rintro e w1 ⟨hb1, ⟨hE, d, v, hA, rfl, hrep⟩ | ⟨hE, rfl⟩⟩
  · have hR2 := Read_any b hb w1 a0 a1 a2 a3 (HS.out.below hb1)
    obtain ⟨ty, x, rfl⟩ := hrep.iface
    have HE : Hid (readErr a.data.toList = 0) := hE
    have HA : Hid (readAll a.data.toList = some d) := hA
    have HRep : Hid _ := hrep
    clear hE hA hrep hR
    go_wp2_with fail
    refine hR2.mono ?_
    rintro e w2 ⟨hb2, ⟨hE2, d2, v2, hA2, rfl, hrep2⟩ | ⟨hE2, rfl⟩⟩
    · obtain ⟨ty2, x2, rfl⟩ := hrep2.iface
      obtain ⟨h120, h24, hwf⟩ := readErr_zero HE.out HA.out
      obtain ⟨h120', h24', hwf'⟩ := readErr_zero hE2 hA2
      have hfew := (readAll_few HA.out).1
      have hfew' := (readAll_few hA2).1
      have hwd := HRep.out.wd
      have hwd' := hrep2.wd
      obtain ⟨q1, q2, _, _⟩ := add_bd hwd (n := net0) rfl (by simp [net0]; omega)
      obtain ⟨q1', q2', _, _⟩ := add_bd hwd' (n := net0) rfl (by simp [net0]; omega)
      have hN := NewNet_any d (by omega) h24 w2 (New w w1) (fun k hk => Nat.lt_of_lt_of_le hk.2 hb2.size) ty x (HRep.out.later (fun k hk => hk.2) hb2)
      have HCut : Hid (cutErr a.data.toList b.data.toList = 0) := (cutErr_right HE.out).trans hE2
      have HA2 : Hid (readAll b.data.toList = some d2) := hA2
      have HRep2 : Hid _ := hrep2
      have Hwd : Hid _ := hwd
      have Hwd' : Hid _ := hwd'
      clear hE2 hA2 hrep2 hwf hwf' hwd hwd' hR2
      go_wp2_with fail
      refine hN.mono ?_
      rintro e w3 ⟨nb, P, Q, rfl, hnet, hb3⟩
      have hN2 := NewNet_any d2 (by omega) h24' w3 (New w1 w2) (fun k hk => Nat.lt_of_lt_of_le hk.2 hb3.size) ty2 x2 (HRep2.out.later (fun k hk => hk.2) hb3)
      have HNet : Hid _ := hnet
      clear hnet hN
      go_wp2_with fail
      refine hN2.mono ?_
      rintro e w4 ⟨nb', P', Q', rfl, hnet', hb4⟩
      have hK := asks_apart w4 nb nb' P Q P' Q' d d2 Hwd.out Hwd'.out ((HNet.out.below hb4).nt q1 q2) (hnet'.nt q1' q2')
      clear hnet' hN2
      go_wp2_with fail
      refine hK.mono ?_
      rintro e w5 ⟨z, rfl, hz, hb5⟩
      have HZ : Hid (z = true ↔ ¬ Ls.Both (Ls.toPat d) (Ls.toPat d2)) := hz
      clear hz hK
      go_wp2_with fail
      go_ret2
      refine ⟨z, by rw [HCut.out]; rfl, fun h => absurd HCut.out h, fun c e hc he _ => ?_, Below.join (Below.join (Below.join (Below.join hb1 hb2) hb3) hb4) hb5⟩
      obtain rfl := Option.some.inj (HA.out.symm.trans hc)
      obtain rfl := Option.some.inj (HA2.out.symm.trans he)
      exact HZ.out
    · have hEr := errno_any w2 a0 a1 a2 a3 (HS.out.below (Below.join hb1 hb2)) _ (readErr_cases hE2)
      have HCut : Hid (cutErr a.data.toList b.data.toList = readErr b.data.toList ∧ readErr b.data.toList ≠ 0) := ⟨cutErr_right HE.out, hE2⟩
      clear hE2 hR2 HRep
      generalize readErr b.data.toList = r at *
      generalize errA a0 a1 a2 a3 r = ad at *
      go_wp2_with fail
      refine hEr.mono ?_
      rintro e w3 ⟨rfl, rfl⟩
      go_wp2_with fail
      go_ret2
      exact ⟨false, by rw [HCut.out.1]; rfl, fun _ => rfl, fun c e _ _ h => absurd (HCut.out.1.symm.trans h) HCut.out.2, Below.join hb1 hb2⟩
  · have hEr := errno_any w1 a0 a1 a2 a3 (HS.out.below hb1) _ (readErr_cases hE)
    have HCut : Hid (cutErr a.data.toList b.data.toList = readErr a.data.toList ∧ readErr a.data.toList ≠ 0) := ⟨cutErr_left hE, hE⟩
    clear hE hR
    generalize readErr a.data.toList = r at *
    generalize errA a0 a1 a2 a3 r = ad at *
    go_wp2_with fail
    refine hEr.mono ?_
    rintro e w2 ⟨rfl, rfl⟩
    go_wp2_with fail
    go_ret2
    exact ⟨false, by rw [HCut.out.1]; rfl, fun _ => rfl, fun c e _ _ h => absurd (HCut.out.1.symm.trans h) HCut.out.2, hb1⟩

set_option maxRecDepth 100000 in
set_option maxHeartbeats 1000000 in
theorem apart_said (a b : ByteArray) (ha : a.size ≤ 1048576) (hb : b.size ≤ 1048576) (w : World) (a0 a1 a2 a3 : Addr) (hS : Sent w a0 a1 a2 a3) :
    Calls Tryz.prog 14 #[.string a, .string b] w (CutPost Ls.Both a b w) := by
  have hC := askApart_any a b ha hb w a0 a1 a2 a3 hS
  go_enter Tryz.func14, Tryz.ntmps14
  go_wp2_with fail
  refine hC.mono ?_
  rintro e w' ⟨z, rfl, h1, h2, h3⟩
  go_wp2_with fail
  go_ret2
  exact ⟨z, rfl, h1, h2, h3⟩

end Go.Proofs.YtfklinjaajafgaaGreatDoor

