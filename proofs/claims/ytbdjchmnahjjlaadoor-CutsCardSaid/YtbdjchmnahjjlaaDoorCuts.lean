import Derived.Test.YtbdjchmnahjjlaaDoorRuns
import Derived.Test.YtbdjchmnahjjlaaDoorSrch
import Derived.Test.YtbdjchmnahjjlaaDoorCtI
import Derived.Test.YtbdjchmnahjjlaaDoorLsSS
/- What the search through two nets tells of what was read. -/
namespace Go.Proofs.YtbdjchmnahjjlaaDoor

theorem lg_lets (n : Ls.Net) (x : Ls.Span) (u : List UInt8) : Ls.Lg (Ls.au n x) u ↔ lets n x u := by
  cases u with
  | nil =>
    constructor
    · rintro ⟨q, h1, h2⟩
      simp only [Ls.Wk] at h1
      subst h1
      exact h2
    · intro h; exact ⟨0, rfl, h⟩
  | cons c u =>
    constructor
    · rintro ⟨r, ⟨q, h1, h2, h4⟩, h5⟩
      cases q with
      | zero => rw [Ls.au_nx_zero] at h1; cases h1
      | succ q => exact ⟨q, h1, h2, (Ls.acc_wk n x u q).2 ⟨r, h4, h5⟩⟩
    · rintro ⟨q, h1, h2, h3⟩
      obtain ⟨r, h4, h5⟩ := (Ls.acc_wk n x u q).1 h3
      exact ⟨r, ⟨q + 1, h1, h2, h4⟩, h5⟩

/-- The net of what was read. -/
abbrev auD (d : Ls.D) : Ls.Au := Ls.au (Ls.add d net0).1 (Ls.add d net0).2

theorem lg_iff {d : Ls.D} (h : Ls.Wd 0 d) (u : List UInt8) : Ls.Lg (auD d) u ↔ Ls.inL (Ls.toPat d) u := (lg_lets _ _ u).trans (lets_iff h u)

theorem both_iff {d e : Ls.D} (hd : Ls.Wd 0 d) (he : Ls.Wd 0 e) : (∃ s, Ls.Reach (Ls.Stp (auD d) (auD e)) (0, 0, 0) s ∧ Ls.badA (auD d) (auD e) s) ↔ Ls.Both (Ls.toPat d) (Ls.toPat e) := by
  rw [Ls.apart_reach]
  unfold Ls.Both
  simp only [lg_iff hd, lg_iff he]

theorem twice_iff {d e : Ls.D} (hd : Ls.Wd 0 d) (he : Ls.Wd 0 e) : (∃ s, Ls.Reach (Ls.NxO (auD d) (auD e)) (0, 0, 0) s ∧ Ls.badO (auD e) s) ↔ Ls.Twice (Ls.toPat d) (Ls.toPat e) := by
  rw [Ls.once_reach]
  unfold Ls.Twice
  simp only [lg_iff hd, lg_iff he]

end Go.Proofs.YtbdjchmnahjjlaaDoor

/- askBoth; Once and Apart of package lenses. -/
namespace Go.Proofs.YtbdjchmnahjjlaaDoor
open Go.RowKit

theorem NetL.nt {w : World} {B nb : Nat} {P Q : Value} {n : Ls.Net} {x : Ls.Span} (h : NetL w B nb P Q n x) (hf : x.first < 4294967296) (hl : x.last < 4294967296) : Nt w w.heap.size nb P Q n x := by
  obtain ⟨los, _, _, hP⟩ := h.pls
  exact ⟨⟨B, h⟩, h.lt, fun k hk => (hP.lt k hk).2, fun k hk => (h.bhs.lt k hk).2, hf, hl⟩

/-- What is asked of two nets. -/
def Asks (f : FuncId) (F : Ls.Pat → Ls.Pat → Prop) : Prop := ∀ (w : World) (nb nb' : Nat) (P Q P' Q' : Value) (d d' : Ls.D), Ls.Wd 0 d → Ls.Wd 0 d' → Nt w w.heap.size nb P Q (Ls.add d net0).1 (Ls.add d net0).2 → Nt w w.heap.size nb' P' Q' (Ls.add d' net0).1 (Ls.add d' net0).2 →
  Calls Tryd.prog f #[.pointer (some ⟨nb, 0, none⟩), .pointer (some ⟨nb', 0, none⟩)] w (AskPost w (F (Ls.toPat d) (Ls.toPat d')))

theorem asks_apart : Asks 23 Ls.Both := fun w nb nb' P Q P' Q' _ _ hd hd' h h' => pApart_any w nb nb' P Q P' Q' _ _ _ _ h h' _ (both_iff hd hd')
theorem asks_once : Asks 22 Ls.Twice := fun w nb nb' P Q P' Q' _ _ hd hd' h h' => pOnce_any w nb nb' P Q P' Q' _ _ _ _ h h' _ (twice_iff hd hd')

theorem cutErr_left {a b : List UInt8} (h : readErr a ≠ 0) : cutErr a b = readErr a := by unfold cutErr; rw [if_neg h]
theorem cutErr_right {a b : List UInt8} (h : readErr a = 0) : cutErr a b = readErr b := by unfold cutErr; rw [if_pos h]

set_option maxRecDepth 100000 in
set_option maxHeartbeats 2000000 in
theorem askOnce_any (a b : ByteArray) (ha : a.size ≤ 1048576) (hb : b.size ≤ 1048576) (w : World) (a0 a1 a2 : Addr) (hS : Sent w a0 a1 a2) :
    Calls Tryd.prog 21 #[.string a, .string b, .func (.func 22) #[] #[]] w (CutPost Ls.Twice a b w) := by
  have hnn : ∀ w, (binOp .neq 37 .nilIface .nilIface).run Tryd.prog w = .ok (.bool false) w := fun w => by kernel_rfl
  have hne : ∀ (a : Addr) w, (binOp .neq 37 (errS a) .nilIface).run Tryd.prog w = .ok (.bool true) w := fun a w => by kernel_rfl
  have hR := Read_any a ha w a0 a1 a2 hS
  have HS : Hid _ := hS
  clear hS
  go_enter Tryd.func21, Tryd.ntmps21
  go_wp2_with fail
  refine hR.mono ?_
  rintro e w1 ⟨hb1, ⟨hE, d, v, hA, rfl, hrep⟩ | ⟨hE, rfl⟩⟩
  · have hR2 := Read_any b hb w1 a0 a1 a2 (HS.out.below hb1)
    obtain ⟨ty, x, rfl⟩ := hrep.iface
    have HE : Hid (readErr a.data.toList = 0) := hE
    have HA : Hid (readAll a.data.toList = some d) := hA
    have HRep : Hid _ := hrep
    clear hE hA hrep hR
    go_wp2_with fail
    refine hR2.mono ?_
    rintro e w2 ⟨hb2, ⟨hE2, d2, v2, hA2, rfl, hrep2⟩ | ⟨hE2, rfl⟩⟩
    · obtain ⟨ty2, x2, rfl⟩ := hrep2.iface
      obtain ⟨h120, h24, hwf⟩ := readErr_zero HE.out HA.out
      obtain ⟨h120', h24', hwf'⟩ := readErr_zero hE2 hA2
      have hfew := (readAll_few HA.out).1
      have hfew' := (readAll_few hA2).1
      have hwd := HRep.out.wd
      have hwd' := hrep2.wd
      obtain ⟨q1, q2, _, _⟩ := add_bd hwd (n := net0) rfl (by simp [net0]; omega)
      obtain ⟨q1', q2', _, _⟩ := add_bd hwd' (n := net0) rfl (by simp [net0]; omega)
      have hN := NewNet_any d (by omega) h24 w2 (New w w1) (fun k hk => Nat.lt_of_lt_of_le hk.2 hb2.size) ty x (HRep.out.later (fun k hk => hk.2) hb2)
      have HCut : Hid (cutErr a.data.toList b.data.toList = 0) := (cutErr_right HE.out).trans hE2
      have HA2 : Hid (readAll b.data.toList = some d2) := hA2
      have HRep2 : Hid _ := hrep2
      have Hwd : Hid _ := hwd
      have Hwd' : Hid _ := hwd'
      clear hE2 hA2 hrep2 hwf hwf' hwd hwd' hR2
      go_wp2_with fail
      refine hN.mono ?_
      rintro e w3 ⟨nb, P, Q, rfl, hnet, hb3⟩
      have hN2 := NewNet_any d2 (by omega) h24' w3 (New w1 w2) (fun k hk => Nat.lt_of_lt_of_le hk.2 hb3.size) ty2 x2 (HRep2.out.later (fun k hk => hk.2) hb3)
      have HNet : Hid _ := hnet
      clear hnet hN
      go_wp2_with fail
      refine hN2.mono ?_
      rintro e w4 ⟨nb', P', Q', rfl, hnet', hb4⟩
      have hK := asks_once w4 nb nb' P Q P' Q' d d2 Hwd.out Hwd'.out ((HNet.out.below hb4).nt q1 q2) (hnet'.nt q1' q2')
      clear hnet' hN2
      go_wp2_with fail
      refine hK.mono ?_
      rintro e w5 ⟨z, rfl, hz, hb5⟩
      have HZ : Hid (z = true ↔ ¬ Ls.Twice (Ls.toPat d) (Ls.toPat d2)) := hz
      clear hz hK
      go_wp2_with fail
      go_ret2
      refine ⟨z, by rw [HCut.out]; rfl, fun h => absurd HCut.out h, fun c e hc he _ => ?_, Below.join (Below.join (Below.join (Below.join hb1 hb2) hb3) hb4) hb5⟩
      obtain rfl := Option.some.inj (HA.out.symm.trans hc)
      obtain rfl := Option.some.inj (HA2.out.symm.trans he)
      exact HZ.out
    · have hEr := errno_any w2 a0 a1 a2 (HS.out.below (Below.join hb1 hb2)) _ (readErr_cases hE2)
      have HCut : Hid (cutErr a.data.toList b.data.toList = readErr b.data.toList ∧ readErr b.data.toList ≠ 0) := ⟨cutErr_right HE.out, hE2⟩
      clear hE2 hR2 HRep
      generalize readErr b.data.toList = r at *
      generalize errA a0 a1 a2 r = ad at *
      go_wp2_with fail
      refine hEr.mono ?_
      rintro e w3 ⟨rfl, rfl⟩
      go_wp2_with fail
      go_ret2
      exact ⟨false, by rw [HCut.out.1]; rfl, fun _ => rfl, fun c e _ _ h => absurd (HCut.out.1.symm.trans h) HCut.out.2, Below.join hb1 hb2⟩
  · have hEr := errno_any w1 a0 a1 a2 (HS.out.below hb1) _ (readErr_cases hE)
    have HCut : Hid (cutErr a.data.toList b.data.toList = readErr a.data.toList ∧ readErr a.data.toList ≠ 0) := ⟨cutErr_left hE, hE⟩
    clear hE hR
    generalize readErr a.data.toList = r at *
    generalize errA a0 a1 a2 r = ad at *
    go_wp2_with fail
    refine hEr.mono ?_
    rintro e w2 ⟨rfl, rfl⟩
    go_wp2_with fail
    go_ret2
    exact ⟨false, by rw [HCut.out.1]; rfl, fun _ => rfl, fun c e _ _ h => absurd (HCut.out.1.symm.trans h) HCut.out.2, hb1⟩

set_option maxRecDepth 100000 in
set_option maxHeartbeats 1000000 in
theorem once_said (a b : ByteArray) (ha : a.size ≤ 1048576) (hb : b.size ≤ 1048576) (w : World) (a0 a1 a2 : Addr) (hS : Sent w a0 a1 a2) :
    Calls Tryd.prog 9 #[.string a, .string b] w (CutPost Ls.Twice a b w) := by
  have hC := askOnce_any a b ha hb w a0 a1 a2 hS
  go_enter Tryd.func9, Tryd.ntmps9
  go_wp2_with fail
  refine hC.mono ?_
  rintro e w' ⟨z, rfl, h1, h2, h3⟩
  go_wp2_with fail
  go_ret2
  exact ⟨z, rfl, h1, h2, h3⟩

set_option maxRecDepth 100000 in
set_option maxHeartbeats 2000000 in
theorem askApart_any (a b : ByteArray) (ha : a.size ≤ 1048576) (hb : b.size ≤ 1048576) (w : World) (a0 a1 a2 : Addr) (hS : Sent w a0 a1 a2) :
    Calls Tryd.prog 21 #[.string a, .string b, .func (.func 23) #[] #[]] w (CutPost Ls.Both a b w) := by
  have hnn : ∀ w, (binOp .neq 37 .nilIface .nilIface).run Tryd.prog w = .ok (.bool false) w := fun w => by kernel_rfl
  have hne : ∀ (a : Addr) w, (binOp .neq 37 (errS a) .nilIface).run Tryd.prog w = .ok (.bool true) w := fun a w => by kernel_rfl
  have hR := Read_any a ha w a0 a1 a2 hS
  have HS : Hid _ := hS
  clear hS
  go_enter Tryd.func21, Tryd.ntmps21
  go_wp2_with fail
  refine hR.mono ?_
  rintro e w1 ⟨hb1, ⟨hE, d, v, hA, rfl, hrep⟩ | ⟨hE, rfl⟩⟩
  · have hR2 := Read_any b hb w1 a0 a1 a2 (HS.out.below hb1)
    obtain ⟨ty, x, rfl⟩ := hrep.iface
    have HE : Hid (readErr a.data.toList = 0) := hE
    have HA : Hid (readAll a.data.toList = some d) := hA
    have HRep : Hid _ := hrep
    clear hE hA hrep hR
    go_wp2_with fail
    refine hR2.mono ?_
    rintro e w2 ⟨hb2, ⟨hE2, d2, v2, hA2, rfl, hrep2⟩ | ⟨hE2, rfl⟩⟩
    · obtain ⟨ty2, x2, rfl⟩ := hrep2.iface
      obtain ⟨h120, h24, hwf⟩ := readErr_zero HE.out HA.out
      obtain ⟨h120', h24', hwf'⟩ := readErr_zero hE2 hA2
      have hfew := (readAll_few HA.out).1
      have hfew' := (readAll_few hA2).1
      have hwd := HRep.out.wd
      have hwd' := hrep2.wd
      obtain ⟨q1, q2, _, _⟩ := add_bd hwd (n := net0) rfl (by simp [net0]; omega)
      obtain ⟨q1', q2', _, _⟩ := add_bd hwd' (n := net0) rfl (by simp [net0]; omega)
      have hN := NewNet_any d (by omega) h24 w2 (New w w1) (fun k hk => Nat.lt_of_lt_of_le hk.2 hb2.size) ty x (HRep.out.later (fun k hk => hk.2) hb2)
      have HCut : Hid (cutErr a.data.toList b.data.toList = 0) := (cutErr_right HE.out).trans hE2
      have HA2 : Hid (readAll b.data.toList = some d2) := hA2
      have HRep2 : Hid _ := hrep2
      have Hwd : Hid _ := hwd
      have Hwd' : Hid _ := hwd'
      clear hE2 hA2 hrep2 hwf hwf' hwd hwd' hR2
      go_wp2_with fail
      refine hN.mono ?_
      rintro e w3 ⟨nb, P, Q, rfl, hnet, hb3⟩
      have hN2 := NewNet_any d2 (by omega) h24' w3 (New w1 w2) (fun k hk => Nat.lt_of_lt_of_le hk.2 hb3.size) ty2 x2 (HRep2.out.later (fun k hk => hk.2) hb3)
      have HNet : Hid _ := hnet
      clear hnet hN
      go_wp2_with fail
      refine hN2.mono ?_
      rintro e w4 ⟨nb', P', Q', rfl, hnet', hb4⟩
      have hK := asks_apart w4 nb nb' P Q P' Q' d d2 Hwd.out Hwd'.out ((HNet.out.below hb4).nt q1 q2) (hnet'.nt q1' q2')
      clear hnet' hN2
      go_wp2_with fail
      refine hK.mono ?_
      rintro e w5 ⟨z, rfl, hz, hb5⟩
      have HZ : Hid (z = true ↔ ¬ Ls.Both (Ls.toPat d) (Ls.toPat d2)) := hz
      clear hz hK
      go_wp2_with fail
      go_ret2
      refine ⟨z, by rw [HCut.out]; rfl, fun h => absurd HCut.out h, fun c e hc he _ => ?_, Below.join (Below.join (Below.join (Below.join hb1 hb2) hb3) hb4) hb5⟩
      obtain rfl := Option.some.inj (HA.out.symm.trans hc)
      obtain rfl := Option.some.inj (HA2.out.symm.trans he)
      exact HZ.out
    · have hEr := errno_any w2 a0 a1 a2 (HS.out.below (Below.join hb1 hb2)) _ (readErr_cases hE2)
      have HCut : Hid (cutErr a.data.toList b.data.toList = readErr b.data.toList ∧ readErr b.data.toList ≠ 0) := ⟨cutErr_right HE.out, hE2⟩
      clear hE2 hR2 HRep
      generalize readErr b.data.toList = r at *
      generalize errA a0 a1 a2 r = ad at *
      go_wp2_with fail
      refine hEr.mono ?_
      rintro e w3 ⟨rfl, rfl⟩
      go_wp2_with fail
      go_ret2
      exact ⟨false, by rw [HCut.out.1]; rfl, fun _ => rfl, fun c e _ _ h => absurd (HCut.out.1.symm.trans h) HCut.out.2, Below.join hb1 hb2⟩
  · have hEr := errno_any w1 a0 a1 a2 (HS.out.below hb1) _ (readErr_cases hE)
    have HCut : Hid (cutErr a.data.toList b.data.toList = readErr a.data.toList ∧ readErr a.data.toList ≠ 0) := ⟨cutErr_left hE, hE⟩
    clear hE hR
    generalize readErr a.data.toList = r at *
    generalize errA a0 a1 a2 r = ad at *
    go_wp2_with fail
    refine hEr.mono ?_
    rintro e w2 ⟨rfl, rfl⟩
    go_wp2_with fail
    go_ret2
    exact ⟨false, by rw [HCut.out.1]; rfl, fun _ => rfl, fun c e _ _ h => absurd (HCut.out.1.symm.trans h) HCut.out.2, hb1⟩

set_option maxRecDepth 100000 in
set_option maxHeartbeats 1000000 in
theorem apart_said (a b : ByteArray) (ha : a.size ≤ 1048576) (hb : b.size ≤ 1048576) (w : World) (a0 a1 a2 : Addr) (hS : Sent w a0 a1 a2) :
    Calls Tryd.prog 10 #[.string a, .string b] w (CutPost Ls.Both a b w) := by
  have hC := askApart_any a b ha hb w a0 a1 a2 hS
  go_enter Tryd.func10, Tryd.ntmps10
  go_wp2_with fail
  refine hC.mono ?_
  rintro e w' ⟨z, rfl, h1, h2, h3⟩
  go_wp2_with fail
  go_ret2
  exact ⟨z, rfl, h1, h2, h3⟩

end Go.Proofs.YtbdjchmnahjjlaaDoor

/- The row and the card of the law Cuts. -/
namespace Go.Proofs.YtbdjchmnahjjlaaDoor
open Go.ChangeShapes Go.WideShapes Go.ChangeAt Go.RowKit
open Go.ChangeMaps (open_string shut_string)

theorem cuts_law (a b : ByteArray) (w : World) (ha : a.size ≤ maxLen) (hb : b.size ≤ maxLen) {a0 a1 a2 : Addr} (hs : Sent w a0 a1 a2) :
    Calls Tryd.prog 4 #[.string a, .string b] w fun e w' => e = .returned (.bool true) ∧ Below w.heap.size w w' := by
  by_cases h1 : 1048576 < a.size
  · exact cuts_long1 a b w ha h1
  · by_cases h2 : 1048576 < b.size
    · exact cuts_long2 a b w (by omega) hb h2
    · exact cuts_short a b w (by omega) (by omega) (once_said a b (by omega) (by omega) w a0 a1 a2 hs) (fun w1 hb1 => apart_said a b (by omega) (by omega) w1 a0 a1 a2 (hs.below hb1))

set_option maxRecDepth 100000 in
theorem cuts_lifted (os : Os) (started : os.Started) (H : Type) (enc : TypeId × Value → H) :
    ReturnsInHanded {} Tryd.checked os 4 .any (fun w args => (Rows.cutsSpec.pre enc Tryd.prog Tryd.f4 [] false w args ∧ laidMetH Tryd.prog laid3 w) ∧ sizedMet enc Tryd.prog Tryd.f4 (OpenSpec.ofChange Rows.cutsSpec) false w args)
      (Rows.cutsSpec.post enc Tryd.prog Tryd.f4 false true false false) := by
  refine returnsInHanded_of_change_and (C := Tryd.checked) (X := fun w _ => laidMetH Tryd.prog laid3 w) (fun _ _ _ hh h => h.of_heap hh) own started (by kernel_rfl) Tryd.func4
    (ChangeSpec.witness_shaped (enc := enc) (C := Tryd.checked) (os := os) (X := fun w _ => laidMetH Tryd.prog laid3 w) false (World.doorLaid Tryd.prog 400 os) #[.string ByteArray.empty, .string ByteArray.empty] 8 rfl (World.shaped_of_RefB (by kernel_rfl) (by kernel_rfl)) (by kernel_rfl) (by kernel_rfl) (by kernel_rfl) (door_met os _)) ?_
  intro W base args ds gs before hval0 hW _ _ hL _
  have hval : ∀ (j : Nat) t v, Tryd.f4.params[j]? = some t → args[j]? = some v → Value.okWide Tryd.prog W .any base t v := hval0
  have hW' := hW
  obtain ⟨p, q, hA0, hV, rfl, hfz, hnd⟩ := hW
  have hA : DataW.TrodAll enc Tryd.prog W 0 (fun _ => true) true Tryd.f4.params.toList args.toList ds p := hA0
  rw [Tryd.params4] at hA hval
  obtain ⟨v0, vs0, d0, ds0, p0, q0, hargs, rfl, rfl, h0, r0⟩ := trodAll_cons hA
  obtain ⟨v1, vs1, d1, ds1, p1, q1, rfl, rfl, rfl, h1, r1⟩ := trodAll_cons r0
  obtain ⟨rfl, rfl, rfl⟩ := trodAll_nil r1
  obtain rfl : args = #[v0, v1] := by cases args; simp_all
  obtain ⟨rfl, rfl⟩ := trodVars_none hV
  obtain ⟨a0, rfl, rfl, rfl, w0⟩ := open_string Tryd.underlying9 (hval 0 9 v0 rfl rfl) h0
  obtain ⟨a1, rfl, rfl, rfl, w1⟩ := open_string Tryd.underlying9 (hval 1 9 v1 rfl rfl) h1
  obtain ⟨x0, x1, x2, hs⟩ := sent_of_laid hL
  clear hA0 hval0
  simp only [List.append_nil] at hW'
  refine (cuts_law a0 a1 W w0 w1 hs).mono fun e W' ⟨he, hg⟩ => ?_
  subst he
  refine ⟨_, rfl, _, _, _, [], [], [], hW', ?_, ?_, ?_, hg.frame _, fun h => by cases h⟩
  · exact trodAll_cons_mk (shut_bool Tryd.underlying4 _) trodAll_mk0
  · exact trodAll_cons_mk (shut_string Tryd.underlying9 w0) (trodAll_cons_mk (shut_string Tryd.underlying9 w1) trodAll_mk0)
  · rfl

theorem cuts_saidof : Rows.CutsSaid :=
  OpenClaim.holds_of_wide 4 Tryd.f4 rfl rfl rfl rfl rfl rfl rfl ⟨rfl, rfl, rfl, rfl, rfl⟩ rfl rfl rfl rfl rfl (by kernel_rfl) Tryd.func4 (by kernel_rfl)
    (of_decide_eq_true (by kernel_rfl)) (by unfold Func.isWrapper; first | (rw [if_pos (by decide +kernel)]; kernel_rfl) | (rw [if_neg (by decide +kernel)]; exact ⟨rfl, rfl⟩))
    (fun os started H enc _ => cuts_lifted os started H enc)

theorem cuts_holds : Rows.CutsCardSaid :=
  Claim7.holds_tied_plain_at .later [] [.sentinel, .sentinel, .sentinel] true Rows.cutsCard.stood.harness true
    cuts_saidof (fun _ h => by cases h) (by kernel_rfl) (fun _ h => by cases h) cuts_row_tie rfl ⟨rfl, rfl⟩ (by kernel_rfl) rfl
    (fun f fn hf hfn => by
      obtain rfl : f = 4 := Option.some.inj ((show Tryd.prog.funcNamed "lenses/lenseslaw.Cuts" = some 4 by kernel_rfl).symm.trans hf) |>.symm
      obtain rfl : fn = Tryd.f4 := (Option.some.inj (Tryd.func4.symm.trans hfn)).symm
      exact ⟨by kernel_rfl, fun j t ht => by
        rw [Tryd.params4] at ht
        have hm : t ∈ [9, 9] := by simpa using Array.mem_of_getElem? ht
        have hall : ([9, 9].all fun u => !Tryd.prog.wantsStandIn u) = true := by kernel_rfl
        exact (show Tryd.prog.wantsStandIn t = false by simpa using List.all_eq_true.1 hall t hm)⟩)
    (by kernel_rfl)

end Go.Proofs.YtbdjchmnahjjlaaDoor
