import Derived.Test.YtfklinjaajafgaaDoorCutS
import Derived.Test.YtfklinjaajafgaaDoorMtch
/- The law Fits: what fits in two ways is told by Once, what is one of both by Apart. -/
namespace Ls

/-- How many are good, of those below a number. -/
def cnt (g : Nat → Bool) : Nat → Nat
  | 0 => 0
  | k + 1 => cnt g k + (if g k = true then 1 else 0)

theorem cnt_le (g : Nat → Bool) : ∀ k, cnt g k ≤ k
  | 0 => Nat.le_refl _
  | k + 1 => by
    have := cnt_le g k
    unfold cnt
    split <;> omega

theorem cnt_one (g : Nat → Bool) : ∀ k, 1 ≤ cnt g k → ∃ i, i < k ∧ g i = true
  | 0, h => by simp [cnt] at h
  | k + 1, h => by
    unfold cnt at h
    split at h
    · rename_i hg; exact ⟨k, by omega, hg⟩
    · obtain ⟨i, h1, h2⟩ := cnt_one g k (by omega)
      exact ⟨i, by omega, h2⟩

theorem cnt_two (g : Nat → Bool) : ∀ k, 2 ≤ cnt g k → ∃ i j, i < j ∧ j < k ∧ g i = true ∧ g j = true
  | 0, h => by simp [cnt] at h
  | k + 1, h => by
    unfold cnt at h
    split at h
    · rename_i hg
      obtain ⟨i, h1, h2⟩ := cnt_one g k (by omega)
      exact ⟨i, k, h1, by omega, h2, hg⟩
    · obtain ⟨i, j, h1, h2, h3⟩ := cnt_two g k (by omega)
      exact ⟨i, j, h1, by omega, h3⟩

end Ls

namespace Go.Proofs.YtfklinjaajafgaaDoor
open Go.RowKit

theorem alive_ans : matchAns [91, 97, 45, 99, 93, 43] [97, 98, 99] = true := by decide +kernel
theorem alive_err : matchErr [91, 97, 45, 99, 93, 43] [97, 98, 99] = 0 := by decide +kernel

theorem take_bytes (t : ByteArray) (k : Nat) : (t.extract 0 k).data.toList = t.data.toList.take k := by
  simp [ByteArray.data_extract, Array.toList_extract, List.extract_eq_take_drop]
theorem drop_bytes (t : ByteArray) (k : Nat) : (t.extract k t.size).data.toList = t.data.toList.drop k := by
  simp [ByteArray.data_extract, Array.toList_extract, List.extract_eq_take_drop]
  rw [List.take_of_length_le (by rw [List.length_drop, Array.length_toList]; exact Nat.le_refl _)]

theorem readErr_some {l : List UInt8} (h : readErr l = 0) : ∃ d, readAll l = some d := by
  unfold readErr at h
  split at h
  · cases h
  · cases hd : readAll l with
    | none => rw [hd] at h; cases h
    | some d => exact ⟨d, rfl⟩

theorem matchAns_inL {p t : List UInt8} {d : Ls.D} (hE : readErr p = 0) (hd : readAll p = some d) (h : matchAns p t = true) : Ls.inL (Ls.toPat d) t := by
  obtain ⟨_, _, hwf⟩ := readErr_zero hE hd
  unfold matchAns at h
  rw [hd] at h
  simp only [Bool.and_eq_true] at h
  exact (Ls.is_iff _ hwf _).1 h.2

theorem matchErr_zero {p t : List UInt8} (hE : readErr p = 0) (ht : t.length ≤ 60) : matchErr p t = 0 := by
  unfold matchErr
  rw [if_neg (by omega)]; exact hE

/-- What fits in two ways. -/
theorem fits_twice {a b t : List UInt8} {c d : Ls.D} (hE : readErr a = 0) (hE' : readErr b = 0) (hc : readAll a = some c) (hd : readAll b = some d) (k : Nat)
    (h : 2 ≤ Ls.cnt (fun i => matchAns a (t.take i) && matchAns b (t.drop i)) k) (hk : k ≤ t.length + 1) : Ls.Twice (Ls.toPat c) (Ls.toPat d) := by
  obtain ⟨i, j, h1, h2, h3, h4⟩ := Ls.cnt_two _ _ h
  simp only [Bool.and_eq_true] at h3 h4
  have e1 : t.take j = t.take i ++ (t.drop i).take (j - i) := by rw [← List.take_add]; congr 1; omega
  have e2 : t.drop i = (t.drop i).take (j - i) ++ t.drop j := by
    conv => lhs; rw [← List.take_append_drop (j - i) (t.drop i)]
    rw [List.drop_drop]; congr 2; omega
  refine ⟨t.take i, (t.drop i).take (j - i), t.drop j, ?_, matchAns_inL hE hc h3.1, by rw [← e1]; exact matchAns_inL hE hc h4.1, by rw [← e2]; exact matchAns_inL hE' hd h3.2, matchAns_inL hE' hd h4.2⟩
  intro e
  have := congrArg List.length e
  simp at this
  omega

/-- Match, where nothing is wrong. -/
theorem match_ok (p t : ByteArray) (hp : p.size ≤ 1048576) (hE : readErr p.data.toList = 0) (ht : t.size ≤ 60) (w : World) (a0 a1 a2 a3 : Addr) (hS : Sent w a0 a1 a2 a3) :
    Calls Tryd.prog 5 #[.string p, .string t] w fun e w' => e = .returned (.tuple #[.bool (matchAns p.data.toList t.data.toList), .int .i64 0]) ∧ Below w.heap.size w w' := by
  have h := match_said p t w a0 a1 a2 a3 hS hp (by omega)
  unfold MatchPost at h
  rw [matchErr_zero hE (by rw [Array.length_toList]; exact ht)] at h
  exact h

set_option maxRecDepth 100000 in
set_option maxHeartbeats 4000000 in
theorem fits_any (a b t : ByteArray) (w : World) (ha : a.size ≤ maxLen) (hb : b.size ≤ maxLen) (ht : t.size ≤ maxLen) {a0 a1 a2 a3 : Addr} (hS : Sent w a0 a1 a2 a3) :
    Calls Tryd.prog 4 #[.string a, .string b, .string t] w fun e w' => e = .returned (.bool true) ∧ Below w.heap.size w w' := by
  unfold maxLen at ha hb ht
  have hA := match_said ⟨#[91, 97, 45, 99, 93, 43]⟩ ⟨#[97, 98, 99]⟩ w a0 a1 a2 a3 hS (by decide) (by decide)
  unfold MatchPost at hA
  rw [show matchAns (ByteArray.mk #[91, 97, 45, 99, 93, 43]).data.toList (ByteArray.mk #[97, 98, 99]).data.toList = true from alive_ans, show matchErr (ByteArray.mk #[91, 97, 45, 99, 93, 43]).data.toList (ByteArray.mk #[97, 98, 99]).data.toList = 0 from alive_err] at hA
  have HS : Hid _ := hS
  clear hS
  go_enter Tryd.func4, Tryd.ntmps4
  go_wp2_with fail
  refine hA.mono ?_
  rintro e w1 ⟨rfl, hb1⟩
  clear hA
  by_cases h1 : (1048576 : Int) < (a.size : Int)
  · go_wp2_with fail
    go_ret
    exact ⟨rfl, hb1⟩
  · by_cases h2 : (1048576 : Int) < (b.size : Int)
    · go_wp2_with fail
      go_ret
      exact ⟨rfl, hb1⟩
    · by_cases h3 : (60 : Int) < (t.size : Int)
      · go_wp2_with fail
        go_ret
        exact ⟨rfl, hb1⟩
      · have hC := once_said a b (by omega) (by omega) w1 a0 a1 a2 a3 (HS.out.below hb1)
        go_wp2_with fail
        refine hC.mono ?_
        rintro e w2 ⟨x, rfl, hx0, hx1, hb2⟩
        have hC2 := apart_said a b (by omega) (by omega) w2 a0 a1 a2 a3 (HS.out.below (Below.join hb1 hb2))
        have HX0 : Hid (cutErr a.data.toList b.data.toList ≠ 0 → x = false) := hx0
        have HX1 : Hid (∀ c d, readAll a.data.toList = some c → readAll b.data.toList = some d → cutErr a.data.toList b.data.toList = 0 → (x = true ↔ ¬ Ls.Twice (Ls.toPat c) (Ls.toPat d))) := hx1
        clear hx0 hx1 hC
        go_wp2_with fail
        refine hC2.mono ?_
        rintro e w3 ⟨y, rfl, hy0, hy1, hb3⟩
        have HY0 : Hid (cutErr a.data.toList b.data.toList ≠ 0 → y = false) := hy0
        have HY1 : Hid (∀ c d, readAll a.data.toList = some c → readAll b.data.toList = some d → cutErr a.data.toList b.data.toList = 0 → (y = true ↔ ¬ Ls.Both (Ls.toPat c) (Ls.toPat d))) := hy1
        clear hy0 hy1 hC2
        have HB3 : Hid _ := Below.join (Below.join hb1 hb2) hb3
        clear hb1 hb2 hb3
        by_cases h0 : cutErr a.data.toList b.data.toList = 0
        · rw [h0]
          have hEa : readErr a.data.toList = 0 := by
            unfold cutErr at h0
            split at h0
            · assumption
            · exact h0
          have hEb : readErr b.data.toList = 0 := by
            unfold cutErr at h0
            rw [if_pos hEa] at h0
            exact h0
          obtain ⟨c, hc⟩ := readErr_some hEa
          obtain ⟨d, hd⟩ := readErr_some hEb
          have HTw : Hid (∀ k, k ≤ t.size + 1 → 2 ≤ Ls.cnt (fun i => matchAns a.data.toList (t.data.toList.take i) && matchAns b.data.toList (t.data.toList.drop i)) k → x = false) := fun k hk h => by
            have h4 := fits_twice hEa hEb hc hd k h (by rw [Array.length_toList]; exact hk)
            cases hx : x with
            | false => rfl
            | true => exact absurd h4 ((HX1.out c d hc hd h0).1 hx)
          have HBo : Hid (matchAns a.data.toList t.data.toList = true → matchAns b.data.toList t.data.toList = true → y = false) := fun h4 h5 => by
            cases hy : y with
            | false => rfl
            | true => exact absurd ⟨_, matchAns_inL hEa hc h4, matchAns_inL hEb hd h5⟩ ((HY1.out c d hc hd h0).1 hy)
          have HEa : Hid (readErr a.data.toList = 0) := hEa
          have HEb : Hid (readErr b.data.toList = 0) := hEb
          clear hEa hEb hc hd h0 HX0 HX1 HY0 HY1
          have hts : t.size ≤ 60 := by omega
          generalize hg : (fun i => matchAns a.data.toList (t.data.toList.take i) && matchAns b.data.toList (t.data.toList.drop i)) = g at HTw
          have HG : Hid (∀ i, g i = (matchAns a.data.toList (t.data.toList.take i) && matchAns b.data.toList (t.data.toList.drop i))) := fun i => by rw [← hg]
          clear hg
          go_wp2_with fail
          go_loopw [12, 13] (fun wy i wr => ∃ k : Nat, k ≤ t.size + 1 ∧ i = .int .i64 k ∧ wy = .int .i64 (Ls.cnt g k : Nat) ∧ Below w.heap.size w wr) (fun _ i _ => t.size + 1 - (intOf i).toNat)
          case atStart => exact ⟨0, Nat.zero_le _, rfl, rfl, HB3.out⟩
          case round =>
            obtain ⟨k, hk, rfl, rfl, hbr⟩ := hrel
            have hcl := Ls.cnt_le g k
            have HSr : Hid _ := HS.out.below hbr
            by_cases hlt : k ≤ t.size
            · have hd1 : (k : Int) ≤ (t.size : Int) := by omega
              have hM1 := match_ok a (t.extract 0 k) (by omega) HEa.out (by rw [ByteArray.size_extract]; omega) wr a0 a1 a2 a3 HSr.out
              rw [take_bytes] at hM1
              have HGk := HG.out k
              generalize matchAns a.data.toList (t.data.toList.take k) = p1 at *
              have HC1 : Hid (Ls.cnt g (k + 1) = Ls.cnt g k + if g k = true then 1 else 0) := rfl
              generalize Ls.cnt g k = n1 at *
              go_wp2_with fail
              refine hM1.mono ?_
              rintro e w4 ⟨rfl, hb4⟩
              have hM2 := match_ok b (t.extract k t.size) (by omega) HEb.out (by rw [ByteArray.size_extract]; omega) w4 a0 a1 a2 a3 (HSr.out.below hb4)
              rw [drop_bytes] at hM2
              generalize matchAns b.data.toList (t.data.toList.drop k) = q1 at *
              have HC2 : Hid (g k = (p1 && q1)) := HGk
              clear HGk hM1
              go_wp2_with fail
              refine hM2.mono ?_
              rintro e w5 ⟨rfl, hb5⟩
              have HB5 : Hid _ := Below.join (Below.join hbr hb4) hb5
              clear hM2 hb4 hb5 hbr
              cases p1 with
              | false =>
                have HC : Hid (Ls.cnt g (k + 1) = n1) := by show _ = _; rw [HC1.out, HC2.out]; simp
                go_wp2_with fail
                go_roundw
                case rel => exact ⟨k + 1, by omega, by go_num, by rw [HC.out], HB5.out⟩
                case measure => simp [intOf]; omega
              | true =>
                cases q1 with
                | false =>
                  have HC : Hid (Ls.cnt g (k + 1) = n1) := by show _ = _; rw [HC1.out, HC2.out]; simp
                  go_wp2_with fail
                  go_roundw
                  case rel => exact ⟨k + 1, by omega, by go_num, by rw [HC.out], HB5.out⟩
                  case measure => simp [intOf]; omega
                | true =>
                  have HC : Hid (Ls.cnt g (k + 1) = n1 + 1) := by show _ = _; rw [HC1.out, HC2.out]; simp
                  go_wp2_with fail
                  go_roundw
                  case rel => exact ⟨k + 1, by omega, by go_num, by rw [HC.out]; go_num, HB5.out⟩
                  case measure => simp [intOf]; omega
            · have hk1 : k = t.size + 1 := by omega
              have hd1 : ¬ (k : Int) ≤ (t.size : Int) := by omega
              have hM1 := match_ok a t (by omega) HEa.out hts wr a0 a1 a2 a3 HSr.out
              have HT : Hid (2 ≤ Ls.cnt g k → x = false) := HTw.out k hk
              have HBo2 : Hid _ := HBo.out
              clear HTw HBo
              generalize Ls.cnt g k = n1 at *
              generalize matchAns a.data.toList t.data.toList = p1 at *
              go_wp2_with fail
              refine hM1.mono ?_
              rintro e w4 ⟨rfl, hb4⟩
              have hM2 := match_ok b t (by omega) HEb.out hts w4 a0 a1 a2 a3 (HSr.out.below hb4)
              generalize matchAns b.data.toList t.data.toList = q1 at *
              clear hM1
              go_wp2_with fail
              refine hM2.mono ?_
              rintro e w5 ⟨rfl, hb5⟩
              have HB5 : Hid _ := Below.join (Below.join hbr hb4) hb5
              clear hM2 hb4 hb5 hbr
              by_cases hw : (n1 : Int) < 2
              · cases p1 with
                | false =>
                  go_wp2_with fail
                  all_goals
                    go_ret
                    exact ⟨ret_bool (by simp), HB5.out⟩
                | true =>
                  cases q1 with
                  | false =>
                    go_wp2_with fail
                    all_goals
                      go_ret
                      exact ⟨ret_bool (by simp), HB5.out⟩
                  | true =>
                    have hy := HBo2.out rfl rfl
                    subst hy
                    go_wp2_with fail
                    all_goals
                      go_ret
                      exact ⟨ret_bool (by simp), HB5.out⟩
              · have hx : x = false := HT.out (by omega)
                subst hx
                cases p1 with
                | false =>
                  go_wp2_with fail
                  all_goals
                    go_ret
                    exact ⟨ret_bool (by simp), HB5.out⟩
                | true =>
                  cases q1 with
                  | false =>
                    go_wp2_with fail
                    all_goals
                      go_ret
                      exact ⟨ret_bool (by simp), HB5.out⟩
                  | true =>
                    have hy := HBo2.out rfl rfl
                    subst hy
                    go_wp2_with fail
                    all_goals
                      go_ret
                      exact ⟨ret_bool (by simp), HB5.out⟩
        · have hx := HX0.out h0
          have hy := HY0.out h0
          subst hx hy
          have hn : (((cutErr a.data.toList b.data.toList : Nat) : Int) != 0) = true := by rw [bne_iff_ne]; omega
          clear h0 HX0 HX1 HY0 HY1
          generalize cutErr a.data.toList b.data.toList = r at *
          go_wp2_with fail
          go_ret
          exact ⟨ret_bool (by simp), HB3.out⟩

end Go.Proofs.YtfklinjaajafgaaDoor

namespace Go.Proofs.YtfklinjaajafgaaDoor
open Go.ChangeShapes Go.WideShapes Go.ChangeAt Go.RowKit
open Go.ChangeMaps (open_string shut_string)

set_option maxRecDepth 100000 in
theorem fits_lifted (os : Os) (started : os.Started) (H : Type) (enc : TypeId × Value → H) :
    ReturnsInHanded {} Tryd.checked os 4 .any (fun w args => (Rows.fitsSpec.pre enc Tryd.prog Tryd.f4 [] false w args ∧ laidMetH Tryd.prog laid4 w) ∧ sizedMet enc Tryd.prog Tryd.f4 (OpenSpec.ofChange Rows.fitsSpec) false w args)
      (Rows.fitsSpec.post enc Tryd.prog Tryd.f4 false true false false) := by
  refine returnsInHanded_of_change_and (C := Tryd.checked) (X := fun w _ => laidMetH Tryd.prog laid4 w) (fun _ _ _ hh h => h.of_heap hh) own started (by kernel_rfl) Tryd.func4
    (ChangeSpec.witness_shaped (enc := enc) (C := Tryd.checked) (os := os) (X := fun w _ => laidMetH Tryd.prog laid4 w) false (World.doorLaid Tryd.prog 400 os) #[.string ByteArray.empty, .string ByteArray.empty, .string ByteArray.empty] 8 rfl (World.shaped_of_RefB (by kernel_rfl) (by kernel_rfl)) (by kernel_rfl) (by kernel_rfl) (by kernel_rfl) (door_met os _)) ?_
  intro W base args ds gs before hval0 hW _ _ hL _
  have hval : ∀ (j : Nat) t v, Tryd.f4.params[j]? = some t → args[j]? = some v → Value.okWide Tryd.prog W .any base t v := hval0
  have hW' := hW
  obtain ⟨p, q, hA0, hV, rfl, hfz, hnd⟩ := hW
  have hA : DataW.TrodAll enc Tryd.prog W 0 (fun _ => true) true Tryd.f4.params.toList args.toList ds p := hA0
  rw [Tryd.params4] at hA hval
  obtain ⟨v0, vs0, d0, ds0, p0, q0, hargs, rfl, rfl, h0, r0⟩ := trodAll_cons hA
  obtain ⟨v1, vs1, d1, ds1, p1, q1, rfl, rfl, rfl, h1, r1⟩ := trodAll_cons r0
  obtain ⟨v2, vs2, d2, ds2, p2, q2, rfl, rfl, rfl, h2, r2⟩ := trodAll_cons r1
  obtain ⟨rfl, rfl, rfl⟩ := trodAll_nil r2
  obtain rfl : args = #[v0, v1, v2] := by cases args; simp_all
  obtain ⟨rfl, rfl⟩ := trodVars_none hV
  obtain ⟨a0, rfl, rfl, rfl, w0⟩ := open_string Tryd.underlying9 (hval 0 9 v0 rfl rfl) h0
  obtain ⟨a1, rfl, rfl, rfl, w1⟩ := open_string Tryd.underlying9 (hval 1 9 v1 rfl rfl) h1
  obtain ⟨a2, rfl, rfl, rfl, w2⟩ := open_string Tryd.underlying9 (hval 2 9 v2 rfl rfl) h2
  obtain ⟨x0, x1, x2, x3, hs⟩ := sent_of_laid hL
  clear hA0 hval0
  simp only [List.append_nil] at hW'
  refine (fits_any a0 a1 a2 W w0 w1 w2 hs).mono fun e W' ⟨he, hg⟩ => ?_
  subst he
  refine ⟨_, rfl, _, _, _, [], [], [], hW', ?_, ?_, ?_, hg.frame _, fun h => by cases h⟩
  · exact trodAll_cons_mk (shut_bool Tryd.underlying4 _) trodAll_mk0
  · exact trodAll_cons_mk (shut_string Tryd.underlying9 w0) (trodAll_cons_mk (shut_string Tryd.underlying9 w1) (trodAll_cons_mk (shut_string Tryd.underlying9 w2) trodAll_mk0))
  · rfl

theorem fits_saidof : Rows.FitsSaid :=
  OpenClaim.holds_of_wide 4 Tryd.f4 rfl rfl rfl rfl rfl rfl rfl ⟨rfl, rfl, rfl, rfl, rfl⟩ rfl rfl rfl rfl rfl (by kernel_rfl) Tryd.func4 (by kernel_rfl)
    (of_decide_eq_true (by kernel_rfl)) (by unfold Func.isWrapper; first | (rw [if_pos (by decide +kernel)]; kernel_rfl) | (rw [if_neg (by decide +kernel)]; exact ⟨rfl, rfl⟩))
    (fun os started H enc _ => fits_lifted os started H enc)

theorem fits_holds : Rows.FitsCardSaid :=
  Claim7.holds_tied_plain_at .later [] [.sentinel, .sentinel, .sentinel, .sentinel] true Rows.fitsCard.stood.harness true
    fits_saidof (fun _ h => by cases h) (by kernel_rfl) (fun _ h => by cases h) fits_row_tie rfl ⟨rfl, rfl⟩ (by kernel_rfl) rfl
    (fun f fn hf hfn => by
      obtain rfl : f = 4 := Option.some.inj ((show Tryd.prog.funcNamed "lenses/lenseskeep.Fits" = some 4 by kernel_rfl).symm.trans hf) |>.symm
      obtain rfl : fn = Tryd.f4 := (Option.some.inj (Tryd.func4.symm.trans hfn)).symm
      exact ⟨by kernel_rfl, fun j t ht => by
        rw [Tryd.params4] at ht
        have hm : t ∈ [9, 9, 9] := by simpa using Array.mem_of_getElem? ht
        have hall : ([9, 9, 9].all fun u => !Tryd.prog.wantsStandIn u) = true := by kernel_rfl
        exact (show Tryd.prog.wantsStandIn t = false by simpa using List.all_eq_true.1 hall t hm)⟩)
    (by kernel_rfl)

end Go.Proofs.YtfklinjaajafgaaDoor
