import Derived.Test.YtbdjchmnahjjlaaDoorLsCC
import Derived.Test.YtbdjchmnahjjlaaDoorTie
import Derived.Test.YtbdjchmnahjjlaaDoorCards
import Derived.ProofKit
import Derived.OpenShut
import Derived.ShutString
import Derived.LaidMore
import Derived.Stop.LaidErr
import Derived.Stop.Joined
/- The row and the card of the law Matches, out of the contract of lenses.Match. -/
namespace Go.Proofs.YtbdjchmnahjjlaaDoor
open Go.ChangeShapes Go.WideShapes Go.ChangeAt Go.RowKit
open Go.ChangeMaps (open_string shut_string)

theorem own : ownKnob Tryd.prog.godebug = none := by kernel_rfl
theorem gLong : Tryd.prog.globalNamed "lenses/patterns.ErrLong" = some 0 := by kernel_rfl
theorem gSyntax : Tryd.prog.globalNamed "lenses/patterns.ErrSyntax" = some 2 := by kernel_rfl
theorem gSize : Tryd.prog.globalNamed "lenses/patterns.ErrSize" = some 1 := by kernel_rfl
theorem tLong : (Tryd.prog.globals[0]?).map (·.type) = some 37 := by kernel_rfl
theorem tSyntax : (Tryd.prog.globals[2]?).map (·.type) = some 37 := by kernel_rfl
theorem tSize : (Tryd.prog.globals[1]?).map (·.type) = some 37 := by kernel_rfl
theorem cellsE : Tryd.prog.cellsOf 173 = 1 := by kernel_rfl
theorem cellsS : Tryd.prog.cellsOf 9 = 1 := by kernel_rfl
theorem starE : "*" ++ "errors.errorString" = "*errors.errorString" := by decide
theorem rowE (u : TypeId) (h : Tryd.prog.typeName? 3 u = some "*errors.errorString") : u = 148 :=
  typeName_ptr_named (nm := "errors.errorString") (by rw [starE]; kernel_rfl) (by kernel_rfl) (by decide) u (by rw [starE]; exact h)

/-- The three sentinels, as the walks ask for them. -/
structure Sent (w : World) (a0 a1 a2 : Addr) : Prop where
  c0 : w.cell? ⟨0, 0, none⟩ = some (.iface 148 (.pointer (some a0)))
  c1 : w.cell? ⟨2, 0, none⟩ = some (.iface 148 (.pointer (some a1)))
  c2 : w.cell? ⟨1, 0, none⟩ = some (.iface 148 (.pointer (some a2)))
  n01 : a0 ≠ a1
  n02 : a0 ≠ a2
  n12 : a1 ≠ a2
  b0 : ∃ c t, w.heap[a0.block]? = some (.cells c t (0, 0))
  b1 : ∃ c t, w.heap[a1.block]? = some (.cells c t (0, 0))
  b2 : ∃ c t, w.heap[a2.block]? = some (.cells c t (0, 0))

def laid3 : List (String × DataW Unit) := [("lenses/patterns.ErrLong", Rows.laid_lenses_patterns_ErrLong), ("lenses/patterns.ErrSyntax", Rows.laid_lenses_patterns_ErrSyntax), ("lenses/patterns.ErrSize", Rows.laid_lenses_patterns_ErrSize)]

set_option maxRecDepth 100000 in
theorem sent_of_laid {W : World} (h : laidMetH Tryd.prog laid3 W) : ∃ a0 a1 a2, Sent W a0 a1 a2 := by
  rw [MakeChecks.laidMetH_plain _ _ _ (by kernel_rfl)] at h
  obtain ⟨ps, ⟨g0, t0, cs0, f0, p0, q0, hg0, ht0, hv0, hd0, ⟨g1, t1, cs1, f1, p1, q1, hg1, ht1, hv1, hd1, ⟨g2, t2, cs2, f2, p2, q2, hg2, ht2, hv2, hd2, hq2, e2⟩, e1⟩, e0⟩, hnd, hrows⟩ := h
  obtain rfl := Option.some.inj (gLong.symm.trans hg0)
  obtain rfl := Option.some.inj (gSyntax.symm.trans hg1)
  obtain rfl := Option.some.inj (gSize.symm.trans hg2)
  obtain rfl := Option.some.inj (tLong.symm.trans ht0)
  obtain rfl := Option.some.inj (tSyntax.symm.trans ht1)
  obtain rfl := Option.some.inj (tSize.symm.trans ht2)
  have hq2' : q2 = [] := hq2
  subst hq2'
  subst e2
  subst e1
  subst e0
  obtain ⟨l0⟩ := cs0
  obtain ⟨l1⟩ := cs1
  obtain ⟨l2⟩ := cs2
  have ok0 : ∀ u v, l0 = [.iface u v] → Value.okWide Tryd.prog W .any 0 u v := fun u v e => by
    subst e
    exact (hrows 0 0 (by simp [MemPlace.row])).2 u v (by simpa using World.var?_cell hg0 hv0 0)
  have ok1 : ∀ u v, l1 = [.iface u v] → Value.okWide Tryd.prog W .any 0 u v := fun u v e => by
    subst e
    exact (hrows 2 0 (by simp [MemPlace.row])).2 u v (by simpa using World.var?_cell hg1 hv1 0)
  have ok2 : ∀ u v, l2 = [.iface u v] → Value.okWide Tryd.prog W .any 0 u v := fun u v e => by
    subst e
    exact (hrows 1 0 (by simp [MemPlace.row])).2 u v (by simpa using World.var?_cell hg2 hv2 0)
  obtain ⟨a0, s0, rfl, hc0, hs0, hz0, rfl⟩ := errorString_of_trod Tryd.underlying37 rowE Tryd.underlying148 Tryd.underlying173 rfl rfl Tryd.underlying9 cellsE cellsS hd0 ok0
  obtain ⟨a1, s1, rfl, hc1, hs1, hz1, rfl⟩ := errorString_of_trod Tryd.underlying37 rowE Tryd.underlying148 Tryd.underlying173 rfl rfl Tryd.underlying9 cellsE cellsS hd1 ok1
  obtain ⟨a2, s2, rfl, hc2, hs2, hz2, rfl⟩ := errorString_of_trod Tryd.underlying37 rowE Tryd.underlying148 Tryd.underlying173 rfl rfl Tryd.underlying9 cellsE cellsS hd2 ok2
  have text : ∀ (x y : Addr) (s t : ByteArray), W.cell? x = some (.string s) → W.cell? y = some (.string t) → s.data.toList ≠ t.data.toList → x ≠ y := by
    rintro x y s t h1 h2 h3 rfl
    rw [h1] at h2
    injection h2 with h2
    injection h2 with h2
    exact h3 (by rw [h2])
  refine ⟨a0, a1, a2, ?_, ?_, ?_, text _ _ _ _ hc0 hc1 (by rw [hs0, hs1]; decide), text _ _ _ _ hc0 hc2 (by rw [hs0, hs2]; decide), text _ _ _ _ hc1 hc2 (by rw [hs1, hs2]; decide), (hrows a0.block a0.off (by simp [MemPlace.row])).1, (hrows a1.block a1.off (by simp [MemPlace.row])).1, (hrows a2.block a2.off (by simp [MemPlace.row])).1⟩
  · simpa using World.var?_cell hg0 hv0 0
  · simpa using World.var?_cell hg1 hv1 0
  · simpa using World.var?_cell hg2 hv2 0

/-- The contract of lenses.Match. -/
def MatchSaid : Prop := ∀ (p t : ByteArray) (w : World) (a0 a1 a2 : Addr), Sent w a0 a1 a2 → p.size ≤ 1048576 → t.size ≤ 1048576 → Calls Tryd.prog 6 #[.string p, .string t] w (MatchPost p t w)

theorem law_any (hM : MatchSaid) (p t : ByteArray) (w : World) (hp : p.size ≤ maxLen) (ht : t.size ≤ maxLen) {a0 a1 a2 : Addr} (hs : Sent w a0 a1 a2) :
    Calls Tryd.prog 3 #[.string p, .string t] w fun e w' => e = .returned (.bool true) ∧ Below w.heap.size w w' := by
  by_cases h1 : 1048576 < p.size
  · exact law_long1 p t w hp h1
  · by_cases h2 : 1048576 < t.size
    · exact law_long2 p t w (by omega) ht h2
    · exact law_short p t w (by omega) (by omega) (hM p t w a0 a1 a2 hs (by omega) (by omega))

/-- The door's own heap meets the condition. -/
theorem door_met (os : Os) (args : Array Value) : laidMetH Tryd.prog laid3 ((World.doorLaid Tryd.prog 400 os).forCall (fun _ _ => 0) ⟨#[], args, []⟩).memory :=
  laidMetH_of_parts3 (fuel := 8) (laidMet_of_run' 8 (by kernel_rfl) (by kernel_rfl)) (by kernel_rfl) (by kernel_rfl)

set_option maxRecDepth 100000 in
theorem lifted (hM : MatchSaid) (os : Os) (started : os.Started) (H : Type) (enc : TypeId × Value → H) :
    ReturnsInHanded {} Tryd.checked os 3 .any (fun w args => (Rows.matchesSpec.pre enc Tryd.prog Tryd.f3 [] false w args ∧ laidMetH Tryd.prog laid3 w) ∧ sizedMet enc Tryd.prog Tryd.f3 (OpenSpec.ofChange Rows.matchesSpec) false w args)
      (Rows.matchesSpec.post enc Tryd.prog Tryd.f3 false true false false) := by
  refine returnsInHanded_of_change_and (C := Tryd.checked) (X := fun w _ => laidMetH Tryd.prog laid3 w) (fun _ _ _ hh h => h.of_heap hh) own started (by kernel_rfl) Tryd.func3
    (ChangeSpec.witness_shaped (enc := enc) (C := Tryd.checked) (os := os) (X := fun w _ => laidMetH Tryd.prog laid3 w) false (World.doorLaid Tryd.prog 400 os) #[.string ByteArray.empty, .string ByteArray.empty] 8 rfl (World.shaped_of_RefB (by kernel_rfl) (by kernel_rfl)) (by kernel_rfl) (by kernel_rfl) (by kernel_rfl) (door_met os _)) ?_
  intro W base args ds gs before hval0 hW _ _ hL _
  have hval : ∀ (j : Nat) t v, Tryd.f3.params[j]? = some t → args[j]? = some v → Value.okWide Tryd.prog W .any base t v := hval0
  have hW' := hW
  obtain ⟨p, q, hA0, hV, rfl, hfz, hnd⟩ := hW
  have hA : DataW.TrodAll enc Tryd.prog W 0 (fun _ => true) true Tryd.f3.params.toList args.toList ds p := hA0
  rw [Tryd.params3] at hA hval
  obtain ⟨v0, vs0, d0, ds0, p0, q0, hargs, rfl, rfl, h0, r0⟩ := trodAll_cons hA
  obtain ⟨v1, vs1, d1, ds1, p1, q1, rfl, rfl, rfl, h1, r1⟩ := trodAll_cons r0
  obtain ⟨rfl, rfl, rfl⟩ := trodAll_nil r1
  obtain rfl : args = #[v0, v1] := by cases args; simp_all
  obtain ⟨rfl, rfl⟩ := trodVars_none hV
  obtain ⟨a0, rfl, rfl, rfl, w0⟩ := open_string Tryd.underlying9 (hval 0 9 v0 rfl rfl) h0
  obtain ⟨a1, rfl, rfl, rfl, w1⟩ := open_string Tryd.underlying9 (hval 1 9 v1 rfl rfl) h1
  obtain ⟨x0, x1, x2, hs⟩ := sent_of_laid hL
  clear hA0 hval0
  simp only [List.append_nil] at hW'
  refine (law_any hM a0 a1 W w0 w1 hs).mono fun e W' ⟨he, hg⟩ => ?_
  subst he
  refine ⟨_, rfl, _, _, _, [], [], [], hW', ?_, ?_, ?_, hg.frame _, fun h => by cases h⟩
  · exact trodAll_cons_mk (shut_bool Tryd.underlying4 _) trodAll_mk0
  · exact trodAll_cons_mk (shut_string Tryd.underlying9 w0) (trodAll_cons_mk (shut_string Tryd.underlying9 w1) trodAll_mk0)
  · rfl

theorem said_of (hM : MatchSaid) : Rows.MatchesSaid :=
  OpenClaim.holds_of_wide 3 Tryd.f3 rfl rfl rfl rfl rfl rfl rfl ⟨rfl, rfl, rfl, rfl, rfl⟩ rfl rfl rfl rfl rfl (by kernel_rfl) Tryd.func3 (by kernel_rfl)
    (of_decide_eq_true (by kernel_rfl)) (by unfold Func.isWrapper; first | (rw [if_pos (by decide +kernel)]; kernel_rfl) | (rw [if_neg (by decide +kernel)]; exact ⟨rfl, rfl⟩))
    (fun os started H enc _ => lifted hM os started H enc)

theorem card_of (hM : MatchSaid) : Rows.MatchesCardSaid :=
  Claim7.holds_tied_plain_at .later [] [.sentinel, .sentinel, .sentinel] true Rows.matchesCard.stood.harness true
    (said_of hM) (fun _ h => by cases h) (by kernel_rfl) (fun _ h => by cases h) matches_row_tie rfl ⟨rfl, rfl⟩ (by kernel_rfl) rfl
    (fun f fn hf hfn => by
      obtain rfl : f = 3 := Option.some.inj ((show Tryd.prog.funcNamed "lenses/lenseslaw.Matches" = some 3 by kernel_rfl).symm.trans hf) |>.symm
      obtain rfl : fn = Tryd.f3 := (Option.some.inj (Tryd.func3.symm.trans hfn)).symm
      exact ⟨by kernel_rfl, fun j t ht => by
        rw [Tryd.params3] at ht
        have hm : t ∈ [9, 9] := by simpa using Array.mem_of_getElem? ht
        have hall : ([9, 9].all fun u => !Tryd.prog.wantsStandIn u) = true := by kernel_rfl
        exact (show Tryd.prog.wantsStandIn t = false by simpa using List.all_eq_true.1 hall t hm)⟩)
    (by kernel_rfl)

end Go.Proofs.YtbdjchmnahjjlaaDoor
