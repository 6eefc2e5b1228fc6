import Derived.Test.YtfklinjaajafgaaGreatDoorSrch
/- meet. -/
namespace Go.Proofs.YtfklinjaajafgaaGreatDoor
open Go.RowKit Go.Maps

theorem infoState : (Tryz.prog.info? 112).map (fun i => (i.zero, i.size, i.bytes)) = some (some (.agg #[.int .i64 0, .int .i64 0, .int .i64 0]), 3, 24) := by kernel_rfl

theorem look_st {w : World} {mb n : Nat} {D : DataW Unit} (h : w.ownsMap Tryz.prog 112 unitElem mb n D) {s : Ls.Pr} {l : Lit} (hl : keyOf Tryz.prog 112 (stV s) = some l) :
    (Instr.lookup 113 (.map (some mb)) (stV s) true).run Tryz.prog w = .ok (.tuple #[.agg #[], .bool (Maps.has D l)]) w := by
  obtain ⟨v, ps, h1, h2⟩ := h.look_ok lawState Tryz.underlying113 (zeroU w) unitElem_mk hl
  obtain ⟨rfl, _⟩ := unitElem_inv h2
  exact h1

/-- What meet, read answer: some more were met. -/
def MetPost (w : World) (B sb mb : Nat) (V : Value) (M O : List Ls.Pr) (S : Ls.Pr → Prop) : Ending → World → Prop := fun e w' =>
  e = .returned (.tuple #[]) ∧ ∃ V' T, Srch w' B sb mb V' (M ++ T) (O ++ T) ∧ (∀ t, t ∈ T → S t) ∧ (∀ t, S t → t ∈ M ++ T) ∧ SStep w sb mb V w' V'

theorem Srch.drew {w : World} {B sb mb : Nat} {V : Value} {M O : List Ls.Pr} (h : Srch w B sb mb V M O) : Srch w.drew B sb mb V M O := h.same rfl rfl (fun _ _ => rfl)

/-- How the search stands as meet goes on, s in a box. -/
structure Box (w W : World) (B sb mb : Nat) (V : Value) (M O : List Ls.Pr) (a : Nat) (i1 i2 : Int) : Prop where
  srch : Srch W B sb mb V M O
  below : Below w.heap.size w W
  box : W.heap[w.heap.size]? = some (.cells #[.int .i64 a, .int .i64 i1, .int .i64 i2] 112 (0, 0))
  lt : sb < w.heap.size
  ltm : mb < w.heap.size

theorem Box.start {w : World} {B sb mb : Nat} {V : Value} {M O : List Ls.Pr} (h : Srch w B sb mb V M O) (a : Nat) (i1 i2 : Int) : Box w (w.alloc (.cells #[.int .i64 a, .int .i64 i1, .int .i64 i2] 112)) B sb mb V M O a i1 i2 :=
  ⟨h.below (below_alloc1 _ _), below_alloc1 _ _, heap_alloc_new _ _, h.lt, h.ltm⟩

theorem Box.cells {w W : World} {B sb mb : Nat} {V : Value} {M O : List Ls.Pr} {a : Nat} {i1 i2 : Int} (h : Box w W B sb mb V M O a i1 i2) :
    W.cell? ⟨sb, 0, none⟩ = some (.map (some mb)) ∧ W.cell? ⟨sb, 1, none⟩ = some V ∧ W.cell? ⟨w.heap.size, 0, none⟩ = some (.int .i64 a) ∧ W.cell? ⟨w.heap.size, 1, none⟩ = some (.int .i64 i1) ∧ W.cell? ⟨w.heap.size, 2, none⟩ = some (.int .i64 i2) := by
  have h1 := h.box
  have h2 := h.srch.lies
  refine ⟨?_, ?_, ?_, ?_, ?_⟩
  · simp [World.cell?, h2]
  · simp [World.cell?, h2]
  · simp [World.cell?, h1]
  · simp [World.cell?, h1]
  · simp [World.cell?, h1]

set_option maxRecDepth 100000 in
set_option maxHeartbeats 2000000 in
theorem meet_old (w : World) (B sb mb : Nat) (V : Value) (M O : List Ls.Pr) (h : Srch w B sb mb V M O) (s : Ls.Pr) (hs : Rg s) (hm : s ∈ M) :
    Calls Tryz.prog 66 #[.pointer (some ⟨sb, 0, none⟩), stV s] w (MetPost w B sb mb V M O (fun t => t = s)) := by
  obtain ⟨l, hl⟩ := key_st hs
  have hX := Box.start h s.1 ((s.2.1 : Int) - 1) ((s.2.2 : Int) - 1)
  obtain ⟨D, hD, hM⟩ := hX.srch.map
  have hh : Maps.has D l = true := (hM s l hs hl).2 hm
  have hk0 := look_st hD.drew hl
  have hk1 := look_st (hD.alloc (.cells #[] 159)).drew hl
  rw [hh] at hk0 hk1
  have Hm : Hid (s ∈ M) := hm
  clear hM hl hD hh h hs hm
  unfold stV at *
  generalize s.1 = a at *
  generalize ((s.2.1 : Int) - 1) = i1 at *
  generalize ((s.2.2 : Int) - 1) = i2 at *
  go_enter Tryz.func66, Tryz.ntmps66
  go_upto_region 1 with (fail)
  generalize (w.alloc (.cells #[.int .i64 (a : Int), .int .i64 i1, .int .i64 i2] 112)) = W at *
  obtain ⟨c0, _, k0, k1, k2⟩ := hX.cells
  have hz1 := (Array.getElem?_eq_some_iff.1 hX.box).1
  have hz2 := hX.srch.lt
  have HX : Hid _ := hX
  clear hX
  go_wp2_with fail
  go_region
  all_goals
    go_wp2_with fail
    go_end0
    refine ⟨rfl, V, [], ?_, by simp, fun t ht => by subst ht; simpa using Hm.out, ?_⟩
    · simpa using (HX.out.srch.below (below_alloc1 W (.cells #[] 159))).drew
    · exact SStep.of_below _ _ _ (HX.out.below.alloc HX.out.below.size _).drew

theorem Box.next {w W : World} {B sb mb : Nat} {V : Value} {M O : List Ls.Pr} {a : Nat} {i1 i2 : Int} (h : Box w W B sb mb V M O a i1 i2) (o : Obj) : Box w (W.alloc o).drew B sb mb V M O a i1 i2 :=
  ⟨(h.srch.below (below_alloc1 _ _)).drew, (Below.trans h.below ((below_alloc1 W o).mono h.below.size)).drew, (Below.heap_alloc _ _ _ (Array.getElem?_eq_some_iff.1 h.box).1).trans h.box, h.lt, h.ltm⟩

/-- The map was written. -/
structure Put (w W W3 : World) (B sb mb : Nat) (V : Value) (a : Nat) (i1 i2 : Int) : Prop where
  grown : W.grownBy W3 (some mb)
  c1 : W3.cell? ⟨sb, 1, none⟩ = some V
  f1 : W3.frozen? ⟨sb, 1, none⟩ = false
  k0 : W3.cell? ⟨w.heap.size, 0, none⟩ = some (.int .i64 a)
  k1 : W3.cell? ⟨w.heap.size, 1, none⟩ = some (.int .i64 i1)
  k2 : W3.cell? ⟨w.heap.size, 2, none⟩ = some (.int .i64 i2)
  z1 : w.heap.size < W3.heap.size
  z2 : sb < W3.heap.size

theorem Box.put {w W W3 : World} {B sb mb : Nat} {V : Value} {M O : List Ls.Pr} {a : Nat} {i1 i2 : Int} (h : Box w W B sb mb V M O a i1 i2) (hg : W.grownBy W3 (some mb)) : Put w W W3 B sb mb V a i1 i2 := by
  have h1 := hg.block _ (Array.getElem?_eq_some_iff.1 h.box).1 (by have := h.ltm; simp; omega)
  rw [h.box] at h1
  have h2 := hg.block sb h.srch.lt (by have := h.srch.apM; simp [this])
  rw [h.srch.lies] at h2
  refine ⟨hg, ?_, ?_, ?_, ?_, ?_, (Array.getElem?_eq_some_iff.1 h1).1, (Array.getElem?_eq_some_iff.1 h2).1⟩
  · simp [World.cell?, h2]
  · simp [World.frozen?, h2]
  · simp [World.cell?, h1]
  · simp [World.cell?, h1]
  · simp [World.cell?, h1]

set_option maxRecDepth 100000 in
set_option maxHeartbeats 2000000 in
theorem meet_new (w : World) (B sb mb : Nat) (V : Value) (M O : List Ls.Pr) (h : Srch w B sb mb V M O) (hB : B ≤ w.heap.size) (s : Ls.Pr) (hs : Rg s) (hm : s ∉ M) :
    Calls Tryz.prog 66 #[.pointer (some ⟨sb, 0, none⟩), stV s] w (MetPost w B sb mb V M O (fun t => t = s)) := by
  obtain ⟨l, hl⟩ := key_st hs
  have hX := Box.start h s.1 ((s.2.1 : Int) - 1) ((s.2.2 : Int) - 1)
  obtain ⟨D, hD, hM⟩ := hX.srch.map
  have hh : Maps.has D l = false := by
    cases hh : Maps.has D l with
    | false => rfl
    | true => exact absurd ((hM s l hs hl).1 hh) hm
  have hk0 := look_st hD.drew hl
  have hk1 := look_st (hD.alloc (.cells #[] 159)).drew hl
  rw [hh] at hk0 hk1
  have hfew := h.few
  have hle := h.le
  have hst := fun (W : World) (hW : W.ownsMap Tryz.prog 112 unitElem mb M.length D) => hW.store lawState Tryz.underlying113 (by unfold maxLen; omega) hl unitElem_mk
  have HST : Hid _ := hst
  have HD : Hid ((((w.alloc (.cells #[.int .i64 (s.1 : Nat), .int .i64 ((s.2.1 : Int) - 1), .int .i64 ((s.2.2 : Int) - 1)] 112)).alloc (.cells #[] 159)).drew).ownsMap Tryz.prog 112 unitElem mb M.length D) := (hD.alloc (.cells #[] 159)).drew
  obtain ⟨va, vc, rfl⟩ := h.shape
  have HF : Hid (∀ w w1 w2 V V' d (_ : Srch w B sb mb V M O) (_ : w1.ownsMap Tryz.prog 112 unitElem mb (M.length + 1) (D.put l d)) (_ : w.grownBy w1 (some mb)) o (_ : w2.ownsRow B 112 3 V' (O.length + 1) (O.flatMap stC ++ stC s)) (_ : (w1.alloc o).grownBy w2 V.ownBlock) (_ : V'.ownBlock = V.ownBlock ∨ ∃ k, V'.ownBlock = some k ∧ w1.heap.size + 1 ≤ k), Srch (w2.setCell ⟨sb, 1, none⟩ V') B sb mb V' (M ++ [s]) (O ++ [s])) :=
    fun w w1 w2 V V' d h h1 hg1 o h2 hg2 hV => h.met hs hm hl hD.isMap hM h1 hg1 o h2 hg2 hV
  clear hM hl hD hh h hs hm hst
  unfold stV stC at *
  generalize hx0 : s.1 = a at *
  generalize hx1 : ((s.2.1 : Int) - 1) = i1 at *
  generalize hx2 : ((s.2.2 : Int) - 1) = i2 at *
  clear hx0 hx1 hx2
  go_enter Tryz.func66, Tryz.ntmps66
  go_upto_region 1 with (fail)
  generalize (w.alloc (.cells #[.int .i64 (a : Int), .int .i64 i1, .int .i64 i2] 112)) = W at *
  obtain ⟨c0, _, k0, k1, k2⟩ := hX.cells
  have hz1 := (Array.getElem?_eq_some_iff.1 hX.box).1
  have hz2 := hX.srch.lt
  have HX : Hid _ := hX.next (.cells #[] 159)
  clear hX
  go_wp2_with fail
  go_region
  all_goals
    clear hk0 hk1 c0 k0 k1 k2 hz1 hz2
    go_wp2_with fail
    have hX2 := HX.out
    have hD2 := HD.out
    clear HX HD
    generalize (W.alloc (Obj.cells #[] 159)).drew = W2 at *
    obtain ⟨W3, hrun, hD3, hturn⟩ := HST.out W2.drew hD2.drew
    obtain ⟨c0, c1, k0, k1, k2⟩ := hX2.cells
    have hgr : W2.grownBy W3 (some mb) := by have g := hturn.grown; exact ⟨g.os, g.tape, g.output, g.size, g.block⟩
    have hP := hX2.put hgr
    have HP : Hid _ := hP
    have HX : Hid _ := hX2
    have HD : Hid (W3.ownsMap Tryz.prog 112 unitElem mb (M.length + 1) (D.put l (DataW.agg []))) := hD3
    clear hP hX2 hD2 hD3 hturn hgr
    go_region
    all_goals
      clear c0 c1 k0 k1 k2 hrun
      go_wp2_with fail
      obtain ⟨_, c1, f1, k0, k1, k2, z1, z2⟩ := HP.out
      obtain ⟨i0, hi0, hz1, hz2, hz3⟩ := info_parts infoState
      have hR : W3.ownsRow B 112 3 (.slice va O.length vc) O.length (O.flatMap stC) := HX.out.srch.row.kept HP.out.grown (.inr HX.out.srch.apVM)
      have hap := HX.out.srch.apV
      have hBz : B ≤ W3.heap.size := Nat.le_trans hB (Nat.le_of_lt z1)
      go_region_law
        ((refine step_append_lies _ (by rfl) _ _ _ (by rfl) B 112 i0 _ 3 24 Tryz.underlying114 hi0 hz1 hz2 hz3 rfl (by omega) (.slice va O.length vc) O.length _ (by rfl) (hR.alloc _)
            ⟨W3.heap.size, 0, none⟩ 1 1 [.int .i64 a, .int .i64 i1, .int .i64 i2] (by rfl) (by rfl) (World.news_of_block (cs := #[.int .i64 a, .int .i64 i1, .int .i64 i2]) (t := 112) (fr := (0, 0)) (heap_alloc_new W3 _)) (by simp [Value.oneCell'])
            (by omega) (by unfold maxLen; omega) (by omega) (by simp; omega) (W3.heap.size + 1) (by simp) ?_; intro gg cap w1 hown1 hgrow hat hlt; have hfz : w1.frozen? ⟨sb, 1, none⟩ = false := (hgrow.frozen_far ⟨sb, 1, none⟩ (by simp; omega) (Ne.symm hap)).trans (((below_alloc1 W3 _).frozen (p := ⟨sb, 1, none⟩) z2).trans f1); have hcz : w1.cell? ⟨sb, 1, none⟩ = some (.slice va O.length vc) := (hgrow.cell_far ⟨sb, 1, none⟩ (by simp; omega) (Ne.symm hap)).trans (((below_alloc1 W3 _).cell (p := ⟨sb, 1, none⟩) z2).trans c1)))
      all_goals
        go_wp2_with fail
        go_end0
        have hgrow2 : (W3.alloc (.cells #[.int .i64 a, .int .i64 i1, .int .i64 i2] 112)).grownBy w1 (Value.slice va O.length vc).ownBlock := ⟨hgrow.os, hgrow.tape, hgrow.output, hgrow.size, hgrow.block⟩
        refine ⟨rfl, .slice (some ⟨gg, 0, none⟩) (O.length + 1) cap, [s], HF.out W2 W3 w1 _ _ _ HX.out.srch HD.out HP.out.grown _ hown1 hgrow2 ?_, by simp, by simp, ?_⟩
        · rcases hat with e | e
          · exact .inl (by rw [e]; rfl)
          · exact .inr ⟨gg, rfl, by omega⟩
        · have g1 := HP.out.grown
          have b1 := HX.out.below
          have hs3 := g1.size
          have hs2 := hgrow2.size
          simp at hs2
          refine ⟨hgrow2.os.trans (g1.os.trans b1.os), hgrow2.tape.trans (g1.tape.trans b1.tape), hgrow2.output.trans (g1.output.trans b1.output), by simp [World.setCell]; omega, fun k hk => ?_, ?_⟩
          · have hz := b1.size
            have hk0 := hk.1
            rw [Below.heap_setCell _ _ _ _ hk.2.1, hgrow2.block k (by simp; omega) hk.2.2.2, Below.heap_alloc _ _ _ (by omega), g1.block k (by omega) (by simp [hk.2.2.1]), b1.block k hk.1]
          · rcases hat with e | e
            · exact .inl (by rw [e]; rfl)
            · exact .inr ⟨gg, rfl, by omega⟩

theorem meet_any (w : World) (B sb mb : Nat) (V : Value) (M O : List Ls.Pr) (h : Srch w B sb mb V M O) (hB : B ≤ w.heap.size) (s : Ls.Pr) (hs : Rg s) :
    Calls Tryz.prog 66 #[.pointer (some ⟨sb, 0, none⟩), stV s] w (MetPost w B sb mb V M O (fun t => t = s)) := by
  by_cases hm : s ∈ M
  · exact meet_old w B sb mb V M O h s hs hm
  · exact meet_new w B sb mb V M O h hB s hs hm

end Go.Proofs.YtfklinjaajafgaaGreatDoor

/- newSearch, and next of the search. -/
namespace Go.Proofs.YtfklinjaajafgaaGreatDoor
open Go.RowKit Go.Maps

/-- A search of which nothing is known yet. -/
theorem srch_new (w : World) (o : Obj) : Srch (((w.alloc o).alloc (.map #[] 0)).alloc (.cells #[.map (some (w.heap.size + 1)), .slice none 0 0] 116)) w.heap.size (w.heap.size + 1 + 1) (w.heap.size + 1) (.slice none 0 0) [] [] := by
  have h1 : ((w.alloc o).alloc (.map #[] 0)).ownsMap Tryz.prog 112 (unitElem (H := Unit)) (w.heap.size + 1) 0 (.map []) := by
    have := World.ownsMap_made (H := Unit) (w.alloc o) Tryz.prog 112 unitElem
    simpa using this
  have h2 := heap_alloc_new ((w.alloc o).alloc (.map #[] 0)) (.cells #[.map (some (w.heap.size + 1)), .slice none 0 0] 116)
  refine ⟨by simpa using h2, ⟨.map [], h1.alloc _, ?_⟩, World.ownsRow_nil _ _ _ _, by omega, by omega, by omega, ?_, ?_, by simp, by simp, by simp, by simp⟩
  · intro s l _ _
    simp [Maps.has]
  · simp [Value.ownBlock]
  · simp [Value.ownBlock]

theorem all_one {T : List Ls.Pr} {s : Ls.Pr} (h1 : T.Nodup) (h2 : ∀ t, t ∈ T → t = s) (h3 : s ∈ T) : T = [s] := by
  match T, h1, h2, h3 with
  | [], _, _, h3 => simp at h3
  | [a], _, h2, _ => rw [h2 a (by simp)]
  | a :: b :: r, h1, h2, _ =>
    have e1 := h2 a (by simp)
    have e2 := h2 b (by simp)
    subst e1
    simp [e2] at h1

set_option maxRecDepth 100000 in
set_option maxHeartbeats 2000000 in
theorem newSearch_any (w : World) (s : Ls.Pr) (hs : Rg s) :
    Calls Tryz.prog 62 #[stV s] w fun e w' => ∃ sb mb V, e = .returned (.pointer (some ⟨sb, 0, none⟩)) ∧ Srch w' w.heap.size sb mb V [s] [s] ∧ Below w.heap.size w w' := by
  have hmm := @run_makeMap Tryz.prog
  have hS := srch_new w (.cells #[.int .i64 (s.1 : Nat), .int .i64 ((s.2.1 : Int) - 1), .int .i64 ((s.2.2 : Int) - 1)] 112)
  have hC := meet_any _ _ _ _ _ _ _ hS (by simp; omega) s hs
  have hb0 := below_alloc2 w (.cells #[.int .i64 (s.1 : Nat), .int .i64 ((s.2.1 : Int) - 1), .int .i64 ((s.2.2 : Int) - 1)] 112) (.map #[] 0)
  have hb1 := hb0.alloc hb0.size (.cells #[.map (some (w.heap.size + 1)), .slice none 0 0] 116)
  have HS0 : Hid _ := hS
  clear hS hb0
  unfold stV at *
  go_enter Tryz.func62, Tryz.ntmps62
  go_wp2_with fail
  refine hC.mono ?_
  rintro e w' ⟨rfl, V', T, hS, h1, h2, hb2⟩
  obtain rfl : T = [s] := all_one (by have := hS.nodup; simpa using this) h1 (by have := h2 s rfl; simpa using this)
  clear h1 h2
  go_wp2_with fail
  go_ret
  exact ⟨_, _, _, rfl, by simpa using hS, Below.trans hb1 (hb2.below HS0.out (by simp; omega))⟩

theorem below_box (w : World) (o : Obj) (B : Nat) (hB : B ≤ w.heap.size) : Below B w (w.alloc o) := (Below.refl _ _).alloc hB _

set_option maxRecDepth 100000 in
set_option maxHeartbeats 2000000 in
theorem snext_any (w : World) (B sb mb : Nat) (V : Value) (M O : List Ls.Pr) (x : Ls.Pr) (h : Srch w B sb mb V M (O ++ [x])) :
    Calls Tryz.prog 63 #[.pointer (some ⟨sb, 0, none⟩)] w fun e w' => e = .returned (stV x) ∧ ∃ V', Srch w' B sb mb V' M O ∧ SStep w sb mb V w' V' := by
  have hlt := h.lt
  have hfew := h.few
  have hle := h.le
  simp only [List.length_append, List.length_singleton] at hle
  obtain ⟨g, cap, hV, hcap, hc, hgs, hgw, hS⟩ := h.pop
  subst hV
  have hbs := h.bs
  have hli := h.lies
  have c1 : w.cell? ⟨sb, 1, none⟩ = some (.slice (some ⟨g, 0, none⟩) (O.length + 1) cap) := by simp [World.cell?, hli]
  have f1 : w.frozen? ⟨sb, 1, none⟩ = false := by simp [World.frozen?, hli]
  have r0 : w.cell? ⟨g, O.length * 3, none⟩ = some (.int .i64 (x.1 : Nat)) := hc 0 (by omega)
  have r1 : w.cell? ⟨g, O.length * 3 + 1, none⟩ = some (.int .i64 ((x.2.1 : Int) - 1)) := hc 1 (by omega)
  have r2 : w.cell? ⟨g, O.length * 3 + 2, none⟩ = some (.int .i64 ((x.2.2 : Int) - 1)) := hc 2 (by omega)
  have HS : Hid _ := hS
  clear hS h hli hc
  unfold stV
  have hn1 : (((O.length + 1 : Nat) : Int) - 1) = (O.length : Int) := by omega
  go_enter Tryz.func63, Tryz.ntmps63
  go_wp2_with fail
  refine bodyPost_ret (v := stV x) (by simp [results, Tryz.results63, go_sem]) rfl ⟨rfl, _, HS.out.below (below_alloc2 _ _ _), ?_⟩
  refine SStep.trans (w1 := w.setCell ⟨sb, 1, none⟩ (.slice (some ⟨g, 0, none⟩) O.length cap)) (V1 := .slice (some ⟨g, 0, none⟩) O.length cap) ?_ (SStep.of_below _ _ _ (below_alloc2 _ _ _))
  exact ⟨rfl, rfl, rfl, by simp [World.setCell], fun k hk => Below.heap_setCell _ _ _ _ hk.2.1, .inl rfl⟩

end Go.Proofs.YtfklinjaajafgaaGreatDoor
