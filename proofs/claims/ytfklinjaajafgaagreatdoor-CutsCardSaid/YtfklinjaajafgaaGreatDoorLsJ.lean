import Derived.Test.YtfklinjaajafgaaGreatDoorLsI
namespace Go.Proofs.YtfklinjaajafgaaGreatDoor
open Go.RowKit

set_option maxRecDepth 100000 in
set_option maxHeartbeats 2000000 in
theorem behind_rowB (a b : Ls.Pat) (wa : Ls.wf a) (wb : Ls.wf b) (ha : BehindSaid a) (hb : BehindSaid b) : BehindSaid (Ls.rowB a b) := by
  intro hs hn hm c sl w G hG hp
  rw [Ls.ks_rowB] at hs
  rw [Ls.nd_rowB] at hn
  rw [Ls.md_rowB] at hm
  obtain ⟨g, y, z, hg, rfl, hl, h1, h2⟩ := hp
  have hgl := hl.lt
  obtain ⟨c0, c1, c2, c3, c4, c5⟩ := hl.six
  clear hg
  show Calls _ _ #[.agg #[.int .i64 2, .string ⟨#[]⟩, .slice (some ⟨g, 0, Option.none⟩) 2 2], _] w _
  go_enter Tryz.func75, Tryz.ntmps75
  go_wp2_with fail
  refine (ha (by omega) (by omega) (by omega) c y _ G (Old.alloc hG _) (h1.below (below_alloc1 _ _) hG fun _ h => h)).mono ?_
  rintro e w1 ⟨v1, q1, rfl, hq1, lw1, hb1⟩
  have Hq1 : Hid (q1.map (·.1) = Ls.behind a c) := hq1
  clear hq1
  go_wp2_with fail
  have hz1 := hb1.size
  simp at hz1
  have b2 : w1.cell? ⟨w.heap.size, 2, Option.none⟩ = some (.slice (some ⟨g, 0, Option.none⟩) 2 2) := (hb1.cell (p := ⟨w.heap.size, 2, Option.none⟩) (by simp)).trans ((lies_new w (patC (Ls.rowB a b) (.slice (some ⟨g, 0, Option.none⟩) 2 2))).cell 2)
  have dd := cellg (below_alloc1 w _) hb1 hgl
  obtain ⟨ao, cap, rfl, hao⟩ := lw1.shape
  have HO1 : Hid (∀ x, x ∈ q1.map (fun q => Ls.row q.1 b) → Ok x) := fun x hx => by
    obtain ⟨q, hq, rfl⟩ := List.mem_map.1 hx
    have h3 : q.1 ∈ q1.map (·.1) := List.mem_map.2 ⟨q, hq, rfl⟩
    rw [Hq1.out] at h3
    have h4 := Ls.behind_ok a wa c _ h3
    have h5 := Ls.ks_row q.1 b
    exact ⟨Ls.wf_row h4.1 wb, by have := h4.2; unfold Ls.ks at *; omega⟩
  have hlen1 : q1.length ≤ Ls.nd a := by have := Ls.behind_length a wa c; rw [← Hq1.out] at this; simpa using this
  go_loopw [9, 11] (fun l i wr => ∃ (k : Nat) (qs : List (Ls.Pat × Value)), k ≤ q1.length ∧ i = .int .i64 k ∧ Grows G w.heap.size w1 w.heap.size (.slice Option.none 0 0) wr l qs ∧ qs.map (·.1) = Ls.putAll [] ((q1.map (fun q => Ls.row q.1 b)).take k)) (fun _ i _ => q1.length - (intOf i).toNat)
  case atStart => exact ⟨0, [], Nat.zero_le _, rfl, Grows.start (LW.nil _ _ _ _), by simp [Ls.putAll]⟩
  case round =>
    obtain ⟨k, qs, hk, rfl, gr, hqs⟩ := hrel
    have Hqs : Hid (qs.map (·.1) = Ls.putAll [] ((q1.map (fun q => Ls.row q.1 b)).take k)) := hqs
    clear hqs
    by_cases hlt : k < q1.length
    · obtain ⟨g2, rfl⟩ := hao (by omega)
      obtain ⟨e0, e1, e2⟩ := cells_at (gr.other lw1.own (.inr (by simp [Value.ownBlock]))) rfl k hlt
      have hzr := gr.grown.size
      have hrow : ∀ m, u9.ownBlock = some m → m < wr.heap.size := fun m e => (gr.lw.own.lt m e).2
      have hbr : Below w1.heap.size w1 wr := (Below.refl _ _).grown gr.grown (Nat.le_refl _) (by simp [Value.ownBlock])
      have f2 := (hbr.cell (p := ⟨w.heap.size, 2, Option.none⟩) (by show w.heap.size < _; omega)).trans b2
      have hgr : ∀ o, wr.cell? ⟨g, o, Option.none⟩ = w.cell? ⟨g, o, Option.none⟩ := fun o => (hbr.cell (p := ⟨g, o, Option.none⟩) (by show g < _; omega)).trans (dd o)
      have hg0 : g < wr.heap.size := by omega
      have f3 := (hgr 3).trans c3
      have f4 := (hgr 4).trans c4
      have f5 := (hgr 5).trans c5
      clear hgr
      have hg2 : g2 < wr.heap.size := World.block_lt_of_cell? _ _ e0
      have HX : Hid (∀ W, Below wr.heap.size wr W → PV W (GG G w.heap.size wr u9) q1[k].1 q1[k].2) := fun W hW =>
        (gr.fits (H := GG G (w.heap.size + 1) w1 (.slice (some ⟨g2, 0, Option.none⟩) q1.length cap)) (fun j hj => ⟨hj.1.imp id (by omega), hj.2.1, by simp [Value.ownBlock]⟩) (by have := lw1.each _ (List.getElem_mem hlt); simpa using this)).below hW (fun j hj => hj.2.1) (fun _ h => h)
      have HS : Hid (∀ W, Below wr.heap.size wr W → PV W (GG G w.heap.size wr u9) b z) := fun W hW =>
        (gr.fits (H := G) (fun j hj => ⟨.inl hj, by have := hG j hj; omega, by simp [Value.ownBlock]⟩) ((h2.below (below_alloc1 w _) hG fun _ h => h).below hb1 (Old.alloc hG _) fun _ h => h)).below hW (fun j hj => hj.2.1) (fun _ h => h)
      have HO : Hid (∀ W, Below wr.heap.size wr W → Old W (GG G w.heap.size wr u9)) := fun W hW j hj => Nat.lt_of_lt_of_le hj.2.1 hW.size
      have HR : Hid (∀ W, Below wr.heap.size wr W → Calls Tryz.prog 84 #[.agg #[.int .i64 q1[k].1.kind, .string ⟨q1[k].1.signs.toArray⟩, q1[k].2], .agg #[.int .i64 b.kind, .string ⟨b.signs.toArray⟩, z]] W fun e w' => ∃ y1 y2 y3, e = .returned (.agg #[.int .i64 (Ls.row q1[k].1 b).kind, .string ⟨(Ls.row q1[k].1 b).signs.toArray⟩, .slice y1 y2 y3]) ∧ PV w' (Plus (GG G w.heap.size wr u9) W w') (Ls.row q1[k].1 b) (.slice y1 y2 y3) ∧ Below W.heap.size W w') := by
        intro W hW
        refine (row_any q1[k].1 b q1[k].2 z W _ (HO.out W hW) (HX.out W hW) (HS.out W hW)).mono ?_
        rintro e w' ⟨x, rfl, hx, hb⟩
        obtain ⟨y1, y2, y3, rfl⟩ := PV.slice _ _ hx
        exact ⟨y1, y2, y3, rfl, hx, hb⟩
      have hw0 : w.heap.size < wr.heap.size := by omega
      have HSS : Hid (∀ W : World, Below wr.heap.size wr W → W.cell? ⟨g2, k * 3, Option.none⟩ = some (.int .i64 q1[k].1.kind) ∧ W.cell? ⟨g2, k * 3 + 1, Option.none⟩ = some (.string ⟨q1[k].1.signs.toArray⟩) ∧ W.cell? ⟨g2, k * 3 + 2, Option.none⟩ = some q1[k].2 ∧ W.cell? ⟨w.heap.size, 2, Option.none⟩ = some (.slice (some ⟨g, 0, Option.none⟩) 2 2) ∧ W.cell? ⟨g, 3, Option.none⟩ = some (.int .i64 b.kind) ∧ W.cell? ⟨g, 4, Option.none⟩ = some (.string ⟨b.signs.toArray⟩) ∧ W.cell? ⟨g, 5, Option.none⟩ = some z) := fun W hW =>
        ⟨(hW.cell (p := ⟨g2, _, Option.none⟩) hg2).trans e0, (hW.cell (p := ⟨g2, _, Option.none⟩) hg2).trans e1, (hW.cell (p := ⟨g2, _, Option.none⟩) hg2).trans e2, (hW.cell (p := ⟨w.heap.size, _, Option.none⟩) hw0).trans f2, (hW.cell (p := ⟨g, _, Option.none⟩) hg0).trans f3, (hW.cell (p := ⟨g, _, Option.none⟩) hg0).trans f4, (hW.cell (p := ⟨g, _, Option.none⟩) hg0).trans f5⟩
      go_upto_region 20 with fail
      go_cut [12] (fun s wx => NewR G w.heap.size wr u9 (Ls.row q1[k].1 b) s wx)
      case first =>
        go_region_held (fun w' => w'.cell? ⟨g2, k * 3, Option.none⟩ = some (.int .i64 q1[k].1.kind) ∧ w'.cell? ⟨g2, k * 3 + 1, Option.none⟩ = some (.string ⟨q1[k].1.signs.toArray⟩) ∧ w'.cell? ⟨g2, k * 3 + 2, Option.none⟩ = some q1[k].2 ∧ w'.cell? ⟨w.heap.size, 2, Option.none⟩ = some (.slice (some ⟨g, 0, Option.none⟩) 2 2) ∧ w'.cell? ⟨g, 3, Option.none⟩ = some (.int .i64 b.kind) ∧ w'.cell? ⟨g, 4, Option.none⟩ = some (.string ⟨b.signs.toArray⟩) ∧ w'.cell? ⟨g, 5, Option.none⟩ = some z) (first | assumption | exact HSS.out _ (((hbb.setCell (Nat.le_refl _) _).setCell (Nat.le_refl _) _).setCell (Nat.le_refl _) _) | exact HSS.out _ (Below.alloc hbb (by have := hbb.size; omega) _) | go_keep) ((go_at_call 84; refine (HR.out _ ?_).mono ?_; (first | exact (Below.refl _ _).drew | exact ((Below.refl _ _).alloc (Nat.le_refl _) _).drew); rintro e w3 ⟨y1, y2, y3, rfl, hpv, hb3⟩; obtain ⟨d1, d2⟩ := bcell hb3; have hz3 := hb3.size; have hbb : Below wr.heap.size wr w3 := (by first | exact Below.join (Below.refl _ _).drew hb3 | exact Below.join (below_alloc1 _ _).drew hb3); have hs3 := HSS.out w3 hbb))
        all_goals
          go_wp2_with fail
          go_meet
          case rel => first | exact newr_after (Below.refl _ _).drew hb3 hpv hrow (by omega) | exact newr_ahead hb3 hpv hrow (by omega)
      case rest =>
        obtain ⟨nb, yr, rfl, hlb, hpr, hbx⟩ := hcut
        obtain ⟨r0, r1, r2⟩ := hlb.three
        have grx := gr.below hbx
        clear gr HX HS HR HSS HO e0 e1 e2 f2 f3 f4 f5 b2 dd c0 c1 c2 c3 c4 c5
        go_wp2_with fail
        obtain ⟨hok, hln⟩ := puts_ok Hqs.out (by simp) HO1.out
        simp only [List.length_map, List.length_nil] at hln
        have hokr := HO1.out (Ls.row q1[k].1 b) (List.mem_map.2 ⟨q1[k], List.getElem_mem hlt, rfl⟩)
        refine (put_any wc w.heap.size (by have := grx.grown.size; omega) (GG G w.heap.size wc u9) u9 qs grx.lw (by omega) hok _ yr hpr hokr.1 hokr.2).mono ?_
        rintro e w3 hpost
        obtain ⟨v3, qs3, rfl, hm3, gr3⟩ := grx.put hpost
        clear hpost
        have Hm3 : Hid (qs3.map (·.1) = Ls.put (qs.map (·.1)) (Ls.row q1[k].1 b)) := hm3
        clear hm3
        go_wp2_with fail
        go_roundw
        case rel => exact ⟨k + 1, qs3, by omega, by go_num, gr3, puts_snoc Hqs.out (by simpa using hlt) (by simpa using Hm3.out)⟩
        case measure => simp [intOf]; omega
    · have hk1 : k = q1.length := by omega
      have HQ : Hid (qs.map (·.1) = Ls.putAll [] ((Ls.behind a c).map (fun x => Ls.row x b))) := by
        have hq := Hqs.out
        rw [List.take_of_length_le (by simp; omega)] at hq
        show _ = _
        rw [hq, ← Hq1.out, List.map_map]; rfl
      have hbr : Below w1.heap.size w1 wr := (Below.refl _ _).grown gr.grown (Nat.le_refl _) (by simp [Value.ownBlock])
      have hzr := hbr.size
      have hb01 := Below.join (below_alloc1 w (.cells #[.int .i64 2, .string ⟨#[]⟩, .slice (some ⟨g, 0, Option.none⟩) 2 2] 27)) hb1
      have hb0r := Below.join hb01 hbr
      have f2 := (hbr.cell (p := ⟨w.heap.size, 2, Option.none⟩) (by show w.heap.size < _; omega)).trans b2
      have hgr : ∀ o, wr.cell? ⟨g, o, Option.none⟩ = w.cell? ⟨g, o, Option.none⟩ := fun o => hb0r.cell (p := ⟨g, o, Option.none⟩) hgl
      have f0 := (hgr 0).trans c0
      have f1 := (hgr 1).trans c1
      have fy := (hgr 2).trans c2
      have f3 := (hgr 3).trans c3
      have f4 := (hgr 4).trans c4
      have f5 := (hgr 5).trans c5
      clear hgr dd b2 c0 c1 c2 c3 c4 c5
      go_wp2_with fail
      refine (empty_any a wa y _ G (hG.below hb0r) (h1.below hb0r hG fun _ h => h)).mono ?_
      rintro e w4 ⟨rfl, hb4⟩
      have gr4 := gr.below hb4
      have hz4 := hb4.size
      obtain ⟨d1, d2⟩ := bcell hb4
      have hw0 : w.heap.size < wr.heap.size := by omega
      have hg0 : g < wr.heap.size := by omega
      have hb04 := Below.join hb0r hb4
      cases hE : Ls.empty a with
      | false =>
        have HE : Hid (Ls.empty a = false) := hE
        clear hE
        go_wp2_with fail
        go_ret
        exact ⟨_, qs, rfl, by rw [Ls.behind_rowB, HE.out, HQ.out]; rfl, gr4.lw, hb04⟩
      | true =>
        have HE : Hid (Ls.empty a = true) := hE
        clear hE
        go_wp2_with fail
        refine (hb (by omega) (by omega) (by omega) c z _ G (hG.below hb04) (h2.below hb04 hG fun _ h => h)).mono ?_
        rintro e w5 ⟨v2, q2, rfl, hq2, lw2, hb5⟩
        have Hq2 : Hid (q2.map (·.1) = Ls.behind b c) := hq2
        clear hq2 d1 d2 f0 f1 fy f2 f3 f4 f5
        have hz5 := hb5.size
        have lw1' : LW G w.heap.size w5 w.heap.size u9 qs := gr4.lw.below hb5
        obtain ⟨ao2, cap2, rfl, hao2⟩ := lw2.shape
        have HP1 : Hid (∀ x, x ∈ qs.map (·.1) → Ok x) := fun x hx => by
          obtain ⟨q, hq, rfl⟩ := List.mem_map.1 hx
          exact (puts_ok Hqs.out (by simp) HO1.out).1 q hq
        have HP2 : Hid (∀ x, x ∈ q2.map (·.1) → Ok x) := fun x hx => by rw [Hq2.out] at hx; have := Ls.behind_ok b wb c x hx; exact ⟨this.1, by have := this.2; unfold Ls.ks at *; omega⟩
        have hlenq : qs.length ≤ Ls.nd a := by
          have := (puts_ok Hqs.out (by simp) HO1.out).2
          simp at this
          omega
        have hlen2 : q2.length ≤ Ls.nd b := by have := Ls.behind_length b wb c; rw [← Hq2.out] at this; simpa using this
        have hrow : ∀ m, u9.ownBlock = some m → w.heap.size ≤ m ∧ m < w4.heap.size := fun m e => gr4.lw.own.lt m e
        have HH : Hid (∀ k, GG G w4.heap.size w5 (.slice ao2 q2.length cap2) k → (G k ∨ w.heap.size ≤ k) ∧ k < w5.heap.size ∧ some k ≠ u9.ownBlock) := by
          intro k hk
          refine ⟨hk.1.imp id (by omega), hk.2.1, fun e => ?_⟩
          have h3 := hrow k e.symm
          rcases hk.1 with h | h
          · have := hG k h; omega
          · omega
        have HN : Hid ((Value.slice ao2 q2.length cap2).ownBlock = Option.none ∨ (Value.slice ao2 q2.length cap2).ownBlock ≠ u9.ownBlock) := by
          cases hv : (Value.slice ao2 q2.length cap2).ownBlock with
          | none => exact .inl rfl
          | some k =>
            refine .inr fun e => ?_
            have h3 := hrow k e.symm
            have h4 := lw2.own.lt k hv
            omega
        clear hrow gr gr4 Hqs HO1
        go_wp2_with fail
        go_loopw [9, 15] (fun l i wx => ∃ (k : Nat) (qx : List (Ls.Pat × Value)), k ≤ q2.length ∧ i = .int .i64 k ∧ Grows G w.heap.size w5 w.heap.size u9 wx l qx ∧ qx.map (·.1) = Ls.putAll (qs.map (·.1)) ((q2.map (·.1)).take k)) (fun _ i _ => q2.length - (intOf i).toNat)
        case atStart => exact ⟨0, qs, Nat.zero_le _, rfl, Grows.start lw1', by simp [Ls.putAll]⟩
        case round =>
          obtain ⟨k2, qx, hk2, rfl, gx, hqx⟩ := hrel
          have Hqx : Hid (qx.map (·.1) = Ls.putAll (qs.map (·.1)) ((q2.map (·.1)).take k2)) := hqx
          clear hqx
          by_cases hlt2 : k2 < q2.length
          · obtain ⟨g2, rfl⟩ := hao2 (by omega)
            obtain ⟨e0, e1, e2⟩ := cells_at (gx.other lw2.own HN.out) rfl k2 hlt2
            go_wp2_with fail
            obtain ⟨hok, hln⟩ := puts_ok Hqx.out HP1.out HP2.out
            simp only [List.length_map] at hln
            have hok2 := HP2.out q2[k2].1 (List.mem_map.2 ⟨q2[k2], List.getElem_mem hlt2, rfl⟩)
            refine (put_any wr w.heap.size (by have := gx.grown.size; omega) (GG G w.heap.size wr u9) u9 qx gx.lw (by omega) hok q2[k2].1 q2[k2].2 (gx.fits HH.out (lw2.each _ (List.getElem_mem hlt2))) hok2.1 hok2.2).mono ?_
            rintro e w6 hpost
            obtain ⟨v6, qs6, rfl, hm6, gr6⟩ := gx.put hpost
            clear hpost
            have Hm6 : Hid (qs6.map (·.1) = Ls.put (qx.map (·.1)) q2[k2].1) := hm6
            clear hm6
            go_wp2_with fail
            go_roundw
            case rel => exact ⟨k2 + 1, qs6, by omega, by go_num, gr6, puts_snoc Hqx.out (by simpa using hlt2) (by simpa using Hm6.out)⟩
            case measure => simp [intOf]; omega
          · go_wp2_with fail
            go_ret
            have hq := Hqx.out
            rw [List.take_of_length_le (by simp; omega), HQ.out, Hq2.out] at hq
            refine ⟨_, qx, rfl, by rw [Ls.behind_rowB, HE.out, if_pos rfl, hq], gx.lw, ?_⟩
            exact (Below.join hb04 hb5).grown gx.grown (by omega) fun j e => (lw1'.own.lt j e).1

theorem behind_any (p : Ls.Pat) (h : Ls.wf p) : BehindSaid p :=
  Ls.ind behind_none (fun s _ => behind_set s) (fun a b wa wb _ _ => behind_rowB a b wa wb) (fun a b wa wb => behind_or a b wa wb) (fun a wa => behind_star a wa) p h

end Go.Proofs.YtfklinjaajafgaaGreatDoor
