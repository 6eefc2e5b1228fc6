import Derived.Test.YtfklinjaajafgaaGreatDoorLsH
import Derived.Deep.RegionHeld
import Derived.Deep.DeepCutAuto
namespace Go.Proofs.YtfklinjaajafgaaGreatDoor
open Go.RowKit

/-- A new variable s holds p. -/
def NewR (G : Nat → Prop) (B0 : Nat) (wr : World) (u : Value) (p : Ls.Pat) (s : Value) (wx : World) : Prop :=
  ∃ b yr, s = .pointer (some ⟨b, 0, Option.none⟩) ∧ Lies wx b (patC p yr) ∧ PV wx (GG G B0 wx u) p yr ∧ Below wr.heap.size wr wx

theorem gg_plus {G : Nat → Prop} {B0 : Nat} {wr W w3 wx : World} {u : Value} (hW : Below wr.heap.size wr W) (hb3 : Below W.heap.size W w3) (hrow : ∀ m, u.ownBlock = some m → m < wr.heap.size) (hB : B0 ≤ wr.heap.size) (hx : w3.heap.size ≤ wx.heap.size) :
    ∀ k, Plus (GG G B0 wr u) W w3 k → GG G B0 wx u k := by
  intro k hk
  have h1 := hW.size
  have h2 := hb3.size
  rcases hk with ⟨h3, h4, h5⟩ | ⟨h3, h4⟩
  · exact ⟨h3, by omega, h5⟩
  · refine ⟨.inr (by omega), by omega, fun e => ?_⟩
    have := hrow k e.symm
    omega

theorem newr_after {G : Nat → Prop} {B0 : Nat} {wr W w3 : World} {u : Value} {p : Ls.Pat} {yr : Value} (hW : Below wr.heap.size wr W) (hb3 : Below W.heap.size W w3) (hpv : PV w3 (Plus (GG G B0 wr u) W w3) p yr) (hrow : ∀ m, u.ownBlock = some m → m < wr.heap.size) (hB : B0 ≤ wr.heap.size) :
    NewR G B0 wr u p (.pointer (some ⟨w3.heap.size, 0, Option.none⟩)) (w3.alloc (.cells #[.int .i64 p.kind, .string ⟨p.signs.toArray⟩, yr] 27)) := by
  have h1 := hW.size
  have h2 := hb3.size
  refine ⟨_, yr, rfl, lies_new w3 (patC p yr), PV.mono (gg_plus hW hb3 hrow hB (by simp)) (fun k hk => ?_) _ _ hpv, Below.join (Below.join hW hb3) (below_alloc1 _ _)⟩
  have : k < w3.heap.size := by
    rcases hk with hk | hk
    · have := hk.2.1; omega
    · exact hk.2
  exact Below.heap_alloc _ _ _ this

theorem lies_set3 {w : World} {g : Nat} {a b c : Value} (h : Lies w g [a, b, c]) (x y z : Value) : Lies (((w.setCell ⟨g, 0, Option.none⟩ x).setCell ⟨g, 1, Option.none⟩ y).setCell ⟨g, 2, Option.none⟩ z) g [x, y, z] := by
  unfold Lies at h ⊢
  simp [World.setCell, Array.getElem?_modify, h]

theorem set3_other (w : World) (g : Nat) (x y z : Value) (k : Nat) (hk : k ≠ g) : (((w.setCell ⟨g, 0, Option.none⟩ x).setCell ⟨g, 1, Option.none⟩ y).setCell ⟨g, 2, Option.none⟩ z).heap[k]? = w.heap[k]? := by
  rw [Below.heap_setCell _ _ _ _ hk, Below.heap_setCell _ _ _ _ hk, Below.heap_setCell _ _ _ _ hk]

theorem newr_ahead {G : Nat → Prop} {B0 : Nat} {wr w3 : World} {u : Value} {p : Ls.Pat} {yr a b c : Value} (hb3 : Below (wr.alloc (.cells #[a, b, c] 27)).heap.size (wr.alloc (.cells #[a, b, c] 27)).drew w3) (hpv : PV w3 (Plus (GG G B0 wr u) (wr.alloc (.cells #[a, b, c] 27)).drew w3) p yr) (hrow : ∀ m, u.ownBlock = some m → m < wr.heap.size) (hB : B0 ≤ wr.heap.size) :
    NewR G B0 wr u p (.pointer (some ⟨wr.heap.size, 0, Option.none⟩)) (((w3.setCell ⟨wr.heap.size, 0, Option.none⟩ (.int .i64 p.kind)).setCell ⟨wr.heap.size, 1, Option.none⟩ (.string ⟨p.signs.toArray⟩)).setCell ⟨wr.heap.size, 2, Option.none⟩ yr) := by
  have hW : Below wr.heap.size wr (wr.alloc (.cells #[a, b, c] 27)).drew := (below_alloc1 _ _).drew
  have hl : Lies w3 wr.heap.size [a, b, c] := by
    have h0 := lies_new wr [a, b, c]
    unfold Lies at h0 ⊢
    rw [hb3.block wr.heap.size (by simp)]
    exact h0
  have hbb := Below.join hW hb3
  refine ⟨_, yr, rfl, lies_set3 hl _ _ _, PV.mono (gg_plus hW hb3 hrow hB (by simp [World.setCell])) (fun k hk => ?_) _ _ hpv, ((hbb.setCell (Nat.le_refl _) _).setCell (Nat.le_refl _) _).setCell (Nat.le_refl _) _⟩
  refine set3_other _ _ _ _ _ _ ?_
  rcases hk with hk | hk
  · have := hk.2.1; omega
  · have := hk.1; simp at this; omega

set_option maxRecDepth 100000 in
set_option maxHeartbeats 1000000 in
theorem behind_star (a : Ls.Pat) (wa : Ls.wf a) (ha : BehindSaid a) : BehindSaid (Ls.star a) := by
  intro hs hn hm c sl w G hG hp
  have hp0 := hp
  rw [Ls.ks_star] at hs
  rw [Ls.nd_star] at hn
  rw [Ls.md_star] at hm
  obtain ⟨g, y, hg, rfl, hl, h1⟩ := hp
  have hgl := hl.lt
  obtain ⟨c0, c1, c2⟩ := hl.three
  clear hg
  show Calls _ _ #[.agg #[.int .i64 4, .string ⟨#[]⟩, .slice (some ⟨g, 0, Option.none⟩) 1 1], _] w _
  go_enter Tryz.func75, Tryz.ntmps75
  go_wp2_with fail
  refine (ha (by omega) (by omega) (by omega) c y _ G (Old.alloc hG _) (h1.below (below_alloc1 _ _) hG fun _ h => h)).mono ?_
  rintro e w1 ⟨v1, q1, rfl, hq1, lw1, hb1⟩
  have Hq1 : Hid (q1.map (·.1) = Ls.behind a c) := hq1
  clear hq1
  go_wp2_with fail
  have hz1 := hb1.size
  simp at hz1
  have b0 : w1.cell? ⟨w.heap.size, 0, Option.none⟩ = some (.int .i64 4) := (hb1.cell (p := ⟨w.heap.size, 0, Option.none⟩) (by simp)).trans ((lies_new w (patC (Ls.star a) (.slice (some ⟨g, 0, Option.none⟩) 1 1))).cell 0)
  have b1 : w1.cell? ⟨w.heap.size, 1, Option.none⟩ = some (.string ⟨#[]⟩) := (hb1.cell (p := ⟨w.heap.size, 1, Option.none⟩) (by simp)).trans ((lies_new w (patC (Ls.star a) (.slice (some ⟨g, 0, Option.none⟩) 1 1))).cell 1)
  have b2 : w1.cell? ⟨w.heap.size, 2, Option.none⟩ = some (.slice (some ⟨g, 0, Option.none⟩) 1 1) := (hb1.cell (p := ⟨w.heap.size, 2, Option.none⟩) (by simp)).trans ((lies_new w (patC (Ls.star a) (.slice (some ⟨g, 0, Option.none⟩) 1 1))).cell 2)
  obtain ⟨ao, cap, rfl, hao⟩ := lw1.shape
  have HO1 : Hid (∀ x, x ∈ q1.map (fun q => Ls.row q.1 (Ls.star a)) → Ok x) := fun x hx => by
    obtain ⟨q, hq, rfl⟩ := List.mem_map.1 hx
    have h3 : q.1 ∈ q1.map (·.1) := List.mem_map.2 ⟨q, hq, rfl⟩
    rw [Hq1.out] at h3
    have h4 := Ls.behind_ok a wa c _ h3
    have h5 := Ls.ks_row q.1 (Ls.star a)
    rw [Ls.ks_star] at h5
    exact ⟨Ls.wf_row h4.1 (Ls.wf_star wa), by have := h4.2; unfold Ls.ks at *; omega⟩
  have hlen1 : q1.length ≤ Ls.nd a := by have := Ls.behind_length a wa c; rw [← Hq1.out] at this; simpa using this
  go_loopw [16, 18] (fun l i wr => ∃ (k : Nat) (qs : List (Ls.Pat × Value)), k ≤ q1.length ∧ i = .int .i64 k ∧ Grows G w.heap.size w1 w.heap.size (.slice Option.none 0 0) wr l qs ∧ qs.map (·.1) = Ls.putAll [] ((q1.map (fun q => Ls.row q.1 (Ls.star a))).take k)) (fun _ i _ => q1.length - (intOf i).toNat)
  case atStart => exact ⟨0, [], Nat.zero_le _, rfl, Grows.start (LW.nil _ _ _ _), by simp [Ls.putAll]⟩
  case round =>
    obtain ⟨k, qs, hk, rfl, gr, hqs⟩ := hrel
    have Hqs : Hid (qs.map (·.1) = Ls.putAll [] ((q1.map (fun q => Ls.row q.1 (Ls.star a))).take k)) := hqs
    clear hqs
    by_cases hlt : k < q1.length
    · obtain ⟨g2, rfl⟩ := hao (by omega)
      obtain ⟨e0, e1, e2⟩ := cells_at (gr.other lw1.own (.inr (by simp [Value.ownBlock]))) rfl k hlt
      have hzr := gr.grown.size
      have hrow : ∀ m, u16.ownBlock = some m → m < wr.heap.size := fun m e => (gr.lw.own.lt m e).2
      have hbr : Below w1.heap.size w1 wr := (Below.refl _ _).grown gr.grown (Nat.le_refl _) (by simp [Value.ownBlock])
      have f0 := (hbr.cell (p := ⟨w.heap.size, 0, Option.none⟩) (by show w.heap.size < _; omega)).trans b0
      have f1 := (hbr.cell (p := ⟨w.heap.size, 1, Option.none⟩) (by show w.heap.size < _; omega)).trans b1
      have f2 := (hbr.cell (p := ⟨w.heap.size, 2, Option.none⟩) (by show w.heap.size < _; omega)).trans b2
      have hg2 : g2 < wr.heap.size := World.block_lt_of_cell? _ _ e0
      have HX : Hid (∀ W, Below wr.heap.size wr W → PV W (GG G w.heap.size wr u16) q1[k].1 q1[k].2) := fun W hW =>
        (gr.fits (H := GG G (w.heap.size + 1) w1 (.slice (some ⟨g2, 0, Option.none⟩) q1.length cap)) (fun j hj => ⟨hj.1.imp id (by omega), hj.2.1, by simp [Value.ownBlock]⟩) (by have := lw1.each _ (List.getElem_mem hlt); simpa using this)).below hW (fun j hj => hj.2.1) (fun _ h => h)
      have HS : Hid (∀ W, Below wr.heap.size wr W → PV W (GG G w.heap.size wr u16) (Ls.star a) (.slice (some ⟨g, 0, Option.none⟩) 1 1)) := fun W hW =>
        (gr.fits (H := G) (fun j hj => ⟨.inl hj, by have := hG j hj; omega, by simp [Value.ownBlock]⟩) ((hp0.below (below_alloc1 w _) hG fun _ h => h).below hb1 (Old.alloc hG _) fun _ h => h)).below hW (fun j hj => hj.2.1) (fun _ h => h)
      have HO : Hid (∀ W, Below wr.heap.size wr W → Old W (GG G w.heap.size wr u16)) := fun W hW j hj => Nat.lt_of_lt_of_le hj.2.1 hW.size
      have HR : Hid (∀ W, Below wr.heap.size wr W → Calls Tryz.prog 84 #[.agg #[.int .i64 q1[k].1.kind, .string ⟨q1[k].1.signs.toArray⟩, q1[k].2], .agg #[.int .i64 4, .string ⟨#[]⟩, .slice (some ⟨g, 0, Option.none⟩) 1 1]] W fun e w' => ∃ y1 y2 y3, e = .returned (.agg #[.int .i64 (Ls.row q1[k].1 (Ls.star a)).kind, .string ⟨(Ls.row q1[k].1 (Ls.star a)).signs.toArray⟩, .slice y1 y2 y3]) ∧ PV w' (Plus (GG G w.heap.size wr u16) W w') (Ls.row q1[k].1 (Ls.star a)) (.slice y1 y2 y3) ∧ Below W.heap.size W w') := by
        intro W hW
        refine (row_any q1[k].1 (Ls.star a) q1[k].2 (.slice (some ⟨g, 0, Option.none⟩) 1 1) W _ (HO.out W hW) (HX.out W hW) (HS.out W hW)).mono ?_
        rintro e w' ⟨x, rfl, hx, hb⟩
        obtain ⟨y1, y2, y3, rfl⟩ := PV.slice _ _ hx
        exact ⟨y1, y2, y3, rfl, hx, hb⟩
      have hw0 : w.heap.size < wr.heap.size := by omega
      have HSS : Hid (∀ W : World, Below wr.heap.size wr W → W.cell? ⟨g2, k * 3, Option.none⟩ = some (.int .i64 q1[k].1.kind) ∧ W.cell? ⟨g2, k * 3 + 1, Option.none⟩ = some (.string ⟨q1[k].1.signs.toArray⟩) ∧ W.cell? ⟨g2, k * 3 + 2, Option.none⟩ = some q1[k].2 ∧ W.cell? ⟨w.heap.size, 0, Option.none⟩ = some (.int .i64 4) ∧ W.cell? ⟨w.heap.size, 1, Option.none⟩ = some (.string ⟨#[]⟩) ∧ W.cell? ⟨w.heap.size, 2, Option.none⟩ = some (.slice (some ⟨g, 0, Option.none⟩) 1 1)) := fun W hW =>
        ⟨(hW.cell (p := ⟨g2, _, Option.none⟩) hg2).trans e0, (hW.cell (p := ⟨g2, _, Option.none⟩) hg2).trans e1, (hW.cell (p := ⟨g2, _, Option.none⟩) hg2).trans e2, (hW.cell (p := ⟨w.heap.size, _, Option.none⟩) hw0).trans f0, (hW.cell (p := ⟨w.heap.size, _, Option.none⟩) hw0).trans f1, (hW.cell (p := ⟨w.heap.size, _, Option.none⟩) hw0).trans f2⟩
      go_upto_region 36 with fail
      go_cut [19] (fun s wx => NewR G w.heap.size wr u16 (Ls.row q1[k].1 (Ls.star a)) s wx)
      case first =>
        go_region_held (fun w' => w'.cell? ⟨g2, k * 3, Option.none⟩ = some (.int .i64 q1[k].1.kind) ∧ w'.cell? ⟨g2, k * 3 + 1, Option.none⟩ = some (.string ⟨q1[k].1.signs.toArray⟩) ∧ w'.cell? ⟨g2, k * 3 + 2, Option.none⟩ = some q1[k].2 ∧ w'.cell? ⟨w.heap.size, 0, Option.none⟩ = some (.int .i64 4) ∧ w'.cell? ⟨w.heap.size, 1, Option.none⟩ = some (.string ⟨#[]⟩) ∧ w'.cell? ⟨w.heap.size, 2, Option.none⟩ = some (.slice (some ⟨g, 0, Option.none⟩) 1 1)) (first | assumption | exact HSS.out _ (((hbb.setCell (Nat.le_refl _) _).setCell (Nat.le_refl _) _).setCell (Nat.le_refl _) _) | exact HSS.out _ (Below.alloc hbb (by have := hbb.size; omega) _) | go_keep) ((go_at_call 84; refine (HR.out _ ?_).mono ?_; (first | exact (Below.refl _ _).drew | exact ((Below.refl _ _).alloc (Nat.le_refl _) _).drew); rintro e w3 ⟨y1, y2, y3, rfl, hpv, hb3⟩; obtain ⟨d1, d2⟩ := bcell hb3; have hz3 := hb3.size; have hbb : Below wr.heap.size wr w3 := (by first | exact Below.join (Below.refl _ _).drew hb3 | exact Below.join (below_alloc1 _ _).drew hb3); have hs3 := HSS.out w3 hbb))
        all_goals
          go_wp2_with fail
          go_meet
          case rel => first | exact newr_after (Below.refl _ _).drew hb3 hpv hrow (by omega) | exact newr_ahead hb3 hpv hrow (by omega)
      case rest =>
        obtain ⟨b, yr, rfl, hlb, hpr, hbx⟩ := hcut
        obtain ⟨r0, r1, r2⟩ := hlb.three
        have grx := gr.below hbx
        clear gr HX HS HR HSS HO e0 e1 e2 f0 f1 f2 b0 b1 b2
        go_wp2_with fail
        obtain ⟨hok, hln⟩ := puts_ok Hqs.out (by simp) HO1.out
        simp only [List.length_map, List.length_nil] at hln
        have hokr := HO1.out (Ls.row q1[k].1 (Ls.star a)) (List.mem_map.2 ⟨q1[k], List.getElem_mem hlt, rfl⟩)
        refine (put_any wc w.heap.size (by have := grx.grown.size; omega) (GG G w.heap.size wc u16) u16 qs grx.lw (by omega) hok _ yr hpr hokr.1 hokr.2).mono ?_
        rintro e w3 hpost
        obtain ⟨v3, qs3, rfl, hm3, gr3⟩ := grx.put hpost
        clear hpost
        have Hm3 : Hid (qs3.map (·.1) = Ls.put (qs.map (·.1)) (Ls.row q1[k].1 (Ls.star a))) := hm3
        clear hm3
        go_wp2_with fail
        go_roundw
        case rel => exact ⟨k + 1, qs3, by omega, by go_num, gr3, puts_snoc Hqs.out (by simpa using hlt) (by simpa using Hm3.out)⟩
        case measure => simp [intOf]; omega
    · go_wp2_with fail
      go_ret
      have hk1 : k = q1.length := by omega
      have hq := Hqs.out
      rw [List.take_of_length_le (by simp; omega)] at hq
      refine ⟨_, qs, rfl, ?_, gr.lw, ?_⟩
      · rw [Ls.behind_star, hq, ← Hq1.out, List.map_map]; rfl
      · exact (Below.join (below_alloc1 w _) hb1).grown gr.grown (by omega) (by simp [Value.ownBlock])

end Go.Proofs.YtfklinjaajafgaaGreatDoor
