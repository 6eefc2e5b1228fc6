import Derived.Test.YtfklinjaajafgaaGreatDoorDvU
/- addRepeat. -/
namespace Go.Proofs.YtfklinjaajafgaaGreatDoor
open Go.RowKit

theorem rep_cells {w : World} {g : Nat} {v : Value} {b c : Bool} {t : TypeId} (h : w.heap[g]? = some (.cells #[v, .bool b, .bool c] t (0, 0))) : w.cell? ⟨g, 0, none⟩ = some v ∧ w.cell? ⟨g, 1, none⟩ = some (.bool b) ∧ w.cell? ⟨g, 2, none⟩ = some (.bool c) := by
  refine ⟨?_, ?_, ?_⟩ <;> simp [World.cell?, h]

/-- What the two new variables of addRepeat are. -/
structure Rp (w W : World) (nb : Nat) (P Q : Value) (v : Value) (b c : Bool) : Prop where
  box : W.heap[w.heap.size]? = some (.cells #[v, .bool b, .bool c] 189 (0, 0))
  res : W.heap[w.heap.size + 1]? = some (.cells #[.int .u32 (0 : Nat), .int .u32 (0 : Nat), .bool false] 150 (0, 0))
  fb : Free W nb P Q w.heap.size
  fr : Free W nb P Q (w.heap.size + 1)

theorem Rp.next {w W W' : World} {nb : Nat} {P Q P' Q' : Value} {v : Value} {b c : Bool} (h : Rp w W nb P Q v b c) (hs : NStep W nb P Q W' P' Q') : Rp w W' nb P' Q' v b c :=
  ⟨hs.own h.fb h.box, hs.own h.fr h.res, hs.free h.fb, hs.free h.fr⟩

theorem Rp.start {w : World} {B nb : Nat} {P Q : Value} {n : Ls.Net} {x : Ls.Span} (h : NetL w B nb P Q n x) (v : Value) (b c : Bool) : Rp w ((w.alloc (.cells #[v, .bool b, .bool c] 189)).alloc (.cells #[.int .u32 (0 : Nat), .int .u32 (0 : Nat), .bool false] 150)) nb P Q v b c := by
  refine ⟨?_, ?_, ?_, ?_⟩
  · rw [Below.heap_alloc _ _ _ (by simp)]; exact heap_alloc_new _ _
  · have := heap_alloc_new (w.alloc (.cells #[v, .bool b, .bool c] 189)) (.cells #[.int .u32 (0 : Nat), .int .u32 (0 : Nat), .bool false] 150)
    simpa using this
  · have := h.newFree (.cells #[v, .bool b, .bool c] 189)
    exact ⟨by simp; omega, this.2⟩
  · have := (h.below (below_alloc1 w (.cells #[v, .bool b, .bool c] 189))).newFree (.cells #[.int .u32 (0 : Nat), .int .u32 (0 : Nat), .bool false] 150)
    simpa using this

set_option maxRecDepth 100000 in
set_option maxHeartbeats 3000000 in
theorem addRepeat_again (a : Ls.D) (hI : AddSaid a) (w : World) (B nb : Nat) (P Q : Value) (n : Ls.Net) (x : Ls.Span) (G : Nat → Prop) (ty : TypeId) (y : Value) (b : Bool) (h : NetL w B nb P Q n x) (hB : B ≤ w.heap.size) (hG : ∀ k, G k → Free w nb P Q k) (hr : Rep w G 0 a [.iface ty y]) (hsz : n.places.length + Ls.dsize a ≤ 31) :
    Calls Tryz.prog 117 #[.pointer (some ⟨nb, 0, none⟩), .agg #[.iface ty y, .bool b, .bool true]] w (AddPost w B nb P Q x (Ls.linkN (Ls.add a n).1 (Ls.add a n).2.last (Ls.add a n).2.first, ⟨(Ls.add a n).2.first, (Ls.add a n).2.last, (Ls.add a n).2.empty || b⟩)) := by
  have hnl := h.lt
  have hb0 := below_alloc2 w (.cells #[.iface ty y, .bool b, .bool true] 189) (.cells #[.int .u32 (0 : Nat), .int .u32 (0 : Nat), .bool false] 150)
  have hrp0 := Rp.start h (.iface ty y) b true
  have hst0 := NStep.of_below nb P Q hb0
  have hN0 := h.below hb0
  have hrep0 := hr.mono (fun _ h => h) (fun k hk => hst0.block k (hG k hk))
  have hG0 : ∀ k, G k → Free _ nb P Q k := fun k hk => hst0.free (hG k hk)
  obtain ⟨hb1, hb2, hb3, hb4⟩ := add_bd hr.wd h.good (by omega)
  have hC := hI _ B nb P Q n x G ty y hN0 (Nat.le_trans hB hb0.size) hG0 hrep0 hsz
  generalize Ls.add a n = r at *
  obtain ⟨m1, nx⟩ := r
  simp only at hb1 hb2
  obtain ⟨c0, c1, c2⟩ := rep_cells hrp0.box
  have Hrp : Hid _ := hrp0
  have Hst : Hid _ := hst0
  clear hN0 hrep0 hG0 hb3 hb4 hI hr hG h hb0 hst0 hrp0
  go_enter Tryz.func117, Tryz.ntmps117
  go_upto_region 1 with (fail)
  generalize (w.alloc (.cells #[.iface ty y, .bool b, .bool true] 189)).alloc (.cells #[.int .u32 ((0 : Nat) : Int), .int .u32 ((0 : Nat) : Int), .bool false] 150) = W at *
  go_wp2_with fail
  refine hC.mono ?_
  rintro e w1 ⟨P1, Q1, rfl, hN1, hst1⟩
  clear hC c0 c1 c2
  have hrp1 := Hrp.out.next hst1
  have hB2 := below_alloc1 w1 (.cells #[.int .u32 nx.first, .int .u32 nx.last, .bool nx.empty] 150)
  have hst2 := NStep.of_below nb P1 Q1 hB2
  have hrp2 := hrp1.next hst2
  have hN2 := hN1.below hB2
  have hfn2 := hN1.newFree (.cells #[.int .u32 nx.first, .int .u32 nx.last, .bool nx.empty] 150)
  have hnx2 := heap_alloc_new w1 (.cells #[.int .u32 nx.first, .int .u32 nx.last, .bool nx.empty] 150)
  have hstw2 := (Hst.out.trans hst1).trans hst2
  have hz1 := hrp1.fr.1
  have hz10 : w.heap.size < w1.heap.size := by omega
  have hne0 : ¬ w.heap.size = w1.heap.size := by omega
  obtain ⟨c0, c1, c2⟩ := rep_cells hrp1.box
  have hL := link_any _ B nb P1 Q1 m1 x hN2 nx.last nx.first hb2 hb1
  have Hrp2 : Hid _ := hrp2
  have Hfn2 : Hid _ := hfn2
  have Hnx2 : Hid _ := hnx2
  have Hst2 : Hid _ := hstw2
  clear hrp1 hst2 hrp2 hN2 hfn2 hnx2 hstw2 hN1 hst1 Hrp
  go_wp2_with fail
  refine hL.mono ?_
  rintro e w3 ⟨rfl, hN3, hst3⟩
  clear hL c0 c1 c2
  have hrp3 := Hrp2.out.next hst3
  have hnx3 := hst3.own Hfn2.out Hnx2.out
  have hfn3 := hst3.free Hfn2.out
  have hstw3 := Hst2.out.trans hst3
  obtain ⟨c0, c1, c2⟩ := rep_cells hrp3.box
  obtain ⟨n0, n1, n2, n3⟩ := span_cells hnx3
  obtain ⟨s0, s1, s2, s3⟩ := span_cells hrp3.res
  have n32 := n3 2
  have s30 := s3 0
  have s31 := s3 1
  have s32 := s3 2
  have hz3 := hrp3.fr.1
  have hzn := hfn3.1
  have hne1 : ¬ w1.heap.size = w.heap.size := by omega
  have hne2 : ¬ w.heap.size = w1.heap.size := by omega
  have hne3 : ¬ w1.heap.size = w.heap.size + 1 := by omega
  have hne4 : ¬ w.heap.size + 1 = w1.heap.size := by omega
  have hsz1 := (Array.getElem?_eq_some_iff.1 hnx3).1
  have Hfin : Hid (∀ v c, NetL ((((w3.setCell ⟨w1.heap.size, 2, none⟩ v).setCell ⟨w.heap.size + 1, 0, none⟩ (.int .u32 nx.first)).setCell ⟨w.heap.size + 1, 1, none⟩ (.int .u32 nx.last)).setCell ⟨w.heap.size + 1, 2, none⟩ c) B nb P1 Q1 (Ls.linkN m1 nx.last nx.first) x ∧ NStep w nb P Q ((((w3.setCell ⟨w1.heap.size, 2, none⟩ v).setCell ⟨w.heap.size + 1, 0, none⟩ (.int .u32 nx.first)).setCell ⟨w.heap.size + 1, 1, none⟩ (.int .u32 nx.last)).setCell ⟨w.heap.size + 1, 2, none⟩ c) P1 Q1) := fun v c =>
    span_store (hN3.set hfn3 2 v) (hstw3.set (by omega) 2 v) (hrp3.fr.set _ _) (by omega) _ _ _
  clear hrp3 hnx3 hfn3 hstw3 n3 s3 Hrp2 Hfn2 Hnx2 Hst2 hN3 hst3
  cases he : nx.empty with
  | true =>
    rw [he] at n2
    have He : Hid _ := he
    clear he
    go_wp2_with fail
    exact bodyPost_ret (v := spanV ⟨nx.first, nx.last, true⟩) (by simp [results, Tryz.results117, go_sem, s0, s1, s2]) rfl ⟨P1, Q1, by simp [He.out], Hfin.out _ _⟩
  | false =>
    rw [he] at n2
    have He : Hid _ := he
    clear he
    go_wp2_with fail
    exact bodyPost_ret (v := spanV ⟨nx.first, nx.last, b⟩) (by simp [results, Tryz.results117, go_sem, s0, s1, s2]) rfl ⟨P1, Q1, by simp [He.out], Hfin.out _ _⟩

set_option maxRecDepth 100000 in
set_option maxHeartbeats 3000000 in
theorem addRepeat_once (a : Ls.D) (hI : AddSaid a) (w : World) (B nb : Nat) (P Q : Value) (n : Ls.Net) (x : Ls.Span) (G : Nat → Prop) (ty : TypeId) (y : Value) (b : Bool) (h : NetL w B nb P Q n x) (hB : B ≤ w.heap.size) (hG : ∀ k, G k → Free w nb P Q k) (hr : Rep w G 0 a [.iface ty y]) (hsz : n.places.length + Ls.dsize a ≤ 31) :
    Calls Tryz.prog 117 #[.pointer (some ⟨nb, 0, none⟩), .agg #[.iface ty y, .bool b, .bool false]] w (AddPost w B nb P Q x ((Ls.add a n).1, ⟨(Ls.add a n).2.first, (Ls.add a n).2.last, (Ls.add a n).2.empty || b⟩)) := by
  have hnl := h.lt
  have hb0 := below_alloc2 w (.cells #[.iface ty y, .bool b, .bool false] 189) (.cells #[.int .u32 (0 : Nat), .int .u32 (0 : Nat), .bool false] 150)
  have hrp0 := Rp.start h (.iface ty y) b false
  have hst0 := NStep.of_below nb P Q hb0
  have hN0 := h.below hb0
  have hrep0 := hr.mono (fun _ h => h) (fun k hk => hst0.block k (hG k hk))
  have hG0 : ∀ k, G k → Free _ nb P Q k := fun k hk => hst0.free (hG k hk)
  obtain ⟨hb1, hb2, hb3, hb4⟩ := add_bd hr.wd h.good (by omega)
  have hC := hI _ B nb P Q n x G ty y hN0 (Nat.le_trans hB hb0.size) hG0 hrep0 hsz
  generalize Ls.add a n = r at *
  obtain ⟨m1, nx⟩ := r
  simp only at hb1 hb2
  obtain ⟨c0, c1, c2⟩ := rep_cells hrp0.box
  have Hrp : Hid _ := hrp0
  have Hst : Hid _ := hst0
  clear hN0 hrep0 hG0 hb3 hb4 hI hr hG h hb0 hst0 hrp0
  go_enter Tryz.func117, Tryz.ntmps117
  go_upto_region 1 with (fail)
  generalize (w.alloc (.cells #[.iface ty y, .bool b, .bool false] 189)).alloc (.cells #[.int .u32 ((0 : Nat) : Int), .int .u32 ((0 : Nat) : Int), .bool false] 150) = W at *
  go_wp2_with fail
  refine hC.mono ?_
  rintro e w1 ⟨P1, Q1, rfl, hN1, hst1⟩
  clear hC c0 c1 c2
  have hrp1 := Hrp.out.next hst1
  have hB2 := below_alloc1 w1 (.cells #[.int .u32 nx.first, .int .u32 nx.last, .bool nx.empty] 150)
  have hst2 := NStep.of_below nb P1 Q1 hB2
  have hrp3 := hrp1.next hst2
  have hN3 := hN1.below hB2
  have hfn3 := hN1.newFree (.cells #[.int .u32 nx.first, .int .u32 nx.last, .bool nx.empty] 150)
  have hnx3 := heap_alloc_new w1 (.cells #[.int .u32 nx.first, .int .u32 nx.last, .bool nx.empty] 150)
  have hstw3 := (Hst.out.trans hst1).trans hst2
  have hz1 := hrp1.fr.1
  have hz10 : w.heap.size < w1.heap.size := by omega
  go_upto_region 2 with (fail)
  clear hrp1 hst2 hN1 hst1 Hrp hB2
  have hsz1 := (Array.getElem?_eq_some_iff.1 hnx3).1
  generalize hzz : w1.heap.size = zz at *
  generalize w1.alloc (.cells #[.int .u32 (nx.first : Int), .int .u32 (nx.last : Int), .bool nx.empty] 150) = w3 at *
  obtain ⟨c0, c1, c2⟩ := rep_cells hrp3.box
  obtain ⟨n0, n1, n2, n3⟩ := span_cells hnx3
  obtain ⟨s0, s1, s2, s3⟩ := span_cells hrp3.res
  have n32 := n3 2
  have s30 := s3 0
  have s31 := s3 1
  have s32 := s3 2
  have hz3 := hrp3.fr.1
  have hne1 : ¬ zz = w.heap.size := by omega
  have hne2 : ¬ w.heap.size = zz := by omega
  have hne3 : ¬ zz = w.heap.size + 1 := by omega
  have hne4 : ¬ w.heap.size + 1 = zz := by omega
  have Hfin : Hid (∀ v c, NetL ((((w3.setCell ⟨zz, 2, none⟩ v).setCell ⟨w.heap.size + 1, 0, none⟩ (.int .u32 nx.first)).setCell ⟨w.heap.size + 1, 1, none⟩ (.int .u32 nx.last)).setCell ⟨w.heap.size + 1, 2, none⟩ c) B nb P1 Q1 m1 x ∧ NStep w nb P Q ((((w3.setCell ⟨zz, 2, none⟩ v).setCell ⟨w.heap.size + 1, 0, none⟩ (.int .u32 nx.first)).setCell ⟨w.heap.size + 1, 1, none⟩ (.int .u32 nx.last)).setCell ⟨w.heap.size + 1, 2, none⟩ c) P1 Q1) := fun v c =>
    span_store (hN3.set hfn3 2 v) (hstw3.set (by omega) 2 v) (hrp3.fr.set _ _) (by omega) _ _ _
  clear hrp3 hnx3 hfn3 hstw3 n3 s3 hN3
  cases he : nx.empty with
  | true =>
    rw [he] at n2
    have He : Hid _ := he
    clear he
    go_wp2_with fail
    exact bodyPost_ret (v := spanV ⟨nx.first, nx.last, true⟩) (by simp [results, Tryz.results117, go_sem, s0, s1, s2]) rfl ⟨P1, Q1, by simp [He.out], Hfin.out _ _⟩
  | false =>
    rw [he] at n2
    have He : Hid _ := he
    clear he
    go_wp2_with fail
    exact bodyPost_ret (v := spanV ⟨nx.first, nx.last, b⟩) (by simp [results, Tryz.results117, go_sem, s0, s1, s2]) rfl ⟨P1, Q1, by simp [He.out], Hfin.out _ _⟩

theorem addRepeat_any (t : Nat) (ht : t = 5 ∨ t = 6 ∨ t = 7) (a : Ls.D) (hI : AddSaid a) (w : World) (B nb : Nat) (P Q : Value) (n : Ls.Net) (x : Ls.Span) (G : Nat → Prop) (ty : TypeId) (y : Value) (h : NetL w B nb P Q n x) (hB : B ≤ w.heap.size) (hG : ∀ k, G k → Free w nb P Q k) (hr : Rep w G 0 a [.iface ty y]) (hsz : n.places.length + Ls.dsize a ≤ 31) :
    Calls Tryz.prog 117 #[.pointer (some ⟨nb, 0, none⟩), .agg #[.iface ty y, .bool (t != 6), .bool (t != 7)]] w (AddPost w B nb P Q x (Ls.add (Ls.rep t a) n)) := by
  rcases ht with rfl | rfl | rfl
  · have := addRepeat_again a hI w B nb P Q n x G ty y true h hB hG hr hsz
    rw [Bool.or_true] at this
    unfold Ls.add at this ⊢
    rw [Ls.go_star]
    exact this
  · have := addRepeat_again a hI w B nb P Q n x G ty y false h hB hG hr hsz
    rw [Bool.or_false] at this
    unfold Ls.add at this ⊢
    rw [Ls.go_plus]
    exact this
  · have := addRepeat_once a hI w B nb P Q n x G ty y true h hB hG hr hsz
    rw [Bool.or_true] at this
    unfold Ls.add at this ⊢
    rw [Ls.go_opt]
    exact this

end Go.Proofs.YtfklinjaajafgaaGreatDoor
