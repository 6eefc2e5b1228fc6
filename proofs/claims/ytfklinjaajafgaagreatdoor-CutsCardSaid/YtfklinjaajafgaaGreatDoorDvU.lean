import Derived.Test.YtfklinjaajafgaaGreatDoorDvT
/- addChoice. -/
namespace Go.Proofs.YtfklinjaajafgaaGreatDoor
open Go.RowKit

theorem go_chain_step (a : Ls.D) (l : List Ls.D) (n : Ls.Net) (s : Ls.Span) : Ls.go (chainD (a :: l)) n s = Ls.go (chainD l) (Ls.add a n).1 (Ls.orS s (Ls.add a n).2) := by
  cases l with
  | nil => show Ls.go (Ls.clast a) n s = Ls.go Ls.rnil _ _; rw [Ls.go_clast, Ls.go_rnil]
  | cons b l => show Ls.go (Ls.ccons a (chainD (b :: l))) n s = _; rw [Ls.go_ccons]

theorem Pk.alloc {w W : World} {B nb : Nat} {P Q P1 Q1 : Value} {m : Ls.Net} {x : Ls.Span} (h : Pk w W B nb P Q P1 Q1 m x) (o : Obj) : Pk w (W.alloc o) B nb P Q P1 Q1 m x :=
  h.next (h.net.below (below_alloc1 _ _)) (NStep.of_below _ _ _ (below_alloc1 _ _))

set_option maxRecDepth 100000 in
set_option maxHeartbeats 3000000 in
theorem addChoice_any (l : List Ls.D) (hI : ∀ a, a ∈ l → AddSaid a) (hln : l.length ≤ 1048576) (w : World) (B nb : Nat) (P Q : Value) (n : Ls.Net) (x : Ls.Span) (G : Nat → Prop) (sl : Value) (vs : List Value) (h : NetL w B nb P Q n x) (hB : B ≤ w.heap.size) (hG : ∀ k, G k → Free w nb P Q k) (hs : Shows w G sl vs) (he : Each w G l vs) (hsz : n.places.length + sizes l ≤ 31) :
    Calls Tryz.prog 116 #[.pointer (some ⟨nb, 0, none⟩), sl] w (AddPost w B nb P Q x (Ls.go (chainD l) n ⟨0, 0, false⟩)) := by
  have HI : Hid (∀ a, a ∈ l → AddSaid a) := hI
  clear hI
  have hlen := he.length
  have hnl := h.lt
  have hb0 := below_alloc2 w (.cells #[.int .u32 (0 : Nat), .int .u32 (0 : Nat), .bool false] 150) (.cells #[.int .u32 (0 : Nat), .int .u32 (0 : Nat), .bool false] 150)
  have hN0 := h.below hb0
  have hst0 := NStep.of_below nb P Q hb0
  have hx0 : ((w.alloc (.cells #[.int .u32 (0 : Nat), .int .u32 (0 : Nat), .bool false] 150)).alloc (.cells #[.int .u32 (0 : Nat), .int .u32 (0 : Nat), .bool false] 150)).heap[w.heap.size]? = some (.cells #[.int .u32 (0 : Nat), .int .u32 (0 : Nat), .bool false] 150 (0, 0)) := by
    rw [Below.heap_alloc _ _ _ (by simp)]; exact heap_alloc_new _ _
  have hy0 : ((w.alloc (.cells #[.int .u32 (0 : Nat), .int .u32 (0 : Nat), .bool false] 150)).alloc (.cells #[.int .u32 (0 : Nat), .int .u32 (0 : Nat), .bool false] 150)).heap[w.heap.size + 1]? = some (.cells #[.int .u32 (0 : Nat), .int .u32 (0 : Nat), .bool false] 150 (0, 0)) := by
    have := heap_alloc_new (w.alloc (.cells #[.int .u32 (0 : Nat), .int .u32 (0 : Nat), .bool false] 150)) (.cells #[.int .u32 (0 : Nat), .int .u32 (0 : Nat), .bool false] 150)
    simpa using this
  have hfx0 : Free ((w.alloc (.cells #[.int .u32 (0 : Nat), .int .u32 (0 : Nat), .bool false] 150)).alloc (.cells #[.int .u32 (0 : Nat), .int .u32 (0 : Nat), .bool false] 150)) nb P Q w.heap.size := by
    have := h.newFree (.cells #[.int .u32 (0 : Nat), .int .u32 (0 : Nat), .bool false] 150)
    exact ⟨by simp; omega, this.2⟩
  have hfy0 : Free ((w.alloc (.cells #[.int .u32 (0 : Nat), .int .u32 (0 : Nat), .bool false] 150)).alloc (.cells #[.int .u32 (0 : Nat), .int .u32 (0 : Nat), .bool false] 150)) nb P Q (w.heap.size + 1) := by
    have := (h.below (below_alloc1 w (.cells #[.int .u32 (0 : Nat), .int .u32 (0 : Nat), .bool false] 150))).newFree (.cells #[.int .u32 (0 : Nat), .int .u32 (0 : Nat), .bool false] 150)
    simpa using this
  have hz0 : ((w.alloc (.cells #[.int .u32 (0 : Nat), .int .u32 (0 : Nat), .bool false] 150)).alloc (.cells #[.int .u32 (0 : Nat), .int .u32 (0 : Nat), .bool false] 150)).heap.size = w.heap.size + 1 + 1 := by simp
  go_enter Tryz.func116, Tryz.ntmps116
  go_upto_region 2 with (fail)
  generalize (w.alloc (.cells #[.int .u32 ((0 : Nat) : Int), .int .u32 ((0 : Nat) : Int), .bool false] 150)).alloc (.cells #[.int .u32 ((0 : Nat) : Int), .int .u32 ((0 : Nat) : Int), .bool false] 150) = W at *
  have hsh : ∃ sa sc, sl = .slice sa l.length sc := by
    rcases hs.shape with ⟨e1, e2⟩ | ⟨g, cap, e1, _⟩
    · exact ⟨_, _, by rw [e1, ← hlen, e2]; rfl⟩
    · exact ⟨_, _, by rw [e1, hlen]⟩
  obtain ⟨sa, sc, rfl⟩ := hsh
  have Hs : Hid _ := hs
  have He : Hid _ := he
  have HG : Hid _ := hG
  have Hlen : Hid _ := hlen
  have Hst0 : Hid _ := hst0
  have HN0 : Hid _ := hN0
  have Hx0 : Hid _ := hx0
  have Hy0 : Hid _ := hy0
  have Hfx : Hid _ := hfx0
  have Hfy : Hid _ := hfy0
  clear hlen hst0 hN0 hs he hG hb0 h hx0 hy0 hfx0 hfy0
  go_wp2_with fail
  go_loopw [12] (fun i wr => ∃ (k : Nat) (m : Ls.Net) (a : Ls.Span) (P' Q' : Value), k ≤ l.length ∧ i = .int .i64 k ∧ Pk w wr B nb P Q P' Q' m x ∧ wr.heap[w.heap.size + 1]? = some (.cells #[.int .u32 a.first, .int .u32 a.last, .bool a.empty] 150 (0, 0)) ∧ a.first < 4294967296 ∧ a.last < 4294967296 ∧ m.places.length + sizes (l.drop k) ≤ 31 ∧ Ls.go (chainD l) n ⟨0, 0, false⟩ = Ls.go (chainD (l.drop k)) m a) (fun i _ => l.length - (intOf i).toNat)
  case atStart =>
    exact ⟨0, n, ⟨0, 0, false⟩, P, Q, Nat.zero_le _, rfl, ⟨HN0.out, Hst0.out, Hx0.out, Hfx.out, Hfy.out⟩, Hy0.out, by simp, by simp, by simpa using hsz, by simp⟩
  case round =>
    obtain ⟨k, m, a, P', Q', hk, rfl, hpk, hall, hf, hl, hm, hgo⟩ := hrel
    have HK : Hid _ := hpk
    have Hall : Hid _ := hall
    have Hgo : Hid (Ls.go (chainD l) n ⟨0, 0, false⟩ = Ls.go (chainD (l.drop k)) m a) := hgo
    have hBr : B ≤ wr.heap.size := Nat.le_trans hB hpk.step.size
    have hzr := hpk.fa.1
    clear hpk hall hgo
    by_cases hlt : k < l.length
    · have hsr := Hs.out.mono (w' := wr) (fun _ h => h) (fun j hj => HK.out.step.block j (HG.out j hj))
      have her := He.out.mono (w' := wr) (fun _ h => h) (fun j hj => HK.out.step.block j (HG.out j hj))
      have hGr : ∀ j, G j → Free wr nb P' Q' j := fun j hj => HK.out.step.free (HG.out j hj)
      obtain ⟨ty, y, hx, hrep⟩ := her.get k hlt
      obtain ⟨g, rfl, hc⟩ : ∃ g, sa = some ⟨g, 0, Option.none⟩ ∧ wr.cell? ⟨g, k, Option.none⟩ = some (.iface ty y) := by
        rcases hsr.shape with ⟨_, e⟩ | ⟨g', cap', e, _, hcell⟩
        · have := Hlen.out; rw [e] at this; simp at this; omega
        · injection e with e1 e2 e3
          exact ⟨g', e1, by rw [hcell k (by have := Hlen.out; omega), hx]⟩
      have hsd := sizes_drop l k hlt
      have hwd := hrep.wd
      obtain ⟨hb1, hb2, hb3, hb4⟩ := add_bd hwd HK.out.net.good (by omega)
      have hC := HI.out l[k] (List.getElem_mem hlt) wr B nb P' Q' m x G ty y HK.out.net hBr hGr hrep (by omega)
      have Hgo2 : Hid (Ls.go (chainD l) n ⟨0, 0, false⟩ = Ls.go (chainD (l.drop (k + 1))) (Ls.add l[k] m).1 (Ls.orS a (Ls.add l[k] m).2)) := by
        show _ = _
        rw [Hgo.out, List.drop_eq_getElem_cons hlt, go_chain_step]
      have hm2 : (Ls.add l[k] m).1.places.length + sizes (l.drop (k + 1)) ≤ 31 := by omega
      clear hsr her hGr hx hrep hwd hsd hb3 hb4 Hgo
      generalize Ls.add l[k] m = r at *
      obtain ⟨m1, nx⟩ := r
      simp only at hb1 hb2 hm2
      go_wp2_with fail
      refine hC.mono ?_
      rintro e w1 ⟨P1, Q1, rfl, hN1, hst1⟩
      clear hC
      have hK1 := HK.out.next hN1 hst1
      have hall1 := hst1.own HK.out.fa Hall.out
      have hB2 := below_alloc1 w1 (.cells #[.int .u32 nx.first, .int .u32 nx.last, .bool nx.empty] 150)
      have hst2 := NStep.of_below nb P1 Q1 hB2
      have hK2 := hK1.next (hN1.below hB2) hst2
      have hall2 := hst2.own hK1.fa hall1
      have hfn2 := hN1.newFree (.cells #[.int .u32 nx.first, .int .u32 nx.last, .bool nx.empty] 150)
      have hnx2 := heap_alloc_new w1 (.cells #[.int .u32 nx.first, .int .u32 nx.last, .bool nx.empty] 150)
      have hz1 := hK1.fa.1
      obtain ⟨a0, a1, a2, a3⟩ := span_cells hall1
      have ha3 : ¬ w.heap.size + 1 = w1.heap.size := by omega
      have HK1 : Hid _ := hK1
      have Hall1 : Hid _ := hall1
      have b3 := a3
      clear hN1 hst1 hK1 hK2 hst2 hall2 hfn2 hnx2 hall1 a3
      have n3 := heap_alloc_new w1 (.cells #[.int .u32 nx.first, .int .u32 nx.last, .bool nx.empty] 150)
      have hza : w.heap.size + 1 < w1.heap.size := HK1.out.fa.1
      have hne1 : ¬ w1.heap.size = w.heap.size + 1 := fun e => ha3 e.symm
      have HO1 : Hid _ := u32_or_nat a.first nx.first hf hb1
      have HO2 : Hid _ := u32_or_nat a.last nx.last hl hb2
      have ho1 := or32 _ _ hf hb1
      have ho2 := or32 _ _ hl hb2
      clear n3
      have fin : ∀ (u v : Nat) (b : Bool), Ls.orS a nx = ⟨u, v, b⟩ → u < 4294967296 → v < 4294967296 → ∀ W : World, Pk w W B nb P Q P1 Q1 (m1) x → W.heap[w.heap.size + 1]? = some (.cells #[.int .u32 u, .int .u32 v, .bool b] 150 (0, 0)) →
          ∃ (k_1 : Nat) (m : Ls.Net) (a : Ls.Span) (P' Q' : Value), k_1 ≤ l.length ∧ Value.int .i64 ((k : Int) + 1) = .int .i64 k_1 ∧ Pk w W B nb P Q P' Q' m x ∧ W.heap[w.heap.size + 1]? = some (.cells #[.int .u32 a.first, .int .u32 a.last, .bool a.empty] 150 (0, 0)) ∧ a.first < 4294967296 ∧ a.last < 4294967296 ∧ m.places.length + sizes (l.drop k_1) ≤ 31 ∧ Ls.go (chainD l) n ⟨0, 0, false⟩ = Ls.go (chainD (l.drop k_1)) m a := by
        intro u v b hr hu hv W h1 h2
        refine ⟨k + 1, m1, ⟨u, v, b⟩, P1, Q1, by omega, by simp, h1, h2, hu, hv, hm2, ?_⟩
        rw [Hgo2.out]; rw [hr]
      have Hfin : Hid _ := fin
      clear fin
      have a30 := b3 0
      have a31 := b3 1
      have a32 := b3 2
      cases hae : a.empty with
      | true =>
        rw [hae] at a2
        have HR : Hid (Ls.orS a nx = ⟨a.first ||| nx.first, a.last ||| nx.last, true⟩) := by simp [Hid, Ls.orS, hae]
        clear hae b3
        go_wp2_with fail
        rw [HO1.out, HO2.out]
        go_roundw
        case rel => exact Hfin.out _ _ _ HR.out ho1 ho2 _ ((((HK1.out.set _ _).set _ _).set _ _).alloc _) (by have := Hall1.out; rw [Below.heap_alloc _ _ _ (by simp [World.setCell]; omega)]; simp [World.setCell, Array.getElem?_modify, this])
        case measure => simp [intOf]; omega
      | false =>
        rw [hae] at a2
        cases hne : nx.empty with
        | true =>
          have HR : Hid (Ls.orS a nx = ⟨a.first ||| nx.first, a.last ||| nx.last, true⟩) := by simp [Hid, Ls.orS, hae, hne]
          clear hae b3
          go_wp2_with fail
          rw [HO1.out, HO2.out]
          go_roundw
          case rel => exact Hfin.out _ _ _ HR.out ho1 ho2 _ ((((HK1.out.set _ _).set _ _).set _ _).alloc _) (by have := Hall1.out; rw [Below.heap_alloc _ _ _ (by simp [World.setCell]; omega)]; simp [World.setCell, Array.getElem?_modify, this])
          case measure => simp [intOf]; omega
        | false =>
          have HR : Hid (Ls.orS a nx = ⟨a.first ||| nx.first, a.last ||| nx.last, false⟩) := by simp [Hid, Ls.orS, hae, hne]
          clear hae b3
          go_wp2_with fail
          rw [HO1.out, HO2.out]
          go_roundw
          case rel => exact Hfin.out _ _ _ HR.out ho1 ho2 _ ((((HK1.out.set _ _).set _ _).set _ _).alloc _) (by have := Hall1.out; rw [Below.heap_alloc _ _ _ (by simp [World.setCell]; omega)]; simp [World.setCell, Array.getElem?_modify, this])
          case measure => simp [intOf]; omega
    · have hk1 : k = l.length := by omega
      have Hgo2 : Hid (Ls.go (chainD l) n ⟨0, 0, false⟩ = (m, a)) := by
        show _ = _
        rw [Hgo.out, hk1, List.drop_length]; exact Ls.go_rnil m a
      obtain ⟨a0, a1, a2, a3⟩ := span_cells Hall.out
      obtain ⟨s0, s1, s2, s3⟩ := span_cells HK.out.res
      have s30 := s3 0
      have s31 := s3 1
      have s32 := s3 2
      clear a3 s3
      have hzw : w.heap.size < wr.heap.size := by omega
      go_wp2_with fail
      refine bodyPost_ret (v := spanV a) (by simp [results, Tryz.results116, go_sem, s0, s1, s2]) rfl ⟨P', Q', by rw [Hgo2.out], ?_⟩
      rw [Hgo2.out]
      exact span_store HK.out.net HK.out.step HK.out.fr (Nat.le_refl _) _ _ _

end Go.Proofs.YtfklinjaajafgaaGreatDoor
