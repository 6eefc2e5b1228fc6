import Derived.Test.YtfklinjaajafgaaGreatDoorDvS
/- addRow. -/
namespace Go.Proofs.YtfklinjaajafgaaGreatDoor
open Go.RowKit

theorem go_len {r : Nat} {d : Ls.D} (h : Ls.Wd r d) : ∀ n a, (Ls.go d n a).1.places.length = n.places.length + Ls.dsize d := by
  induction h using Ls.Wd.ind with
  | place s => intro n a; rw [Ls.go_place, Ls.dsize_place]; simp [Ls.placeN]
  | rep ht _ ih =>
    intro n a
    rw [Ls.dsize_rep]
    rcases ht with rfl | rfl | rfl
    · rw [Ls.go_star]; exact ih n _
    · rw [Ls.go_plus]; exact ih n _
    · rw [Ls.go_opt]; exact ih n _
  | row _ ih => exact ih
  | choice _ ih => exact ih
  | rnil => intro n a; rw [Ls.go_rnil, Ls.dsize_rnil]; rfl
  | @rcons y r _ _ i1 i2 =>
    intro n a
    rw [Ls.go_rcons, i2, Ls.dsize_rcons]
    have := i1 n (Ls.start y)
    unfold Ls.add Ls.linkN
    simp only
    omega
  | clast _ ih => intro n a; rw [Ls.go_clast, Ls.dsize_clast]; exact ih n _
  | @ccons y r _ _ i1 i2 =>
    intro n a
    rw [Ls.go_ccons, i2, Ls.dsize_ccons]
    have := i1 n (Ls.start y)
    unfold Ls.add
    omega

theorem lt32 {x m : Nat} (hm : m ≤ 32) (h : ∀ q, x.testBit q = true → q < m) : x < 4294967296 := by
  have h1 : x < 2 ^ 32 := Nat.lt_pow_two_of_testBit x (fun i hi => by
    cases hb : x.testBit i with
    | false => rfl
    | true => have := h i hb; omega)
  simpa using h1

/-- What is added is small. -/
theorem add_bd {d : Ls.D} (h : Ls.Wd 0 d) {n : Ls.Net} (hn : Ls.Good n) (hl : n.places.length + Ls.dsize d ≤ 32) :
    (Ls.add d n).2.first < 4294967296 ∧ (Ls.add d n).2.last < 4294967296 ∧ (Ls.add d n).1.places.length = n.places.length + Ls.dsize d ∧ Ls.Good (Ls.add d n).1 := by
  have h1 := Ls.go_ok h n hn
  have h2 : (Ls.add d n).1.places.length = n.places.length + Ls.dsize d := go_len h n _
  exact ⟨lt32 (m := (Ls.add d n).1.places.length) (by omega) (fun q hq => (h1.sem.fst q hq).2), lt32 (m := (Ls.add d n).1.places.length) (by omega) (fun q hq => (h1.sem.lst q hq).2), h2, h1.good⟩

theorem Rep.wd {w : World} {G : Nat → Prop} {r : Nat} {d : Ls.D} {vs : List Value} (h : Rep w G r d vs) : Ls.Wd r d := by
  induction h using Rep.ind with
  | place _ => exact .place _
  | rep ht _ ih => exact .rep ht ih
  | row _ _ ih => exact .row ih
  | choice _ _ ih => exact .choice ih
  | rnil => exact .rnil
  | rcons _ _ i1 i2 => exact .rcons i1 i2
  | clast _ ih => exact .clast ih
  | ccons _ _ i1 i2 => exact .ccons i1 i2

/-- What add answers of d, wherever it lies. -/
def AddSaid (d : Ls.D) : Prop := ∀ (w : World) (B nb : Nat) (P Q : Value) (n : Ls.Net) (x : Ls.Span) (G : Nat → Prop) (ty : TypeId) (y : Value), NetL w B nb P Q n x → B ≤ w.heap.size → (∀ k, G k → Free w nb P Q k) → Rep w G 0 d [.iface ty y] → n.places.length + Ls.dsize d ≤ 31 →
  Calls Tryz.prog 95 #[.pointer (some ⟨nb, 0, none⟩), .iface ty y] w (AddPost w B nb P Q x (Ls.add d n))

theorem go_row_step (a : Ls.D) (l : List Ls.D) (n : Ls.Net) (s : Ls.Span) : Ls.go ((a :: l).foldr Ls.rcons Ls.rnil) n s = Ls.go (l.foldr Ls.rcons Ls.rnil) (Ls.linkN (Ls.add a n).1 s.last (Ls.add a n).2.first) (Ls.rowS s (Ls.add a n).2) := by
  simp only [List.foldr_cons]; rw [Ls.go_rcons]

theorem sizes_drop (l : List Ls.D) (k : Nat) (hk : k < l.length) : sizes (l.drop k) = Ls.dsize l[k] + sizes (l.drop (k + 1)) := by
  rw [List.drop_eq_getElem_cons hk]; rfl

/-- A variable of the call's own, behind a step of the net. -/
theorem NStep.own {w w' : World} {nb : Nat} {P Q P' Q' : Value} (h : NStep w nb P Q w' P' Q') {k : Nat} {o : Obj} (hf : Free w nb P Q k) (hk : w.heap[k]? = some o) : w'.heap[k]? = some o := (h.block k hf).trans hk

theorem NetL.good' {w : World} {B nb : Nat} {P Q : Value} {n : Ls.Net} {x : Ls.Span} (h : NetL w B nb P Q n x) : Ls.Good n := h.good

/-- How a round stands: the net, the frame, the result's variable (not yet filled), the two variables being free. -/
structure Pk (w W : World) (B nb : Nat) (P Q P1 Q1 : Value) (m : Ls.Net) (x : Ls.Span) : Prop where
  net : NetL W B nb P1 Q1 m x
  step : NStep w nb P Q W P1 Q1
  res : W.heap[w.heap.size]? = some (.cells #[.int .u32 (0 : Nat), .int .u32 (0 : Nat), .bool false] 150 (0, 0))
  fr : Free W nb P1 Q1 w.heap.size
  fa : Free W nb P1 Q1 (w.heap.size + 1)

theorem Pk.set {w W : World} {B nb : Nat} {P Q P1 Q1 : Value} {m : Ls.Net} {x : Ls.Span} (h : Pk w W B nb P Q P1 Q1 m x) (o : Nat) (v : Value) : Pk w (W.setCell ⟨w.heap.size + 1, o, none⟩ v) B nb P Q P1 Q1 m x :=
  ⟨h.net.set h.fa o v, h.step.set (by omega) o v, (Below.heap_setCell _ _ _ _ (by show w.heap.size ≠ w.heap.size + 1; omega)).trans h.res, h.fr.set _ _, h.fa.set _ _⟩

theorem Pk.next {w W W' : World} {B nb : Nat} {P Q P1 Q1 P2 Q2 : Value} {m m' : Ls.Net} {x : Ls.Span} (h : Pk w W B nb P Q P1 Q1 m x) (hN : NetL W' B nb P2 Q2 m' x) (hs : NStep W nb P1 Q1 W' P2 Q2) : Pk w W' B nb P Q P2 Q2 m' x :=
  ⟨hN, h.step.trans hs, hs.own h.fr h.res, hs.free h.fr, hs.free h.fa⟩

set_option maxRecDepth 100000 in
set_option maxHeartbeats 3000000 in
theorem addRow_any (l : List Ls.D) (hI : ∀ a, a ∈ l → AddSaid a) (hln : l.length ≤ 1048576) (w : World) (B nb : Nat) (P Q : Value) (n : Ls.Net) (x : Ls.Span) (G : Nat → Prop) (sl : Value) (vs : List Value) (h : NetL w B nb P Q n x) (hB : B ≤ w.heap.size) (hG : ∀ k, G k → Free w nb P Q k) (hs : Shows w G sl vs) (he : Each w G l vs) (hsz : n.places.length + sizes l ≤ 31) :
    Calls Tryz.prog 115 #[.pointer (some ⟨nb, 0, none⟩), sl] w (AddPost w B nb P Q x (Ls.go (l.foldr Ls.rcons Ls.rnil) n ⟨0, 0, true⟩)) := by
  have HI : Hid (∀ a, a ∈ l → AddSaid a) := hI
  clear hI
  have hlen := he.length
  have hnl := h.lt
  have hb0 := below_alloc2 w (.cells #[.int .u32 (0 : Nat), .int .u32 (0 : Nat), .bool false] 150) (.cells #[.int .u32 (0 : Nat), .int .u32 (0 : Nat), .bool true] 150)
  have hN0 := h.below hb0
  have hst0 := NStep.of_below nb P Q hb0
  have hx0 : ((w.alloc (.cells #[.int .u32 (0 : Nat), .int .u32 (0 : Nat), .bool false] 150)).alloc (.cells #[.int .u32 (0 : Nat), .int .u32 (0 : Nat), .bool true] 150)).heap[w.heap.size]? = some (.cells #[.int .u32 (0 : Nat), .int .u32 (0 : Nat), .bool false] 150 (0, 0)) := by
    rw [Below.heap_alloc _ _ _ (by simp)]; exact heap_alloc_new _ _
  have hy0 : ((w.alloc (.cells #[.int .u32 (0 : Nat), .int .u32 (0 : Nat), .bool false] 150)).alloc (.cells #[.int .u32 (0 : Nat), .int .u32 (0 : Nat), .bool true] 150)).heap[w.heap.size + 1]? = some (.cells #[.int .u32 (0 : Nat), .int .u32 (0 : Nat), .bool true] 150 (0, 0)) := by
    have := heap_alloc_new (w.alloc (.cells #[.int .u32 (0 : Nat), .int .u32 (0 : Nat), .bool false] 150)) (.cells #[.int .u32 (0 : Nat), .int .u32 (0 : Nat), .bool true] 150)
    simpa using this
  have hfx0 : Free ((w.alloc (.cells #[.int .u32 (0 : Nat), .int .u32 (0 : Nat), .bool false] 150)).alloc (.cells #[.int .u32 (0 : Nat), .int .u32 (0 : Nat), .bool true] 150)) nb P Q w.heap.size := by
    have := h.newFree (.cells #[.int .u32 (0 : Nat), .int .u32 (0 : Nat), .bool false] 150)
    exact ⟨by simp; omega, this.2⟩
  have hfy0 : Free ((w.alloc (.cells #[.int .u32 (0 : Nat), .int .u32 (0 : Nat), .bool false] 150)).alloc (.cells #[.int .u32 (0 : Nat), .int .u32 (0 : Nat), .bool true] 150)) nb P Q (w.heap.size + 1) := by
    have := (h.below (below_alloc1 w (.cells #[.int .u32 (0 : Nat), .int .u32 (0 : Nat), .bool false] 150))).newFree (.cells #[.int .u32 (0 : Nat), .int .u32 (0 : Nat), .bool true] 150)
    simpa using this
  have hz0 : ((w.alloc (.cells #[.int .u32 (0 : Nat), .int .u32 (0 : Nat), .bool false] 150)).alloc (.cells #[.int .u32 (0 : Nat), .int .u32 (0 : Nat), .bool true] 150)).heap.size = w.heap.size + 1 + 1 := by simp
  go_enter Tryz.func115, Tryz.ntmps115
  go_upto_region 2 with (fail)
  generalize (w.alloc (.cells #[.int .u32 ((0 : Nat) : Int), .int .u32 ((0 : Nat) : Int), .bool false] 150)).alloc (.cells #[.int .u32 ((0 : Nat) : Int), .int .u32 ((0 : Nat) : Int), .bool true] 150) = W at *
  have hsh : ∃ sa sc, sl = .slice sa l.length sc := by
    rcases hs.shape with ⟨e1, e2⟩ | ⟨g, cap, e1, _⟩
    · exact ⟨_, _, by rw [e1, ← hlen, e2]; rfl⟩
    · exact ⟨_, _, by rw [e1, hlen]⟩
  obtain ⟨sa, sc, rfl⟩ := hsh
  have Hs : Hid _ := hs
  have He : Hid _ := he
  have HG : Hid _ := hG
  have Hlen : Hid _ := hlen
  have Hst0 : Hid _ := hst0
  have HN0 : Hid _ := hN0
  have Hx0 : Hid _ := hx0
  have Hy0 : Hid _ := hy0
  have Hfx : Hid _ := hfx0
  have Hfy : Hid _ := hfy0
  clear hlen hst0 hN0 hs he hG hb0 h hx0 hy0 hfx0 hfy0
  go_wp2_with fail
  go_loopw [12] (fun i wr => ∃ (k : Nat) (m : Ls.Net) (a : Ls.Span) (P' Q' : Value), k ≤ l.length ∧ i = .int .i64 k ∧ Pk w wr B nb P Q P' Q' m x ∧ wr.heap[w.heap.size + 1]? = some (.cells #[.int .u32 a.first, .int .u32 a.last, .bool a.empty] 150 (0, 0)) ∧ a.first < 4294967296 ∧ a.last < 4294967296 ∧ m.places.length + sizes (l.drop k) ≤ 31 ∧ Ls.go (l.foldr Ls.rcons Ls.rnil) n ⟨0, 0, true⟩ = Ls.go ((l.drop k).foldr Ls.rcons Ls.rnil) m a) (fun i _ => l.length - (intOf i).toNat)
  case atStart =>
    exact ⟨0, n, ⟨0, 0, true⟩, P, Q, Nat.zero_le _, rfl, ⟨HN0.out, Hst0.out, Hx0.out, Hfx.out, Hfy.out⟩, Hy0.out, by simp, by simp, by simpa using hsz, by simp⟩
  case round =>
    obtain ⟨k, m, a, P', Q', hk, rfl, hpk, hall, hf, hl, hm, hgo⟩ := hrel
    have HK : Hid _ := hpk
    have Hall : Hid _ := hall
    have Hgo : Hid (Ls.go (l.foldr Ls.rcons Ls.rnil) n ⟨0, 0, true⟩ = Ls.go ((l.drop k).foldr Ls.rcons Ls.rnil) m a) := hgo
    have hBr : B ≤ wr.heap.size := Nat.le_trans hB hpk.step.size
    have hzr := hpk.fa.1
    clear hpk hall hgo
    by_cases hlt : k < l.length
    · have hsr := Hs.out.mono (w' := wr) (fun _ h => h) (fun j hj => HK.out.step.block j (HG.out j hj))
      have her := He.out.mono (w' := wr) (fun _ h => h) (fun j hj => HK.out.step.block j (HG.out j hj))
      have hGr : ∀ j, G j → Free wr nb P' Q' j := fun j hj => HK.out.step.free (HG.out j hj)
      obtain ⟨ty, y, hx, hrep⟩ := her.get k hlt
      obtain ⟨g, rfl, hc⟩ : ∃ g, sa = some ⟨g, 0, Option.none⟩ ∧ wr.cell? ⟨g, k, Option.none⟩ = some (.iface ty y) := by
        rcases hsr.shape with ⟨_, e⟩ | ⟨g', cap', e, _, hcell⟩
        · have := Hlen.out; rw [e] at this; simp at this; omega
        · injection e with e1 e2 e3
          exact ⟨g', e1, by rw [hcell k (by have := Hlen.out; omega), hx]⟩
      have hsd := sizes_drop l k hlt
      have hwd := hrep.wd
      obtain ⟨hb1, hb2, hb3, hb4⟩ := add_bd hwd HK.out.net.good (by omega)
      have hC := HI.out l[k] (List.getElem_mem hlt) wr B nb P' Q' m x G ty y HK.out.net hBr hGr hrep (by omega)
      have Hgo2 : Hid (Ls.go (l.foldr Ls.rcons Ls.rnil) n ⟨0, 0, true⟩ = Ls.go ((l.drop (k + 1)).foldr Ls.rcons Ls.rnil) (Ls.linkN (Ls.add l[k] m).1 a.last (Ls.add l[k] m).2.first) (Ls.rowS a (Ls.add l[k] m).2)) := by
        show _ = _
        rw [Hgo.out, List.drop_eq_getElem_cons hlt, go_row_step]
      have hm2 : (Ls.add l[k] m).1.places.length + sizes (l.drop (k + 1)) ≤ 31 := by omega
      clear hsr her hGr hx hrep hwd hsd hb3 hb4 Hgo
      generalize Ls.add l[k] m = r at *
      obtain ⟨m1, nx⟩ := r
      simp only at hb1 hb2 hm2
      go_wp2_with fail
      refine hC.mono ?_
      rintro e w1 ⟨P1, Q1, rfl, hN1, hst1⟩
      clear hC
      have hK1 := HK.out.next hN1 hst1
      have hall1 := hst1.own HK.out.fa Hall.out
      have hB2 := below_alloc1 w1 (.cells #[.int .u32 nx.first, .int .u32 nx.last, .bool nx.empty] 150)
      have hst2 := NStep.of_below nb P1 Q1 hB2
      have hK2 := hK1.next (hN1.below hB2) hst2
      have hall2 := hst2.own hK1.fa hall1
      have hfn2 := hN1.newFree (.cells #[.int .u32 nx.first, .int .u32 nx.last, .bool nx.empty] 150)
      have hnx2 := heap_alloc_new w1 (.cells #[.int .u32 nx.first, .int .u32 nx.last, .bool nx.empty] 150)
      have hz1 := hK1.fa.1
      obtain ⟨a0, a1, a2, a3⟩ := span_cells hall1
      have ha3 : ¬ w.heap.size + 1 = w1.heap.size := by omega
      have HK2 : Hid _ := hK2
      have Hall2 : Hid _ := hall2
      have Hfn2 : Hid _ := hfn2
      have Hnx2 : Hid _ := hnx2
      clear hN1 hst1 hK1 hK2 hst2 hall2 hfn2 hnx2 hall1 a3
      go_wp2_with fail
      refine (link_any _ B nb P1 Q1 m1 x HK2.out.net a.last nx.first hl hb1).mono ?_
      rintro e w3 ⟨rfl, hN3, hst3⟩
      have hK3 := HK2.out.next hN3 hst3
      have hall3 := hst3.own HK2.out.fa Hall2.out
      have hnx3 := hst3.own Hfn2.out Hnx2.out
      obtain ⟨a0, a1, a2, a3⟩ := span_cells hall3
      obtain ⟨n0, n1, n2, n3⟩ := span_cells hnx3
      have a30 := a3 0
      have a31 := a3 1
      have a32 := a3 2
      have hza := hK3.fa.1
      have hzn := (Array.getElem?_eq_some_iff.1 hnx3).1
      have hne1 : ¬ w1.heap.size = w.heap.size + 1 := fun e => ha3 e.symm
      have HK3 : Hid _ := hK3
      have Hall3 : Hid _ := hall3
      have HO1 : Hid _ := u32_or_nat a.first nx.first hf hb1
      have HO2 : Hid _ := u32_or_nat a.last nx.last hl hb2
      have HO3 : Hid (bits .or .u32 0 (nx.last : Int) = ((0 ||| nx.last : Nat) : Int)) := u32_or_nat 0 nx.last (by omega) hb2
      have ho3 := or32 0 nx.last (by omega) hb2
      have ho1 := or32 _ _ hf hb1
      have ho2 := or32 _ _ hl hb2
      clear hN3 hst3 hall3 hnx3 hK3 a3 n3 HK2 Hall2 Hfn2 Hnx2
      have fin : ∀ (u v : Nat) (b : Bool), Ls.rowS a nx = ⟨u, v, b⟩ → u < 4294967296 → v < 4294967296 → ∀ W : World, Pk w W B nb P Q P1 Q1 (Ls.linkN m1 a.last nx.first) x → W.heap[w.heap.size + 1]? = some (.cells #[.int .u32 u, .int .u32 v, .bool b] 150 (0, 0)) →
          ∃ (k_1 : Nat) (m : Ls.Net) (a : Ls.Span) (P' Q' : Value), k_1 ≤ l.length ∧ Value.int .i64 ((k : Int) + 1) = .int .i64 k_1 ∧ Pk w W B nb P Q P' Q' m x ∧ W.heap[w.heap.size + 1]? = some (.cells #[.int .u32 a.first, .int .u32 a.last, .bool a.empty] 150 (0, 0)) ∧ a.first < 4294967296 ∧ a.last < 4294967296 ∧ m.places.length + sizes (l.drop k_1) ≤ 31 ∧ Ls.go (l.foldr Ls.rcons Ls.rnil) n ⟨0, 0, true⟩ = Ls.go ((l.drop k_1).foldr Ls.rcons Ls.rnil) m a := by
        intro u v b hr hu hv W h1 h2
        refine ⟨k + 1, Ls.linkN m1 a.last nx.first, ⟨u, v, b⟩, P1, Q1, by omega, by simp, h1, h2, hu, hv, by simpa [Ls.linkN] using hm2, ?_⟩
        rw [Hgo2.out]; rw [hr]
      have Hfin : Hid _ := fin
      clear fin
      cases hae : a.empty with
      | true =>
        rw [hae] at a2
        cases hne : nx.empty with
        | true =>
          rw [hne] at n2
          have HR : Hid (Ls.rowS a nx = ⟨a.first ||| nx.first, a.last ||| nx.last, true⟩) := by simp [Hid, Ls.rowS, hae, hne]
          clear hae hne
          go_wp2_with fail
          rw [HO1.out, HO2.out]
          go_roundw
          case rel => exact Hfin.out _ _ _ HR.out ho1 ho2 _ (((HK3.out.set _ _).set _ _).set _ _) (by have := Hall3.out; simp [World.setCell, Array.getElem?_modify, this])
          case measure => simp [intOf]; omega
        | false =>
          rw [hne] at n2
          have HR : Hid (Ls.rowS a nx = ⟨a.first ||| nx.first, 0 ||| nx.last, false⟩) := by simp [Hid, Ls.rowS, hae, hne]
          clear hae hne
          go_wp2_with fail
          rw [HO1.out, HO3.out]
          go_roundw
          case rel => exact Hfin.out _ _ _ HR.out ho1 ho3 _ ((((HK3.out.set _ _).set _ _).set _ _).set _ _) (by have := Hall3.out; simp [World.setCell, Array.getElem?_modify, this])
          case measure => simp [intOf]; omega
      | false =>
        rw [hae] at a2
        cases hne : nx.empty with
        | true =>
          rw [hne] at n2
          have HR : Hid (Ls.rowS a nx = ⟨a.first, a.last ||| nx.last, false⟩) := by simp [Hid, Ls.rowS, hae, hne]
          clear hae hne
          go_wp2_with fail
          rw [HO2.out]
          go_roundw
          case rel => exact Hfin.out _ _ _ HR.out hf ho2 _ ((HK3.out.set _ _).set _ _) (by have := Hall3.out; simp [World.setCell, Array.getElem?_modify, this])
          case measure => simp [intOf]; omega
        | false =>
          rw [hne] at n2
          have HR : Hid (Ls.rowS a nx = ⟨a.first, 0 ||| nx.last, false⟩) := by simp [Hid, Ls.rowS, hae, hne]
          clear hae hne
          go_wp2_with fail
          rw [HO3.out]
          go_roundw
          case rel => exact Hfin.out _ _ _ HR.out hf ho3 _ (((HK3.out.set _ _).set _ _).set _ _) (by have := Hall3.out; simp [World.setCell, Array.getElem?_modify, this])
          case measure => simp [intOf]; omega
    · have hk1 : k = l.length := by omega
      have Hgo2 : Hid (Ls.go (l.foldr Ls.rcons Ls.rnil) n ⟨0, 0, true⟩ = (m, a)) := by
        show _ = _
        rw [Hgo.out, hk1, List.drop_length]; exact Ls.go_rnil m a
      obtain ⟨a0, a1, a2, a3⟩ := span_cells Hall.out
      obtain ⟨s0, s1, s2, s3⟩ := span_cells HK.out.res
      have s30 := s3 0
      have s31 := s3 1
      have s32 := s3 2
      clear a3 s3
      have hzw : w.heap.size < wr.heap.size := by omega
      go_wp2_with fail
      refine bodyPost_ret (v := spanV a) (by simp [results, Tryz.results115, go_sem, s0, s1, s2]) rfl ⟨P', Q', by rw [Hgo2.out], ?_⟩
      rw [Hgo2.out]
      exact span_store HK.out.net HK.out.step HK.out.fr (Nat.le_refl _) _ _ _

end Go.Proofs.YtfklinjaajafgaaGreatDoor
