import Derived.Test.YtfklinjaajafgaaGreatDoorLsPP
import Derived.Deep.CutBlock
/- Once: can no text be cut in two ways? -/
namespace Go.Proofs.YtfklinjaajafgaaGreatDoor
open Go.RowKit

theorem crossO_nil {S T : Ls.Tab} {a : Ls.Pr} (h : ¬ (a.1 = 0 ∧ S.ends[a.2.1]? = some true)) (k : Nat) : crossO S T a k = [] := by unfold crossO; rw [if_neg h]
theorem crossO_pos {S T : Ls.Tab} {a : Ls.Pr} (h : a.1 = 0 ∧ S.ends[a.2.1]? = some true) (k : Nat) : crossO S T a k = prs 1 (S.row a.2.2 k) (T.row 0 k) := by unfold crossO; rw [if_pos h]

/-- The two tables that a pair is looked up in. -/
theorem sides {p q : Ls.Pat} {P Q : List Ls.Pat} (hP : Ls.Room P) (hQ : Ls.Room Q) {L : List UInt8} {S T : Ls.Tab} {ss ts : List Ls.Pat} (hS : Ls.TabOf p L S ss) (hT : Ls.TabOf q L T ts) (sP : ∀ x, x ∈ ss → x ∈ P) (sQ : ∀ x, x ∈ ts → x ∈ Q) (nP : P.length ≤ 991233) (nQ : Q.length ≤ 991233) {a : Ls.Pr} (h : IO3 ss.length ts.length a) {k : Nat} (hk : k < L.length) :
    (∃ r, (Ls.sideX S T a.1).to[a.2.1]? = some r ∧ k < r.length ∧ ((Ls.sideX S T a.1).row a.2.1 k).length ≤ 991233) ∧ (∃ r, (Ls.sideY S T a.1).to[a.2.2]? = some r ∧ k < r.length ∧ ((Ls.sideY S T a.1).row a.2.2 k).length ≤ 991233) := by
  have fS : ∀ i, i < ss.length → ∃ r, S.to[i]? = some r ∧ k < r.length ∧ (S.row i k).length ≤ 991233 := fun i hi => by
    obtain ⟨r, h1, h2, _⟩ := hS.row i _ (List.getElem?_eq_getElem hi)
    exact ⟨r, h1, by omega, Nat.le_trans (hS.row_length hP sP hi hk) nP⟩
  have fT : ∀ i, i < ts.length → ∃ r, T.to[i]? = some r ∧ k < r.length ∧ (T.row i k).length ≤ 991233 := fun i hi => by
    obtain ⟨r, h1, h2, _⟩ := hT.row i _ (List.getElem?_eq_getElem hi)
    exact ⟨r, h1, by omega, Nat.le_trans (hT.row_length hQ sQ hi hk) nQ⟩
  rcases h with ⟨e, h4, h5⟩ | ⟨e, h4, h5⟩ | ⟨e, h4, h5⟩ <;> rw [e] <;> simp only [Ls.sideX, Ls.sideY]
  · exact ⟨fS _ h4, fS _ h5⟩
  · exact ⟨fS _ h4, fT _ h5⟩
  · exact ⟨fT _ h4, fT _ h5⟩

/-- steps, upon a list that grows. -/
theorem steps_grows {wk W : World} {base : Nat} {v : Value} {ps : List Ls.Pr} (hbase : base ≤ wk.heap.size) (hne : ps ≠ []) {wx : World} {lv : Value} {ms2 : List Ls.Pr} (gx : GrowsP wk base v wx lv (addAll ps ms2)) (hx : Below wx.heap.size wx W) {va vb : Value} {a b : List Nat} (ha : IV wk (Ge wk v) va a) (hb : IV wk (Ge wk v) vb b) (hla : a.length ≤ 991233) (hlb : b.length ≤ 991233) (hn : (addAll ps ms2).length ≤ 2947628580867) (ph : Nat) :
    Calls Tryz.prog 42 #[lv, va, vb, .int .i64 ph] W fun e w5 => ∃ x1 x2 x3, e = .returned (.slice x1 x2 x3) ∧ GrowsP wk base v w5 (.slice x1 x2 x3) (addAll ps (ms2 ++ prs ph a b)) := by
  have gW := gx.below hx
  have hpl := prs_length ph a b
  have hmm := Nat.mul_le_mul hla hlb
  refine (steps_any W base (by have := gW.grown.size; omega) lv _ gW.pl (addAll_ne hne _) (Ge W lv) (fun k hk => hk.1) (fun k hk => hk.2) va vb a b (ha.mono2 gW.ge) (hb.mono2 gW.ge) (by omega) (by omega) ph (by rw [hpl]; omega)).mono ?_
  rintro e w5 ⟨v5, rfl, g5⟩
  have key := gW.next g5
  rw [← addAll_append] at key
  rcases ownsRow_split g5.pl with ⟨rfl, _⟩ | ⟨g', cap', rfl⟩
  · exact ⟨_, _, _, rfl, key⟩
  · exact ⟨_, _, _, rfl, key⟩

set_option maxRecDepth 100000 in
set_option maxHeartbeats 2000000 in
theorem once_any (p q : Ls.Pat) (P Q : List Ls.Pat) (hP : Ls.Room P) (hQ : Ls.Room Q) (hpP : p ∈ P) (hqQ : q ∈ Q) (nP : P.length ≤ 991233) (nQ : Q.length ≤ 991233) (sp : Ls.Signed p) (sq : Ls.Signed q) (y z : Value) (w : World) (G : Nat → Prop) (hG : Old w G) (hp : PV w G p y) (hq : PV w G q z) :
    Calls Tryz.prog 16 #[patA p y, patA q z] w fun e w' => ∃ b : Bool, e = .returned (.bool b) ∧ (b = true ↔ ¬ Ls.Twice p q) ∧ Below w.heap.size w w' := by
  have Hp : Hid (PV w G p y) := hp
  have Hq : Hid (PV w G q z) := hq
  obtain ⟨y1, y2, y3, rfl⟩ := PV.slice _ _ hp
  obtain ⟨z1, z2, z3, rfl⟩ := PV.slice _ _ hq
  clear hp hq
  have okp := hP.ok p hpP
  have okq := hQ.ok q hqQ
  have hb0 := below_alloc2 w (.cells #[.int .i64 p.kind, .string ⟨p.signs.toArray⟩, .slice y1 y2 y3] 27) (.cells #[.int .i64 q.kind, .string ⟨q.signs.toArray⟩, .slice z1 z2 z3] 27)
  have hl1 := lies_new (w.alloc (.cells #[.int .i64 p.kind, .string ⟨p.signs.toArray⟩, .slice y1 y2 y3] 27)) (patC q (.slice z1 z2 z3))
  rw [World.size_alloc] at hl1
  have hl0 : Lies ((w.alloc (.cells #[.int .i64 p.kind, .string ⟨p.signs.toArray⟩, .slice y1 y2 y3] 27)).alloc (.cells #[.int .i64 q.kind, .string ⟨q.signs.toArray⟩, .slice z1 z2 z3] 27)) w.heap.size (patC p (.slice y1 y2 y3)) := by
    unfold Lies
    rw [Below.heap_alloc _ _ _ (by simp)]
    exact lies_new w (patC p (.slice y1 y2 y3))
  go_enter Tryz.func16, Tryz.ntmps16
  go_wp2_with fail
  refine (letters_any p q okp.1 okq.1 okp.2.2.1 okq.2.2.1 okp.2.1 okq.2.1 _ _ _ G (hG.below hb0) (Hp.out.below hb0 hG fun _ h => h) (Hq.out.below hb0 hG fun _ h => h)).mono ?_
  rintro e w1 ⟨L, rfl, hL, hLn, hb1⟩
  have hb01 := Below.join hb0 hb1
  have hl01 := hl0.below hb1 (by simp; omega)
  have hl11 := hl1.below hb1 (by simp)
  obtain ⟨c0, c1, c2⟩ := hl01.three
  clear hl0 hl1
  go_wp2_with fail
  refine (table_any p P hP hpP L (by omega) _ _ G (hG.below hb01) (Hp.out.below hb01 hG fun _ h => h)).mono ?_
  rintro e w2 ⟨sb, S, ss, rfl, hsv, htS, hnS, hsP, hb2⟩
  have hb02 := Below.join hb01 hb2
  have hz1 := hb1.size
  simp at hz1
  have hl12 := hl11.below hb2 (by omega)
  obtain ⟨d0, d1, d2⟩ := hl12.three
  clear c0 c1 c2 hl01 hl11
  go_wp2_with fail
  refine (table_any q Q hQ hqQ L (by omega) _ _ G (hG.below hb02) (Hq.out.below hb02 hG fun _ h => h)).mono ?_
  rintro e w3 ⟨tb, T, ts, rfl, htv, htT, hnT, hsQ, hb3⟩
  have hb03 := Below.join hb02 hb3
  clear d0 d1 d2 hl12
  have hb4 := below_alloc1 w3 (.cells #[.int .i64 0, .int .i64 0, .int .i64 0] 68)
  have hpl : PL (w3.alloc (.cells #[.int .i64 0, .int .i64 0, .int .i64 0] 68)) w3.heap.size (.slice (some ⟨w3.heap.size, 0, Option.none⟩) 1 1) [(0, 0, 0)] :=
    World.ownsRow_lit (e := 68) (size := 3) w3 (flatP [(0, 0, 0)]).toArray 1 (Nat.le_refl _) (by unfold maxLen; omega) rfl
  have tvS : TV (w3.alloc (.cells #[.int .i64 0, .int .i64 0, .int .i64 0] 68)) (Ge (w3.alloc (.cells #[.int .i64 0, .int .i64 0, .int .i64 0] 68)) (.slice (some ⟨w3.heap.size, 0, Option.none⟩) 1 1)) sb S :=
    hsv.mono (fun k hk => by
      have h3 := hb3.size
      exact ⟨⟨by simp; omega, by simp [Value.ownBlock]; omega⟩, (Below.join hb3 hb4).block k hk.2⟩)
  have tvT : TV (w3.alloc (.cells #[.int .i64 0, .int .i64 0, .int .i64 0] 68)) (Ge (w3.alloc (.cells #[.int .i64 0, .int .i64 0, .int .i64 0] 68)) (.slice (some ⟨w3.heap.size, 0, Option.none⟩) 1 1)) tb T :=
    htv.mono (fun k hk => ⟨⟨by simp; omega, by simp [Value.ownBlock]; omega⟩, hb4.block k hk.2⟩)
  have gp := GrowsP.start hpl
  have h0S : 0 < ss.length := (List.getElem?_eq_some_iff.1 htS.first).1
  have h0T : 0 < ts.length := (List.getElem?_eq_some_iff.1 htT.first).1
  have bf0 := BF.start (Ls.edgeO S T L.length) (Ls.accO T) (I := IO3 ss.length ts.length) (.inl ⟨rfl, h0S, h0S⟩)
  have HE : Hid (∀ a b : Ls.Pr, IO3 ss.length ts.length a → Ls.edgeO S T L.length a b → IO3 ss.length ts.length b) := fun a b h he => h.step htS htT he
  have hN := sq_bd (N := max ss.length ts.length) (by omega)
  have Hres := Ls.once_iff okp.1 okq.1 sp sq hL htS htT
  have hb04 := Below.join hb03 hb4
  have hwl : w3.heap.size ≤ (w3.alloc (.cells #[.int .i64 0, .int .i64 0, .int .i64 0] 68)).heap.size := hb4.size
  have hv0 : ∀ k, (Value.slice (some ⟨w3.heap.size, 0, Option.none⟩) 1 1).ownBlock = some k → w.heap.size ≤ k := fun k e => by
    have := hb03.size
    have e2 : w3.heap.size = k := by simpa [Value.ownBlock] using e
    omega
  clear hpl hsv htv hb4 Hp Hq
  go_wp2_with fail
  generalize w3.alloc (.cells #[.int .i64 0, .int .i64 0, .int .i64 0] 68) = wl at *
  generalize (Value.slice (some ⟨w3.heap.size, 0, Option.none⟩) 1 1) = v0 at *
  go_loopw [8, 9] (fun lv iv wr => ∃ (i : Nat) (ps : List Ls.Pr), iv = .int .i64 i ∧ GrowsP wl w3.heap.size v0 wr lv ps ∧ BF (Ls.edgeO S T L.length) (Ls.accO T) (IO3 ss.length ts.length) ps i) (fun _ iv _ => 2947628580868 - (intOf iv).toNat)
  case atStart => exact ⟨0, [(0, 0, 0)], rfl, gp, bf0⟩
  case round =>
    obtain ⟨i, ps, rfl, gr, bf⟩ := hrel
    have hlen := bf.length (fun a ha => ha.inR)
    have hne : ps ≠ [] := fun e => by have := bf.first; rw [e] at this; simp at this
    obtain ⟨g, cap, rfl⟩ := gr.pl.some hne
    by_cases hlt : i < ps.length
    · obtain ⟨c0, c1, c2⟩ := gr.pl.cells i hlt
      have Hio : Hid (IO3 ss.length ts.length ps[i]) := bf.inR _ (List.getElem_mem hlt)
      have hgb := World.ownsRow.lt gr.pl g rfl
      have p0 := lies_newP wr ps[i] 0
      have p1 := lies_newP wr ps[i] 1
      have p2 := lies_newP wr ps[i] 2
      simp only [prC, List.getElem?_cons_zero, List.getElem?_cons_succ] at p0 p1 p2
      have gwi := gr.below (below_alloc1 wr (.cells #[.int .i64 ps[i].1, .int .i64 ps[i].2.1, .int .i64 ps[i].2.2] 68))
      have hpb : Ge (wr.alloc (.cells #[.int .i64 ps[i].1, .int .i64 ps[i].2.1, .int .i64 ps[i].2.2] 68)) (.slice (some ⟨g, 0, Option.none⟩) ps.length cap) wr.heap.size := ⟨by simp, by simp [Value.ownBlock]; omega⟩
      have tT := tvT.mono gwi.ge
      go_upto_if 58 with fail
      go_cut [58] (fun v wx => ∃ b : Bool, v = .bool b ∧ (b = true ↔ Ls.accO T ps[i]) ∧ Below (wr.heap.size + 1) (wr.alloc (.cells #[.int .i64 ps[i].1, .int .i64 ps[i].2.1, .int .i64 ps[i].2.2] 68)) wx)
      case first =>
        by_cases hph : ps[i].1 = 2
        · have hp2 : ((ps[i].1 : Int) == 2) = true := by simp [hph]
          obtain ⟨hx, hy⟩ : ps[i].2.1 < ts.length ∧ ps[i].2.2 < ts.length := by
            rcases Hio.out with h | h | h
            · omega
            · omega
            · exact h.2
          have hxE : ps[i].2.1 < T.ends.length := by rw [htT.lenE]; exact hx
          have hyE : ps[i].2.2 < T.ends.length := by rw [htT.lenE]; exact hy
          have gS0 : T.ends[ps[i].2.1]? = some T.ends[ps[i].2.1] := List.getElem?_eq_getElem hxE
          have gT0 : T.ends[ps[i].2.2]? = some T.ends[ps[i].2.2] := List.getElem?_eq_getElem hyE
          obtain ⟨gS, cS, e0, e1, _, _⟩ := tT.end' gS0
          obtain ⟨gT, cT, e2, e3, _, _⟩ := tT.end' gT0
          have ee := e0.symm.trans e2
          injection ee with ee
          injection ee with ee1 _ ee3
          injection ee1 with ee1
          injection ee1 with ee1
          subst ee1 ee3
          have HgS : Hid (T.ends[ps[i].2.1]? = some T.ends[ps[i].2.1]) := gS0
          have HgT : Hid (T.ends[ps[i].2.2]? = some T.ends[ps[i].2.2]) := gT0
          have Hph : Hid (ps[i].1 = 2) := hph
          clear gS0 gT0 hph e2
          cases hes : T.ends[ps[i].2.1] with
          | true =>
            rw [hes] at e1
            cases het : T.ends[ps[i].2.2] with
            | true =>
              rw [het] at e3
              have HF : Hid (Ls.accO T ps[i]) := ⟨Hph.out, by rw [HgS.out, hes], by rw [HgT.out, het]⟩
              clear hes het
              go_wp2_with fail
              go_quiet (fail)
              go_wp2_with fail
              go_meet
              case rel => exact ⟨true, rfl, by simp [HF.out], below_drewN' _ nq _⟩
            | false =>
              rw [het] at e3
              have HF : Hid (¬ Ls.accO T ps[i]) := fun h => by have h2 := h.2.2; rw [HgT.out, het] at h2; cases h2
              clear hes het
              go_wp2_with fail
              go_quiet (fail)
              go_wp2_with fail
              go_meet
              case rel => exact ⟨false, rfl, by simp [HF.out], below_drewN' _ nq _⟩
          | false =>
            rw [hes] at e1
            have HF : Hid (¬ Ls.accO T ps[i]) := fun h => by have h2 := h.2.1; rw [HgS.out, hes] at h2; cases h2
            clear hes
            go_wp2_with fail
            go_quiet (fail)
            go_wp2_with fail
            go_meet
            case rel => exact ⟨false, rfl, by simp [HF.out], below_drewN' _ nq _⟩
        · have hp2 : ((ps[i].1 : Int) == 2) = false := by simp; omega
          have HF : Hid (¬ Ls.accO T ps[i]) := fun h => hph h.1
          clear hph
          go_wp2_with fail
          go_quiet (fail)
          go_wp2_with fail
          go_meet
          case rel => exact ⟨false, rfl, by simp [HF.out], below_drewN' _ nq _⟩
      case rest =>
        obtain ⟨b, rfl, hba, hbc⟩ := hcut
        have gwc := gwi.below (w' := wc) (by simpa using hbc)
        cases b with
        | true =>
          have HF : Hid (∃ n, Ls.Hit (Ls.edgeO S T L.length) (Ls.accO T) n (0, 0, 0)) := bf.found hlt (hba.1 rfl)
          clear hba
          go_wp2_with fail
          go_ret
          exact ⟨false, rfl, by rw [← Hres]; simp [HF.out], hb04.grown gwc.grown (by have := hb04.size; omega) hv0⟩
        | false =>
          have HF : Hid (¬ Ls.accO T ps[i]) := fun h => by have := hba.2 h; cases this
          clear hba
          have q0 : wc.cell? ⟨wr.heap.size, 0, Option.none⟩ = some (.int .i64 ps[i].1) := (hbc.cell (p := ⟨wr.heap.size, 0, Option.none⟩) (by show wr.heap.size < _; omega)).trans p0
          have q1 : wc.cell? ⟨wr.heap.size, 1, Option.none⟩ = some (.int .i64 ps[i].2.1) := (hbc.cell (p := ⟨wr.heap.size, 1, Option.none⟩) (by show wr.heap.size < _; omega)).trans p1
          have q2 : wc.cell? ⟨wr.heap.size, 2, Option.none⟩ = some (.int .i64 ps[i].2.2) := (hbc.cell (p := ⟨wr.heap.size, 2, Option.none⟩) (by show wr.heap.size < _; omega)).trans p2
          have tSc := tvS.mono gwc.ge
          have tTc := tvT.mono gwc.ge
          have hpc : Ge wc (.slice (some ⟨g, 0, Option.none⟩) ps.length cap) wr.heap.size := ⟨by have := hbc.size; simp at this; omega, hpb.2⟩
          have HB : Hid (∀ m : List Ls.Pr, (∀ b, b ∈ m → Ls.edgeO S T L.length ps[i] b) → (addAll ps m).length ≤ 2947628580867) := fun m hm =>
            Nat.le_trans (bf.part hlt hm (fun b hb => HE.out _ b Hio.out hb) (fun a ha => ha.inR)) hN
          clear p0 p1 p2 tT hpb
          have gc := GrowsP.start gwc.pl
          go_wp2_with fail
          clear hbc gwi hgb
          generalize wr.heap.size = pb at *
          go_loopw [8, 11] (fun lv kv wx => ∃ k : Nat, k ≤ L.length ∧ kv = .int .i64 k ∧ GrowsP wc w3.heap.size (.slice (some ⟨g, 0, Option.none⟩) ps.length cap) wx lv (addAll ps (sucO S T ps[i] k))) (fun _ kv _ => L.length - (intOf kv).toNat)
          case atStart => exact ⟨0, Nat.zero_le _, rfl, gc⟩
          case round =>
            obtain ⟨k, hk, rfl, gk⟩ := hrel
            obtain ⟨lk, hlk⟩ : ∃ lk, lk = u8 := ⟨_, rfl⟩
            subst hlk
            obtain ⟨k0, k1, k2⟩ : wr.cell? ⟨pb, 0, Option.none⟩ = some (.int .i64 ps[i].1) ∧ wr.cell? ⟨pb, 1, Option.none⟩ = some (.int .i64 ps[i].2.1) ∧ wr.cell? ⟨pb, 2, Option.none⟩ = some (.int .i64 ps[i].2.2) := ⟨(gk.cell hpc _).trans q0, (gk.cell hpc _).trans q1, (gk.cell hpc _).trans q2⟩
            by_cases hkl : k < L.length
            · have hpk : pb < wr.heap.size := (gk.ge pb hpc).1.1
              have gk' := gk.below (below_alloc1 wr (.cells #[.int .i64 ps[i].1, .int .i64 ps[i].2.1, .int .i64 ps[i].2.2] 68))
              have hpw := (gk'.ge pb hpc).1
              have hfw : Ge (wr.alloc (.cells #[.int .i64 ps[i].1, .int .i64 ps[i].2.1, .int .i64 ps[i].2.2] 68)) lk wr.heap.size := ⟨by simp, fun e => by have := World.ownsRow.lt gk.pl _ e.symm; omega⟩
              have n0 : (wr.alloc (.cells #[.int .i64 ps[i].1, .int .i64 ps[i].2.1, .int .i64 ps[i].2.2] 68)).cell? ⟨pb, 0, Option.none⟩ = some (.int .i64 ps[i].1) := (gk'.cell hpc _).trans q0
              have n1 : (wr.alloc (.cells #[.int .i64 ps[i].1, .int .i64 ps[i].2.1, .int .i64 ps[i].2.2] 68)).cell? ⟨pb, 1, Option.none⟩ = some (.int .i64 ps[i].2.1) := (gk'.cell hpc _).trans q1
              have n2 : (wr.alloc (.cells #[.int .i64 ps[i].1, .int .i64 ps[i].2.1, .int .i64 ps[i].2.2] 68)).cell? ⟨pb, 2, Option.none⟩ = some (.int .i64 ps[i].2.2) := (gk'.cell hpc _).trans q2
              have f1 := lies_newP wr ps[i] 1
              have f2 := lies_newP wr ps[i] 2
              simp only [prC, List.getElem?_cons_zero, List.getElem?_cons_succ] at f1 f2
              have tSk := tSc.mono gk'.ge
              have tTk := tTc.mono gk'.ge
              have gK := GrowsP.start gk'.pl
              have Hgk : Hid (GrowsP wc w3.heap.size (.slice (some ⟨g, 0, Option.none⟩) ps.length cap) (wr.alloc (.cells #[.int .i64 ps[i].1, .int .i64 ps[i].2.1, .int .i64 ps[i].2.2] 68)) lk (addAll ps (sucO S T ps[i] k))) := gk'
              clear gk'
              go_upto_block 4 with fail
              generalize hwk : (wr.alloc (.cells #[.int .i64 ps[i].1, .int .i64 ps[i].2.1, .int .i64 ps[i].2.2] 68)) = wk at *
              generalize hfb : wr.heap.size = fb at *
              clear hwk hfb
              have hbase : w3.heap.size ≤ wk.heap.size := by have := Hgk.out.grown.size; have := gwc.grown.size; omega
              have HBk : Hid ((addAll ps (sucO S T ps[i] k)).length ≤ 2947628580867) := HB.out _ (fun b hb => mem_sucO' hb (by omega))
              have HBx : Hid ((addAll ps (sucO S T ps[i] k ++ crossO S T ps[i] k)).length ≤ 2947628580867) := HB.out _ (fun b hb => by
                rw [List.mem_append] at hb
                rcases hb with hb | hb
                · exact mem_sucO' hb (by omega)
                · have : b ∈ sucO S T ps[i] (k + 1) := by rw [sucO_succ]; simp [hb]
                  exact mem_sucO' this hkl)
              go_cut [8, 12, 13] (fun lv xv yv wx => xv = .pointer (some ⟨if ps[i].1 = 2 then tb else sb, 0, Option.none⟩) ∧ yv = .pointer (some ⟨if ps[i].1 = 0 then sb else tb, 0, Option.none⟩) ∧ GrowsP wk w3.heap.size lk wx lv (addAll ps (sucO S T ps[i] k ++ crossO S T ps[i] k)))
              case first =>
                by_cases hph0 : ps[i].1 = 0
                · have h0 : ((ps[i].1 : Int) == 0) = true := by simp [hph0]
                  obtain ⟨hx, hy⟩ : ps[i].2.1 < ss.length ∧ ps[i].2.2 < ss.length := by
                    rcases Hio.out with h | h | h
                    · exact h.2
                    · omega
                    · omega
                  have hxE : ps[i].2.1 < S.ends.length := by rw [htS.lenE]; exact hx
                  have gS0 : S.ends[ps[i].2.1]? = some S.ends[ps[i].2.1] := List.getElem?_eq_getElem hxE
                  obtain ⟨gE, cE, e0, e1, _, _⟩ := tSk.end' gS0
                  have HgS : Hid (S.ends[ps[i].2.1]? = some S.ends[ps[i].2.1]) := gS0
                  have Hp0 : Hid (ps[i].1 = 0) := hph0
                  clear gS0 hph0
                  cases hes : S.ends[ps[i].2.1] with
                  | false =>
                    rw [hes] at e1
                    have HX : Hid (crossO S T ps[i] k = []) := crossO_nil (fun h => by have h2 := h.2; rw [HgS.out, hes] at h2; cases h2) k
                    clear hes
                    go_wp2_with fail
                    go_quiet (fail)
                    go_wp2_with fail
                    go_meet
                    case rel =>
                      refine ⟨by rw [if_neg (by rw [Hp0.out]; omega)], by rw [if_pos Hp0.out], ?_⟩
                      rw [HX.out, List.append_nil]
                      exact gK.below (below_drewN' _ nq _)
                  | true =>
                    rw [hes] at e1
                    have HX : Hid (crossO S T ps[i] k = prs 1 (S.row ps[i].2.2 k) (T.row 0 k)) := crossO_pos ⟨Hp0.out, by rw [HgS.out, hes]⟩ k
                    clear hes
                    go_wp2_with fail
                    go_quiet (fail)
                    go_wp2_with fail
                    obtain ⟨rS, hrS, lrS, _⟩ := htS.row ps[i].2.2 _ (List.getElem?_eq_getElem hy)
                    obtain ⟨rT, hrT, lrT, _⟩ := htT.row 0 _ (List.getElem?_eq_getElem h0T)
                    obtain ⟨gA, cA, gr1, nr1, cr1, la, lc, a0, a1, a2, A0, A1, A2, hn1, ivS⟩ := tSk.at' hrS (k := k) (by omega)
                    obtain ⟨gB, cB, gr2, nr2, cr2, ma, mc, b0, b1, b2, B0, B1, B2, hn2, ivT⟩ := tTk.at' hrT (k := k) (by omega)
                    have hn1' : k < nr1 := by omega
                    have hn2' : k < nr2 := by omega
                    have hyl : ps[i].2.2 < S.to.length := (List.getElem?_eq_some_iff.1 hrS).1
                    have h0l : 0 < T.to.length := (List.getElem?_eq_some_iff.1 hrT).1
                    have lS := htS.row_length hP hsP hy hkl
                    have lT := htT.row_length hQ hsQ h0T hkl
                    have HS : Hid (∀ wx lv ps', GrowsP wk w3.heap.size lk wx lv ps' → (wx.cell? ⟨sb, 0, Option.none⟩ = some (.slice (some ⟨gA, 0, Option.none⟩) S.to.length cA) ∧ wx.cell? ⟨gA, ps[i].2.2, Option.none⟩ = some (.slice (some ⟨gr1, 0, Option.none⟩) nr1 cr1) ∧ wx.cell? ⟨gr1, k, Option.none⟩ = some (.slice la (S.row ps[i].2.2 k).length lc)) ∧ (wx.cell? ⟨tb, 0, Option.none⟩ = some (.slice (some ⟨gB, 0, Option.none⟩) T.to.length cB) ∧ wx.cell? ⟨gB, 0, Option.none⟩ = some (.slice (some ⟨gr2, 0, Option.none⟩) nr2 cr2) ∧ wx.cell? ⟨gr2, k, Option.none⟩ = some (.slice ma (T.row 0 k).length mc)) ∧ wx.cell? ⟨pb, 2, Option.none⟩ = some (.int .i64 ps[i].2.2)) := fun wx lv ps' h => ⟨⟨(h.cell A0 _).trans a0, (h.cell A1 _).trans a1, (h.cell A2 _).trans a2⟩, ⟨(h.cell B0 _).trans b0, (h.cell B1 _).trans b1, (h.cell B2 _).trans b2⟩, (h.cell hpw _).trans n2⟩
                    have HC : Hid (∀ W, Below (wk.drewN nq).heap.size (wk.drewN nq) W → Calls Tryz.prog 42 #[lk, .slice la (S.row ps[i].2.2 k).length lc, .slice ma (T.row 0 k).length mc, .int .i64 1] W fun e w5 => ∃ x1 x2 x3, e = .returned (.slice x1 x2 x3) ∧ GrowsP wk w3.heap.size lk w5 (.slice x1 x2 x3) (addAll ps (sucO S T ps[i] k ++ crossO S T ps[i] k))) := fun W hW => by
                      have hW2 := (below_drewN' wk nq wk.heap.size).trans hW
                      rw [HX.out]
                      exact steps_grows hbase hne gK hW2 ivS ivT (by omega) (by omega) HBk.out 1
                    have hsz := HS.out _ _ _ (gK.below (below_drewN' wk nq wk.heap.size))
                    clear e0 e1 a0 a1 a2 b0 b1 b2 hrS hrT lrS lrT hn1 hn2 ivS ivT
                    generalize wk.drewN nq = wz at *
                    go_region_held (fun w' => (w'.cell? ⟨sb, 0, Option.none⟩ = some (.slice (some ⟨gA, 0, Option.none⟩) S.to.length cA) ∧ w'.cell? ⟨gA, ps[i].2.2, Option.none⟩ = some (.slice (some ⟨gr1, 0, Option.none⟩) nr1 cr1) ∧ w'.cell? ⟨gr1, k, Option.none⟩ = some (.slice la (S.row ps[i].2.2 k).length lc)) ∧ (w'.cell? ⟨tb, 0, Option.none⟩ = some (.slice (some ⟨gB, 0, Option.none⟩) T.to.length cB) ∧ w'.cell? ⟨gB, 0, Option.none⟩ = some (.slice (some ⟨gr2, 0, Option.none⟩) nr2 cr2) ∧ w'.cell? ⟨gr2, k, Option.none⟩ = some (.slice ma (T.row 0 k).length mc)) ∧ w'.cell? ⟨pb, 2, Option.none⟩ = some (.int .i64 ps[i].2.2)) (first | assumption | go_keep) ((go_at_call 42; refine (HC.out _ ?_).mono ?_; exact (Below.refl _ _).drew; rintro e w5 ⟨x1, x2, x3, rfl, g5⟩; have hs5 := HS.out _ _ _ g5))
                    go_wp2_with fail
                    go_meet
                    case rel => exact ⟨by rw [if_neg (by rw [Hp0.out]; omega)], by rw [if_pos Hp0.out], g5⟩
                · have HX : Hid (crossO S T ps[i] k = []) := crossO_nil (fun h => hph0 h.1) k
                  have h0 : ((ps[i].1 : Int) == 0) = false := by simp; omega
                  have Hp0 : Hid (¬ ps[i].1 = 0) := hph0
                  clear hph0
                  by_cases hph2 : ps[i].1 = 2
                  · have h2 : ((ps[i].1 : Int) == 2) = true := by simp [hph2]
                    have Hp2 : Hid (ps[i].1 = 2) := hph2
                    clear hph2
                    go_wp2_with fail
                    go_meet
                    case rel =>
                      refine ⟨by rw [if_pos Hp2.out], by rw [if_neg Hp0.out], ?_⟩
                      rw [HX.out, List.append_nil]
                      exact gK
                  · have h2 : ((ps[i].1 : Int) == 2) = false := by simp; omega
                    have Hp2 : Hid (¬ ps[i].1 = 2) := hph2
                    clear hph2
                    go_wp2_with fail
                    go_meet
                    case rel =>
                      refine ⟨by rw [if_neg Hp2.out], by rw [if_neg Hp0.out], ?_⟩
                      rw [HX.out, List.append_nil]
                      exact gK
              case rest =>
                obtain ⟨rfl, rfl, gx⟩ := hcut
                obtain ⟨⟨rX, hrX, hkX, lX⟩, ⟨rY, hrY, hkY, lY⟩⟩ := sides hP hQ htS htT hsP hsQ nP nQ Hio.out hkl
                have tX : TV wk (Ge wk lk) (if ps[i].1 = 2 then tb else sb) (Ls.sideX S T ps[i].1) := by unfold Ls.sideX; split; exact tTk; exact tSk
                have tY : TV wk (Ge wk lk) (if ps[i].1 = 0 then sb else tb) (Ls.sideY S T ps[i].1) := by unfold Ls.sideY; split; exact tSk; exact tTk
                have Hst : Hid (sucO S T ps[i] (k + 1) = (sucO S T ps[i] k ++ crossO S T ps[i] k) ++ prs ps[i].1 ((Ls.sideX S T ps[i].1).row ps[i].2.1 k) ((Ls.sideY S T ps[i].1).row ps[i].2.2 k)) := by rw [sucO_succ, ← List.append_assoc]; rfl
                generalize (if ps[i].1 = 2 then tb else sb) = xb at *
                generalize (if ps[i].1 = 0 then sb else tb) = yb at *
                generalize Ls.sideX S T ps[i].1 = X at *
                generalize Ls.sideY S T ps[i].1 = Y at *
                obtain ⟨gA, cA, gr1, nr1, cr1, la, lc, a0, a1, a2, A0, A1, A2, hn1, ivS⟩ := tX.at' hrX (k := k) hkX
                obtain ⟨gB, cB, gr2, nr2, cr2, ma, mc, b0, b1, b2, B0, B1, B2, hn2, ivT⟩ := tY.at' hrY (k := k) hkY
                have hn1' : k < nr1 := by omega
                have hn2' : k < nr2 := by omega
                have hxl : ps[i].2.1 < X.to.length := (List.getElem?_eq_some_iff.1 hrX).1
                have hyl : ps[i].2.2 < Y.to.length := (List.getElem?_eq_some_iff.1 hrY).1
                have HS : Hid (∀ wx lv ps', GrowsP wk w3.heap.size lk wx lv ps' → (wx.cell? ⟨xb, 0, Option.none⟩ = some (.slice (some ⟨gA, 0, Option.none⟩) X.to.length cA) ∧ wx.cell? ⟨gA, ps[i].2.1, Option.none⟩ = some (.slice (some ⟨gr1, 0, Option.none⟩) nr1 cr1) ∧ wx.cell? ⟨gr1, k, Option.none⟩ = some (.slice la (X.row ps[i].2.1 k).length lc)) ∧ (wx.cell? ⟨yb, 0, Option.none⟩ = some (.slice (some ⟨gB, 0, Option.none⟩) Y.to.length cB) ∧ wx.cell? ⟨gB, ps[i].2.2, Option.none⟩ = some (.slice (some ⟨gr2, 0, Option.none⟩) nr2 cr2) ∧ wx.cell? ⟨gr2, k, Option.none⟩ = some (.slice ma (Y.row ps[i].2.2 k).length mc)) ∧ wx.cell? ⟨fb, 1, Option.none⟩ = some (.int .i64 ps[i].2.1) ∧ wx.cell? ⟨fb, 2, Option.none⟩ = some (.int .i64 ps[i].2.2) ∧ wx.cell? ⟨pb, 0, Option.none⟩ = some (.int .i64 ps[i].1)) := fun wx lv ps' h => ⟨⟨(h.cell A0 _).trans a0, (h.cell A1 _).trans a1, (h.cell A2 _).trans a2⟩, ⟨(h.cell B0 _).trans b0, (h.cell B1 _).trans b1, (h.cell B2 _).trans b2⟩, (h.cell hfw _).trans f1, (h.cell hfw _).trans f2, (h.cell hpw _).trans n0⟩
                have HC : Hid (∀ W, Below wc.heap.size wc W → Calls Tryz.prog 42 #[u8, .slice la (X.row ps[i].2.1 k).length lc, .slice ma (Y.row ps[i].2.2 k).length mc, .int .i64 ps[i].1] W fun e w5 => ∃ x1 x2 x3, e = .returned (.slice x1 x2 x3) ∧ GrowsP wk w3.heap.size lk w5 (.slice x1 x2 x3) (addAll ps (sucO S T ps[i] (k + 1)))) := fun W hW => by
                  rw [Hst.out]
                  exact steps_grows hbase hne gx hW ivS ivT lX lY HBx.out ps[i].1
                have hsz := HS.out _ _ _ gx
                clear a0 a1 a2 b0 b1 b2 hrX hrY hn1 hn2 ivS ivT
                go_wp2_with fail
                go_region_held (fun w' => (w'.cell? ⟨xb, 0, Option.none⟩ = some (.slice (some ⟨gA, 0, Option.none⟩) X.to.length cA) ∧ w'.cell? ⟨gA, ps[i].2.1, Option.none⟩ = some (.slice (some ⟨gr1, 0, Option.none⟩) nr1 cr1) ∧ w'.cell? ⟨gr1, k, Option.none⟩ = some (.slice la (X.row ps[i].2.1 k).length lc)) ∧ (w'.cell? ⟨yb, 0, Option.none⟩ = some (.slice (some ⟨gB, 0, Option.none⟩) Y.to.length cB) ∧ w'.cell? ⟨gB, ps[i].2.2, Option.none⟩ = some (.slice (some ⟨gr2, 0, Option.none⟩) nr2 cr2) ∧ w'.cell? ⟨gr2, k, Option.none⟩ = some (.slice ma (Y.row ps[i].2.2 k).length mc)) ∧ w'.cell? ⟨fb, 1, Option.none⟩ = some (.int .i64 ps[i].2.1) ∧ w'.cell? ⟨fb, 2, Option.none⟩ = some (.int .i64 ps[i].2.2) ∧ w'.cell? ⟨pb, 0, Option.none⟩ = some (.int .i64 ps[i].1)) (first | assumption | go_keep) ((go_at_call 42; refine (HC.out _ ?_).mono ?_; exact (Below.refl _ _).drew; rintro e w5 ⟨x1, x2, x3, rfl, g5⟩; have hs5 := HS.out _ _ _ g5))
                go_wp2_with fail
                exact ⟨⟨k + 1, by omega, by go_num, Hgk.out.next g5⟩, by simp [intOf]; omega⟩
            · have hke : k = L.length := by omega
              subst hke
              have bfn := fun (h : ¬ Ls.accO T ps[i]) => bf.next hlt (m := sucO S T ps[i] L.length ++ lastO S ps[i]) (fun b => mem_sucO) (fun b hb => HE.out _ b Hio.out hb) h
              have bf' := bfn HF.out
              clear bfn
              have HBf : Hid (BF (Ls.edgeO S T L.length) (Ls.accO T) (IO3 ss.length ts.length) (addAll ps (sucO S T ps[i] L.length ++ lastO S ps[i])) (i + 1)) := bf'
              clear bf'
              have tSr := tSc.mono gk.ge
              by_cases hph : ps[i].1 = 1
              · have h1 : ((ps[i].1 : Int) == 1) = true := by simp [hph]
                obtain ⟨hx, hy⟩ : ps[i].2.1 < ss.length ∧ ps[i].2.2 < ts.length := by
                  rcases Hio.out with h | h | h
                  · omega
                  · exact h.2
                  · omega
                have hxE : ps[i].2.1 < S.ends.length := by rw [htS.lenE]; exact hx
                have gS0 : S.ends[ps[i].2.1]? = some S.ends[ps[i].2.1] := List.getElem?_eq_getElem hxE
                obtain ⟨gE, cE, e0, e1, _, _⟩ := tSr.end' gS0
                have HgS : Hid (S.ends[ps[i].2.1]? = some S.ends[ps[i].2.1]) := gS0
                have Hph : Hid (ps[i].1 = 1) := hph
                clear gS0 hph
                cases hes : S.ends[ps[i].2.1] with
                | false =>
                  rw [hes] at e1
                  have HX : Hid (lastO S ps[i] = []) := by
                    show _ = _
                    unfold lastO
                    rw [if_neg (fun h => by have h2 := h.2; rw [HgS.out, hes] at h2; cases h2)]
                  clear hes
                  go_wp2_with fail
                  go_quiet (fail)
                  go_wp2_with fail
                  have g6 := gwc.next (gk.below (below_drewN' wr nq wr.heap.size))
                  refine ⟨⟨i + 1, _, by go_num, ?_, HBf.out⟩, by simp [intOf]; omega⟩
                  rw [HX.out, List.append_nil]
                  exact g6
                | true =>
                  rw [hes] at e1
                  have HX : Hid (lastO S ps[i] = [(2, ps[i].2.2, 0)]) := by
                    show _ = _
                    unfold lastO
                    rw [if_pos ⟨Hph.out, by rw [HgS.out, hes]⟩]
                  clear hes
                  go_wp2_with fail
                  go_quiet (fail)
                  go_wp2_with fail
                  have g6 := gk.below (below_drewN' wr nq wr.heap.size)
                  have HC : Hid (∀ W, Below (wr.drewN nq).heap.size (wr.drewN nq) W → Calls Tryz.prog 43 #[lk, .agg #[.int .i64 2, .int .i64 ps[i].2.2, .int .i64 0]] W fun e w5 => ∃ x1 x2 x3, e = .returned (.slice x1 x2 x3) ∧ GrowsP wc w3.heap.size (.slice (some ⟨g, 0, Option.none⟩) ps.length cap) w5 (.slice x1 x2 x3) (addAll ps (sucO S T ps[i] L.length ++ lastO S ps[i]))) := fun W hW => by
                    have gW := g6.below hW
                    refine (addPr_any W w3.heap.size ?_ lk _ gW.pl (addAll_ne hne _) ?_ (2, ps[i].2.2, 0)).mono ?_
                    · have := gwc.grown.size; have := gW.grown.size; omega
                    · exact Nat.le_trans (HB.out _ (fun b hb => mem_sucO' hb (Nat.le_refl _))) (by omega)
                    · rintro e w5 ⟨v5, rfl, hp5, hg5, hr5⟩
                      have g5 : GrowsP W w3.heap.size lk w5 v5 _ := ⟨hp5, hg5, hr5⟩
                      have key := gW.next g5
                      rw [← addAll_snoc, ← HX.out] at key
                      rcases ownsRow_split hp5 with ⟨rfl, _⟩ | ⟨g', cap', rfl⟩
                      · exact ⟨_, _, _, rfl, key⟩
                      · exact ⟨_, _, _, rfl, key⟩
                  clear e0 e1 k0 k1 k2
                  generalize wr.drewN nq = wz at *
                  refine (HC.out _ (Below.refl _ _)).mono ?_
                  rintro e w5 ⟨x1, x2, x3, rfl, g5⟩
                  go_wp2_with fail
                  exact ⟨⟨i + 1, _, by go_num, gwc.next g5, HBf.out⟩, by simp [intOf]; omega⟩
              · have h1 : ((ps[i].1 : Int) == 1) = false := by simp; omega
                have HX : Hid (lastO S ps[i] = []) := by
                  show _ = _
                  unfold lastO
                  rw [if_neg (fun h => hph h.1)]
                clear hph
                go_wp2_with fail
                go_quiet (fail)
                go_wp2_with fail
                have g6 := gwc.next (gk.below (below_drewN' wr nq wr.heap.size))
                refine ⟨⟨i + 1, _, by go_num, ?_, HBf.out⟩, by simp [intOf]; omega⟩
                rw [HX.out, List.append_nil]
                exact g6
    · go_wp2_with fail
      go_ret
      have : i = ps.length := by have := bf.le; omega
      subst this
      exact ⟨true, rfl, by rw [← Hres]; simp [bf.done], hb04.grown gr.grown (by have := hb04.size; omega) hv0⟩

end Go.Proofs.YtfklinjaajafgaaGreatDoor
