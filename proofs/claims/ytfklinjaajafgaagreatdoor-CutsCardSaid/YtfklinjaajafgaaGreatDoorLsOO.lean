import Derived.Test.YtfklinjaajafgaaGreatDoorLsMM
import Derived.Test.YtfklinjaajafgaaGreatDoorTabs
/- Apart: is no text one of both? -/
namespace Go.Proofs.YtfklinjaajafgaaGreatDoor
open Go.RowKit

/-- The cells of a table that one looks at for state x and letter k. -/
theorem TV.at' {w : World} {G : Nat → Prop} {tb : Nat} {t : Ls.Tab} (h : TV w G tb t) {x k : Nat} {r : List (List Nat)} (hx : t.to[x]? = some r) (hk : k < r.length) :
    ∃ gT cT gr nr cr la lc, w.cell? ⟨tb, 0, Option.none⟩ = some (.slice (some ⟨gT, 0, Option.none⟩) t.to.length cT) ∧ w.cell? ⟨gT, x, Option.none⟩ = some (.slice (some ⟨gr, 0, Option.none⟩) nr cr) ∧ w.cell? ⟨gr, k, Option.none⟩ = some (.slice la (t.row x k).length lc) ∧ G tb ∧ G gT ∧ G gr ∧ nr = r.length ∧ IV w G (.slice la (t.row x k).length lc) (t.row x k) := by
  obtain ⟨h0, vT, vE, h1, ⟨xs, v1, l1, e1⟩, _⟩ := h
  have hxl : x < t.to.length := (List.getElem?_eq_some_iff.1 hx).1
  rcases v1 with ⟨_, rfl⟩ | ⟨gT, cT, gG, rfl, cc⟩
  · simp at l1; omega
  · have hx1 : xs[x]? = some xs[x] := List.getElem?_eq_getElem (by omega)
    obtain ⟨ys, v2, l2, e2⟩ := e1 x _ r hx1 hx
    rcases v2 with ⟨_, rfl⟩ | ⟨gr, cr, gg, er, cc2⟩
    · simp at l2; omega
    · have hk1 : ys[k]? = some ys[k] := List.getElem?_eq_getElem (by omega)
      have hk2 : r[k]? = some r[k] := List.getElem?_eq_getElem hk
      have e3 := e2 k _ _ hk1 hk2
      have hrow : t.row x k = r[k] := by unfold Ls.Tab.row; rw [hx]; dsimp only; rw [hk2]
      obtain ⟨la, lc, el, _⟩ := e3.shape
      refine ⟨gT, cT, gr, ys.length, cr, la, lc, ?_, ?_, ?_, h0, gG, gg, l2, ?_⟩
      · simp only [World.cell?, h1]; simp [l1]
      · rw [cc x (by omega), er]
      · rw [cc2 k (by omega), el, hrow]
      · rw [hrow, ← el]; exact e3

/-- Whether state x may end. -/
theorem TV.end' {w : World} {G : Nat → Prop} {tb : Nat} {t : Ls.Tab} (h : TV w G tb t) {x : Nat} {b : Bool} (hx : t.ends[x]? = some b) :
    ∃ gE cE, w.cell? ⟨tb, 1, Option.none⟩ = some (.slice (some ⟨gE, 0, Option.none⟩) t.ends.length cE) ∧ w.cell? ⟨gE, x, Option.none⟩ = some (.bool b) ∧ G tb ∧ G gE := by
  obtain ⟨h0, vT, vE, h1, _, v1⟩ := h
  have hxl : x < t.ends.length := (List.getElem?_eq_some_iff.1 hx).1
  rcases v1 with ⟨_, e⟩ | ⟨gE, cE, gG, rfl, cc⟩
  · simp at e; rw [e] at hxl; simp at hxl
  · refine ⟨gE, cE, ?_, ?_, h0, gG⟩
    · simp only [World.cell?, h1]; simp
    · rw [cc x (by simpa using hxl)]
      rw [List.getElem?_eq_getElem hxl] at hx
      simp [Option.some.inj hx]

/-- What the pair a leads to by the letters below k. -/
def sucA (S T : Ls.Tab) (a : Ls.Pr) (k : Nat) : List Ls.Pr := (List.range k).flatMap fun k => prs 0 (S.row a.2.1 k) (T.row a.2.2 k)

theorem mem_prs {ph : Nat} {a b : List Nat} {x : Ls.Pr} : x ∈ prs ph a b ↔ x.1 = ph ∧ x.2.1 ∈ a ∧ x.2.2 ∈ b := by
  obtain ⟨p, y, z⟩ := x
  unfold prs
  simp only [List.mem_flatMap, List.mem_map, Prod.mk.injEq]
  constructor
  · rintro ⟨c, hc, d, hd, rfl, rfl, rfl⟩; exact ⟨rfl, hc, hd⟩
  · rintro ⟨rfl, h1, h2⟩; exact ⟨y, h1, z, h2, rfl, rfl, rfl⟩

theorem mem_sucA {S T : Ls.Tab} {a b : Ls.Pr} {k : Nat} : b ∈ sucA S T a k ↔ Ls.edgeA S T k a b := by
  unfold sucA Ls.edgeA
  simp only [List.mem_flatMap, List.mem_range, mem_prs, Ls.Tab.mem_row]
  constructor
  · rintro ⟨k', h1, h2, h3, h4⟩; exact ⟨h2, k', h1, h3, h4⟩
  · rintro ⟨h2, k', h1, h3, h4⟩; exact ⟨k', h1, h2, h3, h4⟩

theorem sucA_succ (S T : Ls.Tab) (a : Ls.Pr) (k : Nat) : sucA S T a (k + 1) = sucA S T a k ++ prs 0 (S.row a.2.1 k) (T.row a.2.2 k) := by
  unfold sucA
  rw [List.range_succ, List.flatMap_append]
  simp

theorem edgeA_mono {S T : Ls.Tab} {a b : Ls.Pr} {k n : Nat} (h : Ls.edgeA S T k a b) (hk : k ≤ n) : Ls.edgeA S T n a b := by
  obtain ⟨h0, k', h1, h2⟩ := h
  exact ⟨h0, k', by omega, h2⟩

theorem mem_part {ph : Nat} {a b : List Nat} {m n x : Nat} (hm : m < a.length) (hx : x = a[m]) {y : Ls.Pr} (h : y ∈ prs ph (a.take m) b ++ (b.take n).map fun z => (ph, x, z)) : y ∈ prs ph a b := by
  rw [mem_prs]
  rw [List.mem_append] at h
  rcases h with h | h
  · rw [mem_prs] at h
    exact ⟨h.1, List.mem_of_mem_take h.2.1, h.2.2⟩
  · obtain ⟨z, hz, rfl⟩ := List.mem_map.1 h
    exact ⟨rfl, by rw [hx]; exact List.getElem_mem hm, List.mem_of_mem_take hz⟩

theorem sq_bd {N : Nat} (h : N ≤ 991233) : 3 * (N * N) ≤ 2947628580867 := by
  have := Nat.mul_le_mul h h
  omega

/-- What may be looked at while a list of pairs grows. -/
def Ge (w : World) (v : Value) : Nat → Prop := fun k => k < w.heap.size ∧ some k ≠ v.ownBlock

theorem GrowsP.ge {w0 : World} {base : Nat} {v0 : Value} {w : World} {v : Value} {ps : List Ls.Pr} (h : GrowsP w0 base v0 w v ps) : ∀ k, Ge w0 v0 k → Ge w v k ∧ w.heap[k]? = w0.heap[k]? := fun k hk => by
  obtain ⟨h1, h2⟩ := h.block hk.1 hk.2
  exact ⟨⟨Nat.lt_of_lt_of_le hk.1 h.grown.size, h2⟩, h1⟩

theorem GrowsP.cell {w0 : World} {base : Nat} {v0 : Value} {w : World} {v : Value} {ps : List Ls.Pr} (h : GrowsP w0 base v0 w v ps) {k : Nat} (hk : Ge w0 v0 k) (o : Nat) : w.cell? ⟨k, o, Option.none⟩ = w0.cell? ⟨k, o, Option.none⟩ := cell_of_block (h.ge k hk).2 o

set_option maxRecDepth 100000 in
set_option maxHeartbeats 1000000 in
theorem apart_any (p q : Ls.Pat) (P Q : List Ls.Pat) (hP : Ls.Room P) (hQ : Ls.Room Q) (hpP : p ∈ P) (hqQ : q ∈ Q) (nP : P.length ≤ 991233) (nQ : Q.length ≤ 991233) (sp : Ls.Signed p) (sq : Ls.Signed q) (y z : Value) (w : World) (G : Nat → Prop) (hG : Old w G) (hp : PV w G p y) (hq : PV w G q z) :
    Calls Tryz.prog 17 #[patA p y, patA q z] w fun e w' => ∃ b : Bool, e = .returned (.bool b) ∧ (b = true ↔ ¬ Ls.Both p q) ∧ Below w.heap.size w w' := by
  have Hp : Hid (PV w G p y) := hp
  have Hq : Hid (PV w G q z) := hq
  obtain ⟨y1, y2, y3, rfl⟩ := PV.slice _ _ hp
  obtain ⟨z1, z2, z3, rfl⟩ := PV.slice _ _ hq
  clear hp hq
  have okp := hP.ok p hpP
  have okq := hQ.ok q hqQ
  have hb0 := below_alloc2 w (.cells #[.int .i64 p.kind, .string ⟨p.signs.toArray⟩, .slice y1 y2 y3] 27) (.cells #[.int .i64 q.kind, .string ⟨q.signs.toArray⟩, .slice z1 z2 z3] 27)
  have hl1 := lies_new (w.alloc (.cells #[.int .i64 p.kind, .string ⟨p.signs.toArray⟩, .slice y1 y2 y3] 27)) (patC q (.slice z1 z2 z3))
  rw [World.size_alloc] at hl1
  have hl0 : Lies ((w.alloc (.cells #[.int .i64 p.kind, .string ⟨p.signs.toArray⟩, .slice y1 y2 y3] 27)).alloc (.cells #[.int .i64 q.kind, .string ⟨q.signs.toArray⟩, .slice z1 z2 z3] 27)) w.heap.size (patC p (.slice y1 y2 y3)) := by
    unfold Lies
    rw [Below.heap_alloc _ _ _ (by simp)]
    exact lies_new w (patC p (.slice y1 y2 y3))
  go_enter Tryz.func17, Tryz.ntmps17
  go_wp2_with fail
  refine (letters_any p q okp.1 okq.1 okp.2.2.1 okq.2.2.1 okp.2.1 okq.2.1 _ _ _ G (hG.below hb0) (Hp.out.below hb0 hG fun _ h => h) (Hq.out.below hb0 hG fun _ h => h)).mono ?_
  rintro e w1 ⟨L, rfl, hL, hLn, hb1⟩
  have hb01 := Below.join hb0 hb1
  have hl01 := hl0.below hb1 (by simp; omega)
  have hl11 := hl1.below hb1 (by simp)
  obtain ⟨c0, c1, c2⟩ := hl01.three
  clear hl0 hl1
  go_wp2_with fail
  refine (table_any p P hP hpP L (by omega) _ _ G (hG.below hb01) (Hp.out.below hb01 hG fun _ h => h)).mono ?_
  rintro e w2 ⟨sb, S, ss, rfl, hsv, htS, hnS, hsP, hb2⟩
  have hb02 := Below.join hb01 hb2
  have hz1 := hb1.size
  simp at hz1
  have hl12 := hl11.below hb2 (by omega)
  obtain ⟨d0, d1, d2⟩ := hl12.three
  clear c0 c1 c2 hl01 hl11
  go_wp2_with fail
  refine (table_any q Q hQ hqQ L (by omega) _ _ G (hG.below hb02) (Hq.out.below hb02 hG fun _ h => h)).mono ?_
  rintro e w3 ⟨tb, T, ts, rfl, htv, htT, hnT, hsQ, hb3⟩
  have hb03 := Below.join hb02 hb3
  clear d0 d1 d2 hl12
  have hb4 := below_alloc1 w3 (.cells #[.int .i64 0, .int .i64 0, .int .i64 0] 68)
  have hpl : PL (w3.alloc (.cells #[.int .i64 0, .int .i64 0, .int .i64 0] 68)) w3.heap.size (.slice (some ⟨w3.heap.size, 0, Option.none⟩) 1 1) [(0, 0, 0)] :=
    World.ownsRow_lit (e := 68) (size := 3) w3 (flatP [(0, 0, 0)]).toArray 1 (Nat.le_refl _) (by unfold maxLen; omega) rfl
  have tvS : TV (w3.alloc (.cells #[.int .i64 0, .int .i64 0, .int .i64 0] 68)) (Ge (w3.alloc (.cells #[.int .i64 0, .int .i64 0, .int .i64 0] 68)) (.slice (some ⟨w3.heap.size, 0, Option.none⟩) 1 1)) sb S :=
    hsv.mono (fun k hk => by
      have h3 := hb3.size
      exact ⟨⟨by simp; omega, by simp [Value.ownBlock]; omega⟩, (Below.join hb3 hb4).block k hk.2⟩)
  have tvT : TV (w3.alloc (.cells #[.int .i64 0, .int .i64 0, .int .i64 0] 68)) (Ge (w3.alloc (.cells #[.int .i64 0, .int .i64 0, .int .i64 0] 68)) (.slice (some ⟨w3.heap.size, 0, Option.none⟩) 1 1)) tb T :=
    htv.mono (fun k hk => ⟨⟨by simp; omega, by simp [Value.ownBlock]; omega⟩, hb4.block k hk.2⟩)
  have gp := GrowsP.start hpl
  have h0S : 0 < ss.length := (List.getElem?_eq_some_iff.1 htS.first).1
  have h0T : 0 < ts.length := (List.getElem?_eq_some_iff.1 htT.first).1
  have bf0 := BF.start (Ls.edgeA S T L.length) (Ls.accA S T) (I := fun a => a.1 = 0 ∧ a.2.1 < ss.length ∧ a.2.2 < ts.length) ⟨rfl, h0S, h0T⟩
  have HI : Hid (∀ a : Ls.Pr, (a.1 = 0 ∧ a.2.1 < ss.length ∧ a.2.2 < ts.length) → (a.1 = 0 ∨ a.1 = 1 ∨ a.1 = 2) ∧ a.2.1 < max ss.length ts.length ∧ a.2.2 < max ss.length ts.length) := fun a ha => ⟨.inl ha.1, by omega, by omega⟩
  have HE : Hid (∀ a b : Ls.Pr, (a.1 = 0 ∧ a.2.1 < ss.length ∧ a.2.2 < ts.length) → Ls.edgeA S T L.length a b → (b.1 = 0 ∧ b.2.1 < ss.length ∧ b.2.2 < ts.length)) := by
    rintro a b ha ⟨h1, k, hk, h2, h3⟩
    exact ⟨h1, htS.row_lt ha.2.1 hk _ ((S.mem_row _ _ _).2 h2), htT.row_lt ha.2.2 hk _ ((T.mem_row _ _ _).2 h3)⟩
  have hN := sq_bd (N := max ss.length ts.length) (by omega)
  have Hres := Ls.apart_iff okp.1 okq.1 sp sq hL htS htT
  have hb04 := Below.join hb03 hb4
  have hwl : w3.heap.size ≤ (w3.alloc (.cells #[.int .i64 0, .int .i64 0, .int .i64 0] 68)).heap.size := hb4.size
  have hv0 : ∀ k, (Value.slice (some ⟨w3.heap.size, 0, Option.none⟩) 1 1).ownBlock = some k → w.heap.size ≤ k := fun k e => by
    have := hb03.size
    have e2 : w3.heap.size = k := by simpa [Value.ownBlock] using e
    omega
  clear hpl hsv htv hb4 Hp Hq
  go_wp2_with fail
  generalize w3.alloc (.cells #[.int .i64 0, .int .i64 0, .int .i64 0] 68) = wl at *
  generalize (Value.slice (some ⟨w3.heap.size, 0, Option.none⟩) 1 1) = v0 at *
  go_loopw [8, 9] (fun lv iv wr => ∃ (i : Nat) (ps : List Ls.Pr), iv = .int .i64 i ∧ GrowsP wl w3.heap.size v0 wr lv ps ∧ BF (Ls.edgeA S T L.length) (Ls.accA S T) (fun a => a.1 = 0 ∧ a.2.1 < ss.length ∧ a.2.2 < ts.length) ps i) (fun _ iv _ => 2947628580868 - (intOf iv).toNat)
  case atStart => exact ⟨0, [(0, 0, 0)], rfl, gp, bf0⟩
  case round =>
    obtain ⟨i, ps, rfl, gr, bf⟩ := hrel
    have hlen := bf.length HI.out
    have hne : ps ≠ [] := fun e => by have := bf.first; rw [e] at this; simp at this
    obtain ⟨g, cap, rfl⟩ := gr.pl.some hne
    by_cases hlt : i < ps.length
    · obtain ⟨c0, c1, c2⟩ := gr.pl.cells i hlt
      obtain ⟨hph, hx, hy⟩ := bf.inR _ (List.getElem_mem hlt)
      have Hph : Hid (ps[i].1 = 0) := hph
      clear hph
      have hgb := World.ownsRow.lt gr.pl g rfl
      have p0 := lies_newP wr ps[i] 0
      have p1 := lies_newP wr ps[i] 1
      have p2 := lies_newP wr ps[i] 2
      simp only [prC, List.getElem?_cons_zero, List.getElem?_cons_succ] at p0 p1 p2
      have gwi := gr.below (below_alloc1 wr (.cells #[.int .i64 ps[i].1, .int .i64 ps[i].2.1, .int .i64 ps[i].2.2] 68))
      have hpb : Ge (wr.alloc (.cells #[.int .i64 ps[i].1, .int .i64 ps[i].2.1, .int .i64 ps[i].2.2] 68)) (.slice (some ⟨g, 0, Option.none⟩) ps.length cap) wr.heap.size := ⟨by simp, by simp [Value.ownBlock]; omega⟩
      have tS := tvS.mono gwi.ge
      have tT := tvT.mono gwi.ge
      have hxE : ps[i].2.1 < S.ends.length := by rw [htS.lenE]; exact hx
      have hyE : ps[i].2.2 < T.ends.length := by rw [htT.lenE]; exact hy
      have gS0 : S.ends[ps[i].2.1]? = some S.ends[ps[i].2.1] := List.getElem?_eq_getElem hxE
      have gT0 : T.ends[ps[i].2.2]? = some T.ends[ps[i].2.2] := List.getElem?_eq_getElem hyE
      obtain ⟨gS, cS, e0, e1, _, _⟩ := tS.end' gS0
      obtain ⟨gT, cT, e2, e3, _, _⟩ := tT.end' gT0
      have HgS : Hid (S.ends[ps[i].2.1]? = some S.ends[ps[i].2.1]) := gS0
      have HgT : Hid (T.ends[ps[i].2.2]? = some T.ends[ps[i].2.2]) := gT0
      clear gS0 gT0
      go_upto_if 52 with fail
      go_cut [52] (fun v wx => ∃ b : Bool, v = .bool b ∧ (b = true ↔ Ls.accA S T ps[i]) ∧ Below (wr.heap.size + 1) (wr.alloc (.cells #[.int .i64 ps[i].1, .int .i64 ps[i].2.1, .int .i64 ps[i].2.2] 68)) wx)
      case first =>
        cases hes : S.ends[ps[i].2.1] with
        | true =>
          rw [hes] at e1
          cases het : T.ends[ps[i].2.2] with
          | true =>
            rw [het] at e3
            have HF : Hid (Ls.accA S T ps[i]) := ⟨by rw [HgS.out, hes], by rw [HgT.out, het]⟩
            clear hes het
            go_wp2_with fail
            go_quiet (fail)
            go_wp2_with fail
            go_meet
            case rel => exact ⟨true, rfl, by simp [HF.out], below_drewN' _ nq _⟩
          | false =>
            rw [het] at e3
            have HF : Hid (¬ Ls.accA S T ps[i]) := fun h => by have h2 := h.2; rw [HgT.out, het] at h2; cases h2
            clear hes het
            go_wp2_with fail
            go_quiet (fail)
            go_wp2_with fail
            go_meet
            case rel => exact ⟨false, rfl, by simp [HF.out], below_drewN' _ nq _⟩
        | false =>
          rw [hes] at e1
          have HF : Hid (¬ Ls.accA S T ps[i]) := fun h => by have h2 := h.1; rw [HgS.out, hes] at h2; cases h2
          clear hes
          go_wp2_with fail
          go_quiet (fail)
          go_wp2_with fail
          go_meet
          case rel => exact ⟨false, rfl, by simp [HF.out], below_drewN' _ nq _⟩
      case rest =>
        obtain ⟨b, rfl, hba, hbc⟩ := hcut
        have gwc := gwi.below (w' := wc) (by simpa using hbc)
        cases b with
        | true =>
          have HF : Hid (∃ n, Ls.Hit (Ls.edgeA S T L.length) (Ls.accA S T) n (0, 0, 0)) := bf.found hlt (hba.1 rfl)
          clear hba
          go_wp2_with fail
          go_ret
          exact ⟨false, rfl, by rw [← Hres]; simp [HF.out], hb04.grown gwc.grown (by have := hb04.size; omega) hv0⟩
        | false =>
          have HF : Hid (¬ Ls.accA S T ps[i]) := fun h => by have := hba.2 h; cases this
          clear hba e0 e1 e2 e3
          have q0 : wc.cell? ⟨wr.heap.size, 0, Option.none⟩ = some (.int .i64 ps[i].1) := (hbc.cell (p := ⟨wr.heap.size, 0, Option.none⟩) (by show wr.heap.size < _; omega)).trans p0
          have q1 : wc.cell? ⟨wr.heap.size, 1, Option.none⟩ = some (.int .i64 ps[i].2.1) := (hbc.cell (p := ⟨wr.heap.size, 1, Option.none⟩) (by show wr.heap.size < _; omega)).trans p1
          have q2 : wc.cell? ⟨wr.heap.size, 2, Option.none⟩ = some (.int .i64 ps[i].2.2) := (hbc.cell (p := ⟨wr.heap.size, 2, Option.none⟩) (by show wr.heap.size < _; omega)).trans p2
          have tSc := tvS.mono gwc.ge
          have tTc := tvT.mono gwc.ge
          have hpc : Ge wc (.slice (some ⟨g, 0, Option.none⟩) ps.length cap) wr.heap.size := ⟨by have := hbc.size; simp at this; omega, hpb.2⟩
          have HB : Hid (∀ m : List Ls.Pr, (∀ b, b ∈ m → Ls.edgeA S T L.length ps[i] b) → (addAll ps m).length ≤ 2947628580867) := fun m hm =>
            Nat.le_trans (bf.part hlt hm (fun b hb => HE.out _ b ⟨Hph.out, hx, hy⟩ hb) HI.out) hN
          clear p0 p1 p2 tS tT hpb
          have gc := GrowsP.start gwc.pl
          obtain ⟨rS, hrS, lrS, _⟩ := htS.row ps[i].2.1 _ (List.getElem?_eq_getElem hx)
          obtain ⟨rT, hrT, lrT, _⟩ := htT.row ps[i].2.2 _ (List.getElem?_eq_getElem hy)
          have hxl : ps[i].2.1 < S.to.length := (List.getElem?_eq_some_iff.1 hrS).1
          have hyl : ps[i].2.2 < T.to.length := (List.getElem?_eq_some_iff.1 hrT).1
          have HrS : Hid (S.to[ps[i].2.1]? = some rS ∧ rS.length = L.length) := ⟨hrS, lrS⟩
          have HrT : Hid (T.to[ps[i].2.2]? = some rT ∧ rT.length = L.length) := ⟨hrT, lrT⟩
          clear hrS hrT lrS lrT
          go_wp2_with fail
          clear hbc gwi hgb
          generalize wr.heap.size = pb at *
          go_loopw [8, 11] (fun lv kv wx => ∃ k : Nat, k ≤ L.length ∧ kv = .int .i64 k ∧ GrowsP wc w3.heap.size (.slice (some ⟨g, 0, Option.none⟩) ps.length cap) wx lv (addAll ps (sucA S T ps[i] k))) (fun _ kv _ => L.length - (intOf kv).toNat)
          case atStart => exact ⟨0, Nat.zero_le _, rfl, gc⟩
          case round =>
            obtain ⟨k, hk, rfl, gk⟩ := hrel
            by_cases hkl : k < L.length
            · obtain ⟨gA, cA, gr1, nr1, cr1, la, lc, a0, a1, a2, A0, A1, A2, hn1, ivS⟩ := tSc.at' HrS.out.1 (k := k) (by have := HrS.out.2; omega)
              obtain ⟨gB, cB, gr2, nr2, cr2, ma, mc, b0, b1, b2, B0, B1, B2, hn2, ivT⟩ := tTc.at' HrT.out.1 (k := k) (by have := HrT.out.2; omega)
              have hn1' : k < nr1 := by have := HrS.out.2; omega
              have hn2' : k < nr2 := by have := HrT.out.2; omega
              have lS := htS.row_length hP hsP hx hkl
              have lT := htT.row_length hQ hsQ hy hkl
              have HCS : Hid (∀ wx lv ps', GrowsP wc w3.heap.size (.slice (some ⟨g, 0, Option.none⟩) ps.length cap) wx lv ps' → wx.cell? ⟨sb, 0, Option.none⟩ = some (.slice (some ⟨gA, 0, Option.none⟩) S.to.length cA) ∧ wx.cell? ⟨gA, ps[i].2.1, Option.none⟩ = some (.slice (some ⟨gr1, 0, Option.none⟩) nr1 cr1) ∧ wx.cell? ⟨gr1, k, Option.none⟩ = some (.slice la (S.row ps[i].2.1 k).length lc) ∧ wx.cell? ⟨pb, 1, Option.none⟩ = some (.int .i64 ps[i].2.1)) :=
                fun wx lv ps' h => ⟨(h.cell A0 _).trans a0, (h.cell A1 _).trans a1, (h.cell A2 _).trans a2, (h.cell hpc _).trans q1⟩
              have HCT : Hid (∀ wx lv ps', GrowsP wc w3.heap.size (.slice (some ⟨g, 0, Option.none⟩) ps.length cap) wx lv ps' → wx.cell? ⟨tb, 0, Option.none⟩ = some (.slice (some ⟨gB, 0, Option.none⟩) T.to.length cB) ∧ wx.cell? ⟨gB, ps[i].2.2, Option.none⟩ = some (.slice (some ⟨gr2, 0, Option.none⟩) nr2 cr2) ∧ wx.cell? ⟨gr2, k, Option.none⟩ = some (.slice ma (T.row ps[i].2.2 k).length mc) ∧ wx.cell? ⟨pb, 2, Option.none⟩ = some (.int .i64 ps[i].2.2)) :=
                fun wx lv ps' h => ⟨(h.cell B0 _).trans b0, (h.cell B1 _).trans b1, (h.cell B2 _).trans b2, (h.cell hpc _).trans q2⟩
              obtain ⟨ao, ac, ea, hao⟩ := ivS.shape
              injection ea with ea1 ea2 ea3
              subst ea1 ea3
              obtain ⟨bo, bc, eb, hbo⟩ := ivT.shape
              injection eb with eb1 eb2 eb3
              subst eb1 eb3
              clear a0 a1 a2 b0 b1 b2 ea2 eb2 hn1 hn2 ivS ivT
              have HSr : Hid (0 < (S.row ps[i].2.1 k).length → ∃ g', la = some ⟨g', 0, Option.none⟩ ∧ Ge wc (.slice (some ⟨g, 0, Option.none⟩) ps.length cap) g' ∧ ∀ j (h : j < (S.row ps[i].2.1 k).length), wc.cell? ⟨g', j, Option.none⟩ = some (.int .i64 (S.row ps[i].2.1 k)[j])) := hao
              have HTr : Hid (0 < (T.row ps[i].2.2 k).length → ∃ g', ma = some ⟨g', 0, Option.none⟩ ∧ Ge wc (.slice (some ⟨g, 0, Option.none⟩) ps.length cap) g' ∧ ∀ j (h : j < (T.row ps[i].2.2 k).length), wc.cell? ⟨g', j, Option.none⟩ = some (.int .i64 (T.row ps[i].2.2 k)[j])) := hbo
              clear hao hbo
              go_wp2_with fail
              go_loopw [8, 12] (fun lv mv wy => ∃ m : Nat, m ≤ (S.row ps[i].2.1 k).length ∧ mv = .int .i64 m ∧ GrowsP wc w3.heap.size (.slice (some ⟨g, 0, Option.none⟩) ps.length cap) wy lv (addAll ps (sucA S T ps[i] k ++ prs 0 ((S.row ps[i].2.1 k).take m) (T.row ps[i].2.2 k)))) (fun _ mv _ => (S.row ps[i].2.1 k).length - (intOf mv).toNat)
              case atStart => exact ⟨0, Nat.zero_le _, rfl, by simpa [prs] using gk⟩
              case round =>
                obtain ⟨m, hm, rfl, gm⟩ := hrel
                obtain ⟨a0, a1, a2, a3⟩ := HCS.out _ _ _ gm
                by_cases hml : m < (S.row ps[i].2.1 k).length
                · go_wp2_with fail
                  go_quiet (fail)
                  go_wp2_with fail
                  have gq := gm.below (below_drewN' wr nq wr.heap.size)
                  clear gm a0 a1 a2 a3
                  generalize wr.drewN nq = wq at *
                  obtain ⟨gl, rfl, hGl, hcl⟩ := HSr.out (by omega)
                  have a4 := hcl m hml
                  have Ha4 : Hid (∀ wx lv ps', GrowsP wc w3.heap.size (.slice (some ⟨g, 0, Option.none⟩) ps.length cap) wx lv ps' → wx.cell? ⟨gl, m, Option.none⟩ = some (.int .i64 (S.row ps[i].2.1 k)[m])) := fun wx lv ps' h => (h.cell hGl _).trans a4
                  clear hcl a4
                  go_loopw [8, 13] (fun lv nv wz => ∃ n : Nat, n ≤ (T.row ps[i].2.2 k).length ∧ nv = .int .i64 n ∧ GrowsP wc w3.heap.size (.slice (some ⟨g, 0, Option.none⟩) ps.length cap) wz lv (addAll ps (sucA S T ps[i] k ++ (prs 0 ((S.row ps[i].2.1 k).take m) (T.row ps[i].2.2 k) ++ ((T.row ps[i].2.2 k).take n).map fun y => (0, (S.row ps[i].2.1 k)[m], y))))) (fun _ nv _ => (T.row ps[i].2.2 k).length - (intOf nv).toNat)
                  case atStart => exact ⟨0, Nat.zero_le _, rfl, by simpa using gq⟩
                  case round =>
                    obtain ⟨n, hn, rfl, gn⟩ := hrel
                    obtain ⟨a0, a1, a2, a3⟩ := HCS.out _ _ _ gn
                    obtain ⟨b0, b1, b2, b3⟩ := HCT.out _ _ _ gn
                    by_cases hnl : n < (T.row ps[i].2.2 k).length
                    · obtain ⟨gu, rfl, hGu, hcu⟩ := HTr.out (by omega)
                      have hcu0 := hcu n hnl
                      have HS : Hid (∀ wx lv ps', GrowsP wc w3.heap.size (.slice (some ⟨g, 0, Option.none⟩) ps.length cap) wx lv ps' → (wx.cell? ⟨sb, 0, Option.none⟩ = some (.slice (some ⟨gA, 0, Option.none⟩) S.to.length cA) ∧ wx.cell? ⟨gA, ps[i].2.1, Option.none⟩ = some (.slice (some ⟨gr1, 0, Option.none⟩) nr1 cr1) ∧ wx.cell? ⟨gr1, k, Option.none⟩ = some (.slice (some ⟨gl, 0, Option.none⟩) (S.row ps[i].2.1 k).length lc) ∧ wx.cell? ⟨pb, 1, Option.none⟩ = some (.int .i64 ps[i].2.1)) ∧ (wx.cell? ⟨tb, 0, Option.none⟩ = some (.slice (some ⟨gB, 0, Option.none⟩) T.to.length cB) ∧ wx.cell? ⟨gB, ps[i].2.2, Option.none⟩ = some (.slice (some ⟨gr2, 0, Option.none⟩) nr2 cr2) ∧ wx.cell? ⟨gr2, k, Option.none⟩ = some (.slice (some ⟨gu, 0, Option.none⟩) (T.row ps[i].2.2 k).length mc) ∧ wx.cell? ⟨pb, 2, Option.none⟩ = some (.int .i64 ps[i].2.2)) ∧ wx.cell? ⟨gl, m, Option.none⟩ = some (.int .i64 (S.row ps[i].2.1 k)[m]) ∧ wx.cell? ⟨gu, n, Option.none⟩ = some (.int .i64 (T.row ps[i].2.2 k)[n])) := fun wx lv ps' h => ⟨HCS.out _ _ _ h, HCT.out _ _ _ h, Ha4.out _ _ _ h, (h.cell hGu n).trans hcu0⟩
                      clear hcu hcu0
                      have HC : Hid (∀ W, Below wr.heap.size wr W → Calls Tryz.prog 43 #[u8, .agg #[.int .i64 0, .int .i64 (S.row ps[i].2.1 k)[m], .int .i64 (T.row ps[i].2.2 k)[n]]] W fun e w5 => ∃ x1 x2 x3, e = .returned (.slice x1 x2 x3) ∧ GrowsP wc w3.heap.size (.slice (some ⟨g, 0, Option.none⟩) ps.length cap) w5 (.slice x1 x2 x3) (addAll ps (sucA S T ps[i] k ++ (prs 0 ((S.row ps[i].2.1 k).take m) (T.row ps[i].2.2 k) ++ ((T.row ps[i].2.2 k).take (n + 1)).map fun y => (0, (S.row ps[i].2.1 k)[m], y))))) := by
                        intro W hW
                        have gW := gn.below hW
                        refine (addPr_any W w3.heap.size ?_ u8 _ gW.pl (addAll_ne hne _) ?_ (0, (S.row ps[i].2.1 k)[m], (T.row ps[i].2.2 k)[n])).mono ?_
                        · have := gwc.grown.size; have := gW.grown.size; have := hwl; omega
                        · refine Nat.le_trans (HB.out _ (fun b hb => ?_)) (by omega)
                          rw [List.mem_append] at hb
                          rcases hb with hb | hb
                          · exact edgeA_mono (mem_sucA.1 hb) hk
                          · have hb2 := mem_part hml rfl hb
                            have : b ∈ sucA S T ps[i] (k + 1) := by rw [sucA_succ, List.mem_append]; exact .inr hb2
                            exact edgeA_mono (mem_sucA.1 this) hkl
                        · rintro e w5 ⟨v5, rfl, hp5, hg5, hr5⟩
                          have g5 : GrowsP W w3.heap.size u8 w5 v5 _ := ⟨hp5, hg5, hr5⟩
                          have key := gW.next g5
                          rw [← addAll_snoc, List.append_assoc, ← prs_next hnl] at key
                          rcases ownsRow_split hp5 with ⟨rfl, _⟩ | ⟨g', cap', rfl⟩
                          · exact ⟨_, _, _, rfl, key⟩
                          · exact ⟨_, _, _, rfl, key⟩
                      go_wp2_with fail
                      go_quiet (fail)
                      go_wp2_with fail
                      have gz := gn.below (below_drewN' wr nq wr.heap.size)
                      have hsz := HS.out _ _ _ gz
                      have HC2 : Hid (∀ W, Below (wr.drewN nq).heap.size (wr.drewN nq) W → Below wr.heap.size wr W) := fun W h => (below_drewN' wr nq wr.heap.size).trans h
                      clear gn a0 a1 a2 a3 b0 b1 b2 b3
                      generalize wr.drewN nq = wz at *
                      go_region_held (fun w' => (w'.cell? ⟨sb, 0, Option.none⟩ = some (.slice (some ⟨gA, 0, Option.none⟩) S.to.length cA) ∧ w'.cell? ⟨gA, ps[i].2.1, Option.none⟩ = some (.slice (some ⟨gr1, 0, Option.none⟩) nr1 cr1) ∧ w'.cell? ⟨gr1, k, Option.none⟩ = some (.slice (some ⟨gl, 0, Option.none⟩) (S.row ps[i].2.1 k).length lc) ∧ w'.cell? ⟨pb, 1, Option.none⟩ = some (.int .i64 ps[i].2.1)) ∧ (w'.cell? ⟨tb, 0, Option.none⟩ = some (.slice (some ⟨gB, 0, Option.none⟩) T.to.length cB) ∧ w'.cell? ⟨gB, ps[i].2.2, Option.none⟩ = some (.slice (some ⟨gr2, 0, Option.none⟩) nr2 cr2) ∧ w'.cell? ⟨gr2, k, Option.none⟩ = some (.slice (some ⟨gu, 0, Option.none⟩) (T.row ps[i].2.2 k).length mc) ∧ w'.cell? ⟨pb, 2, Option.none⟩ = some (.int .i64 ps[i].2.2)) ∧ w'.cell? ⟨gl, m, Option.none⟩ = some (.int .i64 (S.row ps[i].2.1 k)[m]) ∧ w'.cell? ⟨gu, n, Option.none⟩ = some (.int .i64 (T.row ps[i].2.2 k)[n])) (first | assumption | go_keep) ((go_at_call 43; refine (HC.out _ (HC2.out _ ?_)).mono ?_; exact (Below.refl _ _).drew; rintro e w5 ⟨x1, x2, x3, rfl, g5⟩; have hs5 := HS.out _ _ _ g5))
                      go_wp2_with fail
                      exact ⟨⟨n + 1, by omega, by go_num, g5⟩, by simp [intOf]; omega⟩
                    · go_wp2_with fail
                      go_quiet (fail)
                      go_wp2_with fail
                      refine ⟨⟨m + 1, by omega, by go_num, ?_⟩, by simp [intOf]; omega⟩
                      rw [prs_take hml]
                      rw [show (T.row ps[i].2.2 k).take n = T.row ps[i].2.2 k from List.take_of_length_le (by omega)] at gn
                      exact gn.below (below_drewN' wr _ wr.heap.size)
                · go_wp2_with fail
                  go_quiet (fail)
                  go_wp2_with fail
                  refine ⟨⟨k + 1, by omega, by go_num, ?_⟩, by simp [intOf]; omega⟩
                  rw [sucA_succ]
                  rw [show (S.row ps[i].2.1 k).take m = S.row ps[i].2.1 k from List.take_of_length_le (by omega)] at gm
                  exact gm.below (below_drewN' wr _ wr.heap.size)
            · have hke : k = L.length := by omega
              subst hke
              have bf' := bf.next hlt (m := sucA S T ps[i] L.length) (fun b => mem_sucA) (fun b hb => HE.out _ b ⟨Hph.out, hx, hy⟩ hb) HF.out
              go_wp2_with fail
              refine ⟨⟨i + 1, _, by go_num, gwc.next gk, bf'⟩, by simp [intOf]; omega⟩
    · go_wp2_with fail
      go_ret
      have : i = ps.length := by have := bf.le; omega
      subst this
      exact ⟨true, rfl, by rw [← Hres]; simp [bf.done], hb04.grown gr.grown (by have := hb04.size; omega) hv0⟩

end Go.Proofs.YtfklinjaajafgaaGreatDoor
