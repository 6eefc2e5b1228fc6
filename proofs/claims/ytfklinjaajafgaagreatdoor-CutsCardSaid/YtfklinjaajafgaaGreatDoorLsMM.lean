import Derived.Test.YtfklinjaajafgaaGreatDoorTabs
import Derived.Test.YtfklinjaajafgaaGreatDoorLsL
/- table: all that can still be to come of a pattern. -/
namespace Go.Proofs.YtfklinjaajafgaaGreatDoor
open Go.RowKit

theorem infoBool : (Tryz.prog.info? 4).map (fun i => (i.zero, i.size, i.bytes)) = some (some (.bool false), 1, 1) := by kernel_rfl
theorem infoInt : (Tryz.prog.info? 3).map (fun i => (i.zero, i.size, i.bytes)) = some (some (.int .i64 0), 1, 8) := by kernel_rfl
theorem infoInts : (Tryz.prog.info? 75).map (fun i => (i.zero, i.size, i.bytes)) = some (some (.slice Option.none 0 0), 1, 24) := by kernel_rfl
theorem infoIntss : (Tryz.prog.info? 76).map (fun i => (i.zero, i.size, i.bytes)) = some (some (.slice Option.none 0 0), 1, 24) := by kernel_rfl

/-- What table answers. -/
def TablePost (p : Ls.Pat) (L : List UInt8) (R : List Ls.Pat) (w : World) : Ending → World → Prop := fun e w' =>
  ∃ tb t sts, e = .returned (.pointer (some ⟨tb, 0, Option.none⟩)) ∧ TV w' (fun k => w.heap.size ≤ k ∧ k < w'.heap.size) tb t ∧ Ls.TabOf p L t sts ∧ sts.length ≤ R.length ∧ (∀ x, x ∈ sts → x ∈ R) ∧ Below w.heap.size w w'

theorem ts_start {w w1 : World} {tb sb kb : Nat} {G : Nat → Prop} (hG : Old w G) {p : Ls.Pat} {y : Value} (hb : Below w.heap.size w w1) (h1 : w.heap.size ≤ tb) (h2 : w.heap.size ≤ sb) (h3 : w.heap.size ≤ kb) (h12 : tb ≠ sb) (h13 : tb ≠ kb) (h23 : sb ≠ kb)
    (ht : w1.heap[tb]? = some (.cells #[.slice Option.none 0 0, .slice Option.none 0 0] 73 (0, 0))) (hs : w1.heap[sb]? = some (.cells #[.int .i64 p.kind, .string ⟨p.signs.toArray⟩, y] 27 (0, 0))) (hk : w1.heap[kb]? = some (.cells #[strV (Ls.key p)] 9 (0, 0))) (hp : PV w G p y) :
    TS w w1 tb (.slice (some ⟨sb, 0, Option.none⟩) 1 1) (.slice (some ⟨kb, 0, Option.none⟩) 1 1) (.slice Option.none 0 0) (.slice Option.none 0 0) (.slice Option.none 0 0) (.slice Option.none 0 0) [] [(p, y)] [Ls.key p] [] [] := by
  have lt : ∀ {b : Nat} {o : Obj}, w1.heap[b]? = some o → b < w1.heap.size := fun h => (Array.getElem?_eq_some_iff.1 h).1
  refine ⟨hb, ⟨?_, ?_⟩, ⟨rfl, .inr ⟨sb, 1, _, rfl, h2, hs, Nat.le_refl _, by unfold maxLen; omega, rfl, rfl⟩⟩, ?_, ⟨⟨rfl, .inr ⟨kb, 1, _, rfl, h3, hk, Nat.le_refl _, by unfold maxLen; omega, rfl, rfl⟩⟩, by simp⟩, World.ownsRow_nil _ _ _ _, ⟨[], World.ownsRow_nil _ _ _ _, rfl, by simp⟩, ht⟩
  · intro u hu k hk'
    simp only [List.nil_append, List.mem_cons, List.not_mem_nil, or_false] at hu
    rcases hu with rfl | rfl | rfl | rfl | rfl
    · injection hk' with e; subst e; exact ⟨h2, lt hs⟩
    · injection hk' with e; subst e; exact ⟨h3, lt hk⟩
    · cases hk'
    · cases hk'
    · injection hk' with e; subst e; exact ⟨h1, lt ht⟩
  · intro i j u v hij hu hv k hku hkv
    have hi : i < 5 := (List.getElem?_eq_some_iff.1 hu).1
    have hj : j < 5 := (List.getElem?_eq_some_iff.1 hv).1
    have hi' : i = 0 ∨ i = 1 ∨ i = 2 ∨ i = 3 ∨ i = 4 := by omega
    have hj' : j = 0 ∨ j = 1 ∨ j = 2 ∨ j = 3 ∨ j = 4 := by omega
    rcases hi' with rfl | rfl | rfl | rfl | rfl <;> rcases hj' with rfl | rfl | rfl | rfl | rfl <;> simp at hu hv hij <;> subst hu hv <;> simp [Value.ownBlock] at hku hkv <;> omega
  · intro q hq
    simp only [List.mem_singleton] at hq
    subst hq
    refine PV.mono2 (w := w) (G := G) (fun k hk' => ⟨⟨Nat.lt_of_lt_of_le (hG k hk') hb.size, fun u hu e => ?_⟩, hb.block k (hG k hk')⟩) hp
    have hlt := hG k hk'
    simp only [List.nil_append, List.mem_cons, List.not_mem_nil, or_false] at hu
    rcases hu with rfl | rfl | rfl | rfl | rfl <;> simp [Value.ownBlock] at e <;> omega

theorem TS.cell0 {w0 w : World} {tb : Nat} {vS vK vE vT cT cE : Value} {ex : List Value} {qs : List (Ls.Pat × Value)} {ks : List (List UInt8)} {ends : List Bool} {tt : List (List (List Nat))} (h : TS w0 w tb vS vK vE vT cT cE ex qs ks ends tt) :
    w.cell? ⟨tb, 0, Option.none⟩ = some cT ∧ w.cell? ⟨tb, 1, Option.none⟩ = some cE ∧ w.frozen? ⟨tb, 0, Option.none⟩ = false ∧ w.frozen? ⟨tb, 1, Option.none⟩ = false ∧ tb < w.heap.size := by
  have ht := h.tab
  refine ⟨?_, ?_, ?_, ?_, (Array.getElem?_eq_some_iff.1 ht).1⟩
  · simp only [World.cell?, ht]; rfl
  · simp only [World.cell?, ht]; rfl
  · simp only [World.frozen?, ht]; rfl
  · simp only [World.frozen?, ht]; rfl

theorem tinv_len {p : Ls.Pat} {L : List UInt8} {R sts : List Ls.Pat} {n m : Nat} {ends : List Bool} {tt : List (List (List Nat))} (h : Ls.TInv p L R sts n ends m tt) : sts.length ≤ R.length := Ls.KD_length h.kd h.room

theorem cells_newM (w : World) (v : Value) (t : TypeId) : ∀ j u, [v][j]? = some u → (w.alloc (.cells #[v] t)).cell? ((⟨w.heap.size, 0, Option.none⟩ : Addr).add j) = some u := by
  intro j u hu
  match j, hu with
  | 0, hu =>
    simp at hu
    subst hu
    have : (w.alloc (.cells #[v] t)).heap[w.heap.size]? = some (.cells #[v] t) := heap_alloc_new w _
    show World.cell? _ ⟨w.heap.size, 0, Option.none⟩ = _
    simp only [World.cell?, this]
    rfl
  | j + 1, hu => simp at hu

theorem lead_snoc {sts : List Ls.Pat} {ns : List Nat} {m : List Ls.Pat} {j a : Nat} (h : ns.map (fun j => sts[j]?) = (m.take j).map some) (hj : j < m.length) (ha : sts[a]? = some m[j]) : (ns ++ [a]).map (fun j => sts[j]?) = (m.take (j + 1)).map some := by
  rw [List.map_append, h, List.take_succ_eq_append_getElem hj, List.map_append]
  simp [ha]

theorem fst_get {qy : List (Ls.Pat × Value)} {a : Nat} (h : a < qy.length) : (qy.map (·.1))[a]? = some qy[a].1 := by
  rw [List.getElem?_map, List.getElem?_eq_getElem h]; rfl

theorem ownsRow_unique {w : World} {base base' : Nat} {e e' : TypeId} {size : Nat} {v : Value} {n : Nat} {xs ys : List Value} (h : w.ownsRow base e size v n xs) (k : w.ownsRow base' e' size v n ys) : xs = ys := by
  rcases h.2 with ⟨h1, h2⟩ | ⟨g, cap, cur, h1, _, h3, _, _, _, h4⟩
  · subst h2
    have e1 : xs = [] := List.eq_nil_of_length_eq_zero (by simpa using h.1)
    have e2 : ys = [] := List.eq_nil_of_length_eq_zero (by simpa using k.1)
    rw [e1, e2]
  · rcases k.2 with ⟨k1, _⟩ | ⟨g', cap', cur', k1, _, k3, _, _, _, k4⟩
    · rw [h1] at k1; cases k1
    · rw [h1] at k1
      cases k1
      rw [h3] at k3
      cases k3
      rw [← h4, ← k4]

set_option maxRecDepth 100000 in
set_option maxHeartbeats 1000000 in
theorem table_any (p : Ls.Pat) (R : List Ls.Pat) (hR : Ls.Room R) (hpR : p ∈ R) (L : List UInt8) (hL : L.length ≤ 1000) (y : Value) (w : World) (G : Nat → Prop) (hG : Old w G) (hp : PV w G p y) :
    Calls Tryz.prog 41 #[patA p y, strV L] w (TablePost p L R w) := by
  have Hp : Hid (PV w G p y) := hp
  obtain ⟨y1, y2, y3, rfl⟩ := PV.slice _ _ hp
  clear hp
  have hwp := hR.ok p hpR
  go_enter Tryz.func41, Tryz.ntmps41
  go_wp2_with fail
  refine (key_any p hwp.1 hwp.2.1 _ _ G (Old.alloc (Old.alloc (Old.alloc hG _) _) _) (Hp.out.below (below_alloc3 _ _ _ _) hG fun _ h => h)).mono ?_
  rintro e w1 ⟨rfl, hb1⟩
  have hz1 := hb1.size
  rw [size_alloc3] at hz1
  go_wp2_with fail
  have hts : TS w (w1.alloc (.cells #[.string ⟨(Ls.key p).toArray⟩] 9)) (w.heap.size + 1) (.slice (some ⟨w.heap.size + 1 + 1, 0, Option.none⟩) 1 1) (.slice (some ⟨w1.heap.size, 0, Option.none⟩) 1 1) (.slice Option.none 0 0) (.slice Option.none 0 0) (.slice Option.none 0 0) (.slice Option.none 0 0) [] [(p, .slice y1 y2 y3)] [Ls.key p] [] [] := by
    have hb2 := Below.join hb1 (below_alloc1 w1 (.cells #[.string ⟨(Ls.key p).toArray⟩] 9))
    refine ts_start hG (Below.join (below_alloc3 _ _ _ _) hb2) (by omega) (by omega) (by omega) (by omega) (by omega) (by omega) ?_ ?_ (heap_alloc_new _ _) Hp.out
    · rw [hb2.block _ (by rw [size_alloc3]; omega), Below.heap_alloc _ _ _ (by simp)]
      have := heap_alloc_new (w.alloc (.cells #[.int .i64 p.kind, .string ⟨p.signs.toArray⟩, .slice y1 y2 y3] 27)) (.cells #[.slice Option.none 0 0, .slice Option.none 0 0] 73)
      rw [World.size_alloc] at this
      exact this
    · rw [hb2.block _ (by rw [size_alloc3]; omega)]
      have := heap_alloc_new ((w.alloc (.cells #[.int .i64 p.kind, .string ⟨p.signs.toArray⟩, .slice y1 y2 y3] 27)).alloc (.cells #[.slice Option.none 0 0, .slice Option.none 0 0] 73)) (.cells #[.int .i64 p.kind, .string ⟨p.signs.toArray⟩, .slice y1 y2 y3] 27)
      rw [World.size_alloc, World.size_alloc] at this
      exact this
  have hti : Ls.TInv p L R [p] 0 [] 0 [] := ⟨rfl, by simpa using hpR, by simp [Ls.KD], by simp, by simp, rfl, by simp⟩
  clear hb1 hz1
  go_loopw [6, 7, 8] (fun sv kv iv wr => ∃ (i : Nat) (qs : List (Ls.Pat × Value)) (vE vT : Value) (ends : List Bool) (tt : List (List (List Nat))), i ≤ qs.length ∧ iv = .int .i64 i ∧ TS w wr (w.heap.size + 1) sv kv vE vT vT vE [] qs (qs.map fun q => Ls.key q.1) ends tt ∧ Ls.TInv p L R (qs.map (·.1)) i ends i tt) (fun _ _ iv _ => R.length - (intOf iv).toNat)
  case atStart => exact ⟨0, [(p, .slice y1 y2 y3)], _, _, [], [], by simp, rfl, hts, hti⟩
  case round =>
    obtain ⟨i, qs, vE, vT, ends, tt, hi, rfl, ts, ti⟩ := hrel
    clear hts hti
    have hlen := tinv_len ti
    have hsm := hR.small
    rw [List.length_map] at hlen
    obtain ⟨sa, sc, hsv, hsa⟩ : ∃ ao cap, u6 = .slice ao qs.length cap ∧ (0 < qs.length → ∃ g, ao = some ⟨g, 0, Option.none⟩) := by
      rcases ownsRow_split ts.ownS with ⟨e, h0⟩ | ⟨g, cap, e⟩
      · exact ⟨_, _, by rw [e, h0], by omega⟩
      · exact ⟨_, _, e, fun _ => ⟨g, rfl⟩⟩
    by_cases hlt : i < qs.length
    · obtain ⟨g, rfl⟩ := hsa (by omega)
      subst hsv
      obtain ⟨c0, c1, c2⟩ := cells_at ts.ownS rfl i hlt
      have hqi := List.getElem_mem hlt
      have hRi : qs[i].1 ∈ R := ti.room _ (List.mem_map.2 ⟨qs[i], hqi, rfl⟩)
      have HE : Hid (Calls Tryz.prog 74 #[.agg #[.int .i64 qs[i].1.kind, .string ⟨qs[i].1.signs.toArray⟩, qs[i].2]] wr fun e w' => e = .returned (.bool (Ls.empty qs[i].1)) ∧ Below wr.heap.size wr w') :=
        empty_any qs[i].1 (hR.ok _ hRi).1 qs[i].2 wr _ (fun k hk => hk.1) (ts.each _ hqi)
      go_wp2_with fail
      refine HE.out.mono ?_
      rintro e w2 ⟨rfl, hb2⟩
      have ts2 := ts.below hb2
      have hl2 : ends.length ≤ i := by have := congrArg List.length ti.ends; simp at this; omega
      obtain ⟨ea, ec, rfl⟩ : ∃ ao cap, vE = .slice ao ends.length cap := by
        rcases ownsRow_split ts.ownE with ⟨e, h0⟩ | ⟨g, cap, e⟩
        · exact ⟨_, _, by rw [e, h0]⟩
        · exact ⟨_, _, e⟩
      have ts3 := ts2.below (below_alloc1 w2 (.cells #[.bool (Ls.empty qs[i].1)] 4))
      obtain ⟨t0, t1, _, _, htb⟩ := ts2.cell0
      obtain ⟨j, hj, j0, j1, j2⟩ := info_parts infoBool
      have hcn := cells_newM w2 (.bool (Ls.empty qs[i].1)) 4
      clear c0 c1 c2 HE
      go_wp2_with (at_builtin; go_must (refine wpList_append_own2 _ rfl _ _ 71 rfl w.heap.size 4 j _ 1 1 Tryz.underlying71 hj j0 j1 j2 rfl (by omega) (.slice ea ends.length ec) ends.length (ends.map Value.bool) rfl ts3.ownE ⟨w2.heap.size, 0, Option.none⟩ 1 1 [.bool (Ls.empty qs[i].1)] rfl rfl hcn (by simp [Value.oneCell']) ?l2 ?l3 ?l4 (by omega) ?_))
      case l2 => unfold maxLen; omega
      case l3 => omega
      case l4 => have := ts3.size; omega
      intro vE' w3 ho3 hg3 hr3
      have ts4 := ts3.endd ⟨ho3, hg3, by simpa using hr3⟩
      obtain ⟨s0, s1, f0, f1, htb3⟩ := ts4.cell0
      obtain ⟨x1, x2, x3, rfl⟩ : ∃ a b c, vE' = .slice a b c := by
        rcases ownsRow_split ho3 with ⟨e, h0⟩ | ⟨g, cap, e⟩
        · exact ⟨_, _, _, e⟩
        · exact ⟨_, _, _, e⟩
      have ts5 := ts4.store 1 (.slice x1 x2 x3) vT (.slice x1 x2 x3) rfl
      have ti5 := ti.endd (by simpa using hlt)
      rw [List.getElem_map] at ti5
      clear ts ts2 ts3 ts4 hcn ho3 hg3 hr3 t0 t1 ti hb2
      go_wp2_with fail
      have tk5 := TK.start ts5
      have Hqi : Hid (qs[i]? = some qs[i]) := List.getElem?_eq_getElem hlt
      clear ts5 s0 s1 f0 f1 htb3
      generalize w3.setCell ⟨w.heap.size + 1, 1, Option.none⟩ (.slice x1 x2 x3) = w4 at *
      generalize ends ++ [Ls.empty qs[i].1] = ends5 at *
      generalize hqq : qs[i] = q at *
      go_loopw [6, 7, 10, 11] (fun sv kv ov iv wx => ∃ (k : Nat) (qx : List (Ls.Pat × Value)) (ll : List (List Nat)), k ≤ L.length ∧ iv = .int .i64 k ∧ TK w wx (w.heap.size + 1) sv kv (.slice x1 x2 x3) vT ov qx ends5 tt ll ∧ Ls.TInv p L R (qx.map (·.1)) (i + 1) ends5 i tt ∧ qx[i]? = some q ∧ ll.length = k ∧ Ls.RowOk L (qx.map (·.1)) ll q.1) (fun _ _ _ iv _ => L.length - (intOf iv).toNat)
      case atStart => exact ⟨0, qs, [], Nat.zero_le _, rfl, tk5, ti5, Hqi.out, rfl, fun k c hk => by simp at hk⟩
      case round =>
        obtain ⟨k, qx, ll, hk, rfl, tk, tix, hqx, hll, hro⟩ := hrel
        have hlen := tinv_len tix
        rw [List.length_map] at hlen
        have hix : i < qx.length := (List.getElem?_eq_some_iff.1 hqx).1
        have hqe : qx[i] = q := by rw [List.getElem?_eq_getElem hix] at hqx; exact Option.some.inj hqx
        obtain ⟨sa, sc', hsv, hsa⟩ : ∃ ao cap, u6 = .slice ao qx.length cap ∧ (0 < qx.length → ∃ g, ao = some ⟨g, 0, Option.none⟩) := by
          rcases ownsRow_split tk.ts.ownS with ⟨e, h0⟩ | ⟨g, cap, e⟩
          · exact ⟨_, _, by rw [e, h0], by omega⟩
          · exact ⟨_, _, e, fun _ => ⟨g, rfl⟩⟩
        obtain ⟨gs, rfl⟩ := hsa (by omega)
        subst hsv
        by_cases hkl : k < L.length
        · obtain ⟨c0, c1, c2⟩ := cells_at tk.ts.ownS rfl i hix
          rw [hqe] at c0 c1 c2
          have hmem : q ∈ qx := by rw [← hqe]; exact List.getElem_mem hix
          have hRi : q.1 ∈ R := tix.room _ (List.mem_map.2 ⟨q, hmem, rfl⟩)
          have hokk := hR.ok _ hRi
          have hgs : gs < wr.heap.size := World.block_lt_of_cell? _ _ c0
          have HC : Hid (∀ W, Below wr.heap.size wr W → Calls Tryz.prog 75 #[.agg #[.int .i64 q.1.kind, .string ⟨q.1.signs.toArray⟩, q.2], .int .u8 L[k].toNat] W fun e w5 => ∃ m1 m2 m3 qm, e = .returned (.slice m1 m2 m3) ∧ qm.map (·.1) = Ls.behind q.1 L[k] ∧ MV w5 (Fix w5 (vs5 [u10] (.slice (some ⟨gs, 0, Option.none⟩) qx.length sc') u7 (.slice x1 x2 x3) vT (w.heap.size + 1))) (.slice m1 m2 m3) qm ∧ Below wr.heap.size wr w5) := fun W hW => by
            have hd := (tk.ts.below hW).dis
            refine (behind_any q.1 hokk.1 hokk.2.1 hokk.2.2.1 hokk.2.2.2 L[k] q.2 W _ (fun j hj => hj.1) ((tk.ts.below hW).each q hmem)).mono ?_
            intro e w5 hpost
            obtain ⟨v, qm, he, hq, hmv, hb⟩ := behind_MV hd hpost
            obtain ⟨ao, cap, e2, _⟩ := hmv.shape
            subst e2
            exact ⟨_, _, _, qm, he, hq, hmv, Below.join hW hb⟩
          have Hll : Hid (ll.length = k) := hll
          have Hqx : Hid (qx[i]? = some q) := hqx
          have hs : wr.cell? ⟨gs, i * 3, Option.none⟩ = some (.int .i64 q.1.kind) ∧ wr.cell? ⟨gs, i * 3 + 1, Option.none⟩ = some (.string ⟨q.1.signs.toArray⟩) ∧ wr.cell? ⟨gs, i * 3 + 2, Option.none⟩ = some q.2 := ⟨c0, c1, c2⟩
          clear hll hqx hqe
          go_wp2_with fail
          go_region_held (fun w' => w'.cell? ⟨gs, i * 3, Option.none⟩ = some (.int .i64 q.1.kind) ∧ w'.cell? ⟨gs, i * 3 + 1, Option.none⟩ = some (.string ⟨q.1.signs.toArray⟩) ∧ w'.cell? ⟨gs, i * 3 + 2, Option.none⟩ = some q.2) (first | assumption | go_keep) ((go_at_call 75; refine (HC.out _ ?_).mono ?_; exact (Below.refl _ _).drew; rintro e w5 ⟨m1, m2, m3, qm, rfl, hqm, hmv, hb5⟩; have hs3 : w5.cell? ⟨gs, i * 3, Option.none⟩ = some (.int .i64 q.1.kind) ∧ w5.cell? ⟨gs, i * 3 + 1, Option.none⟩ = some (.string ⟨q.1.signs.toArray⟩) ∧ w5.cell? ⟨gs, i * 3 + 2, Option.none⟩ = some q.2 := ⟨(hb5.cell (p := ⟨gs, _, Option.none⟩) hgs).trans c0, (hb5.cell (p := ⟨gs, _, Option.none⟩) hgs).trans c1, (hb5.cell (p := ⟨gs, _, Option.none⟩) hgs).trans c2⟩))
          have tj5 := (tk.below hb5).open' hmv
          have Hqm : Hid (qm.map (·.1) = Ls.behind q.1 L[k]) := hqm
          have HM : Hid (∀ x, x ∈ qm.map (·.1) → x ∈ R) := fun x hx => by rw [Hqm.out] at hx; exact hR.closed _ hRi _ _ hx
          have hlm : qm.length ≤ 1000000000 := by have := Ls.behind_length q.1 hokk.1 L[k]; rw [← Hqm.out] at this; simp at this; omega
          obtain ⟨ma, mc, hme, hma⟩ := hmv.shape
          injection hme with hme1 hme2 hme3
          subst hme1 hme2 hme3
          clear hs hs3 c0 c1 c2 HC hqm hmv
          have Hro : Hid (Ls.RowOk L (qx.map (·.1)) ll q.1) := hro
          clear hro hlen
          go_wp2_with fail
          go_loopw [6, 7, 13, 14] (fun sv kv lv iv wy => ∃ (j : Nat) (qy : List (Ls.Pat × Value)) (ns : List Nat), j ≤ qm.length ∧ iv = .int .i64 j ∧ TJ w wy (w.heap.size + 1) sv kv (.slice x1 x2 x3) vT u10 lv (.slice m1 qm.length m3) qy (qy.map fun q => Ls.key q.1) ends5 tt ll ns qm ∧ Ls.TInv p L R (qy.map (·.1)) (i + 1) ends5 i tt ∧ qy[i]? = some q ∧ Ls.RowOk L (qy.map (·.1)) ll q.1 ∧ ns.map (fun j => (qy.map (·.1))[j]?) = ((qm.map (·.1)).take j).map some) (fun _ _ _ iv _ => qm.length - (intOf iv).toNat)
          case atStart => exact ⟨0, qx, [], Nat.zero_le _, rfl, tj5, tix, Hqx.out, Hro.out, by simp⟩
          case round =>
            obtain ⟨j, qy, ns, hj, rfl, tj, tiy, hqy, hroy, hns⟩ := hrel
            have hlen := tinv_len tiy
            rw [List.length_map] at hlen
            have hnl : ns.length ≤ j := by have := congrArg List.length hns; simp at this; omega
            have Hqy : Hid (qy[i]? = some q) := hqy
            have Hroy : Hid (Ls.RowOk L (qy.map (·.1)) ll q.1) := hroy
            have Hns : Hid (ns.map (fun j => (qy.map (·.1))[j]?) = ((qm.map (·.1)).take j).map some) := hns
            have Htiy : Hid (Ls.TInv p L R (qy.map (·.1)) (i + 1) ends5 i tt) := tiy
            clear hqy hroy hns tiy tk tj5 tix Hqx Hro
            by_cases hjl : j < qm.length
            · obtain ⟨gm, rfl⟩ := hma (by omega)
              obtain ⟨d0, d1, d2⟩ := tj.mv.cells j hjl
              have hRj : qm[j].1 ∈ R := HM.out _ (List.mem_map.2 ⟨qm[j], List.getElem_mem hjl, rfl⟩)
              have hokj := hR.ok _ hRj
              have HK : Hid (Calls Tryz.prog 73 #[.agg #[.int .i64 qm[j].1.kind, .string ⟨qm[j].1.signs.toArray⟩, qm[j].2]] wr fun e w' => e = .returned (.string ⟨(Ls.key qm[j].1).toArray⟩) ∧ Below wr.heap.size wr w') :=
                key_any qm[j].1 hokj.1 hokj.2.1 qm[j].2 wr _ (fun k hk => hk.1) (tj.mv.2 _ (List.getElem_mem hjl))
              go_wp2_with fail
              refine HK.out.mono ?_
              rintro e w6 ⟨rfl, hb6⟩
              have tj6 := tj.below hb6
              clear HK d0 d1 d2 tj
              obtain ⟨ka, kc, hkv, hka⟩ := tj6.ts.keys.shape
              rw [List.length_map] at hkv
              have Hka : Hid (0 < (qy.map fun q => Ls.key q.1).length → ∃ g, ka = some ⟨g, 0, Option.none⟩ ∧ g < w6.heap.size ∧ ∀ i (h : i < (qy.map fun q => Ls.key q.1).length), w6.cell? ⟨g, i, Option.none⟩ = some (strV (qy.map fun q => Ls.key q.1)[i])) := hka
              clear hka
              subst hkv
              obtain ⟨ji, hji, j0', j1', j2'⟩ := info_parts infoInt
              go_wp2_with fail
              go_loop [16] (fun av => ∃ a : Nat, a ≤ qy.length ∧ av = .int .i64 a ∧ ∀ b, b < a → ∀ x, qy[b]? = some x → Ls.key x.1 ≠ Ls.key qm[j].1) (fun av => qy.length - (intOf av).toNat)
              case atStart => exact ⟨0, Nat.zero_le _, rfl, fun b hb => by omega⟩
              case round =>
                obtain ⟨a, ha, rfl, hno⟩ := hrel
                have Hno : Hid (∀ b, b < a → ∀ x, qy[b]? = some x → Ls.key x.1 ≠ Ls.key qm[j].1) := hno
                clear hno
                by_cases hal : a < qy.length
                · obtain ⟨gk, rfl, hgk, hck⟩ := Hka.out (by simp; omega)
                  have k0 := hck a (by simpa using hal)
                  rw [List.getElem_map] at k0
                  have Hck : Hid (∀ i (h : i < (qy.map fun q => Ls.key q.1).length), w6.cell? ⟨gk, i, Option.none⟩ = some (strV (qy.map fun q => Ls.key q.1)[i])) := hck
                  clear hck
                  by_cases hkey : Ls.key qy[a].1 = Ls.key qm[j].1
                  · have hkb : (Ls.key qy[a].1 == Ls.key qm[j].1) = true := by simp [hkey]
                    have hnb : ((a : Int) == (qy.length : Int)) = false := by simp; omega
                    have hwa : Ls.wf qy[a].1 := (hR.ok _ (Htiy.out.room _ (List.mem_map.2 ⟨qy[a], List.getElem_mem hal, rfl⟩))).1
                    have Hlead := lead_snoc Hns.out (by simpa using hjl) (a := a) (by rw [fst_get hal, List.getElem_map, Ls.key_inj hwa hokj.1 hkey])
                    have HL : Hid _ := Hlead
                    have tj7 := tj6.below (below_alloc1 w6 (.cells #[.int .i64 a] 3))
                    have hcn := cells_newM w6 (.int .i64 a) 3
                    clear hkey Hlead Hka
                    go_wp2_with (at_builtin; refine wpList_append_own2 _ rfl _ _ 75 rfl w.heap.size 3 ji _ 1 8 Tryz.underlying75 hji j0' j1' j2' rfl (by omega) u13 ns.length (intsV ns) rfl tj7.lw ⟨w6.heap.size, 0, Option.none⟩ 1 1 [.int .i64 a] rfl rfl hcn (by simp [Value.oneCell']) ?l2 ?l3 ?l4 (by omega) ?_)
                    case l2 => unfold maxLen; omega
                    case l3 => omega
                    case l4 => have := tj6.ts.size; simp; omega
                    intro v8 w8 ho8 hg8 hr8
                    have tj8 := tj7.number ⟨ho8, hg8, by simpa using hr8⟩
                    go_wp2_with fail
                    exact ⟨⟨j + 1, qy, ns ++ [a], by omega, by go_num, tj8, Htiy.out, Hqy.out, Hroy.out, HL.out⟩, by simp [intOf]; omega⟩
                  · have hkb : (Ls.key qy[a].1 == Ls.key qm[j].1) = false := by simp [hkey]
                    have Hkey : Hid (¬ Ls.key qy[a].1 = Ls.key qm[j].1) := hkey
                    clear hkey
                    go_wp2_with fail
                    refine ⟨⟨a + 1, by omega, by go_num, fun b hb x hx => ?_⟩, by simp [intOf]; omega⟩
                    rcases Nat.lt_or_ge b a with h1 | h1
                    · exact Hno.out b h1 x hx
                    · have : b = a := by omega
                      subst this
                      rw [List.getElem?_eq_getElem hal] at hx
                      injection hx with hx
                      subst hx
                      exact Hkey.out
                · have hae : a = qy.length := by omega
                  subst hae
                  obtain ⟨d0, d1, d2⟩ := tj6.mv.cells j hjl
                  have hpj := tj6.mv.2 _ (List.getElem_mem hjl)
                  obtain ⟨n1, n2, n3, hn3⟩ := PV.slice _ _ hpj
                  obtain ⟨pi, hpi, p0', p1', p2'⟩ := info_parts infoPat
                  have tj7 := tj6.below (below_alloc1 w6 (.cells #[.int .i64 qm[j].1.kind, .string ⟨qm[j].1.signs.toArray⟩, qm[j].2] 27))
                  have hcn := cells_new3 w6 qm[j].1 qm[j].2
                  have hpo := patC_one hpj
                  have HN3 : Hid (qm[j].2 = .slice n1 n2 n3) := hn3
                  clear hn3
                  go_wp2_with (at_builtin; refine wpList_append_own2 _ rfl _ _ 25 rfl w.heap.size 27 pi _ 3 48 Tryz.underlying25 hpi p0' p1' p2' rfl (by omega) u6 qy.length (flat qy) rfl tj7.ts.ownS ⟨w6.heap.size, 0, Option.none⟩ 1 1 (patC qm[j].1 qm[j].2) rfl rfl hcn hpo ?l2 ?l3 ?l4 (by omega) ?_)
                  case l2 => unfold maxLen; omega
                  case l3 => omega
                  case l4 => have := tj6.ts.size; simp; omega
                  intro v8 w8 ho8 hg8 hr8
                  have tj8 := tj7.state (tj7.mv.2 _ (List.getElem_mem hjl)) ⟨ho8, hg8, by simpa using hr8⟩
                  have tj9 := tj8.below (below_alloc1 w8 (.cells #[strV (Ls.key qm[j].1)] 9))
                  have hs4 := tj9.ts.keys
                  have hs5 : SV (w8.alloc (.cells #[strV (Ls.key qm[j].1)] 9)) w8.heap.size (.slice (some ⟨w8.heap.size, 0, Option.none⟩) 1 1) [Ls.key qm[j].1] :=
                    ⟨World.ownsRow_lit (e := 9) (size := 1) w8 #[strV (Ls.key qm[j].1)] 1 (Nat.le_refl _) (by unfold maxLen; omega) rfl, by simp⟩
                  have hz8 := tj8.ts.size
                  clear d0 d1 d2 tj6 tj7 tj8 hpo hcn ho8 hg8 hr8 hpj
                  go_wp2_with (at_builtin; refine wpList_append_rows rfl _ _ rfl w.heap.size w8.heap.size (.slice ka qy.length kc) (.slice (some ⟨w8.heap.size, 0, Option.none⟩) 1 1) (qy.map fun q => Ls.key q.1) [Ls.key qm[j].1] rfl rfl hs4 hs5 (by simp; omega) (by simp; omega) ?_)
                  intro v10 w10 hs10 hg10 hr10
                  have tj10 := tj9.key hs10 hg10 (by simpa using hr10)
                  rw [show (qy.map fun q => Ls.key q.1) ++ [Ls.key qm[j].1] = ((qy ++ [(qm[j].1, qm[j].2)]).map fun q => Ls.key q.1) by simp] at tj10
                  have tj11 := tj10.below (below_alloc1 w10 (.cells #[.int .i64 qy.length] 3))
                  have hcn := cells_newM w10 (.int .i64 qy.length) 3
                  have hz10 := tj10.ts.size
                  have HT : Hid (Ls.TInv p L R ((qy ++ [(qm[j].1, qm[j].2)]).map (·.1)) (i + 1) ends5 i tt) := by
                    have ht := Htiy.out
                    have := ht.push (x := qm[j].1) (by have := ht.le; omega) hRj (fun y hy => by
                      obtain ⟨b, hb⟩ := List.getElem?_of_mem hy
                      rw [List.getElem?_map] at hb
                      cases hb2 : qy[b]? with
                      | none => rw [hb2] at hb; cases hb
                      | some x =>
                        rw [hb2] at hb
                        injection hb with hb
                        subst hb
                        exact Hno.out b (List.getElem?_eq_some_iff.1 hb2).1 x hb2)
                    show Ls.TInv p L R ((qy ++ [(qm[j].1, qm[j].2)]).map (·.1)) (i + 1) ends5 i tt
                    rw [List.map_append]
                    exact this
                  have HL : Hid ((ns ++ [qy.length]).map (fun b => ((qy ++ [(qm[j].1, qm[j].2)]).map (·.1))[b]?) = ((qm.map (·.1)).take (j + 1)).map some) := by
                    refine lead_snoc ?_ (by simpa using hjl) ?_
                    · rw [List.map_append]; exact Ls.lead_mono _ Hns.out
                    · rw [List.map_append, List.getElem?_append_right (by simp)]; simp
                  have HR2 : Hid (Ls.RowOk L ((qy ++ [(qm[j].1, qm[j].2)]).map (·.1)) ll q.1) := by
                    show Ls.RowOk _ _ _ _
                    rw [List.map_append]; exact Hroy.out.mono _
                  have HQ2 : Hid ((qy ++ [(qm[j].1, qm[j].2)])[i]? = some q) := by
                    show _ = _
                    rw [List.getElem?_append_left (List.getElem?_eq_some_iff.1 Hqy.out).1]; exact Hqy.out
                  clear hs4 hs5 hs10 hg10 hr10 tj9 tj10
                  go_wp2_with (at_builtin; refine wpList_append_own2 _ rfl _ _ 75 rfl w.heap.size 3 ji _ 1 8 Tryz.underlying75 hji j0' j1' j2' rfl (by omega) u13 ns.length (intsV ns) rfl tj11.lw ⟨w10.heap.size, 0, Option.none⟩ 1 1 [.int .i64 qy.length] rfl rfl hcn (by simp [Value.oneCell']) ?l2 ?l3 ?l4 (by omega) ?_)
                  case l2 => unfold maxLen; omega
                  case l3 => omega
                  case l4 => omega
                  intro v12 w12 ho12 hg12 hr12
                  have tj12 := tj11.number ⟨ho12, hg12, by simpa using hr12⟩
                  go_wp2_with fail
                  exact ⟨⟨j + 1, qy ++ [(qm[j].1, qm[j].2)], ns ++ [qy.length], by omega, by go_num, tj12, HT.out, HQ2.out, HR2.out, HL.out⟩, by simp [intOf]; omega⟩
            · have hje : j = qm.length := by omega
              subst hje
              obtain ⟨tkc, hiv⟩ := tj.close
              obtain ⟨l1, l2, l3, rfl⟩ : ∃ a b c, u13 = .slice a b c := by
                rcases ownsRow_split tj.lw with ⟨e, h0⟩ | ⟨g, cap, e⟩
                · exact ⟨_, _, _, e⟩
                · exact ⟨_, _, _, e⟩
              have hba := below_alloc1 wr (.cells #[.slice l1 l2 l3] 75)
              have tk7 := tkc.below hba
              have hiv7 := hiv.mono2 ((tkc.ts.dis.below hba).2.fixB w.heap.size)
              obtain ⟨xs, r1, r2, _⟩ := tk7.ow
              obtain ⟨ji, hji, j0', j1', j2'⟩ := info_parts infoInts
              have hcn := cells_newM wr (.slice l1 l2 l3) 75
              have hxl : xs.length ≤ 1000 := by have := Hll.out; omega
              have Hr2 : Hid (xs.length = ll.length) := r2
              have hzr := tkc.ts.size
              clear tj r2 tkc hiv
              go_wp2_with (at_builtin; refine wpList_append_own2 _ rfl _ _ 76 rfl w.heap.size 75 ji _ 1 24 Tryz.underlying76 hji j0' j1' j2' rfl (by omega) u10 xs.length xs rfl r1 ⟨wr.heap.size, 0, Option.none⟩ 1 1 [.slice l1 l2 l3] rfl rfl hcn (by simp [Value.oneCell']) ?l2 ?l3 ?l4 (by omega) ?_)
              case l2 => unfold maxLen; omega
              case l3 => omega
              case l4 => omega
              intro v8 w8 ho8 hg8 hr8
              have tk8 := tk7.more hiv7 (fun ys h1 h2 => by
                have hl : ys.length = xs.length := h2.trans Hr2.out.symm
                rw [hl] at h1
                have e := ownsRow_unique h1 r1
                subst e
                exact ⟨ho8, hg8, by simpa using hr8⟩)
              have Hln : Hid (ns.map (fun j => (qy.map (·.1))[j]?) = (Ls.behind q.1 L[k]).map some) := by
                have := Hns.out
                rw [List.take_of_length_le (by simp), Hqm.out] at this
                exact this
              go_wp2_with fail
              refine ⟨⟨k + 1, qy, ll ++ [ns], by omega, by go_num, tk8, Htiy.out, Hqy.out, by rw [List.length_append, Hll.out]; rfl, Hroy.out.snoc (c := L[k]) (by rw [Hll.out, List.getElem?_eq_getElem hkl]) Hln.out⟩, by simp [intOf]; omega⟩
        · have hke : k = L.length := by omega
          subst hke
          obtain ⟨tsc, hii⟩ := tk.close
          obtain ⟨o1, o2, o3, rfl⟩ : ∃ a b c, u10 = .slice a b c := by
            obtain ⟨xs, r1, _⟩ := tk.ow
            rcases ownsRow_split r1 with ⟨e, h0⟩ | ⟨g, cap, e⟩
            · exact ⟨_, _, _, e⟩
            · exact ⟨_, _, _, e⟩
          obtain ⟨xs, r1, r2, _⟩ := tsc.rows
          obtain ⟨t1, t2, t3, rfl⟩ : ∃ a b c, vT = .slice a b c := by
            rcases ownsRow_split r1 with ⟨e, h0⟩ | ⟨g, cap, e⟩
            · exact ⟨_, _, _, e⟩
            · exact ⟨_, _, _, e⟩
          have hba := below_alloc1 wr (.cells #[.slice o1 o2 o3] 76)
          have ts7 := tsc.below hba
          have hii7 := hii.mono ((tsc.dis.below hba).2.fixB w.heap.size)
          obtain ⟨ys, r1', r2', _⟩ := ts7.rows
          obtain ⟨e0, e1, _, _, _⟩ := tsc.cell0
          obtain ⟨ji, hji, j0', j1', j2'⟩ := info_parts infoIntss
          have hcn := cells_newM wr (.slice o1 o2 o3) 76
          have hzr := tsc.size
          have hyl : ys.length ≤ 500000000 := by have := tix.lenT; have := tix.le; simp at this; omega
          have Hr2 : Hid (ys.length = tt.length) := r2'
          have Htix : Hid (Ls.TInv p L R (qx.map (·.1)) (i + 1) ends5 i tt) := tix
          have Hll : Hid (ll.length = L.length) := hll
          have Hro : Hid (Ls.RowOk L (qx.map (·.1)) ll q.1) := hro
          have Hqx : Hid (qx[i]? = some q) := hqx
          clear tk r1 r2 r2' tix hll hro hqx hqe
          go_wp2_with (at_builtin; refine wpList_append_own2 _ rfl _ _ 70 rfl w.heap.size 76 ji _ 1 24 Tryz.underlying70 hji j0' j1' j2' rfl (by omega) (.slice t1 t2 t3) ys.length ys rfl r1' ⟨wr.heap.size, 0, Option.none⟩ 1 1 [.slice o1 o2 o3] rfl rfl hcn (by simp [Value.oneCell']) ?l2 ?l3 ?l4 (by omega) ?_)
          case l2 => unfold maxLen; omega
          case l3 => omega
          case l4 => simp; omega
          intro vT' w8 ho8 hg8 hr8
          have ts8 := ts7.row hii7 (fun zs h1 h2 => by
            have hl : zs.length = ys.length := h2.trans Hr2.out.symm
            rw [hl] at h1
            have e := ownsRow_unique h1 r1'
            subst e
            exact ⟨ho8, hg8, by simpa using hr8⟩)
          obtain ⟨s0, s1, f0, f1, htb3⟩ := ts8.cell0
          obtain ⟨z1, z2, z3, rfl⟩ : ∃ a b c, vT' = .slice a b c := by
            rcases ownsRow_split ho8 with ⟨e, h0⟩ | ⟨g, cap, e⟩
            · exact ⟨_, _, _, e⟩
            · exact ⟨_, _, _, e⟩
          have ts9 := ts8.store 0 (.slice z1 z2 z3) (.slice z1 z2 z3) (.slice x1 x2 x3) rfl
          clear ts7 ts8 ho8 hg8 hr8 hcn e0 e1
          go_wp2_with fail
          refine ⟨⟨i + 1, qx, _, _, ends5, tt ++ [ll], hix, by go_num, ts9, Htix.out.row (by rw [List.getElem?_map, Hqx.out]; rfl) Hll.out Hro.out⟩, by simp [intOf]; omega⟩
    · subst hsv
      go_wp2_with fail
      go_ret
      have hie : i = qs.length := by omega
      subst hie
      have ti' : Ls.TInv p L R (qs.map (·.1)) (qs.map (·.1)).length ends (qs.map (·.1)).length tt := by rw [List.length_map]; exact ti
      exact ⟨w.heap.size + 1, ⟨tt, ends⟩, qs.map (·.1), rfl, ts.done, ti'.done (fun x hx => (hR.ok x hx).1), by rw [List.length_map]; exact hlen, ti.room, ts.bel⟩

end Go.Proofs.YtfklinjaajafgaaGreatDoor
