import Derived.Test.YtbdjchmnahjjlaaDoorLsE
namespace Go.Proofs.YtbdjchmnahjjlaaDoor
open Go.RowKit

theorem grownBy_of_below {w w' : World} (h : Below w.heap.size w w') (r : Option Nat) : w.grownBy w' r := ⟨h.os, h.tape, h.output, h.size, fun k hk _ => h.block k hk⟩

theorem grownBy_trans {a b c : World} {r : Option Nat} (h : a.grownBy b r) (k : b.grownBy c r) : a.grownBy c r :=
  ⟨k.os.trans h.os, k.tape.trans h.tape, k.output.trans h.output, Nat.le_trans h.size k.size, fun i hi hr => (k.block i (Nat.lt_of_lt_of_le hi h.size) hr).trans (h.block i hi hr)⟩

theorem LV.cells {w : World} {base : Nat} {G : Nat → Prop} {g cap : Nat} {qs : List (Ls.Pat × Value)} (h : LV w base G (.slice (some ⟨g, 0, Option.none⟩) qs.length cap) qs) (i : Nat) (hi : i < qs.length) :
    w.cell? ⟨g, i * 3, Option.none⟩ = some (.int .i64 qs[i].1.kind) ∧ w.cell? ⟨g, i * 3 + 1, Option.none⟩ = some (.string ⟨qs[i].1.signs.toArray⟩) ∧ w.cell? ⟨g, i * 3 + 2, Option.none⟩ = some qs[i].2 := by
  refine ⟨?_, ?_, ?_⟩
  · rw [h.own.cellAt (i * 3) (by omega)]; have := flat_get qs i 0 (by omega) hi; simpa using this
  · rw [h.own.cellAt (i * 3 + 1) (by omega), flat_get qs i 1 (by omega) hi]; rfl
  · rw [h.own.cellAt (i * 3 + 2) (by omega), flat_get qs i 2 (by omega) hi]; rfl

theorem LV.kept {w w' : World} {base : Nat} {G : Nat → Prop} {v : Value} {qs : List (Ls.Pat × Value)} (h : LV w base G v qs) (hb : Below w.heap.size w w') : LV w' base G v qs :=
  ⟨h.own.kept (grownBy_of_below hb Option.none) (by cases hv : v.ownBlock <;> simp), fun q hq => (h.each q hq).below hb h.old fun _ h => h, h.apart, h.old.below hb⟩

theorem LV.pushed {w w' : World} {base : Nat} {G : Nat → Prop} {v v' : Value} {qs : List (Ls.Pat × Value)} (h : LV w base G v qs) {p : Ls.Pat} {y : Value} (hp : PV w G p y) (hg : w.grownBy w' v.ownBlock)
    (hown : w'.ownsRow base 27 3 v' (qs.length + 1) (flat qs ++ patC p y)) (hv : v'.ownBlock = v.ownBlock ∨ ∃ k, v'.ownBlock = some k ∧ w.heap.size ≤ k) : LV w' base G v' (qs ++ [(p, y)]) := by
  have hk : ∀ k, G k → w'.heap[k]? = w.heap[k]? := fun k hk => hg.block k (h.old k hk) (h.apart k hk)
  refine ⟨?_, ?_, ?_, ?_⟩
  · rw [flat_append, List.length_append]; exact hown
  · intro q hq
    rcases List.mem_append.1 hq with hq | hq
    · exact PV.mono (fun _ h => h) hk _ _ (h.each q hq)
    · simp only [List.mem_singleton] at hq
      subst hq
      exact PV.mono (fun _ h => h) hk _ _ hp
  · intro k hG
    rcases hv with hv | ⟨m, hv, hm⟩
    · rw [hv]; exact h.apart k hG
    · rw [hv]; have := h.old k hG; intro e; injection e with e; omega
  · exact fun k hG => Nat.lt_of_lt_of_le (h.old k hG) hg.size

theorem patC_one {p : Ls.Pat} {y : Value} {w : World} {G : Nat → Prop} (hp : PV w G p y) : ∀ u ∈ patC p y, u.oneCell' = true := by
  obtain ⟨a, n, c, rfl⟩ := PV.slice _ _ hp
  intro u hu
  simp only [List.mem_cons, List.not_mem_nil, or_false] at hu
  rcases hu with rfl | rfl | rfl <;> rfl

theorem cells_new3 (w : World) (p : Ls.Pat) (y : Value) : ∀ j u, (patC p y)[j]? = some u → (w.alloc (.cells #[.int .i64 p.kind, .string ⟨p.signs.toArray⟩, y] 27)).cell? ((⟨w.heap.size, 0, Option.none⟩ : Addr).add j) = some u := by
  intro j u hu
  have hl := lies_new w (patC p y)
  have := hl.cell j
  rw [hu] at this
  rw [← this]
  unfold Addr.add
  split
  · subst_vars; rfl
  · simp

/-- What put answers of l and p. -/
def PutPost (w : World) (base : Nat) (G : Nat → Prop) (v : Value) (qs : List (Ls.Pat × Value)) (p : Ls.Pat) : Ending → World → Prop := fun e w' =>
  ∃ v' qs', e = .returned v' ∧ qs'.map (·.1) = Ls.put (qs.map (·.1)) p ∧ LV w' base G v' qs' ∧ w.grownBy w' v.ownBlock ∧ (v'.ownBlock = v.ownBlock ∨ ∃ k, v'.ownBlock = some k ∧ w.heap.size ≤ k)

theorem put_found {qs : List (Ls.Pat × Value)} {p : Ls.Pat} {k : Nat} (hk : k < qs.length) (h : Ls.key qs[k].1 = Ls.key p) : Ls.put (qs.map (·.1)) p = qs.map (·.1) := by
  unfold Ls.put
  rw [if_pos]
  rw [List.any_eq_true]
  exact ⟨qs[k].1, List.mem_map.2 ⟨qs[k], List.getElem_mem hk, rfl⟩, by simp [h]⟩

theorem put_lacks {qs : List (Ls.Pat × Value)} {p : Ls.Pat} (h : ∀ q, q ∈ qs → Ls.key q.1 ≠ Ls.key p) (y : Value) : (qs ++ [(p, y)]).map (·.1) = Ls.put (qs.map (·.1)) p := by
  unfold Ls.put
  rw [if_neg]
  · simp
  · rw [List.any_eq_true]
    rintro ⟨x, hx, hq⟩
    obtain ⟨q, hq1, rfl⟩ := List.mem_map.1 hx
    exact h q hq1 (by simpa using hq)

set_option maxRecDepth 100000 in
set_option maxHeartbeats 800000 in
theorem put_some (w : World) (base : Nat) (hbase : base ≤ w.heap.size) (G : Nat → Prop) (g cap : Nat) (qs : List (Ls.Pat × Value)) (h : LV w base G (.slice (some ⟨g, 0, Option.none⟩) qs.length cap) qs) (hn : qs.length ≤ 1000000000)
    (hq : ∀ q, q ∈ qs → Ls.wf q.1 ∧ (Ls.key q.1).length ≤ 4611686018427387904) (p : Ls.Pat) (y : Value) (hp : PV w G p y) (hwp : Ls.wf p) (hkp : (Ls.key p).length ≤ 4611686018427387904) :
    Calls Tryd.prog 19 #[.slice (some ⟨g, 0, Option.none⟩) qs.length cap, patA p y] w (PutPost w base G (.slice (some ⟨g, 0, Option.none⟩) qs.length cap) qs p) := by
  have Hq : Hid (∀ q, q ∈ qs → Ls.wf q.1 ∧ (Ls.key q.1).length ≤ 4611686018427387904) := hq
  clear hq
  go_enter Tryd.func19, Tryd.ntmps19
  go_wp2_with fail
  refine (key_any p hwp hkp y _ G (Old.alloc h.old _) (hp.below (below_alloc1 _ _) h.old fun _ h => h)).mono ?_
  rintro e w1 ⟨rfl, hb1⟩
  have hb0 := Below.join (below_alloc1 w (.cells #[.int .i64 p.kind, .string ⟨p.signs.toArray⟩, y] 27)) hb1
  have hz0 := hb1.size
  simp at hz0
  have b0 : w1.cell? ⟨w.heap.size, 0, Option.none⟩ = some (.int .i64 p.kind) := (hb1.cell (p := ⟨w.heap.size, 0, Option.none⟩) (by simp)).trans ((lies_new w (patC p y)).cell 0)
  have b1 : w1.cell? ⟨w.heap.size, 1, Option.none⟩ = some (.string ⟨p.signs.toArray⟩) := (hb1.cell (p := ⟨w.heap.size, 1, Option.none⟩) (by simp)).trans ((lies_new w (patC p y)).cell 1)
  have b2 : w1.cell? ⟨w.heap.size, 2, Option.none⟩ = some y := (hb1.cell (p := ⟨w.heap.size, 2, Option.none⟩) (by simp)).trans ((lies_new w (patC p y)).cell 2)
  go_wp2_with fail
  go_loopw [6] (fun i wr => ∃ k : Nat, k ≤ qs.length ∧ i = .int .i64 k ∧ Below w1.heap.size w1 wr ∧ ∀ q, q ∈ qs.take k → Ls.key q.1 ≠ Ls.key p) (fun i _ => qs.length - (intOf i).toNat)
  case atStart => exact ⟨0, Nat.zero_le _, rfl, Below.refl _ _, by simp⟩
  case round =>
    obtain ⟨k, hk, rfl, hb2, hno⟩ := hrel
    have Hno : Hid (∀ q, q ∈ qs.take k → Ls.key q.1 ≠ Ls.key p) := hno
    clear hno
    have hbw := Below.join hb0 hb2
    have hv := h.kept hbw
    by_cases hlt : k < qs.length
    · obtain ⟨c0, c1, c2⟩ := hv.cells k hlt
      go_wp2_with fail
      have hqk := Hq.out qs[k] (List.getElem_mem hlt)
      refine (key_any qs[k].1 hqk.1 hqk.2 qs[k].2 _ G hv.old (hv.each _ (List.getElem_mem hlt))).mono ?_
      rintro e w3 ⟨rfl, hb3⟩
      by_cases hkey : Ls.key qs[k].1 = Ls.key p
      · have hkb : (Ls.key qs[k].1 == Ls.key p) = true := by simp [hkey]
        have Hkey : Hid (Ls.key qs[k].1 = Ls.key p) := hkey
        clear hkey
        go_wp2_with fail
        go_ret
        exact ⟨_, qs, rfl, (put_found hlt Hkey.out).symm, hv.kept hb3, grownBy_of_below (Below.join hbw hb3) _, .inl rfl⟩
      · have hkb : (Ls.key qs[k].1 == Ls.key p) = false := by simp [hkey]
        have Hkey : Hid (¬ Ls.key qs[k].1 = Ls.key p) := hkey
        clear hkey
        go_wp2_with fail
        go_roundw
        case rel =>
          refine ⟨k + 1, by omega, by go_num, Below.join hb2 hb3, fun q hq => ?_⟩
          rw [List.take_succ_eq_append_getElem hlt] at hq
          rcases List.mem_append.1 hq with hq | hq
          · exact Hno.out q hq
          · simp only [List.mem_singleton] at hq
            rw [hq]; exact Hkey.out
        case measure => simp [intOf]; omega
    · have r0 := (hb2.cell (p := ⟨w.heap.size, 0, Option.none⟩) (by show w.heap.size < _; omega)).trans b0
      have r1 := (hb2.cell (p := ⟨w.heap.size, 1, Option.none⟩) (by show w.heap.size < _; omega)).trans b1
      have r2 := (hb2.cell (p := ⟨w.heap.size, 2, Option.none⟩) (by show w.heap.size < _; omega)).trans b2
      have hz2 := hb2.size
      obtain ⟨i, hi, hz0, hz1, hzb⟩ := info_parts infoPat
      have hoa := hv.own.alloc (.cells #[.int .i64 p.kind, .string ⟨p.signs.toArray⟩, y] 27)
      have hcn := cells_new3 wr p y
      have hpo := patC_one hp
      go_wp2_with (at_builtin; refine wpList_append_own2 _ rfl _ _ 25 rfl base 27 i _ 3 48 Tryd.underlying25 hi hz0 hz1 hzb rfl (by omega) (.slice (some ⟨g, 0, Option.none⟩) qs.length cap) qs.length (flat qs) rfl hoa ⟨wr.heap.size, 0, Option.none⟩ 1 1 (patC p y) rfl ?l1 hcn hpo ?l2 ?l3 ?l4 ?l5 ?_)
      case l1 => rfl
      case l2 => unfold maxLen; omega
      case l3 => omega
      case l4 => simp; omega
      case l5 => omega
      intro v' w' ho hg hvv
      go_wp2_with fail
      go_ret
      have hk1 : k = qs.length := by omega
      have hno := Hno.out
      rw [hk1, List.take_length] at hno
      have hva := hv.kept (below_alloc1 wr (.cells #[.int .i64 p.kind, .string ⟨p.signs.toArray⟩, y] 27))
      have hbx := Below.join hbw (below_alloc1 wr (.cells #[.int .i64 p.kind, .string ⟨p.signs.toArray⟩, y] 27))
      refine ⟨v', qs ++ [(p, y)], rfl, put_lacks hno y, hva.pushed (hp.below hbx h.old fun _ h => h) hg ho (by simpa using hvv), grownBy_trans (grownBy_of_below hbx _) hg, ?_⟩
      rcases hvv with hvv | ⟨m, hvv, hm⟩
      · exact .inl hvv
      · exact .inr ⟨m, hvv, by have := hbw.size; omega⟩

set_option maxRecDepth 100000 in
set_option maxHeartbeats 800000 in
theorem put_nil (w : World) (base : Nat) (hbase : base ≤ w.heap.size) (G : Nat → Prop) (h : LV w base G (.slice Option.none 0 0) [])
    (p : Ls.Pat) (y : Value) (hp : PV w G p y) (hwp : Ls.wf p) (hkp : (Ls.key p).length ≤ 4611686018427387904) :
    Calls Tryd.prog 19 #[.slice Option.none 0 0, patA p y] w (PutPost w base G (.slice Option.none 0 0) [] p) := by
  go_enter Tryd.func19, Tryd.ntmps19
  go_wp2_with fail
  refine (key_any p hwp hkp y _ G (Old.alloc h.old _) (hp.below (below_alloc1 _ _) h.old fun _ h => h)).mono ?_
  rintro e w1 ⟨rfl, hb1⟩
  have hb0 := Below.join (below_alloc1 w (.cells #[.int .i64 p.kind, .string ⟨p.signs.toArray⟩, y] 27)) hb1
  have hz0 := hb1.size
  simp at hz0
  have b0 : w1.cell? ⟨w.heap.size, 0, Option.none⟩ = some (.int .i64 p.kind) := (hb1.cell (p := ⟨w.heap.size, 0, Option.none⟩) (by simp)).trans ((lies_new w (patC p y)).cell 0)
  have b1 : w1.cell? ⟨w.heap.size, 1, Option.none⟩ = some (.string ⟨p.signs.toArray⟩) := (hb1.cell (p := ⟨w.heap.size, 1, Option.none⟩) (by simp)).trans ((lies_new w (patC p y)).cell 1)
  have b2 : w1.cell? ⟨w.heap.size, 2, Option.none⟩ = some y := (hb1.cell (p := ⟨w.heap.size, 2, Option.none⟩) (by simp)).trans ((lies_new w (patC p y)).cell 2)
  have hv := h.kept hb0
  obtain ⟨i, hi, hi0, hi1, hib⟩ := info_parts infoPat
  have hoa := hv.own.alloc (.cells #[.int .i64 p.kind, .string ⟨p.signs.toArray⟩, y] 27)
  have hcn := cells_new3 w1 p y
  have hpo := patC_one hp
  go_wp2_with fail
  refine wp_loop_rounds 1 ?_
  rw [rounds_succ]
  go_wp2_with (at_builtin; refine wpList_append_own2 _ rfl _ _ 25 rfl base 27 i _ 3 48 Tryd.underlying25 hi hi0 hi1 hib rfl (by omega) (.slice Option.none 0 0) 0 (flat []) rfl hoa ⟨w1.heap.size, 0, Option.none⟩ 1 1 (patC p y) rfl ?l1 hcn hpo ?l2 ?l3 ?l4 ?l5 ?_)
  case l1 => rfl
  case l2 => unfold maxLen; omega
  case l3 => omega
  case l4 => simp; omega
  case l5 => omega
  intro v' w' ho hg hvv
  go_wp2_with fail
  go_ret
  have hva := hv.kept (below_alloc1 w1 (.cells #[.int .i64 p.kind, .string ⟨p.signs.toArray⟩, y] 27))
  have hbx := Below.join hb0 (below_alloc1 w1 (.cells #[.int .i64 p.kind, .string ⟨p.signs.toArray⟩, y] 27))
  refine ⟨v', [] ++ [(p, y)], rfl, put_lacks (by simp) y, hva.pushed (hp.below hbx h.old fun _ h => h) hg ho (by simpa using hvv), grownBy_trans (grownBy_of_below hbx _) hg, ?_⟩
  rcases hvv with hvv | ⟨m, hvv, hm⟩
  · exact .inl hvv
  · exact .inr ⟨m, hvv, by omega⟩

/-- put, whatever the list. -/
theorem put_any (w : World) (base : Nat) (hbase : base ≤ w.heap.size) (G : Nat → Prop) (v : Value) (qs : List (Ls.Pat × Value)) (h : LV w base G v qs) (hn : qs.length ≤ 1000000000)
    (hq : ∀ q, q ∈ qs → Ls.wf q.1 ∧ (Ls.key q.1).length ≤ 4611686018427387904) (p : Ls.Pat) (y : Value) (hp : PV w G p y) (hwp : Ls.wf p) (hkp : (Ls.key p).length ≤ 4611686018427387904) :
    Calls Tryd.prog 19 #[v, patA p y] w (PutPost w base G v qs p) := by
  rcases h.own.2 with ⟨rfl, h0⟩ | ⟨g, cap, cur, rfl, _⟩
  · have : qs = [] := List.eq_nil_of_length_eq_zero h0
    subst this
    exact put_nil w base hbase G h p y hp hwp hkp
  · exact put_some w base hbase G g cap qs h hn hq p y hp hwp hkp

end Go.Proofs.YtbdjchmnahjjlaaDoor
