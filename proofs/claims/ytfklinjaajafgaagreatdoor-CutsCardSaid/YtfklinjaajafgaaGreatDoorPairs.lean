import Derived.Test.YtfklinjaajafgaaGreatDoorPats
import Derived.Test.YtfklinjaajafgaaGreatDoorPlain
import Derived.Deep.RegionHeld
import Derived.Deep.DeepCutAuto
/- Lists of pairs: add, steps. -/
namespace Go.Proofs.YtfklinjaajafgaaGreatDoor
open Go.RowKit

theorem infoPair : (Tryz.prog.info? 68).map (fun i => (i.zero, i.size, i.bytes)) = some (some (.agg #[.int .i64 0, .int .i64 0, .int .i64 0]), 3, 24) := by kernel_rfl

abbrev prC (p : Ls.Pr) : List Value := [.int .i64 p.1, .int .i64 p.2.1, .int .i64 p.2.2]
abbrev prA (p : Ls.Pr) : Value := .agg #[.int .i64 p.1, .int .i64 p.2.1, .int .i64 p.2.2]
def flatP (ps : List Ls.Pr) : List Value := ps.flatMap prC

theorem flatP_length (ps : List Ls.Pr) : (flatP ps).length = ps.length * 3 := by
  induction ps with
  | nil => rfl
  | cons q r ih => simp only [flatP, List.flatMap_cons, List.length_append, List.length_cons] at ih ⊢; rw [ih]; simp; omega

theorem flatP_append (a b : List Ls.Pr) : flatP (a ++ b) = flatP a ++ flatP b := by simp [flatP]

theorem flatP_get (ps : List Ls.Pr) (i j : Nat) (hj : j < 3) (hi : i < ps.length) : (flatP ps)[i * 3 + j]? = (prC ps[i])[j]? := by
  induction ps generalizing i with
  | nil => simp at hi
  | cons q r ih =>
    show (prC q ++ flatP r)[i * 3 + j]? = _
    cases i with
    | zero => rw [List.getElem?_append_left (by simp; omega)]; simp
    | succ i =>
      rw [List.getElem?_append_right (by simp; omega)]
      rw [show (i + 1) * 3 + j - (prC q).length = i * 3 + j from by simp; omega]
      rw [ih i (by simpa using hi)]
      simp

/-- A row of the call's own shows some pairs. -/
def PL (w : World) (base : Nat) (v : Value) (ps : List Ls.Pr) : Prop := w.ownsRow base 68 3 v ps.length (flatP ps)

theorem PL.cells {w : World} {base g cap n : Nat} {ps : List Ls.Pr} (h : PL w base (.slice (some ⟨g, 0, Option.none⟩) n cap) ps) (i : Nat) (hi : i < ps.length) :
    w.cell? ⟨g, i * 3, Option.none⟩ = some (.int .i64 ps[i].1) ∧ w.cell? ⟨g, i * 3 + 1, Option.none⟩ = some (.int .i64 ps[i].2.1) ∧ w.cell? ⟨g, i * 3 + 2, Option.none⟩ = some (.int .i64 ps[i].2.2) := by
  unfold PL at h
  have hn : n = ps.length := by
    rcases h.2 with ⟨h1, _⟩ | ⟨_, _, _, h1, _⟩
    · simp at h1
    · simp at h1; exact h1.2.1
  subst hn
  refine ⟨?_, ?_, ?_⟩
  · rw [h.cellAt (i * 3) (by omega)]; have := flatP_get ps i 0 (by omega) hi; simpa using this
  · rw [h.cellAt (i * 3 + 1) (by omega), flatP_get ps i 1 (by omega) hi]; rfl
  · rw [h.cellAt (i * 3 + 2) (by omega), flatP_get ps i 2 (by omega) hi]; rfl

theorem PL.below {w w' : World} {base : Nat} {v : Value} {ps : List Ls.Pr} (h : PL w base v ps) (hb : Below w.heap.size w w') : PL w' base v ps :=
  World.ownsRow.kept h (grownBy_of_below hb Option.none) (by cases hv : v.ownBlock <;> simp)

/-- The pair p in the list, if it is not there. -/
def addP (l : List Ls.Pr) (p : Ls.Pr) : List Ls.Pr := if p ∈ l then l else l ++ [p]

/-- What add answers. -/
def AddPostP (w : World) (base : Nat) (v : Value) (ps : List Ls.Pr) (p : Ls.Pr) : Ending → World → Prop := fun e w' =>
  ∃ v', e = .returned v' ∧ PL w' base v' (addP ps p) ∧ w.grownBy w' v.ownBlock ∧ (v'.ownBlock = v.ownBlock ∨ ∃ k, v'.ownBlock = some k ∧ w.heap.size ≤ k)

theorem lies_newP (w : World) (p : Ls.Pr) (j : Nat) : (w.alloc (.cells #[.int .i64 p.1, .int .i64 p.2.1, .int .i64 p.2.2] 68)).cell? ⟨w.heap.size, j, Option.none⟩ = (prC p)[j]? := by
  have : (w.alloc (.cells #[.int .i64 p.1, .int .i64 p.2.1, .int .i64 p.2.2] 68)).heap[w.heap.size]? = some (.cells #[.int .i64 p.1, .int .i64 p.2.1, .int .i64 p.2.2] 68) := heap_alloc_new w _
  simp only [World.cell?, this]
  simp

theorem cells_newP (w : World) (p : Ls.Pr) : ∀ j u, (prC p)[j]? = some u → (w.alloc (.cells #[.int .i64 p.1, .int .i64 p.2.1, .int .i64 p.2.2] 68)).cell? ((⟨w.heap.size, 0, Option.none⟩ : Addr).add j) = some u := by
  intro j u hu
  have := lies_newP w p j
  rw [hu] at this
  rw [← this]
  unfold Addr.add
  split
  · subst_vars; rfl
  · simp

theorem prC_one (p : Ls.Pr) : ∀ u ∈ prC p, u.oneCell' = true := by
  intro u hu
  simp only [List.mem_cons, List.not_mem_nil, or_false] at hu
  rcases hu with rfl | rfl | rfl <;> rfl

theorem below_drewN' (w : World) (n B : Nat) : Below B w (w.drewN n) := ⟨rfl, rfl, rfl, Nat.le_refl _, fun _ _ => rfl⟩

theorem no_more {ps : List Ls.Pr} {k : Nat} {p : Ls.Pr} (h : ∀ q, q ∈ ps.take k → q ≠ p) (hk : k < ps.length) (hp : ps[k] ≠ p) : ∀ q, q ∈ ps.take (k + 1) → q ≠ p := by
  intro q hq
  rw [List.take_succ_eq_append_getElem hk] at hq
  rcases List.mem_append.1 hq with hq | hq
  · exact h q hq
  · simp only [List.mem_singleton] at hq
    rw [hq]; exact hp

set_option maxRecDepth 100000 in
set_option maxHeartbeats 800000 in
theorem add_some (w : World) (base : Nat) (hbase : base ≤ w.heap.size) (g cap : Nat) (ps : List Ls.Pr) (h : PL w base (.slice (some ⟨g, 0, Option.none⟩) ps.length cap) ps) (hn : ps.length ≤ 5000000000000) (p : Ls.Pr) :
    Calls Tryz.prog 43 #[.slice (some ⟨g, 0, Option.none⟩) ps.length cap, prA p] w (AddPostP w base (.slice (some ⟨g, 0, Option.none⟩) ps.length cap) ps p) := by
  obtain ⟨p1, p2, p3⟩ := p
  have B0 := lies_newP w (p1, p2, p3) 0
  have B1 := lies_newP w (p1, p2, p3) 1
  have B2 := lies_newP w (p1, p2, p3) 2
  simp only [prC, List.getElem?_cons_zero, List.getElem?_cons_succ] at B0 B1 B2
  have HB : Hid (∀ wr, Below (w.heap.size + 1) (w.alloc (.cells #[.int .i64 p1, .int .i64 p2, .int .i64 p3] 68)) wr → wr.cell? ⟨w.heap.size, 0, Option.none⟩ = some (.int .i64 p1) ∧ wr.cell? ⟨w.heap.size, 1, Option.none⟩ = some (.int .i64 p2) ∧ wr.cell? ⟨w.heap.size, 2, Option.none⟩ = some (.int .i64 p3)) :=
    fun wr hb => ⟨(hb.cell (p := ⟨w.heap.size, 0, Option.none⟩) (by show w.heap.size < _; omega)).trans B0, (hb.cell (p := ⟨w.heap.size, 1, Option.none⟩) (by show w.heap.size < _; omega)).trans B1, (hb.cell (p := ⟨w.heap.size, 2, Option.none⟩) (by show w.heap.size < _; omega)).trans B2⟩
  clear B0 B1 B2
  go_enter Tryz.func43, Tryz.ntmps43
  go_wp2_with fail
  go_loopw [5] (fun i wr => ∃ k : Nat, k ≤ ps.length ∧ i = .int .i64 k ∧ Below (w.heap.size + 1) (w.alloc (.cells #[.int .i64 p1, .int .i64 p2, .int .i64 p3] 68)) wr ∧ (∀ q, q ∈ ps.take k → q ≠ (p1, p2, p3))) (fun i _ => ps.length - (intOf i).toNat)
  case atStart => exact ⟨0, Nat.zero_le _, rfl, Below.refl _ _, by simp⟩
  case round =>
    obtain ⟨k, hk, rfl, hb2, hno⟩ := hrel
    have Hno : Hid (∀ q, q ∈ ps.take k → q ≠ (p1, p2, p3)) := hno
    clear hno
    have hbw : Below w.heap.size w wr := (below_alloc1 w _).trans (hb2.mono (by omega))
    have hv := h.below hbw
    obtain ⟨b0, b1, b2⟩ := HB.out wr hb2
    by_cases hlt : k < ps.length
    · obtain ⟨c0, c1, c2⟩ := hv.cells k hlt
      have Hb2 : Hid (Below (w.heap.size + 1) (w.alloc (.cells #[.int .i64 p1, .int .i64 p2, .int .i64 p3] 68)) wr) := hb2
      clear hb2
      by_cases h1 : ps[k].1 = p1
      · have e1 : ((ps[k].1 : Int) == (p1 : Int)) = true := by simp [h1]
        by_cases h2 : ps[k].2.1 = p2
        · have e2 : ((ps[k].2.1 : Int) == (p2 : Int)) = true := by simp [h2]
          by_cases h3 : ps[k].2.2 = p3
          · have e3 : ((ps[k].2.2 : Int) == (p3 : Int)) = true := by simp [h3]
            have HE : Hid (ps[k] = (p1, p2, p3)) := by show _ = _; rw [← h1, ← h2, ← h3]
            clear h1 h2 h3
            go_wp2_with fail
            go_quiet (fail)
            go_wp2_with fail
            go_ret
            refine ⟨_, rfl, ?_, grownBy_of_below (hbw.trans (below_drewN' _ nq _)) _, .inl rfl⟩
            unfold addP
            rw [if_pos (by rw [← HE.out]; exact List.getElem_mem hlt)]
            exact hv.below (below_drewN' _ nq _)
          · have e3 : ((ps[k].2.2 : Int) == (p3 : Int)) = false := by simp; omega
            have HE : Hid (ps[k] ≠ (p1, p2, p3)) := fun e => h3 (by rw [e])
            clear h1 h2 h3
            go_wp2_with fail
            go_quiet (fail)
            go_wp2_with fail
            go_roundw
            case rel => exact ⟨k + 1, by omega, by go_num, Hb2.out.trans (below_drewN' _ nq _), no_more Hno.out hlt HE.out⟩
            case measure => simp [intOf]; omega
        · have e2 : ((ps[k].2.1 : Int) == (p2 : Int)) = false := by simp; omega
          have HE : Hid (ps[k] ≠ (p1, p2, p3)) := fun e => h2 (by rw [e])
          clear h1 h2
          go_wp2_with fail
          go_quiet (fail)
          go_wp2_with fail
          go_roundw
          case rel => exact ⟨k + 1, by omega, by go_num, Hb2.out.trans (below_drewN' _ nq _), no_more Hno.out hlt HE.out⟩
          case measure => simp [intOf]; omega
      · have e1 : ((ps[k].1 : Int) == (p1 : Int)) = false := by simp; omega
        have HE : Hid (ps[k] ≠ (p1, p2, p3)) := fun e => h1 (by rw [e])
        clear h1
        go_wp2_with fail
        go_quiet (fail)
        go_wp2_with fail
        go_roundw
        case rel => exact ⟨k + 1, by omega, by go_num, Hb2.out.trans (below_drewN' _ nq _), no_more Hno.out hlt HE.out⟩
        case measure => simp [intOf]; omega
    · obtain ⟨i, hi, hz0, hz1, hzb⟩ := info_parts infoPair
      have hz2 := hb2.size
      have hoa := World.ownsRow.alloc hv (.cells #[.int .i64 p1, .int .i64 p2, .int .i64 p3] 68)
      have hcn := cells_newP wr (p1, p2, p3)
      have hpo := prC_one (p1, p2, p3)
      go_wp2_with (at_builtin; refine wpList_append_own2 _ rfl _ _ 69 rfl base 68 i _ 3 24 Tryz.underlying69 hi hz0 hz1 hzb rfl (by omega) (.slice (some ⟨g, 0, Option.none⟩) ps.length cap) ps.length (flatP ps) rfl hoa ⟨wr.heap.size, 0, Option.none⟩ 1 1 (prC (p1, p2, p3)) rfl rfl hcn hpo ?l2 ?l3 ?l4 (by omega) ?_)
      case l2 => unfold maxLen; omega
      case l3 => omega
      case l4 => have := hbw.size; simp; omega
      intro v' w' ho hg hvv
      go_wp2_with fail
      go_ret
      have hk1 : k = ps.length := by omega
      have hno := Hno.out
      rw [hk1, List.take_length] at hno
      have hbx := Below.join hbw (below_alloc1 wr (.cells #[.int .i64 p1, .int .i64 p2, .int .i64 p3] 68))
      refine ⟨v', rfl, ?_, grownBy_trans (grownBy_of_below hbx _) hg, ?_⟩
      · unfold addP
        rw [if_neg (fun hm => hno _ hm rfl)]
        unfold PL
        rw [flatP_append, List.length_append]
        exact ho
      · rcases hvv with hvv | ⟨m, hvv, hm⟩
        · exact .inl hvv
        · exact .inr ⟨m, hvv, by have := hbw.size; omega⟩

theorem ownsRow_split {w : World} {base : Nat} {e : TypeId} {size : Nat} {v : Value} {n : Nat} {xs : List Value} (h : w.ownsRow base e size v n xs) : (v = .slice Option.none 0 0 ∧ n = 0) ∨ ∃ g cap, v = .slice (some ⟨g, 0, Option.none⟩) n cap := by
  rcases h.2 with ⟨h1, h2⟩ | ⟨g, cap, cur, e, _⟩
  · exact .inl ⟨h1, h2⟩
  · exact .inr ⟨g, cap, e⟩

theorem PL.some {w : World} {base : Nat} {v : Value} {ps : List Ls.Pr} (h : PL w base v ps) (hne : ps ≠ []) : ∃ g cap, v = .slice (some ⟨g, 0, Option.none⟩) ps.length cap := by
  rcases ownsRow_split h with ⟨_, h0⟩ | ⟨g, cap, e⟩
  · exact absurd (List.eq_nil_of_length_eq_zero h0) hne
  · exact ⟨g, cap, e⟩

theorem addPr_any (w : World) (base : Nat) (hbase : base ≤ w.heap.size) (v : Value) (ps : List Ls.Pr) (h : PL w base v ps) (hne : ps ≠ []) (hn : ps.length ≤ 5000000000000) (p : Ls.Pr) :
    Calls Tryz.prog 43 #[v, prA p] w (AddPostP w base v ps p) := by
  obtain ⟨g, cap, rfl⟩ := h.some hne
  exact add_some w base hbase g cap ps h hn p

end Go.Proofs.YtfklinjaajafgaaGreatDoor

/- steps: all pairs of what two states lead to. -/
namespace Go.Proofs.YtfklinjaajafgaaGreatDoor
open Go.RowKit

/-- A slice shows some numbers; its row is in G. -/
def IV (w : World) (G : Nat → Prop) (v : Value) (l : List Nat) : Prop :=
  (v = .slice Option.none 0 0 ∧ l = []) ∨ ∃ g cap, G g ∧ v = .slice (some ⟨g, 0, Option.none⟩) l.length cap ∧ ∀ i (h : i < l.length), w.cell? ⟨g, i, Option.none⟩ = some (.int .i64 l[i])

theorem cell_of_block {w w' : World} {k : Nat} (h : w'.heap[k]? = w.heap[k]?) (o : Nat) : w'.cell? ⟨k, o, Option.none⟩ = w.cell? ⟨k, o, Option.none⟩ := by
  simp only [World.cell?, h]

theorem IV.mono {w w' : World} {G G' : Nat → Prop} (hG : ∀ k, G k → G' k) (hw : ∀ k, G k → w'.heap[k]? = w.heap[k]?) {v : Value} {l : List Nat} (h : IV w G v l) : IV w' G' v l := by
  rcases h with h | ⟨g, cap, hg, rfl, hc⟩
  · exact .inl h
  · exact .inr ⟨g, cap, hG g hg, rfl, fun i hi => by rw [cell_of_block (hw g hg)]; exact hc i hi⟩

theorem IV.shape {w : World} {G : Nat → Prop} {v : Value} {l : List Nat} (h : IV w G v l) : ∃ ao cap, v = .slice ao l.length cap ∧ (0 < l.length → ∃ g, ao = some ⟨g, 0, Option.none⟩ ∧ G g ∧ ∀ i (h : i < l.length), w.cell? ⟨g, i, Option.none⟩ = some (.int .i64 l[i])) := by
  rcases h with ⟨rfl, rfl⟩ | ⟨g, cap, hg, rfl, hc⟩
  · exact ⟨_, _, rfl, by simp⟩
  · exact ⟨_, _, rfl, fun _ => ⟨g, rfl, hg, hc⟩⟩

def addAll (l m : List Ls.Pr) : List Ls.Pr := m.foldl addP l
def prs (ph : Nat) (a b : List Nat) : List Ls.Pr := a.flatMap fun x => b.map fun y => (ph, x, y)

theorem addAll_snoc (l m : List Ls.Pr) (x : Ls.Pr) : addAll l (m ++ [x]) = addP (addAll l m) x := by simp [addAll]
theorem addAll_append (l m n : List Ls.Pr) : addAll l (m ++ n) = addAll (addAll l m) n := by simp [addAll]

theorem addP_ne {l : List Ls.Pr} (h : l ≠ []) (x : Ls.Pr) : addP l x ≠ [] := by
  unfold addP; split
  · exact h
  · simp
theorem addAll_ne {l : List Ls.Pr} (h : l ≠ []) (m : List Ls.Pr) : addAll l m ≠ [] := by
  induction m generalizing l with
  | nil => exact h
  | cons x m ih => exact ih (addP_ne h x)
theorem addP_length (l : List Ls.Pr) (x : Ls.Pr) : (addP l x).length ≤ l.length + 1 := by unfold addP; split <;> simp
theorem addAll_length (l m : List Ls.Pr) : (addAll l m).length ≤ l.length + m.length := by
  induction m generalizing l with
  | nil => simp [addAll]
  | cons x m ih =>
    have h1 := ih (addP l x)
    have h2 := addP_length l x
    show (addAll (addP l x) m).length ≤ _
    simp only [List.length_cons]; omega

/-- A list of pairs that grows from v0 (as it was in w0) on. -/
structure GrowsP (w0 : World) (base : Nat) (v0 : Value) (w : World) (v : Value) (ps : List Ls.Pr) : Prop where
  pl : PL w base v ps
  grown : w0.grownBy w v0.ownBlock
  row : v.ownBlock = v0.ownBlock ∨ ∃ k, v.ownBlock = some k ∧ w0.heap.size ≤ k

theorem GrowsP.start {w : World} {base : Nat} {v : Value} {ps : List Ls.Pr} (h : PL w base v ps) : GrowsP w base v w v ps := ⟨h, World.grownBy.refl _ _, .inl rfl⟩

theorem GrowsP.block {w0 : World} {base : Nat} {v0 : Value} {w : World} {v : Value} {ps : List Ls.Pr} (h : GrowsP w0 base v0 w v ps) {k : Nat} (hk : k < w0.heap.size) (hne : some k ≠ v0.ownBlock) : w.heap[k]? = w0.heap[k]? ∧ some k ≠ v.ownBlock := by
  refine ⟨h.grown.block k hk hne, ?_⟩
  rcases h.row with e | ⟨m, e, hm⟩
  · rw [e]; exact hne
  · rw [e]; intro e2; injection e2 with e2; omega

theorem GrowsP.next {w0 : World} {base : Nat} {v0 : Value} {w : World} {v : Value} {ps : List Ls.Pr} (h : GrowsP w0 base v0 w v ps) {w' : World} {v' : Value} {ps' : List Ls.Pr} (k : GrowsP w base v w' v' ps') : GrowsP w0 base v0 w' v' ps' := by
  refine ⟨k.pl, ⟨k.grown.os.trans h.grown.os, k.grown.tape.trans h.grown.tape, k.grown.output.trans h.grown.output, Nat.le_trans h.grown.size k.grown.size, fun j hj hne => ?_⟩, ?_⟩
  · obtain ⟨h1, h2⟩ := h.block hj hne
    exact (k.grown.block j (Nat.lt_of_lt_of_le hj h.grown.size) h2).trans h1
  · rcases k.row with e | ⟨m, e, hm⟩
    · rw [e]; exact h.row
    · exact .inr ⟨m, e, Nat.le_trans h.grown.size hm⟩

theorem GrowsP.below {w0 : World} {base : Nat} {v0 : Value} {w : World} {v : Value} {ps : List Ls.Pr} (h : GrowsP w0 base v0 w v ps) {w' : World} (hb : Below w.heap.size w w') : GrowsP w0 base v0 w' v ps :=
  h.next ⟨h.pl.below hb, grownBy_of_below hb _, .inl rfl⟩

/-- What a call that adds pairs answers. -/
def StepsPost (w : World) (base : Nat) (v : Value) (ps' : List Ls.Pr) : Ending → World → Prop := fun e w' => ∃ v', e = .returned v' ∧ GrowsP w base v w' v' ps'

theorem prs_take {ph : Nat} {a b : List Nat} {m : Nat} (hm : m < a.length) : prs ph (a.take (m + 1)) b = prs ph (a.take m) b ++ b.map fun y => (ph, a[m], y) := by
  unfold prs
  rw [List.take_succ_eq_append_getElem hm, List.flatMap_append]
  simp

theorem prs_length (ph : Nat) (a b : List Nat) : (prs ph a b).length = a.length * b.length := by
  induction a with
  | nil => simp [prs]
  | cons x a ih =>
    unfold prs at ih ⊢
    rw [List.flatMap_cons, List.length_append, ih]
    simp [Nat.add_mul]; omega

theorem prs_part {ph : Nat} {a b : List Nat} {m n : Nat} (hm : m < a.length) (x : Nat) : (prs ph (a.take m) b ++ (b.take n).map fun y => (ph, x, y)).length ≤ (prs ph a b).length := by
  rw [List.length_append, prs_length, prs_length, List.length_take, List.length_map, List.length_take]
  have h1 : (m + 1) * b.length ≤ a.length * b.length := Nat.mul_le_mul_right _ hm
  have h2 : min m a.length * b.length ≤ m * b.length := Nat.mul_le_mul_right _ (by omega)
  rw [Nat.add_mul] at h1
  omega

theorem prs_next {ph : Nat} {b : List Nat} {n : Nat} (hn : n < b.length) (x : Nat) (l : List Ls.Pr) : l ++ (b.take (n + 1)).map (fun y => (ph, x, y)) = (l ++ (b.take n).map fun y => (ph, x, y)) ++ [(ph, x, b[n])] := by
  simp only [List.take_succ_eq_append_getElem hn, List.map_append, List.map_cons, List.map_nil, List.append_assoc]

set_option maxRecDepth 100000 in
set_option maxHeartbeats 1000000 in
theorem steps_any (w : World) (base : Nat) (hbase : base ≤ w.heap.size) (v : Value) (ps : List Ls.Pr) (h : PL w base v ps) (hne : ps ≠ []) (G : Nat → Prop) (hG : Old w G) (hA : ∀ k, G k → some k ≠ v.ownBlock)
    (va vb : Value) (a b : List Nat) (ha : IV w G va a) (hb : IV w G vb b) (hla : a.length ≤ 1000000) (hlb : b.length ≤ 1000000) (ph : Nat) (hn : ps.length + (prs ph a b).length ≤ 4000000000000) :
    Calls Tryz.prog 42 #[v, va, vb, .int .i64 ph] w (StepsPost w base v (addAll ps (prs ph a b))) := by
  obtain ⟨aa, ca, rfl, haa⟩ := ha.shape
  obtain ⟨ab, cb, rfl, hab⟩ := hb.shape
  clear ha hb
  go_enter Tryz.func42, Tryz.ntmps42
  go_wp2_with fail
  have Haa : Hid (0 < a.length → ∃ g, aa = some ⟨g, 0, Option.none⟩ ∧ G g ∧ ∀ i (h : i < a.length), w.cell? ⟨g, i, Option.none⟩ = some (.int .i64 a[i])) := haa
  have Hab : Hid (0 < b.length → ∃ g, ab = some ⟨g, 0, Option.none⟩ ∧ G g ∧ ∀ i (h : i < b.length), w.cell? ⟨g, i, Option.none⟩ = some (.int .i64 b[i])) := hab
  have HG : Hid (∀ k, G k → k < w.heap.size ∧ some k ≠ v.ownBlock) := fun k hk => ⟨hG k hk, hA k hk⟩
  clear haa hab hG hA
  go_loopw [0, 9] (fun l i wr => ∃ m : Nat, m ≤ a.length ∧ i = .int .i64 m ∧ GrowsP w base v wr l (addAll ps (prs ph (a.take m) b))) (fun _ i _ => a.length - (intOf i).toNat)
  case atStart => exact ⟨0, Nat.zero_le _, rfl, GrowsP.start h⟩
  case round =>
    obtain ⟨m, hm, rfl, gr⟩ := hrel
    by_cases hlm : m < a.length
    · obtain ⟨ga, rfl, hga, hca⟩ := Haa.out (by omega)
      have Hca : Hid (∀ i (h : i < a.length), w.cell? ⟨ga, i, Option.none⟩ = some (.int .i64 a[i])) := hca
      clear hca
      go_wp2_with fail
      go_loopw [0, 10] (fun l i wx => ∃ n : Nat, n ≤ b.length ∧ i = .int .i64 n ∧ GrowsP w base v wx l (addAll ps (prs ph (a.take m) b ++ (b.take n).map fun y => (ph, a[m], y)))) (fun _ i _ => b.length - (intOf i).toNat)
      case atStart => exact ⟨0, Nat.zero_le _, rfl, by simpa using gr⟩
      case round =>
        obtain ⟨n, hn2, rfl, gx⟩ := hrel
        by_cases hln : n < b.length
        · obtain ⟨gb, rfl, hgb, hcb⟩ := Hab.out (by omega)
          have kb : ∀ k, G k → wr.heap[k]? = w.heap[k]? ∧ some k ≠ u0.ownBlock := fun k hk => gx.block (HG.out k hk).1 (HG.out k hk).2
          have e0 : wr.cell? ⟨ga, m, Option.none⟩ = some (.int .i64 a[m]) := (cell_of_block (kb ga hga).1 m).trans (Hca.out m hlm)
          have e1 : wr.cell? ⟨gb, n, Option.none⟩ = some (.int .i64 b[n]) := (cell_of_block (kb gb hgb).1 n).trans (hcb n hln)
          have hgl : ga < wr.heap.size := Nat.lt_of_lt_of_le (HG.out ga hga).1 gx.grown.size
          have hgl2 : gb < wr.heap.size := Nat.lt_of_lt_of_le (HG.out gb hgb).1 gx.grown.size
          have hna := (kb ga hga).2
          have hnb := (kb gb hgb).2
          have HC : Hid (∀ W, Below wr.heap.size wr W → Calls Tryz.prog 43 #[u0, .agg #[.int .i64 ph, .int .i64 a[m], .int .i64 b[n]]] W fun e w3 => ∃ x1 x2 x3, e = .returned (.slice x1 x2 x3) ∧ GrowsP w base v w3 (.slice x1 x2 x3) (addAll ps (prs ph (a.take m) b ++ (b.take (n + 1)).map fun y => (ph, a[m], y))) ∧ w3.cell? ⟨ga, m, Option.none⟩ = some (.int .i64 a[m]) ∧ w3.cell? ⟨gb, n, Option.none⟩ = some (.int .i64 b[n])) := by
            intro W hW
            have gW := gx.below hW
            have hl1 := addAll_length ps (prs ph (a.take m) b ++ (b.take n).map fun y => (ph, a[m], y))
            have hl2 := prs_part (ph := ph) (b := b) (n := n) hlm a[m]
            refine (addPr_any W base (by have := gW.grown.size; omega) u0 _ gW.pl (addAll_ne hne _) (by omega) (ph, a[m], b[n])).mono ?_
            rintro e w3 ⟨v3, rfl, hp3, hg3, hr3⟩
            have hsh := ownsRow_split hp3
            have g3 : GrowsP W base u0 w3 v3 (addP (addAll ps (prs ph (a.take m) b ++ (b.take n).map fun y => (ph, a[m], y))) (ph, a[m], b[n])) := ⟨hp3, hg3, hr3⟩
            have key : GrowsP w base v w3 v3 (addAll ps (prs ph (a.take m) b ++ (b.take (n + 1)).map fun y => (ph, a[m], y))) := by
              rw [prs_next hln, addAll_snoc]; exact gW.next g3
            have hz := hW.size
            have c1 : w3.cell? ⟨ga, m, Option.none⟩ = some (.int .i64 a[m]) := (cell_of_block ((hg3.block ga (by omega) hna).trans (hW.block ga hgl)) m).trans e0
            have c2 : w3.cell? ⟨gb, n, Option.none⟩ = some (.int .i64 b[n]) := (cell_of_block ((hg3.block gb (by omega) hnb).trans (hW.block gb hgl2)) n).trans e1
            rcases hsh with ⟨rfl, _⟩ | ⟨g, cap, rfl⟩
            · exact ⟨_, _, _, rfl, key, c1, c2⟩
            · exact ⟨_, _, _, rfl, key, c1, c2⟩
          clear gx hna hnb kb gr hcb Haa Hab
          go_wp2_with fail
          go_region_held (fun w' => w'.cell? ⟨ga, m, Option.none⟩ = some (.int .i64 a[m]) ∧ w'.cell? ⟨gb, n, Option.none⟩ = some (.int .i64 b[n])) (first | assumption | go_keep) ((go_at_call 43; refine (HC.out _ ?_).mono ?_; exact (Below.refl _ _).drew; rintro e w3 ⟨x1, x2, x3, rfl, g3, c1, c2⟩; have hs3 : w3.cell? ⟨ga, m, Option.none⟩ = some (.int .i64 a[m]) ∧ w3.cell? ⟨gb, n, Option.none⟩ = some (.int .i64 b[n]) := ⟨c1, c2⟩))
          go_wp2_with fail
          go_roundw
          case rel => exact ⟨n + 1, by omega, by go_num, g3⟩
          case measure => simp [intOf]; omega
        · go_wp2_with fail
          go_roundw
          case rel =>
            refine ⟨m + 1, by omega, by go_num, ?_⟩
            rw [prs_take hlm]
            rw [show b.take n = b from List.take_of_length_le (by omega)] at gx
            exact gx
          case measure => simp [intOf]; omega
    · go_wp2_with fail
      go_ret
      rw [show a.take m = a from List.take_of_length_le (by omega)] at gr
      exact ⟨_, rfl, gr⟩

end Go.Proofs.YtfklinjaajafgaaGreatDoor
