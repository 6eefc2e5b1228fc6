import Derived.Test.YtfklinjaajafgaaGreatDoorPats
import Derived.Test.YtfklinjaajafgaaGreatDoorPlain
namespace Go.Proofs.YtfklinjaajafgaaGreatDoor
open Go.RowKit

/-- What behind answers of p. -/
def BehindPost (p : Ls.Pat) (c : UInt8) (w : World) (G : Nat → Prop) : Ending → World → Prop := fun e w' =>
  ∃ v qs, e = .returned v ∧ qs.map (·.1) = Ls.behind p c ∧ LW G w.heap.size w' w.heap.size v qs ∧ Below w.heap.size w w'

def BehindSaid (p : Ls.Pat) : Prop := Ls.ks p ≤ 4611686018427387904 → Ls.nd p ≤ 1000000000 → Ls.md p ≤ 4611686018427387904 → ∀ (c : UInt8) (y : Value) (w : World) (G : Nat → Prop), Old w G → PV w G p y →
    Calls Tryz.prog 75 #[patA p y, .int .u8 c.toNat] w (BehindPost p c w G)

set_option maxRecDepth 100000 in
set_option maxHeartbeats 400000 in
theorem behind_none : BehindSaid Ls.none := by
  intro _ _ _ c y w G hG hp
  have hy : y = .slice Option.none 0 0 := hp
  subst hy
  clear hp
  show Calls _ _ #[.agg #[.int .i64 0, .string ⟨#[]⟩, .slice Option.none 0 0], _] w _
  go_enter Tryz.func75, Tryz.ntmps75
  go_wp2_with fail
  go_ret
  exact ⟨_, [], rfl, (Ls.behind_none c).symm, LW.nil _ _ _ _, below_alloc1 _ _⟩

theorem own_one (w : World) (o : Obj) (p : Ls.Pat) (y : Value) : ((w.alloc o).alloc (.cells #[.int .i64 p.kind, .string ⟨p.signs.toArray⟩, y] 27)).ownsRow w.heap.size 27 3 (.slice (some ⟨w.heap.size + 1, 0, Option.none⟩) 1 1) 1 (flat [(p, y)]) := by
  have h := World.ownsRow_lit (e := 27) (size := 3) (w.alloc o) (flat [(p, y)]).toArray 1 (below_alloc1 w o).size (by unfold maxLen; omega) rfl
  rw [show (w.alloc o).heap.size = w.heap.size + 1 by simp] at h
  exact h

set_option maxRecDepth 100000 in
set_option maxHeartbeats 400000 in
theorem behind_set (s : List UInt8) : BehindSaid (Ls.set s) := by
  intro hs _ _ c y w G hG hp
  rw [Ls.ks_set] at hs
  have hy : y = .slice Option.none 0 0 := hp
  subst hy
  clear hp
  show Calls _ _ #[.agg #[.int .i64 1, .string ⟨s.toArray⟩, .slice Option.none 0 0], _] w _
  cases hh : Ls.has s c with
  | false =>
    have Hh : Hid (Ls.has s c = false) := hh
    go_enter Tryz.func75, Tryz.ntmps75
    go_wp2_with fail
    refine (has_any ⟨s.toArray⟩ c _ (by unfold maxLen; simp [ByteArray.size]; omega)).mono ?_
    rintro e w1 ⟨rfl, rfl⟩
    go_wp2_with fail
    go_ret
    exact ⟨_, [], rfl, by rw [Ls.behind_set, Hh.out]; rfl, LW.nil _ _ _ _, below_alloc1 _ _⟩
  | true =>
    have Hh : Hid (Ls.has s c = true) := hh
    go_enter Tryz.func75, Tryz.ntmps75
    go_wp2_with fail
    refine (has_any ⟨s.toArray⟩ c _ (by unfold maxLen; simp [ByteArray.size]; omega)).mono ?_
    rintro e w1 ⟨rfl, rfl⟩
    go_wp2_with fail
    go_ret
    refine ⟨.slice (some ⟨w.heap.size + 1, 0, Option.none⟩) 1 1, [(Ls.none, .slice Option.none 0 0)], rfl, by rw [Ls.behind_set, Hh.out]; rfl, LW.of (H := fun _ => False) ⟨?_, ?_, fun _ h => h.elim, fun _ h => h.elim⟩ (fun _ h => h.elim), below_alloc2 _ _ _⟩
    · exact own_one w _ Ls.none (.slice Option.none 0 0)
    · intro q hq; simp only [List.mem_singleton] at hq; subst hq; rfl

theorem cells_at {w : World} {base g cap n : Nat} {qs : List (Ls.Pat × Value)} (h : w.ownsRow base 27 3 (.slice (some ⟨g, 0, Option.none⟩) n cap) n (flat qs)) (hn : n = qs.length) (i : Nat) (hi : i < qs.length) :
    w.cell? ⟨g, i * 3, Option.none⟩ = some (.int .i64 qs[i].1.kind) ∧ w.cell? ⟨g, i * 3 + 1, Option.none⟩ = some (.string ⟨qs[i].1.signs.toArray⟩) ∧ w.cell? ⟨g, i * 3 + 2, Option.none⟩ = some qs[i].2 := by
  subst hn
  refine ⟨?_, ?_, ?_⟩
  · rw [h.cellAt (i * 3) (by omega)]; have := flat_get qs i 0 (by omega) hi; simpa using this
  · rw [h.cellAt (i * 3 + 1) (by omega), flat_get qs i 1 (by omega) hi]; rfl
  · rw [h.cellAt (i * 3 + 2) (by omega), flat_get qs i 2 (by omega) hi]; rfl

theorem LW.weak {G : Nat → Prop} {B0 B1 : Nat} {w : World} {base base' : Nat} {v : Value} {qs : List (Ls.Pat × Value)} (h : LW G B1 w base' v qs) (h0 : B0 ≤ B1) (hb : base ≤ base') : LW G B0 w base v qs := by
  refine LW.of (H := GG G B1 w v) ⟨?_, h.each, h.apart, h.old⟩ fun k hk => hk.1.imp id fun h => Nat.le_trans h0 h
  refine ⟨h.own.1, h.own.2.imp id ?_⟩
  rintro ⟨g, cap, cur, hv, hg, r⟩
  exact ⟨g, cap, cur, hv, Nat.le_trans hb hg, r⟩

theorem LW.shape {G : Nat → Prop} {B0 : Nat} {w : World} {base : Nat} {v : Value} {qs : List (Ls.Pat × Value)} (h : LW G B0 w base v qs) : ∃ ao cap, v = .slice ao qs.length cap ∧ (0 < qs.length → ∃ g, ao = some ⟨g, 0, Option.none⟩) := by
  rcases h.own.2 with ⟨rfl, h0⟩ | ⟨g, cap, cur, rfl, _⟩
  · exact ⟨_, _, by rw [h0], by omega⟩
  · exact ⟨_, _, rfl, fun _ => ⟨g, rfl⟩⟩

abbrev Ok (x : Ls.Pat) : Prop := Ls.wf x ∧ (Ls.key x).length ≤ 4611686018427387904

theorem puts_ok {l m : List Ls.Pat} {qs : List (Ls.Pat × Value)} {k : Nat} (h : qs.map (·.1) = Ls.putAll l (m.take k)) (hl : ∀ x, x ∈ l → Ok x) (hm : ∀ x, x ∈ m → Ok x) : (∀ q, q ∈ qs → Ok q.1) ∧ qs.length ≤ l.length + m.length := by
  constructor
  · intro q hq
    have hx : q.1 ∈ qs.map (·.1) := List.mem_map.2 ⟨q, hq, rfl⟩
    rw [h] at hx
    rcases Ls.mem_putAll hx with h | h
    · exact hl _ h
    · exact hm _ (List.mem_of_mem_take h)
  · have h1 := congrArg List.length h
    have h2 := Ls.putAll_length l (m.take k)
    have h3 : (m.take k).length ≤ m.length := List.length_take_le' _ _
    simp only [List.length_map] at h1
    omega

theorem puts_snoc {l m : List Ls.Pat} {qs qs' : List (Ls.Pat × Value)} {k : Nat} (h : qs.map (·.1) = Ls.putAll l (m.take k)) (hk : k < m.length) (h' : qs'.map (·.1) = Ls.put (qs.map (·.1)) m[k]) : qs'.map (·.1) = Ls.putAll l (m.take (k + 1)) := by
  rw [h', h, List.take_succ_eq_append_getElem hk, Ls.putAll_snoc]

set_option maxRecDepth 100000 in
set_option maxHeartbeats 1000000 in
theorem behind_or (a b : Ls.Pat) (wa : Ls.wf a) (wb : Ls.wf b) (ha : BehindSaid a) (hb : BehindSaid b) : BehindSaid (Ls.any a b) := by
  intro hs hn hm c sl w G hG hp
  rw [Ls.ks_any] at hs
  rw [Ls.nd_any] at hn
  rw [Ls.md_any] at hm
  obtain ⟨g, y, z, hg, rfl, hl, h1, h2⟩ := hp
  have hgl := hl.lt
  obtain ⟨c0, c1, c2, c3, c4, c5⟩ := hl.six
  clear hg
  show Calls _ _ #[.agg #[.int .i64 3, .string ⟨#[]⟩, .slice (some ⟨g, 0, Option.none⟩) 2 2], _] w _
  go_enter Tryz.func75, Tryz.ntmps75
  go_wp2_with fail
  refine (ha (by omega) (by omega) (by omega) c y _ G (Old.alloc hG _) (h1.below (below_alloc1 _ _) hG fun _ h => h)).mono ?_
  rintro e w1 ⟨v1, q1, rfl, hq1, lw1, hb1⟩
  obtain ⟨d1, d2⟩ := bcell hb1
  have Hq1 : Hid (q1.map (·.1) = Ls.behind a c) := hq1
  clear hq1
  go_wp2_with fail
  refine (hb (by omega) (by omega) (by omega) c z _ G (Old.below (Old.alloc hG _) hb1) ((h2.below (below_alloc1 _ _) hG fun _ h => h).below hb1 (Old.alloc hG _) fun _ h => h)).mono ?_
  rintro e w2 ⟨v2, q2, rfl, hq2, lw2, hb2⟩
  have Hq2 : Hid (q2.map (·.1) = Ls.behind b c) := hq2
  clear hq2 d1 d2
  go_wp2_with fail
  have hz1 := hb1.size
  have hz2 := hb2.size
  simp at hz1
  have lw1' : LW G w.heap.size w2 w.heap.size v1 q1 := (lw1.below hb2).weak (by simp) (by simp)
  obtain ⟨ao, cap, rfl, hao⟩ := lw2.shape
  have HO1 : Hid (∀ x, x ∈ q1.map (·.1) → Ok x) := fun x hx => by rw [Hq1.out] at hx; have := Ls.behind_ok a wa c x hx; exact ⟨this.1, by have := this.2; unfold Ls.ks at this; omega⟩
  have HO2 : Hid (∀ x, x ∈ q2.map (·.1) → Ok x) := fun x hx => by rw [Hq2.out] at hx; have := Ls.behind_ok b wb c x hx; exact ⟨this.1, by have := this.2; unfold Ls.ks at this; omega⟩
  have hlen1 : q1.length ≤ Ls.nd a := by have := Ls.behind_length a wa c; rw [← Hq1.out] at this; simpa using this
  have hlen2 : q2.length ≤ Ls.nd b := by have := Ls.behind_length b wb c; rw [← Hq2.out] at this; simpa using this
  have HH : Hid (∀ k, GG G w1.heap.size w2 (.slice ao q2.length cap) k → (G k ∨ w.heap.size ≤ k) ∧ k < w2.heap.size ∧ some k ≠ v1.ownBlock) := by
    intro k hk
    refine ⟨hk.1.imp id (by omega), hk.2.1, fun e => ?_⟩
    have h3 := lw1.own.lt k e.symm
    simp at h3
    rcases hk.1 with h | h
    · have := hG k h; omega
    · omega
  have HN : Hid ((Value.slice ao q2.length cap).ownBlock = Option.none ∨ (Value.slice ao q2.length cap).ownBlock ≠ v1.ownBlock) := by
    cases hv : (Value.slice ao q2.length cap).ownBlock with
    | none => exact .inl rfl
    | some k =>
      refine .inr fun e => ?_
      have h3 := lw1.own.lt k e.symm
      have h4 := lw2.own.lt k hv
      omega
  go_loopw [6, 8] (fun l i wr => ∃ (k : Nat) (qs : List (Ls.Pat × Value)), k ≤ q2.length ∧ i = .int .i64 k ∧ Grows G w.heap.size w2 w.heap.size v1 wr l qs ∧ qs.map (·.1) = Ls.putAll (q1.map (·.1)) ((q2.map (·.1)).take k)) (fun _ i _ => q2.length - (intOf i).toNat)
  case atStart => exact ⟨0, q1, Nat.zero_le _, rfl, Grows.start lw1', by simp [Ls.putAll]⟩
  case round =>
    rename_i l wr
    obtain ⟨k, qs, hk, rfl, gr, hqs⟩ := hrel
    have Hqs : Hid (qs.map (·.1) = Ls.putAll (q1.map (·.1)) ((q2.map (·.1)).take k)) := hqs
    clear hqs
    by_cases hlt : k < q2.length
    · obtain ⟨g2, rfl⟩ := hao (by omega)
      obtain ⟨e0, e1, e2⟩ := cells_at (gr.other lw2.own HN.out) rfl k hlt
      go_wp2_with fail
      obtain ⟨hok, hln⟩ := puts_ok Hqs.out HO1.out HO2.out
      simp only [List.length_map] at hln
      have hok2 := HO2.out q2[k].1 (List.mem_map.2 ⟨q2[k], List.getElem_mem hlt, rfl⟩)
      refine (put_any wr w.heap.size (by have := gr.grown.size; omega) (GG G w.heap.size wr u6) u6 qs gr.lw (by omega) hok q2[k].1 q2[k].2 (gr.fits HH.out (lw2.each _ (List.getElem_mem hlt))) hok2.1 hok2.2).mono ?_
      rintro e w3 hpost
      obtain ⟨v3, qs3, rfl, hm3, gr3⟩ := gr.put hpost
      clear hpost
      have Hm3 : Hid (qs3.map (·.1) = Ls.put (qs.map (·.1)) q2[k].1) := hm3
      clear hm3
      go_wp2_with fail
      go_roundw
      case rel => exact ⟨k + 1, qs3, by omega, by go_num, gr3, puts_snoc Hqs.out (by simpa using hlt) (by simpa using Hm3.out)⟩
      case measure => simp [intOf]; omega
    · go_wp2_with fail
      go_ret
      have hk1 : k = q2.length := by omega
      have hq := Hqs.out
      rw [List.take_of_length_le (by simp; omega), Hq1.out, Hq2.out] at hq
      refine ⟨_, qs, rfl, by rw [Ls.behind_any, hq], gr.lw, ?_⟩
      exact (Below.join (Below.join (below_alloc1 w _) hb1) hb2).grown gr.grown (by omega) fun k e => (lw1'.own.lt k e).1

end Go.Proofs.YtfklinjaajafgaaGreatDoor
