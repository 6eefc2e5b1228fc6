import Derived.Test.YtfklinjaajafgaaGreatDoorErrs
/- Read of a pattern. -/
namespace Go.Proofs.YtfklinjaajafgaaGreatDoor
open Go.RowKit

set_option maxRecDepth 100000 in
set_option maxHeartbeats 400000 in
theorem readAt_any (s : ByteArray) (hs : s.size ≤ 1048576) (a1 : Addr) (z : Nat) (hz : z ≤ 12) (rb i : Nat) (w : World) (h : RB w rb s i z) (hE : Env w rb a1) (hi : i ≤ s.size) :
    Calls Tryz.prog 94 #[.pointer (some ⟨rb, 0, Option.none⟩)] w (RPost w rb s i z a1 (Ls.pat (13 - z) (rest s i))) := by
  have hC := choice_any s hs a1 (12 - z) (by omega)
  rw [show 12 - (12 - z) = z from by omega] at hC
  have hC2 := hC rb i w h hE hi
  clear hC
  go_enter Tryz.func94, Tryz.ntmps94
  go_wp2_with fail
  refine hC2.mono ?_
  rintro e w1 (⟨d, j, v, hr, hij, hj, rfl, hrep, hl⟩ | ⟨hr, rfl, hg⟩)
  · have HP : Hid (RPost w rb s i z a1 (Ls.pat (13 - z) (rest s i)) (.returned v) w1) := .inl ⟨d, j, v, hr, hij, hj, rfl, hrep, hl⟩
    clear hr hrep hC2
    go_wp2_with fail
    go_ret
    exact HP.out
  · have HP : Hid (RPost w rb s i z a1 (Ls.pat (13 - z) (rest s i)) (.panicked [{ v := errS a1, recovered := false }]) w1) := .inr ⟨hr, rfl, hg⟩
    clear hr hC2
    go_wp2_with fail
    exact ⟨rfl, HP.out⟩

theorem readAll_some {s : ByteArray} {d : Ls.D} {j : Nat} (h : Ls.pat 13 (rest s 0) = some (d, rest s j)) (hj : s.size ≤ j) : readAll s.data.toList = some d := by
  unfold readAll
  rw [show Ls.pat 13 s.data.toList = some (d, rest s j) from h]
  dsimp only
  rw [if_pos (rest_ge hj)]

theorem readAll_left {s : ByteArray} {d : Ls.D} {j : Nat} (h : Ls.pat 13 (rest s 0) = some (d, rest s j)) (hj : j < s.size) : readAll s.data.toList = .none := by
  unfold readAll
  rw [show Ls.pat 13 s.data.toList = some (d, rest s j) from h]
  dsimp only
  rw [if_neg (by rw [rest_lt hj]; simp)]

theorem readAll_none {s : ByteArray} (h : Ls.pat 13 (rest s 0) = .none) : readAll s.data.toList = .none := by
  unfold readAll
  rw [show Ls.pat 13 s.data.toList = .none from h]

/-- The three variables of Whole. -/
structure Three (w : World) (H : Nat) (s : ByteArray) (f : Nat) (T F : TypeId) (v : Value) : Prop where
  text : w.heap[H]? = some (.cells #[.string s] 9 (0, 0))
  read : w.heap[H + 1]? = some (.cells #[.func (.func f) #[] #[]] F (0, 0))
  whole : w.heap[H + 1 + 1]? = some (.cells #[v] T (0, 0))

theorem Three.below {w w' : World} {H : Nat} {s : ByteArray} {f : Nat} {T F : TypeId} {v : Value} (h : Three w H s f T F v) (hb : Below w.heap.size w w') : Three w' H s f T F v :=
  ⟨by rw [hb.block _ (Array.getElem?_eq_some_iff.1 h.text).1]; exact h.text, by rw [hb.block _ (Array.getElem?_eq_some_iff.1 h.read).1]; exact h.read, by rw [hb.block _ (Array.getElem?_eq_some_iff.1 h.whole).1]; exact h.whole⟩
theorem Three.set {w : World} {H : Nat} {s : ByteArray} {f : Nat} {T F : TypeId} {v : Value} (h : Three w H s f T F v) (x : Value) : Three (w.setCell ⟨H + 1 + 1, 0, Option.none⟩ x) H s f T F x := by
  refine ⟨?_, ?_, ?_⟩
  · rw [Below.heap_setCell _ _ _ _ (by show H ≠ H + 1 + 1; omega)]; exact h.text
  · rw [Below.heap_setCell _ _ _ _ (by show H + 1 ≠ H + 1 + 1; omega)]; exact h.read
  · have := h.whole; simp [World.setCell, Array.getElem?_modify, this]

/-- What the inside of Whole does: w: the world in which Whole began, whose three variables lie at its end. -/
def DoPost (s : ByteArray) (a1 : Addr) (w w0 : World) : Ending → World → Prop := fun e w' =>
  (∀ k, k < w0.heap.size → k ≠ w.heap.size + 1 + 1 → w'.heap[k]? = w0.heap[k]?) ∧ Below w.heap.size w w' ∧ w0.heap.size ≤ w'.heap.size ∧
  ((∃ d v, readAll s.data.toList = some d ∧ e = .returned (.tuple #[]) ∧ w'.heap[w.heap.size + 1 + 1]? = some (.cells #[v] 89 (0, 0)) ∧ Rep w' (New w0 w') 0 d [v]) ∨
   (readAll s.data.toList = .none ∧ e = .panicked [{ v := errS a1, recovered := false }]))

set_option maxRecDepth 100000 in
set_option maxHeartbeats 2000000 in
theorem wholeDo_any (s : ByteArray) (hs : s.size ≤ 1048576) (a1 : Addr) (w w0 : World) (hb0 : Below w.heap.size w w0) (h3 : Three w0 w.heap.size s 94 89 144 .nilIface) (hc : w.cell? ⟨3, 0, none⟩ = some (errS a1)) :
    Calls Tryz.prog 112 #[.pointer (some ⟨w.heap.size, 0, none⟩), .pointer (some ⟨w.heap.size + 1, 0, none⟩), .pointer (some ⟨w.heap.size + 1 + 1, 0, none⟩)] w0 (DoPost s a1 w w0) := by
  have hcf : ∀ (v : Value) w, (callFunc 94 #[v]).run Tryz.prog w = .ok (.enter 94 #[v]) w := fun v w => by kernel_rfl
  have hgl : 3 < w.heap.size := by
    rcases Nat.lt_or_ge 3 w.heap.size with h | h
    · exact h
    · rw [World.cell?, Array.getElem?_eq_none h] at hc; cases hc
  obtain ⟨t0, t1⟩ := one_cell h3.text
  obtain ⟨f0, f1⟩ := one_cell h3.read
  have hz0 := (Array.getElem?_eq_some_iff.1 h3.whole).1
  have hb1 := below_alloc1 w0 (.cells #[.string s, .int .i64 (0 : Nat), .int .i64 (0 : Nat)] 164)
  have hrb : RB (w0.alloc (.cells #[.string s, .int .i64 (0 : Nat), .int .i64 (0 : Nat)] 164)) w0.heap.size s 0 0 := heap_alloc_new _ _
  have hc0 := (hb0.cell (p := ⟨3, 0, none⟩) hgl).trans hc
  have hE : Env (w0.alloc (.cells #[.string s, .int .i64 (0 : Nat), .int .i64 (0 : Nat)] 164)) w0.heap.size a1 := ⟨(hb1.cell (p := ⟨3, 0, none⟩) (by show 3 < w0.heap.size; omega)).trans hc0, by omega⟩
  have hC := readAt_any s hs a1 0 (by omega) w0.heap.size 0 _ hrb hE (Nat.zero_le _)
  have h31 := h3.below hb1
  obtain ⟨u0, u1⟩ := one_cell h31.read
  have hz1 : (w0.alloc (.cells #[.string s, .int .i64 (0 : Nat), .int .i64 (0 : Nat)] 164)).heap.size = w0.heap.size + 1 := by simp
  have HB1 : Hid (Below w0.heap.size w0 (w0.alloc (.cells #[.string s, .int .i64 (0 : Nat), .int .i64 (0 : Nat)] 164))) := hb1
  have H31 : Hid (Three (w0.alloc (.cells #[.string s, .int .i64 (0 : Nat), .int .i64 (0 : Nat)] 164)) w.heap.size s 94 89 144 .nilIface) := h31
  have HE : Hid (Env (w0.alloc (.cells #[.string s, .int .i64 (0 : Nat), .int .i64 (0 : Nat)] 164)) w0.heap.size a1) := hE
  have hlt1 : w.heap.size + 1 < w0.heap.size := by omega
  have hne1 : ¬ w.heap.size + 1 = w0.heap.size := by omega
  clear hrb hb1 h31 hE u1
  go_enter Tryz.func112, Tryz.ntmps112
  go_wp2_with fail
  generalize w0.alloc (.cells #[.string s, .int .i64 (0 : Nat), .int .i64 (0 : Nat)] 164) = W1 at *
  refine hC.mono ?_
  rintro e w1 (⟨d, j, v, hr, hij, hj, rfl, hrep, hl⟩ | ⟨hr, rfl, hg⟩)
  · have Hr : Hid (Ls.pat 13 (rest s 0) = some (d, rest s j)) := hr
    obtain ⟨ty, y, rfl⟩ := hrep.iface
    have hz2 := hl.grown.size
    have h3w : Three w1 w.heap.size s 94 89 144 .nilIface := by
      have h := H31.out
      refine ⟨?_, ?_, ?_⟩
      · rw [hl.grown.block _ (Array.getElem?_eq_some_iff.1 h.text).1 (by simp; omega)]; exact h.text
      · rw [hl.grown.block _ (Array.getElem?_eq_some_iff.1 h.read).1 (by simp; omega)]; exact h.read
      · rw [hl.grown.block _ (Array.getElem?_eq_some_iff.1 h.whole).1 (by simp; omega)]; exact h.whole
    obtain ⟨q0, q1⟩ := one_cell h3w.whole
    have hbw : Below w0.heap.size w0 w1 := HB1.out.grown hl.grown (by omega) (fun k hk => by cases hk; omega)
    have hl2 : RB (w1.setCell ⟨w.heap.size + 1 + 1, 0, none⟩ (.iface ty y)) w0.heap.size s j 0 := by
      have := hl.lies
      unfold RB at this ⊢
      rw [Below.heap_setCell _ _ _ _ (by show w0.heap.size ≠ w.heap.size + 1 + 1; omega)]; exact this
    have hE2 : (w1.setCell ⟨w.heap.size + 1 + 1, 0, none⟩ (.iface ty y)).cell? ⟨3, 0, none⟩ = some (errS a1) := by
      rw [World.cell?_setCell_far _ _ _ _ (by show w.heap.size + 1 + 1 ≠ 3; omega)]
      exact (HE.out.grown hl.grown).sc
    have h3s := h3w.set (.iface ty y)
    have hbs : Below w.heap.size w (w1.setCell ⟨w.heap.size + 1 + 1, 0, none⟩ (.iface ty y)) := (Below.join hb0 hbw).setCell (p := ⟨w.heap.size + 1 + 1, 0, none⟩) (by show w.heap.size ≤ w.heap.size + 1 + 1; omega) _
    have hkeep : ∀ k, k < w0.heap.size → k ≠ w.heap.size + 1 + 1 → (w1.setCell ⟨w.heap.size + 1 + 1, 0, none⟩ (.iface ty y)).heap[k]? = w0.heap[k]? := fun k hk hn => by
      rw [Below.heap_setCell _ _ _ _ hn]; exact hbw.block k hk
    have hrep2 : Rep (w1.setCell ⟨w.heap.size + 1 + 1, 0, none⟩ (.iface ty y)) (fun k => w0.heap.size < k ∧ k < (w1.setCell ⟨w.heap.size + 1 + 1, 0, none⟩ (.iface ty y)).heap.size) 0 d [.iface ty y] := hrep.mono (fun k hk => ⟨by have := hk.1; omega, by have := hk.2; simp [World.setCell]; exact this⟩) (fun k hk => Below.heap_setCell _ _ _ _ (by have := hk.1; show k ≠ w.heap.size + 1 + 1; omega))
    have hz3 : w0.heap.size ≤ (w1.setCell ⟨w.heap.size + 1 + 1, 0, none⟩ (.iface ty y)).heap.size := by simp [World.setCell]; omega
    have HB : Hid (Below w.heap.size w (w1.setCell ⟨w.heap.size + 1 + 1, 0, none⟩ (.iface ty y))) := hbs
    have HK : Hid (∀ k, k < w0.heap.size → k ≠ w.heap.size + 1 + 1 → (w1.setCell ⟨w.heap.size + 1 + 1, 0, none⟩ (.iface ty y)).heap[k]? = w0.heap[k]?) := hkeep
    have HP : Hid (Rep (w1.setCell ⟨w.heap.size + 1 + 1, 0, none⟩ (.iface ty y)) (fun k => w0.heap.size < k ∧ k < (w1.setCell ⟨w.heap.size + 1 + 1, 0, none⟩ (.iface ty y)).heap.size) 0 d [.iface ty y]) := hrep2
    have H3 : Hid (Three (w1.setCell ⟨w.heap.size + 1 + 1, 0, none⟩ (.iface ty y)) w.heap.size s 94 89 144 (.iface ty y)) := h3s
    have HE2 : Hid ((w1.setCell ⟨w.heap.size + 1 + 1, 0, none⟩ (.iface ty y)).cell? ⟨3, 0, none⟩ = some (errS a1)) := hE2
    clear hr hC hrep hrep2 hbs hkeep h3s hE2 hbw
    rcases Nat.lt_or_ge j s.size with hlt | hge
    · have HN : Hid (readAll s.data.toList = .none) := readAll_left Hr.out hlt
      have hD := done_l w0.heap.size s j 0 _ hl2 hs (by omega) false (by simp; omega)
      clear hl2 h3w H31
      go_wp2_with fail
      generalize w1.setCell ⟨w.heap.size + 1 + 1, 0, none⟩ (.iface ty y) = W2 at *
      refine hD.mono ?_
      rintro e w3 ⟨rfl, hl3⟩
      have hE3 : w3.cell? ⟨3, 0, none⟩ = some (errS a1) := hl3.grown.cell HE2.out (by simp; omega)
      have hz4 := hl3.grown.size
      go_wp2_with fail
      refine (fail_any _ a1 _ hE3).mono ?_
      rintro e w4 ⟨rfl, rfl⟩
      go_wp2_with fail
      refine ⟨rfl, fun k hk hn => ?_, HB.out.grown hl3.grown (by have := HB.out.size; omega) (fun k hk => by cases hk; omega), by omega, .inr ⟨HN.out, rfl⟩⟩
      rw [hl3.grown.block k (by omega) (by simp; omega)]
      exact HK.out k hk hn
    · have HN : Hid (readAll s.data.toList = some d) := readAll_some Hr.out hge
      have hD := done_l w0.heap.size s j 0 _ hl2 hs (by omega) true (by simp; omega)
      clear hl2 h3w H31
      go_wp2_with fail
      generalize w1.setCell ⟨w.heap.size + 1 + 1, 0, none⟩ (.iface ty y) = W2 at *
      refine hD.mono ?_
      rintro e w3 ⟨rfl, hl3⟩
      have hz4 := hl3.grown.size
      go_wp2_with fail
      go_end0
      refine ⟨fun k hk hn => ?_, HB.out.grown hl3.grown (by have := HB.out.size; omega) (fun k hk => by cases hk; omega), by omega, .inl ⟨d, .iface ty y, HN.out, rfl, ?_, ?_⟩⟩
      · rw [hl3.grown.block k (by omega) (by simp; omega)]
        exact HK.out k hk hn
      · rw [hl3.grown.block _ (by omega) (by simp; omega)]
        exact H3.out.whole
      · exact HP.out.mono (fun k hk => ⟨Nat.le_of_lt hk.1, Nat.lt_of_lt_of_le hk.2 hl3.grown.size⟩) (fun k hk => hl3.grown.block k hk.2 (by have := hk.1; simp; omega))
  · have HN : Hid (readAll s.data.toList = .none) := readAll_none hr
    have hbw : Below w0.heap.size w0 w1 := HB1.out.grown hg (by omega) (fun k hk => by cases hk; omega)
    clear hr hC
    go_wp2_with fail
    exact ⟨rfl, fun k hk _ => hbw.block k hk, Below.join hb0 hbw, hbw.size, .inr ⟨HN.out, rfl⟩⟩

/-- What Read answers. -/
def ReadPost (s : ByteArray) (a0 a1 a2 a3 : Addr) (w : World) : Ending → World → Prop := fun e w' => Below w.heap.size w w' ∧
  ((readErr s.data.toList = 0 ∧ ∃ d v, readAll s.data.toList = some d ∧ e = .returned (.tuple #[v, .nilIface]) ∧ Rep w' (New w w') 0 d [v]) ∨
   (readErr s.data.toList ≠ 0 ∧ e = .returned (.tuple #[.nilIface, errS (errA a0 a1 a2 a3 (readErr s.data.toList))])))

set_option maxRecDepth 100000 in
set_option maxHeartbeats 1000000 in
theorem whole_any (s : ByteArray) (hs : s.size ≤ 1048576) (w : World) (a0 a1 a2 a3 : Addr) (hS : Sent w a0 a1 a2 a3) :
    Calls Tryz.prog 93 #[.string s, .func (.func 94) #[] #[]] w (ReadPost s a0 a1 a2 a3 w) := by
  have hmf : ∀ (fn : Fn) (first cap : Array Value) (w : World), (Instr.makeFunc fn first cap).run Tryz.prog w = .ok (.func fn first cap) w := fun _ _ _ _ => rfl
  have c0 := hS.c0
  by_cases h120 : 120 < s.size
  · have hd : (120 : Int) < (s.size : Int) := by omega
    have HE : Hid (readErr s.data.toList = 1) := by show _ = _; unfold readErr; rw [if_pos (by simpa using h120)]
    have HS2 : Hid (Sent ((w.alloc (.cells #[.string s] 9)).alloc (.cells #[.func (.func 94) #[] #[]] 144)) a0 a1 a2 a3) := hS.below (below_alloc2 _ _ _)
    have c0' := HS2.out.c0
    go_enter Tryz.func93, Tryz.ntmps93
    go_wp2_with fail
    go_quiet (fail)
    go_wp2_with fail
    go_ret2
    refine ⟨Below.join (below_alloc2 _ _ _) (below_drewN _), .inr ⟨by rw [HE.out]; omega, by rw [HE.out]; rfl⟩⟩
  · have hd : ¬ (120 : Int) < (s.size : Int) := by omega
    have HE : Hid (readErr s.data.toList = match readAll s.data.toList with | .none => 2 | some d => if 24 < Ls.dsize d then 3 else 0) := by
      show _ = _; unfold readErr; rw [if_neg (by simpa using h120)]; rfl
    have HS : Hid (Sent w a0 a1 a2 a3) := hS
    clear hS c0
    have hne : ∀ w, (binOp .neq 80 (errS a1) .nilIface).run Tryz.prog w = .ok (.bool true) w := fun w => by kernel_rfl
    have hnn : ∀ w, (binOp .neq 80 .nilIface .nilIface).run Tryz.prog w = .ok (.bool false) w := fun w => by kernel_rfl
    have hb3 : Below w.heap.size w (((w.alloc (.cells #[.string s] 9)).alloc (.cells #[.func (.func 94) #[] #[]] 144)).alloc (.cells #[.nilIface] 89)) := below_alloc3 _ _ _ _
    have hz3 : (((w.alloc (.cells #[.string s] 9)).alloc (.cells #[.func (.func 94) #[] #[]] 144)).alloc (.cells #[.nilIface] 89)).heap.size = w.heap.size + 1 + 1 + 1 := by simp
    have h3 : Three (((w.alloc (.cells #[.string s] 9)).alloc (.cells #[.func (.func 94) #[] #[]] 144)).alloc (.cells #[.nilIface] 89)) w.heap.size s 94 89 144 .nilIface := by
      refine ⟨?_, ?_, ?_⟩
      · rw [Below.heap_alloc _ _ _ (by simp; omega), Below.heap_alloc _ _ _ (by simp)]; exact heap_alloc_new _ _
      · rw [Below.heap_alloc _ _ _ (by simp)]
        have := heap_alloc_new (w.alloc (.cells #[.string s] 9)) (.cells #[.func (.func 94) #[] #[]] 144)
        rw [World.size_alloc] at this
        exact this
      · have := heap_alloc_new ((w.alloc (.cells #[.string s] 9)).alloc (.cells #[.func (.func 94) #[] #[]] 144)) (.cells #[.nilIface] 89)
        rw [World.size_alloc, World.size_alloc] at this
        exact this
    have HB3 : Hid (Below w.heap.size w (((w.alloc (.cells #[.string s] 9)).alloc (.cells #[.func (.func 94) #[] #[]] 144)).alloc (.cells #[.nilIface] 89))) := hb3
    have H3 : Hid (Three (((w.alloc (.cells #[.string s] 9)).alloc (.cells #[.func (.func 94) #[] #[]] 144)).alloc (.cells #[.nilIface] 89)) w.heap.size s 94 89 144 .nilIface) := h3
    clear hb3 h3
    go_enter Tryz.func93, Tryz.ntmps93
    go_wp2_with fail
    generalize (((w.alloc (.cells #[.string s] 9)).alloc (.cells #[.func (.func 94) #[] #[]] 144)).alloc (.cells #[.nilIface] 89)) = W3 at *
    have hb4 := below_alloc1 W3 (.cells #[.nilIface] 80)
    have hz4 : (W3.alloc (.cells #[.nilIface] 80)).heap.size = w.heap.size + 1 + 1 + 1 + 1 := by simp; omega
    have he4 : (W3.alloc (.cells #[.nilIface] 80)).heap[W3.heap.size]? = some (.cells #[.nilIface] 80 (0, 0)) := heap_alloc_new _ _
    have hdo := wholeDo_any s hs a1 w (W3.alloc (.cells #[.nilIface] 80)) (Below.join HB3.out hb4) (H3.out.below hb4) HS.out.c1
    have hca := caught_any 112 _ (fun w => by kernel_rfl) W3 _ hdo (fun e w' hq => ⟨by rw [hq.1 _ (by omega) (by omega)]; exact he4, by
      rcases hq.2.2.2 with ⟨d, v, _, h, _⟩ | ⟨_, h⟩
      · exact .inl h
      · exact .inr ⟨a1, h⟩⟩)
    clear hdo
    refine hca.mono ?_
    rintro e w2 ⟨e1, w1, hq, hcase⟩
    obtain ⟨hk, hb1, hz1, hq4⟩ := hq
    have hne4 : ¬ W3.heap.size = w.heap.size + 1 + 1 := by omega
    rcases hq4 with ⟨d, v, hr, rfl, hwh, hrep⟩ | ⟨hr, rfl⟩
    · rcases hcase with ⟨_, rfl, rfl⟩ | ⟨a, h, _⟩
      rotate_left
      · cases h
      obtain ⟨ty, x, rfl⟩ := hrep.iface
      rw [hr] at HE
      have Hr : Hid (readAll s.data.toList = some d) := hr
      have hfew := readAll_few hr
      have hwh2 : (w1.setCell ⟨W3.heap.size, 0, none⟩ .nilIface).heap[w.heap.size + 1 + 1]? = some (.cells #[.iface ty x] 89 (0, 0)) := by
        rw [Below.heap_setCell _ _ _ _ (by show w.heap.size + 1 + 1 ≠ W3.heap.size; omega)]; exact hwh
      have hb2 : Below w.heap.size w (w1.setCell ⟨W3.heap.size, 0, none⟩ .nilIface) := hb1.setCell (p := ⟨W3.heap.size, 0, none⟩) (by show w.heap.size ≤ W3.heap.size; omega) _
      have hrep2 : Rep (w1.setCell ⟨W3.heap.size, 0, none⟩ .nilIface) (New w (w1.setCell ⟨W3.heap.size, 0, none⟩ .nilIface)) 0 d [.iface ty x] := hrep.mono (fun k hk => ⟨by have := hk.1; omega, by have := hk.2; simp [World.setCell]; exact this⟩) (fun k hk => Below.heap_setCell _ _ _ _ (by have := hk.1; show k ≠ W3.heap.size; omega))
      clear hr hca hrep hwh hk he4 hb4
      generalize w1.setCell ⟨W3.heap.size, 0, none⟩ .nilIface = w2 at *
      obtain ⟨q0, q1⟩ := one_cell hwh2
      obtain ⟨f, hm, hcf, hf⟩ := size_any (dn d) d (Nat.le_refl _) (by have := hfew.1; simp at this; omega) (by have := hfew.2; simp at this; omega) w2 (New w w2) ty x (fun k hk => hk.2) hrep2
      have Hrep : Hid (Rep w2 (New w w2) 0 d [.iface ty x]) := hrep2
      have HB2 : Hid (Below w.heap.size w w2) := hb2
      have hzz := (Array.getElem?_eq_some_iff.1 hwh2).1
      clear hrep2 hb2 hb1
      go_wp2_with fail
      refine hf.mono ?_
      rintro e w3 ⟨rfl, hb3⟩
      have hS3 := HS.out.below (Below.join HB2.out hb3)
      have c2 := hS3.c2
      have hwh3 := hwh2
      rw [← hb3.block _ hzz] at hwh3
      obtain ⟨r0, r1⟩ := one_cell hwh3
      by_cases h24 : 24 < Ls.dsize d
      · have hd2 : (24 : Int) < (Ls.dsize d : Int) := by omega
        have HE2 : Hid (readErr s.data.toList = 3) := by show _ = _; rw [HE.out, if_pos h24]
        go_wp2_with fail
        go_quiet (fail)
        go_wp2_with fail
        go_ret2
        exact ⟨Below.join (Below.join HB2.out hb3) (below_drewN _), .inr ⟨by rw [HE2.out]; omega, by rw [HE2.out]; rfl⟩⟩
      · have hd2 : ¬ (24 : Int) < (Ls.dsize d : Int) := by omega
        have HE2 : Hid (readErr s.data.toList = 0) := by show _ = _; rw [HE.out, if_neg h24]
        go_wp2_with fail
        go_ret2
        exact ⟨Below.join HB2.out hb3, .inl ⟨HE2.out, d, _, Hr.out, rfl, Hrep.out.mono (fun k hk => ⟨hk.1, Nat.lt_of_lt_of_le hk.2 hb3.size⟩) (fun k hk => hb3.block k hk.2)⟩⟩
    · rcases hcase with ⟨h, _⟩ | ⟨a, h, rfl, rfl⟩
      · cases h
      injection h with h
      injection h with h
      injection h with h
      injection h with h h'
      injection h' with h'
      injection h' with h'
      subst h'
      have HE2 : Hid (readErr s.data.toList = 2) := by show _ = _; rw [HE.out, hr]
      have HB2 : Hid (Below w.heap.size w (w1.setCell ⟨W3.heap.size, 0, none⟩ (errS a1))) := hb1.setCell (p := ⟨W3.heap.size, 0, none⟩) (by show w.heap.size ≤ W3.heap.size; omega) _
      clear hr hca hk he4 hb4 hb1
      go_wp2_with fail
      go_ret2
      rw [hz3] at HB2
      exact ⟨HB2.out, .inr ⟨by rw [HE2.out]; omega, by rw [HE2.out]; rfl⟩⟩

set_option maxRecDepth 100000 in
set_option maxHeartbeats 400000 in
theorem Read_any (s : ByteArray) (hs : s.size ≤ 1048576) (w : World) (a0 a1 a2 a3 : Addr) (hS : Sent w a0 a1 a2 a3) :
    Calls Tryz.prog 60 #[.string s] w (ReadPost s a0 a1 a2 a3 w) := by
  have hW := whole_any s hs w a0 a1 a2 a3 hS
  clear hS
  go_enter Tryz.func60, Tryz.ntmps60
  go_wp2_with fail
  refine hW.mono ?_
  rintro e w1 ⟨hb, ⟨hE, d, v, hr, rfl, hrep⟩ | ⟨hE, rfl⟩⟩
  · have HP : Hid (ReadPost s a0 a1 a2 a3 w (.returned (.tuple #[v, .nilIface])) w1) := ⟨hb, .inl ⟨hE, d, v, hr, rfl, hrep⟩⟩
    clear hE hr hrep hW
    go_wp2_with fail
    go_ret2
    exact HP.out
  · have HP : Hid (ReadPost s a0 a1 a2 a3 w (.returned (.tuple #[.nilIface, errS (errA a0 a1 a2 a3 (readErr s.data.toList))])) w1) := ⟨hb, .inr ⟨hE, rfl⟩⟩
    clear hE hW
    generalize errA a0 a1 a2 a3 (readErr s.data.toList) = ad at *
    go_wp2_with fail
    go_ret2
    exact HP.out

end Go.Proofs.YtfklinjaajafgaaGreatDoor
