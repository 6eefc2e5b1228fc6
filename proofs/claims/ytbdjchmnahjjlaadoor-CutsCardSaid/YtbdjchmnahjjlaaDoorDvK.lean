import Derived.Test.YtbdjchmnahjjlaaDoorDvJ
import Derived.Defers
import Derived.Recover
import Derived.Stop.Asserts
/- readWhole: the panic ends there. -/
namespace Go.Proofs.YtbdjchmnahjjlaaDoor
open Go.RowKit

theorem asErr (a1 : Addr) (w : World) : (Instr.typeAssert (errS a1) 20 37 true).run Tryd.prog w = .ok (.tuple #[errS a1, .bool true]) w :=
  run_typeAssert_hasB Tryd.underlying37 (by kernel_rfl) _ _ w

theorem catch_panicking (p q : Nat) (a1 : Addr) (vp vq : Value) (older : List PanicEntry) (w : World) (hp : w.cell? ⟨p, 0, none⟩ = some vp) (hq : w.cell? ⟨q, 0, none⟩ = some vq) (hpq : p ≠ q) (fp : w.frozen? ⟨p, 0, none⟩ = false) (fq : w.frozen? ⟨q, 0, none⟩ = false) :
    CallsD Tryd.prog 46 #[.pointer (some ⟨p, 0, none⟩), .pointer (some ⟨q, 0, none⟩)] (.panicking ({ v := errS a1, recovered := false } :: older)) w fun e u' w' =>
      e = .returned (.tuple #[]) ∧ u' = .panicking ({ v := errS a1, recovered := true } :: older) ∧ w' = (w.setCell ⟨p, 0, none⟩ .nilIface).setCell ⟨q, 0, none⟩ (errS a1) := by
  have ha := asErr a1
  refine callsD_of_wpS Tryd.func46 rfl fun c₀ cs hu => ?_
  apply wpS_seq
  apply wpS_region
  simp [wpOpsS, go_sem, recoverD, hu, Tryd.ntmps46, Exit.thenS, ha]
  apply wpS_seq
  apply wpS_region
  simp [wpOpsS, go_sem, Exit.thenS, Array.replicate, Act.eval]
  refine wpS_cond (t := true) (by simp [Act.eval]) ?_
  simp only [if_true]
  apply wpS_region
  simp [wpOpsS, go_sem, hp, hq, fp, fq, bodyPostS, results, Tryd.results46, Act.eval]

theorem catch_idle (p q : Nat) (w : World) :
    CallsD Tryd.prog 46 #[.pointer (some ⟨p, 0, none⟩), .pointer (some ⟨q, 0, none⟩)] .returning w fun e u' w' => e = .returned (.tuple #[]) ∧ u' = .returning ∧ w' = w := by
  have ha : ∀ w, (Instr.typeAssert .nilIface 20 37 true).run Tryd.prog w = .ok (.tuple #[.nilIface, .bool false]) w := fun w => by kernel_rfl
  refine callsD_of_wpS Tryd.func46 rfl fun c₀ cs hu => ?_
  apply wpS_seq
  apply wpS_region
  simp [wpOpsS, go_sem, recoverD, hu, Tryd.ntmps46, Exit.thenS, ha]
  apply wpS_seq
  apply wpS_region
  simp [wpOpsS, go_sem, Exit.thenS, Array.replicate, Act.eval]
  refine wpS_cond (t := false) (by simp [Act.eval]) ?_
  simp only [Bool.false_eq_true, if_false]
  refine wpS_of_wp (wp_skip ?_)
  cases c₀
  simp_all [bodyPostS, results, Tryd.results46]

/-- What readWhole answers. -/
def WholePost (s : ByteArray) (a1 : Addr) (w : World) : Ending → World → Prop := fun e w' => Below w.heap.size w w' ∧
  ((∃ d v, readAll s.data.toList = some d ∧ e = .returned (.tuple #[v, .nilIface]) ∧ Rep w' (New w w') 0 d [v]) ∨ (readAll s.data.toList = .none ∧ e = .returned (.tuple #[.nilIface, errS a1])))

theorem one_cell {w : World} {g : Nat} {v : Value} {t : TypeId} (h : w.heap[g]? = some (.cells #[v] t (0, 0))) : w.cell? ⟨g, 0, none⟩ = some v ∧ w.frozen? ⟨g, 0, none⟩ = false := by
  constructor
  · simp [World.cell?, h]
  · simp [World.frozen?, h]

theorem readAll_some {s : ByteArray} {d : Ls.D} {j : Nat} (h : clean (Ls.pat 13 (rest s 0)) = some (d, rest s j)) (hj : s.size ≤ j) : readAll s.data.toList = some d := by
  obtain ⟨h1, _⟩ := clean_head h
  unfold readAll
  rw [show Ls.pat 13 s.data.toList = some (d, rest s j) from h1]
  dsimp only
  rw [if_pos (rest_ge hj)]

theorem readAll_left {s : ByteArray} {d : Ls.D} {j : Nat} (h : clean (Ls.pat 13 (rest s 0)) = some (d, rest s j)) (hj : j < s.size) : readAll s.data.toList = .none := by
  obtain ⟨h1, _⟩ := clean_head h
  unfold readAll
  rw [show Ls.pat 13 s.data.toList = some (d, rest s j) from h1]
  dsimp only
  rw [if_neg (by rw [rest_lt hj]; simp)]

theorem readAll_none {s : ByteArray} (h : clean (Ls.pat 13 (rest s 0)) = .none) : readAll s.data.toList = .none := by
  unfold readAll
  rcases clean_none h with h1 | ⟨d, t, h1, h2⟩
  · rw [show Ls.pat 13 s.data.toList = .none from h1]
  · rw [show Ls.pat 13 s.data.toList = some (d, t) from h1]
    dsimp only
    rw [if_neg (by rintro rfl; simp at h2)]

set_option maxRecDepth 100000 in
set_option maxHeartbeats 2000000 in
theorem whole_any (s : ByteArray) (hs : s.size ≤ 1048576) (a1 : Addr) (w : World) (hc : w.cell? ⟨2, 0, none⟩ = some (errS a1)) :
    Calls Tryd.prog 28 #[.string s] w (WholePost s a1 w) := by
  have hmf : ∀ (fn : Fn) (first cap : Array Value) (w : World), (Instr.makeFunc fn first cap).run Tryd.prog w = .ok (.func fn first cap) w := fun _ _ _ _ => rfl
  have hgl : 2 < w.heap.size := by
    rcases Nat.lt_or_ge 2 w.heap.size with h | h
    · exact h
    · rw [World.cell?, Array.getElem?_eq_none h] at hc; cases hc
  have hb0 := below_alloc3 w (.cells #[.nilIface] 35) (.cells #[.nilIface] 37) (.cells #[.string s, .int .i64 (0 : Nat), .int .i64 (0 : Nat)] 102)
  have hrb : RB (((w.alloc (.cells #[.nilIface] 35)).alloc (.cells #[.nilIface] 37)).alloc (.cells #[.string s, .int .i64 (0 : Nat), .int .i64 (0 : Nat)] 102)) (w.heap.size + 1 + 1) s 0 0 := by
    unfold RB
    have := heap_alloc_new ((w.alloc (.cells #[.nilIface] 35)).alloc (.cells #[.nilIface] 37)) (.cells #[.string s, .int .i64 (0 : Nat), .int .i64 (0 : Nat)] 102)
    simpa using this
  have hp0 : (((w.alloc (.cells #[.nilIface] 35)).alloc (.cells #[.nilIface] 37)).alloc (.cells #[.string s, .int .i64 (0 : Nat), .int .i64 (0 : Nat)] 102)).heap[w.heap.size]? = some (.cells #[.nilIface] 35 (0, 0)) := by
    rw [Below.heap_alloc _ _ _ (by simp; omega), Below.heap_alloc _ _ _ (by simp)]; exact heap_alloc_new _ _
  have hq0 : (((w.alloc (.cells #[.nilIface] 35)).alloc (.cells #[.nilIface] 37)).alloc (.cells #[.string s, .int .i64 (0 : Nat), .int .i64 (0 : Nat)] 102)).heap[w.heap.size + 1]? = some (.cells #[.nilIface] 37 (0, 0)) := by
    rw [Below.heap_alloc _ _ _ (by simp)]
    have := heap_alloc_new (w.alloc (.cells #[.nilIface] 35)) (.cells #[.nilIface] 37)
    simpa using this
  have hE : Env (((w.alloc (.cells #[.nilIface] 35)).alloc (.cells #[.nilIface] 37)).alloc (.cells #[.string s, .int .i64 (0 : Nat), .int .i64 (0 : Nat)] 102)) (w.heap.size + 1 + 1) a1 := ⟨(hb0.cell (p := ⟨2, 0, none⟩) hgl).trans hc, by omega⟩
  have HC : Hid _ := choice_any s hs a1 12 (Nat.le_refl _)
  go_enter_defers Tryd.func28, Tryd.ntmps28
  go_wp2_with fail
  have hz0 : (((w.alloc (.cells #[.nilIface] 35)).alloc (.cells #[.nilIface] 37)).alloc (.cells #[.string s, .int .i64 (0 : Nat), .int .i64 (0 : Nat)] 102)).heap.size = w.heap.size + 1 + 1 + 1 := by simp
  refine (HC.out (w.heap.size + 1 + 1) 0 _ hrb hE (Nat.zero_le _)).mono ?_
  generalize (((w.alloc (.cells #[.nilIface] 35)).alloc (.cells #[.nilIface] 37)).alloc (.cells #[.string s, .int .i64 (0 : Nat), .int .i64 (0 : Nat)] 102)) = w0 at *
  rintro e w1 (⟨d, j, v, hr, hij, hj, rfl, hrep, hl⟩ | ⟨hr, rfl, hg⟩)
  · have Hr : Hid (clean (Ls.pat 13 (rest s 0)) = some (d, rest s j)) := hr
    clear hr
    have hz1 := hl.grown.size
    have hp1 := hp0
    rw [← hl.grown.block _ (by omega) (by simp; omega)] at hp1
    have hq1 := hq0
    rw [← hl.grown.block _ (by omega) (by simp)] at hq1
    have hb1 : Below w.heap.size w w1 := hb0.grown hl.grown (by omega) (by simp; omega)
    obtain ⟨p0, p1⟩ := one_cell hp1
    obtain ⟨q0, q1⟩ := one_cell hq1
    obtain ⟨ty, y, rfl⟩ := hrep.iface
    have Hc : Hid _ := hc
    clear hE hc hp0 hq0 hrb
    go_wp2_with fail
    have hl1 : RB (w1.setCell ⟨w.heap.size, 0, none⟩ (.iface ty y)) (w.heap.size + 1 + 1) s j 0 := by
      have := hl.lies
      unfold RB at this ⊢
      rw [Below.heap_setCell _ _ _ _ (by show _ ≠ w.heap.size; omega)]; exact this
    have hp2 : (w1.setCell ⟨w.heap.size, 0, none⟩ (.iface ty y)).heap[w.heap.size]? = some (.cells #[.iface ty y] 35 (0, 0)) := by
      simp [World.setCell, Array.getElem?_modify, hp1]
    have hq2 : (w1.setCell ⟨w.heap.size, 0, none⟩ (.iface ty y)).heap[w.heap.size + 1]? = some (.cells #[.nilIface] 37 (0, 0)) := by
      rw [Below.heap_setCell _ _ _ _ (by show w.heap.size + 1 ≠ w.heap.size; omega)]; exact hq1
    have hb2 : Below w.heap.size w (w1.setCell ⟨w.heap.size, 0, none⟩ (.iface ty y)) := hb1.setCell (p := ⟨w.heap.size, 0, none⟩) (Nat.le_refl _) _
    have hE2 : (w1.setCell ⟨w.heap.size, 0, none⟩ (.iface ty y)).cell? ⟨2, 0, none⟩ = some (errS a1) := (hb2.cell (p := ⟨2, 0, none⟩) hgl).trans Hc.out
    have hrep2 : Rep (w1.setCell ⟨w.heap.size, 0, none⟩ (.iface ty y)) (New w0 (w1.setCell ⟨w.heap.size, 0, none⟩ (.iface ty y))) 0 d [.iface ty y] := hrep.mono (fun k hk => ⟨hk.1, by have := hk.2; simp [World.setCell]; exact this⟩) (fun k hk => Below.heap_setCell _ _ _ _ (by have := hk.1; show k ≠ w.heap.size; omega))
    have hz2 : w0.heap.size ≤ (w1.setCell ⟨w.heap.size, 0, none⟩ (.iface ty y)).heap.size := by simp [World.setCell]; exact hz1
    clear hp1 hq1 p0 p1 q0 q1 hb1 hl hrep hz1
    generalize w1.setCell ⟨w.heap.size, 0, none⟩ (.iface ty y) = w2 at *
    rcases Nat.lt_or_ge j s.size with hlt | hge
    · have HN : Hid (readAll s.data.toList = .none) := readAll_left Hr.out hlt
      refine (done_any (w.heap.size + 1 + 1) s j 0 w2 hl1 hs (by omega)).mono ?_
      rw [show decide (s.size ≤ j) = false from by simp; omega]
      rintro e w3 ⟨rfl, n, rfl⟩
      obtain ⟨p0, p1⟩ := one_cell (show (w2.drewN n).heap[w.heap.size]? = _ from hp2)
      obtain ⟨q0, q1⟩ := one_cell (show (w2.drewN n).heap[w.heap.size + 1]? = _ from hq2)
      have hE3 : (w2.drewN n).cell? ⟨2, 0, none⟩ = some (errS a1) := hE2
      have hb3 : Below w.heap.size w (w2.drewN n) := Below.join hb2 (below_drewN n)
      have hz3 : w0.heap.size ≤ (w2.drewN n).heap.size := hz2
      clear hb2 hE2 hp2 hq2 hrep2 hl1 hz2
      generalize w2.drewN n = w3 at *
      go_wp2_with fail
      refine (fail_any _ a1 _ hE3).mono ?_
      rintro e w4 ⟨rfl, rfl⟩
      go_wp2_with fail
      refine leaves_cons (f := 46) (args := #[.pointer (some ⟨w.heap.size, 0, none⟩), .pointer (some ⟨w.heap.size + 1, 0, none⟩)]) (by simp) (by simp [go_sem]) ?_
      refine (catch_panicking w.heap.size (w.heap.size + 1) a1 _ _ [] _ p0 q0 (by omega) p1 q1).mono ?_
      rintro e u' w'' ⟨rfl, rfl, rfl⟩
      have hz4 : w.heap.size < w4.heap.size := by omega
      have hz5 : w.heap.size + 1 < w4.heap.size := by omega
      simp [Leaves, settle, results, Tryd.results28, go_sem, p0, q0]
      exact ⟨(hb3.setCell (p := ⟨w.heap.size, 0, none⟩) (Nat.le_refl _) _).setCell (p := ⟨w.heap.size + 1, 0, none⟩) (by show w.heap.size ≤ w.heap.size + 1; omega) _, .inr ⟨HN.out, rfl⟩⟩
    · have HN : Hid (readAll s.data.toList = some d) := readAll_some Hr.out hge
      refine (done_any (w.heap.size + 1 + 1) s j 0 w2 hl1 hs (by omega)).mono ?_
      rw [show decide (s.size ≤ j) = true from by simp; omega]
      rintro e w3 ⟨rfl, n, rfl⟩
      obtain ⟨p0, p1⟩ := one_cell (show (w2.drewN n).heap[w.heap.size]? = _ from hp2)
      obtain ⟨q0, q1⟩ := one_cell (show (w2.drewN n).heap[w.heap.size + 1]? = _ from hq2)
      have hb3 : Below w.heap.size w (w2.drewN n) := Below.join hb2 (below_drewN n)
      have hz3 : w0.heap.size ≤ (w2.drewN n).heap.size := hz2
      have hrep3 : Rep (w2.drewN n) (New w0 (w2.drewN n)) 0 d [.iface ty y] := Rep.mono (w := w2) (w' := w2.drewN n) (G := New w0 w2) (G' := New w0 (w2.drewN n)) (fun k hk => ⟨hk.1, hk.2⟩) (fun k hk => rfl) hrep2
      clear hb2 hE2 hp2 hq2 hrep2 hl1 hz2
      generalize w2.drewN n = w3 at *
      have Hrep : Hid _ := hrep3
      clear hrep3
      go_wp2_with fail
      refine leaves_cons (f := 46) (args := #[.pointer (some ⟨w.heap.size, 0, none⟩), .pointer (some ⟨w.heap.size + 1, 0, none⟩)]) (by simp) (by simp [go_sem]) ?_
      refine (catch_idle w.heap.size (w.heap.size + 1) _).mono ?_
      rintro e u' w'' ⟨rfl, rfl, rfl⟩
      have hz4 : w.heap.size < w3.heap.size := by omega
      have hz5 : w.heap.size + 1 < w3.heap.size := by omega
      simp [Leaves, settle, results, Tryd.results28, go_sem, p0, q0]
      refine ⟨(hb3.setCell (p := ⟨w.heap.size, 0, none⟩) (Nat.le_refl _) _).setCell (p := ⟨w.heap.size + 1, 0, none⟩) (by show w.heap.size ≤ w.heap.size + 1; omega) _, .inl ⟨d, _, HN.out, rfl, Hrep.out.mono (fun k hk => ⟨by have := hk.1; omega, by have := hk.2; simp [World.setCell]; exact this⟩) (fun k hk => ?_)⟩⟩
      have := hk.1
      rw [Below.heap_setCell _ _ _ _ (by show k ≠ w.heap.size + 1; omega), Below.heap_setCell _ _ _ _ (by show k ≠ w.heap.size; omega)]
  · have HN : Hid (readAll s.data.toList = .none) := readAll_none hr
    have hz1 := hg.size
    have hp1 := hp0
    rw [← hg.block _ (by omega) (by simp; omega)] at hp1
    have hq1 := hq0
    rw [← hg.block _ (by omega) (by simp)] at hq1
    have hb1 : Below w.heap.size w w1 := hb0.grown hg (by omega) (by simp; omega)
    obtain ⟨p0, p1⟩ := one_cell hp1
    obtain ⟨q0, q1⟩ := one_cell hq1
    clear hE hc hp0 hq0 hrb
    go_wp2_with fail
    refine leaves_cons (f := 46) (args := #[.pointer (some ⟨w.heap.size, 0, none⟩), .pointer (some ⟨w.heap.size + 1, 0, none⟩)]) (by simp) (by simp [go_sem]) ?_
    refine (catch_panicking w.heap.size (w.heap.size + 1) a1 _ _ [] _ p0 q0 (by omega) p1 q1).mono ?_
    rintro e u' w'' ⟨rfl, rfl, rfl⟩
    have hz2 : w.heap.size < w1.heap.size := by omega
    have hz3 : w.heap.size + 1 < w1.heap.size := by omega
    simp [Leaves, settle, results, Tryd.results28, go_sem, p0, q0]
    exact ⟨(hb1.setCell (p := ⟨w.heap.size, 0, none⟩) (Nat.le_refl _) _).setCell (p := ⟨w.heap.size + 1, 0, none⟩) (by show w.heap.size ≤ w.heap.size + 1; omega) _, .inr ⟨HN.out, rfl⟩⟩

end Go.Proofs.YtbdjchmnahjjlaaDoor
