import Derived.Test.YtfklinjaajafgaaGreatDoorCur
import Derived.Defers
import Derived.Recover
import Derived.Stop.Asserts
/- Caught: the panic ends there. -/
namespace Go.Proofs.YtfklinjaajafgaaGreatDoor
open Go.RowKit

theorem asErr (a1 : Addr) (w : World) : (Instr.typeAssert (errS a1) 20 80 true).run Tryz.prog w = .ok (.tuple #[errS a1, .bool true]) w :=
  run_typeAssert_hasB Tryz.underlying80 (by kernel_rfl) _ _ w

theorem catch_panicking (p : Nat) (a1 : Addr) (vp : Value) (older : List PanicEntry) (w : World) (hp : w.cell? ⟨p, 0, none⟩ = some vp) (fp : w.frozen? ⟨p, 0, none⟩ = false) :
    CallsD Tryz.prog 105 #[.pointer (some ⟨p, 0, none⟩)] (.panicking ({ v := errS a1, recovered := false } :: older)) w fun e u' w' =>
      e = .returned (.tuple #[]) ∧ u' = .panicking ({ v := errS a1, recovered := true } :: older) ∧ w' = w.setCell ⟨p, 0, none⟩ (errS a1) := by
  have ha := asErr a1
  refine callsD_of_wpS Tryz.func105 rfl fun c₀ cs hu => ?_
  apply wpS_seq
  apply wpS_region
  simp [wpOpsS, go_sem, recoverD, hu, Tryz.ntmps105, Exit.thenS, ha]
  apply wpS_seq
  apply wpS_region
  simp [wpOpsS, go_sem, Exit.thenS, Array.replicate, Act.eval]
  refine wpS_cond (t := true) (by simp [Act.eval]) ?_
  simp only [if_true]
  apply wpS_region
  simp [wpOpsS, go_sem, hp, fp, bodyPostS, results, Tryz.results105, Act.eval]

theorem catch_idle (p : Nat) (w : World) :
    CallsD Tryz.prog 105 #[.pointer (some ⟨p, 0, none⟩)] .returning w fun e u' w' => e = .returned (.tuple #[]) ∧ u' = .returning ∧ w' = w := by
  have ha : ∀ w, (Instr.typeAssert .nilIface 20 80 true).run Tryz.prog w = .ok (.tuple #[.nilIface, .bool false]) w := fun w => by kernel_rfl
  refine callsD_of_wpS Tryz.func105 rfl fun c₀ cs hu => ?_
  apply wpS_seq
  apply wpS_region
  simp [wpOpsS, go_sem, recoverD, hu, Tryz.ntmps105, Exit.thenS, ha]
  apply wpS_seq
  apply wpS_region
  simp [wpOpsS, go_sem, Exit.thenS, Array.replicate, Act.eval]
  refine wpS_cond (t := false) (by simp [Act.eval]) ?_
  simp only [Bool.false_eq_true, if_false]
  refine wpS_of_wp (wp_skip ?_)
  cases c₀
  simp_all [bodyPostS, results, Tryz.results105]

theorem one_cell {w : World} {g : Nat} {v : Value} {t : TypeId} (h : w.heap[g]? = some (.cells #[v] t (0, 0))) : w.cell? ⟨g, 0, none⟩ = some v ∧ w.frozen? ⟨g, 0, none⟩ = false := by
  constructor
  · simp [World.cell?, h]
  · simp [World.frozen?, h]

/-- What Caught answers: it went through, or it threw an error of errors.New's make. -/
def CaughtPost (w : World) (Q : Ending → World → Prop) : Ending → World → Prop := fun e w2 =>
  ∃ e1 w1, Q e1 w1 ∧ ((e1 = .returned (.tuple #[]) ∧ e = .returned .nilIface ∧ w2 = w1.setCell ⟨w.heap.size, 0, none⟩ .nilIface) ∨ (∃ a, e1 = .panicked [{ v := errS a, recovered := false }] ∧ e = .returned (errS a) ∧ w2 = w1.setCell ⟨w.heap.size, 0, none⟩ (errS a)))

set_option maxRecDepth 100000 in
set_option maxHeartbeats 1000000 in
theorem caught_any (f : Nat) (caps : Array Value) (hcf : ∀ w, (callFunc f caps).run Tryz.prog w = .ok (.enter f caps) w) (w : World) (Q : Ending → World → Prop)
    (hdo : Calls Tryz.prog f caps (w.alloc (.cells #[.nilIface] 80)) Q)
    (hQ : ∀ e w', Q e w' → w'.heap[w.heap.size]? = some (.cells #[.nilIface] 80 (0, 0)) ∧ (e = .returned (.tuple #[]) ∨ ∃ a, e = .panicked [{ v := errS a, recovered := false }])) :
    Calls Tryz.prog 78 #[.func (.func f) #[] caps] w (CaughtPost w Q) := by
  have hmf : ∀ (fn : Fn) (first cap : Array Value) (w : World), (Instr.makeFunc fn first cap).run Tryz.prog w = .ok (.func fn first cap) w := fun _ _ _ _ => rfl
  have HQ : Hid (∀ e w', Q e w' → w'.heap[w.heap.size]? = some (.cells #[.nilIface] 80 (0, 0)) ∧ (e = .returned (.tuple #[]) ∨ ∃ a, e = .panicked [{ v := errS a, recovered := false }])) := hQ
  clear hQ
  go_enter_defers Tryz.func78, Tryz.ntmps78
  go_wp2_with fail
  refine hdo.mono ?_
  intro e w1 hq
  obtain ⟨hx, rfl | ⟨a, rfl⟩⟩ := HQ.out e w1 hq
  · obtain ⟨p0, p1⟩ := one_cell hx
    have HX : Hid (Q (.returned (.tuple #[])) w1) := hq
    have hz := (Array.getElem?_eq_some_iff.1 hx).1
    clear hq hx hdo
    go_wp2_with fail
    refine leaves_cons (f := 105) (args := #[.pointer (some ⟨w.heap.size, 0, none⟩)]) (by simp) (by simp [go_sem]) ?_
    refine (catch_idle w.heap.size _).mono ?_
    rintro e u' w2 ⟨rfl, rfl, rfl⟩
    simp [Leaves, settle, results, Tryz.results78, go_sem, p0]
    exact ⟨_, w1, HX.out, .inl ⟨rfl, rfl, rfl⟩⟩
  · obtain ⟨p0, p1⟩ := one_cell hx
    have HX : Hid (Q (.panicked [{ v := errS a, recovered := false }]) w1) := hq
    have hz := (Array.getElem?_eq_some_iff.1 hx).1
    clear hq hx hdo
    go_wp2_with fail
    refine leaves_cons (f := 105) (args := #[.pointer (some ⟨w.heap.size, 0, none⟩)]) (by simp) (by simp [go_sem]) ?_
    refine (catch_panicking w.heap.size a _ [] _ p0 p1).mono ?_
    rintro e u' w2 ⟨rfl, rfl, rfl⟩
    simp [Leaves, settle, results, Tryz.results78, go_sem, p0]
    exact ⟨_, w1, HX.out, .inr ⟨a, rfl, rfl, rfl⟩⟩

end Go.Proofs.YtfklinjaajafgaaGreatDoor
