import Derived.Test.YtfklinjaajafgaaGreatDoorPlain
import Derived.Test.YtfklinjaajafgaaGreatDoorTie
import Derived.Test.YtfklinjaajafgaaGreatDoorCards
import Derived.ProofKit
import Derived.OpenShut
import Derived.ShutString
import Derived.LaidMore
import Derived.Stop.LaidErr
import Derived.Stop.Joined
/- The four sentinels. -/
namespace Go.Proofs.YtfklinjaajafgaaGreatDoor
open Go.ChangeShapes Go.WideShapes Go.ChangeAt Go.RowKit
open Go.ChangeMaps (open_string shut_string)

theorem own : ownKnob Tryz.prog.godebug = none := by kernel_rfl
theorem gLong : Tryz.prog.globalNamed "lenses/reading.ErrLong" = some 0 := by kernel_rfl
theorem gSyntax : Tryz.prog.globalNamed "lenses/reading.ErrSyntax" = some 3 := by kernel_rfl
theorem gSize : Tryz.prog.globalNamed "lenses/reading.ErrSize" = some 1 := by kernel_rfl
theorem tLong : (Tryz.prog.globals[0]?).map (·.type) = some 80 := by kernel_rfl
theorem tSyntax : (Tryz.prog.globals[3]?).map (·.type) = some 80 := by kernel_rfl
theorem tSize : (Tryz.prog.globals[1]?).map (·.type) = some 80 := by kernel_rfl
theorem gType : Tryz.prog.globalNamed "lenses/programs.ErrType" = some 2 := by kernel_rfl
theorem tType : (Tryz.prog.globals[2]?).map (·.type) = some 80 := by kernel_rfl
theorem cellsE : Tryz.prog.cellsOf 274 = 1 := by kernel_rfl
theorem cellsS : Tryz.prog.cellsOf 9 = 1 := by kernel_rfl
theorem starE : "*" ++ "errors.errorString" = "*errors.errorString" := by decide
theorem rowE (u : TypeId) (h : Tryz.prog.typeName? 3 u = some "*errors.errorString") : u = 251 :=
  typeName_ptr_named (nm := "errors.errorString") (by rw [starE]; kernel_rfl) (by kernel_rfl) (by decide) u (by rw [starE]; exact h)

/-- The four sentinels, as the walks ask for them. -/
structure Sent (w : World) (a0 a1 a2 a3 : Addr) : Prop where
  c0 : w.cell? ⟨0, 0, none⟩ = some (.iface 251 (.pointer (some a0)))
  c1 : w.cell? ⟨3, 0, none⟩ = some (.iface 251 (.pointer (some a1)))
  c2 : w.cell? ⟨1, 0, none⟩ = some (.iface 251 (.pointer (some a2)))
  c3 : w.cell? ⟨2, 0, none⟩ = some (.iface 251 (.pointer (some a3)))
  n01 : a0 ≠ a1
  n02 : a0 ≠ a2
  n12 : a1 ≠ a2
  n03 : a0 ≠ a3
  n13 : a1 ≠ a3
  n23 : a2 ≠ a3
  b0 : ∃ c t, w.heap[a0.block]? = some (.cells c t (0, 0))
  b1 : ∃ c t, w.heap[a1.block]? = some (.cells c t (0, 0))
  b2 : ∃ c t, w.heap[a2.block]? = some (.cells c t (0, 0))
  b3 : ∃ c t, w.heap[a3.block]? = some (.cells c t (0, 0))

def laid4 : List (String × DataW Unit) := [("lenses/reading.ErrLong", Rows.laid_lenses_reading_ErrLong), ("lenses/reading.ErrSyntax", Rows.laid_lenses_reading_ErrSyntax), ("lenses/reading.ErrSize", Rows.laid_lenses_reading_ErrSize), ("lenses/programs.ErrType", Rows.laid_lenses_programs_ErrType)]

set_option maxRecDepth 100000 in
theorem sent_of_laid {W : World} (h : laidMetH Tryz.prog laid4 W) : ∃ a0 a1 a2 a3, Sent W a0 a1 a2 a3 := by
  rw [MakeChecks.laidMetH_plain _ _ _ (by kernel_rfl)] at h
  obtain ⟨ps, ⟨g0, t0, cs0, f0, p0, q0, hg0, ht0, hv0, hd0, ⟨g1, t1, cs1, f1, p1, q1, hg1, ht1, hv1, hd1, ⟨g2, t2, cs2, f2, p2, q2, hg2, ht2, hv2, hd2, ⟨g3, t3, cs3, f3, p3, q3, hg3, ht3, hv3, hd3, hq3, e3⟩, e2⟩, e1⟩, e0⟩, hnd, hrows⟩ := h
  obtain rfl := Option.some.inj (gLong.symm.trans hg0)
  obtain rfl := Option.some.inj (gSyntax.symm.trans hg1)
  obtain rfl := Option.some.inj (gSize.symm.trans hg2)
  obtain rfl := Option.some.inj (gType.symm.trans hg3)
  obtain rfl := Option.some.inj (tLong.symm.trans ht0)
  obtain rfl := Option.some.inj (tSyntax.symm.trans ht1)
  obtain rfl := Option.some.inj (tSize.symm.trans ht2)
  obtain rfl := Option.some.inj (tType.symm.trans ht3)
  have hq3' : q3 = [] := hq3
  subst hq3'
  subst e3
  subst e2
  subst e1
  subst e0
  obtain ⟨l0⟩ := cs0
  obtain ⟨l1⟩ := cs1
  obtain ⟨l2⟩ := cs2
  obtain ⟨l3⟩ := cs3
  have ok0 : ∀ u v, l0 = [.iface u v] → Value.okWide Tryz.prog W .any 0 u v := fun u v e => by
    subst e
    exact (hrows 0 0 (by simp [MemPlace.row])).2 u v (by simpa using World.var?_cell hg0 hv0 0)
  have ok1 : ∀ u v, l1 = [.iface u v] → Value.okWide Tryz.prog W .any 0 u v := fun u v e => by
    subst e
    exact (hrows 3 0 (by simp [MemPlace.row])).2 u v (by simpa using World.var?_cell hg1 hv1 0)
  have ok2 : ∀ u v, l2 = [.iface u v] → Value.okWide Tryz.prog W .any 0 u v := fun u v e => by
    subst e
    exact (hrows 1 0 (by simp [MemPlace.row])).2 u v (by simpa using World.var?_cell hg2 hv2 0)
  have ok3 : ∀ u v, l3 = [.iface u v] → Value.okWide Tryz.prog W .any 0 u v := fun u v e => by
    subst e
    exact (hrows 2 0 (by simp [MemPlace.row])).2 u v (by simpa using World.var?_cell hg3 hv3 0)
  obtain ⟨a0, s0, rfl, hc0, hs0, hz0, rfl⟩ := errorString_of_trod Tryz.underlying80 rowE Tryz.underlying251 Tryz.underlying274 rfl rfl Tryz.underlying9 cellsE cellsS hd0 ok0
  obtain ⟨a1, s1, rfl, hc1, hs1, hz1, rfl⟩ := errorString_of_trod Tryz.underlying80 rowE Tryz.underlying251 Tryz.underlying274 rfl rfl Tryz.underlying9 cellsE cellsS hd1 ok1
  obtain ⟨a2, s2, rfl, hc2, hs2, hz2, rfl⟩ := errorString_of_trod Tryz.underlying80 rowE Tryz.underlying251 Tryz.underlying274 rfl rfl Tryz.underlying9 cellsE cellsS hd2 ok2
  obtain ⟨a3, s3, rfl, hc3, hs3, hz3, rfl⟩ := errorString_of_trod Tryz.underlying80 rowE Tryz.underlying251 Tryz.underlying274 rfl rfl Tryz.underlying9 cellsE cellsS hd3 ok3
  have text : ∀ (x y : Addr) (s t : ByteArray), W.cell? x = some (.string s) → W.cell? y = some (.string t) → s.data.toList ≠ t.data.toList → x ≠ y := by
    rintro x y s t h1 h2 h3 rfl
    rw [h1] at h2
    injection h2 with h2
    injection h2 with h2
    exact h3 (by rw [h2])
  refine ⟨a0, a1, a2, a3, ?_, ?_, ?_, ?_, text _ _ _ _ hc0 hc1 (by rw [hs0, hs1]; decide), text _ _ _ _ hc0 hc2 (by rw [hs0, hs2]; decide), text _ _ _ _ hc1 hc2 (by rw [hs1, hs2]; decide), text _ _ _ _ hc0 hc3 (by rw [hs0, hs3]; decide), text _ _ _ _ hc1 hc3 (by rw [hs1, hs3]; decide), text _ _ _ _ hc2 hc3 (by rw [hs2, hs3]; decide), (hrows a0.block a0.off (by simp [MemPlace.row])).1, (hrows a1.block a1.off (by simp [MemPlace.row])).1, (hrows a2.block a2.off (by simp [MemPlace.row])).1, (hrows a3.block a3.off (by simp [MemPlace.row])).1⟩
  · simpa using World.var?_cell hg0 hv0 0
  · simpa using World.var?_cell hg1 hv1 0
  · simpa using World.var?_cell hg2 hv2 0
  · simpa using World.var?_cell hg3 hv3 0

/-- The sentinels' blocks are as they were. -/
theorem Sent.below {w w' : World} {a0 a1 a2 a3 : Addr} (h : Sent w a0 a1 a2 a3) (hb : Below w.heap.size w w') : Sent w' a0 a1 a2 a3 := by
  have lt : ∀ {k : Nat} {o : Obj}, w.heap[k]? = some o → k < w.heap.size := fun h => (Array.getElem?_eq_some_iff.1 h).1
  have cl : ∀ {g : Nat} {v : Value}, w.cell? ⟨g, 0, none⟩ = some v → g < w.heap.size := fun {g v} h => by
    rcases Nat.lt_or_ge g w.heap.size with h1 | h1
    · exact h1
    · rw [World.cell?, Array.getElem?_eq_none h1] at h; cases h
  refine ⟨(hb.cell (cl h.c0)).trans h.c0, (hb.cell (cl h.c1)).trans h.c1, (hb.cell (cl h.c2)).trans h.c2, (hb.cell (cl h.c3)).trans h.c3, h.n01, h.n02, h.n12, h.n03, h.n13, h.n23, ?_, ?_, ?_, ?_⟩
  · obtain ⟨c, t, e⟩ := h.b0; exact ⟨c, t, by rw [hb.block _ (lt e)]; exact e⟩
  · obtain ⟨c, t, e⟩ := h.b1; exact ⟨c, t, by rw [hb.block _ (lt e)]; exact e⟩
  · obtain ⟨c, t, e⟩ := h.b2; exact ⟨c, t, by rw [hb.block _ (lt e)]; exact e⟩
  · obtain ⟨c, t, e⟩ := h.b3; exact ⟨c, t, by rw [hb.block _ (lt e)]; exact e⟩

/-- The door's own heap meets the condition. -/
theorem door_met (os : Os) (args : Array Value) : laidMetH Tryz.prog laid4 ((World.doorLaid Tryz.prog 400 os).forCall (fun _ _ => 0) ⟨#[], args, []⟩).memory :=
  laidMetH_of_parts3 (fuel := 8) (laidMet_of_run' 8 (by kernel_rfl) (by kernel_rfl)) (by kernel_rfl) (by kernel_rfl)

end Go.Proofs.YtfklinjaajafgaaGreatDoor
