import Derived.Test.YtbdjchmnahjjlaaDoorLsF
namespace Go.Proofs.YtbdjchmnahjjlaaDoor
open Go.RowKit

/-- What some patterns of a row may reach: what was in G, or is from B0 on; not the row itself. -/
def GG (G : Nat → Prop) (B0 : Nat) (w : World) (v : Value) : Nat → Prop := fun k => (G k ∨ B0 ≤ k) ∧ k < w.heap.size ∧ some k ≠ v.ownBlock

abbrev LW (G : Nat → Prop) (B0 : Nat) (w : World) (base : Nat) (v : Value) (qs : List (Ls.Pat × Value)) : Prop := LV w base (GG G B0 w v) v qs

theorem LW.of {G : Nat → Prop} {B0 : Nat} {w : World} {base : Nat} {v : Value} {qs : List (Ls.Pat × Value)} {H : Nat → Prop} (h : LV w base H v qs) (hH : ∀ k, H k → G k ∨ B0 ≤ k) : LW G B0 w base v qs :=
  ⟨h.own, fun q hq => PV.mono (fun k hk => ⟨hH k hk, h.old k hk, h.apart k hk⟩) (fun _ _ => rfl) _ _ (h.each q hq), fun _ hk => hk.2.2, fun _ hk => hk.2.1⟩

theorem LW.nil (G : Nat → Prop) (B0 : Nat) (w : World) (base : Nat) : LW G B0 w base (.slice Option.none 0 0) [] :=
  ⟨World.ownsRow_nil _ _ _ _, by simp, fun _ hk => hk.2.2, fun _ hk => hk.2.1⟩

theorem LW.below {G : Nat → Prop} {B0 : Nat} {w w' : World} {base : Nat} {v : Value} {qs : List (Ls.Pat × Value)} (h : LW G B0 w base v qs) (hb : Below w.heap.size w w') : LW G B0 w' base v qs :=
  LW.of (h.kept hb) fun _ hk => hk.1

/-- A list that grows from v0 (as it was in w2) on. -/
structure Grows (G : Nat → Prop) (B0 : Nat) (w2 : World) (base : Nat) (v0 : Value) (w : World) (v : Value) (qs : List (Ls.Pat × Value)) : Prop where
  lw : LW G B0 w base v qs
  grown : w2.grownBy w v0.ownBlock
  row : v.ownBlock = v0.ownBlock ∨ ∃ k, v.ownBlock = some k ∧ w2.heap.size ≤ k

theorem Grows.start {G : Nat → Prop} {B0 : Nat} {w2 : World} {base : Nat} {v0 : Value} {qs : List (Ls.Pat × Value)} (h : LW G B0 w2 base v0 qs) : Grows G B0 w2 base v0 w2 v0 qs :=
  ⟨h, World.grownBy.refl _ _, .inl rfl⟩

theorem Grows.below {G : Nat → Prop} {B0 : Nat} {w2 : World} {base : Nat} {v0 : Value} {w w' : World} {v : Value} {qs : List (Ls.Pat × Value)} (h : Grows G B0 w2 base v0 w v qs) (hb : Below w.heap.size w w') : Grows G B0 w2 base v0 w' v qs :=
  ⟨h.lw.below hb, grownBy_trans h.grown (grownBy_of_below hb _), h.row⟩

/-- A block of w2 other than the first row is as it was. -/
theorem Grows.block {G : Nat → Prop} {B0 : Nat} {w2 : World} {base : Nat} {v0 : Value} {w : World} {v : Value} {qs : List (Ls.Pat × Value)} (h : Grows G B0 w2 base v0 w v qs) {k : Nat} (hk : k < w2.heap.size) (hne : some k ≠ v0.ownBlock) : w.heap[k]? = w2.heap[k]? ∧ some k ≠ v.ownBlock := by
  refine ⟨h.grown.block k hk hne, ?_⟩
  rcases h.row with e | ⟨m, e, hm⟩
  · rw [e]; exact hne
  · rw [e]; intro e2; injection e2 with e2; omega

/-- A pattern that was shown in w2, away from the first row, may be put into the list. -/
theorem Grows.fits {G : Nat → Prop} {B0 : Nat} {w2 : World} {base : Nat} {v0 : Value} {w : World} {v : Value} {qs : List (Ls.Pat × Value)} (h : Grows G B0 w2 base v0 w v qs) {H : Nat → Prop} (hH : ∀ k, H k → (G k ∨ B0 ≤ k) ∧ k < w2.heap.size ∧ some k ≠ v0.ownBlock)
    {p : Ls.Pat} {y : Value} (hp : PV w2 H p y) : PV w (GG G B0 w v) p y :=
  PV.mono (fun k hk => ⟨(hH k hk).1, Nat.lt_of_lt_of_le (hH k hk).2.1 h.grown.size, (h.block (hH k hk).2.1 (hH k hk).2.2).2⟩) (fun k hk => (h.block (hH k hk).2.1 (hH k hk).2.2).1) _ _ hp

/-- One more put. -/
theorem Grows.put {G : Nat → Prop} {B0 : Nat} {w2 : World} {base : Nat} {v0 : Value} {w : World} {v : Value} {qs : List (Ls.Pat × Value)} (h : Grows G B0 w2 base v0 w v qs) {p : Ls.Pat} {e : Ending} {w' : World} (hp : PutPost w base (GG G B0 w v) v qs p e w') :
    ∃ v' qs', e = .returned v' ∧ qs'.map (·.1) = Ls.put (qs.map (·.1)) p ∧ Grows G B0 w2 base v0 w' v' qs' := by
  obtain ⟨v', qs', he, hm, hl, hg, hr⟩ := hp
  refine ⟨v', qs', he, hm, LW.of hl fun _ hk => hk.1, ?_, ?_⟩
  · refine ⟨hg.os.trans h.grown.os, hg.tape.trans h.grown.tape, hg.output.trans h.grown.output, Nat.le_trans h.grown.size hg.size, fun k hk hne => ?_⟩
    obtain ⟨h1, h2⟩ := h.block hk hne
    exact (hg.block k (Nat.lt_of_lt_of_le hk h.grown.size) h2).trans h1
  · rcases hr with e | ⟨m, e, hm⟩
    · rw [e]; exact h.row
    · exact .inr ⟨m, e, Nat.le_trans h.grown.size hm⟩

/-- The row of another list, made in w1 .. w2 and not the first row, is as it was. -/
theorem Grows.other {G : Nat → Prop} {B0 : Nat} {w2 : World} {base : Nat} {v0 : Value} {w : World} {v : Value} {qs : List (Ls.Pat × Value)} (h : Grows G B0 w2 base v0 w v qs) {base' : Nat} {vm : Value} {n : Nat} {xs : List Value} (hm : w2.ownsRow base' 27 3 vm n xs) (hne : vm.ownBlock = Option.none ∨ vm.ownBlock ≠ v0.ownBlock) : w.ownsRow base' 27 3 vm n xs :=
  hm.kept h.grown hne

end Go.Proofs.YtbdjchmnahjjlaaDoor
