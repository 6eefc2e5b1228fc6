import Derived.Test.YtfklinjaajafgaaGreatDoorDvG
/- Lists of patterns that the reader appends to; what is left to do of a row, and of a choice. -/
namespace Go.Proofs.YtfklinjaajafgaaGreatDoor
open Go.RowKit

/-- Each of some things, as it lies in memory. -/
def Each (w : World) (G : Nat → Prop) : List Ls.D → List Value → Prop
  | [], [] => True
  | a :: l, x :: vs => Rep w G 0 a [x] ∧ Each w G l vs
  | _, _ => False

section
variable {w : World} {G : Nat → Prop}
theorem Each.nil : Each w G [] [] := trivial
theorem Each.cons {a : Ls.D} {x : Value} {l : List Ls.D} {vs : List Value} (h : Rep w G 0 a [x]) (hs : Each w G l vs) : Each w G (a :: l) (x :: vs) := ⟨h, hs⟩
/-- By what some things are. -/
theorem Each.ind {motive : (l : List Ls.D) → (vs : List Value) → Each w G l vs → Prop} (nil : motive [] [] .nil)
    (cons : ∀ {a : Ls.D} {x : Value} {l : List Ls.D} {vs : List Value} (h : Rep w G 0 a [x]) (hs : Each w G l vs), motive l vs hs → motive (a :: l) (x :: vs) (.cons h hs))
    {l : List Ls.D} {vs : List Value} (h : Each w G l vs) : motive l vs h := by
  have key : ∀ (l : List Ls.D) (vs : List Value) (h : Each w G l vs), motive l vs h := by
    intro l
    induction l with
    | nil =>
      intro vs h
      cases vs with
      | nil => exact nil
      | cons => exact h.elim
    | cons a l ih =>
      intro vs h
      cases vs with
      | nil => exact h.elim
      | cons x vs => exact cons h.1 h.2 (ih vs h.2)
  exact key l vs h
end

theorem Each.mono {w w' : World} {G G' : Nat → Prop} (hG : ∀ k, G k → G' k) (hw : ∀ k, G k → w'.heap[k]? = w.heap[k]?) {l : List Ls.D} {vs : List Value} (h : Each w G l vs) : Each w' G' l vs := by
  induction h using Each.ind with
  | nil => exact .nil
  | cons hr _ ih => exact .cons (hr.mono hG hw) ih

theorem Each.snoc {w : World} {G : Nat → Prop} {l : List Ls.D} {vs : List Value} {a : Ls.D} {x : Value} (h : Each w G l vs) (hr : Rep w G 0 a [x]) : Each w G (l ++ [a]) (vs ++ [x]) := by
  induction h using Each.ind with
  | nil => exact .cons hr .nil
  | cons h1 _ ih => exact .cons h1 ih

theorem Each.length {w : World} {G : Nat → Prop} {l : List Ls.D} {vs : List Value} (h : Each w G l vs) : vs.length = l.length := by
  induction h using Each.ind with
  | nil => rfl
  | cons _ _ ih => simp [ih]

/-- The sides of a choice. -/
def chainD : List Ls.D → Ls.D
  | [] => Ls.rnil
  | [a] => Ls.clast a
  | a :: b :: l => Ls.ccons a (chainD (b :: l))

theorem chainD_snoc (l : List Ls.D) (a : Ls.D) : chainD (l ++ [a]) = l.foldr Ls.ccons (Ls.clast a) := by
  induction l with
  | nil => rfl
  | cons b l ih =>
    cases l with
    | nil => rfl
    | cons c l => simp only [List.cons_append, chainD, List.foldr_cons] at ih ⊢; rw [ih]

theorem Each.row {w : World} {G : Nat → Prop} {l : List Ls.D} {vs : List Value} (h : Each w G l vs) : Rep w G 1 (l.foldr Ls.rcons Ls.rnil) vs := by
  induction h using Each.ind with
  | nil => exact .rnil
  | cons hr _ ih => exact .rcons hr ih

theorem Each.chain {w : World} {G : Nat → Prop} {l : List Ls.D} {vs : List Value} (h : Each w G l vs) (hl : l ≠ []) : Rep w G 2 (chainD l) vs := by
  induction h using Each.ind with
  | nil => exact absurd rfl hl
  | cons hr h2 ih =>
    cases h2 using Each.ind with
    | nil => exact .clast hr
    | cons h3 h4 => exact .ccons hr (ih (by simp))

/-- What the elements of a slice of the call's own may reach. -/
def Els (w0 w : World) (v : Value) : Nat → Prop := fun k => w0.heap.size ≤ k ∧ k < w.heap.size ∧ some k ≠ v.ownBlock

/-- A slice of the call's own shows some things. -/
structure Parts (w0 w : World) (v : Value) (l : List Ls.D) (vs : List Value) : Prop where
  own : w.ownsRow w0.heap.size 89 1 v vs.length vs
  each : Each w (Els w0 w v) l vs

theorem Parts.nil (w0 w : World) : Parts w0 w (.slice Option.none 0 0) [] [] := ⟨World.ownsRow_nil _ _ _ _, .nil⟩

theorem Parts.kept {w0 w w' : World} {v : Value} {l : List Ls.D} {vs : List Value} {rb : Nat} (h : Parts w0 w v l vs) (hg : w.grownBy w' (some rb)) (hr : rb < w0.heap.size) : Parts w0 w' v l vs := by
  refine ⟨h.own.kept hg ?_, h.each.mono (fun k hk => ⟨hk.1, Nat.lt_of_lt_of_le hk.2.1 hg.size, hk.2.2⟩) (fun k hk => hg.block k hk.2.1 (by have := hk.1; simp; omega))⟩
  cases hv : v.ownBlock with
  | none => exact .inl rfl
  | some k =>
    have := h.own.lt k hv
    exact .inr (by simp; omega)

theorem Parts.fits {w0 w w' : World} {v : Value} {l : List Ls.D} {vs : List Value} (h : Parts w0 w v l vs) (hw : w0.heap.size ≤ w.heap.size) {a : Ls.D} {x : Value} (hx : Rep w' (New w w') 0 a [x]) : Rep w' (Els w0 w' v) 0 a [x] := by
  refine hx.mono (fun k hk => ⟨Nat.le_trans hw hk.1, hk.2, fun e => ?_⟩) (fun _ _ => rfl)
  have := h.own.lt k e.symm
  have := hk.1
  omega

theorem Parts.push {w0 w w' : World} {v v' : Value} {l : List Ls.D} {vs : List Value} (h : Parts w0 w v l vs) {a : Ls.D} {x : Value} (hx : Rep w (Els w0 w v) 0 a [x]) (hg : w.grownBy w' v.ownBlock)
    (ho : w'.ownsRow w0.heap.size 89 1 v' (vs.length + 1) (vs ++ [x])) (hv : v'.ownBlock = v.ownBlock ∨ ∃ k, v'.ownBlock = some k ∧ w.heap.size ≤ k) : Parts w0 w' v' (l ++ [a]) (vs ++ [x]) := by
  refine ⟨by rw [List.length_append]; exact ho, (h.each.snoc hx).mono (fun k hk => ⟨hk.1, Nat.lt_of_lt_of_le hk.2.1 hg.size, ?_⟩) (fun k hk => hg.block k hk.2.1 hk.2.2)⟩
  rcases hv with e | ⟨m, e, hm⟩
  · rw [e]; exact hk.2.2
  · rw [e]; have := hk.2.1; simp; omega

theorem Parts.alloc {w0 w : World} {v : Value} {l : List Ls.D} {vs : List Value} (h : Parts w0 w v l vs) (o : Obj) : Parts w0 (w.alloc o) v l vs :=
  ⟨h.own.alloc o, h.each.mono (fun k hk => ⟨hk.1, by have := hk.2.1; simp; omega, hk.2.2⟩) (fun k hk => Below.heap_alloc _ _ _ hk.2.1)⟩

theorem RLeft.own {w w1 w2 : World} {rb : Nat} {s : ByteArray} {a z : Nat} (h : RLeft w rb s a z w1) (hr : rb < w.heap.size) {r : Option Nat} (hg : w1.grownBy w2 r) (hk : ∀ k, r = some k → w.heap.size ≤ k) : RLeft w rb s a z w2 := by
  have hl := h.lies
  have hlt := hl.lt
  refine ⟨?_, hg.os.trans h.grown.os, hg.tape.trans h.grown.tape, hg.output.trans h.grown.output, Nat.le_trans h.grown.size hg.size, fun k hk1 hk2 => ?_⟩
  · unfold RB at hl ⊢
    rw [hg.block rb hlt (fun e => by have := hk rb e.symm; omega)]; exact hl
  · rw [hg.block k (Nat.lt_of_lt_of_le hk1 h.grown.size) (fun e => by have := hk k e.symm; omega)]
    exact h.grown.block k hk1 hk2

theorem Parts.shows {w0 w : World} {v : Value} {l : List Ls.D} {vs : List Value} (h : Parts w0 w v l vs) : Shows w (New w0 w) v vs ∧ Each w (New w0 w) l vs := by
  refine ⟨⟨⟨h.own.1, ?_⟩, fun k hk => h.own.lt k hk⟩, h.each.mono (fun k hk => ⟨hk.1, hk.2.1⟩) (fun _ _ => rfl)⟩
  rcases h.own.2 with h2 | ⟨g, cap, cur, hv, hbg, h3⟩
  · exact .inl h2
  · exact .inr ⟨g, cap, cur, hv, Nat.zero_le _, h3⟩

theorem Parts.slice {w0 w : World} {v : Value} {l : List Ls.D} {vs : List Value} (h : Parts w0 w v l vs) : ∃ a n c, v = .slice a n c := by
  rcases h.own.2 with ⟨h2, _⟩ | ⟨g, cap, cur, hv, hbg, h3⟩
  · exact ⟨_, _, _, h2⟩
  · exact ⟨_, _, _, hv⟩

theorem infoPattern : (Tryz.prog.info? 89).map (fun i => (i.zero, i.size, i.bytes)) = some (some .nilIface, 1, 16) := by kernel_rfl

theorem cells_new1 (w : World) (x : Value) (t : TypeId) : ∀ j u, [x][j]? = some u → (w.alloc (.cells #[x] t)).cell? ((⟨w.heap.size, 0, Option.none⟩ : Addr).add j) = some u := by
  intro j u hu
  match j, hu with
  | 0, hu =>
    simp at hu
    subst hu
    have h := heap_alloc_new w (.cells #[x] t)
    show World.cell? _ ⟨w.heap.size, 0, Option.none⟩ = _
    unfold World.cell?
    rw [h]
    rfl

/-- What is left to do of a row. -/
def rowTo (P : List UInt8 → Ls.Rd) (n : Nat) (l : List Ls.D) (r : List UInt8) : Ls.Rd :=
  match Ls.things P n r with
  | .none => .none
  | some (b, t) => some (l.foldr Ls.rcons b, t)

theorem rowTo_nil (P : List UInt8 → Ls.Rd) (n : Nat) (r : List UInt8) : rowTo P n [] r = Ls.things P n r := by
  unfold rowTo
  split
  · rename_i h; rw [h]
  · rename_i h; rw [h]; rfl

theorem rowTo_stop {P : List UInt8 → Ls.Rd} {n : Nat} {l : List Ls.D} {r : List UInt8} (hs : Ls.stops r = true) : rowTo P (n + 1) l r = some (l.foldr Ls.rcons Ls.rnil, r) := by
  unfold rowTo
  rw [Ls.things, if_pos hs]

theorem rowTo_step {P : List UInt8 → Ls.Rd} {n : Nat} {l : List Ls.D} {r t : List UInt8} {a : Ls.D} (hs : Ls.stops r = false) (ht : Ls.thing P r = some (a, t)) : rowTo P (n + 1) l r = rowTo P n (l ++ [a]) t := by
  unfold rowTo
  rw [Ls.things, if_neg (by rw [hs]; simp), ht]
  dsimp only
  cases h : Ls.things P n t with
  | none => rfl
  | some q => obtain ⟨b, u⟩ := q; simp

theorem rowTo_bad {P : List UInt8 → Ls.Rd} {n : Nat} {l : List Ls.D} {r : List UInt8} (hs : Ls.stops r = false) (ho : Ls.oneOf P r = .none) : rowTo P n l r = .none := by
  unfold rowTo
  cases n with
  | zero => rfl
  | succ n =>
    have : Ls.thing P r = .none := by rw [Ls.thing, ho]
    rw [Ls.things, if_neg (by rw [hs]; simp), this]

/-- The three signs at which a row ends. -/
theorem stops_sees {s : ByteArray} {k : Nat} (hk : k < s.size) : ([124, 41, 47] : List UInt8).any (sees s k) = Ls.stops (rest s k) := by
  rw [rest_lt hk]
  simp [sees, hk, Ls.stops, Bool.or_assoc]

theorem stops_end {s : ByteArray} {k : Nat} (hk : s.size ≤ k) : Ls.stops (rest s k) = true := by
  rw [rest_ge hk]; rfl

/-- What is left to do of a choice. -/
def choiceTo (P : List UInt8 → Ls.Rd) (n : Nat) (l : List Ls.D) (t : List UInt8) : Ls.Rd :=
  if t.head? = some 124 then
    match Ls.alts P n t.tail with
    | .none => .none
    | some (b, u) => some (l.foldr Ls.ccons b, u)
  else some (chainD l, t)

theorem alts_row {P : List UInt8 → Ls.Rd} {n : Nat} {r t : List UInt8} {a : Ls.D} (h : Ls.things P (r.length + 1) r = some (a, t)) : Ls.alts P (n + 1) r = choiceTo P n [a] t := by
  unfold choiceTo
  rw [Ls.alts, h]
  dsimp only
  by_cases h124 : t.head? = some 124
  · rw [if_pos h124, if_pos h124]
    cases h3 : Ls.alts P n t.tail with
    | none => rfl
    | some q => obtain ⟨b, u⟩ := q; rfl
  · rw [if_neg h124, if_neg h124]; rfl

theorem alts_bad {P : List UInt8 → Ls.Rd} {n : Nat} {r : List UInt8} (h : Ls.things P (r.length + 1) r = .none) : Ls.alts P n r = .none := by
  cases n with
  | zero => rfl
  | succ n => rw [Ls.alts, h]

theorem choiceTo_step {P : List UInt8 → Ls.Rd} {n : Nat} {l : List Ls.D} {t u : List UInt8} {a : Ls.D} (h124 : t.head? = some 124) (h : Ls.things P (t.tail.length + 1) t.tail = some (a, u)) : choiceTo P (n + 1) l t = choiceTo P n (l ++ [a]) u := by
  have h1 : choiceTo P (n + 1) l t = match Ls.alts P (n + 1) t.tail with | .none => .none | some (b, u) => some (l.foldr Ls.ccons b, u) := by unfold choiceTo; rw [if_pos h124]
  rw [h1, alts_row h]
  unfold choiceTo
  by_cases h2 : u.head? = some 124
  · rw [if_pos h2, if_pos h2]
    cases h3 : Ls.alts P n u.tail with
    | none => rfl
    | some q => obtain ⟨b, v⟩ := q; simp
  · rw [if_neg h2, if_neg h2, chainD_snoc]; rfl

theorem choiceTo_bad {P : List UInt8 → Ls.Rd} {n : Nat} {l : List Ls.D} {t : List UInt8} (h124 : t.head? = some 124) (h : Ls.things P (t.tail.length + 1) t.tail = .none) : choiceTo P n l t = .none := by
  unfold choiceTo
  rw [if_pos h124, alts_bad h]

theorem choiceTo_end {P : List UInt8 → Ls.Rd} {n : Nat} {l : List Ls.D} {t : List UInt8} (h124 : t.head? ≠ some 124) : choiceTo P n l t = some (chainD l, t) := by
  unfold choiceTo
  rw [if_neg h124]

end Go.Proofs.YtfklinjaajafgaaGreatDoor
