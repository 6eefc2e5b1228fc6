import Derived.Test.YtfklinjaajafgaaGreatDoorPlain
import Derived.Test.YtfklinjaajafgaaGreatDoorPrs
import Derived.Test.YtfklinjaajafgaaGreatDoorBase
import Derived.Deep.RegionHeld
import Derived.Deep.DeepCutAuto
import Derived.Maps.OwnSet
import Derived.DeepKeys4
import Derived.Deep.RegionLaw
import Derived.Deep.AppendLies
import Derived.Test.YtfklinjaajafgaaGreatDoorDvS
/- The search through two nets at a time, in plain mathematics. -/
namespace Ls

/-- Places of a net, counted from one; nought: at no place yet. -/
structure Au where
  nx : Nat → Nat → Bool
  tk : Nat → UInt8 → Bool
  en : Nat → Bool

/-- From p the text leads to q. -/
def Wk (A : Au) : Nat → List UInt8 → Nat → Prop
  | p, [], q => p = q
  | p, c :: u, q => ∃ r, A.nx p r = true ∧ A.tk r c = true ∧ Wk A r u q

theorem wk_append (A : Au) (p : Nat) (u v : List UInt8) (q : Nat) : Wk A p (u ++ v) q ↔ ∃ r, Wk A p u r ∧ Wk A r v q := by
  induction u generalizing p with
  | nil => simp [Wk]
  | cons c u ih =>
    simp only [List.cons_append, Wk]
    constructor
    · rintro ⟨r, h1, h2, h3⟩
      obtain ⟨s, h4, h5⟩ := (ih r).1 h3
      exact ⟨s, ⟨r, h1, h2, h4⟩, h5⟩
    · rintro ⟨s, ⟨r, h1, h2, h4⟩, h5⟩
      exact ⟨r, h1, h2, (ih r).2 ⟨s, h4, h5⟩⟩

theorem wk_snoc {A : Au} {p : Nat} {u : List UInt8} {q r : Nat} {c : UInt8} (h : Wk A p u q) (h1 : A.nx q r = true) (h2 : A.tk r c = true) : Wk A p (u ++ [c]) r :=
  (wk_append A p u [c] r).2 ⟨q, h, r, h1, h2, rfl⟩

/-- The texts of it. -/
def Lg (A : Au) (u : List UInt8) : Prop := ∃ q, Wk A 0 u q ∧ A.en q = true

/-- By one sign more. -/
def Stp (A B : Au) (s t : Pr) : Prop := t.1 = s.1 ∧ A.nx s.2.1 t.2.1 = true ∧ B.nx s.2.2 t.2.2 = true ∧ ∃ c, A.tk t.2.1 c = true ∧ B.tk t.2.2 c = true

/-- What the search comes to. -/
def Reach (N : Pr → Pr → Prop) (a s : Pr) : Prop := ∀ P : Pr → Prop, P a → (∀ x y, P x → N x y → P y) → P s

theorem Reach.refl (N : Pr → Pr → Prop) (a : Pr) : Reach N a a := fun _ h _ => h
theorem Reach.step {N : Pr → Pr → Prop} {a s t : Pr} (h : Reach N a s) (h1 : N s t) : Reach N a t := fun P h2 h3 => h3 _ _ (h P h2 h3) h1

/-- Two walks by one text. -/
theorem reach_wk {N : Pr → Pr → Prop} {a : Pr} {A B : Au} {f : Nat} (hN : ∀ s t : Pr, s.1 = f → Stp A B s t → N s t) : ∀ (u : List UInt8) (p q p' q' : Nat), Reach N a (f, p, q) → Wk A p u p' → Wk B q u q' → Reach N a (f, p', q')
  | [], p, q, p', q', h, h1, h2 => by
    simp only [Wk] at h1 h2
    subst h1 h2
    exact h
  | c :: u, p, q, p', q', h, h1, h2 => by
    obtain ⟨r, h3, h4, h5⟩ := h1
    obtain ⟨s, h6, h7, h8⟩ := h2
    exact reach_wk hN u r s p' q' (h.step (hN _ (f, r, s) rfl ⟨rfl, h3, h6, c, h4, h7⟩)) h5 h8

def badA (A B : Au) (s : Pr) : Prop := A.en s.2.1 = true ∧ B.en s.2.2 = true

theorem apart_reach (A B : Au) : (∃ s, Reach (Stp A B) (0, 0, 0) s ∧ badA A B s) ↔ ∃ u, Lg A u ∧ Lg B u := by
  constructor
  · rintro ⟨s, h, h1, h2⟩
    have := h (fun s => ∃ u, Wk A 0 u s.2.1 ∧ Wk B 0 u s.2.2) ⟨[], rfl, rfl⟩ (by
      rintro x y ⟨u, h3, h4⟩ ⟨_, h5, h6, c, h7, h8⟩
      exact ⟨u ++ [c], wk_snoc h3 h5 h7, wk_snoc h4 h6 h8⟩)
    obtain ⟨u, h3, h4⟩ := this
    exact ⟨u, ⟨_, h3, h1⟩, ⟨_, h4, h2⟩⟩
  · rintro ⟨u, ⟨p, h1, h2⟩, ⟨q, h3, h4⟩⟩
    exact ⟨(0, p, q), reach_wk (f := 0) (fun _ _ _ h => h) u 0 0 p q (Reach.refl _ _) h1 h3, h2, h4⟩

/-- Two ways to cut: where they lead. -/
def NxO (A B : Au) (s t : Pr) : Prop :=
  (s.1 = 0 ∧ (Stp A A s t ∨ (A.en s.2.1 = true ∧ Stp B A (1, 0, s.2.2) t))) ∨
  (s.1 = 1 ∧ (Stp B A s t ∨ (A.en s.2.2 = true ∧ t = (2, s.2.1, 0)))) ∨
  (s.1 = 2 ∧ Stp B B s t)

def badO (B : Au) (s : Pr) : Prop := s.1 = 2 ∧ B.en s.2.1 = true ∧ B.en s.2.2 = true

/-- What a state of two ways tells. -/
def Way (A B : Au) (s : Pr) : Prop :=
  (s.1 = 0 ∧ ∃ u, Wk A 0 u s.2.1 ∧ Wk A 0 u s.2.2) ∨
  (s.1 = 1 ∧ ∃ u w, w ≠ [] ∧ Lg A u ∧ Wk B 0 w s.2.1 ∧ Wk A 0 (u ++ w) s.2.2) ∨
  (s.1 = 2 ∧ ∃ u w v, w ≠ [] ∧ Lg A u ∧ Lg A (u ++ w) ∧ Wk B 0 (w ++ v) s.2.1 ∧ Wk B 0 v s.2.2)

theorem way_step {A B : Au} {s t : Pr} (h : Way A B s) (h1 : NxO A B s t) : Way A B t := by
  rcases h1 with ⟨e, h1⟩ | ⟨e, h1⟩ | ⟨e, h1⟩
  · rcases h with ⟨_, u, h2, h3⟩ | ⟨e2, _⟩ | ⟨e2, _⟩
    · rcases h1 with ⟨e1, h5, h6, c, h7, h8⟩ | ⟨h4, e1, h5, h6, c, h7, h8⟩
      · exact .inl ⟨by omega, u ++ [c], wk_snoc h2 h5 h7, wk_snoc h3 h6 h8⟩
      · exact .inr (.inl ⟨e1, u, [c], by simp, ⟨_, h2, h4⟩, ⟨_, h5, h7, rfl⟩, wk_snoc h3 h6 h8⟩)
    · omega
    · omega
  · rcases h with ⟨e2, _⟩ | ⟨_, u, w, hw, h2, h3, h4⟩ | ⟨e2, _⟩
    · omega
    · rcases h1 with ⟨e1, h5, h6, c, h7, h8⟩ | ⟨h5, rfl⟩
      · exact .inr (.inl ⟨by omega, u, w ++ [c], by simp, h2, wk_snoc h3 h5 h7, by rw [← List.append_assoc]; exact wk_snoc h4 h6 h8⟩)
      · exact .inr (.inr ⟨rfl, u, w, [], hw, h2, ⟨_, h4, h5⟩, by simpa using h3, rfl⟩)
    · omega
  · rcases h with ⟨e2, _⟩ | ⟨e2, _⟩ | ⟨_, u, w, v, hw, h2, h3, h4, h5⟩
    · omega
    · omega
    · obtain ⟨e1, h6, h7, c, h8, h9⟩ := h1
      exact .inr (.inr ⟨by omega, u, w, v ++ [c], hw, h2, h3, by rw [← List.append_assoc]; exact wk_snoc h4 h6 h8, wk_snoc h5 h7 h9⟩)

theorem once_reach (A B : Au) : (∃ s, Reach (NxO A B) (0, 0, 0) s ∧ badO B s) ↔ ∃ u w v, w ≠ [] ∧ Lg A u ∧ Lg A (u ++ w) ∧ Lg B (w ++ v) ∧ Lg B v := by
  constructor
  · rintro ⟨s, h, e, h1, h2⟩
    rcases h (Way A B) (.inl ⟨rfl, [], rfl, rfl⟩) (fun x y h3 h4 => way_step h3 h4) with ⟨e2, _⟩ | ⟨e2, _⟩ | ⟨_, u, w, v, hw, h3, h4, h5, h6⟩
    · omega
    · omega
    · exact ⟨u, w, v, hw, h3, h4, ⟨_, h5, h1⟩, ⟨_, h6, h2⟩⟩
  · rintro ⟨u, w, v, hw, ⟨p, h1, h2⟩, ⟨q, h3, h4⟩, ⟨p', h5, h6⟩, ⟨q', h7, h8⟩⟩
    obtain ⟨c, w, rfl⟩ : ∃ c w', w = c :: w' := by
      cases w with
      | nil => exact absurd rfl hw
      | cons c w => exact ⟨c, w, rfl⟩
    obtain ⟨m, h9, h10⟩ := (wk_append A 0 u (c :: w) q).1 h3
    obtain ⟨r, h11, h12, h13⟩ := h10
    obtain ⟨k, h14, h15⟩ := (wk_append B 0 (c :: w) v p').1 h5
    obtain ⟨l, h16, h17, h18⟩ := h14
    have r0 := reach_wk (N := NxO A B) (a := (0, 0, 0)) (A := A) (B := A) (f := 0) (fun s t e h => .inl ⟨e, .inl h⟩) u 0 0 p m (Reach.refl _ _) h1 h9
    have r1 : Reach (NxO A B) (0, 0, 0) (1, l, r) := r0.step (.inl ⟨rfl, .inr ⟨h2, rfl, h16, h11, c, h17, h12⟩⟩)
    have r2 := reach_wk (N := NxO A B) (a := (0, 0, 0)) (A := B) (B := A) (f := 1) (fun s t e h => .inr (.inl ⟨e, .inl h⟩)) w l r k q r1 h18 h13
    have r3 : Reach (NxO A B) (0, 0, 0) (2, k, 0) := r2.step (.inr (.inl ⟨rfl, .inr ⟨h4, rfl⟩⟩))
    have r4 := reach_wk (N := NxO A B) (a := (0, 0, 0)) (A := B) (B := B) (f := 2) (fun s t e h => .inr (.inr ⟨e, h⟩)) v k 0 p' q' r3 h15 h7
    exact ⟨_, r4, rfl, h6, h8⟩

/-- How the search stands: all that was met, and what of it is still open. -/
structure Sch (N : Pr → Pr → Prop) (bad : Pr → Prop) (a : Pr) (M O : List Pr) : Prop where
  first : a ∈ M
  sub : ∀ x, x ∈ O → x ∈ M
  came : ∀ x, x ∈ M → Reach N a x
  done : ∀ x, x ∈ M → x ∉ O → ¬ bad x ∧ ∀ y, N x y → y ∈ M

theorem Sch.start (N : Pr → Pr → Prop) (bad : Pr → Prop) (a : Pr) : Sch N bad a [a] [a] :=
  ⟨by simp, fun _ h => h, fun x h => by simp at h; subst h; exact Reach.refl _ _, fun x h1 h2 => absurd h1 h2⟩

theorem Sch.none {N : Pr → Pr → Prop} {bad : Pr → Prop} {a : Pr} {M : List Pr} (h : Sch N bad a M []) : ¬ ∃ s, Reach N a s ∧ bad s := by
  rintro ⟨s, h1, h2⟩
  have := h1 (fun s => s ∈ M) h.first (fun x y h3 h4 => (h.done x h3 (by simp)).2 y h4)
  exact (h.done s this (by simp)).1 h2

/-- One state has been gone on from. -/
theorem Sch.next {N : Pr → Pr → Prop} {bad : Pr → Prop} {a x : Pr} {M O T : List Pr} (h : Sch N bad a M (O ++ [x])) (hb : ¬ bad x) (hT : ∀ y, y ∈ T → N x y) (hall : ∀ y, N x y → y ∈ M ++ T) : Sch N bad a (M ++ T) (O ++ T) := by
  refine ⟨by simp [h.first], ?_, ?_, ?_⟩
  · intro y hy
    rcases List.mem_append.1 hy with h1 | h1
    · exact List.mem_append_left _ (h.sub y (by simp [h1]))
    · exact List.mem_append_right _ h1
  · intro y hy
    rcases List.mem_append.1 hy with h1 | h1
    · exact h.came y h1
    · exact (h.came x (h.sub x (by simp))).step (hT y h1)
  · intro y hy hn
    simp only [List.mem_append, not_or] at hn
    by_cases e : y = x
    · subst e; exact ⟨hb, hall⟩
    · have h1 : y ∈ M := by
        rcases List.mem_append.1 hy with h1 | h1
        · exact h1
        · exact absurd h1 hn.2
      obtain ⟨h2, h3⟩ := h.done y h1 (by simp [hn.1, e])
      exact ⟨h2, fun z hz => List.mem_append_left _ (h3 z hz)⟩

/-- The places of a net. -/
def au (n : Net) (x : Span) : Au where
  nx p q := match p, q with
    | _, 0 => false
    | 0, q + 1 => x.first.testBit q
    | p + 1, q + 1 => (n.behind.getD p 0).testBit q
  tk q c := match q with
    | 0 => false
    | q + 1 => has (n.places.getD q []) c
  en p := match p with
    | 0 => x.empty
    | p + 1 => x.last.testBit p

theorem au_nx_zero (n : Net) (x : Span) (p : Nat) : (au n x).nx p 0 = false := by cases p <;> rfl

theorem acc_wk (n : Net) (x : Span) : ∀ (u : List UInt8) (p : Nat), Acc (rules n) (lb x) u p ↔ ∃ q, Wk (au n x) (p + 1) u q ∧ (au n x).en q = true
  | [], p => by
    constructor
    · intro h; exact ⟨p + 1, rfl, h⟩
    · rintro ⟨q, h1, h2⟩
      simp only [Wk] at h1
      subst h1
      exact h2
  | c :: u, p => by
    constructor
    · rintro ⟨q, h1, h2, h3⟩
      obtain ⟨r, h4, h5⟩ := (acc_wk n x u q).1 h3
      exact ⟨r, ⟨q + 1, h1, h2, h4⟩, h5⟩
    · rintro ⟨r, ⟨q, h1, h2, h4⟩, h5⟩
      cases q with
      | zero => rw [au_nx_zero] at h1; cases h1
      | succ q => exact ⟨q, h1, h2, (acc_wk n x u q).2 ⟨r, h4, h5⟩⟩

/-- Who takes a sign is a place. -/
theorem au_lt {n : Net} {x : Span} {q : Nat} {c : UInt8} (h : (au n x).tk q c = true) : ∃ i, q = i + 1 ∧ i < n.places.length := by
  cases q with
  | zero => cases h
  | succ i =>
    refine ⟨i, rfl, ?_⟩
    rcases Nat.lt_or_ge i n.places.length with h1 | h1
    · exact h1
    · have h2 : has (n.places.getD i []) c = true := h
      rw [List.getD_eq_getElem?_getD, List.getElem?_eq_none h1] at h2
      simp [has] at h2

end Ls

/- The search in memory: a map of the states that were met, a row of those still open. -/
namespace Go.Proofs.YtfklinjaajafgaaGreatDoor
open Go.RowKit Go.Maps

theorem laidOutP : laidOutB Tryz.prog = true := by kernel_rfl
theorem wideState : (match Tryz.prog.underlying 112 with | some (.array _ _) | some (.struct _) => true | _ => false) = true := by rw [Tryz.underlying112]
theorem rowState : (112 : TypeId) < Tryz.prog.types.size := of_decide_eq_true (by kernel_rfl)
set_option maxRecDepth 100000 in
theorem lawState : Keyed Tryz.prog 112 := Keyed.of_law (deep_law_laid laidOutP (m := 2) (Nat.le_of_ble_eq_true rfl) rowState (by kernel_rfl) wideState)
theorem zeroU (w : World) : (zeroValue 159).run Tryz.prog w = .ok (.agg #[]) w := by kernel_rfl
theorem key_ty : Tryz.prog.keyType 112 = true := by kernel_rfl
theorem key_cells : Tryz.prog.cellsOf 112 = 3 := by kernel_rfl
theorem key_cells1 : Tryz.prog.cellsOf 3 = 1 := by kernel_rfl
theorem key_mk (a b c : Int) (ha : (Lit.int .i64 a).wf = true) (hb : (Lit.int .i64 b).wf = true) (hc : (Lit.int .i64 c).wf = true) : ∃ l, keyOf Tryz.prog 112 (.agg #[.int .i64 a, .int .i64 b, .int .i64 c]) = some l := by
  obtain ⟨d, hd⟩ : ∃ d, Tryz.prog.types.size + 1 = d + 1 + 1 := ⟨_, rfl⟩
  unfold keyOf
  rw [hd, Tryz.underlying112]
  clear hd
  simp only [key_ty, Program.keyLits, Tryz.underlying112]
  simp [Value.formed, Tryz.underlying112, key_cells, key_cells1, Value.cells, ha, hb, hc]

/-- A state's cells; a place's number is one less than it is counted in plain mathematics. -/
abbrev stC (s : Ls.Pr) : List Value := [.int .i64 (s.1 : Nat), .int .i64 ((s.2.1 : Int) - 1), .int .i64 ((s.2.2 : Int) - 1)]
abbrev stV (s : Ls.Pr) : Value := .agg #[.int .i64 (s.1 : Nat), .int .i64 ((s.2.1 : Int) - 1), .int .i64 ((s.2.2 : Int) - 1)]

theorem flat3 (O : List Ls.Pr) : (O.flatMap stC).length = O.length * 3 := by
  induction O with
  | nil => rfl
  | cons x O ih => rw [List.flatMap_cons, List.length_append, ih]; simp; omega

/-- The states that there are. -/
def Rg (s : Ls.Pr) : Prop := (s.1 = 0 ∨ s.1 = 1 ∨ s.1 = 2) ∧ s.2.1 < 33 ∧ s.2.2 < 33

theorem key_st {s : Ls.Pr} (h : Rg s) : ∃ l, keyOf Tryz.prog 112 (stV s) = some l := by
  obtain ⟨h1, h2, h3⟩ := h
  exact key_mk _ _ _ (WalkArith.wf_i64 (by omega)) (WalkArith.wf_i64 (by omega)) (WalkArith.wf_i64 (by omega))

theorem stV_inj {s t : Ls.Pr} (h : stV s = stV t) : s = t := by
  obtain ⟨a, b, c⟩ := s
  obtain ⟨x, y, z⟩ := t
  simp only [stV, Value.agg.injEq, Array.mk.injEq, List.cons.injEq, Value.int.injEq, true_and, and_true] at h
  obtain ⟨h1, h2, h3⟩ := h
  simp only [Prod.mk.injEq]
  omega

/-- The map tells what was met. -/
def MapOf (D : DataW Unit) (M : List Ls.Pr) : Prop := ∀ s l, Rg s → keyOf Tryz.prog 112 (stV s) = some l → (Maps.has D l = true ↔ s ∈ M)

theorem MapOf.put {D : DataW Unit} {M : List Ls.Pr} (h : MapOf D M) (hD : IsMap D) {s : Ls.Pr} {l : Lit} (hl : keyOf Tryz.prog 112 (stV s) = some l) (d : DataW Unit) : MapOf (D.put l d) (M ++ [s]) := by
  intro t k ht hk
  by_cases e : t = s
  · subst e
    obtain rfl : l = k := Option.some.inj (hl.symm.trans hk)
    simp [has_put_same hD (lawState.key hl) d]
  · have hne : k ≠ l := fun e2 => e (stV_inj (lawState.inj hk (e2 ▸ hl)))
    rw [has_put_other hne, h t k ht hk]
    simp [e]

structure Srch (w : World) (B sb mb : Nat) (V : Value) (M O : List Ls.Pr) : Prop where
  lies : w.heap[sb]? = some (.cells #[.map (some mb), V] 116 (0, 0))
  map : ∃ D : DataW Unit, w.ownsMap Tryz.prog 112 unitElem mb M.length D ∧ MapOf D M
  row : w.ownsRow B 112 3 V O.length (O.flatMap stC)
  bs : B ≤ sb
  bm : B ≤ mb
  apM : sb ≠ mb
  apV : V.ownBlock ≠ some sb
  apVM : V.ownBlock ≠ some mb
  nodup : M.Nodup
  rg : ∀ s, s ∈ M → Rg s
  sub : ∀ s, s ∈ O → s ∈ M
  le : O.length ≤ M.length

theorem rowB_same {w w' : World} {B : Nat} {e : TypeId} {sz : Nat} {v : Value} {m : Nat} {xs : List Value} (ho : w.ownsRow B e sz v m xs) (hk : ∀ k, v.ownBlock = some k → w'.heap[k]? = w.heap[k]?) : w'.ownsRow B e sz v m xs := by
  refine ⟨ho.1, ?_⟩
  rcases ho.2 with h4 | ⟨g, cap, cur, rfl, hbg, hg, h5⟩
  · exact .inl h4
  · exact .inr ⟨g, cap, cur, rfl, hbg, by rw [hk g rfl]; exact hg, h5⟩

theorem ownsMap_same {H : Type} {w w' : World} {P : Program} {k : TypeId} {R : Value → Option (DataW H × List MemPlace)} {b n : Nat} {D : DataW H} (h : w.ownsMap P k R b n D) (hb : w'.heap[b]? = w.heap[b]?) : w'.ownsMap P k R b n D := by
  obtain ⟨es, clock, h1, h2⟩ := h
  exact ⟨es, clock, hb.trans h1, h2⟩

theorem Srch.lt {w : World} {B sb mb : Nat} {V : Value} {M O : List Ls.Pr} (h : Srch w B sb mb V M O) : sb < w.heap.size := (Array.getElem?_eq_some_iff.1 h.lies).1
theorem Srch.ltm {w : World} {B sb mb : Nat} {V : Value} {M O : List Ls.Pr} (h : Srch w B sb mb V M O) : mb < w.heap.size := by
  obtain ⟨D, h1, _⟩ := h.map
  exact h1.lt

/-- What lies elsewhere may change. -/
theorem Srch.same {w w' : World} {B sb mb : Nat} {V : Value} {M O : List Ls.Pr} (h : Srch w B sb mb V M O) (h1 : w'.heap[sb]? = w.heap[sb]?) (h2 : w'.heap[mb]? = w.heap[mb]?) (h3 : ∀ k, V.ownBlock = some k → w'.heap[k]? = w.heap[k]?) : Srch w' B sb mb V M O := by
  obtain ⟨D, hD, hM⟩ := h.map
  exact ⟨h1.trans h.lies, ⟨D, ownsMap_same hD h2, hM⟩, rowB_same h.row h3, h.bs, h.bm, h.apM, h.apV, h.apVM, h.nodup, h.rg, h.sub, h.le⟩

theorem Srch.below {w w' : World} {B sb mb : Nat} {V : Value} {M O : List Ls.Pr} (h : Srch w B sb mb V M O) (hb : Below w.heap.size w w') : Srch w' B sb mb V M O :=
  h.same (hb.block _ h.lt) (hb.block _ h.ltm) (fun k hk => hb.block k (h.row.lt k hk).2)

theorem Srch.few {w : World} {B sb mb : Nat} {V : Value} {M O : List Ls.Pr} (h : Srch w B sb mb V M O) : M.length ≤ 3267 := by
  have := states_length (N := 33) h.nodup h.rg
  omega

theorem Srch.shape {w : World} {B sb mb : Nat} {V : Value} {M O : List Ls.Pr} (h : Srch w B sb mb V M O) : ∃ a cap, V = .slice a O.length cap := by
  rcases ownsRow_cut h.row with ⟨h1, h2⟩ | ⟨g, cap, h1⟩
  · exact ⟨_, _, by rw [h1, h2]⟩
  · exact ⟨_, _, h1⟩

/-- One state more was met. -/
theorem Srch.met {w w1 w2 : World} {B sb mb : Nat} {V V' : Value} {M O : List Ls.Pr} (h : Srch w B sb mb V M O) {s : Ls.Pr} (hs : Rg s) (hn : s ∉ M) {l : Lit} (hl : keyOf Tryz.prog 112 (stV s) = some l) {D : DataW Unit} {d : DataW Unit}
    (hI : IsMap D) (hM : MapOf D M) (h1 : w1.ownsMap Tryz.prog 112 unitElem mb (M.length + 1) (D.put l d)) (hg1 : w.grownBy w1 (some mb)) (o : Obj)
    (h2 : w2.ownsRow B 112 3 V' (O.length + 1) (O.flatMap stC ++ stC s)) (hg2 : (w1.alloc o).grownBy w2 V.ownBlock) (hV : V'.ownBlock = V.ownBlock ∨ ∃ k, V'.ownBlock = some k ∧ w1.heap.size + 1 ≤ k) :
    Srch (w2.setCell ⟨sb, 1, none⟩ V') B sb mb V' (M ++ [s]) (O ++ [s]) := by
  have hls := h.lt
  have hlm := h.ltm
  have z1 := hg1.size
  have z2 := hg2.size
  simp at z2
  have hset := grownBy_set w2 sb 1 V'
  have a1 : V'.ownBlock ≠ some sb := by
    rcases hV with e | ⟨k, e, hk⟩
    · rw [e]; exact h.apV
    · rw [e]; simp; omega
  have a2 : V'.ownBlock ≠ some mb := by
    rcases hV with e | ⟨k, e, hk⟩
    · rw [e]; exact h.apVM
    · rw [e]; simp; omega
  refine ⟨?_, ⟨D.put l d, ?_, hM.put hI hl d⟩, ?_, h.bs, h.bm, h.apM, a1, a2, ?_, ?_, ?_, ?_⟩
  · have e1 := hg1.block sb hls (by simp [h.apM])
    have e2 := hg2.block sb (by simp; omega) (Ne.symm h.apV)
    rw [Below.heap_alloc _ _ _ (by omega), e1, h.lies] at e2
    simp [World.setCell, Array.getElem?_modify, e2]
  · have e3 : w2.ownsMap Tryz.prog 112 unitElem mb (M.length + 1) (D.put l d) := (h1.alloc o).kept hg2 (Ne.symm h.apVM)
    have := e3.kept hset (by simp [Ne.symm h.apM])
    simpa using this
  · have := h2.kept hset (.inr a1)
    simpa using this
  · rw [List.nodup_append]
    exact ⟨h.nodup, by simp, fun a ha b hb => by simp at hb; subst hb; rintro rfl; exact hn ha⟩
  · intro t ht
    rcases List.mem_append.1 ht with h3 | h3
    · exact h.rg t h3
    · simp at h3; subst h3; exact hs
  · intro t ht
    rcases List.mem_append.1 ht with h3 | h3
    · exact List.mem_append_left _ (h.sub t h3)
    · exact List.mem_append_right _ h3
  · have := h.le
    simp; exact this

/-- One of the open ones is taken away. -/
theorem Srch.pop {w : World} {B sb mb : Nat} {V : Value} {M O : List Ls.Pr} {x : Ls.Pr} (h : Srch w B sb mb V M (O ++ [x])) : ∃ g cap, V = .slice (some ⟨g, 0, none⟩) (O.length + 1) cap ∧ O.length + 1 ≤ cap ∧ (∀ j, j < 3 → w.cell? ⟨g, O.length * 3 + j, none⟩ = (stC x)[j]?) ∧ g ≠ sb ∧ g < w.heap.size ∧
    Srch (w.setCell ⟨sb, 1, none⟩ (.slice (some ⟨g, 0, none⟩) O.length cap)) B sb mb (.slice (some ⟨g, 0, none⟩) O.length cap) M O := by
  have hrow := h.row
  obtain ⟨hlen, hrest⟩ := h.row
  rcases hrest with ⟨_, h2⟩ | ⟨g, cap, cur, rfl, hbg, hg, hc1, hc2, hc3, hc4⟩
  · simp at h2
  · have hap : g ≠ sb := fun e => h.apV (by rw [← e]; rfl)
    have hgl := (Array.getElem?_eq_some_iff.1 hg).1
    simp only [List.length_append, List.length_singleton] at hc1 hc4 hrow hlen ⊢
    refine ⟨g, cap, rfl, hc1, ?_, hap, hgl, ?_⟩
    · intro j hj
      rw [hrow.cellAt _ (by omega), List.flatMap_append, List.getElem?_append_right (by rw [flat3]; omega), flat3, Nat.add_sub_cancel_left, List.flatMap_singleton]
    · have hset := grownBy_set w sb 1 (.slice (some ⟨g, 0, none⟩) O.length cap)
      obtain ⟨D, hD, hM⟩ := h.map
      refine ⟨?_, ⟨D, hD.kept hset (by simp [Ne.symm h.apM]), hM⟩, ?_, h.bs, h.bm, h.apM, ?_, ?_, h.nodup, h.rg, fun s hs => h.sub s (by simp [hs]), ?_⟩
      · have := h.lies
        simp [World.setCell, Array.getElem?_modify, this]
      · refine World.ownsRow.kept (w := w) ⟨flat3 O, .inr ⟨g, cap, cur, rfl, hbg, hg, by omega, hc2, hc3, ?_⟩⟩ hset (.inr (by show some g ≠ some sb; simp [hap]))
        have e1 := congrArg (List.take (O.length * 3)) hc4
        rw [List.take_take, Nat.min_eq_left (by omega), List.flatMap_append, List.take_append_of_le_length (by rw [flat3]; omega)] at e1
        rw [e1, List.take_of_length_le (by rw [flat3]; omega)]
      · show some g ≠ some sb; simp [hap]
      · exact h.apVM
      · have := h.le; simp at this; omega

/-- A block that is none of the search's. -/
def FreeS (w : World) (sb mb : Nat) (V : Value) (k : Nat) : Prop := k < w.heap.size ∧ k ≠ sb ∧ k ≠ mb ∧ some k ≠ V.ownBlock

/-- From w to w' nothing but the search has changed; its row is where it was, or new. -/
structure SStep (w : World) (sb mb : Nat) (V : Value) (w' : World) (V' : Value) : Prop where
  os : w'.os = w.os
  tape : w'.tape = w.tape
  output : w'.output = w.output
  size : w.heap.size ≤ w'.heap.size
  block : ∀ k, FreeS w sb mb V k → w'.heap[k]? = w.heap[k]?
  row : V'.ownBlock = V.ownBlock ∨ ∃ k, V'.ownBlock = some k ∧ w.heap.size ≤ k

theorem SStep.free {w w' : World} {sb mb : Nat} {V V' : Value} (h : SStep w sb mb V w' V') {k : Nat} (hk : FreeS w sb mb V k) : FreeS w' sb mb V' k := by
  refine ⟨Nat.lt_of_lt_of_le hk.1 h.size, hk.2.1, hk.2.2.1, ?_⟩
  rcases h.row with e | ⟨m, e, hm⟩
  · rw [e]; exact hk.2.2.2
  · rw [e]; have := hk.1; simp; omega

theorem SStep.trans {w w1 w2 : World} {sb mb : Nat} {V V1 V2 : Value} (h : SStep w sb mb V w1 V1) (k : SStep w1 sb mb V1 w2 V2) : SStep w sb mb V w2 V2 := by
  refine ⟨k.os.trans h.os, k.tape.trans h.tape, k.output.trans h.output, Nat.le_trans h.size k.size, fun i hi => (k.block i (h.free hi)).trans (h.block i hi), ?_⟩
  rcases k.row with e | ⟨m, e, hm⟩
  · rw [e]; exact h.row
  · exact .inr ⟨m, e, Nat.le_trans h.size hm⟩

theorem SStep.of_below {w w' : World} (sb mb : Nat) (V : Value) (h : Below w.heap.size w w') : SStep w sb mb V w' V :=
  ⟨h.os, h.tape, h.output, h.size, fun k hk => h.block k hk.1, .inl rfl⟩

theorem SStep.below {w w' : World} {B sb mb : Nat} {V V' : Value} {M O : List Ls.Pr} (h : SStep w sb mb V w' V') (hS : Srch w B sb mb V M O) (hB : B ≤ w.heap.size) : Below B w w' := by
  refine ⟨h.os, h.tape, h.output, h.size, fun k hk => h.block k ⟨by omega, ?_, ?_, ?_⟩⟩
  · have := hS.bs; omega
  · have := hS.bm; omega
  · intro e
    have := (hS.row.lt k e.symm).1
    omega

theorem Srch.free {w : World} {B sb mb : Nat} {V : Value} {M O : List Ls.Pr} (h : Srch w B sb mb V M O) (o : Obj) : FreeS (w.alloc o) sb mb V w.heap.size := by
  refine ⟨by simp, ?_, ?_, ?_⟩
  · have := h.lt; omega
  · have := h.ltm; omega
  · intro e
    have := (h.row.lt _ e.symm).2
    omega

end Go.Proofs.YtfklinjaajafgaaGreatDoor

/- meets, next and ends of a net. -/
namespace Go.Proofs.YtfklinjaajafgaaGreatDoor
open Go.RowKit

theorem meet64 (lo hi lo' hi' : Nat) (h1 : lo < 18446744073709551616) (h2 : hi < 18446744073709551616) (h3 : lo' < 18446744073709551616) (h4 : hi' < 18446744073709551616) :
    (bits .or .u64 (bits .and .u64 (lo : Int) (lo' : Int)) (bits .and .u64 (hi : Int) (hi' : Int)) != 0) = true ↔ ∃ k, k < 128 ∧ sbit lo hi k = true ∧ sbit lo' hi' k = true := by
  have a1 : lo &&& lo' < 18446744073709551616 := Nat.lt_of_le_of_lt Nat.and_le_left h1
  have a2 : hi &&& hi' < 18446744073709551616 := Nat.lt_of_le_of_lt Nat.and_le_left h2
  rw [u64_and_nat lo lo' h1 h3, u64_and_nat hi hi' h2 h4, u64_or_nat _ _ a1 a2]
  have small : ∀ y : Nat, y < 18446744073709551616 → ∀ k, y.testBit k = true → k < 64 := fun y hy k hk => by
    rcases Nat.lt_or_ge k 64 with h | h
    · exact h
    · have h5 : y < 2 ^ k := Nat.lt_of_lt_of_le hy (Nat.pow_le_pow_right (n := 2) (by omega) h)
      rw [Nat.testBit_lt_two_pow h5] at hk
      cases hk
  constructor
  · intro h
    have h1 : (lo &&& lo') ||| (hi &&& hi') ≠ 0 := by intro e; rw [e] at h; simp at h
    obtain ⟨q, hq⟩ := Nat.exists_testBit_of_ne_zero h1
    simp only [Nat.testBit_or, Nat.testBit_and, Bool.or_eq_true, Bool.and_eq_true] at hq
    rcases hq with ⟨h5, h6⟩ | ⟨h5, h6⟩
    · have h7 := small lo (by omega) q h5
      exact ⟨q, by omega, by unfold sbit; rw [if_pos h7]; exact h5, by unfold sbit; rw [if_pos h7]; exact h6⟩
    · have h7 := small hi (by omega) q h5
      exact ⟨q + 64, by omega, by unfold sbit; rw [if_neg (by omega), Nat.add_sub_cancel]; exact h5, by unfold sbit; rw [if_neg (by omega), Nat.add_sub_cancel]; exact h6⟩
  · rintro ⟨k, hk, h5, h6⟩
    rw [bne_iff_ne]
    intro e
    have e2 : (lo &&& lo') ||| (hi &&& hi') = 0 := by omega
    unfold sbit at h5 h6
    by_cases h7 : k < 64
    · rw [if_pos h7] at h5 h6
      have : ((lo &&& lo') ||| (hi &&& hi')).testBit k = true := by simp [Nat.testBit_or, Nat.testBit_and, h5, h6]
      rw [e2] at this; simp at this
    · rw [if_neg h7] at h5 h6
      have : ((lo &&& lo') ||| (hi &&& hi')).testBit (k - 64) = true := by simp [Nat.testBit_or, Nat.testBit_and, h5, h6]
      rw [e2] at this; simp at this

theorem meets_iff {g g' : List UInt8} {lo hi lo' hi' : Nat} (h : SB g lo hi) (h' : SB g' lo' hi') : (∃ k, k < 128 ∧ sbit lo hi k = true ∧ sbit lo' hi' k = true) ↔ ∃ c, Ls.has g c = true ∧ Ls.has g' c = true := by
  constructor
  · rintro ⟨k, hk, h1, h2⟩
    have e : (UInt8.ofNat k).toNat = k := by rw [UInt8.toNat_ofNat']; omega
    refine ⟨UInt8.ofNat k, ?_, ?_⟩
    · rw [← h.bit _ (by rw [e]; exact hk), e]; exact h1
    · rw [← h'.bit _ (by rw [e]; exact hk), e]; exact h2
  · rintro ⟨c, h1, h2⟩
    have hc : c.toNat < 128 := by
      rcases Nat.lt_or_ge c.toNat 128 with h3 | h3
      · exact h3
      · rw [h.none c h3] at h1; cases h1
    exact ⟨c.toNat, hc, by rw [h.bit c hc]; exact h1, by rw [h'.bit c hc]; exact h2⟩

set_option maxRecDepth 100000 in
set_option maxHeartbeats 1000000 in
theorem meets_any {g g' : List UInt8} {lo hi lo' hi' : Nat} (h : SB g lo hi) (h' : SB g' lo' hi') (w : World) :
    Calls Tryz.prog 98 #[.agg #[.int .u64 lo, .int .u64 hi], .agg #[.int .u64 lo', .int .u64 hi']] w fun e w' => ∃ b : Bool, e = .returned (.bool b) ∧ (b = true ↔ ∃ c, Ls.has g c = true ∧ Ls.has g' c = true) ∧ Below w.heap.size w w' := by
  have HM : Hid _ := (meet64 lo hi lo' hi' h.loLt h.hiLt h'.loLt h'.hiLt).trans (meets_iff h h')
  have hb := below_alloc2 w (.cells #[.int .u64 lo, .int .u64 hi] 157) (.cells #[.int .u64 lo', .int .u64 hi'] 157)
  clear h h'
  go_enter Tryz.func98, Tryz.ntmps98
  go_wp2_with fail
  go_ret
  exact ⟨_, rfl, HM.out, hb⟩

/-- Which may stand behind a place. -/
def nextV (n : Ls.Net) (x : Ls.Span) : Nat → Nat
  | 0 => x.first
  | p + 1 => n.behind.getD p 0

theorem nextV_bit (n : Ls.Net) (x : Ls.Span) (p i : Nat) : (Ls.au n x).nx p (i + 1) = (nextV n x p).testBit i := by cases p <;> rfl

theorem NetL.nextV_lt {w : World} {B nb : Nat} {P Q : Value} {n : Ls.Net} {x : Ls.Span} (h : NetL w B nb P Q n x) (hf : x.first < 4294967296) (p : Nat) : nextV n x p < 4294967296 := by
  cases p with
  | zero => exact hf
  | succ p =>
    show n.behind.getD p 0 < _
    rw [List.getD_eq_getElem?_getD]
    cases hp : n.behind[p]? with
    | none => simp
    | some v => exact h.small v (List.mem_of_getElem? hp)

set_option maxRecDepth 100000 in
set_option maxHeartbeats 1000000 in
theorem nnext_any (w : World) (B nb : Nat) (P Q : Value) (n : Ls.Net) (x : Ls.Span) (h : NetL w B nb P Q n x) (p : Nat) (hp : p ≤ n.places.length) :
    Calls Tryz.prog 96 #[.pointer (some ⟨nb, 0, none⟩), .int .i64 ((p : Int) - 1)] w fun e w' => e = .returned (.int .u32 (nextV n x p)) ∧ w' = w := by
  have hnl := h.lt
  have hli := h.lies
  have hfew := h.few
  have hgd := h.good
  unfold Ls.Good at hgd
  have c2 : w.cell? ⟨nb, 2, none⟩ = some (.int .u32 x.first) := by simp [World.cell?, hli]
  have c1 := h.c1
  cases p with
  | zero =>
    rw [show (((0 : Nat) : Int) - 1) = -1 from rfl]
    clear h hli c1
    go_enter Tryz.func96, Tryz.ntmps96
    go_wp2_with fail
    go_ret
    exact ⟨rfl, rfl⟩
  | succ p =>
    rw [show (((p + 1 : Nat) : Int) - 1) = (p : Int) by omega]
    have hkb : p < n.behind.length := by omega
    obtain ⟨qa, qc, rfl⟩ := h.shapeQ'
    obtain ⟨g, rfl⟩ : ∃ g, qa = some ⟨g, 0, none⟩ := by
      obtain ⟨g, cap, e, _⟩ := h.bhs.form (by omega)
      injection e with e1
      exact ⟨g, e1⟩
    have hcell : w.cell? ⟨g, p, none⟩ = some (.int .u32 n.behind[p]) := by
      have h1 := h.bhs.cellAt p (by show p < n.places.length * 1; omega)
      rw [h1, List.getElem?_map, List.getElem?_eq_getElem hkb]; rfl
    have HE : Hid (nextV n x (p + 1) = n.behind[p]) := by
      show n.behind.getD p 0 = _
      rw [List.getD_eq_getElem?_getD, List.getElem?_eq_getElem hkb]; rfl
    have hn1 : ((p : Int) == -1) = false := by simp
    have hp2 : (p : Int) < (n.places.length : Int) := by omega
    clear h hli c2
    go_enter Tryz.func96, Tryz.ntmps96
    go_wp2_with fail
    go_ret
    exact ⟨by rw [HE.out]; rfl, rfl⟩

set_option maxRecDepth 100000 in
set_option maxHeartbeats 1000000 in
theorem ends_any (w : World) (B nb : Nat) (P Q : Value) (n : Ls.Net) (x : Ls.Span) (h : NetL w B nb P Q n x) (hl : x.last < 4294967296) (p : Nat) (hp : p ≤ n.places.length) :
    Calls Tryz.prog 65 #[.pointer (some ⟨nb, 0, none⟩), .int .i64 ((p : Int) - 1)] w fun e w' => e = .returned (.bool ((Ls.au n x).en p)) ∧ w' = w := by
  have hnl := h.lt
  have hli := h.lies
  have hfew := h.few
  have c3 : w.cell? ⟨nb, 3, none⟩ = some (.int .u32 x.last) := by simp [World.cell?, hli]
  have c4 : w.cell? ⟨nb, 4, none⟩ = some (.bool x.empty) := by simp [World.cell?, hli]
  clear h hli
  cases p with
  | zero =>
    rw [show (((0 : Nat) : Int) - 1) = -1 from rfl]
    go_enter Tryz.func65, Tryz.ntmps65
    go_wp2_with fail
    go_ret
    exact ⟨rfl, rfl⟩
  | succ p =>
    rw [show (((p + 1 : Nat) : Int) - 1) = (p : Int) by omega]
    have hn1 : ((p : Int) == -1) = false := by simp
    have hH := setHas_any x.last p hl (by omega) w
    go_enter Tryz.func65, Tryz.ntmps65
    go_wp2_with fail
    refine hH.mono ?_
    rintro e w1 ⟨rfl, rfl⟩
    go_wp2_with fail
    go_ret
    exact ⟨rfl, rfl⟩

end Go.Proofs.YtfklinjaajafgaaGreatDoor
