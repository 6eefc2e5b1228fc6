import Derived.Test.YtfklinjaajafgaaGreatDoorRuns
import Derived.Test.YtfklinjaajafgaaGreatDoorSrch
import Derived.Test.YtfklinjaajafgaaGreatDoorCtI
/- What the search through two nets tells of what was read. -/
namespace Go.Proofs.YtfklinjaajafgaaGreatDoor

theorem lg_lets (n : Ls.Net) (x : Ls.Span) (u : List UInt8) : Ls.Lg (Ls.au n x) u ↔ lets n x u := by
  cases u with
  | nil =>
    constructor
    · rintro ⟨q, h1, h2⟩
      simp only [Ls.Wk] at h1
      subst h1
      exact h2
    · intro h; exact ⟨0, rfl, h⟩
  | cons c u =>
    constructor
    · rintro ⟨r, ⟨q, h1, h2, h4⟩, h5⟩
      cases q with
      | zero => rw [Ls.au_nx_zero] at h1; cases h1
      | succ q => exact ⟨q, h1, h2, (Ls.acc_wk n x u q).2 ⟨r, h4, h5⟩⟩
    · rintro ⟨q, h1, h2, h3⟩
      obtain ⟨r, h4, h5⟩ := (Ls.acc_wk n x u q).1 h3
      exact ⟨r, ⟨q + 1, h1, h2, h4⟩, h5⟩

/-- The net of what was read. -/
abbrev auD (d : Ls.D) : Ls.Au := Ls.au (Ls.add d net0).1 (Ls.add d net0).2

theorem lg_iff {d : Ls.D} (h : Ls.Wd 0 d) (u : List UInt8) : Ls.Lg (auD d) u ↔ Ls.inL (Ls.toPat d) u := (lg_lets _ _ u).trans (lets_iff h u)

theorem both_iff {d e : Ls.D} (hd : Ls.Wd 0 d) (he : Ls.Wd 0 e) : (∃ s, Ls.Reach (Ls.Stp (auD d) (auD e)) (0, 0, 0) s ∧ Ls.badA (auD d) (auD e) s) ↔ Ls.Both (Ls.toPat d) (Ls.toPat e) := by
  rw [Ls.apart_reach]
  unfold Ls.Both
  simp only [lg_iff hd, lg_iff he]

theorem twice_iff {d e : Ls.D} (hd : Ls.Wd 0 d) (he : Ls.Wd 0 e) : (∃ s, Ls.Reach (Ls.NxO (auD d) (auD e)) (0, 0, 0) s ∧ Ls.badO (auD e) s) ↔ Ls.Twice (Ls.toPat d) (Ls.toPat e) := by
  rw [Ls.once_reach]
  unfold Ls.Twice
  simp only [lg_iff hd, lg_iff he]

end Go.Proofs.YtfklinjaajafgaaGreatDoor

/- askBoth; Once and Apart of package lenses. -/
namespace Go.Proofs.YtfklinjaajafgaaGreatDoor
open Go.RowKit

theorem NetL.nt {w : World} {B nb : Nat} {P Q : Value} {n : Ls.Net} {x : Ls.Span} (h : NetL w B nb P Q n x) (hf : x.first < 4294967296) (hl : x.last < 4294967296) : Nt w w.heap.size nb P Q n x := by
  obtain ⟨los, _, _, hP⟩ := h.pls
  exact ⟨⟨B, h⟩, h.lt, fun k hk => (hP.lt k hk).2, fun k hk => (h.bhs.lt k hk).2, hf, hl⟩

/-- What is asked of two nets. -/
def Asks (f : FuncId) (F : Ls.Pat → Ls.Pat → Prop) : Prop := ∀ (w : World) (nb nb' : Nat) (P Q P' Q' : Value) (d d' : Ls.D), Ls.Wd 0 d → Ls.Wd 0 d' → Nt w w.heap.size nb P Q (Ls.add d net0).1 (Ls.add d net0).2 → Nt w w.heap.size nb' P' Q' (Ls.add d' net0).1 (Ls.add d' net0).2 →
  Calls Tryz.prog f #[.pointer (some ⟨nb, 0, none⟩), .pointer (some ⟨nb', 0, none⟩)] w (AskPost w (F (Ls.toPat d) (Ls.toPat d')))

theorem asks_apart : Asks 38 Ls.Both := fun w nb nb' P Q P' Q' _ _ hd hd' h h' => pApart_any w nb nb' P Q P' Q' _ _ _ _ h h' _ (both_iff hd hd')
theorem asks_once : Asks 37 Ls.Twice := fun w nb nb' P Q P' Q' _ _ hd hd' h h' => pOnce_any w nb nb' P Q P' Q' _ _ _ _ h h' _ (twice_iff hd hd')

end Go.Proofs.YtfklinjaajafgaaGreatDoor
