import Derived.Test.YtfklinjaajafgaaGreatDoorDvR
import Derived.Deep.RegionLaw
import Derived.Deep.AppendLies
/- addPlace. -/
namespace Go.Proofs.YtfklinjaajafgaaGreatDoor
open Go.RowKit

theorem infoSigns : (Tryz.prog.info? 157).map (fun i => (i.zero, i.size, i.bytes)) = some (some (.agg #[.int .u64 0, .int .u64 0]), 2, 16) := by kernel_rfl
theorem infoSet : (Tryz.prog.info? 148).map (fun i => (i.zero, i.size, i.bytes)) = some (some (.int .u32 0), 1, 4) := by kernel_rfl

theorem NetL.shapeP {w : World} {B nb : Nat} {P Q : Value} {n : Ls.Net} {x : Ls.Span} (h : NetL w B nb P Q n x) : ∃ a cap, P = .slice a n.places.length cap := by
  obtain ⟨los, _, _, hP⟩ := h.pls
  rcases hP.2 with ⟨h1, h2⟩ | ⟨g, cap, cur, h1, _⟩
  · exact ⟨_, _, by rw [h1, h2]⟩
  · exact ⟨_, _, h1⟩

theorem NetL.shapeQ' {w : World} {B nb : Nat} {P Q : Value} {n : Ls.Net} {x : Ls.Span} (h : NetL w B nb P Q n x) : ∃ a cap, Q = .slice a n.places.length cap := by
  rcases h.shapeQ with ⟨h1, h2⟩ | ⟨g, cap, h1⟩
  · exact ⟨_, _, by rw [h1, h2]⟩
  · exact ⟨_, _, h1⟩

theorem span_cells {w : World} {g f l : Nat} {e : Bool} {t : TypeId} (h : w.heap[g]? = some (.cells #[.int .u32 f, .int .u32 l, .bool e] t (0, 0))) : w.cell? ⟨g, 0, none⟩ = some (.int .u32 f) ∧ w.cell? ⟨g, 1, none⟩ = some (.int .u32 l) ∧ w.cell? ⟨g, 2, none⟩ = some (.bool e) ∧ (∀ o, w.frozen? ⟨g, o, none⟩ = false) := by
  refine ⟨?_, ?_, ?_, fun o => ?_⟩
  · simp [World.cell?, h]
  · simp [World.cell?, h]
  · simp [World.cell?, h]
  · simp [World.frozen?, h]

abbrev spanV (x : Ls.Span) : Value := .agg #[.int .u32 x.first, .int .u32 x.last, .bool x.empty]

/-- Between the two appends. -/
structure Mid (W W3 : World) (B nb : Nat) (P Q P' : Value) (n : Ls.Net) (x : Ls.Span) (los : List (Nat × Nat)) (lo hi : Nat) : Prop where
  lies : W3.heap[nb]? = some (.cells #[P', Q, .int .u32 x.first, .int .u32 x.last, .bool x.empty] 152 (0, 0))
  pls : W3.ownsRow B 157 2 P' (n.places.length + 1) (los.flatMap (fun a => [.int .u64 a.1, .int .u64 a.2]) ++ [.int .u64 lo, .int .u64 hi])
  bhs : W3.ownsRow B 148 1 Q n.places.length (n.behind.map fun (x : Nat) => .int .u32 x)
  size : W.heap.size < W3.heap.size
  os : W3.os = W.os
  tape : W3.tape = W.tape
  output : W3.output = W.output
  block : ∀ k, Free W nb P Q k → W3.heap[k]? = W.heap[k]?
  rowP : P'.ownBlock = P.ownBlock ∨ ∃ k, P'.ownBlock = some k ∧ W.heap.size ≤ k
  apP : P'.ownBlock ≠ some nb
  apPQ : P'.ownBlock ≠ Q.ownBlock

theorem place_mid {W w1 : World} {B nb : Nat} {P Q : Value} {n : Ls.Net} {x : Ls.Span} (hN : NetL W B nb P Q n x) (o : Obj) (gg cap : Nat) (los : List (Nat × Nat)) (lo hi : Nat)
    (hown1 : w1.ownsRow B 157 2 (.slice (some ⟨gg, 0, none⟩) (n.places.length + 1) cap) (n.places.length + 1) (los.flatMap (fun a => [.int .u64 a.1, .int .u64 a.2]) ++ [.int .u64 lo, .int .u64 hi]))
    (hgrow : (W.alloc o).drew.grownBy w1 P.ownBlock) (hat : P.ownBlock = some gg ∨ gg = W.heap.size + 1) :
    Mid W (w1.setCell ⟨nb, 0, none⟩ (.slice (some ⟨gg, 0, none⟩) (n.places.length + 1) cap)) B nb P Q (.slice (some ⟨gg, 0, none⟩) (n.places.length + 1) cap) n x los lo hi := by
  have hlt := hN.lt
  have hsz : W.heap.size + 1 ≤ w1.heap.size := by have := hgrow.size; simpa using this
  have hblk : ∀ k, k < W.heap.size → some k ≠ P.ownBlock → w1.heap[k]? = W.heap[k]? := fun k hk hne => by
    rw [hgrow.block k (by simp; omega) hne]
    exact Below.heap_alloc _ _ _ hk
  have hgn : gg ≠ nb := by
    rcases hat with e | e
    · intro e2; exact hN.apP (by rw [e, e2])
    · omega
  have hset := grownBy_set w1 nb 0 (.slice (some ⟨gg, 0, none⟩) (n.places.length + 1) cap)
  refine ⟨?_, ?_, ?_, ?_, ?_, ?_, ?_, ?_, ?_, ?_, ?_⟩
  · have := hblk nb hlt (Ne.symm hN.apP)
    rw [hN.lies] at this
    simp [World.setCell, Array.getElem?_modify, this]
  · exact hown1.kept hset (.inr (by show some gg ≠ some nb; simp [hgn]))
  · refine World.ownsRow.kept ?_ hset (.inr hN.apQ)
    refine World.ownsRow.kept (w := (W.alloc o).drew) (hN.bhs.alloc o) hgrow ?_
    rcases hN.apPQ with e | e
    · rw [e]
      cases hq : Q.ownBlock with
      | none => exact .inl rfl
      | some k => exact .inr (by simp)
    · exact .inr (Ne.symm e)
  · simp [World.setCell]; omega
  · exact hgrow.os
  · exact hgrow.tape
  · exact hgrow.output
  · intro k hk
    rw [Below.heap_setCell _ _ _ _ hk.2.1]
    exact hblk k hk.1 hk.2.2.1
  · rcases hat with e | e
    · exact .inl (by rw [e]; rfl)
    · exact .inr ⟨gg, rfl, by omega⟩
  · show some gg ≠ some nb; simp [hgn]
  · intro e
    rcases hat with e1 | e1
    · rcases hN.apPQ with e2 | e2
      · rw [e2] at e1; cases e1
      · exact e2 (e1.trans e)
    · have := (hN.bhs.lt gg e.symm).2
      omega

theorem place_end {W W3 w2 : World} {B nb : Nat} {P Q P' Q' : Value} {n : Ls.Net} {x : Ls.Span} (hN : NetL W B nb P Q n x) {los : List (Nat × Nat)} {lo hi : Nat} (hM : Mid W W3 B nb P Q P' n x los lo hi)
    (hlos : los.length = n.places.length) (hSB : ∀ k a, los[k]? = some a → SB (n.places.getD k []) a.1 a.2) {g : List UInt8} (hS : SB g lo hi) (hl : n.places.length < 32) (o : Obj)
    (hown : w2.ownsRow B 148 1 Q' (n.places.length + 1) ((n.behind.map fun (x : Nat) => Value.int .u32 x) ++ [.int .u32 0])) (hg : (W3.alloc o).grownBy w2 Q.ownBlock) (hv : Q'.ownBlock = Q.ownBlock ∨ ∃ k, Q'.ownBlock = some k ∧ W3.heap.size + 1 ≤ k) :
    NetL (w2.setCell ⟨nb, 1, none⟩ Q') B nb P' Q' (Ls.placeN g n) x ∧ NStep W nb P Q (w2.setCell ⟨nb, 1, none⟩ Q') P' Q' := by
  have hlt := hN.lt
  have hsz3 := hM.size
  have hsz : W3.heap.size + 1 ≤ w2.heap.size := by have := hg.size; simpa using this
  have hblk : ∀ k, k < W3.heap.size → some k ≠ Q.ownBlock → w2.heap[k]? = W3.heap[k]? := fun k hk hne => by
    rw [hg.block k (by simp; omega) hne]
    exact Below.heap_alloc _ _ _ hk
  have hset := grownBy_set w2 nb 1 Q'
  have hqn : Q'.ownBlock ≠ some nb := by
    rcases hv with e | ⟨k, e, hk⟩
    · rw [e]; exact hN.apQ
    · rw [e]; simp; omega
  have hpl := hM.pls.lt
  refine ⟨⟨?_, hN.base, ?_, ?_, ⟨los ++ [(lo, hi)], ?_, ?_, ?_⟩, ?_, ?_, hM.apP, hqn, ?_⟩, ?_⟩
  · have := hblk nb (by omega) (Ne.symm hN.apQ)
    rw [hM.lies] at this
    simp [World.setCell, Array.getElem?_modify, this]
  · have := hN.good; unfold Ls.Good at this ⊢; simp [Ls.placeN, this]
  · simp [Ls.placeN]; omega
  · simp [Ls.placeN, hlos]
  · intro k a hk
    rcases Nat.lt_or_ge k n.places.length with h1 | h1
    · rw [List.getElem?_append_left (by omega)] at hk
      have := hSB k a hk
      simp only [Ls.placeN, List.getD_eq_getElem?_getD] at this ⊢
      rw [List.getElem?_append_left h1]; exact this
    · rw [List.getElem?_append_right (by omega)] at hk
      obtain ⟨h2, h3⟩ := List.getElem?_eq_some_iff.1 hk
      simp at h2
      have h4 : k = n.places.length := by omega
      subst h4
      simp [hlos] at h3
      subst h3
      simpa [Ls.placeN] using hS
  · have h1 : w2.ownsRow B 157 2 P' (n.places.length + 1) _ := (hM.pls.alloc o).kept hg (.inr hM.apPQ)
    have h2 := h1.kept hset (.inr hM.apP)
    simpa [Ls.placeN] using h2
  · have h2 := hown.kept hset (.inr hqn)
    simpa [Ls.placeN] using h2
  · intro y hy
    simp only [Ls.placeN, List.mem_append, List.mem_singleton] at hy
    rcases hy with hy | rfl
    · exact hN.small y hy
    · omega
  · right
    rcases hv with e | ⟨k, e, hk⟩
    · rw [e]; exact hM.apPQ
    · rw [e]
      intro e2
      have := (hpl k e2).2
      omega
  · refine ⟨hg.os.trans hM.os, hg.tape.trans hM.tape, hg.output.trans hM.output, by simp [World.setCell]; omega, fun k hk => ?_, hM.rowP, ?_⟩
    · rw [Below.heap_setCell _ _ _ _ hk.2.1, hblk k (by have := hk.1; omega) hk.2.2.2]
      exact hM.block k hk
    · rcases hv with e | ⟨k, e, hk⟩
      · exact .inl e
      · exact .inr ⟨k, e, by omega⟩

theorem Free.set {w : World} {nb k : Nat} {P Q : Value} (h : Free w nb P Q k) (a : Addr) (v : Value) : Free (w.setCell a v) nb P Q k := ⟨by simp [World.setCell]; exact h.1, h.2⟩

/-- The span's variable is filled. -/
theorem span_store {w W : World} {B nb k : Nat} {P Q P' Q' : Value} {n : Ls.Net} {x : Ls.Span} (h : NetL W B nb P' Q' n x) (hs : NStep w nb P Q W P' Q') (hf : Free W nb P' Q' k) (hk : w.heap.size ≤ k) (a b c : Value) :
    NetL (((W.setCell ⟨k, 0, none⟩ a).setCell ⟨k, 1, none⟩ b).setCell ⟨k, 2, none⟩ c) B nb P' Q' n x ∧ NStep w nb P Q (((W.setCell ⟨k, 0, none⟩ a).setCell ⟨k, 1, none⟩ b).setCell ⟨k, 2, none⟩ c) P' Q' :=
  ⟨((h.set hf 0 a).set (hf.set _ _) 1 b).set ((hf.set _ _).set _ _) 2 c, ((hs.set hk 0 a).set hk 1 b).set hk 2 c⟩

/-- What add answers. -/
def AddPost (w : World) (B nb : Nat) (P Q : Value) (x : Ls.Span) (r : Ls.Net × Ls.Span) : Ending → World → Prop := fun e w' =>
  ∃ P' Q', e = .returned (spanV r.2) ∧ NetL w' B nb P' Q' r.1 x ∧ NStep w nb P Q w' P' Q'

set_option maxRecDepth 100000 in
set_option maxHeartbeats 2000000 in
theorem addPlace_any (w : World) (B nb : Nat) (P Q : Value) (n : Ls.Net) (x : Ls.Span) (h : NetL w B nb P Q n x) (hB : B ≤ w.heap.size) (g : List UInt8) (lo hi : Nat) (hS : SB g lo hi) (hl : n.places.length < 32) :
    Calls Tryz.prog 114 #[.pointer (some ⟨nb, 0, none⟩), .agg #[.int .u64 lo, .int .u64 hi]] w (AddPost w B nb P Q x (Ls.placeN g n, Ls.placeS n.places.length)) := by
  have hb0 := below_alloc2 w (.cells #[.int .u64 lo, .int .u64 hi] 157) (.cells #[.int .u32 (0 : Nat), .int .u32 (0 : Nat), .bool false] 150)
  have hN0 := h.below hb0
  have hx0 : ((w.alloc (.cells #[.int .u64 lo, .int .u64 hi] 157)).alloc (.cells #[.int .u32 (0 : Nat), .int .u32 (0 : Nat), .bool false] 150)).heap[w.heap.size]? = some (.cells #[.int .u64 lo, .int .u64 hi] 157 (0, 0)) := by
    rw [Below.heap_alloc _ _ _ (by simp)]; exact heap_alloc_new _ _
  have hy0 : ((w.alloc (.cells #[.int .u64 lo, .int .u64 hi] 157)).alloc (.cells #[.int .u32 (0 : Nat), .int .u32 (0 : Nat), .bool false] 150)).heap[w.heap.size + 1]? = some (.cells #[.int .u32 (0 : Nat), .int .u32 (0 : Nat), .bool false] 150 (0, 0)) := by
    have := heap_alloc_new (w.alloc (.cells #[.int .u64 lo, .int .u64 hi] 157)) (.cells #[.int .u32 (0 : Nat), .int .u32 (0 : Nat), .bool false] 150)
    simpa using this
  have hz0 : ((w.alloc (.cells #[.int .u64 lo, .int .u64 hi] 157)).alloc (.cells #[.int .u32 (0 : Nat), .int .u32 (0 : Nat), .bool false] 150)).heap.size = w.heap.size + 1 + 1 := by simp
  have hst0 := NStep.of_below nb P Q hb0
  have HW : Hid ((2 : Int) ^ n.places.length % 4294967296 = ((2 ^ n.places.length : Nat) : Int)) := by
    have := wrap32_pow n.places.length hl
    rw [IntKind.wrap_u32] at this
    exact this
  have hp2 := pow32 n.places.length hl
  obtain ⟨pa, pc, rfl⟩ := h.shapeP
  obtain ⟨qa, qc, rfl⟩ := h.shapeQ'
  have hnl := h.lt
  have c0 := hN0.c0
  have Hx0 : Hid _ := hx0
  have Hy0 : Hid _ := hy0
  obtain ⟨r0, r1, _, _⟩ := two_cells hx0
  have HnP : Hid ((∀ k, (Value.slice pa n.places.length pc).ownBlock = some k → k ≠ w.heap.size) ∧ (∀ k, (Value.slice pa n.places.length pc).ownBlock = some k → k ≠ w.heap.size + 1)) := by
    obtain ⟨los, _, _, hP⟩ := h.pls
    exact ⟨fun k hk => by have := hP.lt k hk; omega, fun k hk => by have := hP.lt k hk; omega⟩
  have HnQ : Hid (∀ k, (Value.slice qa n.places.length qc).ownBlock = some k → k ≠ w.heap.size + 1) := fun k hk => by have := h.bhs.lt k hk; omega
  clear hx0 hy0 h
  have hne1 : ¬ nb = w.heap.size := by omega
  go_enter Tryz.func114, Tryz.ntmps114
  go_upto_region 1 with (fail)
  generalize (w.alloc (.cells #[.int .u64 (lo : Int), .int .u64 (hi : Int)] 157)).alloc (.cells #[.int .u32 ((0 : Nat) : Int), .int .u32 ((0 : Nat) : Int), .bool false] 150) = W at *
  have hzW : w.heap.size + 1 < W.heap.size := by omega
  have hzW0 : w.heap.size < W.heap.size := by omega
  have hnW : nb < W.heap.size := by omega
  have Hz0 : Hid _ := hz0
  have HF : Hid (Free W nb (.slice pa n.places.length pc) (.slice qa n.places.length qc) (w.heap.size + 1)) := ⟨hzW, by omega, fun e => HnP.out.2 _ e.symm rfl, fun e => HnQ.out _ e.symm rfl⟩
  have hneP : some w.heap.size ≠ (Value.slice pa n.places.length pc).ownBlock := fun e => HnP.out.1 _ e.symm rfl
  have hneP1 : some (w.heap.size + 1) ≠ (Value.slice pa n.places.length pc).ownBlock := fun e => HnP.out.2 _ e.symm rfl
  clear hz0
  go_wp2_with fail
  obtain ⟨los, hlos, hSB, hP⟩ := hN0.pls
  obtain ⟨i0, hi0, hz1, hz2, hz3⟩ := info_parts infoSigns
  have hf0 := hN0.fr 0
  have apP := hN0.apP
  have HN0 : Hid _ := hN0
  have HS0 : Hid _ := hst0
  have HSB : Hid _ := hSB
  have HB0 : Hid _ := hb0
  clear hN0 hst0 hSB hb0
  go_region_law
    ((refine step_append_lies _ (by rfl) _ _ _ (by rfl) B 157 i0 _ 2 16 Tryz.underlying145 hi0 hz1 hz2 hz3 rfl (by omega) (.slice pa n.places.length pc) n.places.length _ (by rfl) (hP.alloc _)
        ⟨W.heap.size, 0, none⟩ 1 1 [.int .u64 lo, .int .u64 hi] (by rfl) (by rfl) (World.news_of_block (cs := #[.int .u64 lo, .int .u64 hi]) (t := 157) (fr := (0, 0)) (heap_alloc_new W _)) (by simp [Value.oneCell'])
        (by omega) (by unfold maxLen; omega) (by omega) (by simp; omega) (W.heap.size + 1) (by simp) ?_; intro gg cap w1 hown1 hgrow hat hlt; have hfz : w1.frozen? ⟨nb, 0, none⟩ = false := (hgrow.frozen_far ⟨nb, 0, none⟩ (by simp; omega) (Ne.symm apP)).trans (((below_alloc1 W _).frozen (p := ⟨nb, 0, none⟩) hnW).trans hf0); have hcz : w1.cell? ⟨nb, 0, none⟩ = some (.slice pa n.places.length pc) := (hgrow.cell_far ⟨nb, 0, none⟩ (by simp; omega) (Ne.symm apP)).trans (((below_alloc1 W _).cell (p := ⟨nb, 0, none⟩) hnW).trans c0)))
  all_goals
    have hM := place_mid HN0.out _ gg cap los lo hi hown1 hgrow hat
    have hz3 := hM.size
    have hm1 := hM.lies
    have k1 : (w1.setCell ⟨nb, 0, none⟩ (.slice (some ⟨gg, 0, none⟩) (n.places.length + 1) cap)).cell? ⟨nb, 1, none⟩ = some (.slice qa n.places.length qc) := by simp [World.cell?, hm1]
    have k2 : (w1.setCell ⟨nb, 0, none⟩ (.slice (some ⟨gg, 0, none⟩) (n.places.length + 1) cap)).frozen? ⟨nb, 1, none⟩ = false := by simp [World.frozen?, hm1]
    have HM : Hid _ := hM
    have hyM := (hM.block (w.heap.size + 1) HF.out).trans Hy0.out
    have HyM : Hid _ := hyM
    clear hm1 hM hyM hown1 hgrow hat hfz hcz hlt hP
    generalize w1.setCell ⟨nb, 0, none⟩ (.slice (some ⟨gg, 0, none⟩) (n.places.length + 1) cap) = W3 at *
    obtain ⟨j0, hj0, hj1, hj2, hj3⟩ := info_parts infoSet
    have hoa := HM.out.bhs.alloc (.cells #[.int .u32 ((0 : Nat) : Int)] 148)
    have hcn := cells_new1 W3 (.int .u32 ((0 : Nat) : Int)) 148
    go_wp2_with (at_builtin; refine wpList_append_own2 _ rfl _ _ 146 rfl B 148 j0 _ 1 4 Tryz.underlying146 hj0 hj1 hj2 hj3 rfl (by omega) (.slice qa n.places.length qc) n.places.length _ rfl hoa ⟨W3.heap.size, 0, Option.none⟩ 1 1 [.int .u32 ((0 : Nat) : Int)] rfl ?l1 hcn ?l0 ?l2 ?l3 ?l4 ?l5 ?_)
    case l1 => rfl
    case l0 => intro u hu; simp at hu; subst hu; rfl
    case l2 => unfold maxLen; omega
    case l3 => omega
    case l4 => simp; omega
    case l5 => omega
    intro v' w2 ho2 hg2 hvv
    obtain ⟨g2, cap2, rfl, _, _⟩ := ho2.form (by omega)
    have hE := place_end HN0.out HM.out hlos HSB.out hS hl _ ho2 hg2 (by simpa using hvv)
    have HE : Hid _ := hE
    clear hE
    have hgs := hg2.size
    simp at hgs
    have m1 : w2.cell? ⟨nb, 1, none⟩ = some (.slice qa n.places.length qc) := (hg2.cell_far ⟨nb, 1, none⟩ (by simp; omega) (Ne.symm HN0.out.apQ)).trans (((below_alloc1 W3 _).cell (p := ⟨nb, 1, none⟩) (by show nb < _; omega)).trans k1)
    have m2 : w2.frozen? ⟨nb, 1, none⟩ = false := (hg2.frozen_far ⟨nb, 1, none⟩ (by simp; omega) (Ne.symm HN0.out.apQ)).trans (((below_alloc1 W3 _).frozen (p := ⟨nb, 1, none⟩) (by show nb < _; omega)).trans k2)
    have hy2 : w2.heap[w.heap.size + 1]? = some (.cells #[.int .u32 (0 : Nat), .int .u32 (0 : Nat), .bool false] 150 (0, 0)) := by
      rw [hg2.block _ (by simp; omega) HF.out.2.2.2, Below.heap_alloc _ _ _ (by omega)]
      exact HyM.out
    obtain ⟨s0, s1, s2, s3⟩ := span_cells hy2
    have s30 := s3 0
    have s31 := s3 1
    have s32 := s3 2
    have hne5 : ¬ w.heap.size + 1 = nb := by omega
    have hne6 : ¬ nb = w.heap.size + 1 := by omega
    clear hoa hcn k1 k2 hg2 ho2 hvv s3
    go_wp2_with fail
    rw [HW.out]
    refine bodyPost_ret (v := spanV (Ls.placeS n.places.length)) (by simp [results, Tryz.results114, go_sem, s0, s1, s2, Ls.placeS]) rfl ⟨_, _, rfl, span_store HE.out.1 (HS0.out.trans HE.out.2) (HE.out.2.free HF.out) (by omega) _ _ _⟩

end Go.Proofs.YtfklinjaajafgaaGreatDoor
