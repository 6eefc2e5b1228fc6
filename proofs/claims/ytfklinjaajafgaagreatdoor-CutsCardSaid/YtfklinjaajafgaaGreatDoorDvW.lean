import Derived.Test.YtfklinjaajafgaaGreatDoorDvV
/- add, and NewNet. -/
namespace Go.Proofs.YtfklinjaajafgaaGreatDoor
open Go.RowKit

/-- The result's variable, and one new variable more. -/
structure Ad (w W : World) (nb : Nat) (P Q : Value) : Prop where
  res : W.heap[w.heap.size]? = some (.cells #[.int .u32 (0 : Nat), .int .u32 (0 : Nat), .bool false] 150 (0, 0))
  fr : Free W nb P Q w.heap.size

theorem Ad.next {w W W' : World} {nb : Nat} {P Q P' Q' : Value} (h : Ad w W nb P Q) (hs : NStep W nb P Q W' P' Q') : Ad w W' nb P' Q' := ⟨hs.own h.fr h.res, hs.free h.fr⟩

theorem Ad.start {w : World} {B nb : Nat} {P Q : Value} {n : Ls.Net} {x : Ls.Span} (h : NetL w B nb P Q n x) (o : Obj) : Ad w ((w.alloc (.cells #[.int .u32 (0 : Nat), .int .u32 (0 : Nat), .bool false] 150)).alloc o) nb P Q := by
  refine ⟨?_, ?_⟩
  · rw [Below.heap_alloc _ _ _ (by simp)]; exact heap_alloc_new _ _
  · have := h.newFree (.cells #[.int .u32 (0 : Nat), .int .u32 (0 : Nat), .bool false] 150)
    exact ⟨by simp; omega, this.2⟩

theorem asPP (v : Value) (w : World) : (Instr.typeAssert (.iface 180 v) 89 180 true).run Tryz.prog w = .ok (.tuple #[v, .bool true]) w := by kernel_rfl
theorem asRR (v : Value) (w : World) : (Instr.typeAssert (.iface 184 v) 89 184 true).run Tryz.prog w = .ok (.tuple #[v, .bool true]) w := by kernel_rfl
theorem asRP (v : Value) (w : World) : (Instr.typeAssert (.iface 184 v) 89 180 true).run Tryz.prog w = .ok (.tuple #[.agg #[.int .u64 0, .int .u64 0], .bool false]) w := by kernel_rfl
theorem asCC (v : Value) (w : World) : (Instr.typeAssert (.iface 187 v) 89 187 true).run Tryz.prog w = .ok (.tuple #[v, .bool true]) w := by kernel_rfl
theorem asCP (v : Value) (w : World) : (Instr.typeAssert (.iface 187 v) 89 180 true).run Tryz.prog w = .ok (.tuple #[.agg #[.int .u64 0, .int .u64 0], .bool false]) w := by kernel_rfl
theorem asCR (v : Value) (w : World) : (Instr.typeAssert (.iface 187 v) 89 184 true).run Tryz.prog w = .ok (.tuple #[.agg #[.slice none 0 0], .bool false]) w := by kernel_rfl
theorem asTT (v : Value) (w : World) : (Instr.typeAssert (.iface 189 v) 89 189 true).run Tryz.prog w = .ok (.tuple #[v, .bool true]) w := by kernel_rfl
theorem asTP (v : Value) (w : World) : (Instr.typeAssert (.iface 189 v) 89 180 true).run Tryz.prog w = .ok (.tuple #[.agg #[.int .u64 0, .int .u64 0], .bool false]) w := by kernel_rfl
theorem asTR (v : Value) (w : World) : (Instr.typeAssert (.iface 189 v) 89 184 true).run Tryz.prog w = .ok (.tuple #[.agg #[.slice none 0 0], .bool false]) w := by kernel_rfl
theorem asTC (v : Value) (w : World) : (Instr.typeAssert (.iface 189 v) 89 187 true).run Tryz.prog w = .ok (.tuple #[.agg #[.slice none 0 0], .bool false]) w := by kernel_rfl

set_option maxRecDepth 100000 in
set_option maxHeartbeats 2000000 in
theorem add_place (w : World) (B nb : Nat) (P Q : Value) (n : Ls.Net) (x : Ls.Span) (h : NetL w B nb P Q n x) (hB : B ≤ w.heap.size) (g : List UInt8) (lo hi : Nat) (hS : SB g lo hi) (hl : n.places.length < 32) :
    Calls Tryz.prog 95 #[.pointer (some ⟨nb, 0, none⟩), placeV lo hi] w (AddPost w B nb P Q x (Ls.placeN g n, Ls.placeS n.places.length)) := by
  have hnl := h.lt
  have hb0 := below_alloc2 w (.cells #[.int .u32 (0 : Nat), .int .u32 (0 : Nat), .bool false] 150) (.cells #[.int .u64 lo, .int .u64 hi] 180)
  have hst0 := NStep.of_below nb P Q hb0
  have hA0 := Ad.start h (.cells #[.int .u64 lo, .int .u64 hi] 180)
  have hC := addPlace_any _ B nb P Q n x (h.below hb0) (Nat.le_trans hB hb0.size) g lo hi hS hl
  have HA : Hid _ := hA0
  have HS : Hid _ := hst0
  clear hst0 hA0 h hb0
  have t1 := asPP
  go_enter Tryz.func95, Tryz.ntmps95
  go_wp2_with fail
  refine hC.mono ?_
  rintro e w1 ⟨P1, Q1, rfl, hN1, hst1⟩
  generalize (Ls.placeN g n, Ls.placeS n.places.length) = r at *
  obtain ⟨m1, nx⟩ := r
  have hA1 := HA.out.next hst1
  obtain ⟨s0, s1, s2, s3⟩ := span_cells hA1.res
  have s30 := s3 0
  have s31 := s3 1
  have s32 := s3 2
  have hz := hA1.fr.1
  have Hfin : Hid (∀ a b c, NetL (((w1.setCell ⟨w.heap.size, 0, none⟩ a).setCell ⟨w.heap.size, 1, none⟩ b).setCell ⟨w.heap.size, 2, none⟩ c) B nb P1 Q1 m1 x ∧ NStep w nb P Q (((w1.setCell ⟨w.heap.size, 0, none⟩ a).setCell ⟨w.heap.size, 1, none⟩ b).setCell ⟨w.heap.size, 2, none⟩ c) P1 Q1) := fun a b c => span_store hN1 (HS.out.trans hst1) hA1.fr (Nat.le_refl _) a b c
  clear hA1 s3 hN1 hst1 HA HS hC
  go_wp2_with fail
  exact bodyPost_ret (v := spanV nx) (by simp [results, Tryz.results95, go_sem, s0, s1, s2]) rfl ⟨P1, Q1, rfl, Hfin.out _ _ _⟩

set_option maxRecDepth 100000 in
set_option maxHeartbeats 2000000 in
theorem add_row (l : List Ls.D) (hI : ∀ a, a ∈ l → AddSaid a) (hln : l.length ≤ 1048576) (w : World) (B nb : Nat) (P Q : Value) (n : Ls.Net) (x : Ls.Span) (G : Nat → Prop) (sl : Value) (vs : List Value) (h : NetL w B nb P Q n x) (hB : B ≤ w.heap.size) (hG : ∀ k, G k → Free w nb P Q k) (hs : Shows w G sl vs) (he : Each w G l vs) (hsz : n.places.length + sizes l ≤ 31) :
    Calls Tryz.prog 95 #[.pointer (some ⟨nb, 0, none⟩), rowV sl] w (AddPost w B nb P Q x (Ls.go (l.foldr Ls.rcons Ls.rnil) n ⟨0, 0, true⟩)) := by
  have hnl := h.lt
  have hb0 := below_alloc2 w (.cells #[.int .u32 (0 : Nat), .int .u32 (0 : Nat), .bool false] 150) (.cells #[sl] 184)
  have hst0 := NStep.of_below nb P Q hb0
  have hA0 := Ad.start h (.cells #[sl] 184)
  have hC := addRow_any l hI hln _ B nb P Q n x G sl vs (h.below hb0) (Nat.le_trans hB hb0.size) (fun k hk => hst0.free (hG k hk)) (hs.mono (fun _ h => h) (fun k hk => hst0.block k (hG k hk))) (he.mono (fun _ h => h) (fun k hk => hst0.block k (hG k hk))) hsz
  have HA : Hid _ := hA0
  have HS : Hid _ := hst0
  obtain ⟨x1, x2, x3, rfl⟩ : ∃ a n c, sl = .slice a n c := by
    rcases hs.shape with ⟨e, _⟩ | ⟨_, _, e, _⟩ <;> exact ⟨_, _, _, e⟩
  clear hst0 hA0 h hb0 hs he hI hG
  have t1 := asRP
  have t2 := asRR
  go_enter Tryz.func95, Tryz.ntmps95
  go_wp2_with fail
  refine hC.mono ?_
  rintro e w1 ⟨P1, Q1, rfl, hN1, hst1⟩
  generalize Ls.go (l.foldr Ls.rcons Ls.rnil) n ⟨0, 0, true⟩ = r at *
  obtain ⟨m1, nx⟩ := r
  have hA1 := HA.out.next hst1
  obtain ⟨s0, s1, s2, s3⟩ := span_cells hA1.res
  have s30 := s3 0
  have s31 := s3 1
  have s32 := s3 2
  have hz := hA1.fr.1
  have Hfin : Hid (∀ a b c, NetL (((w1.setCell ⟨w.heap.size, 0, none⟩ a).setCell ⟨w.heap.size, 1, none⟩ b).setCell ⟨w.heap.size, 2, none⟩ c) B nb P1 Q1 m1 x ∧ NStep w nb P Q (((w1.setCell ⟨w.heap.size, 0, none⟩ a).setCell ⟨w.heap.size, 1, none⟩ b).setCell ⟨w.heap.size, 2, none⟩ c) P1 Q1) := fun a b c => span_store hN1 (HS.out.trans hst1) hA1.fr (Nat.le_refl _) a b c
  clear hA1 s3 hN1 hst1 HA HS hC
  go_wp2_with fail
  exact bodyPost_ret (v := spanV nx) (by simp [results, Tryz.results95, go_sem, s0, s1, s2]) rfl ⟨P1, Q1, rfl, Hfin.out _ _ _⟩

set_option maxRecDepth 100000 in
set_option maxHeartbeats 2000000 in
theorem add_choice (l : List Ls.D) (hI : ∀ a, a ∈ l → AddSaid a) (hln : l.length ≤ 1048576) (w : World) (B nb : Nat) (P Q : Value) (n : Ls.Net) (x : Ls.Span) (G : Nat → Prop) (sl : Value) (vs : List Value) (h : NetL w B nb P Q n x) (hB : B ≤ w.heap.size) (hG : ∀ k, G k → Free w nb P Q k) (hs : Shows w G sl vs) (he : Each w G l vs) (hsz : n.places.length + sizes l ≤ 31) :
    Calls Tryz.prog 95 #[.pointer (some ⟨nb, 0, none⟩), choiceV sl] w (AddPost w B nb P Q x (Ls.go (chainD l) n ⟨0, 0, false⟩)) := by
  have hnl := h.lt
  have hb0 := below_alloc2 w (.cells #[.int .u32 (0 : Nat), .int .u32 (0 : Nat), .bool false] 150) (.cells #[sl] 187)
  have hst0 := NStep.of_below nb P Q hb0
  have hA0 := Ad.start h (.cells #[sl] 187)
  have hC := addChoice_any l hI hln _ B nb P Q n x G sl vs (h.below hb0) (Nat.le_trans hB hb0.size) (fun k hk => hst0.free (hG k hk)) (hs.mono (fun _ h => h) (fun k hk => hst0.block k (hG k hk))) (he.mono (fun _ h => h) (fun k hk => hst0.block k (hG k hk))) hsz
  have HA : Hid _ := hA0
  have HS : Hid _ := hst0
  obtain ⟨x1, x2, x3, rfl⟩ : ∃ a n c, sl = .slice a n c := by
    rcases hs.shape with ⟨e, _⟩ | ⟨_, _, e, _⟩ <;> exact ⟨_, _, _, e⟩
  clear hst0 hA0 h hb0 hs he hI hG
  have t1 := asCP
  have t2 := asCR
  have t3 := asCC
  go_enter Tryz.func95, Tryz.ntmps95
  go_wp2_with fail
  refine hC.mono ?_
  rintro e w1 ⟨P1, Q1, rfl, hN1, hst1⟩
  generalize Ls.go (chainD l) n ⟨0, 0, false⟩ = r at *
  obtain ⟨m1, nx⟩ := r
  have hA1 := HA.out.next hst1
  obtain ⟨s0, s1, s2, s3⟩ := span_cells hA1.res
  have s30 := s3 0
  have s31 := s3 1
  have s32 := s3 2
  have hz := hA1.fr.1
  have Hfin : Hid (∀ a b c, NetL (((w1.setCell ⟨w.heap.size, 0, none⟩ a).setCell ⟨w.heap.size, 1, none⟩ b).setCell ⟨w.heap.size, 2, none⟩ c) B nb P1 Q1 m1 x ∧ NStep w nb P Q (((w1.setCell ⟨w.heap.size, 0, none⟩ a).setCell ⟨w.heap.size, 1, none⟩ b).setCell ⟨w.heap.size, 2, none⟩ c) P1 Q1) := fun a b c => span_store hN1 (HS.out.trans hst1) hA1.fr (Nat.le_refl _) a b c
  clear hA1 s3 hN1 hst1 HA HS hC
  go_wp2_with fail
  exact bodyPost_ret (v := spanV nx) (by simp [results, Tryz.results95, go_sem, s0, s1, s2]) rfl ⟨P1, Q1, rfl, Hfin.out _ _ _⟩

set_option maxRecDepth 100000 in
set_option maxHeartbeats 2000000 in
theorem add_repeat (t : Nat) (ht : t = 5 ∨ t = 6 ∨ t = 7) (a : Ls.D) (hI : AddSaid a) (w : World) (B nb : Nat) (P Q : Value) (n : Ls.Net) (x : Ls.Span) (G : Nat → Prop) (ty : TypeId) (y : Value) (h : NetL w B nb P Q n x) (hB : B ≤ w.heap.size) (hG : ∀ k, G k → Free w nb P Q k) (hr : Rep w G 0 a [.iface ty y]) (hsz : n.places.length + Ls.dsize a ≤ 31) :
    Calls Tryz.prog 95 #[.pointer (some ⟨nb, 0, none⟩), repV (.iface ty y) (t != 6) (t != 7)] w (AddPost w B nb P Q x (Ls.add (Ls.rep t a) n)) := by
  have hnl := h.lt
  have hb0 := below_alloc2 w (.cells #[.int .u32 (0 : Nat), .int .u32 (0 : Nat), .bool false] 150) (.cells #[.iface ty y, .bool (t != 6), .bool (t != 7)] 189)
  have hst0 := NStep.of_below nb P Q hb0
  have hA0 := Ad.start h (.cells #[.iface ty y, .bool (t != 6), .bool (t != 7)] 189)
  have hC := addRepeat_any t ht a hI _ B nb P Q n x G ty y (h.below hb0) (Nat.le_trans hB hb0.size) (fun k hk => hst0.free (hG k hk)) (hr.mono (fun _ h => h) (fun k hk => hst0.block k (hG k hk))) hsz
  have HA : Hid _ := hA0
  have HS : Hid _ := hst0
  clear hst0 hA0 h hb0 hr hI hG ht
  have t1 := asTP
  have t2 := asTR
  have t3 := asTC
  have t4 := asTT
  generalize (t != 6) = b1 at *
  generalize (t != 7) = b2 at *
  go_enter Tryz.func95, Tryz.ntmps95
  go_wp2_with fail
  refine hC.mono ?_
  rintro e w1 ⟨P1, Q1, rfl, hN1, hst1⟩
  generalize Ls.add (Ls.rep t a) n = r at *
  obtain ⟨m1, nx⟩ := r
  have hA1 := HA.out.next hst1
  obtain ⟨s0, s1, s2, s3⟩ := span_cells hA1.res
  have s30 := s3 0
  have s31 := s3 1
  have s32 := s3 2
  have hz := hA1.fr.1
  have Hfin : Hid (∀ a b c, NetL (((w1.setCell ⟨w.heap.size, 0, none⟩ a).setCell ⟨w.heap.size, 1, none⟩ b).setCell ⟨w.heap.size, 2, none⟩ c) B nb P1 Q1 m1 x ∧ NStep w nb P Q (((w1.setCell ⟨w.heap.size, 0, none⟩ a).setCell ⟨w.heap.size, 1, none⟩ b).setCell ⟨w.heap.size, 2, none⟩ c) P1 Q1) := fun a b c => span_store hN1 (HS.out.trans hst1) hA1.fr (Nat.le_refl _) a b c
  clear hA1 s3 hN1 hst1 HA HS hC
  go_wp2_with fail
  exact bodyPost_ret (v := spanV nx) (by simp [results, Tryz.results95, go_sem, s0, s1, s2]) rfl ⟨P1, Q1, rfl, Hfin.out _ _ _⟩

theorem add_step (d : Ls.D) (hI : ∀ a, dn a < dn d → AddSaid a) (hlen : dn d ≤ 1048576) : AddSaid d := by
  intro w B nb P Q n x G ty y hN hB hG h hsz
  rcases h.at0 with ⟨s, lo, hi, hS, rfl, hv⟩ | ⟨t, a, v', ht, h1, rfl, hv⟩ | ⟨sl, vs', hs, h1, hv⟩ | ⟨sl, vs', hs, h1, hv⟩ <;> rw [hv] <;> clear h
  · unfold Ls.add
    rw [Ls.go_place]
    rw [Ls.dsize_place] at hsz
    exact add_place w B nb P Q n x hN hB s lo hi hS (by omega)
  · obtain ⟨ty', y', rfl⟩ := h1.iface
    rw [Ls.dsize_rep] at hsz
    exact add_repeat t ht a (hI a (by rw [dn_rep]; omega)) w B nb P Q n x G ty' y' hN hB hG h1 hsz
  · obtain ⟨l, rfl, he⟩ := h1.things rfl
    rw [sizes_row] at hsz
    have hl := sizes_len l
    unfold Ls.add
    rw [Ls.tag_row h1.wd rfl]
    exact add_row l (fun a ha => hI a (dn_row l a ha)) (by omega) w B nb P Q n x G sl vs' hN hB hG hs he hsz
  · obtain ⟨l, hne, rfl, he⟩ := h1.sides rfl
    rw [sizes_chain l hne] at hsz
    have hl := chain_len l
    unfold Ls.add
    rw [Ls.tag_choice h1.wd rfl]
    exact add_choice l (fun a ha => hI a (dn_chain l a ha)) (by omega) w B nb P Q n x G sl vs' hN hB hG hs he hsz

theorem add_any (k : Nat) : ∀ d, dn d ≤ k → dn d ≤ 1048576 → AddSaid d := by
  induction k with
  | zero => intro d hd h; exact add_step d (fun a ha => by omega) h
  | succ k ih => intro d hd h; exact add_step d (fun a ha => ih a (by omega) (by omega)) h

end Go.Proofs.YtfklinjaajafgaaGreatDoor

/- NewNet. -/
namespace Go.Proofs.YtfklinjaajafgaaGreatDoor
open Go.RowKit

def net0 : Ls.Net := ⟨[], []⟩
def span0 : Ls.Span := ⟨0, 0, false⟩

theorem net0_lies (w : World) : NetL (w.alloc (.cells #[.slice none 0 0, .slice none 0 0, .int .u32 ((0 : Nat) : Int), .int .u32 ((0 : Nat) : Int), .bool false] 152)) w.heap.size w.heap.size (.slice none 0 0) (.slice none 0 0) net0 span0 := by
  refine ⟨heap_alloc_new _ _, Nat.le_refl _, rfl, by simp [net0], ⟨[], rfl, by simp, World.ownsRow_nil _ _ _ _⟩, World.ownsRow_nil _ _ _ _, by simp [net0], by simp [Value.ownBlock], by simp [Value.ownBlock], .inl rfl⟩

/-- What NewNet answers. -/
def NetPost (w : World) (d : Ls.D) : Ending → World → Prop := fun e w' =>
  ∃ nb P Q, e = .returned (.pointer (some ⟨nb, 0, none⟩)) ∧ NetL w' w.heap.size nb P Q (Ls.add d net0).1 (Ls.add d net0).2 ∧ Below w.heap.size w w'

set_option maxRecDepth 100000 in
set_option maxHeartbeats 2000000 in
theorem NewNet_any (d : Ls.D) (hd : dn d ≤ 1048576) (h24 : Ls.dsize d ≤ 24) (w : World) (G : Nat → Prop) (hG : Old w G) (ty : TypeId) (y : Value) (h : Rep w G 0 d [.iface ty y]) :
    Calls Tryz.prog 61 #[.iface ty y] w (NetPost w d) := by
  have hN0 := net0_lies w
  have hb0 := below_alloc1 w (.cells #[.slice none 0 0, .slice none 0 0, .int .u32 ((0 : Nat) : Int), .int .u32 ((0 : Nat) : Int), .bool false] 152)
  have hC := add_any (dn d) d (Nat.le_refl _) hd _ w.heap.size w.heap.size _ _ net0 span0 G ty y hN0 hb0.size (fun k hk => ⟨Nat.lt_of_lt_of_le (hG k hk) hb0.size, by have := hG k hk; omega, by simp [Value.ownBlock], by simp [Value.ownBlock]⟩) (h.later hG hb0) (by simp [net0]; omega)
  have HN : Hid _ := hN0
  clear hN0 h
  go_enter Tryz.func61, Tryz.ntmps61
  go_wp2_with fail
  refine hC.mono ?_
  rintro e w1 ⟨P1, Q1, rfl, hN1, hst1⟩
  clear hC
  generalize hr : Ls.add d net0 = r at *
  obtain ⟨m1, nx⟩ := r
  have Hr : Hid (Ls.add d net0 = (m1, nx)) := hr
  clear hr
  have hl1 := hN1.lies
  have f2 := hN1.fr 2
  have f3 := hN1.fr 3
  have f4 := hN1.fr 4
  have c2 : w1.cell? ⟨w.heap.size, 2, none⟩ = some (.int .u32 span0.first) := by simp [World.cell?, hl1]
  have c3 : w1.cell? ⟨w.heap.size, 3, none⟩ = some (.int .u32 span0.last) := by simp [World.cell?, hl1]
  have c4 : w1.cell? ⟨w.heap.size, 4, none⟩ = some (.bool span0.empty) := by simp [World.cell?, hl1]
  have hlt := hN1.lt
  have HN1 : Hid _ := hN1
  have Hl1 : Hid _ := hl1
  have Hst : Hid _ := hst1
  clear hN1 hst1 hl1
  go_wp2_with fail
  go_ret
  refine ⟨w.heap.size, P1, Q1, rfl, ?_, ?_⟩
  · rw [Hr.out]
    have hgr : ∀ (o : Nat) (v : Value) (W : World), W.grownBy (W.setCell ⟨w.heap.size, o, none⟩ v) (some w.heap.size) := fun o v W => grownBy_set W _ o v
    have hN := HN1.out
    obtain ⟨los, h1, h2, h3⟩ := hN.pls
    refine ⟨?_, hN.base, hN.good, hN.few, ⟨los, h1, h2, ?_⟩, ?_, hN.small, hN.apP, hN.apQ, hN.apPQ⟩
    · have := Hl1.out
      simp [World.setCell, Array.getElem?_modify, this]
    · exact ((h3.kept (hgr _ _ _) (.inr hN.apP)).kept (hgr _ _ _) (.inr hN.apP)).kept (hgr _ _ _) (.inr hN.apP)
    · exact ((hN.bhs.kept (hgr _ _ _) (.inr hN.apQ)).kept (hgr _ _ _) (.inr hN.apQ)).kept (hgr _ _ _) (.inr hN.apQ)
  · have hb1 : Below w.heap.size w w1 := by
      have hs := Hst.out
      refine ⟨hs.os, hs.tape, hs.output, Nat.le_trans hb0.size hs.size, fun k hk => (hs.block k ⟨Nat.lt_of_lt_of_le hk hb0.size, by omega, by simp [Value.ownBlock], by simp [Value.ownBlock]⟩).trans (hb0.block k hk)⟩
    exact ((hb1.setCell (p := ⟨w.heap.size, 2, none⟩) (Nat.le_refl _) _).setCell (p := ⟨w.heap.size, 3, none⟩) (Nat.le_refl _) _).setCell (p := ⟨w.heap.size, 4, none⟩) (Nat.le_refl _) _

end Go.Proofs.YtfklinjaajafgaaGreatDoor
