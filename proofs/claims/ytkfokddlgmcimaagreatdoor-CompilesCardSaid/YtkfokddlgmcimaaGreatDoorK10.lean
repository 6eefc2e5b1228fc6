import Derived.Test.YtkfokddlgmcimaaGreatDoorK09
import Derived.Deep.DeepCutAuto
import Derived.Deep.CutBlock
import Derived.Laws.EntriesVeiled
set_option maxRecDepth 100000
set_option maxHeartbeats 4000000
namespace Go.Proofs.YtkfokddlgmcimaaGreatDoor
open Go.RowKit
def joinF (k : Nat) : Nat := if k = 3 then 120 else if k = 4 then 148 else 110
def Blk (w : World) (g : Nat) (cs : Array Value) (T : TypeId) : Prop := w.heap[g]? = some (.cells cs T (0, 0))
theorem Blk.lt {w : World} {g : Nat} {cs : Array Value} {T : TypeId} (h : Blk w g cs T) : g < w.heap.size := (Array.getElem?_eq_some_iff.1 h).1
theorem Blk.below {w w' : World} {g B : Nat} {cs : Array Value} {T : TypeId} (h : Blk w g cs T) (hb : Below B w w') (hg : g < B) : Blk w' g cs T := by
 unfold Blk at h ⊢
 rw [hb.block g hg]; exact h
theorem Blk.of {w w' : World} {g : Nat} {cs : Array Value} {T : TypeId} (h : Blk w g cs T) (he : w'.heap[g]? = w.heap[g]?) : Blk w' g cs T := by
 unfold Blk at h ⊢
 rw [he]; exact h
theorem Blk.cell {w : World} {g : Nat} {cs : Array Value} {T : TypeId} (h : Blk w g cs T) (j : Nat) : w.cell? ⟨g, j, none⟩ = cs[j]? := by
 unfold Blk at h
 simp [World.cell?, h]
theorem Blk.fr {w : World} {g : Nat} {cs : Array Value} {T : TypeId} (h : Blk w g cs T) (j : Nat) : w.frozen? ⟨g, j, none⟩ = false := by
 unfold Blk at h
 simp [World.frozen?, h]
theorem Blk.one {w : World} {g : Nat} {x : Value} {T : TypeId} (h : Blk w g #[x] T) : w.cell? ⟨g, 0, none⟩ = some x /\ w.frozen? ⟨g, 0, none⟩ = false := ⟨h.cell 0, h.fr 0⟩
theorem Blk.two {w : World} {g : Nat} {x y : Value} {T : TypeId} (h : Blk w g #[x, y] T) : w.cell? ⟨g, 0, none⟩ = some x /\ w.cell? ⟨g, 1, none⟩ = some y /\ w.frozen? ⟨g, 0, none⟩ = false /\ w.frozen? ⟨g, 1, none⟩ = false := ⟨h.cell 0, h.cell 1, h.fr 0, h.fr 1⟩
theorem Blk.new (w : World) (cs : Array Value) (T : TypeId) : Blk (w.alloc (.cells cs T)) w.heap.size cs T := heap_alloc_new _ _
def PlanV (w : World) (G : Nat -> Prop) : Ls.Ln -> Value -> Prop
 | ⟨k, d, ws, []⟩, b =>
  (k = 0 /\ ∃ g v, G g /\ b = .func (.func 145) #[] #[.pointer (some ⟨g, 0, none⟩)] /\ Blk w g #[v] 82 /\ Rep w G 0 d [v]) \/
  (k = 1 /\ ∃ g h v, G g /\ G h /\ b = .func (.func 154) #[] #[.pointer (some ⟨g, 0, none⟩), .pointer (some ⟨h, 0, none⟩)] /\ Blk w g #[v] 82 /\ Rep w G 0 d [v] /\ Blk w h #[.string ⟨ws.toArray⟩] 9) \/
  (k = 2 /\ ∃ g, G g /\ b = .func (.func 156) #[] #[.pointer (some ⟨g, 0, none⟩)] /\ Blk w g #[.string ⟨ws.toArray⟩] 9)
 | ⟨k, _, _, [a]⟩, b => (k = 6 \/ k = 7) /\ ∃ (g n : Nat) (x : Value), G g /\ b = .func (.func 150) #[] #[.pointer (some ⟨g, 0, none⟩)] /\ Blk w g #[.int .i64 n, x] 119 /\ PlanV w G a x
 | ⟨k, _, _, [a, c]⟩, b => (k = 3 \/ k = 4 \/ k = 5) /\ ∃ (gj g h n m : Nat) (x y : Value), G gj /\ G g /\ G h /\ b = .func (.func 121) #[] #[.pointer (some ⟨gj, 0, none⟩), .pointer (some ⟨g, 0, none⟩), .pointer (some ⟨h, 0, none⟩)] /\
   Blk w gj #[.func (.func (joinF k)) #[] #[]] 182 /\ Blk w g #[.int .i64 n, x] 119 /\ Blk w h #[.int .i64 m, y] 119 /\ PlanV w G a x /\ PlanV w G c y
 | _, _ => False
theorem PlanV.mono {w w' : World} {G G' : Nat -> Prop} (hG : ∀ k, G k -> G' k) (hw : ∀ k, G k -> w'.heap[k]? = w.heap[k]?) : (l : Ls.Ln) -> (b : Value) -> PlanV w G l b -> PlanV w' G' l b
 | ⟨k, d, ws, []⟩, b, h => by
  rw [PlanV] at h ⊢
  rcases h with ⟨hk, g, v, h1, h2, h3, h4⟩ | ⟨hk, g, g2, v, h1, h2, h3, h4, h5, h6⟩ | ⟨hk, g, h1, h2, h3⟩
  ·exact .inl ⟨hk, g, v, hG g h1, h2, h3.of (hw g h1), h4.mono hG hw⟩
  ·exact .inr (.inl ⟨hk, g, g2, v, hG g h1, hG g2 h2, h3, h4.of (hw g h1), h5.mono hG hw, h6.of (hw g2 h2)⟩)
  ·exact .inr (.inr ⟨hk, g, hG g h1, h2, h3.of (hw g h1)⟩)
 | ⟨k, d, ws, [a]⟩, b, h => by
  rw [PlanV] at h ⊢
  obtain ⟨hk, g, n, x, h1, h2, h3, h4⟩ := h
  exact ⟨hk, g, n, x, hG g h1, h2, h3.of (hw g h1), PlanV.mono hG hw a x h4⟩
 | ⟨k, d, ws, [a, c]⟩, b, h => by
  rw [PlanV] at h ⊢
  obtain ⟨hk, gj, g, g2, n, m, x, y, h0, h1, h2, h3, h4, h5, h6, h7, h8⟩ := h
  exact ⟨hk, gj, g, g2, n, m, x, y, hG gj h0, hG g h1, hG g2 h2, h3, h4.of (hw gj h0), h5.of (hw g h1), h6.of (hw g2 h2), PlanV.mono hG hw a x h7, PlanV.mono hG hw c y h8⟩
 | ⟨k, d, ws, _ :: _ :: _ :: _⟩, b, h => by simp [PlanV] at h
theorem PlanV.func {w : World} {G : Nat -> Prop} : (l : Ls.Ln) -> (b : Value) -> PlanV w G l b -> ∃ f caps, b = .func (.func f) #[] caps
 | ⟨k, d, ws, []⟩, b, h => by
  rw [PlanV] at h
  rcases h with ⟨hk, g, v, h1, h2, h3, h4⟩ | ⟨hk, g, g2, v, h1, h2, h3, h4, h5, h6⟩ | ⟨hk, g, h1, h2, h3⟩
  ·exact ⟨_, _, h2⟩
  ·exact ⟨_, _, h3⟩
  ·exact ⟨_, _, h2⟩
 | ⟨k, d, ws, [a]⟩, b, h => by
  rw [PlanV] at h
  obtain ⟨hk, g, n, x, h1, h2, h3, h4⟩ := h
  exact ⟨_, _, h2⟩
 | ⟨k, d, ws, [a, c]⟩, b, h => by
  rw [PlanV] at h
  obtain ⟨hk, gj, g, g2, n, m, x, y, h0, h1, h2, h3, h4⟩ := h
  exact ⟨_, _, h3⟩
 | ⟨k, d, ws, _ :: _ :: _ :: _⟩, b, h => by simp [PlanV] at h
theorem PlanV.later {w w' : World} {G : Nat -> Prop} {l : Ls.Ln} {b : Value} (h : PlanV w G l b) (hG : Old w G) (hb : Below w.heap.size w w') : PlanV w' G l b :=
 PlanV.mono (fun _ h => h) (fun k hk => hb.block k (hG k hk)) l b h
abbrev planA (n : Nat) (b : Value) : Value := .agg #[.int .i64 n, b]
def MkPost (w : World) (G : Nat -> Prop) (n : Nat) (l : Ls.Ln) : Ending -> World -> Prop := fun e w' =>
 ∃ f caps, e = .returned (planA n (.func (.func f) #[] caps)) /\ PlanV w' (fun k => G k \/ (w.heap.size <= k /\ k < w'.heap.size)) l (.func (.func f) #[] caps) /\ Below w.heap.size w w'
theorem set2_other (w : World) (g : Nat) (x y : Value) (k : Nat) (h : k ≠ g) : ((w.setCell ⟨g, 0, none⟩ x).setCell ⟨g, 1, none⟩ y).heap[k]? = w.heap[k]? := by
 rw [Below.heap_setCell _ _ _ _ (by show k ≠ g; exact h), Below.heap_setCell _ _ _ _ (by show k ≠ g; exact h)]
theorem set2_size (w : World) (g : Nat) (x y : Value) : ((w.setCell ⟨g, 0, none⟩ x).setCell ⟨g, 1, none⟩ y).heap.size = w.heap.size := by simp [World.setCell]
theorem set2_below {w W : World} {g : Nat} (h : Below w.heap.size w W) (hg : w.heap.size <= g) (x y : Value) : Below w.heap.size w ((W.setCell ⟨g, 0, none⟩ x).setCell ⟨g, 1, none⟩ y) :=
 (h.setCell (p := ⟨g, 0, none⟩) hg x).setCell (p := ⟨g, 1, none⟩) hg y
theorem pagain_any (k : Nat) (hk : k = 6 \/ k = 7) (a : Ls.Ln) (n f : Nat) (caps : Array Value) (hn : n <= 1048576) (w : World) (G : Nat -> Prop) (hG : Old w G) (h : PlanV w G a (.func (.func f) #[] caps)) :
  Calls Tryz.prog 131 #[planA n (.func (.func f) #[] caps)] w (MkPost w G (n + 1) ⟨k, Ls.rnil, [], [a]⟩) := by
 have hmf : ∀ (fn : Fn) (first cap : Array Value) (w : World), (Instr.makeFunc fn first cap).run Tryz.prog w = .ok (.func fn first cap) w := fun _ _ _ _ => rfl
 have hb0 : Below w.heap.size w ((w.alloc (.cells #[.int .i64 n, .func (.func f) #[] caps] 119)).alloc (.cells #[.int .i64 (0 : Nat), .nilFunc] 119)) := below_alloc2 w _ _
 have hx : Blk ((w.alloc (.cells #[.int .i64 n, .func (.func f) #[] caps] 119)).alloc (.cells #[.int .i64 (0 : Nat), .nilFunc] 119)) w.heap.size #[.int .i64 n, .func (.func f) #[] caps] 119 := (Blk.new w _ _).of (Below.heap_alloc _ _ _ (by simp))
 have hy : Blk ((w.alloc (.cells #[.int .i64 n, .func (.func f) #[] caps] 119)).alloc (.cells #[.int .i64 (0 : Nat), .nilFunc] 119)) (w.heap.size + 1) #[.int .i64 (0 : Nat), .nilFunc] 119 := by
  have := Blk.new (w.alloc (.cells #[.int .i64 n, .func (.func f) #[] caps] 119)) #[.int .i64 (0 : Nat), .nilFunc] 119
  rw [World.size_alloc] at this
  exact this
 have hz : ((w.alloc (.cells #[.int .i64 n, .func (.func f) #[] caps] 119)).alloc (.cells #[.int .i64 (0 : Nat), .nilFunc] 119)).heap.size = w.heap.size + 1 + 1 := by simp
 have HPL : Hid (PlanV w G a (.func (.func f) #[] caps)) := h
 clear h
 go_enter Tryz.func131, Tryz.ntmps131
 go_upto_region 1 with (fail)
 generalize ((w.alloc (.cells #[.int .i64 n, .func (.func f) #[] caps] 119)).alloc (.cells #[.int .i64 (0 : Nat), .nilFunc] 119)) = W at *
 have HP : Hid (MkPost w G (n + 1) ⟨k, Ls.rnil, [], [a]⟩ (.returned (planA (n + 1) (.func (.func 150) #[] #[.pointer (some ⟨w.heap.size, 0, none⟩)])))
   ((W.setCell ⟨w.heap.size + 1, 0, none⟩ (.int .i64 ((n + 1 : Nat) : Int))).setCell ⟨w.heap.size + 1, 1, none⟩ (.func (.func 150) #[] #[.pointer (some ⟨w.heap.size, 0, none⟩)]))) := by
  refine ⟨_, _, rfl, ?_, set2_below hb0 (by omega) _ _⟩
  rw [PlanV]
  refine ⟨hk, w.heap.size, n, .func (.func f) #[] caps, .inr ⟨Nat.le_refl _, by rw [set2_size, hz]; omega⟩, rfl, hx.of (set2_other _ _ _ _ _ (by omega)), PlanV.mono (fun j hj => .inl hj) (fun j hj => ?_) _ _ HPL.out⟩
  rw [set2_other _ _ _ _ _ (by have := hG j hj; omega)]
  exact hb0.block j (hG j hj)
 obtain ⟨r0, r1, s0, s1⟩ := hy.two
 obtain ⟨x0, x1, y0, y1⟩ := hx.two
 clear hx hy hb0
 go_wp2_with fail
 exact bodyPost_ret (v := planA (n + 1) (.func (.func 150) #[] #[.pointer (some ⟨w.heap.size, 0, none⟩)])) (by simp [results, Tryz.results131, go_sem, r0, r1]) rfl HP.out
theorem joined_any (k : Nat) (hk : k = 3 \/ k = 4 \/ k = 5) (a c : Ls.Ln) (n m f g : Nat) (caps daps : Array Value) (hn : n <= 1048576) (hm : m <= 1048576) (w : World) (G : Nat -> Prop) (hG : Old w G) (h : PlanV w G a (.func (.func f) #[] caps)) (h' : PlanV w G c (.func (.func g) #[] daps)) :
  Calls Tryz.prog 109 #[planA n (.func (.func f) #[] caps), planA m (.func (.func g) #[] daps), .func (.func (joinF k)) #[] #[]] w (MkPost w G (n + m) ⟨k, Ls.rnil, [], [a, c]⟩) := by
 have hmf : ∀ (fn : Fn) (first cap : Array Value) (w : World), (Instr.makeFunc fn first cap).run Tryz.prog w = .ok (.func fn first cap) w := fun _ _ _ _ => rfl
 have hb0 : Below w.heap.size w ((((w.alloc (.cells #[.int .i64 n, .func (.func f) #[] caps] 119)).alloc (.cells #[.int .i64 m, .func (.func g) #[] daps] 119)).alloc (.cells #[.func (.func (joinF k)) #[] #[]] 182)).alloc (.cells #[.int .i64 (0 : Nat), .nilFunc] 119)) := (below_alloc3 w _ _ _).alloc (by simp; omega) _
 have hx : Blk ((((w.alloc (.cells #[.int .i64 n, .func (.func f) #[] caps] 119)).alloc (.cells #[.int .i64 m, .func (.func g) #[] daps] 119)).alloc (.cells #[.func (.func (joinF k)) #[] #[]] 182)).alloc (.cells #[.int .i64 (0 : Nat), .nilFunc] 119)) w.heap.size #[.int .i64 n, .func (.func f) #[] caps] 119 := (((Blk.new w _ _).of (Below.heap_alloc _ _ _ (by simp))).of (Below.heap_alloc _ _ _ (by simp; omega))).of (Below.heap_alloc _ _ _ (by simp; omega))
 have hx2 : Blk ((((w.alloc (.cells #[.int .i64 n, .func (.func f) #[] caps] 119)).alloc (.cells #[.int .i64 m, .func (.func g) #[] daps] 119)).alloc (.cells #[.func (.func (joinF k)) #[] #[]] 182)).alloc (.cells #[.int .i64 (0 : Nat), .nilFunc] 119)) (w.heap.size + 1) #[.int .i64 m, .func (.func g) #[] daps] 119 := by
  have := Blk.new (w.alloc (.cells #[.int .i64 n, .func (.func f) #[] caps] 119)) #[.int .i64 m, .func (.func g) #[] daps] 119
  rw [World.size_alloc] at this
  exact (this.of (Below.heap_alloc _ _ _ (by simp))).of (Below.heap_alloc _ _ _ (by simp))
 have hx3 : Blk ((((w.alloc (.cells #[.int .i64 n, .func (.func f) #[] caps] 119)).alloc (.cells #[.int .i64 m, .func (.func g) #[] daps] 119)).alloc (.cells #[.func (.func (joinF k)) #[] #[]] 182)).alloc (.cells #[.int .i64 (0 : Nat), .nilFunc] 119)) (w.heap.size + 1 + 1) #[.func (.func (joinF k)) #[] #[]] 182 := by
  have := Blk.new ((w.alloc (.cells #[.int .i64 n, .func (.func f) #[] caps] 119)).alloc (.cells #[.int .i64 m, .func (.func g) #[] daps] 119)) #[.func (.func (joinF k)) #[] #[]] 182
  rw [World.size_alloc, World.size_alloc] at this
  exact this.of (Below.heap_alloc _ _ _ (by simp))
 have hy : Blk ((((w.alloc (.cells #[.int .i64 n, .func (.func f) #[] caps] 119)).alloc (.cells #[.int .i64 m, .func (.func g) #[] daps] 119)).alloc (.cells #[.func (.func (joinF k)) #[] #[]] 182)).alloc (.cells #[.int .i64 (0 : Nat), .nilFunc] 119)) (w.heap.size + 1 + 1 + 1) #[.int .i64 (0 : Nat), .nilFunc] 119 := by
  have := Blk.new (((w.alloc (.cells #[.int .i64 n, .func (.func f) #[] caps] 119)).alloc (.cells #[.int .i64 m, .func (.func g) #[] daps] 119)).alloc (.cells #[.func (.func (joinF k)) #[] #[]] 182)) #[.int .i64 (0 : Nat), .nilFunc] 119
  rw [World.size_alloc, World.size_alloc, World.size_alloc] at this
  exact this
 have hz : ((((w.alloc (.cells #[.int .i64 n, .func (.func f) #[] caps] 119)).alloc (.cells #[.int .i64 m, .func (.func g) #[] daps] 119)).alloc (.cells #[.func (.func (joinF k)) #[] #[]] 182)).alloc (.cells #[.int .i64 (0 : Nat), .nilFunc] 119)).heap.size = w.heap.size + 1 + 1 + 1 + 1 := by simp
 have HPL : Hid (PlanV w G a (.func (.func f) #[] caps) /\ PlanV w G c (.func (.func g) #[] daps)) := ⟨h, h'⟩
 clear h h'
 go_enter Tryz.func109, Tryz.ntmps109
 go_upto_region 1 with (fail)
 generalize ((((w.alloc (.cells #[.int .i64 n, .func (.func f) #[] caps] 119)).alloc (.cells #[.int .i64 m, .func (.func g) #[] daps] 119)).alloc (.cells #[.func (.func (joinF k)) #[] #[]] 182)).alloc (.cells #[.int .i64 (0 : Nat), .nilFunc] 119)) = W at *
 have HP : Hid (MkPost w G (n + m) ⟨k, Ls.rnil, [], [a, c]⟩ (.returned (planA (n + m) (.func (.func 121) #[] #[.pointer (some ⟨w.heap.size + 1 + 1, 0, none⟩), .pointer (some ⟨w.heap.size, 0, none⟩), .pointer (some ⟨w.heap.size + 1, 0, none⟩)])))
   ((W.setCell ⟨w.heap.size + 1 + 1 + 1, 0, none⟩ (.int .i64 ((n + m : Nat) : Int))).setCell ⟨w.heap.size + 1 + 1 + 1, 1, none⟩ (.func (.func 121) #[] #[.pointer (some ⟨w.heap.size + 1 + 1, 0, none⟩), .pointer (some ⟨w.heap.size, 0, none⟩), .pointer (some ⟨w.heap.size + 1, 0, none⟩)]))) := by
  refine ⟨_, _, rfl, ?_, set2_below hb0 (by omega) _ _⟩
  have hin : ∀ j, w.heap.size <= j -> j < w.heap.size + 1 + 1 + 1 -> G j \/ (w.heap.size <= j /\ j < ((W.setCell ⟨w.heap.size + 1 + 1 + 1, 0, none⟩ (.int .i64 ((n + m : Nat) : Int))).setCell ⟨w.heap.size + 1 + 1 + 1, 1, none⟩ (.func (.func 121) #[] #[.pointer (some ⟨w.heap.size + 1 + 1, 0, none⟩), .pointer (some ⟨w.heap.size, 0, none⟩), .pointer (some ⟨w.heap.size + 1, 0, none⟩)])).heap.size) := fun j h1 h2 => .inr ⟨h1, by rw [set2_size, hz]; omega⟩
  have hmo : ∀ j, G j -> ((W.setCell ⟨w.heap.size + 1 + 1 + 1, 0, none⟩ (.int .i64 ((n + m : Nat) : Int))).setCell ⟨w.heap.size + 1 + 1 + 1, 1, none⟩ (.func (.func 121) #[] #[.pointer (some ⟨w.heap.size + 1 + 1, 0, none⟩), .pointer (some ⟨w.heap.size, 0, none⟩), .pointer (some ⟨w.heap.size + 1, 0, none⟩)])).heap[j]? = w.heap[j]? := fun j hj => by
   rw [set2_other _ _ _ _ _ (by have := hG j hj; omega)]
   exact hb0.block j (hG j hj)
  rw [PlanV]
  exact ⟨hk, w.heap.size + 1 + 1, w.heap.size, w.heap.size + 1, n, m, _, _, hin _ (by omega) (by omega), hin _ (by omega) (by omega), hin _ (by omega) (by omega), rfl, hx3.of (set2_other _ _ _ _ _ (by omega)), hx.of (set2_other _ _ _ _ _ (by omega)), hx2.of (set2_other _ _ _ _ _ (by omega)), PlanV.mono (fun j hj => .inl hj) hmo _ _ HPL.out.1, PlanV.mono (fun j hj => .inl hj) hmo _ _ HPL.out.2⟩
 obtain ⟨r0, r1, s0, s1⟩ := hy.two
 obtain ⟨x0, x1, y0, y1⟩ := hx.two
 obtain ⟨u0, u1, v0, v1⟩ := hx2.two
 clear hx hy hb0 hx2 hx3
 go_wp2_with fail
 exact bodyPost_ret (v := planA (n + m) (.func (.func 121) #[] #[.pointer (some ⟨w.heap.size + 1 + 1, 0, none⟩), .pointer (some ⟨w.heap.size, 0, none⟩), .pointer (some ⟨w.heap.size + 1, 0, none⟩)])) (by simp [results, Tryz.results109, go_sem, r0, r1]) rfl HP.out
end Go.Proofs.YtkfokddlgmcimaaGreatDoor
namespace Go.Proofs.YtkfokddlgmcimaaGreatDoor
open Go.RowKit
def PlPost (w : World) (rb : Nat) (s : ByteArray) (i z : Nat) (a1 : Addr) (res : Ls.Rl) : Ending -> World -> Prop := fun e w' =>
 (∃ l j f caps, res = some (l, rest s j) /\ i + Ls.lsize l <= j /\ j <= s.size /\ e = .returned (planA (Ls.lsize l) (.func (.func f) #[] caps)) /\ PlanV w' (New w w') l (.func (.func f) #[] caps) /\ RLeft w rb s j z w') \/
 (res = .none /\ Threw w rb a1 e w')
structure Inp (w : World) (rb : Nat) (s : ByteArray) (at_ dep : Nat) (w' : World) : Prop where
 inn : In 157 w rb s at_ dep w'
 res : Blk w' (w.heap.size + 1) #[.int .i64 (0 : Nat), .nilFunc] 119
abbrev inpW (w : World) (rb : Nat) : World := (w.alloc (bxO 157 rb)).alloc (.cells #[.int .i64 (0 : Nat), .nilFunc] 119)
section
variable {w w1 w2 : World} {rb : Nat} {s : ByteArray} {a z a' z' : Nat}
theorem Inp.enter (h : RB w rb s a z) : Inp w rb s a z (inpW w rb) := by
 refine ⟨(In.enter _ h).below (below_alloc1 _ _), ?_⟩
 have := Blk.new (w.alloc (bxO 157 rb)) #[.int .i64 (0 : Nat), .nilFunc] 119
 rw [World.size_alloc] at this
 exact this
theorem Inp.go (h : Inp w rb s a z w1) (k : RLeft w1 rb s a' z' w2) : Inp w rb s a' z' w2 :=
 ⟨h.inn.go k, h.res.of (k.grown.block _ h.res.lt (by have := h.inn.old; simp; omega))⟩
theorem Inp.below (h : Inp w rb s a z w1) (hb : Below w1.heap.size w1 w2) : Inp w rb s a z w2 := ⟨h.inn.below hb, h.res.below hb h.res.lt⟩
theorem Inp.lies (h : Inp w rb s a z w1) : RB w1 rb s a z := h.inn.lies
theorem Inp.cell (h : Inp w rb s a z w1) : w1.cell? ⟨w.heap.size, 0, none⟩ = some (.pointer (some ⟨rb, 0, none⟩)) := h.inn.cell
theorem Inp.env (h : Inp w rb s a z w1) {a1 : Addr} (hE : Env w rb a1) : Env w1 rb a1 := h.inn.env hE
theorem Inp.threw (h : Inp w rb s a z w1) {r : Option Nat} (hr : r = some rb) (hg : w1.grownBy w2 r) : w.grownBy w2 (some rb) := h.inn.threw hr hg
theorem Inp.size (h : Inp w rb s a z w1) : w.heap.size + 1 < w1.heap.size := h.res.lt
theorem Inp.ret (h : Inp w rb s a z w1) {i : Nat} {a1 : Addr} {rs : Ls.Rl} {l : Ls.Ln} {f : Nat} {caps : Array Value} (hr : rs = some (l, rest s a)) (hsz : i + Ls.lsize l <= a) (ha : a <= s.size)
  (hp : PlanV w1 (fun k => w.heap.size + 1 < k /\ k < w1.heap.size) l (.func (.func f) #[] caps)) :
  PlPost w rb s i z a1 rs (.returned (planA (Ls.lsize l) (.func (.func f) #[] caps))) ((w1.setCell ⟨w.heap.size + 1, 0, none⟩ (.int .i64 (Ls.lsize l))).setCell ⟨w.heap.size + 1, 1, none⟩ (.func (.func f) #[] caps)) := by
 refine .inl ⟨l, a, f, caps, hr, hsz, ha, rfl, PlanV.mono (fun _ hk => ⟨by omega, by rw [set2_size]; exact hk.2⟩) (fun _ hk => set2_other _ _ _ _ _ (by omega)) _ _ hp, h.inn.left.res2 (by omega) h.inn.old _ _⟩
end
theorem slash_few {z : Nat} {r : List UInt8} {d : Ls.D} {u : List UInt8} (h : Ls.slashR (Ls.pat z) r = some (d, u)) : dn d <= 4 * r.length + 2 /\ Ls.dsize d + u.length <= r.length := by
 unfold Ls.slashR at h
 split at h
 ·cases h
 ·rename_i d' t hp
  split at h
  ·rename_i h47
   simp at h
   obtain ⟨rfl, rfl⟩ := h
   have h1 := pat_few _ _ _ _ hp
   have h2 := Ls.pat_siz _ _ _ _ hp
   have h3 := Ls.tail_len h47
   omega
  ·cases h
def copyR (P : List UInt8 -> Ls.Rd) (r : List UInt8) : Ls.Rl :=
 match Ls.slashR P r with
 | .none => .none
 | some (d, u) => some (Ls.copyL d, u)
theorem pcopied_any (s : ByteArray) (hs : s.size <= 120) (a1 : Addr) (z : Nat) (hz : z <= 12) (rb i : Nat) (w : World) (h : RB w rb s i z) (hE : Env w rb a1) (hi : i <= s.size) :
  Calls Tryz.prog 129 #[rdV rb] w (PlPost w rb s i z a1 (copyR (Ls.pat (13 - z)) (rest s i))) := by
 have hmf : ∀ (fn : Fn) (first cap : Array Value) (w : World), (Instr.makeFunc fn first cap).run Tryz.prog w = .ok (.func fn first cap) w := fun _ _ _ _ => rfl
 have HI0 : Hid (Inp w rb s i z (inpW w rb)) := Inp.enter h
 have hC := ppattern_any s (by omega) a1 z hz rb i _ HI0.out.lies (HI0.out.env hE) hi
 have hz0 : (inpW w rb).heap.size = w.heap.size + 1 + 1 := by simp
 go_enter Tryz.func129, Tryz.ntmps129
 go_wp2_with fail
 refine hC.mono ?_
 clear hC
 generalize inpW w rb = W0 at *
 rintro e w1 (⟨d, j, v, hr, hij, hj, rfl, hrep, hl⟩ | ⟨hr, rfl, hg⟩)
 ·have hI1 := HI0.out.go hl
  obtain ⟨ty, x, rfl⟩ := hrep.iface
  have hfew := slash_few hr
  rw [rest_len, rest_len] at hfew
  have HR : Hid (copyR (Ls.pat (13 - z)) (rest s i) = some (Ls.copyL d, rest s j)) := by
   show _ = _
   unfold copyR
   rw [hr]
  have hb2 := below_alloc1 w1 (.cells #[.iface ty x] 82)
  have hx2 := Blk.new w1 #[.iface ty x] 82
  have hz2 : (w1.alloc (.cells #[.iface ty x] 82)).heap.size = w1.heap.size + 1 := by simp
  have hI2 := hI1.below hb2
  have hrep2 : Rep (w1.alloc (.cells #[.iface ty x] 82)) (New W0 (w1.alloc (.cells #[.iface ty x] 82))) 0 d [.iface ty x] := hrep.mono (fun k hk => ⟨hk.1, by have := hk.2; omega⟩) (fun k hk => hb2.block k hk.2)
  have hzl := hl.grown.size
  clear hr hrep hb2
  go_upto_region 2 with (fail)
  generalize w1.alloc (.cells #[.iface ty x] 82) = w2 at *
  obtain ⟨q0, q1⟩ := hx2.one
  obtain ⟨f, hm, hcf, hf⟩ := size_any (dn d) d (Nat.le_refl _) (by omega) (by omega) w2 (New W0 w2) ty x (fun k hk => hk.2) hrep2
  have HX2 : Hid (Blk w2 w1.heap.size #[.iface ty x] 82) := hx2
  have HREP : Hid (Rep w2 (New W0 w2) 0 d [.iface ty x]) := hrep2
  have HI2 : Hid (Inp w rb s j z w2) := hI2
  clear hx2 hrep2 hI2 hI1
  go_wp2_with fail
  refine hf.mono ?_
  rintro e w3 ⟨rfl, hb3⟩
  have hI3 := HI2.out.below hb3
  obtain ⟨r0, r1, s0, s1⟩ := hI3.res.two
  have hz3 := hb3.size
  have HP : Hid (PlPost w rb s i z a1 (copyR (Ls.pat (13 - z)) (rest s i)) (.returned (planA (Ls.dsize d) (.func (.func 145) #[] #[.pointer (some ⟨w1.heap.size, 0, none⟩)]))) ((w3.setCell ⟨w.heap.size + 1, 0, none⟩ (.int .i64 (Ls.dsize d))).setCell ⟨w.heap.size + 1, 1, none⟩ (.func (.func 145) #[] #[.pointer (some ⟨w1.heap.size, 0, none⟩)]))) := by
   have := hI3.ret (i := i) (a1 := a1) (l := Ls.copyL d) (f := 145) (caps := #[.pointer (some ⟨w1.heap.size, 0, none⟩)]) HR.out (by rw [Ls.lsize_copy]; omega) hj (by
    unfold Ls.copyL
    rw [PlanV]
    exact .inl ⟨rfl, w1.heap.size, .iface ty x, ⟨by omega, by omega⟩, rfl, HX2.out.of (hb3.block _ (by omega)), HREP.out.mono (fun k hk => ⟨by have := hk.1; omega, by have := hk.2; omega⟩) (fun k hk => hb3.block k hk.2)⟩)
   rw [Ls.lsize_copy] at this
   exact this
  clear hf
  go_wp2_with fail
  exact bodyPost_ret (v := planA (Ls.dsize d) (.func (.func 145) #[] #[.pointer (some ⟨w1.heap.size, 0, none⟩)])) (by simp [results, Tryz.results129, go_sem, r0, r1]) rfl HP.out
 ·have HN : Hid (copyR (Ls.pat (13 - z)) (rest s i) = .none) := by
   show _ = _
   unfold copyR
   rw [hr]
  go_wp2_with fail
  exact ⟨rfl, .inr ⟨HN.out, rfl, HI0.out.threw rfl hg⟩⟩
def putR (r : List UInt8) : Ls.Rl :=
 match Ls.wordR r with
 | .none => .none
 | some (ws, u) => some (Ls.putL ws, u)
theorem pputIn_any (s : ByteArray) (hs : s.size <= 120) (a1 : Addr) (z rb i : Nat) (w : World) (h : RB w rb s i z) (hE : Env w rb a1) (hi : i <= s.size) :
  Calls Tryz.prog 134 #[rdV rb] w (PlPost w rb s i z a1 (putR (rest s i))) := by
 have hmf : ∀ (fn : Fn) (first cap : Array Value) (w : World), (Instr.makeFunc fn first cap).run Tryz.prog w = .ok (.func fn first cap) w := fun _ _ _ _ => rfl
 have HI0 : Hid (Inp w rb s i z (inpW w rb)) := Inp.enter h
 have hC := pword_any s (by omega) a1 z rb i _ HI0.out.lies (HI0.out.env hE) hi
 have hz0 : (inpW w rb).heap.size = w.heap.size + 1 + 1 := by simp
 go_enter Tryz.func134, Tryz.ntmps134
 go_wp2_with fail
 refine hC.mono ?_
 clear hC
 generalize inpW w rb = W0 at *
 rintro e w1 (⟨ws, j, hr, hij, hj, rfl, hl⟩ | ⟨hr, rfl, hg⟩)
 ·have hI1 := HI0.out.go hl
  have HR : Hid (putR (rest s i) = some (Ls.putL ws, rest s j)) := by
   show _ = _
   unfold putR
   rw [hr]
  have hb2 := below_alloc1 w1 (.cells #[.string ⟨ws.toArray⟩] 9)
  have hx2 := Blk.new w1 #[.string ⟨ws.toArray⟩] 9
  have hz2 : (w1.alloc (.cells #[.string ⟨ws.toArray⟩] 9)).heap.size = w1.heap.size + 1 := by simp
  have hI2 := hI1.below hb2
  have hzl := hl.grown.size
  clear hr hb2
  go_upto_region 2 with (fail)
  generalize w1.alloc (.cells #[.string ⟨ws.toArray⟩] 9) = w2 at *
  obtain ⟨q0, q1⟩ := hx2.one
  obtain ⟨r0, r1, s0, s1⟩ := hI2.res.two
  have HP : Hid (PlPost w rb s i z a1 (putR (rest s i)) (.returned (planA ws.length (.func (.func 156) #[] #[.pointer (some ⟨w1.heap.size, 0, none⟩)]))) ((w2.setCell ⟨w.heap.size + 1, 0, none⟩ (.int .i64 ws.length)).setCell ⟨w.heap.size + 1, 1, none⟩ (.func (.func 156) #[] #[.pointer (some ⟨w1.heap.size, 0, none⟩)]))) := by
   have := hI2.ret (i := i) (a1 := a1) (l := Ls.putL ws) (f := 156) (caps := #[.pointer (some ⟨w1.heap.size, 0, none⟩)]) HR.out (by rw [Ls.lsize_put]; omega) hj (by
    unfold Ls.putL
    rw [PlanV]
    exact .inr (.inr ⟨rfl, w1.heap.size, ⟨by omega, by omega⟩, rfl, hx2⟩))
   rw [Ls.lsize_put] at this
   exact this
  have hsz : (ByteArray.mk ws.toArray).size = ws.length := by simp [ByteArray.size]
  clear hx2 hI2 hI1
  go_wp2_with fail
  exact bodyPost_ret (v := planA ws.length (.func (.func 156) #[] #[.pointer (some ⟨w1.heap.size, 0, none⟩)])) (by simp [results, Tryz.results134, go_sem, r0, r1]) rfl HP.out
 ·have HN : Hid (putR (rest s i) = .none) := by
   show _ = _
   unfold putR
   rw [hr]
  go_wp2_with fail
  exact ⟨rfl, .inr ⟨HN.out, rfl, HI0.out.threw rfl hg⟩⟩
end Go.Proofs.YtkfokddlgmcimaaGreatDoor
