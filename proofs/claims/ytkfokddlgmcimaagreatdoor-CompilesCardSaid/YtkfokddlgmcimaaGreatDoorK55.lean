import Derived.Test.YtkfokddlgmcimaaGreatDoorK40
import Derived.Test.YtkfokddlgmcimaaGreatDoorK54
import Derived.Test.YtkfokddlgmcimaaGreatDoorK04
set_option maxRecDepth 100000
set_option maxHeartbeats 4000000
namespace Go.Proofs.YtkfokddlgmcimaaGreatDoor
open Go.RowKit
def BuildPost (w w0 : World) (P : Nat) (a3 : Addr) (l : Ls.Ln) : Ending -> World -> Prop := fun e w' =>
  (∀ k, k < w0.heap.size -> k ≠ P -> w'.heap[k]? = w0.heap[k]?) /\ Below w.heap.size w w' /\ w0.heap.size <= w'.heap.size /\
  ((typedP l /\ ∃ p, e = .returned (.tuple #[]) /\ Blk w' P #[.pointer (some ⟨p, 0, none⟩)] 71 /\ PartV w' (fun k => w.heap.size <= k /\ k < w'.heap.size /\ k ≠ P /\ k ≠ w0.heap.size - 1) p l) \/
   (¬ typedP l /\ e = .panicked [{ v := errS a3, recovered := false }] /\ Blk w' P #[.pointer none] 71))
theorem readDo_any (l : Ls.Ln) (hB : BuildSaid l) (n f : Nat) (caps : Array Value) (a3 : Addr) (w w0 : World) (A : Nat) (hA : w.heap.size <= A) (hz : w0.heap.size = A + 1 + 1 + 1) (hb0 : Below w.heap.size w w0) (bA : Blk w0 A #[.int .i64 n, .func (.func f) #[] caps] 119) (bP : Blk w0 (A + 1) #[.pointer none] 71)
    (hpl : PlanV w0 (fun k => w.heap.size <= k /\ k < A) l (.func (.func f) #[] caps)) (hc : EType w0 a3) :
    Calls Tryz.prog 67 #[.pointer (some ⟨A, 0, none⟩), .pointer (some ⟨A + 1, 0, none⟩)] w0 (BuildPost w w0 (A + 1) a3 l) := by
  obtain ⟨hcf, hC⟩ := hB w0 _ f caps a3 (fun k hk => by have := hk.2; omega) hpl hc
  obtain ⟨c0, c1, c2, c3⟩ := bA.two
  have HZ : Hid (w0.heap.size = A + 1 + 1 + 1) := hz
  have HBP : Hid (Blk w0 (A + 1) #[.pointer none] 71) := bP
  clear bA bP hpl hB hz
  generalize hF : typedP l = F at *
  have HF : Hid (F = typedP l) := hF.symm
  clear hF
  go_enter Tryz.func67, Tryz.ntmps67
  go_wp2_with fail
  refine hC.mono ?_
  clear hC
  rintro e w1 (⟨ht, p, rfl, hpv, hb1⟩ | ⟨hno, rfl, hb1⟩)
  · have bP1 := HBP.out.below hb1 HBP.out.lt
    obtain ⟨q0, q1⟩ := bP1.one
    have hz1 := hb1.size
    have HQ : Hid (BuildPost w w0 (A + 1) a3 l (.returned (.tuple #[])) (w1.setCell ⟨A + 1, 0, none⟩ (.pointer (some ⟨p, 0, none⟩)))) := by
      have hz := HZ.out
      refine ⟨fun k hk hn => ?_, (Below.join hb0 hb1).setCell (p := ⟨A + 1, 0, none⟩) (by show w.heap.size <= A + 1; omega) _, by simp [World.setCell]; exact hz1, .inl ⟨by rw [<- HF.out]; exact ht, p, rfl, ?_, hpv.mono (fun k hk => ?_) (fun k hk => Below.heap_setCell _ _ _ _ ?_)⟩⟩
      · rw [Below.heap_setCell _ _ _ _ hn]; exact hb1.block k hk
      · have := bP1
        unfold Blk at this ⊢
        simp [World.setCell, Array.getElem?_modify, this]
      · rw [show (w1.setCell ⟨A + 1, 0, none⟩ (.pointer (some ⟨p, 0, none⟩))).heap.size = w1.heap.size from by simp [World.setCell]]
        rcases hk with h | h
        · exact ⟨h.1, by have := h.2; omega, by have := h.2; omega, by have := h.2; omega⟩
        · exact ⟨by have := h.1; omega, h.2, by have := h.1; omega, by have := h.1; omega⟩
      · show k ≠ A + 1
        rcases hk with h | h
        · have := h.2; omega
        · have := h.1; omega
    clear hpv bP1 ht
    go_wp2_with fail
    go_end0
    exact HQ.out
  · have HQ : Hid (BuildPost w w0 (A + 1) a3 l (.panicked [{ v := errS a3, recovered := false }]) w1) := ⟨fun k hk _ => hb1.block k hk, Below.join hb0 hb1, hb1.size, .inr ⟨by rw [<- HF.out]; exact hno, rfl, HBP.out.below hb1 HBP.out.lt⟩⟩
    clear hno
    go_wp2_with fail
    exact ⟨rfl, HQ.out⟩
def PReadPost (s : ByteArray) (a0 a1 a2 a3 : Addr) (w : World) : Ending -> World -> Prop := fun e w' => Below w.heap.size w w' /\
  ((∃ l p, progAll s.data.toList = some l /\ Ls.OkL 120 l /\ cn l <= 100000 /\ Ls.lsize l <= 24 /\ CompIs s.data.toList 0 /\ e = .returned (.tuple #[.pointer (some ⟨p, 0, none⟩), .nilIface]) /\ PartV w' (New w w') p l) \/
   (∃ r, (r = 1 \/ r = 2 \/ r = 3 \/ r = 4) /\ CompIs s.data.toList r /\ e = .returned (.tuple #[.pointer none, errS (errA a0 a1 a2 a3 r)])))
theorem pRead_any (s : ByteArray) (hs : s.size <= 1048576) (w : World) (a0 a1 a2 a3 : Addr) (hS : Sent w a0 a1 a2 a3) :
    Calls Tryz.prog 35 #[.string s] w (PReadPost s a0 a1 a2 a3 w) := by
  have hmf : ∀ (fn : Fn) (first cap : Array Value) (w : World), (Instr.makeFunc fn first cap).run Tryz.prog w = .ok (.func fn first cap) w := fun _ _ _ _ => rfl
  have hne : ∀ (a : Addr) w, (binOp .neq 73 (errS a) .nilIface).run Tryz.prog w = .ok (.bool true) w := fun a w => by kernel_rfl
  have hnn : ∀ w, (binOp .neq 73 .nilIface .nilIface).run Tryz.prog w = .ok (.bool false) w := fun w => by kernel_rfl
  have hW := wholeP_any s hs w a0 a1 a2 a3 hS
  have HS : Hid (Sent w a0 a1 a2 a3) := hS
  clear hS
  go_enter Tryz.func35, Tryz.ntmps35
  go_wp2_with fail
  refine hW.mono ?_
  clear hW
  rintro e w1 ⟨hb1, ⟨l, f, caps, hlen, hpr, hok, hcn, h24, rfl, hpl⟩ | ⟨r, hr, hcp, rfl⟩⟩
  · have HP : Hid (progAll s.data.toList = some l /\ Ls.OkL 120 l /\ cn l <= 100000 /\ Ls.lsize l <= 24 /\ s.data.toList.length <= 120) := ⟨hpr, hok, hcn, h24, hlen⟩
    clear hlen hpr hok hcn h24
    go_wp2_with fail
    have hb3 := below_alloc2 w1 (.cells #[.int .i64 (Ls.lsize l), .func (.func f) #[] caps] 119) (.cells #[.pointer none] 71)
    have hz3 : ((w1.alloc (.cells #[.int .i64 (Ls.lsize l), .func (.func f) #[] caps] 119)).alloc (.cells #[.pointer none] 71)).heap.size = w1.heap.size + 1 + 1 := by simp
    have bA : Blk ((w1.alloc (.cells #[.int .i64 (Ls.lsize l), .func (.func f) #[] caps] 119)).alloc (.cells #[.pointer none] 71)) w1.heap.size #[.int .i64 (Ls.lsize l), .func (.func f) #[] caps] 119 := (Blk.new w1 _ _).of (Below.heap_alloc _ _ _ (by simp))
    have bP : Blk ((w1.alloc (.cells #[.int .i64 (Ls.lsize l), .func (.func f) #[] caps] 119)).alloc (.cells #[.pointer none] 71)) (w1.heap.size + 1) #[.pointer none] 71 := by
      have := Blk.new (w1.alloc (.cells #[.int .i64 (Ls.lsize l), .func (.func f) #[] caps] 119)) #[.pointer none] 71
      rw [World.size_alloc] at this
      exact this
    generalize ((w1.alloc (.cells #[.int .i64 (Ls.lsize l), .func (.func f) #[] caps] 119)).alloc (.cells #[.pointer none] 71)) = W3 at *
    have hb4 := below_alloc1 W3 (.cells #[.nilIface] 73)
    have he4 : (W3.alloc (.cells #[.nilIface] 73)).heap[W3.heap.size]? = some (.cells #[.nilIface] 73 (0, 0)) := heap_alloc_new _ _
    have hz4 : (W3.alloc (.cells #[.nilIface] 73)).heap.size = W3.heap.size + 1 := by simp
    have hb14 := Below.join hb3 hb4
    have hbw4 := Below.join hb1 hb14
    have hdo := readDo_any l (build_all l HP.out.2.1 HP.out.2.2.2.1 HP.out.2.2.1) (Ls.lsize l) f caps a3 w (W3.alloc (.cells #[.nilIface] 73)) w1.heap.size hb1.size (by omega) hbw4 (bA.below hb4 bA.lt) (bP.below hb4 bP.lt) (PlanV.mono (fun k hk => hk) (fun k hk => hb14.block k hk.2) _ _ hpl) (HS.out.below hbw4).c3
    have hca := caught_any 67 _ (fun w => by kernel_rfl) W3 _ hdo (fun e w' hq => ⟨by rw [hq.1 _ (by omega) (by omega)]; exact he4, by
      rcases hq.2.2.2 with ⟨_, p, h, _⟩ | ⟨_, h, _⟩
      · exact .inl h
      · exact .inr ⟨a3, h⟩⟩)
    have HZ3 : Hid (W3.heap.size = w1.heap.size + 1 + 1) := hz3
    clear hdo bA bP hpl hb3 he4 hb14 hbw4 hz3
    refine hca.mono ?_
    clear hca
    rintro e w5 ⟨e1, w4, hq, hcase⟩
    obtain ⟨hk, hb5, hz5, hq4⟩ := hq
    have hz1 := hb1.size
    rcases hq4 with ⟨hty, p, rfl, hbp, hpv⟩ | ⟨hno, rfl, hbp⟩
    · rcases hcase with ⟨_, rfl, rfl⟩ | ⟨a, h, _⟩
      rotate_left
      · cases h
      have hbp2 : Blk (w4.setCell ⟨W3.heap.size, 0, none⟩ .nilIface) (w1.heap.size + 1) #[.pointer (some ⟨p, 0, none⟩)] 71 := hbp.of (Below.heap_setCell _ _ _ _ (by show w1.heap.size + 1 ≠ W3.heap.size; have := HZ3.out; omega))
      obtain ⟨q0, q1⟩ := hbp2.one
      have HQ : Hid (PReadPost s a0 a1 a2 a3 w (.returned (.tuple #[.pointer (some ⟨p, 0, none⟩), .nilIface])) (w4.setCell ⟨W3.heap.size, 0, none⟩ .nilIface)) := by
        have hz3 := HZ3.out
        refine ⟨hb5.setCell (p := ⟨W3.heap.size, 0, none⟩) (by show w.heap.size <= W3.heap.size; omega) _, .inl ⟨l, p, HP.out.1, HP.out.2.1, HP.out.2.2.1, HP.out.2.2.2.1, .inr ⟨HP.out.2.2.2.2, .inr ⟨l, HP.out.1, .inr ⟨HP.out.2.2.2.1, .inr ⟨hty, rfl⟩⟩⟩⟩, rfl, hpv.mono (fun k hk => ⟨hk.1, by have := hk.2.1; simp [World.setCell]; exact this⟩) (fun k hk => Below.heap_setCell _ _ _ _ (by show k ≠ W3.heap.size; have := hk.2.2.2; omega))⟩⟩
      clear hk hpv hbp hbp2 hty
      go_wp2_with fail
      go_ret2
      exact HQ.out
    · rcases hcase with ⟨h, _⟩ | ⟨a, h, rfl, rfl⟩
      · cases h
      injection h with h
      injection h with h
      injection h with h
      injection h with h h'
      injection h' with h'
      injection h' with h'
      subst h'
      have hbp2 : Blk (w4.setCell ⟨W3.heap.size, 0, none⟩ (errS a3)) (w1.heap.size + 1) #[.pointer none] 71 := hbp.of (Below.heap_setCell _ _ _ _ (by show w1.heap.size + 1 ≠ W3.heap.size; have := HZ3.out; omega))
      obtain ⟨q0, q1⟩ := hbp2.one
      have HQ : Hid (PReadPost s a0 a1 a2 a3 w (.returned (.tuple #[.pointer none, errS a3])) (w4.setCell ⟨W3.heap.size, 0, none⟩ (errS a3))) := by
        have hz3 := HZ3.out
        exact ⟨hb5.setCell (p := ⟨W3.heap.size, 0, none⟩) (by show w.heap.size <= W3.heap.size; omega) _, .inr ⟨4, by omega, .inr ⟨HP.out.2.2.2.2, .inr ⟨l, HP.out.1, .inr ⟨HP.out.2.2.2.1, .inl ⟨hno, rfl⟩⟩⟩⟩, rfl⟩⟩
      clear hk hbp hbp2 hno
      go_wp2_with fail
      go_ret2
      exact HQ.out
  · have HQ : Hid (PReadPost s a0 a1 a2 a3 w (.returned (.tuple #[.pointer none, errS (errA a0 a1 a2 a3 r)])) (w1.alloc (.cells #[.int .i64 0, .nilFunc] 119))) := ⟨Below.join hb1 (below_alloc1 _ _), .inr ⟨r, by omega, hcp, rfl⟩⟩
    clear hr hcp
    generalize errA a0 a1 a2 a3 r = ad at *
    go_wp2_with fail
    go_ret2
    exact HQ.out
end Go.Proofs.YtkfokddlgmcimaaGreatDoor
namespace Go.Proofs.YtkfokddlgmcimaaGreatDoor
open Go.RowKit
def CompilePost (s : ByteArray) (w : World) : Ending -> World -> Prop := fun e w' =>
 ∃ (v : Option Addr) (r : Nat), e = .returned (.tuple #[.pointer v, .int .i64 r]) /\ CompIs s.data.toList r /\ r <= 4 /\ (v.isSome = true ↔ r = 0) /\ Below w.heap.size w w' /\
  (r = 0 -> ∃ l L p, v = some ⟨L, 0, none⟩ /\ progAll s.data.toList = some l /\ Ls.OkL 120 l /\ cn l <= 100000 /\ Ls.lsize l <= 24 /\ w.heap.size <= L /\ Blk w' L #[.pointer (some ⟨p, 0, none⟩)] 78 /\ PartV w' (New w w') p l)
theorem compile_said (s : ByteArray) (hs : s.size <= 1048576) (w : World) (a0 a1 a2 a3 : Addr) (hS : Sent w a0 a1 a2 a3) :
  Calls Tryz.prog 14 #[.string s] w (CompilePost s w) := by
 have hne : ∀ (a : Addr) w, (binOp .neq 73 (errS a) .nilIface).run Tryz.prog w = .ok (.bool true) w := fun a w => by kernel_rfl
 have hnn : ∀ w, (binOp .neq 73 .nilIface .nilIface).run Tryz.prog w = .ok (.bool false) w := fun w => by kernel_rfl
 have hR := pRead_any s hs w a0 a1 a2 a3 hS
 have HS : Hid (Sent w a0 a1 a2 a3) := hS
 clear hS
 go_enter Tryz.func14, Tryz.ntmps14
 go_wp2_with fail
 refine hR.mono ?_
 clear hR
 rintro e w1 ⟨hb1, ⟨l, p, hpr, hok, hcn, h24, hcp, rfl, hpv⟩ | ⟨r, hr, hcp, rfl⟩⟩
 ·have hb2 := below_alloc1 w1 (.cells #[.pointer (some ⟨p, 0, none⟩)] 78)
  have hz1 := hb1.size
  have HQ : Hid (CompilePost s w (.returned (.tuple #[.pointer (some ⟨w1.heap.size, 0, none⟩), .int .i64 0])) (w1.alloc (.cells #[.pointer (some ⟨p, 0, none⟩)] 78))) := by
   refine ⟨some ⟨w1.heap.size, 0, none⟩, 0, rfl, hcp, by omega, by simp, Below.join hb1 hb2, fun _ => ⟨l, w1.heap.size, p, rfl, hpr, hok, hcn, h24, hz1, Blk.new w1 _ _, hpv.mono (fun k hk => ⟨hk.1, by have := hk.2; simp; omega⟩) (fun k hk => hb2.block k hk.2)⟩⟩
  clear hpr hok hcn h24 hcp hpv hb2
  go_wp2_with fail
  go_ret2
  exact HQ.out
 ·have hE := errno_any w1 a0 a1 a2 a3 (HS.out.below hb1) r hr
  have HQ : Hid (CompilePost s w (.returned (.tuple #[.pointer none, .int .i64 r])) w1) := ⟨none, r, rfl, hcp, by omega, by simp; omega, hb1, fun h => by omega⟩
  clear hr hcp
  generalize errA a0 a1 a2 a3 r = ad at *
  go_wp2_with fail
  refine hE.mono ?_
  rintro e w2 ⟨rfl, rfl⟩
  go_wp2_with fail
  go_ret2
  exact HQ.out
theorem compiles_long (s : ByteArray) (w : World) (_hs : s.size <= maxLen) (h : 1048576 < s.size) :
  Calls Tryz.prog 4 #[.string s] w fun e w' => e = .returned (.bool true) /\ Below w.heap.size w w' := by
 have hd : (1048576 : Int) < (s.size : Int) := by omega
 go_enter Tryz.func4, Tryz.ntmps4
 go_wp2_with fail
 go_ret
 exact ⟨rfl, Below.refl _ _⟩
theorem compiles_short (s : ByteArray) (w : World) (hs : s.size <= 1048576) (hC : Calls Tryz.prog 14 #[.string s] w (CompilePost s w)) :
  Calls Tryz.prog 4 #[.string s] w fun e w' => e = .returned (.bool true) /\ Below w.heap.size w w' := by
 have hd : ¬ (1048576 : Int) < (s.size : Int) := by omega
 go_enter Tryz.func4, Tryz.ntmps4
 go_wp2_with fail
 refine hC.mono ?_
 rintro e w1 ⟨v, r, rfl, hr, hr4, hv, hb1, _⟩
 have HR : Hid (CompIs s.data.toList r) := hr
 have HV : Hid (v.isSome = true ↔ r = 0) := hv
 clear hr hv hC
 go_wp2_with fail
 refine (compile_any s w1).mono ?_
 rintro e w2 ⟨k, p, ws, y1, y2, y3, x1, x2, x3, r2, rfl, hr2, hb2, _⟩
 have hrr : r2 = r := hr2.one HR.out
 subst hrr
 have HE : Hid ((v.isSome == ((r2 : Int) == 0)) = true) := by
  show _ = true
  rw [beq_iff_eq, Bool.eq_iff_iff, HV.out, beq_iff_eq]
  omega
 clear hr2 HR HV
 go_wp2_with fail
 go_ret
 refine ⟨?_, Below.join (Below.join hb1 hb2) (below_alloc1 _ _)⟩
 show Ending.returned (.bool (v.isSome == ((r2 : Int) == 0))) = _
 rw [HE.out]
end Go.Proofs.YtkfokddlgmcimaaGreatDoor
namespace Go.Proofs.YtkfokddlgmcimaaGreatDoor
open Go.ChangeShapes Go.WideShapes Go.ChangeAt Go.RowKit
open Go.ChangeMaps (open_string shut_string)
theorem compiles_law (a : ByteArray) (w : World) (ha : a.size <= maxLen) {a0 a1 a2 a3 : Addr} (hs : Sent w a0 a1 a2 a3) :
  Calls Tryz.prog 4 #[.string a] w fun e w' => e = .returned (.bool true) /\ Below w.heap.size w w' := by
 by_cases h1 : 1048576 < a.size
 ·exact compiles_long a w ha h1
 ·exact compiles_short a w (by omega) (compile_said a (by omega) w a0 a1 a2 a3 hs)
theorem compiles_lifted (os : Os) (started : os.Started) (H : Type) (enc : TypeId × Value -> H) :
  ReturnsInHanded {} Tryz.checked os 4 .any (fun w args => (Rows.compilesSpec.pre enc Tryz.prog Tryz.f4 [] false w args /\ laidMetH Tryz.prog laid4 w) /\ sizedMet enc Tryz.prog Tryz.f4 (OpenSpec.ofChange Rows.compilesSpec) false w args)
   (Rows.compilesSpec.post enc Tryz.prog Tryz.f4 false true false false) := by
 refine returnsInHanded_of_change_and (C := Tryz.checked) (X := fun w _ => laidMetH Tryz.prog laid4 w) (fun _ _ _ hh h => h.of_heap hh) own started (by kernel_rfl) Tryz.func4
  (ChangeSpec.witness_shaped (enc := enc) (C := Tryz.checked) (os := os) (X := fun w _ => laidMetH Tryz.prog laid4 w) false (World.doorLaid Tryz.prog 400 os) #[.string ByteArray.empty] 8 rfl (World.shaped_of_RefB (by kernel_rfl) (by kernel_rfl)) (by kernel_rfl) (by kernel_rfl) (by kernel_rfl) (door_met os _)) ?_
 intro W base args ds gs before hval0 hW _ _ hL _
 have hval : ∀ (j : Nat) t v, Tryz.f4.params[j]? = some t -> args[j]? = some v -> Value.okWide Tryz.prog W .any base t v := hval0
 have hW' := hW
 obtain ⟨p, q, hA0, hV, rfl, hfz, hnd⟩ := hW
 have hA : DataW.TrodAll enc Tryz.prog W 0 (fun _ => true) true Tryz.f4.params.toList args.toList ds p := hA0
 rw [Tryz.params4] at hA hval
 obtain ⟨v0, vs0, d0, ds0, p0, q0, hargs, rfl, rfl, h0, r0⟩ := trodAll_cons hA
 obtain ⟨rfl, rfl, rfl⟩ := trodAll_nil r0
 obtain rfl : args = #[v0] := by cases args; simp_all
 obtain ⟨rfl, rfl⟩ := trodVars_none hV
 obtain ⟨a0, rfl, rfl, rfl, w0⟩ := open_string Tryz.underlying9 (hval 0 9 v0 rfl rfl) h0
 obtain ⟨x0, x1, x2, x3, hs⟩ := sent_of_laid hL
 clear hA0 hval0
 simp only [List.append_nil] at hW'
 refine (compiles_law a0 W w0 hs).mono fun e W' ⟨he, hg⟩ => ?_
 subst he
 refine ⟨_, rfl, _, _, _, [], [], [], hW', ?_, ?_, ?_, hg.frame _, fun h => by cases h⟩
 ·exact trodAll_cons_mk (shut_bool Tryz.underlying4 _) trodAll_mk0
 ·exact trodAll_cons_mk (shut_string Tryz.underlying9 w0) trodAll_mk0
 ·rfl
theorem compiles_saidof : Rows.CompilesSaid :=
 OpenClaim.holds_of_wide 4 Tryz.f4 rfl rfl rfl rfl rfl rfl rfl ⟨rfl, rfl, rfl, rfl, rfl⟩ rfl rfl rfl rfl rfl (by kernel_rfl) Tryz.func4 (by kernel_rfl)
  (of_decide_eq_true (by kernel_rfl)) (by unfold Func.isWrapper; first | (rw [if_pos (by decide +kernel)]; kernel_rfl) | (rw [if_neg (by decide +kernel)]; exact ⟨rfl, rfl⟩))
  (fun os started H enc _ => compiles_lifted os started H enc)
theorem compiles_holds : Rows.CompilesCardSaid :=
 Claim7.holds_tied_plain_at .later [] [.sentinel, .sentinel, .sentinel, .sentinel] true Rows.compilesCard.stood.harness true
  compiles_saidof (fun _ h => by cases h) (by kernel_rfl) (fun _ h => by cases h) compiles_row_tie rfl ⟨rfl, rfl⟩ (by kernel_rfl) rfl
  (fun f fn hf hfn => by
   obtain rfl : f = 4 := Option.some.inj ((show Tryz.prog.funcNamed "lenses/lenseslaw.Compiles" = some 4 by kernel_rfl).symm.trans hf) |>.symm
   obtain rfl : fn = Tryz.f4 := (Option.some.inj (Tryz.func4.symm.trans hfn)).symm
   exact ⟨by kernel_rfl, fun j t ht => by
    rw [Tryz.params4] at ht
    have hm : t ∈ [9] := by simpa using Array.mem_of_getElem? ht
    have hall : ([9].all fun u => !Tryz.prog.wantsStandIn u) = true := by kernel_rfl
    exact (show Tryz.prog.wantsStandIn t = false by simpa using List.all_eq_true.1 hall t hm)⟩) (by kernel_rfl)
end Go.Proofs.YtkfokddlgmcimaaGreatDoor
