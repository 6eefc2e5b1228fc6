import Derived.Test.YtkfokddlgmcimaaGreatDoorK38
set_option maxRecDepth 100000
set_option maxHeartbeats 4000000
namespace Go.Proofs.YtkfokddlgmcimaaGreatDoor
open Go.RowKit
theorem T_any : (l : Ls.Ln) -> Ls.OkL 120 l -> Words l -> TSaid l
 | ⟨k, p, w, []⟩, h, hw => by
  rw [Ls.OkL] at h
  rw [Words] at hw
  rcases h.2 with rfl | rfl | rfl
  ·exact T_leaf0 p w
  ·exact T_leaf1 p w hw (by have := h.1.1; simpa [Ls.srcP] using this)
  ·exact T_leaf2 p w
 | ⟨k, p, w, [a]⟩, h, hw => by
  rw [Ls.OkL] at h
  rw [Words] at hw
  have ha := T_any a h.2.2 hw
  rcases h.2.1 with rfl | rfl
  ·exact T_star6 p w a ha (S_any a h.2.2) (V_any a h.2.2 hw) (h.2.2.src) (h.2.2.view)
  ·exact T_star7 p w a ha (S_any a h.2.2) (V_any a h.2.2 hw) (h.2.2.src) (h.2.2.view)
 | ⟨k, p, w, [a, b]⟩, h, hw => by
  rw [Ls.OkL] at h
  rw [Words] at hw
  have oa := h.2.2.1
  have ob := h.2.2.2
  have ha := T_any a oa hw.1
  have hb := T_any b ob hw.2
  rcases h.2.1 with rfl | rfl | rfl
  ·exact T_pair3 p w a b ha hb (S_any a oa) (S_any b ob) (V_any a oa hw.1) (V_any b ob hw.2) oa.src ob.src oa.view ob.view
  ·exact T_pair4 p w a b ha hb (S_any a oa) (S_any b ob) (V_any a oa hw.1) (V_any b ob hw.2) oa.src ob.src oa.view ob.view
  ·exact T_pair5 p w a b ha hb (S_any a oa) (S_any b ob) oa.src ob.src
 | ⟨k, p, w, _ :: _ :: _ :: _⟩, h, _ => by simp [Ls.OkL] at h
def progAll (s : List UInt8) : Option Ls.Ln := match Ls.lensR 13 s with
 | some (l, []) => some l
 | _ => .none
def CompIs (s : List UInt8) (r : Nat) : Prop :=
 (120 < s.length /\ r = 1) \/ (s.length <= 120 /\ ((progAll s = .none /\ r = 2) \/ ∃ l, progAll s = some l /\ ((24 < Ls.lsize l /\ r = 3) \/ (Ls.lsize l <= 24 /\ ((¬ typedP l /\ r = 4) \/ (typedP l /\ r = 0))))))
theorem CompIs.one {s : List UInt8} {r t : Nat} (h : CompIs s r) (k : CompIs s t) : r = t := by
 rcases h with ⟨h1, rfl⟩ | ⟨h1, h2⟩
 ·rcases k with ⟨_, rfl⟩ | ⟨k1, _⟩
  ·rfl
  ·omega
 ·rcases k with ⟨k1, _⟩ | ⟨_, k2⟩
  ·omega
  ·rcases h2 with ⟨h3, rfl⟩ | ⟨l, h3, h4⟩
   ·rcases k2 with ⟨_, rfl⟩ | ⟨m, k3, _⟩
    ·rfl
    ·rw [h3] at k3; cases k3
   ·rcases k2 with ⟨k3, _⟩ | ⟨m, k3, k4⟩
    ·rw [h3] at k3; cases k3
    ·obtain rfl : l = m := Option.some.inj (h3.symm.trans k3)
     rcases h4 with ⟨h5, rfl⟩ | ⟨h5, h6⟩
     ·rcases k4 with ⟨_, rfl⟩ | ⟨k5, _⟩
      ·rfl
      ·omega
     ·rcases k4 with ⟨k5, _⟩ | ⟨_, k6⟩
      ·omega
      ·rcases h6 with ⟨h7, rfl⟩ | ⟨h7, rfl⟩
       ·rcases k6 with ⟨_, rfl⟩ | ⟨k7, _⟩
        ·rfl
        ·exact absurd k7 h7
       ·rcases k6 with ⟨k7, _⟩ | ⟨_, rfl⟩
        ·exact absurd h7 k7
        ·rfl
end Go.Proofs.YtkfokddlgmcimaaGreatDoor
namespace Go.Proofs.YtkfokddlgmcimaaGreatDoor
open Go.RowKit
def CompPost (s : ByteArray) (w : World) : Ending -> World -> Prop := fun e w' =>
 ∃ k p ws y1 y2 y3 x1 x2 x3 r, e = .returned (.tuple #[lnP k p ws (.slice y1 y2 y3) (.slice x1 x2 x3), .int .i64 (r : Nat)]) /\ CompIs s.data.toList r /\ Below w.heap.size w w' /\
  (r = 0 -> ∃ l, progAll s.data.toList = some l /\ l.kind = k /\ Ls.toPat l.p = p /\ l.w = ws /\ NV w' (New w w') l (.slice y1 y2 y3) (.slice x1 x2 x3))
theorem below_set6 {w W : World} (h : Below w.heap.size w W) (k : Nat) (p : Ls.Pat) (ws : List UInt8) (y x : Value) : Below w.heap.size w (set6 W w.heap.size k p ws y x) :=
 (((((h.setCell (Nat.le_refl _) _).setCell (Nat.le_refl _) _).setCell (Nat.le_refl _) _).setCell (Nat.le_refl _) _).setCell (Nat.le_refl _) _).setCell (Nat.le_refl _) _
theorem rest_zero (s : ByteArray) : rest s 0 = s.data.toList := rfl
theorem prog_none {s : ByteArray} (h : Ls.lensR 13 (rest s 0) = .none) : progAll s.data.toList = .none := by
 unfold progAll
 rw [<- rest_zero, h]
theorem prog_some {s : ByteArray} {l : Ls.Ln} (h : Ls.lensR 13 (rest s 0) = some (l, rest s s.size)) : progAll s.data.toList = some l := by
 unfold progAll
 rw [<- rest_zero, h, rest_ge (Nat.le_refl _)]
theorem prog_more {s : ByteArray} {l : Ls.Ln} {i : Nat} (h : Ls.lensR 13 (rest s 0) = some (l, rest s i)) (hi : i < s.size) : progAll s.data.toList = .none := by
 unfold progAll
 rw [<- rest_zero, h, rest_lt hi]
theorem compile_long (s : ByteArray) (w : World) (h : (120 : Int) < (s.size : Int)) : Calls Tryz.prog 15 #[.string s] w (CompPost s w) := by
 have hb := below_alloc1 w (lensO 0 Ls.none [] (.slice none 0 0) (.slice none 0 0))
 have HC : Hid (CompIs s.data.toList 1) := .inl ⟨by rw [Array.length_toList]; show 120 < s.size; omega, rfl⟩
 go_enter Tryz.func15, Tryz.ntmps15
 go_wp2_with fail
 exact bodyPost_ret (v := .tuple #[lnP 0 Ls.none [] (.slice none 0 0) (.slice none 0 0), .int .i64 1]) (by simp [results, Tryz.results15, go_sem, Ls.none]) rfl ⟨0, Ls.none, [], none, 0, 0, none, 0, 0, 1, rfl, HC.out, hb, fun h => (by cases h)⟩
theorem compile_short (s : ByteArray) (w : World) (hs : s.size <= 120) : Calls Tryz.prog 15 #[.string s] w (CompPost s w) := by
 have hd : ¬ (120 : Int) < (s.size : Int) := by omega
 have hlen : s.data.toList.length <= 120 := by rw [Array.length_toList]; exact hs
 have hb2 := below_alloc2 w (lensO 0 Ls.none [] (.slice none 0 0) (.slice none 0 0)) (.cells #[.string s, .int .i64 (0 : Nat), .int .i64 (0 : Nat), .bool false] 55)
 have hPB : PB ((w.alloc (lensO 0 Ls.none [] (.slice none 0 0) (.slice none 0 0))).alloc (.cells #[.string s, .int .i64 (0 : Nat), .int .i64 (0 : Nat), .bool false] 55)) (w.heap.size + 1) s 0 0 false := by
  have := heap_alloc_new (w.alloc (lensO 0 Ls.none [] (.slice none 0 0) (.slice none 0 0))) (.cells #[.string s, .int .i64 (0 : Nat), .int .i64 (0 : Nat), .bool false] 55)
  rw [World.size_alloc] at this
  exact this
 have hres : LiesL ((w.alloc (lensO 0 Ls.none [] (.slice none 0 0) (.slice none 0 0))).alloc (.cells #[.string s, .int .i64 (0 : Nat), .int .i64 (0 : Nat), .bool false] 55)) w.heap.size zero6 := (liesL_newO w 0 Ls.none [] (.slice none 0 0) (.slice none 0 0)).of_block (Below.heap_alloc _ _ _ (by simp))
 have hL : LensSaid s 0 := lens_all s (by omega) 13 (Nat.le_refl _)
 have hC : Calls Tryz.prog 37 #[.pointer (some ⟨w.heap.size + 1, 0, none⟩), .int .i64 0] _ _ := hL (w.heap.size + 1) 0 0 _ hPB (Nat.zero_le _) (by omega)
 have HRES : Hid (LiesL ((w.alloc (lensO 0 Ls.none [] (.slice none 0 0) (.slice none 0 0))).alloc (.cells #[.string s, .int .i64 (0 : Nat), .int .i64 (0 : Nat), .bool false] 55)) w.heap.size zero6) := hres
 have HB2 : Hid _ := hb2
 clear hPB hres hL hb2
 go_enter Tryz.func15, Tryz.ntmps15
 go_wp2_with fail
 refine hC.mono ?_
 rintro e w3 hpp
 obtain ⟨k, p, ws, y1, y2, y3, x1, x2, x3, i', z', bad, rfl, hi1, hi2, hz2, hl3, hcl⟩ := hpp.mid (fun l t hr => Ls.lens_sz _ _ _ _ hr) (Nat.zero_le _)
 clear hpp hC
 have hz3 := hl3.grown.size
 simp at hz3
 have hbw3 : Below w.heap.size w w3 := HB2.out.grown hl3.grown (by simp; omega) (fun j hj => by cases hj; omega)
 have hb4 := below_alloc1 w3 (lensO k p ws (.slice y1 y2 y3) (.slice x1 x2 x3))
 have hpb4 := hl3.lies.below hb4
 have hrs4 := (HRES.out.of_block (hl3.block (by simp; omega) (by omega))).of_block (hb4.block _ (by omega))
 have hll4 := liesL_newO w3 k p ws (.slice y1 y2 y3) (.slice x1 x2 x3)
 have HBW4 : Hid (Below w.heap.size w (w3.alloc (lensO k p ws (.slice y1 y2 y3) (.slice x1 x2 x3)))) := Below.join hbw3 hb4
 have HCL : Hid (CaseL (w3.alloc (lensO k p ws (.slice y1 y2 y3) (.slice x1 x2 x3))) (fun j => w.heap.size + 2 <= j /\ j < w3.heap.size) (Ls.lensR 13 (rest s 0)) s 0 i' z' bad k p ws (.slice y1 y2 y3) (.slice x1 x2 x3)) := hcl.mono (fun j hj => ⟨⟨by have := hj.1; simp at this; exact this, hj.2⟩, hb4.block j hj.2⟩)
 have hz4 : (w3.alloc (lensO k p ws (.slice y1 y2 y3) (.slice x1 x2 x3))).heap.size = w3.heap.size + 1 := by simp
 clear hcl hl3 hb4 HRES HB2
 go_upto_region 5 with (fail)
 generalize w3.alloc (lensO k p ws (.slice y1 y2 y3) (.slice x1 x2 x3)) = W4 at *
 obtain ⟨q0, q1, q2, q3, q4, q5⟩ := hrs4.six
 obtain ⟨l0, l1, l2, l3, l4, l5⟩ := hll4.six
 have g0 := hrs4.fr 0
 have g1 := hrs4.fr 1
 have g2 := hrs4.fr 2
 have g3 := hrs4.fr 3
 have g4 := hrs4.fr 4
 have g5 := hrs4.fr 5
 have k1 := hpb4.c1
 have k2 := hpb4.c2
 have k3 := hpb4.c3
 have HRS4 : Hid (LiesL W4 w.heap.size zero6) := hrs4
 have HLL4 : Hid (LiesL W4 w3.heap.size [.int .i64 k, .int .i64 p.kind, .string ⟨p.signs.toArray⟩, .slice y1 y2 y3, .string ⟨ws.toArray⟩, .slice x1 x2 x3]) := hll4
 clear hrs4 hll4 hpb4
 cases bad with
 | true =>
  have HC : Hid (CompIs s.data.toList 2) := by
   rcases HCL.out with ⟨_, hr⟩ | ⟨h0, _⟩
   ·exact .inr ⟨hlen, .inl ⟨prog_none hr, rfl⟩⟩
   ·cases h0
  go_wp2_with fail
  exact bodyPost_ret (v := .tuple #[lnP 0 Ls.none [] (.slice none 0 0) (.slice none 0 0), .int .i64 2]) (by simp [results, Tryz.results15, go_sem, q0, q1, q2, q3, q4, q5, Ls.none]) rfl ⟨0, Ls.none, [], none, 0, 0, none, 0, 0, 2, rfl, HC.out, below_set6 HBW4.out 0 Ls.none [] (.slice none 0 0) (.slice none 0 0), fun h => (by cases h)⟩
 | false =>
  by_cases hat : i' = s.size
  ·subst hat
   have hne0 : ((s.size : Int) != (s.size : Int)) = false := by simp
   obtain ⟨l, hr, e1, e2, e3, e4, _, hnv⟩ : ∃ l, Ls.lensR 13 (rest s 0) = some (l, rest s s.size) /\ l.kind = k /\ Ls.toPat l.p = p /\ l.w = ws /\ z' = 0 + Ls.lsize l /\ s.size <= s.size /\ NV W4 (fun j => w.heap.size + 2 <= j /\ j < w3.heap.size) l (.slice y1 y2 y3) (.slice x1 x2 x3) := by
    rcases HCL.out with ⟨h0, _⟩ | ⟨_, h⟩
    ·cases h0
    ·exact h
   have hpr := prog_some hr
   by_cases h24 : (24 : Int) < (z' : Int)
   ·have HC : Hid (CompIs s.data.toList 3) := .inr ⟨hlen, .inr ⟨l, hpr, .inl ⟨by omega, rfl⟩⟩⟩
    clear hr e1 e2 e3 e4 hnv hpr HCL
    go_wp2_with fail
    exact bodyPost_ret (v := .tuple #[lnP 0 Ls.none [] (.slice none 0 0) (.slice none 0 0), .int .i64 3]) (by simp [results, Tryz.results15, go_sem, q0, q1, q2, q3, q4, q5, Ls.none]) rfl ⟨0, Ls.none, [], none, 0, 0, none, 0, 0, 3, rfl, HC.out, below_set6 HBW4.out 0 Ls.none [] (.slice none 0 0) (.slice none 0 0), fun h => (by cases h)⟩
   ·have hok := Ls.lens_ok hr (by rw [rest_len]; omega)
    have hC2 := T_any l hok (words_size l 120 hok (by omega)) (.slice y1 y2 y3) (.slice x1 x2 x3) W4 (fun j => w.heap.size + 2 <= j /\ j < w3.heap.size) (fun j hj => by have := hj.2; omega) hnv
    unfold lnA at hC2
    rw [e1, e2, e3] at hC2
    have HE : Hid (l.kind = k /\ Ls.toPat l.p = p /\ l.w = ws) := ⟨e1, e2, e3⟩
    have HNV : Hid (NV W4 (fun j => w.heap.size + 2 <= j /\ j < w3.heap.size) l (.slice y1 y2 y3) (.slice x1 x2 x3)) := hnv
    have HPR : Hid (progAll s.data.toList = some l) := hpr
    have HZ : Hid (Ls.lsize l <= 24) := by show _ <= _; omega
    clear hr e1 e2 e3 e4 hnv hpr HCL hok
    go_wp2_with fail
    refine hC2.mono ?_
    rintro e w5 ⟨tb, rfl, htb, hb5⟩
    have hz5 := hb5.size
    have hrs5 := HRS4.out.of_block (hb5.block _ (by omega))
    have hll5 := HLL4.out.of_block (hb5.block _ (by omega))
    have HBW5 : Hid (Below w.heap.size w w5) := Below.join HBW4.out hb5
    have HNV5 : Hid (NV w5 (fun j => w.heap.size + 2 <= j /\ j < w3.heap.size) l (.slice y1 y2 y3) (.slice x1 x2 x3)) := HNV.out.below hb5 (fun j hj => by have := hj.2; omega) (fun _ h => h)
    have HTB : Hid (tb = true ↔ typedP l) := htb
    clear q0 q1 q2 q3 q4 q5 l0 l1 l2 l3 l4 l5 g0 g1 g2 g3 g4 g5 k1 k2 k3 hC2 htb HNV
    obtain ⟨q0, q1, q2, q3, q4, q5⟩ := hrs5.six
    obtain ⟨l0, l1, l2, l3, l4, l5⟩ := hll5.six
    have g0 := hrs5.fr 0
    have g1 := hrs5.fr 1
    have g2 := hrs5.fr 2
    have g3 := hrs5.fr 3
    have g4 := hrs5.fr 4
    have g5 := hrs5.fr 5
    clear hrs5 hll5
    cases tb with
    | false =>
     have HC : Hid (CompIs s.data.toList 4) := .inr ⟨hlen, .inr ⟨l, HPR.out, .inr ⟨HZ.out, .inl ⟨fun h => (by have := HTB.out.2 h; cases this), rfl⟩⟩⟩⟩
     go_wp2_with fail
     exact bodyPost_ret (v := .tuple #[lnP 0 Ls.none [] (.slice none 0 0) (.slice none 0 0), .int .i64 4]) (by simp [results, Tryz.results15, go_sem, q0, q1, q2, q3, q4, q5, Ls.none]) rfl ⟨0, Ls.none, [], none, 0, 0, none, 0, 0, 4, rfl, HC.out, below_set6 HBW5.out 0 Ls.none [] (.slice none 0 0) (.slice none 0 0), fun h => (by cases h)⟩
    | true =>
     have HC : Hid (CompIs s.data.toList 0) := .inr ⟨hlen, .inr ⟨l, HPR.out, .inr ⟨HZ.out, .inr ⟨HTB.out.1 rfl, rfl⟩⟩⟩⟩
     have HN6 : Hid (NV (set6 w5 w.heap.size k p ws (.slice y1 y2 y3) (.slice x1 x2 x3)) (New w (set6 w5 w.heap.size k p ws (.slice y1 y2 y3) (.slice x1 x2 x3))) l (.slice y1 y2 y3) (.slice x1 x2 x3)) := NV.mono (fun j hj => ⟨⟨by omega, by rw [set6_size]; have := hj.2; omega⟩, set6_other _ _ _ _ _ _ _ _ (by omega)⟩) _ _ _ HNV5.out
     go_wp2_with fail
     exact bodyPost_ret (v := .tuple #[lnP k p ws (.slice y1 y2 y3) (.slice x1 x2 x3), .int .i64 0]) (by simp [results, Tryz.results15, go_sem, q0, q1, q2, q3, q4, q5]) rfl ⟨k, p, ws, y1, y2, y3, x1, x2, x3, 0, rfl, HC.out, below_set6 HBW5.out k p ws (.slice y1 y2 y3) (.slice x1 x2 x3), fun _ => ⟨l, HPR.out, HE.out.1, HE.out.2.1, HE.out.2.2, HN6.out⟩⟩
  ·have hne0 : ((i' : Int) != (s.size : Int)) = true := by rw [bne_iff_ne]; omega
   have HC : Hid (CompIs s.data.toList 2) := by
    rcases HCL.out with ⟨h0, _⟩ | ⟨_, l, hr, _, _, _, _, hle, _⟩
    ·cases h0
    ·exact .inr ⟨hlen, .inl ⟨prog_more hr (by omega), rfl⟩⟩
   clear hat HCL
   go_wp2_with fail
   exact bodyPost_ret (v := .tuple #[lnP 0 Ls.none [] (.slice none 0 0) (.slice none 0 0), .int .i64 2]) (by simp [results, Tryz.results15, go_sem, q0, q1, q2, q3, q4, q5, Ls.none]) rfl ⟨0, Ls.none, [], none, 0, 0, none, 0, 0, 2, rfl, HC.out, below_set6 HBW4.out 0 Ls.none [] (.slice none 0 0) (.slice none 0 0), fun h => (by cases h)⟩
theorem compile_any (s : ByteArray) (w : World) : Calls Tryz.prog 15 #[.string s] w (CompPost s w) := by
 by_cases h : 120 < s.size
 ·exact compile_long s w (by omega)
 ·exact compile_short s w (by omega)
end Go.Proofs.YtkfokddlgmcimaaGreatDoor
