import Derived.Test.YtkfokddlgmcimaaGreatDoorK31
import Derived.Test.YtkfokddlgmcimaaGreatDoorK34
set_option maxRecDepth 100000
set_option maxHeartbeats 4000000
namespace Go.Proofs.YtkfokddlgmcimaaGreatDoor
open Go.RowKit
def TellPost (w : World) (F : Prop) : Ending -> World -> Prop := fun e w' => ∃ b : Bool, e = .returned (.bool b) /\ (b = true ↔ F) /\ Below w.heap.size w w'
def piecesP (p : Ls.Pat) : Prop := Ls.empty p = false /\ ¬ Ls.Twice p (Ls.star p)
theorem once_tell {a b : Nat} (p q : Ls.Pat) (hp : Ls.BdL a p) (hq : Ls.BdL b q) (ha : a <= 121) (hb : b <= 121) (y z : Value) (w : World) (G : Nat -> Prop) (hG : Old w G) (h1 : PV w G p y) (h2 : PV w G q z) :
  Calls Tryz.prog 12 #[patA p y, patA q z] w (TellPost w (¬ Ls.Twice p q)) := by
 obtain ⟨r1, n1⟩ := hp.room ha
 obtain ⟨r2, n2⟩ := hq.room hb
 exact once_any p q _ _ r1 r2 (by simp) (by simp) n1 n2 hp.sg hq.sg y z w G hG h1 h2
theorem apart_tell {a b : Nat} (p q : Ls.Pat) (hp : Ls.BdL a p) (hq : Ls.BdL b q) (ha : a <= 121) (hb : b <= 121) (y z : Value) (w : World) (G : Nat -> Prop) (hG : Old w G) (h1 : PV w G p y) (h2 : PV w G q z) :
  Calls Tryz.prog 13 #[patA p y, patA q z] w (TellPost w (¬ Ls.Both p q)) := by
 obtain ⟨r1, n1⟩ := hp.room ha
 obtain ⟨r2, n2⟩ := hq.room hb
 exact apart_any p q _ _ r1 r2 (by simp) (by simp) n1 n2 hp.sg hq.sg y z w G hG h1 h2
theorem pieces_any (p : Ls.Pat) (hbd : Ls.BdL 120 p) (y : Value) (w : World) (G : Nat -> Prop) (hG : Old w G) (hp : PV w G p y) : Calls Tryz.prog 71 #[patA p y] w (TellPost w (piecesP p)) := by
 obtain ⟨y1, y2, y3, rfl⟩ := PV.slice _ _ hp
 have hb1 := below_alloc1 w (patO p (.slice y1 y2 y3))
 have hE := empty_any p hbd.ok (.slice y1 y2 y3) _ G (fun j hj => Nat.lt_of_lt_of_le (hG j hj) hb1.size) (hp.below hb1 (fun j hj => hG j hj) (fun _ h => h))
 have hbx := lies_new w (patC p (.slice y1 y2 y3))
 have HB1 : Hid _ := hb1
 have HP : Hid (PV w G p (.slice y1 y2 y3)) := hp
 clear hp hb1
 generalize hF : piecesP p = F
 have HF : Hid (F = piecesP p) := hF.symm
 clear hF
 go_enter Tryz.func71, Tryz.ntmps71
 go_wp2_with fail
 refine hE.mono ?_
 rintro e w2 ⟨rfl, hb2⟩
 have hbx2 := hbx.below hb2 (by simp)
 have hbw2 := Below.join HB1.out hb2
 obtain ⟨m0, m1, m2⟩ := hbx2.three
 have hl2 := hbx2.lt
 cases hem : Ls.empty p with
 | true =>
  have HN : Hid (¬ piecesP p) := fun h => by have := h.1; rw [hem] at this; cases this
  clear hem hE hbx hbx2
  go_wp2_with fail
  go_ret
  exact ⟨false, rfl, ⟨fun h => (by cases h), fun h => absurd (HF.out ▸ h) HN.out⟩, hbw2⟩
 | false =>
  have HE : Hid (Ls.empty p = false) := hem
  have HS : Hid (∀ W, Below w2.heap.size w2 W -> Calls Tryz.prog 74 #[patA p (.slice y1 y2 y3)] W fun e w' => ∃ x1 x2 x3, e = .returned (.agg #[.int .i64 (Ls.star p).kind, .string ⟨(Ls.star p).signs.toArray⟩, .slice x1 x2 x3]) /\ PV w' (Plus G W w') (Ls.star p) (.slice x1 x2 x3) /\ Below W.heap.size W w') := by
   intro W hW
   have hbW := Below.join hbw2 hW
   refine (star_any p (.slice y1 y2 y3) W G (fun j hj => Nat.lt_of_lt_of_le (hG j hj) hbW.size) (HP.out.below hbW (fun j hj => hG j hj) (fun _ h => h))).mono ?_
   rintro e w' ⟨x, rfl, hx, hb⟩
   obtain ⟨x1, x2, x3, rfl⟩ := PV.slice _ _ hx
   exact ⟨x1, x2, x3, rfl, hx, hb⟩
  have HO : Hid (∀ W w3 x1 x2 x3, Below w2.heap.size w2 W -> Below W.heap.size W w3 -> PV w3 (Plus G W w3) (Ls.star p) (.slice x1 x2 x3) -> Calls Tryz.prog 12 #[patA p (.slice y1 y2 y3), patA (Ls.star p) (.slice x1 x2 x3)] w3 (TellPost w3 (¬ Ls.Twice p (Ls.star p)))) := by
   intro W w3 x1 x2 x3 hW h3 hx
   have hbW := Below.join (Below.join hbw2 hW) h3
   exact once_tell p (Ls.star p) hbd (Ls.bdl_star hbd) (by omega) (by omega) _ _ w3 (Plus G W w3) (fun j hj => by
    rcases hj with hj | hj
    ·exact Nat.lt_of_lt_of_le (hG j hj) hbW.size
    ·exact hj.2) (HP.out.below hbW (fun j hj => hG j hj) (fun _ h => .inl h)) hx
  have HBX : Hid (Lies w2 w.heap.size (patC p (.slice y1 y2 y3))) := hbx2
  clear hem hE hbx hbx2
  go_wp2_with fail
  go_region_with (first
   | (go_at_call 74; refine (HS.out _ ?_).mono ?_; exact (Below.refl _ _).drew; rintro e w3 ⟨x1, x2, x3, rfl, hpv, hb3⟩; have hbx3 := HBX.out.below (Below.trans (Below.refl w2.heap.size w2).drew hb3) HBX.out.lt; obtain ⟨n0, n1, n2⟩ := hbx3.three)
   | (go_at_call 12; refine (HO.out _ _ _ _ _ ?_ hb3 hpv).mono ?_; exact (Below.refl _ _).drew; rintro e w4 ⟨bb, rfl, hbb, hb4⟩))
  all_goals
   have HB : Hid (bb = true ↔ F) := by
    show _ ↔ _
    rw [HF.out]
    exact ⟨fun h => ⟨HE.out, hbb.1 h⟩, fun h => hbb.2 h.2⟩
   have HW : Hid (Below w.heap.size w w4) := Below.join (Below.join hbw2 (Below.trans (Below.refl w2.heap.size w2).drew hb3)) hb4
   clear hbb hbx3 n0 n1 n2 hpv
   go_wp2_with fail
   go_ret
   exact ⟨bb, rfl, HB.out, HW.out⟩
end Go.Proofs.YtkfokddlgmcimaaGreatDoor
namespace Go.Proofs.YtkfokddlgmcimaaGreatDoor
open Go.RowKit
def typedP : Ls.Ln -> Prop
 | ⟨k, p, w, []⟩ => k = 1 -> Ls.is (Ls.toPat p) w = true
 | ⟨_, _, _, [a]⟩ => typedP a /\ piecesP (Ls.srcP a) /\ piecesP (Ls.viewP a)
 | ⟨k, _, _, [a, b]⟩ => typedP a /\ typedP b /\ (k = 3 -> ¬ Ls.Twice (Ls.srcP a) (Ls.srcP b) /\ ¬ Ls.Twice (Ls.viewP a) (Ls.viewP b)) /\ (k = 4 -> ¬ Ls.Twice (Ls.srcP a) (Ls.srcP b) /\ ¬ Ls.Twice (Ls.viewP b) (Ls.viewP a)) /\ (k = 5 -> ¬ Ls.Both (Ls.srcP a) (Ls.srcP b))
 | _ => False
def TSaid (l : Ls.Ln) : Prop := ∀ (y x : Value) (w : World) (G : Nat -> Prop), Old w G -> NV w G l y x -> Calls Tryz.prog 38 #[lnA l y x] w (TellPost w (typedP l))
theorem T_leaf0 (p : Ls.D) (ws : List UInt8) : TSaid ⟨0, p, ws, []⟩ := by
 intro y x w G hG h
 rw [NV] at h
 obtain ⟨hv, rfl⟩ := h
 obtain ⟨y1, y2, y3, rfl⟩ := PV.slice _ _ hv
 have HT : Hid (TellPost w (typedP ⟨0, p, ws, []⟩) (.returned (.bool true)) (w.alloc (lensO 0 (Ls.toPat p) ws (.slice y1 y2 y3) (.slice none 0 0)))) := ⟨true, rfl, by rw [typedP]; simp, below_alloc1 _ _⟩
 generalize typedP ⟨0, p, ws, []⟩ = F at *
 clear hv
 go_enter Tryz.func38, Tryz.ntmps38
 go_wp2_with fail
 refine wp_loop_rounds 1 ?_
 rw [rounds_succ]
 go_wp2_with fail
 go_ret
 exact HT.out
theorem T_leaf2 (p : Ls.D) (ws : List UInt8) : TSaid ⟨2, p, ws, []⟩ := by
 intro y x w G hG h
 rw [NV] at h
 obtain ⟨hv, rfl⟩ := h
 obtain ⟨y1, y2, y3, rfl⟩ := PV.slice _ _ hv
 have HT : Hid (TellPost w (typedP ⟨2, p, ws, []⟩) (.returned (.bool true)) (w.alloc (lensO 2 (Ls.toPat p) ws (.slice y1 y2 y3) (.slice none 0 0)))) := ⟨true, rfl, by rw [typedP]; simp, below_alloc1 _ _⟩
 generalize typedP ⟨2, p, ws, []⟩ = F at *
 clear hv
 go_enter Tryz.func38, Tryz.ntmps38
 go_wp2_with fail
 refine wp_loop_rounds 1 ?_
 rw [rounds_succ]
 go_wp2_with fail
 go_ret
 exact HT.out
theorem T_leaf1 (p : Ls.D) (ws : List UInt8) (hws : ws.length <= 1048576) (hb : Ls.BdL 120 (Ls.toPat p)) : TSaid ⟨1, p, ws, []⟩ := by
 intro y x w G hG h
 rw [NV] at h
 obtain ⟨hv, rfl⟩ := h
 obtain ⟨y1, y2, y3, rfl⟩ := PV.slice _ _ hv
 have hb1 := below_alloc1 w (lensO 1 (Ls.toPat p) ws (.slice y1 y2 y3) (.slice none 0 0))
 have hC := is_any (Ls.toPat p) _ (hb.room (by omega)).1 (by simp) ⟨ws.toArray⟩ (by show ws.toArray.size <= _; unfold maxLen; simp; omega) (.slice y1 y2 y3) _ G (fun j hj => Nat.lt_of_lt_of_le (hG j hj) hb1.size) (hv.below hb1 (fun j hj => hG j hj) (fun _ h => h))
 rw [show (ByteArray.mk ws.toArray).data.toList = ws from rfl] at hC
 have HF : Hid (typedP ⟨1, p, ws, []⟩ ↔ Ls.is (Ls.toPat p) ws = true) := by
  show _ ↔ _
  rw [typedP]
  simp
 have HB1 : Hid _ := hb1
 generalize typedP ⟨1, p, ws, []⟩ = F at *
 clear hv hb1
 go_enter Tryz.func38, Tryz.ntmps38
 go_wp2_with fail
 refine wp_loop_rounds 1 ?_
 rw [rounds_succ]
 go_wp2_with fail
 refine hC.mono ?_
 rintro e w2 ⟨rfl, hb2⟩
 go_wp2_with fail
 go_ret
 exact ⟨_, rfl, HF.out.symm, Below.join HB1.out hb2⟩
end Go.Proofs.YtkfokddlgmcimaaGreatDoor
namespace Go.Proofs.YtkfokddlgmcimaaGreatDoor
open Go.RowKit
theorem T_star6 (p : Ls.D) (ws : List UInt8) (a : Ls.Ln) (ha : TSaid a) (hS : SSaid a) (hV : VSaid a) (d1 : Ls.BdL 120 (Ls.srcP a)) (d2 : Ls.BdL 120 (Ls.viewP a)) : TSaid ⟨6, p, ws, [a]⟩ := by
 intro y x w G hG h
 rw [NV] at h
 obtain ⟨hv, g, v1, u1, hg, rfl, hli, hna⟩ := h
 obtain ⟨y1, y2, y3, rfl⟩ := PV.slice _ _ hv
 obtain ⟨⟨b1, b2, b3, rfl⟩, t1, t2, t3, rfl⟩ := NV.slices _ _ _ hna
 have hgl := hG g hg
 have HF : Hid (typedP ⟨6, p, ws, [a]⟩ ↔ typedP a /\ piecesP (Ls.srcP a) /\ piecesP (Ls.viewP a)) := by
  show _ ↔ _
  rw [typedP]
 generalize typedP ⟨6, p, ws, [a]⟩ = F at *
 have hb0 := below_alloc1 w (lensO 6 (Ls.toPat p) ws (.slice y1 y2 y3) (.slice (some ⟨g, 0, none⟩) 1 1))
 have HNA : Hid (∀ W, Below w.heap.size w W -> NV W G a (.slice b1 b2 b3) (.slice t1 t2 t3)) := fun W hW => hna.below hW (fun j hj => hG j hj) (fun _ h => h)
 have HO : Hid (∀ W, Below w.heap.size w W -> Old W G) := fun W hW j hj => Nat.lt_of_lt_of_le (hG j hj) hW.size
 have HLI : Hid (∀ W, Below w.heap.size w W -> LiesL W g (lnC a (.slice b1 b2 b3) (.slice t1 t2 t3))) := fun W hW => hli.of_block (hW.block g hgl)
 have HBX : Hid (∀ W, Below (w.alloc (lensO 6 (Ls.toPat p) ws (.slice y1 y2 y3) (.slice (some ⟨g, 0, none⟩) 1 1))).heap.size (w.alloc (lensO 6 (Ls.toPat p) ws (.slice y1 y2 y3) (.slice (some ⟨g, 0, none⟩) 1 1))) W -> LiesL W w.heap.size [.int .i64 (6 : Nat), .int .i64 (Ls.toPat p).kind, .string ⟨(Ls.toPat p).signs.toArray⟩, .slice y1 y2 y3, .string ⟨ws.toArray⟩, .slice (some ⟨g, 0, none⟩) 1 1]) := fun W hW => (liesL_newO w 6 (Ls.toPat p) ws (.slice y1 y2 y3) (.slice (some ⟨g, 0, none⟩) 1 1)).of_block (hW.block _ (by simp))
 have hC := ha _ _ _ G (HO.out _ hb0) (HNA.out _ hb0)
 obtain ⟨a0, a1, a2, a3, a4, a5⟩ := hli.six
 have HS : Hid (SSaid a) := hS
 have HV : Hid (VSaid a) := hV
 have HB0 : Hid _ := hb0
 clear hv hna hli hb0 hS hV ha
 go_enter Tryz.func38, Tryz.ntmps38
 go_wp2_with fail
 refine wp_loop_rounds 2 ?_
 rw [rounds_succ]
 go_wp2_with fail
 refine hC.mono ?_
 rintro e w2 ⟨tb, rfl, htb, hb2⟩
 have hbw2 := Below.join HB0.out hb2
 obtain ⟨e0, e1, e2, e3, e4, e5⟩ := (HBX.out w2 hb2).six
 obtain ⟨r0, r1, r2, r3, r4, r5⟩ := (HLI.out w2 hbw2).six
 have HTB : Hid (tb = true ↔ typedP a) := htb
 clear a0 a1 a2 a3 a4 a5 hC htb
 cases tb with
 | false =>
  have HN : Hid (¬ F) := fun h => by have := HTB.out.2 (HF.out.1 h).1; cases this
  go_wp2_with fail
  go_ret
  exact ⟨false, rfl, ⟨fun h => (by cases h), fun h => absurd h HN.out⟩, hbw2⟩
 | true =>
  have HT1 : Hid (typedP a) := HTB.out.1 rfl
  have hC1 := HS.out _ _ w2 G (HO.out _ hbw2) (HNA.out _ hbw2)
  clear HTB
  go_wp2_with fail
  rw [rounds_succ]
  go_wp2_with fail
  refine hC1.mono ?_
  rintro e w3 ⟨v, rfl, hp3, hb3⟩
  obtain ⟨s1, s2, s3, rfl⟩ := PV.slice _ _ hp3
  have hbw3 := Below.join hbw2 hb3
  have hC2 := pieces_any (Ls.srcP a) d1 (.slice s1 s2 s3) w3 (Plus G w2 w3) (fun j hj => by
   rcases hj with hj | hj
   ·exact HO.out _ hbw3 j hj
   ·exact hj.2) hp3
  clear hC1 hp3 e0 e1 e2 e3 e4 e5 r0 r1 r2 r3 r4 r5
  go_wp2_with fail
  refine hC2.mono ?_
  rintro e w4 ⟨pb1, rfl, hpb1, hb4⟩
  have hbw4 := Below.join hbw3 hb4
  obtain ⟨e0, e1, e2, e3, e4, e5⟩ := (HBX.out w4 (Below.join (Below.join hb2 hb3) hb4)).six
  obtain ⟨r0, r1, r2, r3, r4, r5⟩ := (HLI.out w4 hbw4).six
  have hC3 := HV.out _ _ w4 G (HO.out _ hbw4) (HNA.out _ hbw4)
  have HP1 : Hid (pb1 = true ↔ piecesP (Ls.srcP a)) := hpb1
  clear hC2 hpb1
  go_wp2_with fail
  refine hC3.mono ?_
  rintro e w5 ⟨v, rfl, hp5, hb5⟩
  obtain ⟨n1, n2, n3, rfl⟩ := PV.slice _ _ hp5
  have hbw5 := Below.join hbw4 hb5
  have hC4 := pieces_any (Ls.viewP a) d2 (.slice n1 n2 n3) w5 (Plus G w4 w5) (fun j hj => by
   rcases hj with hj | hj
   ·exact HO.out _ hbw5 j hj
   ·exact hj.2) hp5
  clear hC3 hp5 e0 e1 e2 e3 e4 e5 r0 r1 r2 r3 r4 r5
  go_wp2_with fail
  refine hC4.mono ?_
  rintro e w6 ⟨pb2, rfl, hpb2, hb6⟩
  have HBW : Hid (Below w.heap.size w w6) := Below.join hbw5 hb6
  have HX : Hid ((pb1 && pb2) = true ↔ F) := by
   show _ ↔ _
   rw [HF.out, Bool.and_eq_true, HP1.out, hpb2]
   exact ⟨fun h => ⟨HT1.out, h⟩, fun h => h.2⟩
  clear hC4 hpb2
  cases pb1 with
  | false =>
   go_wp2_with fail
   go_ret
   exact ⟨false, rfl, HX.out, HBW.out⟩
  | true =>
   have HX2 : Hid (pb2 = true ↔ F) := HX.out
   go_wp2_with fail
   go_ret
   exact ⟨pb2, rfl, HX2.out, HBW.out⟩
theorem T_star7 (p : Ls.D) (ws : List UInt8) (a : Ls.Ln) (ha : TSaid a) (hS : SSaid a) (hV : VSaid a) (d1 : Ls.BdL 120 (Ls.srcP a)) (d2 : Ls.BdL 120 (Ls.viewP a)) : TSaid ⟨7, p, ws, [a]⟩ := by
 intro y x w G hG h
 rw [NV] at h
 obtain ⟨hv, g, v1, u1, hg, rfl, hli, hna⟩ := h
 obtain ⟨y1, y2, y3, rfl⟩ := PV.slice _ _ hv
 obtain ⟨⟨b1, b2, b3, rfl⟩, t1, t2, t3, rfl⟩ := NV.slices _ _ _ hna
 have hgl := hG g hg
 have HF : Hid (typedP ⟨7, p, ws, [a]⟩ ↔ typedP a /\ piecesP (Ls.srcP a) /\ piecesP (Ls.viewP a)) := by
  show _ ↔ _
  rw [typedP]
 generalize typedP ⟨7, p, ws, [a]⟩ = F at *
 have hb0 := below_alloc1 w (lensO 7 (Ls.toPat p) ws (.slice y1 y2 y3) (.slice (some ⟨g, 0, none⟩) 1 1))
 have HNA : Hid (∀ W, Below w.heap.size w W -> NV W G a (.slice b1 b2 b3) (.slice t1 t2 t3)) := fun W hW => hna.below hW (fun j hj => hG j hj) (fun _ h => h)
 have HO : Hid (∀ W, Below w.heap.size w W -> Old W G) := fun W hW j hj => Nat.lt_of_lt_of_le (hG j hj) hW.size
 have HLI : Hid (∀ W, Below w.heap.size w W -> LiesL W g (lnC a (.slice b1 b2 b3) (.slice t1 t2 t3))) := fun W hW => hli.of_block (hW.block g hgl)
 have HBX : Hid (∀ W, Below (w.alloc (lensO 7 (Ls.toPat p) ws (.slice y1 y2 y3) (.slice (some ⟨g, 0, none⟩) 1 1))).heap.size (w.alloc (lensO 7 (Ls.toPat p) ws (.slice y1 y2 y3) (.slice (some ⟨g, 0, none⟩) 1 1))) W -> LiesL W w.heap.size [.int .i64 (7 : Nat), .int .i64 (Ls.toPat p).kind, .string ⟨(Ls.toPat p).signs.toArray⟩, .slice y1 y2 y3, .string ⟨ws.toArray⟩, .slice (some ⟨g, 0, none⟩) 1 1]) := fun W hW => (liesL_newO w 7 (Ls.toPat p) ws (.slice y1 y2 y3) (.slice (some ⟨g, 0, none⟩) 1 1)).of_block (hW.block _ (by simp))
 have hC := ha _ _ _ G (HO.out _ hb0) (HNA.out _ hb0)
 obtain ⟨a0, a1, a2, a3, a4, a5⟩ := hli.six
 have HS : Hid (SSaid a) := hS
 have HV : Hid (VSaid a) := hV
 have HB0 : Hid _ := hb0
 clear hv hna hli hb0 hS hV ha
 go_enter Tryz.func38, Tryz.ntmps38
 go_wp2_with fail
 refine wp_loop_rounds 2 ?_
 rw [rounds_succ]
 go_wp2_with fail
 refine hC.mono ?_
 rintro e w2 ⟨tb, rfl, htb, hb2⟩
 have hbw2 := Below.join HB0.out hb2
 obtain ⟨e0, e1, e2, e3, e4, e5⟩ := (HBX.out w2 hb2).six
 obtain ⟨r0, r1, r2, r3, r4, r5⟩ := (HLI.out w2 hbw2).six
 have HTB : Hid (tb = true ↔ typedP a) := htb
 clear a0 a1 a2 a3 a4 a5 hC htb
 cases tb with
 | false =>
  have HN : Hid (¬ F) := fun h => by have := HTB.out.2 (HF.out.1 h).1; cases this
  go_wp2_with fail
  go_ret
  exact ⟨false, rfl, ⟨fun h => (by cases h), fun h => absurd h HN.out⟩, hbw2⟩
 | true =>
  have HT1 : Hid (typedP a) := HTB.out.1 rfl
  have hC1 := HS.out _ _ w2 G (HO.out _ hbw2) (HNA.out _ hbw2)
  clear HTB
  go_wp2_with fail
  rw [rounds_succ]
  go_wp2_with fail
  refine hC1.mono ?_
  rintro e w3 ⟨v, rfl, hp3, hb3⟩
  obtain ⟨s1, s2, s3, rfl⟩ := PV.slice _ _ hp3
  have hbw3 := Below.join hbw2 hb3
  have hC2 := pieces_any (Ls.srcP a) d1 (.slice s1 s2 s3) w3 (Plus G w2 w3) (fun j hj => by
   rcases hj with hj | hj
   ·exact HO.out _ hbw3 j hj
   ·exact hj.2) hp3
  clear hC1 hp3 e0 e1 e2 e3 e4 e5 r0 r1 r2 r3 r4 r5
  go_wp2_with fail
  refine hC2.mono ?_
  rintro e w4 ⟨pb1, rfl, hpb1, hb4⟩
  have hbw4 := Below.join hbw3 hb4
  obtain ⟨e0, e1, e2, e3, e4, e5⟩ := (HBX.out w4 (Below.join (Below.join hb2 hb3) hb4)).six
  obtain ⟨r0, r1, r2, r3, r4, r5⟩ := (HLI.out w4 hbw4).six
  have hC3 := HV.out _ _ w4 G (HO.out _ hbw4) (HNA.out _ hbw4)
  have HP1 : Hid (pb1 = true ↔ piecesP (Ls.srcP a)) := hpb1
  clear hC2 hpb1
  go_wp2_with fail
  refine hC3.mono ?_
  rintro e w5 ⟨v, rfl, hp5, hb5⟩
  obtain ⟨n1, n2, n3, rfl⟩ := PV.slice _ _ hp5
  have hbw5 := Below.join hbw4 hb5
  have hC4 := pieces_any (Ls.viewP a) d2 (.slice n1 n2 n3) w5 (Plus G w4 w5) (fun j hj => by
   rcases hj with hj | hj
   ·exact HO.out _ hbw5 j hj
   ·exact hj.2) hp5
  clear hC3 hp5 e0 e1 e2 e3 e4 e5 r0 r1 r2 r3 r4 r5
  go_wp2_with fail
  refine hC4.mono ?_
  rintro e w6 ⟨pb2, rfl, hpb2, hb6⟩
  have HBW : Hid (Below w.heap.size w w6) := Below.join hbw5 hb6
  have HX : Hid ((pb1 && pb2) = true ↔ F) := by
   show _ ↔ _
   rw [HF.out, Bool.and_eq_true, HP1.out, hpb2]
   exact ⟨fun h => ⟨HT1.out, h⟩, fun h => h.2⟩
  clear hC4 hpb2
  cases pb1 with
  | false =>
   go_wp2_with fail
   go_ret
   exact ⟨false, rfl, HX.out, HBW.out⟩
  | true =>
   have HX2 : Hid (pb2 = true ↔ F) := HX.out
   go_wp2_with fail
   go_ret
   exact ⟨pb2, rfl, HX2.out, HBW.out⟩
end Go.Proofs.YtkfokddlgmcimaaGreatDoor
