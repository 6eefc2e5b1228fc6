import Derived.Test.YtfklinjaajafgaaGreatDoorLsQ
namespace Go.Proofs.YtfklinjaajafgaaGreatDoor
open Go.RowKit

theorem Lies.fr {w : World} {g : Nat} {x : List Value} (h : Lies w g x) (o : Nat) : w.frozen? ⟨g, o, Option.none⟩ = false := by
  unfold Lies at h
  simp [World.frozen?, h]

theorem Lies.below {w w' : World} {g : Nat} {x : List Value} {B : Nat} (h : Lies w g x) (hb : Below B w w') (hg : g < B) : Lies w' g x := by
  unfold Lies at h ⊢
  rw [hb.block g hg]; exact h

theorem Lies.grown {w w' : World} {g : Nat} {x : List Value} {r : Option Nat} (h : Lies w g x) (hb : w.grownBy w' r) (hg : some g ≠ r) : Lies w' g x := by
  have := h.lt
  unfold Lies at h ⊢
  rw [hb.block g this hg]; exact h

theorem Lies.set_other {w : World} {g : Nat} {x : List Value} (h : Lies w g x) (k o : Nat) (v : Value) (hk : g ≠ k) : Lies (w.setCell ⟨k, o, Option.none⟩ v) g x := by
  unfold Lies at h ⊢
  rw [Below.heap_setCell _ _ _ _ hk]; exact h

/-- The result's variable is filled. -/
theorem Left.res {w W : World} {pb : Nat} {s : ByteArray} {a z : Nat} {b : Bool} (h : Left w pb s a z b W) {g : Nat} (hg : w.heap.size ≤ g) (hp : pb < w.heap.size) (x y v : Value) : Left w pb s a z b (((W.setCell ⟨g, 0, Option.none⟩ x).setCell ⟨g, 1, Option.none⟩ y).setCell ⟨g, 2, Option.none⟩ v) := by
  refine ⟨?_, ?_⟩
  · have := h.lies
    unfold PB at this ⊢
    rw [set3_other _ _ _ _ _ _ (by omega)]; exact this
  · refine ⟨h.grown.os, h.grown.tape, h.grown.output, by simpa [World.setCell] using h.grown.size, fun k hk hr => ?_⟩
    rw [set3_other _ _ _ _ _ _ (by omega)]; exact h.grown.block k hk hr

theorem has_nat (l : List UInt8) (k : Nat) (w : World) (hk : k < 256) (hl : l.length ≤ 4611686018427387904) :
    Calls Tryz.prog 72 #[.string ⟨l.toArray⟩, .int .u8 (k : Int)] w fun e w' => e = .returned (.bool (Ls.has l (UInt8.ofNat k))) ∧ w' = w := by
  have h := has_any ⟨l.toArray⟩ (UInt8.ofNat k) w (by unfold maxLen; simp [ByteArray.size]; omega)
  rw [show ((UInt8.ofNat k).toNat : Int) = (k : Int) from by simp; omega] at h
  simpa using h

theorem str_snoc (l : List UInt8) (c : UInt8) : Value.string (⟨l.toArray⟩ ++ ⟨#[c]⟩) = .string ⟨(l ++ [c]).toArray⟩ := by
  rw [show (⟨#[c]⟩ : ByteArray) = ⟨[c].toArray⟩ from rfl, ByteArray.mk_append_mk]

/-- What class answers. -/
def ClassPost (w : World) (pb : Nat) (s : ByteArray) (i z : Nat) : Ending → World → Prop := fun e w' =>
  (∃ sg t, Ls.cls ((rest s i).length + 1) [] (rest s i) = some (sg, t) ∧ e = .returned (patA (Ls.set sg) (.slice Option.none 0 0)) ∧ Left w pb s (s.size - t.length) z false w') ∨
  (Ls.cls ((rest s i).length + 1) [] (rest s i) = .none ∧ ∃ i', i ≤ i' ∧ i' ≤ s.size ∧ e = .returned (patA Ls.none (.slice Option.none 0 0)) ∧ Left w pb s i' z true w')

set_option maxRecDepth 100000 in
set_option maxHeartbeats 1000000 in
theorem class_any (pb : Nat) (s : ByteArray) (i z : Nat) (w : World) (h : PB w pb s i z false) (hs : s.size ≤ 1048576) (hi : i ≤ s.size) :
    Calls Tryz.prog 129 #[.pointer (some ⟨pb, 0, Option.none⟩)] w (ClassPost w pb s i z) := by
  have Hh : Hid (PB w pb s i z false) := h
  have hpl := h.lt
  have hne : ¬ w.heap.size = pb := by omega
  have hne' : ¬ pb = w.heap.size := by omega
  go_enter Tryz.func129, Tryz.ntmps129
  go_wp2_with fail
  go_loopw [3] (fun o wr => ∃ (acc : List UInt8) (j n : Nat), o = .string ⟨acc.toArray⟩ ∧ acc.length ≤ 128 * j ∧ i ≤ j ∧ j ≤ s.size ∧ (rest s j).length < n ∧ Ls.cls n acc (rest s j) = Ls.cls ((rest s i).length + 1) [] (rest s i) ∧ Left w pb s j z false wr ∧ Lies wr w.heap.size [.int .i64 0, .string ⟨#[]⟩, .slice Option.none 0 0]) (fun _ wr => s.size + 1 - (intOf ((wr.cell? ⟨pb, 1, Option.none⟩).getD (.int .i64 0))).toNat)
  case atStart => exact ⟨[], i, _, rfl, by simp, Nat.le_refl _, hi, Nat.lt_succ_self _, rfl, Left.of_below Hh.out (below_alloc1 _ _), lies_new w _⟩
  case round =>
    obtain ⟨acc, j, n, rfl, hacc, hij, hjs, hn, hcls, hl, hlie⟩ := hrel
    have Hcls : Hid (Ls.cls n acc (rest s j) = Ls.cls ((rest s i).length + 1) [] (rest s i)) := hcls
    clear hcls
    have c0 := hl.lies.c0
    have c1 := hl.lies.c1
    have hw := hlie.lt
    go_wp2_with fail
    refine (next_any pb s j z false _ hl.lies (by omega) (by omega)).mono ?_
    rintro e w1 ⟨rfl, hb1⟩
    go_wp2_with fail
    refine (mark_any (nx s j) _).mono ?_
    rintro e w2 ⟨rfl, rfl⟩
    have hl1 := hl.below hb1
    have hz1 := hb1.size
    have hlie1 := hlie.below hb1 hw
    obtain ⟨q0, q1, q2⟩ := hlie1.three (a := Ls.none)
    have g0 := hlie1.fr 0
    have g1 := hlie1.fr 1
    have g2 := hlie1.fr 2
    cases hm : Ls.mark (nx s j) with
    | false =>
      have Hm : Hid (Ls.mark (nx s j) = false) := hm
      have f3 := hl1.lies.fr 3
      have k3 := hl1.lies.c3
      clear hm
      go_wp2_with fail
      refine bodyPost_ret (v := patA Ls.none (.slice Option.none 0 0)) (by simp [results, Tryz.results129, go_sem, q0, q1, q2, Ls.none]) rfl (Or.inr ⟨?_, j, hij, hjs, rfl, (hl1.set3 true).res (Nat.le_refl _) hpl _ _ _⟩)
      rw [← Hcls.out]
      cases n with
      | zero => rfl
      | succ n => rw [Ls.cls, range1_no Hm.out]
    | true =>
      have Hm : Hid (Ls.mark (nx s j) = true) := hm
      have hjl := mark_lt hm
      have f1 := hl1.lies.fr 1
      have k1 := hl1.lies.c1
      clear hm
      go_wp2_with fail
      have hl2 := hl1.set1 (j + 1)
      have hlie2 := hlie1.set_other pb 1 (.int .i64 ((j + 1 : Nat) : Int)) hne
      refine (take_any pb s (j + 1) z false 45 _ hl2.lies (by omega) (by omega)).mono ?_
      rintro e w3 ⟨rfl, hl3'⟩
      have hl3 := hl2.trans hl3'
      have hlie3 := hlie2.grown hl3'.grown (by simp [hne])
      go_upto_if 32 with fail
      go_cut [6, 7] (fun s6 _ wx => ∃ (b : UInt8) (m : Nat), s6 = .int .u8 b.toNat ∧ Ls.range1 (rest s j) = some (nx s j, b, rest s m) ∧ j < m ∧ m ≤ s.size ∧ Left w pb s m z false wx ∧ Lies wx w.heap.size [.int .i64 0, .string ⟨#[]⟩, .slice Option.none 0 0])
      case first =>
        cases hse : sees s (j + 1) 45 with
        | false =>
          have Hse : Hid (sees s (j + 1) 45 = false) := hse
          rw [hse] at hl3
          clear hse
          go_wp2_with fail
          go_meet
          case rel => exact ⟨nx s j, j + 1, rfl, range1_one Hm.out Hse.out, by omega, by omega, by simpa using hl3, hlie3⟩
        | true =>
          have Hse : Hid (sees s (j + 1) 45 = true) := hse
          rw [hse] at hl3
          simp only [if_true] at hl3
          have hj1 := (sees_true hse).1
          clear hse
          go_wp2_with fail
          refine (next_any pb s (j + 1 + 1) z false _ hl3.lies (by omega) (by omega)).mono ?_
          rintro e w4 ⟨rfl, hb4⟩
          go_wp2_with fail
          refine (mark_any (nx s (j + 1 + 1)) _).mono ?_
          rintro e w5 ⟨rfl, rfl⟩
          have hl4 := hl3.below hb4
          have hlie4 := hlie3.below hb4 hlie3.lt
          obtain ⟨r0, r1, r2⟩ := hlie4.three (a := Ls.none)
          have p0 := hlie4.fr 0
          have p1 := hlie4.fr 1
          have p2 := hlie4.fr 2
          have f31 := hl4.lies.fr 1
          have f33 := hl4.lies.fr 3
          have k31 := hl4.lies.c1
          have k33 := hl4.lies.c3
          have bad : (Ls.mark (nx s (j + 1 + 1)) = false ∨ (nx s (j + 1 + 1)).toNat < (nx s j).toNat) → Ls.cls ((rest s i).length + 1) [] (rest s i) = .none := by
            intro hb
            rw [← Hcls.out]
            cases n with
            | zero => rfl
            | succ n => rw [Ls.cls, range1_bad Hm.out Hse.out hb]
          have Hbad := bad
          clear bad
          cases hm2 : Ls.mark (nx s (j + 1 + 1)) with
          | false =>
            have hnone := Hbad (.inl hm2)
            have Hnone : Hid (Ls.cls ((rest s i).length + 1) [] (rest s i) = .none) := hnone
            clear hnone Hbad hm2
            go_wp2_with fail
            refine bodyPost_ret (v := patA Ls.none (.slice Option.none 0 0)) (by simp [results, Tryz.results129, go_sem, r0, r1, r2, Ls.none]) rfl (Or.inr ⟨Hnone.out, j + 1 + 1, by omega, by omega, rfl, (hl4.set3 true).res (Nat.le_refl _) hpl _ _ _⟩)
          | true =>
            have Hm2 : Hid (Ls.mark (nx s (j + 1 + 1)) = true) := hm2
            have hj2 := mark_lt hm2
            clear hm2
            by_cases hlt : (nx s (j + 1 + 1)).toNat < (nx s j).toNat
            · have Hnone : Hid (Ls.cls ((rest s i).length + 1) [] (rest s i) = .none) := Hbad (.inr hlt)
              clear Hbad
              go_wp2_with fail
              refine bodyPost_ret (v := patA Ls.none (.slice Option.none 0 0)) (by simp [results, Tryz.results129, go_sem, r0, r1, r2, Ls.none]) rfl (Or.inr ⟨Hnone.out, j + 1 + 1, by omega, by omega, rfl, (hl4.set3 true).res (Nat.le_refl _) hpl _ _ _⟩)
            · clear Hbad
              go_wp2_with fail
              go_meet
              case rel => exact ⟨nx s (j + 1 + 1), j + 1 + 1 + 1, rfl, range1_two Hm.out Hse.out Hm2.out (by omega), by omega, by omega, hl4.set1 (j + 1 + 1 + 1), hlie4.set_other pb 1 _ hne⟩
      case rest =>
        obtain ⟨b, m, rfl, hr1, hjm, hms, hlm, hliem⟩ := hcut
        have Hr1 : Hid (Ls.range1 (rest s j) = some (nx s j, b, rest s m)) := hr1
        clear hr1
        have hcv := run_conv1
        go_wp2_with fail
        go_loopw [3, 9] (fun o c wy => ∃ k : Nat, k ≤ 128 ∧ c = .int .i64 k ∧ o = .string ⟨(Ls.rngTo acc (nx s j) b k).toArray⟩ ∧ Below wc.heap.size wc wy) (fun _ c _ => 128 - (intOf c).toNat)
        case atStart => exact ⟨0, by omega, rfl, by simp [Ls.rngTo], Below.refl _ _⟩
        case round =>
          obtain ⟨k, hk, rfl, rfl, hby⟩ := hrel
          have hlen := rngTo_length acc (nx s j) b k
          by_cases hlt : k < 128
          · go_wp2_with fail
            refine (has_nat (Ls.rngTo acc (nx s j) b k) k _ (by omega) (by omega)).mono ?_
            rintro e w6 ⟨rfl, rfl⟩
            by_cases h1 : (nx s j).toNat ≤ k
            · by_cases h2 : k ≤ b.toNat
              · cases h3 : Ls.has (Ls.rngTo acc (nx s j) b k) (UInt8.ofNat k) with
                | true =>
                  have H : Hid (Ls.rngTo acc (nx s j) b (k + 1) = Ls.rngTo acc (nx s j) b k) := by show _ = _; rw [rngTo_succ, if_neg (by simp [h3])]
                  clear h3
                  go_wp2_with fail
                  go_roundw
                  case rel => exact ⟨k + 1, by omega, by go_num, by rw [H.out], hby⟩
                  case measure => simp [intOf]; omega
                | false =>
                  have H : Hid (Ls.rngTo acc (nx s j) b (k + 1) = Ls.rngTo acc (nx s j) b k ++ [UInt8.ofNat k]) := by show _ = _; rw [rngTo_succ, if_pos ⟨h1, h2, h3⟩]
                  clear h3
                  go_wp2_with fail
                  go_roundw
                  case rel => exact ⟨k + 1, by omega, by go_num, by rw [H.out]; exact str_snoc _ _, Below.join hby (below_alloc1 _ _)⟩
                  case measure => simp [intOf]; omega
              · have H : Hid (Ls.rngTo acc (nx s j) b (k + 1) = Ls.rngTo acc (nx s j) b k) := by show _ = _; rw [rngTo_succ, if_neg (by omega)]
                go_wp2_with fail
                go_roundw
                case rel => exact ⟨k + 1, by omega, by go_num, by rw [H.out], hby⟩
                case measure => simp [intOf]; omega
            · have H : Hid (Ls.rngTo acc (nx s j) b (k + 1) = Ls.rngTo acc (nx s j) b k) := by show _ = _; rw [rngTo_succ, if_neg (by omega)]
              go_wp2_with fail
              go_roundw
              case rel => exact ⟨k + 1, by omega, by go_num, by rw [H.out], hby⟩
              case measure => simp [intOf]; omega
          · have hk1 : k = 128 := by omega
            subst hk1
            have hly := hlm.below hby
            have hliey := hliem.below hby hliem.lt
            go_wp2_with fail
            refine (take_any pb s m z false 93 _ hly.lies (by omega) (by omega)).mono ?_
            rintro e w7 ⟨rfl, hl7'⟩
            have hl7 := hly.trans hl7'
            have hlie7 := hliey.grown hl7'.grown (by simp [hne])
            obtain ⟨r0, r1, r2⟩ := hlie7.three (a := Ls.none)
            have p0 := hlie7.fr 0
            have p1 := hlie7.fr 1
            have p2 := hlie7.fr 2
            have hc1 : ∀ n', n = n' + 1 → Ls.cls n acc (rest s j) = if (rest s m).head? = some 93 then some (Ls.rng acc (nx s j) b, (rest s m).tail) else Ls.cls n' (Ls.rng acc (nx s j) b) (rest s m) := by
              intro n' e
              rw [e, Ls.cls, Hr1.out]
            obtain ⟨n', hn'⟩ : ∃ n', n = n' + 1 := ⟨n - 1, by omega⟩
            have Hc1 : Hid (Ls.cls n acc (rest s j) = if (rest s m).head? = some 93 then some (Ls.rng acc (nx s j) b, (rest s m).tail) else Ls.cls n' (Ls.rng acc (nx s j) b) (rest s m)) := hc1 n' hn'
            clear hc1
            have hn2 : (rest s m).length < n' := by simp at hn ⊢; omega
            cases hse : sees s m 93 with
            | true =>
              have Hc2 : Hid (Ls.cls ((rest s i).length + 1) [] (rest s i) = some (Ls.rng acc (nx s j) b, rest s (m + 1))) := by
                show _ = _
                rw [← Hcls.out, Hc1.out, if_pos (sees_head.2 hse), rest_tail]
              have hm1 := (sees_true hse).1
              rw [hse] at hl7
              simp only [if_true] at hl7
              clear hse
              go_wp2_with fail
              refine bodyPost_ret (v := patA (Ls.set (Ls.rng acc (nx s j) b)) (.slice Option.none 0 0)) (by simp [results, Tryz.results129, go_sem, r0, r1, r2, Ls.set, Ls.rng]) rfl (Or.inl ⟨_, _, Hc2.out, rfl, ?_⟩)
              rw [rest_len, show s.size - (s.size - (m + 1)) = m + 1 from by omega]
              exact hl7.res (Nat.le_refl _) hpl _ _ _
            | false =>
              have Hc2 : Hid (Ls.cls n' (Ls.rng acc (nx s j) b) (rest s m) = Ls.cls ((rest s i).length + 1) [] (rest s i)) := by
                show _ = _
                rw [← Hcls.out, Hc1.out, if_neg (by rw [sees_head, hse]; simp)]
              rw [hse] at hl7
              simp only [Bool.false_eq_true, if_false] at hl7
              clear hse
              go_wp2_with fail
              go_roundw
              case rel => exact ⟨_, m, n', rfl, by unfold Ls.rng at *; omega, by omega, hms, hn2, Hc2.out, hl7, hlie7⟩
              case measure =>
                rw [hl7.lies.c1, hl.lies.c1]
                simp [intOf]
                omega

end Go.Proofs.YtfklinjaajafgaaGreatDoor
