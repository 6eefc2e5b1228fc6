import Derived.Test.YtfklinjaajafgaaGreatDoorLsJ
import Derived.Test.YtfklinjaajafgaaGreatDoorPlain
namespace Go.Proofs.YtfklinjaajafgaaGreatDoor
open Go.RowKit

theorem Grows.back {G : Nat → Prop} {B0 : Nat} {w2 wx w3 wy : World} {base : Nat} {v00 v0 v : Value} {q0 q : List (Ls.Pat × Value)} (h0 : Grows G B0 w2 base v00 wx v0 q0) (hb : Below wx.heap.size wx w3) (h : Grows G B0 w3 base v0 wy v q) : Grows G B0 w2 base v00 wy v q := by
  have h1 := h0.below hb
  refine ⟨h.lw, ?_, ?_⟩
  · refine ⟨h.grown.os.trans h1.grown.os, h.grown.tape.trans h1.grown.tape, h.grown.output.trans h1.grown.output, Nat.le_trans h1.grown.size h.grown.size, fun k hk hne => ?_⟩
    obtain ⟨e1, e2⟩ := h1.block hk hne
    exact (h.grown.block k (Nat.lt_of_lt_of_le hk h1.grown.size) e2).trans e1
  · rcases h.row with e | ⟨m, e, hm⟩
    · rw [e]; exact h1.row
    · exact .inr ⟨m, e, Nat.le_trans h1.grown.size hm⟩

theorem Room_ok {L : List Ls.Pat} (hL : Ls.Room L) {x : Ls.Pat} (hx : x ∈ L) : Ok x := ⟨(hL.ok x hx).1, (hL.ok x hx).2.1⟩

theorem byte_take (s : ByteArray) (i : Nat) (h : i < s.size) : s.data.toList.take (i + 1) = s.data.toList.take i ++ [s[i]] := take_snoc s i h

set_option maxRecDepth 100000 in
set_option maxHeartbeats 2000000 in
theorem is_any (p : Ls.Pat) (L : List Ls.Pat) (hL : Ls.Room L) (hpL : p ∈ L) (s : ByteArray) (hs : s.size ≤ maxLen) (y : Value) (w : World) (G : Nat → Prop) (hG : Old w G) (hp : PV w G p y) :
    Calls Tryz.prog 59 #[patA p y, .string s] w fun e w' => e = .returned (.bool (Ls.is p s.data.toList)) ∧ Below w.heap.size w w' := by
  unfold maxLen at hs
  have lw0 : LW G w.heap.size ((w.alloc (.cells #[.int .i64 p.kind, .string ⟨p.signs.toArray⟩, y] 27)).alloc (.cells #[.int .i64 p.kind, .string ⟨p.signs.toArray⟩, y] 27)) w.heap.size (.slice (some ⟨w.heap.size + 1, 0, Option.none⟩) 1 1) [(p, y)] :=
    LW.of (H := G) ⟨own_one w _ p y, fun q hq => by simp only [List.mem_singleton] at hq; subst hq; exact hp.below (below_alloc2 _ _ _) hG fun _ h => h, fun k hk => by simp [Value.ownBlock]; have := hG k hk; omega, (hG.alloc _).alloc _⟩ (fun _ h => .inl h)
  go_enter Tryz.func59, Tryz.ntmps59
  go_wp2_with fail
  go_loopw [5, 6] (fun l i wr => ∃ (n : Nat) (qs : List (Ls.Pat × Value)), n ≤ s.size ∧ i = .int .i64 n ∧ LW G w.heap.size wr w.heap.size l qs ∧ qs.map (·.1) = Ls.after p (s.data.toList.take n) ∧ Below w.heap.size w wr) (fun _ i _ => s.size - (intOf i).toNat)
  case atStart => exact ⟨0, [(p, y)], Nat.zero_le _, rfl, lw0, by simp [Ls.after], below_alloc2 _ _ _⟩
  case round =>
    obtain ⟨n, qs, hn, rfl, lw, hqs, hb0⟩ := hrel
    have Hqs : Hid (qs.map (·.1) = Ls.after p (s.data.toList.take n)) := hqs
    clear hqs lw0
    obtain ⟨wo, hwo⟩ : ∃ wo, wo = wr := ⟨_, rfl⟩
    subst hwo
    have HA : Hid (Ls.KD (qs.map (·.1)) ∧ ∀ x, x ∈ qs.map (·.1) → x ∈ L) := by show _ ∧ _; rw [Hqs.out]; exact Ls.after_ok hL hpL _
    have hlen : qs.length ≤ 500000000 := by have := Ls.KD_length HA.out.1 HA.out.2; have := hL.small; simp at *; omega
    obtain ⟨ao, cap, hv5, hao⟩ := lw.shape
    by_cases hlt : n < s.size
    · have HT : Hid (s.data.toList.take (n + 1) = s.data.toList.take n ++ [s[n]]) := byte_take s n hlt
      subst hv5
      go_wp2_with fail
      go_loopw [7, 8] (fun l i wx => ∃ (k : Nat) (qn : List (Ls.Pat × Value)), k ≤ qs.length ∧ i = .int .i64 k ∧ Grows G w.heap.size wo w.heap.size (.slice Option.none 0 0) wx l qn ∧ qn.map (·.1) = Ls.stepTo ((qs.map (·.1)).take k) s[n]) (fun _ i _ => qs.length - (intOf i).toNat)
      case atStart => exact ⟨0, [], Nat.zero_le _, rfl, Grows.start (LW.nil _ _ _ _), by simp [Ls.stepTo]⟩
      case round =>
        obtain ⟨k, qn, hk, rfl, gr, hqn⟩ := hrel
        have Hqn : Hid (qn.map (·.1) = Ls.stepTo ((qs.map (·.1)).take k) s[n]) := hqn
        clear hqn
        obtain ⟨wx, hwx⟩ : ∃ wx, wx = wr := ⟨_, rfl⟩
        subst hwx
        obtain ⟨v7, hv7⟩ : ∃ v, v = u7 := ⟨_, rfl⟩
        subst hv7
        have hbx : Below wo.heap.size wo wx := (Below.refl _ _).grown gr.grown (Nat.le_refl _) (by simp [Value.ownBlock])
        have hzx := hbx.size
        by_cases hlk : k < qs.length
        · obtain ⟨g2, rfl⟩ := hao (by omega)
          obtain ⟨e0, e1, e2⟩ := cells_at (gr.other lw.own (.inr (by simp [Value.ownBlock]))) rfl k hlk
          have hg2 : g2 < wx.heap.size := World.block_lt_of_cell? _ _ e0
          have hmem : qs[k].1 ∈ L := HA.out.2 _ (List.mem_map.2 ⟨qs[k], List.getElem_mem hlk, rfl⟩)
          have hokk := hL.ok _ hmem
          have HC : Hid (∀ W, Below wx.heap.size wx W → Calls Tryz.prog 75 #[.agg #[.int .i64 qs[k].1.kind, .string ⟨qs[k].1.signs.toArray⟩, qs[k].2], .int .u8 s[n].toNat] W (BehindPost qs[k].1 s[n] W (GG G w.heap.size wo (.slice (some ⟨g2, 0, Option.none⟩) qs.length cap)))) := fun W hW =>
            behind_any qs[k].1 hokk.1 hokk.2.1 hokk.2.2.1 hokk.2.2.2 s[n] qs[k].2 W _ (fun j hj => by have := hj.2.1; have := hW.size; omega) (PV.mono (fun _ h => h) (fun j hj => ((Below.join hbx hW).block j hj.2.1)) _ _ (lw.each _ (List.getElem_mem hlk)))
          go_wp2_with fail
          go_region_held (fun w' => w'.cell? ⟨g2, k * 3, Option.none⟩ = some (.int .i64 qs[k].1.kind) ∧ w'.cell? ⟨g2, k * 3 + 1, Option.none⟩ = some (.string ⟨qs[k].1.signs.toArray⟩) ∧ w'.cell? ⟨g2, k * 3 + 2, Option.none⟩ = some qs[k].2) (first | assumption | go_keep) ((go_at_call 75; refine (HC.out _ ?_).mono ?_; exact (Below.refl _ _).drew; rintro e w3 ⟨v9, qm, rfl, hqm, lwm, hb3⟩; have hs3 : w3.cell? ⟨g2, k * 3, Option.none⟩ = some (.int .i64 qs[k].1.kind) ∧ w3.cell? ⟨g2, k * 3 + 1, Option.none⟩ = some (.string ⟨qs[k].1.signs.toArray⟩) ∧ w3.cell? ⟨g2, k * 3 + 2, Option.none⟩ = some qs[k].2 := ⟨(hb3.cell (p := ⟨g2, _, Option.none⟩) hg2).trans e0, (hb3.cell (p := ⟨g2, _, Option.none⟩) hg2).trans e1, (hb3.cell (p := ⟨g2, _, Option.none⟩) hg2).trans e2⟩))
          have hb3' : Below wx.heap.size wx w3 := ⟨hb3.os, hb3.tape, hb3.output, hb3.size, hb3.block⟩
          have gr3 := gr.below hb3'
          have hz3 := hb3'.size
          have lwm' : LW (GG G w.heap.size wo (.slice (some ⟨g2, 0, Option.none⟩) qs.length cap)) wx.heap.size w3 wx.heap.size v9 qm := lwm
          have Hqm : Hid (qm.map (·.1) = Ls.behind qs[k].1 s[n]) := hqm
          have HM : Hid (∀ x, x ∈ qm.map (·.1) → x ∈ L) := fun x hx => by rw [Hqm.out] at hx; exact hL.closed _ hmem _ _ hx
          have hlm : qm.length ≤ 1000000000 := by have := Ls.behind_length qs[k].1 hokk.1 s[n]; rw [← Hqm.out] at this; simp at this; omega
          obtain ⟨ao9, cap9, rfl, hao9⟩ := lwm'.shape
          have hrow : ∀ m, v7.ownBlock = some m → wo.heap.size ≤ m ∧ m < wx.heap.size := fun m e => by
            have h1 := (gr.lw.own.lt m e).2
            rcases gr.row with e2 | ⟨m2, e2, hm2⟩
            · rw [e2] at e; simp [Value.ownBlock] at e
            · rw [e] at e2; injection e2 with e2; omega
          have HH : Hid (∀ j, GG (GG G w.heap.size wo (.slice (some ⟨g2, 0, Option.none⟩) qs.length cap)) wx.heap.size w3 (.slice ao9 qm.length cap9) j → (G j ∨ w.heap.size ≤ j) ∧ j < w3.heap.size ∧ some j ≠ v7.ownBlock) := by
            intro j hj
            have hzo := hb0.size
            refine ⟨?_, hj.2.1, fun e => ?_⟩
            · rcases hj.1 with h | h
              · exact h.1
              · exact .inr (by omega)
            · have h3 := hrow j e.symm
              rcases hj.1 with h | h
              · have := h.2.1; omega
              · omega
          have HN : Hid ((Value.slice ao9 qm.length cap9).ownBlock = Option.none ∨ (Value.slice ao9 qm.length cap9).ownBlock ≠ v7.ownBlock) := by
            cases hv : (Value.slice ao9 qm.length cap9).ownBlock with
            | none => exact .inl rfl
            | some j =>
              refine .inr fun e => ?_
              have h3 := hrow j e.symm
              have h4 := lwm'.own.lt j hv
              omega
          have HQN : Hid (∀ x, x ∈ qn.map (·.1) → x ∈ L) := by
            show ∀ x, _
            rw [Hqn.out]
            exact Ls.stepTo_room hL (fun x hx => HA.out.2 x (List.mem_of_mem_take hx)) _
          have HKD : Hid (Ls.KD (qn.map (·.1))) := by show Ls.KD _; rw [Hqn.out]; exact Ls.stepTo_KD _ _
          clear hrow lwm hqm HC e0 e1 e2 hs3
          go_wp2_with fail
          go_loopw [7, 10] (fun l i wy => ∃ (j : Nat) (qx : List (Ls.Pat × Value)), j ≤ qm.length ∧ i = .int .i64 j ∧ Grows G w.heap.size w3 w.heap.size v7 wy l qx ∧ qx.map (·.1) = Ls.putAll (qn.map (·.1)) ((qm.map (·.1)).take j)) (fun _ i _ => qm.length - (intOf i).toNat)
          case atStart => exact ⟨0, qn, Nat.zero_le _, rfl, Grows.start gr3.lw, by simp [Ls.putAll]⟩
          case round =>
            obtain ⟨j, qx, hj, rfl, gx, hqx⟩ := hrel
            have Hqx : Hid (qx.map (·.1) = Ls.putAll (qn.map (·.1)) ((qm.map (·.1)).take j)) := hqx
            clear hqx
            by_cases hlj : j < qm.length
            · obtain ⟨g9, rfl⟩ := hao9 (by omega)
              obtain ⟨e0, e1, e2⟩ := cells_at (gx.other lwm'.own HN.out) rfl j hlj
              have HXL : Hid (∀ x, x ∈ qx.map (·.1) → x ∈ L) := fun x hx => by
                rw [Hqx.out] at hx
                rcases Ls.mem_putAll hx with h | h
                · exact HQN.out x h
                · exact HM.out x (List.mem_of_mem_take h)
              have hlx : qx.length ≤ 500000000 := by
                have hkd : Ls.KD (qx.map (·.1)) := by rw [Hqx.out]; exact Ls.KD_putAll HKD.out _
                have h1 := Ls.KD_length hkd HXL.out
                have h2 := hL.small
                simp at h1
                omega
              have hokj := Room_ok hL (HM.out qm[j].1 (List.mem_map.2 ⟨qm[j], List.getElem_mem hlj, rfl⟩))
              go_wp2_with fail
              refine (put_any wr w.heap.size (by have := gx.grown.size; have := hb0.size; omega) (GG G w.heap.size wr u7) u7 qx gx.lw (by omega) (fun q hq => Room_ok hL (HXL.out q.1 (List.mem_map.2 ⟨q, hq, rfl⟩))) qm[j].1 qm[j].2 (gx.fits HH.out (lwm'.each _ (List.getElem_mem hlj))) hokj.1 hokj.2).mono ?_
              rintro e w6 hpost
              obtain ⟨v6, qs6, rfl, hm6, gr6⟩ := gx.put hpost
              clear hpost
              have Hm6 : Hid (qs6.map (·.1) = Ls.put (qx.map (·.1)) qm[j].1) := hm6
              clear hm6
              go_wp2_with fail
              go_roundw
              case rel => exact ⟨j + 1, qs6, by omega, by go_num, gr6, puts_snoc Hqx.out (by simpa using hlj) (by simpa using Hm6.out)⟩
              case measure => simp [intOf]; omega
            · go_wp2_with fail
              go_roundw
              case rel =>
                refine ⟨k + 1, qx, by omega, by go_num, gr.back hb3' gx, ?_⟩
                rw [Hqx.out, List.take_of_length_le (by simp; omega), Hqm.out, List.take_succ_eq_append_getElem (by simpa using hlk), Ls.stepTo_snoc, ← Hqn.out]
                simp
              case measure => simp [intOf]; omega
        · go_wp2_with fail
          go_roundw
          case rel =>
            refine ⟨n + 1, qn, by omega, by go_num, gr.lw, ?_, Below.join hb0 hbx⟩
            rw [Hqn.out, List.take_of_length_le (by simp; omega), Hqs.out, HT.out, Ls.after_snoc]
            rfl
          case measure => simp [intOf]; omega
    · subst hv5
      have hn1 : n = s.size := by omega
      have HF : Hid (qs.map (·.1) = Ls.after p s.data.toList) := by
        have := Hqs.out
        rw [List.take_of_length_le (by simp; omega)] at this
        exact this
      go_wp2_with fail
      go_loopw [11] (fun i wx => ∃ k : Nat, k ≤ qs.length ∧ i = .int .i64 k ∧ Below wo.heap.size wo wx ∧ ∀ q, q ∈ qs.take k → Ls.empty q.1 = false) (fun i _ => qs.length - (intOf i).toNat)
      case atStart => exact ⟨0, Nat.zero_le _, rfl, Below.refl _ _, by simp⟩
      case round =>
        obtain ⟨k, hk, rfl, hbx, hno⟩ := hrel
        have Hno : Hid (∀ q, q ∈ qs.take k → Ls.empty q.1 = false) := hno
        clear hno
        by_cases hlk : k < qs.length
        · obtain ⟨g2, rfl⟩ := hao (by omega)
          have lwx := lw.below hbx
          obtain ⟨e0, e1, e2⟩ := cells_at lwx.own rfl k hlk
          have hmem : qs[k].1 ∈ L := HA.out.2 _ (List.mem_map.2 ⟨qs[k], List.getElem_mem hlk, rfl⟩)
          go_wp2_with fail
          refine (empty_any qs[k].1 (hL.ok _ hmem).1 qs[k].2 _ _ lwx.old (lwx.each _ (List.getElem_mem hlk))).mono ?_
          rintro e w6 ⟨rfl, hb6⟩
          cases hE : Ls.empty qs[k].1 with
          | true =>
            have HE : Hid (Ls.empty qs[k].1 = true) := hE
            clear hE
            go_wp2_with fail
            go_ret
            refine ⟨ret_bool ?_, Below.join (Below.join hb0 hbx) hb6⟩
            symm
            rw [Ls.is_eq, ← HF.out, List.any_eq_true]
            exact ⟨qs[k].1, List.mem_map.2 ⟨qs[k], List.getElem_mem hlk, rfl⟩, HE.out⟩
          | false =>
            have HE : Hid (Ls.empty qs[k].1 = false) := hE
            clear hE
            go_wp2_with fail
            go_roundw
            case rel =>
              refine ⟨k + 1, by omega, by go_num, Below.join hbx hb6, fun q hq => ?_⟩
              rw [List.take_succ_eq_append_getElem hlk] at hq
              rcases List.mem_append.1 hq with hq | hq
              · exact Hno.out q hq
              · simp only [List.mem_singleton] at hq
                rw [hq]; exact HE.out
            case measure => simp [intOf]; omega
        · go_wp2_with fail
          go_ret
          refine ⟨ret_bool ?_, Below.join hb0 hbx⟩
          symm
          rw [Ls.is_eq, ← HF.out, Bool.eq_false_iff]
          intro h
          rw [List.any_eq_true] at h
          obtain ⟨x, hx, hxe⟩ := h
          obtain ⟨q, hq, rfl⟩ := List.mem_map.1 hx
          have := Hno.out q (by rw [List.take_of_length_le (by omega)]; exact hq)
          rw [this] at hxe
          cases hxe

end Go.Proofs.YtfklinjaajafgaaGreatDoor
