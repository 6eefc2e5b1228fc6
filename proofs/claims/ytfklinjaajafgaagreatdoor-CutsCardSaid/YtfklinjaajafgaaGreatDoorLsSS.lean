import Derived.Test.YtfklinjaajafgaaGreatDoorLsY
import Derived.Test.YtfklinjaajafgaaGreatDoorLsQQ
import Derived.Test.YtfklinjaajafgaaGreatDoorPlain
import Derived.Test.YtfklinjaajafgaaGreatDoorCutd
/- The law Cuts, out of the contracts of lenses.Once and lenses.Apart. -/
namespace Go.Proofs.YtfklinjaajafgaaGreatDoor
open Go.RowKit

set_option maxRecDepth 100000 in
set_option maxHeartbeats 1000000 in
theorem cuts_long1 (a b : ByteArray) (w : World) (hp : a.size ≤ maxLen) (h : 1048576 < a.size) :
    Calls Tryz.prog 3 #[.string a, .string b] w fun e w' => e = .returned (.bool true) ∧ Below w.heap.size w w' := by
  unfold maxLen at hp
  have hd : (1048576 : Int) < (a.size : Int) := by omega
  go_enter Tryz.func3, Tryz.ntmps3
  go_wp2_with fail
  go_ret
  exact ⟨rfl, Below.refl _ _⟩

set_option maxRecDepth 100000 in
set_option maxHeartbeats 1000000 in
theorem cuts_long2 (a b : ByteArray) (w : World) (hp : a.size ≤ 1048576) (ht : b.size ≤ maxLen) (h : 1048576 < b.size) :
    Calls Tryz.prog 3 #[.string a, .string b] w fun e w' => e = .returned (.bool true) ∧ Below w.heap.size w w' := by
  unfold maxLen at ht
  have hd : ¬ (1048576 : Int) < (a.size : Int) := by omega
  have hd2 : (1048576 : Int) < (b.size : Int) := by omega
  go_enter Tryz.func3, Tryz.ntmps3
  go_wp2_with fail
  go_ret
  exact ⟨rfl, Below.refl _ _⟩

set_option maxRecDepth 100000 in
set_option maxHeartbeats 2000000 in
theorem cuts_short (a b : ByteArray) (w : World) (hp : a.size ≤ 1048576) (ht : b.size ≤ 1048576) (hO : Calls Tryz.prog 13 #[.string a, .string b] w (CutPost Ls.Twice a b w)) (hA : ∀ w1, Below w.heap.size w w1 → Calls Tryz.prog 14 #[.string a, .string b] w1 (CutPost Ls.Both a b w1)) :
    Calls Tryz.prog 3 #[.string a, .string b] w fun e w' => e = .returned (.bool true) ∧ Below w.heap.size w w' := by
  have hd : ¬ (1048576 : Int) < (a.size : Int) := by omega
  have hd2 : ¬ (1048576 : Int) < (b.size : Int) := by omega
  have HO : Hid (Calls Tryz.prog 13 #[.string a, .string b] w (CutPost Ls.Twice a b w)) := hO
  have HA : Hid (∀ w1, Below w.heap.size w w1 → Calls Tryz.prog 14 #[.string a, .string b] w1 (CutPost Ls.Both a b w1)) := hA
  clear hO hA
  go_enter Tryz.func3, Tryz.ntmps3
  go_wp2_with fail
  refine HO.out.mono ?_
  rintro e w1 ⟨x, rfl, hx0, hx1, hb1⟩
  have Hx0 : Hid (cutErr a.data.toList b.data.toList ≠ 0 → x = false) := hx0
  have Hx1 : Hid (∀ c d, readAll a.data.toList = some c → readAll b.data.toList = some d → cutErr a.data.toList b.data.toList = 0 → (x = true ↔ ¬ Ls.Twice (Ls.toPat c) (Ls.toPat d))) := hx1
  clear hx0 hx1
  go_wp2_with fail
  refine (HA.out _ hb1).mono ?_
  rintro e w2 ⟨y, rfl, hy0, hy1, hb2⟩
  have Hy0 : Hid (cutErr a.data.toList b.data.toList ≠ 0 → y = false) := hy0
  have Hy1 : Hid (∀ c d, readAll a.data.toList = some c → readAll b.data.toList = some d → cutErr a.data.toList b.data.toList = 0 → (y = true ↔ ¬ Ls.Both (Ls.toPat c) (Ls.toPat d))) := hy1
  clear hy0 hy1
  go_wp2_with fail
  refine (Pattern_any a _ hp).mono ?_
  rintro e w3 ⟨hb3, hcase⟩
  have hb03 := Below.join (Below.join hb1 hb2) hb3
  rcases hcase with ⟨hE, c, v, hC, rfl, hv⟩ | ⟨hE, rfl⟩
  · have HC : Hid (readAll a.data.toList = some c) := hC
    have HE : Hid (readErr a.data.toList = 0) := hE
    clear hC hE
    obtain ⟨y1, y2, y3, rfl⟩ := PV.slice _ _ hv
    go_wp2_with fail
    refine (Pattern_any b _ ht).mono ?_
    rintro e w4 ⟨hb4, hcase⟩
    have hba := below_alloc1 w3 (.cells #[.int .i64 (Ls.toPat c).kind, .string ⟨(Ls.toPat c).signs.toArray⟩, .slice y1 y2 y3] 27)
    have hb04 := Below.join (Below.join hb03 hba) hb4
    rcases hcase with ⟨hE2, d, v, hD, rfl, hv2⟩ | ⟨hE2, rfl⟩
    · have he : cutErr a.data.toList b.data.toList = 0 := by unfold cutErr; rw [if_pos HE.out]; exact hE2
      have Hx := Hx1.out c d HC.out hD he
      have Hy := Hy1.out c d HC.out hD he
      obtain ⟨roomA, sgA, fewA⟩ := read_all HE.out HC.out
      obtain ⟨roomB, sgB, fewB⟩ := read_all hE2 hD
      obtain ⟨z1, z2, z3, rfl⟩ := PV.slice _ _ hv2
      have hl0 := (lies_new w3 (patC (Ls.toPat c) (.slice y1 y2 y3))).below hb4 (by simp)
      have hbb := below_alloc1 w4 (.cells #[.int .i64 (Ls.toPat d).kind, .string ⟨(Ls.toPat d).signs.toArray⟩, .slice z1 z2 z3] 27)
      have hl1 := hl0.below hbb hl0.lt
      have hl2 := lies_new w4 (patC (Ls.toPat d) (.slice z1 z2 z3))
      have hz4 := hb4.size
      simp at hz4
      have Gc : ∀ k, (New w2 w3 k ∨ New (w3.alloc (.cells #[.int .i64 (Ls.toPat c).kind, .string ⟨(Ls.toPat c).signs.toArray⟩, .slice y1 y2 y3] 27)) w4 k) → k < w4.heap.size := by
        rintro k (h | h)
        · have := h.2; omega
        · exact h.2
      have pvc : PV (w4.alloc (.cells #[.int .i64 (Ls.toPat d).kind, .string ⟨(Ls.toPat d).signs.toArray⟩, .slice z1 z2 z3] 27)) (fun k => New w2 w3 k ∨ New (w3.alloc (.cells #[.int .i64 (Ls.toPat c).kind, .string ⟨(Ls.toPat c).signs.toArray⟩, .slice y1 y2 y3] 27)) w4 k) (Ls.toPat c) (.slice y1 y2 y3) :=
        hv.below (Below.join (Below.join hba hb4) hbb) (fun k hk => hk.2) (fun _ h => .inl h)
      have pvd : PV (w4.alloc (.cells #[.int .i64 (Ls.toPat d).kind, .string ⟨(Ls.toPat d).signs.toArray⟩, .slice z1 z2 z3] 27)) (fun k => New w2 w3 k ∨ New (w3.alloc (.cells #[.int .i64 (Ls.toPat c).kind, .string ⟨(Ls.toPat c).signs.toArray⟩, .slice y1 y2 y3] 27)) w4 k) (Ls.toPat d) (.slice z1 z2 z3) :=
        hv2.below hbb (fun k hk => hk.2) (fun _ h => .inr h)
      have HGc : Hid _ := Gc
      have HPc : Hid _ := pvc
      have HPd : Hid _ := pvd
      have HX : Hid _ := Hx
      have HY : Hid _ := Hy
      obtain ⟨m0, m1, m2⟩ := hl1.three
      obtain ⟨n0, n1, n2⟩ := hl2.three
      clear Gc pvc pvd Hx Hy hl0 hv hv2 hE2 hD
      rw [he]
      go_wp2_with fail
      refine (once_any (Ls.toPat c) (Ls.toPat d) _ _ roomA roomB (by simp) (by simp) fewA fewB sgA sgB _ _ _ _ (fun k hk => by have := HGc.out k hk; simp; omega) HPc.out HPd.out).mono ?_
      rintro e w5 ⟨u, rfl, hu, hb5⟩
      have hxu : x = u := by
        have h1 := HX.out
        rw [← hu] at h1
        exact Bool.eq_iff_iff.2 h1
      subst hxu
      have hl15 := hl1.below hb5 hl1.lt
      have hl25 := hl2.below hb5 hl2.lt
      obtain ⟨r0, r1, r2⟩ := hl15.three
      obtain ⟨s0, s1, s2⟩ := hl25.three
      clear m0 m1 m2 n0 n1 n2
      go_wp2_with fail
      refine (apart_any (Ls.toPat c) (Ls.toPat d) _ _ roomA roomB (by simp) (by simp) fewA fewB sgA sgB _ _ _ _ (fun k hk => by have := HGc.out k hk; have := hb5.size; simp at this; omega) (HPc.out.below hb5 (fun k hk => by have := HGc.out k hk; simp; omega) (fun _ h => h)) (HPd.out.below hb5 (fun k hk => by have := HGc.out k hk; simp; omega) (fun _ h => h))).mono ?_
      rintro e w6 ⟨v, rfl, hv6, hb6⟩
      have hyv : y = v := by
        have h1 := HY.out
        rw [← hv6] at h1
        exact Bool.eq_iff_iff.2 h1
      subst hyv
      go_wp2_with fail
      all_goals
        go_ret
        exact ⟨ret_bool (by simp), Below.join (Below.join (Below.join hb04 hbb) hb5) hb6⟩
    · have he : cutErr a.data.toList b.data.toList = readErr b.data.toList := by unfold cutErr; rw [if_pos HE.out]
      have hx := Hx0.out (by rw [he]; exact hE2)
      have hy := Hy0.out (by rw [he]; exact hE2)
      subst hx hy
      have hn : (((readErr b.data.toList : Nat) : Int) != 0) = true := by rw [bne_iff_ne]; omega
      have hle := readErr_le3 b.data.toList
      rw [he]
      clear he
      generalize readErr b.data.toList = r at *
      go_wp2_with fail
      all_goals
        go_ret
        exact ⟨ret_bool (by simp), Below.join hb04 (below_alloc1 _ _)⟩
  · have he : cutErr a.data.toList b.data.toList = readErr a.data.toList := by unfold cutErr; rw [if_neg hE]
    have hx := Hx0.out (by rw [he]; exact hE)
    have hy := Hy0.out (by rw [he]; exact hE)
    subst hx hy
    have hle := readErr_le3 a.data.toList
    rw [he]
    clear he
    generalize readErr a.data.toList = r at *
    have hn : ((r : Int) != 0) = true := by rw [bne_iff_ne]; omega
    have hn0 : ((r : Int) == 0) = false := by simp; omega
    go_wp2_with fail
    refine (Pattern_any b _ ht).mono ?_
    rintro e w4 ⟨hb4, hcase⟩
    have hba := below_alloc1 w3 (.cells #[.int .i64 Ls.none.kind, .string ⟨Ls.none.signs.toArray⟩, .slice Option.none 0 0] 27)
    have hb04 := Below.join (Below.join hb03 hba) hb4
    rcases hcase with ⟨hE2, d, v, hD, rfl, hv2⟩ | ⟨hE2, rfl⟩
    · obtain ⟨z1, z2, z3, rfl⟩ := PV.slice _ _ hv2
      clear hv2 hE2 hD
      go_wp2_with fail
      all_goals
        go_ret
        exact ⟨ret_bool (by simp), Below.join hb04 (below_alloc1 _ _)⟩
    · go_wp2_with fail
      all_goals
        go_ret
        exact ⟨ret_bool (by simp), Below.join hb04 (below_alloc1 _ _)⟩

end Go.Proofs.YtfklinjaajafgaaGreatDoor
