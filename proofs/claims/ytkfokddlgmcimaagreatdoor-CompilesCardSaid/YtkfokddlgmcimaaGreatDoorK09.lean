import Derived.Test.YtkfokddlgmcimaaGreatDoorK08
import Derived.Laws.IdiomStrings
set_option maxRecDepth 100000
set_option maxHeartbeats 4000000
namespace Go.Proofs.YtkfokddlgmcimaaGreatDoor
open Go.RowKit
theorem slash_yes {P : List UInt8 -> Ls.Rd} {r : List UInt8} {s : ByteArray} {d : Ls.D} {j : Nat} (h : P r = some (d, rest s j)) (hse : sees s j 47 = true) : Ls.slashR P r = some (d, rest s (j + 1)) := by
 unfold Ls.slashR
 rw [h]
 dsimp only
 rw [if_pos (sees_head.2 hse), rest_tail]
theorem slash_no {P : List UInt8 -> Ls.Rd} {r : List UInt8} {s : ByteArray} {d : Ls.D} {j : Nat} (h : P r = some (d, rest s j)) (hse : sees s j 47 = false) : Ls.slashR P r = .none := by
 unfold Ls.slashR
 rw [h]
 dsimp only
 rw [if_neg (by rw [sees_head, hse]; simp)]
theorem slash_none {P : List UInt8 -> Ls.Rd} {r : List UInt8} (h : P r = .none) : Ls.slashR P r = .none := by
 unfold Ls.slashR
 rw [h]
theorem ppattern_any (s : ByteArray) (hs : s.size <= 1048576) (a1 : Addr) (z : Nat) (hz : z <= 12) (rb i : Nat) (w : World) (h : RB w rb s i z) (hE : Env w rb a1) (hi : i <= s.size) :
  Calls Tryz.prog 144 #[rdV rb] w (RPost w rb s i z a1 (Ls.slashR (Ls.pat (13 - z)) (rest s i))) := by
 have HI0 : Hid (In 157 w rb s i z (w.alloc (bxO 157 rb))) := In.enter 157 h
 have hrl := h.lt
 have hC := readAt_any s hs a1 z hz rb i _ HI0.out.lies (HI0.out.env hE) hi
 go_enter Tryz.func144, Tryz.ntmps144
 go_wp2_with fail
 refine hC.mono ?_
 rintro e w1 (⟨d, j, v, hr, hij, hj, rfl, hrep, hl⟩ | ⟨hr, rfl, hg⟩)
 ·have hi1 := HI0.out.go hl
  have b1 := hi1.cell
  obtain ⟨ty, x, rfl⟩ := hrep.iface
  have Hr : Hid (Ls.pat (13 - z) (rest s i) = some (d, rest s j)) := hr
  have Hrep : Hid (Rep w1 (New (w.alloc (bxO 157 rb)) w1) 0 d [.iface ty x]) := hrep
  have HW : Hid (w.heap.size <= (w.alloc (bxO 157 rb)).heap.size) := by show _ <= _; simp
  clear hr hrep hC
  cases hse : sees s j 47 with
  | true =>
   have HN : Hid (Ls.slashR (Ls.pat (13 - z)) (rest s i) = some (d, rest s (j + 1))) := slash_yes Hr.out hse
   have hj2 := (sees_true hse).1
   have hcl := expect_yes rb s j z 47 w1 hi1.lies hs hse
   clear hse
   go_wp2_with fail
   refine hcl.mono ?_
   rintro e w3 ⟨rfl, hl3⟩
   have HP : Hid (Rep w3 (New w w3) 0 d [.iface ty x]) := Hrep.out.grown hrl HW.out hl3.grown
   go_wp2_with fail
   go_ret
   exact .inl ⟨d, j + 1, _, HN.out, by omega, by omega, rfl, HP.out, (hi1.go hl3).left⟩
  | false =>
   have HN : Hid (Ls.slashR (Ls.pat (13 - z)) (rest s i) = .none) := slash_no Hr.out hse
   have hcl := expect_no rb s j z 47 a1 w1 hi1.lies (hi1.env hE) hs (by omega) hse
   clear hse
   go_wp2_with fail
   refine hcl.mono ?_
   rintro e w3 ⟨rfl, hg⟩
   go_wp2_with fail
   exact ⟨rfl, .inr ⟨HN.out, rfl, hi1.threw rfl hg⟩⟩
 ·have HN : Hid (Ls.slashR (Ls.pat (13 - z)) (rest s i) = .none) := slash_none hr
  go_wp2_with fail
  exact ⟨rfl, .inr ⟨HN.out, rfl, HI0.out.threw rfl hg⟩⟩
def wsign (c : UInt8) : Bool := Ls.sign c && c != 10
theorem wordSign_yes (s : ByteArray) (hs : s.size <= 1048576) (z rb i : Nat) (w : World) (h : RB w rb s i z) (hi : i < s.size) (hw : wsign (nx s i) = true) :
  Calls Tryz.prog 164 #[rdV rb] w fun e w' => e = .returned (.int .u8 (nx s i).toNat) /\ RLeft w rb s (i + 1) z w' := by
 have HI0 : Hid (In 157 w rb s i z (w.alloc (bxO 157 rb))) := In.enter 157 h
 have hn := rnext_yes rb s i z _ HI0.out.lies hs hi
 have h1 : Ls.sign (nx s i) = true := by unfold wsign at hw; simp at hw; exact hw.1
 have e1 : (((nx s i).toNat : Int) == 10) = false := by
  rw [beq_eq_false_iff_ne]; intro e
  unfold wsign at hw; simp at hw
  exact hw.2 (UInt8.toNat_inj.1 (by simpa using (by omega : (nx s i).toNat = 10)))
 have HM := fun W => isSign_any (nx s i) W
 rw [h1] at HM
 have HM' : Hid _ := HM
 clear HM hw h1
 go_enter Tryz.func164, Tryz.ntmps164
 go_wp2_with fail
 refine hn.mono ?_
 rintro e w1 ⟨rfl, hl⟩
 go_wp2_with fail
 refine (HM'.out _).mono ?_
 rintro e w2 ⟨rfl, rfl⟩
 go_wp2_with fail
 go_ret
 exact ⟨rfl, (HI0.out.go hl).left⟩
theorem wordSign_no (s : ByteArray) (hs : s.size <= 1048576) (a1 : Addr) (z rb i : Nat) (w : World) (h : RB w rb s i z) (hE : Env w rb a1) (hi : i <= s.size) (hw : i < s.size -> wsign (nx s i) = false) :
  Calls Tryz.prog 164 #[rdV rb] w (Threw w rb a1) := by
 have HI0 : Hid (In 157 w rb s i z (w.alloc (bxO 157 rb))) := In.enter 157 h
 rcases Nat.lt_or_ge i s.size with h1 | h1
 ·have hw1 := hw h1
  have hn := rnext_yes rb s i z _ HI0.out.lies hs h1
  clear hw
  by_cases h10 : nx s i = 10
  ·have e1 : (((nx s i).toNat : Int) == 10) = true := by rw [h10]; rfl
   clear hw1 h10
   go_enter Tryz.func164, Tryz.ntmps164
   go_wp2_with fail
   refine hn.mono ?_
   rintro e w1 ⟨rfl, hl⟩
   have hi1 := HI0.out.go hl
   have b1 := hi1.cell
   go_wp2_with fail
   refine (fail_any _ a1 _ (hi1.env hE).sc).mono ?_
   rintro e w3 ⟨rfl, rfl⟩
   go_wp2_with fail
   exact ⟨rfl, rfl, hi1.left.grown⟩
  ·have hsg : Ls.sign (nx s i) = false := by unfold wsign at hw1; simp [h10] at hw1; exact hw1
   have e1 : (((nx s i).toNat : Int) == 10) = false := by
    rw [beq_eq_false_iff_ne]; intro e
    exact h10 (UInt8.toNat_inj.1 (by simpa using (by omega : (nx s i).toNat = 10)))
   have HM := fun W => isSign_any (nx s i) W
   rw [hsg] at HM
   have HM' : Hid _ := HM
   clear HM hw1 h10 hsg
   go_enter Tryz.func164, Tryz.ntmps164
   go_wp2_with fail
   refine hn.mono ?_
   rintro e w1 ⟨rfl, hl⟩
   have hi1 := HI0.out.go hl
   have b1 := hi1.cell
   go_wp2_with fail
   refine (HM'.out _).mono ?_
   rintro e w2 ⟨rfl, rfl⟩
   go_wp2_with fail
   refine (fail_any _ a1 _ (hi1.env hE).sc).mono ?_
   rintro e w3 ⟨rfl, rfl⟩
   go_wp2_with fail
   exact ⟨rfl, rfl, hi1.left.grown⟩
 ·have hn := rnext_no rb s i z a1 _ HI0.out.lies (HI0.out.env hE) hs h1 (by omega)
  clear hw
  go_enter Tryz.func164, Tryz.ntmps164
  go_wp2_with fail
  refine hn.mono ?_
  rintro e w1 ⟨rfl, hg⟩
  go_wp2_with fail
  exact ⟨rfl, rfl, HI0.out.threw rfl hg⟩
end Go.Proofs.YtkfokddlgmcimaaGreatDoor
namespace Go.Proofs.YtkfokddlgmcimaaGreatDoor
open Go.RowKit
def wordTo (ws r : List UInt8) : Option (List UInt8 × List UInt8) :=
 match Ls.wordOf r with
 | .none => .none
 | some (u, t) => some (ws ++ u, t)
theorem wordTo_nil (r : List UInt8) : wordTo [] r = Ls.wordOf r := by
 unfold wordTo
 cases Ls.wordOf r with
 | none => rfl
 | some q => rfl
theorem wordTo_end {ws : List UInt8} {s : ByteArray} {k : Nat} (h : sees s k 34 = true) : wordTo ws (rest s k) = some (ws, rest s (k + 1)) := by
 unfold wordTo
 rw [sees_rest h, Ls.wordOf, if_pos rfl]
 simp
theorem wordTo_step {ws : List UInt8} {s : ByteArray} {k : Nat} (hk : k < s.size) (h : sees s k 34 = false) (hw : wsign (nx s k) = true) : wordTo ws (rest s k) = wordTo (ws ++ [nx s k]) (rest s (k + 1)) := by
 unfold wordTo
 have h34 : nx s k ≠ 34 := by intro e; simp [sees, hk, e] at h
 unfold wsign at hw
 simp at hw
 rw [rest_lt hk, Ls.wordOf, if_neg h34, if_neg (by rw [hw.1]; simp [hw.2])]
 cases Ls.wordOf (rest s (k + 1)) with
 | none => rfl
 | some q => simp
theorem wordTo_bad {ws : List UInt8} {s : ByteArray} {k : Nat} (h : sees s k 34 = false) (hw : k < s.size -> wsign (nx s k) = false) : wordTo ws (rest s k) = .none := by
 unfold wordTo
 rcases Nat.lt_or_ge k s.size with hk | hk
 ·have h34 : nx s k ≠ 34 := by intro e; simp [sees, hk, e] at h
  have hw1 := hw hk
  rw [rest_lt hk, Ls.wordOf, if_neg h34, if_pos ?_]
  unfold wsign at hw1
  cases hs : Ls.sign (nx s k) with
  | false => exact .inl rfl
  | true => simp [hs] at hw1; exact .inr hw1
 ·rw [rest_ge hk]; rfl
def WordPost (w : World) (rb : Nat) (s : ByteArray) (i z : Nat) (a1 : Addr) : Ending -> World -> Prop := fun e w' =>
 (∃ ws j, Ls.wordR (rest s i) = some (ws, rest s j) /\ i + ws.length < j /\ j <= s.size /\ e = .returned (.string ⟨ws.toArray⟩) /\ RLeft w rb s j z w') \/
 (Ls.wordR (rest s i) = .none /\ Threw w rb a1 e w')
abbrev bytesV (ws : List UInt8) : List Value := ws.map fun c => Value.int .u8 c.toNat
theorem infoByte : (Tryz.prog.info? 5).map (fun i => (i.zero, i.size, i.bytes)) = some (some (.int .u8 0), 1, 1) := by kernel_rfl
theorem nil_string (w : World) : (convert 113 9 (.slice none 0 0)).run Tryz.prog w = .ok (.string ⟨#[]⟩) w := by
 rw [run_convert_bytes_string w 113 9 5 none 0 0 Tryz.underlying113 Tryz.underlying5 Tryz.underlying9]
 simp [Conv.bytesToString]
 rfl
theorem bytes_string {w : World} {base : Nat} {v : Value} {ws : List UInt8} (h : w.ownsRow base 5 1 v ws.length (bytesV ws)) : (convert 113 9 v).run Tryz.prog w = .ok (.string ⟨ws.toArray⟩) w := by
 rcases h.2 with ⟨rfl, h2⟩ | ⟨g, cap, cur, rfl, _⟩
 ·obtain rfl : ws = [] := List.eq_nil_of_length_eq_zero h2
  exact nil_string w
 ·refine run_convert_bytes_back w 113 9 5 ⟨g, 0, none⟩ cap ws Tryz.underlying113 Tryz.underlying5 Tryz.underlying9 (fun j hj => ?_)
  have := h.cellAt j (by omega)
  rw [show ((⟨g, 0, none⟩ : Addr).add j) = ⟨g, j, none⟩ from by unfold Addr.add; split <;> simp_all]
  rw [this]
  simp [hj]
theorem ownsRow_slice {w : World} {base : Nat} {e : TypeId} {size : Nat} {v : Value} {n : Nat} {xs : List Value} (h : w.ownsRow base e size v n xs) : ∃ a k c, v = .slice a k c := by
 rcases h.2 with ⟨e, _⟩ | ⟨_, _, _, e, _⟩ <;> exact ⟨_, _, _, e⟩
theorem pword_any (s : ByteArray) (hs : s.size <= 1048576) (a1 : Addr) (z rb i : Nat) (w : World) (h : RB w rb s i z) (hE : Env w rb a1) (hi : i <= s.size) :
  Calls Tryz.prog 153 #[rdV rb] w (WordPost w rb s i z a1) := by
 have HI0 : Hid (In 157 w rb s i z (w.alloc (bxO 157 rb))) := In.enter 157 h
 have hz0 : (w.alloc (bxO 157 rb)).heap.size = w.heap.size + 1 := by simp
 have HE : Hid (Env w rb a1) := hE
 cases h34 : sees s i 34 with
 | false =>
  have HN : Hid (Ls.wordR (rest s i) = .none) := by
   show _ = _
   unfold Ls.wordR
   rw [if_neg (by rw [sees_head, h34]; simp)]
  have hC := expect_no rb s i z 34 a1 _ HI0.out.lies (HI0.out.env hE) hs (by omega) h34
  clear h34
  go_enter Tryz.func153, Tryz.ntmps153
  go_wp2_with fail
  refine hC.mono ?_
  rintro e w1 ⟨rfl, hg⟩
  go_wp2_with fail
  exact ⟨rfl, .inr ⟨HN.out, rfl, HI0.out.threw rfl hg⟩⟩
 | true =>
  have hi1 := (sees_true h34).1
  have HR : Hid (Ls.wordR (rest s i) = wordTo [] (rest s (i + 1))) := by
   show _ = _
   unfold Ls.wordR
   rw [if_pos (sees_head.2 h34), rest_tail, wordTo_nil]
  have hC := expect_yes rb s i z 34 _ HI0.out.lies hs h34
  clear h34 hE h
  go_enter Tryz.func153, Tryz.ntmps153
  go_wp2_with fail
  refine hC.mono ?_
  rintro e w1 ⟨rfl, hl1⟩
  have hI1 := HI0.out.go hl1
  have hz1 := hl1.grown.size
  clear hC
  go_wp2_with fail
  generalize w.alloc (bxO 157 rb) = W0 at *
  go_loopw [3] (fun v wr => ∃ (k : Nat) (ws : List UInt8), i + 1 + ws.length = k /\ k <= s.size /\ Ls.wordR (rest s i) = wordTo ws (rest s k) /\ In 157 w rb s k z wr /\ W0.heap.size <= wr.heap.size /\ wr.ownsRow W0.heap.size 5 1 v ws.length (bytesV ws)) (fun _ wr => s.size + 1 - atOf wr rb)
  case atStart => exact ⟨i + 1, [], rfl, by omega, HR.out, hI1, hz1, World.ownsRow_nil _ _ _ _⟩
  case round =>
   obtain ⟨k, ws, hk, hks, hres, hlk, hzr, hown⟩ := hrel
   have Hres : Hid (Ls.wordR (rest s i) = wordTo ws (rest s k)) := hres
   have hmes : atOf wr rb = k := atOf_eq hlk.lies
   have b0 := hlk.cell
   obtain ⟨x1, x2, x3, rfl⟩ := ownsRow_slice hown
   have HO : Hid (wr.ownsRow W0.heap.size 5 1 (.slice x1 x2 x3) ws.length (bytesV ws)) := hown
   have hold : ∀ m, (Value.slice x1 x2 x3).ownBlock = some m -> W0.heap.size <= m /\ m < wr.heap.size := fun m hm => hown.lt m hm
   have hnrb : (Value.slice x1 x2 x3).ownBlock = none \/ (Value.slice x1 x2 x3).ownBlock ≠ some rb := by
    cases hv : (Value.slice x1 x2 x3).ownBlock with
    | none => exact .inl rfl
    | some m =>
     have := hold m hv
     have := hlk.old
     exact .inr (by simp; omega)
   have HNB : Hid ((Value.slice x1 x2 x3).ownBlock = none \/ (Value.slice x1 x2 x3).ownBlock ≠ some rb) := hnrb
   clear hres HR hown hold hnrb
   cases h34 : sees s k 34 with
   | true =>
    have hS := skip_yes rb s k z 34 wr hlk.lies hs h34
    have hk1 := (sees_true h34).1
    have HN : Hid (Ls.wordR (rest s i) = some (ws, rest s (k + 1))) := Hres.out.trans (wordTo_end h34)
    clear h34
    go_wp2_with fail
    refine hS.mono ?_
    rintro e w2 ⟨rfl, hl2⟩
    have hcv := bytes_string (HO.out.kept hl2.grown HNB.out)
    go_wp2_with fail
    go_ret
    exact .inl ⟨ws, k + 1, HN.out, by omega, by omega, rfl, (hlk.go hl2).left⟩
   | false =>
    have hS := skip_no rb s k z 34 wr hlk.lies hs (by omega) h34
    by_cases hok : k < s.size /\ wsign (nx s k) = true
    ·have HN : Hid (Ls.wordR (rest s i) = wordTo (ws ++ [nx s k]) (rest s (k + 1))) := Hres.out.trans (wordTo_step hok.1 h34 hok.2)
     have hk1 := hok.1
     have Hok : Hid (wsign (nx s k) = true) := hok.2
     clear h34 hok
     go_wp2_with fail
     refine hS.mono ?_
     rintro e w2 ⟨rfl, hl2⟩
     have hI2 := hlk.go hl2
     have b2 := hI2.cell
     clear b0
     go_wp2_with fail
     refine (wordSign_yes s hs z rb k w2 hI2.lies hk1 Hok.out).mono ?_
     rintro e w3 ⟨rfl, hl3⟩
     have hI3 := hI2.go hl3
     have ho3 := HO.out.kept (hl2.trans hl3).grown HNB.out
     have hoa := ho3.alloc (.cells #[.int .u8 (nx s k).toNat] 5)
     have hcn := cells_new1 w3 (.int .u8 (nx s k).toNat) 5
     obtain ⟨q, hq, hq0, hq1, hqb⟩ := info_parts infoByte
     have hz3 := (hl2.trans hl3).grown.size
     clear ho3 b2
     go_wp2_with (at_builtin; refine wpList_append_own2 _ rfl _ _ 113 rfl W0.heap.size 5 q _ 1 1 Tryz.underlying113 hq hq0 hq1 hqb rfl (by omega) (.slice x1 x2 x3) ws.length (bytesV ws) rfl hoa ⟨w3.heap.size, 0, none⟩ 1 1 [.int .u8 (nx s k).toNat] rfl ?l1 hcn ?l0 ?l2 ?l3 ?l4 ?l5 ?_)
     case l1 => rfl
     case l0 => intro u hu; simp at hu; subst hu; rfl
     case l2 => unfold maxLen; omega
     case l3 => omega
     case l4 => simp; omega
     case l5 => omega
     intro v' w' ho hg hvv
     have hI7 := (hI3.below (below_alloc1 w3 (.cells #[.int .u8 (nx s k).toNat] 5))).own hg (fun m e => by have := (hoa.lt m e).1; omega)
     have hz7 := hg.size
     simp at hz7
     have HO7 : Hid (w'.ownsRow W0.heap.size 5 1 v' (ws ++ [nx s k]).length (bytesV (ws ++ [nx s k]))) := by
      show World.ownsRow _ _ _ _ _ _ _
      rw [List.length_append, show bytesV (ws ++ [nx s k]) = bytesV ws ++ [.int .u8 (nx s k).toNat] from by simp [bytesV], hz0]
      exact ho
     go_wp2_with fail
     go_roundw
     case rel => exact ⟨k + 1, ws ++ [nx s k], by simp; omega, by omega, HN.out, hI7, by omega, HO7.out⟩
     case measure =>
      rw [hmes, atOf_eq hI7.lies]
      omega
    ·have hw : k < s.size -> wsign (nx s k) = false := fun hlt => by
      cases hh : wsign (nx s k) with
      | true => exact absurd ⟨hlt, hh⟩ hok
      | false => rfl
     have HN : Hid (Ls.wordR (rest s i) = .none) := Hres.out.trans (wordTo_bad h34 hw)
     have HW : Hid (k < s.size -> wsign (nx s k) = false) := hw
     clear h34 hok hw
     go_wp2_with fail
     refine hS.mono ?_
     rintro e w2 ⟨rfl, hl2⟩
     have hI2 := hlk.go hl2
     have b2 := hI2.cell
     clear b0
     go_wp2_with fail
     refine (wordSign_no s hs a1 z rb k w2 hI2.lies (hI2.env HE.out) hks HW.out).mono ?_
     rintro e w3 ⟨rfl, hg⟩
     go_wp2_with fail
     exact ⟨rfl, .inr ⟨HN.out, rfl, hI2.threw rfl hg⟩⟩
end Go.Proofs.YtkfokddlgmcimaaGreatDoor
