import Derived.Test.YtfklinjaajafgaaGreatDoorCur
/- The developers' reader of patterns: small functions. -/
namespace Go.Proofs.YtfklinjaajafgaaGreatDoor
open Go.RowKit

set_option maxHeartbeats 400000 in
theorem isSign_any (c : UInt8) (w : World) :
    Calls Tryz.prog 184 #[.int .u8 c.toNat] w fun e w' => e = .returned (.bool (Ls.sign c)) ∧ w' = w := by
  go_enter Tryz.func184, Tryz.ntmps184
  go_wp2
  all_goals
    go_ret
    refine ⟨ret_bool ?_, rfl⟩
    rw [Bool.eq_iff_iff]
    simp [Ls.sign]
    omega

set_option maxHeartbeats 400000 in
theorem isSmall_any (c : UInt8) (w : World) :
    Calls Tryz.prog 201 #[.int .u8 c.toNat] w fun e w' => e = .returned (.bool (decide (97 ≤ c.toNat ∧ c.toNat ≤ 122))) ∧ w' = w := by
  go_enter Tryz.func201, Tryz.ntmps201
  go_wp2
  all_goals
    go_ret
    refine ⟨ret_bool ?_, rfl⟩
    rw [Bool.eq_iff_iff]
    simp
    omega

set_option maxHeartbeats 400000 in
theorem isLetterOrDigit_any (c : UInt8) (w : World) :
    Calls Tryz.prog 213 #[.int .u8 c.toNat] w fun e w' => e = .returned (.bool (Ls.mark c)) ∧ w' = w := by
  have hS := isSmall_any c w
  cases hb : decide (97 ≤ c.toNat ∧ c.toNat ≤ 122) with
  | true =>
    rw [hb] at hS
    have HM : Hid (Ls.mark c = true) := by show _ = _; simp at hb; simp [Ls.mark]; omega
    clear hb
    go_enter Tryz.func213, Tryz.ntmps213
    go_wp2_with fail
    refine hS.mono ?_
    rintro e w1 ⟨rfl, rfl⟩
    go_wp2_with fail
    go_ret
    exact ⟨by rw [HM.out]; rfl, rfl⟩
  | false =>
    rw [hb] at hS
    have HM : Hid (¬ (97 ≤ c.toNat ∧ c.toNat ≤ 122)) := of_decide_eq_false hb
    clear hb
    go_enter Tryz.func213, Tryz.ntmps213
    go_wp2_with fail
    refine hS.mono ?_
    rintro e w1 ⟨rfl, rfl⟩
    go_wp2_with fail
    all_goals
      go_ret
      refine ⟨ret_bool ?_, rfl⟩
      have := HM.out
      rw [Bool.eq_iff_iff]
      simp [Ls.mark]
      omega

/-- The reader that names the cursor in block rb. -/
abbrev rdV (rb : Nat) : Value := .agg #[.pointer (some ⟨rb, 0, Option.none⟩)]

set_option maxRecDepth 100000 in
set_option maxHeartbeats 400000 in
theorem lod_yes (rb : Nat) (s : ByteArray) (i z : Nat) (w : World) (h : RB w rb s i z) (hs : s.size ≤ 1048576) (hm : Ls.mark (nx s i) = true) :
    Calls Tryz.prog 206 #[rdV rb] w fun e w' => e = .returned (.int .u8 (nx s i).toNat) ∧ RLeft w rb s (i + 1) z w' := by
  have hi := mark_lt hm
  have HM := fun W => isLetterOrDigit_any (nx s i) W
  rw [hm] at HM
  clear hm
  have HM' : Hid _ := HM
  clear HM
  have hl0 := RLeft.of_below h (below_alloc1 w (.cells #[.pointer (some ⟨rb, 0, Option.none⟩)] 177))
  have HL0 : Hid _ := hl0
  clear hl0
  go_enter Tryz.func206, Tryz.ntmps206
  go_wp2_with fail
  refine (rnext_yes rb s i z _ HL0.out.lies hs hi).mono ?_
  rintro e w1 ⟨rfl, hl⟩
  go_wp2_with fail
  refine (HM'.out _).mono ?_
  rintro e w2 ⟨rfl, rfl⟩
  go_wp2_with fail
  go_ret
  exact ⟨rfl, HL0.out.trans hl⟩

set_option maxRecDepth 100000 in
set_option maxHeartbeats 400000 in
theorem lod_no (rb : Nat) (s : ByteArray) (i z : Nat) (a1 : Addr) (w : World) (h : RB w rb s i z) (hE : Env w rb a1) (hs : s.size ≤ 1048576) (hi2 : i ≤ 1048577) (hm : Ls.mark (nx s i) = false) :
    Calls Tryz.prog 206 #[rdV rb] w (Threw w rb a1) := by
  have HM := fun W => isLetterOrDigit_any (nx s i) W
  rw [hm] at HM
  clear hm
  have HM' : Hid _ := HM
  clear HM
  have hrl := h.lt
  have hb0 := below_alloc1 w (.cells #[.pointer (some ⟨rb, 0, Option.none⟩)] 177)
  have HL0 : Hid _ := RLeft.of_below h hb0
  have HE0 : Hid _ := hE.below hb0
  have hx0 := Bx.new w 177 rb
  have HX0 : Hid _ := hx0
  clear hb0 hx0
  rcases Nat.lt_or_ge i s.size with hi | hi
  · go_enter Tryz.func206, Tryz.ntmps206
    go_wp2_with fail
    refine (rnext_yes rb s i z _ HL0.out.lies hs hi).mono ?_
    rintro e w1 ⟨rfl, hl⟩
    have b1 := (HX0.out.grown hl.grown (by omega)).cell
    go_wp2_with fail
    refine (HM'.out _).mono ?_
    rintro e w2 ⟨rfl, rfl⟩
    go_wp2_with fail
    refine (fail_any _ a1 _ (HE0.out.grown hl.grown).sc).mono ?_
    rintro e w3 ⟨rfl, rfl⟩
    go_wp2_with fail
    exact ⟨rfl, rfl, (HL0.out.trans hl).grown⟩
  · go_enter Tryz.func206, Tryz.ntmps206
    go_wp2_with fail
    refine (rnext_no rb s i z a1 _ HL0.out.lies HE0.out hs hi hi2).mono ?_
    rintro e w1 ⟨rfl, hg⟩
    go_wp2_with fail
    exact ⟨rfl, rfl, grownBy_trans HL0.out.grown hg⟩

/-- Does a pair of words hold a sign? -/
def sbit (lo hi c : Nat) : Bool := if c < 64 then lo.testBit c else hi.testBit (c - 64)

theorem or64 (x k : Nat) (hx : x < 18446744073709551616) (hk : k < 64) : bits .or .u64 (x : Int) (IntKind.u64.wrap (2 ^ k)) = ((x ||| 2 ^ k : Nat) : Int) := by
  have h2 : (2 : Nat) ^ k < 18446744073709551616 := by
    have := Nat.pow_lt_pow_right (a := 2) (by omega) hk
    simpa using this
  have h3 : IntKind.u64.wrap (2 ^ k) = ((2 ^ k : Nat) : Int) := by
    rw [IntKind.wrap_u64, show ((2 : Int) ^ k) = ((2 ^ k : Nat) : Int) from by simp]
    generalize 2 ^ k = y at *
    omega
  rw [h3, u64_or_nat x (2 ^ k) hx h2]

theorem or64_lt (x k : Nat) (hx : x < 18446744073709551616) (hk : k < 64) : x ||| 2 ^ k < 18446744073709551616 := by
  have h2 : (2 : Nat) ^ k < 2 ^ 64 := Nat.pow_lt_pow_right (by omega) hk
  have := Nat.or_lt_two_pow (n := 64) (by simpa using hx) h2
  simpa using this

theorem sbit_lo (lo hi k : Nat) (hk : k < 64) (c : Nat) : sbit (lo ||| 2 ^ k) hi c = (sbit lo hi c || c == k) := by
  unfold sbit
  split
  · rw [Nat.testBit_or, Nat.testBit_two_pow]
    by_cases h : k = c
    · simp [h]
    · simp [h, Ne.symm h]
  · have : (c == k) = false := by simp; omega
    simp [this]

theorem sbit_hi (lo hi k : Nat) (hk : 64 ≤ k) (c : Nat) : sbit lo (hi ||| 2 ^ (k - 64)) c = (sbit lo hi c || c == k) := by
  unfold sbit
  split
  · have : (c == k) = false := by simp; omega
    simp [this]
  · rw [Nat.testBit_or, Nat.testBit_two_pow]
    by_cases h : k = c
    · simp [h]
    · have h2 : ¬ k - 64 = c - 64 := by omega
      simp [h2, Ne.symm h]

theorem two_cells {w : World} {g lo hi : Nat} {t : TypeId} (h : w.heap[g]? = some (.cells #[.int .u64 lo, .int .u64 hi] t (0, 0))) : w.cell? ⟨g, 0, none⟩ = some (.int .u64 lo) ∧ w.cell? ⟨g, 1, none⟩ = some (.int .u64 hi) ∧ w.frozen? ⟨g, 0, none⟩ = false ∧ w.frozen? ⟨g, 1, none⟩ = false := by
  refine ⟨?_, ?_, ?_, ?_⟩
  · simp [World.cell?, h]
  · simp [World.cell?, h]
  · simp [World.frozen?, h]
  · simp [World.frozen?, h]

/-- What 'with' answers. -/
def WithPost (lo hi : Nat) (a b : UInt8) (w : World) : Ending → World → Prop := fun e w' =>
  ∃ lo' hi' : Nat, e = .returned (.agg #[.int .u64 lo', .int .u64 hi']) ∧ lo' < 18446744073709551616 ∧ hi' < 18446744073709551616 ∧ (∀ c, sbit lo' hi' c = (sbit lo hi c || decide (a.toNat ≤ c ∧ c ≤ b.toNat))) ∧ Below w.heap.size w w'

set_option maxRecDepth 100000 in
set_option maxHeartbeats 1000000 in
theorem with_any (lo hi : Nat) (a b : UInt8) (w : World) (hab : a.toNat ≤ b.toNat) (hb : b.toNat ≤ 126) (hlo : lo < 18446744073709551616) (hhi : hi < 18446744073709551616) :
    Calls Tryz.prog 162 #[.agg #[.int .u64 lo, .int .u64 hi], .int .u8 a.toNat, .int .u8 b.toNat] w (WithPost lo hi a b w) := by
  go_enter Tryz.func162, Tryz.ntmps162
  go_wp2_with fail
  go_loopw [7] (fun c wr => ∃ (k lo' hi' : Nat), c = .int .u8 k ∧ a.toNat ≤ k ∧ k ≤ b.toNat + 1 ∧ Below w.heap.size w wr ∧ lo' < 18446744073709551616 ∧ hi' < 18446744073709551616 ∧ wr.heap[w.heap.size]? = some (.cells #[.int .u64 lo', .int .u64 hi'] 157 (0, 0)) ∧ wr.heap[w.heap.size + 1]? = some (.cells #[.int .u64 (0 : Nat), .int .u64 (0 : Nat)] 157 (0, 0)) ∧ ∀ c, sbit lo' hi' c = (sbit lo hi c || decide (a.toNat ≤ c ∧ c < k))) (fun c _ => 128 - (intOf c).toNat)
  case atStart =>
    refine ⟨a.toNat, lo, hi, rfl, Nat.le_refl _, by omega, below_alloc2 _ _ _, hlo, hhi, ?_, ?_, fun c => ?_⟩
    · rw [Below.heap_alloc _ _ _ (by simp)]; exact heap_alloc_new _ _
    · have := heap_alloc_new (w.alloc (.cells #[.int .u64 lo, .int .u64 hi] 157)) (.cells #[.int .u64 (0 : Nat), .int .u64 (0 : Nat)] 157)
      simpa using this
    · have : ¬ (a.toNat ≤ c ∧ c < a.toNat) := by omega
      simp [this]
  case round =>
    obtain ⟨k, lo', hi', rfl, hak, hk, hbw, hl1, hl2, hcell, hres, hbit⟩ := hrel
    have Hbit : Hid (∀ c, sbit lo' hi' c = (sbit lo hi c || decide (a.toNat ≤ c ∧ c < k))) := hbit
    obtain ⟨c0, c1, f0, f1⟩ := two_cells hcell
    obtain ⟨r0, r1, s0, s1⟩ := two_cells hres
    have Hc : Hid _ := hcell
    have Hr : Hid _ := hres
    clear hcell hres hbit
    have hstep : ∀ c, (sbit lo hi c || decide (a.toNat ≤ c ∧ c < k) || c == k) = (sbit lo hi c || decide (a.toNat ≤ c ∧ c < k + 1)) := fun c => by
      by_cases h : c = k
      · subst h; simp [hak]
      · have h1 : (c == k) = false := by simp [h]
        have h2 : decide (a.toNat ≤ c ∧ c < k + 1) = decide (a.toNat ≤ c ∧ c < k) := by
          rw [decide_eq_decide]; omega
        rw [h1, h2]; simp
    have Hstep : Hid _ := hstep
    clear hstep
    by_cases hle : k ≤ b.toNat
    · by_cases h64 : k < 64
      · have hq : (k : Int) / 64 = 0 := by omega
        have hr : (k : Int) % 64 = k := by omega
        have HO : Hid _ := or64 lo' k hl1 h64
        go_wp2_with fail
        go_roundw
        case rel =>
          rw [HO.out]
          refine ⟨k + 1, lo' ||| 2 ^ k, hi', by go_num, by omega, by omega, hbw.setCell (Nat.le_refl _) _, or64_lt _ _ hl1 h64, hl2, ?_, ?_, fun c => ?_⟩
          · have := Hc.out; simp [World.setCell, Array.getElem?_modify, this]
          · rw [Below.heap_setCell _ _ _ _ (by show _ ≠ _; simp)]; exact Hr.out
          · rw [sbit_lo _ _ _ h64, Hbit.out c, Hstep.out c]
        case measure => simp [intOf]; omega
      · have hq : (k : Int) / 64 = 1 := by omega
        have hr : (k : Int) % 64 = ((k - 64 : Nat) : Int) := by omega
        have HO : Hid _ := or64 hi' (k - 64) hl2 (by omega)
        go_wp2_with fail
        go_roundw
        case rel =>
          rw [HO.out]
          refine ⟨k + 1, lo', hi' ||| 2 ^ (k - 64), by go_num, by omega, by omega, hbw.setCell (Nat.le_refl _) _, hl1, or64_lt _ _ hl2 (by omega), ?_, ?_, fun c => ?_⟩
          · have := Hc.out; simp [World.setCell, Array.getElem?_modify, this]
          · rw [Below.heap_setCell _ _ _ _ (by show _ ≠ _; simp)]; exact Hr.out
          · rw [sbit_hi _ _ _ (by omega), Hbit.out c, Hstep.out c]
        case measure => simp [intOf]; omega
    · have hk1 : k = b.toNat + 1 := by omega
      go_wp2_with fail
      refine bodyPost_ret (v := .agg #[.int .u64 lo', .int .u64 hi']) (by simp [results, Tryz.results162, go_sem, r0, r1]) rfl ⟨lo', hi', rfl, hl1, hl2, fun c => ?_, ?_⟩
      · rw [Hbit.out c, hk1]
        congr 1
        rw [decide_eq_decide]; omega
      · exact (hbw.setCell (p := ⟨w.heap.size + 1, 0, none⟩) (by show _ ≤ w.heap.size + 1; omega) _).setCell (p := ⟨w.heap.size + 1, 1, none⟩) (by show _ ≤ w.heap.size + 1; omega) _

end Go.Proofs.YtfklinjaajafgaaGreatDoor

namespace Go.Proofs.YtfklinjaajafgaaGreatDoor
open Go.RowKit

/-- The two words hold the signs of g. -/
structure SB (g : List UInt8) (lo hi : Nat) : Prop where
  loLt : lo < 18446744073709551616
  hiLt : hi < 18446744073709551616
  bit : ∀ c : UInt8, c.toNat < 128 → sbit lo hi c.toNat = Ls.has g c
  none : ∀ c : UInt8, 128 ≤ c.toNat → Ls.has g c = false

theorem has_append (g h : List UInt8) (c : UInt8) : Ls.has (g ++ h) c = (Ls.has g c || Ls.has h c) := by simp [Ls.has]
theorem has_one (d c : UInt8) : Ls.has [d] c = (d == c) := by simp [Ls.has]

theorem SB.empty : SB [] 0 0 := ⟨by omega, by omega, fun c _ => by simp [sbit, Ls.has], fun c _ => by simp [Ls.has]⟩

theorem has_rngTo (acc : List UInt8) (a b c : UInt8) : (n : Nat) → n ≤ 128 → Ls.has (Ls.rngTo acc a b n) c = (Ls.has acc c || decide (a.toNat ≤ c.toNat ∧ c.toNat ≤ b.toNat ∧ c.toNat < n))
  | 0, _ => by simp [Ls.rngTo]
  | n + 1, hn => by
    have ih := has_rngTo acc a b c n (by omega)
    have hof : (UInt8.ofNat n).toNat = n := by simp; omega
    rw [rngTo_succ]
    by_cases hc : c.toNat = n
    · have hcc : c = UInt8.ofNat n := UInt8.toNat_inj.1 (by omega)
      split
      · rename_i h
        rw [has_append, has_one, ← hcc]
        have h1 : decide (a.toNat ≤ c.toNat ∧ c.toNat ≤ b.toNat ∧ c.toNat < n + 1) = true := by simp; omega
        rw [h1]; simp
      · rename_i h
        rw [ih]
        by_cases h1 : a.toNat ≤ n ∧ n ≤ b.toNat
        · have h2 : Ls.has (Ls.rngTo acc a b n) (UInt8.ofNat n) = true := by
            cases h3 : Ls.has (Ls.rngTo acc a b n) (UInt8.ofNat n) with
            | true => rfl
            | false => exact absurd ⟨h1.1, h1.2, h3⟩ h
          rw [← hcc, ih] at h2
          have h4 : decide (a.toNat ≤ c.toNat ∧ c.toNat ≤ b.toNat ∧ c.toNat < n) = false := by simp; omega
          rw [h4] at h2 ⊢
          simp at h2
          simp [h2]
        · congr 1
          rw [decide_eq_decide]; omega
    · have h5 : decide (a.toNat ≤ c.toNat ∧ c.toNat ≤ b.toNat ∧ c.toNat < n + 1) = decide (a.toNat ≤ c.toNat ∧ c.toNat ≤ b.toNat ∧ c.toNat < n) := by
        rw [decide_eq_decide]; omega
      rw [h5]
      split
      · rw [has_append, has_one, ih]
        have h6 : (UInt8.ofNat n == c) = false := by
          rw [beq_eq_false_iff_ne]; rintro rfl; exact hc hof
        rw [h6]; simp
      · exact ih

theorem SB.with {g : List UInt8} {lo hi lo' hi' : Nat} {a b : UInt8} (h : SB g lo hi) (hl : lo' < 18446744073709551616) (hh : hi' < 18446744073709551616) (_hb : b.toNat ≤ 127) (hbit : ∀ c, sbit lo' hi' c = (sbit lo hi c || decide (a.toNat ≤ c ∧ c ≤ b.toNat))) : SB (Ls.rng g a b) lo' hi' := by
  refine ⟨hl, hh, fun c hc => ?_, fun c hc => ?_⟩
  · rw [hbit, h.bit c hc]
    unfold Ls.rng
    rw [has_rngTo g a b c 128 (Nat.le_refl _)]
    congr 1
    rw [decide_eq_decide]; omega
  · unfold Ls.rng
    rw [has_rngTo g a b c 128 (Nat.le_refl _), h.none c hc]
    have : decide (a.toNat ≤ c.toNat ∧ c.toNat ≤ b.toNat ∧ c.toNat < 128) = false := by simp; omega
    rw [this]; rfl

theorem SB.congr {g g' : List UInt8} {lo hi : Nat} (h : SB g lo hi) (he : ∀ c, Ls.has g' c = Ls.has g c) : SB g' lo hi :=
  ⟨h.loLt, h.hiLt, fun c hc => by rw [he]; exact h.bit c hc, fun c hc => by rw [he]; exact h.none c hc⟩

theorem has_rng_one (c d : UInt8) (h : c.toNat < 128) : Ls.has (Ls.rng [] c c) d = Ls.has [c] d := by
  unfold Ls.rng
  rw [has_rngTo [] c c d 128 (Nat.le_refl _), has_one]
  by_cases e : c = d
  · subst e; simp [Ls.has, h]
  · have h1 : (c == d) = false := by simp [e]
    have h2 : decide (c.toNat ≤ d.toNat ∧ d.toNat ≤ c.toNat ∧ d.toNat < 128) = false := by
      simp only [decide_eq_false_iff_not]
      intro h3
      exact e (UInt8.toNat_inj.1 (by omega))
    rw [h1, h2]; rfl

theorem has_rng_az (d : UInt8) : Ls.has (Ls.rng [] 97 122) d = Ls.has Ls.az d := by
  have h1 : Ls.rng [] 97 122 = Ls.az := by decide +kernel
  rw [h1]

/-- A place as the reader makes it. -/
abbrev placeV (lo hi : Nat) : Value := .iface 180 (.agg #[.int .u64 lo, .int .u64 hi])

theorem sign_bd {c : UInt8} (h : Ls.sign c = true) : c.toNat ≤ 126 := by simp [Ls.sign] at h; omega

set_option maxRecDepth 100000 in
set_option maxHeartbeats 400000 in
theorem onlySign_any (c : UInt8) (w : World) (hbd : c.toNat ≤ 126) :
    Calls Tryz.prog 185 #[.int .u8 c.toNat] w fun e w' => (∃ lo hi, e = .returned (placeV lo hi) ∧ SB [c] lo hi) ∧ Below w.heap.size w w' := by
  go_enter Tryz.func185, Tryz.ntmps185
  go_wp2_with fail
  refine (with_any 0 0 c c _ (Nat.le_refl _) (by omega) (by omega) (by omega)).mono ?_
  rintro e w2 ⟨lo, hi, rfl, h1, h2, h3, hb⟩
  have hSB : SB [c] lo hi := (SB.with SB.empty h1 h2 (by omega) h3).congr (fun d => (has_rng_one c d (by omega)).symm)
  clear h3
  go_wp2_with fail
  go_ret
  exact ⟨⟨lo, hi, rfl, hSB⟩, hb⟩

set_option maxRecDepth 100000 in
set_option maxHeartbeats 400000 in
theorem rsign_yes (rb : Nat) (c : UInt8) (w : World) (hsg : Ls.sign c = true) :
    Calls Tryz.prog 163 #[rdV rb, .int .u8 c.toNat] w fun e w' => (∃ lo hi, e = .returned (placeV lo hi) ∧ SB [c] lo hi) ∧ Below w.heap.size w w' := by
  have hbd := sign_bd hsg
  have HM := fun W => isSign_any c W
  rw [hsg] at HM
  have HM' : Hid _ := HM
  clear HM hsg
  have HB : Hid _ := below_alloc1 w (.cells #[.pointer (some ⟨rb, 0, Option.none⟩)] 177)
  go_enter Tryz.func163, Tryz.ntmps163
  go_wp2_with fail
  refine (HM'.out _).mono ?_
  rintro e w1 ⟨rfl, rfl⟩
  go_wp2_with fail
  refine (onlySign_any c _ hbd).mono ?_
  rintro e w2 ⟨⟨lo, hi, rfl, hSB⟩, hb⟩
  go_wp2_with fail
  go_ret
  exact ⟨⟨lo, hi, rfl, hSB⟩, Below.join HB.out hb⟩

set_option maxRecDepth 100000 in
set_option maxHeartbeats 400000 in
theorem rsign_no (rb : Nat) (c : UInt8) (a1 : Addr) (w : World) (hE : Env w rb a1) (hsg : Ls.sign c = false) :
    Calls Tryz.prog 163 #[rdV rb, .int .u8 c.toNat] w (Threw w rb a1) := by
  have HM := fun W => isSign_any c W
  rw [hsg] at HM
  have HM' : Hid _ := HM
  clear HM hsg
  have hb0 := below_alloc1 w (.cells #[.pointer (some ⟨rb, 0, Option.none⟩)] 177)
  have HE0 : Hid _ := hE.below hb0
  have HB : Hid _ := hb0
  clear hb0
  go_enter Tryz.func163, Tryz.ntmps163
  go_wp2_with fail
  refine (HM'.out _).mono ?_
  rintro e w1 ⟨rfl, rfl⟩
  go_wp2_with fail
  refine (fail_any _ a1 _ HE0.out.sc).mono ?_
  rintro e w3 ⟨rfl, rfl⟩
  go_wp2_with fail
  exact ⟨rfl, rfl, grownBy_of_below HB.out _⟩

end Go.Proofs.YtfklinjaajafgaaGreatDoor
