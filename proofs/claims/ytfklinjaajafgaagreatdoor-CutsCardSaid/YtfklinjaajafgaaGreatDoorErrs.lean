import Derived.Test.YtfklinjaajafgaaGreatDoorDvK
import Derived.Test.YtfklinjaajafgaaGreatDoorDvJ
import Derived.LaidEql
import Derived.Stop.Asserts
import Derived.Stop.IfaceNil
import Derived.RowKitTokens
import Derived.Laws.Externs
/- errors.Is of two errors of errors.New's make; errno. -/
namespace Go.Proofs.YtfklinjaajafgaaGreatDoor
open Go.RowKit Go.Extern

theorem isTypeOf (v : Value) (w : World) : (Extern.ReflectliteType.typeOf #[.iface 251 v]).run Tryz.prog w = .ok (.iface 194 (.agg #[.pointer (some ⟨5, 251, none⟩)])) w := by kernel_rfl
theorem isComparable (w : World) : ((Extern.ReflectliteType.method fun t => do Rtype.noPackHeld "Comparable" t; pure (.bool (← typeInfo t).comparable)) #[.agg #[.pointer (some ⟨5, 251, none⟩)]]).run Tryz.prog w = .ok (.bool true) w := by kernel_rfl
theorem callTypeOf (v : Value) (w : World) : (callFunc 106 #[.iface 251 v]).run Tryz.prog w = .ok (.value (.iface 194 (.agg #[.pointer (some ⟨5, 251, none⟩)]))) w := by
  rw [@run_callFunc_extern Tryz.prog 106 _ Extern.ReflectliteType.typeOf Tryz.func106 (by kernel_rfl) (by kernel_rfl) (by kernel_rfl) (by kernel_rfl), isTypeOf]
  rfl
theorem callComparable (w : World) : (callFunc 240 #[.agg #[.pointer (some ⟨5, 251, none⟩)]]).run Tryz.prog w = .ok (.value (.bool true)) w := by
  rw [@run_callFunc_extern Tryz.prog 240 _ (Extern.ReflectliteType.method fun t => do Rtype.noPackHeld "Comparable" t; pure (.bool (← typeInfo t).comparable)) Tryz.func240 (by kernel_rfl) (by kernel_rfl) (by kernel_rfl) (by kernel_rfl), isComparable]
  rfl
theorem isMethodComparable (v : Value) (w : World) : (Go.method 385 194 v "Comparable").run Tryz.prog w = .ok (240, v) w := by kernel_rfl
theorem isComp : (Tryz.prog.info? 251).map (·.comparable) = some true := by kernel_rfl
theorem isSize : (Tryz.prog.info? 274).map (·.size) = some 1 := by kernel_rfl
theorem noIsE (v : Value) (xT : TypeId) (w : World) : (Instr.typeAssert (.iface 251 v) xT 196 true).run Tryz.prog w = .ok (.tuple #[.nilIface, .bool false]) w := run_typeAssert_lacksB Tryz.underlying196 (by kernel_rfl) (by kernel_rfl) v xT w
theorem noUnwrapE (v : Value) (xT : TypeId) (w : World) : (Instr.typeAssert (.iface 251 v) xT 199 true).run Tryz.prog w = .ok (.tuple #[.nilIface, .bool false]) w := run_typeAssert_lacksB Tryz.underlying199 (by kernel_rfl) (by kernel_rfl) v xT w
theorem noUnwrapsE (v : Value) (xT : TypeId) (w : World) : (Instr.typeAssert (.iface 251 v) xT 201 true).run Tryz.prog w = .ok (.tuple #[.nilIface, .bool false]) w := run_typeAssert_lacksB Tryz.underlying201 (by kernel_rfl) (by kernel_rfl) v xT w

set_option maxRecDepth 100000 in
set_option maxHeartbeats 2000000 in
theorem is_same (a : Addr) (w : World) :
    Calls Tryz.prog 80 #[errS a, errS a] w fun e w' => e = .returned (.bool true) ∧ w' = w := by
  obtain ⟨i, hi, hcmp⟩ := Option.map_eq_some_iff.1 isComp
  obtain ⟨j, hj, hjs⟩ := Option.map_eq_some_iff.1 isSize
  have h8 := callTypeOf
  have h32 := callComparable
  have mR := isMethodComparable
  have heq := run_eql_iface_ptr_same (P := Tryz.prog) w a Tryz.underlying80 Tryz.underlying251 hi hcmp hj
  go_enter Tryz.func80, Tryz.ntmps80
  go_wp2
  refine wp_loop_rounds 1 ?_
  rw [rounds_succ]
  go_wp2
  go_ret
  exact ⟨rfl, rfl⟩

set_option maxRecDepth 100000 in
set_option maxHeartbeats 2000000 in
theorem is_other (a b : Addr) (ca cb : Array Value) (ta tb : TypeId) (w : World) (hne : a ≠ b) (ha : w.heap[a.block]? = some (.cells ca ta (0, 0))) (hb : w.heap[b.block]? = some (.cells cb tb (0, 0))) :
    Calls Tryz.prog 80 #[errS a, errS b] w fun e w' => e = .returned (.bool false) ∧ w' = w := by
  obtain ⟨i, hi, hcmp⟩ := Option.map_eq_some_iff.1 isComp
  obtain ⟨j, hj, hjs⟩ := Option.map_eq_some_iff.1 isSize
  have h8 := callTypeOf
  have h32 := callComparable
  have mR := isMethodComparable
  have nE := noIsE
  have uE := noUnwrapE
  have vE := noUnwrapsE
  have heq := run_eql_iface_ptr_other (P := Tryz.prog) w Tryz.underlying80 Tryz.underlying251 hi hcmp hj (by rw [hjs]; decide) hne ha hb
  go_enter Tryz.func80, Tryz.ntmps80
  go_wp2
  refine wp_loop_rounds 1 ?_
  rw [rounds_succ]
  go_wp2
  go_ret
  exact ⟨rfl, rfl⟩

set_option maxRecDepth 100000 in
set_option maxHeartbeats 1000000 in
theorem errno_long (w : World) (a0 a1 a2 a3 : Addr) (h : Sent w a0 a1 a2 a3) :
    Calls Tryz.prog 45 #[errS a0] w fun e w' => e = .returned (.int .i64 1) ∧ w' = w := by
  have c0 := h.c0
  have c2 := h.c2
  have hnn := run_eql_iface_nil (P := Tryz.prog) (w := w) 80 (by kernel_rfl) 251 (.pointer (some a0))
  go_enter Tryz.func45, Tryz.ntmps45
  go_wp2_with fail
  refine (is_same a0 w).mono ?_
  rintro e w' ⟨rfl, rfl⟩
  go_wp2_with fail
  go_ret
  exact ⟨rfl, rfl⟩

end Go.Proofs.YtfklinjaajafgaaGreatDoor

/- errno's other ways; Size. -/
namespace Go.Proofs.YtfklinjaajafgaaGreatDoor
open Go.RowKit Go.Extern

set_option maxRecDepth 100000 in
set_option maxHeartbeats 1000000 in
theorem errno_size (w : World) (a0 a1 a2 a3 : Addr) (h : Sent w a0 a1 a2 a3) :
    Calls Tryz.prog 45 #[errS a2] w fun e w' => e = .returned (.int .i64 3) ∧ w' = w := by
  have c0 := h.c0
  have c2 := h.c2
  obtain ⟨d0, t0, b0⟩ := h.b0
  obtain ⟨d2, t2, b2⟩ := h.b2
  have hi0 := is_other a2 a0 d2 d0 t2 t0 w (Ne.symm h.n02) b2 b0
  have hi2 := is_same a2 w
  clear h b0 b2
  have hnn := run_eql_iface_nil (P := Tryz.prog) (w := w) 80 (by kernel_rfl) 251 (.pointer (some a2))
  go_enter Tryz.func45, Tryz.ntmps45
  go_wp2_with fail
  refine hi0.mono ?_
  rintro e w' ⟨rfl, rfl⟩
  go_wp2_with fail
  refine hi2.mono ?_
  rintro e w' ⟨rfl, rfl⟩
  go_wp2_with fail
  go_ret
  exact ⟨rfl, rfl⟩

set_option maxRecDepth 100000 in
set_option maxHeartbeats 1000000 in
theorem errno_type (w : World) (a0 a1 a2 a3 : Addr) (h : Sent w a0 a1 a2 a3) :
    Calls Tryz.prog 45 #[errS a3] w fun e w' => e = .returned (.int .i64 4) ∧ w' = w := by
  have c0 := h.c0
  have c2 := h.c2
  have c3 := h.c3
  obtain ⟨d0, t0, b0⟩ := h.b0
  obtain ⟨d2, t2, b2⟩ := h.b2
  obtain ⟨d3, t3, b3⟩ := h.b3
  have hi0 := is_other a3 a0 d3 d0 t3 t0 w (Ne.symm h.n03) b3 b0
  have hi2 := is_other a3 a2 d3 d2 t3 t2 w (Ne.symm h.n23) b3 b2
  have hi3 := is_same a3 w
  clear h b0 b2 b3
  have hnn := run_eql_iface_nil (P := Tryz.prog) (w := w) 80 (by kernel_rfl) 251 (.pointer (some a3))
  go_enter Tryz.func45, Tryz.ntmps45
  go_wp2_with fail
  refine hi0.mono ?_
  rintro e w' ⟨rfl, rfl⟩
  go_wp2_with fail
  refine hi2.mono ?_
  rintro e w' ⟨rfl, rfl⟩
  go_wp2_with fail
  refine hi3.mono ?_
  rintro e w' ⟨rfl, rfl⟩
  go_wp2_with fail
  go_ret
  exact ⟨rfl, rfl⟩

set_option maxRecDepth 100000 in
set_option maxHeartbeats 1000000 in
theorem errno_syntax (w : World) (a0 a1 a2 a3 : Addr) (h : Sent w a0 a1 a2 a3) :
    Calls Tryz.prog 45 #[errS a1] w fun e w' => e = .returned (.int .i64 2) ∧ w' = w := by
  have c0 := h.c0
  have c2 := h.c2
  have c3 := h.c3
  obtain ⟨d0, t0, b0⟩ := h.b0
  obtain ⟨d1, t1, b1⟩ := h.b1
  obtain ⟨d2, t2, b2⟩ := h.b2
  obtain ⟨d3, t3, b3⟩ := h.b3
  have hi0 := is_other a1 a0 d1 d0 t1 t0 w (Ne.symm h.n01) b1 b0
  have hi2 := is_other a1 a2 d1 d2 t1 t2 w h.n12 b1 b2
  have hi3 := is_other a1 a3 d1 d3 t1 t3 w h.n13 b1 b3
  clear h b0 b1 b2 b3
  have hnn := run_eql_iface_nil (P := Tryz.prog) (w := w) 80 (by kernel_rfl) 251 (.pointer (some a1))
  go_enter Tryz.func45, Tryz.ntmps45
  go_wp2_with fail
  refine hi0.mono ?_
  rintro e w' ⟨rfl, rfl⟩
  go_wp2_with fail
  refine hi2.mono ?_
  rintro e w' ⟨rfl, rfl⟩
  go_wp2_with fail
  refine hi3.mono ?_
  rintro e w' ⟨rfl, rfl⟩
  go_wp2_with fail
  go_ret
  exact ⟨rfl, rfl⟩

theorem mPlace (x : Value) (w : World) : (Go.method 385 180 x "Size").run Tryz.prog w = .ok (233, x) w := by kernel_rfl
theorem mRow (x : Value) (w : World) : (Go.method 385 184 x "Size").run Tryz.prog w = .ok (234, x) w := by kernel_rfl
theorem mChoice (x : Value) (w : World) : (Go.method 385 187 x "Size").run Tryz.prog w = .ok (236, x) w := by kernel_rfl
theorem mRepeat (x : Value) (w : World) : (Go.method 385 189 x "Size").run Tryz.prog w = .ok (237, x) w := by kernel_rfl

/-- How many nodes. -/
def dn : Ls.D → Nat
  | ⟨_, _, []⟩ => 1
  | ⟨_, _, [a]⟩ => dn a + 1
  | ⟨_, _, [a, b]⟩ => dn a + dn b + 1
  | _ => 1

theorem dn_rep (t : Nat) (a : Ls.D) : dn (Ls.rep t a) = dn a + 1 := by simp [Ls.rep, dn]
theorem dn_rcons (a r : Ls.D) : dn (Ls.rcons a r) = dn a + dn r + 1 := by simp [Ls.rcons, dn]
theorem dn_clast (r : Ls.D) : dn (Ls.clast r) = dn r + 1 := by simp [Ls.clast, dn]
theorem dn_ccons (r c : Ls.D) : dn (Ls.ccons r c) = dn r + dn c + 1 := by simp [Ls.ccons, dn]

/-- The things of a row, one by one. -/
theorem Rep.things {w : World} {G : Nat → Prop} {r : Nat} {d : Ls.D} {vs : List Value} (h : Rep w G r d vs) (hr : r = 1) : ∃ l : List Ls.D, d = l.foldr Ls.rcons Ls.rnil ∧ Each w G l vs := by
  induction h using Rep.ind with
  | rnil => exact ⟨[], rfl, .nil⟩
  | rcons h1 _ _ ih => 
    obtain ⟨l, e, hl⟩ := ih rfl
    exact ⟨_ :: l, by rw [e]; rfl, .cons h1 hl⟩
  | _ => cases hr

theorem Rep.sides {w : World} {G : Nat → Prop} {r : Nat} {d : Ls.D} {vs : List Value} (h : Rep w G r d vs) (hr : r = 2) : ∃ l : List Ls.D, l ≠ [] ∧ d = chainD l ∧ Each w G l vs := by
  induction h using Rep.ind with
  | clast h1 _ => exact ⟨[_], by simp, rfl, .cons h1 .nil⟩
  | ccons h1 _ _ ih =>
    obtain ⟨l, hn, e, hl⟩ := ih rfl
    refine ⟨_ :: l, by simp, ?_, .cons h1 hl⟩
    cases l with
    | nil => exact absurd rfl hn
    | cons b l => rw [e]; rfl
  | _ => cases hr

theorem dn_row (l : List Ls.D) : ∀ a, a ∈ l → dn a < dn (l.foldr Ls.rcons Ls.rnil) := by
  induction l with
  | nil => simp
  | cons b l ih =>
    intro a ha
    simp only [List.foldr_cons, dn_rcons]
    simp only [List.mem_cons] at ha
    rcases ha with rfl | ha
    · omega
    · have := ih a ha; omega

theorem dn_chain (l : List Ls.D) : ∀ a, a ∈ l → dn a < dn (chainD l) := by
  induction l with
  | nil => simp
  | cons b l ih =>
    intro a ha
    cases l with
    | nil => simp only [List.mem_cons, List.not_mem_nil, or_false] at ha; subst ha; simp only [chainD, dn_clast]; omega
    | cons c l =>
      simp only [chainD, dn_ccons]
      rw [List.mem_cons] at ha
      rcases ha with rfl | ha
      · omega
      · have := ih a ha; omega

/-- How many places in all. -/
def sizes : List Ls.D → Nat
  | [] => 0
  | a :: l => Ls.dsize a + sizes l

theorem sizes_snoc (l : List Ls.D) (a : Ls.D) : sizes (l ++ [a]) = sizes l + Ls.dsize a := by
  induction l with
  | nil => simp [sizes]
  | cons b l ih => simp only [List.cons_append, sizes, ih]; omega

theorem sizes_take (l : List Ls.D) (k : Nat) : sizes (l.take k) ≤ sizes l := by
  induction l generalizing k with
  | nil => simp
  | cons b l ih =>
    cases k with
    | zero => simp [sizes]
    | succ k => simp only [List.take_succ_cons, sizes]; have := ih k; omega

theorem sizes_row (l : List Ls.D) : Ls.dsize (l.foldr Ls.rcons Ls.rnil) = sizes l := by
  induction l with
  | nil => exact Ls.dsize_rnil
  | cons a l ih => simp only [List.foldr_cons, Ls.dsize_rcons, sizes, ih]

theorem sizes_chain (l : List Ls.D) (h : l ≠ []) : Ls.dsize (chainD l) = sizes l := by
  induction l with
  | nil => exact absurd rfl h
  | cons a l ih =>
    cases l with
    | nil => simp [chainD, Ls.dsize_clast, sizes]
    | cons b l => simp only [chainD, Ls.dsize_ccons, ih (by simp), sizes]

theorem sizes_len (l : List Ls.D) : l.length < dn (l.foldr Ls.rcons Ls.rnil) := by
  induction l with
  | nil => simp [Ls.rnil, dn]
  | cons a l ih => simp only [List.length_cons, List.foldr_cons, dn_rcons]; omega

theorem chain_len (l : List Ls.D) : l.length ≤ dn (chainD l) := by
  induction l with
  | nil => simp
  | cons a l ih =>
    cases l with
    | nil => simp only [chainD, dn_clast, List.length_cons, List.length_nil]; omega
    | cons b l => simp only [chainD, dn_ccons, List.length_cons] at ih ⊢; omega

theorem Each.get {w : World} {G : Nat → Prop} {l : List Ls.D} {vs : List Value} (h : Each w G l vs) (k : Nat) (hk : k < l.length) : ∃ ty x, vs[k]? = some (.iface ty x) ∧ Rep w G 0 l[k] [.iface ty x] := by
  induction h using Each.ind generalizing k with
  | nil => simp at hk
  | cons hr _ ih =>
    cases k with
    | zero => obtain ⟨ty, x, rfl⟩ := hr.iface; exact ⟨ty, x, rfl, hr⟩
    | succ k => exact ih k (by simpa using hk)

/-- What Size answers of d, wherever it lies. -/
def SizeSaid (d : Ls.D) : Prop := Ls.dsize d ≤ 1048576 → ∀ (w : World) (G : Nat → Prop) (ty : TypeId) (x : Value), Old w G → Rep w G 0 d [.iface ty x] →
  ∃ f, (∀ w, (Go.method 385 ty x "Size").run Tryz.prog w = .ok (f, x) w) ∧ (∀ w, (callFunc f #[x]).run Tryz.prog w = .ok (.enter f #[x]) w) ∧ Calls Tryz.prog f #[x] w fun e w' => e = .returned (.int .i64 (Ls.dsize d)) ∧ Below w.heap.size w w'

/-- What a slice that shows some patterns is. -/
theorem Shows.shape {w : World} {G : Nat → Prop} {sl : Value} {vs : List Value} (h : Shows w G sl vs) : (sl = .slice Option.none 0 0 ∧ vs = []) ∨ ∃ g cap, sl = .slice (some ⟨g, 0, Option.none⟩) vs.length cap ∧ G g ∧ ∀ k, k < vs.length → w.cell? ⟨g, k, Option.none⟩ = vs[k]? := by
  rcases h.own.2 with ⟨h1, h2⟩ | ⟨g, cap, cur, rfl, h3⟩
  · exact .inl ⟨h1, List.eq_nil_of_length_eq_zero h2⟩
  · exact .inr ⟨g, cap, rfl, h.inG g rfl, fun k hk => h.own.cellAt k (by omega)⟩

theorem Shows.later {w w' : World} {G : Nat → Prop} {sl : Value} {vs : List Value} (h : Shows w G sl vs) (hG : Old w G) (hb : Below w.heap.size w w') : Shows w' G sl vs :=
  h.mono (fun _ h => h) (fun k hk => hb.block k (hG k hk))
theorem Rep.later {w w' : World} {G : Nat → Prop} {d : Ls.D} {v : Value} (h : Rep w G 0 d [v]) (hG : Old w G) (hb : Below w.heap.size w w') : Rep w' G 0 d [v] :=
  h.mono (fun _ h => h) (fun k hk => hb.block k (hG k hk))
theorem Each.later {w w' : World} {G : Nat → Prop} {l : List Ls.D} {vs : List Value} (h : Each w G l vs) (hG : Old w G) (hb : Below w.heap.size w w') : Each w' G l vs :=
  h.mono (fun _ h => h) (fun k hk => hb.block k (hG k hk))

set_option maxRecDepth 100000 in
set_option maxHeartbeats 1000000 in
theorem sizeOfAll_any (l : List Ls.D) (hl : ∀ a, a ∈ l → SizeSaid a) (hn : sizes l ≤ 1048576) (hln : l.length ≤ 1048577) (w : World) (G : Nat → Prop) (hG : Old w G) (sl : Value) (vs : List Value) (hs : Shows w G sl vs) (he : Each w G l vs) :
    Calls Tryz.prog 235 #[sl] w fun e w' => e = .returned (.int .i64 (sizes l)) ∧ Below w.heap.size w w' := by
  have Hl : Hid (∀ a, a ∈ l → SizeSaid a) := hl
  clear hl
  have hlen := he.length
  rcases hs.shape with ⟨rfl, rfl⟩ | ⟨g, cap, rfl, hgG, hcell⟩
  · obtain rfl : l = [] := List.eq_nil_of_length_eq_zero (by simpa using hlen.symm)
    clear hs he
    go_enter Tryz.func235, Tryz.ntmps235
    go_wp2_with fail
    refine wp_loop_rounds 1 ?_
    rw [rounds_succ]
    go_wp2_with fail
    go_ret
    exact ⟨rfl, Below.refl _ _⟩
  · have hgl := hG g hgG
    have HS : Hid _ := hs
    have HE : Hid _ := he
    clear hs he hcell
    rw [hlen]
    have Hlen : Hid _ := hlen
    clear hlen
    go_enter Tryz.func235, Tryz.ntmps235
    go_wp2_with fail
    go_loopw [3, 8] (fun t i wr => ∃ k : Nat, k ≤ l.length ∧ i = .int .i64 k ∧ t = .int .i64 (sizes (l.take k)) ∧ Below w.heap.size w wr) (fun _ i _ => l.length - (intOf i).toNat)
    case atStart => exact ⟨0, Nat.zero_le _, rfl, by simp [sizes], Below.refl _ _⟩
    case round =>
      obtain ⟨k, hk, rfl, rfl, hb⟩ := hrel
      have hst := sizes_take l k
      by_cases hlt : k < l.length
      · have hsw := HS.out.later hG hb
        have hew := HE.out.later hG hb
        obtain ⟨ty, x, hx, hrep⟩ := hew.get k hlt
        obtain ⟨f, hm, hcf, hf⟩ := Hl.out l[k] (List.getElem_mem hlt) (by
          have := sizes_take l (k + 1)
          rw [List.take_succ_eq_append_getElem hlt, sizes_snoc] at this
          omega) wr G ty x (hG.below hb) hrep
        have hc : wr.cell? ⟨g, k, Option.none⟩ = some (.iface ty x) := by
          rcases hsw.shape with ⟨e, _⟩ | ⟨g', cap', e, _, hcell⟩
          · cases e
          · injection e with e1 e2 e3
            injection e1 with e1
            injection e1 with e1
            subst e1
            rw [hcell k (by rw [Hlen.out]; exact hlt), hx]
        have hsum : Hid (sizes (l.take (k + 1)) = sizes (l.take k) + Ls.dsize l[k]) := by show _ = _; rw [List.take_succ_eq_append_getElem hlt, sizes_snoc]
        have hst2 := sizes_take l (k + 1)
        rw [hsum.out] at hst2
        clear hsw hew hrep hx
        go_wp2_with fail
        refine hf.mono ?_
        rintro e w3 ⟨rfl, hb3⟩
        go_wp2_with fail
        go_roundw
        case rel => exact ⟨k + 1, by omega, by go_num, by rw [hsum.out]; go_num, Below.join hb hb3⟩
        case measure => simp [intOf]; omega
      · have hk1 : k = l.length := by omega
        go_wp2_with fail
        go_ret
        rw [hk1, List.take_length]
        exact ⟨rfl, hb⟩

theorem cPlace (x : Value) (w : World) : (callFunc 233 #[x]).run Tryz.prog w = .ok (.enter 233 #[x]) w := by kernel_rfl
theorem cRow (x : Value) (w : World) : (callFunc 234 #[x]).run Tryz.prog w = .ok (.enter 234 #[x]) w := by kernel_rfl
theorem cChoice (x : Value) (w : World) : (callFunc 236 #[x]).run Tryz.prog w = .ok (.enter 236 #[x]) w := by kernel_rfl
theorem cRepeat (x : Value) (w : World) : (callFunc 237 #[x]).run Tryz.prog w = .ok (.enter 237 #[x]) w := by kernel_rfl

set_option maxRecDepth 100000 in
set_option maxHeartbeats 1000000 in
theorem size_step (d : Ls.D) (hI : ∀ a, dn a < dn d → SizeSaid a) (hlen : dn d ≤ 1048577) : SizeSaid d := by
  intro hn w G ty x hG h
  rcases h.at0 with ⟨s, lo, hi, hS, rfl, hv⟩ | ⟨t, a, v', ht, h1, rfl, hv⟩ | ⟨sl, vs, hs, h1, hv⟩ | ⟨sl, vs, hs, h1, hv⟩ <;> cases hv <;> clear h
  · clear hS
    refine ⟨_, mPlace _, cPlace _, ?_⟩
    rw [Ls.dsize_place]
    go_enter Tryz.func233, Tryz.ntmps233
    go_wp2_with fail
    go_ret
    exact ⟨rfl, below_alloc1 _ _⟩
  · clear ht
    obtain ⟨ty, y, rfl⟩ := h1.iface
    refine ⟨_, mRepeat _, cRepeat _, ?_⟩
    rw [Ls.dsize_rep] at hn ⊢
    have H1 : Hid _ := h1
    have HI : Hid (SizeSaid a) := hI a (by rw [dn_rep]; omega)
    clear hI h1
    obtain ⟨f, hm, hcf, hf⟩ := HI.out hn (w.alloc (.cells #[.iface ty y, .bool (t != 6), .bool (t != 7)] 189)) G ty y (hG.alloc _) (H1.out.later hG (below_alloc1 _ _))
    go_enter Tryz.func237, Tryz.ntmps237
    go_wp2_with fail
    refine hf.mono ?_
    rintro e w3 ⟨rfl, hb3⟩
    go_wp2_with fail
    go_ret
    exact ⟨rfl, Below.join (below_alloc1 _ _) hb3⟩
  · obtain ⟨l, rfl, he⟩ := h1.things rfl
    refine ⟨_, mRow _, cRow _, ?_⟩
    rw [sizes_row] at hn ⊢
    have hb := below_alloc1 w (.cells #[sl] 184)
    have hl := sizes_len l
    have H := sizeOfAll_any l (fun a ha => hI a (dn_row l a ha)) hn (by omega) _ G (hG.alloc (.cells #[sl] 184)) sl vs (hs.later hG hb) (he.later hG hb)
    obtain ⟨x1, x2, x3, rfl⟩ : ∃ a n c, sl = .slice a n c := by
      rcases hs.shape with ⟨e, _⟩ | ⟨_, _, e, _⟩ <;> exact ⟨_, _, _, e⟩
    clear hs h1 he hI
    go_enter Tryz.func234, Tryz.ntmps234
    go_wp2_with fail
    refine H.mono ?_
    rintro e w3 ⟨rfl, hb3⟩
    go_wp2_with fail
    go_ret
    exact ⟨rfl, Below.join hb hb3⟩
  · obtain ⟨l, hne, rfl, he⟩ := h1.sides rfl
    refine ⟨_, mChoice _, cChoice _, ?_⟩
    rw [sizes_chain l hne] at hn ⊢
    have hb := below_alloc1 w (.cells #[sl] 187)
    have hl := chain_len l
    have H := sizeOfAll_any l (fun a ha => hI a (dn_chain l a ha)) hn (by omega) _ G (hG.alloc (.cells #[sl] 187)) sl vs (hs.later hG hb) (he.later hG hb)
    obtain ⟨x1, x2, x3, rfl⟩ : ∃ a n c, sl = .slice a n c := by
      rcases hs.shape with ⟨e, _⟩ | ⟨_, _, e, _⟩ <;> exact ⟨_, _, _, e⟩
    clear hs h1 he hI
    go_enter Tryz.func236, Tryz.ntmps236
    go_wp2_with fail
    refine H.mono ?_
    rintro e w3 ⟨rfl, hb3⟩
    go_wp2_with fail
    go_ret
    exact ⟨rfl, Below.join hb hb3⟩

theorem size_any (n : Nat) : ∀ d, dn d ≤ n → dn d ≤ 1048577 → SizeSaid d := by
  induction n with
  | zero => intro d hd h; exact size_step d (fun a ha => by omega) h
  | succ n ih => intro d hd h; exact size_step d (fun a ha => ih a (by omega) (by omega)) h

end Go.Proofs.YtfklinjaajafgaaGreatDoor

/- Read. -/
namespace Go.Proofs.YtfklinjaajafgaaGreatDoor
open Go.RowKit Go.Extern

/-- Few nodes. -/
def Few (P : List UInt8 → Ls.Rd) : Prop := ∀ r d t, P r = some (d, t) → dn d + 4 * t.length ≤ 4 * r.length + 2

theorem dn_place (s : List UInt8) : dn (Ls.place s) = 1 := by simp [Ls.place, dn]
theorem dn_rnil : dn Ls.rnil = 1 := by simp [Ls.rnil, dn]

theorem oneOf_few {P : List UInt8 → Ls.Rd} (hP : Few P) {r : List UInt8} {d : Ls.D} {t : List UInt8} (h : Ls.oneOf P r = some (d, t)) : dn d + 4 * t.length + 1 ≤ 4 * r.length := by
  cases r with
  | nil => simp [Ls.oneOf] at h
  | cons c r =>
    unfold Ls.oneOf at h
    dsimp only at h
    split at h
    · split at h
      · simp at h
      · rename_i e u he
        have h1 := hP _ _ _ he
        split at h
        · rename_i h41
          have := Ls.tail_len h41
          simp at h; obtain ⟨rfl, rfl⟩ := h
          simp only [List.length_cons]; omega
        · simp at h
    · split at h
      · split at h
        · simp at h
        · rename_i e u he
          have h1 := Ls.cls_suf _ _ _ _ _ he
          simp at h; obtain ⟨rfl, rfl⟩ := h
          rw [dn_place]; simp only [List.length_cons]; omega
      · split at h
        · simp at h; obtain ⟨rfl, rfl⟩ := h; rw [dn_place]; simp only [List.length_cons]; omega
        · split at h
          · split at h
            · simp at h
            · split at h
              · simp at h; obtain ⟨rfl, rfl⟩ := h
                rw [dn_place]; simp only [List.length_cons]; omega
              · simp at h
          · split at h
            · simp at h
            · simp at h; obtain ⟨rfl, rfl⟩ := h; rw [dn_place]; simp only [List.length_cons]; omega

theorem thing_few {P : List UInt8 → Ls.Rd} (hP : Few P) {r : List UInt8} {d : Ls.D} {t : List UInt8} (h : Ls.thing P r = some (d, t)) : dn d + 4 * t.length + 1 ≤ 4 * r.length := by
  rw [Ls.thing] at h
  split at h
  · simp at h
  · rename_i a u hu
    have h1 := oneOf_few hP hu
    split at h
    · rename_i hx
      have := Ls.tail_len hx
      simp at h; obtain ⟨rfl, rfl⟩ := h; rw [dn_rep]; omega
    · split at h
      · rename_i hx
        have := Ls.tail_len hx
        simp at h; obtain ⟨rfl, rfl⟩ := h; rw [dn_rep]; omega
      · split at h
        · rename_i hx
          have := Ls.tail_len hx
          simp at h; obtain ⟨rfl, rfl⟩ := h; rw [dn_rep]; omega
        · simp at h; obtain ⟨rfl, rfl⟩ := h; exact h1

theorem things_few {P : List UInt8 → Ls.Rd} (hP : Few P) : (n : Nat) → (r : List UInt8) → (d : Ls.D) → (t : List UInt8) → Ls.things P n r = some (d, t) → dn d + 4 * t.length ≤ 4 * r.length + 1
  | 0, _, _, _, h => by simp [Ls.things] at h
  | n + 1, r, d, t, h => by
    rw [Ls.things] at h
    split at h
    · simp at h; obtain ⟨rfl, rfl⟩ := h; rw [dn_rnil]; omega
    · split at h
      · simp at h
      · rename_i a r1 h1
        have h2 := thing_few hP h1
        split at h
        · simp at h
        · rename_i b r2 h3
          have h4 := things_few hP n r1 b r2 h3
          simp at h; obtain ⟨rfl, rfl⟩ := h; rw [dn_rcons]; omega

theorem alts_few {P : List UInt8 → Ls.Rd} (hP : Few P) : (n : Nat) → (r : List UInt8) → (d : Ls.D) → (t : List UInt8) → Ls.alts P n r = some (d, t) → dn d + 4 * t.length ≤ 4 * r.length + 2
  | 0, _, _, _, h => by simp [Ls.alts] at h
  | n + 1, r, d, t, h => by
    rw [Ls.alts] at h
    split at h
    · simp at h
    · rename_i a r1 h1
      have h2 := things_few hP _ _ _ _ h1
      split at h
      · rename_i hx
        have := Ls.tail_len hx
        split at h
        · simp at h
        · rename_i b r3 h3
          have h4 := alts_few hP n _ b r3 h3
          simp at h; obtain ⟨rfl, rfl⟩ := h; rw [dn_ccons]; omega
      · simp at h; obtain ⟨rfl, rfl⟩ := h; rw [dn_clast]; omega

theorem pat_few : (d : Nat) → Few (Ls.pat d)
  | 0 => fun r e t h => by simp [Ls.pat] at h
  | d + 1 => fun r e t h => alts_few (pat_few d) _ _ _ _ h

theorem readAll_few {l : List UInt8} {d : Ls.D} (h : readAll l = some d) : dn d ≤ 4 * l.length + 2 ∧ Ls.dsize d ≤ l.length := by
  unfold readAll at h
  split at h
  · cases h
  · rename_i d' t hp
    split at h
    · simp at h; subst h
      have h1 := pat_few _ _ _ _ hp
      have h2 := Ls.pat_siz _ _ _ _ hp
      omega
    · cases h

/-- Which error. -/
def errA (a0 a1 a2 a3 : Addr) (n : Nat) : Addr := if n = 1 then a0 else if n = 2 then a1 else if n = 3 then a2 else a3

theorem errno_any (w : World) (a0 a1 a2 a3 : Addr) (h : Sent w a0 a1 a2 a3) (r : Nat) (hr : r = 1 ∨ r = 2 ∨ r = 3 ∨ r = 4) :
    Calls Tryz.prog 45 #[errS (errA a0 a1 a2 a3 r)] w fun e w' => e = .returned (.int .i64 r) ∧ w' = w := by
  rcases hr with rfl | rfl | rfl | rfl
  · exact errno_long w a0 a1 a2 a3 h
  · exact errno_syntax w a0 a1 a2 a3 h
  · exact errno_size w a0 a1 a2 a3 h
  · exact errno_type w a0 a1 a2 a3 h

end Go.Proofs.YtfklinjaajafgaaGreatDoor
