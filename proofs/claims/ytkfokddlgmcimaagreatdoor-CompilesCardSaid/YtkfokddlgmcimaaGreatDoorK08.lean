import Derived.Test.YtkfokddlgmcimaaGreatDoorK04
import Derived.Test.YtkfokddlgmcimaaGreatDoorK07
import Derived.LaidEql
import Derived.Stop.Asserts
import Derived.Stop.IfaceNil
import Derived.RowKitTokens
import Derived.Laws.Externs
import Derived.Test.YtkfokddlgmcimaaGreatDoorK02
set_option maxRecDepth 100000
set_option maxHeartbeats 4000000
namespace Go.Proofs.YtkfokddlgmcimaaGreatDoor
open Go.RowKit Go.Extern
theorem isTypeOf (v : Value) (w : World) : (Extern.ReflectliteType.typeOf #[.iface 216 v]).run Tryz.prog w = .ok (.iface 184 (.agg #[.pointer (some ⟨5, 216, none⟩)])) w := by kernel_rfl
theorem isComparable (w : World) : ((Extern.ReflectliteType.method fun t => do Rtype.noPackHeld "Comparable" t; pure (.bool (<- typeInfo t).comparable)) #[.agg #[.pointer (some ⟨5, 216, none⟩)]]).run Tryz.prog w = .ok (.bool true) w := by kernel_rfl
theorem callTypeOf (v : Value) (w : World) : (callFunc 94 #[.iface 216 v]).run Tryz.prog w = .ok (.value (.iface 184 (.agg #[.pointer (some ⟨5, 216, none⟩)]))) w := by
 rw [@run_callFunc_extern Tryz.prog 94 _ Extern.ReflectliteType.typeOf Tryz.func94 (by kernel_rfl) (by kernel_rfl) (by kernel_rfl) (by kernel_rfl), isTypeOf]
 rfl
theorem callComparable (w : World) : (callFunc 194 #[.agg #[.pointer (some ⟨5, 216, none⟩)]]).run Tryz.prog w = .ok (.value (.bool true)) w := by
 rw [@run_callFunc_extern Tryz.prog 194 _ (Extern.ReflectliteType.method fun t => do Rtype.noPackHeld "Comparable" t; pure (.bool (<- typeInfo t).comparable)) Tryz.func194 (by kernel_rfl) (by kernel_rfl) (by kernel_rfl) (by kernel_rfl), isComparable]
 rfl
theorem isMethodComparable (v : Value) (w : World) : (Go.method 352 184 v "Comparable").run Tryz.prog w = .ok (194, v) w := by kernel_rfl
theorem isComp : (Tryz.prog.info? 216).map (·.comparable) = some true := by kernel_rfl
theorem isSize : (Tryz.prog.info? 240).map (·.size) = some 1 := by kernel_rfl
theorem noIsE (v : Value) (xT : TypeId) (w : World) : (Instr.typeAssert (.iface 216 v) xT 186 true).run Tryz.prog w = .ok (.tuple #[.nilIface, .bool false]) w := run_typeAssert_lacksB Tryz.underlying186 (by kernel_rfl) (by kernel_rfl) v xT w
theorem noUnwrapE (v : Value) (xT : TypeId) (w : World) : (Instr.typeAssert (.iface 216 v) xT 189 true).run Tryz.prog w = .ok (.tuple #[.nilIface, .bool false]) w := run_typeAssert_lacksB Tryz.underlying189 (by kernel_rfl) (by kernel_rfl) v xT w
theorem noUnwrapsE (v : Value) (xT : TypeId) (w : World) : (Instr.typeAssert (.iface 216 v) xT 191 true).run Tryz.prog w = .ok (.tuple #[.nilIface, .bool false]) w := run_typeAssert_lacksB Tryz.underlying191 (by kernel_rfl) (by kernel_rfl) v xT w
theorem is_same (a : Addr) (w : World) :
  Calls Tryz.prog 68 #[errS a, errS a] w fun e w' => e = .returned (.bool true) /\ w' = w := by
 obtain ⟨i, hi, hcmp⟩ := Option.map_eq_some_iff.1 isComp
 obtain ⟨j, hj, hjs⟩ := Option.map_eq_some_iff.1 isSize
 have h8 := callTypeOf
 have h32 := callComparable
 have mR := isMethodComparable
 have heq := run_eql_iface_ptr_same (P := Tryz.prog) w a Tryz.underlying73 Tryz.underlying216 hi hcmp hj
 go_enter Tryz.func68, Tryz.ntmps68
 go_wp2
 refine wp_loop_rounds 1 ?_
 rw [rounds_succ]
 go_wp2
 go_ret
 exact ⟨rfl, rfl⟩
theorem is_other (a b : Addr) (ca cb : Array Value) (ta tb : TypeId) (w : World) (hne : a ≠ b) (ha : w.heap[a.block]? = some (.cells ca ta (0, 0))) (hb : w.heap[b.block]? = some (.cells cb tb (0, 0))) :
  Calls Tryz.prog 68 #[errS a, errS b] w fun e w' => e = .returned (.bool false) /\ w' = w := by
 obtain ⟨i, hi, hcmp⟩ := Option.map_eq_some_iff.1 isComp
 obtain ⟨j, hj, hjs⟩ := Option.map_eq_some_iff.1 isSize
 have h8 := callTypeOf
 have h32 := callComparable
 have mR := isMethodComparable
 have nE := noIsE
 have uE := noUnwrapE
 have vE := noUnwrapsE
 have heq := run_eql_iface_ptr_other (P := Tryz.prog) w Tryz.underlying73 Tryz.underlying216 hi hcmp hj (by rw [hjs]; decide) hne ha hb
 go_enter Tryz.func68, Tryz.ntmps68
 go_wp2
 refine wp_loop_rounds 1 ?_
 rw [rounds_succ]
 go_wp2
 go_ret
 exact ⟨rfl, rfl⟩
theorem errno_long (w : World) (a0 a1 a2 a3 : Addr) (h : Sent w a0 a1 a2 a3) :
  Calls Tryz.prog 36 #[errS a0] w fun e w' => e = .returned (.int .i64 1) /\ w' = w := by
 have c0 := h.c0
 have c2 := h.c2
 have hnn := run_eql_iface_nil (P := Tryz.prog) (w := w) 73 (by kernel_rfl) 216 (.pointer (some a0))
 go_enter Tryz.func36, Tryz.ntmps36
 go_wp2_with fail
 refine (is_same a0 w).mono ?_
 rintro e w' ⟨rfl, rfl⟩
 go_wp2_with fail
 go_ret
 exact ⟨rfl, rfl⟩
end Go.Proofs.YtkfokddlgmcimaaGreatDoor
namespace Go.Proofs.YtkfokddlgmcimaaGreatDoor
open Go.RowKit Go.Extern
theorem errno_size (w : World) (a0 a1 a2 a3 : Addr) (h : Sent w a0 a1 a2 a3) :
  Calls Tryz.prog 36 #[errS a2] w fun e w' => e = .returned (.int .i64 3) /\ w' = w := by
 have c0 := h.c0
 have c2 := h.c2
 obtain ⟨d0, t0, b0⟩ := h.b0
 obtain ⟨d2, t2, b2⟩ := h.b2
 have hi0 := is_other a2 a0 d2 d0 t2 t0 w (Ne.symm h.n02) b2 b0
 have hi2 := is_same a2 w
 clear h b0 b2
 have hnn := run_eql_iface_nil (P := Tryz.prog) (w := w) 73 (by kernel_rfl) 216 (.pointer (some a2))
 go_enter Tryz.func36, Tryz.ntmps36
 go_wp2_with fail
 refine hi0.mono ?_
 rintro e w' ⟨rfl, rfl⟩
 go_wp2_with fail
 refine hi2.mono ?_
 rintro e w' ⟨rfl, rfl⟩
 go_wp2_with fail
 go_ret
 exact ⟨rfl, rfl⟩
theorem errno_type (w : World) (a0 a1 a2 a3 : Addr) (h : Sent w a0 a1 a2 a3) :
  Calls Tryz.prog 36 #[errS a3] w fun e w' => e = .returned (.int .i64 4) /\ w' = w := by
 have c0 := h.c0
 have c2 := h.c2
 have c3 := h.c3
 obtain ⟨d0, t0, b0⟩ := h.b0
 obtain ⟨d2, t2, b2⟩ := h.b2
 obtain ⟨d3, t3, b3⟩ := h.b3
 have hi0 := is_other a3 a0 d3 d0 t3 t0 w (Ne.symm h.n03) b3 b0
 have hi2 := is_other a3 a2 d3 d2 t3 t2 w (Ne.symm h.n23) b3 b2
 have hi3 := is_same a3 w
 clear h b0 b2 b3
 have hnn := run_eql_iface_nil (P := Tryz.prog) (w := w) 73 (by kernel_rfl) 216 (.pointer (some a3))
 go_enter Tryz.func36, Tryz.ntmps36
 go_wp2_with fail
 refine hi0.mono ?_
 rintro e w' ⟨rfl, rfl⟩
 go_wp2_with fail
 refine hi2.mono ?_
 rintro e w' ⟨rfl, rfl⟩
 go_wp2_with fail
 refine hi3.mono ?_
 rintro e w' ⟨rfl, rfl⟩
 go_wp2_with fail
 go_ret
 exact ⟨rfl, rfl⟩
theorem errno_syntax (w : World) (a0 a1 a2 a3 : Addr) (h : Sent w a0 a1 a2 a3) :
  Calls Tryz.prog 36 #[errS a1] w fun e w' => e = .returned (.int .i64 2) /\ w' = w := by
 have c0 := h.c0
 have c2 := h.c2
 have c3 := h.c3
 obtain ⟨d0, t0, b0⟩ := h.b0
 obtain ⟨d1, t1, b1⟩ := h.b1
 obtain ⟨d2, t2, b2⟩ := h.b2
 obtain ⟨d3, t3, b3⟩ := h.b3
 have hi0 := is_other a1 a0 d1 d0 t1 t0 w (Ne.symm h.n01) b1 b0
 have hi2 := is_other a1 a2 d1 d2 t1 t2 w h.n12 b1 b2
 have hi3 := is_other a1 a3 d1 d3 t1 t3 w h.n13 b1 b3
 clear h b0 b1 b2 b3
 have hnn := run_eql_iface_nil (P := Tryz.prog) (w := w) 73 (by kernel_rfl) 216 (.pointer (some a1))
 go_enter Tryz.func36, Tryz.ntmps36
 go_wp2_with fail
 refine hi0.mono ?_
 rintro e w' ⟨rfl, rfl⟩
 go_wp2_with fail
 refine hi2.mono ?_
 rintro e w' ⟨rfl, rfl⟩
 go_wp2_with fail
 refine hi3.mono ?_
 rintro e w' ⟨rfl, rfl⟩
 go_wp2_with fail
 go_ret
 exact ⟨rfl, rfl⟩
theorem mPlace (x : Value) (w : World) : (Go.method 352 170 x "Size").run Tryz.prog w = .ok (187, x) w := by kernel_rfl
theorem mRow (x : Value) (w : World) : (Go.method 352 174 x "Size").run Tryz.prog w = .ok (188, x) w := by kernel_rfl
theorem mChoice (x : Value) (w : World) : (Go.method 352 177 x "Size").run Tryz.prog w = .ok (190, x) w := by kernel_rfl
theorem mRepeat (x : Value) (w : World) : (Go.method 352 179 x "Size").run Tryz.prog w = .ok (191, x) w := by kernel_rfl
def dn : Ls.D -> Nat
 | ⟨_, _, []⟩ => 1
 | ⟨_, _, [a]⟩ => dn a + 1
 | ⟨_, _, [a, b]⟩ => dn a + dn b + 1
 | _ => 1
theorem dn_rep (t : Nat) (a : Ls.D) : dn (Ls.rep t a) = dn a + 1 := by simp [Ls.rep, dn]
theorem dn_rcons (a r : Ls.D) : dn (Ls.rcons a r) = dn a + dn r + 1 := by simp [Ls.rcons, dn]
theorem dn_clast (r : Ls.D) : dn (Ls.clast r) = dn r + 1 := by simp [Ls.clast, dn]
theorem dn_ccons (r c : Ls.D) : dn (Ls.ccons r c) = dn r + dn c + 1 := by simp [Ls.ccons, dn]
theorem Rep.things {w : World} {G : Nat -> Prop} {r : Nat} {d : Ls.D} {vs : List Value} (h : Rep w G r d vs) (hr : r = 1) : ∃ l : List Ls.D, d = l.foldr Ls.rcons Ls.rnil /\ Each w G l vs := by
 induction h using Rep.ind with
 | rnil => exact ⟨[], rfl, .nil⟩
 | rcons h1 _ _ ih => 
  obtain ⟨l, e, hl⟩ := ih rfl
  exact ⟨_ :: l, by rw [e]; rfl, .cons h1 hl⟩
 | _ => cases hr
theorem Rep.sides {w : World} {G : Nat -> Prop} {r : Nat} {d : Ls.D} {vs : List Value} (h : Rep w G r d vs) (hr : r = 2) : ∃ l : List Ls.D, l ≠ [] /\ d = chainD l /\ Each w G l vs := by
 induction h using Rep.ind with
 | clast h1 _ => exact ⟨[_], by simp, rfl, .cons h1 .nil⟩
 | ccons h1 _ _ ih =>
  obtain ⟨l, hn, e, hl⟩ := ih rfl
  refine ⟨_ :: l, by simp, ?_, .cons h1 hl⟩
  cases l with
  | nil => exact absurd rfl hn
  | cons b l => rw [e]; rfl
 | _ => cases hr
theorem dn_row (l : List Ls.D) : ∀ a, a ∈ l -> dn a < dn (l.foldr Ls.rcons Ls.rnil) := by
 induction l with
 | nil => simp
 | cons b l ih =>
  intro a ha
  simp only [List.foldr_cons, dn_rcons]
  simp only [List.mem_cons] at ha
  rcases ha with rfl | ha
  ·omega
  ·have := ih a ha; omega
theorem dn_chain (l : List Ls.D) : ∀ a, a ∈ l -> dn a < dn (chainD l) := by
 induction l with
 | nil => simp
 | cons b l ih =>
  intro a ha
  cases l with
  | nil => simp only [List.mem_cons, List.not_mem_nil, or_false] at ha; subst ha; simp only [chainD, dn_clast]; omega
  | cons c l =>
   simp only [chainD, dn_ccons]
   rw [List.mem_cons] at ha
   rcases ha with rfl | ha
   ·omega
   ·have := ih a ha; omega
def sizes : List Ls.D -> Nat
 | [] => 0
 | a :: l => Ls.dsize a + sizes l
theorem sizes_snoc (l : List Ls.D) (a : Ls.D) : sizes (l ++ [a]) = sizes l + Ls.dsize a := by
 induction l with
 | nil => simp [sizes]
 | cons b l ih => simp only [List.cons_append, sizes, ih]; omega
theorem sizes_take (l : List Ls.D) (k : Nat) : sizes (l.take k) <= sizes l := by
 induction l generalizing k with
 | nil => simp
 | cons b l ih =>
  cases k with
  | zero => simp [sizes]
  | succ k => simp only [List.take_succ_cons, sizes]; have := ih k; omega
theorem sizes_row (l : List Ls.D) : Ls.dsize (l.foldr Ls.rcons Ls.rnil) = sizes l := by
 induction l with
 | nil => exact Ls.dsize_rnil
 | cons a l ih => simp only [List.foldr_cons, Ls.dsize_rcons, sizes, ih]
theorem sizes_chain (l : List Ls.D) (h : l ≠ []) : Ls.dsize (chainD l) = sizes l := by
 induction l with
 | nil => exact absurd rfl h
 | cons a l ih =>
  cases l with
  | nil => simp [chainD, Ls.dsize_clast, sizes]
  | cons b l => simp only [chainD, Ls.dsize_ccons, ih (by simp), sizes]
theorem sizes_len (l : List Ls.D) : l.length < dn (l.foldr Ls.rcons Ls.rnil) := by
 induction l with
 | nil => simp [Ls.rnil, dn]
 | cons a l ih => simp only [List.length_cons, List.foldr_cons, dn_rcons]; omega
theorem chain_len (l : List Ls.D) : l.length <= dn (chainD l) := by
 induction l with
 | nil => simp
 | cons a l ih =>
  cases l with
  | nil => simp only [chainD, dn_clast, List.length_cons, List.length_nil]; omega
  | cons b l => simp only [chainD, dn_ccons, List.length_cons] at ih ⊢; omega
theorem Each.get {w : World} {G : Nat -> Prop} {l : List Ls.D} {vs : List Value} (h : Each w G l vs) (k : Nat) (hk : k < l.length) : ∃ ty x, vs[k]? = some (.iface ty x) /\ Rep w G 0 l[k] [.iface ty x] := by
 induction h using Each.ind generalizing k with
 | nil => simp at hk
 | cons hr _ ih =>
  cases k with
  | zero => obtain ⟨ty, x, rfl⟩ := hr.iface; exact ⟨ty, x, rfl, hr⟩
  | succ k => exact ih k (by simpa using hk)
def SizeSaid (d : Ls.D) : Prop := Ls.dsize d <= 1048576 -> ∀ (w : World) (G : Nat -> Prop) (ty : TypeId) (x : Value), Old w G -> Rep w G 0 d [.iface ty x] ->
 ∃ f, (∀ w, (Go.method 352 ty x "Size").run Tryz.prog w = .ok (f, x) w) /\ (∀ w, (callFunc f #[x]).run Tryz.prog w = .ok (.enter f #[x]) w) /\ Calls Tryz.prog f #[x] w fun e w' => e = .returned (.int .i64 (Ls.dsize d)) /\ Below w.heap.size w w'
theorem Shows.shape {w : World} {G : Nat -> Prop} {sl : Value} {vs : List Value} (h : Shows w G sl vs) : (sl = .slice none 0 0 /\ vs = []) \/ ∃ g cap, sl = .slice (some ⟨g, 0, none⟩) vs.length cap /\ G g /\ ∀ k, k < vs.length -> w.cell? ⟨g, k, none⟩ = vs[k]? := by
 rcases h.own.2 with ⟨h1, h2⟩ | ⟨g, cap, cur, rfl, h3⟩
 ·exact .inl ⟨h1, List.eq_nil_of_length_eq_zero h2⟩
 ·exact .inr ⟨g, cap, rfl, h.inG g rfl, fun k hk => h.own.cellAt k (by omega)⟩
theorem Shows.later {w w' : World} {G : Nat -> Prop} {sl : Value} {vs : List Value} (h : Shows w G sl vs) (hG : Old w G) (hb : Below w.heap.size w w') : Shows w' G sl vs :=
 h.mono (fun _ h => h) (fun k hk => hb.block k (hG k hk))
theorem Rep.later {w w' : World} {G : Nat -> Prop} {d : Ls.D} {v : Value} (h : Rep w G 0 d [v]) (hG : Old w G) (hb : Below w.heap.size w w') : Rep w' G 0 d [v] :=
 h.mono (fun _ h => h) (fun k hk => hb.block k (hG k hk))
theorem Each.later {w w' : World} {G : Nat -> Prop} {l : List Ls.D} {vs : List Value} (h : Each w G l vs) (hG : Old w G) (hb : Below w.heap.size w w') : Each w' G l vs :=
 h.mono (fun _ h => h) (fun k hk => hb.block k (hG k hk))
theorem sizeOfAll_any (l : List Ls.D) (hl : ∀ a, a ∈ l -> SizeSaid a) (hn : sizes l <= 1048576) (hln : l.length <= 1048577) (w : World) (G : Nat -> Prop) (hG : Old w G) (sl : Value) (vs : List Value) (hs : Shows w G sl vs) (he : Each w G l vs) :
  Calls Tryz.prog 189 #[sl] w fun e w' => e = .returned (.int .i64 (sizes l)) /\ Below w.heap.size w w' := by
 have Hl : Hid (∀ a, a ∈ l -> SizeSaid a) := hl
 clear hl
 have hlen := he.length
 rcases hs.shape with ⟨rfl, rfl⟩ | ⟨g, cap, rfl, hgG, hcell⟩
 ·obtain rfl : l = [] := List.eq_nil_of_length_eq_zero (by simpa using hlen.symm)
  clear hs he
  go_enter Tryz.func189, Tryz.ntmps189
  go_wp2_with fail
  refine wp_loop_rounds 1 ?_
  rw [rounds_succ]
  go_wp2_with fail
  go_ret
  exact ⟨rfl, Below.refl _ _⟩
 ·have hgl := hG g hgG
  have HS : Hid _ := hs
  have HE : Hid _ := he
  clear hs he hcell
  rw [hlen]
  have Hlen : Hid _ := hlen
  clear hlen
  go_enter Tryz.func189, Tryz.ntmps189
  go_wp2_with fail
  go_loopw [3, 8] (fun t i wr => ∃ k : Nat, k <= l.length /\ i = .int .i64 k /\ t = .int .i64 (sizes (l.take k)) /\ Below w.heap.size w wr) (fun _ i _ => l.length - (intOf i).toNat)
  case atStart => exact ⟨0, Nat.zero_le _, rfl, by simp [sizes], Below.refl _ _⟩
  case round =>
   obtain ⟨k, hk, rfl, rfl, hb⟩ := hrel
   have hst := sizes_take l k
   by_cases hlt : k < l.length
   ·have hsw := HS.out.later hG hb
    have hew := HE.out.later hG hb
    obtain ⟨ty, x, hx, hrep⟩ := hew.get k hlt
    obtain ⟨f, hm, hcf, hf⟩ := Hl.out l[k] (List.getElem_mem hlt) (by
     have := sizes_take l (k + 1)
     rw [List.take_succ_eq_append_getElem hlt, sizes_snoc] at this
     omega) wr G ty x (hG.below hb) hrep
    have hc : wr.cell? ⟨g, k, none⟩ = some (.iface ty x) := by
     rcases hsw.shape with ⟨e, _⟩ | ⟨g', cap', e, _, hcell⟩
     ·cases e
     ·injection e with e1 e2 e3
      injection e1 with e1
      injection e1 with e1
      subst e1
      rw [hcell k (by rw [Hlen.out]; exact hlt), hx]
    have hsum : Hid (sizes (l.take (k + 1)) = sizes (l.take k) + Ls.dsize l[k]) := by show _ = _; rw [List.take_succ_eq_append_getElem hlt, sizes_snoc]
    have hst2 := sizes_take l (k + 1)
    rw [hsum.out] at hst2
    clear hsw hew hrep hx
    go_wp2_with fail
    refine hf.mono ?_
    rintro e w3 ⟨rfl, hb3⟩
    go_wp2_with fail
    go_roundw
    case rel => exact ⟨k + 1, by omega, by go_num, by rw [hsum.out]; go_num, Below.join hb hb3⟩
    case measure => simp [intOf]; omega
   ·have hk1 : k = l.length := by omega
    go_wp2_with fail
    go_ret
    rw [hk1, List.take_length]
    exact ⟨rfl, hb⟩
theorem cPlace (x : Value) (w : World) : (callFunc 187 #[x]).run Tryz.prog w = .ok (.enter 187 #[x]) w := by kernel_rfl
theorem cRow (x : Value) (w : World) : (callFunc 188 #[x]).run Tryz.prog w = .ok (.enter 188 #[x]) w := by kernel_rfl
theorem cChoice (x : Value) (w : World) : (callFunc 190 #[x]).run Tryz.prog w = .ok (.enter 190 #[x]) w := by kernel_rfl
theorem cRepeat (x : Value) (w : World) : (callFunc 191 #[x]).run Tryz.prog w = .ok (.enter 191 #[x]) w := by kernel_rfl
theorem size_step (d : Ls.D) (hI : ∀ a, dn a < dn d -> SizeSaid a) (hlen : dn d <= 1048577) : SizeSaid d := by
 intro hn w G ty x hG h
 rcases h.at0 with ⟨s, lo, hi, hS, rfl, hv⟩ | ⟨t, a, v', ht, h1, rfl, hv⟩ | ⟨sl, vs, hs, h1, hv⟩ | ⟨sl, vs, hs, h1, hv⟩ <;> cases hv <;> clear h
 ·clear hS
  refine ⟨_, mPlace _, cPlace _, ?_⟩
  rw [Ls.dsize_place]
  go_enter Tryz.func187, Tryz.ntmps187
  go_wp2_with fail
  go_ret
  exact ⟨rfl, below_alloc1 _ _⟩
 ·clear ht
  obtain ⟨ty, y, rfl⟩ := h1.iface
  refine ⟨_, mRepeat _, cRepeat _, ?_⟩
  rw [Ls.dsize_rep] at hn ⊢
  have H1 : Hid _ := h1
  have HI : Hid (SizeSaid a) := hI a (by rw [dn_rep]; omega)
  clear hI h1
  obtain ⟨f, hm, hcf, hf⟩ := HI.out hn (w.alloc (.cells #[.iface ty y, .bool (t != 6), .bool (t != 7)] 179)) G ty y (hG.alloc _) (H1.out.later hG (below_alloc1 _ _))
  go_enter Tryz.func191, Tryz.ntmps191
  go_wp2_with fail
  refine hf.mono ?_
  rintro e w3 ⟨rfl, hb3⟩
  go_wp2_with fail
  go_ret
  exact ⟨rfl, Below.join (below_alloc1 _ _) hb3⟩
 ·obtain ⟨l, rfl, he⟩ := h1.things rfl
  refine ⟨_, mRow _, cRow _, ?_⟩
  rw [sizes_row] at hn ⊢
  have hb := below_alloc1 w (.cells #[sl] 174)
  have hl := sizes_len l
  have H := sizeOfAll_any l (fun a ha => hI a (dn_row l a ha)) hn (by omega) _ G (hG.alloc (.cells #[sl] 174)) sl vs (hs.later hG hb) (he.later hG hb)
  obtain ⟨x1, x2, x3, rfl⟩ : ∃ a n c, sl = .slice a n c := by
   rcases hs.shape with ⟨e, _⟩ | ⟨_, _, e, _⟩ <;> exact ⟨_, _, _, e⟩
  clear hs h1 he hI
  go_enter Tryz.func188, Tryz.ntmps188
  go_wp2_with fail
  refine H.mono ?_
  rintro e w3 ⟨rfl, hb3⟩
  go_wp2_with fail
  go_ret
  exact ⟨rfl, Below.join hb hb3⟩
 ·obtain ⟨l, hne, rfl, he⟩ := h1.sides rfl
  refine ⟨_, mChoice _, cChoice _, ?_⟩
  rw [sizes_chain l hne] at hn ⊢
  have hb := below_alloc1 w (.cells #[sl] 177)
  have hl := chain_len l
  have H := sizeOfAll_any l (fun a ha => hI a (dn_chain l a ha)) hn (by omega) _ G (hG.alloc (.cells #[sl] 177)) sl vs (hs.later hG hb) (he.later hG hb)
  obtain ⟨x1, x2, x3, rfl⟩ : ∃ a n c, sl = .slice a n c := by
   rcases hs.shape with ⟨e, _⟩ | ⟨_, _, e, _⟩ <;> exact ⟨_, _, _, e⟩
  clear hs h1 he hI
  go_enter Tryz.func190, Tryz.ntmps190
  go_wp2_with fail
  refine H.mono ?_
  rintro e w3 ⟨rfl, hb3⟩
  go_wp2_with fail
  go_ret
  exact ⟨rfl, Below.join hb hb3⟩
theorem size_any (n : Nat) : ∀ d, dn d <= n -> dn d <= 1048577 -> SizeSaid d := by
 induction n with
 | zero => intro d hd h; exact size_step d (fun a ha => by omega) h
 | succ n ih => intro d hd h; exact size_step d (fun a ha => ih a (by omega) (by omega)) h
end Go.Proofs.YtkfokddlgmcimaaGreatDoor
namespace Go.Proofs.YtkfokddlgmcimaaGreatDoor
open Go.RowKit Go.Extern
def Few (P : List UInt8 -> Ls.Rd) : Prop := ∀ r d t, P r = some (d, t) -> dn d + 4 * t.length <= 4 * r.length + 2
theorem dn_place (s : List UInt8) : dn (Ls.place s) = 1 := by simp [Ls.place, dn]
theorem dn_rnil : dn Ls.rnil = 1 := by simp [Ls.rnil, dn]
theorem oneOf_few {P : List UInt8 -> Ls.Rd} (hP : Few P) {r : List UInt8} {d : Ls.D} {t : List UInt8} (h : Ls.oneOf P r = some (d, t)) : dn d + 4 * t.length + 1 <= 4 * r.length := by
 cases r with
 | nil => simp [Ls.oneOf] at h
 | cons c r =>
  unfold Ls.oneOf at h
  dsimp only at h
  split at h
  ·split at h
   ·simp at h
   ·rename_i e u he
    have h1 := hP _ _ _ he
    split at h
    ·rename_i h41
     have := Ls.tail_len h41
     simp at h; obtain ⟨rfl, rfl⟩ := h
     simp only [List.length_cons]; omega
    ·simp at h
  ·split at h
   ·split at h
    ·simp at h
    ·rename_i e u he
     have h1 := Ls.cls_suf _ _ _ _ _ he
     simp at h; obtain ⟨rfl, rfl⟩ := h
     rw [dn_place]; simp only [List.length_cons]; omega
   ·split at h
    ·simp at h; obtain ⟨rfl, rfl⟩ := h; rw [dn_place]; simp only [List.length_cons]; omega
    ·split at h
     ·split at h
      ·simp at h
      ·split at h
       ·simp at h; obtain ⟨rfl, rfl⟩ := h
        rw [dn_place]; simp only [List.length_cons]; omega
       ·simp at h
     ·split at h
      ·simp at h
      ·simp at h; obtain ⟨rfl, rfl⟩ := h; rw [dn_place]; simp only [List.length_cons]; omega
theorem thing_few {P : List UInt8 -> Ls.Rd} (hP : Few P) {r : List UInt8} {d : Ls.D} {t : List UInt8} (h : Ls.thing P r = some (d, t)) : dn d + 4 * t.length + 1 <= 4 * r.length := by
 rw [Ls.thing] at h
 split at h
 ·simp at h
 ·rename_i a u hu
  have h1 := oneOf_few hP hu
  split at h
  ·rename_i hx
   have := Ls.tail_len hx
   simp at h; obtain ⟨rfl, rfl⟩ := h; rw [dn_rep]; omega
  ·split at h
   ·rename_i hx
    have := Ls.tail_len hx
    simp at h; obtain ⟨rfl, rfl⟩ := h; rw [dn_rep]; omega
   ·split at h
    ·rename_i hx
     have := Ls.tail_len hx
     simp at h; obtain ⟨rfl, rfl⟩ := h; rw [dn_rep]; omega
    ·simp at h; obtain ⟨rfl, rfl⟩ := h; exact h1
theorem things_few {P : List UInt8 -> Ls.Rd} (hP : Few P) : (n : Nat) -> (r : List UInt8) -> (d : Ls.D) -> (t : List UInt8) -> Ls.things P n r = some (d, t) -> dn d + 4 * t.length <= 4 * r.length + 1
 | 0, _, _, _, h => by simp [Ls.things] at h
 | n + 1, r, d, t, h => by
  rw [Ls.things] at h
  split at h
  ·simp at h; obtain ⟨rfl, rfl⟩ := h; rw [dn_rnil]; omega
  ·split at h
   ·simp at h
   ·rename_i a r1 h1
    have h2 := thing_few hP h1
    split at h
    ·simp at h
    ·rename_i b r2 h3
     have h4 := things_few hP n r1 b r2 h3
     simp at h; obtain ⟨rfl, rfl⟩ := h; rw [dn_rcons]; omega
theorem alts_few {P : List UInt8 -> Ls.Rd} (hP : Few P) : (n : Nat) -> (r : List UInt8) -> (d : Ls.D) -> (t : List UInt8) -> Ls.alts P n r = some (d, t) -> dn d + 4 * t.length <= 4 * r.length + 2
 | 0, _, _, _, h => by simp [Ls.alts] at h
 | n + 1, r, d, t, h => by
  rw [Ls.alts] at h
  split at h
  ·simp at h
  ·rename_i a r1 h1
   have h2 := things_few hP _ _ _ _ h1
   split at h
   ·rename_i hx
    have := Ls.tail_len hx
    split at h
    ·simp at h
    ·rename_i b r3 h3
     have h4 := alts_few hP n _ b r3 h3
     simp at h; obtain ⟨rfl, rfl⟩ := h; rw [dn_ccons]; omega
   ·simp at h; obtain ⟨rfl, rfl⟩ := h; rw [dn_clast]; omega
theorem pat_few : (d : Nat) -> Few (Ls.pat d)
 | 0 => fun r e t h => by simp [Ls.pat] at h
 | d + 1 => fun r e t h => alts_few (pat_few d) _ _ _ _ h
def errA (a0 a1 a2 a3 : Addr) (n : Nat) : Addr := if n = 1 then a0 else if n = 2 then a1 else if n = 3 then a2 else a3
theorem errno_any (w : World) (a0 a1 a2 a3 : Addr) (h : Sent w a0 a1 a2 a3) (r : Nat) (hr : r = 1 \/ r = 2 \/ r = 3 \/ r = 4) :
  Calls Tryz.prog 36 #[errS (errA a0 a1 a2 a3 r)] w fun e w' => e = .returned (.int .i64 r) /\ w' = w := by
 rcases hr with rfl | rfl | rfl | rfl
 ·exact errno_long w a0 a1 a2 a3 h
 ·exact errno_syntax w a0 a1 a2 a3 h
 ·exact errno_size w a0 a1 a2 a3 h
 ·exact errno_type w a0 a1 a2 a3 h
end Go.Proofs.YtkfokddlgmcimaaGreatDoor
namespace Ls
def wordD : List UInt8 -> D
 | [] => rnil
 | c :: w => rcons (place [c]) (wordD w)
def behindD (a b : D) : D := rcons a (rcons b rnil)
def eitherD (a b : D) : D := ccons a (clast b)
def dS : Ln -> D
 | ⟨k, p, _, []⟩ => if k = 0 \/ k = 1 then p else rnil
 | ⟨_, _, _, [a]⟩ => rep 5 (dS a)
 | ⟨k, _, _, [a, b]⟩ => if k = 5 then eitherD (dS a) (dS b) else behindD (dS a) (dS b)
 | _ => rnil
def dV : Ln -> D
 | ⟨k, p, w, []⟩ => if k = 0 then p else if k = 2 then wordD w else rnil
 | ⟨_, _, _, [a]⟩ => rep 5 (dV a)
 | ⟨k, _, _, [a, b]⟩ => if k = 5 then eitherD (dV a) (dV b) else if k = 4 then behindD (dV b) (dV a) else behindD (dV a) (dV b)
 | _ => rnil
theorem inL_rcons (a b : D) (s : List UInt8) : inL (toPat (rcons a b)) s ↔ ∃ u v, s = u ++ v /\ inL (toPat a) u /\ inL (toPat b) v := by
 rw [toPat_rcons]
 exact inL_rowD _ _ (kind0 a) (kind0 b) s
theorem inL_behindD (a b : D) (s : List UInt8) : inL (toPat (behindD a b)) s ↔ ∃ u v, s = u ++ v /\ inL (toPat a) u /\ inL (toPat b) v := by
 unfold behindD
 rw [inL_rcons]
 constructor
 ·rintro ⟨u, v, e, hu, hv⟩
  rw [inL_rcons] at hv
  obtain ⟨x, y, e2, hx, hy⟩ := hv
  rw [toPat_rnil, inL_none] at hy
  subst hy
  rw [List.append_nil] at e2
  subst e2
  exact ⟨u, v, e, hu, hx⟩
 ·rintro ⟨u, v, e, hu, hv⟩
  exact ⟨u, v, e, hu, (inL_rcons _ _ _).2 ⟨v, [], by simp, hv, by rw [toPat_rnil, inL_none]⟩⟩
theorem inL_eitherD (a b : D) (s : List UInt8) : inL (toPat (eitherD a b)) s ↔ inL (toPat a) s \/ inL (toPat b) s := by
 unfold eitherD
 rw [toPat_ccons, toPat_clast, inL_any]
theorem inL_manyD (a : D) (s : List UInt8) : inL (toPat (rep 5 a)) s ↔ Pieces (inL (toPat a)) s := by rw [toPat_star, inL_star]
theorem pieces_congr {L M : List UInt8 -> Prop} (h : ∀ s, L s ↔ M s) (s : List UInt8) : Pieces L s ↔ Pieces M s := by
 obtain rfl : L = M := funext fun s => propext (h s)
 exact Iff.rfl
theorem inL_wordD : (w : List UInt8) -> wf (wordP w) -> ∀ s, inL (toPat (wordD w)) s ↔ inL (wordP w) s
 | [], _, s => by
  show inL (toPat rnil) s ↔ _
  rw [toPat_rnil]
  exact Iff.rfl
 | c :: w, h, s => by
  show inL (toPat (rcons (place [c]) (wordD w))) s ↔ inL (row (set [c]) (wordP w)) s
  rw [inL_rcons, toPat_place]
  have hw : wf (wordP w) /\ wf (set [c]) := by
   have h : wf (row (set [c]) (wordP w)) := h
   unfold row at h
   rw [if_neg (by simp [set])] at h
   split at h
   ·rename_i hk
    refine ⟨?_, h⟩
    cases w with
    | nil => exact wf_none
    | cons d w =>
     exfalso
     have hk : (row (set [d]) (wordP w)).kind = 0 := hk
     unfold row at hk
     rw [if_neg (by simp [set])] at hk
     split at hk <;> simp [set, rowB] at hk
   ·simp [rowB, wf] at h
    exact ⟨h.2.2, h.2.1⟩
  rw [inL_row hw.2 hw.1]
  simp only [inL_wordD w hw.1]
theorem behind_congr {a b : D} {p q : Pat} (h1 : ∀ s, inL (toPat a) s ↔ inL p s) (h2 : ∀ s, inL (toPat b) s ↔ inL q s) (hp : wf p) (hq : wf q) (s : List UInt8) : inL (toPat (behindD a b)) s ↔ inL (row p q) s := by
 rw [inL_behindD, inL_row hp hq]
 simp only [h1, h2]
theorem dS_ok {c : Nat} : (l : Ln) -> OkL c l -> ∀ s, inL (toPat (dS l)) s ↔ inL (srcP l) s
 | ⟨k, p, w, []⟩, h, s => by
  rw [dS, srcP]
  split
  ·exact Iff.rfl
  ·rw [toPat_rnil]
 | ⟨k, p, w, [a]⟩, h, s => by
  rw [OkL] at h
  rw [dS, srcP, if_pos h.2.1, inL_manyD, inL_star]
  exact pieces_congr (dS_ok a h.2.2) s
 | ⟨k, p, w, [a, b]⟩, h, s => by
  rw [OkL] at h
  obtain ⟨_, hk, ha, hb⟩ := h
  rw [dS, srcP]
  rcases hk with rfl | rfl | rfl
  ·rw [if_neg (by omega), if_pos (.inl rfl)]
   exact behind_congr (dS_ok a ha) (dS_ok b hb) ha.src.ok hb.src.ok s
  ·rw [if_neg (by omega), if_pos (.inr rfl)]
   exact behind_congr (dS_ok a ha) (dS_ok b hb) ha.src.ok hb.src.ok s
  ·rw [if_pos rfl, if_neg (by omega), if_pos rfl, inL_eitherD, inL_any, dS_ok a ha, dS_ok b hb]
 | ⟨k, p, w, _ :: _ :: _ :: _⟩, h, _ => by simp [OkL] at h
theorem dV_ok {c : Nat} : (l : Ln) -> OkL c l -> ∀ s, inL (toPat (dV l)) s ↔ inL (viewP l) s
 | ⟨k, p, w, []⟩, h, s => by
  rw [OkL] at h
  have hv := h.1.2.ok
  rw [dV, viewP]
  rw [viewP] at hv
  split
  ·exact Iff.rfl
  ·rename_i h0
   rw [if_neg h0] at hv
   split
   ·rename_i h2
    rw [if_pos h2] at hv
    exact inL_wordD w hv s
   ·rw [toPat_rnil]
 | ⟨k, p, w, [a]⟩, h, s => by
  rw [OkL] at h
  rw [dV, viewP, if_pos h.2.1, inL_manyD, inL_star]
  exact pieces_congr (dV_ok a h.2.2) s
 | ⟨k, p, w, [a, b]⟩, h, s => by
  rw [OkL] at h
  obtain ⟨_, hk, ha, hb⟩ := h
  rw [dV, viewP]
  rcases hk with rfl | rfl | rfl
  ·rw [if_neg (by omega), if_neg (by omega), if_pos rfl]
   exact behind_congr (dV_ok a ha) (dV_ok b hb) ha.view.ok hb.view.ok s
  ·rw [if_neg (by omega), if_pos rfl, if_neg (by omega), if_pos rfl]
   exact behind_congr (dV_ok b hb) (dV_ok a ha) hb.view.ok ha.view.ok s
  ·rw [if_pos rfl, if_neg (by omega), if_neg (by omega), if_pos rfl, inL_eitherD, inL_any, dV_ok a ha, dV_ok b hb]
 | ⟨k, p, w, _ :: _ :: _ :: _⟩, h, _ => by simp [OkL] at h
theorem dsize_wordD : (w : List UInt8) -> dsize (wordD w) = w.length
 | [] => by simp [wordD, dsize_rnil]
 | c :: w => by rw [wordD, dsize_rcons, dsize_place, dsize_wordD w, List.length_cons]; omega
theorem dsize_behindD (a b : D) : dsize (behindD a b) = dsize a + dsize b := by rw [behindD, dsize_rcons, dsize_rcons, dsize_rnil]; omega
theorem dsize_eitherD (a b : D) : dsize (eitherD a b) = dsize a + dsize b := by rw [eitherD, dsize_ccons, dsize_clast]
theorem dS_size {c : Nat} : (l : Ln) -> OkL c l -> dsize (dS l) <= lsize l
 | ⟨k, p, w, []⟩, _ => by
  rw [dS, lsize]
  split
  ·omega
  ·rw [dsize_rnil]; omega
 | ⟨k, p, w, [a]⟩, h => by
  rw [OkL] at h
  have := dS_size a h.2.2
  rw [dS, lsize, if_pos h.2.1, dsize_rep]; omega
 | ⟨k, p, w, [a, b]⟩, h => by
  rw [OkL] at h
  have h1 := dS_size a h.2.2.1
  have h2 := dS_size b h.2.2.2
  rw [dS, lsize]
  split
  ·rw [dsize_eitherD]; omega
  ·rw [dsize_behindD]; omega
 | ⟨k, p, w, _ :: _ :: _ :: _⟩, h => by simp [OkL] at h
theorem dV_size {c : Nat} : (l : Ln) -> OkL c l -> dsize (dV l) <= lsize l
 | ⟨k, p, w, []⟩, _ => by
  rw [dV, lsize]
  split
  ·omega
  ·split
   ·rw [dsize_wordD]; omega
   ·rw [dsize_rnil]; omega
 | ⟨k, p, w, [a]⟩, h => by
  rw [OkL] at h
  have := dV_size a h.2.2
  rw [dV, lsize, if_pos h.2.1, dsize_rep]; omega
 | ⟨k, p, w, [a, b]⟩, h => by
  rw [OkL] at h
  have h1 := dV_size a h.2.2.1
  have h2 := dV_size b h.2.2.2
  rw [dV, lsize]
  split
  ·rw [dsize_eitherD]; omega
  ·split <;> rw [dsize_behindD] <;> omega
 | ⟨k, p, w, _ :: _ :: _ :: _⟩, h => by simp [OkL] at h
end Ls
namespace Go.Proofs.YtkfokddlgmcimaaGreatDoor
def cn : Ls.Ln -> Nat
 | ⟨_, p, w, []⟩ => dn p + 2 * w.length + 2
 | ⟨_, _, _, [a]⟩ => cn a + 1
 | ⟨_, _, _, [a, b]⟩ => cn a + cn b + 4
 | _ => 1
theorem dn_wordD : (w : List UInt8) -> dn (Ls.wordD w) = 2 * w.length + 1
 | [] => by simp [Ls.wordD, dn_rnil]
 | c :: w => by rw [Ls.wordD, dn_rcons, dn_place, dn_wordD w, List.length_cons]; omega
theorem dS_dn : (l : Ls.Ln) -> dn (Ls.dS l) <= cn l
 | ⟨k, p, w, []⟩ => by
  rw [Ls.dS, cn]
  split
  ·omega
  ·rw [dn_rnil]; omega
 | ⟨k, p, w, [a]⟩ => by
  have := dS_dn a
  rw [Ls.dS, cn, dn_rep]; omega
 | ⟨k, p, w, [a, b]⟩ => by
  have h1 := dS_dn a
  have h2 := dS_dn b
  rw [Ls.dS, cn]
  split
  ·rw [Ls.eitherD, dn_ccons, dn_clast]; omega
  ·rw [Ls.behindD, dn_rcons, dn_rcons, dn_rnil]; omega
 | ⟨k, p, w, _ :: _ :: _ :: _⟩ => by
  show dn Ls.rnil <= 1
  rw [dn_rnil]; omega
theorem dV_dn : (l : Ls.Ln) -> dn (Ls.dV l) <= cn l
 | ⟨k, p, w, []⟩ => by
  rw [Ls.dV, cn]
  split
  ·omega
  ·split
   ·rw [dn_wordD]; omega
   ·rw [dn_rnil]; omega
 | ⟨k, p, w, [a]⟩ => by
  have := dV_dn a
  rw [Ls.dV, cn, dn_rep]; omega
 | ⟨k, p, w, [a, b]⟩ => by
  have h1 := dV_dn a
  have h2 := dV_dn b
  rw [Ls.dV, cn]
  split
  ·rw [Ls.eitherD, dn_ccons, dn_clast]; omega
  ·split <;> rw [Ls.behindD, dn_rcons, dn_rcons, dn_rnil] <;> omega
 | ⟨k, p, w, _ :: _ :: _ :: _⟩ => by
  show dn Ls.rnil <= 1
  rw [dn_rnil]; omega
end Go.Proofs.YtkfokddlgmcimaaGreatDoor
namespace Go.Proofs.YtkfokddlgmcimaaGreatDoor
open Go.RowKit
theorem readAt_any (s : ByteArray) (hs : s.size <= 1048576) (a1 : Addr) (z : Nat) (hz : z <= 12) (rb i : Nat) (w : World) (h : RB w rb s i z) (hE : Env w rb a1) (hi : i <= s.size) :
  Calls Tryz.prog 81 #[.pointer (some ⟨rb, 0, none⟩)] w (RPost w rb s i z a1 (Ls.pat (13 - z) (rest s i))) := by
 have hC := choice_any s hs a1 (12 - z) (by omega)
 rw [show 12 - (12 - z) = z from by omega] at hC
 have hC2 := hC rb i w h hE hi
 clear hC
 go_enter Tryz.func81, Tryz.ntmps81
 go_wp2_with fail
 refine hC2.mono ?_
 rintro e w1 (⟨d, j, v, hr, hij, hj, rfl, hrep, hl⟩ | ⟨hr, rfl, hg⟩)
 ·have HP : Hid (RPost w rb s i z a1 (Ls.pat (13 - z) (rest s i)) (.returned v) w1) := .inl ⟨d, j, v, hr, hij, hj, rfl, hrep, hl⟩
  clear hr hrep hC2
  go_wp2_with fail
  go_ret
  exact HP.out
 ·have HP : Hid (RPost w rb s i z a1 (Ls.pat (13 - z) (rest s i)) (.panicked [{ v := errS a1, recovered := false }]) w1) := .inr ⟨hr, rfl, hg⟩
  clear hr hC2
  go_wp2_with fail
  exact ⟨rfl, HP.out⟩
end Go.Proofs.YtkfokddlgmcimaaGreatDoor
namespace Go.Proofs.YtkfokddlgmcimaaGreatDoor
theorem cn_copy (d : Ls.D) : cn (Ls.copyL d) = dn d + 2 := by simp [Ls.copyL, cn]
theorem cn_leave (d : Ls.D) (w : List UInt8) : cn (Ls.leaveL d w) = dn d + 2 * w.length + 2 := by simp [Ls.leaveL, cn]
theorem cn_put (w : List UInt8) : cn (Ls.putL w) = 2 * w.length + 3 := by simp [Ls.putL, cn, dn_rnil]; omega
theorem cn_behind (a b : Ls.Ln) : cn (Ls.behindL a b) = cn a + cn b + 4 := by simp [Ls.behindL, cn]
theorem cn_change (a b : Ls.Ln) : cn (Ls.changeL a b) = cn a + cn b + 4 := by simp [Ls.changeL, cn]
theorem cn_union (a b : Ls.Ln) : cn (Ls.unionL a b) = cn a + cn b + 4 := by simp [Ls.unionL, cn]
theorem cn_repeat (a : Ls.Ln) : cn (Ls.repeatL a) = cn a + 1 := by simp [Ls.repeatL, cn]
theorem cn_keys (a : Ls.Ln) : cn (Ls.keysL a) = cn a + 1 := by simp [Ls.keysL, cn]
def FewL (Q : List UInt8 -> Ls.Rl) : Prop := ∀ r l t, Q r = some (l, t) -> cn l + 4 + 8 * t.length <= 8 * r.length
theorem slash_cn {P : List UInt8 -> Ls.Rd} (hP : Few P) {r : List UInt8} {d : Ls.D} {t : List UInt8} (h : Ls.slashR P r = some (d, t)) : dn d + 4 * t.length + 2 <= 4 * r.length := by
 unfold Ls.slashR at h
 cases hp : P r with
 | none => rw [hp] at h; cases h
 | some x =>
  obtain ⟨e, u⟩ := x
  rw [hp] at h
  dsimp only at h
  split at h
  ·rename_i hh
   have hl := Ls.head_len hh
   simp only [Option.some.injEq, Prod.mk.injEq] at h
   obtain ⟨rfl, rfl⟩ := h
   have := hP _ _ _ hp
   omega
  ·cases h
theorem again_cn (l : Ls.Ln) (t : List UInt8) : cn (Ls.againR l t).1 + 8 * (Ls.againR l t).2.length <= cn l + 8 * t.length := by
 unfold Ls.againR
 split
 ·rename_i hh
  have := Ls.head_len hh
  rw [cn_repeat]; dsimp only; omega
 ·exact Nat.le_refl _
theorem part_cn {P : List UInt8 -> Ls.Rd} {Q : List UInt8 -> Ls.Rl} (hP : Few P) (hQ : FewL Q) : FewL (Ls.partR P Q) := by
 intro r l t h
 cases r with
 | nil => simp [Ls.partR] at h
 | cons c r =>
  simp only [Ls.partR] at h
  simp only [List.length_cons]
  split at h
  ·cases hp : Ls.slashR P r with
   | none => rw [hp] at h; cases h
   | some x =>
    obtain ⟨d, u⟩ := x
    rw [hp] at h
    simp only [Option.some.injEq] at h
    have h2 := slash_cn hP hp
    have h4 := again_cn (Ls.copyL d) u
    rw [h, cn_copy] at h4
    dsimp only at h4
    omega
  ·split at h
   ·split at h
    ·rename_i hh
     have hl := Ls.head_len hh
     cases hp : Ls.slashR P r.tail with
     | none => rw [hp] at h; cases h
     | some x =>
      obtain ⟨d, u⟩ := x
      rw [hp] at h
      dsimp only at h
      have h2 := slash_cn hP hp
      cases hw : Ls.wordR u with
      | none => rw [hw] at h; cases h
      | some x =>
       obtain ⟨w, v⟩ := x
       rw [hw] at h
       simp only [Option.some.injEq, Prod.mk.injEq] at h
       obtain ⟨rfl, rfl⟩ := h
       obtain ⟨h3, h4⟩ := Ls.word_sz hw
       rw [cn_leave]
       omega
    ·cases h
   ·split at h
    ·cases hw : Ls.wordR r with
     | none => rw [hw] at h; cases h
     | some x =>
      obtain ⟨w, v⟩ := x
      rw [hw] at h
      simp only [Option.some.injEq, Prod.mk.injEq] at h
      obtain ⟨rfl, rfl⟩ := h
      obtain ⟨h3, h4⟩ := Ls.word_sz hw
      rw [cn_put]
      omega
    ·split at h
     ·cases hq : Q r with
      | none => rw [hq] at h; cases h
      | some x =>
       obtain ⟨a, u⟩ := x
       rw [hq] at h
       dsimp only at h
       have h2 := hQ _ _ _ hq
       split at h
       ·rename_i hh
        have hl := Ls.head_len hh
        simp only [Option.some.injEq, Prod.mk.injEq] at h
        obtain ⟨rfl, rfl⟩ := h
        rw [cn_keys]
        omega
       ·cases h
     ·split at h
      ·cases hq : Q r with
       | none => rw [hq] at h; cases h
       | some x =>
        obtain ⟨a, u⟩ := x
        rw [hq] at h
        dsimp only at h
        have h2 := hQ _ _ _ hq
        split at h
        ·rename_i hh
         have hl := Ls.head_len hh
         cases hq2 : Q u.tail with
         | none => rw [hq2] at h; cases h
         | some x =>
          obtain ⟨b, v⟩ := x
          rw [hq2] at h
          dsimp only at h
          have h4 := hQ _ _ _ hq2
          split at h
          ·rename_i hh2
           have hl2 := Ls.head_len hh2
           simp only [Option.some.injEq] at h
           have h6 := again_cn (Ls.changeL a b) v.tail
           rw [h, cn_change] at h6
           dsimp only at h6
           omega
          ·cases h
        ·split at h
         ·rename_i hh2
          have hl2 := Ls.head_len hh2
          simp only [Option.some.injEq] at h
          have h6 := again_cn a u.tail
          rw [h] at h6
          dsimp only at h6
          omega
         ·cases h
      ·cases h
theorem parts_cn {P : List UInt8 -> Ls.Rd} {Q : List UInt8 -> Ls.Rl} (hP : Few P) (hQ : FewL Q) : ∀ n, FewL (Ls.partsR P Q n)
 | 0, r, l, t, h => by simp [Ls.partsR] at h
 | n + 1, r, l, t, h => by
  simp only [Ls.partsR] at h
  cases hp : Ls.partR P Q r with
  | none => rw [hp] at h; cases h
  | some x =>
   obtain ⟨a, r1⟩ := x
   rw [hp] at h
   dsimp only at h
   have h2 := part_cn hP hQ _ _ _ hp
   split at h
   ·simp only [Option.some.injEq, Prod.mk.injEq] at h
    obtain ⟨rfl, rfl⟩ := h
    exact h2
   ·cases hq : Ls.partsR P Q n r1 with
    | none => rw [hq] at h; cases h
    | some x =>
     obtain ⟨b, r2⟩ := x
     rw [hq] at h
     simp only [Option.some.injEq, Prod.mk.injEq] at h
     obtain ⟨rfl, rfl⟩ := h
     have h5 := parts_cn hP hQ n _ _ _ hq
     rw [cn_behind]
     omega
theorem altsL_cn {P : List UInt8 -> Ls.Rd} {Q : List UInt8 -> Ls.Rl} (hP : Few P) (hQ : FewL Q) : ∀ n, FewL (Ls.altsL P Q n)
 | 0, r, l, t, h => by simp [Ls.altsL] at h
 | n + 1, r, l, t, h => by
  simp only [Ls.altsL] at h
  cases hp : Ls.partsR P Q (r.length + 1) r with
  | none => rw [hp] at h; cases h
  | some x =>
   obtain ⟨a, r1⟩ := x
   rw [hp] at h
   dsimp only at h
   have h2 := parts_cn hP hQ _ _ _ _ hp
   split at h
   ·rename_i hh
    have hl := Ls.head_len hh
    cases hq : Ls.altsL P Q n r1.tail with
    | none => rw [hq] at h; cases h
    | some x =>
     obtain ⟨b, r3⟩ := x
     rw [hq] at h
     simp only [Option.some.injEq, Prod.mk.injEq] at h
     obtain ⟨rfl, rfl⟩ := h
     have h5 := altsL_cn hP hQ n _ _ _ hq
     rw [cn_union]
     omega
   ·simp only [Option.some.injEq, Prod.mk.injEq] at h
    obtain ⟨rfl, rfl⟩ := h
    exact h2
theorem lens_cn : ∀ n, FewL (Ls.lensR n)
 | 0, r, l, t, h => by simp [Ls.lensR] at h
 | n + 1, r, l, t, h => altsL_cn (pat_few _) (lens_cn n) _ _ _ _ h
theorem word_sets : (w : List UInt8) -> ∀ c, c ∈ w -> [c] ∈ Ls.sets (Ls.wordP w)
 | [], c, h => by cases h
 | d :: t, c, h => by
  show [c] ∈ Ls.sets (Ls.row (Ls.set [d]) (Ls.wordP t))
  have hd : (Ls.set [d]).kind ≠ 0 := by simp [Ls.set]
  unfold Ls.row
  rw [if_neg hd]
  rcases List.mem_cons.1 h with rfl | h
  ·split
   ·rw [Ls.sets_set]; simp
   ·rw [Ls.sets_rowB, Ls.sets_set]; simp
  ·have ih := word_sets t c h
   split
   ·rename_i hk
    exfalso
    cases t with
    | nil => cases h
    | cons e t =>
     have hk : (Ls.row (Ls.set [e]) (Ls.wordP t)).kind = 0 := hk
     unfold Ls.row at hk
     rw [if_neg (by simp [Ls.set])] at hk
     split at hk <;> simp [Ls.set, Ls.rowB] at hk
   ·rw [Ls.sets_rowB]; exact List.mem_append_right _ ih
theorem okl_word {c : Nat} {p : Ls.D} {w : List UInt8} (h : Ls.OkL c ⟨2, p, w, []⟩) : ∀ d, d ∈ w -> d.toNat <= 126 := by
 intro d hd
 rw [Ls.OkL] at h
 have hs := h.1.2.sg
 have : Ls.viewP ⟨2, p, w, []⟩ = Ls.wordP w := by simp [Ls.viewP]
 rw [this] at hs
 have h1 := hs _ (word_sets w d hd) d (by simp [Ls.has])
 simp [Ls.sign] at h1
 omega
end Go.Proofs.YtkfokddlgmcimaaGreatDoor
