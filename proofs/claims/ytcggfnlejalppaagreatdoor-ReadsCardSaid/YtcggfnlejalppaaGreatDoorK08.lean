import Derived.Test.YtcggfnlejalppaaGreatDoorK04
import Derived.Test.YtcggfnlejalppaaGreatDoorK07
import Derived.LaidEql
import Derived.Stop.Asserts
import Derived.Stop.IfaceNil
import Derived.RowKitTokens
import Derived.Laws.Externs
import Derived.Test.YtcggfnlejalppaaGreatDoorK02
set_option maxRecDepth 100000
set_option maxHeartbeats 4000000
namespace Go.Proofs.YtcggfnlejalppaaGreatDoor
open Go.RowKit Go.Extern
theorem qQc (v:Value)(w:World):(Extern.ReflectliteType.typeOf #[.iface 230 v]).run Tryz.prog w=.ok (.iface 185 (.agg #[.pointer (some ⟨5,230,none⟩)])) w:=by kernel_rfl
theorem isComparable (w : World) : ((Extern.ReflectliteType.method fun t => do Rtype.noPackHeld "Comparable" t; pure (.bool (<- typeInfo t).comparable)) #[.agg #[.pointer (some ⟨5, 230, none⟩)]]).run Tryz.prog w = .ok (.bool true) w := by kernel_rfl
theorem iQm (v:Value)(w:World):(callFunc 99 #[.iface 230 v]).run Tryz.prog w=.ok (.value (.iface 185 (.agg #[.pointer (some ⟨5,230,none⟩)]))) w:=by
 rw[@run_callFunc_extern Tryz.prog 99 _ Extern.ReflectliteType.typeOf Tryz.func99 (by kernel_rfl) (by kernel_rfl) (by kernel_rfl) (by kernel_rfl),qQc];rfl
theorem gQ6 (w:World):(callFunc 219 #[.agg #[.pointer (some ⟨5,230,none⟩)]]).run Tryz.prog w=.ok (.value (.bool true)) w:=by
 rw [@run_callFunc_extern Tryz.prog 219 _ (Extern.ReflectliteType.method fun t => do Rtype.noPackHeld "Comparable" t; pure (.bool (<- typeInfo t).comparable)) Tryz.func219 (by kernel_rfl) (by kernel_rfl) (by kernel_rfl) (by kernel_rfl), isComparable]
 rfl
theorem isMethodComparable (v : Value) (w : World) : (Go.method 364 185 v "Comparable").run Tryz.prog w = .ok (219, v) w := by kernel_rfl
theorem gQ9:(Tryz.prog.info? 230).map (·.comparable)=some true:=by kernel_rfl
theorem fQm:(Tryz.prog.info? 253).map (·.size)=some 1:=by kernel_rfl
theorem mQ4 (v:Value)(xT:TypeId)(w:World):(Instr.typeAssert (.iface 230 v) xT 187 true).run Tryz.prog w=.ok (.tuple #[.nilIface,.bool false]) w:=run_typeAssert_lacksB Tryz.underlying187 (by kernel_rfl) (by kernel_rfl) v xT w
theorem oQb (v:Value)(xT:TypeId)(w:World):(Instr.typeAssert (.iface 230 v) xT 190 true).run Tryz.prog w=.ok (.tuple #[.nilIface,.bool false]) w:=run_typeAssert_lacksB Tryz.underlying190 (by kernel_rfl) (by kernel_rfl) v xT w
theorem oQc (v:Value)(xT:TypeId)(w:World):(Instr.typeAssert (.iface 230 v) xT 192 true).run Tryz.prog w=.ok (.tuple #[.nilIface,.bool false]) w:=run_typeAssert_lacksB Tryz.underlying192 (by kernel_rfl) (by kernel_rfl) v xT w
theorem dQi (a:Addr)(w:World) :
  Calls Tryz.prog 72 #[C2 a,C2 a] w fun e w'=>e=.returned (.bool true)/\w'=w:=by
 obtain⟨i,hi,hcmp⟩:=Option.map_eq_some_iff.1 gQ9;obtain⟨j,hj,hjs⟩:=Option.map_eq_some_iff.1 fQm;have h8:=iQm;have h32:=gQ6;have mR:=isMethodComparable;have heq:=run_eql_iface_ptr_same (P:=Tryz.prog) w a Tryz.underlying74 Tryz.underlying230 hi hcmp hj;go_enter Tryz.func72,Tryz.ntmps72;go_wp2
 refine wp_loop_rounds 1 ?_;rw[rounds_succ];go_wp2
 go_ret;exact⟨rfl,rfl⟩
theorem X5 (a b:Addr)(ca cb:Array Value)(ta tb:TypeId)(w:World)(hne:a≠b)(ha:w.heap[a.block]?=some (.cells ca ta (0,0)))(hb:w.heap[b.block]?=some (.cells cb tb (0,0))) :
  Calls Tryz.prog 72 #[C2 a,C2 b] w fun e w'=>e=.returned (.bool false)/\w'=w:=by
 obtain⟨i,hi,hcmp⟩:=Option.map_eq_some_iff.1 gQ9;obtain⟨j,hj,hjs⟩:=Option.map_eq_some_iff.1 fQm;have h8:=iQm;have h32:=gQ6;have mR:=isMethodComparable;have nE:=mQ4;have uE:=oQb;have vE:=oQc;have heq:=run_eql_iface_ptr_other (P:=Tryz.prog) w Tryz.underlying74 Tryz.underlying230 hi hcmp hj (by rw[hjs];decide) hne ha hb;go_enter Tryz.func72,Tryz.ntmps72;go_wp2
 refine wp_loop_rounds 1 ?_;rw[rounds_succ];go_wp2
 go_ret;exact⟨rfl,rfl⟩
theorem kQe (w:World)(a0 a1 a2 a3:Addr)(h:Sent w a0 a1 a2 a3) :
  Calls Tryz.prog 39 #[C2 a0] w fun e w'=>e=.returned (.int .i64 1)/\w'=w:=by
 have c0:=h.c0;have c2:=h.c2;have hnn:=run_eql_iface_nil (P:=Tryz.prog) (w:=w) 74 (by kernel_rfl) 230 (.pointer (some a0));go_enter Tryz.func39,Tryz.ntmps39;go_wp2_with fail;refine(dQi a0 w).mono ?_;rintro e w' ⟨rfl,rfl⟩;go_wp2_with fail;go_ret;exact⟨rfl,rfl⟩
theorem vQe (w:World)(a0 a1 a2 a3:Addr)(h:Sent w a0 a1 a2 a3) :
  Calls Tryz.prog 39 #[C2 a2] w fun e w'=>e=.returned (.int .i64 3)/\w'=w:=by
 have c0:=h.c0;have c2:=h.c2;obtain⟨d0,t0,b0⟩:=h.b0;obtain⟨d2,t2,b2⟩:=h.b2;have hi0:=X5 a2 a0 d2 d0 t2 t0 w (Ne.symm h.n02) b2 b0;have hi2:=dQi a2 w;clear h b0 b2;have hnn:=run_eql_iface_nil (P:=Tryz.prog) (w:=w) 74 (by kernel_rfl) 230 (.pointer (some a2));go_enter Tryz.func39,Tryz.ntmps39;go_wp2_with fail;refine hi0.mono ?_;rintro e w' ⟨rfl,rfl⟩;go_wp2_with fail;refine hi2.mono ?_;rintro e w' ⟨rfl,rfl⟩;go_wp2_with fail;go_ret;exact⟨rfl,rfl⟩
theorem tQz (w:World)(a0 a1 a2 a3:Addr)(h:Sent w a0 a1 a2 a3) :
  Calls Tryz.prog 39 #[C2 a3] w fun e w'=>e=.returned (.int .i64 4)/\w'=w:=by
 have c0:=h.c0;have c2:=h.c2;have c3:=h.c3;obtain⟨d0,t0,b0⟩:=h.b0;obtain⟨d2,t2,b2⟩:=h.b2;obtain⟨d3,t3,b3⟩:=h.b3;have hi0:=X5 a3 a0 d3 d0 t3 t0 w (Ne.symm h.n03) b3 b0;have hi2:=X5 a3 a2 d3 d2 t3 t2 w (Ne.symm h.n23) b3 b2;have hi3:=dQi a3 w;clear h b0 b2 b3;have hnn:=run_eql_iface_nil (P:=Tryz.prog) (w:=w) 74 (by kernel_rfl) 230 (.pointer (some a3));go_enter Tryz.func39,Tryz.ntmps39;go_wp2_with fail;refine hi0.mono ?_;rintro e w' ⟨rfl,rfl⟩;go_wp2_with fail;refine hi2.mono ?_;rintro e w' ⟨rfl,rfl⟩;go_wp2_with fail;refine hi3.mono ?_;rintro e w' ⟨rfl,rfl⟩;go_wp2_with fail;go_ret;exact⟨rfl,rfl⟩
theorem oQw (w:World)(a0 a1 a2 a3:Addr)(h:Sent w a0 a1 a2 a3) :
  Calls Tryz.prog 39 #[C2 a1] w fun e w'=>e=.returned (.int .i64 2)/\w'=w:=by
 have c0:=h.c0;have c2:=h.c2;have c3:=h.c3;obtain⟨d0,t0,b0⟩:=h.b0;obtain⟨d1,t1,b1⟩:=h.b1;obtain⟨d2,t2,b2⟩:=h.b2;obtain⟨d3,t3,b3⟩:=h.b3;have hi0:=X5 a1 a0 d1 d0 t1 t0 w (Ne.symm h.n01) b1 b0;have hi2:=X5 a1 a2 d1 d2 t1 t2 w h.n12 b1 b2;have hi3:=X5 a1 a3 d1 d3 t1 t3 w h.n13 b1 b3;clear h b0 b1 b2 b3;have hnn:=run_eql_iface_nil (P:=Tryz.prog) (w:=w) 74 (by kernel_rfl) 230 (.pointer (some a1));go_enter Tryz.func39,Tryz.ntmps39;go_wp2_with fail;refine hi0.mono ?_;rintro e w' ⟨rfl,rfl⟩;go_wp2_with fail;refine hi2.mono ?_;rintro e w' ⟨rfl,rfl⟩;go_wp2_with fail;refine hi3.mono ?_;rintro e w' ⟨rfl,rfl⟩;go_wp2_with fail;go_ret;exact⟨rfl,rfl⟩
theorem mPlace (x : Value) (w : World) : (Go.method 364 171 x "Size").run Tryz.prog w = .ok (212, x) w := by kernel_rfl
theorem mRow (x : Value) (w : World) : (Go.method 364 175 x "Size").run Tryz.prog w = .ok (213, x) w := by kernel_rfl
theorem mChoice (x : Value) (w : World) : (Go.method 364 178 x "Size").run Tryz.prog w = .ok (215, x) w := by kernel_rfl
theorem mRepeat (x : Value) (w : World) : (Go.method 364 180 x "Size").run Tryz.prog w = .ok (216, x) w := by kernel_rfl
def dn:Ls.D->Nat
 | ⟨_,_,[]⟩=>1
 | ⟨_,_,[a]⟩=>dn a+1
 | ⟨_,_,[a,b]⟩=>dn a+dn b+1
 | _=>1
theorem U6 (t:Nat)(a:Ls.D):dn (Ls.rep t a)=dn a+1:=by simp[Ls.rep,dn]
theorem R2 (a r:Ls.D):dn (Ls.rcons a r)=dn a+dn r+1:=by simp[Ls.rcons,dn]
theorem Z1 (r:Ls.D):dn (Ls.clast r)=dn r+1:=by simp[Ls.clast,dn]
theorem Y0 (r c:Ls.D):dn (Ls.ccons r c)=dn r+dn c+1:=by simp[Ls.ccons,dn]
theorem Rep.things {w:World}{G:Nat->Prop}{r:Nat}{d:Ls.D}{vs:List Value}(h:Rep w G r d vs)(hr:r=1):∃l:List Ls.D,d=l.foldr Ls.rcons Ls.rnil/\Each w G l vs:=by
 induction h using Rep.ind with
 | rnil=>exact⟨[],rfl,.nil⟩
 | rcons h1 _ _ ih=>
  obtain⟨l,e,hl⟩:=ih rfl;exact⟨_::l,by rw[e];rfl,.cons h1 hl⟩
 | _=>cases hr
theorem Rep.sides {w:World}{G:Nat->Prop}{r:Nat}{d:Ls.D}{vs:List Value}(h:Rep w G r d vs)(hr:r=2):∃l:List Ls.D,l≠[]/\d=E2 l/\Each w G l vs:=by
 induction h using Rep.ind with
 | clast h1 _=>exact⟨[_],by simp,rfl,.cons h1 .nil⟩
 | ccons h1 _ _ ih=>
  obtain⟨l,hn,e,hl⟩:=ih rfl;refine⟨_::l,by simp,?_,.cons h1 hl⟩;cases l with
  | nil=>exact absurd rfl hn
  | cons b l=>rw[e];rfl
 | _=>cases hr
theorem gQw (l:List Ls.D):∀a,a∈l->dn a<dn (l.foldr Ls.rcons Ls.rnil):=by
 induction l with
 | nil=>simp
 | cons b l ih=>
  intro a ha;simp only[List.foldr_cons,R2];simp only[List.mem_cons]at ha;rcases ha with rfl|ha
  ·omega
  ·have:=ih a ha;omega
theorem gQm (l:List Ls.D):∀a,a∈l->dn a<dn (E2 l):=by
 induction l with
 | nil=>simp
 | cons b l ih=>
  intro a ha;cases l with
  | nil=>simp only[List.mem_cons,List.not_mem_nil,or_false]at ha;subst ha;simp only[E2,Z1];omega
  | cons c l=>
   simp only[E2,Y0];rw[List.mem_cons]at ha;rcases ha with rfl|ha
   ·omega
   ·have:=ih a ha;omega
def E6:List Ls.D->Nat
 | []=>0
 | a::l=>Ls.dsize a+E6 l
theorem fQe (l:List Ls.D)(a:Ls.D):E6 (l++[a])=E6 l+Ls.dsize a:=by
 induction l with
 | nil=>simp[E6]
 | cons b l ih=>simp only[List.cons_append,E6,ih];omega
theorem cQ0 (l:List Ls.D)(k:Nat):E6 (l.take k)<=E6 l:=by
 induction l generalizing k with
 | nil=>simp
 | cons b l ih=>
  cases k with
  | zero=>simp[E6]
  | succ k=>simp only[List.take_succ_cons,E6];have:=ih k;omega
theorem fQg (l:List Ls.D):Ls.dsize (l.foldr Ls.rcons Ls.rnil)=E6 l:=by
 induction l with
 | nil=>exact Ls.xQv
 | cons a l ih=>simp only[List.foldr_cons,Ls.xQ3,E6,ih]
theorem fQo (l:List Ls.D)(h:l≠[]):Ls.dsize (E2 l)=E6 l:=by
 induction l with
 | nil=>exact absurd rfl h
 | cons a l ih=>
  cases l with
  | nil=>simp[E2,Ls.yQo,E6]
  | cons b l=>simp only[E2,Ls.yQq,ih (by simp),E6]
theorem gQv (l:List Ls.D):l.length<dn (l.foldr Ls.rcons Ls.rnil):=by
 induction l with
 | nil=>simp[Ls.rnil,dn]
 | cons a l ih=>simp only[List.length_cons,List.foldr_cons,R2];omega
theorem gQh (l:List Ls.D):l.length<=dn (E2 l):=by
 induction l with
 | nil=>simp
 | cons a l ih=>
  cases l with
  | nil=>simp only[E2,Z1,List.length_cons,List.length_nil];omega
  | cons b l=>simp only[E2,Y0,List.length_cons]at ih ⊢;omega
theorem Each.get {w:World}{G:Nat->Prop}{l:List Ls.D}{vs:List Value}(h:Each w G l vs)(k:Nat)(hk:k<l.length):∃ty x,vs[k]?=some (.iface ty x)/\Rep w G 0 l[k] [.iface ty x]:=by
 induction h using Each.ind generalizing k with
 | nil=>simp at hk
 | cons hr _ ih=>
  cases k with
  | zero=>obtain⟨ty,x,rfl⟩:=hr.iface;exact⟨ty,x,rfl,hr⟩
  | succ k=>exact ih k (by simpa using hk)
def X4 (d:Ls.D):Prop:=Ls.dsize d<=1048576->∀(w:World) (G:Nat->Prop) (ty:TypeId) (x:Value),Old w G->Rep w G 0 d [.iface ty x]->
 ∃ f, (∀ w, (Go.method 364 ty x "Size").run Tryz.prog w = .ok (f, x) w) /\ (∀ w, (callFunc f #[x]).run Tryz.prog w = .ok (.enter f #[x]) w) /\ Calls Tryz.prog f #[x] w fun e w' => e = .returned (.int .i64 (Ls.dsize d)) /\ Below w.heap.size w w'
theorem Shows.shape {w:World}{G:Nat->Prop}{sl:Value}{vs:List Value}(h:Shows w G sl vs):(sl=.slice none 0 0/\vs=[])\/∃g cap,sl=.slice (some ⟨g,0,none⟩) vs.length cap/\G g/\∀k,k<vs.length->w.cell? ⟨g,k,none⟩=vs[k]?:=by
 rcases h.own.2 with⟨h1,h2⟩|⟨g,cap,cur,rfl,h3⟩
 ·exact .inl ⟨h1,List.eq_nil_of_length_eq_zero h2⟩
 ·exact .inr ⟨g,cap,rfl,h.inG g rfl,fun k hk=>h.own.cellAt k (by omega)⟩
theorem Shows.later {w w':World}{G:Nat->Prop}{sl:Value}{vs:List Value}(h:Shows w G sl vs)(hG:Old w G)(hb:Below w.heap.size w w'):Shows w' G sl vs:=
 h.mono (fun _ h=>h) (fun k hk=>hb.block k (hG k hk))
theorem Rep.later {w w':World}{G:Nat->Prop}{d:Ls.D}{v:Value}(h:Rep w G 0 d [v])(hG:Old w G)(hb:Below w.heap.size w w'):Rep w' G 0 d [v]:=
 h.mono (fun _ h=>h) (fun k hk=>hb.block k (hG k hk))
theorem Each.later {w w':World}{G:Nat->Prop}{l:List Ls.D}{vs:List Value}(h:Each w G l vs)(hG:Old w G)(hb:Below w.heap.size w w'):Each w' G l vs:=
 h.mono (fun _ h=>h) (fun k hk=>hb.block k (hG k hk))
theorem iQe (l:List Ls.D)(hl:∀a,a∈l->X4 a)(hn:E6 l<=1048576)(hln:l.length<=1048577)(w:World)(G:Nat->Prop)(hG:Old w G)(sl:Value)(vs:List Value)(hs:Shows w G sl vs)(he:Each w G l vs) :
  Calls Tryz.prog 214 #[sl] w fun e w'=>e=.returned (.int .i64 (E6 l))/\Below w.heap.size w w':=by
 have Hl:Hid (∀a,a∈l->X4 a):=hl;clear hl;have hlen:=he.length;rcases hs.shape with⟨rfl,rfl⟩|⟨g,cap,rfl,hgG,hcell⟩
 ·obtain rfl:l=[]:=List.eq_nil_of_length_eq_zero (by simpa using hlen.symm)
  clear hs he;go_enter Tryz.func214,Tryz.ntmps214;go_wp2_with fail;refine wp_loop_rounds 1 ?_;rw[rounds_succ];go_wp2_with fail;go_ret;exact⟨rfl,Below.refl _ _⟩
 ·have hgl:=hG g hgG
  have HS:Hid _:=hs;have HE:Hid _:=he;clear hs he hcell;rw[hlen];have Hlen:Hid _:=hlen;clear hlen;go_enter Tryz.func214,Tryz.ntmps214;go_wp2_with fail;go_loopw [3,8] (fun t i wr=>∃k:Nat,k<=l.length/\i=.int .i64 k/\t=.int .i64 (E6 (l.take k))/\Below w.heap.size w wr) (fun _ i _=>l.length-(intOf i).toNat)
  case atStart=>exact⟨0,Nat.zero_le _,rfl,by simp[E6],Below.refl _ _⟩
  case round=>
   obtain⟨k,hk,rfl,rfl,hb⟩:=hrel;have hst:=cQ0 l k
   by_cases hlt:k<l.length
   ·have hsw:=HS.out.later hG hb
    have hew:=HE.out.later hG hb;obtain⟨ty,x,hx,hrep⟩:=hew.get k hlt;obtain⟨f,hm,hcf,hf⟩:=Hl.out l[k] (List.getElem_mem hlt) (by
     have:=cQ0 l (k+1);rw[List.take_succ_eq_append_getElem hlt,fQe]at this;omega) wr G ty x (hG.below hb) hrep
    have hc:wr.cell? ⟨g,k,none⟩=some (.iface ty x):=by
     rcases hsw.shape with⟨e,_⟩|⟨g',cap',e,_,hcell⟩
     ·cases e
     ·injection e with e1 e2 e3
      injection e1 with e1;injection e1 with e1;subst e1;rw[hcell k (by rw[Hlen.out];exact hlt),hx]
    have hsum:Hid (E6 (l.take (k+1))=E6 (l.take k)+Ls.dsize l[k]):=by show _=_;rw[List.take_succ_eq_append_getElem hlt,fQe]
    have hst2:=cQ0 l (k+1);rw[hsum.out]at hst2;clear hsw hew hrep hx;go_wp2_with fail;refine hf.mono ?_;rintro e w3 ⟨rfl,hb3⟩;go_wp2_with fail;go_roundw
    case rel=>exact⟨k+1,by omega,by go_num,by rw[hsum.out];go_num,Below.join hb hb3⟩
    case measure=>simp[intOf];omega
   ·have hk1:k=l.length:=by omega
    go_wp2_with fail;go_ret;rw[hk1,List.take_length];exact⟨rfl,hb⟩
theorem wQf (x:Value)(w:World):(callFunc 212 #[x]).run Tryz.prog w=.ok (.enter 212 #[x]) w:=by kernel_rfl
theorem nQa (x:Value)(w:World):(callFunc 213 #[x]).run Tryz.prog w=.ok (.enter 213 #[x]) w:=by kernel_rfl
theorem lQn (x:Value)(w:World):(callFunc 215 #[x]).run Tryz.prog w=.ok (.enter 215 #[x]) w:=by kernel_rfl
theorem lQj (x:Value)(w:World):(callFunc 216 #[x]).run Tryz.prog w=.ok (.enter 216 #[x]) w:=by kernel_rfl
theorem eQn (d:Ls.D)(hI:∀a,dn a<dn d->X4 a)(hlen:dn d<=1048577):X4 d:=by
 intro hn w G ty x hG h;rcases h.at0 with⟨s,lo,hi,hS,rfl,hv⟩|⟨t,a,v',ht,h1,rfl,hv⟩|⟨sl,vs,hs,h1,hv⟩|⟨sl,vs,hs,h1,hv⟩<;>cases hv<;>clear h
 ·clear hS
  refine⟨_,mPlace _,wQf _,?_⟩;rw[Ls.xQs];go_enter Tryz.func212,Tryz.ntmps212;go_wp2_with fail;go_ret;exact⟨rfl,A4 _ _⟩
 ·clear ht
  obtain⟨ty,y,rfl⟩:=h1.iface;refine⟨_,mRepeat _,lQj _,?_⟩;rw[Ls.xQl]at hn ⊢;have H1:Hid _:=h1;have HI:Hid (X4 a):=hI a (by rw[U6];omega);clear hI h1;obtain⟨f,hm,hcf,hf⟩:=HI.out hn (w.alloc (.cells #[.iface ty y,.bool (t != 6),.bool (t != 7)] 180)) G ty y (hG.alloc _) (H1.out.later hG (A4 _ _));go_enter Tryz.func216,Tryz.ntmps216;go_wp2_with fail;refine hf.mono ?_;rintro e w3 ⟨rfl,hb3⟩;go_wp2_with fail;go_ret;exact⟨rfl,Below.join (A4 _ _) hb3⟩
 ·obtain⟨l,rfl,he⟩:=h1.things rfl
  refine⟨_,mRow _,nQa _,?_⟩;rw[fQg]at hn ⊢;have hb:=A4 w (.cells #[sl] 175);have hl:=gQv l;have H:=iQe l (fun a ha=>hI a (gQw l a ha)) hn (by omega) _ G (hG.alloc (.cells #[sl] 175)) sl vs (hs.later hG hb) (he.later hG hb);obtain⟨x1,x2,x3,rfl⟩:∃a n c,sl=.slice a n c:=by
   rcases hs.shape with⟨e,_⟩|⟨_,_,e,_⟩<;>exact⟨_,_,_,e⟩
  clear hs h1 he hI;go_enter Tryz.func213,Tryz.ntmps213;go_wp2_with fail;refine H.mono ?_;rintro e w3 ⟨rfl,hb3⟩;go_wp2_with fail;go_ret;exact⟨rfl,Below.join hb hb3⟩
 ·obtain⟨l,hne,rfl,he⟩:=h1.sides rfl
  refine⟨_,mChoice _,lQn _,?_⟩;rw[fQo l hne]at hn ⊢;have hb:=A4 w (.cells #[sl] 178);have hl:=gQh l;have H:=iQe l (fun a ha=>hI a (gQm l a ha)) hn (by omega) _ G (hG.alloc (.cells #[sl] 178)) sl vs (hs.later hG hb) (he.later hG hb);obtain⟨x1,x2,x3,rfl⟩:∃a n c,sl=.slice a n c:=by
   rcases hs.shape with⟨e,_⟩|⟨_,_,e,_⟩<;>exact⟨_,_,_,e⟩
  clear hs h1 he hI;go_enter Tryz.func215,Tryz.ntmps215;go_wp2_with fail;refine H.mono ?_;rintro e w3 ⟨rfl,hb3⟩;go_wp2_with fail;go_ret;exact⟨rfl,Below.join hb hb3⟩
theorem cQz (n:Nat):∀d,dn d<=n->dn d<=1048577->X4 d:=by
 induction n with
 | zero=>intro d hd h;exact eQn d (fun a ha=>by omega) h
 | succ n ih=>intro d hd h;exact eQn d (fun a ha=>ih a (by omega) (by omega)) h
def R6 (P:List UInt8->Ls.Rd):Prop:=∀r d t,P r=some (d,t)->dn d+4*t.length<=4*r.length+2
theorem aQj (s:List UInt8):dn (Ls.place s)=1:=by simp[Ls.place,dn]
theorem P7:dn Ls.rnil=1:=by simp[Ls.rnil,dn]
theorem mQz {P:List UInt8->Ls.Rd}(hP:R6 P){r:List UInt8}{d:Ls.D}{t:List UInt8}(h:Ls.wQ2 P r=some (d,t)):dn d+4*t.length+1<=4*r.length:=by
 cases r with
 | nil=>simp[Ls.wQ2]at h
 | cons c r=>
  unfold Ls.wQ2 at h;dsimp only at h
  split at h
  ·split at h
   ·simp at h
   ·rename_i e u he
    have h1:=hP _ _ _ he;split at h
    ·rename_i h41
     have:=Ls.xQc h41;simp at h;obtain⟨rfl,rfl⟩:=h;simp only[List.length_cons];omega
    ·simp at h
  ·split at h
   ·split at h
    ·simp at h
    ·rename_i e u he
     have h1:=Ls.aXs _ _ _ _ _ he;simp at h;obtain⟨rfl,rfl⟩:=h;rw[aQj];simp only[List.length_cons];omega
   ·split at h
    ·simp at h;obtain⟨rfl,rfl⟩:=h;rw[aQj];simp only[List.length_cons];omega
    ·split at h
     ·split at h
      ·simp at h
      ·split at h
       ·simp at h;obtain⟨rfl,rfl⟩:=h
        rw[aQj];simp only[List.length_cons];omega
       ·simp at h
     ·split at h
      ·simp at h
      ·simp at h;obtain⟨rfl,rfl⟩:=h;rw[aQj];simp only[List.length_cons];omega
theorem kQl {P:List UInt8->Ls.Rd}(hP:R6 P){r:List UInt8}{d:Ls.D}{t:List UInt8}(h:Ls.xQ2 P r=some (d,t)):dn d+4*t.length+1<=4*r.length:=by
 rw[Ls.xQ2]at h;split at h
 ·simp at h
 ·rename_i a u hu
  have h1:=mQz hP hu;split at h
  ·rename_i hx
   have:=Ls.xQc hx;simp at h;obtain⟨rfl,rfl⟩:=h;rw[U6];omega
  ·split at h
   ·rename_i hx
    have:=Ls.xQc hx;simp at h;obtain⟨rfl,rfl⟩:=h;rw[U6];omega
   ·split at h
    ·rename_i hx
     have:=Ls.xQc hx;simp at h;obtain⟨rfl,rfl⟩:=h;rw[U6];omega
    ·simp at h;obtain⟨rfl,rfl⟩:=h;exact h1
theorem iQf {P:List UInt8->Ls.Rd}(hP:R6 P):(n:Nat)->(r:List UInt8)->(d:Ls.D)->(t:List UInt8)->Ls.things P n r=some (d,t)->dn d+4*t.length<=4*r.length+1
 | 0,_,_,_,h=>by simp[Ls.things]at h
 | n+1,r,d,t,h=>by
  rw[Ls.things]at h;split at h
  ·simp at h;obtain⟨rfl,rfl⟩:=h;rw[P7];omega
  ·split at h
   ·simp at h
   ·rename_i a r1 h1
    have h2:=kQl hP h1;split at h
    ·simp at h
    ·rename_i b r2 h3
     have h4:=iQf hP n r1 b r2 h3;simp at h;obtain⟨rfl,rfl⟩:=h;rw[R2];omega
theorem iQn {P:List UInt8->Ls.Rd}(hP:R6 P):(n:Nat)->(r:List UInt8)->(d:Ls.D)->(t:List UInt8)->Ls.alts P n r=some (d,t)->dn d+4*t.length<=4*r.length+2
 | 0,_,_,_,h=>by simp[Ls.alts]at h
 | n+1,r,d,t,h=>by
  rw[Ls.alts]at h;split at h
  ·simp at h
  ·rename_i a r1 h1
   have h2:=iQf hP _ _ _ _ h1;split at h
   ·rename_i hx
    have:=Ls.xQc hx;split at h
    ·simp at h
    ·rename_i b r3 h3
     have h4:=iQn hP n _ b r3 h3;simp at h;obtain⟨rfl,rfl⟩:=h;rw[Y0];omega
   ·simp at h;obtain⟨rfl,rfl⟩:=h;rw[Z1];omega
theorem dQr:(d:Nat)->R6 (Ls.pat d)
 | 0=>fun r e t h=>by simp[Ls.pat]at h
 | d+1=>fun r e t h=>iQn (dQr d) _ _ _ _ h
def Z2 (a0 a1 a2 a3:Addr)(n:Nat):Addr:=if n=1 then a0 else if n=2 then a1 else if n=3 then a2 else a3
theorem vQk (w:World)(a0 a1 a2 a3:Addr)(h:Sent w a0 a1 a2 a3)(r:Nat)(hr:r=1\/r=2\/r=3\/r=4) :
  Calls Tryz.prog 39 #[C2 (Z2 a0 a1 a2 a3 r)] w fun e w'=>e=.returned (.int .i64 r)/\w'=w:=by
 rcases hr with rfl|rfl|rfl|rfl
 ·exact kQe w a0 a1 a2 a3 h
 ·exact oQw w a0 a1 a2 a3 h
 ·exact vQe w a0 a1 a2 a3 h
 ·exact tQz w a0 a1 a2 a3 h
end Go.Proofs.YtcggfnlejalppaaGreatDoor
namespace Ls
def zQw:List UInt8->D
 | []=>rnil
 | c::w=>rcons (place [c]) (zQw w)
def wQ7 (a b:D):D:=rcons a (rcons b rnil)
def xQh (a b:D):D:=ccons a (clast b)
def dS:Ln->D
 | ⟨k,p,_,[]⟩=>if k=0\/k=1 then p else rnil
 | ⟨_,_,_,[a]⟩=>rep 5 (dS a)
 | ⟨k,_,_,[a,b]⟩=>if k=5 then xQh (dS a) (dS b) else wQ7 (dS a) (dS b)
 | _=>rnil
def dV:Ln->D
 | ⟨k,p,w,[]⟩=>if k=0 then p else if k=2 then zQw w else rnil
 | ⟨_,_,_,[a]⟩=>rep 5 (dV a)
 | ⟨k,_,_,[a,b]⟩=>if k=5 then xQh (dV a) (dV b) else if k=4 then wQ7 (dV b) (dV a) else wQ7 (dV a) (dV b)
 | _=>rnil
theorem aXa (a b:D)(s:List UInt8):inL (wQu (rcons a b)) s↔∃u v,s=u++v/\inL (wQu a) u/\inL (wQu b) v:=by
 rw[yQt];exact aX3 _ _ (bX7 a) (bX7 b) s
theorem yQl (a b:D)(s:List UInt8):inL (wQu (wQ7 a b)) s↔∃u v,s=u++v/\inL (wQu a) u/\inL (wQu b) v:=by
 unfold wQ7;rw[aXa];constructor
 ·rintro ⟨u,v,e,hu,hv⟩
  rw[aXa]at hv;obtain⟨x,y,e2,hx,hy⟩:=hv;rw[wQ8,xQm]at hy;subst hy;rw[List.append_nil]at e2;subst e2;exact⟨u,v,e,hu,hx⟩
 ·rintro ⟨u,v,e,hu,hv⟩
  exact⟨u,v,e,hu,(aXa _ _ _).2 ⟨v,[],by simp,hv,by rw[wQ8,xQm]⟩⟩
theorem zQb (a b:D)(s:List UInt8):inL (wQu (xQh a b)) s↔inL (wQu a) s\/inL (wQu b) s:=by
 unfold xQh;rw[yQk,yQs,yQ9]
theorem yQf (a:D)(s:List UInt8):inL (wQu (rep 5 a)) s↔zQc (inL (wQu a)) s:=by rw[yQ3,xQt]
theorem yQd {L M:List UInt8->Prop}(h:∀s,L s↔M s)(s:List UInt8):zQc L s↔zQc M s:=by
 obtain rfl:L=M:=funext fun s=>propext (h s);exact Iff.rfl
theorem cXi:(w:List UInt8)->wf (xQq w)->∀s,inL (wQu (zQw w)) s↔inL (xQq w) s
 | [],_,s=>by
  show inL (wQu rnil) s↔_;rw[wQ8];exact Iff.rfl
 | c::w,h,s=>by
  show inL (wQu (rcons (place [c]) (zQw w))) s↔inL (row (set [c]) (xQq w)) s;rw[aXa,xQn];have hw:wf (xQq w)/\wf (set [c]):=by
   have h:wf (row (set [c]) (xQq w)):=h;unfold row at h;rw[if_neg (by simp[set])]at h;split at h
   ·rename_i hk
    refine⟨?_,h⟩;cases w with
    | nil=>exact aXv
    | cons d w=>
     exfalso
     have hk:(row (set [d]) (xQq w)).kind=0:=hk;unfold row at hk;rw[if_neg (by simp[set])]at hk;split at hk<;>simp[set,yQn]at hk
   ·simp[yQn,wf]at h
    exact⟨h.2.2,h.2.1⟩
  rw[aXl hw.2 hw.1];simp only[cXi w hw.1]
theorem yQv {a b:D}{p q:Pat}(h1:∀s,inL (wQu a) s↔inL p s)(h2:∀s,inL (wQu b) s↔inL q s)(hp:wf p)(hq:wf q)(s:List UInt8):inL (wQu (wQ7 a b)) s↔inL (row p q) s:=by
 rw[yQl,aXl hp hq];simp only[h1,h2]
theorem xQ5 {c:Nat}:(l:Ln)->OkL c l->∀s,inL (wQu (dS l)) s↔inL (wQx l) s
 | ⟨k,p,w,[]⟩,h,s=>by
  rw[dS,wQx];split
  ·exact Iff.rfl
  ·rw[wQ8]
 | ⟨k,p,w,[a]⟩,h,s=>by
  rw[OkL]at h;rw[dS,wQx,if_pos h.2.1,yQf,xQt];exact yQd (xQ5 a h.2.2) s
 | ⟨k,p,w,[a,b]⟩,h,s=>by
  rw[OkL]at h;obtain⟨_,hk,ha,hb⟩:=h;rw[dS,wQx];rcases hk with rfl|rfl|rfl
  ·rw[if_neg (by omega),if_pos (.inl rfl)]
   exact yQv (xQ5 a ha) (xQ5 b hb) ha.src.ok hb.src.ok s
  ·rw[if_neg (by omega),if_pos (.inr rfl)]
   exact yQv (xQ5 a ha) (xQ5 b hb) ha.src.ok hb.src.ok s
  ·rw[if_pos rfl,if_neg (by omega),if_pos rfl,zQb,yQ9,xQ5 a ha,xQ5 b hb]
 | ⟨k,p,w,_::_::_::_⟩,h,_=>by simp[OkL]at h
theorem yQb {c:Nat}:(l:Ln)->OkL c l->∀s,inL (wQu (dV l)) s↔inL (wQw l) s
 | ⟨k,p,w,[]⟩,h,s=>by
  rw[OkL]at h;have hv:=h.1.2.ok;rw[dV,wQw];rw[wQw]at hv;split
  ·exact Iff.rfl
  ·rename_i h0
   rw[if_neg h0]at hv;split
   ·rename_i h2
    rw[if_pos h2]at hv;exact cXi w hv s
   ·rw[wQ8]
 | ⟨k,p,w,[a]⟩,h,s=>by
  rw[OkL]at h;rw[dV,wQw,if_pos h.2.1,yQf,xQt];exact yQd (yQb a h.2.2) s
 | ⟨k,p,w,[a,b]⟩,h,s=>by
  rw[OkL]at h;obtain⟨_,hk,ha,hb⟩:=h;rw[dV,wQw];rcases hk with rfl|rfl|rfl
  ·rw[if_neg (by omega),if_neg (by omega),if_pos rfl]
   exact yQv (yQb a ha) (yQb b hb) ha.view.ok hb.view.ok s
  ·rw[if_neg (by omega),if_pos rfl,if_neg (by omega),if_pos rfl]
   exact yQv (yQb b hb) (yQb a ha) hb.view.ok ha.view.ok s
  ·rw[if_pos rfl,if_neg (by omega),if_neg (by omega),if_pos rfl,zQb,yQ9,yQb a ha,yQb b hb]
 | ⟨k,p,w,_::_::_::_⟩,h,_=>by simp[OkL]at h
theorem zQ0:(w:List UInt8)->dsize (zQw w)=w.length
 | []=>by simp[zQw,xQv]
 | c::w=>by rw[zQw,xQ3,xQs,zQ0 w,List.length_cons];omega
theorem yQ6 (a b:D):dsize (wQ7 a b)=dsize a+dsize b:=by rw[wQ7,xQ3,xQ3,xQv];omega
theorem yQ5 (a b:D):dsize (xQh a b)=dsize a+dsize b:=by rw[xQh,yQq,yQo]
theorem xQz {c:Nat}:(l:Ln)->OkL c l->dsize (dS l)<=wQv l
 | ⟨k,p,w,[]⟩,_=>by
  rw[dS,wQv];split
  ·omega
  ·rw[xQv];omega
 | ⟨k,p,w,[a]⟩,h=>by
  rw[OkL]at h;have:=xQz a h.2.2;rw[dS,wQv,if_pos h.2.1,xQl];omega
 | ⟨k,p,w,[a,b]⟩,h=>by
  rw[OkL]at h;have h1:=xQz a h.2.2.1;have h2:=xQz b h.2.2.2;rw[dS,wQv];split
  ·rw[yQ5];omega
  ·rw[yQ6];omega
 | ⟨k,p,w,_::_::_::_⟩,h=>by simp[OkL]at h
theorem xQy {c:Nat}:(l:Ln)->OkL c l->dsize (dV l)<=wQv l
 | ⟨k,p,w,[]⟩,_=>by
  rw[dV,wQv];split
  ·omega
  ·split
   ·rw[zQ0];omega
   ·rw[xQv];omega
 | ⟨k,p,w,[a]⟩,h=>by
  rw[OkL]at h;have:=xQy a h.2.2;rw[dV,wQv,if_pos h.2.1,xQl];omega
 | ⟨k,p,w,[a,b]⟩,h=>by
  rw[OkL]at h;have h1:=xQy a h.2.2.1;have h2:=xQy b h.2.2.2;rw[dV,wQv];split
  ·rw[yQ5];omega
  ·split<;>rw[yQ6]<;>omega
 | ⟨k,p,w,_::_::_::_⟩,h=>by simp[OkL]at h
end Ls
namespace Go.Proofs.YtcggfnlejalppaaGreatDoor
def cn:Ls.Ln->Nat
 | ⟨_,p,w,[]⟩=>dn p+2*w.length+2
 | ⟨_,_,_,[a]⟩=>cn a+1
 | ⟨_,_,_,[a,b]⟩=>cn a+cn b+4
 | _=>1
theorem dQs:(w:List UInt8)->dn (Ls.zQw w)=2*w.length+1
 | []=>by simp[Ls.zQw,P7]
 | c::w=>by rw[Ls.zQw,R2,aQj,dQs w,List.length_cons];omega
theorem R0:(l:Ls.Ln)->dn (Ls.dS l)<=cn l
 | ⟨k,p,w,[]⟩=>by
  rw[Ls.dS,cn];split
  ·omega
  ·rw[P7];omega
 | ⟨k,p,w,[a]⟩=>by
  have:=R0 a;rw[Ls.dS,cn,U6];omega
 | ⟨k,p,w,[a,b]⟩=>by
  have h1:=R0 a;have h2:=R0 b;rw[Ls.dS,cn];split
  ·rw[Ls.xQh,Y0,Z1];omega
  ·rw[Ls.wQ7,R2,R2,P7];omega
 | ⟨k,p,w,_::_::_::_⟩=>by
  show dn Ls.rnil<=1;rw[P7];omega
theorem P8:(l:Ls.Ln)->dn (Ls.dV l)<=cn l
 | ⟨k,p,w,[]⟩=>by
  rw[Ls.dV,cn];split
  ·omega
  ·split
   ·rw[dQs];omega
   ·rw[P7];omega
 | ⟨k,p,w,[a]⟩=>by
  have:=P8 a;rw[Ls.dV,cn,U6];omega
 | ⟨k,p,w,[a,b]⟩=>by
  have h1:=P8 a;have h2:=P8 b;rw[Ls.dV,cn];split
  ·rw[Ls.xQh,Y0,Z1];omega
  ·split<;>rw[Ls.wQ7,R2,R2,P7]<;>omega
 | ⟨k,p,w,_::_::_::_⟩=>by
  show dn Ls.rnil<=1;rw[P7];omega
end Go.Proofs.YtcggfnlejalppaaGreatDoor
namespace Go.Proofs.YtcggfnlejalppaaGreatDoor
open Go.RowKit
theorem qQa (s:ByteArray)(hs:s.size<=1048576)(a1:Addr)(z:Nat)(hz:z<=12)(rb i:Nat)(w:World)(h:RB w rb s i z)(hE:Env w rb a1)(hi:i<=s.size) :
  Calls Tryz.prog 86 #[.pointer (some ⟨rb,0,none⟩)] w (RPost w rb s i z a1 (Ls.pat (13-z) (rest s i))):=by
 have hC:=hQy s hs a1 (12-z) (by omega);rw[show 12-(12-z)=z from by omega]at hC;have hC2:=hC rb i w h hE hi;clear hC;go_enter Tryz.func86,Tryz.ntmps86;go_wp2_with fail;refine hC2.mono ?_;rintro e w1 (⟨d,j,v,hr,hij,hj,rfl,hrep,hl⟩|⟨hr,rfl,hg⟩)
 ·have HP:Hid (RPost w rb s i z a1 (Ls.pat (13-z) (rest s i)) (.returned v) w1):=.inl ⟨d,j,v,hr,hij,hj,rfl,hrep,hl⟩
  clear hr hrep hC2;go_wp2_with fail;go_ret;exact HP.out
 ·have HP:Hid (RPost w rb s i z a1 (Ls.pat (13-z) (rest s i)) (.panicked [{v:=C2 a1,recovered:=false}]) w1):=.inr ⟨hr,rfl,hg⟩
  clear hr hC2;go_wp2_with fail;exact⟨rfl,HP.out⟩
end Go.Proofs.YtcggfnlejalppaaGreatDoor
namespace Go.Proofs.YtcggfnlejalppaaGreatDoor
theorem pQl (d:Ls.D):cn (Ls.xQ7 d)=dn d+2:=by simp[Ls.xQ7,cn]
theorem uQy (d:Ls.D)(w:List UInt8):cn (Ls.xQk d w)=dn d+2*w.length+2:=by simp[Ls.xQk,cn]
theorem uQo (w:List UInt8):cn (Ls.zQ6 w)=2*w.length+3:=by simp[Ls.zQ6,cn,P7];omega
theorem vQw (a b:Ls.Ln):cn (Ls.xQb a b)=cn a+cn b+4:=by simp[Ls.xQb,cn]
theorem iQ6 (a b:Ls.Ln):cn (Ls.wQ5 a b)=cn a+cn b+4:=by simp[Ls.wQ5,cn]
theorem rQ2 (a b:Ls.Ln):cn (Ls.xQe a b)=cn a+cn b+4:=by simp[Ls.xQe,cn]
theorem sQ5 (a:Ls.Ln):cn (Ls.yQp a)=cn a+1:=by simp[Ls.yQp,cn]
theorem rQk (a:Ls.Ln):cn (Ls.bXf a)=cn a+1:=by simp[Ls.bXf,cn]
def V8 (Q:List UInt8->Ls.Rl):Prop:=∀r l t,Q r=some (l,t)->cn l+4+8*t.length<=8*r.length
theorem eQg {P:List UInt8->Ls.Rd}(hP:R6 P){r:List UInt8}{d:Ls.D}{t:List UInt8}(h:Ls.wQ4 P r=some (d,t)):dn d+4*t.length+2<=4*r.length:=by
 unfold Ls.wQ4 at h;cases hp:P r with
 | none=>rw[hp]at h;cases h
 | some x=>
  obtain⟨e,u⟩:=x;rw[hp]at h;dsimp only at h
  split at h
  ·rename_i hh
   have hl:=Ls.xQa hh;simp only[Option.some.injEq,Prod.mk.injEq]at h;obtain⟨rfl,rfl⟩:=h;have:=hP _ _ _ hp;omega
  ·cases h
theorem dQt (l:Ls.Ln)(t:List UInt8):cn (Ls.xQp l t).1+8*(Ls.xQp l t).2.length<=cn l+8*t.length:=by
 unfold Ls.xQp;split
 ·rename_i hh
  have:=Ls.xQa hh;rw[sQ5];dsimp only;omega
 ·exact Nat.le_refl _
theorem qQl {P:List UInt8->Ls.Rd}{Q:List UInt8->Ls.Rl}(hP:R6 P)(hQ:V8 Q):V8 (Ls.wQ6 P Q):=by
 intro r l t h;cases r with
 | nil=>simp[Ls.wQ6]at h
 | cons c r=>
  simp only[Ls.wQ6]at h;simp only[List.length_cons];split at h
  ·cases hp:Ls.wQ4 P r with
   | none=>rw[hp]at h;cases h
   | some x=>
    obtain⟨d,u⟩:=x;rw[hp]at h;simp only[Option.some.injEq]at h;have h2:=eQg hP hp;have h4:=dQt (Ls.xQ7 d) u;rw[h,pQl]at h4;dsimp only at h4
    omega
  ·split at h
   ·split at h
    ·rename_i hh
     have hl:=Ls.xQa hh;cases hp:Ls.wQ4 P r.tail with
     | none=>rw[hp]at h;cases h
     | some x=>
      obtain⟨d,u⟩:=x;rw[hp]at h;dsimp only at h
      have h2:=eQg hP hp;cases hw:Ls.xQg u with
      | none=>rw[hw]at h;cases h
      | some x=>
       obtain⟨w,v⟩:=x;rw[hw]at h;simp only[Option.some.injEq,Prod.mk.injEq]at h;obtain⟨rfl,rfl⟩:=h;obtain⟨h3,h4⟩:=Ls.zQ3 hw;rw[uQy];omega
    ·cases h
   ·split at h
    ·cases hw:Ls.xQg r with
     | none=>rw[hw]at h;cases h
     | some x=>
      obtain⟨w,v⟩:=x;rw[hw]at h;simp only[Option.some.injEq,Prod.mk.injEq]at h;obtain⟨rfl,rfl⟩:=h;obtain⟨h3,h4⟩:=Ls.zQ3 hw;rw[uQo];omega
    ·split at h
     ·cases hq:Q r with
      | none=>rw[hq]at h;cases h
      | some x=>
       obtain⟨a,u⟩:=x;rw[hq]at h;dsimp only at h
       have h2:=hQ _ _ _ hq;split at h
       ·rename_i hh
        have hl:=Ls.xQa hh;simp only[Option.some.injEq,Prod.mk.injEq]at h;obtain⟨rfl,rfl⟩:=h;rw[rQk];omega
       ·cases h
     ·split at h
      ·cases hq:Q r with
       | none=>rw[hq]at h;cases h
       | some x=>
        obtain⟨a,u⟩:=x;rw[hq]at h;dsimp only at h
        have h2:=hQ _ _ _ hq;split at h
        ·rename_i hh
         have hl:=Ls.xQa hh;cases hq2:Q u.tail with
         | none=>rw[hq2]at h;cases h
         | some x=>
          obtain⟨b,v⟩:=x;rw[hq2]at h;dsimp only at h
          have h4:=hQ _ _ _ hq2;split at h
          ·rename_i hh2
           have hl2:=Ls.xQa hh2;simp only[Option.some.injEq]at h;have h6:=dQt (Ls.wQ5 a b) v.tail;rw[h,iQ6]at h6;dsimp only at h6
           omega
          ·cases h
        ·split at h
         ·rename_i hh2
          have hl2:=Ls.xQa hh2;simp only[Option.some.injEq]at h;have h6:=dQt a u.tail;rw[h]at h6;dsimp only at h6
          omega
         ·cases h
      ·cases h
theorem eQq {P:List UInt8->Ls.Rd}{Q:List UInt8->Ls.Rl}(hP:R6 P)(hQ:V8 Q):∀n,V8 (Ls.wQ0 P Q n)
 | 0,r,l,t,h=>by simp[Ls.wQ0]at h
 | n+1,r,l,t,h=>by
  simp only[Ls.wQ0]at h;cases hp:Ls.wQ6 P Q r with
  | none=>rw[hp]at h;cases h
  | some x=>
   obtain⟨a,r1⟩:=x;rw[hp]at h;dsimp only at h
   have h2:=qQl hP hQ _ _ _ hp;split at h
   ·simp only[Option.some.injEq,Prod.mk.injEq]at h
    obtain⟨rfl,rfl⟩:=h;exact h2
   ·cases hq:Ls.wQ0 P Q n r1 with
    | none=>rw[hq]at h;cases h
    | some x=>
     obtain⟨b,r2⟩:=x;rw[hq]at h;simp only[Option.some.injEq,Prod.mk.injEq]at h;obtain⟨rfl,rfl⟩:=h;have h5:=eQq hP hQ n _ _ _ hq;rw[vQw];omega
theorem fQ7 {P:List UInt8->Ls.Rd}{Q:List UInt8->Ls.Rl}(hP:R6 P)(hQ:V8 Q):∀n,V8 (Ls.xQo P Q n)
 | 0,r,l,t,h=>by simp[Ls.xQo]at h
 | n+1,r,l,t,h=>by
  simp only[Ls.xQo]at h;cases hp:Ls.wQ0 P Q (r.length+1) r with
  | none=>rw[hp]at h;cases h
  | some x=>
   obtain⟨a,r1⟩:=x;rw[hp]at h;dsimp only at h
   have h2:=eQq hP hQ _ _ _ _ hp;split at h
   ·rename_i hh
    have hl:=Ls.xQa hh;cases hq:Ls.xQo P Q n r1.tail with
    | none=>rw[hq]at h;cases h
    | some x=>
     obtain⟨b,r3⟩:=x;rw[hq]at h;simp only[Option.some.injEq,Prod.mk.injEq]at h;obtain⟨rfl,rfl⟩:=h;have h5:=fQ7 hP hQ n _ _ _ hq;rw[rQ2];omega
   ·simp only[Option.some.injEq,Prod.mk.injEq]at h
    obtain⟨rfl,rfl⟩:=h;exact h2
theorem fQf:∀n,V8 (Ls.wQy n)
 | 0,r,l,t,h=>by simp[Ls.wQy]at h
 | n+1,r,l,t,h=>fQ7 (dQr _) (fQf n) _ _ _ _ h
theorem fQ0:(w:List UInt8)->∀c,c∈w->[c]∈Ls.yQh (Ls.xQq w)
 | [],c,h=>by cases h
 | d::t,c,h=>by
  show [c]∈Ls.yQh (Ls.row (Ls.set [d]) (Ls.xQq t));have hd:(Ls.set [d]).kind≠0:=by simp[Ls.set]
  unfold Ls.row;rw[if_neg hd];rcases List.mem_cons.1 h with rfl|h
  ·split
   ·rw[Ls.sets_set];simp
   ·rw[Ls.yQc,Ls.sets_set];simp
  ·have ih:=fQ0 t c h
   split
   ·rename_i hk
    exfalso
    cases t with
    | nil=>cases h
    | cons e t=>
     have hk:(Ls.row (Ls.set [e]) (Ls.xQq t)).kind=0:=hk;unfold Ls.row at hk;rw[if_neg (by simp[Ls.set])]at hk;split at hk<;>simp[Ls.set,Ls.yQn]at hk
   ·rw[Ls.yQc];exact List.mem_append_right _ ih
theorem lQ9 {c:Nat}{p:Ls.D}{w:List UInt8}(h:Ls.OkL c ⟨2,p,w,[]⟩):∀d,d∈w->d.toNat<=126:=by
 intro d hd;rw[Ls.OkL]at h;have hs:=h.1.2.sg;have:Ls.wQw ⟨2,p,w,[]⟩=Ls.xQq w:=by simp[Ls.wQw]
 rw[this]at hs;have h1:=hs _ (fQ0 w d hd) d (by simp[Ls.has]);simp[Ls.xQ6]at h1;omega
def C9 (p:Ls.Pat)(s:List UInt8):Bool:=Ls.is p s&&decide (s.length<=60)
def L9 (p q:Ls.Pat)(s:List UInt8):Nat->Nat->Nat
 | 0,_=>0
 | n+1,i=>if (Ls.is p (s.take i)&&Ls.is q (s.drop i))=true then i else L9 p q s n (i+1)
def D3 (p q:Ls.Pat)(s:List UInt8):Nat:=L9 p q s (s.length+1) 0
theorem fQt (p q:Ls.Pat)(s:List UInt8):(n i:Nat)->i+n<=s.length+1->L9 p q s n i<=s.length
 | 0,_,_=>Nat.zero_le _
 | n+1,i,h=>by
  unfold L9;split
  ·omega
  ·exact fQt p q s n (i+1) (by omega)
theorem q6 (p q:Ls.Pat)(s:List UInt8):D3 p q s<=s.length:=fQt p q s _ _ (by omega)
def J5 (p:Ls.Pat)(s:List UInt8):Nat->Nat->Nat
 | 0,i=>i
 | n+1,i=>if (Ls.is p (s.take i)&&Ls.is (Ls.wQ9 p) (s.drop i))=true then i else J5 p s n (i+1)
def I8 (p:Ls.Pat)(s:List UInt8):Nat:=J5 p s (s.length-1) 1
def D0 (p:Ls.Pat):Nat->List UInt8->List (List UInt8)
 | 0,_=>[]
 | n+1,s=>if s=[] then [] else s.take (I8 p s)::D0 p n (s.drop (I8 p s))
theorem gQs (p:Ls.Pat)(s:List UInt8):(n i:Nat)->i<=J5 p s n i/\J5 p s n i<=i+n
 | 0,i=>by rw[J5];omega
 | n+1,i=>by
  rw[J5];split
  ·omega
  ·have:=gQs p s n (i+1);omega
theorem cQt (p:Ls.Pat){s:List UInt8}(h:s≠[]):1<=I8 p s/\I8 p s<=s.length:=by
 have:=gQs p s (s.length-1) 1;have:0<s.length:=List.length_pos_iff.2 h;unfold I8;omega
theorem eQd (p:Ls.Pat):(n m:Nat)->(s:List UInt8)->s.length<=n->n<=m->D0 p m s=D0 p n s
 | 0,m,s,h,_=>by
  have:s=[]:=List.eq_nil_of_length_eq_zero (by omega);subst this;cases m with
  | zero=>rfl
  | succ m=>simp[D0]
 | n+1,m,s,h,hm=>by
  obtain⟨m,rfl⟩:∃k,m=k+1:=⟨m-1,by omega⟩;rw[D0,D0]
  by_cases hs:s=[]
  ·rw[if_pos hs,if_pos hs]
  ·rw[if_neg hs,if_neg hs]
   have hb:=cQt p hs;rw[eQd p n m _ (by rw[List.length_drop];omega) (by omega)]
def A9:Ls.Ln->List UInt8->List UInt8
 | ⟨k,_,w,[]⟩,s=>if k=0 then s else if k=2 then w else []
 | ⟨_,_,_,[a]⟩,s=>((D0 (Ls.wQx a) s.length s).map (A9 a)).flatten
 | ⟨k,_,_,[a,b]⟩,s=>
  if k=5 then (if Ls.is (Ls.wQx a) s=true then A9 a s else A9 b s) else
  if k=4 then A9 b (s.drop (D3 (Ls.wQx a) (Ls.wQx b) s))++A9 a (s.take (D3 (Ls.wQx a) (Ls.wQx b) s)) else
  A9 a (s.take (D3 (Ls.wQx a) (Ls.wQx b) s))++A9 b (s.drop (D3 (Ls.wQx a) (Ls.wQx b) s))
 | _,_=>[]
def gx:Ls.Ln->Nat
 | ⟨_,_,w,[]⟩=>w.length+1
 | ⟨_,_,_,[a]⟩=>2*gx a
 | ⟨_,_,_,[a,b]⟩=>gx a+gx b
 | _=>0
theorem j8 (p:Ls.Pat):(n:Nat)->(s:List UInt8)->s.length<=n->((D0 p n s).map fun x=>x.length+1).sum<=2*s.length
 | 0,s,h=>by simp[D0]
 | n+1,s,h=>by
  rw[D0]
  by_cases hs:s=[]
  ·rw[if_pos hs];simp
  ·rw[if_neg hs]
   have hb:=cQt p hs;have:=j8 p n (s.drop (I8 p s)) (by rw[List.length_drop];omega);rw[List.length_drop]at this;simp only[List.map_cons,List.sum_cons,List.length_take];omega
theorem J6:(l:Ls.Ln)->(s:List UInt8)->(A9 l s).length<=(s.length+1)*gx l
 | ⟨k,p,w,[]⟩,s=>by
  rw[A9,gx];have h1:(s.length+1)*(w.length+1)=s.length*w.length+s.length+w.length+1:=by rw[Nat.add_mul,Nat.mul_add,Nat.one_mul];omega
  split
  ·rw[h1];omega
  ·split
   ·rw[h1];omega
   ·simp
 | ⟨k,p,w,[a]⟩,s=>by
  rw[A9,gx];have h1:∀ps:List (List UInt8),((ps.map (A9 a)).flatten).length<=(ps.map fun x=>x.length+1).sum*gx a:=by
   intro ps;induction ps with
   | nil=>simp
   | cons x ps ih=>
    simp only[List.map_cons,List.flatten_cons,List.length_append,List.sum_cons];have:=J6 a x;rw[Nat.add_mul];omega
  have h2:=h1 (D0 (Ls.wQx a) s.length s);have h3:=j8 (Ls.wQx a) s.length s (Nat.le_refl _);have h4:(((D0 (Ls.wQx a) s.length s).map fun x=>x.length+1).sum)*gx a<=(2*s.length)*gx a:=Nat.mul_le_mul_right _ h3;have h5:(2*s.length)*gx a<=(s.length+1)*(2*gx a):=by
   rw[Nat.mul_comm 2 s.length,Nat.mul_assoc];exact Nat.mul_le_mul_right _ (by omega)
  omega
 | ⟨k,p,w,[a,b]⟩,s=>by
  have hc:=q6 (Ls.wQx a) (Ls.wQx b) s;have ha:=J6 a (s.take (D3 (Ls.wQx a) (Ls.wQx b) s));have hb:=J6 b (s.drop (D3 (Ls.wQx a) (Ls.wQx b) s));have ha2:=J6 a s;have hb2:=J6 b s;rw[List.length_take]at ha;rw[List.length_drop]at hb;have e1:(min (D3 (Ls.wQx a) (Ls.wQx b) s) s.length+1)*gx a<=(s.length+1)*gx a:=Nat.mul_le_mul_right _ (by omega);have e2:(s.length-D3 (Ls.wQx a) (Ls.wQx b) s+1)*gx b<=(s.length+1)*gx b:=Nat.mul_le_mul_right _ (by omega);rw[A9,gx,Nat.mul_add];split
  ·split<;>omega
  ·split<;>rw[List.length_append]<;>omega
 | ⟨k,p,w,_::_::_::_⟩,s=>by simp[A9]
theorem iQq (a:Ls.Ln)(ps:List (List UInt8)):((ps.map (A9 a)).flatten).length<=(ps.map fun x=>x.length+1).sum*gx a:=by
 induction ps with
 | nil=>simp
 | cons x ps ih=>
  simp only[List.map_cons,List.flatten_cons,List.length_append,List.sum_cons];have:=J6 a x;rw[Nat.add_mul];omega
theorem eQl (ps:List (List UInt8)):∀k,((ps.take k).map fun x=>x.length+1).sum<=(ps.map fun x=>x.length+1).sum:=by
 induction ps with
 | nil=>intro k;simp
 | cons x ps ih=>
  intro k;cases k with
  | zero=>simp
  | succ k=>
   simp only[List.take_succ_cons,List.map_cons,List.sum_cons];have:=ih k;omega
theorem cQv (p:Ls.Pat):(n:Nat)->(s x:List UInt8)->x∈D0 p n s->x.length<=s.length
 | 0,s,x,h=>by simp[D0]at h
 | n+1,s,x,h=>by
  rw[D0]at h;split at h
  ·cases h
  ·rcases List.mem_cons.1 h with rfl|h
   ·rw[List.length_take];omega
   ·have:=cQv p n _ x h
    rw[List.length_drop]at this;omega
theorem bQv:(l:Ls.Ln)->(c:Nat)->Ls.OkL c l->gx l<=cn l*2 ^ Ls.wQv l
 | ⟨k,p,w,[]⟩,c,_=>by
  rw[gx,cn];have:1<=2 ^ Ls.wQv ⟨k,p,w,[]⟩:=Nat.one_le_two_pow;calc w.length+1<=(dn p+2*w.length+2)*1:=by omega
   _<=_:=Nat.mul_le_mul_left _ this
 | ⟨k,p,w,[a]⟩,c,h=>by
  rw[Ls.OkL]at h;have:=bQv a c h.2.2;rw[gx,cn,Ls.wQv,if_pos h.2.1,Nat.pow_succ];have h2:(cn a+1)*(2 ^ Ls.wQv a*2)=2*(cn a*2 ^ Ls.wQv a)+2 ^ Ls.wQv a*2:=by
   rw[Nat.add_mul,Nat.one_mul,<-Nat.mul_assoc,Nat.mul_comm (cn a*2 ^ Ls.wQv a) 2]
  rw[h2];omega
 | ⟨k,p,w,[a,b]⟩,c,h=>by
  rw[Ls.OkL]at h;have ha:=bQv a c h.2.2.1;have hb:=bQv b c h.2.2.2;rw[gx,cn,Ls.wQv];have h1:2 ^ Ls.wQv a<=2 ^ (Ls.wQv a+Ls.wQv b):=Nat.pow_le_pow_right (by omega) (by omega);have h2:2 ^ Ls.wQv b<=2 ^ (Ls.wQv a+Ls.wQv b):=Nat.pow_le_pow_right (by omega) (by omega);have h3:=Nat.mul_le_mul_left (cn a) h1;have h4:=Nat.mul_le_mul_left (cn b) h2;have h5:(cn a+cn b+4)*2 ^ (Ls.wQv a+Ls.wQv b)=cn a*2 ^ (Ls.wQv a+Ls.wQv b)+cn b*2 ^ (Ls.wQv a+Ls.wQv b)+4*2 ^ (Ls.wQv a+Ls.wQv b):=by rw[Nat.add_mul,Nat.add_mul]
  rw[h5];omega
 | ⟨k,p,w,_::_::_::_⟩,c,h=>by simp[Ls.OkL]at h
theorem cQa {l:Ls.Ln}(hok:Ls.OkL 120 l)(hs:Ls.wQv l<=24)(hc:cn l<=60000):gx l<=1099511627776:=by
 have h1:=bQv l 120 hok;have h2:2 ^ Ls.wQv l<=2 ^ 24:=Nat.pow_le_pow_right (by omega) hs;have h3:cn l*2 ^ Ls.wQv l<=60000*2 ^ 24:=Nat.mul_le_mul hc h2;have h4:60000*2 ^ 24<=1099511627776:=by decide
 omega
def C5:Ls.Ln->List UInt8->List UInt8
 | ⟨k,_,w,[]⟩,v=>if k=0 then v else if k=1 then w else []
 | ⟨_,_,_,[a]⟩,v=>((D0 (Ls.wQw a) v.length v).map (C5 a)).flatten
 | ⟨k,_,_,[a,b]⟩,v=>
  if k=5 then (if Ls.is (Ls.wQw a) v=true then C5 a v else C5 b v) else
  if k=4 then C5 a (v.drop (D3 (Ls.wQw b) (Ls.wQw a) v))++C5 b (v.take (D3 (Ls.wQw b) (Ls.wQw a) v)) else
  C5 a (v.take (D3 (Ls.wQw a) (Ls.wQw b) v))++C5 b (v.drop (D3 (Ls.wQw a) (Ls.wQw b) v))
 | _,_=>[]
theorem N0:(l:Ls.Ln)->(s:List UInt8)->(C5 l s).length<=(s.length+1)*gx l
 | ⟨k,p,w,[]⟩,s=>by
  rw[C5,gx];have h1:(s.length+1)*(w.length+1)=s.length*w.length+s.length+w.length+1:=by rw[Nat.add_mul,Nat.mul_add,Nat.one_mul];omega
  split
  ·rw[h1];omega
  ·split
   ·rw[h1];omega
   ·simp
 | ⟨k,p,w,[a]⟩,s=>by
  rw[C5,gx];have h1:∀ps:List (List UInt8),((ps.map (C5 a)).flatten).length<=(ps.map fun x=>x.length+1).sum*gx a:=by
   intro ps;induction ps with
   | nil=>simp
   | cons x ps ih=>
    simp only[List.map_cons,List.flatten_cons,List.length_append,List.sum_cons];have:=N0 a x;rw[Nat.add_mul];omega
  have h2:=h1 (D0 (Ls.wQw a) s.length s);have h3:=j8 (Ls.wQw a) s.length s (Nat.le_refl _);have h4:(((D0 (Ls.wQw a) s.length s).map fun x=>x.length+1).sum)*gx a<=(2*s.length)*gx a:=Nat.mul_le_mul_right _ h3;have h5:(2*s.length)*gx a<=(s.length+1)*(2*gx a):=by
   rw[Nat.mul_comm 2 s.length,Nat.mul_assoc];exact Nat.mul_le_mul_right _ (by omega)
  omega
 | ⟨k,p,w,[a,b]⟩,s=>by
  have hc:=q6 (Ls.wQw a) (Ls.wQw b) s;have hd:=q6 (Ls.wQw b) (Ls.wQw a) s;have ha:=N0 a (s.take (D3 (Ls.wQw a) (Ls.wQw b) s));have hb:=N0 b (s.drop (D3 (Ls.wQw a) (Ls.wQw b) s));have ha3:=N0 a (s.drop (D3 (Ls.wQw b) (Ls.wQw a) s));have hb3:=N0 b (s.take (D3 (Ls.wQw b) (Ls.wQw a) s));have ha2:=N0 a s;have hb2:=N0 b s;rw[List.length_take]at ha hb3;rw[List.length_drop]at hb ha3;have e1:(min (D3 (Ls.wQw a) (Ls.wQw b) s) s.length+1)*gx a<=(s.length+1)*gx a:=Nat.mul_le_mul_right _ (by omega);have e2:(s.length-D3 (Ls.wQw a) (Ls.wQw b) s+1)*gx b<=(s.length+1)*gx b:=Nat.mul_le_mul_right _ (by omega);have e3:(s.length-D3 (Ls.wQw b) (Ls.wQw a) s+1)*gx a<=(s.length+1)*gx a:=Nat.mul_le_mul_right _ (by omega);have e4:(min (D3 (Ls.wQw b) (Ls.wQw a) s) s.length+1)*gx b<=(s.length+1)*gx b:=Nat.mul_le_mul_right _ (by omega);rw[C5,gx,Nat.mul_add];split
  ·split<;>omega
  ·split<;>rw[List.length_append]<;>omega
 | ⟨k,p,w,_::_::_::_⟩,s=>by simp[C5]
def low (c:UInt8):Bool:=decide (97<=c.toNat)&&decide (c.toNat<=122)
def wl:Ls.Ln->Nat
 | ⟨_,_,w,[]⟩=>w.length
 | ⟨_,_,_,[a]⟩=>wl a
 | ⟨_,_,_,[a,b]⟩=>wl a+wl b
 | _=>0
theorem eQj {p q:Ls.Pat}(wp:Ls.wf p)(wq:Ls.wf q)(ht:¬Ls.wQ1 p q){u v:List UInt8}(hu:Ls.inL p u)(hv:Ls.inL q v){i:Nat}(hi:i<=u.length)(hc:(Ls.is p ((u++v).take i)&&Ls.is q ((u++v).drop i))=true):i=u.length:=by
 rcases Nat.lt_or_ge i u.length with h|h
 ·exfalso
  rw[Bool.and_eq_true,Ls.zQx p wp,Ls.zQx q wq,List.take_append_of_le_length hi,List.drop_append_of_le_length hi]at hc;refine ht ⟨u.take i,u.drop i,v,?_,hc.1,by rw[List.take_append_drop];exact hu,hc.2,hv⟩;intro e;have:=congrArg List.length e;rw[List.length_drop,List.length_nil]at this;omega
 ·omega
theorem gQb {p q:Ls.Pat}(wp:Ls.wf p)(wq:Ls.wf q){u v:List UInt8}(hu:Ls.inL p u)(hv:Ls.inL q v):(Ls.is p ((u++v).take u.length)&&Ls.is q ((u++v).drop u.length))=true:=by
 rw[List.take_left,List.drop_left,Bool.and_eq_true];exact⟨(Ls.zQx p wp u).2 hu,(Ls.zQx q wq v).2 hv⟩
theorem gQi {p q:Ls.Pat}(wp:Ls.wf p)(wq:Ls.wf q)(ht:¬Ls.wQ1 p q){u v:List UInt8}(hu:Ls.inL p u)(hv:Ls.inL q v):(n i:Nat)->i<=u.length->u.length<i+n->L9 p q (u++v) n i=u.length
 | 0,i,h1,h2=>by omega
 | n+1,i,h1,h2=>by
  rw[L9]
  by_cases hc:(Ls.is p ((u++v).take i)&&Ls.is q ((u++v).drop i))=true
  ·rw[if_pos hc]
   exact eQj wp wq ht hu hv h1 hc
  ·rw[if_neg hc]
   have hne:i≠u.length:=by
    intro e;subst e;exact hc (gQb wp wq hu hv)
   exact gQi wp wq ht hu hv n (i+1) (by omega) (by omega)
theorem cQl {p q:Ls.Pat}(wp:Ls.wf p)(wq:Ls.wf q)(ht:¬Ls.wQ1 p q){u v:List UInt8}(hu:Ls.inL p u)(hv:Ls.inL q v):D3 p q (u++v)=u.length:=by
 unfold D3;exact gQi wp wq ht hu hv _ 0 (Nat.zero_le _) (by rw[List.length_append];omega)
theorem hQ8 {p:Ls.Pat}(wp:Ls.wf p)(ws:Ls.wf (Ls.wQ9 p))(ht:¬Ls.wQ1 p (Ls.wQ9 p)){u v:List UInt8}(hu:Ls.inL p u)(hv:Ls.inL (Ls.wQ9 p) v):(n i:Nat)->i<=u.length->u.length<=i+n->J5 p (u++v) n i=u.length
 | 0,i,h1,h2=>by rw[J5];omega
 | n+1,i,h1,h2=>by
  rw[J5]
  by_cases hc:(Ls.is p ((u++v).take i)&&Ls.is (Ls.wQ9 p) ((u++v).drop i))=true
  ·rw[if_pos hc]
   exact eQj wp ws ht hu hv h1 hc
  ·rw[if_neg hc]
   have hne:i≠u.length:=by
    intro e;subst e;exact hc (gQb wp ws hu hv)
   exact hQ8 wp ws ht hu hv n (i+1) (by omega) (by omega)
theorem cQu {p:Ls.Pat}(wp:Ls.wf p)(ws:Ls.wf (Ls.wQ9 p))(h0:¬Ls.inL p [])(ht:¬Ls.wQ1 p (Ls.wQ9 p)):(ps:List (List UInt8))->(∀x,x∈ps->Ls.inL p x)->(n:Nat)->ps.flatten.length<=n->D0 p n ps.flatten=ps
 | [],_,0,_=>by simp[D0]
 | [],_,n+1,_=>by simp[D0]
 | x::ps,h,n,hn=>by
  have hx:=h x (List.mem_cons_self ..);have hne:x≠[]:=by
   intro e;subst e;exact h0 hx
  have hxl:0<x.length:=List.length_pos_iff.2 hne;rw[List.flatten_cons,List.length_append]at hn;have hs:Ls.inL (Ls.wQ9 p) ps.flatten:=(Ls.xQt p _).2 ⟨ps,rfl,fun y hy=>h y (List.mem_cons_of_mem _ hy)⟩;have hpl:I8 p (x++ps.flatten)=x.length:=by
   unfold I8;exact hQ8 wp ws ht hx hs _ 1 hxl (by rw[List.length_append];omega)
  cases n with
  | zero=>omega
  | succ n=>
   rw[List.flatten_cons,D0,if_neg (by simp[hne]),hpl,List.take_left,List.drop_left,cQu wp ws h0 ht ps (fun y hy=>h y (List.mem_cons_of_mem _ hy)) n (by omega)]
end Go.Proofs.YtcggfnlejalppaaGreatDoor
