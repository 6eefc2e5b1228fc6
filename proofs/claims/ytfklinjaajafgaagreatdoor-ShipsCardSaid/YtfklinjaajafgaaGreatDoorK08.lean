import Derived.Test.YtfklinjaajafgaaGreatDoorK04
import Derived.Test.YtfklinjaajafgaaGreatDoorK07
import Derived.LaidEql
import Derived.Stop.Asserts
import Derived.Stop.IfaceNil
import Derived.RowKitTokens
import Derived.Laws.Externs
import Derived.Test.YtfklinjaajafgaaGreatDoorK02
set_option maxRecDepth 100000
set_option maxHeartbeats 4000000
namespace Go.Proofs.YtfklinjaajafgaaGreatDoor
open Go.RowKit Go.Extern
theorem uQt (v:Value)(w:World):(Extern.ReflectliteType.typeOf #[.iface 251 v]).run Tryz.prog w=.ok (.iface 194 (.agg #[.pointer (some ⟨5,251,none⟩)])) w:=by kernel_rfl
theorem isComparable (w : World) : ((Extern.ReflectliteType.method fun t => do Rtype.noPackHeld "Comparable" t; pure (.bool (<- typeInfo t).comparable)) #[.agg #[.pointer (some ⟨5, 251, none⟩)]]).run Tryz.prog w = .ok (.bool true) w := by kernel_rfl
theorem iQj (v:Value)(w:World):(callFunc 106 #[.iface 251 v]).run Tryz.prog w=.ok (.value (.iface 194 (.agg #[.pointer (some ⟨5,251,none⟩)]))) w:=by
 rw[@run_callFunc_extern Tryz.prog 106 _ Extern.ReflectliteType.typeOf Tryz.func106 (by kernel_rfl) (by kernel_rfl) (by kernel_rfl) (by kernel_rfl),uQt];rfl
theorem iQi (w:World):(callFunc 240 #[.agg #[.pointer (some ⟨5,251,none⟩)]]).run Tryz.prog w=.ok (.value (.bool true)) w:=by
 rw [@run_callFunc_extern Tryz.prog 240 _ (Extern.ReflectliteType.method fun t => do Rtype.noPackHeld "Comparable" t; pure (.bool (<- typeInfo t).comparable)) Tryz.func240 (by kernel_rfl) (by kernel_rfl) (by kernel_rfl) (by kernel_rfl), isComparable]
 rfl
theorem isMethodComparable (v : Value) (w : World) : (Go.method 385 194 v "Comparable").run Tryz.prog w = .ok (240, v) w := by kernel_rfl
theorem jQw:(Tryz.prog.info? 251).map (·.comparable)=some true:=by kernel_rfl
theorem jQz:(Tryz.prog.info? 274).map (·.size)=some 1:=by kernel_rfl
theorem wQw (v:Value)(xT:TypeId)(w:World):(Instr.typeAssert (.iface 251 v) xT 196 true).run Tryz.prog w=.ok (.tuple #[.nilIface,.bool false]) w:=run_typeAssert_lacksB Tryz.underlying196 (by kernel_rfl) (by kernel_rfl) v xT w
theorem wQx (v:Value)(xT:TypeId)(w:World):(Instr.typeAssert (.iface 251 v) xT 199 true).run Tryz.prog w=.ok (.tuple #[.nilIface,.bool false]) w:=run_typeAssert_lacksB Tryz.underlying199 (by kernel_rfl) (by kernel_rfl) v xT w
theorem wQy (v:Value)(xT:TypeId)(w:World):(Instr.typeAssert (.iface 251 v) xT 201 true).run Tryz.prog w=.ok (.tuple #[.nilIface,.bool false]) w:=run_typeAssert_lacksB Tryz.underlying201 (by kernel_rfl) (by kernel_rfl) v xT w
theorem gQh (a:Addr)(w:World) :
  Calls Tryz.prog 80 #[D0 a,D0 a] w fun e w'=>e=.returned (.bool true)/\w'=w:=by
 obtain⟨i,hi,hcmp⟩:=Option.map_eq_some_iff.1 jQw;obtain⟨j,hj,hjs⟩:=Option.map_eq_some_iff.1 jQz;have h8:=iQj;have h32:=iQi;have mR:=isMethodComparable;have heq:=run_eql_iface_ptr_same (P:=Tryz.prog) w a Tryz.underlying80 Tryz.underlying251 hi hcmp hj;go_enter Tryz.func80,Tryz.ntmps80;go_wp2
 refine wp_loop_rounds 1 ?_;rw[rounds_succ];go_wp2
 go_ret;exact⟨rfl,rfl⟩
theorem bQr (a b:Addr)(ca cb:Array Value)(ta tb:TypeId)(w:World)(hne:a≠b)(ha:w.heap[a.block]?=some (.cells ca ta (0,0)))(hb:w.heap[b.block]?=some (.cells cb tb (0,0))) :
  Calls Tryz.prog 80 #[D0 a,D0 b] w fun e w'=>e=.returned (.bool false)/\w'=w:=by
 obtain⟨i,hi,hcmp⟩:=Option.map_eq_some_iff.1 jQw;obtain⟨j,hj,hjs⟩:=Option.map_eq_some_iff.1 jQz;have h8:=iQj;have h32:=iQi;have mR:=isMethodComparable;have nE:=wQw;have uE:=wQx;have vE:=wQy;have heq:=run_eql_iface_ptr_other (P:=Tryz.prog) w Tryz.underlying80 Tryz.underlying251 hi hcmp hj (by rw[hjs];decide) hne ha hb;go_enter Tryz.func80,Tryz.ntmps80;go_wp2
 refine wp_loop_rounds 1 ?_;rw[rounds_succ];go_wp2
 go_ret;exact⟨rfl,rfl⟩
theorem tQf (w:World)(a0 a1 a2 a3:Addr)(h:Sent w a0 a1 a2 a3) :
  Calls Tryz.prog 45 #[D0 a0] w fun e w'=>e=.returned (.int .i64 1)/\w'=w:=by
 have c0:=h.c0;have c2:=h.c2;have hnn:=run_eql_iface_nil (P:=Tryz.prog) (w:=w) 80 (by kernel_rfl) 251 (.pointer (some a0));go_enter Tryz.func45,Tryz.ntmps45;go_wp2_with fail;refine(gQh a0 w).mono ?_;rintro e w' ⟨rfl,rfl⟩;go_wp2_with fail;go_ret;exact⟨rfl,rfl⟩
theorem tQg (w:World)(a0 a1 a2 a3:Addr)(h:Sent w a0 a1 a2 a3) :
  Calls Tryz.prog 45 #[D0 a2] w fun e w'=>e=.returned (.int .i64 3)/\w'=w:=by
 have c0:=h.c0;have c2:=h.c2;obtain⟨d0,t0,b0⟩:=h.b0;obtain⟨d2,t2,b2⟩:=h.b2;have hi0:=bQr a2 a0 d2 d0 t2 t0 w (Ne.symm h.n02) b2 b0;have hi2:=gQh a2 w;clear h b0 b2;have hnn:=run_eql_iface_nil (P:=Tryz.prog) (w:=w) 80 (by kernel_rfl) 251 (.pointer (some a2));go_enter Tryz.func45,Tryz.ntmps45;go_wp2_with fail;refine hi0.mono ?_;rintro e w' ⟨rfl,rfl⟩;go_wp2_with fail;refine hi2.mono ?_;rintro e w' ⟨rfl,rfl⟩;go_wp2_with fail;go_ret;exact⟨rfl,rfl⟩
theorem tQi (w:World)(a0 a1 a2 a3:Addr)(h:Sent w a0 a1 a2 a3) :
  Calls Tryz.prog 45 #[D0 a3] w fun e w'=>e=.returned (.int .i64 4)/\w'=w:=by
 have c0:=h.c0;have c2:=h.c2;have c3:=h.c3;obtain⟨d0,t0,b0⟩:=h.b0;obtain⟨d2,t2,b2⟩:=h.b2;obtain⟨d3,t3,b3⟩:=h.b3;have hi0:=bQr a3 a0 d3 d0 t3 t0 w (Ne.symm h.n03) b3 b0;have hi2:=bQr a3 a2 d3 d2 t3 t2 w (Ne.symm h.n23) b3 b2;have hi3:=gQh a3 w;clear h b0 b2 b3;have hnn:=run_eql_iface_nil (P:=Tryz.prog) (w:=w) 80 (by kernel_rfl) 251 (.pointer (some a3));go_enter Tryz.func45,Tryz.ntmps45;go_wp2_with fail;refine hi0.mono ?_;rintro e w' ⟨rfl,rfl⟩;go_wp2_with fail;refine hi2.mono ?_;rintro e w' ⟨rfl,rfl⟩;go_wp2_with fail;refine hi3.mono ?_;rintro e w' ⟨rfl,rfl⟩;go_wp2_with fail;go_ret;exact⟨rfl,rfl⟩
theorem tQh (w:World)(a0 a1 a2 a3:Addr)(h:Sent w a0 a1 a2 a3) :
  Calls Tryz.prog 45 #[D0 a1] w fun e w'=>e=.returned (.int .i64 2)/\w'=w:=by
 have c0:=h.c0;have c2:=h.c2;have c3:=h.c3;obtain⟨d0,t0,b0⟩:=h.b0;obtain⟨d1,t1,b1⟩:=h.b1;obtain⟨d2,t2,b2⟩:=h.b2;obtain⟨d3,t3,b3⟩:=h.b3;have hi0:=bQr a1 a0 d1 d0 t1 t0 w (Ne.symm h.n01) b1 b0;have hi2:=bQr a1 a2 d1 d2 t1 t2 w h.n12 b1 b2;have hi3:=bQr a1 a3 d1 d3 t1 t3 w h.n13 b1 b3;clear h b0 b1 b2 b3;have hnn:=run_eql_iface_nil (P:=Tryz.prog) (w:=w) 80 (by kernel_rfl) 251 (.pointer (some a1));go_enter Tryz.func45,Tryz.ntmps45;go_wp2_with fail;refine hi0.mono ?_;rintro e w' ⟨rfl,rfl⟩;go_wp2_with fail;refine hi2.mono ?_;rintro e w' ⟨rfl,rfl⟩;go_wp2_with fail;refine hi3.mono ?_;rintro e w' ⟨rfl,rfl⟩;go_wp2_with fail;go_ret;exact⟨rfl,rfl⟩
theorem mPlace (x : Value) (w : World) : (Go.method 385 180 x "Size").run Tryz.prog w = .ok (233, x) w := by kernel_rfl
theorem mRow (x : Value) (w : World) : (Go.method 385 184 x "Size").run Tryz.prog w = .ok (234, x) w := by kernel_rfl
theorem mChoice (x : Value) (w : World) : (Go.method 385 187 x "Size").run Tryz.prog w = .ok (236, x) w := by kernel_rfl
theorem mRepeat (x : Value) (w : World) : (Go.method 385 189 x "Size").run Tryz.prog w = .ok (237, x) w := by kernel_rfl
def dn:Ls.D->Nat
 | ⟨_,_,[]⟩=>1
 | ⟨_,_,[a]⟩=>dn a+1
 | ⟨_,_,[a,b]⟩=>dn a+dn b+1
 | _=>1
theorem aQi (t:Nat)(a:Ls.D):dn (Ls.rep t a)=dn a+1:=by simp[Ls.rep,dn]
theorem X3 (a r:Ls.D):dn (Ls.rcons a r)=dn a+dn r+1:=by simp[Ls.rcons,dn]
theorem bQk (r:Ls.D):dn (Ls.clast r)=dn r+1:=by simp[Ls.clast,dn]
theorem bQj (r c:Ls.D):dn (Ls.ccons r c)=dn r+dn c+1:=by simp[Ls.ccons,dn]
theorem Rep.things {w:World}{G:Nat->Prop}{r:Nat}{d:Ls.D}{vs:List Value}(h:Rep w G r d vs)(hr:r=1):∃l:List Ls.D,d=l.foldr Ls.rcons Ls.rnil/\Each w G l vs:=by
 induction h using Rep.ind with
 | rnil=>exact⟨[],rfl,.nil⟩
 | rcons h1 _ _ ih=>
  obtain⟨l,e,hl⟩:=ih rfl;exact⟨_::l,by rw[e];rfl,.cons h1 hl⟩
 | _=>cases hr
theorem Rep.sides {w:World}{G:Nat->Prop}{r:Nat}{d:Ls.D}{vs:List Value}(h:Rep w G r d vs)(hr:r=2):∃l:List Ls.D,l≠[]/\d=F0 l/\Each w G l vs:=by
 induction h using Rep.ind with
 | clast h1 _=>exact⟨[_],by simp,rfl,.cons h1 .nil⟩
 | ccons h1 _ _ ih=>
  obtain⟨l,hn,e,hl⟩:=ih rfl;refine⟨_::l,by simp,?_,.cons h1 hl⟩;cases l with
  | nil=>exact absurd rfl hn
  | cons b l=>rw[e];rfl
 | _=>cases hr
theorem iQ9 (l:List Ls.D):∀a,a∈l->dn a<dn (l.foldr Ls.rcons Ls.rnil):=by
 induction l with
 | nil=>simp
 | cons b l ih=>
  intro a ha;simp only[List.foldr_cons,X3];simp only[List.mem_cons]at ha;rcases ha with rfl|ha
  ·omega
  ·have:=ih a ha;omega
theorem iQ8 (l:List Ls.D):∀a,a∈l->dn a<dn (F0 l):=by
 induction l with
 | nil=>simp
 | cons b l ih=>
  intro a ha;cases l with
  | nil=>simp only[List.mem_cons,List.not_mem_nil,or_false]at ha;subst ha;simp only[F0,bQk];omega
  | cons c l=>
   simp only[F0,bQj];rw[List.mem_cons]at ha;rcases ha with rfl|ha
   ·omega
   ·have:=ih a ha;omega
def F7:List Ls.D->Nat
 | []=>0
 | a::l=>Ls.dsize a+F7 l
theorem mQj (l:List Ls.D)(a:Ls.D):F7 (l++[a])=F7 l+Ls.dsize a:=by
 induction l with
 | nil=>simp[F7]
 | cons b l ih=>simp only[List.cons_append,F7,ih];omega
theorem hQo (l:List Ls.D)(k:Nat):F7 (l.take k)<=F7 l:=by
 induction l generalizing k with
 | nil=>simp
 | cons b l ih=>
  cases k with
  | zero=>simp[F7]
  | succ k=>simp only[List.take_succ_cons,F7];have:=ih k;omega
theorem mQi (l:List Ls.D):Ls.dsize (l.foldr Ls.rcons Ls.rnil)=F7 l:=by
 induction l with
 | nil=>exact Ls.eX6
 | cons a l ih=>simp only[List.foldr_cons,Ls.fXd,F7,ih]
theorem mQf (l:List Ls.D)(h:l≠[]):Ls.dsize (F0 l)=F7 l:=by
 induction l with
 | nil=>exact absurd rfl h
 | cons a l ih=>
  cases l with
  | nil=>simp[F0,Ls.fXx,F7]
  | cons b l=>simp only[F0,Ls.fXw,ih (by simp),F7]
theorem mQh (l:List Ls.D):l.length<dn (l.foldr Ls.rcons Ls.rnil):=by
 induction l with
 | nil=>simp[Ls.rnil,dn]
 | cons a l ih=>simp only[List.length_cons,List.foldr_cons,X3];omega
theorem iQq (l:List Ls.D):l.length<=dn (F0 l):=by
 induction l with
 | nil=>simp
 | cons a l ih=>
  cases l with
  | nil=>simp only[F0,bQk,List.length_cons,List.length_nil];omega
  | cons b l=>simp only[F0,bQj,List.length_cons]at ih ⊢;omega
theorem Each.get {w:World}{G:Nat->Prop}{l:List Ls.D}{vs:List Value}(h:Each w G l vs)(k:Nat)(hk:k<l.length):∃ty x,vs[k]?=some (.iface ty x)/\Rep w G 0 l[k] [.iface ty x]:=by
 induction h using Each.ind generalizing k with
 | nil=>simp at hk
 | cons hr _ ih=>
  cases k with
  | zero=>obtain⟨ty,x,rfl⟩:=hr.iface;exact⟨ty,x,rfl,hr⟩
  | succ k=>exact ih k (by simpa using hk)
def bQb (d:Ls.D):Prop:=Ls.dsize d<=1048576->∀(w:World) (G:Nat->Prop) (ty:TypeId) (x:Value),Old w G->Rep w G 0 d [.iface ty x]->
 ∃ f, (∀ w, (Go.method 385 ty x "Size").run Tryz.prog w = .ok (f, x) w) /\ (∀ w, (callFunc f #[x]).run Tryz.prog w = .ok (.enter f #[x]) w) /\ Calls Tryz.prog f #[x] w fun e w' => e = .returned (.int .i64 (Ls.dsize d)) /\ Below w.heap.size w w'
theorem Shows.shape {w:World}{G:Nat->Prop}{sl:Value}{vs:List Value}(h:Shows w G sl vs):(sl=.slice none 0 0/\vs=[])\/∃g cap,sl=.slice (some ⟨g,0,none⟩) vs.length cap/\G g/\∀k,k<vs.length->w.cell? ⟨g,k,none⟩=vs[k]?:=by
 rcases h.own.2 with⟨h1,h2⟩|⟨g,cap,cur,rfl,h3⟩
 ·exact .inl ⟨h1,List.eq_nil_of_length_eq_zero h2⟩
 ·exact .inr ⟨g,cap,rfl,h.inG g rfl,fun k hk=>h.own.cellAt k (by omega)⟩
theorem Shows.later {w w':World}{G:Nat->Prop}{sl:Value}{vs:List Value}(h:Shows w G sl vs)(hG:Old w G)(hb:Below w.heap.size w w'):Shows w' G sl vs:=
 h.mono (fun _ h=>h) (fun k hk=>hb.block k (hG k hk))
theorem Rep.later {w w':World}{G:Nat->Prop}{d:Ls.D}{v:Value}(h:Rep w G 0 d [v])(hG:Old w G)(hb:Below w.heap.size w w'):Rep w' G 0 d [v]:=
 h.mono (fun _ h=>h) (fun k hk=>hb.block k (hG k hk))
theorem Each.later {w w':World}{G:Nat->Prop}{l:List Ls.D}{vs:List Value}(h:Each w G l vs)(hG:Old w G)(hb:Below w.heap.size w w'):Each w' G l vs:=
 h.mono (fun _ h=>h) (fun k hk=>hb.block k (hG k hk))
theorem mQd (l:List Ls.D)(hl:∀a,a∈l->bQb a)(hn:F7 l<=1048576)(hln:l.length<=1048577)(w:World)(G:Nat->Prop)(hG:Old w G)(sl:Value)(vs:List Value)(hs:Shows w G sl vs)(he:Each w G l vs) :
  Calls Tryz.prog 235 #[sl] w fun e w'=>e=.returned (.int .i64 (F7 l))/\Below w.heap.size w w':=by
 have Hl:Hid (∀a,a∈l->bQb a):=hl;clear hl;have hlen:=he.length;rcases hs.shape with⟨rfl,rfl⟩|⟨g,cap,rfl,hgG,hcell⟩
 ·obtain rfl:l=[]:=List.eq_nil_of_length_eq_zero (by simpa using hlen.symm)
  clear hs he;go_enter Tryz.func235,Tryz.ntmps235;go_wp2_with fail;refine wp_loop_rounds 1 ?_;rw[rounds_succ];go_wp2_with fail;go_ret;exact⟨rfl,Below.refl _ _⟩
 ·have hgl:=hG g hgG
  have HS:Hid _:=hs;have HE:Hid _:=he;clear hs he hcell;rw[hlen];have Hlen:Hid _:=hlen;clear hlen;go_enter Tryz.func235,Tryz.ntmps235;go_wp2_with fail;go_loopw [3,8] (fun t i wr=>∃k:Nat,k<=l.length/\i=.int .i64 k/\t=.int .i64 (F7 (l.take k))/\Below w.heap.size w wr) (fun _ i _=>l.length-(intOf i).toNat)
  case atStart=>exact⟨0,Nat.zero_le _,rfl,by simp[F7],Below.refl _ _⟩
  case round=>
   obtain⟨k,hk,rfl,rfl,hb⟩:=hrel;have hst:=hQo l k
   by_cases hlt:k<l.length
   ·have hsw:=HS.out.later hG hb
    have hew:=HE.out.later hG hb;obtain⟨ty,x,hx,hrep⟩:=hew.get k hlt;obtain⟨f,hm,hcf,hf⟩:=Hl.out l[k] (List.getElem_mem hlt) (by
     have:=hQo l (k+1);rw[List.take_succ_eq_append_getElem hlt,mQj]at this;omega) wr G ty x (hG.below hb) hrep
    have hc:wr.cell? ⟨g,k,none⟩=some (.iface ty x):=by
     rcases hsw.shape with⟨e,_⟩|⟨g',cap',e,_,hcell⟩
     ·cases e
     ·injection e with e1 e2 e3
      injection e1 with e1;injection e1 with e1;subst e1;rw[hcell k (by rw[Hlen.out];exact hlt),hx]
    have hsum:Hid (F7 (l.take (k+1))=F7 (l.take k)+Ls.dsize l[k]):=by show _=_;rw[List.take_succ_eq_append_getElem hlt,mQj]
    have hst2:=hQo l (k+1);rw[hsum.out]at hst2;clear hsw hew hrep hx;go_wp2_with fail;refine hf.mono ?_;rintro e w3 ⟨rfl,hb3⟩;go_wp2_with fail;go_roundw
    case rel=>exact⟨k+1,by omega,by go_num,by rw[hsum.out];go_num,Below.join hb hb3⟩
    case measure=>simp[intOf];omega
   ·have hk1:k=l.length:=by omega
    go_wp2_with fail;go_ret;rw[hk1,List.take_length];exact⟨rfl,hb⟩
theorem qQx (x:Value)(w:World):(callFunc 233 #[x]).run Tryz.prog w=.ok (.enter 233 #[x]) w:=by kernel_rfl
theorem qQz (x:Value)(w:World):(callFunc 234 #[x]).run Tryz.prog w=.ok (.enter 234 #[x]) w:=by kernel_rfl
theorem qQw (x:Value)(w:World):(callFunc 236 #[x]).run Tryz.prog w=.ok (.enter 236 #[x]) w:=by kernel_rfl
theorem qQy (x:Value)(w:World):(callFunc 237 #[x]).run Tryz.prog w=.ok (.enter 237 #[x]) w:=by kernel_rfl
theorem mQe (d:Ls.D)(hI:∀a,dn a<dn d->bQb a)(hlen:dn d<=1048577):bQb d:=by
 intro hn w G ty x hG h;rcases h.at0 with⟨s,lo,hi,hS,rfl,hv⟩|⟨t,a,v',ht,h1,rfl,hv⟩|⟨sl,vs,hs,h1,hv⟩|⟨sl,vs,hs,h1,hv⟩<;>cases hv<;>clear h
 ·clear hS
  refine⟨_,mPlace _,qQx _,?_⟩;rw[Ls.eX3];go_enter Tryz.func233,Tryz.ntmps233;go_wp2_with fail;go_ret;exact⟨rfl,A5 _ _⟩
 ·clear ht
  obtain⟨ty,y,rfl⟩:=h1.iface;refine⟨_,mRepeat _,qQy _,?_⟩;rw[Ls.eXu]at hn ⊢;have H1:Hid _:=h1;have HI:Hid (bQb a):=hI a (by rw[aQi];omega);clear hI h1;obtain⟨f,hm,hcf,hf⟩:=HI.out hn (w.alloc (.cells #[.iface ty y,.bool (t != 6),.bool (t != 7)] 189)) G ty y (hG.alloc _) (H1.out.later hG (A5 _ _));go_enter Tryz.func237,Tryz.ntmps237;go_wp2_with fail;refine hf.mono ?_;rintro e w3 ⟨rfl,hb3⟩;go_wp2_with fail;go_ret;exact⟨rfl,Below.join (A5 _ _) hb3⟩
 ·obtain⟨l,rfl,he⟩:=h1.things rfl
  refine⟨_,mRow _,qQz _,?_⟩;rw[mQi]at hn ⊢;have hb:=A5 w (.cells #[sl] 184);have hl:=mQh l;have H:=mQd l (fun a ha=>hI a (iQ9 l a ha)) hn (by omega) _ G (hG.alloc (.cells #[sl] 184)) sl vs (hs.later hG hb) (he.later hG hb);obtain⟨x1,x2,x3,rfl⟩:∃a n c,sl=.slice a n c:=by
   rcases hs.shape with⟨e,_⟩|⟨_,_,e,_⟩<;>exact⟨_,_,_,e⟩
  clear hs h1 he hI;go_enter Tryz.func234,Tryz.ntmps234;go_wp2_with fail;refine H.mono ?_;rintro e w3 ⟨rfl,hb3⟩;go_wp2_with fail;go_ret;exact⟨rfl,Below.join hb hb3⟩
 ·obtain⟨l,hne,rfl,he⟩:=h1.sides rfl
  refine⟨_,mChoice _,qQw _,?_⟩;rw[mQf l hne]at hn ⊢;have hb:=A5 w (.cells #[sl] 187);have hl:=iQq l;have H:=mQd l (fun a ha=>hI a (iQ8 l a ha)) hn (by omega) _ G (hG.alloc (.cells #[sl] 187)) sl vs (hs.later hG hb) (he.later hG hb);obtain⟨x1,x2,x3,rfl⟩:∃a n c,sl=.slice a n c:=by
   rcases hs.shape with⟨e,_⟩|⟨_,_,e,_⟩<;>exact⟨_,_,_,e⟩
  clear hs h1 he hI;go_enter Tryz.func236,Tryz.ntmps236;go_wp2_with fail;refine H.mono ?_;rintro e w3 ⟨rfl,hb3⟩;go_wp2_with fail;go_ret;exact⟨rfl,Below.join hb hb3⟩
theorem hQn (n:Nat):∀d,dn d<=n->dn d<=1048577->bQb d:=by
 induction n with
 | zero=>intro d hd h;exact mQe d (fun a ha=>by omega) h
 | succ n ih=>intro d hd h;exact mQe d (fun a ha=>ih a (by omega) (by omega)) h
def Y2 (P:List UInt8->Ls.Rd):Prop:=∀r d t,P r=some (d,t)->dn d+4*t.length<=4*r.length+2
theorem bQ8 (s:List UInt8):dn (Ls.place s)=1:=by simp[Ls.place,dn]
theorem T6:dn Ls.rnil=1:=by simp[Ls.rnil,dn]
theorem wQ4 {P:List UInt8->Ls.Rd}(hP:Y2 P){r:List UInt8}{d:Ls.D}{t:List UInt8}(h:Ls.dX5 P r=some (d,t)):dn d+4*t.length+1<=4*r.length:=by
 cases r with
 | nil=>simp[Ls.dX5]at h
 | cons c r=>
  unfold Ls.dX5 at h;dsimp only at h
  split at h
  ·split at h
   ·simp at h
   ·rename_i e u he
    have h1:=hP _ _ _ he;split at h
    ·rename_i h41
     have:=Ls.eXg h41;simp at h;obtain⟨rfl,rfl⟩:=h;simp only[List.length_cons];omega
    ·simp at h
  ·split at h
   ·split at h
    ·simp at h
    ·rename_i e u he
     have h1:=Ls.hXq _ _ _ _ _ he;simp at h;obtain⟨rfl,rfl⟩:=h;rw[bQ8];simp only[List.length_cons];omega
   ·split at h
    ·simp at h;obtain⟨rfl,rfl⟩:=h;rw[bQ8];simp only[List.length_cons];omega
    ·split at h
     ·split at h
      ·simp at h
      ·split at h
       ·simp at h;obtain⟨rfl,rfl⟩:=h
        rw[bQ8];simp only[List.length_cons];omega
       ·simp at h
     ·split at h
      ·simp at h
      ·simp at h;obtain⟨rfl,rfl⟩:=h;rw[bQ8];simp only[List.length_cons];omega
theorem bX6 {P:List UInt8->Ls.Rd}(hP:Y2 P){r:List UInt8}{d:Ls.D}{t:List UInt8}(h:Ls.fXe P r=some (d,t)):dn d+4*t.length+1<=4*r.length:=by
 rw[Ls.fXe]at h;split at h
 ·simp at h
 ·rename_i a u hu
  have h1:=wQ4 hP hu;split at h
  ·rename_i hx
   have:=Ls.eXg hx;simp at h;obtain⟨rfl,rfl⟩:=h;rw[aQi];omega
  ·split at h
   ·rename_i hx
    have:=Ls.eXg hx;simp at h;obtain⟨rfl,rfl⟩:=h;rw[aQi];omega
   ·split at h
    ·rename_i hx
     have:=Ls.eXg hx;simp at h;obtain⟨rfl,rfl⟩:=h;rw[aQi];omega
    ·simp at h;obtain⟨rfl,rfl⟩:=h;exact h1
theorem mQ7 {P:List UInt8->Ls.Rd}(hP:Y2 P):(n:Nat)->(r:List UInt8)->(d:Ls.D)->(t:List UInt8)->Ls.things P n r=some (d,t)->dn d+4*t.length<=4*r.length+1
 | 0,_,_,_,h=>by simp[Ls.things]at h
 | n+1,r,d,t,h=>by
  rw[Ls.things]at h;split at h
  ·simp at h;obtain⟨rfl,rfl⟩:=h;rw[T6];omega
  ·split at h
   ·simp at h
   ·rename_i a r1 h1
    have h2:=bX6 hP h1;split at h
    ·simp at h
    ·rename_i b r2 h3
     have h4:=mQ7 hP n r1 b r2 h3;simp at h;obtain⟨rfl,rfl⟩:=h;rw[X3];omega
theorem iQa {P:List UInt8->Ls.Rd}(hP:Y2 P):(n:Nat)->(r:List UInt8)->(d:Ls.D)->(t:List UInt8)->Ls.alts P n r=some (d,t)->dn d+4*t.length<=4*r.length+2
 | 0,_,_,_,h=>by simp[Ls.alts]at h
 | n+1,r,d,t,h=>by
  rw[Ls.alts]at h;split at h
  ·simp at h
  ·rename_i a r1 h1
   have h2:=mQ7 hP _ _ _ _ h1;split at h
   ·rename_i hx
    have:=Ls.eXg hx;split at h
    ·simp at h
    ·rename_i b r3 h3
     have h4:=iQa hP n _ b r3 h3;simp at h;obtain⟨rfl,rfl⟩:=h;rw[bQj];omega
   ·simp at h;obtain⟨rfl,rfl⟩:=h;rw[bQk];omega
theorem gQ5:(d:Nat)->Y2 (Ls.pat d)
 | 0=>fun r e t h=>by simp[Ls.pat]at h
 | d+1=>fun r e t h=>iQa (gQ5 d) _ _ _ _ h
def bQn (a0 a1 a2 a3:Addr)(n:Nat):Addr:=if n=1 then a0 else if n=2 then a1 else if n=3 then a2 else a3
theorem tQe (w:World)(a0 a1 a2 a3:Addr)(h:Sent w a0 a1 a2 a3)(r:Nat)(hr:r=1\/r=2\/r=3\/r=4) :
  Calls Tryz.prog 45 #[D0 (bQn a0 a1 a2 a3 r)] w fun e w'=>e=.returned (.int .i64 r)/\w'=w:=by
 rcases hr with rfl|rfl|rfl|rfl
 ·exact tQf w a0 a1 a2 a3 h
 ·exact tQh w a0 a1 a2 a3 h
 ·exact tQg w a0 a1 a2 a3 h
 ·exact tQi w a0 a1 a2 a3 h
end Go.Proofs.YtfklinjaajafgaaGreatDoor
namespace Ls
def gX2:List UInt8->D
 | []=>rnil
 | c::w=>rcons (place [c]) (gX2 w)
def dX7 (a b:D):D:=rcons a (rcons b rnil)
def eXk (a b:D):D:=ccons a (clast b)
def dS:Ln->D
 | ⟨k,p,_,[]⟩=>if k=0\/k=1 then p else rnil
 | ⟨_,_,_,[a]⟩=>rep 5 (dS a)
 | ⟨k,_,_,[a,b]⟩=>if k=5 then eXk (dS a) (dS b) else dX7 (dS a) (dS b)
 | _=>rnil
def dV:Ln->D
 | ⟨k,p,w,[]⟩=>if k=0 then p else if k=2 then gX2 w else rnil
 | ⟨_,_,_,[a]⟩=>rep 5 (dV a)
 | ⟨k,_,_,[a,b]⟩=>if k=5 then eXk (dV a) (dV b) else if k=4 then dX7 (dV b) (dV a) else dX7 (dV a) (dV b)
 | _=>rnil
theorem hXd (a b:D)(s:List UInt8):inL (dXu (rcons a b)) s↔∃u v,s=u++v/\inL (dXu a) u/\inL (dXu b) v:=by
 rw[fX3];exact hX5 _ _ (jXc a) (jXc b) s
theorem eX4 (a b:D)(s:List UInt8):inL (dXu (dX7 a b)) s↔∃u v,s=u++v/\inL (dXu a) u/\inL (dXu b) v:=by
 unfold dX7;rw[hXd];constructor
 ·rintro ⟨u,v,e,hu,hv⟩
  rw[hXd]at hv;obtain⟨x,y,e2,hx,hy⟩:=hv;rw[eXb,eXe]at hy;subst hy;rw[List.append_nil]at e2;subst e2;exact⟨u,v,e,hu,hx⟩
 ·rintro ⟨u,v,e,hu,hv⟩
  exact⟨u,v,e,hu,(hXd _ _ _).2 ⟨v,[],by simp,hv,by rw[eXb,eXe]⟩⟩
theorem fXj (a b:D)(s:List UInt8):inL (dXu (eXk a b)) s↔inL (dXu a) s\/inL (dXu b) s:=by
 unfold eXk;rw[fX1,fX2,fXr]
theorem eX5 (a:D)(s:List UInt8):inL (dXu (rep 5 a)) s↔gXm (inL (dXu a)) s:=by rw[gXd,eXf]
theorem eX8 {L M:List UInt8->Prop}(h:∀s,L s↔M s)(s:List UInt8):gXm L s↔gXm M s:=by
 obtain rfl:L=M:=funext fun s=>propext (h s);exact Iff.rfl
theorem jXi:(w:List UInt8)->wf (eXp w)->∀s,inL (dXu (gX2 w)) s↔inL (eXp w) s
 | [],_,s=>by
  show inL (dXu rnil) s↔_;rw[eXb];exact Iff.rfl
 | c::w,h,s=>by
  show inL (dXu (rcons (place [c]) (gX2 w))) s↔inL (row (set [c]) (eXp w)) s;rw[hXd,eXw];have hw:wf (eXp w)/\wf (set [c]):=by
   have h:wf (row (set [c]) (eXp w)):=h;unfold row at h;rw[if_neg (by simp[set])]at h;split at h
   ·rename_i hk
    refine⟨?_,h⟩;cases w with
    | nil=>exact fXo
    | cons d w=>
     exfalso
     have hk:(row (set [d]) (eXp w)).kind=0:=hk;unfold row at hk;rw[if_neg (by simp[set])]at hk;split at hk<;>simp[set,fXt]at hk
   ·simp[fXt,wf]at h
    exact⟨h.2.2,h.2.1⟩
  rw[eXi hw.2 hw.1];simp only[jXi w hw.1]
theorem fX5 {a b:D}{p q:Pat}(h1:∀s,inL (dXu a) s↔inL p s)(h2:∀s,inL (dXu b) s↔inL q s)(hp:wf p)(hq:wf q)(s:List UInt8):inL (dXu (dX7 a b)) s↔inL (row p q) s:=by
 rw[eX4,eXi hp hq];simp only[h1,h2]
theorem eXv {c:Nat}:(l:Ln)->OkL c l->∀s,inL (dXu (dS l)) s↔inL (dXx l) s
 | ⟨k,p,w,[]⟩,h,s=>by
  rw[dS,dXx];split
  ·exact Iff.rfl
  ·rw[eXb]
 | ⟨k,p,w,[a]⟩,h,s=>by
  rw[OkL]at h;rw[dS,dXx,if_pos h.2.1,eX5,eXf];exact eX8 (eXv a h.2.2) s
 | ⟨k,p,w,[a,b]⟩,h,s=>by
  rw[OkL]at h;obtain⟨_,hk,ha,hb⟩:=h;rw[dS,dXx];rcases hk with rfl|rfl|rfl
  ·rw[if_neg (by omega),if_pos (.inl rfl)]
   exact fX5 (eXv a ha) (eXv b hb) ha.src.ok hb.src.ok s
  ·rw[if_neg (by omega),if_pos (.inr rfl)]
   exact fX5 (eXv a ha) (eXv b hb) ha.src.ok hb.src.ok s
  ·rw[if_pos rfl,if_neg (by omega),if_pos rfl,fXj,fXr,eXv a ha,eXv b hb]
 | ⟨k,p,w,_::_::_::_⟩,h,_=>by simp[OkL]at h
theorem eXx {c:Nat}:(l:Ln)->OkL c l->∀s,inL (dXu (dV l)) s↔inL (dXv l) s
 | ⟨k,p,w,[]⟩,h,s=>by
  rw[OkL]at h;have hv:=h.1.2.ok;rw[dV,dXv];rw[dXv]at hv;split
  ·exact Iff.rfl
  ·rename_i h0
   rw[if_neg h0]at hv;split
   ·rename_i h2
    rw[if_pos h2]at hv;exact jXi w hv s
   ·rw[eXb]
 | ⟨k,p,w,[a]⟩,h,s=>by
  rw[OkL]at h;rw[dV,dXv,if_pos h.2.1,eX5,eXf];exact eX8 (eXx a h.2.2) s
 | ⟨k,p,w,[a,b]⟩,h,s=>by
  rw[OkL]at h;obtain⟨_,hk,ha,hb⟩:=h;rw[dV,dXv];rcases hk with rfl|rfl|rfl
  ·rw[if_neg (by omega),if_neg (by omega),if_pos rfl]
   exact fX5 (eXx a ha) (eXx b hb) ha.view.ok hb.view.ok s
  ·rw[if_neg (by omega),if_pos rfl,if_neg (by omega),if_pos rfl]
   exact fX5 (eXx b hb) (eXx a ha) hb.view.ok ha.view.ok s
  ·rw[if_pos rfl,if_neg (by omega),if_neg (by omega),if_pos rfl,fXj,fXr,eXx a ha,eXx b hb]
 | ⟨k,p,w,_::_::_::_⟩,h,_=>by simp[OkL]at h
theorem gX4:(w:List UInt8)->dsize (gX2 w)=w.length
 | []=>by simp[gX2,eX6]
 | c::w=>by rw[gX2,fXd,eX3,gX4 w,List.length_cons];omega
theorem gXe (a b:D):dsize (dX7 a b)=dsize a+dsize b:=by rw[dX7,fXd,fXd,eX6];omega
theorem gXf (a b:D):dsize (eXk a b)=dsize a+dsize b:=by rw[eXk,fXw,fXx]
theorem eXs {c:Nat}:(l:Ln)->OkL c l->dsize (dS l)<=dXw l
 | ⟨k,p,w,[]⟩,_=>by
  rw[dS,dXw];split
  ·omega
  ·rw[eX6];omega
 | ⟨k,p,w,[a]⟩,h=>by
  rw[OkL]at h;have:=eXs a h.2.2;rw[dS,dXw,if_pos h.2.1,eXu];omega
 | ⟨k,p,w,[a,b]⟩,h=>by
  rw[OkL]at h;have h1:=eXs a h.2.2.1;have h2:=eXs b h.2.2.2;rw[dS,dXw];split
  ·rw[gXf];omega
  ·rw[gXe];omega
 | ⟨k,p,w,_::_::_::_⟩,h=>by simp[OkL]at h
theorem eXo {c:Nat}:(l:Ln)->OkL c l->dsize (dV l)<=dXw l
 | ⟨k,p,w,[]⟩,_=>by
  rw[dV,dXw];split
  ·omega
  ·split
   ·rw[gX4];omega
   ·rw[eX6];omega
 | ⟨k,p,w,[a]⟩,h=>by
  rw[OkL]at h;have:=eXo a h.2.2;rw[dV,dXw,if_pos h.2.1,eXu];omega
 | ⟨k,p,w,[a,b]⟩,h=>by
  rw[OkL]at h;have h1:=eXo a h.2.2.1;have h2:=eXo b h.2.2.2;rw[dV,dXw];split
  ·rw[gXf];omega
  ·split<;>rw[gXe]<;>omega
 | ⟨k,p,w,_::_::_::_⟩,h=>by simp[OkL]at h
end Ls
namespace Go.Proofs.YtfklinjaajafgaaGreatDoor
def cn:Ls.Ln->Nat
 | ⟨_,p,w,[]⟩=>dn p+2*w.length+2
 | ⟨_,_,_,[a]⟩=>cn a+1
 | ⟨_,_,_,[a,b]⟩=>cn a+cn b+4
 | _=>1
theorem fQ6:(w:List UInt8)->dn (Ls.gX2 w)=2*w.length+1
 | []=>by simp[Ls.gX2,T6]
 | c::w=>by rw[Ls.gX2,X3,bQ8,fQ6 w,List.length_cons];omega
theorem X1:(l:Ls.Ln)->dn (Ls.dS l)<=cn l
 | ⟨k,p,w,[]⟩=>by
  rw[Ls.dS,cn];split
  ·omega
  ·rw[T6];omega
 | ⟨k,p,w,[a]⟩=>by
  have:=X1 a;rw[Ls.dS,cn,aQi];omega
 | ⟨k,p,w,[a,b]⟩=>by
  have h1:=X1 a;have h2:=X1 b;rw[Ls.dS,cn];split
  ·rw[Ls.eXk,bQj,bQk];omega
  ·rw[Ls.dX7,X3,X3,T6];omega
 | ⟨k,p,w,_::_::_::_⟩=>by
  show dn Ls.rnil<=1;rw[T6];omega
theorem X2:(l:Ls.Ln)->dn (Ls.dV l)<=cn l
 | ⟨k,p,w,[]⟩=>by
  rw[Ls.dV,cn];split
  ·omega
  ·split
   ·rw[fQ6];omega
   ·rw[T6];omega
 | ⟨k,p,w,[a]⟩=>by
  have:=X2 a;rw[Ls.dV,cn,aQi];omega
 | ⟨k,p,w,[a,b]⟩=>by
  have h1:=X2 a;have h2:=X2 b;rw[Ls.dV,cn];split
  ·rw[Ls.eXk,bQj,bQk];omega
  ·split<;>rw[Ls.dX7,X3,X3,T6]<;>omega
 | ⟨k,p,w,_::_::_::_⟩=>by
  show dn Ls.rnil<=1;rw[T6];omega
end Go.Proofs.YtfklinjaajafgaaGreatDoor
namespace Go.Proofs.YtfklinjaajafgaaGreatDoor
open Go.RowKit
theorem zQv (s:ByteArray)(hs:s.size<=1048576)(a1:Addr)(z:Nat)(hz:z<=12)(rb i:Nat)(w:World)(h:RB w rb s i z)(hE:Env w rb a1)(hi:i<=s.size) :
  Calls Tryz.prog 94 #[.pointer (some ⟨rb,0,none⟩)] w (RPost w rb s i z a1 (Ls.pat (13-z) (rest s i))):=by
 have hC:=iQs s hs a1 (12-z) (by omega);rw[show 12-(12-z)=z from by omega]at hC;have hC2:=hC rb i w h hE hi;clear hC;go_enter Tryz.func94,Tryz.ntmps94;go_wp2_with fail;refine hC2.mono ?_;rintro e w1 (⟨d,j,v,hr,hij,hj,rfl,hrep,hl⟩|⟨hr,rfl,hg⟩)
 ·have HP:Hid (RPost w rb s i z a1 (Ls.pat (13-z) (rest s i)) (.returned v) w1):=.inl ⟨d,j,v,hr,hij,hj,rfl,hrep,hl⟩
  clear hr hrep hC2;go_wp2_with fail;go_ret;exact HP.out
 ·have HP:Hid (RPost w rb s i z a1 (Ls.pat (13-z) (rest s i)) (.panicked [{v:=D0 a1,recovered:=false}]) w1):=.inr ⟨hr,rfl,hg⟩
  clear hr hC2;go_wp2_with fail;exact⟨rfl,HP.out⟩
end Go.Proofs.YtfklinjaajafgaaGreatDoor
namespace Go.Proofs.YtfklinjaajafgaaGreatDoor
theorem rQr (d:Ls.D):cn (Ls.eXh d)=dn d+2:=by simp[Ls.eXh,cn]
theorem rQt (d:Ls.D)(w:List UInt8):cn (Ls.dX4 d w)=dn d+2*w.length+2:=by simp[Ls.dX4,cn]
theorem rQu (w:List UInt8):cn (Ls.hXb w)=2*w.length+3:=by simp[Ls.hXb,cn,T6];omega
theorem rQp (a b:Ls.Ln):cn (Ls.dXy a b)=cn a+cn b+4:=by simp[Ls.dXy,cn]
theorem rQq (a b:Ls.Ln):cn (Ls.dX1 a b)=cn a+cn b+4:=by simp[Ls.dX1,cn]
theorem rQw (a b:Ls.Ln):cn (Ls.eXc a b)=cn a+cn b+4:=by simp[Ls.eXc,cn]
theorem rQv (a:Ls.Ln):cn (Ls.fX0 a)=cn a+1:=by simp[Ls.fX0,cn]
theorem rQs (a:Ls.Ln):cn (Ls.fXf a)=cn a+1:=by simp[Ls.fXf,cn]
def aQr (Q:List UInt8->Ls.Rl):Prop:=∀r l t,Q r=some (l,t)->cn l+4+8*t.length<=8*r.length
theorem mQl {P:List UInt8->Ls.Rd}(hP:Y2 P){r:List UInt8}{d:Ls.D}{t:List UInt8}(h:Ls.dX8 P r=some (d,t)):dn d+4*t.length+2<=4*r.length:=by
 unfold Ls.dX8 at h;cases hp:P r with
 | none=>rw[hp]at h;cases h
 | some x=>
  obtain⟨e,u⟩:=x;rw[hp]at h;dsimp only at h
  split at h
  ·rename_i hh
   have hl:=Ls.eXd hh;simp only[Option.some.injEq,Prod.mk.injEq]at h;obtain⟨rfl,rfl⟩:=h;have:=hP _ _ _ hp;omega
  ·cases h
theorem fQt (l:Ls.Ln)(t:List UInt8):cn (Ls.eXy l t).1+8*(Ls.eXy l t).2.length<=cn l+8*t.length:=by
 unfold Ls.eXy;split
 ·rename_i hh
  have:=Ls.eXd hh;rw[rQv];dsimp only;omega
 ·exact Nat.le_refl _
theorem xQ2 {P:List UInt8->Ls.Rd}{Q:List UInt8->Ls.Rl}(hP:Y2 P)(hQ:aQr Q):aQr (Ls.dX9 P Q):=by
 intro r l t h;cases r with
 | nil=>simp[Ls.dX9]at h
 | cons c r=>
  simp only[Ls.dX9]at h;simp only[List.length_cons];split at h
  ·cases hp:Ls.dX8 P r with
   | none=>rw[hp]at h;cases h
   | some x=>
    obtain⟨d,u⟩:=x;rw[hp]at h;simp only[Option.some.injEq]at h;have h2:=mQl hP hp;have h4:=fQt (Ls.eXh d) u;rw[h,rQr]at h4;dsimp only at h4
    omega
  ·split at h
   ·split at h
    ·rename_i hh
     have hl:=Ls.eXd hh;cases hp:Ls.dX8 P r.tail with
     | none=>rw[hp]at h;cases h
     | some x=>
      obtain⟨d,u⟩:=x;rw[hp]at h;dsimp only at h
      have h2:=mQl hP hp;cases hw:Ls.eXq u with
      | none=>rw[hw]at h;cases h
      | some x=>
       obtain⟨w,v⟩:=x;rw[hw]at h;simp only[Option.some.injEq,Prod.mk.injEq]at h;obtain⟨rfl,rfl⟩:=h;obtain⟨h3,h4⟩:=Ls.hXa hw;rw[rQt];omega
    ·cases h
   ·split at h
    ·cases hw:Ls.eXq r with
     | none=>rw[hw]at h;cases h
     | some x=>
      obtain⟨w,v⟩:=x;rw[hw]at h;simp only[Option.some.injEq,Prod.mk.injEq]at h;obtain⟨rfl,rfl⟩:=h;obtain⟨h3,h4⟩:=Ls.hXa hw;rw[rQu];omega
    ·split at h
     ·cases hq:Q r with
      | none=>rw[hq]at h;cases h
      | some x=>
       obtain⟨a,u⟩:=x;rw[hq]at h;dsimp only at h
       have h2:=hQ _ _ _ hq;split at h
       ·rename_i hh
        have hl:=Ls.eXd hh;simp only[Option.some.injEq,Prod.mk.injEq]at h;obtain⟨rfl,rfl⟩:=h;rw[rQs];omega
       ·cases h
     ·split at h
      ·cases hq:Q r with
       | none=>rw[hq]at h;cases h
       | some x=>
        obtain⟨a,u⟩:=x;rw[hq]at h;dsimp only at h
        have h2:=hQ _ _ _ hq;split at h
        ·rename_i hh
         have hl:=Ls.eXd hh;cases hq2:Q u.tail with
         | none=>rw[hq2]at h;cases h
         | some x=>
          obtain⟨b,v⟩:=x;rw[hq2]at h;dsimp only at h
          have h4:=hQ _ _ _ hq2;split at h
          ·rename_i hh2
           have hl2:=Ls.eXd hh2;simp only[Option.some.injEq]at h;have h6:=fQt (Ls.dX1 a b) v.tail;rw[h,rQq]at h6;dsimp only at h6
           omega
          ·cases h
        ·split at h
         ·rename_i hh2
          have hl2:=Ls.eXd hh2;simp only[Option.some.injEq]at h;have h6:=fQt a u.tail;rw[h]at h6;dsimp only at h6
          omega
         ·cases h
      ·cases h
theorem lQe {P:List UInt8->Ls.Rd}{Q:List UInt8->Ls.Rl}(hP:Y2 P)(hQ:aQr Q):∀n,aQr (Ls.dX3 P Q n)
 | 0,r,l,t,h=>by simp[Ls.dX3]at h
 | n+1,r,l,t,h=>by
  simp only[Ls.dX3]at h;cases hp:Ls.dX9 P Q r with
  | none=>rw[hp]at h;cases h
  | some x=>
   obtain⟨a,r1⟩:=x;rw[hp]at h;dsimp only at h
   have h2:=xQ2 hP hQ _ _ _ hp;split at h
   ·simp only[Option.some.injEq,Prod.mk.injEq]at h
    obtain⟨rfl,rfl⟩:=h;exact h2
   ·cases hq:Ls.dX3 P Q n r1 with
    | none=>rw[hq]at h;cases h
    | some x=>
     obtain⟨b,r2⟩:=x;rw[hq]at h;simp only[Option.some.injEq,Prod.mk.injEq]at h;obtain⟨rfl,rfl⟩:=h;have h5:=lQe hP hQ n _ _ _ hq;rw[rQp];omega
theorem hQ8 {P:List UInt8->Ls.Rd}{Q:List UInt8->Ls.Rl}(hP:Y2 P)(hQ:aQr Q):∀n,aQr (Ls.eXz P Q n)
 | 0,r,l,t,h=>by simp[Ls.eXz]at h
 | n+1,r,l,t,h=>by
  simp only[Ls.eXz]at h;cases hp:Ls.dX3 P Q (r.length+1) r with
  | none=>rw[hp]at h;cases h
  | some x=>
   obtain⟨a,r1⟩:=x;rw[hp]at h;dsimp only at h
   have h2:=lQe hP hQ _ _ _ _ hp;split at h
   ·rename_i hh
    have hl:=Ls.eXd hh;cases hq:Ls.eXz P Q n r1.tail with
    | none=>rw[hq]at h;cases h
    | some x=>
     obtain⟨b,r3⟩:=x;rw[hq]at h;simp only[Option.some.injEq,Prod.mk.injEq]at h;obtain⟨rfl,rfl⟩:=h;have h5:=hQ8 hP hQ n _ _ _ hq;rw[rQw];omega
   ·simp only[Option.some.injEq,Prod.mk.injEq]at h
    obtain⟨rfl,rfl⟩:=h;exact h2
theorem kQb:∀n,aQr (Ls.dXz n)
 | 0,r,l,t,h=>by simp[Ls.dXz]at h
 | n+1,r,l,t,h=>hQ8 (gQ5 _) (kQb n) _ _ _ _ h
theorem nQd:(w:List UInt8)->∀c,c∈w->[c]∈Ls.fXq (Ls.eXp w)
 | [],c,h=>by cases h
 | d::t,c,h=>by
  show [c]∈Ls.fXq (Ls.row (Ls.set [d]) (Ls.eXp t));have hd:(Ls.set [d]).kind≠0:=by simp[Ls.set]
  unfold Ls.row;rw[if_neg hd];rcases List.mem_cons.1 h with rfl|h
  ·split
   ·rw[Ls.sets_set];simp
   ·rw[Ls.fXh,Ls.sets_set];simp
  ·have ih:=nQd t c h
   split
   ·rename_i hk
    exfalso
    cases t with
    | nil=>cases h
    | cons e t=>
     have hk:(Ls.row (Ls.set [e]) (Ls.eXp t)).kind=0:=hk;unfold Ls.row at hk;rw[if_neg (by simp[Ls.set])]at hk;split at hk<;>simp[Ls.set,Ls.fXt]at hk
   ·rw[Ls.fXh];exact List.mem_append_right _ ih
theorem wQ2 {c:Nat}{p:Ls.D}{w:List UInt8}(h:Ls.OkL c ⟨2,p,w,[]⟩):∀d,d∈w->d.toNat<=126:=by
 intro d hd;rw[Ls.OkL]at h;have hs:=h.1.2.sg;have:Ls.dXv ⟨2,p,w,[]⟩=Ls.eXp w:=by simp[Ls.dXv]
 rw[this]at hs;have h1:=hs _ (nQd w d hd) d (by simp[Ls.has]);simp[Ls.fXi]at h1;omega
def B7 (p:Ls.Pat)(s:List UInt8):Bool:=Ls.is p s&&decide (s.length<=60)
def P5 (p q:Ls.Pat)(s:List UInt8):Nat->Nat->Nat
 | 0,_=>0
 | n+1,i=>if (Ls.is p (s.take i)&&Ls.is q (s.drop i))=true then i else P5 p q s n (i+1)
def B9 (p q:Ls.Pat)(s:List UInt8):Nat:=P5 p q s (s.length+1) 0
theorem iQ5 (p q:Ls.Pat)(s:List UInt8):(n i:Nat)->i+n<=s.length+1->P5 p q s n i<=s.length
 | 0,_,_=>Nat.zero_le _
 | n+1,i,h=>by
  unfold P5;split
  ·omega
  ·exact iQ5 p q s n (i+1) (by omega)
theorem P6 (p q:Ls.Pat)(s:List UInt8):B9 p q s<=s.length:=iQ5 p q s _ _ (by omega)
def M9 (p:Ls.Pat)(s:List UInt8):Nat->Nat->Nat
 | 0,i=>i
 | n+1,i=>if (Ls.is p (s.take i)&&Ls.is (Ls.eXa p) (s.drop i))=true then i else M9 p s n (i+1)
def M2 (p:Ls.Pat)(s:List UInt8):Nat:=M9 p s (s.length-1) 1
def C0 (p:Ls.Pat):Nat->List UInt8->List (List UInt8)
 | 0,_=>[]
 | n+1,s=>if s=[] then [] else s.take (M2 p s)::C0 p n (s.drop (M2 p s))
theorem lQi (p:Ls.Pat)(s:List UInt8):(n i:Nat)->i<=M9 p s n i/\M9 p s n i<=i+n
 | 0,i=>by rw[M9];omega
 | n+1,i=>by
  rw[M9];split
  ·omega
  ·have:=lQi p s n (i+1);omega
theorem eQp (p:Ls.Pat){s:List UInt8}(h:s≠[]):1<=M2 p s/\M2 p s<=s.length:=by
 have:=lQi p s (s.length-1) 1;have:0<s.length:=List.length_pos_iff.2 h;unfold M2;omega
theorem lQb (p:Ls.Pat):(n m:Nat)->(s:List UInt8)->s.length<=n->n<=m->C0 p m s=C0 p n s
 | 0,m,s,h,_=>by
  have:s=[]:=List.eq_nil_of_length_eq_zero (by omega);subst this;cases m with
  | zero=>rfl
  | succ m=>simp[C0]
 | n+1,m,s,h,hm=>by
  obtain⟨m,rfl⟩:∃k,m=k+1:=⟨m-1,by omega⟩;rw[C0,C0]
  by_cases hs:s=[]
  ·rw[if_pos hs,if_pos hs]
  ·rw[if_neg hs,if_neg hs]
   have hb:=eQp p hs;rw[lQb p n m _ (by rw[List.length_drop];omega) (by omega)]
def A6:Ls.Ln->List UInt8->List UInt8
 | ⟨k,_,w,[]⟩,s=>if k=0 then s else if k=2 then w else []
 | ⟨_,_,_,[a]⟩,s=>((C0 (Ls.dXx a) s.length s).map (A6 a)).flatten
 | ⟨k,_,_,[a,b]⟩,s=>
  if k=5 then (if Ls.is (Ls.dXx a) s=true then A6 a s else A6 b s) else
  if k=4 then A6 b (s.drop (B9 (Ls.dXx a) (Ls.dXx b) s))++A6 a (s.take (B9 (Ls.dXx a) (Ls.dXx b) s)) else
  A6 a (s.take (B9 (Ls.dXx a) (Ls.dXx b) s))++A6 b (s.drop (B9 (Ls.dXx a) (Ls.dXx b) s))
 | _,_=>[]
def gx:Ls.Ln->Nat
 | ⟨_,_,w,[]⟩=>w.length+1
 | ⟨_,_,_,[a]⟩=>2*gx a
 | ⟨_,_,_,[a,b]⟩=>gx a+gx b
 | _=>0
theorem R0 (p:Ls.Pat):(n:Nat)->(s:List UInt8)->s.length<=n->((C0 p n s).map fun x=>x.length+1).sum<=2*s.length
 | 0,s,h=>by simp[C0]
 | n+1,s,h=>by
  rw[C0]
  by_cases hs:s=[]
  ·rw[if_pos hs];simp
  ·rw[if_neg hs]
   have hb:=eQp p hs;have:=R0 p n (s.drop (M2 p s)) (by rw[List.length_drop];omega);rw[List.length_drop]at this;simp only[List.map_cons,List.sum_cons,List.length_take];omega
theorem L9:(l:Ls.Ln)->(s:List UInt8)->(A6 l s).length<=(s.length+1)*gx l
 | ⟨k,p,w,[]⟩,s=>by
  rw[A6,gx];have h1:(s.length+1)*(w.length+1)=s.length*w.length+s.length+w.length+1:=by rw[Nat.add_mul,Nat.mul_add,Nat.one_mul];omega
  split
  ·rw[h1];omega
  ·split
   ·rw[h1];omega
   ·simp
 | ⟨k,p,w,[a]⟩,s=>by
  rw[A6,gx];have h1:∀ps:List (List UInt8),((ps.map (A6 a)).flatten).length<=(ps.map fun x=>x.length+1).sum*gx a:=by
   intro ps;induction ps with
   | nil=>simp
   | cons x ps ih=>
    simp only[List.map_cons,List.flatten_cons,List.length_append,List.sum_cons];have:=L9 a x;rw[Nat.add_mul];omega
  have h2:=h1 (C0 (Ls.dXx a) s.length s);have h3:=R0 (Ls.dXx a) s.length s (Nat.le_refl _);have h4:(((C0 (Ls.dXx a) s.length s).map fun x=>x.length+1).sum)*gx a<=(2*s.length)*gx a:=Nat.mul_le_mul_right _ h3;have h5:(2*s.length)*gx a<=(s.length+1)*(2*gx a):=by
   rw[Nat.mul_comm 2 s.length,Nat.mul_assoc];exact Nat.mul_le_mul_right _ (by omega)
  omega
 | ⟨k,p,w,[a,b]⟩,s=>by
  have hc:=P6 (Ls.dXx a) (Ls.dXx b) s;have ha:=L9 a (s.take (B9 (Ls.dXx a) (Ls.dXx b) s));have hb:=L9 b (s.drop (B9 (Ls.dXx a) (Ls.dXx b) s));have ha2:=L9 a s;have hb2:=L9 b s;rw[List.length_take]at ha;rw[List.length_drop]at hb;have e1:(min (B9 (Ls.dXx a) (Ls.dXx b) s) s.length+1)*gx a<=(s.length+1)*gx a:=Nat.mul_le_mul_right _ (by omega);have e2:(s.length-B9 (Ls.dXx a) (Ls.dXx b) s+1)*gx b<=(s.length+1)*gx b:=Nat.mul_le_mul_right _ (by omega);rw[A6,gx,Nat.mul_add];split
  ·split<;>omega
  ·split<;>rw[List.length_append]<;>omega
 | ⟨k,p,w,_::_::_::_⟩,s=>by simp[A6]
theorem jQk (a:Ls.Ln)(ps:List (List UInt8)):((ps.map (A6 a)).flatten).length<=(ps.map fun x=>x.length+1).sum*gx a:=by
 induction ps with
 | nil=>simp
 | cons x ps ih=>
  simp only[List.map_cons,List.flatten_cons,List.length_append,List.sum_cons];have:=L9 a x;rw[Nat.add_mul];omega
theorem eQ5 (ps:List (List UInt8)):∀k,((ps.take k).map fun x=>x.length+1).sum<=(ps.map fun x=>x.length+1).sum:=by
 induction ps with
 | nil=>intro k;simp
 | cons x ps ih=>
  intro k;cases k with
  | zero=>simp
  | succ k=>
   simp only[List.take_succ_cons,List.map_cons,List.sum_cons];have:=ih k;omega
theorem Z3 (p:Ls.Pat):(n:Nat)->(s x:List UInt8)->x∈C0 p n s->x.length<=s.length
 | 0,s,x,h=>by simp[C0]at h
 | n+1,s,x,h=>by
  rw[C0]at h;split at h
  ·cases h
  ·rcases List.mem_cons.1 h with rfl|h
   ·rw[List.length_take];omega
   ·have:=Z3 p n _ x h
    rw[List.length_drop]at this;omega
theorem cQc:(l:Ls.Ln)->(c:Nat)->Ls.OkL c l->gx l<=cn l*2 ^ Ls.dXw l
 | ⟨k,p,w,[]⟩,c,_=>by
  rw[gx,cn];have:1<=2 ^ Ls.dXw ⟨k,p,w,[]⟩:=Nat.one_le_two_pow;calc w.length+1<=(dn p+2*w.length+2)*1:=by omega
   _<=_:=Nat.mul_le_mul_left _ this
 | ⟨k,p,w,[a]⟩,c,h=>by
  rw[Ls.OkL]at h;have:=cQc a c h.2.2;rw[gx,cn,Ls.dXw,if_pos h.2.1,Nat.pow_succ];have h2:(cn a+1)*(2 ^ Ls.dXw a*2)=2*(cn a*2 ^ Ls.dXw a)+2 ^ Ls.dXw a*2:=by
   rw[Nat.add_mul,Nat.one_mul,<-Nat.mul_assoc,Nat.mul_comm (cn a*2 ^ Ls.dXw a) 2]
  rw[h2];omega
 | ⟨k,p,w,[a,b]⟩,c,h=>by
  rw[Ls.OkL]at h;have ha:=cQc a c h.2.2.1;have hb:=cQc b c h.2.2.2;rw[gx,cn,Ls.dXw];have h1:2 ^ Ls.dXw a<=2 ^ (Ls.dXw a+Ls.dXw b):=Nat.pow_le_pow_right (by omega) (by omega);have h2:2 ^ Ls.dXw b<=2 ^ (Ls.dXw a+Ls.dXw b):=Nat.pow_le_pow_right (by omega) (by omega);have h3:=Nat.mul_le_mul_left (cn a) h1;have h4:=Nat.mul_le_mul_left (cn b) h2;have h5:(cn a+cn b+4)*2 ^ (Ls.dXw a+Ls.dXw b)=cn a*2 ^ (Ls.dXw a+Ls.dXw b)+cn b*2 ^ (Ls.dXw a+Ls.dXw b)+4*2 ^ (Ls.dXw a+Ls.dXw b):=by rw[Nat.add_mul,Nat.add_mul]
  rw[h5];omega
 | ⟨k,p,w,_::_::_::_⟩,c,h=>by simp[Ls.OkL]at h
theorem Y8 {l:Ls.Ln}(hok:Ls.OkL 120 l)(hs:Ls.dXw l<=24)(hc:cn l<=60000):gx l<=1099511627776:=by
 have h1:=cQc l 120 hok;have h2:2 ^ Ls.dXw l<=2 ^ 24:=Nat.pow_le_pow_right (by omega) hs;have h3:cn l*2 ^ Ls.dXw l<=60000*2 ^ 24:=Nat.mul_le_mul hc h2;have h4:60000*2 ^ 24<=1099511627776:=by decide
 omega
def A9:Ls.Ln->List UInt8->List UInt8
 | ⟨k,_,w,[]⟩,v=>if k=0 then v else if k=1 then w else []
 | ⟨_,_,_,[a]⟩,v=>((C0 (Ls.dXv a) v.length v).map (A9 a)).flatten
 | ⟨k,_,_,[a,b]⟩,v=>
  if k=5 then (if Ls.is (Ls.dXv a) v=true then A9 a v else A9 b v) else
  if k=4 then A9 a (v.drop (B9 (Ls.dXv b) (Ls.dXv a) v))++A9 b (v.take (B9 (Ls.dXv b) (Ls.dXv a) v)) else
  A9 a (v.take (B9 (Ls.dXv a) (Ls.dXv b) v))++A9 b (v.drop (B9 (Ls.dXv a) (Ls.dXv b) v))
 | _,_=>[]
theorem J1:(l:Ls.Ln)->(s:List UInt8)->(A9 l s).length<=(s.length+1)*gx l
 | ⟨k,p,w,[]⟩,s=>by
  rw[A9,gx];have h1:(s.length+1)*(w.length+1)=s.length*w.length+s.length+w.length+1:=by rw[Nat.add_mul,Nat.mul_add,Nat.one_mul];omega
  split
  ·rw[h1];omega
  ·split
   ·rw[h1];omega
   ·simp
 | ⟨k,p,w,[a]⟩,s=>by
  rw[A9,gx];have h1:∀ps:List (List UInt8),((ps.map (A9 a)).flatten).length<=(ps.map fun x=>x.length+1).sum*gx a:=by
   intro ps;induction ps with
   | nil=>simp
   | cons x ps ih=>
    simp only[List.map_cons,List.flatten_cons,List.length_append,List.sum_cons];have:=J1 a x;rw[Nat.add_mul];omega
  have h2:=h1 (C0 (Ls.dXv a) s.length s);have h3:=R0 (Ls.dXv a) s.length s (Nat.le_refl _);have h4:(((C0 (Ls.dXv a) s.length s).map fun x=>x.length+1).sum)*gx a<=(2*s.length)*gx a:=Nat.mul_le_mul_right _ h3;have h5:(2*s.length)*gx a<=(s.length+1)*(2*gx a):=by
   rw[Nat.mul_comm 2 s.length,Nat.mul_assoc];exact Nat.mul_le_mul_right _ (by omega)
  omega
 | ⟨k,p,w,[a,b]⟩,s=>by
  have hc:=P6 (Ls.dXv a) (Ls.dXv b) s;have hd:=P6 (Ls.dXv b) (Ls.dXv a) s;have ha:=J1 a (s.take (B9 (Ls.dXv a) (Ls.dXv b) s));have hb:=J1 b (s.drop (B9 (Ls.dXv a) (Ls.dXv b) s));have ha3:=J1 a (s.drop (B9 (Ls.dXv b) (Ls.dXv a) s));have hb3:=J1 b (s.take (B9 (Ls.dXv b) (Ls.dXv a) s));have ha2:=J1 a s;have hb2:=J1 b s;rw[List.length_take]at ha hb3;rw[List.length_drop]at hb ha3;have e1:(min (B9 (Ls.dXv a) (Ls.dXv b) s) s.length+1)*gx a<=(s.length+1)*gx a:=Nat.mul_le_mul_right _ (by omega);have e2:(s.length-B9 (Ls.dXv a) (Ls.dXv b) s+1)*gx b<=(s.length+1)*gx b:=Nat.mul_le_mul_right _ (by omega);have e3:(s.length-B9 (Ls.dXv b) (Ls.dXv a) s+1)*gx a<=(s.length+1)*gx a:=Nat.mul_le_mul_right _ (by omega);have e4:(min (B9 (Ls.dXv b) (Ls.dXv a) s) s.length+1)*gx b<=(s.length+1)*gx b:=Nat.mul_le_mul_right _ (by omega);rw[A9,gx,Nat.mul_add];split
  ·split<;>omega
  ·split<;>rw[List.length_append]<;>omega
 | ⟨k,p,w,_::_::_::_⟩,s=>by simp[A9]
def low (c:UInt8):Bool:=decide (97<=c.toNat)&&decide (c.toNat<=122)
def C3 (s:List UInt8):List UInt8:=s.takeWhile low
def D1 (f:List UInt8->Bool):List (List UInt8)->Option (List UInt8 × List (List UInt8))
 | []=>none
 | x::xs=>if f x=true then some (x,xs) else match D1 f xs with
  | none=>none
  | some (y,r)=>some (y,x::r)
def H6 (put:List UInt8->List UInt8->List UInt8)(cr:List UInt8->List UInt8):List (List UInt8)->List (List UInt8)->List UInt8
 | [],_=>[]
 | m::ms,[]=>cr m++H6 put cr ms []
 | m::ms,n::ns=>put m n++H6 put cr ms ns
def E5 (put:List UInt8->List UInt8->List UInt8)(cr g:List UInt8->List UInt8):List (List UInt8)->List (List UInt8)->List UInt8
 | [],_=>[]
 | m::ms,ns=>match D1 (fun n=>C3 (g n)==C3 m) ns with
  | none=>cr m++E5 put cr g ms ns
  | some (n,r)=>put m n++E5 put cr g ms r
def B4:Ls.Ln->List UInt8->List UInt8->List UInt8
 | ⟨k,_,_,[]⟩,v,s=>if k=0 then v else if k=1 then s else []
 | ⟨k,_,_,[a]⟩,v,s=>
  if k=7 then E5 (B4 a) (A9 a) (A6 a) (C0 (Ls.dXv a) v.length v) (C0 (Ls.dXx a) s.length s) else
  H6 (B4 a) (A9 a) (C0 (Ls.dXv a) v.length v) (C0 (Ls.dXx a) s.length s)
 | ⟨k,_,_,[a,b]⟩,v,s=>
  if k=5 then
   if Ls.is (Ls.dXx a) s=true then (if Ls.is (Ls.dXv a) v=true then B4 a v s else A9 b v)
   else (if Ls.is (Ls.dXv b) v=true then B4 b v s else A9 a v)
  else if k=4 then
   B4 a (v.drop (B9 (Ls.dXv b) (Ls.dXv a) v)) (s.take (B9 (Ls.dXx a) (Ls.dXx b) s))++B4 b (v.take (B9 (Ls.dXv b) (Ls.dXv a) v)) (s.drop (B9 (Ls.dXx a) (Ls.dXx b) s))
  else
   B4 a (v.take (B9 (Ls.dXv a) (Ls.dXv b) v)) (s.take (B9 (Ls.dXx a) (Ls.dXx b) s))++B4 b (v.drop (B9 (Ls.dXv a) (Ls.dXv b) v)) (s.drop (B9 (Ls.dXx a) (Ls.dXx b) s))
 | _,_,_=>[]
theorem mQ3 (f:List UInt8->Bool):(ns:List (List UInt8))->(n:List UInt8)->(r:List (List UInt8))->D1 f ns=some (n,r)->(ns.map fun x=>x.length+1).sum=n.length+1+(r.map fun x=>x.length+1).sum
 | [],n,r,h=>by simp[D1]at h
 | x::xs,n,r,h=>by
  rw[D1]at h;split at h
  ·simp only[Option.some.injEq,Prod.mk.injEq]at h
   obtain⟨rfl,rfl⟩:=h;simp
  ·cases h2:D1 f xs with
   | none=>rw[h2]at h;cases h
   | some q=>
    obtain⟨y,t⟩:=q;rw[h2]at h;simp only[Option.some.injEq,Prod.mk.injEq]at h;obtain⟨rfl,rfl⟩:=h;have:=mQ3 f xs y t h2;simp only[List.map_cons,List.sum_cons];omega
theorem dQk {put:List UInt8->List UInt8->List UInt8}{cr:List UInt8->List UInt8}{q:Nat}(hp:∀v s,(put v s).length<=(v.length+s.length+2)*q)(hc:∀v,(cr v).length<=(v.length+1)*q) :
  (ms ns:List (List UInt8))->(H6 put cr ms ns).length<=((ms.map fun x=>x.length+1).sum+(ns.map fun x=>x.length+1).sum)*q
 | [],ns=>by simp[H6]
 | m::ms,[]=>by
  have h1:=hc m;have h2:=dQk hp hc ms [];simp only[H6,List.length_append,List.map_cons,List.sum_cons,List.map_nil,List.sum_nil,Nat.add_zero]at h2 ⊢;rw[Nat.add_mul];omega
 | m::ms,n::ns=>by
  have h1:=hp m n;have h2:=dQk hp hc ms ns;simp only[H6,List.length_append,List.map_cons,List.sum_cons];have e:(m.length+1+(ms.map fun x=>x.length+1).sum+(n.length+1+(ns.map fun x=>x.length+1).sum))*q=(m.length+n.length+2)*q+((ms.map fun x=>x.length+1).sum+(ns.map fun x=>x.length+1).sum)*q:=by
   rw[<-Nat.add_mul];congr 1;omega
  rw[e];omega
theorem dQl {put:List UInt8->List UInt8->List UInt8}{cr:List UInt8->List UInt8}(g:List UInt8->List UInt8){q:Nat}(hp:∀v s,(put v s).length<=(v.length+s.length+2)*q)(hc:∀v,(cr v).length<=(v.length+1)*q) :
  (ms ns:List (List UInt8))->(E5 put cr g ms ns).length<=((ms.map fun x=>x.length+1).sum+(ns.map fun x=>x.length+1).sum)*q
 | [],ns=>by simp[E5]
 | m::ms,ns=>by
  rw[E5];cases h:D1 (fun n=>C3 (g n)==C3 m) ns with
  | none=>
   have h1:=hc m;have h2:=dQl g hp hc ms ns;simp only[List.length_append,List.map_cons,List.sum_cons];have e:(m.length+1+(ms.map fun x=>x.length+1).sum+(ns.map fun x=>x.length+1).sum)*q=(m.length+1)*q+((ms.map fun x=>x.length+1).sum+(ns.map fun x=>x.length+1).sum)*q:=by
    rw[<-Nat.add_mul];congr 1;omega
   rw[e];omega
  | some z=>
   obtain⟨n,r⟩:=z;have h0:=mQ3 _ ns n r h;have h1:=hp m n;have h2:=dQl g hp hc ms r;simp only[List.length_append,List.map_cons,List.sum_cons];have e:(m.length+1+(ms.map fun x=>x.length+1).sum+(ns.map fun x=>x.length+1).sum)*q=(m.length+n.length+2)*q+((ms.map fun x=>x.length+1).sum+(r.map fun x=>x.length+1).sum)*q:=by
    rw[<-Nat.add_mul];congr 1;omega
   rw[e];omega
theorem O9:(l:Ls.Ln)->(v s:List UInt8)->(B4 l v s).length<=(v.length+s.length+2)*gx l
 | ⟨k,p,w,[]⟩,v,s=>by
  rw[B4,gx];have h1:(v.length+s.length+2)*1<=(v.length+s.length+2)*(w.length+1):=Nat.mul_le_mul_left _ (by omega);split
  ·omega
  ·split
   ·omega
   ·simp
 | ⟨k,p,w,[a]⟩,v,s=>by
  have hp:=O9 a;have hc:=J1 a;have h1:=R0 (Ls.dXv a) v.length v (Nat.le_refl _);have h2:=R0 (Ls.dXx a) s.length s (Nat.le_refl _);have h3:=dQk hp hc (C0 (Ls.dXv a) v.length v) (C0 (Ls.dXx a) s.length s);have h4:=dQl (A6 a) hp hc (C0 (Ls.dXv a) v.length v) (C0 (Ls.dXx a) s.length s);rw[B4,gx];have e:(((C0 (Ls.dXv a) v.length v).map fun x=>x.length+1).sum+((C0 (Ls.dXx a) s.length s).map fun x=>x.length+1).sum)*gx a<=(v.length+s.length+2)*(2*gx a):=by
   rw[<-Nat.mul_assoc];exact Nat.mul_le_mul_right _ (by omega)
  split<;>omega
 | ⟨k,p,w,[a,b]⟩,v,s=>by
  have up:∀(l:Ls.Ln) (x y:List UInt8),x.length<=v.length->y.length<=s.length->(B4 l x y).length<=(x.length+y.length+2)*gx l->(B4 l x y).length<=(v.length+s.length+2)*gx l:=fun l x y hx hy h=>Nat.le_trans h (Nat.mul_le_mul_right _ (by omega));have uc:∀(l:Ls.Ln),(A9 l v).length<=(v.length+s.length+2)*gx l:=fun l=>Nat.le_trans (J1 l v) (Nat.mul_le_mul_right _ (by omega));have ua:∀x y:List UInt8,x.length<=v.length->y.length<=s.length->(B4 a x y).length<=(v.length+s.length+2)*gx a:=fun x y hx hy=>up a x y hx hy (O9 a x y);have ub:∀x y:List UInt8,x.length<=v.length->y.length<=s.length->(B4 b x y).length<=(v.length+s.length+2)*gx b:=fun x y hx hy=>up b x y hx hy (O9 b x y);have c1:=uc a;have c2:=uc b;have a1:=ua v s (Nat.le_refl _) (Nat.le_refl _);have b1:=ub v s (Nat.le_refl _) (Nat.le_refl _);have a2:=ua (v.drop (B9 (Ls.dXv b) (Ls.dXv a) v)) (s.take (B9 (Ls.dXx a) (Ls.dXx b) s)) (by rw[List.length_drop];omega) (by rw[List.length_take];omega);have b2:=ub (v.take (B9 (Ls.dXv b) (Ls.dXv a) v)) (s.drop (B9 (Ls.dXx a) (Ls.dXx b) s)) (by rw[List.length_take];omega) (by rw[List.length_drop];omega);have a3:=ua (v.take (B9 (Ls.dXv a) (Ls.dXv b) v)) (s.take (B9 (Ls.dXx a) (Ls.dXx b) s)) (by rw[List.length_take];omega) (by rw[List.length_take];omega);have b3:=ub (v.drop (B9 (Ls.dXv a) (Ls.dXv b) v)) (s.drop (B9 (Ls.dXx a) (Ls.dXx b) s)) (by rw[List.length_drop];omega) (by rw[List.length_drop];omega);rw[B4,gx,Nat.mul_add];split
  ·split<;>split<;>omega
  ·split<;>rw[List.length_append]<;>omega
 | ⟨k,p,w,_::_::_::_⟩,v,s=>by simp[B4]
def G5:List (List UInt8)->List Bool->List (List UInt8)
 | n::ns,u::us=>if u=true then G5 ns us else n::G5 ns us
 | _,_=>[]
theorem lQz:(ns:List (List UInt8))->G5 ns (List.replicate ns.length false)=ns
 | []=>rfl
 | n::ns=>by
  rw[List.length_cons,List.replicate_succ,G5,if_neg (by simp),lQz ns]
theorem mQz (f:List UInt8->Bool):(ns:List (List UInt8))->(us:List Bool)->(j:Nat)->(n:List UInt8)->(∀i,i<j->∀x,ns[i]?=some x->us[i]?=some false->f x=false)->ns[j]?=some n->us[j]?=some false->f n=true->D1 f (G5 ns us)=some (n,G5 ns (us.set j true))
 | [],us,j,n,_,h,_,_=>by simp at h
 | x::xs,[],j,n,_,_,h,_=>by simp at h
 | x::xs,u::us,0,n,_,h1,h2,h3=>by
  simp only[List.getElem?_cons_zero,Option.some.injEq]at h1 h2;subst h1 h2;simp[G5,D1,h3]
 | x::xs,u::us,j+1,n,h0,h1,h2,h3=>by
  rw[List.getElem?_cons_succ]at h1 h2;have ih:=mQz f xs us j n (fun i hi y hy hu=>h0 (i+1) (by omega) y (by rw[List.getElem?_cons_succ];exact hy) (by rw[List.getElem?_cons_succ];exact hu)) h1 h2 h3;rw[List.set_cons_succ];cases u with
  | true=>rw[G5,G5,if_pos rfl,if_pos rfl,ih]
  | false=>
   have hf:=h0 0 (by omega) x (by simp) (by simp);rw[G5,G5,if_neg (by simp),if_neg (by simp),D1,if_neg (by simp[hf]),ih]
theorem mQ1 (f:List UInt8->Bool):(ns:List (List UInt8))->(us:List Bool)->(∀(i:Nat) (x:List UInt8),ns[i]?=some x->us[i]?=some false->f x=false)->D1 f (G5 ns us)=none
 | [],us,_=>by simp[G5,D1]
 | x::xs,[],_=>by simp[G5,D1]
 | x::xs,u::us,h=>by
  have ih:=mQ1 f xs us (fun i y hy hu=>h (i+1) y (by rw[List.getElem?_cons_succ];exact hy) (by rw[List.getElem?_cons_succ];exact hu));cases u with
  | true=>rw[G5,if_pos rfl,ih]
  | false=>
   have hf:=h 0 x (by simp) (by simp);rw[G5,if_neg (by simp),D1,if_neg (by simp[hf]),ih]
def wl:Ls.Ln->Nat
 | ⟨_,_,w,[]⟩=>w.length
 | ⟨_,_,_,[a]⟩=>wl a
 | ⟨_,_,_,[a,b]⟩=>wl a+wl b
 | _=>0
theorem lQc (p:Ls.Pat):(n:Nat)->(s:List UInt8)->s.length<=n->((C0 p n s).map List.length).sum<=s.length/\(C0 p n s).length<=s.length
 | 0,s,h=>by simp[C0]
 | n+1,s,h=>by
  rw[C0]
  by_cases hs:s=[]
  ·rw[if_pos hs];simp
  ·rw[if_neg hs]
   have hb:=eQp p hs;have:=lQc p n (s.drop (M2 p s)) (by rw[List.length_drop];omega);rw[List.length_drop]at this;simp only[List.map_cons,List.sum_cons,List.length_take,List.length_cons];omega
theorem tQp (f:List UInt8->List UInt8)(A B:Nat)(hf:∀s,(f s).length<=A*s.length+B)(ps:List (List UInt8)):((ps.map f).flatten).length<=A*(ps.map List.length).sum+B*ps.length:=by
 induction ps with
 | nil=>simp
 | cons x ps ih=>
  simp only[List.map_cons,List.flatten_cons,List.length_append,List.sum_cons,List.length_cons];have:=hf x;rw[Nat.mul_add,Nat.mul_add,Nat.mul_one];omega
theorem dQ1:(l:Ls.Ln)->∃A B,A+B<=1+wl l/\B<=wl l/\∀s,(A6 l s).length<=A*s.length+B
 | ⟨k,p,w,[]⟩=>by
  by_cases h0:k=0
  ·refine⟨1,0,by simp[wl],Nat.zero_le _,fun s=>?_⟩
   rw[A6,if_pos h0];omega
  ·refine⟨0,w.length,by simp[wl],by simp[wl],fun s=>?_⟩
   rw[A6,if_neg h0];split
   ·omega
   ·simp
 | ⟨k,p,w,[a]⟩=>by
  obtain⟨A,B,h1,h2,h3⟩:=dQ1 a;refine⟨A+B,0,by rw[wl];omega,Nat.zero_le _,fun s=>?_⟩;rw[A6];have h4:=tQp (A6 a) A B h3 (C0 (Ls.dXx a) s.length s);have h5:=lQc (Ls.dXx a) s.length s (Nat.le_refl _);have h6:=Nat.mul_le_mul_left A h5.1;have h7:=Nat.mul_le_mul_left B h5.2;rw[Nat.add_mul];omega
 | ⟨k,p,w,[a,b]⟩=>by
  obtain⟨A,B,h1,h2,h3⟩:=dQ1 a;obtain⟨C,D,g1,g2,g3⟩:=dQ1 b;refine⟨max A C,B+D,by rw[wl];omega,by rw[wl];omega,fun s=>?_⟩;have up:∀x y:Nat,x<=y->∀M N:Nat,M<=N->M*x<=N*y:=fun x y h M N h'=>Nat.mul_le_mul h' h;have hc:=P6 (Ls.dXx a) (Ls.dXx b) s;generalize hcv:B9 (Ls.dXx a) (Ls.dXx b) s=c at *;have k1:=h3 (s.take c);have k2:=g3 (s.drop c);have k3:=h3 s;have k4:=g3 s;rw[List.length_take,Nat.min_eq_left hc]at k1;rw[List.length_drop]at k2;have e1:=up c c (Nat.le_refl _) A (max A C) (by omega);have e2:=up (s.length-c) (s.length-c) (Nat.le_refl _) C (max A C) (by omega);have e3:max A C*c+max A C*(s.length-c)=max A C*s.length:=by rw[<-Nat.mul_add];congr 1;omega
  have e4:=up s.length s.length (Nat.le_refl _) A (max A C) (by omega);have e5:=up s.length s.length (Nat.le_refl _) C (max A C) (by omega);rw[A6,hcv];split
  ·split<;>omega
  ·split<;>rw[List.length_append]<;>omega
 | ⟨k,p,w,_::_::_::_⟩=>⟨0,0,by simp,Nat.zero_le _,fun s=>by simp[A6]⟩
theorem eQ9:(l:Ls.Ln)->2*wl l<=cn l
 | ⟨k,p,w,[]⟩=>by rw[wl,cn];omega
 | ⟨k,p,w,[a]⟩=>by
  have:=eQ9 a;rw[wl,cn];omega
 | ⟨k,p,w,[a,b]⟩=>by
  have:=eQ9 a;have:=eQ9 b;rw[wl,cn];omega
 | ⟨k,p,w,_::_::_::_⟩=>by simp[wl]
theorem jQl {l:Ls.Ln}(hc:cn l<=30000){s:List UInt8}(hs:s.length<=60):(A6 l s).length<=1048576:=by
 obtain⟨A,B,h1,h2,h3⟩:=dQ1 l;have h4:=eQ9 l;have h5:=h3 s;have h6:A*s.length<=15001*60:=Nat.mul_le_mul (by omega) hs;omega
theorem iQ7 {p q:Ls.Pat}(wp:Ls.wf p)(wq:Ls.wf q)(ht:¬Ls.dX0 p q){u v:List UInt8}(hu:Ls.inL p u)(hv:Ls.inL q v){i:Nat}(hi:i<=u.length)(hc:(Ls.is p ((u++v).take i)&&Ls.is q ((u++v).drop i))=true):i=u.length:=by
 rcases Nat.lt_or_ge i u.length with h|h
 ·exfalso
  rw[Bool.and_eq_true,Ls.eX0 p wp,Ls.eX0 q wq,List.take_append_of_le_length hi,List.drop_append_of_le_length hi]at hc;refine ht ⟨u.take i,u.drop i,v,?_,hc.1,by rw[List.take_append_drop];exact hu,hc.2,hv⟩;intro e;have:=congrArg List.length e;rw[List.length_drop,List.length_nil]at this;omega
 ·omega
theorem iQ6 {p q:Ls.Pat}(wp:Ls.wf p)(wq:Ls.wf q){u v:List UInt8}(hu:Ls.inL p u)(hv:Ls.inL q v):(Ls.is p ((u++v).take u.length)&&Ls.is q ((u++v).drop u.length))=true:=by
 rw[List.take_left,List.drop_left,Bool.and_eq_true];exact⟨(Ls.eX0 p wp u).2 hu,(Ls.eX0 q wq v).2 hv⟩
theorem iQ4 {p q:Ls.Pat}(wp:Ls.wf p)(wq:Ls.wf q)(ht:¬Ls.dX0 p q){u v:List UInt8}(hu:Ls.inL p u)(hv:Ls.inL q v):(n i:Nat)->i<=u.length->u.length<i+n->P5 p q (u++v) n i=u.length
 | 0,i,h1,h2=>by omega
 | n+1,i,h1,h2=>by
  rw[P5]
  by_cases hc:(Ls.is p ((u++v).take i)&&Ls.is q ((u++v).drop i))=true
  ·rw[if_pos hc]
   exact iQ7 wp wq ht hu hv h1 hc
  ·rw[if_neg hc]
   have hne:i≠u.length:=by
    intro e;subst e;exact hc (iQ6 wp wq hu hv)
   exact iQ4 wp wq ht hu hv n (i+1) (by omega) (by omega)
theorem K2 {p q:Ls.Pat}(wp:Ls.wf p)(wq:Ls.wf q)(ht:¬Ls.dX0 p q){u v:List UInt8}(hu:Ls.inL p u)(hv:Ls.inL q v):B9 p q (u++v)=u.length:=by
 unfold B9;exact iQ4 wp wq ht hu hv _ 0 (Nat.zero_le _) (by rw[List.length_append];omega)
theorem lQh {p:Ls.Pat}(wp:Ls.wf p)(ws:Ls.wf (Ls.eXa p))(ht:¬Ls.dX0 p (Ls.eXa p)){u v:List UInt8}(hu:Ls.inL p u)(hv:Ls.inL (Ls.eXa p) v):(n i:Nat)->i<=u.length->u.length<=i+n->M9 p (u++v) n i=u.length
 | 0,i,h1,h2=>by rw[M9];omega
 | n+1,i,h1,h2=>by
  rw[M9]
  by_cases hc:(Ls.is p ((u++v).take i)&&Ls.is (Ls.eXa p) ((u++v).drop i))=true
  ·rw[if_pos hc]
   exact iQ7 wp ws ht hu hv h1 hc
  ·rw[if_neg hc]
   have hne:i≠u.length:=by
    intro e;subst e;exact hc (iQ6 wp ws hu hv)
   exact lQh wp ws ht hu hv n (i+1) (by omega) (by omega)
theorem U2 {p:Ls.Pat}(wp:Ls.wf p)(ws:Ls.wf (Ls.eXa p))(h0:¬Ls.inL p [])(ht:¬Ls.dX0 p (Ls.eXa p)):(ps:List (List UInt8))->(∀x,x∈ps->Ls.inL p x)->(n:Nat)->ps.flatten.length<=n->C0 p n ps.flatten=ps
 | [],_,0,_=>by simp[C0]
 | [],_,n+1,_=>by simp[C0]
 | x::ps,h,n,hn=>by
  have hx:=h x (List.mem_cons_self ..);have hne:x≠[]:=by
   intro e;subst e;exact h0 hx
  have hxl:0<x.length:=List.length_pos_iff.2 hne;rw[List.flatten_cons,List.length_append]at hn;have hs:Ls.inL (Ls.eXa p) ps.flatten:=(Ls.eXf p _).2 ⟨ps,rfl,fun y hy=>h y (List.mem_cons_of_mem _ hy)⟩;have hpl:M2 p (x++ps.flatten)=x.length:=by
   unfold M2;exact lQh wp ws ht hx hs _ 1 hxl (by rw[List.length_append];omega)
  cases n with
  | zero=>omega
  | succ n=>
   rw[List.flatten_cons,C0,if_neg (by simp[hne]),hpl,List.take_left,List.drop_left,U2 wp ws h0 ht ps (fun y hy=>h y (List.mem_cons_of_mem _ hy)) n (by omega)]
def J4 (κ:List UInt8->List UInt8)(put:List UInt8->List UInt8->List UInt8)(cr g:List UInt8->List UInt8):List (List UInt8)->List (List UInt8)->List (List UInt8)
 | [],_=>[]
 | m::ms,ns=>match D1 (fun n=>κ (g n)==κ m) ns with
  | none=>cr m::J4 κ put cr g ms ns
  | some (n,r)=>put m n::J4 κ put cr g ms r
def M1 (κ g:List UInt8->List UInt8):List (List UInt8)->List (List UInt8)->List (List UInt8)
 | [],ns=>ns
 | m::ms,ns=>match D1 (fun n=>κ (g n)==κ m) ns with
  | none=>M1 κ g ms ns
  | some (_,r)=>M1 κ g ms r
variable {κ g cr:List UInt8->List UInt8} {put:List UInt8->List UInt8->List UInt8}
theorem hQh:(ms ns:List (List UInt8))->(J4 κ put cr g ms ns).length=ms.length
 | [],_=>rfl
 | m::ms,ns=>by
  rw[J4];cases h:D1 (fun n=>κ (g n)==κ m) ns with
  | none=>simp[hQh ms]
  | some z=>simp[hQh ms]
theorem gQo:(ms ns:List (List UInt8))->(j:Nat)->(hj:j<ms.length)->
  M1 κ g (ms.take (j+1)) ns=(match D1 (fun n=>κ (g n)==κ ms[j]) (M1 κ g (ms.take j) ns) with|none=>M1 κ g (ms.take j) ns|some (_,r)=>r)
 | m::ms,ns,0,_=>by
  simp only[List.take_succ_cons,List.take_zero,M1,List.getElem_cons_zero]
 | m::ms,ns,j+1,hj=>by
  simp only[List.take_succ_cons,M1,List.getElem_cons_succ];cases h:D1 (fun n=>κ (g n)==κ m) ns with
  | none=>exact gQo ms _ j (by simpa using hj)
  | some z=>exact gQo ms _ j (by simpa using hj)
theorem hQg:(ms ns:List (List UInt8))->(j:Nat)->(hj:j<ms.length)->
  (J4 κ put cr g ms ns).getD j []=(match D1 (fun n=>κ (g n)==κ ms[j]) (M1 κ g (ms.take j) ns) with|none=>cr ms[j]|some (n,_)=>put ms[j] n)
 | m::ms,ns,0,_=>by
  simp only[J4,List.take_zero,M1,List.getElem_cons_zero];cases h:D1 (fun n=>κ (g n)==κ m) ns with
  | none=>rfl
  | some z=>rfl
 | m::ms,ns,j+1,hj=>by
  have hj3:j<ms.length:=by simpa using hj
  simp only[J4,List.take_succ_cons,M1,List.getElem_cons_succ];cases h:D1 (fun n=>κ (g n)==κ m) ns with
  | none=>exact hQg ms ns j hj3
  | some z=>obtain⟨n,r⟩:=z;exact hQg ms r j hj3
theorem eQ4 (f:List UInt8->Bool):(ns:List (List UInt8))->(n:List UInt8)->(r:List (List UInt8))->D1 f ns=some (n,r)->n∈ns/\∀x,x∈r->x∈ns
 | [],n,r,h=>by simp[D1]at h
 | x::xs,n,r,h=>by
  rw[D1]at h;split at h
  ·simp only[Option.some.injEq,Prod.mk.injEq]at h
   obtain⟨rfl,rfl⟩:=h;exact⟨List.mem_cons_self ..,fun y hy=>List.mem_cons_of_mem _ hy⟩
  ·cases h2:D1 f xs with
   | none=>rw[h2]at h;cases h
   | some q=>
    obtain⟨y,t⟩:=q;rw[h2]at h;simp only[Option.some.injEq,Prod.mk.injEq]at h;obtain⟨rfl,rfl⟩:=h;have:=eQ4 f xs y t h2;refine⟨List.mem_cons_of_mem _ this.1,fun z hz=>?_⟩;rcases List.mem_cons.1 hz with rfl|hz
    ·exact List.mem_cons_self ..
    ·exact List.mem_cons_of_mem _ (this.2 z hz)
theorem mQ0 (f:List UInt8->Bool):(ns:List (List UInt8))->(n:List UInt8)->(r:List (List UInt8))->D1 f ns=some (n,r)->r.length+1=ns.length
 | [],n,r,h=>by simp[D1]at h
 | x::xs,n,r,h=>by
  rw[D1]at h;split at h
  ·simp only[Option.some.injEq,Prod.mk.injEq]at h
   obtain⟨rfl,rfl⟩:=h;rfl
  ·cases h2:D1 f xs with
   | none=>rw[h2]at h;cases h
   | some q=>
    obtain⟨y,t⟩:=q;rw[h2]at h;simp only[Option.some.injEq,Prod.mk.injEq]at h;obtain⟨rfl,rfl⟩:=h;have:=mQ0 f xs y t h2;simp only[List.length_cons];omega
theorem gQn:(ms ns:List (List UInt8))->∀x,x∈M1 κ g ms ns->x∈ns
 | [],_,_,h=>h
 | m::ms,ns,x,h=>by
  rw[M1]at h;split at h
  ·exact gQn ms ns x h
  ·rename_i n r hr
   exact(eQ4 _ ns n r hr).2 x (gQn ms r x h)
theorem gQm:(ms ns:List (List UInt8))->(M1 κ g ms ns).length<=ns.length
 | [],_=>Nat.le_refl _
 | m::ms,ns=>by
  rw[M1];cases h:D1 (fun n=>κ (g n)==κ m) ns with
  | none=>exact gQm ms ns
  | some z=>
   obtain⟨n,r⟩:=z;have h1:=mQ0 _ ns n r h;have h2:=gQm ms r;exact Nat.le_trans h2 (by omega)
theorem mQ2 (f:List UInt8->Bool)(ns:List (List UInt8)):(D1 f ns=none/\∀x,x∈ns->f x=false)\/∃i,∃hi:i<ns.length,D1 f ns=some (ns[i],ns.eraseIdx i)/\f ns[i]=true/\∀j,(hj:j<i)->f (ns[j]'(by omega))=false:=by
 induction ns with
 | nil=>exact .inl ⟨rfl,fun x h=>by cases h⟩
 | cons x xs ih=>
  by_cases hx:f x=true
  ·exact .inr ⟨0,by simp,by simp[D1,hx],by simpa using hx,fun j hj=>by omega⟩
  ·have hx2:f x=false:=by simpa using hx
   rcases ih with⟨h1,h2⟩|⟨i,hi,h1,h2,h3⟩
   ·refine .inl ⟨by simp[D1,hx2,h1],fun y hy=>?_⟩
    rcases List.mem_cons.1 hy with rfl|hy
    ·exact hx2
    ·exact h2 y hy
   ·refine .inr ⟨i+1,by simpa using hi,by simp[D1,hx2,h1],by simpa using h2,fun j hj=>?_⟩
    cases j with
    | zero=>simpa using hx2
    | succ j=>simpa using h3 j (by omega)
theorem hQf:(ms ns:List (List UInt8))->(J4 C3 put cr g ms ns).flatten=E5 put cr g ms ns
 | [],_=>rfl
 | m::ms,ns=>by
  rw[J4,E5];cases h:D1 (fun n=>C3 (g n)==C3 m) ns with
  | none=>simp[hQf ms]
  | some z=>simp[hQf ms]
theorem hQe:(ms ns:List (List UInt8))->(J4 (fun _=>[]) put cr g ms ns).flatten=H6 put cr ms ns
 | [],_=>by simp[J4,H6]
 | m::ms,[]=>by simp[J4,D1,H6,hQe ms]
 | m::ms,n::ns=>by simp[J4,D1,H6,hQe ms]
end Go.Proofs.YtfklinjaajafgaaGreatDoor
