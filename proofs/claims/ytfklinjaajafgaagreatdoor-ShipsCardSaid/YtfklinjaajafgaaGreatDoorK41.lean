import Derived.Test.YtfklinjaajafgaaGreatDoorK08
import Derived.Deep.DeepCutAuto
import Derived.Deep.CutBlock
import Derived.Test.YtfklinjaajafgaaGreatDoorK01
import Derived.Deep.RegionLaw
import Derived.Deep.AppendLies
set_option maxRecDepth 100000
set_option maxHeartbeats 4000000
namespace Go.Proofs.YtfklinjaajafgaaGreatDoor
open Go.RowKit
theorem qQj (s i:Nat)(hs:s<4294967296):(bits .and .u32 ((s:Int) / 2 ^ i) 1==1)=s.testBit i:=by
 have h1:((s:Int) / 2 ^ i)=((s / 2 ^ i:Nat):Int):=by simp
 have h2:s / 2 ^ i<=s:=Nat.div_le_self _ _;rw[h1,show (1:Int)=((1:Nat):Int) from rfl,u32_and_nat _ 1 (by omega) (by omega),Nat.and_one_is_mod,Nat.testBit_eq_decide_div_mod_eq];rw[Bool.eq_iff_iff];simp;omega
theorem iQg (s i:Nat)(hs:s<18446744073709551616):(bits .and .u64 ((s:Int) / 2 ^ i) 1==1)=s.testBit i:=by
 have h1:((s:Int) / 2 ^ i)=((s / 2 ^ i:Nat):Int):=by simp
 have h2:s / 2 ^ i<=s:=Nat.div_le_self _ _;rw[h1,show (1:Int)=((1:Nat):Int) from rfl,u64_and_nat _ 1 (by omega) (by omega),Nat.and_one_is_mod,Nat.testBit_eq_decide_div_mod_eq];rw[Bool.eq_iff_iff];simp;omega
theorem aQl (a b:Nat)(ha:a<4294967296)(hb:b<4294967296):a ||| b<4294967296:=by
 have:=Nat.or_lt_two_pow (n:=32) (by simpa using ha) (by simpa using hb);simpa using this
theorem gQ8 (k:Nat)(hk:k<32):(2:Nat) ^ k<4294967296:=by
 have h2:(2:Nat) ^ k<2 ^ 32:=Nat.pow_lt_pow_right (by omega) hk;simpa using h2
theorem nQe (k:Nat)(hk:k<32):IntKind.u32.wrap (2 ^ k)=((2 ^ k:Nat):Int):=by
 have h2:=gQ8 k hk;rw[IntKind.wrap_u32,show ((2:Int) ^ k)=((2 ^ k:Nat):Int) from by simp];generalize 2 ^ k=y at *;omega
theorem aQ3 (s i:Nat)(hs:s<4294967296)(hi:i<32)(w:World) :
  Calls Tryz.prog 97 #[.int .u32 s,.int .i64 i] w fun e w'=>e=.returned (.bool (s.testBit i))/\w'=w:=by
 have H:Hid _:=qQj s i hs;go_enter Tryz.func97,Tryz.ntmps97;go_wp2_with fail;rw[H.out];go_ret;exact⟨rfl,rfl⟩
theorem bXa (g:List UInt8)(lo hi:Nat)(c:UInt8)(h:SB g lo hi)(w:World) :
  Calls Tryz.prog 126 #[.agg #[.int .u64 lo,.int .u64 hi],.int .u8 c.toNat] w fun e w'=>e=.returned (.bool (Ls.has g c))/\Below w.heap.size w w':=by
 have hb1:=A5 w (.cells #[.int .u64 lo,.int .u64 hi] 157)
 by_cases h128:c.toNat<128
 ·have HB:Hid _:=h.bit c h128
  have hl:=h.loLt;have hh:=h.hiLt;clear h
  by_cases h64:c.toNat<64
  ·have hq:(c.toNat:Int) / 64=0:=by omega
   have hr:(c.toNat:Int) % 64=c.toNat:=by omega
   have HX:Hid (F9 lo hi c.toNat=lo.testBit c.toNat):=by show _=_;unfold F9;rw[if_pos h64]
   have H:Hid _:=iQg lo c.toNat hl;go_enter Tryz.func126,Tryz.ntmps126;go_wp2_with fail;go_ret;exact⟨Q0 (by rw[<-HB.out,HX.out,<-H.out]),hb1⟩
  ·have hq:(c.toNat:Int) / 64=1:=by omega
   have hr:(c.toNat:Int) % 64=((c.toNat-64:Nat):Int):=by omega
   have HX:Hid (F9 lo hi c.toNat=hi.testBit (c.toNat-64)):=by show _=_;unfold F9;rw[if_neg h64]
   have H:Hid _:=iQg hi (c.toNat-64) hh;go_enter Tryz.func126,Tryz.ntmps126;go_wp2_with fail;go_ret;exact⟨Q0 (by rw[<-HB.out,HX.out,<-H.out]),hb1⟩
 ·have HN:Hid _:=h.none c (by omega)
  clear h;go_enter Tryz.func126,Tryz.ntmps126;go_wp2_with fail;go_ret;exact⟨Q0 (by rw[HN.out]),hb1⟩
structure NetL (w:World)(B nb:Nat)(P Q:Value)(n:Ls.Net)(x:Ls.Span):Prop where
 lies:w.heap[nb]?=some (.cells #[P,Q,.int .u32 x.first,.int .u32 x.last,.bool x.empty] 152 (0,0))
 base:B<=nb
 good:Ls.iXu n
 few:n.places.length<=32
 pls:∃los:List (Nat × Nat),los.length=n.places.length/\(∀k a,los[k]?=some a->SB (n.places.getD k []) a.1 a.2)/\w.ownsRow B 157 2 P n.places.length (los.flatMap fun a=>[.int .u64 a.1,.int .u64 a.2])
 bhs:w.ownsRow B 148 1 Q n.places.length (n.behind.map fun (x:Nat)=>.int .u32 x)
 small:∀x,x∈n.behind->x<4294967296
 apP:P.ownBlock≠some nb
 apQ:Q.ownBlock≠some nb
 apPQ:P.ownBlock=none\/P.ownBlock≠Q.ownBlock
def Free (w:World)(nb:Nat)(P Q:Value)(k:Nat):Prop:=k<w.heap.size/\k≠nb/\some k≠P.ownBlock/\some k≠Q.ownBlock
structure NStep (w:World)(nb:Nat)(P Q:Value)(w':World)(P' Q':Value):Prop where
 os:w'.os=w.os
 tape:w'.tape=w.tape
 output:w'.output=w.output
 size:w.heap.size<=w'.heap.size
 block:∀k,Free w nb P Q k->w'.heap[k]?=w.heap[k]?
 rowP:P'.ownBlock=P.ownBlock\/∃k,P'.ownBlock=some k/\w.heap.size<=k
 rowQ:Q'.ownBlock=Q.ownBlock\/∃k,Q'.ownBlock=some k/\w.heap.size<=k
theorem NStep.free {w w':World}{nb:Nat}{P Q P' Q':Value}(h:NStep w nb P Q w' P' Q'){k:Nat}(hk:Free w nb P Q k):Free w' nb P' Q' k:=by
 refine⟨Nat.lt_of_lt_of_le hk.1 h.size,hk.2.1,?_,?_⟩
 ·rcases h.rowP with e|⟨m,e,hm⟩
  ·rw[e];exact hk.2.2.1
  ·rw[e];have:=hk.1;simp;omega
 ·rcases h.rowQ with e|⟨m,e,hm⟩
  ·rw[e];exact hk.2.2.2
  ·rw[e];have:=hk.1;simp;omega
theorem NStep.trans {w w1 w2:World}{nb:Nat}{P Q P1 Q1 P2 Q2:Value}(h:NStep w nb P Q w1 P1 Q1)(k:NStep w1 nb P1 Q1 w2 P2 Q2):NStep w nb P Q w2 P2 Q2:=by
 refine⟨k.os.trans h.os,k.tape.trans h.tape,k.output.trans h.output,Nat.le_trans h.size k.size,fun i hi=>(k.block i (h.free hi)).trans (h.block i hi),?_,?_⟩
 ·rcases k.rowP with e|⟨m,e,hm⟩
  ·rw[e];exact h.rowP
  ·exact .inr ⟨m,e,Nat.le_trans h.size hm⟩
 ·rcases k.rowQ with e|⟨m,e,hm⟩
  ·rw[e];exact h.rowQ
  ·exact .inr ⟨m,e,Nat.le_trans h.size hm⟩
theorem NStep.of_below {w w':World}(nb:Nat)(P Q:Value)(h:Below w.heap.size w w'):NStep w nb P Q w' P Q:=⟨h.os,h.tape,h.output,h.size,fun k hk=>h.block k hk.1,.inl rfl,.inl rfl⟩
theorem NetL.lt {w:World}{B nb:Nat}{P Q:Value}{n:Ls.Net}{x:Ls.Span}(h:NetL w B nb P Q n x):nb<w.heap.size:=(Array.getElem?_eq_some_iff.1 h.lies).1
theorem NetL.newFree {w:World}{B nb:Nat}{P Q:Value}{n:Ls.Net}{x:Ls.Span}(h:NetL w B nb P Q n x)(o:Obj):Free (w.alloc o) nb P Q w.heap.size:=by
 obtain⟨los,_,_,hP⟩:=h.pls;refine⟨by simp,by have:=h.lt;omega,fun e=>?_,fun e=>?_⟩
 ·have:=hP.lt _ e.symm;omega
 ·have:=h.bhs.lt _ e.symm;omega
theorem NetL.same {w w':World}{B nb:Nat}{P Q:Value}{n:Ls.Net}{x:Ls.Span}(h:NetL w B nb P Q n x)(h1:w'.heap[nb]?=w.heap[nb]?)(h2:∀k,P.ownBlock=some k->w'.heap[k]?=w.heap[k]?)(h3:∀k,Q.ownBlock=some k->w'.heap[k]?=w.heap[k]?):NetL w' B nb P Q n x:=by
 have row:∀{e:TypeId} {sz:Nat} {v:Value} {m:Nat} {xs:List Value},w.ownsRow B e sz v m xs->(∀k,v.ownBlock=some k->w'.heap[k]?=w.heap[k]?)->w'.ownsRow B e sz v m xs:=by
  intro e sz v m xs ho hk;refine⟨ho.1,?_⟩;rcases ho.2 with h4|⟨g,cap,cur,rfl,hbg,hg,h5⟩
  ·exact .inl h4
  ·exact .inr ⟨g,cap,cur,rfl,hbg,by rw[hk g rfl];exact hg,h5⟩
 obtain⟨los,hl,hS,hP⟩:=h.pls;exact⟨h1.trans h.lies,h.base,h.good,h.few,⟨los,hl,hS,row hP h2⟩,row h.bhs h3,h.small,h.apP,h.apQ,h.apPQ⟩
theorem NetL.below {w w':World}{B nb:Nat}{P Q:Value}{n:Ls.Net}{x:Ls.Span}(h:NetL w B nb P Q n x)(hb:Below w.heap.size w w'):NetL w' B nb P Q n x:=by
 obtain⟨los,_,_,hP⟩:=h.pls;exact h.same (hb.block _ h.lt) (fun k hk=>hb.block k (hP.lt k hk).2) (fun k hk=>hb.block k (h.bhs.lt k hk).2)
theorem NetL.set {w:World}{B nb:Nat}{P Q:Value}{n:Ls.Net}{x:Ls.Span}(h:NetL w B nb P Q n x){k:Nat}(hk:Free w nb P Q k)(o:Nat)(v:Value):NetL (w.setCell ⟨k,o,none⟩ v) B nb P Q n x:=
 h.same (Below.heap_setCell _ _ _ _ (Ne.symm hk.2.1)) (fun j hj=>Below.heap_setCell _ _ _ _ (fun e=>hk.2.2.1 (by rw[hj];exact congrArg some (Eq.symm e)))) (fun j hj=>Below.heap_setCell _ _ _ _ (fun e=>hk.2.2.2 (by rw[hj];exact congrArg some (Eq.symm e))))
theorem NStep.set {w w1:World}{nb:Nat}{P Q P1 Q1:Value}(h:NStep w nb P Q w1 P1 Q1){k:Nat}(hk:w.heap.size<=k)(o:Nat)(v:Value):NStep w nb P Q (w1.setCell ⟨k,o,none⟩ v) P1 Q1:=⟨h.os,h.tape,h.output,by simp[World.setCell];exact h.size,fun i hi=>(Below.heap_setCell _ _ _ _ (by have:=hi.1;show i≠k;omega)).trans (h.block i hi),h.rowP,h.rowQ⟩
def P8 (n:Ls.Net)(f t k:Nat):Ls.Net:=⟨n.places,n.behind.mapIdx fun i x=>if i<k/\f.testBit i=true then x ||| t else x⟩
theorem kQj (n:Ls.Net)(f t:Nat):P8 n f t 0=n:=by
 unfold P8;have:(n.behind.mapIdx fun i x=>if i<0/\f.testBit i=true then x ||| t else x)=n.behind:=by
  apply List.ext_getElem?
  intro i;rw[List.getElem?_mapIdx];cases n.behind[i]?<;>simp
 rw[this]
theorem kQi (n:Ls.Net)(f t:Nat):P8 n f t n.behind.length=Ls.fXp n f t:=by
 unfold P8 Ls.fXp;congr 1
 apply List.ext_getElem?
 intro i;rw[List.getElem?_mapIdx,List.getElem?_mapIdx];rcases Nat.lt_or_ge i n.behind.length with h|h
 ·rw[List.getElem?_eq_getElem h];simp[h]
 ·rw[List.getElem?_eq_none h];rfl
theorem vQ8 (n:Ls.Net)(f t k:Nat)(h:f.testBit k=false):P8 n f t (k+1)=P8 n f t k:=by
 unfold P8;congr 1
 apply List.ext_getElem?
 intro i;rw[List.getElem?_mapIdx,List.getElem?_mapIdx];cases n.behind[i]? with
 | none=>rfl
 | some x=>
  by_cases e:i=k
  ·subst e;simp[h]
  ·have:(i<k+1/\f.testBit i=true)↔(i<k/\f.testBit i=true):=by constructor<;>(rintro ⟨h1,h2⟩;exact⟨by omega,h2⟩)
   simp only[Option.map_some,this]
theorem vQ9 (n:Ls.Net)(f t k:Nat)(hk:k<n.behind.length)(h:f.testBit k=true):P8 n f t (k+1)=⟨n.places,(P8 n f t k).behind.set k (n.behind[k] ||| t)⟩:=by
 unfold P8;congr 1
 apply List.ext_getElem?
 intro i;rw[List.getElem?_set,List.getElem?_mapIdx,List.getElem?_mapIdx]
 by_cases e:k=i
 ·subst e;rw[if_pos rfl,if_pos (by simpa using hk),List.getElem?_eq_getElem hk];simp[h]
 ·rw[if_neg e]
  cases n.behind[i]? with
  | none=>rfl
  | some x=>
   have:(i<k+1/\f.testBit i=true)↔(i<k/\f.testBit i=true):=by constructor<;>(rintro ⟨h1,h2⟩;exact⟨by omega,h2⟩)
   simp only[Option.map_some,this]
theorem vQ7 (n:Ls.Net)(f t k:Nat)(hk:k<n.behind.length):(P8 n f t k).behind[k]?=some n.behind[k]:=by
 unfold P8;rw[List.getElem?_mapIdx,List.getElem?_eq_getElem hk];simp
theorem NetL.setQ {w:World}{B nb g cap:Nat}{P:Value}{n:Ls.Net}{x:Ls.Span}(h:NetL w B nb P (.slice (some ⟨g,0,none⟩) n.places.length cap) n x){j v:Nat}(hv:v<4294967296) :
  NetL (w.setCell ⟨g,j,none⟩ (.int .u32 v)) B nb P (.slice (some ⟨g,0,none⟩) n.places.length cap) ⟨n.places,n.behind.set j v⟩ x:=by
 obtain⟨los,hl,hS,hP⟩:=h.pls;refine⟨?_,h.base,?_,h.few,⟨los,hl,hS,?_⟩,?_,?_,h.apP,h.apQ,h.apPQ⟩
 ·rw[Below.heap_setCell _ _ _ _ (fun e=>h.apQ (by show some g=some nb;rw[e]))];exact h.lies
 ·have:=h.good;unfold Ls.iXu at this ⊢;simpa using this
 ·refine⟨hP.1,?_⟩
  rcases hP.2 with h4|⟨k,cap',cur,rfl,hbg,hg,h5⟩
  ·exact .inl h4
  ·refine .inr ⟨k,cap',cur,rfl,hbg,?_,h5⟩
   rw[Below.heap_setCell _ _ _ _ (fun e=>?_)]
   ·exact hg
   ·rcases h.apPQ with e2|e2
    ·cases e2
    ·exact e2 (by show some k=some g;rw[e])
 ·have:=h.bhs.stored j (.int .u32 v)
  rw[List.map_set];exact this.1
 ·intro y hy
  rcases List.mem_or_eq_of_mem_set hy with hy|rfl
  ·exact h.small y hy
  ·exact hv
theorem NetL.shapeQ {w:World}{B nb:Nat}{P Q:Value}{n:Ls.Net}{x:Ls.Span}(h:NetL w B nb P Q n x):(Q=.slice none 0 0/\n.places.length=0)\/∃g cap,Q=.slice (some ⟨g,0,none⟩) n.places.length cap:=by
 rcases h.bhs.2 with⟨h1,h2⟩|⟨g,cap,cur,h1,_⟩
 ·exact .inl ⟨h1,h2⟩
 ·exact .inr ⟨g,cap,h1⟩
theorem NetL.c1 {w:World}{B nb:Nat}{P Q:Value}{n:Ls.Net}{x:Ls.Span}(h:NetL w B nb P Q n x):w.cell? ⟨nb,1,none⟩=some Q:=by have:=h.lies;simp[World.cell?,this]
theorem NetL.c0 {w:World}{B nb:Nat}{P Q:Value}{n:Ls.Net}{x:Ls.Span}(h:NetL w B nb P Q n x):w.cell? ⟨nb,0,none⟩=some P:=by have:=h.lies;simp[World.cell?,this]
theorem NetL.fr {w:World}{B nb:Nat}{P Q:Value}{n:Ls.Net}{x:Ls.Span}(h:NetL w B nb P Q n x)(o:Nat):w.frozen? ⟨nb,o,none⟩=false:=by have:=h.lies;simp[World.frozen?,this]
theorem kQk (w:World)(B nb:Nat)(P Q:Value)(n:Ls.Net)(x:Ls.Span)(h:NetL w B nb P Q n x)(f t:Nat)(hf:f<4294967296)(ht:t<4294967296) :
  Calls Tryz.prog 128 #[.pointer (some ⟨nb,0,none⟩),.int .u32 f,.int .u32 t] w fun e w'=>e=.returned (.tuple #[])/\NetL w' B nb P Q (Ls.fXp n f t) x/\NStep w nb P Q w' P Q:=by
 have hgd:=h.good;unfold Ls.iXu at hgd;have hfew:=h.few;have c1:=h.c1;rcases h.shapeQ with⟨rfl,h0⟩|⟨g,cap,rfl⟩
 ·have HL:Hid (Ls.fXp n f t=n):=by
   show _=_;have:=kQi n f t;rw[hgd,h0,kQj]at this;exact this.symm
  have Hh:Hid _:=h;clear h;go_enter Tryz.func128,Tryz.ntmps128;go_wp2_with fail;refine wp_loop_rounds 1 ?_;rw[rounds_succ];go_wp2_with fail;go_end0;rw[HL.out];exact⟨rfl,Hh.out,NStep.of_below _ _ _ (Below.refl _ _)⟩
 ·have Hh:Hid _:=h
  clear h;go_enter Tryz.func128,Tryz.ntmps128;go_wp2_with fail;go_loopw [12] (fun i wr=>∃k:Nat,k<=n.places.length/\i=.int .i64 k/\NetL wr B nb P (.slice (some ⟨g,0,none⟩) n.places.length cap) (P8 n f t k) x/\NStep w nb P (.slice (some ⟨g,0,none⟩) n.places.length cap) wr P (.slice (some ⟨g,0,none⟩) n.places.length cap)) (fun i _=>n.places.length-(intOf i).toNat)
  case atStart=>
   refine⟨0,Nat.zero_le _,rfl,?_,NStep.of_below _ _ _ (Below.refl _ _)⟩;rw[kQj];exact Hh.out
  case round=>
   obtain⟨k,hk,rfl,hN,hst⟩:=hrel;have HN:Hid _:=hN;have HS:Hid _:=hst;clear hst
   by_cases hlt:k<n.places.length
   ·have k1:=hN.c1
    have hcell:wr.cell? ⟨g,k,none⟩=some (.int .u32 (n.behind[k]'(by omega))):=by
     have h1:=hN.bhs.cellAt k (by show k<n.places.length*1;omega);rw[h1,List.getElem?_map,vQ7 n f t k (by omega)];rfl
    have hfz:=hN.bhs.frozenAt k;have hsm:n.behind[k]'(by omega)<4294967296:=Hh.out.small _ (List.getElem_mem _);have hog:(wr.cell? ⟨g,k,none⟩).isSome:=by rw[hcell];rfl
    clear hN hog;have HO:Hid _:=u32_or_nat (n.behind[k]'(by omega)) t hsm ht;have hol:=aQl _ t hsm ht;cases hb:f.testBit k with
    | true=>
     have hH:=aQ3 f k hf (by omega) wr;rw[hb]at hH;have HY:Hid _:=vQ9 n f t k (by omega) hb;clear hb;go_wp2_with fail;refine hH.mono ?_;rintro e w1 ⟨rfl,rfl⟩;go_wp2_with fail;rw[HO.out];go_roundw
     case rel=>
      refine⟨k+1,by omega,by go_num,?_,?_⟩
      ·rw[HY.out]
       exact NetL.setQ (n:=P8 n f t k) HN.out hol
      ·have h1:=HS.out
       refine⟨h1.os,h1.tape,h1.output,by simp[World.setCell];exact h1.size,fun i hi=>(Below.heap_setCell _ _ _ _ (fun e=>hi.2.2.2 (by show some i=some g;rw[e]))).trans (h1.block i hi),h1.rowP,h1.rowQ⟩
     case measure=>simp[intOf];omega
    | false=>
     have hH:=aQ3 f k hf (by omega) wr;rw[hb]at hH;have HY:Hid _:=vQ8 n f t k hb;clear hb;go_wp2_with fail;refine hH.mono ?_;rintro e w1 ⟨rfl,rfl⟩;go_wp2_with fail;go_roundw
     case rel=>
      refine⟨k+1,by omega,by go_num,?_,HS.out⟩;rw[HY.out];exact HN.out
     case measure=>simp[intOf];omega
   ·have hk1:k=n.behind.length:=by omega
    have HA:Hid _:=kQi n f t;clear hN;go_wp2_with fail;go_end0;rw[<-HA.out,<-hk1];exact⟨rfl,HN.out,HS.out⟩
theorem uQj:(Tryz.prog.info? 157).map (fun i=>(i.zero,i.size,i.bytes))=some (some (.agg #[.int .u64 0,.int .u64 0]),2,16):=by kernel_rfl
theorem uQi:(Tryz.prog.info? 148).map (fun i=>(i.zero,i.size,i.bytes))=some (some (.int .u32 0),1,4):=by kernel_rfl
theorem NetL.shapeP {w:World}{B nb:Nat}{P Q:Value}{n:Ls.Net}{x:Ls.Span}(h:NetL w B nb P Q n x):∃a cap,P=.slice a n.places.length cap:=by
 obtain⟨los,_,_,hP⟩:=h.pls;rcases hP.2 with⟨h1,h2⟩|⟨g,cap,cur,h1,_⟩
 ·exact⟨_,_,by rw[h1,h2]⟩
 ·exact⟨_,_,h1⟩
theorem NetL.shapeQ' {w:World}{B nb:Nat}{P Q:Value}{n:Ls.Net}{x:Ls.Span}(h:NetL w B nb P Q n x):∃a cap,Q=.slice a n.places.length cap:=by
 rcases h.shapeQ with⟨h1,h2⟩|⟨g,cap,h1⟩
 ·exact⟨_,_,by rw[h1,h2]⟩
 ·exact⟨_,_,h1⟩
theorem N1 {w:World}{g f l:Nat}{e:Bool}{t:TypeId}(h:w.heap[g]?=some (.cells #[.int .u32 f,.int .u32 l,.bool e] t (0,0))):w.cell? ⟨g,0,none⟩=some (.int .u32 f)/\w.cell? ⟨g,1,none⟩=some (.int .u32 l)/\w.cell? ⟨g,2,none⟩=some (.bool e)/\(∀o,w.frozen? ⟨g,o,none⟩=false):=by
 refine⟨?_,?_,?_,fun o=>?_⟩
 ·simp[World.cell?,h]
 ·simp[World.cell?,h]
 ·simp[World.cell?,h]
 ·simp[World.frozen?,h]
abbrev S3 (x:Ls.Span):Value:=.agg #[.int .u32 x.first,.int .u32 x.last,.bool x.empty]
structure Mid (W W3:World)(B nb:Nat)(P Q P':Value)(n:Ls.Net)(x:Ls.Span)(los:List (Nat × Nat))(lo hi:Nat):Prop where
 lies:W3.heap[nb]?=some (.cells #[P',Q,.int .u32 x.first,.int .u32 x.last,.bool x.empty] 152 (0,0))
 pls:W3.ownsRow B 157 2 P' (n.places.length+1) (los.flatMap (fun a=>[.int .u64 a.1,.int .u64 a.2])++[.int .u64 lo,.int .u64 hi])
 bhs:W3.ownsRow B 148 1 Q n.places.length (n.behind.map fun (x:Nat)=>.int .u32 x)
 size:W.heap.size<W3.heap.size
 os:W3.os=W.os
 tape:W3.tape=W.tape
 output:W3.output=W.output
 block:∀k,Free W nb P Q k->W3.heap[k]?=W.heap[k]?
 rowP:P'.ownBlock=P.ownBlock\/∃k,P'.ownBlock=some k/\W.heap.size<=k
 apP:P'.ownBlock≠some nb
 apPQ:P'.ownBlock≠Q.ownBlock
theorem yQt {W w1:World}{B nb:Nat}{P Q:Value}{n:Ls.Net}{x:Ls.Span}(hN:NetL W B nb P Q n x)(o:Obj)(gg cap:Nat)(los:List (Nat × Nat))(lo hi:Nat)
  (hown1:w1.ownsRow B 157 2 (.slice (some ⟨gg,0,none⟩) (n.places.length+1) cap) (n.places.length+1) (los.flatMap (fun a=>[.int .u64 a.1,.int .u64 a.2])++[.int .u64 lo,.int .u64 hi]))
  (hgrow:(W.alloc o).drew.grownBy w1 P.ownBlock) (hat:P.ownBlock=some gg\/gg=W.heap.size+1) :
  Mid W (w1.setCell ⟨nb,0,none⟩ (.slice (some ⟨gg,0,none⟩) (n.places.length+1) cap)) B nb P Q (.slice (some ⟨gg,0,none⟩) (n.places.length+1) cap) n x los lo hi:=by
 have hlt:=hN.lt;have hsz:W.heap.size+1<=w1.heap.size:=by have:=hgrow.size;simpa using this
 have hblk:∀k,k<W.heap.size->some k≠P.ownBlock->w1.heap[k]?=W.heap[k]?:=fun k hk hne=>by
  rw[hgrow.block k (by simp;omega) hne];exact Below.heap_alloc _ _ _ hk
 have hgn:gg≠nb:=by
  rcases hat with e|e
  ·intro e2;exact hN.apP (by rw[e,e2])
  ·omega
 have hset:=T9 w1 nb 0 (.slice (some ⟨gg,0,none⟩) (n.places.length+1) cap);refine⟨?_,?_,?_,?_,?_,?_,?_,?_,?_,?_,?_⟩
 ·have:=hblk nb hlt (Ne.symm hN.apP)
  rw[hN.lies]at this;simp[World.setCell,Array.getElem?_modify,this]
 ·exact hown1.kept hset (.inr (by show some gg≠some nb;simp[hgn]))
 ·refine World.ownsRow.kept ?_ hset (.inr hN.apQ)
  refine World.ownsRow.kept (w:=(W.alloc o).drew) (hN.bhs.alloc o) hgrow ?_;rcases hN.apPQ with e|e
  ·rw[e]
   cases hq:Q.ownBlock with
   | none=>exact .inl rfl
   | some k=>exact .inr (by simp)
  ·exact .inr (Ne.symm e)
 ·simp[World.setCell];omega
 ·exact hgrow.os
 ·exact hgrow.tape
 ·exact hgrow.output
 ·intro k hk
  rw[Below.heap_setCell _ _ _ _ hk.2.1];exact hblk k hk.1 hk.2.2.1
 ·rcases hat with e|e
  ·exact .inl (by rw[e];rfl)
  ·exact .inr ⟨gg,rfl,by omega⟩
 ·show some gg≠some nb;simp[hgn]
 ·intro e
  rcases hat with e1|e1
  ·rcases hN.apPQ with e2|e2
   ·rw[e2]at e1;cases e1
   ·exact e2 (e1.trans e)
  ·have:=(hN.bhs.lt gg e.symm).2
   omega
theorem yQs {W W3 w2:World}{B nb:Nat}{P Q P' Q':Value}{n:Ls.Net}{x:Ls.Span}(hN:NetL W B nb P Q n x){los:List (Nat × Nat)}{lo hi:Nat}(hM:Mid W W3 B nb P Q P' n x los lo hi)
  (hlos:los.length=n.places.length) (hSB:∀k a,los[k]?=some a->SB (n.places.getD k []) a.1 a.2) {g:List UInt8} (hS:SB g lo hi) (hl:n.places.length<32) (o:Obj)
  (hown:w2.ownsRow B 148 1 Q' (n.places.length+1) ((n.behind.map fun (x:Nat)=>Value.int .u32 x)++[.int .u32 0])) (hg:(W3.alloc o).grownBy w2 Q.ownBlock) (hv:Q'.ownBlock=Q.ownBlock\/∃k,Q'.ownBlock=some k/\W3.heap.size+1<=k) :
  NetL (w2.setCell ⟨nb,1,none⟩ Q') B nb P' Q' (Ls.eX9 g n) x/\NStep W nb P Q (w2.setCell ⟨nb,1,none⟩ Q') P' Q':=by
 have hlt:=hN.lt;have hsz3:=hM.size;have hsz:W3.heap.size+1<=w2.heap.size:=by have:=hg.size;simpa using this
 have hblk:∀k,k<W3.heap.size->some k≠Q.ownBlock->w2.heap[k]?=W3.heap[k]?:=fun k hk hne=>by
  rw[hg.block k (by simp;omega) hne];exact Below.heap_alloc _ _ _ hk
 have hset:=T9 w2 nb 1 Q';have hqn:Q'.ownBlock≠some nb:=by
  rcases hv with e|⟨k,e,hk⟩
  ·rw[e];exact hN.apQ
  ·rw[e];simp;omega
 have hpl:=hM.pls.lt;refine⟨⟨?_,hN.base,?_,?_,⟨los++[(lo,hi)],?_,?_,?_⟩,?_,?_,hM.apP,hqn,?_⟩,?_⟩
 ·have:=hblk nb (by omega) (Ne.symm hN.apQ)
  rw[hM.lies]at this;simp[World.setCell,Array.getElem?_modify,this]
 ·have:=hN.good;unfold Ls.iXu at this ⊢;simp[Ls.eX9,this]
 ·simp[Ls.eX9];omega
 ·simp[Ls.eX9,hlos]
 ·intro k a hk
  rcases Nat.lt_or_ge k n.places.length with h1|h1
  ·rw[List.getElem?_append_left (by omega)]at hk
   have:=hSB k a hk;simp only[Ls.eX9,List.getD_eq_getElem?_getD]at this ⊢;rw[List.getElem?_append_left h1];exact this
  ·rw[List.getElem?_append_right (by omega)]at hk
   obtain⟨h2,h3⟩:=List.getElem?_eq_some_iff.1 hk;simp at h2;have h4:k=n.places.length:=by omega
   subst h4;simp[hlos]at h3;subst h3;simpa [Ls.eX9] using hS
 ·have h1:w2.ownsRow B 157 2 P' (n.places.length+1) _:=(hM.pls.alloc o).kept hg (.inr hM.apPQ)
  have h2:=h1.kept hset (.inr hM.apP);simpa [Ls.eX9] using h2
 ·have h2:=hown.kept hset (.inr hqn)
  simpa [Ls.eX9] using h2
 ·intro y hy
  simp only[Ls.eX9,List.mem_append,List.mem_singleton]at hy;rcases hy with hy|rfl
  ·exact hN.small y hy
  ·omega
 ·right
  rcases hv with e|⟨k,e,hk⟩
  ·rw[e];exact hM.apPQ
  ·rw[e]
   intro e2;have:=(hpl k e2).2;omega
 ·refine⟨hg.os.trans hM.os,hg.tape.trans hM.tape,hg.output.trans hM.output,by simp[World.setCell];omega,fun k hk=>?_,hM.rowP,?_⟩
  ·rw[Below.heap_setCell _ _ _ _ hk.2.1,hblk k (by have:=hk.1;omega) hk.2.2.2]
   exact hM.block k hk
  ·rcases hv with e|⟨k,e,hk⟩
   ·exact .inl e
   ·exact .inr ⟨k,e,by omega⟩
theorem Free.set {w:World}{nb k:Nat}{P Q:Value}(h:Free w nb P Q k)(a:Addr)(v:Value):Free (w.setCell a v) nb P Q k:=⟨by simp[World.setCell];exact h.1,h.2⟩
theorem Z9 {w W:World}{B nb k:Nat}{P Q P' Q':Value}{n:Ls.Net}{x:Ls.Span}(h:NetL W B nb P' Q' n x)(hs:NStep w nb P Q W P' Q')(hf:Free W nb P' Q' k)(hk:w.heap.size<=k)(a b c:Value) :
  NetL (((W.setCell ⟨k,0,none⟩ a).setCell ⟨k,1,none⟩ b).setCell ⟨k,2,none⟩ c) B nb P' Q' n x/\NStep w nb P Q (((W.setCell ⟨k,0,none⟩ a).setCell ⟨k,1,none⟩ b).setCell ⟨k,2,none⟩ c) P' Q':=⟨((h.set hf 0 a).set (hf.set _ _) 1 b).set ((hf.set _ _).set _ _) 2 c,((hs.set hk 0 a).set hk 1 b).set hk 2 c⟩
def S7 (w:World)(B nb:Nat)(P Q:Value)(x:Ls.Span)(r:Ls.Net × Ls.Span):Ending->World->Prop:=fun e w'=>
 ∃P' Q',e=.returned (S3 r.2)/\NetL w' B nb P' Q' r.1 x/\NStep w nb P Q w' P' Q'
theorem pQe (w:World)(B nb:Nat)(P Q:Value)(n:Ls.Net)(x:Ls.Span)(h:NetL w B nb P Q n x)(hB:B<=w.heap.size)(g:List UInt8)(lo hi:Nat)(hS:SB g lo hi)(hl:n.places.length<32) :
  Calls Tryz.prog 114 #[.pointer (some ⟨nb,0,none⟩),.agg #[.int .u64 lo,.int .u64 hi]] w (S7 w B nb P Q x (Ls.eX9 g n,Ls.fX8 n.places.length)):=by
 have hb0:=C6 w (.cells #[.int .u64 lo,.int .u64 hi] 157) (.cells #[.int .u32 (0:Nat),.int .u32 (0:Nat),.bool false] 150);have hN0:=h.below hb0;have hx0:((w.alloc (.cells #[.int .u64 lo,.int .u64 hi] 157)).alloc (.cells #[.int .u32 (0:Nat),.int .u32 (0:Nat),.bool false] 150)).heap[w.heap.size]?=some (.cells #[.int .u64 lo,.int .u64 hi] 157 (0,0)):=by
  rw[Below.heap_alloc _ _ _ (by simp)];exact heap_alloc_new _ _
 have hy0:((w.alloc (.cells #[.int .u64 lo,.int .u64 hi] 157)).alloc (.cells #[.int .u32 (0:Nat),.int .u32 (0:Nat),.bool false] 150)).heap[w.heap.size+1]?=some (.cells #[.int .u32 (0:Nat),.int .u32 (0:Nat),.bool false] 150 (0,0)):=by
  have:=heap_alloc_new (w.alloc (.cells #[.int .u64 lo,.int .u64 hi] 157)) (.cells #[.int .u32 (0:Nat),.int .u32 (0:Nat),.bool false] 150);simpa using this
 have hz0:((w.alloc (.cells #[.int .u64 lo,.int .u64 hi] 157)).alloc (.cells #[.int .u32 (0:Nat),.int .u32 (0:Nat),.bool false] 150)).heap.size=w.heap.size+1+1:=by simp
 have hst0:=NStep.of_below nb P Q hb0;have HW:Hid ((2:Int) ^ n.places.length % 4294967296=((2 ^ n.places.length:Nat):Int)):=by
  have:=nQe n.places.length hl;rw[IntKind.wrap_u32]at this;exact this
 have hp2:=gQ8 n.places.length hl;obtain⟨pa,pc,rfl⟩:=h.shapeP;obtain⟨qa,qc,rfl⟩:=h.shapeQ';have hnl:=h.lt;have c0:=hN0.c0;have Hx0:Hid _:=hx0;have Hy0:Hid _:=hy0;obtain⟨r0,r1,_,_⟩:=j8 hx0;have HnP:Hid ((∀k,(Value.slice pa n.places.length pc).ownBlock=some k->k≠w.heap.size)/\(∀k,(Value.slice pa n.places.length pc).ownBlock=some k->k≠w.heap.size+1)):=by
  obtain⟨los,_,_,hP⟩:=h.pls;exact⟨fun k hk=>by have:=hP.lt k hk;omega,fun k hk=>by have:=hP.lt k hk;omega⟩
 have HnQ:Hid (∀k,(Value.slice qa n.places.length qc).ownBlock=some k->k≠w.heap.size+1):=fun k hk=>by have:=h.bhs.lt k hk;omega
 clear hx0 hy0 h;have hne1:¬nb=w.heap.size:=by omega
 go_enter Tryz.func114,Tryz.ntmps114;go_upto_region 1 with (fail);generalize (w.alloc (.cells #[.int .u64 (lo:Int),.int .u64 (hi:Int)] 157)).alloc (.cells #[.int .u32 ((0:Nat):Int),.int .u32 ((0:Nat):Int),.bool false] 150)=W at *;have hzW:w.heap.size+1<W.heap.size:=by omega
 have hzW0:w.heap.size<W.heap.size:=by omega
 have hnW:nb<W.heap.size:=by omega
 have Hz0:Hid _:=hz0;have HF:Hid (Free W nb (.slice pa n.places.length pc) (.slice qa n.places.length qc) (w.heap.size+1)):=⟨hzW,by omega,fun e=>HnP.out.2 _ e.symm rfl,fun e=>HnQ.out _ e.symm rfl⟩;have hneP:some w.heap.size≠(Value.slice pa n.places.length pc).ownBlock:=fun e=>HnP.out.1 _ e.symm rfl;have hneP1:some (w.heap.size+1)≠(Value.slice pa n.places.length pc).ownBlock:=fun e=>HnP.out.2 _ e.symm rfl;clear hz0;go_wp2_with fail;obtain⟨los,hlos,hSB,hP⟩:=hN0.pls;obtain⟨i0,hi0,hz1,hz2,hz3⟩:=info_parts uQj;have hf0:=hN0.fr 0;have apP:=hN0.apP;have HN0:Hid _:=hN0;have HS0:Hid _:=hst0;have HSB:Hid _:=hSB;have HB0:Hid _:=hb0;clear hN0 hst0 hSB hb0;go_region_law
  ((refine step_append_lies _ (by rfl) _ _ _ (by rfl) B 157 i0 _ 2 16 Tryz.underlying145 hi0 hz1 hz2 hz3 rfl (by omega) (.slice pa n.places.length pc) n.places.length _ (by rfl) (hP.alloc _) ⟨W.heap.size,0,none⟩ 1 1 [.int .u64 lo,.int .u64 hi] (by rfl) (by rfl) (World.news_of_block (cs:=#[.int .u64 lo,.int .u64 hi]) (t:=157) (fr:=(0,0)) (heap_alloc_new W _)) (by simp[Value.oneCell']) (by omega) (by unfold maxLen;omega) (by omega) (by simp;omega) (W.heap.size+1) (by simp) ?_;intro gg cap w1 hown1 hgrow hat hlt;have hfz:w1.frozen? ⟨nb,0,none⟩=false:=(hgrow.frozen_far ⟨nb,0,none⟩ (by simp;omega) (Ne.symm apP)).trans (((A5 W _).frozen (p:=⟨nb,0,none⟩) hnW).trans hf0);have hcz:w1.cell? ⟨nb,0,none⟩=some (.slice pa n.places.length pc):=(hgrow.cell_far ⟨nb,0,none⟩ (by simp;omega) (Ne.symm apP)).trans (((A5 W _).cell (p:=⟨nb,0,none⟩) hnW).trans c0)))
 all_goals
  have hM:=yQt HN0.out _ gg cap los lo hi hown1 hgrow hat;have hz3:=hM.size;have hm1:=hM.lies;have k1:(w1.setCell ⟨nb,0,none⟩ (.slice (some ⟨gg,0,none⟩) (n.places.length+1) cap)).cell? ⟨nb,1,none⟩=some (.slice qa n.places.length qc):=by simp[World.cell?,hm1]
  have k2:(w1.setCell ⟨nb,0,none⟩ (.slice (some ⟨gg,0,none⟩) (n.places.length+1) cap)).frozen? ⟨nb,1,none⟩=false:=by simp[World.frozen?,hm1]
  have HM:Hid _:=hM;have hyM:=(hM.block (w.heap.size+1) HF.out).trans Hy0.out;have HyM:Hid _:=hyM;clear hm1 hM hyM hown1 hgrow hat hfz hcz hlt hP;generalize w1.setCell ⟨nb,0,none⟩ (.slice (some ⟨gg,0,none⟩) (n.places.length+1) cap)=W3 at *;obtain⟨j0,hj0,hj1,hj2,hj3⟩:=info_parts uQi;have hoa:=HM.out.bhs.alloc (.cells #[.int .u32 ((0:Nat):Int)] 148);have hcn:=aQt W3 (.int .u32 ((0:Nat):Int)) 148;go_wp2_with (at_builtin;refine O3 _ rfl _ _ 146 rfl B 148 j0 _ 1 4 Tryz.underlying146 hj0 hj1 hj2 hj3 rfl (by omega) (.slice qa n.places.length qc) n.places.length _ rfl hoa ⟨W3.heap.size,0,none⟩ 1 1 [.int .u32 ((0:Nat):Int)] rfl ?l1 hcn ?l0 ?l2 ?l3 ?l4 ?l5 ?_)
  case l1=>rfl
  case l0=>intro u hu;simp at hu;subst hu;rfl
  case l2=>unfold maxLen;omega
  case l3=>omega
  case l4=>simp;omega
  case l5=>omega
  intro v' w2 ho2 hg2 hvv;obtain⟨g2,cap2,rfl,_,_⟩:=ho2.form (by omega);have hE:=yQs HN0.out HM.out hlos HSB.out hS hl _ ho2 hg2 (by simpa using hvv);have HE:Hid _:=hE;clear hE;have hgs:=hg2.size;simp at hgs;have m1:w2.cell? ⟨nb,1,none⟩=some (.slice qa n.places.length qc):=(hg2.cell_far ⟨nb,1,none⟩ (by simp;omega) (Ne.symm HN0.out.apQ)).trans (((A5 W3 _).cell (p:=⟨nb,1,none⟩) (by show nb<_;omega)).trans k1);have m2:w2.frozen? ⟨nb,1,none⟩=false:=(hg2.frozen_far ⟨nb,1,none⟩ (by simp;omega) (Ne.symm HN0.out.apQ)).trans (((A5 W3 _).frozen (p:=⟨nb,1,none⟩) (by show nb<_;omega)).trans k2);have hy2:w2.heap[w.heap.size+1]?=some (.cells #[.int .u32 (0:Nat),.int .u32 (0:Nat),.bool false] 150 (0,0)):=by
   rw[hg2.block _ (by simp;omega) HF.out.2.2.2,Below.heap_alloc _ _ _ (by omega)];exact HyM.out
  obtain⟨s0,s1,s2,s3⟩:=N1 hy2;have s30:=s3 0;have s31:=s3 1;have s32:=s3 2;have hne5:¬w.heap.size+1=nb:=by omega
  have hne6:¬nb=w.heap.size+1:=by omega
  clear hoa hcn k1 k2 hg2 ho2 hvv s3;go_wp2_with fail;rw[HW.out];refine bodyPost_ret (v:=S3 (Ls.fX8 n.places.length)) (by simp[results,Tryz.results114,go_sem,s0,s1,s2,Ls.fX8]) rfl ⟨_,_,rfl,Z9 HE.out.1 (HS0.out.trans HE.out.2) (HE.out.2.free HF.out) (by omega) _ _ _⟩
end Go.Proofs.YtfklinjaajafgaaGreatDoor
