import Derived.Test.YtfklinjaajafgaaGreatDoorK06
import Derived.Deep.DeepCutAuto
import Derived.Deep.CutBlock
import Derived.Deep.RegionLaw
set_option maxRecDepth 100000
set_option maxHeartbeats 4000000
namespace Go.Proofs.YtfklinjaajafgaaGreatDoor
open Ls
open Go.RowKit
variable {B nb:Nat}{P P' P1 Q Q' Q1:Value}{W w w' w1 w2:World}{n:Net}{x:Span}(s i k f t:Nat)(g:Lu)(lo hi:Nat)
theorem rQs (hs:s<4294967296):(bits .and .u32 ((s:Int) / 2 ^ i) 1==1)=s.testBit i:=by
 have a:((s:Int) / 2 ^ i)=((s / 2 ^ i:Nat):Int):=by simp
 have b:s / 2 ^ i<=s:=Nat.div_le_self _ _;rw[a,show (1:Int)=((1:Nat):Int) from rfl,u32_and_nat _ 1 (by omega) (by omega),Nat.and_one_is_mod,Nat.testBit_eq_decide_div_mod_eq];rw[Bool.eq_iff_iff];simp;omega
theorem jQf (hs:s<18446744073709551616):(bits .and .u64 ((s:Int) / 2 ^ i) 1==1)=s.testBit i:=by
 have a:((s:Int) / 2 ^ i)=((s / 2 ^ i:Nat):Int):=by simp
 have b:s / 2 ^ i<=s:=Nat.div_le_self _ _;rw[a,show (1:Int)=((1:Nat):Int) from rfl,u64_and_nat _ 1 (by omega) (by omega),Nat.and_one_is_mod,Nat.testBit_eq_decide_div_mod_eq];rw[Bool.eq_iff_iff];simp;omega
theorem aQ1 (a b:Nat)(ha:a<4294967296)(c:b<4294967296):a ||| b<4294967296:=by
 have:=Nat.or_lt_two_pow (n:=32) (by simpa using ha) (by simpa using c);simpa using this
theorem hQ3 (b:k<32):(2:Nat) ^ k<4294967296:=by
 have a:(2:Nat) ^ k<2 ^ 32:=Nat.pow_lt_pow_right (by omega) b;simpa using a
theorem oQm (a:k<32):IntKind.u32.wrap (2 ^ k)=((2 ^ k:Nat):Int):=by
 have b:=hQ3 k a;rw[IntKind.wrap_u32,show ((2:Int) ^ k)=((2 ^ k:Nat):Int) from by simp];generalize 2 ^ k=y at *;omega
theorem bQl (hs:s<4294967296)(b:i<32)(w:World) :
  Calls Tryz.prog 97 #[.int .u32 s,Iv i] w fun e a=>e=.returned (.bool (s.testBit i))/\a=w:=by
 have H:Hid _:=rQs s i hs;go_enter Tryz.func97,Tryz.ntmps97;go_wp2;rw[H.out];go_ret;exact⟨rfl,rfl⟩
theorem cXl (c:UInt8)(h:SB g lo hi)(w:World) :
  Calls Tryz.prog 126 #[.agg #[.int .u64 lo,.int .u64 hi],.int .u8 c.toNat] w fun e o=>e=.returned (.bool (Ls.has g c))/\Bw w o:=by
 have b:=A5 w (.cells #[.int .u64 lo,.int .u64 hi] 157)
 by_cases j:c.toNat<128
 ·have d:Hid _:=h.bit c j
  have l:=h.loLt;have k:=h.hiLt
  by_cases f:c.toNat<64
  ·have m:(c.toNat:Int) / 64=0:=by omega
   have n:(c.toNat:Int) % 64=c.toNat:=by omega
   have a:Hid (G4 lo hi c.toNat=lo.testBit c.toNat):=by show _=_;unfold G4;rw[if_pos f]
   have H:Hid _:=jQf lo c.toNat l;go_enter Tryz.func126,Tryz.ntmps126;go_wp2;go_ret;exact⟨R5 (by rw[<-d.out,a.out,<-H.out]),b⟩
  ·have m:(c.toNat:Int) / 64=1:=by omega
   have n:(c.toNat:Int) % 64=((c.toNat-64:Nat):Int):=by omega
   have a:Hid (G4 lo hi c.toNat=hi.testBit (c.toNat-64)):=by show _=_;unfold G4;rw[if_neg f]
   have H:Hid _:=jQf hi (c.toNat-64) k;go_enter Tryz.func126,Tryz.ntmps126;go_wp2;go_ret;exact⟨R5 (by rw[<-d.out,a.out,<-H.out]),b⟩
 ·have i:Hid _:=h.none c (by omega)
  go_enter Tryz.func126,Tryz.ntmps126;go_wp2;go_ret;exact⟨R5 (by rw[i.out]),b⟩
structure NetL (w:World)(B nb:Nat)(P Q:Value)(n:Net)(x:Span):Prop where
 lies:w.heap[nb]?=some (.cells #[P,Q,.int .u32 x.first,.int .u32 x.last,.bool x.empty] 152 (0,0))
 base:B<=nb
 good:jX5 n
 few:n.places.length<=32
 pls:∃los:List (Nat × Nat),los.length=n.places.length/\(∀k a,los[k]?=some a->SB (n.places.getD k []) a.1 a.2)/\w.ownsRow B 157 2 P n.places.length (los.flatMap fun a=>[.int .u64 a.1,.int .u64 a.2])
 bhs:w.ownsRow B 148 1 Q n.places.length (n.behind.map fun (x:Nat)=>.int .u32 x)
 small:∀x,x∈n.behind->x<4294967296
 apP:P.ownBlock≠some nb
 apQ:Q.ownBlock≠some nb
 apPQ:P.ownBlock=none\/P.ownBlock≠Q.ownBlock
def Free (w:World)(nb:Nat)(P Q:Value)(k:Nat):Prop:=k<w.heap.size/\k≠nb/\some k≠P.ownBlock/\some k≠Q.ownBlock
structure NStep (w:World)(nb:Nat)(P Q:Value)(w':World)(P' Q':Value):Prop where
 os:w'.os=w.os
 tape:w'.tape=w.tape
 output:w'.output=w.output
 size:w.heap.size<=w'.heap.size
 block:∀k,Free w nb P Q k->w'.heap[k]?=w.heap[k]?
 rowP:P'.ownBlock=P.ownBlock\/∃k,P'.ownBlock=some k/\w.heap.size<=k
 rowQ:Q'.ownBlock=Q.ownBlock\/∃k,Q'.ownBlock=some k/\w.heap.size<=k
theorem NStep.free (h:NStep w nb P Q w' P' Q'){k:Nat}(a:Free w nb P Q k):Free w' nb P' Q' k:=by
 refine⟨Ll a.1 h.size,a.2.1,?_,?_⟩
 ·rcases h.rowP with e|⟨m,e,b⟩
  ·rw[e];exact a.2.2.1
  ·rw[e];have:=a.1;simp;omega
 ·rcases h.rowQ with e|⟨m,e,b⟩
  ·rw[e];exact a.2.2.2
  ·rw[e];have:=a.1;simp;omega
theorem NStep.trans {b c:Value}(h:NStep w nb P Q w1 P1 Q1)(k:NStep w1 nb P1 Q1 w2 b c):NStep w nb P Q w2 b c:=by
 refine⟨k.os.trans h.os,k.tape.trans h.tape,k.output.trans h.output,Lq h.size k.size,fun i d=>(k.block i (h.free d)).trans (h.block i d),?_,?_⟩
 ·rcases k.rowP with e|⟨m,e,a⟩
  ·rw[e];exact h.rowP
  ·exact .inr ⟨m,e,Lq h.size a⟩
 ·rcases k.rowQ with e|⟨m,e,a⟩
  ·rw[e];exact h.rowQ
  ·exact .inr ⟨m,e,Lq h.size a⟩
theorem NStep.of_below (b:Nat)(P Q:Value)(h:Bw w w'):NStep w b P Q w' P Q:=⟨h.os,h.tape,h.output,h.size,fun k a=>h.block k a.1,.inl rfl,.inl rfl⟩
theorem NetL.lt (h:NetL w B nb P Q n x):nb<w.heap.size:=(Array.getElem?_eq_some_iff.1 h.lies).1
theorem NetL.newFree (h:NetL w B nb P Q n x)(o:Obj):Free (w.alloc o) nb P Q w.heap.size:=by
 obtain⟨b,_,_,a⟩:=h.pls;refine⟨by simp,by have:=h.lt;omega,fun e=>?_,fun e=>?_⟩
 ·have:=a.lt _ e.symm;omega
 ·have:=h.bhs.lt _ e.symm;omega
theorem NetL.same (h:NetL w B nb P Q n x)(i:w'.heap[nb]?=w.heap[nb]?)(j:∀k,P.ownBlock=some k->w'.heap[k]?=w.heap[k]?)(l:∀k,Q.ownBlock=some k->w'.heap[k]?=w.heap[k]?):NetL w' B nb P Q n x:=by
 have row:∀{e:TypeId} {a:Nat} {v:Value} {m:Nat} {b:List Value},w.ownsRow B e a v m b->(∀k,v.ownBlock=some k->w'.heap[k]?=w.heap[k]?)->w'.ownsRow B e a v m b:=by
  intro e a v m b c u;refine⟨c.1,?_⟩;rcases c.2 with o|⟨g,d,f,rfl,s,t,p⟩
  ·exact .inl o
  ·exact .inr ⟨g,d,f,rfl,s,by rw[u g rfl];exact t,p⟩
 obtain⟨z,y,r,q⟩:=h.pls;exact⟨i.trans h.lies,h.base,h.good,h.few,⟨z,y,r,row q j⟩,row h.bhs l,h.small,h.apP,h.apQ,h.apPQ⟩
theorem NetL.below (h:NetL w B nb P Q n x)(a:Bw w w'):NetL w' B nb P Q n x:=by
 obtain⟨d,_,_,c⟩:=h.pls;exact h.same (a.block _ h.lt) (fun k b=>a.block k (c.lt k b).2) (fun k b=>a.block k (h.bhs.lt k b).2)
theorem NetL.set (h:NetL w B nb P Q n x){k:Nat}(b:Free w nb P Q k)(o:Nat)(v:Value):NetL (w.setCell ⟨k,o,none⟩ v) B nb P Q n x:=
 h.same (Below.heap_setCell _ _ _ _ (Ne.symm b.2.1)) (fun j a=>Below.heap_setCell _ _ _ _ (fun e=>b.2.2.1 (by rw[a];exact congrArg some (Eq.symm e)))) (fun j a=>Below.heap_setCell _ _ _ _ (fun e=>b.2.2.2 (by rw[a];exact congrArg some (Eq.symm e))))
theorem NStep.set (h:NStep w nb P Q w1 P1 Q1){k:Nat}(b:w.heap.size<=k)(o:Nat)(v:Value):NStep w nb P Q (w1.setCell ⟨k,o,none⟩ v) P1 Q1:=⟨h.os,h.tape,h.output,by simp[World.setCell];exact h.size,fun i a=>(Below.heap_setCell _ _ _ _ (by have:=a.1;show i≠k;omega)).trans (h.block i a),h.rowP,h.rowQ⟩
def R3 (n:Net)(f t k:Nat):Net:=⟨n.places,n.behind.mapIdx fun i x=>if i<k/\f.testBit i=true then x ||| t else x⟩
theorem lQi (n:Net):R3 n f t 0=n:=by
 unfold R3;have:(n.behind.mapIdx fun i x=>if i<0/\f.testBit i=true then x ||| t else x)=n.behind:=by
  apply List.ext_getElem?
  intro i;rw[List.getElem?_mapIdx];cases n.behind[i]?<;>simp
 rw[this]
theorem lQh (n:Net):R3 n f t n.behind.length=gX0 n f t:=by
 unfold R3 gX0;congr 1
 apply List.ext_getElem?
 intro i;rw[List.getElem?_mapIdx,List.getElem?_mapIdx];rcases Nat.lt_or_ge i n.behind.length with h|h
 ·rw[List.getElem?_eq_getElem h];simp[h]
 ·rw[List.getElem?_eq_none h];rfl
theorem xQe (n:Net)(h:f.testBit k=false):R3 n f t (k+1)=R3 n f t k:=by
 unfold R3;congr 1
 apply List.ext_getElem?
 intro i;rw[List.getElem?_mapIdx,List.getElem?_mapIdx];cases n.behind[i]? with
 | none=>rfl
 | some x=>
  by_cases e:i=k
  ·subst e;simp[h]
  ·have:(i<k+1/\f.testBit i=true)↔(i<k/\f.testBit i=true):=by constructor<;>(rintro ⟨b,a⟩;exact⟨by omega,a⟩)
   simp only[Option.map_some,this]
theorem xQf (n:Net)(a:k<n.behind.length)(h:f.testBit k=true):R3 n f t (k+1)=⟨n.places,(R3 n f t k).behind.set k (n.behind[k] ||| t)⟩:=by
 unfold R3;congr 1
 apply List.ext_getElem?
 intro i;rw[List.getElem?_set,List.getElem?_mapIdx,List.getElem?_mapIdx]
 by_cases e:k=i
 ·subst e;rw[if_pos rfl,if_pos (by simpa using a),List.getElem?_eq_getElem a];simp[h]
 ·rw[if_neg e]
  cases n.behind[i]? with
  | none=>rfl
  | some x=>
   have:(i<k+1/\f.testBit i=true)↔(i<k/\f.testBit i=true):=by constructor<;>(rintro ⟨c,b⟩;exact⟨by omega,b⟩)
   simp only[Option.map_some,this]
theorem xQd (n:Net)(a:k<n.behind.length):(R3 n f t k).behind[k]?=some n.behind[k]:=by
 unfold R3;rw[List.getElem?_mapIdx,List.getElem?_eq_getElem a];simp
theorem NetL.setQ {g c:Nat}(h:NetL w B nb P (Sl g n.places.length c) n x){j v:Nat}(s:v<4294967296) :
  NetL (w.setCell ⟨g,j,none⟩ (.int .u32 v)) B nb P (Sl g n.places.length c) ⟨n.places,n.behind.set j v⟩ x:=by
 obtain⟨t,r,o,d⟩:=h.pls;refine⟨?_,h.base,?_,h.few,⟨t,r,o,?_⟩,?_,?_,h.apP,h.apQ,h.apPQ⟩
 ·rw[Below.heap_setCell _ _ _ _ (fun e=>h.apQ (by show some g=some nb;rw[e]))];exact h.lies
 ·have:=h.good;unfold jX5 at this ⊢;simpa using this
 ·refine⟨d.1,?_⟩
  rcases d.2 with l|⟨k,f,i,rfl,p,q,m⟩
  ·exact .inl l
  ·refine .inr ⟨k,f,i,rfl,p,?_,m⟩
   rw[Below.heap_setCell _ _ _ _ (fun e=>?_)]
   ·exact q
   ·rcases h.apPQ with a|a
    ·cases a
    ·exact a (by show some k=some g;rw[e])
 ·have:=h.bhs.stored j (.int .u32 v)
  rw[List.map_set];exact this.1
 ·intro y b
  rcases List.mem_or_eq_of_mem_set b with b|rfl
  ·exact h.small y b
  ·exact s
theorem NetL.shapeQ (h:NetL w B nb P Q n x):(Q=.slice none 0 0/\n.places.length=0)\/∃g a,Q=Sl g n.places.length a:=by
 rcases h.bhs.2 with⟨b,c⟩|⟨g,a,d,b,_⟩
 ·exact .inl ⟨b,c⟩
 ·exact .inr ⟨g,a,b⟩
theorem NetL.c1 (h:NetL w B nb P Q n x):w.cell? ⟨nb,1,none⟩=some Q:=by have:=h.lies;simp[World.cell?,this]
theorem NetL.c0 (h:NetL w B nb P Q n x):w.cell? ⟨nb,0,none⟩=some P:=by have:=h.lies;simp[World.cell?,this]
theorem NetL.fr (h:NetL w B nb P Q n x)(o:Nat):w.frozen? ⟨nb,o,none⟩=false:=by have:=h.lies;simp[World.frozen?,this]
theorem lQj (w:World)(B d:Nat)(P Q:Value)(n:Net)(x:Span)(h:NetL w B d P Q n x)(r:f<4294967296)(z:t<4294967296) :
  Calls Tryz.prog 128 #[Pt d,.int .u32 f,.int .u32 t] w fun e A=>e=.returned (.tuple #[])/\NetL A B d P Q (gX0 n f t) x/\NStep w d P Q A P Q:=by
 have s:=h.good;unfold jX5 at s;have N:=h.few;have M:=h.c1;rcases h.shapeQ with⟨rfl,G⟩|⟨g,q,rfl⟩
 ·have E:Hid (gX0 n f t=n):=by
   show _=_;have:=lQh f t n;rw[s,G,lQi]at this;exact this.symm
  have l:Hid _:=h;go_enter Tryz.func128,Tryz.ntmps128;go_wp2;refine wp_loop_rounds 1 ?_;rw[rounds_succ];go_wp2;go_end0;rw[E.out];exact⟨rfl,l.out,NStep.of_below _ _ _ (Below.refl _ _)⟩
 ·have l:Hid _:=h
  go_enter Tryz.func128,Tryz.ntmps128;go_wp2;go_loopw [12] (fun i wr=>∃k:Nat,k<=n.places.length/\i=.int .i64 k/\NetL wr B d P (.slice (some ⟨g,0,none⟩) n.places.length q) (R3 n f t k) x/\NStep w d P (.slice (some ⟨g,0,none⟩) n.places.length q) wr P (.slice (some ⟨g,0,none⟩) n.places.length q)) (fun i _=>n.places.length-(intOf i).toNat)
  case atStart=>
   refine⟨0,Nat.zero_le _,rfl,?_,NStep.of_below _ _ _ (Below.refl _ _)⟩;rw[lQi];exact l.out
  case round=>
   obtain⟨k,R,rfl,b,y⟩:=hrel;have m:Hid _:=b;have o:Hid _:=y
   by_cases S:k<n.places.length
   ·have T:=b.c1
    have H:wr.cell? ⟨g,k,none⟩=some (.int .u32 (n.behind[k]'(by omega))):=by
     have a:=b.bhs.cellAt k (by show k<n.places.length*1;omega);rw[a,List.getElem?_map,xQd k f t n (by omega)];rfl
    have O:=b.bhs.frozenAt k;have v:n.behind[k]'(by omega)<4294967296:=l.out.small _ (List.getElem_mem _);have J:(wr.cell? ⟨g,k,none⟩).isSome:=by rw[H];rfl
    have F:Hid _:=u32_or_nat (n.behind[k]'(by omega)) t v z;have K:=aQ1 _ t v z;cases c:f.testBit k with
    | true=>
     have j:=bQl f k r (by omega) wr;rw[c]at j;have p:Hid _:=xQf k f t n (by omega) c;go_wp2_with fail;refine j.mono ?_;rintro e L ⟨rfl,rfl⟩;go_wp2;rw[F.out];go_roundw
     case rel=>
      refine⟨k+1,by omega,by go_num,?_,?_⟩
      ·rw[p.out]
       exact NetL.setQ (n:=R3 n f t k) m.out K
      ·have a:=o.out
       refine⟨a.os,a.tape,a.output,by simp[World.setCell];exact a.size,fun i u=>(Below.heap_setCell _ _ _ _ (fun e=>u.2.2.2 (by show some i=some g;rw[e]))).trans (a.block i u),a.rowP,a.rowQ⟩
     case measure=>simp[intOf];omega
    | false=>
     have j:=bQl f k r (by omega) wr;rw[c]at j;have p:Hid _:=xQe k f t n c;go_wp2_with fail;refine j.mono ?_;rintro e L ⟨rfl,rfl⟩;go_wp2_with fail;go_roundw
     case rel=>
      refine⟨k+1,by omega,by go_num,?_,o.out⟩;rw[p.out];exact m.out
     case measure=>simp[intOf];omega
   ·have I:k=n.behind.length:=by omega
    have C:Hid _:=lQh f t n;clear b;go_wp2_with fail;go_end0;rw[<-C.out,<-I];exact⟨rfl,m.out,o.out⟩
theorem vQq:(Tryz.prog.info? 157).map (fun i=>(i.zero,i.size,i.bytes))=some (some (.agg #[.int .u64 0,.int .u64 0]),2,16):=by kernel_rfl
theorem vQp:(Tryz.prog.info? 148).map (fun i=>(i.zero,i.size,i.bytes))=some (some (.int .u32 0),1,4):=by kernel_rfl
theorem NetL.shapeP (h:NetL w B nb P Q n x):∃a c,P=.slice a n.places.length c:=by
 obtain⟨i,_,_,e⟩:=h.pls;rcases e.2 with⟨b,d⟩|⟨g,c,f,b,_⟩
 ·exact⟨_,_,by rw[b,d]⟩
 ·exact⟨_,_,b⟩
theorem NetL.shapeQ' (h:NetL w B nb P Q n x):∃a c,Q=.slice a n.places.length c:=by
 rcases h.shapeQ with⟨b,d⟩|⟨g,c,b⟩
 ·exact⟨_,_,by rw[b,d]⟩
 ·exact⟨_,_,b⟩
theorem O3 {g f l:Nat}{e:Bool}{t:TypeId}(h:w.heap[g]?=some (.cells #[.int .u32 f,.int .u32 l,.bool e] t (0,0))):w.cell? ⟨g,0,none⟩=some (.int .u32 f)/\w.cell? ⟨g,1,none⟩=some (.int .u32 l)/\w.cell? ⟨g,2,none⟩=some (.bool e)/\(∀o,w.frozen? ⟨g,o,none⟩=false):=by
 refine⟨?_,?_,?_,fun o=>?_⟩
 ·simp[World.cell?,h]
 ·simp[World.cell?,h]
 ·simp[World.cell?,h]
 ·simp[World.frozen?,h]
abbrev T9 (x:Span):Value:=.agg #[.int .u32 x.first,.int .u32 x.last,.bool x.empty]
structure Mid (W W3:World)(B nb:Nat)(P Q P':Value)(n:Net)(x:Span)(los:List (Nat × Nat))(lo hi:Nat):Prop where
 lies:W3.heap[nb]?=some (.cells #[P',Q,.int .u32 x.first,.int .u32 x.last,.bool x.empty] 152 (0,0))
 pls:W3.ownsRow B 157 2 P' (n.places.length+1) (los.flatMap (fun a=>[.int .u64 a.1,.int .u64 a.2])++[.int .u64 lo,.int .u64 hi])
 bhs:W3.ownsRow B 148 1 Q n.places.length (n.behind.map fun (x:Nat)=>.int .u32 x)
 size:W.heap.size<W3.heap.size
 os:W3.os=W.os
 tape:W3.tape=W.tape
 output:W3.output=W.output
 block:∀k,Free W nb P Q k->W3.heap[k]?=W.heap[k]?
 rowP:P'.ownBlock=P.ownBlock\/∃k,P'.ownBlock=some k/\W.heap.size<=k
 apP:P'.ownBlock≠some nb
 apPQ:P'.ownBlock≠Q.ownBlock
theorem zQz (c:NetL W B nb P Q n x)(o:Obj)(b h:Nat)(q:List (Nat × Nat))
  (t:w1.ownsRow B 157 2 (Sl b (n.places.length+1) h) (n.places.length+1) (q.flatMap (fun a=>[.int .u64 a.1,.int .u64 a.2])++[.int .u64 lo,.int .u64 hi]))
  (d:(W.alloc o).drew.grownBy w1 P.ownBlock) (j:P.ownBlock=some b\/b=W.heap.size+1) :
  Mid W (w1.setCell ⟨nb,0,none⟩ (Sl b (n.places.length+1) h)) B nb P Q (Sl b (n.places.length+1) h) n x q lo hi:=by
 have r:=c.lt;have v:W.heap.size+1<=w1.heap.size:=by have:=d.size;simpa using this
 have l:∀k,k<W.heap.size->some k≠P.ownBlock->w1.heap[k]?=W.heap[k]?:=fun k g s=>by
  rw[d.block k (by simp;omega) s];exact Below.heap_alloc _ _ _ g
 have m:b≠nb:=by
  rcases j with e|e
  ·intro f;exact c.apP (by rw[e,f])
  ·omega
 have p:=V8 w1 nb 0 (Sl b (n.places.length+1) h);refine⟨?_,?_,?_,?_,?_,?_,?_,?_,?_,?_,?_⟩
 ·have:=l nb r (Ne.symm c.apP)
  rw[c.lies]at this;simp[World.setCell,Array.getElem?_modify,this]
 ·exact t.kept p (.inr (by show some b≠some nb;simp[m]))
 ·refine World.ownsRow.kept ?_ p (.inr c.apQ)
  refine World.ownsRow.kept (w:=(W.alloc o).drew) (c.bhs.alloc o) d ?_;rcases c.apPQ with e|e
  ·rw[e]
   cases u:Q.ownBlock with
   | none=>exact .inl rfl
   | some k=>exact .inr (by simp)
  ·exact .inr (Ne.symm e)
 ·simp[World.setCell];omega
 ·exact d.os
 ·exact d.tape
 ·exact d.output
 ·intro k g
  rw[Below.heap_setCell _ _ _ _ g.2.1];exact l k g.1 g.2.2.1
 ·rcases j with e|e
  ·exact .inl (by rw[e];rfl)
  ·exact .inr ⟨b,rfl,by omega⟩
 ·show some b≠some nb;simp[m]
 ·intro e
  rcases j with i|i
  ·rcases c.apPQ with f|f
   ·rw[f]at i;cases i
   ·exact f (i.trans e)
  ·have:=(c.bhs.lt b e.symm).2
   omega
theorem zQy {d:World}{x:Span}(f:NetL W B nb P Q n x){m:List (Nat × Nat)}{lo p:Nat}(c:Mid W d B nb P Q P' n x m lo p)
  (t:m.length=n.places.length) (C:∀k a,m[k]?=some a->SB (n.places.getD k []) a.1 a.2) {g:Lu} (A:SB g lo p) (H:n.places.length<32) (o:Obj)
  (F:w2.ownsRow B 148 1 Q' (n.places.length+1) ((n.behind.map fun (x:Nat)=>Value.int .u32 x)++[.int .u32 0])) (h:(d.alloc o).grownBy w2 Q.ownBlock) (q:Q'.ownBlock=Q.ownBlock\/∃k,Q'.ownBlock=some k/\d.heap.size+1<=k) :
  NetL (w2.setCell ⟨nb,1,none⟩ Q') B nb P' Q' (gXk g n) x/\NStep W nb P Q (w2.setCell ⟨nb,1,none⟩ Q') P' Q':=by
 have I:=f.lt;have K:=c.size;have J:d.heap.size+1<=w2.heap.size:=by have:=h.size;simpa using this
 have s:∀k,k<d.heap.size->some k≠Q.ownBlock->w2.heap[k]?=d.heap[k]?:=fun k b E=>by
  rw[h.block k (by simp;omega) E];exact Below.heap_alloc _ _ _ b
 have v:=V8 w2 nb 1 Q';have u:Q'.ownBlock≠some nb:=by
  rcases q with e|⟨k,e,b⟩
  ·rw[e];exact f.apQ
  ·rw[e];simp;omega
 have G:=c.pls.lt;refine⟨⟨?_,f.base,?_,?_,⟨m++[(lo,p)],?_,?_,?_⟩,?_,?_,c.apP,u,?_⟩,?_⟩
 ·have:=s nb (by omega) (Ne.symm f.apQ)
  rw[c.lies]at this;simp[World.setCell,Array.getElem?_modify,this]
 ·have:=f.good;unfold jX5 at this ⊢;simp[gXk,this]
 ·simp[gXk];omega
 ·simp[gXk,t]
 ·intro k a b
  rcases Nat.lt_or_ge k n.places.length with j|j
  ·rw[List.getElem?_append_left (by omega)]at b
   have:=C k a b;simp only[gXk,List.getD_eq_getElem?_getD]at this ⊢;rw[List.getElem?_append_left j];exact this
  ·rw[List.getElem?_append_right (by omega)]at b
   obtain⟨i,r⟩:=List.getElem?_eq_some_iff.1 b;simp at i;have z:k=n.places.length:=by omega
   subst z;simp[t]at r;subst r;simpa [gXk] using A
 ·have j:=(c.pls.alloc o).kept h (.inr c.apPQ)
  have i:=j.kept v (.inr c.apP);simpa [gXk] using i
 ·have i:=F.kept v (.inr u)
  simpa [gXk] using i
 ·intro y l
  simp only[gXk,List.mem_append,List.mem_singleton]at l;rcases l with l|rfl
  ·exact f.small y l
  ·omega
 ·right
  rcases q with e|⟨k,e,b⟩
  ·rw[e];exact c.apPQ
  ·rw[e]
   intro w;have:=(G k w).2;omega
 ·refine⟨h.os.trans c.os,h.tape.trans c.tape,h.output.trans c.output,by simp[World.setCell];omega,fun k b=>?_,c.rowP,?_⟩
  ·rw[Below.heap_setCell _ _ _ _ b.2.1,s k (by have:=b.1;omega) b.2.2.2]
   exact c.block k b
  ·rcases q with e|⟨k,e,b⟩
   ·exact .inl e
   ·exact .inr ⟨k,e,by omega⟩
theorem Free.set {k:Nat}(h:Free w nb P Q k)(a:Addr)(v:Value):Free (w.setCell a v) nb P Q k:=⟨by simp[World.setCell];exact h.1,h.2⟩
theorem aQe {k:Nat}(h:NetL W B nb P' Q' n x)(hs:NStep w nb P Q W P' Q')(d:Free W nb P' Q' k)(e:w.heap.size<=k)(a b c:Value) :
  NetL (((W.setCell ⟨k,0,none⟩ a).setCell ⟨k,1,none⟩ b).setCell ⟨k,2,none⟩ c) B nb P' Q' n x/\NStep w nb P Q (((W.setCell ⟨k,0,none⟩ a).setCell ⟨k,1,none⟩ b).setCell ⟨k,2,none⟩ c) P' Q':=⟨((h.set d 0 a).set (d.set _ _) 1 b).set ((d.set _ _).set _ _) 2 c,((hs.set e 0 a).set e 1 b).set e 2 c⟩
def U3 (w:World)(B nb:Nat)(P Q:Value)(x:Span)(r:Net × Span):Ending->World->Prop:=fun e w'=>
 ∃P' Q',e=.returned (T9 r.2)/\NetL w' B nb P' Q' r.1 x/\NStep w nb P Q w' P' Q'
theorem qQm (w:World)(B nb:Nat)(P Q:Value)(n:Net)(x:Span)(h:NetL w B nb P Q n x)(hB:B<=w.heap.size)(hS:SB g lo hi)(hl:n.places.length<32) :
  Calls Tryz.prog 114 #[.pointer (some ⟨nb,0,none⟩),.agg #[.int .u64 lo,.int .u64 hi]] w (U3 w B nb P Q x (gXk g n,hXj n.places.length)):=by
 have hb0:=C6 w (.cells #[.int .u64 lo,.int .u64 hi] 157) (.cells #[.int .u32 (0:Nat),.int .u32 (0:Nat),.bool false] 150);have hN0:=h.below hb0;have hx0:((w.alloc (.cells #[.int .u64 lo,.int .u64 hi] 157)).alloc (.cells #[.int .u32 (0:Nat),.int .u32 (0:Nat),.bool false] 150)).heap[w.heap.size]?=some (.cells #[.int .u64 lo,.int .u64 hi] 157 (0,0)):=by
  rw[Below.heap_alloc _ _ _ (by simp)];exact heap_alloc_new _ _
 have hy0:((w.alloc (.cells #[.int .u64 lo,.int .u64 hi] 157)).alloc (.cells #[.int .u32 (0:Nat),.int .u32 (0:Nat),.bool false] 150)).heap[w.heap.size+1]?=some (.cells #[.int .u32 (0:Nat),.int .u32 (0:Nat),.bool false] 150 (0,0)):=by
  have:=heap_alloc_new (w.alloc (.cells #[.int .u64 lo,.int .u64 hi] 157)) (.cells #[.int .u32 (0:Nat),.int .u32 (0:Nat),.bool false] 150);simpa using this
 have hz0:((w.alloc (.cells #[.int .u64 lo,.int .u64 hi] 157)).alloc (.cells #[.int .u32 (0:Nat),.int .u32 (0:Nat),.bool false] 150)).heap.size=w.heap.size+1+1:=by simp
 have hst0:=NStep.of_below nb P Q hb0;have HW:Hid ((2:Int) ^ n.places.length % 4294967296=((2 ^ n.places.length:Nat):Int)):=by
  have:=oQm n.places.length hl;rw[IntKind.wrap_u32]at this;exact this
 have hp2:=hQ3 n.places.length hl;obtain⟨pa,pc,rfl⟩:=h.shapeP;obtain⟨qa,qc,rfl⟩:=h.shapeQ';have hnl:=h.lt;have c0:=hN0.c0;have Hx0:Hid _:=hx0;have Hy0:Hid _:=hy0;obtain⟨r0,r1,_,_⟩:=aQi hx0;have HnP:Hid ((∀k,(Value.slice pa n.places.length pc).ownBlock=some k->k≠w.heap.size)/\(∀k,(Value.slice pa n.places.length pc).ownBlock=some k->k≠w.heap.size+1)):=by
  obtain⟨los,_,_,hP⟩:=h.pls;exact⟨fun k hk=>by have:=hP.lt k hk;omega,fun k hk=>by have:=hP.lt k hk;omega⟩
 have HnQ:Hid (∀k,(Value.slice qa n.places.length qc).ownBlock=some k->k≠w.heap.size+1):=fun k hk=>by have:=h.bhs.lt k hk;omega
 have hne1:¬nb=w.heap.size:=by omega
 go_enter Tryz.func114,Tryz.ntmps114;go_upto_region 1 with (fail);generalize (w.alloc (.cells #[.int .u64 (lo:Int),.int .u64 (hi:Int)] 157)).alloc (.cells #[.int .u32 ((0:Nat):Int),.int .u32 ((0:Nat):Int),.bool false] 150)=W at *;have hzW:w.heap.size+1<W.heap.size:=by omega
 have hzW0:w.heap.size<W.heap.size:=by omega
 have hnW:nb<W.heap.size:=by omega
 have Hz0:Hid _:=hz0;have HF:Hid (Free W nb (.slice pa n.places.length pc) (.slice qa n.places.length qc) (w.heap.size+1)):=⟨hzW,by omega,fun e=>HnP.out.2 _ e.symm rfl,fun e=>HnQ.out _ e.symm rfl⟩;have hneP:some w.heap.size≠(Value.slice pa n.places.length pc).ownBlock:=fun e=>HnP.out.1 _ e.symm rfl;have hneP1:some (w.heap.size+1)≠(Value.slice pa n.places.length pc).ownBlock:=fun e=>HnP.out.2 _ e.symm rfl;clear hz0;go_wp2;obtain⟨los,hlos,hSB,hP⟩:=hN0.pls;obtain⟨i0,hi0,hz1,hz2,hz3⟩:=info_parts vQq;have hf0:=hN0.fr 0;have apP:=hN0.apP;have HN0:Hid _:=hN0;have HS0:Hid _:=hst0;have HSB:Hid _:=hSB;have HB0:Hid _:=hb0;go_region_law
  ((refine step_append_lies _ (by rfl) _ _ _ (by rfl) B 157 i0 _ 2 16 Tryz.underlying145 hi0 hz1 hz2 hz3 rfl (by omega) (.slice pa n.places.length pc) n.places.length _ (by rfl) (hP.alloc _) ⟨W.heap.size,0,none⟩ 1 1 [.int .u64 lo,.int .u64 hi] (by rfl) (by rfl) (World.news_of_block (cs:=#[.int .u64 lo,.int .u64 hi]) (t:=157) (fr:=(0,0)) (heap_alloc_new W _)) (by simp[Value.oneCell']) (by omega) (by unfold maxLen;omega) (by omega) (by simp;omega) (W.heap.size+1) (by simp) ?_;intro gg cap w1 hown1 hgrow hat hlt;have hfz:=(hgrow.frozen_far ⟨nb,0,none⟩ (by simp;omega) (Ne.symm apP)).trans (((A5 W _).frozen (p:=⟨nb,0,none⟩) hnW).trans hf0);have hcz:=(hgrow.cell_far ⟨nb,0,none⟩ (by simp;omega) (Ne.symm apP)).trans (((A5 W _).cell (p:=⟨nb,0,none⟩) hnW).trans c0)))
 all_goals
  have hM:=zQz lo hi HN0.out _ gg cap los hown1 hgrow hat;have hz3:=hM.size;have hm1:=hM.lies;have k1:(w1.setCell ⟨nb,0,none⟩ (.slice (some ⟨gg,0,none⟩) (n.places.length+1) cap)).cell? ⟨nb,1,none⟩=some (.slice qa n.places.length qc):=by simp[World.cell?,hm1]
  have k2:(w1.setCell ⟨nb,0,none⟩ (.slice (some ⟨gg,0,none⟩) (n.places.length+1) cap)).frozen? ⟨nb,1,none⟩=false:=by simp[World.frozen?,hm1]
  have HM:Hid _:=hM;have hyM:=(hM.block (w.heap.size+1) HF.out).trans Hy0.out;have HyM:Hid _:=hyM;generalize w1.setCell ⟨nb,0,none⟩ (.slice (some ⟨gg,0,none⟩) (n.places.length+1) cap)=W3 at *;obtain⟨j0,hj0,hj1,hj2,hj3⟩:=info_parts vQp;have hoa:=HM.out.bhs.alloc (.cells #[.int .u32 ((0:Nat):Int)] 148);have hcn:=bQa W3 (.int .u32 ((0:Nat):Int)) 148;go_wp2_with (at_builtin;refine P8 _ rfl _ _ 146 rfl B 148 j0 _ 1 4 Tryz.underlying146 hj0 hj1 hj2 hj3 rfl (by omega) (.slice qa n.places.length qc) n.places.length _ rfl hoa ⟨W3.heap.size,0,none⟩ 1 1 [.int .u32 ((0:Nat):Int)] rfl ?l1 hcn ?l0 ?l2 ?l3 ?l4 ?l5 ?_)
  case l1=>rfl
  case l0=>intro u hu;simp at hu;subst hu;rfl
  case l2=>unfold maxLen;omega
  case l3=>omega
  case l4=>simp;omega
  case l5=>omega
  intro v' w2 ho2 hg2 hvv;obtain⟨g2,cap2,rfl,_,_⟩:=ho2.form (by omega);have hE:=zQy HN0.out HM.out hlos HSB.out hS hl _ ho2 hg2 (by simpa using hvv);have HE:Hid _:=hE;have hgs:=hg2.size;simp at hgs;have m1:=(hg2.cell_far ⟨nb,1,none⟩ (by simp;omega) (Ne.symm HN0.out.apQ)).trans (((A5 W3 _).cell (p:=⟨nb,1,none⟩) (by show nb<_;omega)).trans k1);have m2:=(hg2.frozen_far ⟨nb,1,none⟩ (by simp;omega) (Ne.symm HN0.out.apQ)).trans (((A5 W3 _).frozen (p:=⟨nb,1,none⟩) (by show nb<_;omega)).trans k2);have hy2:w2.heap[w.heap.size+1]?=some (.cells #[.int .u32 (0:Nat),.int .u32 (0:Nat),.bool false] 150 (0,0)):=by
   rw[hg2.block _ (by simp;omega) HF.out.2.2.2,Below.heap_alloc _ _ _ (by omega)];exact HyM.out
  obtain⟨s0,s1,s2,s3⟩:=O3 hy2;have s30:=s3 0;have s31:=s3 1;have s32:=s3 2;have hne5:¬w.heap.size+1=nb:=by omega
  have hne6:¬nb=w.heap.size+1:=by omega
  go_wp2;rw[HW.out];refine bodyPost_ret (v:=T9 (hXj n.places.length)) (by simp[results,Tryz.results114,go_sem,s0,s1,s2,hXj]) rfl ⟨_,_,rfl,aQe HE.out.1 (HS0.out.trans HE.out.2) (HE.out.2.free HF.out) (by omega) _ _ _⟩
variable {P P' P1 Q Q' Q1:Value}{W W' w:World}{c:Bool}{d:Ls.D}{m:Net}{nb r:Nat}(a:Ls.D)(l:List Ls.D)(s:Span)(B:Nat)(n:Net)(b:Bool)(x:Span)(G:Nat->Prop)(ty:TypeId)(sl y:Value)(vs:List Value)
theorem uQ7 (h:Wd r d):∀n a,(Ls.go d n a).1.places.length=n.places.length+dsize d:=by
 induction h using Wd.ind with
 | place s=>intro n a;rw[kXj,gXe];simp[gXk]
 | rep f _ b=>
  intro n a;rw[fX5];rcases f with rfl|rfl|rfl
  ·rw[kX9];exact b n _
  ·rw[kX8];exact b n _
  ·rw[lX5];exact b n _
 | row _ b=>exact b
 | choice _ b=>exact b
 | rnil=>intro n a;rw[jXm,gXh];rfl
 | @rcons y r _ _ c e=>
  intro n a;rw[kXk,e,gXp];have:=c n (Ls.start y);unfold Ls.add gX0;simp only;omega
 | clast _ b=>intro n a;rw[kXi,gX8];exact b n _
 | @ccons y r _ _ c e=>
  intro n a;rw[kXh,e,gX7];have:=c n (Ls.start y);unfold Ls.add;omega
theorem lQm {x m:Nat}(d:m<=32)(h:∀q,x.testBit q=true->q<m):x<4294967296:=by
 have a:x<2 ^ 32:=Nat.lt_pow_two_of_testBit x (fun i c=>by
  cases b:x.testBit i with
  | false=>rfl
  | true=>have:=h i b;omega)
 simpa using a
theorem bQw (h:Wd 0 d){n:Net}(e:jX5 n)(f:n.places.length+dsize d<=32) :
  (Ls.add d n).2.first<4294967296/\(Ls.add d n).2.last<4294967296/\(Ls.add d n).1.places.length=n.places.length+dsize d/\jX5 (Ls.add d n).1:=by
 have a:=nXh h n e;have c:(Ls.add d n).1.places.length=n.places.length+dsize d:=uQ7 h n _;exact⟨lQm (m:=(Ls.add d n).1.places.length) (by omega) (fun q b=>(a.sem.fst q b).2),lQm (m:=(Ls.add d n).1.places.length) (by omega) (fun q b=>(a.sem.lst q b).2),c,a.good⟩
theorem Rep.wd {G:Nat->Prop}{f:List Value}(h:Rep w G r d f):Wd r d:=by
 induction h using Rep.ind with
 | place _=>exact .place _
 | rep e _ a=>exact .rep e a
 | row _ _ a=>exact .row a
 | choice _ _ a=>exact .choice a
 | rnil=>exact .rnil
 | rcons _ _ b c=>exact .rcons b c
 | clast _ a=>exact .clast a
 | ccons _ _ b c=>exact .ccons b c
def R9 (d:Ls.D):Prop:=∀(w:World) (B nb:Nat) (P Q:Value) (n:Net) (x:Span) (G:Nat->Prop) (ty:TypeId) (y:Value),NetL w B nb P Q n x->B<=w.heap.size->(∀k,G k->Free w nb P Q k)->Rep w G 0 d [.iface ty y]->n.places.length+dsize d<=31->
 Ca 95 #[.pointer (some ⟨nb,0,none⟩),.iface ty y] w (U3 w B nb P Q x (Ls.add d n))
theorem uQ8:Ls.go ((a::l).foldr rcons rnil) n s=Ls.go (l.foldr rcons rnil) (gX0 (Ls.add a n).1 s.last (Ls.add a n).2.first) (kX3 s (Ls.add a n).2):=by
 simp only[List.foldr_cons];rw[kXk]
theorem nQg (k:Nat)(a:k<l.length):G0 (l.drop k)=dsize l[k]+G0 (l.drop (k+1)):=by
 rw[List.drop_eq_getElem_cons a];rfl
theorem NStep.own {a:World}(h:NStep w nb P Q a P' Q'){k:Nat}{o:Obj}(b:Free w nb P Q k)(c:w.heap[k]?=some o):a.heap[k]?=some o:=(h.block k b).trans c
structure Pk (w W:World)(B nb:Nat)(P Q P1 Q1:Value)(m:Net)(x:Span):Prop where
 net:NetL W B nb P1 Q1 m x
 step:NStep w nb P Q W P1 Q1
 res:W.heap[w.heap.size]?=some (.cells #[.int .u32 (0:Nat),.int .u32 (0:Nat),.bool false] 150 (0,0))
 fr:Free W nb P1 Q1 w.heap.size
 fa:Free W nb P1 Q1 (w.heap.size+1)
theorem Pk.set {B:Nat}{x:Span}(h:Pk w W B nb P Q P1 Q1 m x)(o:Nat)(v:Value):Pk w (W.setCell ⟨w.heap.size+1,o,none⟩ v) B nb P Q P1 Q1 m x:=⟨h.net.set h.fa o v,h.step.set (by omega) o v,(Below.heap_setCell _ _ _ _ (by show w.heap.size≠w.heap.size+1;omega)).trans h.res,h.fr.set _ _,h.fa.set _ _⟩
theorem Pk.next {B:Nat}{a b:Value}{c:Net}{x:Span}(h:Pk w W B nb P Q P1 Q1 m x)(d:NetL W' B nb a b c x)(hs:NStep W nb P1 Q1 W' a b):Pk w W' B nb P Q a b c x:=⟨d,h.step.trans hs,hs.own h.fr h.res,hs.free h.fr,hs.free h.fa⟩
theorem qQp (hI:∀a,a∈l->R9 a)(g7:l.length<=1048576)(w:World)(c:Nat)(P Q:Value)(h:NetL w B c P Q n x)(hB:B<=w.heap.size)(hG:∀k,G k->Free w c P Q k)(hs:Shows w G sl vs)(he:Each w G l vs)(g0:n.places.length+G0 l<=31) :
  Calls Tryz.prog 115 #[Pt c,sl] w (U3 w B c P Q x (Ls.go (l.foldr rcons rnil) n ⟨0,0,true⟩)):=by
 have HI:Hid _:=hI;have O:=he.length;have g9:=h.lt;have a6:=C6 w Uc (.cells #[.int .u32 (0:Nat),.int .u32 (0:Nat),.bool true] 150);have c4:=h.below a6;have d9:=NStep.of_below c P Q a6;have e1:((w.alloc Uc).alloc (.cells #[.int .u32 (0:Nat),.int .u32 (0:Nat),.bool true] 150)).heap[w.heap.size]?=some (.cells #[.int .u32 (0:Nat),.int .u32 (0:Nat),.bool false] 150 (0,0)):=by
  rw[Below.heap_alloc _ _ _ (by simp)];exact heap_alloc_new _ _
 have e4:((w.alloc Uc).alloc (.cells #[.int .u32 (0:Nat),.int .u32 (0:Nat),.bool true] 150)).heap[w.heap.size+1]?=some (.cells #[.int .u32 (0:Nat),.int .u32 (0:Nat),.bool true] 150 (0,0)):=by
  have:=heap_alloc_new (w.alloc Uc) (.cells #[.int .u32 (0:Nat),.int .u32 (0:Nat),.bool true] 150);simpa using this
 have d0:Free ((w.alloc Uc).alloc (.cells #[.int .u32 (0:Nat),.int .u32 (0:Nat),.bool true] 150)) c P Q w.heap.size:=by
  have:=h.newFree Uc;exact⟨by simp;omega,this.2⟩
 have d1:Free ((w.alloc (.cells #[.int .u32 (0:Nat),.int .u32 (0:Nat),.bool false] 150)).alloc (.cells #[.int .u32 (0:Nat),.int .u32 (0:Nat),.bool true] 150)) c P Q (Hz w+1):=by
  have:=(h.below (A5 w (.cells #[.int .u32 (0:Nat),.int .u32 (0:Nat),.bool false] 150))).newFree (.cells #[.int .u32 (0:Nat),.int .u32 (0:Nat),.bool true] 150);simpa using this
 have h0:((w.alloc (.cells #[.int .u32 (0:Nat),.int .u32 (0:Nat),.bool false] 150)).alloc (.cells #[.int .u32 (0:Nat),.int .u32 (0:Nat),.bool true] 150)).heap.size=w.heap.size+1+1:=by simp
 go_enter Tryz.func115,Tryz.ntmps115;go_upto_region 2 with (fail);generalize (w.alloc (.cells #[.int .u32 ((0:Nat):Int),.int .u32 ((0:Nat):Int),.bool false] 150)).alloc (.cells #[.int .u32 ((0:Nat):Int),.int .u32 ((0:Nat):Int),.bool true] 150)=W at *;have f9:∃sa sc,sl=.slice sa l.length sc:=by
  rcases hs.shape with⟨s,e2⟩|⟨g,g5,s,_⟩
  ·exact⟨_,_,by rw[s,<-O,e2];rfl⟩
  ·exact⟨_,_,by rw[s,O]⟩
 obtain⟨sa,sc,rfl⟩:=f9;have Hs:Hid _:=hs;have He:Hid _:=he;have Z:Hid _:=hG;have b8:Hid _:=O;have e9:Hid _:=d9;have e6:Hid _:=c4;have f0:Hid _:=e1;have f1:Hid _:=e4;have e7:Hid _:=d0;have e8:Hid _:=d1;go_wp2;go_loopw [12] (fun b1 wr=>∃(k:Nat) (m:Net) (a:Span) (q r:Value),k<=l.length/\b1=.int .i64 k/\Pk w wr B c P Q q r m x/\wr.heap[w.heap.size+1]?=some (.cells #[.int .u32 a.first,.int .u32 a.last,.bool a.empty] 150 (0,0))/\a.first<4294967296/\a.last<4294967296/\m.places.length+G0 (l.drop k)<=31/\Ls.go (l.foldr rcons rnil) n ⟨0,0,true⟩=Ls.go ((l.drop k).foldr rcons rnil) m a) (fun b1 _=>l.length-(intOf b1).toNat)
 case atStart=>
  exact⟨0,n,⟨0,0,true⟩,P,Q,Nat.zero_le _,rfl,⟨e6.out,e9.out,f0.out,e7.out,e8.out⟩,f1.out,by simp,by simp,by simpa using g0,by simp⟩
 case round=>
  obtain⟨k,m,a,q,r,hk,rfl,S,c6,N,hl,hm,d2⟩:=hrel;have f:Hid _:=S;have b5:Hid _:=c6;have a2:Hid _:=d2;have f2:=Nat.le_trans hB S.step.size;have h6:=S.fa.1
  by_cases R:k<l.length
  ·have d8:=Hs.out.mono (w':=wr) (fun _ h=>h) (fun j y=>f.out.step.block j (Z.out j y))
   have c8:=He.out.mono (w':=wr) (fun _ h=>h) (fun j y=>f.out.step.block j (Z.out j y));have c2:∀j,G j->Free wr c q r j:=fun j y=>f.out.step.free (Z.out j y);obtain⟨ty,e5,hx,a8⟩:=c8.get k R;obtain⟨g,rfl,hc⟩:∃g,sa=some ⟨g,0,none⟩/\wr.cell? ⟨g,k,none⟩=some (.iface ty e5):=by
    rcases d8.shape with⟨_,e⟩|⟨g',g6,e,_,f6⟩
    ·have:=b8.out;rw[e]at this;simp at this;omega
    ·injection e with s e2 e3
     exact⟨g',s,by rw[f6 k (by have:=b8.out;omega),hx]⟩
   have f8:=nQg l k R;have e0:=a8.wd;obtain⟨M,t,f4,f5⟩:=bQw e0 f.out.net.good (by omega);have hC:=HI.out l[k] (List.getElem_mem R) wr B c q r m x G ty e5 f.out.net f2 c2 a8 (by omega);have F:Hid (Ls.go (l.foldr rcons rnil) n ⟨0,0,true⟩=Ls.go ((l.drop (k+1)).foldr rcons rnil) (gX0 (Ls.add l[k] m).1 a.last (Ls.add l[k] m).2.first) (kX3 a (Ls.add l[k] m).2)):=by
    show _=_;rw[a2.out,List.drop_eq_getElem_cons R,uQ8]
   have d3:(Ls.add l[k] m).1.places.length+G0 (l.drop (k+1))<=31:=by omega
   generalize Ls.add l[k] m=g1 at *;obtain⟨m1,nx⟩:=g1;simp only at M t d3;go_wp2_with fail;refine hC.mono ?_;rintro e Y ⟨H,I,rfl,L,a9⟩;have K:=f.out.next L a9;have a4:=a9.own f.out.fa b5.out;have c1:=A5 Y (.cells #[.int .u32 nx.first,.int .u32 nx.last,.bool nx.empty] 150);have b0:=NStep.of_below c H I c1;have c3:=K.next (L.below c1) b0;have c7:=b0.own K.fa a4;have c9:=L.newFree (.cells #[.int .u32 nx.first,.int .u32 nx.last,.bool nx.empty] 150);have d4:=heap_alloc_new Y (.cells #[.int .u32 nx.first,.int .u32 nx.last,.bool nx.empty] 150);have h3:=K.fa.1;obtain⟨a0,a1,J,o⟩:=O3 a4;have f3:¬w.heap.size+1=Y.heap.size:=by omega
   have z:Hid _:=c3;have b6:Hid _:=c7;have b7:Hid _:=c9;have b9:Hid _:=d4;go_wp2_with fail;refine(lQj a.last nx.first _ B c H I m1 x z.out.net hl M).mono ?_;rintro e w3 ⟨rfl,c5,T⟩;have a3:=z.out.next c5 T;have a5:=T.own z.out.fa b6.out;have a7:=T.own b7.out b9.out;obtain⟨a0,a1,J,o⟩:=O3 a5;obtain⟨n0,n1,V,n3⟩:=O3 a7;have g2:=o 0;have g3:=o 1;have g4:=o 2;have h4:=a3.fa.1;have h5:=(Array.getElem?_eq_some_iff.1 a7).1;have g8:¬Y.heap.size=w.heap.size+1:=fun e=>f3 e.symm;have A:Hid _:=a3;have C:Hid _:=a5;have b2:Hid _:=u32_or_nat a.first nx.first N M;have b3:Hid _:=u32_or_nat a.last nx.last hl t;have b4:Hid (bits .or .u32 0 (nx.last:Int)=((0 ||| nx.last:Nat):Int)):=u32_or_nat 0 nx.last (by omega) t;have d7:=aQ1 0 nx.last (by omega) t;have d5:=aQ1 _ _ N M;have d6:=aQ1 _ _ hl t;clear c5 T a5 a7 a3 o n3 z b6 b7 b9;have c0:∀(u v:Nat) (b:Bool),kX3 a nx=⟨u,v,b⟩->u<4294967296->v<4294967296->∀W:World,Pk w W B c P Q H I (gX0 m1 a.last nx.first) x->W.heap[w.heap.size+1]?=some (.cells #[.int .u32 u,.int .u32 v,.bool b] 150 (0,0))->
     ∃(U:Nat) (m:Net) (a:Span) (q r:Value),U<=l.length/\Value.int .i64 ((k:Int)+1)=.int .i64 U/\Pk w W B c P Q q r m x/\W.heap[w.heap.size+1]?=some (.cells #[.int .u32 a.first,.int .u32 a.last,.bool a.empty] 150 (0,0))/\a.first<4294967296/\a.last<4294967296/\m.places.length+G0 (l.drop U)<=31/\Ls.go (l.foldr rcons rnil) n ⟨0,0,true⟩=Ls.go ((l.drop U).foldr rcons rnil) m a:=by
    intro u v b hr hu hv W h1 h2;refine⟨k+1,gX0 m1 a.last nx.first,⟨u,v,b⟩,H,I,by omega,by simp,h1,h2,hu,hv,by simpa [gX0] using d3,?_⟩;rw[F.out];rw[hr]
   have E:Hid _:=c0;clear c0;cases i:a.empty with
   | true=>
    rw[i]at J;cases d:nx.empty with
    | true=>
     rw[d]at V;have p:Hid (kX3 a nx=⟨a.first ||| nx.first,a.last ||| nx.last,true⟩):=by simp[Hid,kX3,i,d]
     clear i d;go_wp2_with fail;rw[b2.out,b3.out];go_roundw
     case rel=>exact E.out _ _ _ p.out d5 d6 _ (((A.out.set _ _).set _ _).set _ _) (by have:=C.out;simp[World.setCell,Array.getElem?_modify,this])
     case measure=>simp[intOf];omega
    | false=>
     rw[d]at V;have p:Hid (kX3 a nx=⟨a.first ||| nx.first,0 ||| nx.last,false⟩):=by simp[Hid,kX3,i,d]
     clear i d;go_wp2_with fail;rw[b2.out,b4.out];go_roundw
     case rel=>exact E.out _ _ _ p.out d5 d7 _ ((((A.out.set _ _).set _ _).set _ _).set _ _) (by have:=C.out;simp[World.setCell,Array.getElem?_modify,this])
     case measure=>simp[intOf];omega
   | false=>
    rw[i]at J;cases d:nx.empty with
    | true=>
     rw[d]at V;have p:Hid (kX3 a nx=⟨a.first,a.last ||| nx.last,false⟩):=by simp[Hid,kX3,i,d]
     clear i d;go_wp2_with fail;rw[b3.out];go_roundw
     case rel=>exact E.out _ _ _ p.out N d6 _ ((A.out.set _ _).set _ _) (by have:=C.out;simp[World.setCell,Array.getElem?_modify,this])
     case measure=>simp[intOf];omega
    | false=>
     rw[d]at V;have p:Hid (kX3 a nx=⟨a.first,0 ||| nx.last,false⟩):=by simp[Hid,kX3,i,d]
     clear i d;go_wp2_with fail;rw[b4.out];go_roundw
     case rel=>exact E.out _ _ _ p.out N d7 _ (((A.out.set _ _).set _ _).set _ _) (by have:=C.out;simp[World.setCell,Array.getElem?_modify,this])
     case measure=>simp[intOf];omega
  ·have f7:k=l.length:=by omega
   have F:Hid (Ls.go (l.foldr rcons rnil) n ⟨0,0,true⟩=(m,a)):=by
    show _=_;rw[a2.out,f7,List.drop_length];exact jXm m a
   obtain⟨a0,a1,J,o⟩:=O3 b5.out;obtain⟨s0,s1,s2,X⟩:=O3 f.out.res;have h8:=X 0;have h9:=X 1;have i0:=X 2;clear o X;have h7:w.heap.size<wr.heap.size:=by omega
   go_wp2_with fail;refine bodyPost_ret (v:=T9 a) (by simp[results,Tryz.results115,go_sem,s0,s1,s2]) rfl ⟨q,r,by rw[F.out],?_⟩;rw[F.out];exact aQe f.out.net f.out.step f.out.fr (Nat.le_refl _) _ _ _
theorem uQ6:Ls.go (F7 (a::l)) n s=Ls.go (F7 l) (Ls.add a n).1 (orS s (Ls.add a n).2):=by
 cases l with
 | nil=>show Ls.go (clast a) n s=Ls.go rnil _ _;rw[kXi,jXm]
 | cons b l=>show Ls.go (ccons a (F7 (b::l))) n s=_;rw[kXh]
theorem Pk.alloc {B:Nat}{x:Span}(h:Pk w W B nb P Q P1 Q1 m x)(o:Obj):Pk w (W.alloc o) B nb P Q P1 Q1 m x:=
 h.next (h.net.below (A5 _ _)) (NStep.of_below _ _ _ (A5 _ _))
theorem qQg (hI:∀a,a∈l->R9 a)(f5:l.length<=1048576)(w:World)(c:Nat)(P Q:Value)(h:NetL w B c P Q n x)(hB:B<=w.heap.size)(hG:∀k,G k->Free w c P Q k)(hs:Shows w G sl vs)(he:Each w G l vs)(e8:n.places.length+G0 l<=31) :
  Calls Tryz.prog 116 #[Pt c,sl] w (U3 w B c P Q x (Ls.go (F7 l) n ⟨0,0,false⟩)):=by
 have HI:Hid _:=hI;have H:=he.length;have f7:=h.lt;have Y:=C6 w Uc Uc;have b4:=h.below Y;have c3:=NStep.of_below c P Q Y;have c5:((w.alloc Uc).alloc Uc).heap[w.heap.size]?=some (.cells #[.int .u32 (0:Nat),.int .u32 (0:Nat),.bool false] 150 (0,0)):=by
  rw[Below.heap_alloc _ _ _ (by simp)];exact heap_alloc_new _ _
 have c6:((w.alloc (.cells #[.int .u32 (0:Nat),.int .u32 (0:Nat),.bool false] 150)).alloc (.cells #[.int .u32 (0:Nat),.int .u32 (0:Nat),.bool false] 150)).heap[w.heap.size+1]?=some (.cells #[.int .u32 (0:Nat),.int .u32 (0:Nat),.bool false] 150 (0,0)):=by
  have:=heap_alloc_new (w.alloc (.cells #[.int .u32 (0:Nat),.int .u32 (0:Nat),.bool false] 150)) (.cells #[.int .u32 (0:Nat),.int .u32 (0:Nat),.bool false] 150);simpa using this
 have b7:Free ((w.alloc (.cells #[.int .u32 (0:Nat),.int .u32 (0:Nat),.bool false] 150)).alloc (.cells #[.int .u32 (0:Nat),.int .u32 (0:Nat),.bool false] 150)) c P Q w.heap.size:=by
  have:=h.newFree (.cells #[.int .u32 (0:Nat),.int .u32 (0:Nat),.bool false] 150);exact⟨by simp;omega,this.2⟩
 have b8:Free ((w.alloc (.cells #[.int .u32 (0:Nat),.int .u32 (0:Nat),.bool false] 150)).alloc (.cells #[.int .u32 (0:Nat),.int .u32 (0:Nat),.bool false] 150)) c P Q (w.heap.size+1):=by
  have:=(h.below (A5 w (.cells #[.int .u32 (0:Nat),.int .u32 (0:Nat),.bool false] 150))).newFree (.cells #[.int .u32 (0:Nat),.int .u32 (0:Nat),.bool false] 150);simpa using this
 have f8:((w.alloc (.cells #[.int .u32 (0:Nat),.int .u32 (0:Nat),.bool false] 150)).alloc (.cells #[.int .u32 (0:Nat),.int .u32 (0:Nat),.bool false] 150)).heap.size=w.heap.size+1+1:=by simp
 go_enter Tryz.func116,Tryz.ntmps116;go_upto_region 2 with (fail);generalize (w.alloc (.cells #[.int .u32 ((0:Nat):Int),.int .u32 ((0:Nat):Int),.bool false] 150)).alloc (.cells #[.int .u32 ((0:Nat):Int),.int .u32 ((0:Nat):Int),.bool false] 150)=W at *;have e7:∃sa sc,sl=.slice sa l.length sc:=by
  rcases hs.shape with⟨s,e2⟩|⟨g,f3,s,_⟩
  ·exact⟨_,_,by rw[s,<-H,e2];rfl⟩
  ·exact⟨_,_,by rw[s,H]⟩
 obtain⟨sa,sc,rfl⟩:=e7;have Hs:Hid _:=hs;have He:Hid _:=he;have M:Hid _:=hG;have b0:Hid _:=H;have d1:Hid _:=c3;have c8:Hid _:=b4;have d2:Hid _:=c5;have d3:Hid _:=c6;have c9:Hid _:=b7;have d0:Hid _:=b8;go_wp2;go_loopw [12] (fun a8 wr=>∃(k:Nat) (m:Net) (a:Span) (i o:Value),k<=l.length/\a8=.int .i64 k/\Pk w wr B c P Q i o m x/\wr.heap[w.heap.size+1]?=some (.cells #[.int .u32 a.first,.int .u32 a.last,.bool a.empty] 150 (0,0))/\a.first<4294967296/\a.last<4294967296/\m.places.length+G0 (l.drop k)<=31/\Ls.go (F7 l) n ⟨0,0,false⟩=Ls.go (F7 (l.drop k)) m a) (fun a8 _=>l.length-(intOf a8).toNat)
 case atStart=>
  exact⟨0,n,⟨0,0,false⟩,P,Q,Nat.zero_le _,rfl,⟨c8.out,d1.out,d2.out,c9.out,d0.out⟩,d3.out,by simp,by simp,by simpa using e8,by simp⟩
 case round=>
  obtain⟨k,m,a,i,o,hk,rfl,J,b5,hf,hl,hm,b9⟩:=hrel;have d:Hid _:=J;have a9:Hid _:=b5;have T:Hid _:=b9;have d4:=Nat.le_trans hB J.step.size;have g1:=J.fa.1
  by_cases I:k<l.length
  ·have c2:=Hs.out.mono (w':=wr) (fun _ h=>h) (fun j y=>d.out.step.block j (M.out j y))
   have b6:=He.out.mono (w':=wr) (fun _ h=>h) (fun j y=>d.out.step.block j (M.out j y));have b3:∀j,G j->Free wr c i o j:=fun j y=>d.out.step.free (M.out j y);obtain⟨ty,c7,hx,a5⟩:=b6.get k I;obtain⟨g,rfl,hc⟩:∃g,sa=some ⟨g,0,none⟩/\wr.cell? ⟨g,k,none⟩=some (.iface ty c7):=by
    rcases c2.shape with⟨_,e⟩|⟨g',f4,e,_,e0⟩
    ·have:=b0.out;rw[e]at this;simp at this;omega
    ·injection e with s e2 e3
     exact⟨g',s,by rw[e0 k (by have:=b0.out;omega),hx]⟩
   have e6:=nQg l k I;have c4:=a5.wd;obtain⟨Z,a2,d8,d9⟩:=bQw c4 d.out.net.good (by omega);have hC:=HI.out l[k] (List.getElem_mem I) wr B c i o m x G ty c7 d.out.net d4 b3 a5 (by omega);have A:Hid (Ls.go (F7 l) n ⟨0,0,false⟩=Ls.go (F7 (l.drop (k+1))) (Ls.add l[k] m).1 (orS a (Ls.add l[k] m).2)):=by
    show _=_;rw[T.out,List.drop_eq_getElem_cons I,uQ6]
   have c0:(Ls.add l[k] m).1.places.length+G0 (l.drop (k+1))<=31:=by omega
   generalize Ls.add l[k] m=e9 at *;obtain⟨m1,nx⟩:=e9;simp only at Z a2 c0;go_wp2_with fail;refine hC.mono ?_;rintro e q ⟨U,V,rfl,E,a6⟩;have t:=d.out.next E a6;have F:=a6.own d.out.fa a9.out;have b2:=A5 q (.cells #[.int .u32 nx.first,.int .u32 nx.last,.bool nx.empty] 150);have a7:=NStep.of_below c U V b2;have d5:=t.next (E.below b2) a7;have d7:=a7.own t.fa F;have e1:=E.newFree (.cells #[.int .u32 nx.first,.int .u32 nx.last,.bool nx.empty] 150);have e5:=heap_alloc_new q (.cells #[.int .u32 nx.first,.int .u32 nx.last,.bool nx.empty] 150);have f9:=t.fa.1;obtain⟨a0,a1,X,C⟩:=O3 F;have d6:¬w.heap.size+1=q.heap.size:=by omega
   have z:Hid _:=t;have R:Hid _:=F;have p:=C;have n3:=heap_alloc_new q (.cells #[.int .u32 nx.first,.int .u32 nx.last,.bool nx.empty] 150);have g0:=z.out.fa.1;have f6:¬q.heap.size=w.heap.size+1:=fun e=>d6 e.symm;have N:Hid _:=u32_or_nat a.first nx.first hf Z;have O:Hid _:=u32_or_nat a.last nx.last hl a2;have a3:=aQ1 _ _ hf Z;have a4:=aQ1 _ _ hl a2;have b1:∀(u v:Nat) (b:Bool),orS a nx=⟨u,v,b⟩->u<4294967296->v<4294967296->∀W:World,Pk w W B c P Q U V (m1) x->W.heap[w.heap.size+1]?=some (.cells #[.int .u32 u,.int .u32 v,.bool b] 150 (0,0))->
     ∃(K:Nat) (m:Net) (a:Span) (i o:Value),K<=l.length/\Value.int .i64 ((k:Int)+1)=.int .i64 K/\Pk w W B c P Q i o m x/\W.heap[w.heap.size+1]?=some (.cells #[.int .u32 a.first,.int .u32 a.last,.bool a.empty] 150 (0,0))/\a.first<4294967296/\a.last<4294967296/\m.places.length+G0 (l.drop K)<=31/\Ls.go (F7 l) n ⟨0,0,false⟩=Ls.go (F7 (l.drop K)) m a:=by
    intro u v b hr hu hv W h1 h2;refine⟨k+1,m1,⟨u,v,b⟩,U,V,by omega,by simp,h1,h2,hu,hv,c0,?_⟩;rw[A.out];rw[hr]
   have S:Hid _:=b1;have f0:=p 0;have f1:=p 1;have f2:=p 2;cases f:a.empty with
   | true=>
    rw[f]at X;have r:Hid (orS a nx=⟨a.first ||| nx.first,a.last ||| nx.last,true⟩):=by simp[Hid,orS,f]
    go_wp2;rw[N.out,O.out];go_roundw
    case rel=>exact S.out _ _ _ r.out a3 a4 _ ((((z.out.set _ _).set _ _).set _ _).alloc _) (by have:=R.out;rw[Below.heap_alloc _ _ _ (by simp[World.setCell];omega)];simp[World.setCell,Array.getElem?_modify,this])
    case measure=>simp[intOf];omega
   | false=>
    rw[f]at X;cases c1:nx.empty with
    | true=>
     have r:Hid (orS a nx=⟨a.first ||| nx.first,a.last ||| nx.last,true⟩):=by simp[Hid,orS,f,c1]
     go_wp2;rw[N.out,O.out];go_roundw
     case rel=>exact S.out _ _ _ r.out a3 a4 _ ((((z.out.set _ _).set _ _).set _ _).alloc _) (by have:=R.out;rw[Below.heap_alloc _ _ _ (by simp[World.setCell];omega)];simp[World.setCell,Array.getElem?_modify,this])
     case measure=>simp[intOf];omega
    | false=>
     have r:Hid (orS a nx=⟨a.first ||| nx.first,a.last ||| nx.last,false⟩):=by simp[Hid,orS,f,c1]
     go_wp2;rw[N.out,O.out];go_roundw
     case rel=>exact S.out _ _ _ r.out a3 a4 _ ((((z.out.set _ _).set _ _).set _ _).alloc _) (by have:=R.out;rw[Below.heap_alloc _ _ _ (by simp[World.setCell];omega)];simp[World.setCell,Array.getElem?_modify,this])
     case measure=>simp[intOf];omega
  ·have e4:k=l.length:=by omega
   have A:Hid (Ls.go (F7 l) n ⟨0,0,false⟩=(m,a)):=by
    show _=_;rw[T.out,e4,List.drop_length];exact jXm m a
   obtain⟨a0,a1,X,C⟩:=O3 a9.out;obtain⟨s0,s1,s2,L⟩:=O3 d.out.res;have g3:=L 0;have g4:=L 1;have g5:=L 2;have g2:w.heap.size<wr.heap.size:=by omega
   go_wp2;refine bodyPost_ret (v:=T9 a) (by simp[results,Tryz.results116,go_sem,s0,s1,s2]) rfl ⟨i,o,by rw[A.out],?_⟩;rw[A.out];exact aQe d.out.net d.out.step d.out.fr (Nat.le_refl _) _ _ _
theorem dQg {g:Nat}{v:Value}{b:Bool}{t:TypeId}(h:w.heap[g]?=some (.cells #[v,.bool b,.bool c] t (0,0))):w.cell? ⟨g,0,none⟩=some v/\w.cell? ⟨g,1,none⟩=some (.bool b)/\w.cell? ⟨g,2,none⟩=some (.bool c):=by
 refine⟨?_,?_,?_⟩<;>simp[World.cell?,h]
structure Rp (w W:World)(nb:Nat)(P Q:Value)(v:Value)(b c:Bool):Prop where
 box:W.heap[w.heap.size]?=some (.cells #[v,.bool b,.bool c] 189 (0,0))
 res:W.heap[w.heap.size+1]?=some (.cells #[.int .u32 (0:Nat),.int .u32 (0:Nat),.bool false] 150 (0,0))
 fb:Free W nb P Q w.heap.size
 fr:Free W nb P Q (w.heap.size+1)
theorem Rp.next {v:Value}{b:Bool}(h:Rp w W nb P Q v b c)(hs:NStep W nb P Q W' P' Q'):Rp w W' nb P' Q' v b c:=⟨hs.own h.fb h.box,hs.own h.fr h.res,hs.free h.fb,hs.free h.fr⟩
theorem Rp.start {B:Nat}{n:Net}{x:Span}(h:NetL w B nb P Q n x)(v:Value)(b c:Bool):Rp w ((w.alloc (.cells #[v,.bool b,.bool c] 189)).alloc (.cells #[.int .u32 (0:Nat),.int .u32 (0:Nat),.bool false] 150)) nb P Q v b c:=by
 refine⟨?_,?_,?_,?_⟩
 ·rw[Below.heap_alloc _ _ _ (by simp)];exact heap_alloc_new _ _
 ·have:=heap_alloc_new (w.alloc (.cells #[v,.bool b,.bool c] 189)) (.cells #[.int .u32 (0:Nat),.int .u32 (0:Nat),.bool false] 150)
  simpa using this
 ·have:=h.newFree (.cells #[v,.bool b,.bool c] 189)
  exact⟨by simp;omega,this.2⟩
 ·have:=(h.below (A5 w (.cells #[v,.bool b,.bool c] 189))).newFree (.cells #[.int .u32 (0:Nat),.int .u32 (0:Nat),.bool false] 150)
  simpa using this
theorem iQ1 (W:R9 a)(w:World)(d:Nat)(P Q:Value)(h:NetL w B d P Q n x)(hB:B<=w.heap.size)(A:∀k,G k->Free w d P Q k)(I:Rep w G 0 a [.iface ty y])(b3:n.places.length+dsize a<=31) :
  Calls Tryz.prog 117 #[Pt d,.agg #[.iface ty y,.bool b,.bool true]] w (U3 w B d P Q x (gX0 (Ls.add a n).1 (Ls.add a n).2.last (Ls.add a n).2.first,⟨(Ls.add a n).2.first,(Ls.add a n).2.last,(Ls.add a n).2.empty||b⟩)):=by
 have c1:=h.lt;have q:=C6 w (.cells #[.iface ty y,.bool b,.bool true] 189) Uc;have J:=Rp.start h (.iface ty y) b true;have s:=NStep.of_below d P Q q;have Y:=h.below q;have a5:=I.mono (fun _ h=>h) (fun k F=>s.block k (A k F));have V:∀k,G k->Free _ d P Q k:=fun k F=>s.free (A k F);have⟨a1,a2,b1,b2⟩:=bQw I.wd h.good (by omega);have U:=W _ B d P Q n x G ty y Y (Lq hB q.size) V a5 b3;generalize Ls.add a n=b4 at *;have⟨m1,nx⟩:=b4;simp only at a1 a2;have⟨m,o,p⟩:=dQg J.box;have O:Hid _:=J;have a9:Hid _:=s;go_enter Tryz.func117,Tryz.ntmps117;go_upto_region 1 with (fail);generalize (w.alloc (.cells #[.iface ty y,.bool b,.bool true] 189)).alloc (.cells #[.int .u32 ((0:Nat):Int),.int .u32 ((0:Nat):Int),.bool false] 150)=b5 at *;go_wp2_with fail;refine U.mono ?_;rintro b0 e ⟨f,g,rfl,C,K⟩;have r:=O.out.next K;have T:=A5 e (.cells #[.int .u32 nx.first,.int .u32 nx.last,.bool nx.empty] 150);have L:=NStep.of_below d f g T;have a6:=r.next L;have Z:=C.below T;have a3:=C.newFree (.cells #[.int .u32 nx.first,.int .u32 nx.last,.bool nx.empty] 150);have a4:=heap_alloc_new e (.cells #[.int .u32 nx.first,.int .u32 nx.last,.bool nx.empty] 150);have a7:=(a9.out.trans K).trans L;have c3:=r.fr.1;have c4:w.heap.size<e.heap.size:=by omega
 have b6:¬w.heap.size=e.heap.size:=by omega
 have⟨m,o,p⟩:=dQg r.box;have X:=lQj nx.last nx.first _ B d f g m1 x Z a2 a1;have R:Hid _:=a6;have z:Hid _:=a3;have N:Hid _:=a4;have S:Hid _:=a7;go_wp2_with fail;refine X.mono ?_;rintro b0 w3 ⟨rfl,a0,l⟩;have j:=R.out.next l;have H:=l.own z.out N.out;have E:=l.free z.out;have a8:=S.out.trans l;have⟨m,o,p⟩:=dQg j.box;have⟨n0,n1,n2,n3⟩:=O3 H;have⟨s0,s1,s2,t⟩:=O3 j.res;have c7:=n3 2;have c8:=t 0;have c9:=t 1;have d0:=t 2;have c5:=j.fr.1;have c6:=E.1;have b7:¬e.heap.size=w.heap.size:=by omega
 have b8:¬w.heap.size=e.heap.size:=by omega
 have b9:¬e.heap.size=w.heap.size+1:=by omega
 have c0:¬w.heap.size+1=e.heap.size:=by omega
 have c2:=(Array.getElem?_eq_some_iff.1 H).1;have M:Hid (∀v c,NetL ((((w3.setCell ⟨Hz e,2,none⟩ v).setCell ⟨Hz w+1,0,none⟩ (.int .u32 nx.first)).setCell ⟨Hz w+1,1,none⟩ (.int .u32 nx.last)).setCell ⟨Hz w+1,2,none⟩ c) B d f g (gX0 m1 nx.last nx.first) x/\NStep w d P Q ((((w3.setCell ⟨Hz e,2,none⟩ v).setCell ⟨Hz w+1,0,none⟩ (.int .u32 nx.first)).setCell ⟨Hz w+1,1,none⟩ (.int .u32 nx.last)).setCell ⟨Hz w+1,2,none⟩ c) f g):=fun v c=>
  aQe (a0.set E 2 v) (a8.set (by omega) 2 v) (j.fr.set _ _) (by omega) _ _ _
 cases i:nx.empty with
 | true=>
  rw[i]at n2;have u:Hid _:=i;go_wp2;exact bodyPost_ret (v:=T9 ⟨nx.first,nx.last,true⟩) (by simp[results,Tryz.results117,go_sem,s0,s1,s2]) rfl ⟨f,g,by simp[u.out],M.out _ _⟩
 | false=>
  rw[i]at n2;have u:Hid _:=i;go_wp2;exact bodyPost_ret (v:=T9 ⟨nx.first,nx.last,b⟩) (by simp[results,Tryz.results117,go_sem,s0,s1,s2]) rfl ⟨f,g,by simp[u.out],M.out _ _⟩
theorem qQo (R:R9 a)(w:World)(d:Nat)(P Q:Value)(h:NetL w B d P Q n x)(hB:B<=w.heap.size)(s:∀k,G k->Free w d P Q k)(A:Rep w G 0 a [.iface ty y])(a5:n.places.length+dsize a<=31) :
  Calls Tryz.prog 117 #[Pt d,.agg #[.iface ty y,.bool b,.bool false]] w (U3 w B d P Q x ((Ls.add a n).1,⟨(Ls.add a n).2.first,(Ls.add a n).2.last,(Ls.add a n).2.empty||b⟩)):=by
 have b3:=h.lt;have m:=C6 w (.cells #[.iface ty y,.bool b,.bool false] 189) Uc;have C:=Rp.start h (.iface ty y) b false;have o:=NStep.of_below d P Q m;have S:=h.below m;have V:=A.mono (fun _ h=>h) (fun k u=>o.block k (s k u));have O:∀k,G k->Free _ d P Q k:=fun k u=>o.free (s k u);have⟨a1,a2,a3,a4⟩:=bQw A.wd h.good (by omega);have N:=R _ B d P Q n x G ty y S (Lq hB m.size) O V a5;generalize Ls.add a n=a6 at *;have⟨m1,nx⟩:=a6;simp only at a1 a2;have⟨K,L,M⟩:=dQg C.box;have J:Hid _:=C;have a0:Hid _:=o;go_enter Tryz.func117,Tryz.ntmps117;go_upto_region 1 with (fail);generalize (w.alloc (.cells #[.iface ty y,.bool b,.bool false] 189)).alloc (.cells #[.int .u32 ((0:Nat):Int),.int .u32 ((0:Nat):Int),.bool false] 150)=a7 at *;go_wp2_with fail;refine N.mono ?_;rintro a8 l ⟨g,i,rfl,t,F⟩;have E:=J.out.next F;have r:=A5 l (.cells #[.int .u32 nx.first,.int .u32 nx.last,.bool nx.empty] 150);have H:=NStep.of_below d g i r;have j:=E.next H;have T:=t.below r;have U:=t.newFree (.cells #[.int .u32 nx.first,.int .u32 nx.last,.bool nx.empty] 150);have z:=heap_alloc_new l (.cells #[.int .u32 nx.first,.int .u32 nx.last,.bool nx.empty] 150);have W:=(a0.out.trans F).trans H;have b5:=E.fr.1;have b6:w.heap.size<l.heap.size:=by omega
 go_upto_region 2 with (fail);have b4:=(Array.getElem?_eq_some_iff.1 z).1;generalize b8:l.heap.size=f at *;generalize l.alloc (.cells #[.int .u32 (nx.first:Int),.int .u32 (nx.last:Int),.bool nx.empty] 150)=w3 at *;have⟨K,L,M⟩:=dQg j.box;have⟨n0,n1,X,Y⟩:=O3 z;have⟨Z,s1,s2,p⟩:=O3 j.res;have b9:=Y 2;have c0:=p 0;have c1:=p 1;have c2:=p 2;have b7:=j.fr.1;have a9:¬f=w.heap.size:=by omega
 have b0:¬w.heap.size=f:=by omega
 have b1:¬f=w.heap.size+1:=by omega
 have b2:¬w.heap.size+1=f:=by omega
 have I:Hid (∀v c,NetL ((((w3.setCell ⟨f,2,none⟩ v).setCell ⟨Hz w+1,0,none⟩ (.int .u32 nx.first)).setCell ⟨Hz w+1,1,none⟩ (.int .u32 nx.last)).setCell ⟨Hz w+1,2,none⟩ c) B d g i m1 x/\NStep w d P Q ((((w3.setCell ⟨f,2,none⟩ v).setCell ⟨Hz w+1,0,none⟩ (.int .u32 nx.first)).setCell ⟨Hz w+1,1,none⟩ (.int .u32 nx.last)).setCell ⟨Hz w+1,2,none⟩ c) g i):=fun v c=>
  aQe (T.set U 2 v) (W.set (by omega) 2 v) (j.fr.set _ _) (by omega) _ _ _
 cases e:nx.empty with
 | true=>
  rw[e]at X;have q:Hid _:=e;go_wp2;exact bodyPost_ret (v:=T9 ⟨nx.first,nx.last,true⟩) (by simp[results,Tryz.results117,go_sem,Z,s1,s2]) rfl ⟨g,i,by simp[q.out],I.out _ _⟩
 | false=>
  rw[e]at X;have q:Hid _:=e;go_wp2;exact bodyPost_ret (v:=T9 ⟨nx.first,nx.last,b⟩) (by simp[results,Tryz.results117,go_sem,Z,s1,s2]) rfl ⟨g,i,by simp[q.out],I.out _ _⟩
theorem qQn (t:Nat)(i:t=5\/t=6\/t=7)(e:R9 a)(w:World)(b:Nat)(P Q:Value)(h:NetL w B b P Q n x)(c:B<=w.heap.size)(d:∀k,G k->Free w b P Q k)(f:Rep w G 0 a [.iface ty y])(g:n.places.length+dsize a<=31) :
  Calls Tryz.prog 117 #[Pt b,.agg #[.iface ty y,.bool (t != 6),.bool (t != 7)]] w (U3 w B b P Q x (Ls.add (Ls.rep t a) n)):=by
 rcases i with rfl|rfl|rfl
 ·have:=iQ1 a B n true x G ty y e w b P Q h c d f g
  rw[Bool.or_true]at this;unfold Ls.add at this ⊢;rw[kX9];exact this
 ·have:=iQ1 a B n false x G ty y e w b P Q h c d f g
  rw[Bool.or_false]at this;unfold Ls.add at this ⊢;rw[kX8];exact this
 ·have:=qQo a B n true x G ty y e w b P Q h c d f g
  rw[Bool.or_true]at this;unfold Ls.add at this ⊢;rw[lX5];exact this
variable (v:Value)(l:List Ls.D)(d:Ls.D)(w:World)(B nb:Nat)(P Q:Value)(n:Net)(x:Span)(G:Nat->Prop)(ty:TypeId)(y sl:Value)(vs:List Value)
structure Ad (w W:World)(nb:Nat)(P Q:Value):Prop where
 res:W.heap[w.heap.size]?=some (.cells #[.int .u32 (0:Nat),.int .u32 (0:Nat),.bool false] 150 (0,0))
 fr:Free W nb P Q w.heap.size
theorem Ad.next {w W d:World}{a:Nat}{P Q b c:Value}(h:Ad w W a P Q)(hs:NStep W a P Q d b c):Ad w d a b c:=⟨hs.own h.fr h.res,hs.free h.fr⟩
theorem Ad.start {w:World}{B a:Nat}{P Q:Value}{n:Net}{x:Span}(h:NetL w B a P Q n x)(o:Obj):Ad w ((w.alloc (.cells #[.int .u32 (0:Nat),.int .u32 (0:Nat),.bool false] 150)).alloc o) a P Q:=by
 refine⟨?_,?_⟩
 ·rw[Below.heap_alloc _ _ _ (by simp)];exact heap_alloc_new _ _
 ·have:=h.newFree Uc
  exact⟨by simp;omega,this.2⟩
theorem rQg:(Instr.typeAssert (.iface 180 v) 89 180 true).run Tryz.prog w=.ok (.tuple #[v,.bool true]) w:=by kernel_rfl
theorem rQi:(Instr.typeAssert (.iface 184 v) 89 184 true).run Tryz.prog w=.ok (.tuple #[v,.bool true]) w:=by kernel_rfl
theorem rQh:(Instr.typeAssert (.iface 184 v) 89 180 true).run Tryz.prog w=.ok (.tuple #[.agg #[.int .u64 0,.int .u64 0],.bool false]) w:=by kernel_rfl
theorem rQc:(Instr.typeAssert (.iface 187 v) 89 187 true).run Tryz.prog w=.ok (.tuple #[v,.bool true]) w:=by kernel_rfl
theorem rQd:(Instr.typeAssert (.iface 187 v) 89 180 true).run Tryz.prog w=.ok (.tuple #[.agg #[.int .u64 0,.int .u64 0],.bool false]) w:=by kernel_rfl
theorem rQe:(Instr.typeAssert (.iface 187 v) 89 184 true).run Tryz.prog w=.ok (.tuple #[.agg #[.slice none 0 0],.bool false]) w:=by kernel_rfl
theorem rQm:(Instr.typeAssert (.iface 189 v) 89 189 true).run Tryz.prog w=.ok (.tuple #[v,.bool true]) w:=by kernel_rfl
theorem rQk:(Instr.typeAssert (.iface 189 v) 89 180 true).run Tryz.prog w=.ok (.tuple #[.agg #[.int .u64 0,.int .u64 0],.bool false]) w:=by kernel_rfl
theorem rQl:(Instr.typeAssert (.iface 189 v) 89 184 true).run Tryz.prog w=.ok (.tuple #[.agg #[.slice none 0 0],.bool false]) w:=by kernel_rfl
theorem rQj:(Instr.typeAssert (.iface 189 v) 89 187 true).run Tryz.prog w=.ok (.tuple #[.agg #[.slice none 0 0],.bool false]) w:=by kernel_rfl
theorem qQt (h:NetL w B nb P Q n x)(A:B<=w.heap.size)(g:Lu)(lo d:Nat)(C:SB g lo d)(E:n.places.length<32) :
  Calls Tryz.prog 95 #[Pt nb,K3 lo d] w (U3 w B nb P Q x (gXk g n,hXj n.places.length)):=by
 have H:=h.lt;have i:=C6 w Uc (.cells #[.int .u64 lo,.int .u64 d] 180);have u:=NStep.of_below nb P Q i;have q:=Ad.start h (.cells #[.int .u64 lo,.int .u64 d] 180);have s:=qQm g lo d _ B nb P Q n x (h.below i) (Lq A i.size) C E;have o:Hid _:=q;have p:Hid _:=u;have M:=rQg;go_enter Tryz.func95,Tryz.ntmps95;go_wp2_with fail;refine s.mono ?_;rintro e y ⟨k,l,rfl,t,m⟩;generalize (gXk g n,hXj n.places.length)=r at *;have⟨F,nx⟩:=r;have f:=o.out.next m;have⟨G,s1,s2,j⟩:=O3 f.res;have J:=j 0;have K:=j 1;have L:=j 2;have I:=f.fr.1;have z:Hid (∀a b c,NetL (((y.setCell ⟨Hz w,0,none⟩ a).setCell ⟨Hz w,1,none⟩ b).setCell ⟨Hz w,2,none⟩ c) B nb k l F x/\NStep w nb P Q (((y.setCell ⟨Hz w,0,none⟩ a).setCell ⟨Hz w,1,none⟩ b).setCell ⟨Hz w,2,none⟩ c) k l):=fun a b c=>aQe t (p.out.trans m) f.fr Nr a b c;go_wp2;exact bodyPost_ret (v:=T9 nx) (by simp[results,Tryz.results95,go_sem,G,s1,s2]) rfl ⟨k,l,rfl,z.out _ _ _⟩
theorem qQv (hI:∀a,a∈l->R9 a)(hln:l.length<=1048576)(h:NetL w B nb P Q n x)(hB:B<=w.heap.size)(hG:∀k,G k->Free w nb P Q k)(hs:Shows w G sl vs)(he:Each w G l vs)(hsz:n.places.length+G0 l<=31) :
  Calls Tryz.prog 95 #[.pointer (some ⟨nb,0,none⟩),P5 sl] w (U3 w B nb P Q x (Ls.go (l.foldr rcons rnil) n ⟨0,0,true⟩)):=by
 have hnl:=h.lt;have hb0:=C6 w Uc (.cells #[sl] 184);have hst0:=NStep.of_below nb P Q hb0;have hA0:=Ad.start h (.cells #[sl] 184);have hC:=qQp l B n x G sl vs hI hln _ nb P Q (h.below hb0) (Lq hB hb0.size) (fun k hk=>hst0.free (hG k hk)) (hs.mono (fun _ h=>h) (fun k hk=>hst0.block k (hG k hk))) (he.mono (fun _ h=>h) (fun k hk=>hst0.block k (hG k hk))) hsz;have HA:Hid _:=hA0;have HS:Hid _:=hst0;obtain⟨x1,x2,x3,rfl⟩:∃a n c,sl=.slice a n c:=by
  rcases hs.shape with⟨e,_⟩|⟨_,_,e,_⟩<;>exact⟨_,_,_,e⟩
 have t1:=rQh;have t2:=rQi;go_enter Tryz.func95,Tryz.ntmps95;go_wp2_with fail;refine hC.mono ?_;rintro e w1 ⟨P1,Q1,rfl,hN1,hst1⟩;generalize Ls.go (l.foldr rcons rnil) n ⟨0,0,true⟩=r at *;have⟨m1,nx⟩:=r;have hA1:=HA.out.next hst1;have⟨s0,s1,s2,s3⟩:=O3 hA1.res;have s30:=s3 0;have s31:=s3 1;have s32:=s3 2;have hz:=hA1.fr.1;have Hfin:Hid (∀a b c,NetL (((w1.setCell ⟨Hz w,0,none⟩ a).setCell ⟨Hz w,1,none⟩ b).setCell ⟨Hz w,2,none⟩ c) B nb P1 Q1 m1 x/\NStep w nb P Q (((w1.setCell ⟨Hz w,0,none⟩ a).setCell ⟨Hz w,1,none⟩ b).setCell ⟨Hz w,2,none⟩ c) P1 Q1):=fun a b c=>aQe hN1 (HS.out.trans hst1) hA1.fr Nr a b c;go_wp2;exact bodyPost_ret (v:=T9 nx) (by simp[results,Tryz.results95,go_sem,s0,s1,s2]) rfl ⟨P1,Q1,rfl,Hfin.out _ _ _⟩
theorem qQr (hI:∀a,a∈l->R9 a)(hln:l.length<=1048576)(h:NetL w B nb P Q n x)(hB:B<=w.heap.size)(hG:∀k,G k->Free w nb P Q k)(hs:Shows w G sl vs)(he:Each w G l vs)(hsz:n.places.length+G0 l<=31) :
  Calls Tryz.prog 95 #[.pointer (some ⟨nb,0,none⟩),bQb sl] w (U3 w B nb P Q x (Ls.go (F7 l) n ⟨0,0,false⟩)):=by
 have hnl:=h.lt;have hb0:=C6 w Uc (.cells #[sl] 187);have hst0:=NStep.of_below nb P Q hb0;have hA0:=Ad.start h (.cells #[sl] 187);have hC:=qQg l B n x G sl vs hI hln _ nb P Q (h.below hb0) (Lq hB hb0.size) (fun k hk=>hst0.free (hG k hk)) (hs.mono (fun _ h=>h) (fun k hk=>hst0.block k (hG k hk))) (he.mono (fun _ h=>h) (fun k hk=>hst0.block k (hG k hk))) hsz;have HA:Hid _:=hA0;have HS:Hid _:=hst0;obtain⟨x1,x2,x3,rfl⟩:∃a n c,sl=.slice a n c:=by
  rcases hs.shape with⟨e,_⟩|⟨_,_,e,_⟩<;>exact⟨_,_,_,e⟩
 have t1:=rQd;have t2:=rQe;have t3:=rQc;go_enter Tryz.func95,Tryz.ntmps95;go_wp2_with fail;refine hC.mono ?_;rintro e w1 ⟨P1,Q1,rfl,hN1,hst1⟩;generalize Ls.go (F7 l) n ⟨0,0,false⟩=r at *;have⟨m1,nx⟩:=r;have hA1:=HA.out.next hst1;have⟨s0,s1,s2,s3⟩:=O3 hA1.res;have s30:=s3 0;have s31:=s3 1;have s32:=s3 2;have hz:=hA1.fr.1;have Hfin:Hid (∀a b c,NetL (((w1.setCell ⟨Hz w,0,none⟩ a).setCell ⟨Hz w,1,none⟩ b).setCell ⟨Hz w,2,none⟩ c) B nb P1 Q1 m1 x/\NStep w nb P Q (((w1.setCell ⟨Hz w,0,none⟩ a).setCell ⟨Hz w,1,none⟩ b).setCell ⟨Hz w,2,none⟩ c) P1 Q1):=fun a b c=>aQe hN1 (HS.out.trans hst1) hA1.fr Nr a b c;go_wp2;exact bodyPost_ret (v:=T9 nx) (by simp[results,Tryz.results95,go_sem,s0,s1,s2]) rfl ⟨P1,Q1,rfl,Hfin.out _ _ _⟩
theorem qQu (t:Nat)(F:t=5\/t=6\/t=7)(a:Ls.D)(A:R9 a)(h:NetL w B nb P Q n x)(J:B<=w.heap.size)(m:∀k,G k->Free w nb P Q k)(E:Rep w G 0 a [.iface ty y])(K:n.places.length+dsize a<=31) :
  Calls Tryz.prog 95 #[Pt nb,T8 (.iface ty y) (t != 6) (t != 7)] w (U3 w B nb P Q x (Ls.add (Ls.rep t a) n)):=by
 have R:=h.lt;have f:=C6 w Uc (.cells #[.iface ty y,.bool (t != 6),.bool (t != 7)] 189);have g:=NStep.of_below nb P Q f;have u:=Ad.start h (.cells #[.iface ty y,.bool (t != 6),.bool (t != 7)] 189);have z:=qQn a B n x G ty y t F A _ nb P Q (h.below f) (Lq J f.size) (fun k o=>g.free (m k o)) (E.mono (fun _ h=>h) (fun k o=>g.block k (m k o))) K;have q:Hid _:=u;have s:Hid _:=g;have W:=rQk;have X:=rQl;have Y:=rQj;have Z:=rQm;generalize (t != 6)=N at *;generalize (t != 7)=O at *;go_enter Tryz.func95,Tryz.ntmps95;go_wp2_with fail;refine z.mono ?_;rintro e H ⟨j,l,rfl,C,p⟩;generalize Ls.add (Ls.rep t a) n=r at *;have⟨L,nx⟩:=r;have d:=q.out.next p;have⟨M,s1,s2,i⟩:=O3 d.res;have T:=i 0;have U:=i 1;have V:=i 2;have S:=d.fr.1;have I:Hid (∀a b c,NetL (((H.setCell ⟨Hz w,0,none⟩ a).setCell ⟨Hz w,1,none⟩ b).setCell ⟨Hz w,2,none⟩ c) B nb j l L x/\NStep w nb P Q (((H.setCell ⟨Hz w,0,none⟩ a).setCell ⟨Hz w,1,none⟩ b).setCell ⟨Hz w,2,none⟩ c) j l):=fun a b c=>aQe C (s.out.trans p) d.fr Nr a b c;go_wp2;exact bodyPost_ret (v:=T9 nx) (by simp[results,Tryz.results95,go_sem,M,s1,s2]) rfl ⟨j,l,rfl,I.out _ _ _⟩
theorem iQ2 (hI:∀a,dn a<dn d->R9 a)(hlen:dn d<=1048576):R9 d:=by
 intro w B nb P Q n x G ty y hN hB hG h hsz;rcases h.at0 with⟨s,lo,hi,hS,rfl,hv⟩|⟨t,a,v',ht,h1,rfl,hv⟩|⟨sl,vs',hs,h1,hv⟩|⟨sl,vs',hs,h1,hv⟩<;>rw[hv]<;>clear h
 ·unfold Ls.add
  rw[kXj];rw[gXe]at hsz;exact qQt w B nb P Q n x hN hB s lo hi hS (by omega)
 ·obtain⟨ty',y',rfl⟩:=h1.iface
  rw[fX5]at hsz;exact qQu w B nb P Q n x G ty' y' t ht a (hI a (by rw[aQw];omega)) hN hB hG h1 hsz
 ·obtain⟨l,rfl,he⟩:=h1.things rfl
  rw[nQi]at hsz;have hl:=nQh l;unfold Ls.add;rw[mXn h1.wd rfl];exact qQv l w B nb P Q n x G sl vs' (fun a ha=>hI a (jQ8 l a ha)) (by omega) hN hB hG hs he hsz
 ·obtain⟨l,hne,rfl,he⟩:=h1.sides rfl
  rw[nQf l hne]at hsz;have hl:=jQp l;unfold Ls.add;rw[kXb h1.wd rfl];exact qQr l w B nb P Q n x G sl vs' (fun a ha=>hI a (jQ7 l a ha)) (by omega) hN hB hG hs he hsz
theorem qQq (k:Nat):∀d,dn d<=k->dn d<=1048576->R9 d:=by
 induction k with
 | zero=>intro d b h;exact iQ2 d (fun a ha=>by omega) h
 | succ k c=>intro d b h;exact iQ2 d (fun a ha=>c a (by omega) (by omega)) h
def I7:Net:=⟨[],[]⟩
def dQo:Span:=⟨0,0,false⟩
theorem xQz:NetL (w.alloc (.cells #[.slice none 0 0,.slice none 0 0,.int .u32 ((0:Nat):Int),.int .u32 ((0:Nat):Int),.bool false] 152)) w.heap.size w.heap.size (.slice none 0 0) (.slice none 0 0) I7 dQo:=by
 refine⟨heap_alloc_new _ _,Nr,rfl,by simp[I7],⟨[],rfl,by simp,World.ownsRow_nil _ _ _ _⟩,World.ownsRow_nil _ _ _ _,by simp[I7],by simp[Value.ownBlock],by simp[Value.ownBlock],.inl rfl⟩
def oQ7 (w:World)(d:Ls.D):Ending->World->Prop:=fun e w'=>
 ∃nb P Q,e=.returned (.pointer (some ⟨nb,0,none⟩))/\NetL w' w.heap.size nb P Q (Ls.add d I7).1 (Ls.add d I7).2/\Bw w w'
theorem oQ8 (I:dn d<=1048576)(S:dsize d<=24)(l:Old w G)(h:Rep w G 0 d [.iface ty y]) :
  Calls Tryz.prog 61 #[.iface ty y] w (oQ7 w d):=by
 have m:=xQz w;have c:=A5 w (.cells #[Zl,Zl,.int .u32 ((0:Nat):Int),.int .u32 ((0:Nat):Int),.bool false] 152);have n:=qQq (dn d) d Nr I _ (Hz w) w.heap.size _ _ I7 dQo G ty y m c.size (fun k g=>⟨Ll (l k g) c.size,by have:=l k g;omega,by simp[Value.ownBlock],by simp[Value.ownBlock]⟩) (h.later l c) (by simp[I7];omega);have L:Hid _:=m;go_enter Tryz.func61,Tryz.ntmps61;go_wp2_with fail;refine n.mono ?_;rintro e j ⟨A,B,rfl,b,s⟩;generalize q:Ls.add d I7=r at *;have⟨K,nx⟩:=r;have x:Hid _:=q;have i:=b.lies;have P:=b.fr 2;have Q:=b.fr 3;have R:=b.fr 4;have M:j.cell? ⟨w.heap.size,2,none⟩=some (.int .u32 dQo.first):=by simp[World.cell?,i]
 have N:j.cell? ⟨w.heap.size,3,none⟩=some (.int .u32 dQo.last):=by simp[World.cell?,i]
 have O:j.cell? ⟨w.heap.size,4,none⟩=some (.bool dQo.empty):=by simp[World.cell?,i]
 have T:=b.lt;have t:Hid _:=b;have u:Hid _:=i;have z:Hid _:=s;go_wp2;go_ret;refine⟨Hz w,A,B,rfl,?_,?_⟩
 ·rw[x.out]
  have f:∀(o:Nat) (v:Value) (W:World),W.grownBy (W.setCell ⟨Hz w,o,none⟩ v) (some (Hz w)):=fun o v W=>V8 W _ o v;have a:=t.out;have⟨J,C,E,F⟩:=a.pls;refine⟨?_,a.base,a.good,a.few,⟨J,C,E,?_⟩,?_,a.small,a.apP,a.apQ,a.apPQ⟩
  ·have:=u.out
   simp[World.setCell,Array.getElem?_modify,this]
  ·exact((F.kept (f _ _ _) (.inr a.apP)).kept (f _ _ _) (.inr a.apP)).kept (f _ _ _) (.inr a.apP)
  ·exact((a.bhs.kept (f _ _ _) (.inr a.apQ)).kept (f _ _ _) (.inr a.apQ)).kept (f _ _ _) (.inr a.apQ)
 ·have H:Bw w j:=by
   have hs:=z.out;refine⟨hs.os,hs.tape,hs.output,Lq c.size hs.size,fun k g=>(hs.block k ⟨Ll g c.size,by omega,by simp[Value.ownBlock],by simp[Value.ownBlock]⟩).trans (c.block k g)⟩
  exact((H.setCell (p:=⟨Hz w,2,none⟩) Nr _).setCell (p:=⟨Hz w,3,none⟩) Nr _).setCell (p:=⟨Hz w,4,none⟩) Nr _
end Go.Proofs.YtfklinjaajafgaaGreatDoor
namespace Ls
theorem lX3 {R:Rules}{o a L:Nat->Bool}{c:UInt8}(ha:∀q,a q=(o q&&R.pl q c)):mX3 R o L c []↔∃q,a q=true/\L q=true:=by
 unfold mX3;constructor
 ·rintro ⟨q,b,d,e⟩;exact⟨q,by rw[ha,b,d];rfl,e⟩
 ·rintro ⟨q,b,d⟩
  rw[ha,Bool.and_eq_true]at b;exact⟨q,b.1,b.2,d⟩
theorem lX4 {R:Rules}{o a k L:Nat->Bool}{c d:UInt8}{u:Lu}(ha:∀q,a q=(o q&&R.pl q c))(j:∀b,k b=true↔∃q,a q=true/\R.E q b=true):mX3 R o L c (d::u)↔mX3 R k L d u:=by
 unfold mX3;constructor
 ·rintro ⟨q,f,g,b,h,e,i⟩
  exact⟨b,(j b).2 ⟨q,by rw[ha,f,g];rfl,h⟩,e,i⟩
 ·rintro ⟨b,f,g,h⟩
  have⟨q,e,i⟩:=(j b).1 f;rw[ha,Bool.and_eq_true]at e;exact⟨q,e.1,e.2,b,i,g,h⟩
end Ls
namespace Go.Proofs.YtfklinjaajafgaaGreatDoor
open Ls
open Go.RowKit
variable {k:Nat}(w:World)(B nb:Nat)(P:Value)(n:Net)(Q:Value)(a:Nat)(s:By)(x:Span)(c:UInt8)
theorem uQt (c:List (Nat × Nat))(k:Nat)(d:k<c.length):(c.flatMap fun a=>[Value.int .u64 a.1,Value.int .u64 a.2])[k*2]?=some (.int .u64 c[k].1)/\(c.flatMap fun a=>[Value.int .u64 a.1,Value.int .u64 a.2])[k*2+1]?=some (.int .u64 c[k].2):=by
 induction c generalizing k with
 | nil=>simp at d
 | cons b l e=>
  cases k with
  | zero=>exact⟨rfl,rfl⟩
  | succ k=>
   have:=e k (by simpa using d);rw[show (k+1)*2=k*2+2 from by omega];simpa using this
theorem NetL.placeAt {w:World}{B l g e:Nat}{Q:Value}{n:Net}{x:Span}(h:NetL w B l (Sl g n.places.length e) Q n x)(o:k<n.places.length) :
  ∃lo c:Nat,w.cell? ⟨g,k*2,none⟩=some (.int .u64 lo)/\w.cell? ⟨g,k*2+1,none⟩=some (.int .u64 c)/\SB (n.places.getD k []) lo c:=by
 have⟨a,m,j,b⟩:=h.pls;have d:k<a.length:=by omega
 have⟨f,i⟩:=uQt a k d;refine⟨a[k].1,a[k].2,?_,?_,j k a[k] (List.getElem?_eq_getElem d)⟩
 ·rw[b.cellAt (k*2) (by omega)];exact f
 ·rw[b.cellAt (k*2+1) (by omega)];exact i
theorem vQc:Ls.has [] c=false:=rfl
theorem dXa (h:NetL w B nb P Q n x)(o:Nat)(R:o<4294967296) :
  Calls Tryz.prog 109 #[Pt nb,.int .u32 o,.int .u8 c.toNat] w fun e U=>∃t:Nat,e=.returned (.int .u32 t)/\t<4294967296/\(∀q,t.testBit q=(o.testBit q&&(gXm n).pl q c))/\Bw w U:=by
 have a0:=h.few;have a2:=h.lt;have W:=h.c0;obtain⟨T,pc,rfl⟩:=h.shapeP;have A:Hid _:=h;go_enter Tryz.func109,Tryz.ntmps109;go_wp2;go_loopw [7,15] (fun v i wr=>∃k t:Nat,k<=n.places.length/\i=Iv k/\v=.int .u32 t/\t<4294967296/\(∀q,t.testBit q=(decide (q<k)&&(o.testBit q&&(gXm n).pl q c)))/\Bw w wr) (fun _ i _=>n.places.length-(intOf i).toNat)
 ·exact⟨0,0,Nat.zero_le _,rfl,rfl,by omega,by simp,Br⟩
 ·
  obtain⟨k,t,hk,rfl,rfl,m,C,l⟩:=hrel;have z:Hid _:=C
  by_cases O:k<n.places.length
  ·obtain⟨g,rfl⟩:∃g,T=some ⟨g,0,none⟩:=by
    have⟨a3,f,h2,M⟩:=A.out.pls;have⟨g,X,e,_⟩:=M.form (by omega);injection e with K;exact⟨g,K⟩
   have⟨lo,r,Y,Z,N⟩:=(A.out.below l).placeAt O;have j:=bQl o k R (by omega) (wr.alloc (.cells #[.int .u64 lo,.int .u64 r] 157));have F:(gXm n).pl k c=Ls.has (n.places.getD k []) c:=rfl;have step:∀y:Nat,(∀q,y.testBit q=(t.testBit q||(decide (q=k)&&(o.testBit k&&Ls.has (n.places.getD k []) c))))->∀q,y.testBit q=(decide (q<k+1)&&(o.testBit q&&(gXm n).pl q c)):=by
    intro y f q;rw[f,z.out q]
    by_cases e:q=k
    ·subst e;rw[F];simp
    ·have L:decide (q<k+1)=decide (q<k):=by rw[decide_eq_decide];omega
     rw[L];simp[e]
   have s:Hid _:=step;cases a:o.testBit k with
   | false=>
    rw[a]at j;have d:Hid _:=s.out t (fun q=>by rw[a];simp);go_wp2_with fail;refine j.mono ?_;rintro e H ⟨rfl,rfl⟩;go_wp2;go_roundw
    ·exact⟨k+1,t,by omega,by go_num,rfl,m,d.out,Bj l (A5 _ _)⟩
    ·simp[intOf];omega
   | true=>
    rw[a]at j;have p:=cXl (n.places.getD k []) lo r c N (wr.alloc (.cells #[.int .u64 lo,.int .u64 r] 157));have E:=heap_alloc_new wr (.cells #[.int .u64 lo,.int .u64 r] 157);cases b:Ls.has (n.places.getD k []) c with
    | false=>
     rw[b]at p;have d:Hid _:=s.out t (fun q=>by rw[a,b];simp);go_wp2_with fail;refine j.mono ?_;rintro e H ⟨rfl,rfl⟩;go_wp2_with fail;refine p.mono ?_;rintro e V ⟨rfl,u⟩;go_wp2;go_roundw
     ·exact⟨k+1,t,by omega,by go_num,rfl,m,d.out,Bj l (Bj (A5 _ _) u)⟩
     ·simp[intOf];omega
    | true=>
     rw[b]at p;have d:Hid _:=s.out (t ||| 2 ^ k) (fun q=>by
      rw[a,b,Nat.testBit_or,Nat.testBit_two_pow]
      by_cases e:k=q
      ·simp[e]
      ·simp[e,Ne.symm e])
     have G:=hQ3 k (by omega);have S:=aQ1 t (2 ^ k) m G;have I:Hid _:=u32_or_nat t (2 ^ k) m G;have J:Hid ((2:Int) ^ k % 4294967296=((2 ^ k:Nat):Int)):=by
      have:=oQm k (by omega);rw[IntKind.wrap_u32]at this;exact this
     clear a b E;go_wp2_with fail;refine j.mono ?_;rintro e H ⟨rfl,rfl⟩;go_wp2_with fail;refine p.mono ?_;rintro e V ⟨rfl,u⟩;go_wp2;rw[J.out,I.out];go_roundw
     ·exact⟨k+1,t ||| 2 ^ k,by omega,by go_num,rfl,S,d.out,Bj l (Bj (A5 _ _) u)⟩
     ·simp[intOf];omega
  ·have a1:k=n.places.length:=by omega
   go_wp2;go_ret;refine⟨t,rfl,m,fun q=>?_,l⟩;rw[z.out q];rcases Nat.lt_or_ge q k with f|f
   ·simp[f]
   ·have:(gXm n).pl q c=false:=by
     show Ls.has (n.places.getD q []) c=false;rw[List.getD_eq_getElem?_getD,List.getElem?_eq_none (by omega)];exact vQc c
    rw[this];simp
theorem rQp (h:NetL w B nb P Q n x)(ha:a<4294967296) :
  Calls Tryz.prog 110 #[Pt nb,.int .u32 a] w fun e M=>∃t:Nat,e=.returned (.int .u32 t)/\t<4294967296/\(∀b,t.testBit b=true↔∃q,a.testBit q=true/\(gXm n).E q b=true)/\Bw w M:=by
 have T:=h.few;have J:=h.good;unfold jX5 at J;have X:=h.lt;have O:=h.c1;obtain⟨L,Y,rfl⟩:=h.shapeQ';have u:Hid _:=h;go_enter Tryz.func110,Tryz.ntmps110;go_wp2;go_loopw [5,13] (fun v i wr=>∃k t:Nat,k<=n.places.length/\i=Iv k/\v=.int .u32 t/\t<4294967296/\(∀b,t.testBit b=true↔∃q,q<k/\a.testBit q=true/\(gXm n).E q b=true)/\Bw w wr) (fun _ i _=>n.places.length-(intOf i).toNat)
 ·exact⟨0,0,Nat.zero_le _,rfl,rfl,by omega,by simp,Br⟩
 ·
  obtain⟨k,t,U,rfl,rfl,p,A,o⟩:=hrel;have s:Hid _:=A
  by_cases W:k<n.places.length
  ·obtain⟨g,rfl⟩:∃g,L=some ⟨g,0,none⟩:=by
    have⟨g,R,e,_⟩:=u.out.bhs.form (by omega);injection e with I;exact⟨g,I⟩
   have C:k<n.behind.length:=by omega
   have S:wr.cell? ⟨g,k,none⟩=some (.int .u32 n.behind[k]):=by
    have f:=(u.out.below o).bhs.cellAt k (by show k<n.places.length*1;omega);rw[f,List.getElem?_map,List.getElem?_eq_getElem C];rfl
   have F:n.behind[k]<4294967296:=u.out.small _ (List.getElem_mem _);have m:=bQl a k ha (by omega) wr;have z:∀b,(gXm n).E k b=n.behind[k].testBit b:=fun b=>by
    show (n.behind.getD k 0).testBit b=_;rw[List.getD_eq_getElem?_getD,List.getElem?_eq_getElem C];rfl
   have G:Hid _:=z;cases l:a.testBit k with
   | false=>
    rw[l]at m;have r:Hid (∀b,t.testBit b=true↔∃q,q<k+1/\a.testBit q=true/\(gXm n).E q b=true):=by
     intro b;rw[s.out b];constructor
     ·rintro ⟨q,f,c⟩;exact⟨q,by omega,c⟩
     ·rintro ⟨q,f,c,j⟩
      refine⟨q,?_,c,j⟩;rcases Nat.lt_or_ge q k with d|d
      ·exact d
      ·obtain rfl:q=k:=by omega
       rw[l]at c;cases c
    go_wp2_with fail;refine m.mono ?_;rintro e N ⟨rfl,rfl⟩;go_wp2;go_roundw
    ·exact⟨k+1,t,by omega,by go_num,rfl,p,r.out,o⟩
    ·simp[intOf];omega
   | true=>
    rw[l]at m;have r:Hid (∀b,(t ||| n.behind[k]).testBit b=true↔∃q,q<k+1/\a.testBit q=true/\(gXm n).E q b=true):=by
     intro b;rw[Nat.testBit_or,Bool.or_eq_true,s.out b,<-G.out b];constructor
     ·rintro (⟨q,f,c⟩|f)
      ·exact⟨q,by omega,c⟩
      ·exact⟨k,by omega,l,f⟩
     ·rintro ⟨q,f,c,j⟩
      rcases Nat.lt_or_ge q k with d|d
      ·exact .inl ⟨q,d,c,j⟩
      ·obtain rfl:q=k:=by omega
       exact .inr j
    have H:Hid _:=u32_or_nat t n.behind[k] p F;have K:=aQ1 t n.behind[k] p F;go_wp2_with fail;refine m.mono ?_;rintro e N ⟨rfl,rfl⟩;go_wp2;rw[H.out];go_roundw
    ·exact⟨k+1,t ||| n.behind[k],by omega,by go_num,rfl,K,r.out,o⟩
    ·simp[intOf];omega
  ·have V:k=n.places.length:=by omega
   go_wp2;go_ret;refine⟨t,rfl,p,fun b=>?_,o⟩;rw[s.out b];constructor
   ·rintro ⟨q,_,c⟩;exact⟨q,c⟩
   ·rintro ⟨q,c,j⟩
    refine⟨q,?_,c,j⟩;rcases Nat.lt_or_ge q k with d|d
    ·exact d
    ·have y:(n.behind.getD q 0).testBit b=true:=j
     rw[List.getD_eq_getElem?_getD,List.getElem?_eq_none (by omega)]at y;simp at y
def cQ0 (n:Net)(x:Span):Lu->Prop
 | []=>x.empty=true
 | c::u=>mX3 (gXm n) (Ls.fb x) (lb x) c u
theorem qQ9 (b:Nat)(ha:a<4294967296)(i:b<4294967296):(bits .and .u32 (a:Int) (b:Int) != 0)=true↔∃q,a.testBit q=true/\b.testBit q=true:=by
 rw[u32_and_nat a b ha i];constructor
 ·intro h
  have c:a &&& b≠0:=by intro e;rw[e]at h;simp at h
  have⟨q,d⟩:=Nat.exists_testBit_of_ne_zero c;rw[Nat.testBit_and,Bool.and_eq_true]at d;exact⟨q,d⟩
 ·rintro ⟨q,c,g⟩
  rw[bne_iff_ne];intro e;have f:a &&& b=0:=by omega
  have:(a &&& b).testBit q=true:=by rw[Nat.testBit_and,c,g];rfl
  rw[f]at this;simp at this
def bQu (n:Net)(x:Span)(s:By)(k o a:Nat):Prop:=
 (k<s.size->(cQ0 n x s.data.toList↔mX3 (gXm n) (fun q=>o.testBit q) (lb x) (nx s k) (rest s (k+1))))/\
 (k=s.size->(cQ0 n x s.data.toList↔∃q,a.testBit q=true/\x.last.testBit q=true))
theorem cXv (h:0<s.size):bQu n x s 0 x.first 0:=by
 refine⟨fun _=>?_,fun e=>by omega⟩;have a:s.data.toList=nx s 0::rest s (0+1):=D4 (i:=0) h;rw[a];exact Iff.rfl
theorem cXu {n:Net}{x:Span}{s:By}{o a b e:Nat}(h:bQu n x s k o a)(d:k<s.size)(ha:∀q,b.testBit q=(o.testBit q&&(gXm n).pl q (nx s k)))(g:∀f,e.testBit f=true↔∃q,b.testBit q=true/\(gXm n).E q f=true):bQu n x s (k+1) e b:=by
 refine⟨fun c=>(h.1 d).trans ?_,fun c=>(h.1 d).trans ?_⟩
 ·rw[D4 c]
  exact lX4 (a:=fun q=>b.testBit q) ha g
 ·rw[P4 (by omega)]
  exact lX3 (a:=fun q=>b.testBit q) ha
theorem xQg:∀m i r,s.size-i<=m->r≠[]->ByteArray.toList.loop s i r≠[]:=by
 intro m;induction m with
 | zero=>
  intro i r h a;rw[ByteArray.toList.loop.eq_1,if_neg (by omega)];simpa using a
 | succ m b=>
  intro i r h a;rw[ByteArray.toList.loop.eq_1];split
  ·exact b _ _ (by omega) (by simp)
  ·simpa using a
theorem dXv {s:By}(h:0<s.size):s.toList.isEmpty=false:=by
 have:s.toList≠[]:=by
  unfold ByteArray.toList;rw[ByteArray.toList.loop.eq_1,if_pos h];exact xQg s _ _ _ Nr (by simp)
 cases b:s.toList with
 | nil=>exact absurd b this
 | cons a l=>rfl
theorem oQ6 (h:NetL w B nb P Q n x)(J:x.first<4294967296)(L:x.last<4294967296)(hs:s.size<=1048576) :
  Calls Tryz.prog 83 #[Pt nb,.string s] w fun e T=>∃b:Bool,e=.returned (.bool b)/\(b=true↔cQ0 n x s.data.toList)/\Bw w T:=by
 have a1:=h.lt;have c:=h.lies;have V:w.cell? ⟨nb,2,none⟩=some (.int .u32 x.first):=by simp[World.cell?,c]
 have W:w.cell? ⟨nb,3,none⟩=some (.int .u32 x.last):=by simp[World.cell?,c]
 have X:w.cell? ⟨nb,4,none⟩=some (.bool x.empty):=by simp[World.cell?,c]
 have F:Hid _:=h;rcases Nat.eq_zero_or_pos s.size with f|f
 ·have O:=ByteArray.ext (Array.eq_empty_of_size_eq_zero f)
  subst O;go_enter Tryz.func83,Tryz.ntmps83;go_wp2;go_ret;exact⟨x.empty,rfl,Iff.rfl,Br⟩
 ·have a0:=dXv f
  go_enter Tryz.func83,Tryz.ntmps83;go_wp2;go_loopw [5,6,22] (fun R S i wr=>∃k o a:Nat,k<=s.size/\i=Iv k/\R=.int .u32 a/\S=.int .u32 o/\a<4294967296/\o<4294967296/\bQu n x s k o a/\Bw w wr) (fun _ _ i _=>s.size-(intOf i).toNat)
  ·exact⟨0,x.first,0,Nat.zero_le _,rfl,rfl,rfl,by omega,J,cXv n s x f,Br⟩
  ·
   obtain⟨k,o,a,hk,rfl,rfl,rfl,ha,M,y,l⟩:=hrel;have p:Hid _:=y;have d:=F.out.below l
   by_cases v:k<s.size
   ·have Z:(k:Int)<(s.size:Int):=by omega
    have j:=dXa wr B nb P n Q x (nx s k) d o M;have m:=M6 v;rw[m]at j;have H:Hid _:=m;have C:Hid _:=d;go_wp2_with fail;refine j.mono ?_;rintro e U ⟨g,rfl,q,t,r⟩;have E:Hid _:=t;go_wp2_with fail;refine(rQp U B nb P n Q g x (C.out.below r) q).mono ?_;rintro e w2 ⟨z,rfl,N,u,I⟩;have G:Hid _:=cXu p.out v (by rw[H.out];exact E.out) u;go_wp2;go_roundw
    ·exact⟨k+1,z,g,by omega,by go_num,rfl,rfl,q,N,G.out,Bj l (Bj r I)⟩
    ·simp[intOf];omega
   ·have K:k=s.size:=by omega
    have c:=d.lies;have Y:wr.cell? ⟨nb,3,none⟩=some (.int .u32 x.last):=by simp[World.cell?,c]
    have A:Hid _:=qQ9 a x.last ha L;go_wp2;go_ret;exact⟨_,rfl,A.out.trans (p.out.2 K).symm,l⟩
theorem lQc {d:Ls.D}(h:Wd 0 d)(u:Lu):cQ0 (Ls.add d I7).1 (Ls.add d I7).2 u↔inL (eX5 d) u:=by
 have a:=(nXh h I7 rfl).sem;cases u with
 | nil=>exact a.nil.symm
 | cons c u=>exact(a.cons c u).symm
end Go.Proofs.YtfklinjaajafgaaGreatDoor
