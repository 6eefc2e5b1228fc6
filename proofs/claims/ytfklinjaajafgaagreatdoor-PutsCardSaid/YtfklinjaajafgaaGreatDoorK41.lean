import Derived.Test.YtfklinjaajafgaaGreatDoorK08
import Derived.Deep.DeepCutAuto
import Derived.Deep.CutBlock
import Derived.Deep.RegionLaw
set_option maxRecDepth 100000
set_option maxHeartbeats 4000000
namespace Go.Proofs.YtfklinjaajafgaaGreatDoor
open Ls hiding none
open Go.RowKit
variable {B nb:Nat}{P P' P1 Q Q' Q1:Value}{W w w' w1 w2:World}{n:Net}{x:Span}(s i k f t:Nat)(g:Lu)(lo hi:Nat)
theorem rQs (hs:s<4294967296):(bits .and .u32 ((s:Int) / 2 ^ i) 1==1)=s.testBit i:=by
 have a:((s:Int) / 2 ^ i)=((s / 2 ^ i:Nat):Int):=by simp
 have b:s / 2 ^ i<=s:=Nat.div_le_self _ _;rw[a,show (1:Int)=((1:Nat):Int) from rfl,u32_and_nat _ 1 (by omega) (by omega),Nat.and_one_is_mod,Nat.testBit_eq_decide_div_mod_eq];rw[Bool.eq_iff_iff];simp;omega
theorem jQf (hs:s<18446744073709551616):(bits .and .u64 ((s:Int) / 2 ^ i) 1==1)=s.testBit i:=by
 have a:((s:Int) / 2 ^ i)=((s / 2 ^ i:Nat):Int):=by simp
 have b:s / 2 ^ i<=s:=Nat.div_le_self _ _;rw[a,show (1:Int)=((1:Nat):Int) from rfl,u64_and_nat _ 1 (by omega) (by omega),Nat.and_one_is_mod,Nat.testBit_eq_decide_div_mod_eq];rw[Bool.eq_iff_iff];simp;omega
theorem aQ1 (a b:Nat)(ha:a<4294967296)(c:b<4294967296):a ||| b<4294967296:=by
 have:=Nat.or_lt_two_pow (n:=32) (by simpa using ha) (by simpa using c);simpa using this
theorem hQ3 (b:k<32):(2:Nat) ^ k<4294967296:=by
 have a:(2:Nat) ^ k<2 ^ 32:=Nat.pow_lt_pow_right (by omega) b;simpa using a
theorem oQm (a:k<32):IntKind.u32.wrap (2 ^ k)=((2 ^ k:Nat):Int):=by
 have b:=hQ3 k a;rw[IntKind.wrap_u32,show ((2:Int) ^ k)=((2 ^ k:Nat):Int) from by simp];generalize 2 ^ k=y at *;omega
theorem bQl (hs:s<4294967296)(b:i<32)(w:World) :
  Calls Tryz.prog 97 #[.int .u32 s,Iv i] w fun e a=>e=.returned (.bool (s.testBit i))/\a=w:=by
 have H:Hid _:=rQs s i hs;go_enter Tryz.func97,Tryz.ntmps97;go_wp2;rw[H.out];go_ret;exact⟨rfl,rfl⟩
theorem cXl (c:UInt8)(h:SB g lo hi)(w:World) :
  Calls Tryz.prog 126 #[.agg #[.int .u64 lo,.int .u64 hi],.int .u8 c.toNat] w fun e o=>e=.returned (.bool (Ls.has g c))/\Bw w o:=by
 have b:=A5 w (.cells #[.int .u64 lo,.int .u64 hi] 157)
 by_cases j:c.toNat<128
 ·have d:Hid _:=h.bit c j
  have l:=h.loLt;have k:=h.hiLt
  by_cases f:c.toNat<64
  ·have m:(c.toNat:Int) / 64=0:=by omega
   have n:(c.toNat:Int) % 64=c.toNat:=by omega
   have a:Hid (G4 lo hi c.toNat=lo.testBit c.toNat):=by show _=_;unfold G4;rw[if_pos f]
   have H:Hid _:=jQf lo c.toNat l;go_enter Tryz.func126,Tryz.ntmps126;go_wp2;go_ret;exact⟨R5 (by rw[<-d.out,a.out,<-H.out]),b⟩
  ·have m:(c.toNat:Int) / 64=1:=by omega
   have n:(c.toNat:Int) % 64=((c.toNat-64:Nat):Int):=by omega
   have a:Hid (G4 lo hi c.toNat=hi.testBit (c.toNat-64)):=by show _=_;unfold G4;rw[if_neg f]
   have H:Hid _:=jQf hi (c.toNat-64) k;go_enter Tryz.func126,Tryz.ntmps126;go_wp2;go_ret;exact⟨R5 (by rw[<-d.out,a.out,<-H.out]),b⟩
 ·have i:Hid _:=h.none c (by omega)
  go_enter Tryz.func126,Tryz.ntmps126;go_wp2;go_ret;exact⟨R5 (by rw[i.out]),b⟩
structure NetL (w:World)(B nb:Nat)(P Q:Value)(n:Net)(x:Span):Prop where
 lies:w.heap[nb]?=some (.cells #[P,Q,.int .u32 x.first,.int .u32 x.last,.bool x.empty] 152 (0,0))
 base:B<=nb
 good:jX5 n
 few:n.places.length<=32
 pls:∃los:List (Nat × Nat),los.length=n.places.length/\(∀k a,los[k]?=some a->SB (n.places.getD k []) a.1 a.2)/\w.ownsRow B 157 2 P n.places.length (los.flatMap fun a=>[.int .u64 a.1,.int .u64 a.2])
 bhs:w.ownsRow B 148 1 Q n.places.length (n.behind.map fun (x:Nat)=>.int .u32 x)
 small:∀x,x∈n.behind->x<4294967296
 apP:P.ownBlock≠some nb
 apQ:Q.ownBlock≠some nb
 apPQ:P.ownBlock=none\/P.ownBlock≠Q.ownBlock
def Free (w:World)(nb:Nat)(P Q:Value)(k:Nat):Prop:=k<w.heap.size/\k≠nb/\some k≠P.ownBlock/\some k≠Q.ownBlock
structure NStep (w:World)(nb:Nat)(P Q:Value)(w':World)(P' Q':Value):Prop where
 os:w'.os=w.os
 tape:w'.tape=w.tape
 output:w'.output=w.output
 size:w.heap.size<=w'.heap.size
 block:∀k,Free w nb P Q k->w'.heap[k]?=w.heap[k]?
 rowP:P'.ownBlock=P.ownBlock\/∃k,P'.ownBlock=some k/\w.heap.size<=k
 rowQ:Q'.ownBlock=Q.ownBlock\/∃k,Q'.ownBlock=some k/\w.heap.size<=k
theorem NStep.free (h:NStep w nb P Q w' P' Q'){k:Nat}(a:Free w nb P Q k):Free w' nb P' Q' k:=by
 refine⟨Ll a.1 h.size,a.2.1,?_,?_⟩
 ·rcases h.rowP with e|⟨m,e,b⟩
  ·rw[e];exact a.2.2.1
  ·rw[e];have:=a.1;simp;omega
 ·rcases h.rowQ with e|⟨m,e,b⟩
  ·rw[e];exact a.2.2.2
  ·rw[e];have:=a.1;simp;omega
theorem NStep.trans {b c:Value}(h:NStep w nb P Q w1 P1 Q1)(k:NStep w1 nb P1 Q1 w2 b c):NStep w nb P Q w2 b c:=by
 refine⟨k.os.trans h.os,k.tape.trans h.tape,k.output.trans h.output,Lq h.size k.size,fun i d=>(k.block i (h.free d)).trans (h.block i d),?_,?_⟩
 ·rcases k.rowP with e|⟨m,e,a⟩
  ·rw[e];exact h.rowP
  ·exact .inr ⟨m,e,Lq h.size a⟩
 ·rcases k.rowQ with e|⟨m,e,a⟩
  ·rw[e];exact h.rowQ
  ·exact .inr ⟨m,e,Lq h.size a⟩
theorem NStep.of_below (b:Nat)(P Q:Value)(h:Bw w w'):NStep w b P Q w' P Q:=⟨h.os,h.tape,h.output,h.size,fun k a=>h.block k a.1,.inl rfl,.inl rfl⟩
theorem NetL.lt (h:NetL w B nb P Q n x):nb<w.heap.size:=(Array.getElem?_eq_some_iff.1 h.lies).1
theorem NetL.newFree (h:NetL w B nb P Q n x)(o:Obj):Free (w.alloc o) nb P Q w.heap.size:=by
 obtain⟨b,_,_,a⟩:=h.pls;refine⟨by simp,by have:=h.lt;omega,fun e=>?_,fun e=>?_⟩
 ·have:=a.lt _ e.symm;omega
 ·have:=h.bhs.lt _ e.symm;omega
theorem NetL.same (h:NetL w B nb P Q n x)(i:w'.heap[nb]?=w.heap[nb]?)(j:∀k,P.ownBlock=some k->w'.heap[k]?=w.heap[k]?)(l:∀k,Q.ownBlock=some k->w'.heap[k]?=w.heap[k]?):NetL w' B nb P Q n x:=by
 have row:∀{e:TypeId} {a:Nat} {v:Value} {m:Nat} {b:List Value},w.ownsRow B e a v m b->(∀k,v.ownBlock=some k->w'.heap[k]?=w.heap[k]?)->w'.ownsRow B e a v m b:=by
  intro e a v m b c u;refine⟨c.1,?_⟩;rcases c.2 with o|⟨g,d,f,rfl,s,t,p⟩
  ·exact .inl o
  ·exact .inr ⟨g,d,f,rfl,s,by rw[u g rfl];exact t,p⟩
 obtain⟨z,y,r,q⟩:=h.pls;exact⟨i.trans h.lies,h.base,h.good,h.few,⟨z,y,r,row q j⟩,row h.bhs l,h.small,h.apP,h.apQ,h.apPQ⟩
theorem NetL.below (h:NetL w B nb P Q n x)(a:Bw w w'):NetL w' B nb P Q n x:=by
 obtain⟨d,_,_,c⟩:=h.pls;exact h.same (a.block _ h.lt) (fun k b=>a.block k (c.lt k b).2) (fun k b=>a.block k (h.bhs.lt k b).2)
theorem NetL.set (h:NetL w B nb P Q n x){k:Nat}(b:Free w nb P Q k)(o:Nat)(v:Value):NetL (w.setCell ⟨k,o,none⟩ v) B nb P Q n x:=
 h.same (Below.heap_setCell _ _ _ _ (Ne.symm b.2.1)) (fun j a=>Below.heap_setCell _ _ _ _ (fun e=>b.2.2.1 (by rw[a];exact congrArg some (Eq.symm e)))) (fun j a=>Below.heap_setCell _ _ _ _ (fun e=>b.2.2.2 (by rw[a];exact congrArg some (Eq.symm e))))
theorem NStep.set (h:NStep w nb P Q w1 P1 Q1){k:Nat}(b:w.heap.size<=k)(o:Nat)(v:Value):NStep w nb P Q (w1.setCell ⟨k,o,none⟩ v) P1 Q1:=⟨h.os,h.tape,h.output,by simp[World.setCell];exact h.size,fun i a=>(Below.heap_setCell _ _ _ _ (by have:=a.1;show i≠k;omega)).trans (h.block i a),h.rowP,h.rowQ⟩
def R3 (n:Net)(f t k:Nat):Net:=⟨n.places,n.behind.mapIdx fun i x=>if i<k/\f.testBit i=true then x ||| t else x⟩
theorem lQi (n:Net):R3 n f t 0=n:=by
 unfold R3;have:(n.behind.mapIdx fun i x=>if i<0/\f.testBit i=true then x ||| t else x)=n.behind:=by
  apply List.ext_getElem?
  intro i;rw[List.getElem?_mapIdx];cases n.behind[i]?<;>simp
 rw[this]
theorem lQh (n:Net):R3 n f t n.behind.length=gX0 n f t:=by
 unfold R3 gX0;congr 1
 apply List.ext_getElem?
 intro i;rw[List.getElem?_mapIdx,List.getElem?_mapIdx];rcases Nat.lt_or_ge i n.behind.length with h|h
 ·rw[List.getElem?_eq_getElem h];simp[h]
 ·rw[List.getElem?_eq_none h];rfl
theorem xQe (n:Net)(h:f.testBit k=false):R3 n f t (k+1)=R3 n f t k:=by
 unfold R3;congr 1
 apply List.ext_getElem?
 intro i;rw[List.getElem?_mapIdx,List.getElem?_mapIdx];cases n.behind[i]? with
 | none=>rfl
 | some x=>
  by_cases e:i=k
  ·subst e;simp[h]
  ·have:(i<k+1/\f.testBit i=true)↔(i<k/\f.testBit i=true):=by constructor<;>(rintro ⟨b,a⟩;exact⟨by omega,a⟩)
   simp only[Option.map_some,this]
theorem xQf (n:Net)(a:k<n.behind.length)(h:f.testBit k=true):R3 n f t (k+1)=⟨n.places,(R3 n f t k).behind.set k (n.behind[k] ||| t)⟩:=by
 unfold R3;congr 1
 apply List.ext_getElem?
 intro i;rw[List.getElem?_set,List.getElem?_mapIdx,List.getElem?_mapIdx]
 by_cases e:k=i
 ·subst e;rw[if_pos rfl,if_pos (by simpa using a),List.getElem?_eq_getElem a];simp[h]
 ·rw[if_neg e]
  cases n.behind[i]? with
  | none=>rfl
  | some x=>
   have:(i<k+1/\f.testBit i=true)↔(i<k/\f.testBit i=true):=by constructor<;>(rintro ⟨c,b⟩;exact⟨by omega,b⟩)
   simp only[Option.map_some,this]
theorem xQd (n:Net)(a:k<n.behind.length):(R3 n f t k).behind[k]?=some n.behind[k]:=by
 unfold R3;rw[List.getElem?_mapIdx,List.getElem?_eq_getElem a];simp
theorem NetL.setQ {g c:Nat}(h:NetL w B nb P (Sl g n.places.length c) n x){j v:Nat}(s:v<4294967296) :
  NetL (w.setCell ⟨g,j,none⟩ (.int .u32 v)) B nb P (Sl g n.places.length c) ⟨n.places,n.behind.set j v⟩ x:=by
 obtain⟨t,r,o,d⟩:=h.pls;refine⟨?_,h.base,?_,h.few,⟨t,r,o,?_⟩,?_,?_,h.apP,h.apQ,h.apPQ⟩
 ·rw[Below.heap_setCell _ _ _ _ (fun e=>h.apQ (by show some g=some nb;rw[e]))];exact h.lies
 ·have:=h.good;unfold jX5 at this ⊢;simpa using this
 ·refine⟨d.1,?_⟩
  rcases d.2 with l|⟨k,f,i,rfl,p,q,m⟩
  ·exact .inl l
  ·refine .inr ⟨k,f,i,rfl,p,?_,m⟩
   rw[Below.heap_setCell _ _ _ _ (fun e=>?_)]
   ·exact q
   ·rcases h.apPQ with a|a
    ·cases a
    ·exact a (by show some k=some g;rw[e])
 ·have:=h.bhs.stored j (.int .u32 v)
  rw[List.map_set];exact this.1
 ·intro y b
  rcases List.mem_or_eq_of_mem_set b with b|rfl
  ·exact h.small y b
  ·exact s
theorem NetL.shapeQ (h:NetL w B nb P Q n x):(Q=.slice none 0 0/\n.places.length=0)\/∃g a,Q=Sl g n.places.length a:=by
 rcases h.bhs.2 with⟨b,c⟩|⟨g,a,d,b,_⟩
 ·exact .inl ⟨b,c⟩
 ·exact .inr ⟨g,a,b⟩
theorem NetL.c1 (h:NetL w B nb P Q n x):w.cell? ⟨nb,1,none⟩=some Q:=by have:=h.lies;simp[World.cell?,this]
theorem NetL.c0 (h:NetL w B nb P Q n x):w.cell? ⟨nb,0,none⟩=some P:=by have:=h.lies;simp[World.cell?,this]
theorem NetL.fr (h:NetL w B nb P Q n x)(o:Nat):w.frozen? ⟨nb,o,none⟩=false:=by have:=h.lies;simp[World.frozen?,this]
theorem lQj (w:World)(B d:Nat)(P Q:Value)(n:Net)(x:Span)(h:NetL w B d P Q n x)(r:f<4294967296)(z:t<4294967296) :
  Calls Tryz.prog 128 #[Pt d,.int .u32 f,.int .u32 t] w fun e A=>e=.returned (.tuple #[])/\NetL A B d P Q (gX0 n f t) x/\NStep w d P Q A P Q:=by
 have s:=h.good;unfold jX5 at s;have N:=h.few;have M:=h.c1;rcases h.shapeQ with⟨rfl,G⟩|⟨g,q,rfl⟩
 ·have E:Hid (gX0 n f t=n):=by
   show _=_;have:=lQh f t n;rw[s,G,lQi]at this;exact this.symm
  have l:Hid _:=h;go_enter Tryz.func128,Tryz.ntmps128;go_wp2;refine wp_loop_rounds 1 ?_;rw[rounds_succ];go_wp2;go_end0;rw[E.out];exact⟨rfl,l.out,NStep.of_below _ _ _ (Below.refl _ _)⟩
 ·have l:Hid _:=h
  go_enter Tryz.func128,Tryz.ntmps128;go_wp2;go_loopw [12] (fun i wr=>∃k:Nat,k<=n.places.length/\i=.int .i64 k/\NetL wr B d P (.slice (some ⟨g,0,none⟩) n.places.length q) (R3 n f t k) x/\NStep w d P (.slice (some ⟨g,0,none⟩) n.places.length q) wr P (.slice (some ⟨g,0,none⟩) n.places.length q)) (fun i _=>n.places.length-(intOf i).toNat)
  case atStart=>
   refine⟨0,Nat.zero_le _,rfl,?_,NStep.of_below _ _ _ (Below.refl _ _)⟩;rw[lQi];exact l.out
  case round=>
   obtain⟨k,R,rfl,b,y⟩:=hrel;have m:Hid _:=b;have o:Hid _:=y
   by_cases S:k<n.places.length
   ·have T:=b.c1
    have H:wr.cell? ⟨g,k,none⟩=some (.int .u32 (n.behind[k]'(by omega))):=by
     have a:=b.bhs.cellAt k (by show k<n.places.length*1;omega);rw[a,List.getElem?_map,xQd k f t n (by omega)];rfl
    have O:=b.bhs.frozenAt k;have v:n.behind[k]'(by omega)<4294967296:=l.out.small _ (List.getElem_mem _);have J:(wr.cell? ⟨g,k,none⟩).isSome:=by rw[H];rfl
    have F:Hid _:=u32_or_nat (n.behind[k]'(by omega)) t v z;have K:=aQ1 _ t v z;cases c:f.testBit k with
    | true=>
     have j:=bQl f k r (by omega) wr;rw[c]at j;have p:Hid _:=xQf k f t n (by omega) c;go_wp2_with fail;refine j.mono ?_;rintro e L ⟨rfl,rfl⟩;go_wp2;rw[F.out];go_roundw
     case rel=>
      refine⟨k+1,by omega,by go_num,?_,?_⟩
      ·rw[p.out]
       exact NetL.setQ (n:=R3 n f t k) m.out K
      ·have a:=o.out
       refine⟨a.os,a.tape,a.output,by simp[World.setCell];exact a.size,fun i u=>(Below.heap_setCell _ _ _ _ (fun e=>u.2.2.2 (by show some i=some g;rw[e]))).trans (a.block i u),a.rowP,a.rowQ⟩
     case measure=>simp[intOf];omega
    | false=>
     have j:=bQl f k r (by omega) wr;rw[c]at j;have p:Hid _:=xQe k f t n c;go_wp2_with fail;refine j.mono ?_;rintro e L ⟨rfl,rfl⟩;go_wp2_with fail;go_roundw
     case rel=>
      refine⟨k+1,by omega,by go_num,?_,o.out⟩;rw[p.out];exact m.out
     case measure=>simp[intOf];omega
   ·have I:k=n.behind.length:=by omega
    have C:Hid _:=lQh f t n;clear b;go_wp2_with fail;go_end0;rw[<-C.out,<-I];exact⟨rfl,m.out,o.out⟩
theorem vQq:(Tryz.prog.info? 157).map (fun i=>(i.zero,i.size,i.bytes))=some (some (.agg #[.int .u64 0,.int .u64 0]),2,16):=by kernel_rfl
theorem vQp:(Tryz.prog.info? 148).map (fun i=>(i.zero,i.size,i.bytes))=some (some (.int .u32 0),1,4):=by kernel_rfl
theorem NetL.shapeP (h:NetL w B nb P Q n x):∃a c,P=.slice a n.places.length c:=by
 obtain⟨i,_,_,e⟩:=h.pls;rcases e.2 with⟨b,d⟩|⟨g,c,f,b,_⟩
 ·exact⟨_,_,by rw[b,d]⟩
 ·exact⟨_,_,b⟩
theorem NetL.shapeQ' (h:NetL w B nb P Q n x):∃a c,Q=.slice a n.places.length c:=by
 rcases h.shapeQ with⟨b,d⟩|⟨g,c,b⟩
 ·exact⟨_,_,by rw[b,d]⟩
 ·exact⟨_,_,b⟩
theorem O3 {g f l:Nat}{e:Bool}{t:TypeId}(h:w.heap[g]?=some (.cells #[.int .u32 f,.int .u32 l,.bool e] t (0,0))):w.cell? ⟨g,0,none⟩=some (.int .u32 f)/\w.cell? ⟨g,1,none⟩=some (.int .u32 l)/\w.cell? ⟨g,2,none⟩=some (.bool e)/\(∀o,w.frozen? ⟨g,o,none⟩=false):=by
 refine⟨?_,?_,?_,fun o=>?_⟩
 ·simp[World.cell?,h]
 ·simp[World.cell?,h]
 ·simp[World.cell?,h]
 ·simp[World.frozen?,h]
abbrev T9 (x:Span):Value:=.agg #[.int .u32 x.first,.int .u32 x.last,.bool x.empty]
structure Mid (W W3:World)(B nb:Nat)(P Q P':Value)(n:Net)(x:Span)(los:List (Nat × Nat))(lo hi:Nat):Prop where
 lies:W3.heap[nb]?=some (.cells #[P',Q,.int .u32 x.first,.int .u32 x.last,.bool x.empty] 152 (0,0))
 pls:W3.ownsRow B 157 2 P' (n.places.length+1) (los.flatMap (fun a=>[.int .u64 a.1,.int .u64 a.2])++[.int .u64 lo,.int .u64 hi])
 bhs:W3.ownsRow B 148 1 Q n.places.length (n.behind.map fun (x:Nat)=>.int .u32 x)
 size:W.heap.size<W3.heap.size
 os:W3.os=W.os
 tape:W3.tape=W.tape
 output:W3.output=W.output
 block:∀k,Free W nb P Q k->W3.heap[k]?=W.heap[k]?
 rowP:P'.ownBlock=P.ownBlock\/∃k,P'.ownBlock=some k/\W.heap.size<=k
 apP:P'.ownBlock≠some nb
 apPQ:P'.ownBlock≠Q.ownBlock
theorem zQz (c:NetL W B nb P Q n x)(o:Obj)(b h:Nat)(q:List (Nat × Nat))
  (t:w1.ownsRow B 157 2 (Sl b (n.places.length+1) h) (n.places.length+1) (q.flatMap (fun a=>[.int .u64 a.1,.int .u64 a.2])++[.int .u64 lo,.int .u64 hi]))
  (d:(W.alloc o).drew.grownBy w1 P.ownBlock) (j:P.ownBlock=some b\/b=W.heap.size+1) :
  Mid W (w1.setCell ⟨nb,0,none⟩ (Sl b (n.places.length+1) h)) B nb P Q (Sl b (n.places.length+1) h) n x q lo hi:=by
 have r:=c.lt;have v:W.heap.size+1<=w1.heap.size:=by have:=d.size;simpa using this
 have l:∀k,k<W.heap.size->some k≠P.ownBlock->w1.heap[k]?=W.heap[k]?:=fun k g s=>by
  rw[d.block k (by simp;omega) s];exact Below.heap_alloc _ _ _ g
 have m:b≠nb:=by
  rcases j with e|e
  ·intro f;exact c.apP (by rw[e,f])
  ·omega
 have p:=V8 w1 nb 0 (Sl b (n.places.length+1) h);refine⟨?_,?_,?_,?_,?_,?_,?_,?_,?_,?_,?_⟩
 ·have:=l nb r (Ne.symm c.apP)
  rw[c.lies]at this;simp[World.setCell,Array.getElem?_modify,this]
 ·exact t.kept p (.inr (by show some b≠some nb;simp[m]))
 ·refine World.ownsRow.kept ?_ p (.inr c.apQ)
  refine World.ownsRow.kept (w:=(W.alloc o).drew) (c.bhs.alloc o) d ?_;rcases c.apPQ with e|e
  ·rw[e]
   cases u:Q.ownBlock with
   | none=>exact .inl rfl
   | some k=>exact .inr (by simp)
  ·exact .inr (Ne.symm e)
 ·simp[World.setCell];omega
 ·exact d.os
 ·exact d.tape
 ·exact d.output
 ·intro k g
  rw[Below.heap_setCell _ _ _ _ g.2.1];exact l k g.1 g.2.2.1
 ·rcases j with e|e
  ·exact .inl (by rw[e];rfl)
  ·exact .inr ⟨b,rfl,by omega⟩
 ·show some b≠some nb;simp[m]
 ·intro e
  rcases j with i|i
  ·rcases c.apPQ with f|f
   ·rw[f]at i;cases i
   ·exact f (i.trans e)
  ·have:=(c.bhs.lt b e.symm).2
   omega
theorem zQy {d:World}{x:Span}(f:NetL W B nb P Q n x){m:List (Nat × Nat)}{lo p:Nat}(c:Mid W d B nb P Q P' n x m lo p)
  (t:m.length=n.places.length) (C:∀k a,m[k]?=some a->SB (n.places.getD k []) a.1 a.2) {g:Lu} (A:SB g lo p) (H:n.places.length<32) (o:Obj)
  (F:w2.ownsRow B 148 1 Q' (n.places.length+1) ((n.behind.map fun (x:Nat)=>Value.int .u32 x)++[.int .u32 0])) (h:(d.alloc o).grownBy w2 Q.ownBlock) (q:Q'.ownBlock=Q.ownBlock\/∃k,Q'.ownBlock=some k/\d.heap.size+1<=k) :
  NetL (w2.setCell ⟨nb,1,none⟩ Q') B nb P' Q' (gXk g n) x/\NStep W nb P Q (w2.setCell ⟨nb,1,none⟩ Q') P' Q':=by
 have I:=f.lt;have K:=c.size;have J:d.heap.size+1<=w2.heap.size:=by have:=h.size;simpa using this
 have s:∀k,k<d.heap.size->some k≠Q.ownBlock->w2.heap[k]?=d.heap[k]?:=fun k b E=>by
  rw[h.block k (by simp;omega) E];exact Below.heap_alloc _ _ _ b
 have v:=V8 w2 nb 1 Q';have u:Q'.ownBlock≠some nb:=by
  rcases q with e|⟨k,e,b⟩
  ·rw[e];exact f.apQ
  ·rw[e];simp;omega
 have G:=c.pls.lt;refine⟨⟨?_,f.base,?_,?_,⟨m++[(lo,p)],?_,?_,?_⟩,?_,?_,c.apP,u,?_⟩,?_⟩
 ·have:=s nb (by omega) (Ne.symm f.apQ)
  rw[c.lies]at this;simp[World.setCell,Array.getElem?_modify,this]
 ·have:=f.good;unfold jX5 at this ⊢;simp[gXk,this]
 ·simp[gXk];omega
 ·simp[gXk,t]
 ·intro k a b
  rcases Nat.lt_or_ge k n.places.length with j|j
  ·rw[List.getElem?_append_left (by omega)]at b
   have:=C k a b;simp only[gXk,List.getD_eq_getElem?_getD]at this ⊢;rw[List.getElem?_append_left j];exact this
  ·rw[List.getElem?_append_right (by omega)]at b
   obtain⟨i,r⟩:=List.getElem?_eq_some_iff.1 b;simp at i;have z:k=n.places.length:=by omega
   subst z;simp[t]at r;subst r;simpa [gXk] using A
 ·have j:=(c.pls.alloc o).kept h (.inr c.apPQ)
  have i:=j.kept v (.inr c.apP);simpa [gXk] using i
 ·have i:=F.kept v (.inr u)
  simpa [gXk] using i
 ·intro y l
  simp only[gXk,List.mem_append,List.mem_singleton]at l;rcases l with l|rfl
  ·exact f.small y l
  ·omega
 ·right
  rcases q with e|⟨k,e,b⟩
  ·rw[e];exact c.apPQ
  ·rw[e]
   intro w;have:=(G k w).2;omega
 ·refine⟨h.os.trans c.os,h.tape.trans c.tape,h.output.trans c.output,by simp[World.setCell];omega,fun k b=>?_,c.rowP,?_⟩
  ·rw[Below.heap_setCell _ _ _ _ b.2.1,s k (by have:=b.1;omega) b.2.2.2]
   exact c.block k b
  ·rcases q with e|⟨k,e,b⟩
   ·exact .inl e
   ·exact .inr ⟨k,e,by omega⟩
theorem Free.set {k:Nat}(h:Free w nb P Q k)(a:Addr)(v:Value):Free (w.setCell a v) nb P Q k:=⟨by simp[World.setCell];exact h.1,h.2⟩
theorem aQe {k:Nat}(h:NetL W B nb P' Q' n x)(hs:NStep w nb P Q W P' Q')(d:Free W nb P' Q' k)(e:w.heap.size<=k)(a b c:Value) :
  NetL (((W.setCell ⟨k,0,none⟩ a).setCell ⟨k,1,none⟩ b).setCell ⟨k,2,none⟩ c) B nb P' Q' n x/\NStep w nb P Q (((W.setCell ⟨k,0,none⟩ a).setCell ⟨k,1,none⟩ b).setCell ⟨k,2,none⟩ c) P' Q':=⟨((h.set d 0 a).set (d.set _ _) 1 b).set ((d.set _ _).set _ _) 2 c,((hs.set e 0 a).set e 1 b).set e 2 c⟩
def U3 (w:World)(B nb:Nat)(P Q:Value)(x:Span)(r:Net × Span):Ending->World->Prop:=fun e w'=>
 ∃P' Q',e=.returned (T9 r.2)/\NetL w' B nb P' Q' r.1 x/\NStep w nb P Q w' P' Q'
theorem qQm (w:World)(B nb:Nat)(P Q:Value)(n:Net)(x:Span)(h:NetL w B nb P Q n x)(hB:B<=w.heap.size)(hS:SB g lo hi)(hl:n.places.length<32) :
  Calls Tryz.prog 114 #[.pointer (some ⟨nb,0,none⟩),.agg #[.int .u64 lo,.int .u64 hi]] w (U3 w B nb P Q x (gXk g n,hXj n.places.length)):=by
 have hb0:=C6 w (.cells #[.int .u64 lo,.int .u64 hi] 157) (.cells #[.int .u32 (0:Nat),.int .u32 (0:Nat),.bool false] 150);have hN0:=h.below hb0;have hx0:((w.alloc (.cells #[.int .u64 lo,.int .u64 hi] 157)).alloc (.cells #[.int .u32 (0:Nat),.int .u32 (0:Nat),.bool false] 150)).heap[w.heap.size]?=some (.cells #[.int .u64 lo,.int .u64 hi] 157 (0,0)):=by
  rw[Below.heap_alloc _ _ _ (by simp)];exact heap_alloc_new _ _
 have hy0:((w.alloc (.cells #[.int .u64 lo,.int .u64 hi] 157)).alloc (.cells #[.int .u32 (0:Nat),.int .u32 (0:Nat),.bool false] 150)).heap[w.heap.size+1]?=some (.cells #[.int .u32 (0:Nat),.int .u32 (0:Nat),.bool false] 150 (0,0)):=by
  have:=heap_alloc_new (w.alloc (.cells #[.int .u64 lo,.int .u64 hi] 157)) (.cells #[.int .u32 (0:Nat),.int .u32 (0:Nat),.bool false] 150);simpa using this
 have hz0:((w.alloc (.cells #[.int .u64 lo,.int .u64 hi] 157)).alloc (.cells #[.int .u32 (0:Nat),.int .u32 (0:Nat),.bool false] 150)).heap.size=w.heap.size+1+1:=by simp
 have hst0:=NStep.of_below nb P Q hb0;have HW:Hid ((2:Int) ^ n.places.length % 4294967296=((2 ^ n.places.length:Nat):Int)):=by
  have:=oQm n.places.length hl;rw[IntKind.wrap_u32]at this;exact this
 have hp2:=hQ3 n.places.length hl;obtain⟨pa,pc,rfl⟩:=h.shapeP;obtain⟨qa,qc,rfl⟩:=h.shapeQ';have hnl:=h.lt;have c0:=hN0.c0;have Hx0:Hid _:=hx0;have Hy0:Hid _:=hy0;obtain⟨r0,r1,_,_⟩:=aQi hx0;have HnP:Hid ((∀k,(Value.slice pa n.places.length pc).ownBlock=some k->k≠w.heap.size)/\(∀k,(Value.slice pa n.places.length pc).ownBlock=some k->k≠w.heap.size+1)):=by
  obtain⟨los,_,_,hP⟩:=h.pls;exact⟨fun k hk=>by have:=hP.lt k hk;omega,fun k hk=>by have:=hP.lt k hk;omega⟩
 have HnQ:Hid (∀k,(Value.slice qa n.places.length qc).ownBlock=some k->k≠w.heap.size+1):=fun k hk=>by have:=h.bhs.lt k hk;omega
 have hne1:¬nb=w.heap.size:=by omega
 go_enter Tryz.func114,Tryz.ntmps114;go_upto_region 1 with (fail);generalize (w.alloc (.cells #[.int .u64 (lo:Int),.int .u64 (hi:Int)] 157)).alloc (.cells #[.int .u32 ((0:Nat):Int),.int .u32 ((0:Nat):Int),.bool false] 150)=W at *;have hzW:w.heap.size+1<W.heap.size:=by omega
 have hzW0:w.heap.size<W.heap.size:=by omega
 have hnW:nb<W.heap.size:=by omega
 have Hz0:Hid _:=hz0;have HF:Hid (Free W nb (.slice pa n.places.length pc) (.slice qa n.places.length qc) (w.heap.size+1)):=⟨hzW,by omega,fun e=>HnP.out.2 _ e.symm rfl,fun e=>HnQ.out _ e.symm rfl⟩;have hneP:some w.heap.size≠(Value.slice pa n.places.length pc).ownBlock:=fun e=>HnP.out.1 _ e.symm rfl;have hneP1:some (w.heap.size+1)≠(Value.slice pa n.places.length pc).ownBlock:=fun e=>HnP.out.2 _ e.symm rfl;clear hz0;go_wp2;obtain⟨los,hlos,hSB,hP⟩:=hN0.pls;obtain⟨i0,hi0,hz1,hz2,hz3⟩:=info_parts vQq;have hf0:=hN0.fr 0;have apP:=hN0.apP;have HN0:Hid _:=hN0;have HS0:Hid _:=hst0;have HSB:Hid _:=hSB;have HB0:Hid _:=hb0;go_region_law
  ((refine step_append_lies _ (by rfl) _ _ _ (by rfl) B 157 i0 _ 2 16 Tryz.underlying145 hi0 hz1 hz2 hz3 rfl (by omega) (.slice pa n.places.length pc) n.places.length _ (by rfl) (hP.alloc _) ⟨W.heap.size,0,none⟩ 1 1 [.int .u64 lo,.int .u64 hi] (by rfl) (by rfl) (World.news_of_block (cs:=#[.int .u64 lo,.int .u64 hi]) (t:=157) (fr:=(0,0)) (heap_alloc_new W _)) (by simp[Value.oneCell']) (by omega) (by unfold maxLen;omega) (by omega) (by simp;omega) (W.heap.size+1) (by simp) ?_;intro gg cap w1 hown1 hgrow hat hlt;have hfz:=(hgrow.frozen_far ⟨nb,0,none⟩ (by simp;omega) (Ne.symm apP)).trans (((A5 W _).frozen (p:=⟨nb,0,none⟩) hnW).trans hf0);have hcz:=(hgrow.cell_far ⟨nb,0,none⟩ (by simp;omega) (Ne.symm apP)).trans (((A5 W _).cell (p:=⟨nb,0,none⟩) hnW).trans c0)))
 all_goals
  have hM:=zQz lo hi HN0.out _ gg cap los hown1 hgrow hat;have hz3:=hM.size;have hm1:=hM.lies;have k1:(w1.setCell ⟨nb,0,none⟩ (.slice (some ⟨gg,0,none⟩) (n.places.length+1) cap)).cell? ⟨nb,1,none⟩=some (.slice qa n.places.length qc):=by simp[World.cell?,hm1]
  have k2:(w1.setCell ⟨nb,0,none⟩ (.slice (some ⟨gg,0,none⟩) (n.places.length+1) cap)).frozen? ⟨nb,1,none⟩=false:=by simp[World.frozen?,hm1]
  have HM:Hid _:=hM;have hyM:=(hM.block (w.heap.size+1) HF.out).trans Hy0.out;have HyM:Hid _:=hyM;generalize w1.setCell ⟨nb,0,none⟩ (.slice (some ⟨gg,0,none⟩) (n.places.length+1) cap)=W3 at *;obtain⟨j0,hj0,hj1,hj2,hj3⟩:=info_parts vQp;have hoa:=HM.out.bhs.alloc (.cells #[.int .u32 ((0:Nat):Int)] 148);have hcn:=bQa W3 (.int .u32 ((0:Nat):Int)) 148;go_wp2_with (at_builtin;refine P8 _ rfl _ _ 146 rfl B 148 j0 _ 1 4 Tryz.underlying146 hj0 hj1 hj2 hj3 rfl (by omega) (.slice qa n.places.length qc) n.places.length _ rfl hoa ⟨W3.heap.size,0,none⟩ 1 1 [.int .u32 ((0:Nat):Int)] rfl ?l1 hcn ?l0 ?l2 ?l3 ?l4 ?l5 ?_)
  case l1=>rfl
  case l0=>intro u hu;simp at hu;subst hu;rfl
  case l2=>unfold maxLen;omega
  case l3=>omega
  case l4=>simp;omega
  case l5=>omega
  intro v' w2 ho2 hg2 hvv;obtain⟨g2,cap2,rfl,_,_⟩:=ho2.form (by omega);have hE:=zQy HN0.out HM.out hlos HSB.out hS hl _ ho2 hg2 (by simpa using hvv);have HE:Hid _:=hE;have hgs:=hg2.size;simp at hgs;have m1:=(hg2.cell_far ⟨nb,1,none⟩ (by simp;omega) (Ne.symm HN0.out.apQ)).trans (((A5 W3 _).cell (p:=⟨nb,1,none⟩) (by show nb<_;omega)).trans k1);have m2:=(hg2.frozen_far ⟨nb,1,none⟩ (by simp;omega) (Ne.symm HN0.out.apQ)).trans (((A5 W3 _).frozen (p:=⟨nb,1,none⟩) (by show nb<_;omega)).trans k2);have hy2:w2.heap[w.heap.size+1]?=some (.cells #[.int .u32 (0:Nat),.int .u32 (0:Nat),.bool false] 150 (0,0)):=by
   rw[hg2.block _ (by simp;omega) HF.out.2.2.2,Below.heap_alloc _ _ _ (by omega)];exact HyM.out
  obtain⟨s0,s1,s2,s3⟩:=O3 hy2;have s30:=s3 0;have s31:=s3 1;have s32:=s3 2;have hne5:¬w.heap.size+1=nb:=by omega
  have hne6:¬nb=w.heap.size+1:=by omega
  go_wp2;rw[HW.out];refine bodyPost_ret (v:=T9 (hXj n.places.length)) (by simp[results,Tryz.results114,go_sem,s0,s1,s2,hXj]) rfl ⟨_,_,rfl,aQe HE.out.1 (HS0.out.trans HE.out.2) (HE.out.2.free HF.out) (by omega) _ _ _⟩
end Go.Proofs.YtfklinjaajafgaaGreatDoor
