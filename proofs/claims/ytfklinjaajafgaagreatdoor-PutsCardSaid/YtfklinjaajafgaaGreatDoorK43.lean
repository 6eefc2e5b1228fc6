import Derived.Test.YtfklinjaajafgaaGreatDoorK41
set_option maxRecDepth 100000
set_option maxHeartbeats 4000000
namespace Go.Proofs.YtfklinjaajafgaaGreatDoor
open Ls hiding none
open Go.RowKit
variable {P P' P1 Q Q' Q1:Value}{W W' w:World}{c:Bool}{d:Ls.D}{m:Net}{nb r:Nat}(a:Ls.D)(l:List Ls.D)(s:Span)(B:Nat)(n:Net)(b:Bool)(x:Span)(G:Nat->Prop)(ty:TypeId)(sl y:Value)(vs:List Value)
theorem uQ7 (h:Wd r d):∀n a,(Ls.go d n a).1.places.length=n.places.length+dsize d:=by
 induction h using Wd.ind with
 | place s=>intro n a;rw[kXj,gXe];simp[gXk]
 | rep f _ b=>
  intro n a;rw[fX5];rcases f with rfl|rfl|rfl
  ·rw[kX9];exact b n _
  ·rw[kX8];exact b n _
  ·rw[lX5];exact b n _
 | row _ b=>exact b
 | choice _ b=>exact b
 | rnil=>intro n a;rw[jXm,gXh];rfl
 | @rcons y r _ _ c e=>
  intro n a;rw[kXk,e,gXp];have:=c n (Ls.start y);unfold Ls.add gX0;simp only;omega
 | clast _ b=>intro n a;rw[kXi,gX8];exact b n _
 | @ccons y r _ _ c e=>
  intro n a;rw[kXh,e,gX7];have:=c n (Ls.start y);unfold Ls.add;omega
theorem lQm {x m:Nat}(d:m<=32)(h:∀q,x.testBit q=true->q<m):x<4294967296:=by
 have a:x<2 ^ 32:=Nat.lt_pow_two_of_testBit x (fun i c=>by
  cases b:x.testBit i with
  | false=>rfl
  | true=>have:=h i b;omega)
 simpa using a
theorem bQw (h:Wd 0 d){n:Net}(e:jX5 n)(f:n.places.length+dsize d<=32) :
  (Ls.add d n).2.first<4294967296/\(Ls.add d n).2.last<4294967296/\(Ls.add d n).1.places.length=n.places.length+dsize d/\jX5 (Ls.add d n).1:=by
 have a:=nXh h n e;have c:(Ls.add d n).1.places.length=n.places.length+dsize d:=uQ7 h n _;exact⟨lQm (m:=(Ls.add d n).1.places.length) (by omega) (fun q b=>(a.sem.fst q b).2),lQm (m:=(Ls.add d n).1.places.length) (by omega) (fun q b=>(a.sem.lst q b).2),c,a.good⟩
theorem Rep.wd {G:Nat->Prop}{f:List Value}(h:Rep w G r d f):Wd r d:=by
 induction h using Rep.ind with
 | place _=>exact .place _
 | rep e _ a=>exact .rep e a
 | row _ _ a=>exact .row a
 | choice _ _ a=>exact .choice a
 | rnil=>exact .rnil
 | rcons _ _ b c=>exact .rcons b c
 | clast _ a=>exact .clast a
 | ccons _ _ b c=>exact .ccons b c
def R9 (d:Ls.D):Prop:=∀(w:World) (B nb:Nat) (P Q:Value) (n:Net) (x:Span) (G:Nat->Prop) (ty:TypeId) (y:Value),NetL w B nb P Q n x->B<=w.heap.size->(∀k,G k->Free w nb P Q k)->Rep w G 0 d [.iface ty y]->n.places.length+dsize d<=31->
 Ca 95 #[.pointer (some ⟨nb,0,none⟩),.iface ty y] w (U3 w B nb P Q x (Ls.add d n))
theorem uQ8:Ls.go ((a::l).foldr rcons rnil) n s=Ls.go (l.foldr rcons rnil) (gX0 (Ls.add a n).1 s.last (Ls.add a n).2.first) (kX3 s (Ls.add a n).2):=by
 simp only[List.foldr_cons];rw[kXk]
theorem nQg (k:Nat)(a:k<l.length):G0 (l.drop k)=dsize l[k]+G0 (l.drop (k+1)):=by
 rw[List.drop_eq_getElem_cons a];rfl
theorem NStep.own {a:World}(h:NStep w nb P Q a P' Q'){k:Nat}{o:Obj}(b:Free w nb P Q k)(c:w.heap[k]?=some o):a.heap[k]?=some o:=(h.block k b).trans c
structure Pk (w W:World)(B nb:Nat)(P Q P1 Q1:Value)(m:Net)(x:Span):Prop where
 net:NetL W B nb P1 Q1 m x
 step:NStep w nb P Q W P1 Q1
 res:W.heap[w.heap.size]?=some (.cells #[.int .u32 (0:Nat),.int .u32 (0:Nat),.bool false] 150 (0,0))
 fr:Free W nb P1 Q1 w.heap.size
 fa:Free W nb P1 Q1 (w.heap.size+1)
theorem Pk.set {B:Nat}{x:Span}(h:Pk w W B nb P Q P1 Q1 m x)(o:Nat)(v:Value):Pk w (W.setCell ⟨w.heap.size+1,o,none⟩ v) B nb P Q P1 Q1 m x:=⟨h.net.set h.fa o v,h.step.set (by omega) o v,(Below.heap_setCell _ _ _ _ (by show w.heap.size≠w.heap.size+1;omega)).trans h.res,h.fr.set _ _,h.fa.set _ _⟩
theorem Pk.next {B:Nat}{a b:Value}{c:Net}{x:Span}(h:Pk w W B nb P Q P1 Q1 m x)(d:NetL W' B nb a b c x)(hs:NStep W nb P1 Q1 W' a b):Pk w W' B nb P Q a b c x:=⟨d,h.step.trans hs,hs.own h.fr h.res,hs.free h.fr,hs.free h.fa⟩
theorem qQp (hI:∀a,a∈l->R9 a)(g7:l.length<=1048576)(w:World)(c:Nat)(P Q:Value)(h:NetL w B c P Q n x)(hB:B<=w.heap.size)(hG:∀k,G k->Free w c P Q k)(hs:Shows w G sl vs)(he:Each w G l vs)(g0:n.places.length+G0 l<=31) :
  Calls Tryz.prog 115 #[Pt c,sl] w (U3 w B c P Q x (Ls.go (l.foldr rcons rnil) n ⟨0,0,true⟩)):=by
 have HI:Hid _:=hI;have O:=he.length;have g9:=h.lt;have a6:=C6 w (.cells #[.int .u32 (0:Nat),.int .u32 (0:Nat),.bool false] 150) (.cells #[.int .u32 (0:Nat),.int .u32 (0:Nat),.bool true] 150);have c4:=h.below a6;have d9:=NStep.of_below c P Q a6;have e1:((w.alloc (.cells #[.int .u32 (0:Nat),.int .u32 (0:Nat),.bool false] 150)).alloc (.cells #[.int .u32 (0:Nat),.int .u32 (0:Nat),.bool true] 150)).heap[w.heap.size]?=some (.cells #[.int .u32 (0:Nat),.int .u32 (0:Nat),.bool false] 150 (0,0)):=by
  rw[Below.heap_alloc _ _ _ (by simp)];exact heap_alloc_new _ _
 have e4:((w.alloc (.cells #[.int .u32 (0:Nat),.int .u32 (0:Nat),.bool false] 150)).alloc (.cells #[.int .u32 (0:Nat),.int .u32 (0:Nat),.bool true] 150)).heap[w.heap.size+1]?=some (.cells #[.int .u32 (0:Nat),.int .u32 (0:Nat),.bool true] 150 (0,0)):=by
  have:=heap_alloc_new (w.alloc (.cells #[.int .u32 (0:Nat),.int .u32 (0:Nat),.bool false] 150)) (.cells #[.int .u32 (0:Nat),.int .u32 (0:Nat),.bool true] 150);simpa using this
 have d0:Free ((w.alloc (.cells #[.int .u32 (0:Nat),.int .u32 (0:Nat),.bool false] 150)).alloc (.cells #[.int .u32 (0:Nat),.int .u32 (0:Nat),.bool true] 150)) c P Q w.heap.size:=by
  have:=h.newFree (.cells #[.int .u32 (0:Nat),.int .u32 (0:Nat),.bool false] 150);exact⟨by simp;omega,this.2⟩
 have d1:Free ((w.alloc (.cells #[.int .u32 (0:Nat),.int .u32 (0:Nat),.bool false] 150)).alloc (.cells #[.int .u32 (0:Nat),.int .u32 (0:Nat),.bool true] 150)) c P Q (w.heap.size+1):=by
  have:=(h.below (A5 w (.cells #[.int .u32 (0:Nat),.int .u32 (0:Nat),.bool false] 150))).newFree (.cells #[.int .u32 (0:Nat),.int .u32 (0:Nat),.bool true] 150);simpa using this
 have h0:((w.alloc (.cells #[.int .u32 (0:Nat),.int .u32 (0:Nat),.bool false] 150)).alloc (.cells #[.int .u32 (0:Nat),.int .u32 (0:Nat),.bool true] 150)).heap.size=w.heap.size+1+1:=by simp
 go_enter Tryz.func115,Tryz.ntmps115;go_upto_region 2 with (fail);generalize (w.alloc (.cells #[.int .u32 ((0:Nat):Int),.int .u32 ((0:Nat):Int),.bool false] 150)).alloc (.cells #[.int .u32 ((0:Nat):Int),.int .u32 ((0:Nat):Int),.bool true] 150)=W at *;have f9:∃sa sc,sl=.slice sa l.length sc:=by
  rcases hs.shape with⟨s,e2⟩|⟨g,g5,s,_⟩
  ·exact⟨_,_,by rw[s,<-O,e2];rfl⟩
  ·exact⟨_,_,by rw[s,O]⟩
 obtain⟨sa,sc,rfl⟩:=f9;have Hs:Hid _:=hs;have He:Hid _:=he;have Z:Hid _:=hG;have b8:Hid _:=O;have e9:Hid _:=d9;have e6:Hid _:=c4;have f0:Hid _:=e1;have f1:Hid _:=e4;have e7:Hid _:=d0;have e8:Hid _:=d1;go_wp2;go_loopw [12] (fun b1 wr=>∃(k:Nat) (m:Net) (a:Span) (q r:Value),k<=l.length/\b1=.int .i64 k/\Pk w wr B c P Q q r m x/\wr.heap[w.heap.size+1]?=some (.cells #[.int .u32 a.first,.int .u32 a.last,.bool a.empty] 150 (0,0))/\a.first<4294967296/\a.last<4294967296/\m.places.length+G0 (l.drop k)<=31/\Ls.go (l.foldr rcons rnil) n ⟨0,0,true⟩=Ls.go ((l.drop k).foldr rcons rnil) m a) (fun b1 _=>l.length-(intOf b1).toNat)
 case atStart=>
  exact⟨0,n,⟨0,0,true⟩,P,Q,Nat.zero_le _,rfl,⟨e6.out,e9.out,f0.out,e7.out,e8.out⟩,f1.out,by simp,by simp,by simpa using g0,by simp⟩
 case round=>
  obtain⟨k,m,a,q,r,hk,rfl,S,c6,N,hl,hm,d2⟩:=hrel;have f:Hid _:=S;have b5:Hid _:=c6;have a2:Hid _:=d2;have f2:=Nat.le_trans hB S.step.size;have h6:=S.fa.1
  by_cases R:k<l.length
  ·have d8:=Hs.out.mono (w':=wr) (fun _ h=>h) (fun j y=>f.out.step.block j (Z.out j y))
   have c8:=He.out.mono (w':=wr) (fun _ h=>h) (fun j y=>f.out.step.block j (Z.out j y));have c2:∀j,G j->Free wr c q r j:=fun j y=>f.out.step.free (Z.out j y);obtain⟨ty,e5,hx,a8⟩:=c8.get k R;obtain⟨g,rfl,hc⟩:∃g,sa=some ⟨g,0,none⟩/\wr.cell? ⟨g,k,none⟩=some (.iface ty e5):=by
    rcases d8.shape with⟨_,e⟩|⟨g',g6,e,_,f6⟩
    ·have:=b8.out;rw[e]at this;simp at this;omega
    ·injection e with s e2 e3
     exact⟨g',s,by rw[f6 k (by have:=b8.out;omega),hx]⟩
   have f8:=nQg l k R;have e0:=a8.wd;obtain⟨M,t,f4,f5⟩:=bQw e0 f.out.net.good (by omega);have hC:=HI.out l[k] (List.getElem_mem R) wr B c q r m x G ty e5 f.out.net f2 c2 a8 (by omega);have F:Hid (Ls.go (l.foldr rcons rnil) n ⟨0,0,true⟩=Ls.go ((l.drop (k+1)).foldr rcons rnil) (gX0 (Ls.add l[k] m).1 a.last (Ls.add l[k] m).2.first) (kX3 a (Ls.add l[k] m).2)):=by
    show _=_;rw[a2.out,List.drop_eq_getElem_cons R,uQ8]
   have d3:(Ls.add l[k] m).1.places.length+G0 (l.drop (k+1))<=31:=by omega
   generalize Ls.add l[k] m=g1 at *;obtain⟨m1,nx⟩:=g1;simp only at M t d3;go_wp2_with fail;refine hC.mono ?_;rintro e Y ⟨H,I,rfl,L,a9⟩;have K:=f.out.next L a9;have a4:=a9.own f.out.fa b5.out;have c1:=A5 Y (.cells #[.int .u32 nx.first,.int .u32 nx.last,.bool nx.empty] 150);have b0:=NStep.of_below c H I c1;have c3:=K.next (L.below c1) b0;have c7:=b0.own K.fa a4;have c9:=L.newFree (.cells #[.int .u32 nx.first,.int .u32 nx.last,.bool nx.empty] 150);have d4:=heap_alloc_new Y (.cells #[.int .u32 nx.first,.int .u32 nx.last,.bool nx.empty] 150);have h3:=K.fa.1;obtain⟨a0,a1,J,o⟩:=O3 a4;have f3:¬w.heap.size+1=Y.heap.size:=by omega
   have z:Hid _:=c3;have b6:Hid _:=c7;have b7:Hid _:=c9;have b9:Hid _:=d4;go_wp2_with fail;refine(lQj a.last nx.first _ B c H I m1 x z.out.net hl M).mono ?_;rintro e w3 ⟨rfl,c5,T⟩;have a3:=z.out.next c5 T;have a5:=T.own z.out.fa b6.out;have a7:=T.own b7.out b9.out;obtain⟨a0,a1,J,o⟩:=O3 a5;obtain⟨n0,n1,V,n3⟩:=O3 a7;have g2:=o 0;have g3:=o 1;have g4:=o 2;have h4:=a3.fa.1;have h5:=(Array.getElem?_eq_some_iff.1 a7).1;have g8:¬Y.heap.size=w.heap.size+1:=fun e=>f3 e.symm;have A:Hid _:=a3;have C:Hid _:=a5;have b2:Hid _:=u32_or_nat a.first nx.first N M;have b3:Hid _:=u32_or_nat a.last nx.last hl t;have b4:Hid (bits .or .u32 0 (nx.last:Int)=((0 ||| nx.last:Nat):Int)):=u32_or_nat 0 nx.last (by omega) t;have d7:=aQ1 0 nx.last (by omega) t;have d5:=aQ1 _ _ N M;have d6:=aQ1 _ _ hl t;clear c5 T a5 a7 a3 o n3 z b6 b7 b9;have c0:∀(u v:Nat) (b:Bool),kX3 a nx=⟨u,v,b⟩->u<4294967296->v<4294967296->∀W:World,Pk w W B c P Q H I (gX0 m1 a.last nx.first) x->W.heap[w.heap.size+1]?=some (.cells #[.int .u32 u,.int .u32 v,.bool b] 150 (0,0))->
     ∃(U:Nat) (m:Net) (a:Span) (q r:Value),U<=l.length/\Value.int .i64 ((k:Int)+1)=.int .i64 U/\Pk w W B c P Q q r m x/\W.heap[w.heap.size+1]?=some (.cells #[.int .u32 a.first,.int .u32 a.last,.bool a.empty] 150 (0,0))/\a.first<4294967296/\a.last<4294967296/\m.places.length+G0 (l.drop U)<=31/\Ls.go (l.foldr rcons rnil) n ⟨0,0,true⟩=Ls.go ((l.drop U).foldr rcons rnil) m a:=by
    intro u v b hr hu hv W h1 h2;refine⟨k+1,gX0 m1 a.last nx.first,⟨u,v,b⟩,H,I,by omega,by simp,h1,h2,hu,hv,by simpa [gX0] using d3,?_⟩;rw[F.out];rw[hr]
   have E:Hid _:=c0;clear c0;cases i:a.empty with
   | true=>
    rw[i]at J;cases d:nx.empty with
    | true=>
     rw[d]at V;have p:Hid (kX3 a nx=⟨a.first ||| nx.first,a.last ||| nx.last,true⟩):=by simp[Hid,kX3,i,d]
     clear i d;go_wp2_with fail;rw[b2.out,b3.out];go_roundw
     case rel=>exact E.out _ _ _ p.out d5 d6 _ (((A.out.set _ _).set _ _).set _ _) (by have:=C.out;simp[World.setCell,Array.getElem?_modify,this])
     case measure=>simp[intOf];omega
    | false=>
     rw[d]at V;have p:Hid (kX3 a nx=⟨a.first ||| nx.first,0 ||| nx.last,false⟩):=by simp[Hid,kX3,i,d]
     clear i d;go_wp2_with fail;rw[b2.out,b4.out];go_roundw
     case rel=>exact E.out _ _ _ p.out d5 d7 _ ((((A.out.set _ _).set _ _).set _ _).set _ _) (by have:=C.out;simp[World.setCell,Array.getElem?_modify,this])
     case measure=>simp[intOf];omega
   | false=>
    rw[i]at J;cases d:nx.empty with
    | true=>
     rw[d]at V;have p:Hid (kX3 a nx=⟨a.first,a.last ||| nx.last,false⟩):=by simp[Hid,kX3,i,d]
     clear i d;go_wp2_with fail;rw[b3.out];go_roundw
     case rel=>exact E.out _ _ _ p.out N d6 _ ((A.out.set _ _).set _ _) (by have:=C.out;simp[World.setCell,Array.getElem?_modify,this])
     case measure=>simp[intOf];omega
    | false=>
     rw[d]at V;have p:Hid (kX3 a nx=⟨a.first,0 ||| nx.last,false⟩):=by simp[Hid,kX3,i,d]
     clear i d;go_wp2_with fail;rw[b4.out];go_roundw
     case rel=>exact E.out _ _ _ p.out N d7 _ (((A.out.set _ _).set _ _).set _ _) (by have:=C.out;simp[World.setCell,Array.getElem?_modify,this])
     case measure=>simp[intOf];omega
  ·have f7:k=l.length:=by omega
   have F:Hid (Ls.go (l.foldr rcons rnil) n ⟨0,0,true⟩=(m,a)):=by
    show _=_;rw[a2.out,f7,List.drop_length];exact jXm m a
   obtain⟨a0,a1,J,o⟩:=O3 b5.out;obtain⟨s0,s1,s2,X⟩:=O3 f.out.res;have h8:=X 0;have h9:=X 1;have i0:=X 2;clear o X;have h7:w.heap.size<wr.heap.size:=by omega
   go_wp2_with fail;refine bodyPost_ret (v:=T9 a) (by simp[results,Tryz.results115,go_sem,s0,s1,s2]) rfl ⟨q,r,by rw[F.out],?_⟩;rw[F.out];exact aQe f.out.net f.out.step f.out.fr (Nat.le_refl _) _ _ _
theorem uQ6:Ls.go (F7 (a::l)) n s=Ls.go (F7 l) (Ls.add a n).1 (orS s (Ls.add a n).2):=by
 cases l with
 | nil=>show Ls.go (clast a) n s=Ls.go rnil _ _;rw[kXi,jXm]
 | cons b l=>show Ls.go (ccons a (F7 (b::l))) n s=_;rw[kXh]
theorem Pk.alloc {B:Nat}{x:Span}(h:Pk w W B nb P Q P1 Q1 m x)(o:Obj):Pk w (W.alloc o) B nb P Q P1 Q1 m x:=
 h.next (h.net.below (A5 _ _)) (NStep.of_below _ _ _ (A5 _ _))
theorem qQg (hI:∀a,a∈l->R9 a)(f5:l.length<=1048576)(w:World)(c:Nat)(P Q:Value)(h:NetL w B c P Q n x)(hB:B<=w.heap.size)(hG:∀k,G k->Free w c P Q k)(hs:Shows w G sl vs)(he:Each w G l vs)(e8:n.places.length+G0 l<=31) :
  Calls Tryz.prog 116 #[Pt c,sl] w (U3 w B c P Q x (Ls.go (F7 l) n ⟨0,0,false⟩)):=by
 have HI:Hid _:=hI;have H:=he.length;have f7:=h.lt;have Y:=C6 w (.cells #[.int .u32 (0:Nat),.int .u32 (0:Nat),.bool false] 150) (.cells #[.int .u32 (0:Nat),.int .u32 (0:Nat),.bool false] 150);have b4:=h.below Y;have c3:=NStep.of_below c P Q Y;have c5:((w.alloc (.cells #[.int .u32 (0:Nat),.int .u32 (0:Nat),.bool false] 150)).alloc (.cells #[.int .u32 (0:Nat),.int .u32 (0:Nat),.bool false] 150)).heap[w.heap.size]?=some (.cells #[.int .u32 (0:Nat),.int .u32 (0:Nat),.bool false] 150 (0,0)):=by
  rw[Below.heap_alloc _ _ _ (by simp)];exact heap_alloc_new _ _
 have c6:((w.alloc (.cells #[.int .u32 (0:Nat),.int .u32 (0:Nat),.bool false] 150)).alloc (.cells #[.int .u32 (0:Nat),.int .u32 (0:Nat),.bool false] 150)).heap[w.heap.size+1]?=some (.cells #[.int .u32 (0:Nat),.int .u32 (0:Nat),.bool false] 150 (0,0)):=by
  have:=heap_alloc_new (w.alloc (.cells #[.int .u32 (0:Nat),.int .u32 (0:Nat),.bool false] 150)) (.cells #[.int .u32 (0:Nat),.int .u32 (0:Nat),.bool false] 150);simpa using this
 have b7:Free ((w.alloc (.cells #[.int .u32 (0:Nat),.int .u32 (0:Nat),.bool false] 150)).alloc (.cells #[.int .u32 (0:Nat),.int .u32 (0:Nat),.bool false] 150)) c P Q w.heap.size:=by
  have:=h.newFree (.cells #[.int .u32 (0:Nat),.int .u32 (0:Nat),.bool false] 150);exact⟨by simp;omega,this.2⟩
 have b8:Free ((w.alloc (.cells #[.int .u32 (0:Nat),.int .u32 (0:Nat),.bool false] 150)).alloc (.cells #[.int .u32 (0:Nat),.int .u32 (0:Nat),.bool false] 150)) c P Q (w.heap.size+1):=by
  have:=(h.below (A5 w (.cells #[.int .u32 (0:Nat),.int .u32 (0:Nat),.bool false] 150))).newFree (.cells #[.int .u32 (0:Nat),.int .u32 (0:Nat),.bool false] 150);simpa using this
 have f8:((w.alloc (.cells #[.int .u32 (0:Nat),.int .u32 (0:Nat),.bool false] 150)).alloc (.cells #[.int .u32 (0:Nat),.int .u32 (0:Nat),.bool false] 150)).heap.size=w.heap.size+1+1:=by simp
 go_enter Tryz.func116,Tryz.ntmps116;go_upto_region 2 with (fail);generalize (w.alloc (.cells #[.int .u32 ((0:Nat):Int),.int .u32 ((0:Nat):Int),.bool false] 150)).alloc (.cells #[.int .u32 ((0:Nat):Int),.int .u32 ((0:Nat):Int),.bool false] 150)=W at *;have e7:∃sa sc,sl=.slice sa l.length sc:=by
  rcases hs.shape with⟨s,e2⟩|⟨g,f3,s,_⟩
  ·exact⟨_,_,by rw[s,<-H,e2];rfl⟩
  ·exact⟨_,_,by rw[s,H]⟩
 obtain⟨sa,sc,rfl⟩:=e7;have Hs:Hid _:=hs;have He:Hid _:=he;have M:Hid _:=hG;have b0:Hid _:=H;have d1:Hid _:=c3;have c8:Hid _:=b4;have d2:Hid _:=c5;have d3:Hid _:=c6;have c9:Hid _:=b7;have d0:Hid _:=b8;go_wp2;go_loopw [12] (fun a8 wr=>∃(k:Nat) (m:Net) (a:Span) (i o:Value),k<=l.length/\a8=.int .i64 k/\Pk w wr B c P Q i o m x/\wr.heap[w.heap.size+1]?=some (.cells #[.int .u32 a.first,.int .u32 a.last,.bool a.empty] 150 (0,0))/\a.first<4294967296/\a.last<4294967296/\m.places.length+G0 (l.drop k)<=31/\Ls.go (F7 l) n ⟨0,0,false⟩=Ls.go (F7 (l.drop k)) m a) (fun a8 _=>l.length-(intOf a8).toNat)
 case atStart=>
  exact⟨0,n,⟨0,0,false⟩,P,Q,Nat.zero_le _,rfl,⟨c8.out,d1.out,d2.out,c9.out,d0.out⟩,d3.out,by simp,by simp,by simpa using e8,by simp⟩
 case round=>
  obtain⟨k,m,a,i,o,hk,rfl,J,b5,hf,hl,hm,b9⟩:=hrel;have d:Hid _:=J;have a9:Hid _:=b5;have T:Hid _:=b9;have d4:=Nat.le_trans hB J.step.size;have g1:=J.fa.1
  by_cases I:k<l.length
  ·have c2:=Hs.out.mono (w':=wr) (fun _ h=>h) (fun j y=>d.out.step.block j (M.out j y))
   have b6:=He.out.mono (w':=wr) (fun _ h=>h) (fun j y=>d.out.step.block j (M.out j y));have b3:∀j,G j->Free wr c i o j:=fun j y=>d.out.step.free (M.out j y);obtain⟨ty,c7,hx,a5⟩:=b6.get k I;obtain⟨g,rfl,hc⟩:∃g,sa=some ⟨g,0,none⟩/\wr.cell? ⟨g,k,none⟩=some (.iface ty c7):=by
    rcases c2.shape with⟨_,e⟩|⟨g',f4,e,_,e0⟩
    ·have:=b0.out;rw[e]at this;simp at this;omega
    ·injection e with s e2 e3
     exact⟨g',s,by rw[e0 k (by have:=b0.out;omega),hx]⟩
   have e6:=nQg l k I;have c4:=a5.wd;obtain⟨Z,a2,d8,d9⟩:=bQw c4 d.out.net.good (by omega);have hC:=HI.out l[k] (List.getElem_mem I) wr B c i o m x G ty c7 d.out.net d4 b3 a5 (by omega);have A:Hid (Ls.go (F7 l) n ⟨0,0,false⟩=Ls.go (F7 (l.drop (k+1))) (Ls.add l[k] m).1 (orS a (Ls.add l[k] m).2)):=by
    show _=_;rw[T.out,List.drop_eq_getElem_cons I,uQ6]
   have c0:(Ls.add l[k] m).1.places.length+G0 (l.drop (k+1))<=31:=by omega
   generalize Ls.add l[k] m=e9 at *;obtain⟨m1,nx⟩:=e9;simp only at Z a2 c0;go_wp2_with fail;refine hC.mono ?_;rintro e q ⟨U,V,rfl,E,a6⟩;have t:=d.out.next E a6;have F:=a6.own d.out.fa a9.out;have b2:=A5 q (.cells #[.int .u32 nx.first,.int .u32 nx.last,.bool nx.empty] 150);have a7:=NStep.of_below c U V b2;have d5:=t.next (E.below b2) a7;have d7:=a7.own t.fa F;have e1:=E.newFree (.cells #[.int .u32 nx.first,.int .u32 nx.last,.bool nx.empty] 150);have e5:=heap_alloc_new q (.cells #[.int .u32 nx.first,.int .u32 nx.last,.bool nx.empty] 150);have f9:=t.fa.1;obtain⟨a0,a1,X,C⟩:=O3 F;have d6:¬w.heap.size+1=q.heap.size:=by omega
   have z:Hid _:=t;have R:Hid _:=F;have p:=C;have n3:=heap_alloc_new q (.cells #[.int .u32 nx.first,.int .u32 nx.last,.bool nx.empty] 150);have g0:=z.out.fa.1;have f6:¬q.heap.size=w.heap.size+1:=fun e=>d6 e.symm;have N:Hid _:=u32_or_nat a.first nx.first hf Z;have O:Hid _:=u32_or_nat a.last nx.last hl a2;have a3:=aQ1 _ _ hf Z;have a4:=aQ1 _ _ hl a2;have b1:∀(u v:Nat) (b:Bool),orS a nx=⟨u,v,b⟩->u<4294967296->v<4294967296->∀W:World,Pk w W B c P Q U V (m1) x->W.heap[w.heap.size+1]?=some (.cells #[.int .u32 u,.int .u32 v,.bool b] 150 (0,0))->
     ∃(K:Nat) (m:Net) (a:Span) (i o:Value),K<=l.length/\Value.int .i64 ((k:Int)+1)=.int .i64 K/\Pk w W B c P Q i o m x/\W.heap[w.heap.size+1]?=some (.cells #[.int .u32 a.first,.int .u32 a.last,.bool a.empty] 150 (0,0))/\a.first<4294967296/\a.last<4294967296/\m.places.length+G0 (l.drop K)<=31/\Ls.go (F7 l) n ⟨0,0,false⟩=Ls.go (F7 (l.drop K)) m a:=by
    intro u v b hr hu hv W h1 h2;refine⟨k+1,m1,⟨u,v,b⟩,U,V,by omega,by simp,h1,h2,hu,hv,c0,?_⟩;rw[A.out];rw[hr]
   have S:Hid _:=b1;have f0:=p 0;have f1:=p 1;have f2:=p 2;cases f:a.empty with
   | true=>
    rw[f]at X;have r:Hid (orS a nx=⟨a.first ||| nx.first,a.last ||| nx.last,true⟩):=by simp[Hid,orS,f]
    go_wp2;rw[N.out,O.out];go_roundw
    case rel=>exact S.out _ _ _ r.out a3 a4 _ ((((z.out.set _ _).set _ _).set _ _).alloc _) (by have:=R.out;rw[Below.heap_alloc _ _ _ (by simp[World.setCell];omega)];simp[World.setCell,Array.getElem?_modify,this])
    case measure=>simp[intOf];omega
   | false=>
    rw[f]at X;cases c1:nx.empty with
    | true=>
     have r:Hid (orS a nx=⟨a.first ||| nx.first,a.last ||| nx.last,true⟩):=by simp[Hid,orS,f,c1]
     go_wp2;rw[N.out,O.out];go_roundw
     case rel=>exact S.out _ _ _ r.out a3 a4 _ ((((z.out.set _ _).set _ _).set _ _).alloc _) (by have:=R.out;rw[Below.heap_alloc _ _ _ (by simp[World.setCell];omega)];simp[World.setCell,Array.getElem?_modify,this])
     case measure=>simp[intOf];omega
    | false=>
     have r:Hid (orS a nx=⟨a.first ||| nx.first,a.last ||| nx.last,false⟩):=by simp[Hid,orS,f,c1]
     go_wp2;rw[N.out,O.out];go_roundw
     case rel=>exact S.out _ _ _ r.out a3 a4 _ ((((z.out.set _ _).set _ _).set _ _).alloc _) (by have:=R.out;rw[Below.heap_alloc _ _ _ (by simp[World.setCell];omega)];simp[World.setCell,Array.getElem?_modify,this])
     case measure=>simp[intOf];omega
  ·have e4:k=l.length:=by omega
   have A:Hid (Ls.go (F7 l) n ⟨0,0,false⟩=(m,a)):=by
    show _=_;rw[T.out,e4,List.drop_length];exact jXm m a
   obtain⟨a0,a1,X,C⟩:=O3 a9.out;obtain⟨s0,s1,s2,L⟩:=O3 d.out.res;have g3:=L 0;have g4:=L 1;have g5:=L 2;have g2:w.heap.size<wr.heap.size:=by omega
   go_wp2;refine bodyPost_ret (v:=T9 a) (by simp[results,Tryz.results116,go_sem,s0,s1,s2]) rfl ⟨i,o,by rw[A.out],?_⟩;rw[A.out];exact aQe d.out.net d.out.step d.out.fr (Nat.le_refl _) _ _ _
theorem dQg {g:Nat}{v:Value}{b:Bool}{t:TypeId}(h:w.heap[g]?=some (.cells #[v,.bool b,.bool c] t (0,0))):w.cell? ⟨g,0,none⟩=some v/\w.cell? ⟨g,1,none⟩=some (.bool b)/\w.cell? ⟨g,2,none⟩=some (.bool c):=by
 refine⟨?_,?_,?_⟩<;>simp[World.cell?,h]
structure Rp (w W:World)(nb:Nat)(P Q:Value)(v:Value)(b c:Bool):Prop where
 box:W.heap[w.heap.size]?=some (.cells #[v,.bool b,.bool c] 189 (0,0))
 res:W.heap[w.heap.size+1]?=some (.cells #[.int .u32 (0:Nat),.int .u32 (0:Nat),.bool false] 150 (0,0))
 fb:Free W nb P Q w.heap.size
 fr:Free W nb P Q (w.heap.size+1)
theorem Rp.next {v:Value}{b:Bool}(h:Rp w W nb P Q v b c)(hs:NStep W nb P Q W' P' Q'):Rp w W' nb P' Q' v b c:=⟨hs.own h.fb h.box,hs.own h.fr h.res,hs.free h.fb,hs.free h.fr⟩
theorem Rp.start {B:Nat}{n:Net}{x:Span}(h:NetL w B nb P Q n x)(v:Value)(b c:Bool):Rp w ((w.alloc (.cells #[v,.bool b,.bool c] 189)).alloc (.cells #[.int .u32 (0:Nat),.int .u32 (0:Nat),.bool false] 150)) nb P Q v b c:=by
 refine⟨?_,?_,?_,?_⟩
 ·rw[Below.heap_alloc _ _ _ (by simp)];exact heap_alloc_new _ _
 ·have:=heap_alloc_new (w.alloc (.cells #[v,.bool b,.bool c] 189)) (.cells #[.int .u32 (0:Nat),.int .u32 (0:Nat),.bool false] 150)
  simpa using this
 ·have:=h.newFree (.cells #[v,.bool b,.bool c] 189)
  exact⟨by simp;omega,this.2⟩
 ·have:=(h.below (A5 w (.cells #[v,.bool b,.bool c] 189))).newFree (.cells #[.int .u32 (0:Nat),.int .u32 (0:Nat),.bool false] 150)
  simpa using this
theorem iQ1 (W:R9 a)(w:World)(d:Nat)(P Q:Value)(h:NetL w B d P Q n x)(hB:B<=w.heap.size)(A:∀k,G k->Free w d P Q k)(I:Rep w G 0 a [.iface ty y])(b3:n.places.length+dsize a<=31) :
  Calls Tryz.prog 117 #[Pt d,.agg #[.iface ty y,.bool b,.bool true]] w (U3 w B d P Q x (gX0 (Ls.add a n).1 (Ls.add a n).2.last (Ls.add a n).2.first,⟨(Ls.add a n).2.first,(Ls.add a n).2.last,(Ls.add a n).2.empty||b⟩)):=by
 have c1:=h.lt;have q:=C6 w (.cells #[.iface ty y,.bool b,.bool true] 189) (.cells #[.int .u32 (0:Nat),.int .u32 (0:Nat),.bool false] 150);have J:=Rp.start h (.iface ty y) b true;have s:=NStep.of_below d P Q q;have Y:=h.below q;have a5:=I.mono (fun _ h=>h) (fun k F=>s.block k (A k F));have V:∀k,G k->Free _ d P Q k:=fun k F=>s.free (A k F);obtain⟨a1,a2,b1,b2⟩:=bQw I.wd h.good (by omega);have U:=W _ B d P Q n x G ty y Y (Lq hB q.size) V a5 b3;generalize Ls.add a n=b4 at *;obtain⟨m1,nx⟩:=b4;simp only at a1 a2;obtain⟨m,o,p⟩:=dQg J.box;have O:Hid _:=J;have a9:Hid _:=s;go_enter Tryz.func117,Tryz.ntmps117;go_upto_region 1 with (fail);generalize (w.alloc (.cells #[.iface ty y,.bool b,.bool true] 189)).alloc (.cells #[.int .u32 ((0:Nat):Int),.int .u32 ((0:Nat):Int),.bool false] 150)=b5 at *;go_wp2_with fail;refine U.mono ?_;rintro b0 e ⟨f,g,rfl,C,K⟩;have r:=O.out.next K;have T:=A5 e (.cells #[.int .u32 nx.first,.int .u32 nx.last,.bool nx.empty] 150);have L:=NStep.of_below d f g T;have a6:=r.next L;have Z:=C.below T;have a3:=C.newFree (.cells #[.int .u32 nx.first,.int .u32 nx.last,.bool nx.empty] 150);have a4:=heap_alloc_new e (.cells #[.int .u32 nx.first,.int .u32 nx.last,.bool nx.empty] 150);have a7:=(a9.out.trans K).trans L;have c3:=r.fr.1;have c4:w.heap.size<e.heap.size:=by omega
 have b6:¬w.heap.size=e.heap.size:=by omega
 obtain⟨m,o,p⟩:=dQg r.box;have X:=lQj nx.last nx.first _ B d f g m1 x Z a2 a1;have R:Hid _:=a6;have z:Hid _:=a3;have N:Hid _:=a4;have S:Hid _:=a7;go_wp2_with fail;refine X.mono ?_;rintro b0 w3 ⟨rfl,a0,l⟩;have j:=R.out.next l;have H:=l.own z.out N.out;have E:=l.free z.out;have a8:=S.out.trans l;obtain⟨m,o,p⟩:=dQg j.box;obtain⟨n0,n1,n2,n3⟩:=O3 H;obtain⟨s0,s1,s2,t⟩:=O3 j.res;have c7:=n3 2;have c8:=t 0;have c9:=t 1;have d0:=t 2;have c5:=j.fr.1;have c6:=E.1;have b7:¬e.heap.size=w.heap.size:=by omega
 have b8:¬w.heap.size=e.heap.size:=by omega
 have b9:¬e.heap.size=w.heap.size+1:=by omega
 have c0:¬w.heap.size+1=e.heap.size:=by omega
 have c2:=(Array.getElem?_eq_some_iff.1 H).1;have M:Hid (∀v c,NetL ((((w3.setCell ⟨e.heap.size,2,none⟩ v).setCell ⟨w.heap.size+1,0,none⟩ (.int .u32 nx.first)).setCell ⟨w.heap.size+1,1,none⟩ (.int .u32 nx.last)).setCell ⟨w.heap.size+1,2,none⟩ c) B d f g (gX0 m1 nx.last nx.first) x/\NStep w d P Q ((((w3.setCell ⟨e.heap.size,2,none⟩ v).setCell ⟨w.heap.size+1,0,none⟩ (.int .u32 nx.first)).setCell ⟨w.heap.size+1,1,none⟩ (.int .u32 nx.last)).setCell ⟨w.heap.size+1,2,none⟩ c) f g):=fun v c=>
  aQe (a0.set E 2 v) (a8.set (by omega) 2 v) (j.fr.set _ _) (by omega) _ _ _
 cases i:nx.empty with
 | true=>
  rw[i]at n2;have u:Hid _:=i;go_wp2;exact bodyPost_ret (v:=T9 ⟨nx.first,nx.last,true⟩) (by simp[results,Tryz.results117,go_sem,s0,s1,s2]) rfl ⟨f,g,by simp[u.out],M.out _ _⟩
 | false=>
  rw[i]at n2;have u:Hid _:=i;go_wp2;exact bodyPost_ret (v:=T9 ⟨nx.first,nx.last,b⟩) (by simp[results,Tryz.results117,go_sem,s0,s1,s2]) rfl ⟨f,g,by simp[u.out],M.out _ _⟩
theorem qQo (R:R9 a)(w:World)(d:Nat)(P Q:Value)(h:NetL w B d P Q n x)(hB:B<=w.heap.size)(s:∀k,G k->Free w d P Q k)(A:Rep w G 0 a [.iface ty y])(a5:n.places.length+dsize a<=31) :
  Calls Tryz.prog 117 #[Pt d,.agg #[.iface ty y,.bool b,.bool false]] w (U3 w B d P Q x ((Ls.add a n).1,⟨(Ls.add a n).2.first,(Ls.add a n).2.last,(Ls.add a n).2.empty||b⟩)):=by
 have b3:=h.lt;have m:=C6 w (.cells #[.iface ty y,.bool b,.bool false] 189) (.cells #[.int .u32 (0:Nat),.int .u32 (0:Nat),.bool false] 150);have C:=Rp.start h (.iface ty y) b false;have o:=NStep.of_below d P Q m;have S:=h.below m;have V:=A.mono (fun _ h=>h) (fun k u=>o.block k (s k u));have O:∀k,G k->Free _ d P Q k:=fun k u=>o.free (s k u);obtain⟨a1,a2,a3,a4⟩:=bQw A.wd h.good (by omega);have N:=R _ B d P Q n x G ty y S (Lq hB m.size) O V a5;generalize Ls.add a n=a6 at *;obtain⟨m1,nx⟩:=a6;simp only at a1 a2;obtain⟨K,L,M⟩:=dQg C.box;have J:Hid _:=C;have a0:Hid _:=o;go_enter Tryz.func117,Tryz.ntmps117;go_upto_region 1 with (fail);generalize (w.alloc (.cells #[.iface ty y,.bool b,.bool false] 189)).alloc (.cells #[.int .u32 ((0:Nat):Int),.int .u32 ((0:Nat):Int),.bool false] 150)=a7 at *;go_wp2_with fail;refine N.mono ?_;rintro a8 l ⟨g,i,rfl,t,F⟩;have E:=J.out.next F;have r:=A5 l (.cells #[.int .u32 nx.first,.int .u32 nx.last,.bool nx.empty] 150);have H:=NStep.of_below d g i r;have j:=E.next H;have T:=t.below r;have U:=t.newFree (.cells #[.int .u32 nx.first,.int .u32 nx.last,.bool nx.empty] 150);have z:=heap_alloc_new l (.cells #[.int .u32 nx.first,.int .u32 nx.last,.bool nx.empty] 150);have W:=(a0.out.trans F).trans H;have b5:=E.fr.1;have b6:w.heap.size<l.heap.size:=by omega
 go_upto_region 2 with (fail);have b4:=(Array.getElem?_eq_some_iff.1 z).1;generalize b8:l.heap.size=f at *;generalize l.alloc (.cells #[.int .u32 (nx.first:Int),.int .u32 (nx.last:Int),.bool nx.empty] 150)=w3 at *;obtain⟨K,L,M⟩:=dQg j.box;obtain⟨n0,n1,X,Y⟩:=O3 z;obtain⟨Z,s1,s2,p⟩:=O3 j.res;have b9:=Y 2;have c0:=p 0;have c1:=p 1;have c2:=p 2;have b7:=j.fr.1;have a9:¬f=w.heap.size:=by omega
 have b0:¬w.heap.size=f:=by omega
 have b1:¬f=w.heap.size+1:=by omega
 have b2:¬w.heap.size+1=f:=by omega
 have I:Hid (∀v c,NetL ((((w3.setCell ⟨f,2,none⟩ v).setCell ⟨w.heap.size+1,0,none⟩ (.int .u32 nx.first)).setCell ⟨w.heap.size+1,1,none⟩ (.int .u32 nx.last)).setCell ⟨w.heap.size+1,2,none⟩ c) B d g i m1 x/\NStep w d P Q ((((w3.setCell ⟨f,2,none⟩ v).setCell ⟨w.heap.size+1,0,none⟩ (.int .u32 nx.first)).setCell ⟨w.heap.size+1,1,none⟩ (.int .u32 nx.last)).setCell ⟨w.heap.size+1,2,none⟩ c) g i):=fun v c=>
  aQe (T.set U 2 v) (W.set (by omega) 2 v) (j.fr.set _ _) (by omega) _ _ _
 cases e:nx.empty with
 | true=>
  rw[e]at X;have q:Hid _:=e;go_wp2;exact bodyPost_ret (v:=T9 ⟨nx.first,nx.last,true⟩) (by simp[results,Tryz.results117,go_sem,Z,s1,s2]) rfl ⟨g,i,by simp[q.out],I.out _ _⟩
 | false=>
  rw[e]at X;have q:Hid _:=e;go_wp2;exact bodyPost_ret (v:=T9 ⟨nx.first,nx.last,b⟩) (by simp[results,Tryz.results117,go_sem,Z,s1,s2]) rfl ⟨g,i,by simp[q.out],I.out _ _⟩
theorem qQn (t:Nat)(i:t=5\/t=6\/t=7)(e:R9 a)(w:World)(b:Nat)(P Q:Value)(h:NetL w B b P Q n x)(c:B<=w.heap.size)(d:∀k,G k->Free w b P Q k)(f:Rep w G 0 a [.iface ty y])(g:n.places.length+dsize a<=31) :
  Calls Tryz.prog 117 #[Pt b,.agg #[.iface ty y,.bool (t != 6),.bool (t != 7)]] w (U3 w B b P Q x (Ls.add (Ls.rep t a) n)):=by
 rcases i with rfl|rfl|rfl
 ·have:=iQ1 a B n true x G ty y e w b P Q h c d f g
  rw[Bool.or_true]at this;unfold Ls.add at this ⊢;rw[kX9];exact this
 ·have:=iQ1 a B n false x G ty y e w b P Q h c d f g
  rw[Bool.or_false]at this;unfold Ls.add at this ⊢;rw[kX8];exact this
 ·have:=qQo a B n true x G ty y e w b P Q h c d f g
  rw[Bool.or_true]at this;unfold Ls.add at this ⊢;rw[lX5];exact this
end Go.Proofs.YtfklinjaajafgaaGreatDoor
