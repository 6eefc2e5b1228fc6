import Derived.Test.YtfklinjaajafgaaGreatDoorK47
import Derived.Test.YtfklinjaajafgaaGreatDoorK45
import Derived.Deep.LoopGhost
set_option maxRecDepth 100000
set_option maxHeartbeats 4000000
namespace Go.Proofs.YtfklinjaajafgaaGreatDoor
open Go.RowKit
variable {B k m:Nat}{M O T:List Ls.Pr}{n n':Ls.Net}{s:Ls.Pr}{w:World}{x x':Ls.Span}(nb nb':Nat)(P Q P' Q':Value)
structure Nt (w:World)(B nb:Nat)(P Q:Value)(n:Ls.Net)(x:Ls.Span):Prop where
 net:∃B0,NetL w B0 nb P Q n x
 low:nb<B
 lowP:∀k,P.ownBlock=some k->k<B
 lowQ:∀k,Q.ownBlock=some k->k<B
 fst:x.first<4294967296
 lst:x.last<4294967296
theorem Nt.keep {d:World}{c:Nat}{P Q:Value}(h:Nt w B c P Q n x)(a:Below B w d):Nt d B c P Q n x:=by
 obtain⟨e,f⟩:=h.net;exact⟨⟨e,f.same (a.block _ h.low) (fun k b=>a.block k (h.lowP k b)) (fun k b=>a.block k (h.lowQ k b))⟩,h.low,h.lowP,h.lowQ,h.fst,h.lst⟩
def U6 (A C:Ls.Au)(s:Ls.Pr)(M T:List Ls.Pr)(k m:Nat):Prop:=
 (∀t,t∈T->Ls.Stp A C s t)/\∀t,Ls.Stp A C s t->t.2.1<=k\/(t.2.1=k+1/\t.2.2<=m)->t∈M++T
theorem aQg {t:Ls.Pr}(h:Ls.Stp (Ls.au n x) (Ls.au n' x') s t):0<t.2.1/\t.2.1<=n.places.length/\0<t.2.2/\t.2.2<=n'.places.length:=by
 obtain⟨_,_,_,c,a,b⟩:=h;obtain⟨i,d,f⟩:=Ls.nXg a;obtain⟨j,e,g⟩:=Ls.nXg b;omega
theorem zQk (n b:Ls.Net)(x c:Ls.Span)(s:Ls.Pr)(M:List Ls.Pr):U6 (Ls.au n x) (Ls.au b c) s M [] 0 0:=⟨by simp,fun t a d=>by have:=aQg a;omega⟩
theorem zQj (h:U6 (Ls.au n x) (Ls.au n' x') s M T k 0)(c:(Ls.au n x).nx s.2.1 (k+1)=false):U6 (Ls.au n x) (Ls.au n' x') s M T (k+1) 0:=by
 refine⟨h.1,fun t a d=>?_⟩;have f:=aQg a
 by_cases e:t.2.1=k+1
 ·have b:=a.2.1
  rw[e,c]at b;cases b
 ·exact h.2 t a (by omega)
theorem zQa (h:U6 (Ls.au n x) (Ls.au n' x') s M T k m)(c:n'.places.length<=m):U6 (Ls.au n x) (Ls.au n' x') s M T (k+1) 0:=⟨h.1,fun t a b=>h.2 t a (by have:=aQg a;omega)⟩
theorem lQ9 (h:U6 (Ls.au n x) (Ls.au n' x') s M T k m)(c:¬Ls.Stp (Ls.au n x) (Ls.au n' x') s (s.1,k+1,m+1)):U6 (Ls.au n x) (Ls.au n' x') s M T k (m+1):=by
 refine⟨h.1,fun t a d=>?_⟩
 by_cases e:t.2.1=k+1/\t.2.2=m+1
 ·refine absurd ?_ c
  have b:t=(s.1,k+1,m+1):=Prod.ext a.1 (Prod.ext e.1 e.2);rw[<-b];exact a
 ·exact h.2 t a (by omega)
theorem zQd {a:List Ls.Pr}(h:U6 (Ls.au n x) (Ls.au n' x') s M T k m)(i:Ls.Stp (Ls.au n x) (Ls.au n' x') s (s.1,k+1,m+1))(f:∀t,t∈a->t=(s.1,k+1,m+1))(g:(s.1,k+1,m+1)∈(M++T)++a):U6 (Ls.au n x) (Ls.au n' x') s M (T++a) k (m+1):=by
 refine⟨fun t j=>?_,fun t c l=>?_⟩
 ·rcases List.mem_append.1 j with b|b
  ·exact h.1 t b
  ·rw[f t b];exact i
 ·rw[<-List.append_assoc]
  by_cases e:t.2.1=k+1/\t.2.2=m+1
  ·have d:t=(s.1,k+1,m+1):=Prod.ext c.1 (Prod.ext e.1 e.2)
   rw[d];exact g
  ·exact List.mem_append_left _ (h.2 t c (by omega))
theorem iQm:Ls.Stp (Ls.au n x) (Ls.au n' x') s (s.1,k+1,m+1)↔(Z2 n x s.2.1).testBit k=true/\(Z2 n' x' s.2.2).testBit m=true/\∃c,Ls.has (n.places.getD k []) c=true/\Ls.has (n'.places.getD m []) c=true:=by
 constructor
 ·rintro ⟨_,a,b,d⟩
  exact⟨(cQ9 _ _ _ _).symm.trans a,(cQ9 _ _ _ _).symm.trans b,d⟩
 ·rintro ⟨a,b,d⟩
  exact⟨rfl,(cQ9 _ _ _ _).trans a,(cQ9 _ _ _ _).trans b,d⟩
theorem dQf (w:World)(B b d:Nat)(V:Value)(M O:List Ls.Pr)(h:Srch w B b d V M O)(hB:B<=w.heap.size)(s:Ls.Pr)(f8:s.1=0\/s.1=1\/s.1=2)
    (n f:Ls.Net) (x C:Ls.Span) (hN:Nt w B nb P Q n x) (e4:Nt w B nb' P' Q' f C) (j1:s.2.1<=n.places.length) (j2:s.2.2<=f.places.length) :
  Calls Tryz.prog 64 #[Pt b,G3 s,Pt nb,Pt nb'] w (dQw w B b d V M O (fun c5=>Ls.Stp (Ls.au n x) (Ls.au f C) s c5)):=by
 have X:=A5 w (.cells #[.int .i64 (s.1:Nat),.int .i64 ((s.2.1:Int)-1),.int .i64 ((s.2.2:Int)-1)] 112);have b4:(w.alloc (.cells #[.int .i64 (s.1:Nat),.int .i64 ((s.2.1:Int)-1),.int .i64 ((s.2.2:Int)-1)] 112)).heap[w.heap.size]?=some (.cells #[.int .i64 (s.1:Nat),.int .i64 ((s.2.1:Int)-1),.int .i64 ((s.2.2:Int)-1)] 112 (0,0)):=heap_alloc_new _ _;have e6:=h.below X;have e0:=h.free (.cells #[.int .i64 (s.1:Nat),.int .i64 ((s.2.1:Int)-1),.int .i64 ((s.2.2:Int)-1)] 112);have g2:=SStep.of_below b d V X;have a9:=hN.keep (X.mono hB);have b0:=e4.keep (X.mono hB);have h1:Hid (s.1=0\/s.1=1\/s.1=2):=f8;clear h hN e4 f8;unfold G3;go_enter Tryz.func64,Tryz.ntmps64;go_upto_region 1 with (fail);generalize w.alloc (.cells #[.int .i64 (s.1:Nat),.int .i64 ((s.2.1:Int)-1),.int .i64 ((s.2.2:Int)-1)] 112)=W at *;obtain⟨k0,k1,k2⟩:W.cell? ⟨w.heap.size,0,none⟩=some (.int .i64 (s.1:Nat))/\W.cell? ⟨w.heap.size,1,none⟩=some (.int .i64 ((s.2.1:Int)-1))/\W.cell? ⟨w.heap.size,2,none⟩=some (.int .i64 ((s.2.2:Int)-1)):=by
  refine⟨?_,?_,?_⟩<;>simp[World.cell?,b4]
 have H1:Hid (∀q,Calls Tryz.prog 96 #[.pointer (some ⟨nb,0,none⟩),.int .i64 ((s.2.1:Int)-1)] (W.drewN q) fun e w'=>e=.returned (.int .u32 (Z2 n x s.2.1))/\w'=W.drewN q):=fun q=>by
  obtain⟨Y,i⟩:=a9.net;exact lQv _ Y nb P n Q x _ (i.below (E5 q)) j1
 have H2:Hid (∀q,Calls Tryz.prog 96 #[.pointer (some ⟨nb',0,none⟩),.int .i64 ((s.2.2:Int)-1)] (W.drewN q) fun e w'=>e=.returned (.int .u32 (Z2 f C s.2.2))/\w'=W.drewN q):=fun q=>by
  obtain⟨Y,i⟩:=b0.net;exact lQv _ Y nb' P' f Q' C _ (i.below (E5 q)) j2
 have HM:Hid _:=a9;have c7:Hid _:=b0;have d2:Hid _:=e6;have a3:Hid _:=e0;have a6:Hid _:=g2;have Z:Hid _:=b4;clear a9 b0 e6 e0 g2 b4 X;generalize l4:((s.2.1:Int)-1)=i1 at *;generalize l5:((s.2.2:Int)-1)=i2 at *;go_wp2_with fail;go_quiet (first|(go_at_call_of 96 (Value.int .i64 i1);exact Calls.quiet_of_same (H1.out _))|(go_at_call_of 96 (Value.int .i64 i2);exact Calls.quiet_of_same (H2.out _)))
 obtain⟨N,b3⟩:∃N,N=W.drewN nq:=⟨_,rfl⟩;have I:Below W.heap.size W N:=by rw[b3];exact E5 nq
 have c2:B<=W.heap.size:=Nat.le_trans hB a6.out.size;have e7:=d2.out.below I;have e2:=(SStep.of_below b d V I).free a3.out;have b9:=a6.out.trans (SStep.of_below b d V I);have f4:=(I.block _ a3.out.1).trans Z.out;have S:=HM.out.keep (I.mono c2);have U:=c7.out.keep (I.mono c2);rw[<-b3];clear b3 I HM c7 d2 a3 a6 Z H1 H2 k0 k1 k2 c2;clear W;obtain⟨Y,o⟩:=S.net;obtain⟨k5,a8⟩:=U.net;have f5:=S.net.elim fun _ h=>h.nextV_lt S.fst s.2.1;have f6:=U.net.elim fun _ h=>h.nextV_lt U.fst s.2.2;obtain⟨pa,pc,rfl⟩:=o.shapeP;obtain⟨k4,l8,rfl⟩:=a8.shapeP;have c0:=o.c0;have k8:=o.few;have k9:=a8.few;have d9:B<=N.heap.size:=Nat.le_trans hB b9.size;have g7:Hid _:=S;have g8:Hid _:=U;have d3:Hid _:=e7;have c6:Hid _:=e2;have h5:Hid _:=b9;have Z:Hid _:=f4;obtain⟨f1,b5⟩:∃f1,f1=Z2 n x s.2.1:=⟨_,rfl⟩;obtain⟨f2,b6⟩:∃f2,f2=Z2 f C s.2.2:=⟨_,rfl⟩;rw[<-b5]at f5 ⊢;rw[<-b6]at f6 ⊢;have d7:Hid _:=b5;have d8:Hid _:=b6;clear b5 b6;clear o a8 S U e7 e2 b9 f4;go_wp2_with fail;go_loopw [27] (fun c3 wr=>∃k T E,k<=n.places.length/\c3=.int .i64 (k:Nat)/\Srch wr B b d E (M++T) (O++T)/\SStep N b d V wr E/\U6 (Ls.au n x) (Ls.au f C) s M T k 0) (fun c3 _=>n.places.length-(intOf c3).toNat)
 case atStart=>exact⟨0,[],V,Nat.zero_le _,rfl,by simpa using d3.out,SStep.of_below _ _ _ (Below.refl _ _),zQk n f x C s M⟩
 case round=>
  obtain⟨c,j3⟩:∃c,c=wr:=⟨_,rfl⟩;subst j3;obtain⟨k,T,E,hk,rfl,F,a,H⟩:=hrel;have f0:=a.below d3.out d9;have e5:=g7.out.keep f0;have HP:Hid _:=H
  by_cases i8:k<n.places.length
  ·obtain⟨B1,o⟩:=e5.net
   obtain⟨g,rfl⟩:∃g,pa=some ⟨g,0,none⟩:=by
    obtain⟨k3,i,h2,h3⟩:=o.pls;obtain⟨g,i0,e,_⟩:=h3.form (by omega);injection e with e1;exact⟨g,e1⟩
   obtain⟨lo,G,d0,d1,i4⟩:=o.placeAt i8;have r:=bQl f1 k f5 (by omega) (c.alloc (.cells #[.int .u64 lo,.int .u64 G] 157));have u:Hid _:=F;have z:Hid _:=a;have c9:Hid _:=g8.out.keep f0;have R:B<=c.heap.size:=Nat.le_trans d9 a.size;clear F a H e5 o;cases j:f1.testBit k with
   | false=>
    rw[j]at r;have y:Hid _:=zQj HP.out (by rw[cQ9,<-d7.out];exact j);clear j;go_wp2_with fail;refine r.mono ?_;rintro e w1 ⟨rfl,rfl⟩;go_wp2_with fail;go_roundw
    case rel=>exact⟨k+1,T,E,by omega,by go_num,u.out.below (A5 _ _),z.out.trans (SStep.of_below _ _ _ (A5 _ _)),y.out⟩
    case measure=>simp[intOf];omega
   | true=>
    rw[j]at r;have v:=A5 c (.cells #[.int .u64 lo,.int .u64 G] 157);have e8:=u.out.below v;have g3:=z.out.trans (SStep.of_below b d E v);have f9:(c.alloc (.cells #[.int .u64 lo,.int .u64 G] 157)).heap[c.heap.size]?=some (.cells #[.int .u64 lo,.int .u64 G] 157 (0,0)):=heap_alloc_new _ _;have f7:=u.out.free (.cells #[.int .u64 lo,.int .u64 G] 157);have b1:=c9.out.keep (v.mono R);obtain⟨B2,e3⟩:=b1.net;have h9:=e3.c0;have a7:B<=(c.alloc (.cells #[.int .u64 lo,.int .u64 G] 157)).heap.size:=Nat.le_trans R v.size;have a5:Hid _:=e8;have a1:Hid _:=g3;have d5:Hid _:=f9;have a4:Hid _:=f7;have c8:Hid _:=b1;have g9:Hid _:=j;clear e8 g3 f9 f7 b1 e3 v u z c9 j;go_wp2_with fail;refine r.mono ?_;rintro e w1 ⟨rfl,g5⟩;rw[<-g5]at a5 a1 d5 a4 c8 h9 a7;clear g5 r;go_wp2_with fail;go_loopw [41] (fun c4 t=>∃m l A,m<=f.places.length/\c4=.int .i64 (m:Nat)/\Srch t B b d A (M++l) (O++l)/\SStep w1 b d E t A/\U6 (Ls.au n x) (Ls.au f C) s M l k m) (fun c4 _=>f.places.length-(intOf c4).toNat)
    case atStart=>exact⟨0,T,E,Nat.zero_le _,rfl,a5.out,SStep.of_below _ _ _ (Below.refl _ _),HP.out⟩
    case round=>
     obtain⟨m,l,A,hm,rfl,F,a,H⟩:=hrel;have i6:=a.below a5.out a7;have b2:=c8.out.keep i6;have a0:Hid _:=H;have b7:=a1.out.free c6.out;have f3:=(a.block _ b7).trans ((a1.out.block _ c6.out).trans Z.out);have c1:=(a.block _ a4.out).trans d5.out;have k0:wr.cell? ⟨w.heap.size,0,none⟩=some (.int .i64 (s.1:Nat)):=by simp[World.cell?,f3]
     have g0:wr.cell? ⟨c.heap.size,0,none⟩=some (.int .u64 lo):=by simp[World.cell?,c1]
     have g1:wr.cell? ⟨c.heap.size,1,none⟩=some (.int .u64 G):=by simp[World.cell?,c1]
     have j4:w.heap.size<wr.heap.size:=Nat.lt_of_lt_of_le b7.1 a.size;have g6:c.heap.size<wr.heap.size:=Nat.lt_of_lt_of_le a4.out.1 a.size;clear b7 f3 c1
     by_cases i9:m<f.places.length
     ·obtain⟨B3,o⟩:=b2.net
      obtain⟨g',rfl⟩:∃g,k4=some ⟨g,0,none⟩:=by
       obtain⟨k3,i,h2,h3⟩:=o.pls;obtain⟨g,i0,e,_⟩:=h3.form (by omega);injection e with e1;exact⟨g,e1⟩
      obtain⟨L,K,k6,k7,i5⟩:=o.placeAt i9;have r:=bQl f2 m f6 (by omega) (wr.alloc (.cells #[.int .u64 L,.int .u64 K] 157));have v:=A5 wr (.cells #[.int .u64 L,.int .u64 K] 157);have u:Hid _:=F.below v;have z:Hid _:=a.trans (SStep.of_below b d A v);have R:B<=(wr.alloc (.cells #[.int .u64 L,.int .u64 K] 157)).heap.size:=Nat.le_trans (Nat.le_trans a7 a.size) v.size;clear F a H b2 o v;cases j:f2.testBit m with
      | false=>
       rw[j]at r;have y:Hid _:=lQ9 a0.out (fun h=>by have i:=(iQm.1 h).2.1;rw[<-d8.out,j]at i;cases i);clear j;go_wp2_with fail;refine r.mono ?_;rintro e t ⟨rfl,rfl⟩;go_wp2_with fail;go_roundw
       case rel=>exact⟨m+1,l,A,by omega,by go_num,u.out,z.out,y.out⟩
       case measure=>simp[intOf];omega
      | true=>
       rw[j]at r;have hG:=xQs (wr.alloc (.cells #[.int .u64 L,.int .u64 K] 157)) i4 i5;have h0:Hid _:=j;clear j;go_wp2_with fail;refine r.mono ?_;rintro e t ⟨rfl,J⟩;rw[<-J]at u z hG R;have i7:t.cell? ⟨w.heap.size,0,none⟩=some (.int .i64 (s.1:Nat)):=by rw[J];exact((A5 wr _).cell (p:=⟨w.heap.size,0,none⟩) j4).trans k0
       have l0:t.cell? ⟨c.heap.size,0,none⟩=some (.int .u64 lo):=by rw[J];exact((A5 wr _).cell (p:=⟨c.heap.size,0,none⟩) g6).trans g0
       have l1:t.cell? ⟨c.heap.size,1,none⟩=some (.int .u64 G):=by rw[J];exact((A5 wr _).cell (p:=⟨c.heap.size,1,none⟩) g6).trans g1
       have b8:t.heap[wr.heap.size]?=some (.cells #[.int .u64 L,.int .u64 K] 157 (0,0)):=by rw[J];exact heap_alloc_new _ _
       have l2:t.cell? ⟨wr.heap.size,0,none⟩=some (.int .u64 L):=by simp[World.cell?,b8]
       have l3:t.cell? ⟨wr.heap.size,1,none⟩=some (.int .u64 K):=by simp[World.cell?,b8]
       have j7:w.heap.size<t.heap.size:=by rw[J];simp;omega
       clear b8 J r;go_wp2_with fail;refine hG.mono ?_;rintro e w3 ⟨h8,rfl,hb,a2⟩;have HB:Hid _:=hb;clear hb hG;have l7:w3.cell? ⟨w.heap.size,0,none⟩=some (.int .i64 (s.1:Nat)):=(a2.cell (p:=⟨w.heap.size,0,none⟩) j7).trans i7;have d4:Hid _:=u.out.below a2;have d6:Hid _:=z.out.trans (SStep.of_below b d A a2);have i3:B<=w3.heap.size:=Nat.le_trans R a2.size;cases h8 with
       | false=>
        have y:Hid _:=lQ9 a0.out (fun h=>by have i:=HB.out.2 (iQm.1 h).2.2;cases i);go_wp2_with fail;go_roundw
        case rel=>exact⟨m+1,l,A,by omega,by go_num,d4.out,d6.out,y.out⟩
        case measure=>simp[intOf];omega
       | true=>
        have h7:Hid (Ls.Stp (Ls.au n x) (Ls.au f C) s (s.1,k+1,m+1)):=iQm.2 ⟨by rw[<-d7.out];exact g9.out,by rw[<-d8.out];exact h0.out,HB.out.1 rfl⟩;have hC:=hQo (s.1,k+1,m+1) w3 B b d A (M++l) (O++l) d4.out i3 ⟨h1.out,by show k+1<33;omega,by show m+1<33;omega⟩;unfold G3 at hC;rw[show (((s.1,k+1,m+1):Ls.Pr).1:Nat)=s.1 from rfl,show ((((s.1,k+1,m+1):Ls.Pr).2.1:Nat):Int)-1=(k:Int) by simp,show ((((s.1,k+1,m+1):Ls.Pr).2.2:Nat):Int)-1=(m:Int) by simp]at hC;go_wp2_with fail;refine hC.mono ?_;rintro e w4 ⟨rfl,V3,T3,e9,i,h2,g4⟩;have y:Hid _:=zQd a0.out h7.out i (h2 _ rfl);have h4:Hid (Srch w4 B b d V3 (M++(l++T3)) (O++(l++T3))):=by
         rw[<-List.append_assoc,<-List.append_assoc];exact e9
        have h6:Hid _:=d6.out.trans g4;clear i h2 e9 g4 hC;go_wp2_with fail;go_roundw
        case rel=>exact⟨m+1,l++T3,V3,by omega,by go_num,h4.out,h6.out,y.out⟩
        case measure=>simp[intOf];omega
     ·have j0:f.places.length<=m:=by omega
      have y:Hid _:=zQa a0.out j0;have u:Hid _:=F;have z:Hid _:=a1.out.trans a;clear F a H b2;go_wp2_with fail;go_roundw
      case rel=>exact⟨k+1,l,A,by omega,by go_num,u.out,z.out,y.out⟩
      case measure=>simp[intOf];omega
  ·have l6:k=n.places.length:=by omega
   go_wp2_with fail;go_end0;refine⟨rfl,E,T,F,H.1,fun c5 ht=>H.2 c5 ht (.inl ?_),h5.out.trans a⟩;have:=aQg ht;omega
theorem aX0 (h:Ls.Reach (Ls.Stp (Ls.au n x) (Ls.au n' x')) (0,0,0) s):s.1=0/\s.2.1<=n.places.length/\s.2.2<=n'.places.length:=by
 refine h (fun s=>s.1=0/\s.2.1<=n.places.length/\s.2.2<=n'.places.length) ⟨rfl,Nat.zero_le _,Nat.zero_le _⟩ ?_;rintro a b ⟨d,_⟩ c;have:=aQg c;exact⟨c.1.trans d,by omega,by omega⟩
def J9 (M O:List Ls.Pr):Nat:=2*(3267-M.length)+O.length
theorem nQv {b a:Nat}{V:Value}{x:Ls.Pr}(h:Srch w B b a V (M++T) (O++T)):J9 (M++T) (O++T)<J9 M (O++[x]):=by
 have:=h.few;unfold J9;simp only[List.length_append,List.length_singleton]at this ⊢;omega
theorem nQo (h:0<O.length):∃a x,O=a++[x]:=by
 rcases List.eq_nil_or_concat O with e|⟨a,x,e⟩
 ·subst e;simp at h
 ·exact⟨a,x,by simpa using e⟩
def dQs (w:World)(F:Prop):Ending->World->Prop:=fun e w'=>∃b:Bool,e=.returned (.bool b)/\(b=true↔¬F)/\Bw w w'
theorem yQw (w:World)(n a:Ls.Net)(x b:Ls.Span)(hN:Nt w w.heap.size nb P Q n x)(a4:Nt w w.heap.size nb' P' Q' a b)
  (F:Prop) (hF:(∃s,Ls.Reach (Ls.Stp (Ls.au n x) (Ls.au a b)) (0,0,0) s/\Ls.lXu (Ls.au n x) (Ls.au a b) s)↔F) :
  Calls Tryz.prog 38 #[Pt nb,Pt nb'] w (dQs w F):=by
 have E:=lQs (0,0,0) w ⟨.inl rfl,by show 0<33;omega,by show 0<33;omega⟩;unfold G3 at E;rw[show ((((0,0,0):Ls.Pr).1:Nat):Int)=0 from rfl,show (0:Int)-1=-1 from rfl]at E;have HF:Hid ((∃s,Ls.Reach (Ls.Stp (Ls.au n x) (Ls.au a b)) (0,0,0) s/\Ls.lXu (Ls.au n x) (Ls.au a b) s)↔F):=hF;have HN:Hid _:=hN;have b1:Hid _:=a4;clear hN a4 hF;go_enter Tryz.func38,Tryz.ntmps38;go_wp2_with fail;refine E.mono ?_;rintro e w1 ⟨p,C,V,rfl,f,a6⟩;have b2:Hid _:=f;have a9:Hid _:=a6;clear f a6 E;go_wp2_with fail;go_loopg [6] (J9 [(0,0,0)] [(0,0,0)]) (fun b6 _ wr=>∃V M O,Srch wr w.heap.size p C V M O/\Below w.heap.size w wr/\Ls.Sch (Ls.Stp (Ls.au n x) (Ls.au a b)) (Ls.lXu (Ls.au n x) (Ls.au a b)) (0,0,0) M O/\b6=J9 M O)
 case atStart=>exact⟨V,_,_,b2.out,a9.out,Ls.Sch.start _ _ _,rfl⟩
 case round=>
  obtain⟨V1,M,O,f,I,J,rfl⟩:=hrel;obtain⟨va,vc,rfl⟩:=f.shape;have a7:=f.lies;have c1:wr.cell? ⟨p,1,none⟩=some (.slice va O.length vc):=by simp[World.cell?,a7]
  clear a7;rcases Nat.eq_zero_or_pos O.length with U|U
  ·have j:O=[]:=List.eq_nil_of_length_eq_zero U
   have HE:Hid (¬∃s,Ls.Reach (Ls.Stp (Ls.au n x) (Ls.au a b)) (0,0,0) s/\Ls.lXu (Ls.au n x) (Ls.au a b) s):=by
    subst j;exact J.none
   have hd:¬(0:Int)<(O.length:Int):=by omega
   clear j J f;go_wp2_with fail;go_ret;exact⟨true,rfl,⟨fun _ h=>HE.out (HF.out.2 h),fun _=>rfl⟩,I⟩
  ·have hd:(0:Int)<(O.length:Int):=by omega
   obtain⟨d,y,j⟩:=nQo U;have u:Hid (Ls.Sch (Ls.Stp (Ls.au n x) (Ls.au a b)) (Ls.lXu (Ls.au n x) (Ls.au a b)) (0,0,0) M (d++[y])):=by rw[<-j];exact J
   have W:=nQn wr w.heap.size p C (.slice va O.length vc) M d y (by rw[<-j];exact f);have b4:=I.size;have HB:Hid _:=I;have HK:Hid (J9 M O=J9 M (d++[y])):=by rw[j];rfl
   have b3:Hid (Srch wr w.heap.size p C (.slice va O.length vc) M O):=f;clear J f j I;unfold G3 at W;go_wp2_with fail;refine W.mono ?_;rintro e w2 ⟨rfl,V2,a5,a8⟩;have o:=aX0 (u.out.came y (u.out.sub y (by simp)));have Z:=HB.out.trans (a8.below b3.out b4);have a0:=A5 w2 (.cells #[.int .i64 (y.1:Nat),.int .i64 ((y.2.1:Int)-1),.int .i64 ((y.2.2:Int)-1)] 112);have b5:w.heap.size<=w2.heap.size:=Z.size;have A:=Z.trans (a0.mono b5);have G:=HN.out.keep A;have H:=b1.out.keep A;have Y:=a5.below a0;have X:=dQf nb nb' P Q P' Q' _ w.heap.size p C V2 M d Y A.size y (.inl o.1) n a x b G H o.2.1 o.2.2;have v:=G.net.elim fun L h=>bQ4 _ L nb P n Q x y.2.1 h G.lst o.2.1;have z:=H.net.elim fun L h=>bQ4 _ L nb' P' a Q' b y.2.2 h H.lst o.2.2;have b7:=heap_alloc_new w2 (.cells #[.int .i64 (y.1:Nat),.int .i64 ((y.2.1:Int)-1),.int .i64 ((y.2.2:Int)-1)] 112);have a2:Hid _:=Y;have q:Hid _:=A;unfold G3 at X;clear a5 a8 o Z a0 A G H Y W;have a3:∀(w':World) (g:Value) (T:List Ls.Pr),¬Ls.lXu (Ls.au n x) (Ls.au a b) y->Srch w' w.heap.size p C g (M++T) (d++T)->(∀t,t∈T->Ls.Stp (Ls.au n x) (Ls.au a b) y t)->(∀t,Ls.Stp (Ls.au n x) (Ls.au a b) y t->t∈M++T)->
     Ls.Sch (Ls.Stp (Ls.au n x) (Ls.au a b)) (Ls.lXu (Ls.au n x) (Ls.au a b)) (0,0,0) (M++T) (d++T)/\J9 (M++T) (d++T)<J9 M O:=
    fun w' g T c i h3 h4=>⟨u.out.next c h3 h4,by rw[HK.out];exact nQv i⟩
   have a1:Hid _:=a3;clear a3;cases l:(Ls.au n x).en y.2.1 with
   | false=>
    rw[l]at v;have R:Hid (¬Ls.lXu (Ls.au n x) (Ls.au a b) y):=fun h=>by have c:=h.1;rw[l]at c;cases c
    clear l z;go_wp2_with fail;refine v.mono ?_;rintro e K ⟨rfl,rfl⟩;go_wp2_with fail;refine X.mono ?_;rintro e w4 ⟨rfl,g,T,k,c,i,B⟩;have r:Hid _:=a1.out w4 g T R.out k c i;have S:Hid _:=k;have N:Hid _:=q.out.trans (B.below a2.out q.out.size);clear c i k B;go_wp2_with fail;go_roundg (J9 (M++T) (d++T))
    case rel=>exact⟨g,M++T,d++T,S.out,N.out,r.out.1,rfl⟩
    case measure=>exact r.out.2
   | true=>
    rw[l]at v;cases m:(Ls.au a b).en y.2.2 with
    | false=>
     rw[m]at z;have R:Hid (¬Ls.lXu (Ls.au n x) (Ls.au a b) y):=fun h=>by have c:=h.2;rw[m]at c;cases c
     clear l m;go_wp2_with fail;refine v.mono ?_;rintro e K ⟨rfl,rfl⟩;go_wp2_with fail;refine z.mono ?_;rintro e K ⟨rfl,rfl⟩;go_wp2_with fail;refine X.mono ?_;rintro e w4 ⟨rfl,g,T,k,c,i,B⟩;have r:Hid _:=a1.out w4 g T R.out k c i;have S:Hid _:=k;have N:Hid _:=q.out.trans (B.below a2.out q.out.size);clear c i k B;go_wp2_with fail;go_roundg (J9 (M++T) (d++T))
     case rel=>exact⟨g,M++T,d++T,S.out,N.out,r.out.1,rfl⟩
     case measure=>exact r.out.2
    | true=>
     rw[m]at z;have b0:Hid (∃s,Ls.Reach (Ls.Stp (Ls.au n x) (Ls.au a b)) (0,0,0) s/\Ls.lXu (Ls.au n x) (Ls.au a b) s):=⟨y,u.out.came y (u.out.sub y (by simp)),l,m⟩;clear l m;go_wp2_with fail;refine v.mono ?_;rintro e K ⟨rfl,rfl⟩;go_wp2_with fail;refine z.mono ?_;rintro e K ⟨rfl,rfl⟩;go_wp2_with fail;go_ret;exact⟨false,rfl,⟨fun h=>(by cases h),fun h=>absurd (HF.out.1 b0.out) h⟩,q.out⟩
end Go.Proofs.YtfklinjaajafgaaGreatDoor
