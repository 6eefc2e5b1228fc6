import Derived.Test.YtfklinjaajafgaaGreatDoorK47
import Derived.Test.YtfklinjaajafgaaGreatDoorK45
set_option maxRecDepth 100000
set_option maxHeartbeats 4000000
namespace Go.Proofs.YtfklinjaajafgaaGreatDoor
open Ls hiding none
open Go.RowKit
variable {B k m:Nat}{M O T:List Pr}{n n':Net}{s:Pr}{w:World}{x x':Span}(nb nb':Nat)(P Q P' Q':Value)
structure Nt (w:World)(B nb:Nat)(P Q:Value)(n:Net)(x:Span):Prop where
 net:∃B0,NetL w B0 nb P Q n x
 low:nb<B
 lowP:∀k,P.ownBlock=some k->k<B
 lowQ:∀k,Q.ownBlock=some k->k<B
 fst:x.first<4294967296
 lst:x.last<4294967296
theorem Nt.keep {d:World}{c:Nat}{P Q:Value}(h:Nt w B c P Q n x)(a:Below B w d):Nt d B c P Q n x:=by
 obtain⟨e,f⟩:=h.net;exact⟨⟨e,f.same (a.block _ h.low) (fun k b=>a.block k (h.lowP k b)) (fun k b=>a.block k (h.lowQ k b))⟩,h.low,h.lowP,h.lowQ,h.fst,h.lst⟩
def U6 (A C:Au)(s:Pr)(M T:List Pr)(k m:Nat):Prop:=
 (∀t,t∈T->Stp A C s t)/\∀t,Stp A C s t->t.2.1<=k\/(t.2.1=k+1/\t.2.2<=m)->t∈M++T
theorem aQg {t:Pr}(h:Stp (au n x) (au n' x') s t):0<t.2.1/\t.2.1<=n.places.length/\0<t.2.2/\t.2.2<=n'.places.length:=by
 obtain⟨_,_,_,c,a,b⟩:=h;obtain⟨i,d,f⟩:=nXg a;obtain⟨j,e,g⟩:=nXg b;omega
theorem zQk (n b:Net)(x c:Span)(s:Pr)(M:List Pr):U6 (au n x) (au b c) s M [] 0 0:=⟨by simp,fun t a d=>by have:=aQg a;omega⟩
theorem zQj (h:U6 (au n x) (au n' x') s M T k 0)(c:(au n x).nx s.2.1 (k+1)=false):U6 (au n x) (au n' x') s M T (k+1) 0:=by
 refine⟨h.1,fun t a d=>?_⟩;have f:=aQg a
 by_cases e:t.2.1=k+1
 ·have b:=a.2.1
  rw[e,c]at b;cases b
 ·exact h.2 t a (by omega)
theorem zQa (h:U6 (au n x) (au n' x') s M T k m)(c:n'.places.length<=m):U6 (au n x) (au n' x') s M T (k+1) 0:=⟨h.1,fun t a b=>h.2 t a (by have:=aQg a;omega)⟩
theorem lQ9 (h:U6 (au n x) (au n' x') s M T k m)(c:¬Stp (au n x) (au n' x') s (s.1,k+1,m+1)):U6 (au n x) (au n' x') s M T k (m+1):=by
 refine⟨h.1,fun t a d=>?_⟩
 by_cases e:t.2.1=k+1/\t.2.2=m+1
 ·refine absurd ?_ c
  have b:t=(s.1,k+1,m+1):=Prod.ext a.1 (Prod.ext e.1 e.2);rw[<-b];exact a
 ·exact h.2 t a (by omega)
theorem zQd {a:List Pr}(h:U6 (au n x) (au n' x') s M T k m)(i:Stp (au n x) (au n' x') s (s.1,k+1,m+1))(f:∀t,t∈a->t=(s.1,k+1,m+1))(g:(s.1,k+1,m+1)∈(M++T)++a):U6 (au n x) (au n' x') s M (T++a) k (m+1):=by
 refine⟨fun t j=>?_,fun t c l=>?_⟩
 ·rcases List.mem_append.1 j with b|b
  ·exact h.1 t b
  ·rw[f t b];exact i
 ·rw[<-List.append_assoc]
  by_cases e:t.2.1=k+1/\t.2.2=m+1
  ·have d:t=(s.1,k+1,m+1):=Prod.ext c.1 (Prod.ext e.1 e.2)
   rw[d];exact g
  ·exact List.mem_append_left _ (h.2 t c (by omega))
theorem iQm:Stp (au n x) (au n' x') s (s.1,k+1,m+1)↔(Z2 n x s.2.1).testBit k=true/\(Z2 n' x' s.2.2).testBit m=true/\∃c,Ls.has (n.places.getD k []) c=true/\Ls.has (n'.places.getD m []) c=true:=by
 constructor
 ·rintro ⟨_,a,b,d⟩
  exact⟨(cQ9 _ _ _ _).symm.trans a,(cQ9 _ _ _ _).symm.trans b,d⟩
 ·rintro ⟨a,b,d⟩
  exact⟨rfl,(cQ9 _ _ _ _).trans a,(cQ9 _ _ _ _).trans b,d⟩
theorem dQf (w:World)(B b d:Nat)(V:Value)(M O:List Pr)(h:Srch w B b d V M O)(hB:B<=w.heap.size)(s:Pr)(f8:s.1=0\/s.1=1\/s.1=2)
    (n f:Net) (x C:Span) (hN:Nt w B nb P Q n x) (e4:Nt w B nb' P' Q' f C) (j1:s.2.1<=n.places.length) (j2:s.2.2<=f.places.length) :
  Calls Tryz.prog 64 #[Pt b,G3 s,Pt nb,Pt nb'] w (dQw w B b d V M O (fun c5=>Stp (au n x) (au f C) s c5)):=by
 have X:=A5 w (.cells #[.int .i64 (s.1:Nat),.int .i64 ((s.2.1:Int)-1),.int .i64 ((s.2.2:Int)-1)] 112);have b4:(w.alloc (.cells #[.int .i64 (s.1:Nat),.int .i64 ((s.2.1:Int)-1),.int .i64 ((s.2.2:Int)-1)] 112)).heap[w.heap.size]?=some (.cells #[.int .i64 (s.1:Nat),.int .i64 ((s.2.1:Int)-1),.int .i64 ((s.2.2:Int)-1)] 112 (0,0)):=heap_alloc_new _ _;have e6:=h.below X;have e0:=h.free (.cells #[.int .i64 (s.1:Nat),.int .i64 ((s.2.1:Int)-1),.int .i64 ((s.2.2:Int)-1)] 112);have g2:=SStep.of_below b d V X;have a9:=hN.keep (X.mono hB);have b0:=e4.keep (X.mono hB);have h1:Hid _:=f8;unfold G3;go_enter Tryz.func64,Tryz.ntmps64;go_upto_region 1 with (fail);generalize w.alloc (.cells #[.int .i64 (s.1:Nat),.int .i64 ((s.2.1:Int)-1),.int .i64 ((s.2.2:Int)-1)] 112)=W at *;obtain⟨k0,k1,k2⟩:W.cell? ⟨w.heap.size,0,none⟩=some (.int .i64 (s.1:Nat))/\W.cell? ⟨w.heap.size,1,none⟩=some (.int .i64 ((s.2.1:Int)-1))/\W.cell? ⟨w.heap.size,2,none⟩=some (.int .i64 ((s.2.2:Int)-1)):=by
  refine⟨?_,?_,?_⟩<;>simp[World.cell?,b4]
 have H1:Hid (∀q,Calls Tryz.prog 96 #[.pointer (some ⟨nb,0,none⟩),.int .i64 ((s.2.1:Int)-1)] (W.drewN q) fun e w'=>e=.returned (.int .u32 (Z2 n x s.2.1))/\w'=W.drewN q):=fun q=>by
  obtain⟨Y,i⟩:=a9.net;exact lQv _ Y nb P n Q x _ (i.below (E5 q)) j1
 have H2:Hid (∀q,Calls Tryz.prog 96 #[.pointer (some ⟨nb',0,none⟩),.int .i64 ((s.2.2:Int)-1)] (W.drewN q) fun e w'=>e=.returned (.int .u32 (Z2 f C s.2.2))/\w'=W.drewN q):=fun q=>by
  obtain⟨Y,i⟩:=b0.net;exact lQv _ Y nb' P' f Q' C _ (i.below (E5 q)) j2
 have HM:Hid _:=a9;have c7:Hid _:=b0;have d2:Hid _:=e6;have a3:Hid _:=e0;have a6:Hid _:=g2;have Z:Hid _:=b4;clear a9 b0 e6 e0 g2 b4 X;generalize l4:((s.2.1:Int)-1)=i1 at *;generalize l5:((s.2.2:Int)-1)=i2 at *;go_wp2;go_quiet (first|(go_at_call_of 96 (Value.int .i64 i1);exact Calls.quiet_of_same (H1.out _))|(go_at_call_of 96 (Value.int .i64 i2);exact Calls.quiet_of_same (H2.out _)))
 obtain⟨N,b3⟩:∃N,N=W.drewN nq:=⟨_,rfl⟩;have I:Below W.heap.size W N:=by rw[b3];exact E5 nq
 have c2:B<=W.heap.size:=Nat.le_trans hB a6.out.size;have e7:=d2.out.below I;have e2:=(SStep.of_below b d V I).free a3.out;have b9:=a6.out.trans (SStep.of_below b d V I);have f4:=(I.block _ a3.out.1).trans Z.out;have S:=HM.out.keep (I.mono c2);have U:=c7.out.keep (I.mono c2);rw[<-b3];clear b3 I HM c7 d2 a3 a6 Z H1 H2 k0 k1 k2 c2;clear W;obtain⟨Y,o⟩:=S.net;obtain⟨k5,a8⟩:=U.net;have f5:=S.net.elim fun _ h=>h.nextV_lt S.fst s.2.1;have f6:=U.net.elim fun _ h=>h.nextV_lt U.fst s.2.2;obtain⟨pa,pc,rfl⟩:=o.shapeP;obtain⟨k4,l8,rfl⟩:=a8.shapeP;have c0:=o.c0;have k8:=o.few;have k9:=a8.few;have d9:B<=N.heap.size:=Nat.le_trans hB b9.size;have g7:Hid _:=S;have g8:Hid _:=U;have d3:Hid _:=e7;have c6:Hid _:=e2;have h5:Hid _:=b9;have Z:Hid _:=f4;obtain⟨f1,b5⟩:∃f1,f1=Z2 n x s.2.1:=⟨_,rfl⟩;obtain⟨f2,b6⟩:∃f2,f2=Z2 f C s.2.2:=⟨_,rfl⟩;rw[<-b5]at f5 ⊢;rw[<-b6]at f6 ⊢;have d7:Hid _:=b5;have d8:Hid _:=b6;clear b5 b6;clear o a8 S U e7 e2 b9 f4;go_wp2_with fail;go_loopw [27] (fun c3 wr=>∃k T E,k<=n.places.length/\c3=.int .i64 (k:Nat)/\Srch wr B b d E (M++T) (O++T)/\SStep N b d V wr E/\U6 (au n x) (au f C) s M T k 0) (fun c3 _=>n.places.length-(intOf c3).toNat)
 case atStart=>exact⟨0,[],V,Nat.zero_le _,rfl,by simpa using d3.out,SStep.of_below _ _ _ (Below.refl _ _),zQk n f x C s M⟩
 case round=>
  obtain⟨c,j3⟩:∃c,c=wr:=⟨_,rfl⟩;subst j3;obtain⟨k,T,E,hk,rfl,F,a,H⟩:=hrel;have f0:=a.below d3.out d9;have e5:=g7.out.keep f0;have HP:Hid _:=H
  by_cases i8:k<n.places.length
  ·obtain⟨B1,o⟩:=e5.net
   obtain⟨g,rfl⟩:∃g,pa=some ⟨g,0,none⟩:=by
    obtain⟨k3,i,h2,h3⟩:=o.pls;obtain⟨g,i0,e,_⟩:=h3.form (by omega);injection e with e1;exact⟨g,e1⟩
   obtain⟨lo,G,d0,d1,i4⟩:=o.placeAt i8;have r:=bQl f1 k f5 (by omega) (c.alloc (.cells #[.int .u64 lo,.int .u64 G] 157));have u:Hid _:=F;have z:Hid _:=a;have c9:Hid _:=g8.out.keep f0;have R:B<=c.heap.size:=Nat.le_trans d9 a.size;clear F a H e5 o;cases j:f1.testBit k with
   | false=>
    rw[j]at r;have y:Hid _:=zQj HP.out (by rw[cQ9,<-d7.out];exact j);clear j;go_wp2_with fail;refine r.mono ?_;rintro e w1 ⟨rfl,rfl⟩;go_wp2_with fail;go_roundw
    case rel=>exact⟨k+1,T,E,by omega,by go_num,u.out.below (A5 _ _),z.out.trans (SStep.of_below _ _ _ (A5 _ _)),y.out⟩
    case measure=>simp[intOf];omega
   | true=>
    rw[j]at r;have v:=A5 c (.cells #[.int .u64 lo,.int .u64 G] 157);have e8:=u.out.below v;have g3:=z.out.trans (SStep.of_below b d E v);have f9:(c.alloc (.cells #[.int .u64 lo,.int .u64 G] 157)).heap[c.heap.size]?=some (.cells #[.int .u64 lo,.int .u64 G] 157 (0,0)):=heap_alloc_new _ _;have f7:=u.out.free (.cells #[.int .u64 lo,.int .u64 G] 157);have b1:=c9.out.keep (v.mono R);obtain⟨B2,e3⟩:=b1.net;have h9:=e3.c0;have a7:B<=(c.alloc (.cells #[.int .u64 lo,.int .u64 G] 157)).heap.size:=Nat.le_trans R v.size;have a5:Hid _:=e8;have a1:Hid _:=g3;have d5:Hid _:=f9;have a4:Hid _:=f7;have c8:Hid _:=b1;have g9:Hid _:=j;clear e8 g3 f9 f7 b1 e3 v u z c9 j;go_wp2_with fail;refine r.mono ?_;rintro e w1 ⟨rfl,g5⟩;rw[<-g5]at a5 a1 d5 a4 c8 h9 a7;clear g5 r;go_wp2_with fail;go_loopw [41] (fun c4 t=>∃m l A,m<=f.places.length/\c4=.int .i64 (m:Nat)/\Srch t B b d A (M++l) (O++l)/\SStep w1 b d E t A/\U6 (au n x) (au f C) s M l k m) (fun c4 _=>f.places.length-(intOf c4).toNat)
    case atStart=>exact⟨0,T,E,Nat.zero_le _,rfl,a5.out,SStep.of_below _ _ _ (Below.refl _ _),HP.out⟩
    case round=>
     obtain⟨m,l,A,hm,rfl,F,a,H⟩:=hrel;have i6:=a.below a5.out a7;have b2:=c8.out.keep i6;have a0:Hid _:=H;have b7:=a1.out.free c6.out;have f3:=(a.block _ b7).trans ((a1.out.block _ c6.out).trans Z.out);have c1:=(a.block _ a4.out).trans d5.out;have k0:wr.cell? ⟨w.heap.size,0,none⟩=some (.int .i64 (s.1:Nat)):=by simp[World.cell?,f3]
     have g0:wr.cell? ⟨c.heap.size,0,none⟩=some (.int .u64 lo):=by simp[World.cell?,c1]
     have g1:wr.cell? ⟨c.heap.size,1,none⟩=some (.int .u64 G):=by simp[World.cell?,c1]
     have j4:w.heap.size<wr.heap.size:=Nat.lt_of_lt_of_le b7.1 a.size;have g6:c.heap.size<wr.heap.size:=Nat.lt_of_lt_of_le a4.out.1 a.size;clear b7 f3 c1
     by_cases i9:m<f.places.length
     ·obtain⟨B3,o⟩:=b2.net
      obtain⟨g',rfl⟩:∃g,k4=some ⟨g,0,none⟩:=by
       obtain⟨k3,i,h2,h3⟩:=o.pls;obtain⟨g,i0,e,_⟩:=h3.form (by omega);injection e with e1;exact⟨g,e1⟩
      obtain⟨L,K,k6,k7,i5⟩:=o.placeAt i9;have r:=bQl f2 m f6 (by omega) (wr.alloc (.cells #[.int .u64 L,.int .u64 K] 157));have v:=A5 wr (.cells #[.int .u64 L,.int .u64 K] 157);have u:Hid _:=F.below v;have z:Hid _:=a.trans (SStep.of_below b d A v);have R:B<=(wr.alloc (.cells #[.int .u64 L,.int .u64 K] 157)).heap.size:=Nat.le_trans (Nat.le_trans a7 a.size) v.size;clear F a H b2 o v;cases j:f2.testBit m with
      | false=>
       rw[j]at r;have y:Hid _:=lQ9 a0.out (fun h=>by have i:=(iQm.1 h).2.1;rw[<-d8.out,j]at i;cases i);clear j;go_wp2_with fail;refine r.mono ?_;rintro e t ⟨rfl,rfl⟩;go_wp2_with fail;go_roundw
       case rel=>exact⟨m+1,l,A,by omega,by go_num,u.out,z.out,y.out⟩
       case measure=>simp[intOf];omega
      | true=>
       rw[j]at r;have hG:=xQs (wr.alloc (.cells #[.int .u64 L,.int .u64 K] 157)) i4 i5;have h0:Hid _:=j;clear j;go_wp2_with fail;refine r.mono ?_;rintro e t ⟨rfl,J⟩;rw[<-J]at u z hG R;have i7:t.cell? ⟨w.heap.size,0,none⟩=some (.int .i64 (s.1:Nat)):=by rw[J];exact((A5 wr _).cell (p:=⟨w.heap.size,0,none⟩) j4).trans k0
       have l0:t.cell? ⟨c.heap.size,0,none⟩=some (.int .u64 lo):=by rw[J];exact((A5 wr _).cell (p:=⟨c.heap.size,0,none⟩) g6).trans g0
       have l1:t.cell? ⟨c.heap.size,1,none⟩=some (.int .u64 G):=by rw[J];exact((A5 wr _).cell (p:=⟨c.heap.size,1,none⟩) g6).trans g1
       have b8:t.heap[wr.heap.size]?=some (.cells #[.int .u64 L,.int .u64 K] 157 (0,0)):=by rw[J];exact heap_alloc_new _ _
       have l2:t.cell? ⟨wr.heap.size,0,none⟩=some (.int .u64 L):=by simp[World.cell?,b8]
       have l3:t.cell? ⟨wr.heap.size,1,none⟩=some (.int .u64 K):=by simp[World.cell?,b8]
       have j7:w.heap.size<t.heap.size:=by rw[J];simp;omega
       clear b8 J r;go_wp2_with fail;refine hG.mono ?_;rintro e w3 ⟨h8,rfl,hb,a2⟩;have HB:Hid _:=hb;clear hb hG;have l7:w3.cell? ⟨w.heap.size,0,none⟩=some (.int .i64 (s.1:Nat)):=(a2.cell (p:=⟨w.heap.size,0,none⟩) j7).trans i7;have d4:Hid _:=u.out.below a2;have d6:Hid _:=z.out.trans (SStep.of_below b d A a2);have i3:B<=w3.heap.size:=Nat.le_trans R a2.size;cases h8 with
       | false=>
        have y:Hid _:=lQ9 a0.out (fun h=>by have i:=HB.out.2 (iQm.1 h).2.2;cases i);go_wp2_with fail;go_roundw
        case rel=>exact⟨m+1,l,A,by omega,by go_num,d4.out,d6.out,y.out⟩
        case measure=>simp[intOf];omega
       | true=>
        have h7:Hid (Stp (au n x) (au f C) s (s.1,k+1,m+1)):=iQm.2 ⟨by rw[<-d7.out];exact g9.out,by rw[<-d8.out];exact h0.out,HB.out.1 rfl⟩;have hC:=hQo (s.1,k+1,m+1) w3 B b d A (M++l) (O++l) d4.out i3 ⟨h1.out,by show k+1<33;omega,by show m+1<33;omega⟩;unfold G3 at hC;rw[show (((s.1,k+1,m+1):Pr).1:Nat)=s.1 from rfl,show ((((s.1,k+1,m+1):Pr).2.1:Nat):Int)-1=(k:Int) by simp,show ((((s.1,k+1,m+1):Pr).2.2:Nat):Int)-1=(m:Int) by simp]at hC;go_wp2_with fail;refine hC.mono ?_;rintro e w4 ⟨rfl,V3,T3,e9,i,h2,g4⟩;have y:Hid _:=zQd a0.out h7.out i (h2 _ rfl);have h4:Hid (Srch w4 B b d V3 (M++(l++T3)) (O++(l++T3))):=by
         rw[<-List.append_assoc,<-List.append_assoc];exact e9
        have h6:Hid _:=d6.out.trans g4;clear i h2 e9 g4 hC;go_wp2_with fail;go_roundw
        case rel=>exact⟨m+1,l++T3,V3,by omega,by go_num,h4.out,h6.out,y.out⟩
        case measure=>simp[intOf];omega
     ·have j0:f.places.length<=m:=by omega
      have y:Hid _:=zQa a0.out j0;have u:Hid _:=F;have z:Hid _:=a1.out.trans a;clear F a H b2;go_wp2_with fail;go_roundw
      case rel=>exact⟨k+1,l,A,by omega,by go_num,u.out,z.out,y.out⟩
      case measure=>simp[intOf];omega
  ·have l6:k=n.places.length:=by omega
   go_wp2_with fail;go_end0;refine⟨rfl,E,T,F,H.1,fun c5 ht=>H.2 c5 ht (.inl ?_),h5.out.trans a⟩;have:=aQg ht;omega
theorem aX0 (h:Ls.Reach (Stp (au n x) (au n' x')) (0,0,0) s):s.1=0/\s.2.1<=n.places.length/\s.2.2<=n'.places.length:=by
 refine h (fun s=>s.1=0/\s.2.1<=n.places.length/\s.2.2<=n'.places.length) ⟨rfl,Nat.zero_le _,Nat.zero_le _⟩ ?_;rintro a b ⟨d,_⟩ c;have:=aQg c;exact⟨c.1.trans d,by omega,by omega⟩
def J9 (M O:List Pr):Nat:=2*(3267-M.length)+O.length
theorem nQv {b a:Nat}{V:Value}{x:Pr}(h:Srch w B b a V (M++T) (O++T)):J9 (M++T) (O++T)<J9 M (O++[x]):=by
 have:=h.few;unfold J9;simp only[List.length_append,List.length_singleton]at this ⊢;omega
theorem nQo (h:0<O.length):∃a x,O=a++[x]:=by
 rcases List.eq_nil_or_concat O with e|⟨a,x,e⟩
 ·subst e;simp at h
 ·exact⟨a,x,by simpa using e⟩
def dQs (w:World)(F:Prop):Ending->World->Prop:=fun e w'=>∃b:Bool,e=.returned (.bool b)/\(b=true↔¬F)/\Bw w w'
theorem yQw (w:World)(n a:Net)(x b:Span)(hN:Nt w w.heap.size nb P Q n x)(a4:Nt w w.heap.size nb' P' Q' a b)
  (F:Prop) (hF:(∃s,Ls.Reach (Stp (au n x) (au a b)) (0,0,0) s/\lXu (au n x) (au a b) s)↔F) :
  Calls Tryz.prog 38 #[Pt nb,Pt nb'] w (dQs w F):=by
 have E:=lQs (0,0,0) w ⟨.inl rfl,by show 0<33;omega,by show 0<33;omega⟩;unfold G3 at E;rw[show ((((0,0,0):Pr).1:Nat):Int)=0 from rfl,show (0:Int)-1=-1 from rfl]at E;have HF:Hid _:=hF;have HN:Hid _:=hN;have b1:Hid _:=a4;go_enter Tryz.func38,Tryz.ntmps38;go_wp2_with fail;refine E.mono ?_;rintro e w1 ⟨p,C,V,rfl,f,a6⟩;have b2:Hid _:=f;have a9:Hid _:=a6;go_wp2;go_loopg [6] (J9 [(0,0,0)] [(0,0,0)]) (fun b6 _ wr=>∃V M O,Srch wr w.heap.size p C V M O/\Below w.heap.size w wr/\Sch (Stp (au n x) (au a b)) (lXu (au n x) (au a b)) (0,0,0) M O/\b6=J9 M O)
 case atStart=>exact⟨V,_,_,b2.out,a9.out,Sch.start _ _ _,rfl⟩
 case round=>
  obtain⟨V1,M,O,f,I,J,rfl⟩:=hrel;obtain⟨va,vc,rfl⟩:=f.shape;have a7:=f.lies;have c1:wr.cell? ⟨p,1,none⟩=some (.slice va O.length vc):=by simp[World.cell?,a7]
  rcases Nat.eq_zero_or_pos O.length with U|U
  ·have j:=List.eq_nil_of_length_eq_zero U
   have HE:Hid (¬∃s,Ls.Reach (Stp (au n x) (au a b)) (0,0,0) s/\lXu (au n x) (au a b) s):=by
    subst j;exact J.none
   have hd:¬(0:Int)<(O.length:Int):=by omega
   go_wp2;go_ret;exact⟨true,rfl,⟨fun _ h=>HE.out (HF.out.2 h),fun _=>rfl⟩,I⟩
  ·have hd:(0:Int)<(O.length:Int):=by omega
   obtain⟨d,y,j⟩:=nQo U;have u:Hid (Sch (Stp (au n x) (au a b)) (lXu (au n x) (au a b)) (0,0,0) M (d++[y])):=by rw[<-j];exact J
   have W:=nQn wr w.heap.size p C (.slice va O.length vc) M d y (by rw[<-j];exact f);have b4:=I.size;have HB:Hid _:=I;have HK:Hid (J9 M O=J9 M (d++[y])):=by rw[j];rfl
   have b3:Hid _:=f;unfold G3 at W;go_wp2_with fail;refine W.mono ?_;rintro e w2 ⟨rfl,V2,a5,a8⟩;have o:=aX0 (u.out.came y (u.out.sub y (by simp)));have Z:=HB.out.trans (a8.below b3.out b4);have a0:=A5 w2 (.cells #[.int .i64 (y.1:Nat),.int .i64 ((y.2.1:Int)-1),.int .i64 ((y.2.2:Int)-1)] 112);have b5:w.heap.size<=w2.heap.size:=Z.size;have A:=Z.trans (a0.mono b5);have G:=HN.out.keep A;have H:=b1.out.keep A;have Y:=a5.below a0;have X:=dQf nb nb' P Q P' Q' _ w.heap.size p C V2 M d Y A.size y (.inl o.1) n a x b G H o.2.1 o.2.2;have v:=G.net.elim fun L h=>bQ4 _ L nb P n Q x y.2.1 h G.lst o.2.1;have z:=H.net.elim fun L h=>bQ4 _ L nb' P' a Q' b y.2.2 h H.lst o.2.2;have b7:=heap_alloc_new w2 (.cells #[.int .i64 (y.1:Nat),.int .i64 ((y.2.1:Int)-1),.int .i64 ((y.2.2:Int)-1)] 112);have a2:Hid _:=Y;have q:Hid _:=A;unfold G3 at X;clear a5 a8 o Z a0 A G H Y W;have a3:∀(w':World) (g:Value) (T:List Pr),¬lXu (au n x) (au a b) y->Srch w' w.heap.size p C g (M++T) (d++T)->(∀t,t∈T->Stp (au n x) (au a b) y t)->(∀t,Stp (au n x) (au a b) y t->t∈M++T)->
     Sch (Stp (au n x) (au a b)) (lXu (au n x) (au a b)) (0,0,0) (M++T) (d++T)/\J9 (M++T) (d++T)<J9 M O:=
    fun w' g T c i h3 h4=>⟨u.out.next c h3 h4,by rw[HK.out];exact nQv i⟩
   have a1:Hid _:=a3;clear a3;cases l:(au n x).en y.2.1 with
   | false=>
    rw[l]at v;have R:Hid (¬lXu (au n x) (au a b) y):=fun h=>by have c:=h.1;rw[l]at c;cases c
    clear l z;go_wp2_with fail;refine v.mono ?_;rintro e K ⟨rfl,rfl⟩;go_wp2_with fail;refine X.mono ?_;rintro e w4 ⟨rfl,g,T,k,c,i,B⟩;have r:Hid _:=a1.out w4 g T R.out k c i;have S:Hid _:=k;have N:Hid _:=q.out.trans (B.below a2.out q.out.size);clear c i k B;go_wp2_with fail;go_roundg (J9 (M++T) (d++T))
    case rel=>exact⟨g,M++T,d++T,S.out,N.out,r.out.1,rfl⟩
    case measure=>exact r.out.2
   | true=>
    rw[l]at v;cases m:(au a b).en y.2.2 with
    | false=>
     rw[m]at z;have R:Hid (¬lXu (au n x) (au a b) y):=fun h=>by have c:=h.2;rw[m]at c;cases c
     clear l m;go_wp2_with fail;refine v.mono ?_;rintro e K ⟨rfl,rfl⟩;go_wp2_with fail;refine z.mono ?_;rintro e K ⟨rfl,rfl⟩;go_wp2_with fail;refine X.mono ?_;rintro e w4 ⟨rfl,g,T,k,c,i,B⟩;have r:Hid _:=a1.out w4 g T R.out k c i;have S:Hid _:=k;have N:Hid _:=q.out.trans (B.below a2.out q.out.size);clear c i k B;go_wp2_with fail;go_roundg (J9 (M++T) (d++T))
     case rel=>exact⟨g,M++T,d++T,S.out,N.out,r.out.1,rfl⟩
     case measure=>exact r.out.2
    | true=>
     rw[m]at z;have b0:Hid (∃s,Ls.Reach (Stp (au n x) (au a b)) (0,0,0) s/\lXu (au n x) (au a b) s):=⟨y,u.out.came y (u.out.sub y (by simp)),l,m⟩;clear l m;go_wp2_with fail;refine v.mono ?_;rintro e K ⟨rfl,rfl⟩;go_wp2_with fail;refine z.mono ?_;rintro e K ⟨rfl,rfl⟩;go_wp2_with fail;go_ret;exact⟨false,rfl,⟨fun h=>(by cases h),fun h=>absurd (HF.out.1 b0.out) h⟩,q.out⟩
variable {A C:Au}{t y:Pr}
theorem aX1 {n d:Net}{x g:Span}{s:Pr}(h:Ls.Reach (NxO (au n x) (au d g)) (0,0,0) s) :
  (s.1=0/\s.2.1<=n.places.length/\s.2.2<=n.places.length)\/(s.1=1/\s.2.1<=d.places.length/\s.2.2<=n.places.length)\/(s.1=2/\s.2.1<=d.places.length/\s.2.2<=d.places.length):=by
 refine h (fun s=>(s.1=0/\s.2.1<=n.places.length/\s.2.2<=n.places.length)\/(s.1=1/\s.2.1<=d.places.length/\s.2.2<=n.places.length)\/(s.1=2/\s.2.1<=d.places.length/\s.2.2<=d.places.length)) (.inl ⟨rfl,Nat.zero_le _,Nat.zero_le _⟩) ?_;rintro a b f (⟨e,c|⟨_,c⟩⟩|⟨e,c|⟨_,rfl⟩⟩|⟨e,c⟩)
 ·have:=aQg c
  exact .inl ⟨c.1.trans e,by omega,by omega⟩
 ·have:=aQg c
  exact .inr (.inl ⟨c.1,by omega,by omega⟩)
 ·have:=aQg c
  exact .inr (.inl ⟨c.1.trans e,by omega,by omega⟩)
 ·rcases f with f|f|f
  ·omega
  ·exact .inr (.inr ⟨rfl,f.2.1,Nat.zero_le _⟩)
  ·omega
 ·have:=aQg c
  exact .inr (.inr ⟨c.1.trans e,by omega,by omega⟩)
theorem hQs (h:y.1=0):NxO A C y t↔Stp A A y t\/(A.en y.2.1=true/\Stp C A (1,0,y.2.2) t):=by
 unfold NxO;simp[h]
theorem hQt (h:y.1=1):NxO A C y t↔Stp C A y t\/(A.en y.2.2=true/\t=(2,y.2.1,0)):=by
 unfold NxO;simp[h]
theorem fQd (h:y.1=2):NxO A C y t↔Stp C C y t:=by
 unfold NxO;simp[h]
theorem lQr {S S' N:Pr->Prop}{M T a:List Pr}(b:∀t,N t↔S t\/S' t)(d:∀t,t∈T->S t)(e:∀t,S t->t∈M++T)(f:∀t,t∈a->S' t)(g:∀t,S' t->t∈(M++T)++a):(∀t,t∈T++a->N t)/\∀t,N t->t∈M++(T++a):=by
 refine⟨fun t c=>?_,fun t c=>?_⟩
 ·rcases List.mem_append.1 c with h|h
  ·exact(b t).2 (.inl (d t h))
  ·exact(b t).2 (.inr (f t h))
 ·rw[<-List.append_assoc]
  rcases (b t).1 c with h|h
  ·exact List.mem_append_left _ (e t h)
  ·exact g t h
theorem nQ8 {W:World}{g:Nat}{a b c:Value}{t:TypeId}(h:W.heap[g]?=some (.cells #[a,b,c] t (0,0))):W.cell? ⟨g,0,none⟩=some a/\W.cell? ⟨g,1,none⟩=some b/\W.cell? ⟨g,2,none⟩=some c:=by
 refine⟨?_,?_,?_⟩<;>simp[World.cell?,h]
theorem yQx (w:World)(U V:Nat)(P Q X Y:Value)(n a:Net)(x b:Span)(hN:Nt w w.heap.size U P Q n x)(c8:Nt w w.heap.size V X Y a b)
  (b6:Prop) (hF:(∃s,Ls.Reach (NxO (au n x) (au a b)) (0,0,0) s/\lXd (au a b) s)↔b6) :
  Calls Tryz.prog 37 #[Pt U,Pt V] w (dQs w b6):=by
 have hC:=lQs (0,0,0) w ⟨.inl rfl,by show 0<33;omega,by show 0<33;omega⟩;unfold G3 at hC;rw[show ((((0,0,0):Pr).1:Nat):Int)=0 from rfl,show (0:Int)-1=-1 from rfl]at hC;have HF:Hid ((∃s,Ls.Reach (NxO (au n x) (au a b)) (0,0,0) s/\lXd (au a b) s)↔b6):=hF;have HN:Hid _:=hN;have b9:Hid _:=c8;clear hN c8 hF;go_enter Tryz.func37,Tryz.ntmps37;go_wp2_with fail;refine hC.mono ?_;rintro e w1 ⟨v,C,c0,rfl,K,d3⟩;have d8:Hid _:=K;have d6:Hid _:=d3;clear K d3 hC;go_wp2_with fail;go_loopg [6] (J9 [(0,0,0)] [(0,0,0)]) (fun e3 _ wr=>∃c0 M O,Srch wr w.heap.size v C c0 M O/\Below w.heap.size w wr/\Sch (NxO (au n x) (au a b)) (lXd (au a b)) (0,0,0) M O/\e3=J9 M O)
 case atStart=>exact⟨c0,_,_,d8.out,d6.out,Sch.start _ _ _,rfl⟩
 case round=>
  obtain⟨V1,M,O,K,hb,b5,rfl⟩:=hrel;obtain⟨va,vc,rfl⟩:=K.shape;have d4:=K.lies;have c1:wr.cell? ⟨v,1,none⟩=some (.slice va O.length vc):=by simp[World.cell?,d4]
  clear d4;rcases Nat.eq_zero_or_pos O.length with h0|h0
  ·have hO:O=[]:=List.eq_nil_of_length_eq_zero h0
   have HE:Hid (¬∃s,Ls.Reach (NxO (au n x) (au a b)) (0,0,0) s/\lXd (au a b) s):=by
    subst hO;exact b5.none
   have hd:¬(0:Int)<(O.length:Int):=by omega
   clear hO b5 K;go_wp2_with fail;go_ret;exact⟨true,rfl,⟨fun _ h=>HE.out (HF.out.2 h),fun _=>rfl⟩,hb⟩
  ·have hd:(0:Int)<(O.length:Int):=by omega
   obtain⟨c,y,hO⟩:=nQo h0;have a8:Hid (Sch (NxO (au n x) (au a b)) (lXd (au a b)) (0,0,0) M (c++[y])):=by rw[<-hO];exact b5
   have hD:=nQn wr w.heap.size v C (.slice va O.length vc) M c y (by rw[<-hO];exact K);have e0:=hb.size;have HB:Hid _:=hb;have HK:Hid (J9 M O=J9 M (c++[y])):=by rw[hO];rfl
   have d9:Hid (Srch wr w.heap.size v C (.slice va O.length vc) M O):=K;clear b5 K hO hb;unfold G3 at hD;go_wp2_with fail;refine hD.mono ?_;rintro e w2 ⟨rfl,V2,c2,d5⟩;have e2:=aX1 (a8.out.came y (a8.out.sub y (by simp)));have c3:=HB.out.trans (d5.below d9.out e0);have c4:=A5 w2 (.cells #[.int .i64 (y.1:Nat),.int .i64 ((y.2.1:Int)-1),.int .i64 ((y.2.2:Int)-1)] 112);have e1:w.heap.size<=w2.heap.size:=c3.size;have b4:=c3.trans (c4.mono e1);have c9:=HN.out.keep b4;have d0:=b9.out.keep b4;have d2:=c2.below c4;have c7:=c2.free (.cells #[.int .i64 (y.1:Nat),.int .i64 ((y.2.1:Int)-1),.int .i64 ((y.2.2:Int)-1)] 112);have c5:=heap_alloc_new w2 (.cells #[.int .i64 (y.1:Nat),.int .i64 ((y.2.1:Int)-1),.int .i64 ((y.2.2:Int)-1)] 112);have G:Hid _:=d2;have j:Hid _:=b4;have a6:Hid _:=c7;have a2:Hid _:=c5;have a4:Hid _:=c9;have F:Hid _:=d0;clear c2 d5 c3 c4 b4 d2 hD c7 c5 c9 d0;have c6:∀(w':World) (i:Value) (T:List Pr),¬lXd (au a b) y->Srch w' w.heap.size v C i (M++T) (c++T)->(∀t,t∈T->NxO (au n x) (au a b) y t)->(∀t,NxO (au n x) (au a b) y t->t∈M++T)->
     Sch (NxO (au n x) (au a b)) (lXd (au a b)) (0,0,0) (M++T) (c++T)/\J9 (M++T) (c++T)<J9 M O:=
    fun w' i T f r h3 h4=>⟨a8.out.next f h3 h4,by rw[HK.out];exact nQv r⟩
   have a3:Hid _:=c6;clear c6 HK;rcases e2 with⟨o,a0,S⟩|⟨o,a0,S⟩|⟨o,a0,S⟩
   ·have L:((y.1:Nat):Int)=0:=by rw[o];rfl
    rw[L]at G a6 a2 a4 F j;have I:Hid (¬lXd (au a b) y):=fun h=>by have:=h.1;omega
    have p:=dQf U U P Q P Q _ w.heap.size v C V2 M c G.out j.out.size y (.inl o) n n x x a4.out a4.out a0 S;unfold G3 at p;rw[L]at p;have q:Hid (y.1=0):=o;clear o;go_wp2_with fail;refine p.mono ?_;rintro e E ⟨rfl,i,T,l,f,r,u⟩;have H:=j.out.trans (u.below G.out j.out.size);have R:=HN.out.keep H;have d1:=b9.out.keep H;have b2:=(u.block _ a6.out).trans a2.out;obtain⟨_,k1,k2⟩:=nQ8 b2;have J:=R.net.elim fun W h=>bQ4 E W U P n Q x y.2.1 h R.lst a0;have B:=dQf V U X Y P Q E w.heap.size v C i (M++T) (c++T) l H.size (1,0,y.2.2) (.inr (.inl rfl)) a n b x d1 R (Nat.zero_le _) S;unfold G3 at B;rw[show ((((1,0,y.2.2):Pr).1:Nat):Int)=1 from rfl,show ((((1,0,y.2.2):Pr).2.1:Nat):Int)-1=-1 from rfl,show (((1,0,y.2.2):Pr).2.2:Nat)=y.2.2 from rfl]at B;have H1:Hid (∀t,t∈T->Stp (au n x) (au n x) y t):=f;have H2:Hid (∀t,Stp (au n x) (au n x) y t->t∈M++T):=r;have A:Hid _:=l;have z:Hid _:=H;clear f r l H u b2 R d1 p;cases d:(au n x).en y.2.1 with
    | false=>
     rw[d]at J;have g:Hid _:=a3.out E i T I.out A.out (fun t m=>(hQs q.out).2 (.inl (H1.out t m))) (fun t m=>by
      rcases (hQs q.out).1 m with h|⟨h,_⟩
      ·exact H2.out t h
      ·rw[d]at h;cases h)
     clear d B;go_wp2_with fail;refine J.mono ?_;rintro e w5 ⟨rfl,rfl⟩;go_wp2_with fail;go_roundg (J9 (M++T) (c++T))
     case rel=>exact⟨i,M++T,c++T,A.out,z.out,g.out.1,rfl⟩
     case measure=>exact g.out.2
    | true=>
     rw[d]at J;have b8:Hid ((au n x).en y.2.1=true):=d;clear d;go_wp2_with fail;refine J.mono ?_;rintro e w5 ⟨rfl,rfl⟩;go_wp2_with fail;refine B.mono ?_;rintro e w6 ⟨rfl,Z,k,b1,h3,h4,b3⟩;have a7:Hid (Srch w6 w.heap.size v C Z (M++(T++k)) (c++(T++k))):=by rw[<-List.append_assoc,<-List.append_assoc];exact b1
     have a1:=lQr (N:=fun t=>NxO (au n x) (au a b) y t) (S':=fun t=>Stp (au a b) (au n x) (1,0,y.2.2) t) (fun t=>(hQs q.out).trans (by rw[b8.out];simp)) H1.out H2.out h3 h4;have g:Hid _:=a3.out w6 Z (T++k) I.out a7.out a1.1 a1.2;have b7:Hid _:=z.out.trans (b3.below A.out z.out.size);clear h3 h4 b1 b3 a1 B;go_wp2_with fail;go_roundg (J9 (M++(T++k)) (c++(T++k)))
     case rel=>exact⟨Z,M++(T++k),c++(T++k),a7.out,b7.out,g.out.1,rfl⟩
     case measure=>exact g.out.2
   ·have L:((y.1:Nat):Int)=1:=by rw[o];rfl
    rw[L]at G a6 a2 a4 F j;have I:Hid (¬lXd (au a b) y):=fun h=>by have:=h.1;omega
    have p:=dQf V U X Y P Q _ w.heap.size v C V2 M c G.out j.out.size y (.inr (.inl o)) a n b x F.out a4.out a0 S;unfold G3 at p;rw[L]at p;have q:Hid (y.1=1):=o;clear o;go_wp2_with fail;refine p.mono ?_;rintro e E ⟨rfl,i,T,l,f,r,u⟩;have H:=j.out.trans (u.below G.out j.out.size);have R:=HN.out.keep H;have e4:=b9.out.net.elim fun _ h=>h.few;have b2:=(u.block _ a6.out).trans a2.out;obtain⟨_,k1,k2⟩:=nQ8 b2;have J:=R.net.elim fun W h=>bQ4 E W U P n Q x y.2.2 h R.lst S;have B:=hQo (2,y.2.1,0) E w.heap.size v C i (M++T) (c++T) l H.size ⟨.inr (.inr rfl),by show y.2.1<33;omega,by show 0<33;omega⟩;unfold G3 at B;rw[show ((((2,y.2.1,0):Pr).1:Nat):Int)=2 from rfl,show ((((2,y.2.1,0):Pr).2.2:Nat):Int)-1=-1 from rfl,show (((2,y.2.1,0):Pr).2.1:Nat)=y.2.1 from rfl]at B;have H1:Hid (∀t,t∈T->Stp (au a b) (au n x) y t):=f;have H2:Hid (∀t,Stp (au a b) (au n x) y t->t∈M++T):=r;have A:Hid _:=l;have z:Hid _:=H;clear f r l H u b2 R p;cases d:(au n x).en y.2.2 with
    | false=>
     rw[d]at J;have g:Hid _:=a3.out E i T I.out A.out (fun t m=>(hQt q.out).2 (.inl (H1.out t m))) (fun t m=>by
      rcases (hQt q.out).1 m with h|⟨h,_⟩
      ·exact H2.out t h
      ·rw[d]at h;cases h)
     clear d B;go_wp2_with fail;refine J.mono ?_;rintro e w5 ⟨rfl,rfl⟩;go_wp2_with fail;go_roundg (J9 (M++T) (c++T))
     case rel=>exact⟨i,M++T,c++T,A.out,z.out,g.out.1,rfl⟩
     case measure=>exact g.out.2
    | true=>
     rw[d]at J;have b8:Hid ((au n x).en y.2.2=true):=d;clear d;go_wp2_with fail;refine J.mono ?_;rintro e w5 ⟨rfl,rfl⟩;go_wp2_with fail;refine B.mono ?_;rintro e w6 ⟨rfl,Z,k,b1,h3,h4,b3⟩;have a7:Hid (Srch w6 w.heap.size v C Z (M++(T++k)) (c++(T++k))):=by rw[<-List.append_assoc,<-List.append_assoc];exact b1
     have a1:=lQr (N:=fun t=>NxO (au n x) (au a b) y t) (S':=fun t=>t=(2,y.2.1,0)) (fun t=>(hQt q.out).trans (by rw[b8.out];simp)) H1.out H2.out h3 h4;have g:Hid _:=a3.out w6 Z (T++k) I.out a7.out a1.1 a1.2;have b7:Hid _:=z.out.trans (b3.below A.out z.out.size);clear h3 h4 b1 b3 a1 B;go_wp2_with fail;go_roundg (J9 (M++(T++k)) (c++(T++k)))
     case rel=>exact⟨Z,M++(T++k),c++(T++k),a7.out,b7.out,g.out.1,rfl⟩
     case measure=>exact g.out.2
   ·have L:((y.1:Nat):Int)=2:=by rw[o];rfl
    rw[L]at G a6 a2 a4 F j;have p:=dQf V V X Y X Y _ w.heap.size v C V2 M c G.out j.out.size y (.inr (.inr o)) a a b b F.out F.out a0 S;unfold G3 at p;rw[L]at p;have q:Hid (y.1=2):=o;clear o;have a9:=F.out.net.elim fun W h=>bQ4 _ W V X a Y b y.2.1 h F.out.lst a0;have b0:=F.out.net.elim fun W h=>bQ4 _ W V X a Y b y.2.2 h F.out.lst S;have c5:=a2.out;cases d:(au a b).en y.2.1 with
    | false=>
     rw[d]at a9;have I:Hid (¬lXd (au a b) y):=fun h=>by have f:=h.2.1;rw[d]at f;cases f
     clear d b0;go_wp2_with fail;refine a9.mono ?_;rintro e w3 ⟨rfl,rfl⟩;go_wp2_with fail;refine p.mono ?_;rintro e E ⟨rfl,i,T,l,f,r,u⟩;have g:Hid _:=a3.out E i T I.out l (fun t m=>(fQd q.out).2 (f t m)) (fun t m=>r t ((fQd q.out).1 m));have A:Hid _:=l;have z:Hid _:=j.out.trans (u.below G.out j.out.size);clear f r l u;go_wp2_with fail;go_roundg (J9 (M++T) (c++T))
     case rel=>exact⟨i,M++T,c++T,A.out,z.out,g.out.1,rfl⟩
     case measure=>exact g.out.2
    | true=>
     rw[d]at a9;cases a5:(au a b).en y.2.2 with
     | false=>
      rw[a5]at b0;have I:Hid (¬lXd (au a b) y):=fun h=>by have f:=h.2.2;rw[a5]at f;cases f
      clear d a5;go_wp2_with fail;refine a9.mono ?_;rintro e w3 ⟨rfl,rfl⟩;go_wp2_with fail;refine b0.mono ?_;rintro e w3 ⟨rfl,rfl⟩;go_wp2_with fail;refine p.mono ?_;rintro e E ⟨rfl,i,T,l,f,r,u⟩;have g:Hid _:=a3.out E i T I.out l (fun t m=>(fQd q.out).2 (f t m)) (fun t m=>r t ((fQd q.out).1 m));have A:Hid _:=l;have z:Hid _:=j.out.trans (u.below G.out j.out.size);clear f r l u;go_wp2_with fail;go_roundg (J9 (M++T) (c++T))
      case rel=>exact⟨i,M++T,c++T,A.out,z.out,g.out.1,rfl⟩
      case measure=>exact g.out.2
     | true=>
      rw[a5]at b0;have d7:Hid (∃s,Ls.Reach (NxO (au n x) (au a b)) (0,0,0) s/\lXd (au a b) s):=⟨y,a8.out.came y (a8.out.sub y (by simp)),q.out,d,a5⟩;clear d a5;go_wp2_with fail;refine a9.mono ?_;rintro e w3 ⟨rfl,rfl⟩;go_wp2_with fail;refine b0.mono ?_;rintro e w3 ⟨rfl,rfl⟩;go_wp2_with fail;go_ret;exact⟨false,rfl,⟨fun h=>(by cases h),fun h=>absurd (HF.out.1 d7.out) h⟩,j.out⟩
end Go.Proofs.YtfklinjaajafgaaGreatDoor
namespace Go.Proofs.YtfklinjaajafgaaGreatDoor
open Ls hiding none
variable {d e:Ls.D}(u:Lu)
theorem xQa (n:Net)(x:Span):Lg (au n x) u↔cQ0 n x u:=by
 cases u with
 | nil=>
  constructor
  ·rintro ⟨q,a,b⟩
   simp only[Wk]at a;subst a;exact b
  ·intro h;exact⟨0,rfl,h⟩
 | cons c u=>
  constructor
  ·rintro ⟨r,⟨q,a,b,d⟩,e⟩
   cases q with
   | zero=>rw[jX7]at a;cases a
   | succ q=>exact⟨q,a,b,(lXc n x u q).2 ⟨r,d,e⟩⟩
  ·rintro ⟨q,a,b,f⟩
   obtain⟨r,d,e⟩:=(lXc n x u q).1 f;exact⟨r,⟨q+1,a,b,d⟩,e⟩
abbrev aQt (d:Ls.D):Au:=au (Ls.add d I7).1 (Ls.add d I7).2
theorem eQ5 (h:Wd 0 d)(u:Lu):Lg (aQt d) u↔inL (eX5 d) u:=(xQa u _ _).trans (lQc h u)
theorem rQv (a:Wd 0 d)(b:Wd 0 e):(∃s,Ls.Reach (Stp (aQt d) (aQt e)) (0,0,0) s/\lXu (aQt d) (aQt e) s)↔jX2 (eX5 d) (eX5 e):=by
 rw[kX4];unfold jX2;simp only[eQ5 a,eQ5 b]
theorem eXc (a:Wd 0 d)(b:Wd 0 e):(∃s,Ls.Reach (NxO (aQt d) (aQt e)) (0,0,0) s/\lXd (aQt e) s)↔fXb (eX5 d) (eX5 e):=by
 rw[lXq];unfold fXb;simp only[eQ5 a,eQ5 b]
end Go.Proofs.YtfklinjaajafgaaGreatDoor
namespace Go.Proofs.YtfklinjaajafgaaGreatDoor
open Ls hiding none
open Go.RowKit
theorem NetL.nt {w:World}{B b:Nat}{P Q:Value}{n:Net}{x:Span}(h:NetL w B b P Q n x)(d:x.first<4294967296)(e:x.last<4294967296):Nt w w.heap.size b P Q n x:=by
 obtain⟨f,_,_,c⟩:=h.pls;exact⟨⟨B,h⟩,h.lt,fun k a=>(c.lt k a).2,fun k a=>(h.bhs.lt k a).2,d,e⟩
def iQw (f:FuncId)(F:Pat->Pat->Prop):Prop:=∀(w:World) (nb nb':Nat) (P Q P' Q':Value) (d d':Ls.D),Wd 0 d->Wd 0 d'->Nt w w.heap.size nb P Q (Ls.add d I7).1 (Ls.add d I7).2->Nt w w.heap.size nb' P' Q' (Ls.add d' I7).1 (Ls.add d' I7).2->
 Ca f #[.pointer (some ⟨nb,0,none⟩),.pointer (some ⟨nb',0,none⟩)] w (dQs w (F (eX5 d) (eX5 d')))
theorem rQn:iQw 38 jX2:=fun w f g P Q a b _ _ d e h c=>yQw f g P Q a b w _ _ _ _ h c _ (rQv d e)
theorem jQd:iQw 37 fXb:=fun w f g P Q a b _ _ d e h c=>yQx w f g P Q a b _ _ _ _ h c _ (eXc d e)
end Go.Proofs.YtfklinjaajafgaaGreatDoor
