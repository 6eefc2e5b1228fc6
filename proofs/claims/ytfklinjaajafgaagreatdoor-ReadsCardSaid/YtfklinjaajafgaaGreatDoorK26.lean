import Derived.Test.YtfklinjaajafgaaGreatDoorK25
set_option maxRecDepth 100000
set_option maxHeartbeats 4000000
namespace Go.Proofs.YtfklinjaajafgaaGreatDoor
open Go.RowKit
variable {G G':Nat->Prop}{P:List UInt8->Ls.Rd}{Q:List UInt8->Ls.Rl}{W W' W2:World}{a l:Ls.Ln}{b1 t1:Option Addr}{b2 b3 g i i' i1 i2 j t2 t3 z z' z2 zj:Nat}{bad:Bool}{p:Ls.Pat}{res:Ls.Rl}{s:ByteArray}{y:Value}(k D:Nat)(ws:List UInt8)(pb:Nat)(w:World)(x:Value)
def jQ0 (r:Ls.Rd):Ls.Rl:=match r with
 | .none=>.none
 | some (d,u)=>some (Ls.fXs d,u)
theorem sQc {b:Ls.Rd}(h:F8 b s z i' z' bad p)(e:PV W G p y):CaseL W G (jQ0 b) s z i' z' bad 0 p [] y (.slice none 0 0):=by
 rcases h with⟨rfl,a⟩|⟨rfl,d,a,rfl,rfl,c⟩
 ·exact .inl ⟨rfl,by rw[a];rfl⟩
 ·refine .inr ⟨rfl,Ls.fXs d,by rw[a];rfl,rfl,rfl,rfl,by rw[Ls.hX8],c,?_⟩
  show NV W G ⟨0,d,[],[]⟩ y (.slice none 0 0);rw[NV];exact⟨e,rfl⟩
theorem yQ9 (s:ByteArray)(hs:s.size<=1048576)(a7:gQc s D)(i z:Nat)(h:PB w pb s i z false)(hi:i<s.size)(hz:z<=1048576+i)(C:nx s i=47) :
  Calls Tryz.prog 108 #[Pt pb,Iv (D:Int)] w (LPost w pb s i z (Ls.fXk (Ls.pat (13-D)) (Ls.fXa (12-D)) (rest s i))):=by
 have HR:Hid (Ls.fXk (Ls.pat (13-D)) (Ls.fXa (12-D)) (rest s i)=S8 (jQ0 (Ls.fXj (Ls.pat (13-D)) (rest s (i+1))))):=by
  show _=_;rw[D4 hi,C];show (match Ls.fXj (Ls.pat (13-D)) (rest s (i+1)) with|.none=>(.none:Ls.Rl)|some (d,u)=>some (Ls.fX9 (Ls.fXs d) u))=_;cases Ls.fXj (Ls.pat (13-D)) (rest s (i+1)) with
  | none=>rfl
  | some c1=>rfl
 have Hc:Hid (nx s i=47):=C;clear C;have b6:=h.lt;have b4:¬w.heap.size=pb:=by omega
 have b5:¬pb=w.heap.size:=by omega
 have F:=St.start h;go_enter Tryz.func108,Tryz.ntmps108;go_wp2_with fail;refine(G5 i pb s z false _ F.left.lies (by omega) (by omega)).mono ?_;rw[Hc.out];rintro e j ⟨rfl,a8⟩;have G:=F.below a8;have a0:=G.set1 (i+1);obtain⟨r,t,x,y,A,B,J,K,L,M,N,O,g,X⟩:=G.cells;have q:Hid _:=a0;clear F G a0;go_wp2_with fail;refine(a7 pb (i+1) z _ q.out.left.lies (by omega) (by omega)).mono ?_;rintro e c Z;obtain⟨p,l,m,n,a,P,a6,rfl,hv,b2,b3,b8,W,T⟩:=Z.mid (fun d c0 hr=>⟨(Ls.iXb (Ls.hXl _) hr).1,by have:=(Ls.iXb (Ls.hXl _) hr).2;omega⟩) (by omega);clear Z r t x y A B J K L M N O g X;have a1:=q.out.next W;have f:=A5 c (.cells #[Iv p.kind,Sv p.signs,.slice l m n] 27);have H:=a1.below f;have S:Old (c.alloc (.cells #[Iv p.kind,Sv p.signs,.slice l m n] 27)) (B8 (j.setCell ⟨pb,1,none⟩ (Iv ((i+1:Nat):Int))) c):=fun k b=>Ll b.2 f.size;have b7:w.heap.size<(j.setCell ⟨pb,1,none⟩ (Iv ((i+1:Nat):Int))).heap.size:=q.out.res.lt;have Y:∀k,B8 (j.setCell ⟨pb,1,none⟩ (Iv ((i+1:Nat):Int))) c k->k≠pb:=fun k b=>by have:=b.1;omega
 have U:=sQc T (hv.below f (fun k b=>b.2) (fun _ h=>h));have R:=gQj s hs pb a P a6 _ H.left.lies (by omega) (by omega) 0 p [] l m n none 0 0;have Q:Hid _:=H;have HG:Hid _:=S;have a4:Hid _:=Y;have a2:Hid _:=U;have b1:=f.size;clear a1 H S Y U T hv W f;go_wp2_with fail;refine R.mono ?_;rintro e w5 ha;obtain⟨k',p',b0,v1,v2,v3,u1,u2,u3,rfl,V,E⟩:=gQo a2.out ha HG.out a4.out;have I:=Q.out.next E;have b9:=E.grown.size;obtain⟨r,t,x,y,A,B,J,K,L,M,N,O,g,X⟩:=I.cells;have g0:=g 0;have g1:=g 1;have g2:=g 2;have g3:=g 3;have g4:=g 4;have g5:=g 5;have a5:Hid _:=I;have a3:Hid _:=V;have o:Hid (i<=(if A7 s a 42=true then a+1 else a)/\(if A7 s a 42=true then a+1 else a)<=s.size+1/\(if A7 s a 42=true then P+1 else P)<=z+((if A7 s a 42=true then a+1 else a)-i)):=by
  cases a9:A7 s a 42 with
  | false=>simp only[Bool.false_eq_true,if_false];exact⟨by omega,by omega,by omega⟩
  | true=>have:=(D9 a9).1;simp only[if_true];exact⟨by omega,by omega,by omega⟩
 have HH:Hid (∀k,F5 (B8 (j.setCell ⟨pb,1,none⟩ (Iv ((i+1:Nat):Int))) c) (c.alloc (.cells #[Iv p.kind,Sv p.signs,.slice l m n] 27)) w5 k->w.heap.size<k/\k<w5.heap.size):=by
  rintro k (b|b)
  ·have h1:=b.1
   have h2:=b.2;exact⟨by omega,by omega⟩
  ·have h1:=b.1
   have h2:=(Q.out).res.lt;exact⟨by omega,b.2⟩
 clear I V E ha R r t x y A B g;go_wp2_with fail;rw[HR.out];exact bodyPost_ret (v:=E0 k' p' b0 (.slice v1 v2 v3) (.slice u1 u2 u3)) (by simp[results,Tryz.results108,go_sem,J,K,L,M,N,O]) rfl (P3 a3.out o.out.1 o.out.2.1 o.out.2.2 a5.out HH.out)
def fQ4 (s:ByteArray)(i z i' z':Nat)(bad:Bool)(x:List UInt8):Prop:=
 (bad=true/\Ls.fX1 (rest s i)=.none)\/(bad=false/\Ls.fX1 (rest s i)=some (x,rest s i')/\z'=z+x.length/\i'<=s.size)
theorem WPost.mid {w j:World}{g:Nat}{e:Ending}(h:WPost w g s i z e j)(n:i<=s.size) :
  ∃x i' z' bad,e=.returned (I5 x)/\i<=i'/\i'<=s.size+1/\z'<=z+(i'-i)/\Left w g s i' z' bad j/\fQ4 s i z i' z' bad x:=by
 rcases h with⟨x,t,b,d,f⟩|⟨b,x,i',z',d,a,c,k,f⟩
 ·obtain⟨a,c⟩:=Ls.iXo b
  have m:=dQq a;have l:=a.length_le;rw[F4]at l c;exact⟨x,s.size-t.length,z+x.length,false,d,by omega,by omega,by omega,f,.inr ⟨rfl,by rw[b,<-m],rfl,by omega⟩⟩
 ·exact⟨x,i',z',true,d,a,c,k,f,.inl ⟨rfl,b⟩⟩
def mQt (r:Option (List UInt8 × List UInt8)):Ls.Rl:=match r with
 | .none=>.none
 | some (w,v)=>some (Ls.iXp w,v)
theorem sQg {x:List UInt8}(h:fQ4 s i z i' z' bad x):CaseL W (fun _=>False) (mQt (Ls.fX1 (rest s i))) s z i' z' bad 2 Ls.none x (.slice none 0 0) (.slice none 0 0):=by
 rcases h with⟨rfl,a⟩|⟨rfl,a,rfl,b⟩
 ·exact .inl ⟨rfl,by rw[a];rfl⟩
 ·refine .inr ⟨rfl,Ls.iXp x,by rw[a];rfl,rfl,Ls.fXm,rfl,by rw[Ls.iXv],b,?_⟩
  show NV W _ ⟨2,Ls.rnil,x,[]⟩ (.slice none 0 0) (.slice none 0 0);rw[NV,Ls.fXm];exact⟨R4 _ _ _ _,rfl⟩
theorem zQh (s:ByteArray)(hs:s.size<=1048576)(i z:Nat)(h:PB w pb s i z false)(L:i<s.size)(hz:z<=1048576+i)(k:nx s i=43) :
  Calls Tryz.prog 108 #[Pt pb,Iv (D:Int)] w (LPost w pb s i z (Ls.fXk (Ls.pat (13-D)) (Ls.fXa (12-D)) (rest s i))):=by
 have H:Hid (Ls.fXk (Ls.pat (13-D)) (Ls.fXa (12-D)) (rest s i)=mQt (Ls.fX1 (rest s (i+1)))):=by
  show _=_;rw[D4 L,k];show (match Ls.fX1 (rest s (i+1)) with|.none=>(.none:Ls.Rl)|some (w,v)=>some (Ls.iXp w,v))=_;cases Ls.fX1 (rest s (i+1)) with
  | none=>rfl
  | some x=>rfl
 have J:Hid (nx s i=43):=k;clear k;have Z:=h.lt;have X:¬w.heap.size=pb:=by omega
 have Y:¬pb=w.heap.size:=by omega
 have l:=St.start h;go_enter Tryz.func108,Tryz.ntmps108;go_wp2_with fail;refine(G5 i pb s z false _ l.left.lies (by omega) (by omega)).mono ?_;rw[J.out];rintro e w1 ⟨rfl,K⟩;have m:=l.below K;have F:=m.set1 (i+1);obtain⟨a,b,c,d,f,j,o,p,q,r,t,u,g,C⟩:=m.cells;have y:Hid _:=F;clear l m F;go_wp2_with fail;refine(oQc s pb (i+1) _ hs z y.out.left.lies (by omega) (by omega)).mono ?_;rintro e N E;obtain⟨x,i',z',O,rfl,V,M,a0,B,A⟩:=E.mid (by omega);clear E a b c d f j o p q r t u g C;have n:=y.out.next B;obtain⟨a,b,c,d,f,j,o,p,q,r,t,u,g,C⟩:=n.cells;have P:=g 0;have Q:=g 1;have R:=g 2;have S:=g 3;have T:=g 4;have U:=g 5;have I:Hid _:=n;have G:Hid _:=sQg (W:=N) A;clear n A B a b c d f j g;go_wp2_with fail;rw[H.out];exact bodyPost_ret (v:=E0 2 Ls.none x (.slice none 0 0) (.slice none 0 0)) (by simp[results,Tryz.results108,go_sem,o,p,q,r,t,u,Ls.none]) rfl (P3 G.out (by omega) M (by omega) I.out (fun _ h=>h.elim))
theorem yQ6 (s:ByteArray)(hs:s.size<=1048576)(i z:Nat)(h:PB w pb s i z false)(L:i<=s.size)(a:∀x,x∈([47,45,43,60,40]:List UInt8)->nx s i≠x) :
  Calls Tryz.prog 108 #[Pt pb,Iv (D:Int)] w (LPost w pb s i z (Ls.fXk (Ls.pat (13-D)) (Ls.fXa (12-D)) (rest s i))):=by
 have j:Hid (Ls.fXk (Ls.pat (13-D)) (Ls.fXa (12-D)) (rest s i)=.none):=by
  show _=_
  by_cases d:i<s.size
  ·rw[D4 d]
   simp only[Ls.fXk];rw[if_neg (a 47 (by simp)),if_neg (a 45 (by simp)),if_neg (a 43 (by simp)),if_neg (a 60 (by simp)),if_neg (a 40 (by simp))]
  ·rw[P4 (by omega)];rfl
 have ne:∀x:UInt8,x∈([47,45,43,60,40]:List UInt8)->(((nx s i).toNat:Int)==(x.toNat:Int))=false:=fun x m=>by
  rw[beq_eq_false_iff_ne];intro e;exact a x m (UInt8.toNat_inj.1 (by omega))
 have P:(((nx s i).toNat:Int)==47)=false:=ne 47 (by simp);have Q:(((nx s i).toNat:Int)==45)=false:=ne 45 (by simp);have R:(((nx s i).toNat:Int)==43)=false:=ne 43 (by simp);have S:(((nx s i).toNat:Int)==60)=false:=ne 60 (by simp);have T:(((nx s i).toNat:Int)==40)=false:=ne 40 (by simp);clear a ne;have O:=h.lt;have M:¬w.heap.size=pb:=by omega
 have N:¬pb=w.heap.size:=by omega
 have b:=St.start h;go_enter Tryz.func108,Tryz.ntmps108;go_wp2_with fail;refine(G5 i pb s z false _ b.left.lies (by omega) (by omega)).mono ?_;rintro e U ⟨rfl,l⟩;have c:=b.below l;have f:=(c.set1 (i+1)).set3 true;obtain⟨u,y,A,B,C,E,n,o,p,q,r,t,g,d⟩:=c.cells;have F:=g 0;have G:=g 1;have H:=g 2;have I:=g 3;have J:=g 4;have K:=g 5;have k:Hid _:=f;clear b c f g;go_wp2_with fail;rw[j.out];exact bodyPost_ret (v:=E0 0 Ls.none [] (.slice none 0 0) (.slice none 0 0)) (by simp[results,Tryz.results108,go_sem,n,o,p,q,r,t,Ls.none]) rfl (q8 rfl (by omega) (by omega) (by omega) k.out)
def Z1 (P:List UInt8->Ls.Rd)(t:List UInt8):Ls.Rl:=
 if t.head?=some 47 then
  match Ls.fXj P t.tail with
  | .none=>.none
  | some (d,u)=>
   match Ls.fX1 u with
   | .none=>.none
   | some (w,v)=>some (Ls.fXf d w,v)
 else .none
theorem wQw (h:A7 s i 47=false):Z1 P (rest s i)=.none:=by
 unfold Z1;rw[if_neg (by rw[C4,h];simp)]
theorem wQv (h:A7 s i 47=true)(a:Ls.fXj P (rest s (i+1))=.none):Z1 P (rest s i)=.none:=by
 unfold Z1;rw[if_pos (C4.2 h),E7,a]
theorem sQe {x:List UInt8}(h:A7 s i 47=true)(e:F8 (Ls.fXj P (rest s (i+1))) s z i' z' false p)(f:fQ4 s i' z' i2 z2 bad x)(j:PV W G p y) :
  CaseL W G (Z1 P (rest s i)) s z i2 z2 bad 1 p x y (.slice none 0 0):=by
 rcases e with⟨c,_⟩|⟨_,d,b,rfl,rfl,k⟩
 ·cases c
 rcases f with⟨rfl,a⟩|⟨rfl,a,rfl,g⟩
 ·refine .inl ⟨rfl,?_⟩
  unfold Z1;rw[if_pos (C4.2 h),E7,b];dsimp only
  rw[a]
 ·refine .inr ⟨rfl,Ls.fXf d x,?_,rfl,rfl,rfl,by rw[Ls.hXt];omega,g,?_⟩
  ·unfold Z1
   rw[if_pos (C4.2 h),E7,b];dsimp only
   rw[a]
  ·show NV W G ⟨1,d,x,[]⟩ y (.slice none 0 0)
   rw[NV];exact⟨j,rfl⟩
theorem Left.block {w:World}{a:Nat}{b:Bool}(h:Left w a s i z b W){k:Nat}(c:k<w.heap.size)(d:k≠a):W.heap[k]?=w.heap[k]?:=h.grown.block k c (by simp[d])
theorem zQc (s:ByteArray)(hs:s.size<=1048576)(b3:gQc s D)(i z:Nat)(h:PB w pb s i z false)(hi:i<s.size)(hz:z<=1048576+i)(U:nx s i=45) :
  Calls Tryz.prog 108 #[Pt pb,Iv (D:Int)] w (LPost w pb s i z (Ls.fXk (Ls.pat (13-D)) (Ls.fXa (12-D)) (rest s i))):=by
 have P:Hid (Ls.fXk (Ls.pat (13-D)) (Ls.fXa (12-D)) (rest s i)=Z1 (Ls.pat (13-D)) (rest s (i+1))):=by
  show _=_;rw[D4 hi,U];rfl
 have Hc:Hid (nx s i=45):=U;clear U;have c5:=h.lt;have c3:¬w.heap.size=pb:=by omega
 have c4:¬pb=w.heap.size:=by omega
 have X:=St.start h;go_enter Tryz.func108,Tryz.ntmps108;go_wp2_with fail;refine(G5 i pb s z false _ X.left.lies (by omega) (by omega)).mono ?_;rw[Hc.out];rintro e w1 ⟨rfl,b4⟩;have Y:=X.below b4;have a5:=Y.set1 (i+1);obtain⟨n,o,q,r,t,u,a,b,c,d,f,j,g,x⟩:=Y.cells;have Q:Hid _:=a5;clear X Y a5;go_wp2_with fail;refine(O5 (i+1) 47 pb s z false _ Q.out.left.lies (by omega) (by omega)).mono ?_;rintro e w3 ⟨rfl,m⟩;clear n o q r t u a b c d f j g x;cases y:A7 s (i+1) 47 with
 | false=>
  rw[y]at m;simp only[Bool.false_eq_true,if_false]at m;have O:Hid (Z1 (Ls.pat (13-D)) (rest s (i+1))=.none):=wQw y;have A:=Q.out.next m;obtain⟨n,o,q,r,t,u,a,b,c,d,f,j,g,x⟩:=A.cells;have g0:=g 0;have g1:=g 1;have g2:=g 2;have g3:=g 3;have g4:=g 4;have g5:=g 5;have b0:Hid _:=A.set3 true;clear A m y g;go_wp2_with fail;rw[P.out,O.out];exact bodyPost_ret (v:=E0 0 Ls.none [] (.slice none 0 0) (.slice none 0 0)) (by simp[results,Tryz.results108,go_sem,a,b,c,d,f,j,Ls.none]) rfl (q8 rfl (by omega) (by omega) (by omega) b0.out)
 | true=>
  rw[y]at m;simp only[if_true]at m;have c0:=(D9 y).1;have a1:Hid (A7 s (i+1) 47=true):=y;have A:=Q.out.next m;have a6:=A.set3 false;obtain⟨n,o,q,r,t,u,a,b,c,d,f,j,g,x⟩:=A.cells;have R:Hid _:=a6;clear A m y a6;go_wp2_with fail;refine(b3 pb (i+1+1) z _ R.out.left.lies (by omega) (by omega)).mono ?_;rintro e l I;obtain⟨p,B,C,E,i',z',a2,rfl,hv,b9,c1,c7,V,F⟩:=I.mid (fun b2 d3 N=>⟨(Ls.iXb (Ls.hXl _) N).1,by have:=(Ls.iXb (Ls.hXl _) N).2;omega⟩) (by omega);clear I n o q r t u a b c d f j g x;have J:=R.out.next V;have M:=A5 l (.cells #[Iv p.kind,Sv p.signs,.slice B C E] 27);have K:=J.below M;have W:=C7 l (C2 p (.slice B C E));obtain⟨n,o,q,r,t,u,a,b,c,d,f,j,g,x⟩:=K.cells;obtain⟨d1,_⟩:(Ce l pb 3 (.bool a2))/\True:=⟨J.cells.c3,trivial⟩;have c6:pb<l.heap.size:=J.left.lies.lt;cases a2 with
  | true=>
   have O:Hid (Z1 (Ls.pat (13-D)) (rest s (i+1))=.none):=by
    rcases F with⟨_,N⟩|⟨S,_⟩
    ·exact wQv a1.out N
    ·cases S
   have g0:=g 0;have g1:=g 1;have g2:=g 2;have g3:=g 3;have g4:=g 4;have g5:=g 5;have L:Hid _:=K;clear J K W F hv V M g;go_wp2_with fail;rw[P.out,O.out];exact bodyPost_ret (v:=E0 0 Ls.none [] (.slice none 0 0) (.slice none 0 0)) (by simp[results,Tryz.results108,go_sem,a,b,c,d,f,j,Ls.none]) rfl (q8 rfl (by omega) (by omega) (by omega) L.out)
  | false=>
   have b5:i'<=s.size:=by
    rcases F with⟨S,_⟩|⟨_,b2,_,_,_,T⟩
    ·cases S
    ·exact T
   have HV:Hid _:=hv;have HC:Hid (F8 (Ls.fXj (Ls.pat (13-D)) (rest s (i+1+1))) s z i' z' false p):=F;have L:Hid _:=K;have a9:Hid (Lies (l.alloc (.cells #[Iv p.kind,Sv p.signs,.slice B C E] 27)) l.heap.size (C2 p (.slice B C E))):=W;have a0:Hid _:=M;have c9:w.heap.size<((w3.setCell ⟨pb,3,none⟩ (.bool false)).heap.size):=R.out.res.lt;clear J K W F hv V M g;go_wp2_with fail;refine(oQc s pb i' _ hs z' L.out.left.lies (by omega) (by omega)).mono ?_;rintro e w7 I;obtain⟨b7,i2,z2,b8,rfl,c2,b6,c8,H,a3⟩:=I.mid b5;clear I n o q r t u a b c d f j x;have Z:=L.out.next H;have d0:=H.grown.size;have d2:=a0.out.size;have a4:Lies w7 l.heap.size (C2 p (.slice B C E)):=a9.out.grown H.grown (by simp;omega);obtain⟨m0,m1,m2⟩:=a4.three;have a7:PV w7 (B8 (w3.setCell ⟨pb,3,none⟩ (.bool false)) l) p (.slice B C E):=PV.mono (fun _ h=>h) (fun k G=>by
    have T:=G.1;have h2:=G.2;rw[H.block (by simp;omega) (by omega),a0.out.block k h2]) _ _ HV.out
   have a8:Hid _:=sQe a1.out HC.out a3 a7;obtain⟨n,o,q,r,t,u,a,b,c,d,f,j,g,x⟩:=Z.cells;have g0:=g 0;have g1:=g 1;have g2:=g 2;have g3:=g 3;have g4:=g 4;have g5:=g 5;have b1:Hid _:=Z;have HH:Hid (∀k,B8 (w3.setCell ⟨pb,3,none⟩ (.bool false)) l k->w.heap.size<k/\k<w7.heap.size):=fun k G=>by
    have T:=G.1;have h2:=G.2;exact⟨by omega,by omega⟩
   clear Z a4 a7 a3 H g;go_wp2_with fail;rw[P.out];exact bodyPost_ret (v:=E0 1 p b7 (.slice B C E) (.slice none 0 0)) (by simp[results,Tryz.results108,go_sem,a,b,c,d,f,j]) rfl (P3 a8.out (by omega) b6 (by omega) b1.out HH.out)
def cQa (r:Ls.Rl):Ls.Rl:=match r with
 | .none=>.none
 | some (a,u)=>if u.head?=some 62 then some (Ls.gXl a,u.tail) else .none
theorem sQd {k:Nat}{c:List UInt8}{x:Value}(h:CaseL W G res s (z+1) i' z' bad k p c y x)(i:∀k,G k->G' k/\W'.heap[k]?=W.heap[k]?)(d:G' g)
  (e:LiesL W' g [Iv k,Iv p.kind,Sv p.signs,y,Sv c,x]) :
  CaseL W' G' (cQa res) s z (if A7 s i' 62=true then i'+1 else i') z' (bad||!A7 s i' 62) 7 Ls.none [] (.slice none 0 0) (Sl g 1 1):=by
 rcases h with⟨rfl,a⟩|⟨rfl,l,a,rfl,rfl,rfl,rfl,j,f⟩
 ·exact .inl ⟨rfl,by rw[a];rfl⟩
 ·cases b:A7 s i' 62 with
  | false=>
   refine .inl ⟨rfl,?_⟩;rw[a];show (if (rest s i').head?=some 62 then _ else _)=_;rw[if_neg (by rw[C4,b];simp)]
  | true=>
   refine .inr ⟨rfl,Ls.gXl l,?_,rfl,Ls.fXm,rfl,by rw[Ls.hX9];omega,by have:=(D9 b).1;simp;omega,?_⟩
   ·rw[a]
    show (if (rest s i').head?=some 62 then _ else _)=_;rw[if_pos (C4.2 b),E7];simp
   ·show NV W' G' ⟨7,Ls.rnil,[],[l]⟩ (.slice none 0 0) (Sl g 1 1)
    rw[NV,Ls.fXm];exact⟨R4 _ _ _ _,g,y,x,d,rfl,e,NV.mono i _ _ _ f⟩
abbrev B7 (k:Nat)(p:Ls.Pat)(ws:List UInt8)(y x:Value):Obj:=.cells #[.int .i64 k,.int .i64 p.kind,.string ⟨p.signs.toArray⟩,y,.string ⟨ws.toArray⟩,x] 37
theorem N5 (k:Nat)(p:Ls.Pat)(a:List UInt8)(y x:Value):LiesL (w.alloc (B7 k p a y x)) w.heap.size [Iv k,Iv p.kind,Sv p.signs,y,Sv a,x]:=
 bQg w [Iv k,Iv p.kind,Sv p.signs,y,Sv a,x]
theorem wQk {w e a:World}{b:Nat}{k:Nat}{c:List UInt8}{x:Value}(q:CaseL e (B8 W2 e) res s (z+1) i' z' bad k p c y x)
  (m:St w b s i' z' bad (e.alloc (B7 k p c y x))) (g:Left (e.alloc (B7 k p c y x)) b s (if A7 s i' 62=true then i'+1 else i') z' bad a) (G:w.heap.size<W2.heap.size) (B:i+1<=i') (C:i'<=s.size+1) (E:z'<=z+1+(i'-(i+1))) :
  LPost w b s i z (cQa res) (.returned (E0 7 Ls.none [] (.slice none 0 0) (Sl a.heap.size 1 1)))
   (set6 ((a.setCell ⟨b,3,none⟩ (.bool (bad||!A7 s i' 62))).alloc (B7 k p c y x)) w.heap.size 7 Ls.none [] (.slice none 0 0) (Sl a.heap.size 1 1)):=by
 have F:=m.pl;have n:=m.next g;have u:=n.set3 (bad||!A7 s i' 62);have A:=g.grown.size;simp at A;have f:(a.setCell ⟨b,3,none⟩ (.bool (bad||!A7 s i' 62))).heap.size=a.heap.size:=by simp[World.setCell]
 have v:=u.below (A5 _ (B7 k p c y x));have l:=N5 (a.setCell ⟨b,3,none⟩ (.bool (bad||!A7 s i' 62))) k p c y x;rw[f]at l;have r:=sQd (G':=fun j=>B8 W2 e j\/j=a.heap.size) q (W':=(a.setCell ⟨b,3,none⟩ (.bool (bad||!A7 s i' 62))).alloc (B7 k p c y x)) (fun j d=>⟨.inl d,by
  have o:=d.1;have h:=d.2;rw[Below.heap_alloc _ _ _ (by rw[f];omega),Below.heap_setCell _ _ _ _ (by show j≠b;omega),g.block (by simp;omega) (by omega),Below.heap_alloc _ _ _ h]⟩) (.inr rfl) l
 refine P3 r ?_ ?_ ?_ ?_ ?_
 ·split<;>omega
 ·cases t:A7 s i' 62 with
  | false=>simp;omega
  | true=>have:=(D9 t).1;simp;omega
 ·split<;>omega
 ·exact v
 ·rintro j (d|rfl)
  ·have o:=d.1
   have h:=d.2;exact⟨by omega,by rw[World.size_alloc,f];omega⟩
  ·refine⟨?_,by rw[World.size_alloc,f];omega⟩
   have:=n.res.lt;exact this
theorem zQb (s:ByteArray)(hs:s.size<=1048576)(hD:D<=12)(hL:aQn s (D+1))(i z:Nat)(a7:PB w pb s i z false)(hi:i<s.size)(hz:z<=1048576+i)(R:nx s i=60) :
  Calls Tryz.prog 108 #[Pt pb,Iv (D:Int)] w (LPost w pb s i z (Ls.fXk (Ls.pat (13-D)) (Ls.fXa (12-D)) (rest s i))):=by
 have N:Hid (Ls.fXk (Ls.pat (13-D)) (Ls.fXa (12-D)) (rest s i)=cQa (Ls.fXa (12-D) (rest s (i+1)))):=by
  show _=_;rw[D4 hi,R];rfl
 have Hc:Hid (nx s i=60):=R;clear R;have c5:=a7.lt;have c3:¬w.heap.size=pb:=by omega
 have c4:¬pb=w.heap.size:=by omega
 have S:=St.start a7;go_enter Tryz.func108,Tryz.ntmps108;go_wp2_with fail;refine(G5 i pb s z false _ S.left.lies (by omega) (by omega)).mono ?_;rw[Hc.out];rintro a6 w1 ⟨rfl,b7⟩;have T:=S.below b7;have U:=(T.set1 (i+1)).set2 (z+1);obtain⟨F,G,H,I,J,K,o,q,r,t,u,x,g,B⟩:=T.cells;have Q:=hL pb (i+1) (z+1) _ U.left.lies (by omega) (by omega);rw[show ((D+1:Nat):Int)=(D:Int)+1 from by omega,show 13-(D+1)=12-D from by omega]at Q;have Y:Hid _:=U;clear S T U;go_wp2_with fail;refine Q.mono ?_;clear Q;rintro a6 m b2;obtain⟨k,p,c,h,j,l,d,e,f,C,X,P,rfl,b8,b9,c0,a9,a8⟩:=b2.mid (fun c7 c8 hr=>Ls.gXx _ _ _ _ hr) (by omega);clear b2 F G H I J K o q r t u x g B;have V:=Y.out.next a9;have b3:=V.below (A5 m (B7 k p c (.slice h j l) (.slice d e f)));have b0:=N5 m k p c (.slice h j l) (.slice d e f);have c1:w.heap.size<(((w1.setCell ⟨pb,1,none⟩ (Iv ((i+1:Nat):Int))).setCell ⟨pb,2,none⟩ (Iv ((z+1:Nat):Int))).heap.size):=Y.out.res.lt;have c6:pb<m.heap.size:=V.left.lies.lt;have O:Hid _:=b3;have b5:Hid (CaseL m (B8 ((w1.setCell ⟨pb,1,none⟩ (Iv ((i+1:Nat):Int))).setCell ⟨pb,2,none⟩ (Iv ((z+1:Nat):Int))) m) (Ls.fXa (12-D) (rest s (i+1))) s (z+1) C X P k p c (.slice h j l) (.slice d e f)):=a8;have b6:Hid (LiesL (m.alloc (B7 k p c (.slice h j l) (.slice d e f))) m.heap.size [Iv k,Iv p.kind,Sv p.signs,.slice h j l,Sv c,.slice d e f]):=b0;clear V b3 a8 a9 b0;go_wp2_with fail;refine(O5 C 62 pb s X P _ O.out.left.lies (by omega) (by omega)).mono ?_;rintro a6 a ⟨rfl,L⟩;have W:=O.out.next L;have c2:=L.grown.size;simp at c2;have b1:=b6.out.of_block (L.block (by simp) (by omega));have y:Hid (∀b:Bool,LiesL (a.setCell ⟨pb,3,none⟩ (.bool b)) m.heap.size [Iv k,Iv p.kind,Sv p.signs,.slice h j l,Sv c,.slice d e f]):=fun b=>b1.of_block (Below.heap_setCell _ _ _ _ (by show m.heap.size≠pb;omega));have A:Hid (∀b:Bool,St w pb s (if A7 s C 62=true then C+1 else C) X b ((a.setCell ⟨pb,3,none⟩ (.bool b)).alloc (B7 k p c (.slice h j l) (.slice d e f)))):=fun b=>(W.set3 b).below (A5 _ _);obtain⟨F,G,H,I,J,K,-,-,-,-,-,-,-,B⟩:=W.cells;have n:Hid _:=wQk b5.out O.out L c1 b8 b9 c0;clear W L b1 B;cases P with
 | true=>
  go_upto_region 25 with (fail);obtain⟨a0,a1,a2,a3,a4,a5⟩:=(y.out true).six;obtain⟨-,-,-,-,-,-,o,q,r,t,u,x,g,B⟩:=(A.out true).cells;have g0:=g 0;have g1:=g 1;have g2:=g 2;have g3:=g 3;have g4:=g 4;have g5:=g 5;clear g F G H I J K;have b4:(a.setCell ⟨pb,3,none⟩ (.bool true)).heap.size=a.heap.size:=by simp[World.setCell]
  have E:Hid (LPost w pb s i z (cQa (Ls.fXa (12-D) (rest s (i+1)))) (.returned (E0 7 Ls.none [] (.slice none 0 0) (Sl a.heap.size 1 1))) (set6 ((a.setCell ⟨pb,3,none⟩ (.bool true)).alloc (B7 k p c (.slice h j l) (.slice d e f))) w.heap.size 7 Ls.none [] (.slice none 0 0) (Sl a.heap.size 1 1))):=n.out;clear n A y;generalize a.setCell ⟨pb,3,none⟩ (.bool true)=Z at *;go_wp2_with fail;rw[N.out];exact bodyPost_ret (v:=E0 7 Ls.none [] (.slice none 0 0) (Sl a.heap.size 1 1)) (by simp[results,Tryz.results108,go_sem,o,q,r,t,u,x,Ls.none]) rfl E.out
 | false=>
  cases M:A7 s C 62 with
  | false=>
   rw[M]at n;clear M;go_upto_region 25 with (fail);obtain⟨a0,a1,a2,a3,a4,a5⟩:=(y.out true).six;obtain⟨-,-,-,-,-,-,o,q,r,t,u,x,g,B⟩:=(A.out true).cells;have g0:=g 0;have g1:=g 1;have g2:=g 2;have g3:=g 3;have g4:=g 4;have g5:=g 5;clear g F G H I J K;have b4:(a.setCell ⟨pb,3,none⟩ (.bool true)).heap.size=a.heap.size:=by simp[World.setCell]
   have E:Hid (LPost w pb s i z (cQa (Ls.fXa (12-D) (rest s (i+1)))) (.returned (E0 7 Ls.none [] (.slice none 0 0) (Sl a.heap.size 1 1))) (set6 ((a.setCell ⟨pb,3,none⟩ (.bool true)).alloc (B7 k p c (.slice h j l) (.slice d e f))) w.heap.size 7 Ls.none [] (.slice none 0 0) (Sl a.heap.size 1 1))):=n.out;clear n A y;generalize a.setCell ⟨pb,3,none⟩ (.bool true)=Z at *;go_wp2_with fail;rw[N.out];exact bodyPost_ret (v:=E0 7 Ls.none [] (.slice none 0 0) (Sl a.heap.size 1 1)) (by simp[results,Tryz.results108,go_sem,o,q,r,t,u,x,Ls.none]) rfl E.out
  | true=>
   rw[M]at n;clear M;go_upto_region 25 with (fail);obtain⟨a0,a1,a2,a3,a4,a5⟩:=(y.out false).six;obtain⟨-,-,-,-,-,-,o,q,r,t,u,x,g,B⟩:=(A.out false).cells;have g0:=g 0;have g1:=g 1;have g2:=g 2;have g3:=g 3;have g4:=g 4;have g5:=g 5;clear g F G H I J K;have b4:(a.setCell ⟨pb,3,none⟩ (.bool false)).heap.size=a.heap.size:=by simp[World.setCell]
   have E:Hid (LPost w pb s i z (cQa (Ls.fXa (12-D) (rest s (i+1)))) (.returned (E0 7 Ls.none [] (.slice none 0 0) (Sl a.heap.size 1 1))) (set6 ((a.setCell ⟨pb,3,none⟩ (.bool false)).alloc (B7 k p c (.slice h j l) (.slice d e f))) w.heap.size 7 Ls.none [] (.slice none 0 0) (Sl a.heap.size 1 1))):=n.out;clear n A y;generalize a.setCell ⟨pb,3,none⟩ (.bool false)=Z at *;go_wp2_with fail;rw[N.out];exact bodyPost_ret (v:=E0 7 Ls.none [] (.slice none 0 0) (Sl a.heap.size 1 1)) (by simp[results,Tryz.results108,go_sem,o,q,r,t,u,x,Ls.none]) rfl E.out
abbrev E1 (a:Ls.Ln)(b1:Option Addr)(b2 b3:Nat)(t1:Option Addr)(t2 t3:Nat):Value:=F0 a (.slice b1 b2 b3) (.slice t1 t2 t3)
abbrev lo (k:Nat)(p:Ls.D)(ws:List UInt8)(y1:Option Addr)(y2 y3 g n:Nat):Obj:=B7 k (Ls.eX5 p) ws (.slice y1 y2 y3) (.slice (some ⟨g,0,none⟩) n n)
abbrev eX4 (k:Nat)(p:Ls.D)(ws:List UInt8)(y1:Option Addr)(y2 y3 g n:Nat):List Value:=[.int .i64 k,.int .i64 (Ls.eX5 p).kind,.string ⟨(Ls.eX5 p).signs.toArray⟩,.slice y1 y2 y3,.string ⟨ws.toArray⟩,.slice (some ⟨g,0,none⟩) n n]
abbrev eQ7 (k:Nat)(p:Ls.D)(ws:List UInt8)(y1:Option Addr)(y2 y3 g n:Nat):Value:=.agg #[.int .i64 k,.int .i64 (Ls.eX5 p).kind,.string ⟨(Ls.eX5 p).signs.toArray⟩,.slice y1 y2 y3,.string ⟨ws.toArray⟩,.slice (some ⟨g,0,none⟩) n n]
abbrev sx (w:World)(g:Nat)(a:Ls.Ln)(b1:Option Addr)(b2 b3:Nat)(t1:Option Addr)(t2 t3:Nat):Prop:=Ce w g 0 (.int .i64 a.kind)/\Ce w g 1 (.int .i64 (Ls.eX5 a.p).kind)/\Ce w g 2 (.string ⟨(Ls.eX5 a.p).signs.toArray⟩)/\Ce w g 3 (.slice b1 b2 b3)/\Ce w g 4 (.string ⟨a.w.toArray⟩)/\Ce w g 5 (.slice t1 t2 t3)
abbrev tw (w:World)(g:Nat)(a b:Ls.Ln)(b1:Option Addr)(b2 b3:Nat)(t1:Option Addr)(t2 t3:Nat)(c1:Option Addr)(c2 c3:Nat)(f1:Option Addr)(f2 f3:Nat):Prop:=
 Ce w g 0 (.int .i64 a.kind)/\Ce w g 1 (.int .i64 (Ls.eX5 a.p).kind)/\Ce w g 2 (.string ⟨(Ls.eX5 a.p).signs.toArray⟩)/\Ce w g 3 (.slice b1 b2 b3)/\Ce w g 4 (.string ⟨a.w.toArray⟩)/\Ce w g 5 (.slice t1 t2 t3)/\
 Ce w g 6 (.int .i64 b.kind)/\Ce w g 7 (.int .i64 (Ls.eX5 b.p).kind)/\Ce w g 8 (.string ⟨(Ls.eX5 b.p).signs.toArray⟩)/\Ce w g 9 (.slice c1 c2 c3)/\Ce w g 10 (.string ⟨b.w.toArray⟩)/\Ce w g 11 (.slice f1 f2 f3)
theorem LiesL.sx {w:World}(h:LiesL w g (E4 a (.slice b1 b2 b3) (.slice t1 t2 t3))):sx w g a b1 b2 b3 t1 t2 t3:=⟨h.cell 0,h.cell 1,h.cell 2,h.cell 3,h.cell 4,h.cell 5⟩
theorem LiesL.tw {w:World}{b:Ls.Ln}{c:Option Addr}{d e:Nat}{f:Option Addr}{i j:Nat}(h:LiesL w g (E4 a (.slice b1 b2 b3) (.slice t1 t2 t3)++E4 b (.slice c d e) (.slice f i j))):tw w g a b b1 b2 b3 t1 t2 t3 c d e f i j:=
 ⟨h.cell 0,h.cell 1,h.cell 2,h.cell 3,h.cell 4,h.cell 5,h.cell 6,h.cell 7,h.cell 8,h.cell 9,h.cell 10,h.cell 11⟩
def L3 (Q:List UInt8->Ls.Rl)(t:List UInt8):Ls.Rl:=match Q t with
 | .none=>.none
 | some (a,u)=>
  if u.head?=some 126 then
   match Q u.tail with
   | .none=>.none
   | some (b,v)=>some (Ls.fXc a b,v)
  else some (a,u)
def R6 (r:Ls.Rl):Ls.Rl:=match r with
 | .none=>.none
 | some (a,u)=>if u.head?=some 41 then some (a,u.tail) else .none
theorem zQi (P:List UInt8->Ls.Rd)(Q:List UInt8->Ls.Rl)(t:List UInt8):Ls.fXk P Q (40::t)=S8 (R6 (L3 Q t)):=by
 show (match Q t with|.none=>(.none:Ls.Rl)|some (a,u)=>if u.head?=some 126 then (match Q u.tail with|.none=>.none|some (b,v)=>if v.head?=some 41 then some (Ls.fX9 (Ls.fXc a b) v.tail) else .none) else if u.head?=some 41 then some (Ls.fX9 a u.tail) else .none)=_;unfold L3;cases Q t with
 | none=>rfl
 | some x=>
  obtain⟨a,u⟩:=x;dsimp only
  by_cases h:u.head?=some 126
  ·rw[if_pos h,if_pos h]
   cases Q u.tail with
   | none=>rfl
   | some x=>
    obtain⟨b,v⟩:=x;dsimp only[R6]
    by_cases c:v.head?=some 41
    ·rw[if_pos c,if_pos c];rfl
    ·rw[if_neg c,if_neg c];rfl
  ·rw[if_neg h,if_neg h]
   dsimp only[R6]
   by_cases c:u.head?=some 41
   ·rw[if_pos c,if_pos c];rfl
   ·rw[if_neg c,if_neg c];rfl
theorem sQq {t:List UInt8}(h:Q t=.none):L3 Q t=.none:=by unfold L3;rw[h]
theorem sQr (h:Q (rest s i)=some (l,rest s i1))(hs:A7 s i1 126=false):L3 Q (rest s i)=some (l,rest s i1):=by
 unfold L3;rw[h];dsimp only
 rw[if_neg (by rw[C4,hs];simp)]
theorem jQq (h:Q (rest s i)=some (l,rest s i1))(hs:A7 s i1 126=true):L3 Q (rest s i)=match Q (rest s (i1+1)) with|.none=>.none|some (b,v)=>some (Ls.fXc l b,v):=by
 unfold L3;rw[h];dsimp only
 rw[if_pos (C4.2 hs),E7]
theorem jQk {k:Nat}{a:List UInt8}{x:Value}(h:CaseL W G res s z j zj false k p a y x)(hs:A7 s j 41=true):CaseL W G (R6 res) s z (j+1) zj false k p a y x:=by
 rcases h with⟨b,_⟩|⟨_,l,i,c,d,e,f,m,g⟩
 ·cases b
 ·refine .inr ⟨rfl,l,?_,c,d,e,f,by have:=(D9 hs).1;omega,g⟩
  rw[i];show (if (rest s j).head?=some 41 then _ else _)=_;rw[if_pos (C4.2 hs),E7]
theorem iQi {k:Nat}{c:List UInt8}{x:Value}(h:CaseL W G res s z j zj bad k p c y x)(hs:(bad||!A7 s j 41)=true):S8 (R6 res)=.none:=by
 rcases h with⟨_,a⟩|⟨rfl,l,a,_⟩
 ·rw[a];rfl
 ·rw[a]
  have b:A7 s j 41=false:=by simpa using hs
  show S8 (if (rest s j).head?=some 41 then _ else _)=_;rw[if_neg (by rw[C4,b];simp)];rfl
theorem LiesL.set {x:List Value}(h:LiesL W g x)(o:Nat)(v:Value):LiesL (W.setCell ⟨g,o,none⟩ v) g (x.set o v):=by
 unfold LiesL at h ⊢;simp[World.setCell,Array.getElem?_modify,h]
theorem LiesL.set6 {a b c d e f:Value}(h:LiesL W g [a,b,c,d,e,f])(k:Nat)(p:Ls.Pat)(i:List UInt8)(y x:Value):LiesL (set6 W g k p i y x) g [Iv k,Iv p.kind,Sv p.signs,y,Sv i,x]:=
 (((((h.set 0 _).set 1 _).set 2 _).set 3 _).set 4 _).set 5 _
theorem St.cell {w:World}{a:Nat}(h:St w a s i z bad W)(b:w.heap.size<g)(o:Nat)(v:Value):St w a s i z bad (W.setCell ⟨g,o,none⟩ v):=
 ⟨h.left.cellR (Nat.le_of_lt b) h.pl o v,h.res.of_block (Below.heap_setCell _ _ _ _ (by show w.heap.size≠g;omega)),h.pl⟩
theorem St.set6 {w:World}{b:Nat}(h:St w b s i z bad W)(a:w.heap.size<g)(k:Nat)(p:Ls.Pat)(c:List UInt8)(y x:Value):St w b s i z bad (set6 W g k p c y x):=
 (((((h.cell a 0 _).cell a 1 _).cell a 2 _).cell a 3 _).cell a 4 _).cell a 5 _
theorem fQo (W:World)(g:Nat)(p:Ls.Pat)(y:Value)(j:Nat)(a:j≠g):(set6 W g k p ws y x).heap[j]?=W.heap[j]?:=by
 show ((((((W.setCell _ _).setCell _ _).setCell _ _).setCell _ _).setCell _ _).setCell _ _).heap[j]?=_;rw[Below.heap_setCell _ _ _ _ a,Below.heap_setCell _ _ _ _ a,Below.heap_setCell _ _ _ _ a,Below.heap_setCell _ _ _ _ a,Below.heap_setCell _ _ _ _ a,Below.heap_setCell _ _ _ _ a]
theorem iQg (W:World)(g:Nat)(p:Ls.Pat)(y:Value):(set6 W g k p ws y x).heap.size=W.heap.size:=by simp[set6,World.setCell]
abbrev S2 (k:Nat)(p:Ls.Pat)(ws:List UInt8)(y x:Value)(k2:Nat)(p2:Ls.Pat)(ws2:List UInt8)(y2 x2:Value):Obj:=
 .cells #[.int .i64 k,.int .i64 p.kind,.string ⟨p.signs.toArray⟩,y,.string ⟨ws.toArray⟩,x,.int .i64 k2,.int .i64 p2.kind,.string ⟨p2.signs.toArray⟩,y2,.string ⟨ws2.toArray⟩,x2] 37
theorem lQe (p:Ls.Pat)(y:Value)(b:Nat)(a:Ls.Pat)(c:List UInt8)(e d:Value):LiesL (w.alloc (S2 k p ws y x b a c e d)) w.heap.size ([Iv k,Iv p.kind,Sv p.signs,y,Sv ws,x]++[Iv b,Iv a.kind,Sv a.signs,e,Sv c,d]):=
 bQg w ([Iv k,Iv p.kind,Sv p.signs,y,Sv ws,x]++[Iv b,Iv a.kind,Sv a.signs,e,Sv c,d])
theorem sQb {e:Nat->Prop}{q:Nat}{k:Nat}{n:List UInt8}{x:Value}{j:Nat}{b:Ls.Pat}{o:List UInt8}{d c:Value}
  (h:CaseL W G (Q (rest s i)) s z i1 q false k p n y x) (hs:A7 s i1 126=true) (t:CaseL W2 e (Q (rest s (i1+1))) s q i2 z2 bad j b o d c) (C:∀k,G k->G' k/\W'.heap[k]?=W.heap[k]?) (E:∀k,e k->G' k/\W'.heap[k]?=W2.heap[k]?) (u:G' g)
  (w:LiesL W' g ([Iv k,Iv p.kind,Sv p.signs,y,Sv n,x]++[Iv j,Iv b.kind,Sv b.signs,d,Sv o,c])) :
  CaseL W' G' (L3 Q (rest s i)) s z i2 z2 bad 4 Ls.none [] (.slice none 0 0) (Sl g 2 2):=by
 rcases h with⟨r,_⟩|⟨_,l,f,rfl,rfl,rfl,rfl,F,A⟩
 ·cases r
 rcases t with⟨rfl,a⟩|⟨rfl,m,a,rfl,rfl,rfl,rfl,v,B⟩
 ·exact .inl ⟨rfl,by rw[jQq f hs,a]⟩
 ·refine .inr ⟨rfl,Ls.fXc l m,by rw[jQq f hs,a],rfl,Ls.fXm,rfl,by rw[Ls.hXh];omega,v,?_⟩
  show NV W' G' ⟨4,Ls.rnil,[],[l,m]⟩ (.slice none 0 0) (Sl g 2 2);rw[NV,Ls.fXm];exact⟨R4 _ _ _ _,g,y,x,d,c,u,rfl,w,NV.mono C _ _ _ A,NV.mono E _ _ _ B⟩
end Go.Proofs.YtfklinjaajafgaaGreatDoor
