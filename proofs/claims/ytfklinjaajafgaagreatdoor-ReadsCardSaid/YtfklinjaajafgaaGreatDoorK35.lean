import Derived.Test.YtfklinjaajafgaaGreatDoorK02
import Derived.Test.YtfklinjaajafgaaGreatDoorK31
import Derived.Test.YtfklinjaajafgaaGreatDoorK34
import Derived.Deep.RegionHeld
set_option maxRecDepth 100000
set_option maxHeartbeats 4000000
namespace Go.Proofs.YtfklinjaajafgaaGreatDoor
open Go.RowKit
variable {b:Nat}(p:Ls.D)(q:Ls.Pat)(ws:List UInt8)(a:Ls.Ln)(y:Value)(w:World)(z:Value)(G:Nat->Prop)
def Y2 (w:World)(F:Prop):Ending->World->Prop:=fun e w'=>∃b:Bool,e=.returned (.bool b)/\(b=true↔F)/\Bw w w'
theorem dQc {a:Nat}(p:Ls.Pat)(c:Ls.BdL a p)(d:Ls.BdL b q)(ha:a<=121)(h:b<=121)(g:Old w G)(e:PV w G p y)(f:PV w G q z) :
  Calls Tryz.prog 16 #[B4 p y,B4 q z] w (Y2 w (¬Ls.fXb p q)):=by
 obtain⟨k,i⟩:=c.room ha;obtain⟨l,j⟩:=d.room h;exact xQ8 p q _ _ k l (by simp) (by simp) i j c.sg d.sg y z w G g e f
theorem rQb {a:Nat}(p:Ls.Pat)(c:Ls.BdL a p)(d:Ls.BdL b q)(ha:a<=121)(h:b<=121)(g:Old w G)(e:PV w G p y)(f:PV w G q z) :
  Calls Tryz.prog 17 #[B4 p y,B4 q z] w (Y2 w (¬Ls.jX2 p q)):=by
 obtain⟨k,i⟩:=c.room ha;obtain⟨l,j⟩:=d.room h;exact rQa p q _ _ k l (by simp) (by simp) i j c.sg d.sg y z w G g e f
theorem fQh (p:Ls.Pat)(C:Ls.BdL 120 p)(m:Old w G)(t:PV w G p y):Calls Tryz.prog 82 #[B4 p y] w (Y2 w (K2 p)):=by
 obtain⟨g,i,k,rfl⟩:=PV.slice _ _ t;have q:=A5 w (C1 p (.slice g i k));have x:=eQm p C.ok (.slice g i k) _ G (fun j a=>Ll (m j a) q.size) (t.below q (fun j a=>m j a) (fun _ h=>h));have E:=C7 w (C2 p (.slice g i k));have Q:Hid _:=q;have J:Hid (PV w G p (.slice g i k)):=t;clear t q;generalize L:K2 p=F;have I:Hid (F=K2 p):=L.symm;clear L;go_enter Tryz.func82,Tryz.ntmps82;go_wp2_with fail;refine x.mono ?_;rintro e l ⟨rfl,M⟩;have o:=E.below M (by simp);have r:=Bj Q.out M;obtain⟨m0,m1,m2⟩:=o.three;have a0:=o.lt;cases s:Ls.empty p with
 | true=>
  have S:Hid (¬K2 p):=fun h=>by have:=h.1;rw[s]at this;cases this
  clear s x E o;go_wp2_with fail;go_ret;exact⟨false,rfl,⟨fun h=>(by cases h),fun h=>absurd (I.out▸h) S.out⟩,r⟩
 | false=>
  have R:Hid (Ls.empty p=false):=s;have U:Hid (∀W,Bw l W->Ca 85 #[B4 p (.slice g i k)] W fun e v=>∃c d f,e=.returned (.agg #[Iv (Ls.fXl p).kind,.string ⟨(Ls.fXl p).signs.toArray⟩,.slice c d f])/\PV v (F5 G W v) (Ls.fXl p) (.slice c d f)/\Bw W v):=by
   intro W z;have n:=Bj r z;refine(aQ5 (.slice g i k) p W G (fun j a=>Ll (m j a) n.size) (J.out.below n (fun j a=>m j a) (fun _ h=>h))).mono ?_;rintro e v ⟨a1,rfl,u,Y⟩;obtain⟨c,d,f,rfl⟩:=PV.slice _ _ u;exact⟨c,d,f,rfl,u,Y⟩
  have T:Hid (∀W b c d f,Bw l W->Bw W b->PV b (F5 G W b) (Ls.fXl p) (.slice c d f)->Ca 16 #[B4 p (.slice g i k),B4 (Ls.fXl p) (.slice c d f)] b (Y2 b (¬Ls.fXb p (Ls.fXl p)))):=by
   intro W b c d f z X u;have n:=Bj (Bj r z) X;exact dQc (Ls.fXl p) _ b _ (F5 G W b) p C (Ls.hXf C) (by omega) (by omega) (fun j a=>by
    rcases a with a|a
    ·exact Ll (m j a) n.size
    ·exact a.2) (J.out.below n (fun j a=>m j a) (fun _ h=>.inl h)) u
  have H:Hid (Lies l w.heap.size (C2 p (.slice g i k))):=o;clear s x E o;go_wp2_with fail;go_region_with (first
   | (go_at_call 85;refine(U.out _ ?_).mono ?_;exact Br.drew;rintro e b ⟨c,d,f,rfl,O,A⟩;have N:=H.out.below (Below.trans (Below.refl l.heap.size l).drew A) H.out.lt;obtain⟨n0,n1,n2⟩:=N.three)
   | (go_at_call 16;refine(T.out _ _ _ _ _ ?_ A O).mono ?_;exact Br.drew;rintro e w4 ⟨K,rfl,B,Z⟩))
  all_goals
   have P:Hid (K=true↔F):=by
    show _↔_;rw[I.out];exact⟨fun h=>⟨R.out,B.1 h⟩,fun h=>B.2 h.2⟩
   have V:Hid (Bw w w4):=Bj (Bj r (Below.trans (Below.refl l.heap.size l).drew A)) Z;clear B N n0 n1 n2 O;go_wp2_with fail;go_ret;exact⟨K,rfl,P.out,V.out⟩
def L0 (l:Ls.Ln):Prop:=∀(y x:Value) (w:World) (G:Nat->Prop),Old w G->NV w G l y x->Ca 47 #[F0 l y x] w (Y2 w (B5 l))
theorem pQm:L0 ⟨0,p,ws,[]⟩:=by
 intro y x w G f h;rw[NV]at h;obtain⟨a,rfl⟩:=h;obtain⟨c,d,e,rfl⟩:=PV.slice _ _ a;have b:Hid (Y2 w (B5 ⟨0,p,ws,[]⟩) (.returned (.bool true)) (w.alloc (B7 0 (Ls.eX5 p) ws (.slice c d e) (.slice none 0 0)))):=⟨true,rfl,by rw[B5];simp,A5 _ _⟩;generalize B5 ⟨0,p,ws,[]⟩=F at *;clear a;go_enter Tryz.func47,Tryz.ntmps47;go_wp2_with fail;refine wp_loop_rounds 1 ?_;rw[rounds_succ];go_wp2_with fail;go_ret;exact b.out
theorem pQo:L0 ⟨2,p,ws,[]⟩:=by
 intro y x w G f h;rw[NV]at h;obtain⟨a,rfl⟩:=h;obtain⟨c,d,e,rfl⟩:=PV.slice _ _ a;have b:Hid (Y2 w (B5 ⟨2,p,ws,[]⟩) (.returned (.bool true)) (w.alloc (B7 2 (Ls.eX5 p) ws (.slice c d e) (.slice none 0 0)))):=⟨true,rfl,by rw[B5];simp,A5 _ _⟩;generalize B5 ⟨2,p,ws,[]⟩=F at *;clear a;go_enter Tryz.func47,Tryz.ntmps47;go_wp2_with fail;refine wp_loop_rounds 1 ?_;rw[rounds_succ];go_wp2_with fail;go_ret;exact b.out
theorem pQn (q:ws.length<=1048576)(n:Ls.BdL 120 (Ls.eX5 p)):L0 ⟨1,p,ws,[]⟩:=by
 intro y x w G f h;rw[NV]at h;obtain⟨c,rfl⟩:=h;obtain⟨g,i,k,rfl⟩:=PV.slice _ _ c;have a:=A5 w (B7 1 (Ls.eX5 p) ws (.slice g i k) (.slice none 0 0));have d:=kQy (Ls.eX5 p) ⟨ws.toArray⟩ (.slice g i k) _ (n.room (by omega)).1 (by simp) (by show ws.toArray.size<=_;unfold maxLen;simp;omega) _ G (fun j b=>Ll (f j b) a.size) (c.below a (fun j b=>f j b) (fun _ h=>h));rw[show (ByteArray.mk ws.toArray).data.toList=ws from rfl]at d;have m:Hid (B5 ⟨1,p,ws,[]⟩↔Ls.is (Ls.eX5 p) ws=true):=by
  show _↔_;rw[B5];simp
 have l:Hid _:=a;generalize B5 ⟨1,p,ws,[]⟩=F at *;clear c a;go_enter Tryz.func47,Tryz.ntmps47;go_wp2_with fail;refine wp_loop_rounds 1 ?_;rw[rounds_succ];go_wp2_with fail;refine d.mono ?_;rintro e r ⟨rfl,o⟩;go_wp2_with fail;go_ret;exact⟨_,rfl,m.out.symm,Bj l.out o⟩
theorem pQs (ha:L0 a)(hS:D8 a)(hV:D7 a)(d1:Ls.BdL 120 (Ls.eX8 a))(d2:Ls.BdL 120 (Ls.eX6 a)):L0 ⟨6,p,ws,[a]⟩:=by
 intro c6 c5 w G A h;rw[NV]at h;obtain⟨hv,g,v1,u1,hg,rfl,C,E⟩:=h;obtain⟨i,k,l,rfl⟩:=PV.slice _ _ hv;obtain⟨⟨X,Y,Z,rfl⟩,t1,t2,t3,rfl⟩:=NV.slices _ _ _ E;have c3:=A g hg;have T:Hid (B5 ⟨6,p,ws,[a]⟩↔B5 a/\K2 (Ls.eX8 a)/\K2 (Ls.eX6 a)):=by
  show _↔_;rw[B5]
 generalize B5 ⟨6,p,ws,[a]⟩=F at *;have m:=A5 w (lo 6 p ws i k l g 1);have r:Hid (∀W,Bw w W->NV W G a (.slice X Y Z) (.slice t1 t2 t3)):=fun W c=>E.below c (fun j b=>A j b) (fun _ h=>h);have d:Hid (∀W,Bw w W->Old W G):=fun W c j b=>Ll (A j b) c.size;have U:Hid (∀W,Bw w W->LiesL W g (E4 a (.slice X Y Z) (.slice t1 t2 t3))):=fun W c=>C.of_block (c.block g c3);have S:Hid (∀W,Below (w.alloc (lo 6 p ws i k l g 1)).heap.size (w.alloc (lo 6 p ws i k l g 1)) W->LiesL W w.heap.size [Iv (6:Nat),Iv (Ls.eX5 p).kind,.string ⟨(Ls.eX5 p).signs.toArray⟩,.slice i k l,Sv ws,Sl g 1 1]):=fun W c=>(N5 w 6 (Ls.eX5 p) ws (.slice i k l) (Sl g 1 1)).of_block (c.block _ (by simp));have hC:=ha _ _ _ G (d.out _ m) (r.out _ m);obtain⟨a0,a1,a2,a3,a4,a5⟩:=C.six;have HS:Hid (D8 a):=hS;have HV:Hid (D7 a):=hV;have b7:Hid _:=m;clear hv E C m hS hV ha;go_enter Tryz.func47,Tryz.ntmps47;go_wp2_with fail;refine wp_loop_rounds 2 ?_;rw[rounds_succ];go_wp2_with fail;refine hC.mono ?_;rintro e o ⟨tb,rfl,b6,B⟩;have f:=Bj b7.out B;obtain⟨t,u,v,x,y,z⟩:=(S.out o B).six;obtain⟨L,M,N,O,P,Q⟩:=(U.out o f).six;have s:Hid (tb=true↔B5 a):=b6;clear a0 a1 a2 a3 a4 a5 hC b6;cases tb with
 | false=>
  have HN:Hid (¬F):=fun h=>by have:=s.out.2 (T.out.1 h).1;cases this
  go_wp2_with fail;go_ret;exact⟨false,rfl,⟨fun h=>(by cases h),fun h=>absurd h HN.out⟩,f⟩
 | true=>
  have b9:Hid (B5 a):=s.out.1 rfl;have a6:=HS.out _ _ o G (d.out _ f) (r.out _ f);clear s;go_wp2_with fail;rw[rounds_succ];go_wp2_with fail;refine a6.mono ?_;rintro e w3 ⟨c4,rfl,H,b0⟩;obtain⟨s1,s2,s3,rfl⟩:=PV.slice _ _ H;have b2:=Bj f b0;have a7:=fQh (.slice s1 s2 s3) w3 (F5 G o w3) (Ls.eX8 a) d1 (fun j b=>by
   rcases b with b|b
   ·exact d.out _ b2 j b
   ·exact b.2) H
  clear a6 H t u v x y z L M N O P Q;go_wp2_with fail;refine a7.mono ?_;rintro e q ⟨J,rfl,b4,b1⟩;have n:=Bj b2 b1;obtain⟨t,u,v,x,y,z⟩:=(S.out q (Bj (Bj B b0) b1)).six;obtain⟨L,M,N,O,P,Q⟩:=(U.out q n).six;have a8:=HV.out _ _ q G (d.out _ n) (r.out _ n);have b8:Hid (J=true↔K2 (Ls.eX8 a)):=b4;clear a7 b4;go_wp2_with fail;refine a8.mono ?_;rintro e w5 ⟨c4,rfl,I,c1⟩;obtain⟨n1,n2,n3,rfl⟩:=PV.slice _ _ I;have b3:=Bj n c1;have a9:=fQh (.slice n1 n2 n3) w5 (F5 G q w5) (Ls.eX6 a) d2 (fun j b=>by
   rcases b with b|b
   ·exact d.out _ b3 j b
   ·exact b.2) I
  clear a8 I t u v x y z L M N O P Q;go_wp2_with fail;refine a9.mono ?_;rintro e w6 ⟨K,rfl,b5,c2⟩;have R:Hid (Bw w w6):=Bj b3 c2;have V:Hid ((J&&K)=true↔F):=by
   show _↔_;rw[T.out,Bool.and_eq_true,b8.out,b5];exact⟨fun h=>⟨b9.out,h⟩,fun h=>h.2⟩
  clear a9 b5;cases J with
  | false=>
   go_wp2_with fail;go_ret;exact⟨false,rfl,V.out,R.out⟩
  | true=>
   have c0:Hid (K=true↔F):=V.out;go_wp2_with fail;go_ret;exact⟨K,rfl,c0.out,R.out⟩
theorem pQt (ha:L0 a)(hS:D8 a)(hV:D7 a)(d1:Ls.BdL 120 (Ls.eX8 a))(d2:Ls.BdL 120 (Ls.eX6 a)):L0 ⟨7,p,ws,[a]⟩:=by
 intro c6 c5 w G A h;rw[NV]at h;obtain⟨hv,g,v1,u1,hg,rfl,C,E⟩:=h;obtain⟨i,k,l,rfl⟩:=PV.slice _ _ hv;obtain⟨⟨X,Y,Z,rfl⟩,t1,t2,t3,rfl⟩:=NV.slices _ _ _ E;have c3:=A g hg;have T:Hid (B5 ⟨7,p,ws,[a]⟩↔B5 a/\K2 (Ls.eX8 a)/\K2 (Ls.eX6 a)):=by
  show _↔_;rw[B5]
 generalize B5 ⟨7,p,ws,[a]⟩=F at *;have m:=A5 w (lo 7 p ws i k l g 1);have r:Hid (∀W,Bw w W->NV W G a (.slice X Y Z) (.slice t1 t2 t3)):=fun W c=>E.below c (fun j b=>A j b) (fun _ h=>h);have d:Hid (∀W,Bw w W->Old W G):=fun W c j b=>Ll (A j b) c.size;have U:Hid (∀W,Bw w W->LiesL W g (E4 a (.slice X Y Z) (.slice t1 t2 t3))):=fun W c=>C.of_block (c.block g c3);have S:Hid (∀W,Below (w.alloc (lo 7 p ws i k l g 1)).heap.size (w.alloc (lo 7 p ws i k l g 1)) W->LiesL W w.heap.size [Iv (7:Nat),Iv (Ls.eX5 p).kind,.string ⟨(Ls.eX5 p).signs.toArray⟩,.slice i k l,Sv ws,Sl g 1 1]):=fun W c=>(N5 w 7 (Ls.eX5 p) ws (.slice i k l) (Sl g 1 1)).of_block (c.block _ (by simp));have hC:=ha _ _ _ G (d.out _ m) (r.out _ m);obtain⟨a0,a1,a2,a3,a4,a5⟩:=C.six;have HS:Hid (D8 a):=hS;have HV:Hid (D7 a):=hV;have b7:Hid _:=m;clear hv E C m hS hV ha;go_enter Tryz.func47,Tryz.ntmps47;go_wp2_with fail;refine wp_loop_rounds 2 ?_;rw[rounds_succ];go_wp2_with fail;refine hC.mono ?_;rintro e o ⟨tb,rfl,b6,B⟩;have f:=Bj b7.out B;obtain⟨t,u,v,x,y,z⟩:=(S.out o B).six;obtain⟨L,M,N,O,P,Q⟩:=(U.out o f).six;have s:Hid (tb=true↔B5 a):=b6;clear a0 a1 a2 a3 a4 a5 hC b6;cases tb with
 | false=>
  have HN:Hid (¬F):=fun h=>by have:=s.out.2 (T.out.1 h).1;cases this
  go_wp2_with fail;go_ret;exact⟨false,rfl,⟨fun h=>(by cases h),fun h=>absurd h HN.out⟩,f⟩
 | true=>
  have b9:Hid (B5 a):=s.out.1 rfl;have a6:=HS.out _ _ o G (d.out _ f) (r.out _ f);clear s;go_wp2_with fail;rw[rounds_succ];go_wp2_with fail;refine a6.mono ?_;rintro e w3 ⟨c4,rfl,H,b0⟩;obtain⟨s1,s2,s3,rfl⟩:=PV.slice _ _ H;have b2:=Bj f b0;have a7:=fQh (.slice s1 s2 s3) w3 (F5 G o w3) (Ls.eX8 a) d1 (fun j b=>by
   rcases b with b|b
   ·exact d.out _ b2 j b
   ·exact b.2) H
  clear a6 H t u v x y z L M N O P Q;go_wp2_with fail;refine a7.mono ?_;rintro e q ⟨J,rfl,b4,b1⟩;have n:=Bj b2 b1;obtain⟨t,u,v,x,y,z⟩:=(S.out q (Bj (Bj B b0) b1)).six;obtain⟨L,M,N,O,P,Q⟩:=(U.out q n).six;have a8:=HV.out _ _ q G (d.out _ n) (r.out _ n);have b8:Hid (J=true↔K2 (Ls.eX8 a)):=b4;clear a7 b4;go_wp2_with fail;refine a8.mono ?_;rintro e w5 ⟨c4,rfl,I,c1⟩;obtain⟨n1,n2,n3,rfl⟩:=PV.slice _ _ I;have b3:=Bj n c1;have a9:=fQh (.slice n1 n2 n3) w5 (F5 G q w5) (Ls.eX6 a) d2 (fun j b=>by
   rcases b with b|b
   ·exact d.out _ b3 j b
   ·exact b.2) I
  clear a8 I t u v x y z L M N O P Q;go_wp2_with fail;refine a9.mono ?_;rintro e w6 ⟨K,rfl,b5,c2⟩;have R:Hid (Bw w w6):=Bj b3 c2;have V:Hid ((J&&K)=true↔F):=by
   show _↔_;rw[T.out,Bool.and_eq_true,b8.out,b5];exact⟨fun h=>⟨b9.out,h⟩,fun h=>h.2⟩
  clear a9 b5;cases J with
  | false=>
   go_wp2_with fail;go_ret;exact⟨false,rfl,V.out,R.out⟩
  | true=>
   have c0:Hid (K=true↔F):=V.out;go_wp2_with fail;go_ret;exact⟨K,rfl,c0.out,R.out⟩
theorem pQr (b:Ls.Ln)(ha:L0 a)(hb:L0 b)(c1:D8 a)(c2:D8 b)(d1:Ls.BdL 120 (Ls.eX8 a))(d2:Ls.BdL 120 (Ls.eX8 b)):L0 ⟨5,p,ws,[a,b]⟩:=by
 intro g1 f4 w G S h;rw[NV]at h;obtain⟨hv,g,v1,u1,v2,u2,hg,rfl,b5,b6,b7⟩:=h;obtain⟨J,K,L,rfl⟩:=PV.slice _ _ hv;obtain⟨⟨s,t,u,rfl⟩,E,H,I,rfl⟩:=NV.slices _ _ _ b6;obtain⟨⟨v,x,y,rfl⟩,z,A,B,rfl⟩:=NV.slices _ _ _ b7;have e8:=S g hg;have X:Hid (B5 ⟨5,p,ws,[a,b]⟩↔B5 a/\B5 b/\¬Ls.jX2 (Ls.eX8 a) (Ls.eX8 b)):=by
  show _↔_;rw[B5];simp
 generalize B5 ⟨5,p,ws,[a,b]⟩=F at *;have T:=A5 w (lo 5 p ws J K L g 2);have b8:Hid (∀W,Bw w W->NV W G a (.slice s t u) (.slice E H I)):=fun W f=>b6.below f (fun j c=>S j c) (fun _ h=>h);have b9:Hid (∀W,Bw w W->NV W G b (.slice v x y) (.slice z A B)):=fun W f=>b7.below f (fun j c=>S j c) (fun _ h=>h);have r:Hid (∀W,Bw w W->Old W G):=fun W f j c=>Ll (S j c) f.size;have d5:Hid (∀W,Bw w W->LiesL W g (E4 a (.slice s t u) (.slice E H I)++E4 b (.slice v x y) (.slice z A B))):=fun W f=>b5.of_block (f.block g e8);have V:Hid (∀W,Below (w.alloc (lo 5 p ws J K L g 2)).heap.size (w.alloc (lo 5 p ws J K L g 2)) W->LiesL W w.heap.size [Iv (5:Nat),Iv (Ls.eX5 p).kind,.string ⟨(Ls.eX5 p).signs.toArray⟩,.slice J K L,Sv ws,Sl g 2 2]):=fun W f=>(N5 w 5 (Ls.eX5 p) ws (.slice J K L) (Sl g 2 2)).of_block (f.block _ (by simp));have Z:Hid (∀d,Bw w d->Below (w.alloc (lo 5 p ws J K L g 2)).heap.size (w.alloc (lo 5 p ws J K L g 2)) d->Ce d w.heap.size 5 (Sl g 2 2)/\tw d g a b s t u E H I v x y z A B):=fun d M h2=>by
  have l1:=V.out d h2;have l2:=d5.out d M;exact⟨l1.cell 5,l2.tw⟩
 have hC:=ha _ _ _ G (r.out _ T) (b8.out _ T);obtain⟨-,a0,a1,a2,a3,a4,a5,a6,a7,a8,a9,e4,e6⟩:True/\tw w g a b s t u E H I v x y z A B:=by
  have l2:=b5;exact⟨trivial,l2.tw⟩
 have d6:Hid (D8 a):=c1;have d7:Hid (D8 b):=c2;have e1:Hid (L0 b):=hb;have d4:Hid _:=T;clear hv b6 b7 b5 T c1 c2 ha hb;go_enter Tryz.func47,Tryz.ntmps47;go_wp2_with fail;refine wp_loop_rounds 3 ?_;rw[rounds_succ];go_wp2_with fail;refine hC.mono ?_;rintro e w2 ⟨ta,rfl,c7,U⟩;have P:=Bj d4.out U;obtain⟨e5,r0,r1,r2,r3,r4,r5,r6,r7,r8,r9,c9,d0⟩:=Z.out w2 P U;have b0:Hid (ta=true↔B5 a):=c7;have e0:=(V.out w2 U).cell 0;clear a0 a1 a2 a3 a4 a5 a6 a7 a8 a9 e4 e6 hC c7;cases ta with
 | false=>
  have Y:Hid (¬F):=fun h=>by have:=b0.out.2 (X.out.1 h).1;cases this
  go_wp2_with fail;go_ret;exact⟨false,rfl,⟨fun h=>(by cases h),fun h=>absurd h Y.out⟩,P⟩
 | true=>
  have d8:Hid (B5 a):=b0.out.1 rfl;have c0:=e1.out _ _ w2 G (r.out _ P) (b9.out _ P);clear b0;go_wp2_with fail;rw[rounds_succ];go_wp2_with fail;refine c0.mono ?_;rintro e q ⟨tb,rfl,c8,c3⟩;have b2:=Bj U c3;have C:=Bj P c3;have b1:Hid (tb=true↔B5 b):=c8;clear e5 r0 r1 r2 r3 r4 r5 r6 r7 r8 r9 c9 d0 c0 c8 e0;have c6:=Z.out q C b2;have f0:Hid _:=c6;obtain⟨e5,r0,r1,r2,r3,r4,r5,r6,r7,r8,r9,c9,d0⟩:=c6;have e0:=(V.out q b2).cell 0;cases tb with
  | false=>
   have Y:Hid (¬F):=fun h=>by have:=b1.out.2 (X.out.1 h).2.1;cases this
   go_wp2_with fail;go_ret;exact⟨false,rfl,⟨fun h=>(by cases h),fun h=>absurd h Y.out⟩,C⟩
  | true=>
   have d9:Hid (B5 b):=b1.out.1 rfl;clear b1;have e2:Hid (∀W,Bw q W->Ca 51 #[(E1 a s t u E H I)] W fun e d=>∃i k l,e=.returned (.agg #[Iv (Ls.eX8 a).kind,.string ⟨(Ls.eX8 a).signs.toArray⟩,.slice i k l])/\Bw W d/\∀n,Bw d n->PV n (fun j=>G j\/(w.heap.size<=j/\j<n.heap.size)) (Ls.eX8 a) (.slice i k l)):=by
    intro W f;have o:=Bj C f;refine(d6.out _ _ W G (r.out _ o) (b8.out _ o)).mono ?_;rintro e d ⟨e9,rfl,R,Q⟩;obtain⟨i,k,l,rfl⟩:=PV.slice _ _ R;refine⟨i,k,l,rfl,Q,fun n O=>R.below O (fun j c=>?_) (fun j c=>?_)⟩
    ·rcases c with c|c
     ·exact r.out _ (Bj o Q) j c
     ·exact c.2
    ·rcases c with c|c
     ·exact .inl c
     ·exact .inr ⟨Lq o.size c.1,Ll c.2 O.size⟩
   have e3:Hid (∀W,Bw q W->Ca 51 #[(E1 b v x y z A B)] W fun e d=>∃i k l,e=.returned (.agg #[Iv (Ls.eX8 b).kind,.string ⟨(Ls.eX8 b).signs.toArray⟩,.slice i k l])/\Bw W d/\∀n,Bw d n->PV n (fun j=>G j\/(w.heap.size<=j/\j<n.heap.size)) (Ls.eX8 b) (.slice i k l)):=by
    intro W f;have o:=Bj C f;refine(d7.out _ _ W G (r.out _ o) (b9.out _ o)).mono ?_;rintro e d ⟨e9,rfl,R,Q⟩;obtain⟨i,k,l,rfl⟩:=PV.slice _ _ R;refine⟨i,k,l,rfl,Q,fun n O=>R.below O (fun j c=>?_) (fun j c=>?_)⟩
    ·rcases c with c|c
     ·exact r.out _ (Bj o Q) j c
     ·exact c.2
    ·rcases c with c|c
     ·exact .inl c
     ·exact .inr ⟨Lq o.size c.1,Ll c.2 O.size⟩
   have d3:Hid (∀W i k l z1 z2 z3,Bw q W->PV W (fun j=>G j\/(w.heap.size<=j/\j<W.heap.size)) (Ls.eX8 a) (.slice i k l)->PV W (fun j=>G j\/(w.heap.size<=j/\j<W.heap.size)) (Ls.eX8 b) (.slice z1 z2 z3)->Ca 17 #[B4 (Ls.eX8 a) (.slice i k l),B4 (Ls.eX8 b) (.slice z1 z2 z3)] W (Y2 W (¬Ls.jX2 (Ls.eX8 a) (Ls.eX8 b)))):=by
    intro W i k l z1 z2 z3 f M h2;exact rQb _ _ W _ _ _ d1 d2 (by omega) (by omega) (fun j c=>by
     rcases c with c|c
     ·exact r.out _ (Bj C f) j c
     ·exact c.2) M h2
   have N:Hid (∀d,Bw q d->Ce d w.heap.size 5 (Sl g 2 2)/\tw d g a b s t u E H I v x y z A B):=fun d M=>Z.out d (Bj C M) (Bj b2 M);go_wp2_with fail;rw[rounds_succ];go_wp2_with fail;go_region_held (fun d=>Ce d w.heap.size 5 (Sl g 2 2)/\tw d g a b s t u E H I v x y z A B) (first|assumption|exact N.out _ Br.drew|exact N.out _ m|go_keep)
    (first
     | (go_at_call_of 51 a.kind;refine(e2.out _ ?_).mono ?_;(first|exact Br.drew|exact m);rintro e wa ⟨f5,f6,f7,rfl,b3,hA⟩;have m:Bw q wa:=(by first|exact Bj Br.drew b3|exact Bj m b3);have f2:=N.out wa m)
     | (go_at_call_of 51 b.kind;refine(e3.out _ ?_).mono ?_;(first|exact Br.drew|exact m);rintro e wb ⟨f8,f9,g0,rfl,b4,hB⟩;have m:Bw q wb:=(by first|exact Bj Br.drew b4|exact Bj m b4);have f3:=N.out wb m)
     | (go_at_call 17;refine(d3.out _ _ _ _ _ _ _ m (hA _ ?_) (hB _ ?_)).mono ?_;(first|exact Br|exact b4);(first|exact Br|exact b3);rintro e w4 ⟨ob,rfl,c5,e7⟩;have c4:Bw q w4:=Bj m e7;have f1:=N.out w4 c4))
   all_goals
    have HB:Hid (ob=true↔F):=by
     show _↔_;rw[X.out,c5];exact⟨fun h=>⟨d8.out,d9.out,h⟩,fun h=>h.2.2⟩
    have HW:Hid (Bw w w4):=Bj C c4;clear c5 hA hB;go_wp2_with fail;go_ret;exact⟨ob,rfl,HB.out,HW.out⟩
end Go.Proofs.YtfklinjaajafgaaGreatDoor
