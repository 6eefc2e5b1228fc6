import Derived.Test.YtfklinjaajafgaaGreatDoorK31
import Derived.Test.YtfklinjaajafgaaGreatDoorK32
set_option maxRecDepth 100000
set_option maxHeartbeats 4000000
namespace Go.Proofs.YtfklinjaajafgaaGreatDoor
open Ls
open Go.RowKit
variable {b:Nat}(p:Ls.D)(q:Pat)(ws:Lu)(a:Ln)(y:Value)(w:World)(z:Value)(G:Nat->Prop)
def Y2 (w:World)(F:Prop):Ending->World->Prop:=fun e w'=>∃b:Bool,e=.returned (.bool b)/\(b=true↔F)/\Bw w w'
theorem dQc {a:Nat}(p:Pat)(c:BdL a p)(d:BdL b q)(ha:a<=121)(h:b<=121)(g:Old w G)(e:PV w G p y)(f:PV w G q z) :
  Calls Tryz.prog 16 #[B4 p y,B4 q z] w (Y2 w (¬fXb p q)):=by
 obtain⟨k,i⟩:=c.room ha;obtain⟨l,j⟩:=d.room h;exact xQ8 p q _ _ k l (by simp) (by simp) i j c.sg d.sg y z w G g e f
theorem rQb {a:Nat}(p:Pat)(c:BdL a p)(d:BdL b q)(ha:a<=121)(h:b<=121)(g:Old w G)(e:PV w G p y)(f:PV w G q z) :
  Calls Tryz.prog 17 #[B4 p y,B4 q z] w (Y2 w (¬jX2 p q)):=by
 obtain⟨k,i⟩:=c.room ha;obtain⟨l,j⟩:=d.room h;exact rQa p q _ _ k l (by simp) (by simp) i j c.sg d.sg y z w G g e f
theorem fQh (p:Pat)(C:BdL 120 p)(m:Old w G)(t:PV w G p y):Calls Tryz.prog 82 #[B4 p y] w (Y2 w (K2 p)):=by
 obtain⟨g,i,k,rfl⟩:=PV.slice _ _ t;have q:=A5 w (C1 p (.slice g i k));have x:=eQm p C.ok (.slice g i k) _ G (fun j a=>Ll (m j a) q.size) (t.below q (fun j a=>m j a) (fun _ h=>h));have E:=C7 w (C2 p (.slice g i k));have Q:Hid _:=q;have J:Hid (PV w G p (.slice g i k)):=t;clear t q;generalize L:K2 p=F;have I:Hid (F=K2 p):=L.symm;clear L;go_enter Tryz.func82,Tryz.ntmps82;go_wp2_with fail;refine x.mono ?_;rintro e l ⟨rfl,M⟩;have o:=E.below M (by simp);have r:=Bj Q.out M;obtain⟨m0,m1,m2⟩:=o.three;have a0:=o.lt;cases s:Ls.empty p with
 | true=>
  have S:Hid (¬K2 p):=fun h=>by have:=h.1;rw[s]at this;cases this
  clear s x E o;go_wp2_with fail;go_ret;exact⟨false,rfl,⟨fun h=>(by cases h),fun h=>absurd (I.out▸h) S.out⟩,r⟩
 | false=>
  have R:Hid (Ls.empty p=false):=s;have U:Hid (∀W,Bw l W->Ca 85 #[B4 p (.slice g i k)] W fun e v=>∃c d f,e=.returned (.agg #[Iv (fXl p).kind,.string ⟨(fXl p).signs.toArray⟩,.slice c d f])/\PV v (F5 G W v) (fXl p) (.slice c d f)/\Bw W v):=by
   intro W z;have n:=Bj r z;refine(aQ5 (.slice g i k) p W G (fun j a=>Ll (m j a) n.size) (J.out.below n (fun j a=>m j a) (fun _ h=>h))).mono ?_;rintro e v ⟨a1,rfl,u,Y⟩;obtain⟨c,d,f,rfl⟩:=PV.slice _ _ u;exact⟨c,d,f,rfl,u,Y⟩
  have T:Hid (∀W b c d f,Bw l W->Bw W b->PV b (F5 G W b) (fXl p) (.slice c d f)->Ca 16 #[B4 p (.slice g i k),B4 (fXl p) (.slice c d f)] b (Y2 b (¬fXb p (fXl p)))):=by
   intro W b c d f z X u;have n:=Bj (Bj r z) X;exact dQc (fXl p) _ b _ (F5 G W b) p C (hXf C) (by omega) (by omega) (fun j a=>by
    rcases a with a|a
    ·exact Ll (m j a) n.size
    ·exact a.2) (J.out.below n (fun j a=>m j a) (fun _ h=>.inl h)) u
  have H:Hid (Lies l w.heap.size (C2 p (.slice g i k))):=o;clear s x E o;go_wp2_with fail;go_region_with (first
   | (go_at_call 85;refine(U.out _ ?_).mono ?_;exact Br.drew;rintro e b ⟨c,d,f,rfl,O,A⟩;have N:=H.out.below (Below.trans (Below.refl l.heap.size l).drew A) H.out.lt;obtain⟨n0,n1,n2⟩:=N.three)
   | (go_at_call 16;refine(T.out _ _ _ _ _ ?_ A O).mono ?_;exact Br.drew;rintro e w4 ⟨K,rfl,B,Z⟩))
  all_goals
   have P:Hid (K=true↔F):=by
    show _↔_;rw[I.out];exact⟨fun h=>⟨R.out,B.1 h⟩,fun h=>B.2 h.2⟩
   have V:Hid (Bw w w4):=Bj (Bj r (Below.trans (Below.refl l.heap.size l).drew A)) Z;clear B N n0 n1 n2 O;go_wp2_with fail;go_ret;exact⟨K,rfl,P.out,V.out⟩
def L0 (l:Ln):Prop:=∀(y x:Value) (w:World) (G:Nat->Prop),Old w G->NV w G l y x->Ca 47 #[F0 l y x] w (Y2 w (B5 l))
theorem pQm:L0 ⟨0,p,ws,[]⟩:=by
 intro y x w G f h;rw[NV]at h;obtain⟨a,rfl⟩:=h;obtain⟨c,d,e,rfl⟩:=PV.slice _ _ a;have b:Hid (Y2 w (B5 ⟨0,p,ws,[]⟩) (.returned (.bool true)) (w.alloc (B7 0 (eX5 p) ws (.slice c d e) (.slice none 0 0)))):=⟨true,rfl,by rw[B5];simp,A5 _ _⟩;generalize B5 ⟨0,p,ws,[]⟩=F at *;clear a;go_enter Tryz.func47,Tryz.ntmps47;go_wp2_with fail;refine wp_loop_rounds 1 ?_;rw[rounds_succ];go_wp2_with fail;go_ret;exact b.out
theorem pQo:L0 ⟨2,p,ws,[]⟩:=by
 intro y x w G f h;rw[NV]at h;obtain⟨a,rfl⟩:=h;obtain⟨c,d,e,rfl⟩:=PV.slice _ _ a;have b:Hid (Y2 w (B5 ⟨2,p,ws,[]⟩) (.returned (.bool true)) (w.alloc (B7 2 (eX5 p) ws (.slice c d e) (.slice none 0 0)))):=⟨true,rfl,by rw[B5];simp,A5 _ _⟩;generalize B5 ⟨2,p,ws,[]⟩=F at *;clear a;go_enter Tryz.func47,Tryz.ntmps47;go_wp2_with fail;refine wp_loop_rounds 1 ?_;rw[rounds_succ];go_wp2_with fail;go_ret;exact b.out
theorem pQn (q:ws.length<=1048576)(n:BdL 120 (eX5 p)):L0 ⟨1,p,ws,[]⟩:=by
 intro y x w G f h;rw[NV]at h;obtain⟨c,rfl⟩:=h;obtain⟨g,i,k,rfl⟩:=PV.slice _ _ c;have a:=A5 w (B7 1 (eX5 p) ws (.slice g i k) (.slice none 0 0));have d:=kQy (eX5 p) ⟨ws.toArray⟩ (.slice g i k) _ (n.room (by omega)).1 (by simp) (by show ws.toArray.size<=_;unfold maxLen;simp;omega) _ G (fun j b=>Ll (f j b) a.size) (c.below a (fun j b=>f j b) (fun _ h=>h));rw[show (ByteArray.mk ws.toArray).data.toList=ws from rfl]at d;have m:Hid (B5 ⟨1,p,ws,[]⟩↔Ls.is (eX5 p) ws=true):=by
  show _↔_;rw[B5];simp
 have l:Hid _:=a;generalize B5 ⟨1,p,ws,[]⟩=F at *;clear c a;go_enter Tryz.func47,Tryz.ntmps47;go_wp2_with fail;refine wp_loop_rounds 1 ?_;rw[rounds_succ];go_wp2_with fail;refine d.mono ?_;rintro e r ⟨rfl,o⟩;go_wp2_with fail;go_ret;exact⟨_,rfl,m.out.symm,Bj l.out o⟩
theorem pQs {k9:Nat}(hk:k9=6\/k9=7)(ha:L0 a)(hS:D8 a)(hV:D7 a)(d1:BdL 120 (eX8 a))(d2:BdL 120 (eX6 a)):L0 ⟨k9,p,ws,[a]⟩:=by
 intro c6 c5 w G A h;rw[NV]at h;obtain⟨hv,g,v1,u1,hg,rfl,C,E⟩:=h;obtain⟨i,k,l,rfl⟩:=PV.slice _ _ hv;obtain⟨⟨X,Y,Z,rfl⟩,t1,t2,t3,rfl⟩:=NV.slices _ _ _ E;have c3:=A g hg;have T:Hid (B5 ⟨k9,p,ws,[a]⟩↔B5 a/\K2 (eX8 a)/\K2 (eX6 a)):=by
  rcases hk with rfl|rfl<;>(show _↔_;rw[B5])
 generalize B5 ⟨k9,p,ws,[a]⟩=F at *;have m:=A5 w (lo k9 p ws i k l g 1);have r:Hid (∀W,Bw w W->NV W G a (.slice X Y Z) (.slice t1 t2 t3)):=fun W c=>E.below c (fun j b=>A j b) (fun _ h=>h);have d:Hid (∀W,Bw w W->Old W G):=fun W c j b=>Ll (A j b) c.size;have U:Hid (∀W,Bw w W->LiesL W g (E4 a (.slice X Y Z) (.slice t1 t2 t3))):=fun W c=>C.of_block (c.block g c3);have S:Hid (∀W,Below (w.alloc (lo k9 p ws i k l g 1)).heap.size (w.alloc (lo k9 p ws i k l g 1)) W->LiesL W w.heap.size [Iv (k9:Nat),Iv (eX5 p).kind,.string ⟨(eX5 p).signs.toArray⟩,.slice i k l,Sv ws,Sl g 1 1]):=fun W c=>(N5 w k9 (eX5 p) ws (.slice i k l) (Sl g 1 1)).of_block (c.block _ (by simp));have hC:=ha _ _ _ G (d.out _ m) (r.out _ m);obtain⟨a0,a1,a2,a3,a4,a5⟩:=C.six;have HS:Hid (D8 a):=hS;have HV:Hid (D7 a):=hV;have b7:Hid _:=m;clear hv E C m hS hV ha;rcases hk with rfl|rfl
 all_goals
  go_enter Tryz.func47,Tryz.ntmps47;go_wp2_with fail;refine wp_loop_rounds 2 ?_;rw[rounds_succ];go_wp2_with fail;refine hC.mono ?_;rintro e o ⟨tb,rfl,b6,B⟩;have f:=Bj b7.out B;obtain⟨t,u,v,x,y,z⟩:=(S.out o B).six;obtain⟨L,M,N,O,P,Q⟩:=(U.out o f).six;have s:Hid (tb=true↔B5 a):=b6;clear a0 a1 a2 a3 a4 a5 hC b6;cases tb with
  | false=>
   have HN:Hid (¬F):=fun h=>by have:=s.out.2 (T.out.1 h).1;cases this
   go_wp2_with fail;go_ret;exact⟨false,rfl,⟨fun h=>(by cases h),fun h=>absurd h HN.out⟩,f⟩
  | true=>
   have b9:Hid (B5 a):=s.out.1 rfl;have a6:=HS.out _ _ o G (d.out _ f) (r.out _ f);clear s;go_wp2_with fail;rw[rounds_succ];go_wp2_with fail;refine a6.mono ?_;rintro e w3 ⟨c4,rfl,H,b0⟩;obtain⟨s1,s2,s3,rfl⟩:=PV.slice _ _ H;have b2:=Bj f b0;have a7:=fQh (.slice s1 s2 s3) w3 (F5 G o w3) (eX8 a) d1 (fun j b=>by
    rcases b with b|b
    ·exact d.out _ b2 j b
    ·exact b.2) H
   clear a6 H t u v x y z L M N O P Q;go_wp2_with fail;refine a7.mono ?_;rintro e q ⟨J,rfl,b4,b1⟩;have n:=Bj b2 b1;obtain⟨t,u,v,x,y,z⟩:=(S.out q (Bj (Bj B b0) b1)).six;obtain⟨L,M,N,O,P,Q⟩:=(U.out q n).six;have a8:=HV.out _ _ q G (d.out _ n) (r.out _ n);have b8:Hid (J=true↔K2 (eX8 a)):=b4;clear a7 b4;go_wp2_with fail;refine a8.mono ?_;rintro e w5 ⟨c4,rfl,I,c1⟩;obtain⟨n1,n2,n3,rfl⟩:=PV.slice _ _ I;have b3:=Bj n c1;have a9:=fQh (.slice n1 n2 n3) w5 (F5 G q w5) (eX6 a) d2 (fun j b=>by
    rcases b with b|b
    ·exact d.out _ b3 j b
    ·exact b.2) I
   clear a8 I t u v x y z L M N O P Q;go_wp2_with fail;refine a9.mono ?_;rintro e w6 ⟨K,rfl,b5,c2⟩;have R:Hid (Bw w w6):=Bj b3 c2;have V:Hid ((J&&K)=true↔F):=by
    show _↔_;rw[T.out,Bool.and_eq_true,b8.out,b5];exact⟨fun h=>⟨b9.out,h⟩,fun h=>h.2⟩
   clear a9 b5;cases J with
   | false=>
    go_wp2_with fail;go_ret;exact⟨false,rfl,V.out,R.out⟩
   | true=>
    have c0:Hid (K=true↔F):=V.out;go_wp2_with fail;go_ret;exact⟨K,rfl,c0.out,R.out⟩
theorem pQr (b:Ln)(ha:L0 a)(hb:L0 b)(c1:D8 a)(c2:D8 b)(d1:BdL 120 (eX8 a))(d2:BdL 120 (eX8 b)):L0 ⟨5,p,ws,[a,b]⟩:=by
 intro g1 f4 w G S h;rw[NV]at h;obtain⟨hv,g,v1,u1,v2,u2,hg,rfl,b5,b6,b7⟩:=h;obtain⟨J,K,L,rfl⟩:=PV.slice _ _ hv;obtain⟨⟨s,t,u,rfl⟩,E,H,I,rfl⟩:=NV.slices _ _ _ b6;obtain⟨⟨v,x,y,rfl⟩,z,A,B,rfl⟩:=NV.slices _ _ _ b7;have e8:=S g hg;have X:Hid (B5 ⟨5,p,ws,[a,b]⟩↔B5 a/\B5 b/\¬jX2 (eX8 a) (eX8 b)):=by
  show _↔_;rw[B5];simp
 generalize B5 ⟨5,p,ws,[a,b]⟩=F at *;have T:=A5 w (lo 5 p ws J K L g 2);have b8:Hid (∀W,Bw w W->NV W G a (.slice s t u) (.slice E H I)):=fun W f=>b6.below f (fun j c=>S j c) (fun _ h=>h);have b9:Hid (∀W,Bw w W->NV W G b (.slice v x y) (.slice z A B)):=fun W f=>b7.below f (fun j c=>S j c) (fun _ h=>h);have r:Hid (∀W,Bw w W->Old W G):=fun W f j c=>Ll (S j c) f.size;have d5:Hid (∀W,Bw w W->LiesL W g (E4 a (.slice s t u) (.slice E H I)++E4 b (.slice v x y) (.slice z A B))):=fun W f=>b5.of_block (f.block g e8);have V:Hid (∀W,Below (w.alloc (lo 5 p ws J K L g 2)).heap.size (w.alloc (lo 5 p ws J K L g 2)) W->LiesL W w.heap.size [Iv (5:Nat),Iv (eX5 p).kind,.string ⟨(eX5 p).signs.toArray⟩,.slice J K L,Sv ws,Sl g 2 2]):=fun W f=>(N5 w 5 (eX5 p) ws (.slice J K L) (Sl g 2 2)).of_block (f.block _ (by simp));have Z:Hid (∀d,Bw w d->Below (w.alloc (lo 5 p ws J K L g 2)).heap.size (w.alloc (lo 5 p ws J K L g 2)) d->Ce d w.heap.size 5 (Sl g 2 2)/\tw d g a b s t u E H I v x y z A B):=fun d M h2=>by
  have l1:=V.out d h2;have l2:=d5.out d M;exact⟨l1.cell 5,l2.tw⟩
 have hC:=ha _ _ _ G (r.out _ T) (b8.out _ T);obtain⟨-,a0,a1,a2,a3,a4,a5,a6,a7,a8,a9,e4,e6⟩:True/\tw w g a b s t u E H I v x y z A B:=by
  have l2:=b5;exact⟨trivial,l2.tw⟩
 have d6:Hid (D8 a):=c1;have d7:Hid (D8 b):=c2;have e1:Hid (L0 b):=hb;have d4:Hid _:=T;clear hv b6 b7 b5 T c1 c2 ha hb;go_enter Tryz.func47,Tryz.ntmps47;go_wp2_with fail;refine wp_loop_rounds 3 ?_;rw[rounds_succ];go_wp2_with fail;refine hC.mono ?_;rintro e w2 ⟨ta,rfl,c7,U⟩;have P:=Bj d4.out U;obtain⟨e5,r0,r1,r2,r3,r4,r5,r6,r7,r8,r9,c9,d0⟩:=Z.out w2 P U;have b0:Hid (ta=true↔B5 a):=c7;have e0:=(V.out w2 U).cell 0;clear a0 a1 a2 a3 a4 a5 a6 a7 a8 a9 e4 e6 hC c7;cases ta with
 | false=>
  have Y:Hid (¬F):=fun h=>by have:=b0.out.2 (X.out.1 h).1;cases this
  go_wp2_with fail;go_ret;exact⟨false,rfl,⟨fun h=>(by cases h),fun h=>absurd h Y.out⟩,P⟩
 | true=>
  have d8:Hid (B5 a):=b0.out.1 rfl;have c0:=e1.out _ _ w2 G (r.out _ P) (b9.out _ P);clear b0;go_wp2_with fail;rw[rounds_succ];go_wp2_with fail;refine c0.mono ?_;rintro e q ⟨tb,rfl,c8,c3⟩;have b2:=Bj U c3;have C:=Bj P c3;have b1:Hid (tb=true↔B5 b):=c8;clear e5 r0 r1 r2 r3 r4 r5 r6 r7 r8 r9 c9 d0 c0 c8 e0;have c6:=Z.out q C b2;have f0:Hid _:=c6;obtain⟨e5,r0,r1,r2,r3,r4,r5,r6,r7,r8,r9,c9,d0⟩:=c6;have e0:=(V.out q b2).cell 0;cases tb with
  | false=>
   have Y:Hid (¬F):=fun h=>by have:=b1.out.2 (X.out.1 h).2.1;cases this
   go_wp2_with fail;go_ret;exact⟨false,rfl,⟨fun h=>(by cases h),fun h=>absurd h Y.out⟩,C⟩
  | true=>
   have d9:Hid (B5 b):=b1.out.1 rfl;clear b1;have e2:Hid (∀W,Bw q W->Ca 51 #[(E1 a s t u E H I)] W fun e d=>∃i k l,e=.returned (.agg #[Iv (eX8 a).kind,.string ⟨(eX8 a).signs.toArray⟩,.slice i k l])/\Bw W d/\∀n,Bw d n->PV n (fun j=>G j\/(w.heap.size<=j/\j<n.heap.size)) (eX8 a) (.slice i k l)):=by
    intro W f;have o:=Bj C f;refine(d6.out _ _ W G (r.out _ o) (b8.out _ o)).mono ?_;rintro e d ⟨e9,rfl,R,Q⟩;obtain⟨i,k,l,rfl⟩:=PV.slice _ _ R;refine⟨i,k,l,rfl,Q,fun n O=>R.below O (fun j c=>?_) (fun j c=>?_)⟩
    ·rcases c with c|c
     ·exact r.out _ (Bj o Q) j c
     ·exact c.2
    ·rcases c with c|c
     ·exact .inl c
     ·exact .inr ⟨Lq o.size c.1,Ll c.2 O.size⟩
   have e3:Hid (∀W,Bw q W->Ca 51 #[(E1 b v x y z A B)] W fun e d=>∃i k l,e=.returned (.agg #[Iv (eX8 b).kind,.string ⟨(eX8 b).signs.toArray⟩,.slice i k l])/\Bw W d/\∀n,Bw d n->PV n (fun j=>G j\/(w.heap.size<=j/\j<n.heap.size)) (eX8 b) (.slice i k l)):=by
    intro W f;have o:=Bj C f;refine(d7.out _ _ W G (r.out _ o) (b9.out _ o)).mono ?_;rintro e d ⟨e9,rfl,R,Q⟩;obtain⟨i,k,l,rfl⟩:=PV.slice _ _ R;refine⟨i,k,l,rfl,Q,fun n O=>R.below O (fun j c=>?_) (fun j c=>?_)⟩
    ·rcases c with c|c
     ·exact r.out _ (Bj o Q) j c
     ·exact c.2
    ·rcases c with c|c
     ·exact .inl c
     ·exact .inr ⟨Lq o.size c.1,Ll c.2 O.size⟩
   have d3:Hid (∀W i k l z1 z2 z3,Bw q W->PV W (fun j=>G j\/(w.heap.size<=j/\j<W.heap.size)) (eX8 a) (.slice i k l)->PV W (fun j=>G j\/(w.heap.size<=j/\j<W.heap.size)) (eX8 b) (.slice z1 z2 z3)->Ca 17 #[B4 (eX8 a) (.slice i k l),B4 (eX8 b) (.slice z1 z2 z3)] W (Y2 W (¬jX2 (eX8 a) (eX8 b)))):=by
    intro W i k l z1 z2 z3 f M h2;exact rQb _ _ W _ _ _ d1 d2 (by omega) (by omega) (fun j c=>by
     rcases c with c|c
     ·exact r.out _ (Bj C f) j c
     ·exact c.2) M h2
   have N:Hid (∀d,Bw q d->Ce d w.heap.size 5 (Sl g 2 2)/\tw d g a b s t u E H I v x y z A B):=fun d M=>Z.out d (Bj C M) (Bj b2 M);go_wp2_with fail;rw[rounds_succ];go_wp2_with fail;go_region_held (fun d=>Ce d w.heap.size 5 (Sl g 2 2)/\tw d g a b s t u E H I v x y z A B) (first|assumption|exact N.out _ Br.drew|exact N.out _ m|go_keep)
    (first
     | (go_at_call_of 51 a.kind;refine(e2.out _ ?_).mono ?_;(first|exact Br.drew|exact m);rintro e wa ⟨f5,f6,f7,rfl,b3,hA⟩;have m:Bw q wa:=(by first|exact Bj Br.drew b3|exact Bj m b3);have f2:=N.out wa m)
     | (go_at_call_of 51 b.kind;refine(e3.out _ ?_).mono ?_;(first|exact Br.drew|exact m);rintro e wb ⟨f8,f9,g0,rfl,b4,hB⟩;have m:Bw q wb:=(by first|exact Bj Br.drew b4|exact Bj m b4);have f3:=N.out wb m)
     | (go_at_call 17;refine(d3.out _ _ _ _ _ _ _ m (hA _ ?_) (hB _ ?_)).mono ?_;(first|exact Br|exact b4);(first|exact Br|exact b3);rintro e w4 ⟨ob,rfl,c5,e7⟩;have c4:Bw q w4:=Bj m e7;have f1:=N.out w4 c4))
   all_goals
    have HB:Hid (ob=true↔F):=by
     show _↔_;rw[X.out,c5];exact⟨fun h=>⟨d8.out,d9.out,h⟩,fun h=>h.2.2⟩
    have HW:Hid (Bw w w4):=Bj C c4;clear c5 hA hB;go_wp2_with fail;go_ret;exact⟨ob,rfl,HB.out,HW.out⟩
variable (p:Ls.D)(ws:Lu)(a b:Ln)
theorem pQp (ha:L0 a)(hb:L0 b)(f5:D8 a)(f6:D8 b)(f7:D7 a)(f8:D7 b)(d1:BdL 120 (eX8 a))(d2:BdL 120 (eX8 b))(d3:BdL 120 (eX6 a))(d4:BdL 120 (eX6 b)):L0 ⟨3,p,ws,[a,b]⟩:=by
 intro l9 l0 w G hG h;rw[NV]at h;obtain⟨hv,g,v1,u1,v2,u2,hg,rfl,e2,e3,e4⟩:=h;obtain⟨y1,y2,y3,rfl⟩:=PV.slice _ _ hv;obtain⟨⟨t,u,v,rfl⟩,X,Y,Z,rfl⟩:=NV.slices _ _ _ e3;obtain⟨⟨x,y,z,rfl⟩,B,C,E,rfl⟩:=NV.slices _ _ _ e4;have g1:=hG g hg;have HF:Hid (B5 ⟨3,p,ws,[a,b]⟩↔B5 a/\B5 b/\¬fXb (eX8 a) (eX8 b)/\¬fXb (eX6 a) (eX6 b)):=by
  show _↔_;rw[B5];simp
 generalize B5 ⟨3,p,ws,[a,b]⟩=b8 at *;have c0:=A5 w (lo 3 p ws y1 y2 y3 g 2);have c5:Hid (∀W,Bw w W->NV W G a (.slice t u v) (.slice X Y Z)):=fun W f=>e3.below f (fun j c=>hG j c) (fun _ h=>h);have c6:Hid (∀W,Bw w W->NV W G b (.slice x y z) (.slice B C E)):=fun W f=>e4.below f (fun j c=>hG j c) (fun _ h=>h);have m:Hid (∀W,Bw w W->Old W G):=fun W f j c=>Ll (hG j c) f.size;have h5:Hid (∀W,Bw w W->LiesL W g (E4 a (.slice t u v) (.slice X Y Z)++E4 b (.slice x y z) (.slice B C E))):=fun W f=>e2.of_block (f.block g g1);have b9:Hid (∀W,Below (w.alloc (lo 3 p ws y1 y2 y3 g 2)).heap.size (w.alloc (lo 3 p ws y1 y2 y3 g 2)) W->LiesL W w.heap.size [Iv (3:Nat),Iv (eX5 p).kind,.string ⟨(eX5 p).signs.toArray⟩,.slice y1 y2 y3,Sv ws,Sl g 2 2]):=fun W f=>(N5 w 3 (eX5 p) ws (.slice y1 y2 y3) (Sl g 2 2)).of_block (f.block _ (by simp));have b1:Hid (∀d,Bw w d->Below (w.alloc (lo 3 p ws y1 y2 y3 g 2)).heap.size (w.alloc (lo 3 p ws y1 y2 y3 g 2)) d->Ce d w.heap.size 5 (Sl g 2 2)/\tw d g a b t u v X Y Z x y z B C E):=fun d h1 h2=>by
  have l1:=b9.out d h2;have l2:=h5.out d h1;exact⟨l1.cell 5,l2.tw⟩
 have hC:=ha _ _ _ G (m.out _ c0) (c5.out _ c0);obtain⟨-,a0,a1,a2,a3,a4,a5,a6,a7,a8,a9,i6,i7⟩:True/\tw w g a b t u v X Y Z x y z B C E:=by
  have l2:=e2;exact⟨trivial,l2.tw⟩
 have h6:Hid (D8 a):=f5;have h7:Hid (D8 b):=f6;have i0:Hid (L0 b):=hb;have i1:Hid (D7 a):=f7;have i2:Hid (D7 b):=f8;have g9:Hid _:=c0;clear hv e3 e4 e2 c0 f5 f6 f7 f8 ha hb;go_enter Tryz.func47,Tryz.ntmps47;go_wp2_with fail;refine wp_loop_rounds 3 ?_;rw[rounds_succ];go_wp2_with fail;refine hC.mono ?_;rintro e w2 ⟨ta,rfl,g6,c1⟩;have b5:=Bj g9.out c1;obtain⟨A,K,L,O,P,Q,R,S,T,U,V,M,N⟩:=b1.out w2 b5 c1;have c7:Hid (ta=true↔B5 a):=g6;have e0:=(b9.out w2 c1).cell 0;clear a0 a1 a2 a3 a4 a5 a6 a7 a8 a9 i6 i7 hC g6;cases ta with
 | false=>
  have HN:Hid (¬b8):=fun h=>by have:=c7.out.2 (HF.out.1 h).1;cases this
  go_wp2_with fail;go_ret;exact⟨false,rfl,⟨fun h=>(by cases h),fun h=>absurd h HN.out⟩,b5⟩
 | true=>
  have h8:Hid (B5 a):=c7.out.1 rfl;have f1:=i0.out _ _ w2 G (m.out _ b5) (c6.out _ b5);clear c7;go_wp2_with fail;rw[rounds_succ];go_wp2_with fail;refine f1.mono ?_;rintro e s ⟨tb,rfl,g7,g0⟩;have c2:=Bj c1 g0;have F:=Bj b5 g0;have c8:Hid (tb=true↔B5 b):=g7;clear A K L O P Q R S T U V M N f1 g7 e0;have g5:=b1.out s F c2;have j7:Hid _:=g5;obtain⟨A,K,L,O,P,Q,R,S,T,U,V,M,N⟩:=g5;have e0:=(b9.out s c2).cell 0;cases tb with
  | false=>
   have HN:Hid (¬b8):=fun h=>by have:=c8.out.2 (HF.out.1 h).2.1;cases this
   go_wp2_with fail;go_ret;exact⟨false,rfl,⟨fun h=>(by cases h),fun h=>absurd h HN.out⟩,F⟩
  | true=>
   have h9:Hid (B5 b):=c8.out.1 rfl;clear c8;have i4:Hid (∀W,Bw s W->Ca 51 #[(E1 a t u v X Y Z)] W fun e d=>∃i k l,e=.returned (.agg #[Iv (eX8 a).kind,.string ⟨(eX8 a).signs.toArray⟩,.slice i k l])/\Bw W d/\∀q,Bw d q->PV q (fun j=>G j\/(w.heap.size<=j/\j<q.heap.size)) (eX8 a) (.slice i k l)):=by
    intro W f;have r:=Bj F f;refine(h6.out _ _ W G (m.out _ r) (c5.out _ r)).mono ?_;rintro e d ⟨j4,rfl,hx,b7⟩;obtain⟨i,k,l,rfl⟩:=PV.slice _ _ hx;refine⟨i,k,l,rfl,b7,fun q b2=>hx.below b2 (fun j c=>?_) (fun j c=>?_)⟩
    ·rcases c with c|c
     ·exact m.out _ (Bj r b7) j c
     ·exact c.2
    ·rcases c with c|c
     ·exact .inl c
     ·exact .inr ⟨Lq r.size c.1,Ll c.2 b2.size⟩
   have i5:Hid (∀W,Bw s W->Ca 51 #[(E1 b x y z B C E)] W fun e d=>∃i k l,e=.returned (.agg #[Iv (eX8 b).kind,.string ⟨(eX8 b).signs.toArray⟩,.slice i k l])/\Bw W d/\∀q,Bw d q->PV q (fun j=>G j\/(w.heap.size<=j/\j<q.heap.size)) (eX8 b) (.slice i k l)):=by
    intro W f;have r:=Bj F f;refine(h7.out _ _ W G (m.out _ r) (c6.out _ r)).mono ?_;rintro e d ⟨j4,rfl,hx,b7⟩;obtain⟨i,k,l,rfl⟩:=PV.slice _ _ hx;refine⟨i,k,l,rfl,b7,fun q b2=>hx.below b2 (fun j c=>?_) (fun j c=>?_)⟩
    ·rcases c with c|c
     ·exact m.out _ (Bj r b7) j c
     ·exact c.2
    ·rcases c with c|c
     ·exact .inl c
     ·exact .inr ⟨Lq r.size c.1,Ll c.2 b2.size⟩
   have g8:Hid (∀W i k l z1 z2 z3,Bw s W->PV W (fun j=>G j\/(w.heap.size<=j/\j<W.heap.size)) (eX8 a) (.slice i k l)->PV W (fun j=>G j\/(w.heap.size<=j/\j<W.heap.size)) (eX8 b) (.slice z1 z2 z3)->Ca 16 #[B4 (eX8 a) (.slice i k l),B4 (eX8 b) (.slice z1 z2 z3)] W (Y2 W (¬fXb (eX8 a) (eX8 b)))):=by
    intro W i k l z1 z2 z3 f h1 h2;exact dQc _ _ W _ _ _ d1 d2 (by omega) (by omega) (fun j c=>by
     rcases c with c|c
     ·exact m.out _ (Bj F f) j c
     ·exact c.2) h1 h2
   have b0:Hid (∀d,Bw s d->Ce d w.heap.size 5 (Sl g 2 2)/\tw d g a b t u v X Y Z x y z B C E):=fun d h1=>b1.out d (Bj F h1) (Bj c2 h1);go_wp2_with fail;rw[rounds_succ];go_wp2_with fail;go_region_held (fun d=>Ce d w.heap.size 5 (Sl g 2 2)/\tw d g a b t u v X Y Z x y z B C E) (first|assumption|exact b0.out _ Br.drew|exact b0.out _ o|go_keep)
    (first
     | (go_at_call_of 51 a.kind;refine(i4.out _ ?_).mono ?_;(first|exact Br.drew|exact o);rintro e wa ⟨l3,l4,l5,rfl,d5,hA⟩;have o:Bw s wa:=(by first|exact Bj Br.drew d5|exact Bj o d5);have k5:=b0.out wa o)
     | (go_at_call_of 51 b.kind;refine(i5.out _ ?_).mono ?_;(first|exact Br.drew|exact o);rintro e wb ⟨l6,l7,l8,rfl,d6,hB⟩;have o:Bw s wb:=(by first|exact Bj Br.drew d6|exact Bj o d6);have k6:=b0.out wb o)
     | (go_at_call 16;refine(g8.out _ _ _ _ _ _ _ o (hA _ ?_) (hB _ ?_)).mono ?_;(first|exact Br|exact d6);(first|exact Br|exact d5);rintro e w4 ⟨ob,rfl,g3,i8⟩;have d9:Bw s w4:=Bj o i8;have j2:=b0.out w4 d9))
   all_goals
    have b6:=Bj F d9;have f9:=Bj c2 d9;have e9:Hid (ob=true↔¬fXb (eX8 a) (eX8 b)):=g3;have f2:=i1.out _ _ w4 G (m.out _ b6) (c5.out _ b6);clear g3 hA hB A K L O P Q R S T U V M N e0 j2;obtain⟨A,K,L,O,P,Q,R,S,T,U,V,M,N⟩:=b1.out w4 b6 f9;go_wp2_with fail;refine f2.mono ?_;rintro e n ⟨v5,rfl,e5,d0⟩;obtain⟨H,I,J,rfl⟩:=PV.slice _ _ e5;have k9:=d0.size;have c4:=Bj b6 d0;have c9:=Bj f9 d0;have c3:=A5 n (C1 (eX6 a) (.slice H I J));have d7:=Bj c4 c3;have f3:=i2.out _ _ (n.alloc (C1 (eX6 a) (.slice H I J))) G (m.out _ d7) (c6.out _ d7);have g2:=C7 n (C2 (eX6 a) (.slice H I J));clear A K L O P Q R S T U V M N f2;obtain⟨A,K,L,O,P,Q,R,S,T,U,V,M,N⟩:=b1.out n c4 c9;have k3:g<n.heap.size:=Ll g1 c4.size;have k7:w.heap.size<n.heap.size:=by have:=c9.size;simp at this;omega
    have f0:Hid (PV n (F5 G w4 n) (eX6 a) (.slice H I J)):=e5;have e8:Hid (Lies (n.alloc (C1 (eX6 a) (.slice H I J))) n.heap.size (C2 (eX6 a) (.slice H I J))):=g2;have h3:Hid _:=c3;have h0:Hid _:=Bj c9 c3;clear e5 g2 c3;go_wp2_with fail;refine f3.mono ?_;rintro e w6 ⟨v6,rfl,e6,b3⟩;obtain⟨m1,m2,m3,rfl⟩:=PV.slice _ _ e6;have j3:=b3.size;simp at j3;have d8:=Bj d7 b3;have b4:=A5 w6 (C1 (eX6 b) (.slice m1 m2 m3));have e0:=(b9.out w6 (Bj h0.out b3)).cell 0;have e1:=e8.out.below b3 (by simp);obtain⟨k0,k1,k2⟩:=e1.three;have k4:=e1.lt;have k8:w.heap.size<w6.heap.size:=by omega
    have f4:=dQc (eX6 b) (.slice H I J) (w6.alloc (C1 (eX6 b) (.slice m1 m2 m3))) (.slice m1 m2 m3) (fun j=>G j\/(w.heap.size<=j/\j<w6.heap.size)) (eX6 a) d3 d4 (by omega) (by omega) (fun j c=>by
     rcases c with c|c
     ·exact m.out _ (Bj d8 b4) j c
     ·have:=c.2;simp;omega) (PV.mono (fun j c=>by
      rcases c with c|c
      ·exact .inl c
      ·exact .inr ⟨Lq b6.size c.1,by have:=c.2;omega⟩) (fun j c=>by
      have j0:j<n.heap.size:=by
       rcases c with c|c
       ·exact m.out _ c4 j c
       ·exact c.2
      rw[b4.block j (by omega),b3.block j (by simp;omega),h3.out.block j j0]) _ _ f0.out) (PV.mono (fun j c=>by
      rcases c with c|c
      ·exact .inl c
      ·exact .inr ⟨by have:=c.1;simp at this;omega,c.2⟩) (fun j c=>by
      have j1:j<w6.heap.size:=by
       rcases c with c|c
       ·exact m.out _ d8 j c
       ·exact c.2
      rw[b4.block j j1]) _ _ e6)
    have h4:Hid _:=Bj d8 b4;clear A K L O P Q R S T U V M N f3 e6 e1 b4 f0 e8;go_wp2_with fail;refine f4.mono ?_;rintro e w8 ⟨e7,rfl,g4,i9⟩;have HW:Hid (Bw w w8):=Bj h4.out i9;have HX:Hid ((ob&&e7)=true↔b8):=by
     show _↔_;rw[HF.out,Bool.and_eq_true,e9.out,g4];exact⟨fun h=>⟨h8.out,h9.out,h⟩,fun h=>h.2.2⟩
    clear f4 g4 e9;cases ob with
    | false=>
     go_wp2_with fail;go_ret;exact⟨false,rfl,HX.out,HW.out⟩
    | true=>
     have i3:Hid (e7=true↔b8):=HX.out;go_wp2_with fail;go_ret;exact⟨e7,rfl,i3.out,HW.out⟩
theorem pQq (ha:L0 a)(hb:L0 b)(f5:D8 a)(f6:D8 b)(f7:D7 a)(f8:D7 b)(d1:BdL 120 (eX8 a))(d2:BdL 120 (eX8 b))(d3:BdL 120 (eX6 a))(d4:BdL 120 (eX6 b)):L0 ⟨4,p,ws,[a,b]⟩:=by
 intro m2 l5 w G hG h;rw[NV]at h;obtain⟨hv,g,v1,u1,v2,u2,hg,rfl,e2,e3,e4⟩:=h;obtain⟨y1,y2,y3,rfl⟩:=PV.slice _ _ hv;obtain⟨⟨y,z,A,rfl⟩,t1,t2,t3,rfl⟩:=NV.slices _ _ _ e3;obtain⟨⟨B,C,E,rfl⟩,H,I,J,rfl⟩:=NV.slices _ _ _ e4;have g3:=hG g hg;have HF:Hid (B5 ⟨4,p,ws,[a,b]⟩↔B5 a/\B5 b/\¬fXb (eX8 a) (eX8 b)/\¬fXb (eX6 b) (eX6 a)):=by
  show _↔_;rw[B5];simp
 generalize B5 ⟨4,p,ws,[a,b]⟩=b9 at *;have c1:=A5 w (lo 4 p ws y1 y2 y3 g 2);have c7:Hid (∀W,Bw w W->NV W G a (.slice y z A) (.slice t1 t2 t3)):=fun W i=>e3.below i (fun j c=>hG j c) (fun _ h=>h);have c8:Hid (∀W,Bw w W->NV W G b (.slice B C E) (.slice H I J)):=fun W i=>e4.below i (fun j c=>hG j c) (fun _ h=>h);have n:Hid (∀W,Bw w W->Old W G):=fun W i j c=>Ll (hG j c) i.size;have h7:Hid (∀W,Bw w W->LiesL W g (E4 a (.slice y z A) (.slice t1 t2 t3)++E4 b (.slice B C E) (.slice H I J))):=fun W i=>e2.of_block (i.block g g3);have c0:Hid (∀W,Below (w.alloc (lo 4 p ws y1 y2 y3 g 2)).heap.size (w.alloc (lo 4 p ws y1 y2 y3 g 2)) W->LiesL W w.heap.size [Iv (4:Nat),Iv (eX5 p).kind,.string ⟨(eX5 p).signs.toArray⟩,.slice y1 y2 y3,Sv ws,Sl g 2 2]):=fun W i=>(N5 w 4 (eX5 p) ws (.slice y1 y2 y3) (Sl g 2 2)).of_block (i.block _ (by simp));have b2:Hid (∀d,Bw w d->Below (w.alloc (lo 4 p ws y1 y2 y3 g 2)).heap.size (w.alloc (lo 4 p ws y1 y2 y3 g 2)) d->Ce d w.heap.size 5 (Sl g 2 2)/\tw d g a b y z A t1 t2 t3 B C E H I J):=fun d K h2=>by
  have l1:=c0.out d h2;have l2:=h7.out d K;exact⟨l1.cell 5,l2.tw⟩
 have hC:=ha _ _ _ G (n.out _ c1) (c7.out _ c1);obtain⟨-,a0,a1,a2,a3,a4,a5,a6,a7,a8,a9,i8,i9⟩:True/\tw w g a b y z A t1 t2 t3 B C E H I J:=by
  have l2:=e2;exact⟨trivial,l2.tw⟩
 have h8:Hid (D8 a):=f5;have h9:Hid (D8 b):=f6;have i2:Hid (L0 b):=hb;have i3:Hid (D7 a):=f7;have i4:Hid (D7 b):=f8;have h3:Hid _:=c1;clear hv e3 e4 e2 c1 f5 f6 f7 f8 ha hb;go_enter Tryz.func47,Tryz.ntmps47;go_wp2_with fail;refine wp_loop_rounds 3 ?_;rw[rounds_succ];go_wp2_with fail;refine hC.mono ?_;rintro e w2 ⟨ta,rfl,g8,c2⟩;have b5:=Bj h3.out c2;obtain⟨F,P,Q,T,U,V,X,Y,Z,r8,r9,R,S⟩:=b2.out w2 b5 c2;have c9:Hid (ta=true↔B5 a):=g8;have e0:=(c0.out w2 c2).cell 0;clear a0 a1 a2 a3 a4 a5 a6 a7 a8 a9 i8 i9 hC g8;cases ta with
 | false=>
  have HN:Hid (¬b9):=fun h=>by have:=c9.out.2 (HF.out.1 h).1;cases this
  go_wp2_with fail;go_ret;exact⟨false,rfl,⟨fun h=>(by cases h),fun h=>absurd h HN.out⟩,b5⟩
 | true=>
  have i0:Hid (B5 a):=c9.out.1 rfl;have f1:=i2.out _ _ w2 G (n.out _ b5) (c8.out _ b5);clear c9;go_wp2_with fail;rw[rounds_succ];go_wp2_with fail;refine f1.mono ?_;rintro e x ⟨tb,rfl,g9,g0⟩;have c3:=Bj c2 g0;have L:=Bj b5 g0;have d0:Hid (tb=true↔B5 b):=g9;clear F P Q T U V X Y Z r8 r9 R S f1 g9 e0;have g7:=b2.out x L c3;have k5:Hid _:=g7;obtain⟨F,P,Q,T,U,V,X,Y,Z,r8,r9,R,S⟩:=g7;have e0:=(c0.out x c3).cell 0;cases tb with
  | false=>
   have HN:Hid (¬b9):=fun h=>by have:=d0.out.2 (HF.out.1 h).2.1;cases this
   go_wp2_with fail;go_ret;exact⟨false,rfl,⟨fun h=>(by cases h),fun h=>absurd h HN.out⟩,L⟩
  | true=>
   have i1:Hid (B5 b):=d0.out.1 rfl;clear d0;have i6:Hid (∀W,Bw x W->Ca 51 #[(E1 a y z A t1 t2 t3)] W fun e d=>∃k l m,e=.returned (.agg #[Iv (eX8 a).kind,.string ⟨(eX8 a).signs.toArray⟩,.slice k l m])/\Bw W d/\∀u,Bw d u->PV u (fun j=>G j\/(w.heap.size<=j/\j<u.heap.size)) (eX8 a) (.slice k l m)):=by
    intro W i;have v:=Bj L i;refine(h8.out _ _ W G (n.out _ v) (c7.out _ v)).mono ?_;rintro e d ⟨k4,rfl,hx,b8⟩;obtain⟨k,l,m,rfl⟩:=PV.slice _ _ hx;refine⟨k,l,m,rfl,b8,fun u b3=>hx.below b3 (fun j c=>?_) (fun j c=>?_)⟩
    ·rcases c with c|c
     ·exact n.out _ (Bj v b8) j c
     ·exact c.2
    ·rcases c with c|c
     ·exact .inl c
     ·exact .inr ⟨Lq v.size c.1,Ll c.2 b3.size⟩
   have i7:Hid (∀W,Bw x W->Ca 51 #[(E1 b B C E H I J)] W fun e d=>∃k l m,e=.returned (.agg #[Iv (eX8 b).kind,.string ⟨(eX8 b).signs.toArray⟩,.slice k l m])/\Bw W d/\∀u,Bw d u->PV u (fun j=>G j\/(w.heap.size<=j/\j<u.heap.size)) (eX8 b) (.slice k l m)):=by
    intro W i;have v:=Bj L i;refine(h9.out _ _ W G (n.out _ v) (c8.out _ v)).mono ?_;rintro e d ⟨k4,rfl,hx,b8⟩;obtain⟨k,l,m,rfl⟩:=PV.slice _ _ hx;refine⟨k,l,m,rfl,b8,fun u b3=>hx.below b3 (fun j c=>?_) (fun j c=>?_)⟩
    ·rcases c with c|c
     ·exact n.out _ (Bj v b8) j c
     ·exact c.2
    ·rcases c with c|c
     ·exact .inl c
     ·exact .inr ⟨Lq v.size c.1,Ll c.2 b3.size⟩
   have h1:Hid (∀W k l m z1 z2 z3,Bw x W->PV W (fun j=>G j\/(w.heap.size<=j/\j<W.heap.size)) (eX8 a) (.slice k l m)->PV W (fun j=>G j\/(w.heap.size<=j/\j<W.heap.size)) (eX8 b) (.slice z1 z2 z3)->Ca 16 #[B4 (eX8 a) (.slice k l m),B4 (eX8 b) (.slice z1 z2 z3)] W (Y2 W (¬fXb (eX8 a) (eX8 b)))):=by
    intro W k l m z1 z2 z3 i K h2;exact dQc _ _ W _ _ _ d1 d2 (by omega) (by omega) (fun j c=>by
     rcases c with c|c
     ·exact n.out _ (Bj L i) j c
     ·exact c.2) K h2
   have b1:Hid (∀d,Bw x d->Ce d w.heap.size 5 (Sl g 2 2)/\tw d g a b y z A t1 t2 t3 B C E H I J):=fun d K=>b2.out d (Bj L K) (Bj c3 K);go_wp2_with fail;rw[rounds_succ];go_wp2_with fail;go_region_held (fun d=>Ce d w.heap.size 5 (Sl g 2 2)/\tw d g a b y z A t1 t2 t3 B C E H I J) (first|assumption|exact b1.out _ Br.drew|exact b1.out _ q|go_keep)
    (first
     | (go_at_call_of 51 a.kind;refine(i6.out _ ?_).mono ?_;(first|exact Br.drew|exact q);rintro e wa ⟨l6,l7,l8,rfl,d7,hA⟩;have q:Bw x wa:=(by first|exact Bj Br.drew d7|exact Bj q d7);have k8:=b1.out wa q)
     | (go_at_call_of 51 b.kind;refine(i7.out _ ?_).mono ?_;(first|exact Br.drew|exact q);rintro e wb ⟨l9,m0,m1,rfl,d8,hB⟩;have q:Bw x wb:=(by first|exact Bj Br.drew d8|exact Bj q d8);have k9:=b1.out wb q)
     | (go_at_call 16;refine(h1.out _ _ _ _ _ _ _ q (hA _ ?_) (hB _ ?_)).mono ?_;(first|exact Br|exact d8);(first|exact Br|exact d7);rintro e w4 ⟨ob,rfl,g5,j0⟩;have e1:Bw x w4:=Bj q j0;have j7:=b1.out w4 e1))
   all_goals
    have b6:=Bj L e1;have f9:=Bj c3 e1;have e9:Hid (ob=true↔¬fXb (eX8 a) (eX8 b)):=g5;have f2:=i3.out _ _ w4 G (n.out _ b6) (c7.out _ b6);clear g5 hA hB F P Q T U V X Y Z r8 r9 R S e0 j7;obtain⟨F,P,Q,T,U,V,X,Y,Z,r8,r9,R,S⟩:=b2.out w4 b6 f9;go_wp2_with fail;refine f2.mono ?_;rintro e f ⟨v5,rfl,e5,d6⟩;obtain⟨r,s,t,rfl⟩:=PV.slice _ _ e5;have l4:=d6.size;have b7:=Bj b6 d6;have d5:=Bj f9 d6;have c4:=A5 f (C1 (eX6 a) (.slice r s t));have d9:=Bj b7 c4;have f3:=i4.out _ _ (f.alloc (C1 (eX6 a) (.slice r s t))) G (n.out _ d9) (c8.out _ d9);have g4:=C7 f (C2 (eX6 a) (.slice r s t));clear F P Q T U V X Y Z r8 r9 R S f2;obtain⟨F,P,Q,T,U,V,X,Y,Z,r8,r9,R,S⟩:=b2.out f b7 d5;have k6:g<f.heap.size:=Ll g3 b7.size;have l0:w.heap.size<f.heap.size:=by have:=d5.size;simp at this;omega
    have f0:Hid (PV f (F5 G w4 f) (eX6 a) (.slice r s t)):=e5;have e8:Hid (Lies (f.alloc (C1 (eX6 a) (.slice r s t))) f.heap.size (C2 (eX6 a) (.slice r s t))):=g4;have h5:Hid _:=c4;have h4:Hid _:=Bj d5 c4;clear e5 g4 c4;go_wp2_with fail;refine f3.mono ?_;rintro e o ⟨v6,rfl,e6,b4⟩;obtain⟨M,N,O,rfl⟩:=PV.slice _ _ e6;have k3:=b4.size;simp at k3;have g2:=Bj d9 b4;have j2:=A5 o (C1 (eX6 b) (.slice M N O));have e0:=(c0.out o (Bj h4.out b4)).cell 0;have b0:=e8.out.below b4 (by simp);obtain⟨k0,k1,k2⟩:=b0.three;have k7:=b0.lt;have l3:w.heap.size<o.heap.size:=by omega
    have h0:=b0.fr 0;have K:=b0.fr 1;have h2:=b0.fr 2;have c6:(set3 o f.heap.size (eX6 b) (.slice M N O)).heap.size=o.heap.size:=by simp[set3,World.setCell]
    have c5:=A5 (set3 o f.heap.size (eX6 b) (.slice M N O)) (C1 (eX6 a) (.slice r s t));have g1:Bw w (set3 o f.heap.size (eX6 b) (.slice M N O)):=((g2.setCell (by show w.heap.size<=f.heap.size;omega) _).setCell (by show w.heap.size<=f.heap.size;omega) _).setCell (by show w.heap.size<=f.heap.size;omega) _;have f4:=dQc (eX6 a) (.slice M N O) ((set3 o f.heap.size (eX6 b) (.slice M N O)).alloc (C1 (eX6 a) (.slice r s t))) (.slice r s t) (fun j=>G j\/(w.heap.size<=j/\j<o.heap.size)) (eX6 b) d4 d3 (by omega) (by omega) (fun j c=>by
     rw[World.size_alloc,c6];rcases c with c|c
     ·have:=n.out _ g2 j c;omega
     ·have:=c.2;omega) (PV.mono (fun j c=>by
      rcases c with c|c
      ·exact .inl c
      ·exact .inr ⟨by have:=c.1;simp at this;omega,c.2⟩) (fun j c=>by
      have j4:j<o.heap.size/\j≠f.heap.size:=by
       rcases c with c|c
       ·have:=n.out _ b7 j c;exact⟨by omega,by omega⟩
       ·have:=c.1;simp at this;exact⟨c.2,by omega⟩
      rw[c5.block j (by rw[c6];omega),dQk _ _ _ _ _ j4.2]) _ _ e6) (PV.mono (fun j c=>by
      rcases c with c|c
      ·exact .inl c
      ·exact .inr ⟨Lq b6.size c.1,by have:=c.2;omega⟩) (fun j c=>by
      have j3:j<f.heap.size:=by
       rcases c with c|c
       ·exact n.out _ b7 j c
       ·exact c.2
      rw[c5.block j (by rw[c6];omega),dQk _ _ _ _ _ (by omega),b4.block j (by simp;omega),h5.out.block j j3]) _ _ f0.out)
    have h6:Hid (Bw w ((set3 o f.heap.size (eX6 b) (.slice M N O)).alloc (C1 (eX6 a) (.slice r s t)))):=Bj g1 c5;clear c5 g1 c6;clear F P Q T U V X Y Z r8 r9 R S f3 e6 b0 j2 f0 e8;go_wp2_with fail;refine f4.mono ?_;rintro e w8 ⟨e7,rfl,g6,j1⟩;have HW:Hid (Bw w w8):=Bj h6.out j1;have HX:Hid ((ob&&e7)=true↔b9):=by
     show _↔_;rw[HF.out,Bool.and_eq_true,e9.out,g6];exact⟨fun h=>⟨i0.out,i1.out,h⟩,fun h=>h.2.2⟩
    clear f4 g6 e9;cases ob with
    | false=>
     go_wp2_with fail;go_ret;exact⟨false,rfl,HX.out,HW.out⟩
    | true=>
     have i5:Hid (e7=true↔b9):=HX.out;go_wp2_with fail;go_ret;exact⟨e7,rfl,i5.out,HW.out⟩
variable (s:By)(w:World)
theorem dQ2:(l:Ln)->OkL 120 l->K7 l->L0 l
 | ⟨k,p,w,[]⟩,h,hw=>by
  rw[OkL]at h;rw[K7]at hw;rcases h.2 with rfl|rfl|rfl
  ·exact pQm p w
  ·exact pQn p w hw (by have:=h.1.1;simpa [eX8] using this)
  ·exact pQo p w
 | ⟨k,p,w,[a]⟩,h,hw=>by
  rw[OkL]at h;rw[K7]at hw;have ha:=dQ2 a h.2.2 hw;rcases h.2.1 with rfl|rfl
  ·exact pQs p w a (.inl rfl) ha (G6 a h.2.2) (G9 a h.2.2 hw) (h.2.2.src) (h.2.2.view)
  ·exact pQs p w a (.inr rfl) ha (G6 a h.2.2) (G9 a h.2.2 hw) (h.2.2.src) (h.2.2.view)
 | ⟨k,p,w,[a,b]⟩,h,hw=>by
  rw[OkL]at h;rw[K7]at hw;have c:=h.2.2.1;have d:=h.2.2.2;have ha:=dQ2 a c hw.1;have e:=dQ2 b d hw.2;rcases h.2.1 with rfl|rfl|rfl
  ·exact pQp p w a b ha e (G6 a c) (G6 b d) (G9 a c hw.1) (G9 b d hw.2) c.src d.src c.view d.view
  ·exact pQq p w a b ha e (G6 a c) (G6 b d) (G9 a c hw.1) (G9 b d hw.2) c.src d.src c.view d.view
  ·exact pQr p w a b ha e (G6 a c) (G6 b d) c.src d.src
 | ⟨k,p,w,_::_::_::_⟩,h,_=>by simp[OkL]at h
def fQ5 (s:By)(w:World):Ending->World->Prop:=fun e w'=>
 ∃k p ws y1 y2 y3 x1 x2 x3 r,e=.returned (.tuple #[E0 k p ws (.slice y1 y2 y3) (.slice x1 x2 x3),.int .i64 (r:Nat)])/\CompIs s.data.toList r/\Bw w w'/\
  (r=0->∃l,E6 s.data.toList=some l/\l.kind=k/\eX5 l.p=p/\l.w=ws/\NV w' (B8 w w') l (.slice y1 y2 y3) (.slice x1 x2 x3))
theorem cQp {w W:World}(h:Bw w W)(k:Nat)(p:Pat)(a:Lu)(y x:Value):Bw w (set6 W w.heap.size k p a y x):=
 (((((h.setCell (Nat.le_refl _) _).setCell (Nat.le_refl _) _).setCell (Nat.le_refl _) _).setCell (Nat.le_refl _) _).setCell (Nat.le_refl _) _).setCell (Nat.le_refl _) _
theorem sQ7 (h:(120:Int)<(s.size:Int)):Calls Tryz.prog 19 #[.string s] w (fQ5 s w):=by
 have b:=A5 w (B7 0 nN [] (.slice none 0 0) (.slice none 0 0));have a:Hid (CompIs s.data.toList 1):=.inl ⟨by rw[Array.length_toList];show 120<s.size;omega,rfl⟩;go_enter Tryz.func19,Tryz.ntmps19;go_wp2_with fail;exact bodyPost_ret (v:=.tuple #[E0 0 nN [] (.slice none 0 0) (.slice none 0 0),Iv 1]) (by simp[results,Tryz.results19,go_sem,nN]) rfl ⟨0,nN,[],none,0,0,none,0,0,1,rfl,a.out,b,fun h=>(by cases h)⟩
theorem sQ8 (hs:s.size<=120):Calls Tryz.prog 19 #[.string s] w (fQ5 s w):=by
 have hd:¬(120:Int)<(s.size:Int):=by omega
 have I:s.data.toList.length<=120:=by rw[Array.length_toList];exact hs
 have a6:=C6 w (B7 0 nN [] (.slice none 0 0) (.slice none 0 0)) (.cells #[.string s,Iv (0:Nat),Iv (0:Nat),.bool false] 62);have a4:PB ((w.alloc (B7 0 nN [] (.slice none 0 0) (.slice none 0 0))).alloc (.cells #[.string s,Iv (0:Nat),Iv (0:Nat),.bool false] 62)) (w.heap.size+1) s 0 0 false:=by
  have:=heap_alloc_new (w.alloc (B7 0 nN [] (.slice none 0 0) (.slice none 0 0))) (.cells #[.string s,Iv (0:Nat),Iv (0:Nat),.bool false] 62);rw[World.size_alloc]at this;exact this
 have b0:LiesL ((w.alloc (B7 0 nN [] (.slice none 0 0) (.slice none 0 0))).alloc (.cells #[.string s,Iv (0:Nat),Iv (0:Nat),.bool false] 62)) w.heap.size cQj:=(N5 w 0 nN [] (.slice none 0 0) (.slice none 0 0)).of_block (Below.heap_alloc _ _ _ (by simp));have hL:aQn s 0:=kQ9 s (by omega) 13 (Nat.le_refl _);have hC:Ca 46 #[.pointer (some ⟨w.heap.size+1,0,none⟩),Iv 0] _ _:=hL (w.heap.size+1) 0 0 _ a4 (Nat.zero_le _) (by omega);have a1:Hid (LiesL ((w.alloc (B7 0 nN [] (.slice none 0 0) (.slice none 0 0))).alloc (.cells #[.string s,Iv (0:Nat),Iv (0:Nat),.bool false] 62)) w.heap.size cQj):=b0;have Y:Hid _:=a6;clear a4 b0 hL a6;go_enter Tryz.func19,Tryz.ntmps19;go_wp2_with fail;refine hC.mono ?_;rintro b6 i a9;obtain⟨k,p,g,d,e,f,a,b,c,W,X,a3,rfl,c4,c5,c7,H,a7⟩:=a9.mid (fun l d0 n=>gXx _ _ _ _ n) (Nat.zero_le _);clear a9 hC;have b9:=H.grown.size;simp at b9;have b7:Bw w i:=Y.out.grown H.grown (by simp;omega) (fun j m=>by cases m;omega);have F:=A5 i (B7 k p g (.slice d e f) (.slice a b c));have P:=H.lies.below F;have q:=(a1.out.of_block (H.block (by simp;omega) (by omega))).of_block (F.block _ (by omega));have U:=N5 i k p g (.slice d e f) (.slice a b c);have J:Hid (Bw w (i.alloc (B7 k p g (.slice d e f) (.slice a b c)))):=Bj b7 F;have B:Hid (CaseL (i.alloc (B7 k p g (.slice d e f) (.slice a b c))) (fun j=>w.heap.size+2<=j/\j<i.heap.size) (fXa 13 (rest s 0)) s 0 W X a3 k p g (.slice d e f) (.slice a b c)):=a7.mono (fun j m=>⟨⟨by have:=m.1;simp at this;exact this,m.2⟩,F.block j m.2⟩);have c8:(i.alloc (B7 k p g (.slice d e f) (.slice a b c))).heap.size=i.heap.size+1:=by simp
 clear a7 H F a1 Y;go_upto_region 5 with (fail);generalize i.alloc (B7 k p g (.slice d e f) (.slice a b c))=C at *;obtain⟨t,u,x,y,z,A⟩:=q.six;obtain⟨l0,l1,l2,l3,l4,l5⟩:=U.six;have g0:=q.fr 0;have g1:=q.fr 1;have g2:=q.fr 2;have g3:=q.fr 3;have g4:=q.fr 4;have g5:=q.fr 5;have k1:=P.c1;have k2:=P.c2;have k3:=P.c3;have b5:Hid (LiesL C w.heap.size cQj):=q;have b2:Hid (LiesL C i.heap.size [Iv k,Iv p.kind,Sv p.signs,.slice d e f,Sv g,.slice a b c]):=U;clear q U P;cases a3 with
 | true=>
  have o:Hid (CompIs s.data.toList 2):=by
   rcases B.out with⟨_,n⟩|⟨E,_⟩
   ·exact .inr ⟨I,.inl ⟨mQo n,rfl⟩⟩
   ·cases E
  go_wp2_with fail;exact bodyPost_ret (v:=.tuple #[E0 0 nN [] (.slice none 0 0) (.slice none 0 0),Iv 2]) (by simp[results,Tryz.results19,go_sem,t,u,x,y,z,A,nN]) rfl ⟨0,nN,[],none,0,0,none,0,0,2,rfl,o.out,cQp J.out 0 nN [] (.slice none 0 0) (.slice none 0 0),fun h=>(by cases h)⟩
 | false=>
  by_cases a5:W=s.size
  ·subst a5
   have b8:((s.size:Int) != (s.size:Int))=false:=by simp
   obtain⟨l,n,K,L,M,e4,_,O⟩:∃l,fXa 13 (rest s 0)=some (l,rest s s.size)/\l.kind=k/\eX5 l.p=p/\l.w=g/\X=0+eX7 l/\s.size<=s.size/\NV C (fun j=>w.heap.size+2<=j/\j<i.heap.size) l (.slice d e f) (.slice a b c):=by
    rcases B.out with⟨E,_⟩|⟨_,h⟩
    ·cases E
    ·exact h
   have Q:=mQp n
   by_cases c0:(24:Int)<(X:Int)
   ·have o:Hid (CompIs s.data.toList 3):=.inr ⟨I,.inr ⟨l,Q,.inl ⟨by omega,rfl⟩⟩⟩
    clear n K L M e4 O Q B;go_wp2_with fail;exact bodyPost_ret (v:=.tuple #[E0 0 nN [] (.slice none 0 0) (.slice none 0 0),Iv 3]) (by simp[results,Tryz.results19,go_sem,t,u,x,y,z,A,nN]) rfl ⟨0,nN,[],none,0,0,none,0,0,3,rfl,o.out,cQp J.out 0 nN [] (.slice none 0 0) (.slice none 0 0),fun h=>(by cases h)⟩
   ·have V:=mXa n (by rw[F4];omega)
    have N:=dQ2 l V (aQk l 120 V (by omega)) (.slice d e f) (.slice a b c) C (fun j=>w.heap.size+2<=j/\j<i.heap.size) (fun j m=>by have:=m.2;omega) O;unfold F0 at N;rw[K,L,M]at N;have S:Hid (l.kind=k/\eX5 l.p=p/\l.w=g):=⟨K,L,M⟩;have a0:Hid (NV C (fun j=>w.heap.size+2<=j/\j<i.heap.size) l (.slice d e f) (.slice a b c)):=O;have T:Hid (E6 s.data.toList=some l):=Q;have HZ:Hid (eX7 l<=24):=by show _<=_;omega
    clear n K L M e4 O Q B V;go_wp2_with fail;refine N.mono ?_;rintro b6 R ⟨tb,rfl,b1,G⟩;have c9:=G.size;have r:=b5.out.of_block (G.block _ (by omega));have a8:=b2.out.of_block (G.block _ (by omega));have Z:Hid (Bw w R):=Bj J.out G;have b4:Hid (NV R (fun j=>w.heap.size+2<=j/\j<i.heap.size) l (.slice d e f) (.slice a b c)):=a0.out.below G (fun j m=>by have:=m.2;omega) (fun _ h=>h);have a2:Hid (tb=true↔B5 l):=b1;clear t u x y z A l0 l1 l2 l3 l4 l5 g0 g1 g2 g3 g4 g5 k1 k2 k3 N b1 a0;obtain⟨t,u,x,y,z,A⟩:=r.six;obtain⟨l0,l1,l2,l3,l4,l5⟩:=a8.six;have g0:=r.fr 0;have g1:=r.fr 1;have g2:=r.fr 2;have g3:=r.fr 3;have g4:=r.fr 4;have g5:=r.fr 5;clear r a8;cases tb with
    | false=>
     have o:Hid (CompIs s.data.toList 4):=.inr ⟨I,.inr ⟨l,T.out,.inr ⟨HZ.out,.inl ⟨fun h=>(by have:=a2.out.2 h;cases this),rfl⟩⟩⟩⟩;go_wp2_with fail;exact bodyPost_ret (v:=.tuple #[E0 0 nN [] (.slice none 0 0) (.slice none 0 0),Iv 4]) (by simp[results,Tryz.results19,go_sem,t,u,x,y,z,A,nN]) rfl ⟨0,nN,[],none,0,0,none,0,0,4,rfl,o.out,cQp Z.out 0 nN [] (.slice none 0 0) (.slice none 0 0),fun h=>(by cases h)⟩
    | true=>
     have o:Hid (CompIs s.data.toList 0):=.inr ⟨I,.inr ⟨l,T.out,.inr ⟨HZ.out,.inr ⟨a2.out.1 rfl,rfl⟩⟩⟩⟩;have b3:Hid (NV (set6 R w.heap.size k p g (.slice d e f) (.slice a b c)) (B8 w (set6 R w.heap.size k p g (.slice d e f) (.slice a b c))) l (.slice d e f) (.slice a b c)):=NV.mono (fun j m=>⟨⟨by omega,by rw[iQg];have:=m.2;omega⟩,fQo _ _ _ _ _ _ _ _ (by omega)⟩) _ _ _ b4.out;go_wp2_with fail;exact bodyPost_ret (v:=.tuple #[E0 k p g (.slice d e f) (.slice a b c),Iv 0]) (by simp[results,Tryz.results19,go_sem,t,u,x,y,z,A]) rfl ⟨k,p,g,d,e,f,a,b,c,0,rfl,o.out,cQp Z.out k p g (.slice d e f) (.slice a b c),fun _=>⟨l,T.out,S.out.1,S.out.2.1,S.out.2.2,b3.out⟩⟩
  ·have b8:((W:Int) != (s.size:Int))=true:=by rw[bne_iff_ne];omega
   have o:Hid (CompIs s.data.toList 2):=by
    rcases B.out with⟨E,_⟩|⟨_,l,n,_,_,_,_,c6,_⟩
    ·cases E
    ·exact .inr ⟨I,.inl ⟨mQn n (by omega),rfl⟩⟩
   clear a5 B;go_wp2_with fail;exact bodyPost_ret (v:=.tuple #[E0 0 nN [] (.slice none 0 0) (.slice none 0 0),Iv 2]) (by simp[results,Tryz.results19,go_sem,t,u,x,y,z,A,nN]) rfl ⟨0,nN,[],none,0,0,none,0,0,2,rfl,o.out,cQp J.out 0 nN [] (.slice none 0 0) (.slice none 0 0),fun h=>(by cases h)⟩
theorem bQz:Calls Tryz.prog 19 #[.string s] w (fQ5 s w):=by
 by_cases h:120<s.size
 ·exact sQ7 s w (by omega)
 ·exact sQ8 s w (by omega)
end Go.Proofs.YtfklinjaajafgaaGreatDoor
