import Derived.Test.YtfklinjaajafgaaGreatDoorK62
set_option maxRecDepth 100000
set_option maxHeartbeats 4000000
namespace Go.Proofs.YtfklinjaajafgaaGreatDoor
open Ls
open Go.RowKit
variable (p:Ls.D)(ws:Lu)(a b:Ln)
def KP (f:Nat)(l:Ln)(F:Lu->Lu):Prop:=∀(s:By) (y x:Value) (w:World) (G:Nat->Prop),s.size<=60->Old w G->NV w G l y x->
 Ca f #[F0 l y x,.string s] w (Rt (.string ⟨(F s.data.toList).toArray⟩) w)
def K0 (l:Ln):Prop:=∀(s:By) (y x:Value) (w:World) (G:Nat->Prop),s.size<=60->Old w G->NV w G l y x->
 Ca 55 #[F0 l y x,.string s] w (Rt (.string ⟨(A6 l s.data.toList).toArray⟩) w)
theorem Q9 (x y:Lu):(Ba x)++⟨y.toArray⟩=⟨(x++y).toArray⟩:=by
 apply ByteArray.ext
 simp
theorem oQy {k9:Nat}(hk:k9=0\/k9=1\/k9=2):K0 ⟨k9,p,ws,[]⟩:=by
 intro s y x w G hs g h;rw[NV]at h;obtain⟨a,rfl⟩:=h;obtain⟨d,e,f,rfl⟩:=PV.slice _ _ a;have c:=A5 w (B7 k9 (eX5 p) ws (.slice d e f) (.slice none 0 0));generalize b:(⟨(A6 ⟨k9,p,ws,[]⟩ s.data.toList).toArray⟩:By)=r at *;have B:Hid _:=b;clear a b;rcases hk with rfl|rfl|rfl<;>(go_enter Tryz.func55,Tryz.ntmps55;go_wp2_with fail;go_ret;exact⟨by rw[<-B.out];simp[A6],c⟩)
theorem oQ1 (ha:K0 a)(hb:K0 b)(a6:D8 a)(a7:D8 b)(d1:BdL 120 (eX8 a))(d2:BdL 120 (eX8 b))(c9:gx a+gx b<=1099511627776):K0 ⟨3,p,ws,[a,b]⟩:=by
 intro s e3 d6 w a0 hs hG a5;rw[NV]at a5;obtain⟨hv,g,v1,u1,v2,u2,hg,rfl,b7,V,X⟩:=a5;obtain⟨y1,y2,y3,rfl⟩:=PV.slice _ _ hv;obtain⟨⟨E,F,G,rfl⟩,O,P,Q,rfl⟩:=NV.slices _ _ _ V;obtain⟨⟨H,I,J,rfl⟩,K,L,M,rfl⟩:=NV.slices _ _ _ X;obtain⟨a8,a3,a4,j,d⟩:=X1 3 3 rfl p ws y1 y2 y3 hG hg b7 V X;have f:Hid _:=a8;have c1:Hid _:=N3 a6 j.out a3.out;have c2:Hid _:=N3 a7 j.out a4.out;have b8:Hid _:=bQ0 d1 d2 (s:=s) (by omega) j.out;have U:=R1 (eX8 a) (eX8 b) s.data.toList;have HE:Hid (A6 ⟨3,p,ws,[a,b]⟩ s.data.toList=A6 a (s.data.toList.take (C0 (eX8 a) (eX8 b) s.data.toList))++A6 b (s.data.toList.drop (C0 (eX8 a) (eX8 b) s.data.toList))):=by show _=_;simp[A6]
 generalize C0 (eX8 a) (eX8 b) s.data.toList=i at *;rw[Array.length_toList]at U;have hi:i<=s.size:=U;have b9:Hid (∀W,Bw w W->Ca 55 #[(E1 a E F G O P Q),.string (s.extract 0 i)] W (Rt (Sv (A6 a (s.data.toList.take i))) W)):=fun W m=>by
  have:=ha (s.extract 0 i) _ _ W a0 (by rw[ByteArray.size_extract];omega) (j.out _ m) (a3.out _ m);rw[S5]at this;exact this
 have c0:Hid (∀W,Bw w W->Ca 55 #[(E1 b H I J K L M),.string (s.extract i s.size)] W (Rt (Sv (A6 b (s.data.toList.drop i))) W)):=fun W m=>by
  have:=hb (s.extract i s.size) _ _ W a0 (by rw[ByteArray.size_extract];omega) (j.out _ m) (a4.out _ m);rw[V6]at this;exact this
 have c3:=N2 a (s.data.toList.take i);have c5:=N2 b (s.data.toList.drop i);have c7:(s.data.toList.take i).length<=60:=by rw[List.length_take];omega
 have c8:(s.data.toList.drop i).length<=60:=by rw[List.length_drop,Array.length_toList];show s.size-i<=60;omega
 have c4:((s.data.toList.take i).length+1)*gx a<=61*gx a:=Nat.mul_le_mul_right _ (by omega);have c6:((s.data.toList.drop i).length+1)*gx b<=61*gx b:=Nat.mul_le_mul_right _ (by omega);have d3:¬9223372036854775807<(A6 a (s.data.toList.take i)).length+(A6 b (s.data.toList.drop i)).length:=by omega
 have d4:¬9223372036854775807<(A6 b (s.data.toList.drop i)).length+(A6 a (s.data.toList.take i)).length:=by omega
 clear c3 c5 c7 c8 c4 c6;have h0:(0:Int)<=(i:Int):=by omega
 have d0:(i:Int)<=(s.size:Int):=by omega
 clear hv V X b7 a8 a6 a7 ha hb U;obtain⟨k,l,n,o,t,u,v,x,y,z,A,B,q,r⟩:=d.out _ Br;go_enter Tryz.func55,Tryz.ntmps55;go_wp2_with fail;generalize (w.alloc (lo 3 p ws y1 y2 y3 g 2))=h at *;have d5:=f.out;go_region_held (fun C=>s2 C w.heap.size 3 g a b E F G O P Q H I J K L M) (first|assumption|exact d.out _ Br.drew|exact d.out _ c)
  (first
   | (go_at_call_of 51 a.kind;refine(c1.out _ ?_).mono ?_;exact f.out.drew;rintro e wa ⟨d7,d8,d9,rfl,b5,hA⟩;have b4:Bw h wa:=Bj Br.drew b5;have c:Bw h wa:=b4;have a1:Hid _:=hA;clear hA)
   | (go_at_call_of 51 b.kind;refine(c2.out _ ?_).mono ?_;exact Bj f.out c;rintro e wb ⟨e0,e1,e2,rfl,S,hB⟩;have c:Bw h wb:=Bj c S;have a2:Hid _:=hB;clear hB)
   | (go_at_call 88;refine(b8.out _ _ _ _ _ _ _ ?_ (a1.out _ S) (a2.out _ Br)).mono ?_;exact Bj f.out c;rintro e Y ⟨rfl,a9⟩;have c:Bw h Y:=Bj c a9))
 all_goals
  obtain⟨k,l,n,o,t,u,v,x,y,z,A,B,q,r⟩:=d.out Y c;have T:=c;clear a1 a2 c b5 b4 S a9;go_wp2_with fail;go_region_held (fun C=>s2 C w.heap.size 3 g a b E F G O P Q H I J K L M) (first|assumption|exact d.out _ T.drew|exact d.out _ c)
   (first
    | (go_at_call 55;refine(b9.out _ ?_).mono ?_;exact(Bj f.out T).drew;rintro e R ⟨rfl,b1⟩;have b0:Bw Y R:=Bj Br.drew b1;have c:Bw h R:=Bj T b0))
  all_goals
   have N:=c;clear k l n o t u v x y z A B q r c b0 b1;obtain⟨k,l,n,o,t,u,v,x,y,z,A,B,q,r⟩:=d.out R N;go_wp2_with fail;go_region_held (fun C=>s2 C w.heap.size 3 g a b E F G O P Q H I J K L M) (first|assumption|exact d.out _ N.drew|exact d.out _ c)
    (first
     | (go_at_call 55;refine(c0.out _ ?_).mono ?_;exact(Bj f.out N).drew;rintro e Z ⟨rfl,b3⟩;have b2:Bw R Z:=Bj Br.drew b3;have c:Bw h Z:=Bj N b2))
   all_goals
    have b6:=c;clear k l n o t u v x y z A B q r c b2 b3;obtain⟨k,l,n,o,t,u,v,x,y,z,A,B,q,r⟩:=d.out Z b6;go_wp2_with fail;go_ret;refine⟨?_,Bj f.out b6⟩;rw[HE.out,<-Q9];rfl
theorem oQ2 (ha:K0 a)(hb:K0 b)(a6:D8 a)(a7:D8 b)(d1:BdL 120 (eX8 a))(d2:BdL 120 (eX8 b))(c9:gx a+gx b<=1099511627776):K0 ⟨4,p,ws,[a,b]⟩:=by
 intro s e3 d6 w a0 hs hG a5;rw[NV]at a5;obtain⟨hv,g,v1,u1,v2,u2,hg,rfl,b7,V,X⟩:=a5;obtain⟨y1,y2,y3,rfl⟩:=PV.slice _ _ hv;obtain⟨⟨E,F,G,rfl⟩,O,P,Q,rfl⟩:=NV.slices _ _ _ V;obtain⟨⟨H,I,J,rfl⟩,K,L,M,rfl⟩:=NV.slices _ _ _ X;obtain⟨a8,a3,a4,j,d⟩:=X1 4 4 rfl p ws y1 y2 y3 hG hg b7 V X;have f:Hid _:=a8;have c1:Hid _:=N3 a6 j.out a3.out;have c2:Hid _:=N3 a7 j.out a4.out;have b8:Hid _:=bQ0 d1 d2 (s:=s) (by omega) j.out;have U:=R1 (eX8 a) (eX8 b) s.data.toList;have HE:Hid (A6 ⟨4,p,ws,[a,b]⟩ s.data.toList=A6 b (s.data.toList.drop (C0 (eX8 a) (eX8 b) s.data.toList))++A6 a (s.data.toList.take (C0 (eX8 a) (eX8 b) s.data.toList))):=by show _=_;simp[A6]
 generalize C0 (eX8 a) (eX8 b) s.data.toList=i at *;rw[Array.length_toList]at U;have hi:i<=s.size:=U;have b9:Hid (∀W,Bw w W->Ca 55 #[(E1 a E F G O P Q),.string (s.extract 0 i)] W (Rt (Sv (A6 a (s.data.toList.take i))) W)):=fun W m=>by
  have:=ha (s.extract 0 i) _ _ W a0 (by rw[ByteArray.size_extract];omega) (j.out _ m) (a3.out _ m);rw[S5]at this;exact this
 have c0:Hid (∀W,Bw w W->Ca 55 #[(E1 b H I J K L M),.string (s.extract i s.size)] W (Rt (Sv (A6 b (s.data.toList.drop i))) W)):=fun W m=>by
  have:=hb (s.extract i s.size) _ _ W a0 (by rw[ByteArray.size_extract];omega) (j.out _ m) (a4.out _ m);rw[V6]at this;exact this
 have c3:=N2 a (s.data.toList.take i);have c5:=N2 b (s.data.toList.drop i);have c7:(s.data.toList.take i).length<=60:=by rw[List.length_take];omega
 have c8:(s.data.toList.drop i).length<=60:=by rw[List.length_drop,Array.length_toList];show s.size-i<=60;omega
 have c4:((s.data.toList.take i).length+1)*gx a<=61*gx a:=Nat.mul_le_mul_right _ (by omega);have c6:((s.data.toList.drop i).length+1)*gx b<=61*gx b:=Nat.mul_le_mul_right _ (by omega);have d3:¬9223372036854775807<(A6 a (s.data.toList.take i)).length+(A6 b (s.data.toList.drop i)).length:=by omega
 have d4:¬9223372036854775807<(A6 b (s.data.toList.drop i)).length+(A6 a (s.data.toList.take i)).length:=by omega
 clear c3 c5 c7 c8 c4 c6;have h0:(0:Int)<=(i:Int):=by omega
 have d0:(i:Int)<=(s.size:Int):=by omega
 clear hv V X b7 a8 a6 a7 ha hb U;obtain⟨k,l,n,o,t,u,v,x,y,z,A,B,q,r⟩:=d.out _ Br;go_enter Tryz.func55,Tryz.ntmps55;go_wp2_with fail;generalize (w.alloc (lo 4 p ws y1 y2 y3 g 2))=h at *;have d5:=f.out;go_region_held (fun C=>s2 C w.heap.size 4 g a b E F G O P Q H I J K L M) (first|assumption|exact d.out _ Br.drew|exact d.out _ c)
  (first
   | (go_at_call_of 51 a.kind;refine(c1.out _ ?_).mono ?_;exact f.out.drew;rintro e wa ⟨d7,d8,d9,rfl,b5,hA⟩;have b4:Bw h wa:=Bj Br.drew b5;have c:Bw h wa:=b4;have a1:Hid _:=hA;clear hA)
   | (go_at_call_of 51 b.kind;refine(c2.out _ ?_).mono ?_;exact Bj f.out c;rintro e wb ⟨e0,e1,e2,rfl,S,hB⟩;have c:Bw h wb:=Bj c S;have a2:Hid _:=hB;clear hB)
   | (go_at_call 88;refine(b8.out _ _ _ _ _ _ _ ?_ (a1.out _ S) (a2.out _ Br)).mono ?_;exact Bj f.out c;rintro e Y ⟨rfl,a9⟩;have c:Bw h Y:=Bj c a9))
 all_goals
  obtain⟨k,l,n,o,t,u,v,x,y,z,A,B,q,r⟩:=d.out Y c;have T:=c;clear a1 a2 c b5 b4 S a9;go_wp2_with fail;go_region_held (fun C=>s2 C w.heap.size 4 g a b E F G O P Q H I J K L M) (first|assumption|exact d.out _ T.drew|exact d.out _ c)
   (first
    | (go_at_call 55;refine(b9.out _ ?_).mono ?_;exact(Bj f.out T).drew;rintro e R ⟨rfl,b1⟩;have b0:Bw Y R:=Bj Br.drew b1;have c:Bw h R:=Bj T b0))
  all_goals
   have N:=c;clear k l n o t u v x y z A B q r c b0 b1;obtain⟨k,l,n,o,t,u,v,x,y,z,A,B,q,r⟩:=d.out R N;go_wp2_with fail;go_region_held (fun C=>s2 C w.heap.size 4 g a b E F G O P Q H I J K L M) (first|assumption|exact d.out _ N.drew|exact d.out _ c)
    (first
     | (go_at_call 55;refine(c0.out _ ?_).mono ?_;exact(Bj f.out N).drew;rintro e Z ⟨rfl,b3⟩;have b2:Bw R Z:=Bj Br.drew b3;have c:Bw h Z:=Bj N b2))
   all_goals
    have b6:=c;clear k l n o t u v x y z A B q r c b2 b3;obtain⟨k,l,n,o,t,u,v,x,y,z,A,B,q,r⟩:=d.out Z b6;go_wp2_with fail;go_ret;refine⟨?_,Bj f.out b6⟩;rw[HE.out,<-Q9];rfl
theorem oQ3 (ha:K0 a)(Q:K0 b)(P:D8 a)(d1:BdL 120 (eX8 a)):K0 ⟨5,p,ws,[a,b]⟩:=by
 intro s b1 b0 w G hs O h;rw[NV]at h;obtain⟨U,g,v1,u1,v2,u2,T,rfl,c,x,y⟩:=h;obtain⟨y1,y2,y3,rfl⟩:=PV.slice _ _ U;obtain⟨⟨I,J,K,rfl⟩,t1,t2,t3,rfl⟩:=NV.slices _ _ _ x;obtain⟨⟨c1,c2,c3,rfl⟩,f1,f2,f3,rfl⟩:=NV.slices _ _ _ y;have a9:=O g T;obtain⟨R,E,a3,l,F⟩:=X1 5 5 rfl p ws y1 y2 y3 O T c x y;have f:Hid _:=R;have a4:Hid _:=N3 P l.out E.out;have k:Hid (A6 ⟨5,p,ws,[a,b]⟩ s.data.toList=if Ls.is (eX8 a) s.data.toList=true then A6 a s.data.toList else A6 b s.data.toList):=by show _=_;simp[A6]
 generalize hr:A6 ⟨5,p,ws,[a,b]⟩ s.data.toList=r at *;have a2:Hid (∀W z A B,Bw w W->PV W (fun j=>G j\/(w.heap.size<=j/\j<W.heap.size)) (eX8 a) (.slice z A B)->Ca 59 #[B4 (eX8 a) (.slice z A B),.string s] W (Rt (.bool (Ls.is (eX8 a) s.data.toList)) W)):=by
  intro W z A B d h1;exact Z0 _ d1 (by omega) s (by omega) _ W _ (fun j i=>by
   rcases i with i|i
   ·exact l.out _ d j i
   ·exact i.2) h1
 have a0:Hid (∀W,Bw w W->Ca 55 #[(E1 a I J K t1 t2 t3),.string s] W (Rt (Sv (A6 a s.data.toList)) W)):=fun W d=>ha s _ _ W G hs (l.out _ d) (E.out _ d);have a1:Hid (∀W,Bw w W->Ca 55 #[(E1 b c1 c2 c3 f1 f2 f3),.string s] W (Rt (Sv (A6 b s.data.toList)) W)):=fun W d=>Q s _ _ W G hs (l.out _ d) (a3.out _ d);generalize Ls.is (eX8 a) s.data.toList=a8 at *;have q0:Ce w g 0 (Iv a.kind):=c.cell 0;have q1:Ce w g 1 (Iv (eX5 a.p).kind):=c.cell 1;have q2:Ce w g 2 (.string ⟨(eX5 a.p).signs.toArray⟩):=c.cell 2;have q3:Ce w g 3 (.slice I J K):=c.cell 3;have q4:Ce w g 4 (Sv a.w):=c.cell 4;have q5:Ce w g 5 (.slice t1 t2 t3):=c.cell 5;clear U x y c R P ha Q hr;obtain⟨L,M,V,X,r2,r3,r4,r5,r6,r7,r8,r9,Y,Z⟩:=F.out _ Br;go_enter Tryz.func55,Tryz.ntmps55;go_wp2_with fail;generalize (w.alloc (lo 5 p ws y1 y2 y3 g 2))=H at *;refine(a4.out H f.out).mono ?_;rintro e wa ⟨a5,a6,a7,rfl,u,N⟩;have C:Hid (∀q,Bw wa q->PV q (fun j=>G j\/(w.heap.size<=j/\j<q.heap.size)) (eX8 a) (.slice a5 a6 a7)):=N;clear N q0 q1 q2 q3 q4 q5 L M V X r2 r3 r4 r5 r6 r7 r8 r9 Y Z;go_wp2_with fail;refine(a2.out wa _ _ _ (Bj f.out u) (C.out _ Br)).mono ?_;rintro e n ⟨rfl,S⟩;have v:Bw H n:=Bj u S
 all_goals
  obtain⟨L,M,V,X,r2,r3,r4,r5,r6,r7,r8,r9,Y,Z⟩:=F.out n v;have m:=v;clear C v u S;cases a8 with
  | true=>
   have o:Hid (r=A6 a s.data.toList):=by rw[k.out];rfl
   clear k;go_wp2_with fail;refine(a0.out n (Bj f.out m)).mono ?_;rintro e w3 ⟨rfl,t⟩;go_wp2_with fail;go_ret;exact⟨by rw[o.out];rfl,Bj f.out (Bj m t)⟩
  | false=>
   have o:Hid (r=A6 b s.data.toList):=by rw[k.out];rfl
   clear k;go_wp2_with fail;refine(a1.out n (Bj f.out m)).mono ?_;rintro e w3 ⟨rfl,t⟩;go_wp2_with fail;go_ret;exact⟨by rw[o.out];rfl,Bj f.out (Bj m t)⟩
theorem q6 {A B C D E F G H I:Prop}(h:A/\B/\C/\D/\E/\F/\G/\H)(i:I):A/\B/\C/\D/\E/\F/\G/\H/\I:=⟨h.1,h.2.1,h.2.2.1,h.2.2.2.1,h.2.2.2.2.1,h.2.2.2.2.2.1,h.2.2.2.2.2.2.1,h.2.2.2.2.2.2.2,i⟩
theorem oQ4 {f9 g9 k9:Nat}{q8:Pat}{F9 H9:Lu->Lu}(hf:(f9=55/\g9=51)\/(f9=56/\g9=53))(hk:k9=6\/k9=7)(hL:∀b:List Lu,((b.map F9).flatten).length<=(b.map fun x=>x.length+1).sum*gx a)(hR:∀s:By,H9 s.data.toList=((B9 q8 s.size s.data.toList).map F9).flatten)(ha:KP f9 a F9)(a8:DP g9 a q8)(d1:BdL 120 q8)(d0:gx a<=1099511627776):KP f9 ⟨k9,p,ws,[a]⟩ H9:=by
 intro s d8 x w a0 hs hG a7;rw[NV]at a7;obtain⟨hv,g,v1,u1,hg,rfl,h,V⟩:=a7;obtain⟨y1,y2,y3,rfl⟩:=PV.slice _ _ hv;obtain⟨⟨q,r,u,rfl⟩,L,M,N,rfl⟩:=NV.slices _ _ _ V;have c9:=hG g hg;obtain⟨z0,hz⟩:∃z:Int,(k9:Int)=z:=⟨_,rfl⟩;obtain⟨a9,a3,O,P⟩:=cQe k9 z0 hz p ws y1 y2 y3 hG hg h V;clear hz;have o:Hid _:=a9;have b6:Hid _:=aQz a8 O.out a3.out;have b5:Hid (∀W x1 x2 x3,Below w.heap.size w W->PV W (fun j=>a0 j\/(w.heap.size<=j/\j<W.heap.size)) q8 (.slice x1 x2 x3)->Calls Tryz.prog 89 #[.string s,B4 q8 (.slice x1 x2 x3)] W fun e c=>∃v,e=.returned v/\c.ownsRow W.heap.size 9 1 v (B9 q8 s.size s.data.toList).length ((B9 q8 s.size s.data.toList).map fun x=>Value.string ⟨x.toArray⟩)/\Below W.heap.size W c):=by
  intro W x1 x2 x3 f A;exact aQ2 _ d1 (by omega) s (by omega) _ W _ (fun j n=>by
   rcases n with n|n
   ·exact O.out _ f j n
   ·exact n.2) A
 have a2:Hid (∀W (x:Lu),x.length<=60->Below w.heap.size w W->Calls Tryz.prog f9 #[(E1 a q r u L M N),.string ⟨x.toArray⟩] W fun e c=>e=.returned (.string ⟨(F9 x).toArray⟩)/\Below W.heap.size W c):=fun W x X f=>by
  have:=ha ⟨x.toArray⟩ _ _ W a0 (by simpa [ByteArray.size] using X) (O.out _ f) (a3.out _ f);simpa using this
 have HE:Hid _:=hR s
 have HQ:Hid (∀x,x∈B9 q8 s.size s.data.toList->x.length<=60):=fun x X=>by
  have:=z8 q8 s.size s.data.toList x X;rw[Array.length_toList]at this;exact Nat.le_trans this hs
 have a5:Hid (((B9 q8 s.size s.data.toList).map fun x=>x.length+1).sum<=120):=by
  have:=S3 q8 s.size s.data.toList (by rw[Array.length_toList];exact Nat.le_refl _);rw[Array.length_toList]at this;have B:s.data.size=s.size:=rfl;show _<=_;omega
 have q0:w.cell? ⟨g,0,none⟩=some (.int .i64 a.kind):=h.cell 0;have q1:w.cell? ⟨g,1,none⟩=some (.int .i64 (eX5 a.p).kind):=h.cell 1;have q2:w.cell? ⟨g,2,none⟩=some (.string ⟨(eX5 a.p).signs.toArray⟩):=h.cell 2;have q3:w.cell? ⟨g,3,none⟩=some (.slice q r u):=h.cell 3;have q4:w.cell? ⟨g,4,none⟩=some (.string ⟨a.w.toArray⟩):=h.cell 4;have q5:w.cell? ⟨g,5,none⟩=some (.slice L M N):=h.cell 5;generalize H9 s.data.toList=c7 at *;generalize B9 q8 s.size s.data.toList=b at *;clear hv V h a9 a8 ha;obtain⟨y,z,F,G,H,I,J,K⟩:=P.out _ (Below.refl _ _);rcases hk with rfl|rfl<;>rcases hf with⟨rfl,rfl⟩|⟨rfl,rfl⟩
 all_goals
  first|go_enter Tryz.func55,Tryz.ntmps55|go_enter Tryz.func56,Tryz.ntmps56
  go_wp2_with fail;generalize w.alloc (lo _ p ws y1 y2 y3 g 1)=m at *;refine(b6.out m o.out).mono ?_;rintro e wa ⟨d5,d6,d7,rfl,b1,hA⟩;have hC:=b5.out wa _ _ _ (Bj o.out b1) hA;clear hA q0 q1 q2 q3 q4 q5 y z F G H I J K;go_wp2_with fail;refine hC.mono ?_;clear hC;rintro e d ⟨v,rfl,E,c1⟩;have c2:Below m.heap.size m d:=Bj b1 c1;have d4:b.length<=120:=by
   have A:=a5.out;have B:∀l:List (Lu),l.length<=(l.map fun x=>x.length+1).sum:=fun l=>by
    induction l with
    | nil=>simp
    | cons x l ih=>simp only[List.length_cons,List.map_cons,List.sum_cons];omega
   have:=B b;omega
  obtain⟨m1,m2,Y,rfl⟩:=Z3 E;have a4:Hid (d.ownsRow wa.heap.size 9 1 (.slice m1 m2 Y) b.length (b.map fun x=>Value.string ⟨x.toArray⟩)):=E;have c6:m2=b.length:=by
   rcases E.2 with⟨e,hn⟩|⟨gg,Q,b7,e,_⟩
   ·injection e with R e2;omega
   ·injection e with R e2
  subst c6;clear E;go_wp2_with fail;first|go_loopw [9,11] (fun ov t wr=>∃k:Nat,k<=b.length/\t=.int .i64 k/\ov=.string ⟨(((b.take k).map F9).flatten).toArray⟩/\Below d.heap.size d wr) (fun _ t _=>b.length-(intOf t).toNat)|go_loopw [10,12] (fun ov t wr=>∃k:Nat,k<=b.length/\t=.int .i64 k/\ov=.string ⟨(((b.take k).map F9).flatten).toArray⟩/\Below d.heap.size d wr) (fun _ t _=>b.length-(intOf t).toNat)
 
  case atStart=>exact⟨0,Nat.zero_le _,rfl,rfl,Below.refl _ _⟩
  case round=>
   obtain⟨k,hk,rfl,rfl,S⟩:=hrel;have C:=Bj c2 S
   by_cases U:k<b.length
   ·have c5:(k:Int)<(b.length:Int):=by omega
    have d2:(0:Int)<=(k:Int):=by omega
    obtain⟨i,rfl⟩:∃i,m1=some ⟨i,0,none⟩:=by
     rcases a4.out.2 with⟨_,hn⟩|⟨gg,Q,b7,e,_⟩
     ·omega
     ·injection e with R e2 e3
      exact⟨gg,R⟩
    have c8:Hid (∃Q,Y=Q):=⟨Y,rfl⟩;have T:d.cell? ⟨i,k,none⟩=some (.string ⟨b[k].toArray⟩):=by
     have:=a4.out.cellAt k (by omega);rw[this];simp[U]
    have c4:i<d.heap.size:=World.block_lt_of_cell? d _ T;have a1:Hid (∀W:World,Below d.heap.size d W->W.cell? ⟨i,k,none⟩=some (.string ⟨b[k].toArray⟩)):=fun W f=>(f.cell (p:=⟨i,k,none⟩) c4).trans T;have HT:Hid (((b.take (k+1)).map F9).flatten=((b.take k).map F9).flatten++F9 b[k]):=by
     show _=_;rw[List.take_succ_eq_append_getElem U,List.map_append,List.flatten_append];simp
    have b3:b[k].length<=60:=HQ.out _ (List.getElem_mem U);have d3:¬9223372036854775807<(((b.take k).map F9).flatten).length+(F9 b[k]).length:=by
     have A:=hL (b.take (k+1));rw[HT.out,List.length_append]at A;have B:=fQw b (k+1);have h3:((b.take (k+1)).map fun x=>x.length+1).sum*gx a<=120*gx a:=Nat.mul_le_mul_right _ (Nat.le_trans B a5.out);omega
    have b8:=a2.out;have b4:Hid (∀W,Below w.heap.size w W->Calls Tryz.prog _ #[(E1 a q r u L M N),.string ⟨b[k].toArray⟩] W fun e c=>e=.returned (.string ⟨(F9 b[k]).toArray⟩)/\Below W.heap.size W c):=fun W f=>a2.out W b[k] b3 f;obtain⟨y,z,F,G,H,I,J,K⟩:=P.out wr C;have em:=a1.out wr S;clear b8 T b3;generalize b9:(((b.take k).map F9).flatten)=a6 at *;clear b9;generalize b[k]=xk at *;go_wp2_with fail;go_region_held (fun c=>c.cell? ⟨w.heap.size,0,none⟩=some (.int .i64 z0)/\c.cell? ⟨w.heap.size,5,none⟩=some (.slice (some ⟨g,0,none⟩) 1 1)/\c.cell? ⟨g,0,none⟩=some (.int .i64 a.kind)/\c.cell? ⟨g,1,none⟩=some (.int .i64 (eX5 a.p).kind)/\c.cell? ⟨g,2,none⟩=some (.string ⟨(eX5 a.p).signs.toArray⟩)/\c.cell? ⟨g,3,none⟩=some (.slice q r u)/\c.cell? ⟨g,4,none⟩=some (.string ⟨a.w.toArray⟩)/\c.cell? ⟨g,5,none⟩=some (.slice L M N)/\c.cell? ⟨i,k,none⟩=some (.string ⟨xk.toArray⟩)) (first|assumption|(refine⟨y,z,F,G,H,I,J,K,em⟩)|(go_keep;done)|exact q6 (P.out _ c3) (a1.out _ b2))
     (first
      | ((first|go_at_call 55|go_at_call 56);refine(b4.out _ ?_).mono ?_;exact(Bj o.out C).drew;rintro e Z ⟨rfl,c0⟩;have b0:Below wr.heap.size wr Z:=Bj (Below.refl _ _).drew c0;have c3:Below m.heap.size m Z:=Bj C b0;have b2:Below d.heap.size d Z:=Bj S b0))
    all_goals
     clear y z F G H I J K em;have HN:Hid ((⟨a6.toArray⟩:By)++⟨(F9 xk).toArray⟩=⟨(((b.take (k+1)).map F9).flatten).toArray⟩):=by
      show _=_;rw[HT.out,Q9]
     go_wp2_with fail;go_roundw
     case rel=>exact⟨k+1,by omega,by go_num,by rw[<-HN.out],b2⟩
     case measure=>simp[intOf];omega
   ·have c5:¬(k:Int)<(b.length:Int):=by omega
    have HR:Hid (c7=((b.take k).map F9).flatten):=by
     show _=_;rw[HE.out,List.take_of_length_le (by omega)]
    generalize ((b.take k).map F9).flatten=a6 at *;go_wp2_with fail;go_ret;exact⟨by rw[HR.out];rfl,Bj o.out C⟩
theorem bQo:(l:Ln)->OkL 120 l->gx l<=1099511627776->K0 l
 | ⟨k,p,w,[]⟩,h,_=>by
  rw[OkL]at h;rcases h.2 with rfl|rfl|rfl
  ·exact oQy p w (.inl rfl)
  ·exact oQy p w (.inr (.inl rfl))
  ·exact oQy p w (.inr (.inr rfl))
 | ⟨k,p,w,[a]⟩,h,hg=>by
  rw[OkL]at h;rw[gx]at hg;have ha:=bQo a h.2.2 (by omega);rcases h.2.1 with rfl|rfl
  ·exact oQ4 p w a (.inl ⟨rfl,rfl⟩) (.inl rfl) (kQh a) (fun _=>by rw[A6,Array.length_toList];rfl) ha (G6 a h.2.2) h.2.2.src (by omega)
  ·exact oQ4 p w a (.inl ⟨rfl,rfl⟩) (.inr rfl) (kQh a) (fun _=>by rw[A6,Array.length_toList];rfl) ha (G6 a h.2.2) h.2.2.src (by omega)
 | ⟨k,p,w,[a,b]⟩,h,hg=>by
  rw[OkL]at h;rw[gx]at hg;obtain⟨_,f,c,d⟩:=h;have ha:=bQo a c (by omega);have e:=bQo b d (by omega);rcases f with rfl|rfl|rfl
  ·exact oQ1 p w a b ha e (G6 a c) (G6 b d) c.src d.src hg
  ·exact oQ2 p w a b ha e (G6 a c) (G6 b d) c.src d.src hg
  ·exact oQ3 p w a b ha e (G6 a c) c.src
 | ⟨k,p,w,_::_::_::_⟩,h,_=>by simp[OkL]at h
theorem kQj (l:Ln)(M:OkL 120 l)(C:D8 l)(B:K0 l)(s:By)(hs:s.size<=1048576)(y x:Value)(w:World)(G:Nat->Prop)(m:Old w G)(r:NV w G l y x) :
  Calls Tryz.prog 25 #[F0 l y x,.string s] w fun e N=>e=.returned (if B6 (eX8 l) s.data.toList=true then .tuple #[Sv (A6 l s.data.toList),Iv 0] else .tuple #[.string ⟨#[]⟩,Iv 5])/\Bw w N:=by
 obtain⟨⟨d,f,g,rfl⟩,a,b,c,rfl⟩:=NV.slices _ _ _ r;have o:=A5 w (B7 l.kind (eX5 l.p) l.w (.slice d f g) (.slice a b c));have t:Hid _:=o;have A:Old (w.alloc (B7 l.kind (eX5 l.p) l.w (.slice d f g) (.slice a b c))) G:=fun j i=>Ll (m j i) o.size;have E:=r.below o (fun j i=>m j i) (fun _ h=>h);have v:=gQ9 l M C s hs (.slice d f g) (.slice a b c) _ G A E;have H:Hid (Calls _ _ _ _ _):=v;have I:Hid (∀W,s.size<=60->Bw w W->Ca 55 #[F0 l (.slice d f g) (.slice a b c),.string s] W (Rt (Sv (A6 l s.data.toList)) W)):=fun W u n=>B s _ _ W G u (fun j i=>Ll (m j i) n.size) (r.below n (fun j i=>m j i) (fun _ h=>h));have K:Hid (B6 (eX8 l) s.data.toList=true->s.size<=60):=fun h=>by
  unfold B6 at h;rw[Bool.and_eq_true,decide_eq_true_eq,Array.length_toList]at h;exact h.2
 have J:Hid (∀W:World,Below (w.alloc (B7 l.kind (eX5 l.p) l.w (.slice d f g) (.slice a b c))).heap.size (w.alloc (B7 l.kind (eX5 l.p) l.w (.slice d f g) (.slice a b c))) W->LiesL W w.heap.size [Iv l.kind,Iv (eX5 l.p).kind,.string ⟨(eX5 l.p).signs.toArray⟩,.slice d f g,Sv l.w,.slice a b c]):=fun W n=>
  (N5 w l.kind (eX5 l.p) l.w (.slice d f g) (.slice a b c)).of_block (n.block _ (by simp))
 generalize B6 (eX8 l) s.data.toList=z at *;clear o A E v r C B;go_enter Tryz.func25,Tryz.ntmps25;go_wp2_with fail;refine Calls.mono H.out ?_;rintro e F ⟨rfl,q⟩;have k:=J.out F q;have O:=k.cell 0;have P:=k.cell 1;have Q:=k.cell 2;have R:=k.cell 3;have S:=k.cell 4;have T:=k.cell 5;clear k;cases z with
 | true=>
  have u:=K.out rfl;go_wp2_with fail;refine(I.out F u (Bj t.out q)).mono ?_;rintro e U ⟨rfl,L⟩;go_wp2_with fail;go_ret2;exact⟨rfl,Bj (Bj t.out q) L⟩
 | false=>
  go_wp2_with fail;go_ret2;exact⟨rfl,Bj t.out q⟩
variable (p:Ls.D)(ws:Lu)(a b:Ln)(s:By)(y:Value)(w:World)(x:Value)(G:Nat->Prop)
def J1 (l:Ln):Prop:=∀(s:By) (y x:Value) (w:World) (G:Nat->Prop),s.size<=60->Old w G->NV w G l y x->
 Ca 56 #[F0 l y x,.string s] w (Rt (.string ⟨(A8 l s.data.toList).toArray⟩) w)
theorem oQn {k9:Nat}(hk:k9=0\/k9=1\/k9=2):J1 ⟨k9,p,ws,[]⟩:=by
 intro s y x w G hs g h;rw[NV]at h;obtain⟨a,rfl⟩:=h;obtain⟨d,e,f,rfl⟩:=PV.slice _ _ a;have c:=A5 w (B7 k9 (eX5 p) ws (.slice d e f) (.slice none 0 0));generalize b:(⟨(A8 ⟨k9,p,ws,[]⟩ s.data.toList).toArray⟩:By)=r at *;have B:Hid _:=b;clear a b;rcases hk with rfl|rfl|rfl<;>(go_enter Tryz.func56,Tryz.ntmps56;go_wp2_with fail;go_ret;exact⟨by rw[<-B.out];simp[A8],c⟩)
theorem kQd (b:List (Lu)):((b.map (A8 a)).flatten).length<=(b.map fun x=>x.length+1).sum*gx a:=by
 induction b with
 | nil=>simp
 | cons x b c=>
  simp only[List.map_cons,List.flatten_cons,List.length_append,List.sum_cons];have:=K1 a x;rw[Nat.add_mul];omega
theorem oQs (ha:J1 a)(Q:J1 b)(P:D7 a)(d1:BdL 120 (eX6 a)):J1 ⟨5,p,ws,[a,b]⟩:=by
 intro s b1 b0 w G hs O h;rw[NV]at h;obtain⟨U,g,v1,u1,v2,u2,T,rfl,c,x,y⟩:=h;obtain⟨y1,y2,y3,rfl⟩:=PV.slice _ _ U;obtain⟨⟨I,J,K,rfl⟩,t1,t2,t3,rfl⟩:=NV.slices _ _ _ x;obtain⟨⟨c1,c2,c3,rfl⟩,f1,f2,f3,rfl⟩:=NV.slices _ _ _ y;have a9:=O g T;obtain⟨R,E,a3,l,F⟩:=X1 5 5 rfl p ws y1 y2 y3 O T c x y;have f:Hid _:=R;have a4:Hid _:=N3 P l.out E.out;have k:Hid (A8 ⟨5,p,ws,[a,b]⟩ s.data.toList=if Ls.is (eX6 a) s.data.toList=true then A8 a s.data.toList else A8 b s.data.toList):=by show _=_;simp[A8]
 generalize hr:A8 ⟨5,p,ws,[a,b]⟩ s.data.toList=r at *;have a2:Hid (∀W z A B,Bw w W->PV W (fun j=>G j\/(w.heap.size<=j/\j<W.heap.size)) (eX6 a) (.slice z A B)->Ca 59 #[B4 (eX6 a) (.slice z A B),.string s] W (Rt (.bool (Ls.is (eX6 a) s.data.toList)) W)):=by
  intro W z A B d h1;exact Z0 _ d1 (by omega) s (by omega) _ W _ (fun j i=>by
   rcases i with i|i
   ·exact l.out _ d j i
   ·exact i.2) h1
 have a0:Hid (∀W,Bw w W->Ca 56 #[(E1 a I J K t1 t2 t3),.string s] W (Rt (Sv (A8 a s.data.toList)) W)):=fun W d=>ha s _ _ W G hs (l.out _ d) (E.out _ d);have a1:Hid (∀W,Bw w W->Ca 56 #[(E1 b c1 c2 c3 f1 f2 f3),.string s] W (Rt (Sv (A8 b s.data.toList)) W)):=fun W d=>Q s _ _ W G hs (l.out _ d) (a3.out _ d);generalize Ls.is (eX6 a) s.data.toList=a8 at *;have q0:Ce w g 0 (Iv a.kind):=c.cell 0;have q1:Ce w g 1 (Iv (eX5 a.p).kind):=c.cell 1;have q2:Ce w g 2 (.string ⟨(eX5 a.p).signs.toArray⟩):=c.cell 2;have q3:Ce w g 3 (.slice I J K):=c.cell 3;have q4:Ce w g 4 (Sv a.w):=c.cell 4;have q5:Ce w g 5 (.slice t1 t2 t3):=c.cell 5;clear U x y c R P ha Q hr;obtain⟨L,M,V,X,r2,r3,r4,r5,r6,r7,r8,r9,Y,Z⟩:=F.out _ Br;go_enter Tryz.func56,Tryz.ntmps56;go_wp2_with fail;generalize (w.alloc (lo 5 p ws y1 y2 y3 g 2))=H at *;refine(a4.out H f.out).mono ?_;rintro e wa ⟨a5,a6,a7,rfl,u,N⟩;have C:Hid (∀q,Bw wa q->PV q (fun j=>G j\/(w.heap.size<=j/\j<q.heap.size)) (eX6 a) (.slice a5 a6 a7)):=N;clear N q0 q1 q2 q3 q4 q5 L M V X r2 r3 r4 r5 r6 r7 r8 r9 Y Z;go_wp2_with fail;refine(a2.out wa _ _ _ (Bj f.out u) (C.out _ Br)).mono ?_;rintro e n ⟨rfl,S⟩;have v:Bw H n:=Bj u S
 all_goals
  obtain⟨L,M,V,X,r2,r3,r4,r5,r6,r7,r8,r9,Y,Z⟩:=F.out n v;have m:=v;clear C v u S;cases a8 with
  | true=>
   have o:Hid (r=A8 a s.data.toList):=by rw[k.out];rfl
   clear k;go_wp2_with fail;refine(a0.out n (Bj f.out m)).mono ?_;rintro e w3 ⟨rfl,t⟩;go_wp2_with fail;go_ret;exact⟨by rw[o.out];rfl,Bj f.out (Bj m t)⟩
  | false=>
   have o:Hid (r=A8 b s.data.toList):=by rw[k.out];rfl
   clear k;go_wp2_with fail;refine(a1.out n (Bj f.out m)).mono ?_;rintro e w3 ⟨rfl,t⟩;go_wp2_with fail;go_ret;exact⟨by rw[o.out];rfl,Bj f.out (Bj m t)⟩
theorem kQl (z:D7 a)(A:D7 b)(Y:BdL 120 (eX6 a))(Z:BdL 120 (eX6 b))(hs:s.size<=60)(hG:Old w G)(h:NV w G ⟨3,p,ws,[a,b]⟩ y x) :
  Calls Tryz.prog 90 #[F0 ⟨3,p,ws,[a,b]⟩ y x,.string s] w fun e q=>e=.returned (.tuple #[.string (s.extract 0 (C0 (eX6 a) (eX6 b) s.data.toList)),.string (s.extract (C0 (eX6 a) (eX6 b) s.data.toList) s.size)])/\Bw w q:=by
 rw[NV]at h;obtain⟨I,g,v1,u1,v2,u2,hg,rfl,H,n,o⟩:=h;obtain⟨K,L,M,rfl⟩:=PV.slice _ _ I;obtain⟨⟨S,T,U,rfl⟩,t1,t2,t3,rfl⟩:=NV.slices _ _ _ n;obtain⟨⟨V,W,X,rfl⟩,f1,f2,f3,rfl⟩:=NV.slices _ _ _ o;obtain⟨B,O,P,j,k⟩:=X1 3 3 rfl p ws K L M hG hg H n o;have d:Hid _:=B;have Q:Hid _:=N3 z j.out O.out;have R:Hid _:=N3 A j.out P.out;have N:Hid _:=bQ0 Y Z (s:=s) (by omega) j.out;have m:=R1 (eX6 a) (eX6 b) s.data.toList;generalize C0 (eX6 a) (eX6 b) s.data.toList=i at *;rw[Array.length_toList]at m;have hi:i<=s.size:=m;have h0:(0:Int)<=(i:Int):=by omega
 have a1:(i:Int)<=(s.size:Int):=by omega
 clear I n o H B z A m;obtain⟨e0,e5,r0,r1,r2,r3,r4,r5,r6,r7,r8,r9,a3,a4⟩:=k.out _ Br;go_enter Tryz.func90,Tryz.ntmps90;go_wp2_with fail;generalize (w.alloc (lo 3 p ws K L M g 2))=f at *;have a2:=d.out;go_region_held (fun q=>s2 q w.heap.size 3 g a b S T U t1 t2 t3 V W X f1 f2 f3) (first|assumption|exact k.out _ Br.drew|exact k.out _ c)
  (first
   | (go_at_call_of 53 a.kind;refine(Q.out _ ?_).mono ?_;exact d.out.drew;rintro e J ⟨a5,a6,a7,rfl,F,u⟩;have E:Bw f J:=Bj Br.drew F;have c:Bw f J:=E;have r:Hid _:=u;clear u)
   | (go_at_call_of 53 b.kind;refine(R.out _ ?_).mono ?_;exact Bj d.out c;rintro e wb ⟨a8,a9,b0,rfl,l,v⟩;have c:Bw f wb:=Bj c l;have t:Hid _:=v;clear v)
   | (go_at_call 88;refine(N.out _ _ _ _ _ _ _ ?_ (r.out _ l) (t.out _ Br)).mono ?_;exact Bj d.out c;rintro e w2 ⟨rfl,C⟩;have c:Bw f w2:=Bj c C))
 all_goals
  have a0:=c;clear r t c F E l C;go_wp2_with fail;go_region;go_wp2_with fail;go_ret2;exact⟨rfl,Bj d.out a0.drew⟩
theorem kQm (z:D7 a)(A:D7 b)(Y:BdL 120 (eX6 a))(Z:BdL 120 (eX6 b))(hs:s.size<=60)(hG:Old w G)(h:NV w G ⟨4,p,ws,[a,b]⟩ y x) :
  Calls Tryz.prog 90 #[F0 ⟨4,p,ws,[a,b]⟩ y x,.string s] w fun e q=>e=.returned (.tuple #[.string (s.extract (C0 (eX6 b) (eX6 a) s.data.toList) s.size),.string (s.extract 0 (C0 (eX6 b) (eX6 a) s.data.toList))])/\Bw w q:=by
 rw[NV]at h;obtain⟨I,g,v1,u1,v2,u2,hg,rfl,H,n,o⟩:=h;obtain⟨K,L,M,rfl⟩:=PV.slice _ _ I;obtain⟨⟨S,T,U,rfl⟩,t1,t2,t3,rfl⟩:=NV.slices _ _ _ n;obtain⟨⟨V,W,X,rfl⟩,f1,f2,f3,rfl⟩:=NV.slices _ _ _ o;obtain⟨B,O,P,j,k⟩:=X1 4 4 rfl p ws K L M hG hg H n o;have d:Hid _:=B;have Q:Hid _:=N3 z j.out O.out;have R:Hid _:=N3 A j.out P.out;have N:Hid _:=bQ0 Z Y (s:=s) (by omega) j.out;have m:=R1 (eX6 b) (eX6 a) s.data.toList;generalize C0 (eX6 b) (eX6 a) s.data.toList=i at *;rw[Array.length_toList]at m;have hi:i<=s.size:=m;have h0:(0:Int)<=(i:Int):=by omega
 have a1:(i:Int)<=(s.size:Int):=by omega
 clear I n o H B z A m;obtain⟨e0,e5,r0,r1,r2,r3,r4,r5,r6,r7,r8,r9,a3,a4⟩:=k.out _ Br;go_enter Tryz.func90,Tryz.ntmps90;go_wp2_with fail;generalize (w.alloc (lo 4 p ws K L M g 2))=f at *;have a2:=d.out;go_region_held (fun q=>s2 q w.heap.size 4 g a b S T U t1 t2 t3 V W X f1 f2 f3) (first|assumption|exact k.out _ Br.drew|exact k.out _ c)
  (first
   | (go_at_call_of 53 b.kind;refine(R.out _ ?_).mono ?_;exact d.out.drew;rintro e J ⟨a5,a6,a7,rfl,F,u⟩;have E:Bw f J:=Bj Br.drew F;have c:Bw f J:=E;have r:Hid _:=u;clear u)
   | (go_at_call_of 53 a.kind;refine(Q.out _ ?_).mono ?_;exact Bj d.out c;rintro e wb ⟨a8,a9,b0,rfl,l,v⟩;have c:Bw f wb:=Bj c l;have t:Hid _:=v;clear v)
   | (go_at_call 88;refine(N.out _ _ _ _ _ _ _ ?_ (r.out _ l) (t.out _ Br)).mono ?_;exact Bj d.out c;rintro e w2 ⟨rfl,C⟩;have c:Bw f w2:=Bj c C))
 all_goals
  have a0:=c;clear r t c F E l C;go_wp2_with fail;go_region;go_wp2_with fail;go_ret2;exact⟨rfl,Bj d.out a0.drew⟩
theorem oQq (ha:J1 a)(P:J1 b)(N:D7 a)(O:D7 b)(d1:BdL 120 (eX6 a))(d2:BdL 120 (eX6 b))(b5:gx a+gx b<=1099511627776):J1 ⟨3,p,ws,[a,b]⟩:=by
 intro s b8 b7 w G hs L h;have M:=h;rw[NV]at h;obtain⟨S,g,v1,u1,v2,u2,hg,rfl,R,q,r⟩:=h;obtain⟨I,J,K,rfl⟩:=PV.slice _ _ S;obtain⟨⟨b1,b2,b3,rfl⟩,t1,t2,t3,rfl⟩:=NV.slices _ _ _ q;obtain⟨⟨c1,c2,c3,rfl⟩,f1,f2,f3,rfl⟩:=NV.slices _ _ _ r;obtain⟨Q,a0,a1,f,j⟩:=X1 3 3 rfl p ws I J K L hg R q r;have d:Hid _:=Q;have Z:Hid (∀W,Bw w W->Ca 90 #[(eQ7 3 p ws I J K g 2),.string s] W fun e w'=>e=.returned (.tuple #[.string (s.extract 0 (C0 (eX6 a) (eX6 b) s.data.toList)),.string (s.extract (C0 (eX6 a) (eX6 b) s.data.toList) s.size)])/\Bw W w'):=fun W c=>
  kQl p ws a b s _ W _ G N O d1 d2 hs (f.out _ c) (M.below c (fun b4 hj=>L b4 hj) (fun _ h=>h))
 have o:=R1 (eX6 a) (eX6 b) s.data.toList;have V:Hid (A8 ⟨3,p,ws,[a,b]⟩ s.data.toList=A8 a (s.data.toList.take (C0 (eX6 a) (eX6 b) s.data.toList))++A8 b (s.data.toList.drop (C0 (eX6 a) (eX6 b) s.data.toList))):=by show _=_;simp[A8]
 generalize C0 (eX6 a) (eX6 b) s.data.toList=i at *;rw[Array.length_toList]at o;have hi:i<=s.size:=o;have X:Hid (∀W,Bw w W->Ca 56 #[(E1 a b1 b2 b3 t1 t2 t3),.string (s.extract 0 i)] W (Rt (Sv (A8 a (s.data.toList.take i))) W)):=fun W c=>by
  have:=ha (s.extract 0 i) _ _ W G (by rw[ByteArray.size_extract];omega) (f.out _ c) (a0.out _ c);rw[S5]at this;exact this
 have Y:Hid (∀W,Bw w W->Ca 56 #[(E1 b c1 c2 c3 f1 f2 f3),.string (s.extract i s.size)] W (Rt (Sv (A8 b (s.data.toList.drop i))) W)):=fun W c=>by
  have:=P (s.extract i s.size) _ _ W G (by rw[ByteArray.size_extract];omega) (f.out _ c) (a1.out _ c);rw[V6]at this;exact this
 have a5:=K1 a (s.data.toList.take i);have a7:=K1 b (s.data.toList.drop i);have a9:(s.data.toList.take i).length<=60:=by rw[List.length_take];omega
 have b0:(s.data.toList.drop i).length<=60:=by rw[List.length_drop,Array.length_toList];show s.size-i<=60;omega
 have a6:((s.data.toList.take i).length+1)*gx a<=61*gx a:=Nat.mul_le_mul_right _ (by omega);have a8:((s.data.toList.drop i).length+1)*gx b<=61*gx b:=Nat.mul_le_mul_right _ (by omega);have b6:¬9223372036854775807<(A8 a (s.data.toList.take i)).length+(A8 b (s.data.toList.drop i)).length:=by omega
 clear a5 a7 a9 b0 a6 a8;generalize A8 a (s.data.toList.take i)=ca at *;generalize A8 b (s.data.toList.drop i)=cb at *;generalize (s.extract 0 i)=sa at *;generalize (s.extract i s.size)=sb at *;clear S q r R Q N O ha P o M;obtain⟨k,l,t,u,y,z,A,B,C,E,F,H,v,x⟩:=j.out _ Br;go_enter Tryz.func56,Tryz.ntmps56;go_wp2_with fail;generalize (w.alloc (lo 3 p ws I J K g 2))=W0 at *;refine(Z.out _ d.out).mono ?_;rintro e T ⟨rfl,m⟩;obtain⟨k,l,t,u,y,z,A,B,C,E,F,H,v,x⟩:=j.out T m;go_wp2_with fail;refine(X.out T (Bj d.out m)).mono ?_;rintro e U ⟨rfl,a2⟩;have n:=Bj m a2;clear k l t u y z A B C E F H v x;obtain⟨k,l,t,u,y,z,A,B,C,E,F,H,v,x⟩:=j.out U n;go_wp2_with fail;refine(Y.out U (Bj d.out n)).mono ?_;rintro e w4 ⟨rfl,a3⟩;have a4:=Bj n a3;go_wp2_with fail;go_ret;refine⟨?_,Bj d.out a4⟩;rw[V.out,<-Q9];rfl
theorem oQr (ha:J1 a)(P:J1 b)(N:D7 a)(O:D7 b)(d1:BdL 120 (eX6 a))(d2:BdL 120 (eX6 b))(b5:gx a+gx b<=1099511627776):J1 ⟨4,p,ws,[a,b]⟩:=by
 intro s b8 b7 w G hs L h;have M:=h;rw[NV]at h;obtain⟨S,g,v1,u1,v2,u2,hg,rfl,R,q,r⟩:=h;obtain⟨I,J,K,rfl⟩:=PV.slice _ _ S;obtain⟨⟨b1,b2,b3,rfl⟩,t1,t2,t3,rfl⟩:=NV.slices _ _ _ q;obtain⟨⟨c1,c2,c3,rfl⟩,f1,f2,f3,rfl⟩:=NV.slices _ _ _ r;obtain⟨Q,a0,a1,f,j⟩:=X1 4 4 rfl p ws I J K L hg R q r;have d:Hid _:=Q;have Z:Hid (∀W,Bw w W->Ca 90 #[(eQ7 4 p ws I J K g 2),.string s] W fun e w'=>e=.returned (.tuple #[.string (s.extract (C0 (eX6 b) (eX6 a) s.data.toList) s.size),.string (s.extract 0 (C0 (eX6 b) (eX6 a) s.data.toList))])/\Bw W w'):=fun W c=>
  kQm p ws a b s _ W _ G N O d1 d2 hs (f.out _ c) (M.below c (fun b4 hj=>L b4 hj) (fun _ h=>h))
 have o:=R1 (eX6 b) (eX6 a) s.data.toList;have V:Hid (A8 ⟨4,p,ws,[a,b]⟩ s.data.toList=A8 a (s.data.toList.drop (C0 (eX6 b) (eX6 a) s.data.toList))++A8 b (s.data.toList.take (C0 (eX6 b) (eX6 a) s.data.toList))):=by show _=_;simp[A8]
 generalize C0 (eX6 b) (eX6 a) s.data.toList=i at *;rw[Array.length_toList]at o;have hi:i<=s.size:=o;have X:Hid (∀W,Bw w W->Ca 56 #[(E1 a b1 b2 b3 t1 t2 t3),.string (s.extract i s.size)] W (Rt (Sv (A8 a (s.data.toList.drop i))) W)):=fun W c=>by
  have:=ha (s.extract i s.size) _ _ W G (by rw[ByteArray.size_extract];omega) (f.out _ c) (a0.out _ c);rw[V6]at this;exact this
 have Y:Hid (∀W,Bw w W->Ca 56 #[(E1 b c1 c2 c3 f1 f2 f3),.string (s.extract 0 i)] W (Rt (Sv (A8 b (s.data.toList.take i))) W)):=fun W c=>by
  have:=P (s.extract 0 i) _ _ W G (by rw[ByteArray.size_extract];omega) (f.out _ c) (a1.out _ c);rw[S5]at this;exact this
 have a5:=K1 a (s.data.toList.drop i);have a7:=K1 b (s.data.toList.take i);have a9:(s.data.toList.take i).length<=60:=by rw[List.length_take];omega
 have b0:(s.data.toList.drop i).length<=60:=by rw[List.length_drop,Array.length_toList];show s.size-i<=60;omega
 have a6:((s.data.toList.drop i).length+1)*gx a<=61*gx a:=Nat.mul_le_mul_right _ (by omega);have a8:((s.data.toList.take i).length+1)*gx b<=61*gx b:=Nat.mul_le_mul_right _ (by omega);have b6:¬9223372036854775807<(A8 a (s.data.toList.drop i)).length+(A8 b (s.data.toList.take i)).length:=by omega
 clear a5 a7 a9 b0 a6 a8;generalize A8 a (s.data.toList.drop i)=ca at *;generalize A8 b (s.data.toList.take i)=cb at *;generalize (s.extract i s.size)=sa at *;generalize (s.extract 0 i)=sb at *;clear S q r R Q N O ha P o M;obtain⟨k,l,t,u,y,z,A,B,C,E,F,H,v,x⟩:=j.out _ Br;go_enter Tryz.func56,Tryz.ntmps56;go_wp2_with fail;generalize (w.alloc (lo 4 p ws I J K g 2))=W0 at *;refine(Z.out _ d.out).mono ?_;rintro e T ⟨rfl,m⟩;obtain⟨k,l,t,u,y,z,A,B,C,E,F,H,v,x⟩:=j.out T m;go_wp2_with fail;refine(X.out T (Bj d.out m)).mono ?_;rintro e U ⟨rfl,a2⟩;have n:=Bj m a2;clear k l t u y z A B C E F H v x;obtain⟨k,l,t,u,y,z,A,B,C,E,F,H,v,x⟩:=j.out U n;go_wp2_with fail;refine(Y.out U (Bj d.out n)).mono ?_;rintro e w4 ⟨rfl,a3⟩;have a4:=Bj n a3;go_wp2_with fail;go_ret;refine⟨?_,Bj d.out a4⟩;rw[V.out,<-Q9];rfl
theorem aQm:(l:Ln)->OkL 120 l->K7 l->gx l<=1099511627776->J1 l
 | ⟨k,p,w,[]⟩,h,_,_=>by
  rw[OkL]at h;rcases h.2 with rfl|rfl|rfl
  ·exact oQn p w (.inl rfl)
  ·exact oQn p w (.inr (.inl rfl))
  ·exact oQn p w (.inr (.inr rfl))
 | ⟨k,p,w,[a]⟩,h,hw,hg=>by
  rw[OkL]at h;rw[gx]at hg;rw[K7]at hw;have ha:=aQm a h.2.2 hw (by omega);rcases h.2.1 with rfl|rfl
  ·exact oQ4 p w a (.inr ⟨rfl,rfl⟩) (.inl rfl) (kQd a) (fun _=>by rw[A8,Array.length_toList];rfl) ha (G9 a h.2.2 hw) h.2.2.view (by omega)
  ·exact oQ4 p w a (.inr ⟨rfl,rfl⟩) (.inr rfl) (kQd a) (fun _=>by rw[A8,Array.length_toList];rfl) ha (G9 a h.2.2 hw) h.2.2.view (by omega)
 | ⟨k,p,w,[a,b]⟩,h,hw,hg=>by
  rw[OkL]at h;rw[gx]at hg;rw[K7]at hw;obtain⟨_,f,c,d⟩:=h;have ha:=aQm a c hw.1 (by omega);have e:=aQm b d hw.2 (by omega);rcases f with rfl|rfl|rfl
  ·exact oQq p w a b ha e (G9 a c hw.1) (G9 b d hw.2) c.view d.view hg
  ·exact oQr p w a b ha e (G9 a c hw.1) (G9 b d hw.2) c.view d.view hg
  ·exact oQs p w a b ha e (G9 a c hw.1) c.view
 | ⟨k,p,w,_::_::_::_⟩,h,_,_=>by simp[OkL]at h
theorem kQ1 (hs:s.size<=4611686018427387904) :
  Calls Tryz.prog 111 #[.string s] w fun e p=>e=.returned (Sv (C3 s.data.toList))/\p=w:=by
 go_enter Tryz.func111,Tryz.ntmps111;go_wp2_with fail;go_loopw [3] (fun t wr=>∃k:Nat,k<=s.size/\t=Iv k/\wr=w/\C3 s.data.toList=s.data.toList.take k++C3 (s.data.toList.drop k)) (fun t _=>s.size-(intOf t).toNat)
 case atStart=>exact⟨0,Nat.zero_le _,rfl,rfl,by simp⟩
 case round=>
  obtain⟨k,q,rfl,rfl,g⟩:=hrel;have a:Hid (C3 s.data.toList=s.data.toList.take k++C3 (s.data.toList.drop k)):=g;clear g
  by_cases h:k<s.size
  ·have o:(k:Int)<(s.size:Int):=by omega
   have n:(0:Int)<=(k:Int):=by omega
   have f:s.data.toList.drop k=s[k]::s.data.toList.drop (k+1):=by
    rw[List.drop_eq_getElem_cons (by rw[Array.length_toList];exact h)];rfl
   have d:Hid (s.data.toList.take (k+1)=s.data.toList.take k++[s[k]]):=by
    show _=_;rw[List.take_succ_eq_append_getElem (by rw[Array.length_toList];exact h)];rfl
   have c:Hid (C3 (s.data.toList.drop k)=if low s[k]=true then s[k]::C3 (s.data.toList.drop (k+1)) else []):=by
    show _=_;rw[f];unfold C3;rw[List.takeWhile_cons]
   clear f
   by_cases i:97<=s[k].toNat
   ·have j:(97:Int)<=(s[k].toNat:Int):=by omega
    by_cases l:s[k].toNat<=122
    ·have m:(s[k].toNat:Int)<=122:=by omega
     have b:Hid (C3 s.data.toList=s.data.toList.take (k+1)++C3 (s.data.toList.drop (k+1))):=by
      show _=_;rw[a.out,c.out,d.out,if_pos (by simp[low,i,l])];simp
     clear a c d;go_wp2_with fail;go_roundw
     case rel=>exact⟨k+1,by omega,by go_num,trivial,b.out⟩
     case measure=>simp[intOf];omega
    ·have m:¬(s[k].toNat:Int)<=122:=by omega
     have b:Hid (C3 s.data.toList=s.data.toList.take k):=by
      show _=_;rw[a.out,c.out,if_neg (by simp[low];omega)];simp
     clear a c d;go_wp2_with fail;go_ret;exact⟨by rw[b.out,<-S5];rfl,rfl⟩
   ·have j:¬(97:Int)<=(s[k].toNat:Int):=by omega
    have b:Hid (C3 s.data.toList=s.data.toList.take k):=by
     show _=_;rw[a.out,c.out,if_neg (by simp[low];omega)];simp
    clear a c d;go_wp2_with fail;go_ret;exact⟨by rw[b.out,<-S5];rfl,rfl⟩
  ·have o:¬(k:Int)<(s.size:Int):=by omega
   have n:(0:Int)<=(k:Int):=by omega
   have r:(k:Int)<=(s.size:Int):=by omega
   have b:Hid (C3 s.data.toList=s.data.toList.take k):=by
    show _=_;rw[a.out,List.drop_of_length_le (by rw[Array.length_toList];show s.size<=k;omega)];simp[C3]
   clear a;go_wp2_with fail;go_ret;exact⟨by rw[b.out,<-S5];rfl,rfl⟩
theorem jQ1 (l:Ln)(M:OkL 120 l)(C:D7 l)(B:J1 l)(hs:s.size<=1048576)(m:Old w G)(r:NV w G l y x) :
  Calls Tryz.prog 27 #[F0 l y x,.string s] w fun e N=>e=.returned (if B6 (eX6 l) s.data.toList=true then .tuple #[Sv (A8 l s.data.toList),Iv 0] else .tuple #[.string ⟨#[]⟩,Iv 6])/\Bw w N:=by
 obtain⟨⟨d,f,g,rfl⟩,a,b,c,rfl⟩:=NV.slices _ _ _ r;have o:=A5 w (B7 l.kind (eX5 l.p) l.w (.slice d f g) (.slice a b c));have t:Hid _:=o;have A:Old (w.alloc (B7 l.kind (eX5 l.p) l.w (.slice d f g) (.slice a b c))) G:=fun j i=>Ll (m j i) o.size;have E:=r.below o (fun j i=>m j i) (fun _ h=>h);have v:=hQa l M C s hs (.slice d f g) (.slice a b c) _ G A E;have H:Hid (Calls _ _ _ _ _):=v;have I:Hid (∀W,s.size<=60->Bw w W->Ca 56 #[F0 l (.slice d f g) (.slice a b c),.string s] W (Rt (Sv (A8 l s.data.toList)) W)):=fun W u n=>B s _ _ W G u (fun j i=>Ll (m j i) n.size) (r.below n (fun j i=>m j i) (fun _ h=>h));have K:Hid (B6 (eX6 l) s.data.toList=true->s.size<=60):=fun h=>by
  unfold B6 at h;rw[Bool.and_eq_true,decide_eq_true_eq,Array.length_toList]at h;exact h.2
 have J:Hid (∀W:World,Below (w.alloc (B7 l.kind (eX5 l.p) l.w (.slice d f g) (.slice a b c))).heap.size (w.alloc (B7 l.kind (eX5 l.p) l.w (.slice d f g) (.slice a b c))) W->LiesL W w.heap.size [Iv l.kind,Iv (eX5 l.p).kind,.string ⟨(eX5 l.p).signs.toArray⟩,.slice d f g,Sv l.w,.slice a b c]):=fun W n=>
  (N5 w l.kind (eX5 l.p) l.w (.slice d f g) (.slice a b c)).of_block (n.block _ (by simp))
 generalize B6 (eX6 l) s.data.toList=z at *;clear o A E v r C B;go_enter Tryz.func27,Tryz.ntmps27;go_wp2_with fail;refine Calls.mono H.out ?_;rintro e F ⟨rfl,q⟩;have k:=J.out F q;have O:=k.cell 0;have P:=k.cell 1;have Q:=k.cell 2;have R:=k.cell 3;have S:=k.cell 4;have T:=k.cell 5;clear k;cases z with
 | true=>
  have u:=K.out rfl;go_wp2_with fail;refine(I.out F u (Bj t.out q)).mono ?_;rintro e U ⟨rfl,L⟩;go_wp2_with fail;go_ret2;exact⟨rfl,Bj (Bj t.out q) L⟩
 | false=>
  go_wp2_with fail;go_ret2;exact⟨rfl,Bj t.out q⟩
end Go.Proofs.YtfklinjaajafgaaGreatDoor
