import Derived.Test.YtfklinjaajafgaaGreatDoorK63
set_option maxRecDepth 100000
set_option maxHeartbeats 4000000
namespace Go.Proofs.YtfklinjaajafgaaGreatDoor
open Ls
open Go.RowKit
variable (p:Ls.D)(ws:Lu)(a b:Ln)(v s:By)(y x:Value)(w:World)(G:Nat->Prop)
def K9 (l:Ln):Prop:=∀(v s:By) (y x:Value) (w:World) (G:Nat->Prop),v.size<=60->s.size<=60->Old w G->NV w G l y x->
 Ca 57 #[F0 l y x,.string v,.string s] w (Rt (.string ⟨(A9 l v.data.toList s.data.toList).toArray⟩) w)
theorem pQv {k9:Nat}(hk:k9=0\/k9=1\/k9=2):K9 ⟨k9,p,ws,[]⟩:=by
 intro v s y x w G i hs g h;rw[NV]at h;obtain⟨a,rfl⟩:=h;obtain⟨d,e,f,rfl⟩:=PV.slice _ _ a;have c:=A5 w (B7 k9 (eX5 p) ws (.slice d e f) (.slice none 0 0));generalize b:(⟨(A9 ⟨k9,p,ws,[]⟩ v.data.toList s.data.toList).toArray⟩:By)=r at *;have B:Hid _:=b;clear a b;rcases hk with rfl|rfl|rfl<;>(go_enter Tryz.func57,Tryz.ntmps57;go_wp2_with fail;go_ret;exact⟨by rw[<-B.out];simp[A9],c⟩)
theorem pQy (ha:K9 a)(hb:K9 b)(a8:D8 a)(a9:D8 b)(b0:D7 a)(b1:D7 b)(d1:BdL 120 (eX8 a))(d2:BdL 120 (eX8 b))(d3:BdL 120 (eX6 a))(d4:BdL 120 (eX6 b))(e0:gx a+gx b<=1099511627776):K9 ⟨3,p,ws,[a,b]⟩:=by
 intro v s f0 e3 w G d5 hs hG h;have hN:=h;rw[NV]at h;obtain⟨hv,g,v1,u1,v2,u2,hg,rfl,c0,a2,a3⟩:=h;obtain⟨y1,y2,y3,rfl⟩:=PV.slice _ _ hv;obtain⟨⟨I,J,K,rfl⟩,U,V,X,rfl⟩:=NV.slices _ _ _ a2;obtain⟨⟨L,M,N,rfl⟩,O,P,Q,rfl⟩:=NV.slices _ _ _ a3;obtain⟨b2,a6,a7,F,d⟩:=X1 3 3 rfl p ws y1 y2 y3 hG hg c0 a2 a3;have k:Hid _:=b2;have c4:Hid _:=N3 a8 F.out a6.out;have c5:Hid _:=N3 a9 F.out a7.out;have c1:Hid _:=bQ0 d1 d2 (s:=s) (by omega) F.out;have HH:Hid (∀W,Bw w W->Ca 90 #[(eQ7 3 p ws y1 y2 y3 g 2),.string v] W fun e E=>e=.returned (.tuple #[.string (v.extract 0 (C0 (eX6 a) (eX6 b) v.data.toList)),.string (v.extract (C0 (eX6 a) (eX6 b) v.data.toList) v.size)])/\Bw W E):=fun W f=>
  kQl p ws a b v _ W _ G b0 b1 d3 d4 d5 (F.out _ f) (hN.below f (fun j hj=>hG j hj) (fun _ h=>h))
 have a0:=R1 (eX8 a) (eX8 b) s.data.toList;have a1:=R1 (eX6 a) (eX6 b) v.data.toList;have HE:Hid (A9 ⟨3,p,ws,[a,b]⟩ v.data.toList s.data.toList=A9 a (v.data.toList.take (C0 (eX6 a) (eX6 b) v.data.toList)) (s.data.toList.take (C0 (eX8 a) (eX8 b) s.data.toList))++A9 b (v.data.toList.drop (C0 (eX6 a) (eX6 b) v.data.toList)) (s.data.toList.drop (C0 (eX8 a) (eX8 b) s.data.toList))):=by show _=_;simp[A9]
 generalize C0 (eX8 a) (eX8 b) s.data.toList=i at *;generalize C0 (eX6 a) (eX6 b) v.data.toList=j at *;rw[Array.length_toList]at a0 a1;have hi:i<=s.size:=a0;have hj:j<=v.size:=a1;have c2:Hid (∀W,Bw w W->Ca 57 #[(E1 a I J K U V X),.string (v.extract 0 j),.string (s.extract 0 i)] W (Rt (Sv (A9 a (v.data.toList.take j) (s.data.toList.take i))) W)):=fun W f=>by
  have:=ha (v.extract 0 j) (s.extract 0 i) _ _ W G (by rw[ByteArray.size_extract];omega) (by rw[ByteArray.size_extract];omega) (F.out _ f) (a6.out _ f);rw[S5,S5]at this;exact this
 have c3:Hid (∀W,Bw w W->Ca 57 #[(E1 b L M N O P Q),.string (v.extract j v.size),.string (s.extract i s.size)] W (Rt (Sv (A9 b (v.data.toList.drop j) (s.data.toList.drop i))) W)):=fun W f=>by
  have:=hb (v.extract j v.size) (s.extract i s.size) _ _ W G (by rw[ByteArray.size_extract];omega) (by rw[ByteArray.size_extract];omega) (F.out _ f) (a7.out _ f);rw[V6,V6]at this;exact this
 have c7:=Q6 a (v.data.toList.take j) (s.data.toList.take i);have c9:=Q6 b (v.data.toList.drop j) (s.data.toList.drop i);have d6:(v.data.toList.take j).length<=60:=by rw[List.length_take];omega
 have d7:(v.data.toList.drop j).length<=60:=by rw[List.length_drop,Array.length_toList];show v.size-j<=60;omega
 have d8:(s.data.toList.take i).length<=60:=by rw[List.length_take];omega
 have d9:(s.data.toList.drop i).length<=60:=by rw[List.length_drop,Array.length_toList];show s.size-i<=60;omega
 have c8:((v.data.toList.take j).length+(s.data.toList.take i).length+2)*gx a<=122*gx a:=Nat.mul_le_mul_right _ (by omega);have d0:((v.data.toList.drop j).length+(s.data.toList.drop i).length+2)*gx b<=122*gx b:=Nat.mul_le_mul_right _ (by omega);have e2:¬9223372036854775807<(A9 a (v.data.toList.take j) (s.data.toList.take i)).length+(A9 b (v.data.toList.drop j) (s.data.toList.drop i)).length:=by omega
 clear c7 c9 d6 d7 d8 d9 c8 d0;generalize A9 a (v.data.toList.take j) (s.data.toList.take i)=ca at *;generalize A9 b (v.data.toList.drop j) (s.data.toList.drop i)=cb at *;generalize (v.extract 0 j)=sa at *;generalize (v.extract j v.size)=sb at *;have h0:(0:Int)<=(i:Int):=by omega
 have e1:(i:Int)<=(s.size:Int):=by omega
 clear hv a2 a3 c0 b2 a8 a9 b0 b1 ha hb a0 a1 hN;obtain⟨l,m,n,o,t,u,x,y,z,A,B,C,q,r⟩:=d.out _ Br;go_enter Tryz.func57,Tryz.ntmps57;go_wp2_with fail;generalize (w.alloc (lo 3 p ws y1 y2 y3 g 2))=H at *;refine(HH.out _ k.out).mono ?_;rintro e wh ⟨rfl,T⟩;clear l m n o t u x y z A B C q r;obtain⟨l,m,n,o,t,u,x,y,z,A,B,C,q,r⟩:=d.out wh T;go_wp2_with fail;go_region_held (fun E=>s2 E w.heap.size 3 g a b I J K U V X L M N O P Q) (first|assumption|exact d.out _ T.drew|exact d.out _ c)
  (first
   | (go_at_call_of 51 a.kind;refine(c4.out _ ?_).mono ?_;exact(Bj k.out T).drew;rintro e wa ⟨e4,e5,e6,rfl,b9,hA⟩;have b8:Bw wh wa:=Bj Br.drew b9;have c:Bw H wa:=Bj T b8;have a4:Hid _:=hA;clear hA)
   | (go_at_call_of 51 b.kind;refine(c5.out _ ?_).mono ?_;exact Bj k.out c;rintro e wb ⟨e7,e8,e9,rfl,Z,hB⟩;have c:Bw H wb:=Bj c Z;have a5:Hid _:=hB;clear hB)
   | (go_at_call 88;refine(c1.out _ _ _ _ _ _ _ ?_ (a4.out _ Z) (a5.out _ Br)).mono ?_;exact Bj k.out c;rintro e w2 ⟨rfl,b3⟩;have c:Bw H w2:=Bj c b3))
 all_goals
  have R:=c;clear a4 a5 c b9 b8 Z b3;clear l m n o t u x y z A B C q r;obtain⟨l,m,n,o,t,u,x,y,z,A,B,C,q,r⟩:=d.out w2 R;go_wp2_with fail;go_region_held (fun E=>s2 E w.heap.size 3 g a b I J K U V X L M N O P Q) (first|assumption|exact d.out _ R.drew|exact d.out _ c)
   (first
    | (go_at_call 57;refine(c2.out _ ?_).mono ?_;exact(Bj k.out R).drew;rintro e Y ⟨rfl,b5⟩;have b4:Bw w2 Y:=Bj Br.drew b5;have c:Bw H Y:=Bj R b4))
  all_goals
   have S:=c;clear l m n o t u x y z A B C q r c b4 b5;obtain⟨l,m,n,o,t,u,x,y,z,A,B,C,q,r⟩:=d.out Y S;go_wp2_with fail;go_region_held (fun E=>s2 E w.heap.size 3 g a b I J K U V X L M N O P Q) (first|assumption|exact d.out _ S.drew|exact d.out _ c)
    (first
     | (go_at_call 57;refine(c3.out _ ?_).mono ?_;exact(Bj k.out S).drew;rintro e w4 ⟨rfl,b7⟩;have b6:Bw Y w4:=Bj Br.drew b7;have c:Bw H w4:=Bj S b6))
   all_goals
    have c6:=c;clear l m n o t u x y z A B C q r c b6 b7;go_wp2_with fail;go_ret;refine⟨?_,Bj k.out c6⟩;rw[HE.out,<-Q9];rfl
theorem pQz (ha:K9 a)(hb:K9 b)(a8:D8 a)(a9:D8 b)(b0:D7 a)(b1:D7 b)(d1:BdL 120 (eX8 a))(d2:BdL 120 (eX8 b))(d3:BdL 120 (eX6 a))(d4:BdL 120 (eX6 b))(e0:gx a+gx b<=1099511627776):K9 ⟨4,p,ws,[a,b]⟩:=by
 intro v s f0 e3 w G d5 hs hG h;have hN:=h;rw[NV]at h;obtain⟨hv,g,v1,u1,v2,u2,hg,rfl,c0,a2,a3⟩:=h;obtain⟨y1,y2,y3,rfl⟩:=PV.slice _ _ hv;obtain⟨⟨I,J,K,rfl⟩,U,V,X,rfl⟩:=NV.slices _ _ _ a2;obtain⟨⟨L,M,N,rfl⟩,O,P,Q,rfl⟩:=NV.slices _ _ _ a3;obtain⟨b2,a6,a7,F,d⟩:=X1 4 4 rfl p ws y1 y2 y3 hG hg c0 a2 a3;have k:Hid _:=b2;have c4:Hid _:=N3 a8 F.out a6.out;have c5:Hid _:=N3 a9 F.out a7.out;have c1:Hid _:=bQ0 d1 d2 (s:=s) (by omega) F.out;have HH:Hid (∀W,Bw w W->Ca 90 #[(eQ7 4 p ws y1 y2 y3 g 2),.string v] W fun e E=>e=.returned (.tuple #[.string (v.extract (C0 (eX6 b) (eX6 a) v.data.toList) v.size),.string (v.extract 0 (C0 (eX6 b) (eX6 a) v.data.toList))])/\Bw W E):=fun W f=>
  kQm p ws a b v _ W _ G b0 b1 d3 d4 d5 (F.out _ f) (hN.below f (fun j hj=>hG j hj) (fun _ h=>h))
 have a0:=R1 (eX8 a) (eX8 b) s.data.toList;have a1:=R1 (eX6 b) (eX6 a) v.data.toList;have HE:Hid (A9 ⟨4,p,ws,[a,b]⟩ v.data.toList s.data.toList=A9 a (v.data.toList.drop (C0 (eX6 b) (eX6 a) v.data.toList)) (s.data.toList.take (C0 (eX8 a) (eX8 b) s.data.toList))++A9 b (v.data.toList.take (C0 (eX6 b) (eX6 a) v.data.toList)) (s.data.toList.drop (C0 (eX8 a) (eX8 b) s.data.toList))):=by show _=_;simp[A9]
 generalize C0 (eX8 a) (eX8 b) s.data.toList=i at *;generalize C0 (eX6 b) (eX6 a) v.data.toList=j at *;rw[Array.length_toList]at a0 a1;have hi:i<=s.size:=a0;have hj:j<=v.size:=a1;have c2:Hid (∀W,Bw w W->Ca 57 #[(E1 a I J K U V X),.string (v.extract j v.size),.string (s.extract 0 i)] W (Rt (Sv (A9 a (v.data.toList.drop j) (s.data.toList.take i))) W)):=fun W f=>by
  have:=ha (v.extract j v.size) (s.extract 0 i) _ _ W G (by rw[ByteArray.size_extract];omega) (by rw[ByteArray.size_extract];omega) (F.out _ f) (a6.out _ f);rw[V6,S5]at this;exact this
 have c3:Hid (∀W,Bw w W->Ca 57 #[(E1 b L M N O P Q),.string (v.extract 0 j),.string (s.extract i s.size)] W (Rt (Sv (A9 b (v.data.toList.take j) (s.data.toList.drop i))) W)):=fun W f=>by
  have:=hb (v.extract 0 j) (s.extract i s.size) _ _ W G (by rw[ByteArray.size_extract];omega) (by rw[ByteArray.size_extract];omega) (F.out _ f) (a7.out _ f);rw[S5,V6]at this;exact this
 have c7:=Q6 a (v.data.toList.drop j) (s.data.toList.take i);have c9:=Q6 b (v.data.toList.take j) (s.data.toList.drop i);have d6:(v.data.toList.take j).length<=60:=by rw[List.length_take];omega
 have d7:(v.data.toList.drop j).length<=60:=by rw[List.length_drop,Array.length_toList];show v.size-j<=60;omega
 have d8:(s.data.toList.take i).length<=60:=by rw[List.length_take];omega
 have d9:(s.data.toList.drop i).length<=60:=by rw[List.length_drop,Array.length_toList];show s.size-i<=60;omega
 have c8:((v.data.toList.drop j).length+(s.data.toList.take i).length+2)*gx a<=122*gx a:=Nat.mul_le_mul_right _ (by omega);have d0:((v.data.toList.take j).length+(s.data.toList.drop i).length+2)*gx b<=122*gx b:=Nat.mul_le_mul_right _ (by omega);have e2:¬9223372036854775807<(A9 a (v.data.toList.drop j) (s.data.toList.take i)).length+(A9 b (v.data.toList.take j) (s.data.toList.drop i)).length:=by omega
 clear c7 c9 d6 d7 d8 d9 c8 d0;generalize A9 a (v.data.toList.drop j) (s.data.toList.take i)=ca at *;generalize A9 b (v.data.toList.take j) (s.data.toList.drop i)=cb at *;generalize (v.extract j v.size)=sa at *;generalize (v.extract 0 j)=sb at *;have h0:(0:Int)<=(i:Int):=by omega
 have e1:(i:Int)<=(s.size:Int):=by omega
 clear hv a2 a3 c0 b2 a8 a9 b0 b1 ha hb a0 a1 hN;obtain⟨l,m,n,o,t,u,x,y,z,A,B,C,q,r⟩:=d.out _ Br;go_enter Tryz.func57,Tryz.ntmps57;go_wp2_with fail;generalize (w.alloc (lo 4 p ws y1 y2 y3 g 2))=H at *;refine(HH.out _ k.out).mono ?_;rintro e wh ⟨rfl,T⟩;clear l m n o t u x y z A B C q r;obtain⟨l,m,n,o,t,u,x,y,z,A,B,C,q,r⟩:=d.out wh T;go_wp2_with fail;go_region_held (fun E=>s2 E w.heap.size 4 g a b I J K U V X L M N O P Q) (first|assumption|exact d.out _ T.drew|exact d.out _ c)
  (first
   | (go_at_call_of 51 a.kind;refine(c4.out _ ?_).mono ?_;exact(Bj k.out T).drew;rintro e wa ⟨e4,e5,e6,rfl,b9,hA⟩;have b8:Bw wh wa:=Bj Br.drew b9;have c:Bw H wa:=Bj T b8;have a4:Hid _:=hA;clear hA)
   | (go_at_call_of 51 b.kind;refine(c5.out _ ?_).mono ?_;exact Bj k.out c;rintro e wb ⟨e7,e8,e9,rfl,Z,hB⟩;have c:Bw H wb:=Bj c Z;have a5:Hid _:=hB;clear hB)
   | (go_at_call 88;refine(c1.out _ _ _ _ _ _ _ ?_ (a4.out _ Z) (a5.out _ Br)).mono ?_;exact Bj k.out c;rintro e w2 ⟨rfl,b3⟩;have c:Bw H w2:=Bj c b3))
 all_goals
  have R:=c;clear a4 a5 c b9 b8 Z b3;clear l m n o t u x y z A B C q r;obtain⟨l,m,n,o,t,u,x,y,z,A,B,C,q,r⟩:=d.out w2 R;go_wp2_with fail;go_region_held (fun E=>s2 E w.heap.size 4 g a b I J K U V X L M N O P Q) (first|assumption|exact d.out _ R.drew|exact d.out _ c)
   (first
    | (go_at_call 57;refine(c2.out _ ?_).mono ?_;exact(Bj k.out R).drew;rintro e Y ⟨rfl,b5⟩;have b4:Bw w2 Y:=Bj Br.drew b5;have c:Bw H Y:=Bj R b4))
  all_goals
   have S:=c;clear l m n o t u x y z A B C q r c b4 b5;obtain⟨l,m,n,o,t,u,x,y,z,A,B,C,q,r⟩:=d.out Y S;go_wp2_with fail;go_region_held (fun E=>s2 E w.heap.size 4 g a b I J K U V X L M N O P Q) (first|assumption|exact d.out _ S.drew|exact d.out _ c)
    (first
     | (go_at_call 57;refine(c3.out _ ?_).mono ?_;exact(Bj k.out S).drew;rintro e w4 ⟨rfl,b7⟩;have b6:Bw Y w4:=Bj Br.drew b7;have c:Bw H w4:=Bj S b6))
   all_goals
    have c6:=c;clear l m n o t u x y z A B C q r c b6 b7;go_wp2_with fail;go_ret;refine⟨?_,Bj k.out c6⟩;rw[HE.out,<-Q9];rfl
theorem pQ0 (ha:K9 a)(hb:K9 b)(ka:J1 a)(kb:J1 b)(b4:D8 a)(b5:D7 a)(b6:D7 b)(d1:BdL 120 (eX8 a))(d3:BdL 120 (eX6 a))(d4:BdL 120 (eX6 b)):K9 ⟨5,p,ws,[a,b]⟩:=by
 intro v s e1 e0 w G X hs hG b0;rw[NV]at b0;obtain⟨hv,g,v1,u1,v2,u2,hg,rfl,q,a4,a5⟩:=b0;obtain⟨y1,y2,y3,rfl⟩:=PV.slice _ _ hv;obtain⟨⟨b1,b2,b3,rfl⟩,t1,t2,t3,rfl⟩:=NV.slices _ _ _ a4;obtain⟨⟨c1,c2,c3,rfl⟩,f1,f2,f3,rfl⟩:=NV.slices _ _ _ a5;have d9:=hG g hg;obtain⟨b7,T,Z,n,U⟩:=X1 5 5 rfl p ws y1 y2 y3 hG hg q a4 a5;have f:Hid _:=b7;have d2:Hid _:=N3 b4 n.out T.out;have c9:Hid _:=N3 b5 n.out T.out;have d0:Hid _:=N3 b6 n.out Z.out;have c6:Hid (∀W k l m,Bw w W->PV W (fun j=>G j\/(w.heap.size<=j/\j<W.heap.size)) (eX8 a) (.slice k l m)->Ca 59 #[B4 (eX8 a) (.slice k l m),.string s] W (Rt (.bool (Ls.is (eX8 a) s.data.toList)) W)):=by
  intro W k l m c P;exact Z0 _ d1 (by omega) s (by omega) _ W _ (fun j d=>by
   rcases d with d|d
   ·exact n.out _ c j d
   ·exact d.2) P
 have c4:Hid (∀W k l m,Bw w W->PV W (fun j=>G j\/(w.heap.size<=j/\j<W.heap.size)) (eX6 a) (.slice k l m)->Ca 59 #[B4 (eX6 a) (.slice k l m),.string v] W (Rt (.bool (Ls.is (eX6 a) v.data.toList)) W)):=by
  intro W k l m c P;exact Z0 _ d3 (by omega) v (by omega) _ W _ (fun j d=>by
   rcases d with d|d
   ·exact n.out _ c j d
   ·exact d.2) P
 have c5:Hid (∀W k l m,Bw w W->PV W (fun j=>G j\/(w.heap.size<=j/\j<W.heap.size)) (eX6 b) (.slice k l m)->Ca 59 #[B4 (eX6 b) (.slice k l m),.string v] W (Rt (.bool (Ls.is (eX6 b) v.data.toList)) W)):=by
  intro W k l m c P;exact Z0 _ d4 (by omega) v (by omega) _ W _ (fun j d=>by
   rcases d with d|d
   ·exact n.out _ c j d
   ·exact d.2) P
 have o:Hid (A9 ⟨5,p,ws,[a,b]⟩ v.data.toList s.data.toList=if Ls.is (eX8 a) s.data.toList=true then (if Ls.is (eX6 a) v.data.toList=true then A9 a v.data.toList s.data.toList else A8 b v.data.toList) else (if Ls.is (eX6 b) v.data.toList=true then A9 b v.data.toList s.data.toList else A8 a v.data.toList)):=by show _=_;simp[A9]
 generalize hr:A9 ⟨5,p,ws,[a,b]⟩ v.data.toList s.data.toList=r at *;have c7:Hid (∀W,Bw w W->Ca 57 #[(E1 a b1 b2 b3 t1 t2 t3),.string v,.string s] W (Rt (Sv (A9 a v.data.toList s.data.toList)) W)):=fun W c=>ha v s _ _ W G X hs (n.out _ c) (T.out _ c);have c8:Hid (∀W,Bw w W->Ca 57 #[(E1 b c1 c2 c3 f1 f2 f3),.string v,.string s] W (Rt (Sv (A9 b v.data.toList s.data.toList)) W)):=fun W c=>hb v s _ _ W G X hs (n.out _ c) (Z.out _ c);have b9:Hid (∀W,Bw w W->Ca 56 #[(E1 a b1 b2 b3 t1 t2 t3),.string v] W (Rt (Sv (A8 a v.data.toList)) W)):=fun W c=>ka v _ _ W G X (n.out _ c) (T.out _ c);have c0:Hid (∀W,Bw w W->Ca 56 #[(E1 b c1 c2 c3 f1 f2 f3),.string v] W (Rt (Sv (A8 b v.data.toList)) W)):=fun W c=>kb v _ _ W G X (n.out _ c) (Z.out _ c);generalize Ls.is (eX8 a) s.data.toList=d8 at *;have q0:Ce w g 0 (Iv a.kind):=q.cell 0;have q1:Ce w g 1 (Iv (eX5 a.p).kind):=q.cell 1;have q2:Ce w g 2 (.string ⟨(eX5 a.p).signs.toArray⟩):=q.cell 2;have q3:Ce w g 3 (.slice b1 b2 b3):=q.cell 3;have q4:Ce w g 4 (Sv a.w):=q.cell 4;have q5:Ce w g 5 (.slice t1 t2 t3):=q.cell 5;clear hv a4 a5 q b7 b4 b5 b6 ha hb ka kb hr;obtain⟨y,z,A,B,F,H,I,J,K,L,M,N,C,E⟩:=U.out _ Br;go_enter Tryz.func57,Tryz.ntmps57;go_wp2_with fail;generalize (w.alloc (lo 5 p ws y1 y2 y3 g 2))=W0 at *;refine(d2.out W0 f.out).mono ?_;rintro e wa ⟨d5,d6,d7,rfl,a1,hA⟩;have a9:Hid (∀h,Bw wa h->PV h (fun j=>G j\/(w.heap.size<=j/\j<h.heap.size)) (eX8 a) (.slice d5 d6 d7)):=hA;clear hA q0 q1 q2 q3 q4 q5 y z A B F H I J K L M N C E;go_wp2_with fail;refine(c6.out wa _ _ _ (Bj f.out a1) (a9.out _ Br)).mono ?_;rintro e Y ⟨rfl,b8⟩;have a3:Bw W0 Y:=Bj a1 b8
 all_goals
  obtain⟨y,z,A,B,F,H,I,J,K,L,M,N,C,E⟩:=U.out Y a3;have V:=a3;clear a9 a3 a1 b8;cases d8 with
  | true=>
   go_wp2_with fail;refine(c9.out Y (Bj f.out V)).mono ?_;rintro e S ⟨a6,a7,a8,rfl,a2,Q⟩;have O:Hid (∀h,Bw S h->PV h (fun j=>G j\/(w.heap.size<=j/\j<h.heap.size)) (eX6 a) (.slice a6 a7 a8)):=Q;have R:=Bj V a2;clear Q y z A B F H I J K L M N C E;go_wp2_with fail;refine(c4.out S _ _ _ (Bj f.out R) (O.out _ Br)).mono ?_;rintro e x ⟨rfl,a0⟩;have i:=Bj R a0;obtain⟨y,z,A,B,F,H,I,J,K,L,M,N,C,E⟩:=U.out x i;clear O;generalize Ls.is (eX6 a) v.data.toList=zz at *;cases zz with
   | true=>
    have t:Hid (r=A9 a v.data.toList s.data.toList):=by rw[o.out];rfl
    clear o;go_wp2_with fail;refine(c7.out x (Bj f.out i)).mono ?_;rintro e w4 ⟨rfl,u⟩;go_wp2_with fail;go_ret;exact⟨by rw[t.out];rfl,Bj f.out (Bj i u)⟩
   | false=>
    have t:Hid (r=A8 b v.data.toList):=by rw[o.out];rfl
    clear o;go_wp2_with fail;refine(c0.out x (Bj f.out i)).mono ?_;rintro e w4 ⟨rfl,u⟩;go_wp2_with fail;go_ret;exact⟨by rw[t.out];rfl,Bj f.out (Bj i u)⟩
  | false=>
   go_wp2_with fail;refine(d0.out Y (Bj f.out V)).mono ?_;rintro e S ⟨a6,a7,a8,rfl,a2,Q⟩;have O:Hid (∀h,Bw S h->PV h (fun j=>G j\/(w.heap.size<=j/\j<h.heap.size)) (eX6 b) (.slice a6 a7 a8)):=Q;have R:=Bj V a2;clear Q y z A B F H I J K L M N C E;go_wp2_with fail;refine(c5.out S _ _ _ (Bj f.out R) (O.out _ Br)).mono ?_;rintro e x ⟨rfl,a0⟩;have i:=Bj R a0;obtain⟨y,z,A,B,F,H,I,J,K,L,M,N,C,E⟩:=U.out x i;clear O;generalize Ls.is (eX6 b) v.data.toList=zz at *;cases zz with
   | true=>
    have t:Hid (r=A9 b v.data.toList s.data.toList):=by rw[o.out];rfl
    clear o;go_wp2_with fail;refine(c8.out x (Bj f.out i)).mono ?_;rintro e w4 ⟨rfl,u⟩;go_wp2_with fail;go_ret;exact⟨by rw[t.out];rfl,Bj f.out (Bj i u)⟩
   | false=>
    have t:Hid (r=A8 a v.data.toList):=by rw[o.out];rfl
    clear o;go_wp2_with fail;refine(b9.out x (Bj f.out i)).mono ?_;rintro e w4 ⟨rfl,u⟩;go_wp2_with fail;go_ret;exact⟨by rw[t.out];rfl,Bj f.out (Bj i u)⟩
theorem cQd {w i:World}{c e f n:Nat}{g d:Nat}{j:List Value}(h:w.ownsRow c e f (Sl g n d) n j)(p:Bw w i):i.ownsRow c e f (Sl g n d) n j:=by
 refine⟨h.1,?_⟩;rcases h.2 with⟨e,r⟩|⟨a,k,l,e,m,b,o⟩
 ·exact .inl ⟨e,r⟩
 ·have q:a<w.heap.size:=by
   rcases Nat.lt_or_ge a w.heap.size with h|h
   ·exact h
   ·rw[Array.getElem?_eq_none h]at b;cases b
  exact .inr ⟨a,k,l,e,m,by rw[p.block _ q];exact b,o⟩
theorem fQt (l:List (Lu)):l.length<=(l.map fun x=>x.length+1).sum:=by
 induction l with
 | nil=>simp
 | cons x l a=>simp only[List.length_cons,List.map_cons,List.sum_cons];omega
theorem qQy (ha:K9 a)(ka:J1 a)(ga:K0 a)(d8:D8 a)(d9:D7 a)(d1:BdL 120 (eX8 a))(d3:BdL 120 (eX6 a))(h7:gx a<=1099511627776)(h4:v.size<=60)(hs:s.size<=60)(hG:Old w G)(d7:NV w G ⟨6,p,ws,[a]⟩ y x) :
  Calls Tryz.prog 91 #[F0 ⟨6,p,ws,[a]⟩ y x,.string v,.string s] w fun e c=>e=.returned (.string ⟨(A9 ⟨6,p,ws,[a]⟩ v.data.toList s.data.toList).toArray⟩)/\Bw w c:=by
 rw[NV]at d7;obtain⟨hv,g,v1,u1,hg,rfl,N,c7⟩:=d7;obtain⟨y1,y2,y3,rfl⟩:=PV.slice _ _ hv;obtain⟨⟨J,K,L,rfl⟩,O,P,Q,rfl⟩:=NV.slices _ _ _ c7;have h6:=hG g hg;obtain⟨e1,a4,S,a0⟩:=cQe 6 6 rfl p ws y1 y2 y3 hG hg N c7;have R:Hid _:=e1;have g1:Hid _:=aQz d8 S.out a4.out;have g0:Hid _:=aQz d9 S.out a4.out;have f4:Hid (∀W Y Z x3,Below w.heap.size w W->PV W (fun j=>G j\/(w.heap.size<=j/\j<W.heap.size)) (eX8 a) (.slice Y Z x3)->Calls Tryz.prog 89 #[.string s,B4 (eX8 a) (.slice Y Z x3)] W fun e c=>∃ev,e=.returned ev/\c.ownsRow W.heap.size 9 1 ev (B9 (eX8 a) s.size s.data.toList).length ((B9 (eX8 a) s.size s.data.toList).map fun x=>Value.string ⟨x.toArray⟩)/\Below W.heap.size W c):=by
  intro W Y Z x3 h C;exact aQ2 _ d1 (by omega) s (by omega) _ W _ (fun j m=>by
   rcases m with m|m
   ·exact S.out _ h j m
   ·exact m.2) C
 have f5:Hid (∀W Y Z x3,Below w.heap.size w W->PV W (fun j=>G j\/(w.heap.size<=j/\j<W.heap.size)) (eX6 a) (.slice Y Z x3)->Calls Tryz.prog 89 #[.string v,B4 (eX6 a) (.slice Y Z x3)] W fun e c=>∃ev,e=.returned ev/\c.ownsRow W.heap.size 9 1 ev (B9 (eX6 a) v.size v.data.toList).length ((B9 (eX6 a) v.size v.data.toList).map fun x=>Value.string ⟨x.toArray⟩)/\Below W.heap.size W c):=by
  intro W Y Z x3 h C;exact aQ2 _ d3 (by omega) v (by omega) _ W _ (fun j m=>by
   rcases m with m|m
   ·exact S.out _ h j m
   ·exact m.2) C
 have h5:Hid (∀W (x:Lu),x.length<=60->Below w.heap.size w W->Calls Tryz.prog 55 #[(E1 a J K L O P Q),.string ⟨x.toArray⟩] W fun e c=>e=.returned (.string ⟨(A6 a x).toArray⟩)/\Below W.heap.size W c):=fun W x F h=>by
  have:=ga ⟨x.toArray⟩ _ _ W G (by simpa [ByteArray.size] using F) (S.out _ h) (a4.out _ h);simpa using this
 have f3:Hid (∀W (x:Lu),x.length<=60->Below w.heap.size w W->Calls Tryz.prog 56 #[(E1 a J K L O P Q),.string ⟨x.toArray⟩] W fun e c=>e=.returned (.string ⟨(A8 a x).toArray⟩)/\Below W.heap.size W c):=fun W x F h=>by
  have:=ka ⟨x.toArray⟩ _ _ W G (by simpa [ByteArray.size] using F) (S.out _ h) (a4.out _ h);simpa using this
 have f8:Hid (∀W (x a7:Lu),x.length<=60->a7.length<=60->Below w.heap.size w W->Calls Tryz.prog 57 #[(E1 a J K L O P Q),.string ⟨x.toArray⟩,.string ⟨a7.toArray⟩] W fun e c=>e=.returned (.string ⟨(A9 a x a7).toArray⟩)/\Below W.heap.size W c):=fun W x a7 F hz h=>by
  have:=ha ⟨x.toArray⟩ ⟨a7.toArray⟩ _ _ W G (by simpa [ByteArray.size] using F) (by simpa [ByteArray.size] using hz) (S.out _ h) (a4.out _ h);simpa using this
 have HE:Hid (A9 ⟨6,p,ws,[a]⟩ v.data.toList s.data.toList=I4 (A9 a) (A8 a) (B9 (eX6 a) v.size v.data.toList) (B9 (eX8 a) s.size s.data.toList)):=by show _=_;rw[A9,Array.length_toList,Array.length_toList];rfl
 have f7:Hid (∀x,x∈B9 (eX6 a) v.size v.data.toList->x.length<=60):=fun x F=>by
  have:=z8 (eX6 a) v.size v.data.toList x F;rw[Array.length_toList]at this;exact Nat.le_trans this h4
 have d6:Hid (((B9 (eX6 a) v.size v.data.toList).map fun x=>x.length+1).sum<=120):=by
  have:=S3 (eX6 a) v.size v.data.toList (by rw[Array.length_toList];exact Nat.le_refl _);rw[Array.length_toList]at this;have h2:v.data.size=v.size:=rfl;show _<=_;omega
 have f6:Hid (∀x,x∈B9 (eX8 a) s.size s.data.toList->x.length<=60):=fun x F=>by
  have:=z8 (eX8 a) s.size s.data.toList x F;rw[Array.length_toList]at this;exact Nat.le_trans this hs
 have d5:Hid (((B9 (eX8 a) s.size s.data.toList).map fun x=>x.length+1).sum<=120):=by
  have:=S3 (eX8 a) s.size s.data.toList (by rw[Array.length_toList];exact Nat.le_refl _);rw[Array.length_toList]at this;have h2:s.data.size=s.size:=rfl;show _<=_;omega
 have q0:w.cell? ⟨g,0,none⟩=some (.int .i64 a.kind):=N.cell 0;have q1:w.cell? ⟨g,1,none⟩=some (.int .i64 (eX5 a.p).kind):=N.cell 1;have q2:w.cell? ⟨g,2,none⟩=some (.string ⟨(eX5 a.p).signs.toArray⟩):=N.cell 2;have q3:w.cell? ⟨g,3,none⟩=some (.slice J K L):=N.cell 3;have q4:w.cell? ⟨g,4,none⟩=some (.string ⟨a.w.toArray⟩):=N.cell 4;have q5:w.cell? ⟨g,5,none⟩=some (.slice O P Q):=N.cell 5;generalize A9 ⟨6,p,ws,[a]⟩ v.data.toList s.data.toList=a3 at *;generalize B9 (eX6 a) v.size v.data.toList=f at *;generalize B9 (eX8 a) s.size s.data.toList=b at *;clear hv c7 N e1 d8 d9 ha ka ga;obtain⟨o,q,r,t,u,z,A,B⟩:=a0.out _ (Below.refl _ _);go_enter Tryz.func91,Tryz.ntmps91;go_wp2_with fail;generalize w.alloc (lo 6 p ws y1 y2 y3 g 1)=l at *;refine(g0.out l R.out).mono ?_;rintro e wa ⟨i1,i2,i3,rfl,e4,hA⟩;have hC:=f5.out wa _ _ _ (Bj R.out e4) hA;clear hA q0 q1 q2 q3 q4 q5 o q r t u z A B;go_wp2_with fail;refine hC.mono ?_;clear hC;rintro e n ⟨vm,rfl,E,g3⟩;have b1:Below l.heap.size l n:=Bj e4 g3;have h9:f.length<=120:=Nat.le_trans (fQt f) d6.out;have i0:b.length<=120:=Nat.le_trans (fQt b) d5.out;obtain⟨m1,m2,m3,rfl⟩:=Z3 E;have d0:Hid (n.ownsRow wa.heap.size 9 1 (.slice m1 m2 m3) f.length (f.map fun x=>Value.string ⟨x.toArray⟩)):=E;have h1:m2=f.length:=by
  rcases E.2 with⟨e,hn⟩|⟨gg,b9,c0,e,_⟩
  ·injection e with T e2;omega
  ·injection e with T e2
 subst h1;clear E;obtain⟨o,q,r,t,u,z,A,B⟩:=a0.out n b1;go_wp2_with fail;refine(g1.out n (Bj R.out b1)).mono ?_;rintro e wb ⟨i4,i5,i6,rfl,e5,hB⟩;have hC:=f4.out wb _ _ _ (Bj R.out (Bj b1 e5)) hB;clear hB o q r t u z A B;go_wp2_with fail;refine hC.mono ?_;clear hC;rintro e d ⟨vn,rfl,E,g4⟩;have a6:Below n.heap.size n d:=Bj e5 g4;have e7:Below l.heap.size l d:=Bj b1 a6;obtain⟨n1,n2,n3,rfl⟩:=Z3 E;have d2:Hid (d.ownsRow wb.heap.size 9 1 (.slice n1 n2 n3) b.length (b.map fun x=>Value.string ⟨x.toArray⟩)):=E;have h3:n2=b.length:=by
  rcases E.2 with⟨e,hn⟩|⟨gg,b9,c0,e,_⟩
  ·injection e with T e2;omega
  ·injection e with T e2
 subst h3;clear E;go_wp2_with (at_make;refine wpList_make_full d rfl _ _ _ rfl d.heap.size 4 _ _ 1 rfl rfl rfl rfl .i64 .i64 _ _ b.length rfl rfl rfl rfl ?_ ?_ (Nat.le_refl _) ?_;(first|(show 1*b.length<=_;omega)|(simp;omega));(simp[maxLen];omega);intro wu f1 e9)
 have e6:Below d.heap.size d wu:=(Below.refl _ _).grown e9 (Nat.le_refl _) (by simp);have d4:Hid (a3.length<=240*gx a):=by
  show _<=_;rw[HE.out];have C:=dQ5 (Q6 a) (K1 a) f b;have h2:((f.map fun x=>x.length+1).sum+(b.map fun x=>x.length+1).sum)*gx a<=240*gx a:=Nat.mul_le_mul_right _ (by have:=d6.out;have:=d5.out;omega);omega
 go_loopw [7,11] (fun ov c8 wr=>∃(k:Nat) (i:Lu) (X:List Value),k<=f.length/\c8=.int .i64 k/\ov=.string ⟨i.toArray⟩/\a3=i++I4 (A9 a) (A8 a) (f.drop k) (b.drop k)/\Below d.heap.size d wr/\wr.ownsRow d.heap.size 4 1 (Value.slice (some ⟨d.heap.size,0,none⟩) b.length b.length) b.length X) (fun _ c8 _=>f.length-(intOf c8).toNat)
 case atStart=>exact⟨0,[],_,Nat.zero_le _,rfl,rfl,by rw[HE.out];simp,e6,f1⟩
 case round=>
  obtain⟨k,i,X,hk,rfl,rfl,e0,b0,f0⟩:=hrel;have b6:Hid (a3=i++I4 (A9 a) (A8 a) (f.drop k) (b.drop k)):=e0;have a1:Hid (wr.ownsRow d.heap.size 4 1 (Value.slice (some ⟨d.heap.size,0,none⟩) b.length b.length) b.length X):=f0;have b2:Below l.heap.size l wr:=Bj e7 b0;clear e0 f0 f1 e9 e6
  by_cases c6:k<f.length
  ·have h0:(k:Int)<(f.length:Int):=by omega
   have h8:(0:Int)<=(k:Int):=by omega
   obtain⟨M,rfl⟩:∃M,m1=some ⟨M,0,none⟩:=by
    rcases d0.out.2 with⟨_,hn⟩|⟨gg,b9,c0,e,_⟩
    ·omega
    ·injection e with T e2 e3
     exact⟨gg,T⟩
   have b4:n.cell? ⟨M,k,none⟩=some (.string ⟨f[k].toArray⟩):=by
    have:=d0.out.cellAt k (by omega);rw[this];simp[c6]
   have g7:M<n.heap.size:=World.block_lt_of_cell? n _ b4;have a8:Hid (∀W:World,Below n.heap.size n W->W.cell? ⟨M,k,none⟩=some (.string ⟨f[k].toArray⟩)):=fun W h=>(h.cell (p:=⟨M,k,none⟩) g7).trans b4;have b3:f.drop k=f[k]::f.drop (k+1):=List.drop_eq_getElem_cons c6;have b5:f[k].length<=60:=f7.out _ (List.getElem_mem c6);obtain⟨o,q,r,t,u,z,A,B⟩:=a0.out wr b2;have em:=a8.out wr (Bj a6 b0)
   by_cases c1:k<b.length
   ·have g2:(k:Int)<(b.length:Int):=by omega
    obtain⟨U,rfl⟩:∃U,n1=some ⟨U,0,none⟩:=by
     rcases d2.out.2 with⟨_,hn⟩|⟨gg,b9,c0,e,_⟩
     ·omega
     ·injection e with T e2 e3
      exact⟨gg,T⟩
    have c5:d.cell? ⟨U,k,none⟩=some (.string ⟨b[k].toArray⟩):=by
     have:=d2.out.cellAt k (by omega);rw[this];simp[c1]
    have g8:U<d.heap.size:=World.block_lt_of_cell? d _ c5;have c9:Hid (∀W:World,Below d.heap.size d W->W.cell? ⟨U,k,none⟩=some (.string ⟨b[k].toArray⟩)):=fun W h=>(h.cell (p:=⟨U,k,none⟩) g8).trans c5;have a5:b.drop k=b[k]::b.drop (k+1):=List.drop_eq_getElem_cons c1;have f2:b[k].length<=60:=f6.out _ (List.getElem_mem c1);have HT:Hid (a3=(i++A9 a f[k] b[k])++I4 (A9 a) (A8 a) (f.drop (k+1)) (b.drop (k+1))):=by
     show _=_;rw[b6.out,b3,a5,I4,List.append_assoc]
    have g9:¬9223372036854775807<i.length+(A9 a f[k] b[k]).length:=by
     have C:=d4.out;rw[HT.out,List.length_append,List.length_append]at C;omega
    have b7:Hid (∀W,Below w.heap.size w W->Calls Tryz.prog 57 #[(E1 a J K L O P Q),.string ⟨f[k].toArray⟩,.string ⟨b[k].toArray⟩] W fun e c=>e=.returned (.string ⟨(A9 a f[k] b[k]).toArray⟩)/\Below W.heap.size W c):=fun W h=>f8.out W f[k] b[k] b5 f2 h;have g6:wr.frozen? ⟨d.heap.size,k,none⟩=false:=a1.out.frozenAt k;obtain⟨uk,g5⟩:∃uk,wr.cell? ⟨d.heap.size,k,none⟩=some uk:=by
     have C:=a1.out.1;have h2:=a1.out.cellAt k (by omega);exact⟨X[k]'(by omega),by rw[h2];exact List.getElem?_eq_getElem (by omega)⟩
    have f9:Hid ((wr.setCell ⟨d.heap.size,k,none⟩ (.bool true)).ownsRow d.heap.size 4 1 (Value.slice (some ⟨d.heap.size,0,none⟩) b.length b.length) b.length (X.set k (.bool true))):=(a1.out.stored k _).1;have a9:Below d.heap.size d (wr.setCell ⟨d.heap.size,k,none⟩ (.bool true)):=b0.setCell (Nat.le_refl _) _;have c3:Below l.heap.size l (wr.setCell ⟨d.heap.size,k,none⟩ (.bool true)):=Bj e7 a9;clear b3 a5 b5 f2 b4 c5;generalize f[k]=I at *;generalize b[k]=zk at *;go_wp2_with fail;generalize wr.setCell ⟨d.heap.size,k,none⟩ (.bool true)=W1 at *;clear o q r t u z A B em g5 g6 a1;obtain⟨o,q,r,t,u,z,A,B⟩:=a0.out W1 c3;have em:=a8.out W1 (Bj a6 a9);have en:=c9.out W1 a9;go_region_held (fun c=>c.cell? ⟨w.heap.size,0,none⟩=some (.int .i64 6)/\c.cell? ⟨w.heap.size,5,none⟩=some (.slice (some ⟨g,0,none⟩) 1 1)/\c.cell? ⟨g,0,none⟩=some (.int .i64 a.kind)/\c.cell? ⟨g,1,none⟩=some (.int .i64 (eX5 a.p).kind)/\c.cell? ⟨g,2,none⟩=some (.string ⟨(eX5 a.p).signs.toArray⟩)/\c.cell? ⟨g,3,none⟩=some (.slice J K L)/\c.cell? ⟨g,4,none⟩=some (.string ⟨a.w.toArray⟩)/\c.cell? ⟨g,5,none⟩=some (.slice O P Q)/\c.cell? ⟨M,k,none⟩=some (.string ⟨I.toArray⟩)/\c.cell? ⟨U,k,none⟩=some (.string ⟨zk.toArray⟩)) (first|assumption|(refine⟨o,q,r,t,u,z,A,B,em,en⟩)|(go_keep;done)|exact q6 (a0.out _ c4) ⟨a8.out _ (Bj a6 a2),c9.out _ a2⟩)
     (first
      | (go_at_call 57;refine(b7.out _ ?_).mono ?_;exact(Bj R.out c3).drew;rintro e H ⟨rfl,c2⟩;have V:Below W1.heap.size W1 H:=Bj (Below.refl _ _).drew c2;have c4:Below l.heap.size l H:=Bj c3 V;have a2:Below d.heap.size d H:=Bj a9 V))
    all_goals
     clear o q r t u z A B em en;have b8:Hid (H.ownsRow d.heap.size 4 1 (Value.slice (some ⟨d.heap.size,0,none⟩) b.length b.length) b.length (X.set k (.bool true))):=cQd f9.out V;have HN:Hid ((⟨i.toArray⟩:By)++⟨(A9 a I zk).toArray⟩=⟨(i++A9 a I zk).toArray⟩):=by
      show _=_;rw[Q9]
     go_wp2_with fail;go_roundw
     case rel=>exact⟨k+1,i++A9 a I zk,_,by omega,by go_num,by rw[<-HN.out],HT.out,a2,b8.out⟩
     case measure=>simp[intOf];omega
   ·have g2:¬(k:Int)<(b.length:Int):=by omega
    have a5:b.drop k=[]:=List.drop_of_length_le (by omega);have e8:b.drop (k+1)=[]:=List.drop_of_length_le (by omega);have HT:Hid (a3=(i++A8 a f[k])++I4 (A9 a) (A8 a) (f.drop (k+1)) (b.drop (k+1))):=by
     show _=_;rw[b6.out,b3,a5,e8,I4,List.append_assoc]
    have g9:¬9223372036854775807<i.length+(A8 a f[k]).length:=by
     have C:=d4.out;rw[HT.out,List.length_append,List.length_append]at C;omega
    have b7:Hid (∀W,Below w.heap.size w W->Calls Tryz.prog 56 #[(E1 a J K L O P Q),.string ⟨f[k].toArray⟩] W fun e c=>e=.returned (.string ⟨(A8 a f[k]).toArray⟩)/\Below W.heap.size W c):=fun W h=>f3.out W f[k] b5 h;clear b3 a5 e8 b5 b4;generalize f[k]=I at *;go_wp2_with fail;go_region_held (fun c=>c.cell? ⟨w.heap.size,0,none⟩=some (.int .i64 6)/\c.cell? ⟨w.heap.size,5,none⟩=some (.slice (some ⟨g,0,none⟩) 1 1)/\c.cell? ⟨g,0,none⟩=some (.int .i64 a.kind)/\c.cell? ⟨g,1,none⟩=some (.int .i64 (eX5 a.p).kind)/\c.cell? ⟨g,2,none⟩=some (.string ⟨(eX5 a.p).signs.toArray⟩)/\c.cell? ⟨g,3,none⟩=some (.slice J K L)/\c.cell? ⟨g,4,none⟩=some (.string ⟨a.w.toArray⟩)/\c.cell? ⟨g,5,none⟩=some (.slice O P Q)/\c.cell? ⟨M,k,none⟩=some (.string ⟨I.toArray⟩)) (first|assumption|(refine⟨o,q,r,t,u,z,A,B,em⟩)|(go_keep;done)|exact q6 (a0.out _ c4) (a8.out _ (Bj a6 a2)))
     (first
      | (go_at_call 56;refine(b7.out _ ?_).mono ?_;exact(Bj R.out b2).drew;rintro e H ⟨rfl,c2⟩;have V:Below wr.heap.size wr H:=Bj (Below.refl _ _).drew c2;have c4:Below l.heap.size l H:=Bj b2 V;have a2:Below d.heap.size d H:=Bj b0 V))
    all_goals
     clear o q r t u z A B em;have b8:Hid (H.ownsRow d.heap.size 4 1 (Value.slice (some ⟨d.heap.size,0,none⟩) b.length b.length) b.length X):=cQd a1.out V;have HN:Hid ((⟨i.toArray⟩:By)++⟨(A8 a I).toArray⟩=⟨(i++A8 a I).toArray⟩):=by
      show _=_;rw[Q9]
     go_wp2_with fail;go_roundw
     case rel=>exact⟨k+1,i++A8 a I,_,by omega,by go_num,by rw[<-HN.out],HT.out,a2,b8.out⟩
     case measure=>simp[intOf];omega
  ·have h0:¬(k:Int)<(f.length:Int):=by omega
   have HR:Hid (a3=i):=by
    show _=_;rw[b6.out,List.drop_of_length_le (by omega),I4,List.append_nil]
   go_wp2_with fail;go_ret;exact⟨by rw[HR.out];rfl,Bj R.out b2⟩
theorem qQz (ha:K9 a)(ka:J1 a)(ga:K0 a)(g3:D8 a)(g4:D7 a)(d1:BdL 120 (eX8 a))(d3:BdL 120 (eX6 a))(l2:gx a<=1099511627776)(l0:v.size<=60)(hs:s.size<=60)(hG:Old w G)(b5:NV w G ⟨7,p,ws,[a]⟩ y x) :
  Calls Tryz.prog 91 #[F0 ⟨7,p,ws,[a]⟩ y x,.string v,.string s] w fun e c=>e=.returned (.string ⟨(A9 ⟨7,p,ws,[a]⟩ v.data.toList s.data.toList).toArray⟩)/\Bw w c:=by
 rw[NV]at b5;obtain⟨hv,g,v1,u1,hg,rfl,a4,f2⟩:=b5;obtain⟨y1,y2,y3,rfl⟩:=PV.slice _ _ hv;obtain⟨⟨L,M,N,rfl⟩,R,S,T,rfl⟩:=NV.slices _ _ _ f2;have l1:=hG g hg;obtain⟨g6,b3,HO,X⟩:=cQe 7 7 rfl p ws y1 y2 y3 hG hg a4 f2;have a2:Hid _:=g6;have j3:Hid _:=aQz g3 HO.out b3.out;have j2:Hid _:=aQz g4 HO.out b3.out;have i5:Hid (∀W x1 x2 x3,Below w.heap.size w W->PV W (fun j=>G j\/(w.heap.size<=j/\j<W.heap.size)) (eX8 a) (.slice x1 x2 x3)->Calls Tryz.prog 89 #[.string s,B4 (eX8 a) (.slice x1 x2 x3)] W fun e c=>∃ev,e=.returned ev/\c.ownsRow W.heap.size 9 1 ev (B9 (eX8 a) s.size s.data.toList).length ((B9 (eX8 a) s.size s.data.toList).map fun x=>Value.string ⟨x.toArray⟩)/\Below W.heap.size W c):=by
  intro W x1 x2 x3 l O;exact aQ2 _ d1 (by omega) s (by omega) _ W _ (fun j K=>by
   rcases K with K|K
   ·exact HO.out _ l j K
   ·exact K.2) O
 have i6:Hid (∀W x1 x2 x3,Below w.heap.size w W->PV W (fun j=>G j\/(w.heap.size<=j/\j<W.heap.size)) (eX6 a) (.slice x1 x2 x3)->Calls Tryz.prog 89 #[.string v,B4 (eX6 a) (.slice x1 x2 x3)] W fun e c=>∃ev,e=.returned ev/\c.ownsRow W.heap.size 9 1 ev (B9 (eX6 a) v.size v.data.toList).length ((B9 (eX6 a) v.size v.data.toList).map fun x=>Value.string ⟨x.toArray⟩)/\Below W.heap.size W c):=by
  intro W x1 x2 x3 l O;exact aQ2 _ d3 (by omega) v (by omega) _ W _ (fun j K=>by
   rcases K with K|K
   ·exact HO.out _ l j K
   ·exact K.2) O
 have i2:Hid (∀W (x:Lu),x.length<=60->Below w.heap.size w W->Calls Tryz.prog 55 #[(E1 a L M N R S T),.string ⟨x.toArray⟩] W fun e c=>e=.returned (.string ⟨(A6 a x).toArray⟩)/\Below W.heap.size W c):=fun W x n l=>by
  have:=ga ⟨x.toArray⟩ _ _ W G (by simpa [ByteArray.size] using n) (HO.out _ l) (b3.out _ l);simpa using this
 have h9:Hid (∀W (x:Lu),x.length<=60->Below w.heap.size w W->Calls Tryz.prog 56 #[(E1 a L M N R S T),.string ⟨x.toArray⟩] W fun e c=>e=.returned (.string ⟨(A8 a x).toArray⟩)/\Below W.heap.size W c):=fun W x n l=>by
  have:=ka ⟨x.toArray⟩ _ _ W G (by simpa [ByteArray.size] using n) (HO.out _ l) (b3.out _ l);simpa using this
 have i9:Hid (∀W (x z:Lu),x.length<=60->z.length<=60->Below w.heap.size w W->Calls Tryz.prog 57 #[(E1 a L M N R S T),.string ⟨x.toArray⟩,.string ⟨z.toArray⟩] W fun e c=>e=.returned (.string ⟨(A9 a x z).toArray⟩)/\Below W.heap.size W c):=fun W x z n hz l=>by
  have:=ha ⟨x.toArray⟩ ⟨z.toArray⟩ _ _ W G (by simpa [ByteArray.size] using n) (by simpa [ByteArray.size] using hz) (HO.out _ l) (b3.out _ l);simpa using this
 have HE:Hid (A9 ⟨7,p,ws,[a]⟩ v.data.toList s.data.toList=E9 (A9 a) (A8 a) (A6 a) (B9 (eX6 a) v.size v.data.toList) (B9 (eX8 a) s.size s.data.toList)):=by show _=_;rw[A9,Array.length_toList,Array.length_toList];rfl
 have i7:Hid (∀x,x∈B9 (eX6 a) v.size v.data.toList->x.length<=60):=fun x n=>by
  have:=z8 (eX6 a) v.size v.data.toList x n;rw[Array.length_toList]at this;exact Nat.le_trans this l0
 have g2:Hid (((B9 (eX6 a) v.size v.data.toList).map fun x=>x.length+1).sum<=120):=by
  have:=S3 (eX6 a) v.size v.data.toList (by rw[Array.length_toList];exact Nat.le_refl _);rw[Array.length_toList]at this;have h2:v.data.size=v.size:=rfl;show _<=_;omega
 have f9:Hid (∀x,x∈B9 (eX8 a) s.size s.data.toList->x.length<=60):=fun x n=>by
  have:=z8 (eX8 a) s.size s.data.toList x n;rw[Array.length_toList]at this;exact Nat.le_trans this hs
 have g1:Hid (((B9 (eX8 a) s.size s.data.toList).map fun x=>x.length+1).sum<=120):=by
  have:=S3 (eX8 a) s.size s.data.toList (by rw[Array.length_toList];exact Nat.le_refl _);rw[Array.length_toList]at this;have h2:s.data.size=s.size:=rfl;show _<=_;omega
 have q0:w.cell? ⟨g,0,none⟩=some (.int .i64 a.kind):=a4.cell 0;have q1:w.cell? ⟨g,1,none⟩=some (.int .i64 (eX5 a.p).kind):=a4.cell 1;have q2:w.cell? ⟨g,2,none⟩=some (.string ⟨(eX5 a.p).signs.toArray⟩):=a4.cell 2;have q3:w.cell? ⟨g,3,none⟩=some (.slice L M N):=a4.cell 3;have q4:w.cell? ⟨g,4,none⟩=some (.string ⟨a.w.toArray⟩):=a4.cell 4;have q5:w.cell? ⟨g,5,none⟩=some (.slice R S T):=a4.cell 5;generalize A9 ⟨7,p,ws,[a]⟩ v.data.toList s.data.toList=a9 at *;generalize B9 (eX6 a) v.size v.data.toList=h at *;generalize B9 (eX8 a) s.size s.data.toList=b at *;clear hv f2 a4 g6 g3 g4 ha ka ga;obtain⟨q,r,t,u,A,B,C,E⟩:=X.out _ (Below.refl _ _);go_enter Tryz.func91,Tryz.ntmps91;go_wp2_with fail;generalize w.alloc (lo 7 p ws y1 y2 y3 g 1)=H at *;refine(j2.out H a2.out).mono ?_;rintro e wa ⟨l7,l8,l9,rfl,g7,hA⟩;have hC:=i6.out wa _ _ _ (Bj a2.out g7) hA;clear hA q0 q1 q2 q3 q4 q5 q r t u A B C E;go_wp2_with fail;refine hC.mono ?_;clear hC;rintro e U ⟨vm,rfl,a0,k0⟩;have c8:Below H.heap.size H U:=Bj g7 k0;have l4:h.length<=120:=Nat.le_trans (fQt h) g2.out;have l5:b.length<=120:=Nat.le_trans (fQt b) g1.out;obtain⟨m1,m2,m3,rfl⟩:=Z3 a0;have f8:Hid (U.ownsRow wa.heap.size 9 1 (.slice m1 m2 m3) h.length (h.map fun x=>Value.string ⟨x.toArray⟩)):=a0;have k8:m2=h.length:=by
  rcases a0.2 with⟨e,hn⟩|⟨gg,c3,c4,e,_⟩
  ·injection e with Y e2;omega
  ·injection e with Y e2
 subst k8;clear a0;obtain⟨q,r,t,u,A,B,C,E⟩:=X.out U c8;go_wp2_with fail;refine(j3.out U (Bj a2.out c8)).mono ?_;rintro e wb ⟨m0,m4,m5,rfl,g8,hB⟩;have hC:=i5.out wb _ _ _ (Bj a2.out (Bj c8 g8)) hB;clear hB q r t u A B C E;go_wp2_with fail;refine hC.mono ?_;clear hC;rintro e d ⟨vn,rfl,a0,k1⟩;have b0:Below U.heap.size U d:=Bj g8 k1;have h1:Below H.heap.size H d:=Bj c8 b0;obtain⟨n1,n2,n3,rfl⟩:=Z3 a0;have c1:Hid (d.ownsRow wb.heap.size 9 1 (.slice n1 n2 n3) b.length (b.map fun x=>Value.string ⟨x.toArray⟩)):=a0;have k9:n2=b.length:=by
  rcases a0.2 with⟨e,hn⟩|⟨gg,c3,c4,e,_⟩
  ·injection e with Y e2;omega
  ·injection e with Y e2
 subst k9;clear a0;go_wp2_with (at_make;refine wpList_make_full d rfl _ _ _ rfl d.heap.size 4 _ _ 1 rfl rfl rfl rfl .i64 .i64 _ _ b.length rfl rfl rfl rfl ?_ ?_ (Nat.le_refl _) ?_;(first|(show 1*b.length<=_;omega)|(simp;omega));(simp[maxLen];omega);intro wu f5 h8)
 have h0:Below d.heap.size d wu:=(Below.refl _ _).grown h8 (Nat.le_refl _) (by simp);have g0:Hid (a9.length<=240*gx a):=by
  show _<=_;rw[HE.out];have O:=dQ6 (A6 a) (Q6 a) (K1 a) h b;have h2:((h.map fun x=>x.length+1).sum+(b.map fun x=>x.length+1).sum)*gx a<=240*gx a:=Nat.mul_le_mul_right _ (by have:=g2.out;have:=g1.out;omega);omega
 have h6:(madeCells (Value.bool false).cells (b.length*1)).toList=(List.replicate b.length false).map Value.bool:=by
  show (madeCells #[Value.bool false] (b.length*1)).toList=_;rw[toList_madeCells_one,List.map_replicate,Nat.mul_one]
 rw[h6]at f5;go_loopw [7,11] (fun ov f7 wr=>∃(k:Nat) (o:Lu) (f:List Bool),k<=h.length/\f7=.int .i64 k/\ov=.string ⟨o.toArray⟩/\a9=o++E9 (A9 a) (A8 a) (A6 a) (h.drop k) (G8 b f)/\Below d.heap.size d wr/\wr.ownsRow d.heap.size 4 1 (Value.slice (some ⟨d.heap.size,0,none⟩) b.length b.length) b.length (f.map Value.bool)) (fun _ f7 _=>h.length-(intOf f7).toNat)
 case atStart=>exact⟨0,[],List.replicate b.length false,Nat.zero_le _,rfl,rfl,by rw[HE.out,mQz];simp,h0,f5⟩
 case round=>
  obtain⟨k,o,f,hk,rfl,rfl,g5,c7,f4⟩:=hrel;obtain⟨J,j4⟩:∃J,J=wr:=⟨wr,rfl⟩;subst j4;have d5:Hid (a9=o++E9 (A9 a) (A8 a) (A6 a) (h.drop k) (G8 b f)):=g5;have d9:Hid (J.ownsRow d.heap.size 4 1 (Value.slice (some ⟨d.heap.size,0,none⟩) b.length b.length) b.length (f.map Value.bool)):=f4;have l6:f.length=b.length:=by have:=f4.1;rw[List.length_map]at this;omega
  have c9:Below H.heap.size H J:=Bj h1 c7;clear g5 f4 f5 h8 h0 h6
  by_cases f1:k<h.length
  ·have k7:(k:Int)<(h.length:Int):=by omega
   have l3:(0:Int)<=(k:Int):=by omega
   obtain⟨gm,rfl⟩:∃gm,m1=some ⟨gm,0,none⟩:=by
    rcases f8.out.2 with⟨_,hn⟩|⟨gg,c3,c4,e,_⟩
    ·omega
    ·injection e with Y e2 e3
     exact⟨gg,Y⟩
   have e8:U.cell? ⟨gm,k,none⟩=some (.string ⟨h[k].toArray⟩):=by
    have:=f8.out.cellAt k (by omega);rw[this];simp[f1]
   have k3:gm<U.heap.size:=World.block_lt_of_cell? U _ e8;have b1:Hid (∀W:World,Below U.heap.size U W->W.cell? ⟨gm,k,none⟩=some (.string ⟨h[k].toArray⟩)):=fun W l=>(l.cell (p:=⟨gm,k,none⟩) k3).trans e8;have h4:h.drop k=h[k]::h.drop (k+1):=List.drop_eq_getElem_cons f1;have f6:h[k].length<=60:=i7.out _ (List.getElem_mem f1);have b9:Hid (a9=o++E9 (A9 a) (A8 a) (A6 a) (h[k]::h.drop (k+1)) (G8 b f)):=by
    show _=_;rw[<-h4];exact d5.out
   have i0:Hid (∀W,Below w.heap.size w W->Calls Tryz.prog 56 #[(E1 a L M N R S T),.string ⟨h[k].toArray⟩] W fun e c=>e=.returned (.string ⟨(A8 a h[k]).toArray⟩)/\Below W.heap.size W c):=fun W l=>h9.out W h[k] f6 l;have j0:Hid (∀W (z:Lu),z.length<=60->Below w.heap.size w W->Calls Tryz.prog 57 #[(E1 a L M N R S T),.string ⟨h[k].toArray⟩,.string ⟨z.toArray⟩] W fun e c=>e=.returned (.string ⟨(A9 a h[k] z).toArray⟩)/\Below W.heap.size W c):=fun W z hz l=>i9.out W h[k] z f6 hz l;have i4:Hid (∀W,Calls Tryz.prog 111 #[.string ⟨h[k].toArray⟩] W fun e c=>e=.returned (.string ⟨(C3 h[k]).toArray⟩)/\c=W):=fun W=>by
    have:=kQ1 ⟨h[k].toArray⟩ W (by simp[ByteArray.size];omega);simpa using this
   obtain⟨q,r,t,u,A,B,C,E⟩:=X.out J c9;have Z:=b1.out J (Bj b0 c7);clear h4 f6 e8 d5;generalize h[k]=m at *;go_upto_block 2 with (go_at_call 111;refine(i4.out _).mono ?_;rintro e F ⟨rfl,Q⟩;have a8:=Q.symm;clear Q;subst a8)
   go_cut [12] (fun iv wx=>∃j:Nat,iv=.int .i64 j/\j<=b.length/\Below J.heap.size J wx/\((∃K:j<b.length,D2 (fun a1=>C3 (A6 a a1)==C3 m) (G8 b f)=some (b[j],G8 b (f.set j true)))\/(j=b.length/\D2 (fun a1=>C3 (A6 a a1)==C3 m) (G8 b f)=none)))
   case first=>
    go_wp2_with fail;go_loopw [12] (fun iv wi=>∃j:Nat,iv=.int .i64 j/\j<=b.length/\Below J.heap.size J wi/\∀i,i<j->∀x,b[i]?=some x->f[i]?=some false->(C3 (A6 a x)==C3 m)=false) (fun iv _=>b.length-(intOf iv).toNat)
    case atStart=>exact⟨0,rfl,Nat.zero_le _,Below.refl _ _,fun i hi=>absurd hi (Nat.not_lt_zero _)⟩
    case round=>
     obtain⟨j,rfl,f0,c6,h7⟩:=hrel;have c0:Hid (∀i,i<j->∀x,b[i]?=some x->f[i]?=some false->(C3 (A6 a x)==C3 m)=false):=h7;have g9:=Bj c7 c6;have e7:=Bj c9 c6;clear h7 q r t u A B C E Z
     by_cases d2:j<b.length
     ·have k5:(j:Int)<(b.length:Int):=by omega
      have k4:(0:Int)<=(j:Int):=by omega
      obtain⟨I,rfl⟩:∃I,n1=some ⟨I,0,none⟩:=by
       rcases c1.out.2 with⟨_,hn⟩|⟨gg,c3,c4,e,_⟩
       ·omega
       ·injection e with Y e2 e3
        exact⟨gg,Y⟩
      have a6:d.cell? ⟨I,j,none⟩=some (.string ⟨b[j].toArray⟩):=by
       have:=c1.out.cellAt j (by omega);rw[this];simp[d2]
      have e9:I<d.heap.size:=World.block_lt_of_cell? d _ a6;have b2:Hid (∀W:World,Below d.heap.size d W->W.cell? ⟨I,j,none⟩=some (.string ⟨b[j].toArray⟩)):=fun W l=>(l.cell (p:=⟨I,j,none⟩) e9).trans a6;have b8:b[j].length<=60:=f9.out _ (List.getElem_mem d2);have f3:b[j]?=some b[j]:=List.getElem?_eq_getElem d2;have d4:f[j]?=some (f[j]'(by omega)):=List.getElem?_eq_getElem (by omega);have i3:Hid (∀W,Below w.heap.size w W->Calls Tryz.prog 55 #[(E1 a L M N R S T),.string ⟨b[j].toArray⟩] W fun e c=>e=.returned (.string ⟨(A6 a b[j]).toArray⟩)/\Below W.heap.size W c):=fun W l=>i2.out W b[j] b8 l;have d6:Hid (∀W,Calls Tryz.prog 111 #[.string ⟨(A6 a b[j]).toArray⟩] W fun e c=>e=.returned (.string ⟨(C3 (A6 a b[j])).toArray⟩)/\c=W):=fun W=>by
       have O:=N2 a b[j];have h2:(b[j].length+1)*gx a<=61*gx a:=Nat.mul_le_mul_right _ (by omega);have:=kQ1 ⟨(A6 a b[j]).toArray⟩ W (by simp[ByteArray.size];omega);simpa using this
      have a5:Hid (∀W,Below J.heap.size J W->W.cell? ⟨d.heap.size,j,none⟩=some (.bool (f[j]'(by omega)))):=fun W l=>by
       have O:=(cQd d9.out l).cellAt j (by omega);rw[O,List.getElem?_map,d4];rfl
      have c2:Hid (f[j]'(by omega)=false->(C3 (A6 a b[j])==C3 m)=true->D2 (fun a1=>C3 (A6 a a1)==C3 m) (G8 b f)=some (b[j],G8 b (f.set j true))):=fun V hf=>nQz _ b f j b[j] c0.out f3 (by rw[d4,V]) hf;have b4:Hid ((f[j]'(by omega)=true\/(C3 (A6 a b[j])==C3 m)=false)->∀i,i<j+1->∀x,b[i]?=some x->f[i]?=some false->(C3 (A6 a x)==C3 m)=false):=fun ho i hi x n V=>by
       rcases Nat.lt_or_ge i j with b5|b5
       ·exact c0.out i b5 x n V
       ·have:i=j:=by omega
        subst this;rw[f3]at n;rw[d4]at V;injection n with n;injection V with V;subst n;rcases ho with ho|ho
        ·rw[ho]at V;cases V
        ·exact ho
      obtain⟨q,r,t,u,A,B,C,E⟩:=X.out wr e7;have en:=b2.out wr g9;clear f3 d4 b8 a6 c0;generalize f[j]'(by omega)=uj at *;generalize hz:b[j]=zj at *;have HZ:Hid (b[j]=zj):=hz;clear hz;go_wp2_with fail;go_region_held (fun c=>c.cell? ⟨w.heap.size,0,none⟩=some (.int .i64 7)/\c.cell? ⟨w.heap.size,5,none⟩=some (.slice (some ⟨g,0,none⟩) 1 1)/\c.cell? ⟨g,0,none⟩=some (.int .i64 a.kind)/\c.cell? ⟨g,1,none⟩=some (.int .i64 (eX5 a.p).kind)/\c.cell? ⟨g,2,none⟩=some (.string ⟨(eX5 a.p).signs.toArray⟩)/\c.cell? ⟨g,3,none⟩=some (.slice L M N)/\c.cell? ⟨g,4,none⟩=some (.string ⟨a.w.toArray⟩)/\c.cell? ⟨g,5,none⟩=some (.slice R S T)/\c.cell? ⟨I,j,none⟩=some (.string ⟨zj.toArray⟩)) (first|assumption|(refine⟨q,r,t,u,A,B,C,E,en⟩)|(go_keep;done)|exact q6 (X.out _ b7) (b2.out _ a3))
       (first
        | (go_at_call 55;refine(i3.out _ ?_).mono ?_;exact(Bj a2.out e7).drew;rintro e F ⟨rfl,b6⟩;have P:Below wr.heap.size wr F:=Bj (Below.refl _ _).drew b6;have b7:Below H.heap.size H F:=Bj e7 P;have a3:Below d.heap.size d F:=Bj g9 P;have d0:Below J.heap.size J F:=Bj c6 P))
      all_goals
       clear q r t u A B C E en;have h3:=a5.out F d0;cases uj with
       | true=>
        have d7:Hid _:=b4.out (.inl rfl);clear b4 c2;go_wp2_with (go_at_call 111;refine(d6.out _).mono ?_;rintro e w4 ⟨rfl,Q⟩;have a8:=Q.symm;clear Q;subst a8)
        go_roundw
        case rel=>exact⟨j+1,by go_num,by omega,d0,d7.out⟩
        case measure=>simp[intOf];omega
       | false=>
        cases h5:(C3 (A6 a zj)==C3 m) with
        | false=>
         have d7:Hid _:=b4.out (.inr h5);clear b4 c2;go_wp2_with (go_at_call 111;refine(d6.out _).mono ?_;rintro e w4 ⟨rfl,Q⟩;have a8:=Q.symm;clear Q;subst a8)
         go_roundw
         case rel=>exact⟨j+1,by go_num,by omega,d0,d7.out⟩
         case measure=>simp[intOf];omega
        | true=>
         have i8:Hid (D2 (fun a1=>C3 (A6 a a1)==C3 m) (G8 b f)=some (b[j],G8 b (f.set j true))):=by
          show _=_;rw[HZ.out];exact c2.out rfl h5
         clear b4 c2;go_wp2_with (go_at_call 111;refine(d6.out _).mono ?_;rintro e w4 ⟨rfl,Q⟩;have a8:=Q.symm;clear Q;subst a8)
         go_meet
         case rel=>exact⟨j,rfl,f0,d0,.inl ⟨d2,i8.out⟩⟩
     ·have k5:¬(j:Int)<(b.length:Int):=by omega
      have HN:Hid (D2 (fun a1=>C3 (A6 a a1)==C3 m) (G8 b f)=none):=nQ1 _ b f (fun i x n V=>c0.out i (by have:=(List.getElem?_eq_some_iff.1 n).1;omega) x n V);go_wp2_with fail;go_meet
      case rel=>exact⟨j,rfl,f0,c6,.inr ⟨by omega,HN.out⟩⟩
   case rest=>
    obtain⟨j,rfl,f0,e1,a7⟩:=hcut;have e4:=Bj c7 e1;have e6:=Bj c9 e1;have a5:Hid (wc.ownsRow d.heap.size 4 1 (Value.slice (some ⟨d.heap.size,0,none⟩) b.length b.length) b.length (f.map Value.bool)):=cQd d9.out e1;clear q r t u A B C E Z;obtain⟨q,r,t,u,A,B,C,E⟩:=X.out wc e6;have Z:=b1.out wc (Bj b0 e4);have k4:(0:Int)<=(j:Int):=by omega
    rcases a7 with⟨e0,a7⟩|⟨e0,a7⟩
    ·have j7:(j:Int)<(b.length:Int):=by omega
     obtain⟨I,rfl⟩:∃I,n1=some ⟨I,0,none⟩:=by
      rcases c1.out.2 with⟨_,hn⟩|⟨gg,c3,c4,e,_⟩
      ·omega
      ·injection e with Y e2 e3
       exact⟨gg,Y⟩
     have a6:d.cell? ⟨I,j,none⟩=some (.string ⟨b[j].toArray⟩):=by
      have:=c1.out.cellAt j (by omega);rw[this];simp[e0]
     have e9:I<d.heap.size:=World.block_lt_of_cell? d _ a6;have b2:Hid (∀W:World,Below d.heap.size d W->W.cell? ⟨I,j,none⟩=some (.string ⟨b[j].toArray⟩)):=fun W l=>(l.cell (p:=⟨I,j,none⟩) e9).trans a6;have b8:b[j].length<=60:=f9.out _ (List.getElem_mem e0);have HT:Hid (a9=(o++A9 a m b[j])++E9 (A9 a) (A8 a) (A6 a) (h.drop (k+1)) (G8 b (f.set j true))):=by
      show _=_;rw[b9.out,E9,a7,List.append_assoc]
     have k6:¬9223372036854775807<o.length+(A9 a m b[j]).length:=by
      have O:=g0.out;rw[HT.out,List.length_append,List.length_append]at O;omega
     have i1:Hid (∀W,Below w.heap.size w W->Calls Tryz.prog 57 #[(E1 a L M N R S T),.string ⟨m.toArray⟩,.string ⟨b[j].toArray⟩] W fun e c=>e=.returned (.string ⟨(A9 a m b[j]).toArray⟩)/\Below W.heap.size W c):=fun W l=>j0.out W b[j] b8 l;have k2:wc.frozen? ⟨d.heap.size,j,none⟩=false:=a5.out.frozenAt j;have h3:wc.cell? ⟨d.heap.size,j,none⟩=some (.bool (f[j]'(by omega))):=by
      have h2:=a5.out.cellAt j (by omega);rw[h2,List.getElem?_map,List.getElem?_eq_getElem (by omega)];rfl
     have j1:Hid ((wc.setCell ⟨d.heap.size,j,none⟩ (.bool true)).ownsRow d.heap.size 4 1 (Value.slice (some ⟨d.heap.size,0,none⟩) b.length b.length) b.length ((f.set j true).map Value.bool)):=by
      show World.ownsRow _ _ _ _ _ _ _;rw[List.map_set];exact(a5.out.stored j _).1
     have c5:Below d.heap.size d (wc.setCell ⟨d.heap.size,j,none⟩ (.bool true)):=e4.setCell (Nat.le_refl _) _;have e5:Below H.heap.size H (wc.setCell ⟨d.heap.size,j,none⟩ (.bool true)):=Bj h1 c5;clear a7 b8 a6 b9;generalize f[j]'(by omega)=uj at *;generalize b[j]=zk at *;go_wp2_with fail;generalize wc.setCell ⟨d.heap.size,j,none⟩ (.bool true)=W1 at *;clear q r t u A B C E Z h3 k2 d9 a5;obtain⟨q,r,t,u,A,B,C,E⟩:=X.out W1 e5;have Z:=b1.out W1 (Bj b0 c5);have en:=b2.out W1 c5;go_region_held (fun c=>c.cell? ⟨w.heap.size,0,none⟩=some (.int .i64 7)/\c.cell? ⟨w.heap.size,5,none⟩=some (.slice (some ⟨g,0,none⟩) 1 1)/\c.cell? ⟨g,0,none⟩=some (.int .i64 a.kind)/\c.cell? ⟨g,1,none⟩=some (.int .i64 (eX5 a.p).kind)/\c.cell? ⟨g,2,none⟩=some (.string ⟨(eX5 a.p).signs.toArray⟩)/\c.cell? ⟨g,3,none⟩=some (.slice L M N)/\c.cell? ⟨g,4,none⟩=some (.string ⟨a.w.toArray⟩)/\c.cell? ⟨g,5,none⟩=some (.slice R S T)/\c.cell? ⟨gm,k,none⟩=some (.string ⟨m.toArray⟩)/\c.cell? ⟨I,j,none⟩=some (.string ⟨zk.toArray⟩)) (first|assumption|(refine⟨q,r,t,u,A,B,C,E,Z,en⟩)|(go_keep;done)|exact q6 (X.out _ b7) ⟨b1.out _ (Bj b0 a3),b2.out _ a3⟩)
      (first
       | (go_at_call 57;refine(i1.out _ ?_).mono ?_;exact(Bj a2.out e5).drew;rintro e F ⟨rfl,b6⟩;have P:Below W1.heap.size W1 F:=Bj (Below.refl _ _).drew b6;have b7:Below H.heap.size H F:=Bj e5 P;have a3:Below d.heap.size d F:=Bj c5 P))
     all_goals
      clear q r t u A B C E Z en;have d8:Hid (F.ownsRow d.heap.size 4 1 (Value.slice (some ⟨d.heap.size,0,none⟩) b.length b.length) b.length ((f.set j true).map Value.bool)):=cQd j1.out P;have HN:Hid ((⟨o.toArray⟩:By)++⟨(A9 a m zk).toArray⟩=⟨(o++A9 a m zk).toArray⟩):=by
       show _=_;rw[Q9]
      go_wp2_with fail;go_roundw
      case rel=>exact⟨k+1,o++A9 a m zk,_,by omega,by go_num,by rw[<-HN.out],HT.out,a3,d8.out⟩
      case measure=>simp[intOf];omega
    ·have j7:¬(j:Int)<(b.length:Int):=by omega
     have HT:Hid (a9=(o++A8 a m)++E9 (A9 a) (A8 a) (A6 a) (h.drop (k+1)) (G8 b f)):=by
      show _=_;rw[b9.out,E9,a7,List.append_assoc]
     have k6:¬9223372036854775807<o.length+(A8 a m).length:=by
      have O:=g0.out;rw[HT.out,List.length_append,List.length_append]at O;omega
     clear a7 b9;go_wp2_with fail;go_region_held (fun c=>c.cell? ⟨w.heap.size,0,none⟩=some (.int .i64 7)/\c.cell? ⟨w.heap.size,5,none⟩=some (.slice (some ⟨g,0,none⟩) 1 1)/\c.cell? ⟨g,0,none⟩=some (.int .i64 a.kind)/\c.cell? ⟨g,1,none⟩=some (.int .i64 (eX5 a.p).kind)/\c.cell? ⟨g,2,none⟩=some (.string ⟨(eX5 a.p).signs.toArray⟩)/\c.cell? ⟨g,3,none⟩=some (.slice L M N)/\c.cell? ⟨g,4,none⟩=some (.string ⟨a.w.toArray⟩)/\c.cell? ⟨g,5,none⟩=some (.slice R S T)/\c.cell? ⟨gm,k,none⟩=some (.string ⟨m.toArray⟩)) (first|assumption|(refine⟨q,r,t,u,A,B,C,E,Z⟩)|(go_keep;done)|exact q6 (X.out _ b7) (b1.out _ (Bj b0 a3)))
      (first
       | (go_at_call 56;refine(i0.out _ ?_).mono ?_;exact(Bj a2.out e6).drew;rintro e F ⟨rfl,b6⟩;have P:Below wc.heap.size wc F:=Bj (Below.refl _ _).drew b6;have b7:Below H.heap.size H F:=Bj e6 P;have a3:Below d.heap.size d F:=Bj e4 P))
     all_goals
      clear q r t u A B C E Z;have d8:Hid (F.ownsRow d.heap.size 4 1 (Value.slice (some ⟨d.heap.size,0,none⟩) b.length b.length) b.length (f.map Value.bool)):=cQd a5.out P;have HN:Hid ((⟨o.toArray⟩:By)++⟨(A8 a m).toArray⟩=⟨(o++A8 a m).toArray⟩):=by
       show _=_;rw[Q9]
      go_wp2_with fail;go_roundw
      case rel=>exact⟨k+1,o++A8 a m,f,by omega,by go_num,by rw[<-HN.out],HT.out,a3,d8.out⟩
      case measure=>simp[intOf];omega
  ·have k7:¬(k:Int)<(h.length:Int):=by omega
   have HR:Hid (a9=o):=by
    show _=_;rw[d5.out,List.drop_of_length_le (by omega),E9,List.append_nil]
   go_wp2_with fail;go_ret;exact⟨by rw[HR.out];rfl,Bj a2.out c9⟩
theorem pQ1 (ha:K9 a)(l:J1 a)(d:K0 a)(i:D8 a)(k:D7 a)(B:BdL 120 (eX8 a))(C:BdL 120 (eX6 a))(F:gx a<=1099511627776):K9 ⟨6,p,ws,[a]⟩:=by
 intro v s y x w G H hs g h;obtain⟨⟨q,t,u,rfl⟩,m,n,o,rfl⟩:=NV.slices _ _ _ h;have b:=A5 w (B7 6 (eX5 p) ws (.slice q t u) (.slice m n o));have f:=qQy p ws a v s (.slice q t u) (.slice m n o) _ G ha l d i k B C F H hs (fun j c=>Ll (g j c) b.size) (h.below b (fun j c=>g j c) (fun _ h=>h));have z:Hid _:=b;have A:Hid _:=f;generalize A9 ⟨6,p,ws,[a]⟩ v.data.toList s.data.toList=r at *;clear b f h i k ha l d;go_enter Tryz.func57,Tryz.ntmps57;go_wp2_with fail;refine Calls.mono A.out ?_;rintro e I ⟨rfl,E⟩;go_wp2_with fail;go_ret;exact⟨rfl,Bj z.out E⟩
theorem pQ2 (ha:K9 a)(l:J1 a)(d:K0 a)(i:D8 a)(k:D7 a)(B:BdL 120 (eX8 a))(C:BdL 120 (eX6 a))(F:gx a<=1099511627776):K9 ⟨7,p,ws,[a]⟩:=by
 intro v s y x w G H hs g h;obtain⟨⟨q,t,u,rfl⟩,m,n,o,rfl⟩:=NV.slices _ _ _ h;have b:=A5 w (B7 7 (eX5 p) ws (.slice q t u) (.slice m n o));have f:=qQz p ws a v s (.slice q t u) (.slice m n o) _ G ha l d i k B C F H hs (fun j c=>Ll (g j c) b.size) (h.below b (fun j c=>g j c) (fun _ h=>h));have z:Hid _:=b;have A:Hid _:=f;generalize A9 ⟨7,p,ws,[a]⟩ v.data.toList s.data.toList=r at *;clear b f h i k ha l d;go_enter Tryz.func57,Tryz.ntmps57;go_wp2_with fail;refine Calls.mono A.out ?_;rintro e I ⟨rfl,E⟩;go_wp2_with fail;go_ret;exact⟨rfl,Bj z.out E⟩
theorem dQ1:(l:Ln)->OkL 120 l->K7 l->gx l<=1099511627776->K9 l
 | ⟨k,p,w,[]⟩,h,_,_=>by
  rw[OkL]at h;rcases h.2 with rfl|rfl|rfl
  ·exact pQv p w (.inl rfl)
  ·exact pQv p w (.inr (.inl rfl))
  ·exact pQv p w (.inr (.inr rfl))
 | ⟨k,p,w,[a]⟩,h,hw,hg=>by
  rw[OkL]at h;rw[gx]at hg;rw[K7]at hw;have ha:=dQ1 a h.2.2 hw (by omega);have g:=aQm a h.2.2 hw (by omega);have f:=bQo a h.2.2 (by omega);rcases h.2.1 with rfl|rfl
  ·exact pQ1 p w a ha g f (G6 a h.2.2) (G9 a h.2.2 hw) h.2.2.src h.2.2.view (by omega)
  ·exact pQ2 p w a ha g f (G6 a h.2.2) (G9 a h.2.2 hw) h.2.2.src h.2.2.view (by omega)
 | ⟨k,p,w,[a,b]⟩,h,hw,hg=>by
  rw[OkL]at h;rw[gx]at hg;rw[K7]at hw;obtain⟨_,i,c,d⟩:=h;have ha:=dQ1 a c hw.1 (by omega);have e:=dQ1 b d hw.2 (by omega);rcases i with rfl|rfl|rfl
  ·exact pQy p w a b ha e (G6 a c) (G6 b d) (G9 a c hw.1) (G9 b d hw.2) c.src d.src c.view d.view hg
  ·exact pQz p w a b ha e (G6 a c) (G6 b d) (G9 a c hw.1) (G9 b d hw.2) c.src d.src c.view d.view hg
  ·exact pQ0 p w a b ha e (aQm a c hw.1 (by omega)) (aQm b d hw.2 (by omega)) (G6 a c) (G9 a c hw.1) (G9 b d hw.2) c.src c.view d.view
 | ⟨k,p,w,_::_::_::_⟩,h,_,_=>by simp[OkL]at h
theorem aXw (l:Ln)(O:OkL 120 l)(L:D8 l)(M:D7 l)(K:K9 l)(Z:v.size<=1048576)(hs:s.size<=1048576)(o:Old w G)(q:NV w G l y x) :
  Calls Tryz.prog 29 #[F0 l y x,.string v,.string s] w fun e w'=>e=.returned (if B6 (eX6 l) v.data.toList=true then (if B6 (eX8 l) s.data.toList=true then .tuple #[Sv (A9 l v.data.toList s.data.toList),Iv 0] else .tuple #[.string ⟨#[]⟩,Iv 5]) else .tuple #[.string ⟨#[]⟩,Iv 6])/\Bw w w':=by
 obtain⟨⟨i,k,m,rfl⟩,d,f,g,rfl⟩:=NV.slices _ _ _ q;have N:=A5 w (B7 l.kind (eX5 l.p) l.w (.slice i k m) (.slice d f g));have n:Hid _:=N;have T:Hid (∀W,Bw w W->Ca 23 #[F0 l (.slice i k m) (.slice d f g),.string v] W (Rt (.bool (B6 (eX6 l) v.data.toList)) W)):=fun W c=>hQa l O M v Z _ _ W G (fun j b=>Ll (o j b) c.size) (q.below c (fun j b=>o j b) (fun _ h=>h));have S:Hid (∀W,Bw w W->Ca 21 #[F0 l (.slice i k m) (.slice d f g),.string s] W (Rt (.bool (B6 (eX8 l) s.data.toList)) W)):=fun W c=>gQ9 l O L s hs _ _ W G (fun j b=>Ll (o j b) c.size) (q.below c (fun j b=>o j b) (fun _ h=>h));have R:Hid (∀W,v.size<=60->s.size<=60->Bw w W->Ca 57 #[F0 l (.slice i k m) (.slice d f g),.string v,.string s] W (Rt (Sv (A9 l v.data.toList s.data.toList)) W)):=fun W z A c=>K v s _ _ W G z A (fun j b=>Ll (o j b) c.size) (q.below c (fun j b=>o j b) (fun _ h=>h));have V:Hid (B6 (eX6 l) v.data.toList=true->v.size<=60):=fun h=>by
  unfold B6 at h;rw[Bool.and_eq_true,decide_eq_true_eq,Array.length_toList]at h;exact h.2
 have U:Hid (B6 (eX8 l) s.data.toList=true->s.size<=60):=fun h=>by
  unfold B6 at h;rw[Bool.and_eq_true,decide_eq_true_eq,Array.length_toList]at h;exact h.2
 have B:Hid (∀W:World,Below (w.alloc (B7 l.kind (eX5 l.p) l.w (.slice i k m) (.slice d f g))).heap.size (w.alloc (B7 l.kind (eX5 l.p) l.w (.slice i k m) (.slice d f g))) W->LiesL W w.heap.size [Iv l.kind,Iv (eX5 l.p).kind,.string ⟨(eX5 l.p).signs.toArray⟩,.slice i k m,Sv l.w,.slice d f g]):=fun W c=>
  (N5 w l.kind (eX5 l.p) l.w (.slice i k m) (.slice d f g)).of_block (c.block _ (by simp))
 generalize B6 (eX6 l) v.data.toList=a0 at *;generalize B6 (eX8 l) s.data.toList=u at *;clear N q L M K;go_enter Tryz.func29,Tryz.ntmps29;go_wp2_with fail;refine(T.out _ n.out).mono ?_;rintro e P ⟨rfl,r⟩;have a:=B.out P r;have C:=a.cell 0;have E:=a.cell 1;have F:=a.cell 2;have H:=a.cell 3;have I:=a.cell 4;have J:=a.cell 5;clear a;cases a0 with
 | true=>
  have z:=V.out rfl;go_wp2_with fail;refine(S.out P (Bj n.out r)).mono ?_;rintro e Q ⟨rfl,X⟩;have t:=Bj r X;clear C E F H I J;have a:=B.out Q t;have C:=a.cell 0;have E:=a.cell 1;have F:=a.cell 2;have H:=a.cell 3;have I:=a.cell 4;have J:=a.cell 5;clear a;cases u with
  | true=>
   have A:=U.out rfl;go_wp2_with fail;refine(R.out Q z A (Bj n.out t)).mono ?_;rintro e w4 ⟨rfl,Y⟩;go_wp2_with fail;go_ret2;exact⟨rfl,Bj (Bj n.out t) Y⟩
  | false=>
   go_wp2_with fail;go_ret2;exact⟨rfl,Bj n.out t⟩
 | false=>
  go_wp2_with fail;go_ret2;exact⟨rfl,Bj n.out r⟩
end Go.Proofs.YtfklinjaajafgaaGreatDoor
