import Derived.Test.YtfklinjaajafgaaGreatDoorK50
set_option maxRecDepth 100000
set_option maxHeartbeats 4000000
namespace Go.Proofs.YtfklinjaajafgaaGreatDoor
open Ls
open Go.RowKit
variable (u v s Z X t:Lu)(A:Prop)(Y:Lu)(w:World)(p q bf br:Nat)(t1 t2 r1 r2:TypeId)(y1 y2 z1 z2:Value)(n1 n2 m1:Nat)(g1:Value)(m2:Nat)(c1 d1 g2 c2 d2:Value)(f1 f2:Nat)(k1 k2:Array Value)
theorem uQ4 (P:X.length+Y.length<=140737488355328)
  (n:Blk w p (J2 t1 y1 n1 r1 z1 m1 (.func (.func f1) #[] k1) c1 d1) 98) (o:Blk w q (J2 t2 y2 n2 r2 z2 m2 (.func (.func f2) #[] k2) c2 d2) 98) (m:Blk w bf #[Pt p] 78) (r:Blk w br #[Pt q] 78)
  (Q:∀(x:Value) (W:World),(callFunc f1 (#[x]++k1)).run Tryz.prog W=.ok (.enter f1 (#[x]++k1)) W) (R:∀(x:Value) (W:World),(callFunc f2 (#[x]++k2)).run Tryz.prog W=.ok (.enter f2 (#[x]++k2)) W)
  (A:∀W,Bw w W->Calls Tryz.prog 154 #[C8 (.iface t1 y1) n1,C8 (.iface t2 y2) n2,A4 (u++v)] W (Rt (.tuple #[A4 u,A4 v]) W))
  (y:∀W,Bw w W->Calls Tryz.prog f1 (#[A4 u]++k1) W (Rt (A4 X) W))
  (z:∀W,Bw w W->Calls Tryz.prog f2 (#[A4 v]++k2) W (Rt (A4 Y) W)) :
  Calls Tryz.prog 153 #[A4 (u++v),Pt bf,Pt br] w fun e a=>e=.returned (A4 (X++Y))/\Bw w a:=by
 have b:Hid (∀W:World,Bw w W->(Ce W p 0 (.iface t1 y1)/\Ce W p 1 (Pt n1)/\Ce W p 4 (Fv f1 k1))/\(Ce W q 0 (.iface t2 y2)/\Ce W q 1 (Pt n2)/\Ce W q 4 (Fv f2 k2))/\Ce W bf 0 (Pt p)/\Ce W br 0 (Pt q)):=fun W d=>by
  have⟨f,g,_,_,h,_,_⟩:=(n.below d n.lt).seven;have⟨i,j,_,_,k,_,_⟩:=(o.below d o.lt).seven;exact⟨⟨f,g,h⟩,⟨i,j,k⟩,(m.below d m.lt).cell 0,(r.below d r.lt).cell 0⟩
 have I:Hid _:=A;have G:Hid _:=y;have H:Hid _:=z;have⟨⟨f,g,h⟩,⟨i,j,k⟩,J,K⟩:=b.out w Br;generalize u++v=s at *;go_enter Tryz.func153,Tryz.ntmps153;go_wp2;go_region_held (fun a=>(Ce a p 0 (.iface t1 y1)/\Ce a p 1 (Pt n1)/\Ce a p 4 (Fv f1 k1))/\(Ce a q 0 (.iface t2 y2)/\Ce a q 1 (Pt n2)/\Ce a q 4 (Fv f2 k2))/\Ce a bf 0 (Pt p)/\Ce a br 0 (Pt q)) (first|assumption|(refine⟨⟨?_,?_,?_⟩,⟨?_,?_,?_⟩,?_,?_⟩<;>assumption)|exact b.out _ Br.drew|exact b.out _ O)
  (first
   | (go_at_call 154;refine(I.out _ ?_).mono ?_;exact Br.drew;rintro e t ⟨rfl,L⟩;have c:=Bj Br.drew L;have O:=c))
 all_goals
  have⟨⟨f,g,h⟩,⟨i,j,k⟩,J,K⟩:=b.out t c;go_wp2;go_region_held (fun a=>(Ce a p 0 (.iface t1 y1)/\Ce a p 1 (Pt n1)/\Ce a p 4 (Fv f1 k1))/\(Ce a q 0 (.iface t2 y2)/\Ce a q 1 (Pt n2)/\Ce a q 4 (Fv f2 k2))/\Ce a bf 0 (Pt p)/\Ce a br 0 (Pt q)) (first|assumption|(refine⟨⟨?_,?_,?_⟩,⟨?_,?_,?_⟩,?_,?_⟩<;>assumption)|exact b.out _ c.drew|exact b.out _ C)
   (first
    | (refine(G.out _ ?_).mono ?_;exact c.drew;rintro e E ⟨rfl,M⟩;have l:=Bj c.drew M;have C:=l)
    | (refine(H.out _ l).mono ?_;rintro e F ⟨rfl,N⟩;have B:=Bj l N;have C:=B))
  all_goals
   go_wp2;go_ret;exact⟨by show Ending.returned (.string ((Ba X)++⟨Y.toArray⟩))=_;rw[O4],B⟩
theorem tQm (P:X.length+Y.length<=140737488355328)
  (n:Blk w p (J2 r1 z1 m1 t1 y1 n1 c1 (.func (.func f1) #[] k1) d1) 98) (o:Blk w q (J2 r2 z2 m2 t2 y2 n2 c2 (.func (.func f2) #[] k2) d2) 98) (m:Blk w bf #[Pt p] 78) (r:Blk w br #[Pt q] 78)
  (Q:∀(x:Value) (W:World),(callFunc f1 (#[x]++k1)).run Tryz.prog W=.ok (.enter f1 (#[x]++k1)) W) (R:∀(x:Value) (W:World),(callFunc f2 (#[x]++k2)).run Tryz.prog W=.ok (.enter f2 (#[x]++k2)) W)
  (A:∀W,Bw w W->Calls Tryz.prog 154 #[C8 (.iface t1 y1) n1,C8 (.iface t2 y2) n2,A4 (u++v)] W (Rt (.tuple #[A4 u,A4 v]) W))
  (y:∀W,Bw w W->Calls Tryz.prog f1 (#[A4 u]++k1) W (Rt (A4 X) W))
  (z:∀W,Bw w W->Calls Tryz.prog f2 (#[A4 v]++k2) W (Rt (A4 Y) W)) :
  Calls Tryz.prog 155 #[A4 (u++v),Pt bf,Pt br] w fun e a=>e=.returned (A4 (X++Y))/\Bw w a:=by
 have b:Hid (∀W:World,Bw w W->(Ce W p 2 (.iface t1 y1)/\Ce W p 3 (Pt n1)/\Ce W p 5 (Fv f1 k1))/\(Ce W q 2 (.iface t2 y2)/\Ce W q 3 (Pt n2)/\Ce W q 5 (Fv f2 k2))/\Ce W bf 0 (Pt p)/\Ce W br 0 (Pt q)):=fun W d=>by
  have⟨_,_,f,g,_,h,_⟩:=(n.below d n.lt).seven;have⟨_,_,i,j,_,k,_⟩:=(o.below d o.lt).seven;exact⟨⟨f,g,h⟩,⟨i,j,k⟩,(m.below d m.lt).cell 0,(r.below d r.lt).cell 0⟩
 have I:Hid _:=A;have G:Hid _:=y;have H:Hid _:=z;have⟨⟨f,g,h⟩,⟨i,j,k⟩,J,K⟩:=b.out w Br;generalize u++v=s at *;go_enter Tryz.func155,Tryz.ntmps155;go_wp2;go_region_held (fun a=>(Ce a p 2 (.iface t1 y1)/\Ce a p 3 (Pt n1)/\Ce a p 5 (Fv f1 k1))/\(Ce a q 2 (.iface t2 y2)/\Ce a q 3 (Pt n2)/\Ce a q 5 (Fv f2 k2))/\Ce a bf 0 (Pt p)/\Ce a br 0 (Pt q)) (first|assumption|(refine⟨⟨?_,?_,?_⟩,⟨?_,?_,?_⟩,?_,?_⟩<;>assumption)|exact b.out _ Br.drew|exact b.out _ O)
  (first
   | (go_at_call 154;refine(I.out _ ?_).mono ?_;exact Br.drew;rintro e t ⟨rfl,L⟩;have c:=Bj Br.drew L;have O:=c))
 all_goals
  have⟨⟨f,g,h⟩,⟨i,j,k⟩,J,K⟩:=b.out t c;go_wp2;go_region_held (fun a=>(Ce a p 2 (.iface t1 y1)/\Ce a p 3 (Pt n1)/\Ce a p 5 (Fv f1 k1))/\(Ce a q 2 (.iface t2 y2)/\Ce a q 3 (Pt n2)/\Ce a q 5 (Fv f2 k2))/\Ce a bf 0 (Pt p)/\Ce a br 0 (Pt q)) (first|assumption|(refine⟨⟨?_,?_,?_⟩,⟨?_,?_,?_⟩,?_,?_⟩<;>assumption)|exact b.out _ c.drew|exact b.out _ C)
   (first
    | (refine(G.out _ ?_).mono ?_;exact c.drew;rintro e E ⟨rfl,M⟩;have l:=Bj c.drew M;have C:=l)
    | (refine(H.out _ l).mono ?_;rintro e F ⟨rfl,N⟩;have B:=Bj l N;have C:=B))
  all_goals
   go_wp2;go_ret;exact⟨by show Ending.returned (.string ((Ba X)++⟨Y.toArray⟩))=_;rw[O4],B⟩
theorem uQ2 (P:X.length+Y.length<=140737488355328)
  (n:Blk w p (J2 t1 y1 n1 r1 z1 m1 (.func (.func f1) #[] k1) c1 d1) 98) (o:Blk w q (J2 t2 y2 n2 r2 z2 m2 (.func (.func f2) #[] k2) c2 d2) 98) (m:Blk w bf #[Pt p] 78) (r:Blk w br #[Pt q] 78)
  (Q:∀(x:Value) (W:World),(callFunc f1 (#[x]++k1)).run Tryz.prog W=.ok (.enter f1 (#[x]++k1)) W) (R:∀(x:Value) (W:World),(callFunc f2 (#[x]++k2)).run Tryz.prog W=.ok (.enter f2 (#[x]++k2)) W)
  (A:∀W,Bw w W->Calls Tryz.prog 154 #[C8 (.iface t1 y1) n1,C8 (.iface t2 y2) n2,A4 (u++v)] W (Rt (.tuple #[A4 u,A4 v]) W))
  (y:∀W,Bw w W->Calls Tryz.prog f2 (#[A4 v]++k2) W (Rt (A4 X) W))
  (z:∀W,Bw w W->Calls Tryz.prog f1 (#[A4 u]++k1) W (Rt (A4 Y) W)) :
  Calls Tryz.prog 190 #[A4 (u++v),Pt bf,Pt br] w fun e a=>e=.returned (A4 (X++Y))/\Bw w a:=by
 have b:Hid (∀W:World,Bw w W->(Ce W p 0 (.iface t1 y1)/\Ce W p 1 (Pt n1)/\Ce W p 4 (Fv f1 k1))/\(Ce W q 0 (.iface t2 y2)/\Ce W q 1 (Pt n2)/\Ce W q 4 (Fv f2 k2))/\Ce W bf 0 (Pt p)/\Ce W br 0 (Pt q)):=fun W d=>by
  have⟨f,g,_,_,h,_,_⟩:=(n.below d n.lt).seven;have⟨i,j,_,_,k,_,_⟩:=(o.below d o.lt).seven;exact⟨⟨f,g,h⟩,⟨i,j,k⟩,(m.below d m.lt).cell 0,(r.below d r.lt).cell 0⟩
 have I:Hid _:=A;have G:Hid _:=y;have H:Hid _:=z;have⟨⟨f,g,h⟩,⟨i,j,k⟩,J,K⟩:=b.out w Br;generalize u++v=s at *;go_enter Tryz.func190,Tryz.ntmps190;go_wp2;go_region_held (fun a=>(Ce a p 0 (.iface t1 y1)/\Ce a p 1 (Pt n1)/\Ce a p 4 (Fv f1 k1))/\(Ce a q 0 (.iface t2 y2)/\Ce a q 1 (Pt n2)/\Ce a q 4 (Fv f2 k2))/\Ce a bf 0 (Pt p)/\Ce a br 0 (Pt q)) (first|assumption|(refine⟨⟨?_,?_,?_⟩,⟨?_,?_,?_⟩,?_,?_⟩<;>assumption)|exact b.out _ Br.drew|exact b.out _ O)
  (first
   | (go_at_call 154;refine(I.out _ ?_).mono ?_;exact Br.drew;rintro e t ⟨rfl,L⟩;have c:=Bj Br.drew L;have O:=c))
 all_goals
  have⟨⟨f,g,h⟩,⟨i,j,k⟩,J,K⟩:=b.out t c;go_wp2;go_region_held (fun a=>(Ce a p 0 (.iface t1 y1)/\Ce a p 1 (Pt n1)/\Ce a p 4 (Fv f1 k1))/\(Ce a q 0 (.iface t2 y2)/\Ce a q 1 (Pt n2)/\Ce a q 4 (Fv f2 k2))/\Ce a bf 0 (Pt p)/\Ce a br 0 (Pt q)) (first|assumption|(refine⟨⟨?_,?_,?_⟩,⟨?_,?_,?_⟩,?_,?_⟩<;>assumption)|exact b.out _ c.drew|exact b.out _ C)
   (first
    | (refine(G.out _ ?_).mono ?_;exact c.drew;rintro e E ⟨rfl,M⟩;have l:=Bj c.drew M;have C:=l)
    | (refine(H.out _ l).mono ?_;rintro e F ⟨rfl,N⟩;have B:=Bj l N;have C:=B))
  all_goals
   go_wp2;go_ret;exact⟨by show Ending.returned (.string ((Ba X)++⟨Y.toArray⟩))=_;rw[O4],B⟩
theorem tQk (P:X.length+Y.length<=140737488355328)
  (n:Blk w p (J2 r1 z1 m1 t1 y1 n1 c1 (.func (.func f1) #[] k1) d1) 98) (o:Blk w q (J2 r2 z2 m2 t2 y2 n2 c2 (.func (.func f2) #[] k2) d2) 98) (m:Blk w bf #[Pt p] 78) (r:Blk w br #[Pt q] 78)
  (Q:∀(x:Value) (W:World),(callFunc f1 (#[x]++k1)).run Tryz.prog W=.ok (.enter f1 (#[x]++k1)) W) (R:∀(x:Value) (W:World),(callFunc f2 (#[x]++k2)).run Tryz.prog W=.ok (.enter f2 (#[x]++k2)) W)
  (A:∀W,Bw w W->Calls Tryz.prog 154 #[C8 (.iface t2 y2) n2,C8 (.iface t1 y1) n1,A4 (u++v)] W (Rt (.tuple #[A4 u,A4 v]) W))
  (y:∀W,Bw w W->Calls Tryz.prog f1 (#[A4 v]++k1) W (Rt (A4 X) W))
  (z:∀W,Bw w W->Calls Tryz.prog f2 (#[A4 u]++k2) W (Rt (A4 Y) W)) :
  Calls Tryz.prog 191 #[A4 (u++v),Pt br,Pt bf] w fun e a=>e=.returned (A4 (X++Y))/\Bw w a:=by
 have b:Hid (∀W:World,Bw w W->(Ce W p 2 (.iface t1 y1)/\Ce W p 3 (Pt n1)/\Ce W p 5 (Fv f1 k1))/\(Ce W q 2 (.iface t2 y2)/\Ce W q 3 (Pt n2)/\Ce W q 5 (Fv f2 k2))/\Ce W bf 0 (Pt p)/\Ce W br 0 (Pt q)):=fun W d=>by
  have⟨_,_,f,g,_,h,_⟩:=(n.below d n.lt).seven;have⟨_,_,i,j,_,k,_⟩:=(o.below d o.lt).seven;exact⟨⟨f,g,h⟩,⟨i,j,k⟩,(m.below d m.lt).cell 0,(r.below d r.lt).cell 0⟩
 have I:Hid _:=A;have G:Hid _:=y;have H:Hid _:=z;have⟨⟨f,g,h⟩,⟨i,j,k⟩,J,K⟩:=b.out w Br;generalize u++v=s at *;go_enter Tryz.func191,Tryz.ntmps191;go_wp2;go_region_held (fun a=>(Ce a p 2 (.iface t1 y1)/\Ce a p 3 (Pt n1)/\Ce a p 5 (Fv f1 k1))/\(Ce a q 2 (.iface t2 y2)/\Ce a q 3 (Pt n2)/\Ce a q 5 (Fv f2 k2))/\Ce a bf 0 (Pt p)/\Ce a br 0 (Pt q)) (first|assumption|(refine⟨⟨?_,?_,?_⟩,⟨?_,?_,?_⟩,?_,?_⟩<;>assumption)|exact b.out _ Br.drew|exact b.out _ O)
  (first
   | (go_at_call 154;refine(I.out _ ?_).mono ?_;exact Br.drew;rintro e t ⟨rfl,L⟩;have c:=Bj Br.drew L;have O:=c))
 all_goals
  have⟨⟨f,g,h⟩,⟨i,j,k⟩,J,K⟩:=b.out t c;go_wp2;go_region_held (fun a=>(Ce a p 2 (.iface t1 y1)/\Ce a p 3 (Pt n1)/\Ce a p 5 (Fv f1 k1))/\(Ce a q 2 (.iface t2 y2)/\Ce a q 3 (Pt n2)/\Ce a q 5 (Fv f2 k2))/\Ce a bf 0 (Pt p)/\Ce a br 0 (Pt q)) (first|assumption|(refine⟨⟨?_,?_,?_⟩,⟨?_,?_,?_⟩,?_,?_⟩<;>assumption)|exact b.out _ c.drew|exact b.out _ C)
   (first
    | (refine(G.out _ ?_).mono ?_;exact c.drew;rintro e E ⟨rfl,M⟩;have l:=Bj c.drew M;have C:=l)
    | (refine(H.out _ l).mono ?_;rintro e F ⟨rfl,N⟩;have B:=Bj l N;have C:=B))
  all_goals
   go_wp2;go_ret;exact⟨by show Ending.returned (.string ((Ba X)++⟨Y.toArray⟩))=_;rw[O4],B⟩
theorem aXq (hX:X.length+Y.length<=140737488355328)
  (B:Blk w p (J2 t1 y1 n1 r1 z1 m1 g1 c1 (.func (.func f1) #[] k1)) 98) (C:Blk w q (J2 t2 y2 n2 r2 z2 m2 g2 c2 (.func (.func f2) #[] k2)) 98) (A:Blk w bf #[Pt p] 78) (E:Blk w br #[Pt q] 78)
  (a4:∀(x y:Value) (W:World),(callFunc f1 (#[x,y]++k1)).run Tryz.prog W=.ok (.enter f1 (#[x,y]++k1)) W) (a5:∀(x y:Value) (W:World),(callFunc f2 (#[x,y]++k2)).run Tryz.prog W=.ok (.enter f2 (#[x,y]++k2)) W)
  (K:∀W,Bw w W->Calls Tryz.prog 154 #[C8 (.iface r1 z1) m1,C8 (.iface r2 z2) m2,A4 (u++v)] W (Rt (.tuple #[A4 u,A4 v]) W))
  (J:∀W,Bw w W->Calls Tryz.prog 154 #[C8 (.iface t1 y1) n1,C8 (.iface t2 y2) n2,A4 (s++t)] W (Rt (.tuple #[A4 s,A4 t]) W))
  (H:∀W,Bw w W->Calls Tryz.prog f1 (#[A4 u,A4 s]++k1) W (Rt (A4 X) W))
  (I:∀W,Bw w W->Calls Tryz.prog f2 (#[A4 v,A4 t]++k2) W (Rt (A4 Y) W)) :
  Calls Tryz.prog 156 #[A4 (u++v),A4 (s++t),Pt bf,Pt br] w fun e a=>e=.returned (A4 (X++Y))/\Bw w a:=by
 have b:Hid (∀W:World,Bw w W->(Ce W p 0 (.iface t1 y1)/\Ce W p 1 (Pt n1)/\Ce W p 2 (.iface r1 z1)/\Ce W p 3 (Pt m1)/\Ce W p 6 (Fv f1 k1))/\(Ce W q 0 (.iface t2 y2)/\Ce W q 1 (Pt n2)/\Ce W q 2 (.iface r2 z2)/\Ce W q 3 (Pt m2)/\Ce W q 6 (Fv f2 k2))/\Ce W bf 0 (Pt p)/\Ce W br 0 (Pt q)):=fun W r=>by
  have⟨f,g,h,i,_,_,j⟩:=(B.below r B.lt).seven;have⟨k,l,m,n,_,_,o⟩:=(C.below r C.lt).seven;exact⟨⟨f,g,h,i,j⟩,⟨k,l,m,n,o⟩,(A.below r A.lt).cell 0,(E.below r E.lt).cell 0⟩
 have U:Hid _:=K;have T:Hid _:=J;have R:Hid _:=H;have S:Hid _:=I;have⟨⟨f,g,h,i,j⟩,⟨k,l,m,n,o⟩,L,M⟩:=b.out w Br;generalize u++v=uv at *;generalize s++t=so at *;go_enter Tryz.func156,Tryz.ntmps156;go_wp2;go_region_held (fun a=>(Ce a p 0 (.iface t1 y1)/\Ce a p 1 (Pt n1)/\Ce a p 2 (.iface r1 z1)/\Ce a p 3 (Pt m1)/\Ce a p 6 (Fv f1 k1))/\(Ce a q 0 (.iface t2 y2)/\Ce a q 1 (Pt n2)/\Ce a q 2 (.iface r2 z2)/\Ce a q 3 (Pt m2)/\Ce a q 6 (Fv f2 k2))/\Ce a bf 0 (Pt p)/\Ce a br 0 (Pt q)) (first|assumption|(refine⟨⟨?_,?_,?_,?_,?_⟩,⟨?_,?_,?_,?_,?_⟩,?_,?_⟩<;>assumption)|exact b.out _ Br.drew|exact b.out _ a2)
  (first
   | (go_at_call 154;refine(U.out _ ?_).mono ?_;exact Br.drew;rintro e F ⟨rfl,V⟩;have c:=Bj Br.drew V;have a2:=c))
 all_goals
  have⟨⟨f,g,h,i,j⟩,⟨k,l,m,n,o⟩,L,M⟩:=b.out F c;go_wp2;go_region_held (fun a=>(Ce a p 0 (.iface t1 y1)/\Ce a p 1 (Pt n1)/\Ce a p 2 (.iface r1 z1)/\Ce a p 3 (Pt m1)/\Ce a p 6 (Fv f1 k1))/\(Ce a q 0 (.iface t2 y2)/\Ce a q 1 (Pt n2)/\Ce a q 2 (.iface r2 z2)/\Ce a q 3 (Pt m2)/\Ce a q 6 (Fv f2 k2))/\Ce a bf 0 (Pt p)/\Ce a br 0 (Pt q)) (first|assumption|(refine⟨⟨?_,?_,?_,?_,?_⟩,⟨?_,?_,?_,?_,?_⟩,?_,?_⟩<;>assumption)|exact b.out _ c.drew|exact b.out _ a3)
   (first
    | (go_at_call 154;refine(T.out _ ?_).mono ?_;exact c.drew;rintro e G ⟨rfl,Z⟩;have d:=Bj c.drew Z;have a3:=d))
  all_goals
   have⟨⟨f,g,h,i,j⟩,⟨k,l,m,n,o⟩,L,M⟩:=b.out G d;go_wp2;go_region_held (fun a=>(Ce a p 0 (.iface t1 y1)/\Ce a p 1 (Pt n1)/\Ce a p 2 (.iface r1 z1)/\Ce a p 3 (Pt m1)/\Ce a p 6 (Fv f1 k1))/\(Ce a q 0 (.iface t2 y2)/\Ce a q 1 (Pt n2)/\Ce a q 2 (.iface r2 z2)/\Ce a q 3 (Pt m2)/\Ce a q 6 (Fv f2 k2))/\Ce a bf 0 (Pt p)/\Ce a br 0 (Pt q)) (first|assumption|(refine⟨⟨?_,?_,?_,?_,?_⟩,⟨?_,?_,?_,?_,?_⟩,?_,?_⟩<;>assumption)|exact b.out _ d.drew|exact b.out _ O)
    (first
     | (refine(R.out _ ?_).mono ?_;exact d.drew;rintro e P ⟨rfl,a0⟩;have z:=Bj d.drew a0;have O:=z)
     | (refine(S.out _ z).mono ?_;rintro e Q ⟨rfl,a1⟩;have N:=Bj z a1;have O:=N))
   all_goals
    go_wp2;go_ret;exact⟨by show Ending.returned (.string ((Ba X)++⟨Y.toArray⟩))=_;rw[O4],N⟩
theorem aXm (hX:X.length+Y.length<=140737488355328)
  (B:Blk w p (J2 t1 y1 n1 r1 z1 m1 g1 c1 (.func (.func f1) #[] k1)) 98) (C:Blk w q (J2 t2 y2 n2 r2 z2 m2 g2 c2 (.func (.func f2) #[] k2)) 98) (A:Blk w bf #[Pt p] 78) (E:Blk w br #[Pt q] 78)
  (a4:∀(x y:Value) (W:World),(callFunc f1 (#[x,y]++k1)).run Tryz.prog W=.ok (.enter f1 (#[x,y]++k1)) W) (a5:∀(x y:Value) (W:World),(callFunc f2 (#[x,y]++k2)).run Tryz.prog W=.ok (.enter f2 (#[x,y]++k2)) W)
  (K:∀W,Bw w W->Calls Tryz.prog 154 #[C8 (.iface r2 z2) m2,C8 (.iface r1 z1) m1,A4 (u++v)] W (Rt (.tuple #[A4 u,A4 v]) W))
  (J:∀W,Bw w W->Calls Tryz.prog 154 #[C8 (.iface t1 y1) n1,C8 (.iface t2 y2) n2,A4 (s++t)] W (Rt (.tuple #[A4 s,A4 t]) W))
  (H:∀W,Bw w W->Calls Tryz.prog f1 (#[A4 v,A4 s]++k1) W (Rt (A4 X) W))
  (I:∀W,Bw w W->Calls Tryz.prog f2 (#[A4 u,A4 t]++k2) W (Rt (A4 Y) W)) :
  Calls Tryz.prog 192 #[A4 (u++v),A4 (s++t),Pt br,Pt bf] w fun e a=>e=.returned (A4 (X++Y))/\Bw w a:=by
 have b:Hid (∀W:World,Bw w W->(Ce W p 0 (.iface t1 y1)/\Ce W p 1 (Pt n1)/\Ce W p 2 (.iface r1 z1)/\Ce W p 3 (Pt m1)/\Ce W p 6 (Fv f1 k1))/\(Ce W q 0 (.iface t2 y2)/\Ce W q 1 (Pt n2)/\Ce W q 2 (.iface r2 z2)/\Ce W q 3 (Pt m2)/\Ce W q 6 (Fv f2 k2))/\Ce W bf 0 (Pt p)/\Ce W br 0 (Pt q)):=fun W r=>by
  have⟨f,g,h,i,_,_,j⟩:=(B.below r B.lt).seven;have⟨k,l,m,n,_,_,o⟩:=(C.below r C.lt).seven;exact⟨⟨f,g,h,i,j⟩,⟨k,l,m,n,o⟩,(A.below r A.lt).cell 0,(E.below r E.lt).cell 0⟩
 have U:Hid _:=K;have T:Hid _:=J;have R:Hid _:=H;have S:Hid _:=I;have⟨⟨f,g,h,i,j⟩,⟨k,l,m,n,o⟩,L,M⟩:=b.out w Br;generalize u++v=uv at *;generalize s++t=so at *;go_enter Tryz.func192,Tryz.ntmps192;go_wp2;go_region_held (fun a=>(Ce a p 0 (.iface t1 y1)/\Ce a p 1 (Pt n1)/\Ce a p 2 (.iface r1 z1)/\Ce a p 3 (Pt m1)/\Ce a p 6 (Fv f1 k1))/\(Ce a q 0 (.iface t2 y2)/\Ce a q 1 (Pt n2)/\Ce a q 2 (.iface r2 z2)/\Ce a q 3 (Pt m2)/\Ce a q 6 (Fv f2 k2))/\Ce a bf 0 (Pt p)/\Ce a br 0 (Pt q)) (first|assumption|(refine⟨⟨?_,?_,?_,?_,?_⟩,⟨?_,?_,?_,?_,?_⟩,?_,?_⟩<;>assumption)|exact b.out _ Br.drew|exact b.out _ a2)
  (first
   | (go_at_call 154;refine(U.out _ ?_).mono ?_;exact Br.drew;rintro e F ⟨rfl,V⟩;have c:=Bj Br.drew V;have a2:=c))
 all_goals
  have⟨⟨f,g,h,i,j⟩,⟨k,l,m,n,o⟩,L,M⟩:=b.out F c;go_wp2;go_region_held (fun a=>(Ce a p 0 (.iface t1 y1)/\Ce a p 1 (Pt n1)/\Ce a p 2 (.iface r1 z1)/\Ce a p 3 (Pt m1)/\Ce a p 6 (Fv f1 k1))/\(Ce a q 0 (.iface t2 y2)/\Ce a q 1 (Pt n2)/\Ce a q 2 (.iface r2 z2)/\Ce a q 3 (Pt m2)/\Ce a q 6 (Fv f2 k2))/\Ce a bf 0 (Pt p)/\Ce a br 0 (Pt q)) (first|assumption|(refine⟨⟨?_,?_,?_,?_,?_⟩,⟨?_,?_,?_,?_,?_⟩,?_,?_⟩<;>assumption)|exact b.out _ c.drew|exact b.out _ a3)
   (first
    | (go_at_call 154;refine(T.out _ ?_).mono ?_;exact c.drew;rintro e G ⟨rfl,Z⟩;have d:=Bj c.drew Z;have a3:=d))
  all_goals
   have⟨⟨f,g,h,i,j⟩,⟨k,l,m,n,o⟩,L,M⟩:=b.out G d;go_wp2;go_region_held (fun a=>(Ce a p 0 (.iface t1 y1)/\Ce a p 1 (Pt n1)/\Ce a p 2 (.iface r1 z1)/\Ce a p 3 (Pt m1)/\Ce a p 6 (Fv f1 k1))/\(Ce a q 0 (.iface t2 y2)/\Ce a q 1 (Pt n2)/\Ce a q 2 (.iface r2 z2)/\Ce a q 3 (Pt m2)/\Ce a q 6 (Fv f2 k2))/\Ce a bf 0 (Pt p)/\Ce a br 0 (Pt q)) (first|assumption|(refine⟨⟨?_,?_,?_,?_,?_⟩,⟨?_,?_,?_,?_,?_⟩,?_,?_⟩<;>assumption)|exact b.out _ d.drew|exact b.out _ O)
    (first
     | (refine(R.out _ ?_).mono ?_;exact d.drew;rintro e P ⟨rfl,a0⟩;have z:=Bj d.drew a0;have O:=z)
     | (refine(S.out _ z).mono ?_;rintro e Q ⟨rfl,a1⟩;have N:=Bj z a1;have O:=N))
   all_goals
    go_wp2;go_ret;exact⟨by show Ending.returned (.string ((Ba X)++⟨Y.toArray⟩))=_;rw[O4],N⟩
theorem mQs (x:Lu)
  (n:Blk w p (J2 t1 y1 n1 r1 z1 m1 g1 c1 (.func (.func f1) #[] k1)) 98) (o:Blk w q (J2 t2 y2 n2 r2 z2 m2 g2 (.func (.func f2) #[] k2) d2) 98)
  (J:∀(x y:Value) (W:World),(callFunc f1 (#[x,y]++k1)).run Tryz.prog W=.ok (.enter f1 (#[x,y]++k1)) W) (K:∀(x:Value) (W:World),(callFunc f2 (#[x]++k2)).run Tryz.prog W=.ok (.enter f2 (#[x]++k2)) W)
  (z:∀W,Bw w W->Calls Tryz.prog 52 #[.agg #[.iface t1 y1,Pt n1,.iface r1 z1,Pt m1],A4 x] W fun e r=>∃b:Bool,e=.returned (.bool b)/\(b=true↔A)/\Bw W r)
  (u:A->∀W,Bw w W->Calls Tryz.prog f1 (#[A4 x,A4 s]++k1) W (Rt (A4 Z) W))
  (v:¬A->∀W,Bw w W->Calls Tryz.prog f2 (#[A4 x]++k2) W (Rt (A4 Z) W)) :
  Calls Tryz.prog 139 #[Pt p,Pt q,A4 x,A4 s] w fun e r=>e=.returned (A4 Z)/\Bw w r:=by
 have B:Hid (∀W:World,Bw w W->(Ce W p 0 (.iface t1 y1)/\Ce W p 1 (Pt n1)/\Ce W p 2 (.iface r1 z1)/\Ce W p 3 (Pt m1)/\Ce W p 6 (Fv f1 k1))/\Ce W q 5 (Fv f2 k2)):=fun W E=>by
  have⟨f,g,i,j,_,_,k⟩:=(n.below E n.lt).seven;have⟨_,_,_,_,_,l,_⟩:=(o.below E o.lt).seven;exact⟨⟨f,g,i,j,k⟩,l⟩
 have C:=z w Br;have G:Hid _:=u;have H:Hid _:=v;have⟨⟨f,g,i,j,k⟩,l⟩:=B.out w Br;go_enter Tryz.func139,Tryz.ntmps139;go_wp2_with fail;refine C.mono ?_;rintro e t ⟨b,rfl,F,c⟩;have d:Hid _:=F;have⟨⟨f,g,i,j,k⟩,l⟩:=B.out t c;clear F;cases b with
 | true=>
  have a:=G.out (d.out.1 rfl) t c;go_wp2;refine a.mono ?_;rintro e I ⟨rfl,m⟩;go_wp2;go_ret;exact⟨rfl,Bj c m⟩
 | false=>
  have a:=H.out (fun h=>(by have:=d.out.2 h;cases this)) t c;go_wp2;refine a.mono ?_;rintro e I ⟨rfl,m⟩;go_wp2;go_ret;exact⟨rfl,Bj c m⟩
theorem aXs (x:Lu)
  (n:Blk w p (J2 t1 y1 n1 r1 z1 m1 g1 c1 d1) 98) (m:Blk w bf #[Pt p] 78) (o:Blk w br #[Pt q] 78)
  (y:∀W,Bw w W->Calls Tryz.prog 49 #[.agg #[.iface t1 y1,Pt n1,.iface r1 z1,Pt m1],A4 s] W fun e r=>∃b:Bool,e=.returned (.bool b)/\(b=true↔A)/\Bw W r)
  (u:A->∀W,Bw w W->Calls Tryz.prog 139 #[Pt p,Pt q,A4 x,A4 s] W (Rt (A4 Z) W))
  (v:¬A->∀W,Bw w W->Calls Tryz.prog 139 #[Pt q,Pt p,A4 x,A4 s] W (Rt (A4 Z) W)) :
  Calls Tryz.prog 138 #[A4 x,A4 s,Pt bf,Pt br] w fun e r=>e=.returned (A4 Z)/\Bw w r:=by
 have z:Hid (∀W:World,Bw w W->(Ce W p 0 (.iface t1 y1)/\Ce W p 1 (Pt n1)/\Ce W p 2 (.iface r1 z1)/\Ce W p 3 (Pt m1))/\Ce W bf 0 (Pt p)/\Ce W br 0 (Pt q)):=fun W k=>by
  have⟨f,g,i,j,_,_,_⟩:=(n.below k n.lt).seven;exact⟨⟨f,g,i,j⟩,(m.below k m.lt).cell 0,(o.below k o.lt).cell 0⟩
 have B:=y w Br;have E:Hid _:=u;have F:Hid _:=v;have⟨⟨f,g,i,j⟩,G,H⟩:=z.out w Br;go_enter Tryz.func138,Tryz.ntmps138;go_wp2_with fail;refine B.mono ?_;rintro e t ⟨b,rfl,C,c⟩;have d:Hid _:=C;have⟨⟨f,g,i,j⟩,G,H⟩:=z.out t c;cases b with
 | true=>
  have a:=E.out (d.out.1 rfl) t c;go_wp2_with fail;refine a.mono ?_;rintro e I ⟨rfl,l⟩;go_wp2;go_ret;exact⟨rfl,Bj c l⟩
 | false=>
  have a:=F.out (fun h=>(by have:=d.out.2 h;cases this)) t c;go_wp2_with fail;refine a.mono ?_;rintro e I ⟨rfl,l⟩;go_wp2;go_ret;exact⟨rfl,Bj c l⟩
variable {G:Nat->Prop}{X Y u v:Lu}{bf br n3 q:Nat}{d:Ls.D}{p' q':Pat}{t3:TypeId}{x1 x2 y3:Value}(a:Ln)(x:Lu)(s:By)(Z:Lu)(b:Ln)(w:World)(A:Prop)(R:World->Option Addr->Nat->Nat->Prop)(ws:Lu)(k:Nat)(e:Ls.D)(val:Lu->Lu->Lu)(p:Lu->Prop)(L:Nat)(l:Ln)(t1 t2 r1:TypeId)(y1:Value)(r2:TypeId)(y2 z1 z2:Value)(n1 n2 m1 m2:Nat)(c1 d1 c2:Value)(f1:Nat)(d2:Value)(k1:Array Value)(f2:Nat)(k2:Array Value)
theorem uQ5 (x:Lu)(p q n o:Nat)
  (t:Blk w p (J2 t1 y1 n1 r1 z1 m1 (.func (.func f1) #[] k1) c1 d1) 98) (u:Blk w q (J2 t2 y2 n2 r2 z2 m2 (.func (.func f2) #[] k2) c2 d2) 98) (s:Blk w n #[Pt p] 78) (v:Blk w o #[Pt q] 78)
  (N:∀(x:Value) (W:World),(callFunc f1 (#[x]++k1)).run Tryz.prog W=.ok (.enter f1 (#[x]++k1)) W) (O:∀(x:Value) (W:World),(callFunc f2 (#[x]++k2)).run Tryz.prog W=.ok (.enter f2 (#[x]++k2)) W)
  (E:∀W,Bw w W->Calls Tryz.prog 49 #[.agg #[.iface t1 y1,Pt n1,.iface r1 z1,Pt m1],A4 x] W fun e y=>∃b:Bool,e=.returned (.bool b)/\(b=true↔A)/\Bw W y)
  (B:A->∀W,Bw w W->Calls Tryz.prog f1 (#[A4 x]++k1) W (Rt (A4 Z) W))
  (C:¬A->∀W,Bw w W->Calls Tryz.prog f2 (#[A4 x]++k2) W (Rt (A4 Z) W)) :
  Calls Tryz.prog 136 #[A4 x,Pt n,Pt o] w fun e y=>e=.returned (A4 Z)/\Bw w y:=by
 have F:Hid (∀W:World,Bw w W->(Ce W p 0 (.iface t1 y1)/\Ce W p 1 (Pt n1)/\Ce W p 2 (.iface r1 z1)/\Ce W p 3 (Pt m1)/\Ce W p 4 (Fv f1 k1))/\Ce W q 4 (Fv f2 k2)/\Ce W n 0 (Pt p)/\Ce W o 0 (Pt q)):=fun W f=>by
  have⟨g,i,j,k,l,_,_⟩:=(t.below f t.lt).seven;have⟨_,_,_,_,m,_,_⟩:=(u.below f u.lt).seven;exact⟨⟨g,i,j,k,l⟩,m,(s.below f s.lt).cell 0,(v.below f v.lt).cell 0⟩
 have G:=E w Br;have I:Hid _:=B;have J:Hid _:=C;have⟨⟨g,i,j,k,l⟩,m,K,L⟩:=F.out w Br;go_enter Tryz.func136,Tryz.ntmps136;go_wp2_with fail;refine G.mono ?_;clear G;rintro e z ⟨b,rfl,H,c⟩;have d:Hid (b=true↔A):=H;obtain⟨⟨g,i,j,k,l⟩,m,K,L⟩:=F.out z c;clear H;cases b with
 | true=>
  have a:=I.out (d.out.1 rfl) z c;clear d;go_wp2_with fail;refine a.mono ?_;clear a;rintro e M ⟨rfl,r⟩;go_wp2_with fail;go_ret;exact⟨rfl,Bj c r⟩
 | false=>
  have a:=J.out (fun h=>(by have:=d.out.2 h;cases this)) z c;clear d;go_wp2_with fail;refine a.mono ?_;clear a;rintro e M ⟨rfl,r⟩;go_wp2_with fail;go_ret;exact⟨rfl,Bj c r⟩
theorem tQn (x:Lu)(p q n o:Nat)
  (t:Blk w p (J2 r1 z1 m1 t1 y1 n1 c1 (.func (.func f1) #[] k1) d1) 98) (u:Blk w q (J2 r2 z2 m2 t2 y2 n2 c2 (.func (.func f2) #[] k2) d2) 98) (s:Blk w n #[Pt p] 78) (v:Blk w o #[Pt q] 78)
  (N:∀(x:Value) (W:World),(callFunc f1 (#[x]++k1)).run Tryz.prog W=.ok (.enter f1 (#[x]++k1)) W) (O:∀(x:Value) (W:World),(callFunc f2 (#[x]++k2)).run Tryz.prog W=.ok (.enter f2 (#[x]++k2)) W)
  (E:∀W,Bw w W->Calls Tryz.prog 52 #[.agg #[.iface r1 z1,Pt m1,.iface t1 y1,Pt n1],A4 x] W fun e y=>∃b:Bool,e=.returned (.bool b)/\(b=true↔A)/\Bw W y)
  (B:A->∀W,Bw w W->Calls Tryz.prog f1 (#[A4 x]++k1) W (Rt (A4 Z) W))
  (C:¬A->∀W,Bw w W->Calls Tryz.prog f2 (#[A4 x]++k2) W (Rt (A4 Z) W)) :
  Calls Tryz.prog 137 #[A4 x,Pt n,Pt o] w fun e y=>e=.returned (A4 Z)/\Bw w y:=by
 have F:Hid (∀W:World,Bw w W->(Ce W p 0 (.iface r1 z1)/\Ce W p 1 (Pt m1)/\Ce W p 2 (.iface t1 y1)/\Ce W p 3 (Pt n1)/\Ce W p 5 (Fv f1 k1))/\Ce W q 5 (Fv f2 k2)/\Ce W n 0 (Pt p)/\Ce W o 0 (Pt q)):=fun W f=>by
  have⟨g,i,j,k,_,l,_⟩:=(t.below f t.lt).seven;have⟨_,_,_,_,_,m,_⟩:=(u.below f u.lt).seven;exact⟨⟨g,i,j,k,l⟩,m,(s.below f s.lt).cell 0,(v.below f v.lt).cell 0⟩
 have G:=E w Br;have I:Hid _:=B;have J:Hid _:=C;have⟨⟨g,i,j,k,l⟩,m,K,L⟩:=F.out w Br;go_enter Tryz.func137,Tryz.ntmps137;go_wp2_with fail;refine G.mono ?_;rintro e z ⟨b,rfl,H,c⟩;have d:Hid _:=H;have⟨⟨g,i,j,k,l⟩,m,K,L⟩:=F.out z c;cases b with
 | true=>
  have a:=I.out (d.out.1 rfl) z c;go_wp2;refine a.mono ?_;rintro e M ⟨rfl,r⟩;go_wp2;go_ret;exact⟨rfl,Bj c r⟩
 | false=>
  have a:=J.out (fun h=>(by have:=d.out.2 h;cases this)) z c;go_wp2;refine a.mono ?_;rintro e M ⟨rfl,r⟩;go_wp2;go_ret;exact⟨rfl,Bj c r⟩
theorem uQ3 (s:Lu)(p h f:Nat)(G:Value)
  (m:Blk w p (J2 t1 y1 n1 r1 z1 m1 (.func (.func f1) #[] k1) c1 d1) 98) (l:Blk w h #[Pt p] 78) (g:Blk w f #[.iface t2 y2,Pt n2,G,z2] 94)
  (q:∀W,Bw w W->Calls Tryz.prog 196 #[C8 (.iface t1 y1) n1,C8 (.iface t2 y2) n2,A4 s] W fun e d=>∃a b c,e=.returned (.slice a b c)/\R d a b c/\Bw W d)
  (o:∀W a b c,Bw w W->R W a b c->Calls Tryz.prog 195 #[.slice a b c,.func (.func f1) #[] k1] W (Rt (A4 Z) W)) :
  Calls Tryz.prog 194 #[A4 s,Pt h,Pt f] w fun e d=>e=.returned (A4 Z)/\Bw w d:=by
 have j:Hid (∀W:World,Bw w W->(Ce W p 0 (.iface t1 y1)/\Ce W p 1 (Pt n1)/\Ce W p 4 (Fv f1 k1))/\(Ce W f 0 (.iface t2 y2)/\Ce W f 1 (Pt n2))/\Ce W h 0 (Pt p)):=fun W i=>by
  have⟨r,t,_,_,u,_,_⟩:=(m.below i m.lt).seven;exact⟨⟨r,t,u⟩,⟨(g.below i g.lt).cell 0,(g.below i g.lt).cell 1⟩,(l.below i l.lt).cell 0⟩
 have B:Hid _:=q;have A:Hid _:=o;have⟨⟨r,t,u⟩,⟨H,I⟩,J⟩:=j.out w Br;go_enter Tryz.func194,Tryz.ntmps194;go_wp2;go_region_held (fun d=>(Ce d p 0 (.iface t1 y1)/\Ce d p 1 (Pt n1)/\Ce d p 4 (Fv f1 k1))/\(Ce d f 0 (.iface t2 y2)/\Ce d f 1 (Pt n2))/\Ce d h 0 (Pt p)) (first|assumption|(refine⟨⟨?_,?_,?_⟩,⟨?_,?_⟩,?_⟩<;>assumption)|exact j.out _ Br.drew|exact j.out _ y)
  (first
   | (go_at_call 196;refine(B.out _ ?_).mono ?_;exact Br.drew;rintro e n ⟨a,b,c,rfl,v,E⟩;have C:Hid _:=v;have k:=Bj Br.drew E;have y:=k)
   | (go_at_call 195;refine(A.out _ a b c k C.out).mono ?_;rintro e z ⟨rfl,F⟩;have x:=Bj k F;have y:=x))
 all_goals
  go_wp2;go_ret;exact⟨rfl,x⟩
theorem tQl (s:Lu)(p h f:Nat)(G:Value)
  (m:Blk w p (J2 r1 z1 m1 t1 y1 n1 c1 (.func (.func f1) #[] k1) d1) 98) (l:Blk w h #[Pt p] 78) (g:Blk w f #[G,z2,.iface t2 y2,Pt n2] 94)
  (q:∀W,Bw w W->Calls Tryz.prog 196 #[C8 (.iface t1 y1) n1,C8 (.iface t2 y2) n2,A4 s] W fun e d=>∃a b c,e=.returned (.slice a b c)/\R d a b c/\Bw W d)
  (o:∀W a b c,Bw w W->R W a b c->Calls Tryz.prog 195 #[.slice a b c,.func (.func f1) #[] k1] W (Rt (A4 Z) W)) :
  Calls Tryz.prog 197 #[A4 s,Pt h,Pt f] w fun e d=>e=.returned (A4 Z)/\Bw w d:=by
 have j:Hid (∀W:World,Bw w W->(Ce W p 2 (.iface t1 y1)/\Ce W p 3 (Pt n1)/\Ce W p 5 (Fv f1 k1))/\(Ce W f 2 (.iface t2 y2)/\Ce W f 3 (Pt n2))/\Ce W h 0 (Pt p)):=fun W i=>by
  have⟨_,_,r,t,_,u,_⟩:=(m.below i m.lt).seven;exact⟨⟨r,t,u⟩,⟨(g.below i g.lt).cell 2,(g.below i g.lt).cell 3⟩,(l.below i l.lt).cell 0⟩
 have B:Hid _:=q;have A:Hid _:=o;have⟨⟨r,t,u⟩,⟨H,I⟩,J⟩:=j.out w Br;go_enter Tryz.func197,Tryz.ntmps197;go_wp2;go_region_held (fun d=>(Ce d p 2 (.iface t1 y1)/\Ce d p 3 (Pt n1)/\Ce d p 5 (Fv f1 k1))/\(Ce d f 2 (.iface t2 y2)/\Ce d f 3 (Pt n2))/\Ce d h 0 (Pt p)) (first|assumption|(refine⟨⟨?_,?_,?_⟩,⟨?_,?_⟩,?_⟩<;>assumption)|exact j.out _ Br.drew|exact j.out _ y)
  (first
   | (go_at_call 196;refine(B.out _ ?_).mono ?_;exact Br.drew;rintro e n ⟨a,b,c,rfl,v,E⟩;have C:Hid _:=v;have k:=Bj Br.drew E;have y:=k)
   | (go_at_call 195;refine(A.out _ a b c k C.out).mono ?_;rintro e z ⟨rfl,F⟩;have x:=Bj k F;have y:=x))
 all_goals
  go_wp2;go_ret;exact⟨rfl,x⟩
theorem O6 {p q:Pat}(a:∀s,inL p s↔inL p' s)(b:∀s,inL q s↔inL q' s):fXb p q↔fXb p' q':=by
 unfold fXb;simp only[a,b]
theorem rQu {p q:Pat}(a:∀s,inL p s↔inL p' s)(b:∀s,inL q s↔inL q' s):jX2 p q↔jX2 p' q':=by
 unfold jX2;simp only[a,b]
theorem mQi {p:Pat}(g:wf p)(h:∀s,inL (eX5 d) s↔inL p s):(¬inL (eX5 d) []/\¬fXb (eX5 d) (eX5 (Ls.rep 5 d)))↔K2 p:=by
 unfold K2;have f:∀s,inL (eX5 (Ls.rep 5 d)) s↔inL (fXl p) s:=fun s=>by
  rw[gXg,fXq];exact gXj h s
 rw[O6 h f,h []];have e:=gXn p g;constructor
 ·rintro ⟨a,b⟩
  refine⟨?_,b⟩;cases c:Ls.empty p with
  | false=>rfl
  | true=>exact absurd (e.1 c) a
 ·rintro ⟨a,b⟩
  exact⟨fun c=>(by rw[e.2 c]at a;cases a),b⟩
theorem eQx {w:World}(k:Old w G){t1 t2:TypeId}{y1 y2:Value}{n1 n2:Nat}(h:Tx w G (.iface t1 y1) n1 d)(j:dsize d<=24)(hs:s.size<=1048576) :
  Calls Tryz.prog 49 #[.agg #[.iface t1 y1,Pt n1,.iface t2 y2,Pt n2],.string s] w fun e m=>∃b:Bool,e=.returned (.bool b)/\(b=true↔inL (eX5 d) s.data.toList)/\Bw w m:=by
 have a:=A5 w (.cells #[.iface t1 y1,Pt n1,.iface t2 y2,Pt n2] 94);have c:=cQ6 s (h.below k a) j hs;have g:Hid _:=a;go_enter Tryz.func49,Tryz.ntmps49;go_wp2_with fail;refine c.mono ?_;rintro e n ⟨b,rfl,f,l⟩;have i:Hid _:=f;go_wp2;go_ret;exact⟨b,rfl,i.out,Bj g.out l⟩
theorem eQz {w:World}(k:Old w G){t1 t2:TypeId}{y1 y2:Value}{n1 n2:Nat}(h:Tx w G (.iface t2 y2) n2 d)(j:dsize d<=24)(hs:s.size<=1048576) :
  Calls Tryz.prog 52 #[.agg #[.iface t1 y1,Pt n1,.iface t2 y2,Pt n2],.string s] w fun e m=>∃b:Bool,e=.returned (.bool b)/\(b=true↔inL (eX5 d) s.data.toList)/\Bw w m:=by
 have a:=A5 w (.cells #[.iface t1 y1,Pt n1,.iface t2 y2,Pt n2] 94);have c:=cQ6 s (h.below k a) j hs;have g:Hid _:=a;go_enter Tryz.func52,Tryz.ntmps52;go_wp2_with fail;refine c.mono ?_;rintro e n ⟨b,rfl,f,l⟩;have i:Hid _:=f;go_wp2;go_ret;exact⟨b,rfl,i.out,Bj g.out l⟩
theorem eXd:Calls Tryz.prog 188 #[A4 x] w fun e a=>e=.returned (A4 x)/\Bw w a:=by
 go_enter Tryz.func188,Tryz.ntmps188;go_wp2;go_ret;exact⟨rfl,Br⟩
abbrev Z9 (g:Nat):Value:=.func (.func 208) #[] #[.pointer (some ⟨g,0,none⟩)]
theorem cQn (w:World):Calls Tryz.prog 187 #[A4 ws] w fun e a=>∃g,e=.returned (Z9 g)/\w.heap.size<=g/\g<a.heap.size/\Blk a g #[A4 ws] 9/\Bw w a:=by
 have d:∀(c:Fn) (first b:Array Value) (w:World),(Instr.makeFunc c first b).run Tryz.prog w=.ok (.func c first b) w:=fun _ _ _ _=>rfl;go_enter Tryz.func187,Tryz.ntmps187;go_wp2;go_ret;exact⟨Hz w,rfl,Nr,by simp,Blk.new w _ _,A5 _ _⟩
theorem jQc (x:Lu)(w:World)(g:Nat)(h:Blk w g #[A4 ws] 9):Calls Tryz.prog 208 #[A4 x,Pt g] w fun e a=>e=.returned (A4 ws)/\Bw w a:=by
 have⟨b,c⟩:=h.one;go_enter Tryz.func208,Tryz.ntmps208;go_wp2;go_ret;exact⟨rfl,Br⟩
theorem nQ9 (G:Nat->Prop)(a:Lu->Lu)(b:∀x,a x=x):Turns w G (.func (.func 188) #[] #[]) p a:=⟨_,_,rfl,fun _ _=>by kernel_rfl,fun W _ _ x _ _=>by
  have:=eXd x W;rw[b];exact this⟩
theorem fQx {w:World}{g:Nat}{a:Lu}(h:Blk w g #[A4 a] 9)(d:G g)(b:Lu->Lu)(e:∀x,b x=a):Turns w G (Z9 g) p b:=⟨_,_,rfl,fun _ _=>by kernel_rfl,fun W c _ x _ _=>by
  have:=jQc a x W g (h.of (c g d));rw[e];exact this⟩
theorem fQf {a b:Ln}(g:gx a+gx b<=1099511627776)(e:X.length<=(u.length+1)*gx a)(f:Y.length<=(v.length+1)*gx b)(h:u.length+v.length<=60):X.length+Y.length<=140737488355328:=by
 have c:(u.length+1)*gx a<=61*gx a:=Nat.mul_le_mul_right _ (by omega);have d:(v.length+1)*gx b<=61*gx b:=Nat.mul_le_mul_right _ (by omega);omega
theorem dX6 (g:OkL 120 a)(i:OkL 120 b)(a0:eX7 a+eX7 b<=24)(K:gx a+gx b<=1099511627776)(n:¬fXb (eX5 (dS a)) (eX5 (dS b))){w:World}{p:Nat}(O:PartV w G p a)(Q:PartV w G q b)
  (I:Blk w bf #[Pt p] 78) (S:Blk w br #[Pt q] 78) (A:G bf) (B:G br) :
  Turns w G (.func (.func 153) #[] #[Pt bf,Pt br]) (inL (eX5 (dS (eX9 a b)))) (A6 (eX9 a b)):=by
 refine⟨_,_,rfl,fun _ _=>by kernel_rfl,fun W f d x V m=>?_⟩;have P:=O.mono (G':=G) (fun _ h=>h) f;have R:=Q.mono (G':=G) (fun _ h=>h) f;have J:=I.of (f bf A);have T:=S.of (f br B);have⟨t1,y1,n1,t2,y2,n2,g1,c1,u1,_,C,E,h4,F,h6,h7⟩:=P;have⟨t3,y3,n3,t4,y4,n4,g2,c2,u2,_,X,Y,k4,Z,k6,k7⟩:=R;have L:inL (eX5 (fXi (dS a) (dS b))) x:=by
  have:dS (eX9 a b)=fXi (dS a) (dS b):=by simp[eX9,dS]
  rw[this]at m;exact m
 obtain⟨u,v,rfl,j,l⟩:=(gXf _ _ _).1 L;rw[List.length_append]at V;obtain⟨y,s1,rfl,s,o⟩:=Turns.at d F;obtain⟨z,s2,rfl,t,r⟩:=Turns.at d Z;have a1:=fX3 a g;have a2:=fX3 b i;have U:A6 (eX9 a b) (u++v)=A6 a u++A6 b v:=by
  have H:=L4 (OkL.src _ g).ok (OkL.src _ i).ok (by rw[<-O6 (fX6 a g) (fX6 b i)];exact n) ((fX6 a g u).1 j) ((fX6 b i v).1 l);simp[eX9,A6,H]
 have N:=fQf K (N2 a u) (N2 b v) (by omega);have:=uQ4 u v _ _ W p q bf br _ _ _ _ _ _ _ _ _ _ _ _ _ _ _ _ y z s1 s2 N C X J T s t
  (fun e c=>aQv (G:=G) (fun k M=>Ll (d k M) c.size) (by omega) (by omega) n j l (by omega) (E.below d c) (Y.below d c))
  (fun e c=>o e c u (by omega) j) (fun e c=>r e c v (by omega) l)
 rw[U];exact this
theorem dX2 (g:OkL 120 a)(i:OkL 120 b)(a0:eX7 a+eX7 b<=24)(K:gx a+gx b<=1099511627776)(n:¬fXb (eX5 (dV a)) (eX5 (dV b))){w:World}{p:Nat}(O:PartV w G p a)(Q:PartV w G q b)
  (I:Blk w bf #[Pt p] 78) (S:Blk w br #[Pt q] 78) (A:G bf) (B:G br) :
  Turns w G (.func (.func 155) #[] #[Pt bf,Pt br]) (inL (eX5 (dV (eX9 a b)))) (A8 (eX9 a b)):=by
 refine⟨_,_,rfl,fun _ _=>by kernel_rfl,fun W f d x V m=>?_⟩;have P:=O.mono (G':=G) (fun _ h=>h) f;have R:=Q.mono (G':=G) (fun _ h=>h) f;have J:=I.of (f bf A);have T:=S.of (f br B);have⟨t1,y1,n1,t2,y2,n2,g1,c1,u1,_,C,h3,E,h5,F,h7⟩:=P;have⟨t3,y3,n3,t4,y4,n4,g2,c2,u2,_,X,k3,Y,k5,Z,k7⟩:=R;have L:inL (eX5 (fXi (dV a) (dV b))) x:=by
  have:dV (eX9 a b)=fXi (dV a) (dV b):=by simp[eX9,dV]
  rw[this]at m;exact m
 obtain⟨u,v,rfl,j,l⟩:=(gXf _ _ _).1 L;rw[List.length_append]at V;obtain⟨y,s1,rfl,s,o⟩:=Turns.at d F;obtain⟨z,s2,rfl,t,r⟩:=Turns.at d Z;have a1:=fXz a g;have a2:=fXz b i;have U:A8 (eX9 a b) (u++v)=A8 a u++A8 b v:=by
  have H:=L4 (OkL.view _ g).ok (OkL.view _ i).ok (by rw[<-O6 (fX8 a g) (fX8 b i)];exact n) ((fX8 a g u).1 j) ((fX8 b i v).1 l);simp[eX9,A8,H]
 have N:=fQf K (K1 a u) (K1 b v) (by omega);have:=tQm u v _ _ W p q bf br _ _ _ _ _ _ _ _ _ _ _ _ _ _ _ _ y z s1 s2 N C X J T s t
  (fun e c=>aQv (G:=G) (fun k M=>Ll (d k M) c.size) (by omega) (by omega) n j l (by omega) (E.below d c) (Y.below d c))
  (fun e c=>o e c u (by omega) j) (fun e c=>r e c v (by omega) l)
 rw[U];exact this
theorem dX4 (g:OkL 120 a)(i:OkL 120 b)(a0:eX7 a+eX7 b<=24)(a1:gx a+gx b<=1099511627776)(n:¬fXb (eX5 (dS a)) (eX5 (dS b))){w:World}{p:Nat}(N:PartV w G p a)(P:PartV w G q b)
  (I:Blk w bf #[Pt p] 78) (R:Blk w br #[Pt q] 78) (A:G bf) (B:G br) :
  Turns w G (.func (.func 190) #[] #[Pt bf,Pt br]) (inL (eX5 (dS (fXc a b)))) (A6 (fXc a b)):=by
 refine⟨_,_,rfl,fun _ _=>by kernel_rfl,fun W f d x U m=>?_⟩;have O:=N.mono (G':=G) (fun _ h=>h) f;have Q:=P.mono (G':=G) (fun _ h=>h) f;have J:=I.of (f bf A);have S:=R.of (f br B);have⟨t1,y1,n1,t2,y2,n2,g1,Z,u1,_,C,E,h4,F,h6,h7⟩:=O;have⟨t3,y3,n3,t4,y4,n4,g2,c2,u2,_,V,X,k4,Y,k6,k7⟩:=Q;have K:inL (eX5 (fXi (dS a) (dS b))) x:=by
  have:dS (fXc a b)=fXi (dS a) (dS b):=by simp[fXc,dS]
  rw[this]at m;exact m
 obtain⟨u,v,rfl,j,l⟩:=(gXf _ _ _).1 K;rw[List.length_append]at U;obtain⟨y,s1,rfl,s,o⟩:=Turns.at d F;obtain⟨z,s2,rfl,t,r⟩:=Turns.at d Y;have a2:=fX3 a g;have a3:=fX3 b i;have T:A6 (fXc a b) (u++v)=A6 b v++A6 a u:=by
  have H:=L4 (OkL.src _ g).ok (OkL.src _ i).ok (by rw[<-O6 (fX6 a g) (fX6 b i)];exact n) ((fX6 a g u).1 j) ((fX6 b i v).1 l);simp[fXc,A6,H]
 have M:=fQf (a:=b) (b:=a) (by omega) (N2 b v) (N2 a u) (by omega);have:=uQ2 u v _ _ W p q bf br _ _ _ _ _ _ _ _ _ _ _ _ _ _ _ _ y z s1 s2 M C V J S s t
  (fun e c=>aQv (G:=G) (fun k L=>Ll (d k L) c.size) (by omega) (by omega) n j l (by omega) (E.below d c) (X.below d c))
  (fun e c=>r e c v (by omega) l) (fun e c=>o e c u (by omega) j)
 rw[T];exact this
theorem dX0 (g:OkL 120 a)(i:OkL 120 b)(a0:eX7 a+eX7 b<=24)(K:gx a+gx b<=1099511627776)(n:¬fXb (eX5 (dV b)) (eX5 (dV a))){w:World}{p:Nat}(O:PartV w G p a)(Q:PartV w G q b)
  (I:Blk w bf #[Pt p] 78) (S:Blk w br #[Pt q] 78) (A:G bf) (B:G br) :
  Turns w G (.func (.func 191) #[] #[Pt br,Pt bf]) (inL (eX5 (dV (fXc a b)))) (A8 (fXc a b)):=by
 refine⟨_,_,rfl,fun _ _=>by kernel_rfl,fun W f d x V m=>?_⟩;have P:=O.mono (G':=G) (fun _ h=>h) f;have R:=Q.mono (G':=G) (fun _ h=>h) f;have J:=I.of (f bf A);have T:=S.of (f br B);have⟨t1,y1,n1,t2,y2,n2,g1,c1,u1,_,C,h3,E,h5,F,h7⟩:=P;have⟨t3,y3,n3,t4,y4,n4,g2,c2,u2,_,X,k3,Y,k5,Z,k7⟩:=R;have L:inL (eX5 (fXi (dV b) (dV a))) x:=by
  have:dV (fXc a b)=fXi (dV b) (dV a):=by simp[fXc,dV]
  rw[this]at m;exact m
 obtain⟨u,v,rfl,j,l⟩:=(gXf _ _ _).1 L;rw[List.length_append]at V;obtain⟨y,s1,rfl,s,o⟩:=Turns.at d F;obtain⟨z,s2,rfl,t,r⟩:=Turns.at d Z;have a1:=fXz a g;have a2:=fXz b i;have U:A8 (fXc a b) (u++v)=A8 a v++A8 b u:=by
  have H:=L4 (OkL.view _ i).ok (OkL.view _ g).ok (by rw[<-O6 (fX8 b i) (fX8 a g)];exact n) ((fX8 b i u).1 j) ((fX8 a g v).1 l);simp[fXc,A8,H]
 have N:=fQf K (K1 a v) (K1 b u) (by omega);have:=tQk u v _ _ W p q bf br _ _ _ _ _ _ _ _ _ _ _ _ _ _ _ _ y z s1 s2 N C X J T s t
  (fun e c=>aQv (G:=G) (fun k M=>Ll (d k M) c.size) (by omega) (by omega) n j l (by omega) (Y.below d c) (E.below d c))
  (fun e c=>o e c v (by omega) l) (fun e c=>r e c u (by omega) j)
 rw[U];exact this
theorem dX7 (i:OkL 120 a)(Y:eX7 a+eX7 b<=24){w:World}{p:Nat}(J:PartV w G p a)(L:PartV w G q b)
  (C:Blk w bf #[Pt p] 78) (N:Blk w br #[Pt q] 78) (v:G bf) (y:G br) :
  Turns w G (.func (.func 136) #[] #[Pt bf,Pt br]) (inL (eX5 (dS (fXn a b)))) (A6 (fXn a b)):=by
 refine⟨_,_,rfl,fun _ _=>by kernel_rfl,fun W g f x m l=>?_⟩;have K:=J.mono (G':=G) (fun _ h=>h) g;have M:=L.mono (G':=G) (fun _ h=>h) g;have E:=C.of (g bf v);have O:=N.of (g br y);have⟨t1,y1,n1,t2,y2,n2,V,T,u1,_,z,A,Z,B,h6,h7⟩:=K;have⟨t3,y3,n3,t4,y4,n4,X,U,u2,_,R,k3,k4,S,k6,k7⟩:=M;have F:inL (eX5 (fXv (dS a) (dS b))) x:=by
  have:dS (fXn a b)=fXv (dS a) (dS b):=by simp[fXn,dS]
  rw[this]at l;exact l
 have I:=(gXv _ _ _).1 F;obtain⟨t,s1,rfl,r,n⟩:=Turns.at f B;obtain⟨u,s2,rfl,s,o⟩:=Turns.at f S;have a0:=fX3 a i;have j:=(gXb _ (OkL.src _ i).ok x).trans (fX6 a i x).symm;have P:inL (eX5 (dS a)) x->A6 (fXn a b) x=A6 a x:=fun h=>by simp[fXn,A6,j.2 h]
 have Q:¬inL (eX5 (dS a)) x->A6 (fXn a b) x=A6 b x:=fun h=>by
  have:¬Ls.is (eX8 a) x=true:=fun e=>h (j.1 e);simp[fXn,A6,this]
 exact uQ5 (A6 (fXn a b) x) W (inL (eX5 (dS a)) x) _ _ _ _ _ _ _ _ _ _ _ _ _ _ _ t _ s1 u s2 x p q bf br z R E O r s
  (fun d c=>eQx (G:=G) ⟨x.toArray⟩ (fun k H=>Ll (f k H) c.size) (A.below f c) (by omega) (by simp[ByteArray.size];omega))
  (fun h d c=>by rw[P h];exact n d c x m h) (fun h d c=>by rw[Q h];exact o d c x m (I.resolve_left h))
theorem dX3 (i:OkL 120 a)(Y:eX7 a+eX7 b<=24){w:World}{p:Nat}(J:PartV w G p a)(L:PartV w G q b)
  (C:Blk w bf #[Pt p] 78) (N:Blk w br #[Pt q] 78) (v:G bf) (y:G br) :
  Turns w G (.func (.func 137) #[] #[Pt bf,Pt br]) (inL (eX5 (dV (fXn a b)))) (A8 (fXn a b)):=by
 refine⟨_,_,rfl,fun _ _=>by kernel_rfl,fun W g f x m l=>?_⟩;have K:=J.mono (G':=G) (fun _ h=>h) g;have M:=L.mono (G':=G) (fun _ h=>h) g;have E:=C.of (g bf v);have O:=N.of (g br y);have⟨t1,y1,n1,t2,y2,n2,V,T,u1,_,z,Z,A,h5,B,h7⟩:=K;have⟨t3,y3,n3,t4,y4,n4,X,U,u2,_,R,k3,k4,k5,S,k7⟩:=M;have F:inL (eX5 (fXv (dV a) (dV b))) x:=by
  have:dV (fXn a b)=fXv (dV a) (dV b):=by simp[fXn,dV]
  rw[this]at l;exact l
 have I:=(gXv _ _ _).1 F;obtain⟨t,s1,rfl,r,n⟩:=Turns.at f B;obtain⟨u,s2,rfl,s,o⟩:=Turns.at f S;have a0:=fXz a i;have j:=(gXb _ (OkL.view _ i).ok x).trans (fX8 a i x).symm;have P:inL (eX5 (dV a)) x->A8 (fXn a b) x=A8 a x:=fun h=>by simp[fXn,A8,j.2 h]
 have Q:¬inL (eX5 (dV a)) x->A8 (fXn a b) x=A8 b x:=fun h=>by
  have:¬Ls.is (eX6 a) x=true:=fun e=>h (j.1 e);simp[fXn,A8,this]
 exact tQn (A8 (fXn a b) x) W (inL (eX5 (dV a)) x) _ _ _ _ _ _ _ _ _ _ _ _ _ _ _ t _ s1 u s2 x p q bf br z R E O r s
  (fun d c=>eQz (G:=G) ⟨x.toArray⟩ (fun k H=>Ll (f k H) c.size) (A.below f c) (by omega) (by simp[ByteArray.size];omega))
  (fun h d c=>by rw[P h];exact n d c x m h) (fun h d c=>by rw[Q h];exact o d c x m (I.resolve_left h))
theorem dX5 (E:l=⟨k,e,ws,[a]⟩)(c:OkL 120 a)(a7:eX7 a<=24)(a8:gx l<=1099511627776)(x:¬inL (eX5 (dS a)) [])(F:¬fXb (eX5 (dS a)) (eX5 (Ls.rep 5 (dS a)))){w:World}{p:Nat}(hp:PartV w G p a)(S:Tx w G (.iface t3 y3) n3 (Ls.rep 5 (dS a)))
  (V:Blk w bf #[Pt p] 78) (hr:Blk w br #[.iface t3 y3,Pt n3,x1,x2] 94) (L:G bf) (M:G br) :
  Turns w G (.func (.func 194) #[] #[Pt bf,Pt br]) (inL (eX5 (dS l))) (A6 l):=by
 refine⟨_,_,rfl,fun _ _=>by kernel_rfl,fun W m j a6 hx C=>?_⟩;have a1:=hp.mono (G':=G) (fun _ h=>h) m;have R:=S.mono (G':=G) (fun _ h=>h) m;have X:=V.of (m bf L);have a3:=hr.of (m br M);have⟨t1,y1,n1,t2,y2,n2,g1,c1,u1,_,z,O,h4,P,h6,h7⟩:=a1;have Y:inL (eX5 (Ls.rep 5 (dS a))) a6:=by
  have:dS l=Ls.rep 5 (dS a):=by rw[E,dS]
  rw[this]at C;exact C
 obtain⟨b,rfl,o⟩:=(gXg _ _).1 Y;obtain⟨B,s1,rfl,K,I⟩:=Turns.at j P;have a9:=fX3 a c;have a4:∀s,inL (eX5 (Ls.rep 5 (dS a))) s↔inL (fXl (eX8 a)) s:=fun s=>by
  rw[gXg,fXq];exact gXj (fX6 a c) s
 have H:A6 l b.flatten=(b.map (A6 a)).flatten:=by
  have n:=OkL.src _ c;rw[E,A6,X0 n.ok (hXf n).ok (fun h=>x ((fX6 a c _).2 h)) (by rw[<-O6 (fX6 a c) a4];exact F) b (fun y g=>(fX6 a c y).1 (o y g)) _ Nr]
 have a0:((b.map (A6 a)).flatten).length<=70368744177664:=by
  rw[<-H];have N:=N2 l b.flatten;have z:(b.flatten.length+1)*gx l<=61*gx l:=Nat.mul_le_mul_right _ (by omega);omega
 have a2:∀y,y∈b->y.length<=60:=fun y g=>by
  have:=(List.sublist_flatten_of_mem g).length_le;omega
 have T:b.length<=1048576:=by
  have hq:∀d:List (Lu),(∀y,y∈d->inL (eX5 (dS a)) y)->d.length<=d.flatten.length:=by
   intro d;induction d with
   | nil=>simp
   | cons q d ih=>
    intro h;have N:0<q.length:=List.length_pos_iff.2 (fun e=>x (by have:=h q (List.mem_cons_self ..);rw[e]at this;exact this));have z:=ih (fun y g=>h y (List.mem_cons_of_mem _ g));rw[List.flatten_cons,List.length_append,List.length_cons];omega
  have:=hq b o;omega
 rw[H];exact uQ3 _ W (fun i r t u=>∃v,i.ownsRow v 9 1 (.slice r t u) b.length (b.map A4)) _ _ _ _ _ _ _ _ _ _ _ _ B s1 b.flatten p bf br _ z X a3
  (fun i f=>(fQi (G:=G) (fun k Z=>Ll (j k Z) f.size) (by omega) x F o (by omega) (O.below j f) (R.below j f)).mono (fun e w' ⟨r,t,u,U,A,n⟩=>⟨r,t,u,U,⟨_,A⟩,n⟩))
  (fun i r t u f ⟨v,A⟩=>lQx b B s1 v T (A6 a) a0 _ i A K (fun J a5 hj Q=>I J (Bj f Q) b[a5] (a2 _ (List.getElem_mem _)) (o _ (List.getElem_mem _))))
theorem dX1 (E:l=⟨k,e,ws,[a]⟩)(c:OkL 120 a)(a7:eX7 a<=24)(a8:gx l<=1099511627776)(x:¬inL (eX5 (dV a)) [])(F:¬fXb (eX5 (dV a)) (eX5 (Ls.rep 5 (dV a)))){w:World}{p:Nat}(hp:PartV w G p a)(S:Tx w G (.iface t3 y3) n3 (Ls.rep 5 (dV a)))
  (V:Blk w bf #[Pt p] 78) (hr:Blk w br #[x1,x2,.iface t3 y3,Pt n3] 94) (L:G bf) (M:G br) :
  Turns w G (.func (.func 197) #[] #[Pt bf,Pt br]) (inL (eX5 (dV l))) (A8 l):=by
 refine⟨_,_,rfl,fun _ _=>by kernel_rfl,fun W m j a6 hx C=>?_⟩;have a1:=hp.mono (G':=G) (fun _ h=>h) m;have R:=S.mono (G':=G) (fun _ h=>h) m;have X:=V.of (m bf L);have a3:=hr.of (m br M);have⟨t1,y1,n1,t2,y2,n2,g1,c1,u1,_,z,h3,O,h5,P,h7⟩:=a1;have Y:inL (eX5 (Ls.rep 5 (dV a))) a6:=by
  have:dV l=Ls.rep 5 (dV a):=by rw[E,dV]
  rw[this]at C;exact C
 obtain⟨b,rfl,o⟩:=(gXg _ _).1 Y;obtain⟨B,s1,rfl,K,I⟩:=Turns.at j P;have a9:=fXz a c;have a4:∀s,inL (eX5 (Ls.rep 5 (dV a))) s↔inL (fXl (eX6 a)) s:=fun s=>by
  rw[gXg,fXq];exact gXj (fX8 a c) s
 have H:A8 l b.flatten=(b.map (A8 a)).flatten:=by
  have n:=OkL.view _ c;rw[E,A8,X0 n.ok (hXf n).ok (fun h=>x ((fX8 a c _).2 h)) (by rw[<-O6 (fX8 a c) a4];exact F) b (fun y g=>(fX8 a c y).1 (o y g)) _ Nr]
 have a0:((b.map (A8 a)).flatten).length<=70368744177664:=by
  rw[<-H];have N:=K1 l b.flatten;have z:(b.flatten.length+1)*gx l<=61*gx l:=Nat.mul_le_mul_right _ (by omega);omega
 have a2:∀y,y∈b->y.length<=60:=fun y g=>by
  have:=(List.sublist_flatten_of_mem g).length_le;omega
 have T:b.length<=1048576:=by
  have hq:∀d:List (Lu),(∀y,y∈d->inL (eX5 (dV a)) y)->d.length<=d.flatten.length:=by
   intro d;induction d with
   | nil=>simp
   | cons q d ih=>
    intro h;have N:0<q.length:=List.length_pos_iff.2 (fun e=>x (by have:=h q (List.mem_cons_self ..);rw[e]at this;exact this));have z:=ih (fun y g=>h y (List.mem_cons_of_mem _ g));rw[List.flatten_cons,List.length_append,List.length_cons];omega
  have:=hq b o;omega
 rw[H];exact tQl _ W (fun i r t u=>∃v,i.ownsRow v 9 1 (.slice r t u) b.length (b.map A4)) _ _ _ _ _ _ _ _ _ _ _ _ B s1 b.flatten p bf br _ z X a3
  (fun i f=>(fQi (G:=G) (fun k Z=>Ll (j k Z) f.size) (by omega) x F o (by omega) (O.below j f) (R.below j f)).mono (fun e w' ⟨r,t,u,U,A,n⟩=>⟨r,t,u,U,⟨_,A⟩,n⟩))
  (fun i r t u f ⟨v,A⟩=>lQx b B s1 v T (A8 a) a0 _ i A K (fun J a5 hj Q=>I J (Bj f Q) b[a5] (a2 _ (List.getElem_mem _)) (o _ (List.getElem_mem _))))
theorem dXx (G:Nat->Prop)(q:Lu->Prop)(a:∀x y,val x y=x):Turns2 w G (.func (.func 189) #[] #[]) p q val:=by
 refine⟨_,_,rfl,fun _ _ _=>by kernel_rfl,fun W _ _ x y _ _ _ _=>?_⟩;rw[a];show Ca 189 #[A4 x,A4 y] W _;go_enter Tryz.func189,Tryz.ntmps189;go_wp2;go_ret;exact⟨rfl,Br⟩
theorem dXy (G:Nat->Prop)(q:Lu->Prop)(a:∀x y,val x y=y):Turns2 w G (.func (.func 204) #[] #[]) p q val:=by
 refine⟨_,_,rfl,fun _ _ _=>by kernel_rfl,fun W _ _ x y _ _ _ _=>?_⟩;rw[a];show Ca 204 #[A4 x,A4 y] W _;go_enter Tryz.func204,Tryz.ntmps204;go_wp2;go_ret;exact⟨rfl,Br⟩
theorem dXz (G:Nat->Prop)(q:Lu->Prop)(a:∀x y,val x y=[]):Turns2 w G (.func (.func 205) #[] #[]) p q val:=by
 refine⟨_,_,rfl,fun _ _ _=>by kernel_rfl,fun W _ _ x y _ _ _ _=>?_⟩;rw[a];show Ca 205 #[A4 x,A4 y] W _;go_enter Tryz.func205,Tryz.ntmps205;go_wp2;go_ret;exact⟨rfl,Br⟩
theorem lQ8 {a b:Ln}(g:gx a+gx b<=1099511627776){s t:Lu}(e:X.length<=(u.length+s.length+2)*gx a)(f:Y.length<=(v.length+t.length+2)*gx b)(h:u.length+v.length<=60)(i:s.length+t.length<=60):X.length+Y.length<=140737488355328:=by
 have c:(u.length+s.length+2)*gx a<=122*gx a:=Nat.mul_le_mul_right _ (by omega);have d:(v.length+t.length+2)*gx b<=122*gx b:=Nat.mul_le_mul_right _ (by omega);omega
theorem eXa (e:OkL 120 a)(f:OkL 120 b)(a1:eX7 a+eX7 b<=24)(R:gx a+gx b<=1099511627776)(x:¬fXb (eX5 (dS a)) (eX5 (dS b)))(y:¬fXb (eX5 (dV a)) (eX5 (dV b))){w:World}{p:Nat}(T:PartV w G p a)(V:PartV w G q b)
  (P:Blk w bf #[Pt p] 78) (Y:Blk w br #[Pt q] 78) (H:G bf) (I:G br) :
  Turns2 w G (.func (.func 156) #[] #[Pt bf,Pt br]) (inL (eX5 (dV (eX9 a b)))) (inL (eX5 (dS (eX9 a b)))) (A9 (eX9 a b)):=by
 refine⟨_,_,rfl,fun _ _ _=>by kernel_rfl,fun W i d a6 a7 hx hy o r=>?_⟩;have U:=T.mono (G':=G) (fun _ h=>h) i;have X:=V.mono (G':=G) (fun _ h=>h) i;have Q:=P.of (i bf H);have Z:=Y.of (i br I);have⟨t1,y1,n1,t2,y2,n2,g1,c1,u1,_,J,K,L,h5,h6,M⟩:=U;have⟨t3,y3,n3,t4,y4,n4,g2,c2,u2,_,k2,k3,k4,k5,k6,k7⟩:=X;rw[show dV (eX9 a b)=fXi (dV a) (dV b) by simp[eX9,dV]]at o;rw[show dS (eX9 a b)=fXi (dS a) (dS b) by simp[eX9,dS]]at r;obtain⟨u,v,rfl,m,n⟩:=(gXf _ _ _).1 o;obtain⟨s,t,rfl,hs,l⟩:=(gXf _ _ _).1 r;rw[List.length_append]at hx hy;obtain⟨E,s1,rfl,B,z⟩:=Turns2.at d M;obtain⟨F,s2,rfl,C,A⟩:=Turns2.at d k7;have a2:=fX3 a e;have a3:=fX3 b f;have a4:=fXz a e;have a5:=fXz b f;have a0:A9 (eX9 a b) (u++v) (s++t)=A9 a u s++A9 b v t:=by
  have N:=L4 (OkL.view _ e).ok (OkL.view _ f).ok (by rw[<-O6 (fX8 a e) (fX8 b f)];exact y) ((fX8 a e u).1 m) ((fX8 b f v).1 n);have O:=L4 (OkL.src _ e).ok (OkL.src _ f).ok (by rw[<-O6 (fX6 a e) (fX6 b f)];exact x) ((fX6 a e s).1 hs) ((fX6 b f t).1 l);simp[eX9,A9,N,O]
 have S:=lQ8 R (Q6 a u s) (Q6 b v t) (by omega) (by omega);have:=aXq u v s _ t _ W p q bf br _ _ _ _ _ _ _ _ _ _ _ _ _ _ _ _ E F s1 s2 S J k2 Q Z B C
  (fun g c=>aQv (G:=G) (fun k j=>Ll (d k j) c.size) (by omega) (by omega) y m n (by omega) (L.below d c) (k4.below d c))
  (fun g c=>aQv (G:=G) (fun k j=>Ll (d k j) c.size) (by omega) (by omega) x hs l (by omega) (K.below d c) (k3.below d c))
  (fun g c=>z g c u s (by omega) (by omega) m hs) (fun g c=>A g c v t (by omega) (by omega) n l)
 rw[a0];exact this
theorem dX8 (e:OkL 120 a)(f:OkL 120 b)(a1:eX7 a+eX7 b<=24)(R:gx a+gx b<=1099511627776)(x:¬fXb (eX5 (dS a)) (eX5 (dS b)))(y:¬fXb (eX5 (dV b)) (eX5 (dV a))){w:World}{p:Nat}(T:PartV w G p a)(V:PartV w G q b)
  (P:Blk w bf #[Pt p] 78) (Y:Blk w br #[Pt q] 78) (H:G bf) (I:G br) :
  Turns2 w G (.func (.func 192) #[] #[Pt br,Pt bf]) (inL (eX5 (dV (fXc a b)))) (inL (eX5 (dS (fXc a b)))) (A9 (fXc a b)):=by
 refine⟨_,_,rfl,fun _ _ _=>by kernel_rfl,fun W i d a6 a7 hx hy o r=>?_⟩;have U:=T.mono (G':=G) (fun _ h=>h) i;have X:=V.mono (G':=G) (fun _ h=>h) i;have Q:=P.of (i bf H);have Z:=Y.of (i br I);have⟨t1,y1,n1,t2,y2,n2,g1,c1,u1,_,J,K,L,h5,h6,M⟩:=U;have⟨t3,y3,n3,t4,y4,n4,g2,c2,u2,_,k2,k3,k4,k5,k6,k7⟩:=X;rw[show dV (fXc a b)=fXi (dV b) (dV a) by simp[fXc,dV]]at o;rw[show dS (fXc a b)=fXi (dS a) (dS b) by simp[fXc,dS]]at r;obtain⟨u,v,rfl,m,n⟩:=(gXf _ _ _).1 o;obtain⟨s,t,rfl,hs,l⟩:=(gXf _ _ _).1 r;rw[List.length_append]at hx hy;obtain⟨E,s1,rfl,B,z⟩:=Turns2.at d M;obtain⟨F,s2,rfl,C,A⟩:=Turns2.at d k7;have a2:=fX3 a e;have a3:=fX3 b f;have a4:=fXz a e;have a5:=fXz b f;have a0:A9 (fXc a b) (u++v) (s++t)=A9 a v s++A9 b u t:=by
  have N:=L4 (OkL.view _ f).ok (OkL.view _ e).ok (by rw[<-O6 (fX8 b f) (fX8 a e)];exact y) ((fX8 b f u).1 m) ((fX8 a e v).1 n);have O:=L4 (OkL.src _ e).ok (OkL.src _ f).ok (by rw[<-O6 (fX6 a e) (fX6 b f)];exact x) ((fX6 a e s).1 hs) ((fX6 b f t).1 l);simp[fXc,A9,N,O]
 have S:=lQ8 R (Q6 a v s) (Q6 b u t) (by omega) (by omega);have:=aXm u v s _ t _ W p q bf br _ _ _ _ _ _ _ _ _ _ _ _ _ _ _ _ E F s1 s2 S J k2 Q Z B C
  (fun g c=>aQv (G:=G) (fun k j=>Ll (d k j) c.size) (by omega) (by omega) y m n (by omega) (k4.below d c) (L.below d c))
  (fun g c=>aQv (G:=G) (fun k j=>Ll (d k j) c.size) (by omega) (by omega) x hs l (by omega) (K.below d c) (k3.below d c))
  (fun g c=>z g c v s (by omega) (by omega) n hs) (fun g c=>A g c u t (by omega) (by omega) m l)
 rw[a0];exact this
theorem eXb (j:OkL 120 a)(u:OkL 120 b)(a4:eX7 a+eX7 b<=24){w:World}{p:Nat}(hp:PartV w G p a)(hq:PartV w G q b)
  (Z:Blk w bf #[Pt p] 78) (hr:Blk w br #[Pt q] 78) (S:G bf) (T:G br) :
  Turns2 w G (.func (.func 138) #[] #[Pt bf,Pt br]) (inL (eX5 (dV (fXn a b)))) (inL (eX5 (dS (fXn a b)))) (A9 (fXn a b)):=by
 refine⟨_,_,rfl,fun _ _ _=>by kernel_rfl,fun W n i x y o E t B=>?_⟩;have a1:=hp.mono (G':=G) (fun _ h=>h) n;have a2:=hq.mono (G':=G) (fun _ h=>h) n;have a0:=Z.of (n bf S);have a3:=hr.of (n br T);have⟨t1,y1,n1,t2,y2,n2,g1,c1,u1,_,l,U,V,h5,X,Y⟩:=a1;have⟨t3,y3,n3,t4,y4,n4,g2,c2,u2,_,r,k3,k4,k5,k6,k7⟩:=a2;rw[show dV (fXn a b)=fXv (dV a) (dV b) by simp[fXn,dV],gXv]at t;rw[show dS (fXn a b)=fXv (dS a) (dS b) by simp[fXn,dS],gXv]at B;obtain⟨O,s1,rfl,K,F⟩:=Turns2.at i Y;obtain⟨P,s2,rfl,L,H⟩:=Turns2.at i k7;obtain⟨Q,s3,rfl,M,I⟩:=Turns.at i X;obtain⟨R,s4,rfl,N,J⟩:=Turns.at i k6;have a5:=fX3 a j;have a6:=fXz a j;have a7:=fXz b u;have A:=(gXb _ (OkL.src _ j).ok y).trans (fX6 a j y).symm;have v:=(gXb _ (OkL.view _ j).ok x).trans (fX8 a j x).symm;have z:=(gXb _ (OkL.view _ u).ok x).trans (fX8 b u x).symm;have C:A9 (fXn a b) x y=if Ls.is (eX8 a) y=true then (if Ls.is (eX6 a) x=true then A9 a x y else A8 b x) else (if Ls.is (eX6 b) x=true then A9 b x y else A8 a x):=by simp[fXn,A9]
 refine aXs y (A9 (fXn a b) x y) (inL (eX5 (dS a)) y) W p q bf br _ _ _ _ _ _ _ _ _ x l a0 a3
  (fun f c=>eQx (G:=G) ⟨y.toArray⟩ (fun k m=>Ll (i k m) c.size) (U.below i c) (by omega) (by simp[ByteArray.size];omega)) (fun h s d=>?_) (fun h s d=>?_)
 ·rw[C,if_pos (A.2 h)]
  refine mQs y _ (inL (eX5 (dV a)) x) s p q _ _ _ _ _ _ _ _ _ _ _ _ _ _ _ _ O R s1 s4 x (l.below d l.lt) (r.below d r.lt) K N
   (fun f c=>eQz (G:=G) ⟨x.toArray⟩ (fun k m=>Ll (i k m) (Bj d c).size) (V.below i (Bj d c)) (by omega) (by simp[ByteArray.size];omega))
   (fun g f c=>?_) (fun g f c=>?_)
  ·rw[if_pos (v.2 g)]
   exact F f (Bj d c) x y o E g h
  ·rw[if_neg (fun e=>g (v.1 e))]
   exact J f (Bj d c) x o (t.resolve_left g)
 ·rw[C,if_neg (fun e=>h (A.1 e))]
  refine mQs y _ (inL (eX5 (dV b)) x) s q p _ _ _ _ _ _ _ _ _ _ _ _ _ _ _ _ P Q s2 s3 x (r.below d r.lt) (l.below d l.lt) L M
   (fun f c=>eQz (G:=G) ⟨x.toArray⟩ (fun k m=>Ll (i k m) (Bj d c).size) (k4.below i (Bj d c)) (by omega) (by simp[ByteArray.size];omega))
   (fun g f c=>?_) (fun g f c=>?_)
  ·rw[if_pos (z.2 g)]
   exact H f (Bj d c) x y o E g (B.resolve_left h)
  ·rw[if_neg (fun e=>g (z.1 e))]
   exact I f (Bj d c) x o (t.resolve_right g)
theorem gQt (d:x.length<=140737488355328):Calls Tryz.prog 54 #[A4 x] w fun e c=>e=.returned (A4 x)/\Bw w c:=by
 have a:=Tryz.stringslite_Clone ⟨x.toArray⟩ w (by simp[ByteArray.size];omega);go_enter Tryz.func54,Tryz.ntmps54;go_wp2_with fail;refine a.mono ?_;rintro e f ⟨rfl,b⟩;go_wp2;go_ret;exact⟨rfl,b⟩
theorem nQ5 (p:Nat)(h:Blk w L #[Pt p] 85) :
  Calls Tryz.prog 48 #[Pt L,.string s] w fun e b=>e=.returned (.bool (decide (s.size<=60)))/\b=w:=by
 have⟨c,d⟩:=h.one
 by_cases hs:s.size<=60
 ·have a:(s.size:Int)<=60:=by omega
  rw[decide_eq_true hs];go_enter Tryz.func48,Tryz.ntmps48;go_wp2;go_ret;exact⟨rfl,rfl⟩
 ·have a:¬(s.size:Int)<=60:=by omega
  rw[decide_eq_false hs];go_enter Tryz.func48,Tryz.ntmps48;go_wp2;go_ret;exact⟨rfl,rfl⟩
structure LensV (w:World)(G:Nat->Prop)(L p:Nat)(l:Ln):Prop where
 blk:Blk w L #[.pointer (some ⟨p,0,none⟩)] 85
 part:PartV w G p l
 old:Old w G
 ok:OkL 120 l
 size:eX7 l<=24
 few:cn l<=30000
theorem LensV.below {w w':World}{L p:Nat}{l:Ln}(h:LensV w G L p l)(a:Bw w w'):LensV w' G L p l:=⟨h.blk.below a h.blk.lt,h.part.below h.old a,fun k b=>Ll (h.old k b) a.size,h.ok,h.size,h.few⟩
def CompilePost (s:By)(w:World):Ending->World->Prop:=fun e w'=>
 ∃(v:Option Addr) (r:Nat),e=.returned (.tuple #[.pointer v,.int .i64 r])/\CompIs s.data.toList r/\r<=4/\(v.isSome=true↔r=0)/\Bw w w'/\
  (r=0->∃l L p,v=some ⟨L,0,none⟩/\E6 s.data.toList=some l/\OkL 120 l/\cn l<=30000/\eX7 l<=24/\w.heap.size<=L/\Blk w' L #[.pointer (some ⟨p,0,none⟩)] 85/\PartV w' (B8 w w') p l)
theorem bQn:(⟨s.data.toList.toArray⟩:By)=s:=by
 apply ByteArray.ext
 simp
theorem eQv (hs:s.size<=1048576)(G:Nat->Prop)(p:Nat)(h:LensV w G L p l) :
  Calls Tryz.prog 20 #[Pt L,.string s] w fun e A=>e=.returned (.bool (B6 (eX8 l) s.data.toList))/\Bw w A:=by
 have d:=nQ5 s w L p h.blk;have q:(Dl s).length=s.size:=by simp
 have⟨t1,y1,n1,t2,y2,n2,g,c,u,_,m,n,x,_,_,_⟩:=h.part;have M:=fX3 l h.ok;have K:=h.size;have o:=eQx (t1:=t1) (y1:=y1) (n1:=n1) (t2:=t2) (y2:=y2) (n2:=n2) s h.old n (by omega) hs;have r:Hid (∀b:Bool,(b=true↔inL (eX5 (dS l)) (Dl s))->s.size<=60->B6 (eX8 l) (Dl s)=b):=fun b i a=>by
  have z:Ls.is (eX8 l) (Dl s)=b:=by
   rw[Bool.eq_iff_iff,i,gXb _ (OkL.src _ h.ok).ok,fX6 l h.ok]
  unfold B6;rw[z,q,decide_eq_true a,Bool.and_true]
 have t:Hid (¬s.size<=60->B6 (eX8 l) (Dl s)=false):=fun a=>by
  unfold B6;rw[q,decide_eq_false a,Bool.and_false]
 have⟨I,J⟩:=h.blk.one;have⟨C,E,F,H,_,_,_⟩:=m.seven;generalize B6 (eX8 l) (Dl s)=v at *
 by_cases a:s.size<=60
 ·rw[decide_eq_true a]at d
  go_enter Tryz.func20,Tryz.ntmps20;go_wp2_with fail;refine d.mono ?_;rintro e B ⟨rfl,f⟩;have k:=f.symm;clear f d;subst k;go_wp2_with fail;refine o.mono ?_;clear o;rintro e N ⟨b,rfl,i,y⟩;have j:Hid (v=b):=r.out b i a;clear i;go_wp2_with fail;go_ret;exact⟨by rw[j.out];rfl,y⟩
 ·rw[decide_eq_false a]at d
  have j:Hid (v=false):=t.out a;go_enter Tryz.func20,Tryz.ntmps20;go_wp2_with fail;refine d.mono ?_;rintro e B ⟨rfl,f⟩;have k:=f.symm;clear f d;subst k;go_wp2_with fail;go_ret;exact⟨by rw[j.out];rfl,Br⟩
theorem eQy (hs:s.size<=1048576)(G:Nat->Prop)(p:Nat)(h:LensV w G L p l) :
  Calls Tryz.prog 22 #[Pt L,.string s] w fun e A=>e=.returned (.bool (B6 (eX6 l) s.data.toList))/\Bw w A:=by
 have d:=nQ5 s w L p h.blk;have q:(Dl s).length=s.size:=by simp
 have⟨t1,y1,n1,t2,y2,n2,g,c,u,_,m,x,n,_,_,_⟩:=h.part;have M:=fXz l h.ok;have K:=h.size;have o:=eQz (t1:=t1) (y1:=y1) (n1:=n1) (t2:=t2) (y2:=y2) (n2:=n2) s h.old n (by omega) hs;have r:Hid (∀b:Bool,(b=true↔inL (eX5 (dV l)) (Dl s))->s.size<=60->B6 (eX6 l) (Dl s)=b):=fun b i a=>by
  have z:Ls.is (eX6 l) (Dl s)=b:=by
   rw[Bool.eq_iff_iff,i,gXb _ (OkL.view _ h.ok).ok,fX8 l h.ok]
  unfold B6;rw[z,q,decide_eq_true a,Bool.and_true]
 have t:Hid (¬s.size<=60->B6 (eX6 l) (Dl s)=false):=fun a=>by
  unfold B6;rw[q,decide_eq_false a,Bool.and_false]
 have⟨I,J⟩:=h.blk.one;have⟨C,E,F,H,_,_,_⟩:=m.seven;generalize B6 (eX6 l) (Dl s)=v at *
 by_cases a:s.size<=60
 ·rw[decide_eq_true a]at d
  go_enter Tryz.func22,Tryz.ntmps22;go_wp2_with fail;refine d.mono ?_;rintro e B ⟨rfl,f⟩;have k:=f.symm;clear f d;subst k;go_wp2_with fail;refine o.mono ?_;clear o;rintro e N ⟨b,rfl,i,y⟩;have j:Hid (v=b):=r.out b i a;clear i;go_wp2_with fail;go_ret;exact⟨by rw[j.out];rfl,y⟩
 ·rw[decide_eq_false a]at d
  have j:Hid (v=false):=t.out a;go_enter Tryz.func22,Tryz.ntmps22;go_wp2_with fail;refine d.mono ?_;rintro e B ⟨rfl,f⟩;have k:=f.symm;clear f d;subst k;go_wp2_with fail;go_ret;exact⟨by rw[j.out];rfl,Br⟩
theorem bQf (hs:s.size<=1048576)(G:Nat->Prop)(p:Nat)(h:LensV w G L p l) :
  Calls Tryz.prog 24 #[Pt L,.string s] w fun e M=>e=.returned (if B6 (eX8 l) s.data.toList=true then .tuple #[A4 (A6 l s.data.toList),Iv 0] else .tuple #[.string ⟨#[]⟩,Iv 5])/\Bw w M:=by
 have k:=eQv s w L l hs G p h;have S:(Dl s).length=s.size:=by simp
 have⟨V,Z,T,X,y2,U,g,c,u,_,j,C,E,t,F,H⟩:=h.part;have i:Hid (B6 (eX8 l) (Dl s)=true->s.data.toList.length<=60/\inL (eX5 (dS l)) (Dl s)):=fun a=>by
  unfold B6 at a;rw[Bool.and_eq_true,decide_eq_true_eq]at a;exact⟨a.2,(fX6 l h.ok _).2 ((gXb _ (OkL.src _ h.ok).ok _).1 a.1)⟩
 have K:=j9 h.ok h.size (by have:=h.few;omega);obtain⟨f,m,rfl,R,x⟩:=Turns.at h.old t;have o:Hid (∀W,Bw w W->B6 (eX8 l) (Dl s)=true->Ca f (#[.string s]++m) W (Rt (A4 (A6 l (Dl s))) W)):=fun W b a=>by
  have:=x W b s.data.toList (i.out a).1 (i.out a).2;unfold A4 at this;rw[bQn]at this;exact this
 have q:Hid (B6 (eX8 l) s.data.toList=true->(A6 l s.data.toList).length<=140737488355328):=fun a=>by
  have Q:=N2 l s.data.toList;have j:(s.data.toList.length+1)*gx l<=61*gx l:=Nat.mul_le_mul_right _ (by have:=(i.out a).1;omega);omega
 have B:Hid (∀W:World,Bw w W->Ce W L 0 (Pt p)/\Ce W p 4 (.func (.func f) #[] m)):=fun W b=>⟨(h.blk.below b h.blk.lt).cell 0,(j.below b j.lt).cell 4⟩;clear h j C E t F H x K;generalize A6 l s.data.toList=r at *;generalize B6 (eX8 l) s.data.toList=v at *;cases v with
 | false=>
  go_enter Tryz.func24,Tryz.ntmps24;go_wp2_with fail;refine k.mono ?_;clear k;rintro e n ⟨rfl,d⟩;go_wp2_with fail;go_ret2;exact⟨rfl,d⟩
 | true=>
  have z:=q.out rfl;have A:Hid (∀W,Bw w W->Ca f (#[.string s]++m) W (Rt (A4 r) W)):=fun W b=>o.out W b rfl;clear o q i;go_enter Tryz.func24,Tryz.ntmps24;go_wp2_with fail;refine k.mono ?_;clear k;rintro e n ⟨rfl,d⟩;obtain⟨O,P⟩:=B.out n d;have y:=A.out n d;go_wp2_with fail;refine y.mono ?_;clear y;rintro e N ⟨rfl,I⟩;go_wp2_with fail;refine(gQt r N z).mono ?_;rintro e Y ⟨rfl,J⟩;go_wp2_with fail;go_ret2;exact⟨rfl,Bj d (Bj I J)⟩
theorem eQj (hs:s.size<=1048576)(G:Nat->Prop)(p:Nat)(h:LensV w G L p l) :
  Calls Tryz.prog 26 #[Pt L,.string s] w fun e M=>e=.returned (if B6 (eX6 l) s.data.toList=true then .tuple #[A4 (A8 l s.data.toList),Iv 0] else .tuple #[.string ⟨#[]⟩,Iv 6])/\Bw w M:=by
 have k:=eQy s w L l hs G p h;have S:(Dl s).length=s.size:=by simp
 have⟨V,Z,T,X,y2,U,g,c,u,_,j,C,E,F,t,H⟩:=h.part;have i:Hid (B6 (eX6 l) (Dl s)=true->s.data.toList.length<=60/\inL (eX5 (dV l)) (Dl s)):=fun a=>by
  unfold B6 at a;rw[Bool.and_eq_true,decide_eq_true_eq]at a;exact⟨a.2,(fX8 l h.ok _).2 ((gXb _ (OkL.view _ h.ok).ok _).1 a.1)⟩
 have K:=j9 h.ok h.size (by have:=h.few;omega);obtain⟨f,m,rfl,R,x⟩:=Turns.at h.old t;have o:Hid (∀W,Bw w W->B6 (eX6 l) (Dl s)=true->Ca f (#[.string s]++m) W (Rt (A4 (A8 l (Dl s))) W)):=fun W b a=>by
  have:=x W b s.data.toList (i.out a).1 (i.out a).2;unfold A4 at this;rw[bQn]at this;exact this
 have q:Hid (B6 (eX6 l) s.data.toList=true->(A8 l s.data.toList).length<=140737488355328):=fun a=>by
  have Q:=K1 l s.data.toList;have j:(s.data.toList.length+1)*gx l<=61*gx l:=Nat.mul_le_mul_right _ (by have:=(i.out a).1;omega);omega
 have B:Hid (∀W:World,Bw w W->Ce W L 0 (Pt p)/\Ce W p 5 (.func (.func f) #[] m)):=fun W b=>⟨(h.blk.below b h.blk.lt).cell 0,(j.below b j.lt).cell 5⟩;clear h j C E F t H x K;generalize A8 l s.data.toList=r at *;generalize B6 (eX6 l) s.data.toList=v at *;cases v with
 | false=>
  go_enter Tryz.func26,Tryz.ntmps26;go_wp2_with fail;refine k.mono ?_;clear k;rintro e n ⟨rfl,d⟩;go_wp2_with fail;go_ret2;exact⟨rfl,d⟩
 | true=>
  have z:=q.out rfl;have A:Hid (∀W,Bw w W->Ca f (#[.string s]++m) W (Rt (A4 r) W)):=fun W b=>o.out W b rfl;clear o q i;go_enter Tryz.func26,Tryz.ntmps26;go_wp2_with fail;refine k.mono ?_;clear k;rintro e n ⟨rfl,d⟩;obtain⟨O,P⟩:=B.out n d;have y:=A.out n d;go_wp2_with fail;refine y.mono ?_;clear y;rintro e N ⟨rfl,I⟩;go_wp2_with fail;refine(gQt r N z).mono ?_;rintro e Y ⟨rfl,J⟩;go_wp2_with fail;go_ret2;exact⟨rfl,Bj d (Bj I J)⟩
def bQk (l:Ln)(v s:Lu):Value:=
 if B6 (eX6 l) v=true then (if B6 (eX8 l) s=true then .tuple #[A4 (A9 l v s),.int .i64 0] else .tuple #[.string ⟨#[]⟩,.int .i64 5]) else .tuple #[.string ⟨#[]⟩,.int .i64 6]
theorem cQf (v:By)(S:v.size<=1048576)(hs:s.size<=1048576)(G:Nat->Prop)(p:Nat)(h:LensV w G L p l) :
  Calls Tryz.prog 28 #[Pt L,.string v,.string s] w fun e T=>e=.returned (bQk l v.data.toList s.data.toList)/\Bw w T:=by
 have i:=eQy v w L l S G p h;have A:Hid (∀W,Bw w W->Ca 20 #[Pt L,.string s] W (Rt (.bool (B6 (eX8 l) (Dl s))) W)):=fun W b=>eQv s W L l hs G p (h.below b);have⟨t1,y1,n1,t2,y2,n2,g,c,a1,_,n,K,M,N,O,C⟩:=h.part;have k:Hid (B6 (eX6 l) (Dl v)=true->v.data.toList.length<=60/\inL (eX5 (dV l)) (Dl v)):=fun a=>by
  unfold B6 at a;rw[Bool.and_eq_true,decide_eq_true_eq]at a;exact⟨a.2,(fX8 l h.ok _).2 ((gXb _ (OkL.view _ h.ok).ok _).1 a.1)⟩
 have m:Hid (B6 (eX8 l) (Dl s)=true->s.data.toList.length<=60/\inL (eX5 (dS l)) s.data.toList):=fun a=>by
  unfold B6 at a;rw[Bool.and_eq_true,decide_eq_true_eq]at a;exact⟨a.2,(fX6 l h.ok _).2 ((gXb _ (OkL.src _ h.ok).ok _).1 a.1)⟩
 have R:=j9 h.ok h.size (by have:=h.few;omega);obtain⟨f,t,rfl,a0,E⟩:=Turns2.at h.old C;have z:Hid (∀W,Bw w W->B6 (eX6 l) v.data.toList=true->B6 (eX8 l) s.data.toList=true->Ca f (#[.string v,.string s]++t) W (Rt (A4 (A9 l v.data.toList s.data.toList)) W)):=fun W b a o=>by
  have:=E W b v.data.toList s.data.toList (k.out a).1 (m.out o).1 (k.out a).2 (m.out o).2;unfold A4 at this;rw[bQn,bQn]at this;exact this
 have B:Hid (B6 (eX6 l) v.data.toList=true->B6 (eX8 l) s.data.toList=true->(A9 l v.data.toList s.data.toList).length<=140737488355328):=fun a o=>by
  have h1:=Q6 l v.data.toList s.data.toList;have n:(v.data.toList.length+s.data.toList.length+2)*gx l<=122*gx l:=Nat.mul_le_mul_right _ (by have:=(k.out a).1;have:=(m.out o).1;omega);omega
 have J:Hid (∀W:World,Bw w W->Ce W L 0 (Pt p)/\Ce W p 6 (.func (.func f) #[] t)):=fun W b=>⟨(h.blk.below b h.blk.lt).cell 0,(n.below b n.lt).cell 6⟩;clear h n K M N O C E R;unfold bQk;generalize A9 l v.data.toList s.data.toList=r at *;generalize B6 (eX6 l) v.data.toList=X at *;generalize B6 (eX8 l) s.data.toList=V at *;cases X with
 | false=>
  go_enter Tryz.func28,Tryz.ntmps28;go_wp2_with fail;refine i.mono ?_;clear i;rintro e q ⟨rfl,d⟩;go_wp2_with fail;go_ret2;exact⟨rfl,d⟩
 | true=>
  cases V with
  | false=>
   go_enter Tryz.func28,Tryz.ntmps28;go_wp2_with fail;refine i.mono ?_;clear i;rintro e q ⟨rfl,d⟩;have j:=A.out q d;go_wp2_with fail;refine j.mono ?_;clear j;rintro e y ⟨rfl,u⟩;go_wp2_with fail;go_ret2;exact⟨rfl,Bj d u⟩
  | true=>
   have H:=B.out rfl rfl;have I:Hid (∀W,Bw w W->Ca f (#[.string v,.string s]++t) W (Rt (A4 r) W)):=fun W b=>z.out W b rfl rfl;clear z B k m;go_enter Tryz.func28,Tryz.ntmps28;go_wp2_with fail;refine i.mono ?_;clear i;rintro e q ⟨rfl,d⟩;have j:=A.out q d;go_wp2_with fail;refine j.mono ?_;clear j;rintro e y ⟨rfl,u⟩;have x:=Bj d u;obtain⟨Y,Z⟩:=J.out y x;have F:=I.out y x;go_wp2_with fail;refine F.mono ?_;clear F;rintro e U ⟨rfl,P⟩;go_wp2_with fail;refine(gQt r U H).mono ?_;rintro e w4 ⟨rfl,Q⟩;go_wp2_with fail;go_ret2;exact⟨rfl,Bj x (Bj P Q)⟩
def eQi (l m:Ln)(s:Lu):Value:=
 if B6 (eX8 l) s=true then (if B6 (eX6 m) (A6 l s)=true then .tuple #[A4 (A8 m (A6 l s)),.int .i64 0] else .tuple #[.string ⟨#[]⟩,.int .i64 6]) else .tuple #[.string ⟨#[]⟩,.int .i64 5]
theorem jQz (hs:s.size<=1048576)(G j:Nat->Prop)(p b n:Nat)(m:Ln)(h:LensV w G L p l)(k:LensV w j b n m) :
  Calls Tryz.prog 30 #[Pt L,Pt b,.string s] w fun e u=>e=.returned (eQi l m s.data.toList)/\Bw w u:=by
 have c:=bQf s w L l hs G p h;have f:Hid (∀W,Bw w W->B6 (eX8 l) (Dl s)=true->Ca 26 #[Pt b,A4 (A6 l (Dl s))] W (Rt (if B6 (eX6 m) (A6 l (Dl s))=true then .tuple #[A4 (A8 m (A6 l (Dl s))),Iv 0] else .tuple #[Ez,Iv 6]) W)):=fun W q i=>by
  have t:=kQi h.few (s:=Dl s) (by unfold B6 at i;rw[Bool.and_eq_true,decide_eq_true_eq]at i;exact i.2);exact eQj ⟨(A6 l (Dl s)).toArray⟩ W b m (by simpa [ByteArray.size] using t) j n (k.below q)
 unfold eQi;generalize B6 (eX6 m) (A6 l (Dl s))=z at *;generalize A8 m (A6 l (Dl s))=y at *;generalize A6 l (Dl s)=r at *;generalize B6 (eX8 l) (Dl s)=x at *;cases x with
 | false=>
  go_enter Tryz.func30,Tryz.ntmps30;go_wp2_with fail;refine c.mono ?_;clear c;rintro e o ⟨rfl,a⟩;go_wp2_with fail;go_ret2;exact⟨rfl,a⟩
 | true=>
  go_enter Tryz.func30,Tryz.ntmps30;go_wp2_with fail;refine c.mono ?_;clear c;rintro e o ⟨rfl,a⟩;have d:=f.out o a (by first|trivial|rfl);clear f;cases z with
  | false=>
   go_wp2_with fail;refine d.mono ?_;clear d;rintro e v ⟨rfl,g⟩;go_wp2_with fail;go_ret2;exact⟨rfl,Bj a g⟩
  | true=>
   go_wp2_with fail;refine d.mono ?_;clear d;rintro e v ⟨rfl,g⟩;go_wp2_with fail;go_ret2;exact⟨rfl,Bj a g⟩
end Go.Proofs.YtfklinjaajafgaaGreatDoor
