import Derived.Test.YtfklinjaajafgaaGreatDoorK50
set_option maxRecDepth 100000
set_option maxHeartbeats 4000000
namespace Go.Proofs.YtfklinjaajafgaaGreatDoor
open Ls hiding none
open Go.RowKit
variable (u v s Z X t:Lu)(A:Prop)(Y:Lu)(w:World)(p q bf br:Nat)(t1 t2 r1 r2:TypeId)(y1 y2 z1 z2:Value)(n1 n2 m1:Nat)(g1:Value)(m2:Nat)(c1 d1 g2 c2 d2:Value)(f1 f2:Nat)(k1 k2:Array Value)
theorem uQ4 (P:X.length+Y.length<=140737488355328)
  (n:Blk w p (J2 t1 y1 n1 r1 z1 m1 (.func (.func f1) #[] k1) c1 d1) 98) (o:Blk w q (J2 t2 y2 n2 r2 z2 m2 (.func (.func f2) #[] k2) c2 d2) 98) (m:Blk w bf #[Pt p] 78) (r:Blk w br #[Pt q] 78)
  (Q:∀(x:Value) (W:World),(callFunc f1 (#[x]++k1)).run Tryz.prog W=.ok (.enter f1 (#[x]++k1)) W) (R:∀(x:Value) (W:World),(callFunc f2 (#[x]++k2)).run Tryz.prog W=.ok (.enter f2 (#[x]++k2)) W)
  (A:∀W,Bw w W->Calls Tryz.prog 154 #[C8 (.iface t1 y1) n1,C8 (.iface t2 y2) n2,A4 (u++v)] W (Rt (.tuple #[A4 u,A4 v]) W))
  (y:∀W,Bw w W->Calls Tryz.prog f1 (#[A4 u]++k1) W (Rt (A4 X) W))
  (z:∀W,Bw w W->Calls Tryz.prog f2 (#[A4 v]++k2) W (Rt (A4 Y) W)) :
  Calls Tryz.prog 153 #[A4 (u++v),Pt bf,Pt br] w fun e a=>e=.returned (A4 (X++Y))/\Bw w a:=by
 have b:Hid (∀W:World,Bw w W->(Ce W p 0 (.iface t1 y1)/\Ce W p 1 (Pt n1)/\Ce W p 4 (.func (.func f1) #[] k1))/\(Ce W q 0 (.iface t2 y2)/\Ce W q 1 (Pt n2)/\Ce W q 4 (.func (.func f2) #[] k2))/\Ce W bf 0 (Pt p)/\Ce W br 0 (Pt q)):=fun W d=>by
  obtain⟨f,g,_,_,h,_,_⟩:=(n.below d n.lt).seven;obtain⟨i,j,_,_,k,_,_⟩:=(o.below d o.lt).seven;exact⟨⟨f,g,h⟩,⟨i,j,k⟩,(m.below d m.lt).cell 0,(r.below d r.lt).cell 0⟩
 have I:Hid (∀W,Bw w W->Ca 154 #[C8 (.iface t1 y1) n1,C8 (.iface t2 y2) n2,A4 (u++v)] W (Rt (.tuple #[A4 u,A4 v]) W)):=A;have G:Hid (∀W,Bw w W->Ca f1 (#[A4 u]++k1) W (Rt (A4 X) W)):=y;have H:Hid (∀W,Bw w W->Ca f2 (#[A4 v]++k2) W (Rt (A4 Y) W)):=z;obtain⟨⟨f,g,h⟩,⟨i,j,k⟩,J,K⟩:=b.out w Br;clear n o m r A y z;generalize u++v=s at *;go_enter Tryz.func153,Tryz.ntmps153;go_wp2_with fail;go_region_held (fun a=>(Ce a p 0 (.iface t1 y1)/\Ce a p 1 (Pt n1)/\Ce a p 4 (.func (.func f1) #[] k1))/\(Ce a q 0 (.iface t2 y2)/\Ce a q 1 (Pt n2)/\Ce a q 4 (.func (.func f2) #[] k2))/\Ce a bf 0 (Pt p)/\Ce a br 0 (Pt q)) (first|assumption|(refine⟨⟨?_,?_,?_⟩,⟨?_,?_,?_⟩,?_,?_⟩<;>assumption)|exact b.out _ Br.drew|exact b.out _ O)
  (first
   | (go_at_call 154;refine(I.out _ ?_).mono ?_;exact Br.drew;rintro e t ⟨rfl,L⟩;have c:Bw w t:=Bj Br.drew L;have O:Bw w t:=c))
 all_goals
  obtain⟨⟨f,g,h⟩,⟨i,j,k⟩,J,K⟩:=b.out t c;go_wp2_with fail;go_region_held (fun a=>(Ce a p 0 (.iface t1 y1)/\Ce a p 1 (Pt n1)/\Ce a p 4 (.func (.func f1) #[] k1))/\(Ce a q 0 (.iface t2 y2)/\Ce a q 1 (Pt n2)/\Ce a q 4 (.func (.func f2) #[] k2))/\Ce a bf 0 (Pt p)/\Ce a br 0 (Pt q)) (first|assumption|(refine⟨⟨?_,?_,?_⟩,⟨?_,?_,?_⟩,?_,?_⟩<;>assumption)|exact b.out _ c.drew|exact b.out _ C)
   (first
    | (refine(G.out _ ?_).mono ?_;exact c.drew;rintro e E ⟨rfl,M⟩;have l:Bw w E:=Bj c.drew M;have C:Bw w E:=l)
    | (refine(H.out _ l).mono ?_;rintro e F ⟨rfl,N⟩;have B:Bw w F:=Bj l N;have C:Bw w F:=B))
  all_goals
   go_wp2_with fail;go_ret;exact⟨by show Ending.returned (.string ((Ba X)++⟨Y.toArray⟩))=_;rw[O4],B⟩
theorem tQm (P:X.length+Y.length<=140737488355328)
  (n:Blk w p (J2 r1 z1 m1 t1 y1 n1 c1 (.func (.func f1) #[] k1) d1) 98) (o:Blk w q (J2 r2 z2 m2 t2 y2 n2 c2 (.func (.func f2) #[] k2) d2) 98) (m:Blk w bf #[Pt p] 78) (r:Blk w br #[Pt q] 78)
  (Q:∀(x:Value) (W:World),(callFunc f1 (#[x]++k1)).run Tryz.prog W=.ok (.enter f1 (#[x]++k1)) W) (R:∀(x:Value) (W:World),(callFunc f2 (#[x]++k2)).run Tryz.prog W=.ok (.enter f2 (#[x]++k2)) W)
  (A:∀W,Bw w W->Calls Tryz.prog 154 #[C8 (.iface t1 y1) n1,C8 (.iface t2 y2) n2,A4 (u++v)] W (Rt (.tuple #[A4 u,A4 v]) W))
  (y:∀W,Bw w W->Calls Tryz.prog f1 (#[A4 u]++k1) W (Rt (A4 X) W))
  (z:∀W,Bw w W->Calls Tryz.prog f2 (#[A4 v]++k2) W (Rt (A4 Y) W)) :
  Calls Tryz.prog 155 #[A4 (u++v),Pt bf,Pt br] w fun e a=>e=.returned (A4 (X++Y))/\Bw w a:=by
 have b:Hid (∀W:World,Bw w W->(Ce W p 2 (.iface t1 y1)/\Ce W p 3 (Pt n1)/\Ce W p 5 (.func (.func f1) #[] k1))/\(Ce W q 2 (.iface t2 y2)/\Ce W q 3 (Pt n2)/\Ce W q 5 (.func (.func f2) #[] k2))/\Ce W bf 0 (Pt p)/\Ce W br 0 (Pt q)):=fun W d=>by
  obtain⟨_,_,f,g,_,h,_⟩:=(n.below d n.lt).seven;obtain⟨_,_,i,j,_,k,_⟩:=(o.below d o.lt).seven;exact⟨⟨f,g,h⟩,⟨i,j,k⟩,(m.below d m.lt).cell 0,(r.below d r.lt).cell 0⟩
 have I:Hid (∀W,Bw w W->Ca 154 #[C8 (.iface t1 y1) n1,C8 (.iface t2 y2) n2,A4 (u++v)] W (Rt (.tuple #[A4 u,A4 v]) W)):=A;have G:Hid (∀W,Bw w W->Ca f1 (#[A4 u]++k1) W (Rt (A4 X) W)):=y;have H:Hid (∀W,Bw w W->Ca f2 (#[A4 v]++k2) W (Rt (A4 Y) W)):=z;obtain⟨⟨f,g,h⟩,⟨i,j,k⟩,J,K⟩:=b.out w Br;clear n o m r A y z;generalize u++v=s at *;go_enter Tryz.func155,Tryz.ntmps155;go_wp2_with fail;go_region_held (fun a=>(Ce a p 2 (.iface t1 y1)/\Ce a p 3 (Pt n1)/\Ce a p 5 (.func (.func f1) #[] k1))/\(Ce a q 2 (.iface t2 y2)/\Ce a q 3 (Pt n2)/\Ce a q 5 (.func (.func f2) #[] k2))/\Ce a bf 0 (Pt p)/\Ce a br 0 (Pt q)) (first|assumption|(refine⟨⟨?_,?_,?_⟩,⟨?_,?_,?_⟩,?_,?_⟩<;>assumption)|exact b.out _ Br.drew|exact b.out _ O)
  (first
   | (go_at_call 154;refine(I.out _ ?_).mono ?_;exact Br.drew;rintro e t ⟨rfl,L⟩;have c:Bw w t:=Bj Br.drew L;have O:Bw w t:=c))
 all_goals
  obtain⟨⟨f,g,h⟩,⟨i,j,k⟩,J,K⟩:=b.out t c;go_wp2_with fail;go_region_held (fun a=>(Ce a p 2 (.iface t1 y1)/\Ce a p 3 (Pt n1)/\Ce a p 5 (.func (.func f1) #[] k1))/\(Ce a q 2 (.iface t2 y2)/\Ce a q 3 (Pt n2)/\Ce a q 5 (.func (.func f2) #[] k2))/\Ce a bf 0 (Pt p)/\Ce a br 0 (Pt q)) (first|assumption|(refine⟨⟨?_,?_,?_⟩,⟨?_,?_,?_⟩,?_,?_⟩<;>assumption)|exact b.out _ c.drew|exact b.out _ C)
   (first
    | (refine(G.out _ ?_).mono ?_;exact c.drew;rintro e E ⟨rfl,M⟩;have l:Bw w E:=Bj c.drew M;have C:Bw w E:=l)
    | (refine(H.out _ l).mono ?_;rintro e F ⟨rfl,N⟩;have B:Bw w F:=Bj l N;have C:Bw w F:=B))
  all_goals
   go_wp2_with fail;go_ret;exact⟨by show Ending.returned (.string ((Ba X)++⟨Y.toArray⟩))=_;rw[O4],B⟩
theorem uQ2 (P:X.length+Y.length<=140737488355328)
  (n:Blk w p (J2 t1 y1 n1 r1 z1 m1 (.func (.func f1) #[] k1) c1 d1) 98) (o:Blk w q (J2 t2 y2 n2 r2 z2 m2 (.func (.func f2) #[] k2) c2 d2) 98) (m:Blk w bf #[Pt p] 78) (r:Blk w br #[Pt q] 78)
  (Q:∀(x:Value) (W:World),(callFunc f1 (#[x]++k1)).run Tryz.prog W=.ok (.enter f1 (#[x]++k1)) W) (R:∀(x:Value) (W:World),(callFunc f2 (#[x]++k2)).run Tryz.prog W=.ok (.enter f2 (#[x]++k2)) W)
  (A:∀W,Bw w W->Calls Tryz.prog 154 #[C8 (.iface t1 y1) n1,C8 (.iface t2 y2) n2,A4 (u++v)] W (Rt (.tuple #[A4 u,A4 v]) W))
  (y:∀W,Bw w W->Calls Tryz.prog f2 (#[A4 v]++k2) W (Rt (A4 X) W))
  (z:∀W,Bw w W->Calls Tryz.prog f1 (#[A4 u]++k1) W (Rt (A4 Y) W)) :
  Calls Tryz.prog 190 #[A4 (u++v),Pt bf,Pt br] w fun e a=>e=.returned (A4 (X++Y))/\Bw w a:=by
 have b:Hid (∀W:World,Bw w W->(Ce W p 0 (.iface t1 y1)/\Ce W p 1 (Pt n1)/\Ce W p 4 (.func (.func f1) #[] k1))/\(Ce W q 0 (.iface t2 y2)/\Ce W q 1 (Pt n2)/\Ce W q 4 (.func (.func f2) #[] k2))/\Ce W bf 0 (Pt p)/\Ce W br 0 (Pt q)):=fun W d=>by
  obtain⟨f,g,_,_,h,_,_⟩:=(n.below d n.lt).seven;obtain⟨i,j,_,_,k,_,_⟩:=(o.below d o.lt).seven;exact⟨⟨f,g,h⟩,⟨i,j,k⟩,(m.below d m.lt).cell 0,(r.below d r.lt).cell 0⟩
 have I:Hid (∀W,Bw w W->Ca 154 #[C8 (.iface t1 y1) n1,C8 (.iface t2 y2) n2,A4 (u++v)] W (Rt (.tuple #[A4 u,A4 v]) W)):=A;have G:Hid (∀W,Bw w W->Ca f2 (#[A4 v]++k2) W (Rt (A4 X) W)):=y;have H:Hid (∀W,Bw w W->Ca f1 (#[A4 u]++k1) W (Rt (A4 Y) W)):=z;obtain⟨⟨f,g,h⟩,⟨i,j,k⟩,J,K⟩:=b.out w Br;clear n o m r A y z;generalize u++v=s at *;go_enter Tryz.func190,Tryz.ntmps190;go_wp2_with fail;go_region_held (fun a=>(Ce a p 0 (.iface t1 y1)/\Ce a p 1 (Pt n1)/\Ce a p 4 (.func (.func f1) #[] k1))/\(Ce a q 0 (.iface t2 y2)/\Ce a q 1 (Pt n2)/\Ce a q 4 (.func (.func f2) #[] k2))/\Ce a bf 0 (Pt p)/\Ce a br 0 (Pt q)) (first|assumption|(refine⟨⟨?_,?_,?_⟩,⟨?_,?_,?_⟩,?_,?_⟩<;>assumption)|exact b.out _ Br.drew|exact b.out _ O)
  (first
   | (go_at_call 154;refine(I.out _ ?_).mono ?_;exact Br.drew;rintro e t ⟨rfl,L⟩;have c:Bw w t:=Bj Br.drew L;have O:Bw w t:=c))
 all_goals
  obtain⟨⟨f,g,h⟩,⟨i,j,k⟩,J,K⟩:=b.out t c;go_wp2_with fail;go_region_held (fun a=>(Ce a p 0 (.iface t1 y1)/\Ce a p 1 (Pt n1)/\Ce a p 4 (.func (.func f1) #[] k1))/\(Ce a q 0 (.iface t2 y2)/\Ce a q 1 (Pt n2)/\Ce a q 4 (.func (.func f2) #[] k2))/\Ce a bf 0 (Pt p)/\Ce a br 0 (Pt q)) (first|assumption|(refine⟨⟨?_,?_,?_⟩,⟨?_,?_,?_⟩,?_,?_⟩<;>assumption)|exact b.out _ c.drew|exact b.out _ C)
   (first
    | (refine(G.out _ ?_).mono ?_;exact c.drew;rintro e E ⟨rfl,M⟩;have l:Bw w E:=Bj c.drew M;have C:Bw w E:=l)
    | (refine(H.out _ l).mono ?_;rintro e F ⟨rfl,N⟩;have B:Bw w F:=Bj l N;have C:Bw w F:=B))
  all_goals
   go_wp2_with fail;go_ret;exact⟨by show Ending.returned (.string ((Ba X)++⟨Y.toArray⟩))=_;rw[O4],B⟩
theorem tQk (P:X.length+Y.length<=140737488355328)
  (n:Blk w p (J2 r1 z1 m1 t1 y1 n1 c1 (.func (.func f1) #[] k1) d1) 98) (o:Blk w q (J2 r2 z2 m2 t2 y2 n2 c2 (.func (.func f2) #[] k2) d2) 98) (m:Blk w bf #[Pt p] 78) (r:Blk w br #[Pt q] 78)
  (Q:∀(x:Value) (W:World),(callFunc f1 (#[x]++k1)).run Tryz.prog W=.ok (.enter f1 (#[x]++k1)) W) (R:∀(x:Value) (W:World),(callFunc f2 (#[x]++k2)).run Tryz.prog W=.ok (.enter f2 (#[x]++k2)) W)
  (A:∀W,Bw w W->Calls Tryz.prog 154 #[C8 (.iface t2 y2) n2,C8 (.iface t1 y1) n1,A4 (u++v)] W (Rt (.tuple #[A4 u,A4 v]) W))
  (y:∀W,Bw w W->Calls Tryz.prog f1 (#[A4 v]++k1) W (Rt (A4 X) W))
  (z:∀W,Bw w W->Calls Tryz.prog f2 (#[A4 u]++k2) W (Rt (A4 Y) W)) :
  Calls Tryz.prog 191 #[A4 (u++v),Pt br,Pt bf] w fun e a=>e=.returned (A4 (X++Y))/\Bw w a:=by
 have b:Hid (∀W:World,Bw w W->(Ce W p 2 (.iface t1 y1)/\Ce W p 3 (Pt n1)/\Ce W p 5 (.func (.func f1) #[] k1))/\(Ce W q 2 (.iface t2 y2)/\Ce W q 3 (Pt n2)/\Ce W q 5 (.func (.func f2) #[] k2))/\Ce W bf 0 (Pt p)/\Ce W br 0 (Pt q)):=fun W d=>by
  obtain⟨_,_,f,g,_,h,_⟩:=(n.below d n.lt).seven;obtain⟨_,_,i,j,_,k,_⟩:=(o.below d o.lt).seven;exact⟨⟨f,g,h⟩,⟨i,j,k⟩,(m.below d m.lt).cell 0,(r.below d r.lt).cell 0⟩
 have I:Hid (∀W,Bw w W->Ca 154 #[C8 (.iface t2 y2) n2,C8 (.iface t1 y1) n1,A4 (u++v)] W (Rt (.tuple #[A4 u,A4 v]) W)):=A;have G:Hid (∀W,Bw w W->Ca f1 (#[A4 v]++k1) W (Rt (A4 X) W)):=y;have H:Hid (∀W,Bw w W->Ca f2 (#[A4 u]++k2) W (Rt (A4 Y) W)):=z;obtain⟨⟨f,g,h⟩,⟨i,j,k⟩,J,K⟩:=b.out w Br;clear n o m r A y z;generalize u++v=s at *;go_enter Tryz.func191,Tryz.ntmps191;go_wp2_with fail;go_region_held (fun a=>(Ce a p 2 (.iface t1 y1)/\Ce a p 3 (Pt n1)/\Ce a p 5 (.func (.func f1) #[] k1))/\(Ce a q 2 (.iface t2 y2)/\Ce a q 3 (Pt n2)/\Ce a q 5 (.func (.func f2) #[] k2))/\Ce a bf 0 (Pt p)/\Ce a br 0 (Pt q)) (first|assumption|(refine⟨⟨?_,?_,?_⟩,⟨?_,?_,?_⟩,?_,?_⟩<;>assumption)|exact b.out _ Br.drew|exact b.out _ O)
  (first
   | (go_at_call 154;refine(I.out _ ?_).mono ?_;exact Br.drew;rintro e t ⟨rfl,L⟩;have c:Bw w t:=Bj Br.drew L;have O:Bw w t:=c))
 all_goals
  obtain⟨⟨f,g,h⟩,⟨i,j,k⟩,J,K⟩:=b.out t c;go_wp2_with fail;go_region_held (fun a=>(Ce a p 2 (.iface t1 y1)/\Ce a p 3 (Pt n1)/\Ce a p 5 (.func (.func f1) #[] k1))/\(Ce a q 2 (.iface t2 y2)/\Ce a q 3 (Pt n2)/\Ce a q 5 (.func (.func f2) #[] k2))/\Ce a bf 0 (Pt p)/\Ce a br 0 (Pt q)) (first|assumption|(refine⟨⟨?_,?_,?_⟩,⟨?_,?_,?_⟩,?_,?_⟩<;>assumption)|exact b.out _ c.drew|exact b.out _ C)
   (first
    | (refine(G.out _ ?_).mono ?_;exact c.drew;rintro e E ⟨rfl,M⟩;have l:Bw w E:=Bj c.drew M;have C:Bw w E:=l)
    | (refine(H.out _ l).mono ?_;rintro e F ⟨rfl,N⟩;have B:Bw w F:=Bj l N;have C:Bw w F:=B))
  all_goals
   go_wp2_with fail;go_ret;exact⟨by show Ending.returned (.string ((Ba X)++⟨Y.toArray⟩))=_;rw[O4],B⟩
theorem aXq (hX:X.length+Y.length<=140737488355328)
  (B:Blk w p (J2 t1 y1 n1 r1 z1 m1 g1 c1 (.func (.func f1) #[] k1)) 98) (C:Blk w q (J2 t2 y2 n2 r2 z2 m2 g2 c2 (.func (.func f2) #[] k2)) 98) (A:Blk w bf #[Pt p] 78) (E:Blk w br #[Pt q] 78)
  (a4:∀(x y:Value) (W:World),(callFunc f1 (#[x,y]++k1)).run Tryz.prog W=.ok (.enter f1 (#[x,y]++k1)) W) (a5:∀(x y:Value) (W:World),(callFunc f2 (#[x,y]++k2)).run Tryz.prog W=.ok (.enter f2 (#[x,y]++k2)) W)
  (K:∀W,Bw w W->Calls Tryz.prog 154 #[C8 (.iface r1 z1) m1,C8 (.iface r2 z2) m2,A4 (u++v)] W (Rt (.tuple #[A4 u,A4 v]) W))
  (J:∀W,Bw w W->Calls Tryz.prog 154 #[C8 (.iface t1 y1) n1,C8 (.iface t2 y2) n2,A4 (s++t)] W (Rt (.tuple #[A4 s,A4 t]) W))
  (H:∀W,Bw w W->Calls Tryz.prog f1 (#[A4 u,A4 s]++k1) W (Rt (A4 X) W))
  (I:∀W,Bw w W->Calls Tryz.prog f2 (#[A4 v,A4 t]++k2) W (Rt (A4 Y) W)) :
  Calls Tryz.prog 156 #[A4 (u++v),A4 (s++t),Pt bf,Pt br] w fun e a=>e=.returned (A4 (X++Y))/\Bw w a:=by
 have b:Hid (∀W:World,Bw w W->(Ce W p 0 (.iface t1 y1)/\Ce W p 1 (Pt n1)/\Ce W p 2 (.iface r1 z1)/\Ce W p 3 (Pt m1)/\Ce W p 6 (.func (.func f1) #[] k1))/\(Ce W q 0 (.iface t2 y2)/\Ce W q 1 (Pt n2)/\Ce W q 2 (.iface r2 z2)/\Ce W q 3 (Pt m2)/\Ce W q 6 (.func (.func f2) #[] k2))/\Ce W bf 0 (Pt p)/\Ce W br 0 (Pt q)):=fun W r=>by
  obtain⟨f,g,h,i,_,_,j⟩:=(B.below r B.lt).seven;obtain⟨k,l,m,n,_,_,o⟩:=(C.below r C.lt).seven;exact⟨⟨f,g,h,i,j⟩,⟨k,l,m,n,o⟩,(A.below r A.lt).cell 0,(E.below r E.lt).cell 0⟩
 have U:Hid (∀W,Bw w W->Ca 154 #[C8 (.iface r1 z1) m1,C8 (.iface r2 z2) m2,A4 (u++v)] W (Rt (.tuple #[A4 u,A4 v]) W)):=K;have T:Hid (∀W,Bw w W->Ca 154 #[C8 (.iface t1 y1) n1,C8 (.iface t2 y2) n2,A4 (s++t)] W (Rt (.tuple #[A4 s,A4 t]) W)):=J;have R:Hid (∀W,Bw w W->Ca f1 (#[A4 u,A4 s]++k1) W (Rt (A4 X) W)):=H;have S:Hid (∀W,Bw w W->Ca f2 (#[A4 v,A4 t]++k2) W (Rt (A4 Y) W)):=I;obtain⟨⟨f,g,h,i,j⟩,⟨k,l,m,n,o⟩,L,M⟩:=b.out w Br;clear B C A E K J H I;generalize u++v=uv at *;generalize s++t=so at *;go_enter Tryz.func156,Tryz.ntmps156;go_wp2_with fail;go_region_held (fun a=>(Ce a p 0 (.iface t1 y1)/\Ce a p 1 (Pt n1)/\Ce a p 2 (.iface r1 z1)/\Ce a p 3 (Pt m1)/\Ce a p 6 (.func (.func f1) #[] k1))/\(Ce a q 0 (.iface t2 y2)/\Ce a q 1 (Pt n2)/\Ce a q 2 (.iface r2 z2)/\Ce a q 3 (Pt m2)/\Ce a q 6 (.func (.func f2) #[] k2))/\Ce a bf 0 (Pt p)/\Ce a br 0 (Pt q)) (first|assumption|(refine⟨⟨?_,?_,?_,?_,?_⟩,⟨?_,?_,?_,?_,?_⟩,?_,?_⟩<;>assumption)|exact b.out _ Br.drew|exact b.out _ a2)
  (first
   | (go_at_call 154;refine(U.out _ ?_).mono ?_;exact Br.drew;rintro e F ⟨rfl,V⟩;have c:Bw w F:=Bj Br.drew V;have a2:Bw w F:=c))
 all_goals
  obtain⟨⟨f,g,h,i,j⟩,⟨k,l,m,n,o⟩,L,M⟩:=b.out F c;go_wp2_with fail;go_region_held (fun a=>(Ce a p 0 (.iface t1 y1)/\Ce a p 1 (Pt n1)/\Ce a p 2 (.iface r1 z1)/\Ce a p 3 (Pt m1)/\Ce a p 6 (.func (.func f1) #[] k1))/\(Ce a q 0 (.iface t2 y2)/\Ce a q 1 (Pt n2)/\Ce a q 2 (.iface r2 z2)/\Ce a q 3 (Pt m2)/\Ce a q 6 (.func (.func f2) #[] k2))/\Ce a bf 0 (Pt p)/\Ce a br 0 (Pt q)) (first|assumption|(refine⟨⟨?_,?_,?_,?_,?_⟩,⟨?_,?_,?_,?_,?_⟩,?_,?_⟩<;>assumption)|exact b.out _ c.drew|exact b.out _ a3)
   (first
    | (go_at_call 154;refine(T.out _ ?_).mono ?_;exact c.drew;rintro e G ⟨rfl,Z⟩;have d:Bw w G:=Bj c.drew Z;have a3:Bw w G:=d))
  all_goals
   obtain⟨⟨f,g,h,i,j⟩,⟨k,l,m,n,o⟩,L,M⟩:=b.out G d;go_wp2_with fail;go_region_held (fun a=>(Ce a p 0 (.iface t1 y1)/\Ce a p 1 (Pt n1)/\Ce a p 2 (.iface r1 z1)/\Ce a p 3 (Pt m1)/\Ce a p 6 (.func (.func f1) #[] k1))/\(Ce a q 0 (.iface t2 y2)/\Ce a q 1 (Pt n2)/\Ce a q 2 (.iface r2 z2)/\Ce a q 3 (Pt m2)/\Ce a q 6 (.func (.func f2) #[] k2))/\Ce a bf 0 (Pt p)/\Ce a br 0 (Pt q)) (first|assumption|(refine⟨⟨?_,?_,?_,?_,?_⟩,⟨?_,?_,?_,?_,?_⟩,?_,?_⟩<;>assumption)|exact b.out _ d.drew|exact b.out _ O)
    (first
     | (refine(R.out _ ?_).mono ?_;exact d.drew;rintro e P ⟨rfl,a0⟩;have z:Bw w P:=Bj d.drew a0;have O:Bw w P:=z)
     | (refine(S.out _ z).mono ?_;rintro e Q ⟨rfl,a1⟩;have N:Bw w Q:=Bj z a1;have O:Bw w Q:=N))
   all_goals
    go_wp2_with fail;go_ret;exact⟨by show Ending.returned (.string ((Ba X)++⟨Y.toArray⟩))=_;rw[O4],N⟩
theorem aXm (hX:X.length+Y.length<=140737488355328)
  (B:Blk w p (J2 t1 y1 n1 r1 z1 m1 g1 c1 (.func (.func f1) #[] k1)) 98) (C:Blk w q (J2 t2 y2 n2 r2 z2 m2 g2 c2 (.func (.func f2) #[] k2)) 98) (A:Blk w bf #[Pt p] 78) (E:Blk w br #[Pt q] 78)
  (a4:∀(x y:Value) (W:World),(callFunc f1 (#[x,y]++k1)).run Tryz.prog W=.ok (.enter f1 (#[x,y]++k1)) W) (a5:∀(x y:Value) (W:World),(callFunc f2 (#[x,y]++k2)).run Tryz.prog W=.ok (.enter f2 (#[x,y]++k2)) W)
  (K:∀W,Bw w W->Calls Tryz.prog 154 #[C8 (.iface r2 z2) m2,C8 (.iface r1 z1) m1,A4 (u++v)] W (Rt (.tuple #[A4 u,A4 v]) W))
  (J:∀W,Bw w W->Calls Tryz.prog 154 #[C8 (.iface t1 y1) n1,C8 (.iface t2 y2) n2,A4 (s++t)] W (Rt (.tuple #[A4 s,A4 t]) W))
  (H:∀W,Bw w W->Calls Tryz.prog f1 (#[A4 v,A4 s]++k1) W (Rt (A4 X) W))
  (I:∀W,Bw w W->Calls Tryz.prog f2 (#[A4 u,A4 t]++k2) W (Rt (A4 Y) W)) :
  Calls Tryz.prog 192 #[A4 (u++v),A4 (s++t),Pt br,Pt bf] w fun e a=>e=.returned (A4 (X++Y))/\Bw w a:=by
 have b:Hid (∀W:World,Bw w W->(Ce W p 0 (.iface t1 y1)/\Ce W p 1 (Pt n1)/\Ce W p 2 (.iface r1 z1)/\Ce W p 3 (Pt m1)/\Ce W p 6 (.func (.func f1) #[] k1))/\(Ce W q 0 (.iface t2 y2)/\Ce W q 1 (Pt n2)/\Ce W q 2 (.iface r2 z2)/\Ce W q 3 (Pt m2)/\Ce W q 6 (.func (.func f2) #[] k2))/\Ce W bf 0 (Pt p)/\Ce W br 0 (Pt q)):=fun W r=>by
  obtain⟨f,g,h,i,_,_,j⟩:=(B.below r B.lt).seven;obtain⟨k,l,m,n,_,_,o⟩:=(C.below r C.lt).seven;exact⟨⟨f,g,h,i,j⟩,⟨k,l,m,n,o⟩,(A.below r A.lt).cell 0,(E.below r E.lt).cell 0⟩
 have U:Hid (∀W,Bw w W->Ca 154 #[C8 (.iface r2 z2) m2,C8 (.iface r1 z1) m1,A4 (u++v)] W (Rt (.tuple #[A4 u,A4 v]) W)):=K;have T:Hid (∀W,Bw w W->Ca 154 #[C8 (.iface t1 y1) n1,C8 (.iface t2 y2) n2,A4 (s++t)] W (Rt (.tuple #[A4 s,A4 t]) W)):=J;have R:Hid (∀W,Bw w W->Ca f1 (#[A4 v,A4 s]++k1) W (Rt (A4 X) W)):=H;have S:Hid (∀W,Bw w W->Ca f2 (#[A4 u,A4 t]++k2) W (Rt (A4 Y) W)):=I;obtain⟨⟨f,g,h,i,j⟩,⟨k,l,m,n,o⟩,L,M⟩:=b.out w Br;clear B C A E K J H I;generalize u++v=uv at *;generalize s++t=so at *;go_enter Tryz.func192,Tryz.ntmps192;go_wp2_with fail;go_region_held (fun a=>(Ce a p 0 (.iface t1 y1)/\Ce a p 1 (Pt n1)/\Ce a p 2 (.iface r1 z1)/\Ce a p 3 (Pt m1)/\Ce a p 6 (.func (.func f1) #[] k1))/\(Ce a q 0 (.iface t2 y2)/\Ce a q 1 (Pt n2)/\Ce a q 2 (.iface r2 z2)/\Ce a q 3 (Pt m2)/\Ce a q 6 (.func (.func f2) #[] k2))/\Ce a bf 0 (Pt p)/\Ce a br 0 (Pt q)) (first|assumption|(refine⟨⟨?_,?_,?_,?_,?_⟩,⟨?_,?_,?_,?_,?_⟩,?_,?_⟩<;>assumption)|exact b.out _ Br.drew|exact b.out _ a2)
  (first
   | (go_at_call 154;refine(U.out _ ?_).mono ?_;exact Br.drew;rintro e F ⟨rfl,V⟩;have c:Bw w F:=Bj Br.drew V;have a2:Bw w F:=c))
 all_goals
  obtain⟨⟨f,g,h,i,j⟩,⟨k,l,m,n,o⟩,L,M⟩:=b.out F c;go_wp2_with fail;go_region_held (fun a=>(Ce a p 0 (.iface t1 y1)/\Ce a p 1 (Pt n1)/\Ce a p 2 (.iface r1 z1)/\Ce a p 3 (Pt m1)/\Ce a p 6 (.func (.func f1) #[] k1))/\(Ce a q 0 (.iface t2 y2)/\Ce a q 1 (Pt n2)/\Ce a q 2 (.iface r2 z2)/\Ce a q 3 (Pt m2)/\Ce a q 6 (.func (.func f2) #[] k2))/\Ce a bf 0 (Pt p)/\Ce a br 0 (Pt q)) (first|assumption|(refine⟨⟨?_,?_,?_,?_,?_⟩,⟨?_,?_,?_,?_,?_⟩,?_,?_⟩<;>assumption)|exact b.out _ c.drew|exact b.out _ a3)
   (first
    | (go_at_call 154;refine(T.out _ ?_).mono ?_;exact c.drew;rintro e G ⟨rfl,Z⟩;have d:Bw w G:=Bj c.drew Z;have a3:Bw w G:=d))
  all_goals
   obtain⟨⟨f,g,h,i,j⟩,⟨k,l,m,n,o⟩,L,M⟩:=b.out G d;go_wp2_with fail;go_region_held (fun a=>(Ce a p 0 (.iface t1 y1)/\Ce a p 1 (Pt n1)/\Ce a p 2 (.iface r1 z1)/\Ce a p 3 (Pt m1)/\Ce a p 6 (.func (.func f1) #[] k1))/\(Ce a q 0 (.iface t2 y2)/\Ce a q 1 (Pt n2)/\Ce a q 2 (.iface r2 z2)/\Ce a q 3 (Pt m2)/\Ce a q 6 (.func (.func f2) #[] k2))/\Ce a bf 0 (Pt p)/\Ce a br 0 (Pt q)) (first|assumption|(refine⟨⟨?_,?_,?_,?_,?_⟩,⟨?_,?_,?_,?_,?_⟩,?_,?_⟩<;>assumption)|exact b.out _ d.drew|exact b.out _ O)
    (first
     | (refine(R.out _ ?_).mono ?_;exact d.drew;rintro e P ⟨rfl,a0⟩;have z:Bw w P:=Bj d.drew a0;have O:Bw w P:=z)
     | (refine(S.out _ z).mono ?_;rintro e Q ⟨rfl,a1⟩;have N:Bw w Q:=Bj z a1;have O:Bw w Q:=N))
   all_goals
    go_wp2_with fail;go_ret;exact⟨by show Ending.returned (.string ((Ba X)++⟨Y.toArray⟩))=_;rw[O4],N⟩
theorem mQs (x:Lu)
  (n:Blk w p (J2 t1 y1 n1 r1 z1 m1 g1 c1 (.func (.func f1) #[] k1)) 98) (o:Blk w q (J2 t2 y2 n2 r2 z2 m2 g2 (.func (.func f2) #[] k2) d2) 98)
  (J:∀(x y:Value) (W:World),(callFunc f1 (#[x,y]++k1)).run Tryz.prog W=.ok (.enter f1 (#[x,y]++k1)) W) (K:∀(x:Value) (W:World),(callFunc f2 (#[x]++k2)).run Tryz.prog W=.ok (.enter f2 (#[x]++k2)) W)
  (z:∀W,Bw w W->Calls Tryz.prog 52 #[.agg #[.iface t1 y1,Pt n1,.iface r1 z1,Pt m1],A4 x] W fun e r=>∃b:Bool,e=.returned (.bool b)/\(b=true↔A)/\Bw W r)
  (u:A->∀W,Bw w W->Calls Tryz.prog f1 (#[A4 x,A4 s]++k1) W (Rt (A4 Z) W))
  (v:¬A->∀W,Bw w W->Calls Tryz.prog f2 (#[A4 x]++k2) W (Rt (A4 Z) W)) :
  Calls Tryz.prog 139 #[Pt p,Pt q,A4 x,A4 s] w fun e r=>e=.returned (A4 Z)/\Bw w r:=by
 have B:Hid (∀W:World,Bw w W->(Ce W p 0 (.iface t1 y1)/\Ce W p 1 (Pt n1)/\Ce W p 2 (.iface r1 z1)/\Ce W p 3 (Pt m1)/\Ce W p 6 (.func (.func f1) #[] k1))/\Ce W q 5 (.func (.func f2) #[] k2)):=fun W E=>by
  obtain⟨f,g,i,j,_,_,k⟩:=(n.below E n.lt).seven;obtain⟨_,_,_,_,_,l,_⟩:=(o.below E o.lt).seven;exact⟨⟨f,g,i,j,k⟩,l⟩
 have C:=z w Br;have G:Hid (A->∀W,Bw w W->Ca f1 (#[A4 x,A4 s]++k1) W (Rt (A4 Z) W)):=u;have H:Hid (¬A->∀W,Bw w W->Ca f2 (#[A4 x]++k2) W (Rt (A4 Z) W)):=v;obtain⟨⟨f,g,i,j,k⟩,l⟩:=B.out w Br;clear n o z u v;go_enter Tryz.func139,Tryz.ntmps139;go_wp2_with fail;refine C.mono ?_;clear C;rintro e t ⟨b,rfl,F,c⟩;have d:Hid (b=true↔A):=F;obtain⟨⟨f,g,i,j,k⟩,l⟩:=B.out t c;clear F;cases b with
 | true=>
  have a:=G.out (d.out.1 rfl) t c;clear d;go_wp2_with fail;refine a.mono ?_;clear a;rintro e I ⟨rfl,m⟩;go_wp2_with fail;go_ret;exact⟨rfl,Bj c m⟩
 | false=>
  have a:=H.out (fun h=>(by have:=d.out.2 h;cases this)) t c;clear d;go_wp2_with fail;refine a.mono ?_;clear a;rintro e I ⟨rfl,m⟩;go_wp2_with fail;go_ret;exact⟨rfl,Bj c m⟩
theorem aXs (x:Lu)
  (n:Blk w p (J2 t1 y1 n1 r1 z1 m1 g1 c1 d1) 98) (m:Blk w bf #[Pt p] 78) (o:Blk w br #[Pt q] 78)
  (y:∀W,Bw w W->Calls Tryz.prog 49 #[.agg #[.iface t1 y1,Pt n1,.iface r1 z1,Pt m1],A4 s] W fun e r=>∃b:Bool,e=.returned (.bool b)/\(b=true↔A)/\Bw W r)
  (u:A->∀W,Bw w W->Calls Tryz.prog 139 #[Pt p,Pt q,A4 x,A4 s] W (Rt (A4 Z) W))
  (v:¬A->∀W,Bw w W->Calls Tryz.prog 139 #[Pt q,Pt p,A4 x,A4 s] W (Rt (A4 Z) W)) :
  Calls Tryz.prog 138 #[A4 x,A4 s,Pt bf,Pt br] w fun e r=>e=.returned (A4 Z)/\Bw w r:=by
 have z:Hid (∀W:World,Bw w W->(Ce W p 0 (.iface t1 y1)/\Ce W p 1 (Pt n1)/\Ce W p 2 (.iface r1 z1)/\Ce W p 3 (Pt m1))/\Ce W bf 0 (Pt p)/\Ce W br 0 (Pt q)):=fun W k=>by
  obtain⟨f,g,i,j,_,_,_⟩:=(n.below k n.lt).seven;exact⟨⟨f,g,i,j⟩,(m.below k m.lt).cell 0,(o.below k o.lt).cell 0⟩
 have B:=y w Br;have E:Hid (A->∀W,Bw w W->Ca 139 #[Pt p,Pt q,A4 x,A4 s] W (Rt (A4 Z) W)):=u;have F:Hid (¬A->∀W,Bw w W->Ca 139 #[Pt q,Pt p,A4 x,A4 s] W (Rt (A4 Z) W)):=v;obtain⟨⟨f,g,i,j⟩,G,H⟩:=z.out w Br;clear n m o y u v;go_enter Tryz.func138,Tryz.ntmps138;go_wp2_with fail;refine B.mono ?_;clear B;rintro e t ⟨b,rfl,C,c⟩;have d:Hid (b=true↔A):=C;obtain⟨⟨f,g,i,j⟩,G,H⟩:=z.out t c;clear C;cases b with
 | true=>
  have a:=E.out (d.out.1 rfl) t c;clear d;go_wp2_with fail;refine a.mono ?_;clear a;rintro e I ⟨rfl,l⟩;go_wp2_with fail;go_ret;exact⟨rfl,Bj c l⟩
 | false=>
  have a:=F.out (fun h=>(by have:=d.out.2 h;cases this)) t c;clear d;go_wp2_with fail;refine a.mono ?_;clear a;rintro e I ⟨rfl,l⟩;go_wp2_with fail;go_ret;exact⟨rfl,Bj c l⟩
end Go.Proofs.YtfklinjaajafgaaGreatDoor
