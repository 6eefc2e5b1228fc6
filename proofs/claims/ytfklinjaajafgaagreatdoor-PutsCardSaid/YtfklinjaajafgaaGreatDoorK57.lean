import Derived.Test.YtfklinjaajafgaaGreatDoorK56
set_option maxRecDepth 100000
set_option maxHeartbeats 4000000
namespace Go.Proofs.YtfklinjaajafgaaGreatDoor
open Ls hiding none
open Go.RowKit
variable (a b:Ln)(w:World)(a3:Addr)(G:Nat->Prop)(p q:Nat)(F:Prop)
theorem sQp (v:OkL 120 a)(x:OkL 120 b)(M:eX7 a+eX7 b<=24)(R:gx a+gx b<=1099511627776)(a8:dn (dS a)+dn (dS b)<=100000)(b7:dn (dV a)+dn (dV b)<=100000)
    (j:Old w G)  (hc:EType w a3)  (ha:PartV w G p a) (hb:PartV w G q b)  (hF:F↔(¬fXb (eX5 (dS a)) (eX5 (dS b))/\¬fXb (eX5 (dV b)) (eX5 (dV a)))) :
  Calls Tryz.prog 170 #[Pt p,Pt q] w (PartPost w G a3 F (fXc a b)):=by
 have T:Hid (PartV w G p a/\PartV w G q b):=⟨ha,hb⟩;obtain⟨t1,y1,n1,t2,y2,n2,g1,c1,d1,b8,a0,a9,b0,_,_,_⟩:=ha;obtain⟨t3,y3,n3,t4,y4,n4,g2,c2,d2,b9,a4,b1,b2,_,_,_⟩:=hb;have c0:=fX3 a v;have c3:=fX3 b x;have c4:=fXz a v;have c5:=fXz b x;have P:Bw w ((w.alloc (.cells #[Pt p] 78)).alloc (.cells #[Pt q] 78)):=C6 w _ _;have c7:((w.alloc (.cells #[Pt p] 78)).alloc (.cells #[Pt q] 78)).heap.size=w.heap.size+1+1:=by simp
 have B:Blk ((w.alloc (.cells #[Pt p] 78)).alloc (.cells #[Pt q] 78)) w.heap.size #[Pt p] 78:=(Blk.new w _ _).of (Below.heap_alloc _ _ _ (by simp));have C:Blk ((w.alloc (.cells #[Pt p] 78)).alloc (.cells #[Pt q] 78)) (w.heap.size+1) #[Pt q] 78:=by
  have:=Blk.new (w.alloc (.cells #[Pt p] 78)) #[Pt q] 78;rw[World.size_alloc]at this;exact this
 have r:Hid (∀W:World,Below ((w.alloc (.cells #[Pt p] 78)).alloc (.cells #[Pt q] 78)).heap.size ((w.alloc (.cells #[Pt p] 78)).alloc (.cells #[Pt q] 78)) W->(Ce W p 0 (.iface t1 y1)/\Ce W p 1 (Pt n1)/\Ce W p 2 (.iface t2 y2)/\Ce W p 3 (Pt n2))/\(Ce W q 0 (.iface t3 y3)/\Ce W q 1 (Pt n3)/\Ce W q 2 (.iface t4 y4)/\Ce W q 3 (Pt n4))/\Ce W w.heap.size 0 (Pt p)/\W.cell? ⟨w.heap.size+1,0,none⟩=some (Pt q)):=fun W d=>by
  obtain⟨e0,e1,e2,e3,_,_,_⟩:=(a0.below (Bj P d) a0.lt).seven;obtain⟨f0,f1,f2,f3,_,_,_⟩:=(a4.below (Bj P d) a4.lt).seven;exact⟨⟨e0,e1,e2,e3⟩,⟨f0,f1,f2,f3⟩,(B.below d B.lt).cell 0,(C.below d C.lt).cell 0⟩
 have H1:Hid (∀W,Bw w W->Ca 152 #[.agg #[.iface t1 y1,Pt n1],.agg #[.iface t3 y3,Pt n3]] W (aQp W G a3 (¬fXb (eX5 (dS a)) (eX5 (dS b))) (fXi (dS a) (dS b)))):=fun W d=>
  eQa _ a3 _ _ _ _ _ _ _ (by omega) a8 W G (fun k m=>Ll (j k m) d.size) (hc.below d) (a9.below j d) (b1.below j d)
 have H2:Hid (∀W,Bw w W->Ca 152 #[.agg #[.iface t4 y4,Pt n4],.agg #[.iface t2 y2,Pt n2]] W (aQp W G a3 (¬fXb (eX5 (dV b)) (eX5 (dV a))) (fXi (dV b) (dV a)))):=fun W d=>
  eQa _ a3 _ _ _ _ _ _ _ (by omega) (by omega) W G (fun k m=>Ll (j k m) d.size) (hc.below d) (b2.below j d) (b0.below j d)
 have a5:Hid (∀W,Below ((w.alloc (.cells #[Pt p] 78)).alloc (.cells #[Pt q] 78)).heap.size ((w.alloc (.cells #[Pt p] 78)).alloc (.cells #[Pt q] 78)) W->Blk W w.heap.size #[Pt p] 78/\Blk W (w.heap.size+1) #[Pt q] 78):=fun W d=>⟨B.below d B.lt,C.below d C.lt⟩;have A:Hid (Bw w ((w.alloc (.cells #[Pt p] 78)).alloc (.cells #[Pt q] 78))):=P;have U:Hid (F↔(¬fXb (eX5 (dS a)) (eX5 (dS b))/\¬fXb (eX5 (dV b)) (eX5 (dV a)))):=hF;have c6:∀(fn:Fn) (first a7:Array Value) (w:World),(Instr.makeFunc fn first a7).run Tryz.prog w=.ok (.func fn first a7) w:=fun _ _ _ _=>rfl;clear b8 a0 a9 b0 b9 a4 b1 b2 hc hF B C P;go_enter Tryz.func170,Tryz.ntmps170;go_upto_region 1 with (fail);generalize ((w.alloc (.cells #[Pt p] 78)).alloc (.cells #[Pt q] 78))=o at *;have a6:Hid (∀e f y J z L u I,Bw o e->Bw e f->¬fXb (eX5 (dS a)) (eX5 (dS b))->¬fXb (eX5 (dV b)) (eX5 (dV a))->Tx e (Gn o G e) (.iface y z) u (fXi (dS a) (dS b))->Tx f (Gn e G f) (.iface J L) I (fXi (dV b) (dV a))->
   Hid (PartPost w G a3 F (fXc a b) (.returned (Pt f.heap.size)) (f.alloc (W9 y z u J L I (.func (.func 190) #[] #[Pt w.heap.size,.pointer (some ⟨(w.heap.size+1),0,none⟩)]) (.func (.func 191) #[] #[.pointer (some ⟨(w.heap.size+1),0,none⟩),Pt w.heap.size]) (.func (.func 192) #[] #[.pointer (some ⟨(w.heap.size+1),0,none⟩),Pt w.heap.size]))))):=by
  intro e f y J z L u I E n s t N O;have i:=Bj E n;have Q:=Bj A.out i;have s2:=E.size;have s3:=n.size;have b6:Tx e (Gn w G e) (.iface y z) u (fXi (dS a) (dS b)):=N.mono (fun k m=>m.imp id (fun h=>⟨by have h1:o.heap.size<=k:=h.1;omega,h.2⟩)) (fun _ _=>rfl);have a1:=(T.out.1.below j Q).mono (G':=Gn w G f) (fun _ h=>.inl h) (fun _ _=>rfl);have a2:=(T.out.2.below j Q).mono (G':=Gn w G f) (fun _ h=>.inl h) (fun _ _=>rfl);obtain⟨Y,Z⟩:=a5.out f i;refine .inl ⟨U.out.2 ⟨s,t⟩,f.heap.size,rfl,bQj (G1:=Gn w G e) (G2:=Gn e G f) Q j (by rw[tQx];exact b6.below (Gn.old j (by omega)) n) (by rw[tQ2];exact O) (fun k m=>m.imp id (fun h=>⟨h.1,by have:=h.2;omega⟩)) (fun k m=>m.imp id (fun h=>⟨by have:=h.1;omega,h.2⟩)) ?_ ?_ ?_,Bj Q (A5 _ _)⟩
  ·exact dX4 a b v x M R s a1 a2 Y Z (.inr ⟨by omega,by omega⟩) (.inr ⟨by omega,by omega⟩)
  ·exact dX0 a b v x M R t a1 a2 Y Z (.inr ⟨by omega,by omega⟩) (.inr ⟨by omega,by omega⟩)
  ·exact dX8 a b v x M R s t a1 a2 Y Z (.inr ⟨by omega,by omega⟩) (.inr ⟨by omega,by omega⟩)
 clear T a5 c0 c3 c4 c5 a8 b7 R v x M;obtain⟨⟨e0,e1,e2,e3⟩,⟨f0,f1,f2,f3⟩,x0,x1⟩:=r.out o Br;refine wp_region_held_drew (S:=(fun l=>(Ce l p 0 (.iface t1 y1)/\Ce l p 1 (Pt n1)/\Ce l p 2 (.iface t2 y2)/\Ce l p 3 (Pt n2))/\(Ce l q 0 (.iface t3 y3)/\Ce l q 1 (Pt n3)/\Ce l q 2 (.iface t4 y4)/\Ce l q 3 (Pt n4))/\Ce l w.heap.size 0 (Pt p)/\l.cell? ⟨w.heap.size+1,0,none⟩=some (Pt q))) (by kernel_rfl) ?_ (fun hHeld=>?_)
 ·exact r.out _ Br.drew
 refine tk 0 rfl (fun _ c=>by go_simp;try with_reducible rfl) ?_;refine tk 1 rfl (fun _ c=>by go_simp;try with_reducible rfl) ?_;refine tk 2 rfl (fun _ c=>by go_simp;try with_reducible rfl) ?_;refine tk 3 rfl (fun _ c=>by go_simp;try with_reducible rfl) ?_;refine tk 4 rfl (fun _ c=>by go_simp;try with_reducible rfl) ?_;refine tk 5 rfl (fun _ c=>by go_simp;try with_reducible rfl) ?_;refine tk 6 rfl (fun _ c=>by go_simp;try with_reducible rfl) ?_;refine tk 7 rfl (fun _ c=>by go_simp;try with_reducible rfl) ?_;refine tk 8 rfl (fun _ c=>by go_simp;try with_reducible rfl) ?_;refine tk 9 rfl (fun _ c=>by go_simp;try with_reducible rfl) ?_;refine tk 11 rfl (fun _ c=>by go_simp;try with_reducible rfl) ?_;refine tk 12 rfl (fun _ c=>by go_simp;try with_reducible rfl) ?_;refine tk 13 rfl (fun _ c=>by go_simp;try with_reducible rfl) ?_;refine tk 14 rfl (fun _ c=>by go_simp;try with_reducible rfl) ?_;refine tk 15 rfl (fun _ c=>by go_simp;try with_reducible rfl) ?_;refine tk 16 rfl (fun _ c=>by go_simp;try with_reducible rfl) ?_;refine tk 17 rfl (fun _ c=>by go_simp;try with_reducible rfl) ?_;refine tk 18 rfl (fun _ c=>by go_simp;try with_reducible rfl) ?_;refine tk 19 rfl (fun _ c=>by go_simp;try with_reducible rfl) ?_;refine tk 20 rfl (fun _ c=>by go_simp;try with_reducible rfl) ?_;refine tk 23 rfl (fun _ c=>by go_simp;try with_reducible rfl) ?_;refine tk 24 rfl (fun _ c=>by go_simp;try with_reducible rfl) ?_;refine tk 25 rfl (fun _ c=>by go_simp;try with_reducible rfl) ?_;refine sp 10 (by kernel_rfl) rfl (fun K g=>?_);go_simp
 (refine(H1.out _ ?_).mono ?_;exact A.out.drew;rintro b5 e (⟨s,y,z,u,rfl,N,X⟩|⟨H,rfl,X⟩);rotate_left;(have V:Hid _:=H;clear H a6;go_wp2_with fail;exact⟨rfl,.inr ⟨fun h=>V.out (U.out.1 h).1,rfl,Bj A.out.drew X⟩⟩);have b3:Hid _:=s;clear s;have E:Bw o e:=Bj Br.drew X;have i:Bw o e:=E)
 go_wp2_with fail;refine g.out _ _ ?_ (fun hHeld=>?_)
 ·exact r.out _ i
 clear g K;refine sp 21 (by kernel_rfl) rfl (fun K g=>?_);go_simp
 (refine(H2.out _ (Bj A.out i)).mono ?_;rintro b5 f (⟨t,J,L,I,rfl,O,n⟩|⟨H,rfl,n⟩);rotate_left;(have V:Hid _:=H;clear H;go_wp2_with fail;exact⟨rfl,.inr ⟨fun h=>V.out (U.out.1 h).2,rfl,Bj (Bj A.out i) n⟩⟩);have b4:Hid _:=t;clear t;have i:Bw o f:=Bj i n)
 go_wp2_with fail;refine g.out _ _ ?_ (fun hHeld=>?_)
 ·exact r.out _ i
 clear g K;refine tk 22 rfl (fun _ c=>by go_simp;try with_reducible rfl) ?_;refine tk 26 rfl (fun _ c=>by go_simp;try with_reducible rfl) ?_;refine sp 27 (by kernel_rfl) rfl (fun K g=>?_);go_simp
 refine g.out _ _ ?_ (fun hHeld=>?_)
 ·exact r.out _ (Bj i (A5 _ _))
 clear g K;refine sp 28 (by kernel_rfl) rfl (fun K g=>?_);go_simp
 refine g.out _ _ ?_ (fun hHeld=>?_)
 ·exact r.out _ (Bj i (A5 _ _))
 clear g K;refine wpAnyH_done (by kernel_rfl) ?_ _;have HP:=a6.out e f y J z L u I E n b3.out b4.out N O;clear N O;go_wp2_with fail;go_ret;exact HP.out
theorem xQy (z:Bool)(b:EType w a3) :
  Calls Tryz.prog 134 #[.bool z] w fun e a=>a=w/\((z=true/\e=.returned (.tuple #[]))\/(z=false/\e=.panicked [{v:=C9 a3,recovered:=false}])):=by
 cases z with
 | true=>exact(fQb w).mono (fun e a h=>⟨h.2,.inl ⟨rfl,h.1⟩⟩)
 | false=>exact(cQ8 a3 w b).mono (fun e a h=>⟨h.2,.inr ⟨rfl,h.1⟩⟩)
theorem eXe (x:OkL 120 a)(X:OkL 120 b)(N:eX7 a+eX7 b<=24)(b4:dn (dS a)+dn (dS b)<=100000)(b5:dn (dV a)+dn (dV b)<=100000)
    (g:Old w G)  (hc:EType w a3)  (ha:PartV w G p a) (hb:PartV w G q b)  (hF:F↔¬jX2 (eX5 (dS a)) (eX5 (dS b))) :
  Calls Tryz.prog 122 #[Pt p,Pt q] w (PartPost w G a3 F (fXn a b)):=by
 have HA:Hid (PartV w G p a/\PartV w G q b):=⟨ha,hb⟩;obtain⟨Y,y1,u,Z,y2,U,g1,c1,d1,d3,a4,R,b6,_,_,_⟩:=ha;obtain⟨t3,y3,v,t4,y4,V,g2,c2,d2,d4,a7,T,b7,_,_,_⟩:=hb;have d5:=fX3 a x;have d6:=fX3 b X;have d7:=fXz a x;have d8:=fXz b X;have P:Bw w ((w.alloc (.cells #[Pt p] 78)).alloc (.cells #[Pt q] 78)):=C6 w _ _;have a8:((w.alloc (.cells #[Pt p] 78)).alloc (.cells #[Pt q] 78)).heap.size=w.heap.size+1+1:=by simp
 have z:Blk ((w.alloc (.cells #[Pt p] 78)).alloc (.cells #[Pt q] 78)) w.heap.size #[Pt p] 78:=(Blk.new w _ _).of (Below.heap_alloc _ _ _ (by simp));have A:Blk ((w.alloc (.cells #[Pt p] 78)).alloc (.cells #[Pt q] 78)) (w.heap.size+1) #[Pt q] 78:=by
  have:=Blk.new (w.alloc (.cells #[Pt p] 78)) #[Pt q] 78;rw[World.size_alloc]at this;exact this
 have n:Hid (∀W:World,Below ((w.alloc (.cells #[Pt p] 78)).alloc (.cells #[Pt q] 78)).heap.size ((w.alloc (.cells #[Pt p] 78)).alloc (.cells #[Pt q] 78)) W->(Ce W p 0 (.iface Y y1)/\Ce W p 1 (Pt u)/\Ce W p 2 (.iface Z y2)/\Ce W p 3 (Pt U))/\(Ce W q 0 (.iface t3 y3)/\Ce W q 1 (Pt v)/\Ce W q 2 (.iface t4 y4)/\Ce W q 3 (Pt V))/\Ce W w.heap.size 0 (Pt p)/\W.cell? ⟨w.heap.size+1,0,none⟩=some (Pt q)):=fun W e=>by
  obtain⟨e0,e1,e2,e3,_,_,_⟩:=(a4.below (Bj P e) a4.lt).seven;obtain⟨f0,f1,f2,f3,_,_,_⟩:=(a7.below (Bj P e) a7.lt).seven;exact⟨⟨e0,e1,e2,e3⟩,⟨f0,f1,f2,f3⟩,(z.below e z.lt).cell 0,(A.below e A.lt).cell 0⟩
 have c0:Hid (∀W,Bw w W->Ca 38 #[Pt u,Pt v] W (dQs W (jX2 (eX5 (dS a)) (eX5 (dS b))))):=fun W e=>by
  have hO:Old W G:=fun k m=>Ll (g k m) e.size;obtain⟨c4,c5,hN⟩:=(R.below g e).nt hO (by omega);obtain⟨P',Q',c6⟩:=(T.below g e).nt hO (by omega);exact rQn W u v c4 c5 P' Q' _ _ R.wd T.wd hN c6
 have H1:Hid (∀W,Bw w W->Ca 135 #[.agg #[.iface Y y1,Pt u],.agg #[.iface t3 y3,Pt v]] W (TxPost W G (fXv (dS a) (dS b)))):=fun W e=>
  kQa _ _ _ _ _ _ _ _ (by omega) b4 W G (fun k m=>Ll (g k m) e.size) (R.below g e) (T.below g e)
 have H2:Hid (∀W,Bw w W->Ca 135 #[.agg #[.iface Z y2,Pt U],.agg #[.iface t4 y4,Pt V]] W (TxPost W G (fXv (dV a) (dV b)))):=fun W e=>
  kQa _ _ _ _ _ _ _ _ (by omega) b5 W G (fun k m=>Ll (g k m) e.size) (b6.below g e) (b7.below g e)
 have a9:Hid (∀W,Below ((w.alloc (.cells #[Pt p] 78)).alloc (.cells #[Pt q] 78)).heap.size ((w.alloc (.cells #[Pt p] 78)).alloc (.cells #[Pt q] 78)) W->Blk W w.heap.size #[Pt p] 78/\Blk W (w.heap.size+1) #[Pt q] 78):=fun W e=>⟨z.below e z.lt,A.below e A.lt⟩;have s:Hid (Bw w ((w.alloc (.cells #[Pt p] 78)).alloc (.cells #[Pt q] 78))):=P;have HF:Hid (F↔¬jX2 (eX5 (dS a)) (eX5 (dS b))):=hF;have HC:Hid (EType w a3):=hc;have d9:∀(fn:Fn) (first b1:Array Value) (w:World),(Instr.makeFunc fn first b1).run Tryz.prog w=.ok (.func fn first b1) w:=fun _ _ _ _=>rfl;clear d3 a4 R b6 d4 a7 T b7 hc hF z A P;go_enter Tryz.func122,Tryz.ntmps122;go_upto_region 1 with (fail);generalize ((w.alloc (.cells #[Pt p] 78)).alloc (.cells #[Pt q] 78))=y at *;have b0:Hid (∀o j f H I J L C E,Bw y o->Bw o j->Bw j f->F->Tx j (Gn o G j) (.iface H J) C (fXv (dS a) (dS b))->Tx f (Gn j G f) (.iface I L) E (fXv (dV a) (dV b))->
   Hid (PartPost w G a3 F (fXn a b) (.returned (Pt f.heap.size)) (f.alloc (W9 H J C I L E (.func (.func 136) #[] #[Pt w.heap.size,.pointer (some ⟨(w.heap.size+1),0,none⟩)]) (.func (.func 137) #[] #[Pt w.heap.size,.pointer (some ⟨(w.heap.size+1),0,none⟩)]) (.func (.func 138) #[] #[Pt w.heap.size,.pointer (some ⟨(w.heap.size+1),0,none⟩)]))))):=by
  intro o j f H I J L C E b3 B t d0 c7 O;have i:=Bj b3 (Bj B t);have Q:=Bj s.out i;have s2:=b3.size;have s3:=B.size;have s4:=t.size;have a5:=(HA.out.1.below g Q).mono (G':=Gn w G f) (fun _ h=>.inl h) (fun _ _=>rfl);have a6:=(HA.out.2.below g Q).mono (G':=Gn w G f) (fun _ h=>.inl h) (fun _ _=>rfl);obtain⟨a1,a2⟩:=a9.out f i;refine .inl ⟨d0,f.heap.size,rfl,bQj (G1:=Gn o G j) (G2:=Gn j G f) Q g (by rw[tQ0];exact c7.below (Gn.old (fun k m=>Ll (g k m) (by omega)) s3) t) (by rw[tQ6];exact O) (fun k m=>m.imp id (fun h=>⟨by have:=h.1;omega,by have:=h.2;omega⟩)) (fun k m=>m.imp id (fun h=>⟨by have:=h.1;omega,h.2⟩)) ?_ ?_ ?_,Bj Q (A5 _ _)⟩
  ·exact dX7 a b x N a5 a6 a1 a2 (.inr ⟨by omega,by omega⟩) (.inr ⟨by omega,by omega⟩)
  ·exact dX3 a b x N a5 a6 a1 a2 (.inr ⟨by omega,by omega⟩) (.inr ⟨by omega,by omega⟩)
  ·exact eXb a b x X N a5 a6 a1 a2 (.inr ⟨by omega,by omega⟩) (.inr ⟨by omega,by omega⟩)
 clear HA a9 d5 d6 d7 d8 b4 b5 x X N;obtain⟨⟨e0,e1,e2,e3⟩,⟨f0,f1,f2,f3⟩,x0,x1⟩:=n.out y Br;go_region_held (fun d=>(Ce d p 0 (.iface Y y1)/\Ce d p 1 (Pt u)/\Ce d p 2 (.iface Z y2)/\Ce d p 3 (Pt U))/\(Ce d q 0 (.iface t3 y3)/\Ce d q 1 (Pt v)/\Ce d q 2 (.iface t4 y4)/\Ce d q 3 (Pt V))/\Ce d w.heap.size 0 (Pt p)/\d.cell? ⟨w.heap.size+1,0,none⟩=some (Pt q)) (first|with_reducible assumption|with_reducible exact n.out _ Br.drew|with_reducible exact n.out _ i)
  (first
   | (go_at_call 38;refine(c0.out _ ?_).mono ?_;exact s.out.drew;rintro a0 w1 ⟨b9,rfl,hz,c8⟩;have M:Hid (b9=true↔¬jX2 (eX5 (dS a)) (eX5 (dS b))):=hz;clear hz;have r:Bw y w1:=Bj Br.drew c8;have i:Bw y w1:=r)
   | (go_at_call 134;refine(xQy _ a3 b9 (HC.out.below (Bj s.out r))).mono ?_;rintro a0 o ⟨rfl,⟨b8,rfl⟩|⟨a8,rfl⟩⟩;rotate_left;(have HN:Hid (¬F):=(fun h=>by have:=M.out.2 (HF.out.1 h);rw[a8]at this;cases this);clear M a8 b0;go_wp2_with fail;exact⟨rfl,.inr ⟨HN.out,rfl,Bj s.out r⟩⟩);have c3:Hid F:=HF.out.2 (M.out.1 b8);clear M b8))
 all_goals
  obtain⟨⟨e0,e1,e2,e3⟩,⟨f0,f1,f2,f3⟩,x0,x1⟩:=n.out o r;go_wp2_with fail;refine wp_region_held_drew (S:=(fun d=>(Ce d p 0 (.iface Y y1)/\Ce d p 1 (Pt u)/\Ce d p 2 (.iface Z y2)/\Ce d p 3 (Pt U))/\(Ce d q 0 (.iface t3 y3)/\Ce d q 1 (Pt v)/\Ce d q 2 (.iface t4 y4)/\Ce d q 3 (Pt V))/\Ce d w.heap.size 0 (Pt p)/\d.cell? ⟨w.heap.size+1,0,none⟩=some (Pt q))) (by kernel_rfl) ?_ (fun hHeld=>?_)
  ·exact n.out _ r.drew
  refine tk 0 rfl (fun _ c=>by go_simp;try with_reducible rfl) ?_;refine tk 1 rfl (fun _ c=>by go_simp;try with_reducible rfl) ?_;refine tk 2 rfl (fun _ c=>by go_simp;try with_reducible rfl) ?_;refine tk 3 rfl (fun _ c=>by go_simp;try with_reducible rfl) ?_;refine tk 4 rfl (fun _ c=>by go_simp;try with_reducible rfl) ?_;refine tk 5 rfl (fun _ c=>by go_simp;try with_reducible rfl) ?_;refine tk 6 rfl (fun _ c=>by go_simp;try with_reducible rfl) ?_;refine tk 7 rfl (fun _ c=>by go_simp;try with_reducible rfl) ?_;refine tk 8 rfl (fun _ c=>by go_simp;try with_reducible rfl) ?_;refine tk 9 rfl (fun _ c=>by go_simp;try with_reducible rfl) ?_;refine tk 11 rfl (fun _ c=>by go_simp;try with_reducible rfl) ?_;refine tk 12 rfl (fun _ c=>by go_simp;try with_reducible rfl) ?_;refine tk 13 rfl (fun _ c=>by go_simp;try with_reducible rfl) ?_;refine tk 14 rfl (fun _ c=>by go_simp;try with_reducible rfl) ?_;refine tk 15 rfl (fun _ c=>by go_simp;try with_reducible rfl) ?_;refine tk 16 rfl (fun _ c=>by go_simp;try with_reducible rfl) ?_;refine tk 17 rfl (fun _ c=>by go_simp;try with_reducible rfl) ?_;refine tk 18 rfl (fun _ c=>by go_simp;try with_reducible rfl) ?_;refine tk 19 rfl (fun _ c=>by go_simp;try with_reducible rfl) ?_;refine tk 20 rfl (fun _ c=>by go_simp;try with_reducible rfl) ?_;refine tk 23 rfl (fun _ c=>by go_simp;try with_reducible rfl) ?_;refine tk 24 rfl (fun _ c=>by go_simp;try with_reducible rfl) ?_;refine tk 25 rfl (fun _ c=>by go_simp;try with_reducible rfl) ?_;refine sp 10 (by kernel_rfl) rfl (fun K l=>?_);go_simp
  (refine(H1.out _ ?_).mono ?_;exact(Bj s.out r).drew;rintro a0 j ⟨H,J,C,rfl,O,c9⟩;have B:Bw o j:=Bj Br.drew c9;have i:Bw y j:=Bj r B)
  go_wp2_with fail;refine l.out _ _ ?_ (fun hHeld=>?_)
  ·exact n.out _ i
  clear l K;refine sp 21 (by kernel_rfl) rfl (fun K l=>?_);go_simp
  (refine(H2.out _ (Bj s.out i)).mono ?_;rintro a0 f ⟨I,L,E,rfl,b2,t⟩;have i:Bw y f:=Bj i t)
  go_wp2_with fail;refine l.out _ _ ?_ (fun hHeld=>?_)
  ·exact n.out _ i
  clear l K;refine tk 22 rfl (fun _ c=>by go_simp;try with_reducible rfl) ?_;refine tk 26 rfl (fun _ c=>by go_simp;try with_reducible rfl) ?_;refine sp 27 (by kernel_rfl) rfl (fun K l=>?_);go_simp
  refine l.out _ _ ?_ (fun hHeld=>?_)
  ·exact n.out _ (Bj i (A5 _ _))
  clear l K;refine sp 28 (by kernel_rfl) rfl (fun K l=>?_);go_simp
  refine l.out _ _ ?_ (fun hHeld=>?_)
  ·exact n.out _ (Bj i (A5 _ _))
  clear l K;refine wpAnyH_done (by kernel_rfl) ?_ _;have HP:=b0.out o j f H I J L C E r B t c3.out O b2;clear O b2;go_wp2_with fail;go_ret;exact HP.out
end Go.Proofs.YtfklinjaajafgaaGreatDoor
