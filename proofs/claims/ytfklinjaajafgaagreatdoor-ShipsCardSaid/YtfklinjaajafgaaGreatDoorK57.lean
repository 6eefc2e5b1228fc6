import Derived.Test.YtfklinjaajafgaaGreatDoorK56
import Derived.Test.YtfklinjaajafgaaGreatDoorK51
set_option maxRecDepth 100000
set_option maxHeartbeats 4000000
namespace Go.Proofs.YtfklinjaajafgaaGreatDoor
open Go.RowKit
theorem rQg (a b:Ls.Ln)(oa:Ls.OkL 120 a)(ob:Ls.OkL 120 b)(h24:Ls.dXw a+Ls.dXw b<=24)(hgx:gx a+gx b<=1099511627776)(hns:dn (Ls.dS a)+dn (Ls.dS b)<=100000)(hnv:dn (Ls.dV a)+dn (Ls.dV b)<=100000)
  (w:World) (G:Nat->Prop) (hG:Old w G) (a3:Addr) (hc:EType w a3) (p q:Nat) (ha:PartV w G p a) (hb:PartV w G q b) (F:Prop) (hF:F↔(¬Ls.dX0 (Ls.dXu (Ls.dS a)) (Ls.dXu (Ls.dS b))/\¬Ls.dX0 (Ls.dXu (Ls.dV b)) (Ls.dXu (Ls.dV a)))) :
  Calls Tryz.prog 170 #[.pointer (some ⟨p,0,none⟩),.pointer (some ⟨q,0,none⟩)] w (PartPost w G a3 F (Ls.dX1 a b)):=by
 have HA:Hid (PartV w G p a/\PartV w G q b):=⟨ha,hb⟩;obtain⟨t1,y1,n1,t2,y2,n2,g1,c1,d1,hp1,hp2,hp3,hp4,_,_,_⟩:=ha;obtain⟨t3,y3,n3,t4,y4,n4,g2,c2,d2,hq1,hq2,hq3,hq4,_,_,_⟩:=hb;have hsa:=Ls.eXs a oa;have hsb:=Ls.eXs b ob;have hva:=Ls.eXo a oa;have hvb:=Ls.eXo b ob;have hb0:Below w.heap.size w ((w.alloc (.cells #[.pointer (some ⟨p,0,none⟩)] 78)).alloc (.cells #[.pointer (some ⟨q,0,none⟩)] 78)):=C6 w _ _;have hz0:((w.alloc (.cells #[.pointer (some ⟨p,0,none⟩)] 78)).alloc (.cells #[.pointer (some ⟨q,0,none⟩)] 78)).heap.size=w.heap.size+1+1:=by simp
 have hBf:Blk ((w.alloc (.cells #[.pointer (some ⟨p,0,none⟩)] 78)).alloc (.cells #[.pointer (some ⟨q,0,none⟩)] 78)) w.heap.size #[.pointer (some ⟨p,0,none⟩)] 78:=(Blk.new w _ _).of (Below.heap_alloc _ _ _ (by simp));have hBr:Blk ((w.alloc (.cells #[.pointer (some ⟨p,0,none⟩)] 78)).alloc (.cells #[.pointer (some ⟨q,0,none⟩)] 78)) (w.heap.size+1) #[.pointer (some ⟨q,0,none⟩)] 78:=by
  have:=Blk.new (w.alloc (.cells #[.pointer (some ⟨p,0,none⟩)] 78)) #[.pointer (some ⟨q,0,none⟩)] 78;rw[World.size_alloc]at this;exact this
 have HS:Hid (∀W:World,Below ((w.alloc (.cells #[.pointer (some ⟨p,0,none⟩)] 78)).alloc (.cells #[.pointer (some ⟨q,0,none⟩)] 78)).heap.size ((w.alloc (.cells #[.pointer (some ⟨p,0,none⟩)] 78)).alloc (.cells #[.pointer (some ⟨q,0,none⟩)] 78)) W->(W.cell? ⟨p,0,none⟩=some (.iface t1 y1)/\W.cell? ⟨p,1,none⟩=some (.pointer (some ⟨n1,0,none⟩))/\W.cell? ⟨p,2,none⟩=some (.iface t2 y2)/\W.cell? ⟨p,3,none⟩=some (.pointer (some ⟨n2,0,none⟩)))/\(W.cell? ⟨q,0,none⟩=some (.iface t3 y3)/\W.cell? ⟨q,1,none⟩=some (.pointer (some ⟨n3,0,none⟩))/\W.cell? ⟨q,2,none⟩=some (.iface t4 y4)/\W.cell? ⟨q,3,none⟩=some (.pointer (some ⟨n4,0,none⟩)))/\W.cell? ⟨w.heap.size,0,none⟩=some (.pointer (some ⟨p,0,none⟩))/\W.cell? ⟨w.heap.size+1,0,none⟩=some (.pointer (some ⟨q,0,none⟩))):=fun W hW=>by
  obtain⟨e0,e1,e2,e3,_,_,_⟩:=(hp2.below (Below.join hb0 hW) hp2.lt).seven;obtain⟨f0,f1,f2,f3,_,_,_⟩:=(hq2.below (Below.join hb0 hW) hq2.lt).seven;exact⟨⟨e0,e1,e2,e3⟩,⟨f0,f1,f2,f3⟩,(hBf.below hW hBf.lt).cell 0,(hBr.below hW hBr.lt).cell 0⟩
 have H1:Hid (∀W,Below w.heap.size w W->Calls Tryz.prog 152 #[.agg #[.iface t1 y1,.pointer (some ⟨n1,0,none⟩)],.agg #[.iface t3 y3,.pointer (some ⟨n3,0,none⟩)]] W (aQa W G a3 (¬Ls.dX0 (Ls.dXu (Ls.dS a)) (Ls.dXu (Ls.dS b))) (Ls.dX7 (Ls.dS a) (Ls.dS b)))):=fun W hW=>
  dQn _ _ (by omega) hns W G (fun k hk=>Nat.lt_of_lt_of_le (hG k hk) hW.size) a3 (hc.below hW) _ _ _ _ _ _ (hp3.below hG hW) (hq3.below hG hW)
 have H2:Hid (∀W,Below w.heap.size w W->Calls Tryz.prog 152 #[.agg #[.iface t4 y4,.pointer (some ⟨n4,0,none⟩)],.agg #[.iface t2 y2,.pointer (some ⟨n2,0,none⟩)]] W (aQa W G a3 (¬Ls.dX0 (Ls.dXu (Ls.dV b)) (Ls.dXu (Ls.dV a))) (Ls.dX7 (Ls.dV b) (Ls.dV a)))):=fun W hW=>
  dQn _ _ (by omega) (by omega) W G (fun k hk=>Nat.lt_of_lt_of_le (hG k hk) hW.size) a3 (hc.below hW) _ _ _ _ _ _ (hq4.below hG hW) (hp4.below hG hW)
 have HBX:Hid (∀W,Below ((w.alloc (.cells #[.pointer (some ⟨p,0,none⟩)] 78)).alloc (.cells #[.pointer (some ⟨q,0,none⟩)] 78)).heap.size ((w.alloc (.cells #[.pointer (some ⟨p,0,none⟩)] 78)).alloc (.cells #[.pointer (some ⟨q,0,none⟩)] 78)) W->Blk W w.heap.size #[.pointer (some ⟨p,0,none⟩)] 78/\Blk W (w.heap.size+1) #[.pointer (some ⟨q,0,none⟩)] 78):=fun W hW=>⟨hBf.below hW hBf.lt,hBr.below hW hBr.lt⟩;have HB0:Hid (Below w.heap.size w ((w.alloc (.cells #[.pointer (some ⟨p,0,none⟩)] 78)).alloc (.cells #[.pointer (some ⟨q,0,none⟩)] 78))):=hb0;have HF:Hid (F↔(¬Ls.dX0 (Ls.dXu (Ls.dS a)) (Ls.dXu (Ls.dS b))/\¬Ls.dX0 (Ls.dXu (Ls.dV b)) (Ls.dXu (Ls.dV a)))):=hF;have hmf:∀(fn:Fn) (first cap:Array Value) (w:World),(Instr.makeFunc fn first cap).run Tryz.prog w=.ok (.func fn first cap) w:=fun _ _ _ _=>rfl;clear hp1 hp2 hp3 hp4 hq1 hq2 hq3 hq4 hc hF hBf hBr hb0;go_enter Tryz.func170,Tryz.ntmps170;go_upto_region 1 with (fail);generalize ((w.alloc (.cells #[.pointer (some ⟨p,0,none⟩)] 78)).alloc (.cells #[.pointer (some ⟨q,0,none⟩)] 78))=w0 at *;have HPA:Hid (∀w2 w3 u1 u2 z1 z2 m1 m2,Below w0.heap.size w0 w2->Below w2.heap.size w2 w3->¬Ls.dX0 (Ls.dXu (Ls.dS a)) (Ls.dXu (Ls.dS b))->¬Ls.dX0 (Ls.dXu (Ls.dV b)) (Ls.dXu (Ls.dV a))->Tx w2 (Gn w0 G w2) (.iface u1 z1) m1 (Ls.dX7 (Ls.dS a) (Ls.dS b))->Tx w3 (Gn w2 G w3) (.iface u2 z2) m2 (Ls.dX7 (Ls.dV b) (Ls.dV a))->
   Hid (PartPost w G a3 F (Ls.dX1 a b) (.returned (.pointer (some ⟨w3.heap.size,0,none⟩))) (w3.alloc (U1 u1 z1 m1 u2 z2 m2 (.func (.func 190) #[] #[.pointer (some ⟨w.heap.size,0,none⟩),.pointer (some ⟨(w.heap.size+1),0,none⟩)]) (.func (.func 191) #[] #[.pointer (some ⟨(w.heap.size+1),0,none⟩),.pointer (some ⟨w.heap.size,0,none⟩)]) (.func (.func 192) #[] #[.pointer (some ⟨(w.heap.size+1),0,none⟩),.pointer (some ⟨w.heap.size,0,none⟩)]))))):=by
  intro w2 w3 u1 u2 z1 z2 m1 m2 hb2 hb3 hok1 hok2 hT2 hT3;have hcur:=Below.join hb2 hb3;have hb03:=Below.join HB0.out hcur;have s2:=hb2.size;have s3:=hb3.size;have hT2':Tx w2 (Gn w G w2) (.iface u1 z1) m1 (Ls.dX7 (Ls.dS a) (Ls.dS b)):=hT2.mono (fun k hk=>hk.imp id (fun h=>⟨by have h1:w0.heap.size<=k:=h.1;omega,h.2⟩)) (fun _ _=>rfl);have hpa:=(HA.out.1.below hG hb03).mono (G':=Gn w G w3) (fun _ h=>.inl h) (fun _ _=>rfl);have hpb:=(HA.out.2.below hG hb03).mono (G':=Gn w G w3) (fun _ h=>.inl h) (fun _ _=>rfl);obtain⟨hbf,hbr⟩:=HBX.out w3 hcur;refine .inl ⟨HF.out.2 ⟨hok1,hok2⟩,w3.heap.size,rfl,aQ1 (G1:=Gn w G w2) (G2:=Gn w2 G w3) hb03 hG (by rw[sQq];exact hT2'.below (Gn.old hG (by omega)) hb3) (by rw[sQv];exact hT3) (fun k hk=>hk.imp id (fun h=>⟨h.1,by have:=h.2;omega⟩)) (fun k hk=>hk.imp id (fun h=>⟨by have:=h.1;omega,h.2⟩)) ?_ ?_ ?_,Below.join hb03 (A5 _ _)⟩
  ·exact cXt a b oa ob h24 hgx hok1 hpa hpb hbf hbr (.inr ⟨by omega,by omega⟩) (.inr ⟨by omega,by omega⟩)
  ·exact cXp a b oa ob h24 hgx hok2 hpa hpb hbf hbr (.inr ⟨by omega,by omega⟩) (.inr ⟨by omega,by omega⟩)
  ·exact cXx a b oa ob h24 hgx hok1 hok2 hpa hpb hbf hbr (.inr ⟨by omega,by omega⟩) (.inr ⟨by omega,by omega⟩)
 clear HA HBX hsa hsb hva hvb hns hnv hgx oa ob h24;obtain⟨⟨e0,e1,e2,e3⟩,⟨f0,f1,f2,f3⟩,x0,x1⟩:=HS.out w0 (Below.refl _ _);refine wp_region_held_drew (S:=(fun w'=>(w'.cell? ⟨p,0,none⟩=some (.iface t1 y1)/\w'.cell? ⟨p,1,none⟩=some (.pointer (some ⟨n1,0,none⟩))/\w'.cell? ⟨p,2,none⟩=some (.iface t2 y2)/\w'.cell? ⟨p,3,none⟩=some (.pointer (some ⟨n2,0,none⟩)))/\(w'.cell? ⟨q,0,none⟩=some (.iface t3 y3)/\w'.cell? ⟨q,1,none⟩=some (.pointer (some ⟨n3,0,none⟩))/\w'.cell? ⟨q,2,none⟩=some (.iface t4 y4)/\w'.cell? ⟨q,3,none⟩=some (.pointer (some ⟨n4,0,none⟩)))/\w'.cell? ⟨w.heap.size,0,none⟩=some (.pointer (some ⟨p,0,none⟩))/\w'.cell? ⟨w.heap.size+1,0,none⟩=some (.pointer (some ⟨q,0,none⟩)))) (by kernel_rfl) ?_ (fun hHeld=>?_)
 ·exact HS.out _ (Below.refl _ _).drew
 refine tk 0 ?_ rfl (by kernel_rfl) (fun _ _ _ h=>h) rfl ?_ (by assumption) ?_;rotate_left
 ·intro wz hSw
  try dsimp only at hSw
  go_simp
  try with_reducible rfl
 refine tk 1 ?_ rfl (by kernel_rfl) (fun _ _ _ h=>h) rfl ?_ (by assumption) ?_;rotate_left
 ·intro wz hSw
  try dsimp only at hSw
  go_simp
  try with_reducible rfl
 refine tk 2 ?_ rfl (by kernel_rfl) (fun _ _ _ h=>h) rfl ?_ (by assumption) ?_;rotate_left
 ·intro wz hSw
  try dsimp only at hSw
  go_simp
  try with_reducible rfl
 refine tk 3 ?_ rfl (by kernel_rfl) (fun _ _ _ h=>h) rfl ?_ (by assumption) ?_;rotate_left
 ·intro wz hSw
  try dsimp only at hSw
  go_simp
  try with_reducible rfl
 refine tk 4 ?_ rfl (by kernel_rfl) (fun _ _ _ h=>h) rfl ?_ (by assumption) ?_;rotate_left
 ·intro wz hSw
  try dsimp only at hSw
  go_simp
  try with_reducible rfl
 refine tk 5 ?_ rfl (by kernel_rfl) (fun _ _ _ h=>h) rfl ?_ (by assumption) ?_;rotate_left
 ·intro wz hSw
  try dsimp only at hSw
  go_simp
  try with_reducible rfl
 refine tk 6 ?_ rfl (by kernel_rfl) (fun _ _ _ h=>h) rfl ?_ (by assumption) ?_;rotate_left
 ·intro wz hSw
  try dsimp only at hSw
  go_simp
  try with_reducible rfl
 refine tk 7 ?_ rfl (by kernel_rfl) (fun _ _ _ h=>h) rfl ?_ (by assumption) ?_;rotate_left
 ·intro wz hSw
  try dsimp only at hSw
  go_simp
  try with_reducible rfl
 refine tk 8 ?_ rfl (by kernel_rfl) (fun _ _ _ h=>h) rfl ?_ (by assumption) ?_;rotate_left
 ·intro wz hSw
  try dsimp only at hSw
  go_simp
  try with_reducible rfl
 refine tk 9 ?_ rfl (by kernel_rfl) (fun _ _ _ h=>h) rfl ?_ (by assumption) ?_;rotate_left
 ·intro wz hSw
  try dsimp only at hSw
  go_simp
  try with_reducible rfl
 refine tk 11 ?_ rfl (by kernel_rfl) (fun _ _ _ h=>h) rfl ?_ (by assumption) ?_;rotate_left
 ·intro wz hSw
  try dsimp only at hSw
  go_simp
  try with_reducible rfl
 refine tk 12 ?_ rfl (by kernel_rfl) (fun _ _ _ h=>h) rfl ?_ (by assumption) ?_;rotate_left
 ·intro wz hSw
  try dsimp only at hSw
  go_simp
  try with_reducible rfl
 refine tk 13 ?_ rfl (by kernel_rfl) (fun _ _ _ h=>h) rfl ?_ (by assumption) ?_;rotate_left
 ·intro wz hSw
  try dsimp only at hSw
  go_simp
  try with_reducible rfl
 refine tk 14 ?_ rfl (by kernel_rfl) (fun _ _ _ h=>h) rfl ?_ (by assumption) ?_;rotate_left
 ·intro wz hSw
  try dsimp only at hSw
  go_simp
  try with_reducible rfl
 refine tk 15 ?_ rfl (by kernel_rfl) (fun _ _ _ h=>h) rfl ?_ (by assumption) ?_;rotate_left
 ·intro wz hSw
  try dsimp only at hSw
  go_simp
  try with_reducible rfl
 refine tk 16 ?_ rfl (by kernel_rfl) (fun _ _ _ h=>h) rfl ?_ (by assumption) ?_;rotate_left
 ·intro wz hSw
  try dsimp only at hSw
  go_simp
  try with_reducible rfl
 refine tk 17 ?_ rfl (by kernel_rfl) (fun _ _ _ h=>h) rfl ?_ (by assumption) ?_;rotate_left
 ·intro wz hSw
  try dsimp only at hSw
  go_simp
  try with_reducible rfl
 refine tk 18 ?_ rfl (by kernel_rfl) (fun _ _ _ h=>h) rfl ?_ (by assumption) ?_;rotate_left
 ·intro wz hSw
  try dsimp only at hSw
  go_simp
  try with_reducible rfl
 refine tk 19 ?_ rfl (by kernel_rfl) (fun _ _ _ h=>h) rfl ?_ (by assumption) ?_;rotate_left
 ·intro wz hSw
  try dsimp only at hSw
  go_simp
  try with_reducible rfl
 refine tk 20 ?_ rfl (by kernel_rfl) (fun _ _ _ h=>h) rfl ?_ (by assumption) ?_;rotate_left
 ·intro wz hSw
  try dsimp only at hSw
  go_simp
  try with_reducible rfl
 refine tk 23 ?_ rfl (by kernel_rfl) (fun _ _ _ h=>h) rfl ?_ (by assumption) ?_;rotate_left
 ·intro wz hSw
  try dsimp only at hSw
  go_simp
  try with_reducible rfl
 refine tk 24 ?_ rfl (by kernel_rfl) (fun _ _ _ h=>h) rfl ?_ (by assumption) ?_;rotate_left
 ·intro wz hSw
  try dsimp only at hSw
  go_simp
  try with_reducible rfl
 refine tk 25 ?_ rfl (by kernel_rfl) (fun _ _ _ h=>h) rfl ?_ (by assumption) ?_;rotate_left
 ·intro wz hSw
  try dsimp only at hSw
  go_simp
  try with_reducible rfl
 refine sp 10 (by kernel_rfl) rfl (fun K hK=>?_);go_simp
 (refine(H1.out _ ?_).mono ?_;exact HB0.out.drew;rintro e w2 (⟨hok1,u1,z1,m1,rfl,hT2,hb2d⟩|⟨hno,rfl,hb2d⟩);rotate_left;(have HNO:Hid _:=hno;clear hno HPA;go_wp2_with fail;exact⟨rfl,.inr ⟨fun h=>HNO.out (HF.out.1 h).1,rfl,Below.join HB0.out.drew hb2d⟩⟩);have HOK1:Hid _:=hok1;clear hok1;have hb2:Below w0.heap.size w0 w2:=Below.join (Below.refl _ _).drew hb2d;have hcur:Below w0.heap.size w0 w2:=hb2)
 go_wp2_with fail;refine hK.out _ _ ?_ (fun hHeld=>?_)
 ·exact HS.out _ hcur
 clear hK K;refine sp 21 (by kernel_rfl) rfl (fun K hK=>?_);go_simp
 (refine(H2.out _ (Below.join HB0.out hcur)).mono ?_;rintro e w3 (⟨hok2,u2,z2,m2,rfl,hT3,hb3⟩|⟨hno,rfl,hb3⟩);rotate_left;(have HNO:Hid _:=hno;clear hno;go_wp2_with fail;exact⟨rfl,.inr ⟨fun h=>HNO.out (HF.out.1 h).2,rfl,Below.join (Below.join HB0.out hcur) hb3⟩⟩);have HOK2:Hid _:=hok2;clear hok2;have hcur:Below w0.heap.size w0 w3:=Below.join hcur hb3)
 go_wp2_with fail;refine hK.out _ _ ?_ (fun hHeld=>?_)
 ·exact HS.out _ hcur
 clear hK K;refine tk 22 ?_ rfl (by kernel_rfl) (fun _ _ _ h=>h) rfl ?_ (by assumption) ?_;rotate_left
 ·intro wz hSw
  try dsimp only at hSw
  go_simp
  try with_reducible rfl
 refine tk 26 ?_ rfl (by kernel_rfl) (fun _ _ _ h=>h) rfl ?_ (by assumption) ?_;rotate_left
 ·intro wz hSw
  try dsimp only at hSw
  go_simp
  try with_reducible rfl
 refine sp 27 (by kernel_rfl) rfl (fun K hK=>?_);go_simp
 refine hK.out _ _ ?_ (fun hHeld=>?_)
 ·exact HS.out _ (Below.join hcur (A5 _ _))
 clear hK K;refine sp 28 (by kernel_rfl) rfl (fun K hK=>?_);go_simp
 refine hK.out _ _ ?_ (fun hHeld=>?_)
 ·exact HS.out _ (Below.join hcur (A5 _ _))
 clear hK K;refine wpAnyH_done (by kernel_rfl) ?_ _;have HP:=HPA.out w2 w3 u1 u2 z1 z2 m1 m2 hb2 hb3 HOK1.out HOK2.out hT2 hT3;clear hT2 hT3;go_wp2_with fail;go_ret;exact HP.out
theorem wQs (z:Bool)(a3:Addr)(w:World)(hc:EType w a3) :
  Calls Tryz.prog 134 #[.bool z] w fun e w'=>w'=w/\((z=true/\e=.returned (.tuple #[]))\/(z=false/\e=.panicked [{v:=D0 a3,recovered:=false}])):=by
 cases z with
 | true=>exact(eQm w).mono (fun e w' h=>⟨h.2,.inl ⟨rfl,h.1⟩⟩)
 | false=>exact(cQm a3 w hc).mono (fun e w' h=>⟨h.2,.inr ⟨rfl,h.1⟩⟩)
theorem cX3 (a b:Ls.Ln)(oa:Ls.OkL 120 a)(ob:Ls.OkL 120 b)(h24:Ls.dXw a+Ls.dXw b<=24)(hns:dn (Ls.dS a)+dn (Ls.dS b)<=100000)(hnv:dn (Ls.dV a)+dn (Ls.dV b)<=100000)
  (w:World) (G:Nat->Prop) (hG:Old w G) (a3:Addr) (hc:EType w a3) (p q:Nat) (ha:PartV w G p a) (hb:PartV w G q b) (F:Prop) (hF:F↔¬Ls.iXr (Ls.dXu (Ls.dS a)) (Ls.dXu (Ls.dS b))) :
  Calls Tryz.prog 122 #[.pointer (some ⟨p,0,none⟩),.pointer (some ⟨q,0,none⟩)] w (PartPost w G a3 F (Ls.eXc a b)):=by
 have HA:Hid (PartV w G p a/\PartV w G q b):=⟨ha,hb⟩;obtain⟨t1,y1,n1,t2,y2,n2,g1,c1,d1,hp1,hp2,hp3,hp4,_,_,_⟩:=ha;obtain⟨t3,y3,n3,t4,y4,n4,g2,c2,d2,hq1,hq2,hq3,hq4,_,_,_⟩:=hb;have hsa:=Ls.eXs a oa;have hsb:=Ls.eXs b ob;have hva:=Ls.eXo a oa;have hvb:=Ls.eXo b ob;have hb0:Below w.heap.size w ((w.alloc (.cells #[.pointer (some ⟨p,0,none⟩)] 78)).alloc (.cells #[.pointer (some ⟨q,0,none⟩)] 78)):=C6 w _ _;have hz0:((w.alloc (.cells #[.pointer (some ⟨p,0,none⟩)] 78)).alloc (.cells #[.pointer (some ⟨q,0,none⟩)] 78)).heap.size=w.heap.size+1+1:=by simp
 have hBf:Blk ((w.alloc (.cells #[.pointer (some ⟨p,0,none⟩)] 78)).alloc (.cells #[.pointer (some ⟨q,0,none⟩)] 78)) w.heap.size #[.pointer (some ⟨p,0,none⟩)] 78:=(Blk.new w _ _).of (Below.heap_alloc _ _ _ (by simp));have hBr:Blk ((w.alloc (.cells #[.pointer (some ⟨p,0,none⟩)] 78)).alloc (.cells #[.pointer (some ⟨q,0,none⟩)] 78)) (w.heap.size+1) #[.pointer (some ⟨q,0,none⟩)] 78:=by
  have:=Blk.new (w.alloc (.cells #[.pointer (some ⟨p,0,none⟩)] 78)) #[.pointer (some ⟨q,0,none⟩)] 78;rw[World.size_alloc]at this;exact this
 have HS:Hid (∀W:World,Below ((w.alloc (.cells #[.pointer (some ⟨p,0,none⟩)] 78)).alloc (.cells #[.pointer (some ⟨q,0,none⟩)] 78)).heap.size ((w.alloc (.cells #[.pointer (some ⟨p,0,none⟩)] 78)).alloc (.cells #[.pointer (some ⟨q,0,none⟩)] 78)) W->(W.cell? ⟨p,0,none⟩=some (.iface t1 y1)/\W.cell? ⟨p,1,none⟩=some (.pointer (some ⟨n1,0,none⟩))/\W.cell? ⟨p,2,none⟩=some (.iface t2 y2)/\W.cell? ⟨p,3,none⟩=some (.pointer (some ⟨n2,0,none⟩)))/\(W.cell? ⟨q,0,none⟩=some (.iface t3 y3)/\W.cell? ⟨q,1,none⟩=some (.pointer (some ⟨n3,0,none⟩))/\W.cell? ⟨q,2,none⟩=some (.iface t4 y4)/\W.cell? ⟨q,3,none⟩=some (.pointer (some ⟨n4,0,none⟩)))/\W.cell? ⟨w.heap.size,0,none⟩=some (.pointer (some ⟨p,0,none⟩))/\W.cell? ⟨w.heap.size+1,0,none⟩=some (.pointer (some ⟨q,0,none⟩))):=fun W hW=>by
  obtain⟨e0,e1,e2,e3,_,_,_⟩:=(hp2.below (Below.join hb0 hW) hp2.lt).seven;obtain⟨f0,f1,f2,f3,_,_,_⟩:=(hq2.below (Below.join hb0 hW) hq2.lt).seven;exact⟨⟨e0,e1,e2,e3⟩,⟨f0,f1,f2,f3⟩,(hBf.below hW hBf.lt).cell 0,(hBr.below hW hBr.lt).cell 0⟩
 have HAp:Hid (∀W,Below w.heap.size w W->Calls Tryz.prog 38 #[.pointer (some ⟨n1,0,none⟩),.pointer (some ⟨n3,0,none⟩)] W (cQ7 W (Ls.iXr (Ls.dXu (Ls.dS a)) (Ls.dXu (Ls.dS b))))):=fun W hW=>by
  have hO:Old W G:=fun k hk=>Nat.lt_of_lt_of_le (hG k hk) hW.size;obtain⟨P,Q,hN⟩:=(hp3.below hG hW).nt hO (by omega);obtain⟨P',Q',hN'⟩:=(hq3.below hG hW).nt hO (by omega);exact qQe W n1 n3 P Q P' Q' _ _ hp3.wd hq3.wd hN hN'
 have H1:Hid (∀W,Below w.heap.size w W->Calls Tryz.prog 135 #[.agg #[.iface t1 y1,.pointer (some ⟨n1,0,none⟩)],.agg #[.iface t3 y3,.pointer (some ⟨n3,0,none⟩)]] W (TxPost W G (Ls.eXk (Ls.dS a) (Ls.dS b)))):=fun W hW=>
  jQb _ _ (by omega) hns W G (fun k hk=>Nat.lt_of_lt_of_le (hG k hk) hW.size) _ _ _ _ _ _ (hp3.below hG hW) (hq3.below hG hW)
 have H2:Hid (∀W,Below w.heap.size w W->Calls Tryz.prog 135 #[.agg #[.iface t2 y2,.pointer (some ⟨n2,0,none⟩)],.agg #[.iface t4 y4,.pointer (some ⟨n4,0,none⟩)]] W (TxPost W G (Ls.eXk (Ls.dV a) (Ls.dV b)))):=fun W hW=>
  jQb _ _ (by omega) hnv W G (fun k hk=>Nat.lt_of_lt_of_le (hG k hk) hW.size) _ _ _ _ _ _ (hp4.below hG hW) (hq4.below hG hW)
 have HBX:Hid (∀W,Below ((w.alloc (.cells #[.pointer (some ⟨p,0,none⟩)] 78)).alloc (.cells #[.pointer (some ⟨q,0,none⟩)] 78)).heap.size ((w.alloc (.cells #[.pointer (some ⟨p,0,none⟩)] 78)).alloc (.cells #[.pointer (some ⟨q,0,none⟩)] 78)) W->Blk W w.heap.size #[.pointer (some ⟨p,0,none⟩)] 78/\Blk W (w.heap.size+1) #[.pointer (some ⟨q,0,none⟩)] 78):=fun W hW=>⟨hBf.below hW hBf.lt,hBr.below hW hBr.lt⟩;have HB0:Hid (Below w.heap.size w ((w.alloc (.cells #[.pointer (some ⟨p,0,none⟩)] 78)).alloc (.cells #[.pointer (some ⟨q,0,none⟩)] 78))):=hb0;have HF:Hid (F↔¬Ls.iXr (Ls.dXu (Ls.dS a)) (Ls.dXu (Ls.dS b))):=hF;have HC:Hid (EType w a3):=hc;have hmf:∀(fn:Fn) (first cap:Array Value) (w:World),(Instr.makeFunc fn first cap).run Tryz.prog w=.ok (.func fn first cap) w:=fun _ _ _ _=>rfl;clear hp1 hp2 hp3 hp4 hq1 hq2 hq3 hq4 hc hF hBf hBr hb0;go_enter Tryz.func122,Tryz.ntmps122;go_upto_region 1 with (fail);generalize ((w.alloc (.cells #[.pointer (some ⟨p,0,none⟩)] 78)).alloc (.cells #[.pointer (some ⟨q,0,none⟩)] 78))=w0 at *;have HPA:Hid (∀w2 w3 w4 u1 u2 z1 z2 m1 m2,Below w0.heap.size w0 w2->Below w2.heap.size w2 w3->Below w3.heap.size w3 w4->F->Tx w3 (Gn w2 G w3) (.iface u1 z1) m1 (Ls.eXk (Ls.dS a) (Ls.dS b))->Tx w4 (Gn w3 G w4) (.iface u2 z2) m2 (Ls.eXk (Ls.dV a) (Ls.dV b))->
   Hid (PartPost w G a3 F (Ls.eXc a b) (.returned (.pointer (some ⟨w4.heap.size,0,none⟩))) (w4.alloc (U1 u1 z1 m1 u2 z2 m2 (.func (.func 136) #[] #[.pointer (some ⟨w.heap.size,0,none⟩),.pointer (some ⟨(w.heap.size+1),0,none⟩)]) (.func (.func 137) #[] #[.pointer (some ⟨w.heap.size,0,none⟩),.pointer (some ⟨(w.heap.size+1),0,none⟩)]) (.func (.func 138) #[] #[.pointer (some ⟨w.heap.size,0,none⟩),.pointer (some ⟨(w.heap.size+1),0,none⟩)]))))):=by
  intro w2 w3 w4 u1 u2 z1 z2 m1 m2 hb2 hb3 hb4 hok hT2 hT3;have hcur:=Below.join hb2 (Below.join hb3 hb4);have hb03:=Below.join HB0.out hcur;have s2:=hb2.size;have s3:=hb3.size;have s4:=hb4.size;have hpa:=(HA.out.1.below hG hb03).mono (G':=Gn w G w4) (fun _ h=>.inl h) (fun _ _=>rfl);have hpb:=(HA.out.2.below hG hb03).mono (G':=Gn w G w4) (fun _ h=>.inl h) (fun _ _=>rfl);obtain⟨hbf,hbr⟩:=HBX.out w4 hcur;refine .inl ⟨hok,w4.heap.size,rfl,aQ1 (G1:=Gn w2 G w3) (G2:=Gn w3 G w4) hb03 hG (by rw[sQt];exact hT2.below (Gn.old (fun k hk=>Nat.lt_of_lt_of_le (hG k hk) (by omega)) s3) hb4) (by rw[sQz];exact hT3) (fun k hk=>hk.imp id (fun h=>⟨by have:=h.1;omega,by have:=h.2;omega⟩)) (fun k hk=>hk.imp id (fun h=>⟨by have:=h.1;omega,h.2⟩)) ?_ ?_ ?_,Below.join hb03 (A5 _ _)⟩
  ·exact cXw a b oa h24 hpa hpb hbf hbr (.inr ⟨by omega,by omega⟩) (.inr ⟨by omega,by omega⟩)
  ·exact cXs a b oa h24 hpa hpb hbf hbr (.inr ⟨by omega,by omega⟩) (.inr ⟨by omega,by omega⟩)
  ·exact cX0 a b oa ob h24 hpa hpb hbf hbr (.inr ⟨by omega,by omega⟩) (.inr ⟨by omega,by omega⟩)
 clear HA HBX hsa hsb hva hvb hns hnv oa ob h24;obtain⟨⟨e0,e1,e2,e3⟩,⟨f0,f1,f2,f3⟩,x0,x1⟩:=HS.out w0 (Below.refl _ _);go_region_held (fun w'=>(w'.cell? ⟨p,0,none⟩=some (.iface t1 y1)/\w'.cell? ⟨p,1,none⟩=some (.pointer (some ⟨n1,0,none⟩))/\w'.cell? ⟨p,2,none⟩=some (.iface t2 y2)/\w'.cell? ⟨p,3,none⟩=some (.pointer (some ⟨n2,0,none⟩)))/\(w'.cell? ⟨q,0,none⟩=some (.iface t3 y3)/\w'.cell? ⟨q,1,none⟩=some (.pointer (some ⟨n3,0,none⟩))/\w'.cell? ⟨q,2,none⟩=some (.iface t4 y4)/\w'.cell? ⟨q,3,none⟩=some (.pointer (some ⟨n4,0,none⟩)))/\w'.cell? ⟨w.heap.size,0,none⟩=some (.pointer (some ⟨p,0,none⟩))/\w'.cell? ⟨w.heap.size+1,0,none⟩=some (.pointer (some ⟨q,0,none⟩))) (first|with_reducible assumption|with_reducible exact HS.out _ (Below.refl _ _).drew|with_reducible exact HS.out _ hcur)
  (first
   | (go_at_call 38;refine(HAp.out _ ?_).mono ?_;exact HB0.out.drew;rintro e w1 ⟨z,rfl,hz,hb1d⟩;have HZ:Hid (z=true↔¬Ls.iXr (Ls.dXu (Ls.dS a)) (Ls.dXu (Ls.dS b))):=hz;clear hz;have hb1:Below w0.heap.size w0 w1:=Below.join (Below.refl _ _).drew hb1d;have hcur:Below w0.heap.size w0 w1:=hb1)
   | (go_at_call 134;refine(wQs z a3 _ (HC.out.below (Below.join HB0.out hb1))).mono ?_;rintro e w2 ⟨rfl,⟨hz1,rfl⟩|⟨hz0,rfl⟩⟩;rotate_left;(have HN:Hid (¬F):=(fun h=>by have:=HZ.out.2 (HF.out.1 h);rw[hz0]at this;cases this);clear HZ hz0 HPA;go_wp2_with fail;exact⟨rfl,.inr ⟨HN.out,rfl,Below.join HB0.out hb1⟩⟩);have HOK:Hid F:=HF.out.2 (HZ.out.1 hz1);clear HZ hz1))
 all_goals
  obtain⟨⟨e0,e1,e2,e3⟩,⟨f0,f1,f2,f3⟩,x0,x1⟩:=HS.out w2 hb1;go_wp2_with fail;refine wp_region_held_drew (S:=(fun w'=>(w'.cell? ⟨p,0,none⟩=some (.iface t1 y1)/\w'.cell? ⟨p,1,none⟩=some (.pointer (some ⟨n1,0,none⟩))/\w'.cell? ⟨p,2,none⟩=some (.iface t2 y2)/\w'.cell? ⟨p,3,none⟩=some (.pointer (some ⟨n2,0,none⟩)))/\(w'.cell? ⟨q,0,none⟩=some (.iface t3 y3)/\w'.cell? ⟨q,1,none⟩=some (.pointer (some ⟨n3,0,none⟩))/\w'.cell? ⟨q,2,none⟩=some (.iface t4 y4)/\w'.cell? ⟨q,3,none⟩=some (.pointer (some ⟨n4,0,none⟩)))/\w'.cell? ⟨w.heap.size,0,none⟩=some (.pointer (some ⟨p,0,none⟩))/\w'.cell? ⟨w.heap.size+1,0,none⟩=some (.pointer (some ⟨q,0,none⟩)))) (by kernel_rfl) ?_ (fun hHeld=>?_)
  ·exact HS.out _ hb1.drew
  refine tk 0 ?_ rfl (by kernel_rfl) (fun _ _ _ h=>h) rfl ?_ (by assumption) ?_;rotate_left
  ·intro wz hSw
   try dsimp only at hSw
   go_simp
   try with_reducible rfl
  refine tk 1 ?_ rfl (by kernel_rfl) (fun _ _ _ h=>h) rfl ?_ (by assumption) ?_;rotate_left
  ·intro wz hSw
   try dsimp only at hSw
   go_simp
   try with_reducible rfl
  refine tk 2 ?_ rfl (by kernel_rfl) (fun _ _ _ h=>h) rfl ?_ (by assumption) ?_;rotate_left
  ·intro wz hSw
   try dsimp only at hSw
   go_simp
   try with_reducible rfl
  refine tk 3 ?_ rfl (by kernel_rfl) (fun _ _ _ h=>h) rfl ?_ (by assumption) ?_;rotate_left
  ·intro wz hSw
   try dsimp only at hSw
   go_simp
   try with_reducible rfl
  refine tk 4 ?_ rfl (by kernel_rfl) (fun _ _ _ h=>h) rfl ?_ (by assumption) ?_;rotate_left
  ·intro wz hSw
   try dsimp only at hSw
   go_simp
   try with_reducible rfl
  refine tk 5 ?_ rfl (by kernel_rfl) (fun _ _ _ h=>h) rfl ?_ (by assumption) ?_;rotate_left
  ·intro wz hSw
   try dsimp only at hSw
   go_simp
   try with_reducible rfl
  refine tk 6 ?_ rfl (by kernel_rfl) (fun _ _ _ h=>h) rfl ?_ (by assumption) ?_;rotate_left
  ·intro wz hSw
   try dsimp only at hSw
   go_simp
   try with_reducible rfl
  refine tk 7 ?_ rfl (by kernel_rfl) (fun _ _ _ h=>h) rfl ?_ (by assumption) ?_;rotate_left
  ·intro wz hSw
   try dsimp only at hSw
   go_simp
   try with_reducible rfl
  refine tk 8 ?_ rfl (by kernel_rfl) (fun _ _ _ h=>h) rfl ?_ (by assumption) ?_;rotate_left
  ·intro wz hSw
   try dsimp only at hSw
   go_simp
   try with_reducible rfl
  refine tk 9 ?_ rfl (by kernel_rfl) (fun _ _ _ h=>h) rfl ?_ (by assumption) ?_;rotate_left
  ·intro wz hSw
   try dsimp only at hSw
   go_simp
   try with_reducible rfl
  refine tk 11 ?_ rfl (by kernel_rfl) (fun _ _ _ h=>h) rfl ?_ (by assumption) ?_;rotate_left
  ·intro wz hSw
   try dsimp only at hSw
   go_simp
   try with_reducible rfl
  refine tk 12 ?_ rfl (by kernel_rfl) (fun _ _ _ h=>h) rfl ?_ (by assumption) ?_;rotate_left
  ·intro wz hSw
   try dsimp only at hSw
   go_simp
   try with_reducible rfl
  refine tk 13 ?_ rfl (by kernel_rfl) (fun _ _ _ h=>h) rfl ?_ (by assumption) ?_;rotate_left
  ·intro wz hSw
   try dsimp only at hSw
   go_simp
   try with_reducible rfl
  refine tk 14 ?_ rfl (by kernel_rfl) (fun _ _ _ h=>h) rfl ?_ (by assumption) ?_;rotate_left
  ·intro wz hSw
   try dsimp only at hSw
   go_simp
   try with_reducible rfl
  refine tk 15 ?_ rfl (by kernel_rfl) (fun _ _ _ h=>h) rfl ?_ (by assumption) ?_;rotate_left
  ·intro wz hSw
   try dsimp only at hSw
   go_simp
   try with_reducible rfl
  refine tk 16 ?_ rfl (by kernel_rfl) (fun _ _ _ h=>h) rfl ?_ (by assumption) ?_;rotate_left
  ·intro wz hSw
   try dsimp only at hSw
   go_simp
   try with_reducible rfl
  refine tk 17 ?_ rfl (by kernel_rfl) (fun _ _ _ h=>h) rfl ?_ (by assumption) ?_;rotate_left
  ·intro wz hSw
   try dsimp only at hSw
   go_simp
   try with_reducible rfl
  refine tk 18 ?_ rfl (by kernel_rfl) (fun _ _ _ h=>h) rfl ?_ (by assumption) ?_;rotate_left
  ·intro wz hSw
   try dsimp only at hSw
   go_simp
   try with_reducible rfl
  refine tk 19 ?_ rfl (by kernel_rfl) (fun _ _ _ h=>h) rfl ?_ (by assumption) ?_;rotate_left
  ·intro wz hSw
   try dsimp only at hSw
   go_simp
   try with_reducible rfl
  refine tk 20 ?_ rfl (by kernel_rfl) (fun _ _ _ h=>h) rfl ?_ (by assumption) ?_;rotate_left
  ·intro wz hSw
   try dsimp only at hSw
   go_simp
   try with_reducible rfl
  refine tk 23 ?_ rfl (by kernel_rfl) (fun _ _ _ h=>h) rfl ?_ (by assumption) ?_;rotate_left
  ·intro wz hSw
   try dsimp only at hSw
   go_simp
   try with_reducible rfl
  refine tk 24 ?_ rfl (by kernel_rfl) (fun _ _ _ h=>h) rfl ?_ (by assumption) ?_;rotate_left
  ·intro wz hSw
   try dsimp only at hSw
   go_simp
   try with_reducible rfl
  refine tk 25 ?_ rfl (by kernel_rfl) (fun _ _ _ h=>h) rfl ?_ (by assumption) ?_;rotate_left
  ·intro wz hSw
   try dsimp only at hSw
   go_simp
   try with_reducible rfl
  refine sp 10 (by kernel_rfl) rfl (fun K hK=>?_);go_simp
  (refine(H1.out _ ?_).mono ?_;exact(Below.join HB0.out hb1).drew;rintro e w3 ⟨u1,z1,m1,rfl,hT3,hb3d⟩;have hb3:Below w2.heap.size w2 w3:=Below.join (Below.refl _ _).drew hb3d;have hcur:Below w0.heap.size w0 w3:=Below.join hb1 hb3)
  go_wp2_with fail;refine hK.out _ _ ?_ (fun hHeld=>?_)
  ·exact HS.out _ hcur
  clear hK K;refine sp 21 (by kernel_rfl) rfl (fun K hK=>?_);go_simp
  (refine(H2.out _ (Below.join HB0.out hcur)).mono ?_;rintro e w4 ⟨u2,z2,m2,rfl,hT4,hb4⟩;have hcur:Below w0.heap.size w0 w4:=Below.join hcur hb4)
  go_wp2_with fail;refine hK.out _ _ ?_ (fun hHeld=>?_)
  ·exact HS.out _ hcur
  clear hK K;refine tk 22 ?_ rfl (by kernel_rfl) (fun _ _ _ h=>h) rfl ?_ (by assumption) ?_;rotate_left
  ·intro wz hSw
   try dsimp only at hSw
   go_simp
   try with_reducible rfl
  refine tk 26 ?_ rfl (by kernel_rfl) (fun _ _ _ h=>h) rfl ?_ (by assumption) ?_;rotate_left
  ·intro wz hSw
   try dsimp only at hSw
   go_simp
   try with_reducible rfl
  refine sp 27 (by kernel_rfl) rfl (fun K hK=>?_);go_simp
  refine hK.out _ _ ?_ (fun hHeld=>?_)
  ·exact HS.out _ (Below.join hcur (A5 _ _))
  clear hK K;refine sp 28 (by kernel_rfl) rfl (fun K hK=>?_);go_simp
  refine hK.out _ _ ?_ (fun hHeld=>?_)
  ·exact HS.out _ (Below.join hcur (A5 _ _))
  clear hK K;refine wpAnyH_done (by kernel_rfl) ?_ _;have HP:=HPA.out w2 w3 w4 u1 u2 z1 z2 m1 m2 hb1 hb3 hb4 HOK.out hT3 hT4;clear hT3 hT4;go_wp2_with fail;go_ret;exact HP.out
end Go.Proofs.YtfklinjaajafgaaGreatDoor
