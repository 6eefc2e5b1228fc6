import Derived.Test.YtcggfnlejalppaaGreatDoorK54
set_option maxRecDepth 100000
set_option maxHeartbeats 4000000
namespace Go.Proofs.YtcggfnlejalppaaGreatDoor
open Go.RowKit
def PartPost (w:World)(G:Nat->Prop)(a3:Addr)(ok:Prop)(l:Ls.Ln):Ending->World->Prop:=fun e w'=>
 (ok/\∃p,e=.returned (.pointer (some ⟨p,0,none⟩))/\PartV w' (Gn w G w') p l/\Below w.heap.size w w')\/(¬ok/\e=.panicked [{v:=C2 a3,recovered:=false}]/\Below w.heap.size w w')
abbrev O3 (t1:TypeId)(y1:Value)(n1:Nat)(t2:TypeId)(y2:Value)(n2:Nat)(g c:Value):Obj:=.cells (J9 t1 y1 n1 t2 y2 n2 g c) 91
abbrev H9 (t1:TypeId)(y1:Value)(n1:Nat)(t2:TypeId)(y2:Value)(n2:Nat):Obj:=.cells #[.iface t1 y1,.pointer (some ⟨n1,0,none⟩),.iface t2 y2,.pointer (some ⟨n2,0,none⟩)] 88
theorem V5 {w W:World}{G G1 G2:Nat->Prop}{l:Ls.Ln}{t1 t2:TypeId}{y1 y2 g c:Value}{n1 n2:Nat}(hb:Below w.heap.size w W)(hG:Old w G)(h1:Tx W G1 (.iface t1 y1) n1 (Ls.dS l))(h2:Tx W G2 (.iface t2 y2) n2 (Ls.dV l))(hG1:∀k,G1 k->Gn w G W k)(hG2:∀k,G2 k->Gn w G W k)
  (hg:Turns W (Gn w G W) g (Ls.inL (Ls.wQu (Ls.dS l))) (A9 l)) (hc:Turns W (Gn w G W) c (Ls.inL (Ls.wQu (Ls.dV l))) (C5 l)) :
  PartV (W.alloc (O3 t1 y1 n1 t2 y2 n2 g c)) (Gn w G (W.alloc (O3 t1 y1 n1 t2 y2 n2 g c))) W.heap.size l:=by
 have hz:=hb.size;have hu:∀k,Gn w G W k->Gn w G (W.alloc (O3 t1 y1 n1 t2 y2 n2 g c)) k:=fun k hk=>hk.imp id (fun h=>⟨h.1,by have:=h.2;simp;omega⟩);have hl:∀k,Gn w G W k->k<W.heap.size:=Gn.old hG hz;have hw:∀k,Gn w G W k->(W.alloc (O3 t1 y1 n1 t2 y2 n2 g c)).heap[k]?=W.heap[k]?:=fun k hk=>Below.heap_alloc _ _ _ (hl k hk);exact⟨t1,y1,n1,t2,y2,n2,g,c,.inr ⟨hz,by simp⟩,Blk.new W _ _,h1.mono (fun k hk=>hu k (hG1 k hk)) (fun k hk=>hw k (hG1 k hk)),h2.mono (fun k hk=>hu k (hG2 k hk)) (fun k hk=>hw k (hG2 k hk)),hg.mono hu hw,hc.mono hu hw⟩
theorem Blk.four {w:World}{g:Nat}{x y u v:Value}{T:TypeId}(h:Blk w g #[x,y,u,v] T):w.cell? ⟨g,0,none⟩=some x/\w.cell? ⟨g,1,none⟩=some y/\w.cell? ⟨g,2,none⟩=some u/\w.cell? ⟨g,3,none⟩=some v:=⟨h.cell 0,h.cell 1,h.cell 2,h.cell 3⟩
theorem tQ1 (d:Ls.D):Ls.dS (Ls.xQ7 d)=d:=by simp[Ls.xQ7,Ls.dS]
theorem oQi (d:Ls.D):Ls.dV (Ls.xQ7 d)=d:=by simp[Ls.xQ7,Ls.dV]
theorem dQ9 (d:Ls.D)(ws:List UInt8):Ls.dS (Ls.xQk d ws)=d:=by simp[Ls.xQk,Ls.dS]
theorem uQu (d:Ls.D)(ws:List UInt8):Ls.dV (Ls.xQk d ws)=Ls.rnil:=by simp[Ls.xQk,Ls.dV]
theorem oQz (ws:List UInt8):Ls.dS (Ls.zQ6 ws)=Ls.rnil:=by simp[Ls.zQ6,Ls.dS]
theorem sQn (ws:List UInt8):Ls.dV (Ls.zQ6 ws)=Ls.zQw ws:=by simp[Ls.zQ6,Ls.dV]
theorem uQn (d:Ls.D)(h24:Ls.dsize d<=24)(hn:dn d<=100000)(w:World)(G:Nat->Prop)(hG:Old w G)(a3:Addr)(ty:TypeId)(y:Value)(h:Rep w G 0 d [.iface ty y]) :
  Calls Tryz.prog 156 #[.iface ty y] w (PartPost w G a3 True (Ls.xQ7 d)):=by
 have hT:=T7 d (by omega) h24 w G hG ty y h;clear h;go_enter Tryz.func156,Tryz.ntmps156;go_wp2_with fail;refine hT.mono ?_;clear hT;rintro e w1 ⟨ty,y,nb,rfl,ht,hb1⟩;have hb2:=A4 w1 (C8 (.iface ty y) nb);have hx2:Blk (w1.alloc (C8 (.iface ty y) nb)) w1.heap.size #[.iface ty y,.pointer (some ⟨nb,0,none⟩)] 86:=Blk.new w1 _ _;have hbw:=Below.join hb1 hb2;have hz1:=hb1.size;have hz2:(w1.alloc (C8 (.iface ty y) nb)).heap.size=w1.heap.size+1:=by simp
 have ht2:=ht.below (Gn.old hG hz1) hb2;clear ht hb2;go_upto_region 1 with (fail);generalize w1.alloc (C8 (.iface ty y) nb)=w2 at *;obtain⟨a0,a1,a2,a4⟩:=hx2.two;have HP:Hid (PartPost w G a3 True (Ls.xQ7 d) (.returned (.pointer (some ⟨w1.heap.size+1,0,none⟩))) (w2.alloc (O3 ty y nb ty y nb (.func (.func 174) #[] #[]) (.func (.func 174) #[] #[])))):=by
  rw[<-hz2];refine .inl ⟨trivial,w2.heap.size,rfl,V5 hbw hG (by rw[tQ1];exact ht2) (by rw[oQi];exact ht2) (fun k hk=>?_) (fun k hk=>?_) (iQh _ _ _ _ (fun x=>by simp[Ls.xQ7,A9])) (iQh _ _ _ _ (fun x=>by simp[Ls.xQ7,C5])),Below.join hbw (A4 _ _)⟩
  ·exact hk.imp id (fun h=>⟨h.1,by have:=h.2;omega⟩)
  ·exact hk.imp id (fun h=>⟨h.1,by have:=h.2;omega⟩)
 clear ht2 hx2 hz2;go_wp2_with fail;go_ret;exact HP.out
theorem gQt (w:World):Calls Tryz.prog 183 #[.string ⟨#[]⟩] w fun e w'=>∃sl,e=.returned (J7 sl)/\Rep w' (B6 w w') 0 Ls.rnil [J7 sl]/\Below w.heap.size w w':=
 hQx ⟨#[]⟩ (by decide) (fun c hc=>by cases hc) w
theorem cQc:Ls.dsize Ls.rnil<=24/\dn Ls.rnil<=1048576:=by rw[Ls.xQv,P7];omega
theorem lQa (ws:List UInt8)(hs:ws.length<=24)(hok:∀c∈ws,c.toNat<=126)(w:World)(G:Nat->Prop)(hG:Old w G)(a3:Addr) :
  Calls Tryz.prog 167 #[A6 ws] w (PartPost w G a3 True (Ls.zQ6 ws)):=by
 have HOK:Hid (∀c∈(⟨ws.toArray⟩:ByteArray).data.toList,c.toNat<=126):=hok;have hsz:(⟨ws.toArray⟩:ByteArray).size=ws.length:=by simp[ByteArray.size]
 clear hok;go_enter Tryz.func167,Tryz.ntmps167;go_wp2_with fail;refine(gQt w).mono ?_;rintro e w1 ⟨sl,rfl,hr1,hb1⟩;have hT1:=T7 Ls.rnil cQc.2 cQc.1 w1 _ (fun k hk=>hk.2) _ _ hr1;clear hr1;go_wp2_with fail;refine hT1.mono ?_;clear hT1;rintro e w2 ⟨ty,y,nb,rfl,ht2,hb2⟩;have hbw2:=Below.join hb1 hb2;have HT2:Hid (Tx w2 (Gn w1 (B6 w w1) w2) (.iface ty y) nb Ls.rnil):=ht2;clear ht2;go_wp2_with fail;refine(hQx ⟨ws.toArray⟩ (by omega) HOK.out w2).mono ?_;rintro e w3 ⟨sl3,rfl,hr3,hb3⟩;have hT3:=T7 (Ls.zQw ws) (by rw[dQs];omega) (by rw[Ls.zQ0];omega) w3 _ (fun k hk=>hk.2) _ _ hr3;clear hr3;go_wp2_with fail;refine hT3.mono ?_;clear hT3;rintro e w4 ⟨ty4,y4,nb4,rfl,ht4,hb4⟩;have hb24:=Below.join hb3 hb4;have hbw4:=Below.join hbw2 hb24;have z1:=hb1.size;have z2:=hb2.size;have z3:=hb3.size;have z4:=hb4.size;have hb5:=A4 w4 (H9 ty y nb ty4 y4 nb4);have hx5:Blk (w4.alloc (H9 ty y nb ty4 y4 nb4)) w4.heap.size #[.iface ty y,.pointer (some ⟨nb,0,none⟩),.iface ty4 y4,.pointer (some ⟨nb4,0,none⟩)] 88:=Blk.new w4 _ _;have hbw5:=Below.join hbw4 hb5;have HTa:Hid (∀W,Below (w4.alloc (H9 ty y nb ty4 y4 nb4)).heap.size (w4.alloc (H9 ty y nb ty4 y4 nb4)) W->Tx W (Gn w G (w4.alloc (H9 ty y nb ty4 y4 nb4))) (.iface ty y) nb (Ls.dS (Ls.zQ6 ws))/\Tx W (Gn w G (w4.alloc (H9 ty y nb ty4 y4 nb4))) (.iface ty4 y4) nb4 (Ls.dV (Ls.zQ6 ws))):=fun W hW=>by
  have z5:=hb5.size;rw[oQz,sQn];have hj:=Below.join hb5 hW;refine⟨(HT2.out.below (Gn.old (fun k hk=>hk.2) z2) (Below.join hb24 hj)).mono (fun k hk=>?_) (fun _ _=>rfl),(ht4.below (Gn.old (fun k hk=>hk.2) z4) hj).mono (fun k hk=>?_) (fun _ _=>rfl)⟩
  ·rcases hk with h|h
   ·exact .inr ⟨h.1,by have:=h.2;omega⟩
   ·exact .inr ⟨by omega,by omega⟩
  ·rcases hk with h|h
   ·exact .inr ⟨by have:=h.1;omega,by have:=h.2;omega⟩
   ·exact .inr ⟨by omega,by omega⟩
 clear HOK ht4 HT2 hb5;go_upto_region 1 with (fail);generalize w4.alloc (H9 ty y nb ty4 y4 nb4)=w5 at *;have HS:Hid (∀W:World,Below w5.heap.size w5 W->W.cell? ⟨w4.heap.size,0,none⟩=some (.iface ty y)/\W.cell? ⟨w4.heap.size,1,none⟩=some (.pointer (some ⟨nb,0,none⟩))/\W.cell? ⟨w4.heap.size,2,none⟩=some (.iface ty4 y4)/\W.cell? ⟨w4.heap.size,3,none⟩=some (.pointer (some ⟨nb4,0,none⟩))):=fun W hW=>(hx5.below hW hx5.lt).four;obtain⟨a0,a1,a2,a5⟩:=HS.out w5 (Below.refl _ _);clear hx5;go_region_held (fun w'=>w'.cell? ⟨w4.heap.size,0,none⟩=some (.iface ty y)/\w'.cell? ⟨w4.heap.size,1,none⟩=some (.pointer (some ⟨nb,0,none⟩))/\w'.cell? ⟨w4.heap.size,2,none⟩=some (.iface ty4 y4)/\w'.cell? ⟨w4.heap.size,3,none⟩=some (.pointer (some ⟨nb4,0,none⟩))) (first|assumption|(refine⟨?_,?_,?_,?_⟩<;>assumption)|exact HS.out _ (Below.refl _ _).drew|exact HS.out _ hcur|exact HS.out _ (Below.join hcur (A4 _ _)))
  (first
   | (go_at_call_of 184 (A6 ws);refine(bQt ws _).mono ?_;rintro e w6 ⟨g1,rfl,hg1,hl1,hB1,hb6d⟩;have hb6:Below w5.heap.size w5 w6:=Below.join (Below.refl _ _).drew hb6d;have hcur:Below w5.heap.size w5 w6:=hb6)
   | (go_at_call_of 184 (Value.string ⟨#[]⟩);refine(bQt [] _).mono ?_;rintro e w7 ⟨g2,rfl,hg2,hl2,hB2,hb7⟩;have hcur:Below w5.heap.size w5 w7:=Below.join hb6 hb7))
 all_goals
  have HP:Hid (PartPost w G a3 True (Ls.zQ6 ws) (.returned (.pointer (some ⟨w7.heap.size,0,none⟩))) (w7.alloc (O3 ty y nb ty4 y4 nb4 (Z4 g1) (Z4 g2)))):=by
   have z5:=hbw5.size;have z6:=hb6.size;have z7:=hb7.size;have hg1':w5.heap.size<=g1:=hg1;refine .inl ⟨trivial,w7.heap.size,rfl,V5 (Below.join hbw5 hcur) hG ((HTa.out w7 hcur).1) ((HTa.out w7 hcur).2) (fun k hk=>hk.imp id (fun h=>⟨h.1,Nat.lt_of_lt_of_le h.2 hcur.size⟩)) (fun k hk=>hk.imp id (fun h=>⟨h.1,Nat.lt_of_lt_of_le h.2 hcur.size⟩)) (aQy (hB1.below hb7 hl1) (.inr ⟨by omega,by omega⟩) _ _ (fun x=>by simp[Ls.zQ6,A9])) (aQy hB2 (.inr ⟨by omega,by omega⟩) _ _ (fun x=>by simp[Ls.zQ6,C5])),Below.join (Below.join hbw5 hcur) (A4 _ _)⟩
  clear HS hB1 hB2;go_wp2_with fail;go_ret;exact HP.out
theorem rQt (d:Ls.D)(h24:Ls.dsize d<=24)(hn:dn d<=100000)(ws:List UInt8)(hs:ws.length<=1048576)(w:World)(G:Nat->Prop)(hG:Old w G)(a3:Addr)(hc:EType w a3)(ty:TypeId)(y:Value)(h:Rep w G 0 d [.iface ty y]) :
  Calls Tryz.prog 165 #[.iface ty y,A6 ws] w (PartPost w G a3 (Ls.inL (Ls.wQu d) ws) (Ls.xQk d ws)):=by
 have hsz:(⟨ws.toArray⟩:ByteArray).size<=1048576:=by simpa [ByteArray.size] using hs
 have hT:=T7 d (by omega) h24 w G hG ty y h;clear h hs;go_enter Tryz.func165,Tryz.ntmps165;go_wp2_with fail;refine hT.mono ?_;clear hT;rintro e w1 ⟨t1,y1,n1,rfl,ht1,hb1⟩;have HT1:Hid (Tx w1 (Gn w G w1) (.iface t1 y1) n1 d):=ht1;clear ht1;go_wp2_with fail;refine(gQt w1).mono ?_;rintro e w2 ⟨sl,rfl,hr2,hb2⟩;have hT2:=T7 Ls.rnil cQc.2 cQc.1 w2 _ (fun k hk=>hk.2) _ _ hr2;clear hr2;go_wp2_with fail;refine hT2.mono ?_;clear hT2;rintro e w3 ⟨t3,y3,n3,rfl,ht3,hb3⟩;have hb13:=Below.join hb2 hb3;have hbw3:=Below.join hb1 hb13;have z1:=hb1.size;have z2:=hb2.size;have z3:=hb3.size;have hb4:=A4 w3 (H9 t1 y1 n1 t3 y3 n3);have hx4:Blk (w3.alloc (H9 t1 y1 n1 t3 y3 n3)) w3.heap.size #[.iface t1 y1,.pointer (some ⟨n1,0,none⟩),.iface t3 y3,.pointer (some ⟨n3,0,none⟩)] 88:=Blk.new w3 _ _;have hbw4:=Below.join hbw3 hb4;have HTa:Hid (∀W,Below (w3.alloc (H9 t1 y1 n1 t3 y3 n3)).heap.size (w3.alloc (H9 t1 y1 n1 t3 y3 n3)) W->Tx W (Gn w G (w3.alloc (H9 t1 y1 n1 t3 y3 n3))) (.iface t1 y1) n1 (Ls.dS (Ls.xQk d ws))/\Tx W (Gn w G (w3.alloc (H9 t1 y1 n1 t3 y3 n3))) (.iface t3 y3) n3 (Ls.dV (Ls.xQk d ws))):=fun W hW=>by
  have z4:=hb4.size;rw[dQ9,uQu];have hj:=Below.join hb4 hW;refine⟨(HT1.out.below (Gn.old hG z1) (Below.join hb13 hj)).mono (fun k hk=>?_) (fun _ _=>rfl),(ht3.below (Gn.old (fun k hk=>hk.2) z3) hj).mono (fun k hk=>?_) (fun _ _=>rfl)⟩
  ·exact hk.imp id (fun h=>⟨h.1,by have:=h.2;omega⟩)
  ·rcases hk with h|h
   ·exact .inr ⟨by have:=h.1;omega,by have:=h.2;omega⟩
   ·exact .inr ⟨by omega,by omega⟩
 have HO:Hid (Old (w3.alloc (H9 t1 y1 n1 t3 y3 n3)) (Gn w G (w3.alloc (H9 t1 y1 n1 t3 y3 n3)))):=Gn.old hG hbw4.size;clear ht3 HT1 hb4;go_upto_region 1 with (fail);generalize w3.alloc (H9 t1 y1 n1 t3 y3 n3)=w4 at *;have HS4:Hid (∀W:World,Below w4.heap.size w4 W->W.cell? ⟨w3.heap.size,0,none⟩=some (.iface t1 y1)/\W.cell? ⟨w3.heap.size,1,none⟩=some (.pointer (some ⟨n1,0,none⟩))/\W.cell? ⟨w3.heap.size,2,none⟩=some (.iface t3 y3)/\W.cell? ⟨w3.heap.size,3,none⟩=some (.pointer (some ⟨n3,0,none⟩))):=fun W hW=>(hx4.below hW hx4.lt).four;obtain⟨a0,a1,a2,a5⟩:=HS4.out w4 (Below.refl _ _);have hS:=cQs (t2:=t3) (y2:=y3) (n2:=n3) HO.out (HTa.out w4 (Below.refl _ _)).1 (by rw[dQ9];exact h24) ⟨ws.toArray⟩ hsz;clear hx4;go_wp2_with fail;refine hS.mono ?_;clear hS;rintro e w5 ⟨b,rfl,hbe,hb5⟩;have HBE:Hid (b=true↔Ls.inL (Ls.wQu d) ws):=by rw[dQ9]at hbe;exact hbe
 have hbw5:=Below.join hbw4 hb5;clear hbe;cases b with
 | false=>
  have HN:Hid (¬Ls.inL (Ls.wQu d) ws):=fun h=>(by have:=HBE.out.2 h;cases this);have hNo:=aQb a3 w5 (hc.below hbw5);clear HBE;go_wp2_with fail;refine hNo.mono ?_;rintro e w6 ⟨rfl,rfl⟩;go_wp2_with fail;exact⟨rfl,.inr ⟨HN.out,rfl,hbw5⟩⟩
 | true=>
  have HOK:Hid (Ls.inL (Ls.wQu d) ws):=HBE.out.1 rfl;have HS:Hid (∀W:World,Below w5.heap.size w5 W->W.cell? ⟨w3.heap.size,0,none⟩=some (.iface t1 y1)/\W.cell? ⟨w3.heap.size,1,none⟩=some (.pointer (some ⟨n1,0,none⟩))/\W.cell? ⟨w3.heap.size,2,none⟩=some (.iface t3 y3)/\W.cell? ⟨w3.heap.size,3,none⟩=some (.pointer (some ⟨n3,0,none⟩))):=fun W hW=>HS4.out W (Below.join hb5 hW);clear HBE HS4 a0 a1 a2 a5;go_wp2_with fail;refine(cQm w5).mono ?_;rintro e w6 ⟨rfl,hw⟩;have hw2:=hw.symm;clear hw;subst hw2;obtain⟨a0,a1,a2,a5⟩:=HS.out w5 (Below.refl _ _);go_wp2_with fail;go_region_held (fun w'=>w'.cell? ⟨w3.heap.size,0,none⟩=some (.iface t1 y1)/\w'.cell? ⟨w3.heap.size,1,none⟩=some (.pointer (some ⟨n1,0,none⟩))/\w'.cell? ⟨w3.heap.size,2,none⟩=some (.iface t3 y3)/\w'.cell? ⟨w3.heap.size,3,none⟩=some (.pointer (some ⟨n3,0,none⟩))) (first|assumption|(refine⟨?_,?_,?_,?_⟩<;>assumption)|exact HS.out _ (Below.refl _ _).drew|exact HS.out _ hcur|exact HS.out _ (Below.join hcur (A4 _ _)))
   (first
    | (go_at_call_of 184 (Value.string ⟨#[]⟩);refine(bQt [] _).mono ?_;rintro e w6 ⟨g1,rfl,hg1,hl1,hB1,hb6d⟩;have hb6:Below w5.heap.size w5 w6:=Below.join (Below.refl _ _).drew hb6d;have hcur:Below w5.heap.size w5 w6:=hb6)
    | (go_at_call_of 184 (A6 ws);refine(bQt ws _).mono ?_;rintro e w7 ⟨g2,rfl,hg2,hl2,hB2,hb7⟩;have hcur:Below w5.heap.size w5 w7:=Below.join hb6 hb7))
  all_goals
   have HP:Hid (PartPost w G a3 (Ls.inL (Ls.wQu d) ws) (Ls.xQk d ws) (.returned (.pointer (some ⟨w7.heap.size,0,none⟩))) (w7.alloc (O3 t1 y1 n1 t3 y3 n3 (Z4 g1) (Z4 g2)))):=by
    have z5:=hbw5.size;have z6:=hb6.size;have z7:=hb7.size;have hg1':w5.heap.size<=g1:=hg1;refine .inl ⟨HOK.out,w7.heap.size,rfl,V5 (Below.join hbw5 hcur) hG ((HTa.out w7 (Below.join hb5 hcur)).1) ((HTa.out w7 (Below.join hb5 hcur)).2) (fun k hk=>hk.imp id (fun h=>⟨h.1,Nat.lt_of_lt_of_le h.2 (Below.join hb5 hcur).size⟩)) (fun k hk=>hk.imp id (fun h=>⟨h.1,Nat.lt_of_lt_of_le h.2 (Below.join hb5 hcur).size⟩)) (aQy (hB1.below hb7 hl1) (.inr ⟨by omega,by omega⟩) _ _ (fun x=>by simp[Ls.xQk,A9])) (aQy hB2 (.inr ⟨by omega,by omega⟩) _ _ (fun x=>by simp[Ls.xQk,C5])),Below.join (Below.join hbw5 hcur) (A4 _ _)⟩
   clear HS hB1 hB2;go_wp2_with fail;go_ret;exact HP.out
end Go.Proofs.YtcggfnlejalppaaGreatDoor
