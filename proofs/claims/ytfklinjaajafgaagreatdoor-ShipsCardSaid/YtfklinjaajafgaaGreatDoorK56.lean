import Derived.Test.YtfklinjaajafgaaGreatDoorK54
import Derived.Test.YtfklinjaajafgaaGreatDoorK51
set_option maxRecDepth 100000
set_option maxHeartbeats 4000000
namespace Go.Proofs.YtfklinjaajafgaaGreatDoor
open Go.RowKit
def PartPost (w:World)(G:Nat->Prop)(a3:Addr)(ok:Prop)(l:Ls.Ln):Ending->World->Prop:=fun e w'=>
 (ok/\∃p,e=.returned (.pointer (some ⟨p,0,none⟩))/\PartV w' (Gn w G w') p l/\Below w.heap.size w w')\/(¬ok/\e=.panicked [{v:=D0 a3,recovered:=false}]/\Below w.heap.size w w')
abbrev U1 (t1:TypeId)(y1:Value)(n1:Nat)(t2:TypeId)(y2:Value)(n2:Nat)(g c u:Value):Obj:=.cells (I3 t1 y1 n1 t2 y2 n2 g c u) 98
abbrev L0 (t1:TypeId)(y1:Value)(n1:Nat)(t2:TypeId)(y2:Value)(n2:Nat):Obj:=.cells #[.iface t1 y1,.pointer (some ⟨n1,0,none⟩),.iface t2 y2,.pointer (some ⟨n2,0,none⟩)] 94
theorem aQ1 {w W:World}{G G1 G2:Nat->Prop}{l:Ls.Ln}{t1 t2:TypeId}{y1 y2 g c u:Value}{n1 n2:Nat}(hb:Below w.heap.size w W)(hG:Old w G)(h1:Tx W G1 (.iface t1 y1) n1 (Ls.dS l))(h2:Tx W G2 (.iface t2 y2) n2 (Ls.dV l))(hG1:∀k,G1 k->Gn w G W k)(hG2:∀k,G2 k->Gn w G W k)
  (hg:Turns W (Gn w G W) g (Ls.inL (Ls.dXu (Ls.dS l))) (A6 l)) (hc:Turns W (Gn w G W) c (Ls.inL (Ls.dXu (Ls.dV l))) (A9 l)) (hpu:Turns2 W (Gn w G W) u (Ls.inL (Ls.dXu (Ls.dV l))) (Ls.inL (Ls.dXu (Ls.dS l))) (B4 l)) :
  PartV (W.alloc (U1 t1 y1 n1 t2 y2 n2 g c u)) (Gn w G (W.alloc (U1 t1 y1 n1 t2 y2 n2 g c u))) W.heap.size l:=by
 have hz:=hb.size;have hu:∀k,Gn w G W k->Gn w G (W.alloc (U1 t1 y1 n1 t2 y2 n2 g c u)) k:=fun k hk=>hk.imp id (fun h=>⟨h.1,by have:=h.2;simp;omega⟩);have hl:∀k,Gn w G W k->k<W.heap.size:=Gn.old hG hz;have hw:∀k,Gn w G W k->(W.alloc (U1 t1 y1 n1 t2 y2 n2 g c u)).heap[k]?=W.heap[k]?:=fun k hk=>Below.heap_alloc _ _ _ (hl k hk);exact⟨t1,y1,n1,t2,y2,n2,g,c,u,.inr ⟨hz,by simp⟩,Blk.new W _ _,h1.mono (fun k hk=>hu k (hG1 k hk)) (fun k hk=>hw k (hG1 k hk)),h2.mono (fun k hk=>hu k (hG2 k hk)) (fun k hk=>hw k (hG2 k hk)),hg.mono hu hw,hc.mono hu hw,hpu.mono hu hw⟩
theorem Blk.four {w:World}{g:Nat}{x y u v:Value}{T:TypeId}(h:Blk w g #[x,y,u,v] T):w.cell? ⟨g,0,none⟩=some x/\w.cell? ⟨g,1,none⟩=some y/\w.cell? ⟨g,2,none⟩=some u/\w.cell? ⟨g,3,none⟩=some v:=⟨h.cell 0,h.cell 1,h.cell 2,h.cell 3⟩
theorem sQr (d:Ls.D):Ls.dS (Ls.eXh d)=d:=by simp[Ls.eXh,Ls.dS]
theorem sQw (d:Ls.D):Ls.dV (Ls.eXh d)=d:=by simp[Ls.eXh,Ls.dV]
theorem fQ5 (d:Ls.D)(ws:List UInt8):Ls.dS (Ls.dX4 d ws)=d:=by simp[Ls.dX4,Ls.dS]
theorem sQx (d:Ls.D)(ws:List UInt8):Ls.dV (Ls.dX4 d ws)=Ls.rnil:=by simp[Ls.dX4,Ls.dV]
theorem sQs (ws:List UInt8):Ls.dS (Ls.hXb ws)=Ls.rnil:=by simp[Ls.hXb,Ls.dS]
theorem sQy (ws:List UInt8):Ls.dV (Ls.hXb ws)=Ls.gX2 ws:=by simp[Ls.hXb,Ls.dV]
theorem sQd (d:Ls.D)(h24:Ls.dsize d<=24)(hn:dn d<=100000)(w:World)(G:Nat->Prop)(hG:Old w G)(a3:Addr)(ty:TypeId)(y:Value)(h:Rep w G 0 d [.iface ty y]) :
  Calls Tryz.prog 168 #[.iface ty y] w (PartPost w G a3 True (Ls.eXh d)):=by
 have hmf:∀(fn:Fn) (first cap:Array Value) (w:World),(Instr.makeFunc fn first cap).run Tryz.prog w=.ok (.func fn first cap) w:=fun _ _ _ _=>rfl;have hT:=aQp d (by omega) h24 w G hG ty y h;clear h;go_enter Tryz.func168,Tryz.ntmps168;go_wp2_with fail;refine hT.mono ?_;clear hT;rintro e w1 ⟨ty,y,nb,rfl,ht,hb1⟩;have hb2:=A5 w1 (D9 (.iface ty y) nb);have hx2:Blk (w1.alloc (D9 (.iface ty y) nb)) w1.heap.size #[.iface ty y,.pointer (some ⟨nb,0,none⟩)] 92:=Blk.new w1 _ _;have hbw:=Below.join hb1 hb2;have hz1:=hb1.size;have hz2:(w1.alloc (D9 (.iface ty y) nb)).heap.size=w1.heap.size+1:=by simp
 have ht2:=ht.below (Gn.old hG hz1) hb2;clear ht hb2;go_upto_region 1 with (fail);generalize w1.alloc (D9 (.iface ty y) nb)=w2 at *;obtain⟨a0,a1,a2,a4⟩:=hx2.two;have HP:Hid (PartPost w G a3 True (Ls.eXh d) (.returned (.pointer (some ⟨w1.heap.size+1,0,none⟩))) (w2.alloc (U1 ty y nb ty y nb (.func (.func 188) #[] #[]) (.func (.func 188) #[] #[]) (.func (.func 189) #[] #[])))):=by
  rw[<-hz2];refine .inl ⟨trivial,w2.heap.size,rfl,aQ1 hbw hG (by rw[sQr];exact ht2) (by rw[sQw];exact ht2) (fun k hk=>?_) (fun k hk=>?_) (mQ9 _ _ _ _ (fun x=>by simp[Ls.eXh,A6])) (mQ9 _ _ _ _ (fun x=>by simp[Ls.eXh,A9])) (cXm _ _ _ _ _ (fun x y=>by simp[Ls.eXh,B4])),Below.join hbw (A5 _ _)⟩
  ·exact hk.imp id (fun h=>⟨h.1,by have:=h.2;omega⟩)
  ·exact hk.imp id (fun h=>⟨h.1,by have:=h.2;omega⟩)
 clear ht2 hx2 hz2;go_wp2_with fail;go_ret;exact HP.out
theorem nQc (w:World):Calls Tryz.prog 203 #[.string ⟨#[]⟩] w fun e w'=>∃sl,e=.returned (N9 sl)/\Rep w' (B8 w w') 0 Ls.rnil [N9 sl]/\Below w.heap.size w w':=
 kQ6 ⟨#[]⟩ (by decide) (fun c hc=>by cases hc) w
theorem eQu:Ls.dsize Ls.rnil<=24/\dn Ls.rnil<=1048576:=by rw[Ls.eX6,T6];omega
theorem zQe (ws:List UInt8)(hs:ws.length<=24)(hok:∀c∈ws,c.toNat<=126)(w:World)(G:Nat->Prop)(hG:Old w G)(a3:Addr) :
  Calls Tryz.prog 180 #[A4 ws] w (PartPost w G a3 True (Ls.hXb ws)):=by
 have hmf:∀(fn:Fn) (first cap:Array Value) (w:World),(Instr.makeFunc fn first cap).run Tryz.prog w=.ok (.func fn first cap) w:=fun _ _ _ _=>rfl;have HOK:Hid (∀c∈(⟨ws.toArray⟩:ByteArray).data.toList,c.toNat<=126):=hok;have hsz:(⟨ws.toArray⟩:ByteArray).size=ws.length:=by simp[ByteArray.size]
 clear hok;go_enter Tryz.func180,Tryz.ntmps180;go_wp2_with fail;refine(nQc w).mono ?_;rintro e w1 ⟨sl,rfl,hr1,hb1⟩;have hT1:=aQp Ls.rnil eQu.2 eQu.1 w1 _ (fun k hk=>hk.2) _ _ hr1;clear hr1;go_wp2_with fail;refine hT1.mono ?_;clear hT1;rintro e w2 ⟨ty,y,nb,rfl,ht2,hb2⟩;have hbw2:=Below.join hb1 hb2;have HT2:Hid (Tx w2 (Gn w1 (B8 w w1) w2) (.iface ty y) nb Ls.rnil):=ht2;clear ht2;go_wp2_with fail;refine(kQ6 ⟨ws.toArray⟩ (by omega) HOK.out w2).mono ?_;rintro e w3 ⟨sl3,rfl,hr3,hb3⟩;have hT3:=aQp (Ls.gX2 ws) (by rw[fQ6];omega) (by rw[Ls.gX4];omega) w3 _ (fun k hk=>hk.2) _ _ hr3;clear hr3;go_wp2_with fail;refine hT3.mono ?_;clear hT3;rintro e w4 ⟨ty4,y4,nb4,rfl,ht4,hb4⟩;have hb24:=Below.join hb3 hb4;have hbw4:=Below.join hbw2 hb24;have z1:=hb1.size;have z2:=hb2.size;have z3:=hb3.size;have z4:=hb4.size;have hb5:=A5 w4 (L0 ty y nb ty4 y4 nb4);have hx5:Blk (w4.alloc (L0 ty y nb ty4 y4 nb4)) w4.heap.size #[.iface ty y,.pointer (some ⟨nb,0,none⟩),.iface ty4 y4,.pointer (some ⟨nb4,0,none⟩)] 94:=Blk.new w4 _ _;have hbw5:=Below.join hbw4 hb5;have HTa:Hid (∀W,Below (w4.alloc (L0 ty y nb ty4 y4 nb4)).heap.size (w4.alloc (L0 ty y nb ty4 y4 nb4)) W->Tx W (Gn w G (w4.alloc (L0 ty y nb ty4 y4 nb4))) (.iface ty y) nb (Ls.dS (Ls.hXb ws))/\Tx W (Gn w G (w4.alloc (L0 ty y nb ty4 y4 nb4))) (.iface ty4 y4) nb4 (Ls.dV (Ls.hXb ws))):=fun W hW=>by
  have z5:=hb5.size;rw[sQs,sQy];have hj:=Below.join hb5 hW;refine⟨(HT2.out.below (Gn.old (fun k hk=>hk.2) z2) (Below.join hb24 hj)).mono (fun k hk=>?_) (fun _ _=>rfl),(ht4.below (Gn.old (fun k hk=>hk.2) z4) hj).mono (fun k hk=>?_) (fun _ _=>rfl)⟩
  ·rcases hk with h|h
   ·exact .inr ⟨h.1,by have:=h.2;omega⟩
   ·exact .inr ⟨by omega,by omega⟩
  ·rcases hk with h|h
   ·exact .inr ⟨by have:=h.1;omega,by have:=h.2;omega⟩
   ·exact .inr ⟨by omega,by omega⟩
 clear HOK ht4 HT2 hb5;go_upto_region 1 with (fail);generalize w4.alloc (L0 ty y nb ty4 y4 nb4)=w5 at *;have HS:Hid (∀W:World,Below w5.heap.size w5 W->W.cell? ⟨w4.heap.size,0,none⟩=some (.iface ty y)/\W.cell? ⟨w4.heap.size,1,none⟩=some (.pointer (some ⟨nb,0,none⟩))/\W.cell? ⟨w4.heap.size,2,none⟩=some (.iface ty4 y4)/\W.cell? ⟨w4.heap.size,3,none⟩=some (.pointer (some ⟨nb4,0,none⟩))):=fun W hW=>(hx5.below hW hx5.lt).four;obtain⟨a0,a1,a2,a5⟩:=HS.out w5 (Below.refl _ _);clear hx5;go_region_held (fun w'=>w'.cell? ⟨w4.heap.size,0,none⟩=some (.iface ty y)/\w'.cell? ⟨w4.heap.size,1,none⟩=some (.pointer (some ⟨nb,0,none⟩))/\w'.cell? ⟨w4.heap.size,2,none⟩=some (.iface ty4 y4)/\w'.cell? ⟨w4.heap.size,3,none⟩=some (.pointer (some ⟨nb4,0,none⟩))) (first|assumption|(refine⟨?_,?_,?_,?_⟩<;>assumption)|exact HS.out _ (Below.refl _ _).drew|exact HS.out _ hcur|exact HS.out _ (Below.join hcur (A5 _ _)))
  (first
   | (go_at_call_of 187 (A4 ws);refine(bQ3 ws _).mono ?_;rintro e w6 ⟨g1,rfl,hg1,hl1,hB1,hb6d⟩;have hb6:Below w5.heap.size w5 w6:=Below.join (Below.refl _ _).drew hb6d;have hcur:Below w5.heap.size w5 w6:=hb6)
   | (go_at_call_of 187 (Value.string ⟨#[]⟩);refine(bQ3 [] _).mono ?_;rintro e w7 ⟨g2,rfl,hg2,hl2,hB2,hb7⟩;have hcur:Below w5.heap.size w5 w7:=Below.join hb6 hb7))
 all_goals
  have HP:Hid (PartPost w G a3 True (Ls.hXb ws) (.returned (.pointer (some ⟨w7.heap.size,0,none⟩))) (w7.alloc (U1 ty y nb ty4 y4 nb4 (Y5 g1) (Y5 g2) (.func (.func 205) #[] #[])))):=by
   have z5:=hbw5.size;have z6:=hb6.size;have z7:=hb7.size;have hg1':w5.heap.size<=g1:=hg1;refine .inl ⟨trivial,w7.heap.size,rfl,aQ1 (Below.join hbw5 hcur) hG ((HTa.out w7 hcur).1) ((HTa.out w7 hcur).2) (fun k hk=>hk.imp id (fun h=>⟨h.1,Nat.lt_of_lt_of_le h.2 hcur.size⟩)) (fun k hk=>hk.imp id (fun h=>⟨h.1,Nat.lt_of_lt_of_le h.2 hcur.size⟩)) (eQ6 (hB1.below hb7 hl1) (.inr ⟨by omega,by omega⟩) _ _ (fun x=>by simp[Ls.hXb,A6])) (eQ6 hB2 (.inr ⟨by omega,by omega⟩) _ _ (fun x=>by simp[Ls.hXb,A9])) (cXo _ _ _ _ _ (fun x y=>by simp[Ls.hXb,B4])),Below.join (Below.join hbw5 hcur) (A5 _ _)⟩
  clear HS hB1 hB2;go_wp2_with fail;go_ret;exact HP.out
theorem vQy (d:Ls.D)(h24:Ls.dsize d<=24)(hn:dn d<=100000)(ws:List UInt8)(hs:ws.length<=1048576)(w:World)(G:Nat->Prop)(hG:Old w G)(a3:Addr)(hc:EType w a3)(ty:TypeId)(y:Value)(h:Rep w G 0 d [.iface ty y]) :
  Calls Tryz.prog 178 #[.iface ty y,A4 ws] w (PartPost w G a3 (Ls.inL (Ls.dXu d) ws) (Ls.dX4 d ws)):=by
 have hmf:∀(fn:Fn) (first cap:Array Value) (w:World),(Instr.makeFunc fn first cap).run Tryz.prog w=.ok (.func fn first cap) w:=fun _ _ _ _=>rfl;have hsz:(⟨ws.toArray⟩:ByteArray).size<=1048576:=by simpa [ByteArray.size] using hs
 have hT:=aQp d (by omega) h24 w G hG ty y h;clear h hs;go_enter Tryz.func178,Tryz.ntmps178;go_wp2_with fail;refine hT.mono ?_;clear hT;rintro e w1 ⟨t1,y1,n1,rfl,ht1,hb1⟩;have HT1:Hid (Tx w1 (Gn w G w1) (.iface t1 y1) n1 d):=ht1;clear ht1;go_wp2_with fail;refine(nQc w1).mono ?_;rintro e w2 ⟨sl,rfl,hr2,hb2⟩;have hT2:=aQp Ls.rnil eQu.2 eQu.1 w2 _ (fun k hk=>hk.2) _ _ hr2;clear hr2;go_wp2_with fail;refine hT2.mono ?_;clear hT2;rintro e w3 ⟨t3,y3,n3,rfl,ht3,hb3⟩;have hb13:=Below.join hb2 hb3;have hbw3:=Below.join hb1 hb13;have z1:=hb1.size;have z2:=hb2.size;have z3:=hb3.size;have hb4:=A5 w3 (L0 t1 y1 n1 t3 y3 n3);have hx4:Blk (w3.alloc (L0 t1 y1 n1 t3 y3 n3)) w3.heap.size #[.iface t1 y1,.pointer (some ⟨n1,0,none⟩),.iface t3 y3,.pointer (some ⟨n3,0,none⟩)] 94:=Blk.new w3 _ _;have hbw4:=Below.join hbw3 hb4;have HTa:Hid (∀W,Below (w3.alloc (L0 t1 y1 n1 t3 y3 n3)).heap.size (w3.alloc (L0 t1 y1 n1 t3 y3 n3)) W->Tx W (Gn w G (w3.alloc (L0 t1 y1 n1 t3 y3 n3))) (.iface t1 y1) n1 (Ls.dS (Ls.dX4 d ws))/\Tx W (Gn w G (w3.alloc (L0 t1 y1 n1 t3 y3 n3))) (.iface t3 y3) n3 (Ls.dV (Ls.dX4 d ws))):=fun W hW=>by
  have z4:=hb4.size;rw[fQ5,sQx];have hj:=Below.join hb4 hW;refine⟨(HT1.out.below (Gn.old hG z1) (Below.join hb13 hj)).mono (fun k hk=>?_) (fun _ _=>rfl),(ht3.below (Gn.old (fun k hk=>hk.2) z3) hj).mono (fun k hk=>?_) (fun _ _=>rfl)⟩
  ·exact hk.imp id (fun h=>⟨h.1,by have:=h.2;omega⟩)
  ·rcases hk with h|h
   ·exact .inr ⟨by have:=h.1;omega,by have:=h.2;omega⟩
   ·exact .inr ⟨by omega,by omega⟩
 have HO:Hid (Old (w3.alloc (L0 t1 y1 n1 t3 y3 n3)) (Gn w G (w3.alloc (L0 t1 y1 n1 t3 y3 n3)))):=Gn.old hG hbw4.size;clear ht3 HT1 hb4;go_upto_region 1 with (fail);generalize w3.alloc (L0 t1 y1 n1 t3 y3 n3)=w4 at *;have HS4:Hid (∀W:World,Below w4.heap.size w4 W->W.cell? ⟨w3.heap.size,0,none⟩=some (.iface t1 y1)/\W.cell? ⟨w3.heap.size,1,none⟩=some (.pointer (some ⟨n1,0,none⟩))/\W.cell? ⟨w3.heap.size,2,none⟩=some (.iface t3 y3)/\W.cell? ⟨w3.heap.size,3,none⟩=some (.pointer (some ⟨n3,0,none⟩))):=fun W hW=>(hx4.below hW hx4.lt).four;obtain⟨a0,a1,a2,a5⟩:=HS4.out w4 (Below.refl _ _);have hS:=dQ6 (t2:=t3) (y2:=y3) (n2:=n3) HO.out (HTa.out w4 (Below.refl _ _)).1 (by rw[fQ5];exact h24) ⟨ws.toArray⟩ hsz;clear hx4;go_wp2_with fail;refine hS.mono ?_;clear hS;rintro e w5 ⟨b,rfl,hbe,hb5⟩;have HBE:Hid (b=true↔Ls.inL (Ls.dXu d) ws):=by rw[fQ5]at hbe;exact hbe
 have hbw5:=Below.join hbw4 hb5;clear hbe;cases b with
 | false=>
  have HN:Hid (¬Ls.inL (Ls.dXu d) ws):=fun h=>(by have:=HBE.out.2 h;cases this);have hNo:=cQm a3 w5 (hc.below hbw5);clear HBE;go_wp2_with fail;refine hNo.mono ?_;rintro e w6 ⟨rfl,rfl⟩;go_wp2_with fail;exact⟨rfl,.inr ⟨HN.out,rfl,hbw5⟩⟩
 | true=>
  have HOK:Hid (Ls.inL (Ls.dXu d) ws):=HBE.out.1 rfl;have HS:Hid (∀W:World,Below w5.heap.size w5 W->W.cell? ⟨w3.heap.size,0,none⟩=some (.iface t1 y1)/\W.cell? ⟨w3.heap.size,1,none⟩=some (.pointer (some ⟨n1,0,none⟩))/\W.cell? ⟨w3.heap.size,2,none⟩=some (.iface t3 y3)/\W.cell? ⟨w3.heap.size,3,none⟩=some (.pointer (some ⟨n3,0,none⟩))):=fun W hW=>HS4.out W (Below.join hb5 hW);clear HBE HS4 a0 a1 a2 a5;go_wp2_with fail;refine(eQm w5).mono ?_;rintro e w6 ⟨rfl,hw⟩;have hw2:=hw.symm;clear hw;subst hw2;obtain⟨a0,a1,a2,a5⟩:=HS.out w5 (Below.refl _ _);go_wp2_with fail;go_region_held (fun w'=>w'.cell? ⟨w3.heap.size,0,none⟩=some (.iface t1 y1)/\w'.cell? ⟨w3.heap.size,1,none⟩=some (.pointer (some ⟨n1,0,none⟩))/\w'.cell? ⟨w3.heap.size,2,none⟩=some (.iface t3 y3)/\w'.cell? ⟨w3.heap.size,3,none⟩=some (.pointer (some ⟨n3,0,none⟩))) (first|assumption|(refine⟨?_,?_,?_,?_⟩<;>assumption)|exact HS.out _ (Below.refl _ _).drew|exact HS.out _ hcur|exact HS.out _ (Below.join hcur (A5 _ _)))
   (first
    | (go_at_call_of 187 (Value.string ⟨#[]⟩);refine(bQ3 [] _).mono ?_;rintro e w6 ⟨g1,rfl,hg1,hl1,hB1,hb6d⟩;have hb6:Below w5.heap.size w5 w6:=Below.join (Below.refl _ _).drew hb6d;have hcur:Below w5.heap.size w5 w6:=hb6)
    | (go_at_call_of 187 (A4 ws);refine(bQ3 ws _).mono ?_;rintro e w7 ⟨g2,rfl,hg2,hl2,hB2,hb7⟩;have hcur:Below w5.heap.size w5 w7:=Below.join hb6 hb7))
  all_goals
   have HP:Hid (PartPost w G a3 (Ls.inL (Ls.dXu d) ws) (Ls.dX4 d ws) (.returned (.pointer (some ⟨w7.heap.size,0,none⟩))) (w7.alloc (U1 t1 y1 n1 t3 y3 n3 (Y5 g1) (Y5 g2) (.func (.func 204) #[] #[])))):=by
    have z5:=hbw5.size;have z6:=hb6.size;have z7:=hb7.size;have hg1':w5.heap.size<=g1:=hg1;refine .inl ⟨HOK.out,w7.heap.size,rfl,aQ1 (Below.join hbw5 hcur) hG ((HTa.out w7 (Below.join hb5 hcur)).1) ((HTa.out w7 (Below.join hb5 hcur)).2) (fun k hk=>hk.imp id (fun h=>⟨h.1,Nat.lt_of_lt_of_le h.2 (Below.join hb5 hcur).size⟩)) (fun k hk=>hk.imp id (fun h=>⟨h.1,Nat.lt_of_lt_of_le h.2 (Below.join hb5 hcur).size⟩)) (eQ6 (hB1.below hb7 hl1) (.inr ⟨by omega,by omega⟩) _ _ (fun x=>by simp[Ls.dX4,A6])) (eQ6 hB2 (.inr ⟨by omega,by omega⟩) _ _ (fun x=>by simp[Ls.dX4,A9])) (cXn _ _ _ _ _ (fun x y=>by simp[Ls.dX4,B4])),Below.join (Below.join hbw5 hcur) (A5 _ _)⟩
   clear HS hB1 hB2;go_wp2_with fail;go_ret;exact HP.out
theorem sQp (a b:Ls.Ln):Ls.dS (Ls.dXy a b)=Ls.dX7 (Ls.dS a) (Ls.dS b):=by simp[Ls.dXy,Ls.dS]
theorem sQu (a b:Ls.Ln):Ls.dV (Ls.dXy a b)=Ls.dX7 (Ls.dV a) (Ls.dV b):=by simp[Ls.dXy,Ls.dV]
theorem sQq (a b:Ls.Ln):Ls.dS (Ls.dX1 a b)=Ls.dX7 (Ls.dS a) (Ls.dS b):=by simp[Ls.dX1,Ls.dS]
theorem sQv (a b:Ls.Ln):Ls.dV (Ls.dX1 a b)=Ls.dX7 (Ls.dV b) (Ls.dV a):=by simp[Ls.dX1,Ls.dV]
theorem sQt (a b:Ls.Ln):Ls.dS (Ls.eXc a b)=Ls.eXk (Ls.dS a) (Ls.dS b):=by simp[Ls.eXc,Ls.dS]
theorem sQz (a b:Ls.Ln):Ls.dV (Ls.eXc a b)=Ls.eXk (Ls.dV a) (Ls.dV b):=by simp[Ls.eXc,Ls.dV]
theorem uQb (a b:Ls.Ln)(oa:Ls.OkL 120 a)(ob:Ls.OkL 120 b)(h24:Ls.dXw a+Ls.dXw b<=24)(hgx:gx a+gx b<=1099511627776)(hns:dn (Ls.dS a)+dn (Ls.dS b)<=100000)(hnv:dn (Ls.dV a)+dn (Ls.dV b)<=100000)
  (w:World) (G:Nat->Prop) (hG:Old w G) (a3:Addr) (hc:EType w a3) (p q:Nat) (ha:PartV w G p a) (hb:PartV w G q b) (F:Prop) (hF:F↔(¬Ls.dX0 (Ls.dXu (Ls.dS a)) (Ls.dXu (Ls.dS b))/\¬Ls.dX0 (Ls.dXu (Ls.dV a)) (Ls.dXu (Ls.dV b)))) :
  Calls Tryz.prog 132 #[.pointer (some ⟨p,0,none⟩),.pointer (some ⟨q,0,none⟩)] w (PartPost w G a3 F (Ls.dXy a b)):=by
 have HA:Hid (PartV w G p a/\PartV w G q b):=⟨ha,hb⟩;obtain⟨t1,y1,n1,t2,y2,n2,g1,c1,d1,hp1,hp2,hp3,hp4,_,_,_⟩:=ha;obtain⟨t3,y3,n3,t4,y4,n4,g2,c2,d2,hq1,hq2,hq3,hq4,_,_,_⟩:=hb;have hsa:=Ls.eXs a oa;have hsb:=Ls.eXs b ob;have hva:=Ls.eXo a oa;have hvb:=Ls.eXo b ob;have hb0:Below w.heap.size w ((w.alloc (.cells #[.pointer (some ⟨p,0,none⟩)] 78)).alloc (.cells #[.pointer (some ⟨q,0,none⟩)] 78)):=C6 w _ _;have hz0:((w.alloc (.cells #[.pointer (some ⟨p,0,none⟩)] 78)).alloc (.cells #[.pointer (some ⟨q,0,none⟩)] 78)).heap.size=w.heap.size+1+1:=by simp
 have hBf:Blk ((w.alloc (.cells #[.pointer (some ⟨p,0,none⟩)] 78)).alloc (.cells #[.pointer (some ⟨q,0,none⟩)] 78)) w.heap.size #[.pointer (some ⟨p,0,none⟩)] 78:=(Blk.new w _ _).of (Below.heap_alloc _ _ _ (by simp));have hBr:Blk ((w.alloc (.cells #[.pointer (some ⟨p,0,none⟩)] 78)).alloc (.cells #[.pointer (some ⟨q,0,none⟩)] 78)) (w.heap.size+1) #[.pointer (some ⟨q,0,none⟩)] 78:=by
  have:=Blk.new (w.alloc (.cells #[.pointer (some ⟨p,0,none⟩)] 78)) #[.pointer (some ⟨q,0,none⟩)] 78;rw[World.size_alloc]at this;exact this
 have HS:Hid (∀W:World,Below ((w.alloc (.cells #[.pointer (some ⟨p,0,none⟩)] 78)).alloc (.cells #[.pointer (some ⟨q,0,none⟩)] 78)).heap.size ((w.alloc (.cells #[.pointer (some ⟨p,0,none⟩)] 78)).alloc (.cells #[.pointer (some ⟨q,0,none⟩)] 78)) W->(W.cell? ⟨p,0,none⟩=some (.iface t1 y1)/\W.cell? ⟨p,1,none⟩=some (.pointer (some ⟨n1,0,none⟩))/\W.cell? ⟨p,2,none⟩=some (.iface t2 y2)/\W.cell? ⟨p,3,none⟩=some (.pointer (some ⟨n2,0,none⟩)))/\(W.cell? ⟨q,0,none⟩=some (.iface t3 y3)/\W.cell? ⟨q,1,none⟩=some (.pointer (some ⟨n3,0,none⟩))/\W.cell? ⟨q,2,none⟩=some (.iface t4 y4)/\W.cell? ⟨q,3,none⟩=some (.pointer (some ⟨n4,0,none⟩)))/\W.cell? ⟨w.heap.size,0,none⟩=some (.pointer (some ⟨p,0,none⟩))/\W.cell? ⟨w.heap.size+1,0,none⟩=some (.pointer (some ⟨q,0,none⟩))):=fun W hW=>by
  obtain⟨e0,e1,e2,e3,_,_,_⟩:=(hp2.below (Below.join hb0 hW) hp2.lt).seven;obtain⟨f0,f1,f2,f3,_,_,_⟩:=(hq2.below (Below.join hb0 hW) hq2.lt).seven;exact⟨⟨e0,e1,e2,e3⟩,⟨f0,f1,f2,f3⟩,(hBf.below hW hBf.lt).cell 0,(hBr.below hW hBr.lt).cell 0⟩
 have H1:Hid (∀W,Below w.heap.size w W->Calls Tryz.prog 152 #[.agg #[.iface t1 y1,.pointer (some ⟨n1,0,none⟩)],.agg #[.iface t3 y3,.pointer (some ⟨n3,0,none⟩)]] W (aQa W G a3 (¬Ls.dX0 (Ls.dXu (Ls.dS a)) (Ls.dXu (Ls.dS b))) (Ls.dX7 (Ls.dS a) (Ls.dS b)))):=fun W hW=>
  dQn _ _ (by omega) hns W G (fun k hk=>Nat.lt_of_lt_of_le (hG k hk) hW.size) a3 (hc.below hW) _ _ _ _ _ _ (hp3.below hG hW) (hq3.below hG hW)
 have H2:Hid (∀W,Below w.heap.size w W->Calls Tryz.prog 152 #[.agg #[.iface t2 y2,.pointer (some ⟨n2,0,none⟩)],.agg #[.iface t4 y4,.pointer (some ⟨n4,0,none⟩)]] W (aQa W G a3 (¬Ls.dX0 (Ls.dXu (Ls.dV a)) (Ls.dXu (Ls.dV b))) (Ls.dX7 (Ls.dV a) (Ls.dV b)))):=fun W hW=>
  dQn _ _ (by omega) (by omega) W G (fun k hk=>Nat.lt_of_lt_of_le (hG k hk) hW.size) a3 (hc.below hW) _ _ _ _ _ _ (hp4.below hG hW) (hq4.below hG hW)
 have HBX:Hid (∀W,Below ((w.alloc (.cells #[.pointer (some ⟨p,0,none⟩)] 78)).alloc (.cells #[.pointer (some ⟨q,0,none⟩)] 78)).heap.size ((w.alloc (.cells #[.pointer (some ⟨p,0,none⟩)] 78)).alloc (.cells #[.pointer (some ⟨q,0,none⟩)] 78)) W->Blk W w.heap.size #[.pointer (some ⟨p,0,none⟩)] 78/\Blk W (w.heap.size+1) #[.pointer (some ⟨q,0,none⟩)] 78):=fun W hW=>⟨hBf.below hW hBf.lt,hBr.below hW hBr.lt⟩;have HB0:Hid (Below w.heap.size w ((w.alloc (.cells #[.pointer (some ⟨p,0,none⟩)] 78)).alloc (.cells #[.pointer (some ⟨q,0,none⟩)] 78))):=hb0;have HF:Hid (F↔(¬Ls.dX0 (Ls.dXu (Ls.dS a)) (Ls.dXu (Ls.dS b))/\¬Ls.dX0 (Ls.dXu (Ls.dV a)) (Ls.dXu (Ls.dV b)))):=hF;have hmf:∀(fn:Fn) (first cap:Array Value) (w:World),(Instr.makeFunc fn first cap).run Tryz.prog w=.ok (.func fn first cap) w:=fun _ _ _ _=>rfl;clear hp1 hp2 hp3 hp4 hq1 hq2 hq3 hq4 hc hF hBf hBr hb0;go_enter Tryz.func132,Tryz.ntmps132;go_upto_region 1 with (fail);generalize ((w.alloc (.cells #[.pointer (some ⟨p,0,none⟩)] 78)).alloc (.cells #[.pointer (some ⟨q,0,none⟩)] 78))=w0 at *;have HPA:Hid (∀w2 w3 u1 u2 z1 z2 m1 m2,Below w0.heap.size w0 w2->Below w2.heap.size w2 w3->¬Ls.dX0 (Ls.dXu (Ls.dS a)) (Ls.dXu (Ls.dS b))->¬Ls.dX0 (Ls.dXu (Ls.dV a)) (Ls.dXu (Ls.dV b))->Tx w2 (Gn w0 G w2) (.iface u1 z1) m1 (Ls.dX7 (Ls.dS a) (Ls.dS b))->Tx w3 (Gn w2 G w3) (.iface u2 z2) m2 (Ls.dX7 (Ls.dV a) (Ls.dV b))->
   Hid (PartPost w G a3 F (Ls.dXy a b) (.returned (.pointer (some ⟨w3.heap.size,0,none⟩))) (w3.alloc (U1 u1 z1 m1 u2 z2 m2 (.func (.func 153) #[] #[.pointer (some ⟨w.heap.size,0,none⟩),.pointer (some ⟨(w.heap.size+1),0,none⟩)]) (.func (.func 155) #[] #[.pointer (some ⟨w.heap.size,0,none⟩),.pointer (some ⟨(w.heap.size+1),0,none⟩)]) (.func (.func 156) #[] #[.pointer (some ⟨w.heap.size,0,none⟩),.pointer (some ⟨(w.heap.size+1),0,none⟩)]))))):=by
  intro w2 w3 u1 u2 z1 z2 m1 m2 hb2 hb3 hok1 hok2 hT2 hT3;have hcur:=Below.join hb2 hb3;have hb03:=Below.join HB0.out hcur;have s2:=hb2.size;have s3:=hb3.size;have hT2':Tx w2 (Gn w G w2) (.iface u1 z1) m1 (Ls.dX7 (Ls.dS a) (Ls.dS b)):=hT2.mono (fun k hk=>hk.imp id (fun h=>⟨by have h1:w0.heap.size<=k:=h.1;omega,h.2⟩)) (fun _ _=>rfl);have hpa:=(HA.out.1.below hG hb03).mono (G':=Gn w G w3) (fun _ h=>.inl h) (fun _ _=>rfl);have hpb:=(HA.out.2.below hG hb03).mono (G':=Gn w G w3) (fun _ h=>.inl h) (fun _ _=>rfl);obtain⟨hbf,hbr⟩:=HBX.out w3 hcur;refine .inl ⟨HF.out.2 ⟨hok1,hok2⟩,w3.heap.size,rfl,aQ1 (G1:=Gn w G w2) (G2:=Gn w2 G w3) hb03 hG (by rw[sQp];exact hT2'.below (Gn.old hG (by omega)) hb3) (by rw[sQu];exact hT3) (fun k hk=>hk.imp id (fun h=>⟨h.1,by have:=h.2;omega⟩)) (fun k hk=>hk.imp id (fun h=>⟨by have:=h.1;omega,h.2⟩)) ?_ ?_ ?_,Below.join hb03 (A5 _ _)⟩
  ·exact cXv a b oa ob h24 hgx hok1 hpa hpb hbf hbr (.inr ⟨by omega,by omega⟩) (.inr ⟨by omega,by omega⟩)
  ·exact cXr a b oa ob h24 hgx hok2 hpa hpb hbf hbr (.inr ⟨by omega,by omega⟩) (.inr ⟨by omega,by omega⟩)
  ·exact cXz a b oa ob h24 hgx hok1 hok2 hpa hpb hbf hbr (.inr ⟨by omega,by omega⟩) (.inr ⟨by omega,by omega⟩)
 clear HA HBX hsa hsb hva hvb hns hnv hgx oa ob h24;obtain⟨⟨e0,e1,e2,e3⟩,⟨f0,f1,f2,f3⟩,x0,x1⟩:=HS.out w0 (Below.refl _ _);refine wp_region_held_drew (S:=(fun w'=>(w'.cell? ⟨p,0,none⟩=some (.iface t1 y1)/\w'.cell? ⟨p,1,none⟩=some (.pointer (some ⟨n1,0,none⟩))/\w'.cell? ⟨p,2,none⟩=some (.iface t2 y2)/\w'.cell? ⟨p,3,none⟩=some (.pointer (some ⟨n2,0,none⟩)))/\(w'.cell? ⟨q,0,none⟩=some (.iface t3 y3)/\w'.cell? ⟨q,1,none⟩=some (.pointer (some ⟨n3,0,none⟩))/\w'.cell? ⟨q,2,none⟩=some (.iface t4 y4)/\w'.cell? ⟨q,3,none⟩=some (.pointer (some ⟨n4,0,none⟩)))/\w'.cell? ⟨w.heap.size,0,none⟩=some (.pointer (some ⟨p,0,none⟩))/\w'.cell? ⟨w.heap.size+1,0,none⟩=some (.pointer (some ⟨q,0,none⟩)))) (by kernel_rfl) ?_ (fun hHeld=>?_)
 ·exact HS.out _ (Below.refl _ _).drew
 refine tk 0 ?_ rfl (by kernel_rfl) (fun _ _ _ h=>h) rfl ?_ (by assumption) ?_;rotate_left
 ·intro wz hSw
  try dsimp only at hSw
  go_simp
  try with_reducible rfl
 refine tk 1 ?_ rfl (by kernel_rfl) (fun _ _ _ h=>h) rfl ?_ (by assumption) ?_;rotate_left
 ·intro wz hSw
  try dsimp only at hSw
  go_simp
  try with_reducible rfl
 refine tk 2 ?_ rfl (by kernel_rfl) (fun _ _ _ h=>h) rfl ?_ (by assumption) ?_;rotate_left
 ·intro wz hSw
  try dsimp only at hSw
  go_simp
  try with_reducible rfl
 refine tk 3 ?_ rfl (by kernel_rfl) (fun _ _ _ h=>h) rfl ?_ (by assumption) ?_;rotate_left
 ·intro wz hSw
  try dsimp only at hSw
  go_simp
  try with_reducible rfl
 refine tk 4 ?_ rfl (by kernel_rfl) (fun _ _ _ h=>h) rfl ?_ (by assumption) ?_;rotate_left
 ·intro wz hSw
  try dsimp only at hSw
  go_simp
  try with_reducible rfl
 refine tk 5 ?_ rfl (by kernel_rfl) (fun _ _ _ h=>h) rfl ?_ (by assumption) ?_;rotate_left
 ·intro wz hSw
  try dsimp only at hSw
  go_simp
  try with_reducible rfl
 refine tk 6 ?_ rfl (by kernel_rfl) (fun _ _ _ h=>h) rfl ?_ (by assumption) ?_;rotate_left
 ·intro wz hSw
  try dsimp only at hSw
  go_simp
  try with_reducible rfl
 refine tk 7 ?_ rfl (by kernel_rfl) (fun _ _ _ h=>h) rfl ?_ (by assumption) ?_;rotate_left
 ·intro wz hSw
  try dsimp only at hSw
  go_simp
  try with_reducible rfl
 refine tk 8 ?_ rfl (by kernel_rfl) (fun _ _ _ h=>h) rfl ?_ (by assumption) ?_;rotate_left
 ·intro wz hSw
  try dsimp only at hSw
  go_simp
  try with_reducible rfl
 refine tk 9 ?_ rfl (by kernel_rfl) (fun _ _ _ h=>h) rfl ?_ (by assumption) ?_;rotate_left
 ·intro wz hSw
  try dsimp only at hSw
  go_simp
  try with_reducible rfl
 refine tk 11 ?_ rfl (by kernel_rfl) (fun _ _ _ h=>h) rfl ?_ (by assumption) ?_;rotate_left
 ·intro wz hSw
  try dsimp only at hSw
  go_simp
  try with_reducible rfl
 refine tk 12 ?_ rfl (by kernel_rfl) (fun _ _ _ h=>h) rfl ?_ (by assumption) ?_;rotate_left
 ·intro wz hSw
  try dsimp only at hSw
  go_simp
  try with_reducible rfl
 refine tk 13 ?_ rfl (by kernel_rfl) (fun _ _ _ h=>h) rfl ?_ (by assumption) ?_;rotate_left
 ·intro wz hSw
  try dsimp only at hSw
  go_simp
  try with_reducible rfl
 refine tk 14 ?_ rfl (by kernel_rfl) (fun _ _ _ h=>h) rfl ?_ (by assumption) ?_;rotate_left
 ·intro wz hSw
  try dsimp only at hSw
  go_simp
  try with_reducible rfl
 refine tk 15 ?_ rfl (by kernel_rfl) (fun _ _ _ h=>h) rfl ?_ (by assumption) ?_;rotate_left
 ·intro wz hSw
  try dsimp only at hSw
  go_simp
  try with_reducible rfl
 refine tk 16 ?_ rfl (by kernel_rfl) (fun _ _ _ h=>h) rfl ?_ (by assumption) ?_;rotate_left
 ·intro wz hSw
  try dsimp only at hSw
  go_simp
  try with_reducible rfl
 refine tk 17 ?_ rfl (by kernel_rfl) (fun _ _ _ h=>h) rfl ?_ (by assumption) ?_;rotate_left
 ·intro wz hSw
  try dsimp only at hSw
  go_simp
  try with_reducible rfl
 refine tk 18 ?_ rfl (by kernel_rfl) (fun _ _ _ h=>h) rfl ?_ (by assumption) ?_;rotate_left
 ·intro wz hSw
  try dsimp only at hSw
  go_simp
  try with_reducible rfl
 refine tk 19 ?_ rfl (by kernel_rfl) (fun _ _ _ h=>h) rfl ?_ (by assumption) ?_;rotate_left
 ·intro wz hSw
  try dsimp only at hSw
  go_simp
  try with_reducible rfl
 refine tk 20 ?_ rfl (by kernel_rfl) (fun _ _ _ h=>h) rfl ?_ (by assumption) ?_;rotate_left
 ·intro wz hSw
  try dsimp only at hSw
  go_simp
  try with_reducible rfl
 refine tk 23 ?_ rfl (by kernel_rfl) (fun _ _ _ h=>h) rfl ?_ (by assumption) ?_;rotate_left
 ·intro wz hSw
  try dsimp only at hSw
  go_simp
  try with_reducible rfl
 refine tk 24 ?_ rfl (by kernel_rfl) (fun _ _ _ h=>h) rfl ?_ (by assumption) ?_;rotate_left
 ·intro wz hSw
  try dsimp only at hSw
  go_simp
  try with_reducible rfl
 refine tk 25 ?_ rfl (by kernel_rfl) (fun _ _ _ h=>h) rfl ?_ (by assumption) ?_;rotate_left
 ·intro wz hSw
  try dsimp only at hSw
  go_simp
  try with_reducible rfl
 refine sp 10 (by kernel_rfl) rfl (fun K hK=>?_);go_simp
 (refine(H1.out _ ?_).mono ?_;exact HB0.out.drew;rintro e w2 (⟨hok1,u1,z1,m1,rfl,hT2,hb2d⟩|⟨hno,rfl,hb2d⟩);rotate_left;(have HNO:Hid _:=hno;clear hno HPA;go_wp2_with fail;exact⟨rfl,.inr ⟨fun h=>HNO.out (HF.out.1 h).1,rfl,Below.join HB0.out.drew hb2d⟩⟩);have HOK1:Hid _:=hok1;clear hok1;have hb2:Below w0.heap.size w0 w2:=Below.join (Below.refl _ _).drew hb2d;have hcur:Below w0.heap.size w0 w2:=hb2)
 go_wp2_with fail;refine hK.out _ _ ?_ (fun hHeld=>?_)
 ·exact HS.out _ hcur
 clear hK K;refine sp 21 (by kernel_rfl) rfl (fun K hK=>?_);go_simp
 (refine(H2.out _ (Below.join HB0.out hcur)).mono ?_;rintro e w3 (⟨hok2,u2,z2,m2,rfl,hT3,hb3⟩|⟨hno,rfl,hb3⟩);rotate_left;(have HNO:Hid _:=hno;clear hno;go_wp2_with fail;exact⟨rfl,.inr ⟨fun h=>HNO.out (HF.out.1 h).2,rfl,Below.join (Below.join HB0.out hcur) hb3⟩⟩);have HOK2:Hid _:=hok2;clear hok2;have hcur:Below w0.heap.size w0 w3:=Below.join hcur hb3)
 go_wp2_with fail;refine hK.out _ _ ?_ (fun hHeld=>?_)
 ·exact HS.out _ hcur
 clear hK K;refine tk 22 ?_ rfl (by kernel_rfl) (fun _ _ _ h=>h) rfl ?_ (by assumption) ?_;rotate_left
 ·intro wz hSw
  try dsimp only at hSw
  go_simp
  try with_reducible rfl
 refine tk 26 ?_ rfl (by kernel_rfl) (fun _ _ _ h=>h) rfl ?_ (by assumption) ?_;rotate_left
 ·intro wz hSw
  try dsimp only at hSw
  go_simp
  try with_reducible rfl
 refine sp 27 (by kernel_rfl) rfl (fun K hK=>?_);go_simp
 refine hK.out _ _ ?_ (fun hHeld=>?_)
 ·exact HS.out _ (Below.join hcur (A5 _ _))
 clear hK K;refine sp 28 (by kernel_rfl) rfl (fun K hK=>?_);go_simp
 refine hK.out _ _ ?_ (fun hHeld=>?_)
 ·exact HS.out _ (Below.join hcur (A5 _ _))
 clear hK K;refine wpAnyH_done (by kernel_rfl) ?_ _;have HP:=HPA.out w2 w3 u1 u2 z1 z2 m1 m2 hb2 hb3 HOK1.out HOK2.out hT2 hT3;clear hT2 hT3;go_wp2_with fail;go_ret;exact HP.out
end Go.Proofs.YtfklinjaajafgaaGreatDoor
