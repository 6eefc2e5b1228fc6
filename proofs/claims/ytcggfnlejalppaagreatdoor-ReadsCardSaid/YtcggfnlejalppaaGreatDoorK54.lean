import Derived.Test.YtcggfnlejalppaaGreatDoorK51
import Derived.Test.YtcggfnlejalppaaGreatDoorK53
import Derived.Test.YtcggfnlejalppaaGreatDoorK50
import Derived.Test.YtcggfnlejalppaaGreatDoorK03
set_option maxRecDepth 100000
set_option maxHeartbeats 4000000
namespace Go.Proofs.YtcggfnlejalppaaGreatDoor
open Go.RowKit
theorem mQq (x Z:List UInt8)(A:Prop)(w:World)(p q bf br:Nat)(t1 t2 r1 r2:TypeId)(y1 y2 z1 z2:Value)(n1 n2 m1 m2:Nat)(c1 c2:Value)(f1 f2:Nat)(k1 k2:Array Value)
  (hp:Blk w p (J9 t1 y1 n1 r1 z1 m1 (.func (.func f1) #[] k1) c1) 91) (hq:Blk w q (J9 t2 y2 n2 r2 z2 m2 (.func (.func f2) #[] k2) c2) 91) (hf:Blk w bf #[.pointer (some ⟨p,0,none⟩)] 72) (hr:Blk w br #[.pointer (some ⟨q,0,none⟩)] 72)
  (hcf1:∀(x:Value) (W:World),(callFunc f1 (#[x]++k1)).run Tryz.prog W=.ok (.enter f1 (#[x]++k1)) W) (hcf2:∀(x:Value) (W:World),(callFunc f2 (#[x]++k2)).run Tryz.prog W=.ok (.enter f2 (#[x]++k2)) W)
  (HI:∀W,Below w.heap.size w W->Calls Tryz.prog 43 #[.agg #[.iface t1 y1,.pointer (some ⟨n1,0,none⟩),.iface r1 z1,.pointer (some ⟨m1,0,none⟩)],A6 x] W fun e w'=>∃b:Bool,e=.returned (.bool b)/\(b=true↔A)/\Below W.heap.size W w')
  (H1:A->∀W,Below w.heap.size w W->Calls Tryz.prog f1 (#[A6 x]++k1) W fun e w'=>e=.returned (A6 Z)/\Below W.heap.size W w')
  (H2:¬A->∀W,Below w.heap.size w W->Calls Tryz.prog f2 (#[A6 x]++k2) W fun e w'=>e=.returned (A6 Z)/\Below W.heap.size W w') :
  Calls Tryz.prog 129 #[A6 x,.pointer (some ⟨bf,0,none⟩),.pointer (some ⟨br,0,none⟩)] w fun e w'=>e=.returned (A6 Z)/\Below w.heap.size w w':=by
 have HS:Hid (∀W:World,Below w.heap.size w W->(W.cell? ⟨p,0,none⟩=some (.iface t1 y1)/\W.cell? ⟨p,1,none⟩=some (.pointer (some ⟨n1,0,none⟩))/\W.cell? ⟨p,2,none⟩=some (.iface r1 z1)/\W.cell? ⟨p,3,none⟩=some (.pointer (some ⟨m1,0,none⟩))/\W.cell? ⟨p,4,none⟩=some (.func (.func f1) #[] k1))/\W.cell? ⟨q,4,none⟩=some (.func (.func f2) #[] k2)/\W.cell? ⟨bf,0,none⟩=some (.pointer (some ⟨p,0,none⟩))/\W.cell? ⟨br,0,none⟩=some (.pointer (some ⟨q,0,none⟩))):=fun W hW=>by
  obtain⟨a0,a1,a2,a3,a4,_⟩:=(hp.below hW hp.lt).six;obtain⟨_,_,_,_,b4,_⟩:=(hq.below hW hq.lt).six;exact⟨⟨a0,a1,a2,a3,a4⟩,b4,(hf.below hW hf.lt).cell 0,(hr.below hW hr.lt).cell 0⟩
 have hI:=HI w (Below.refl _ _);have H1':Hid (A->∀W,Below w.heap.size w W->Calls Tryz.prog f1 (#[A6 x]++k1) W fun e w'=>e=.returned (A6 Z)/\Below W.heap.size W w'):=H1;have H2':Hid (¬A->∀W,Below w.heap.size w W->Calls Tryz.prog f2 (#[A6 x]++k2) W fun e w'=>e=.returned (A6 Z)/\Below W.heap.size W w'):=H2;obtain⟨⟨a0,a1,a2,a3,a4⟩,b4,e0,e1⟩:=HS.out w (Below.refl _ _);clear hp hq hf hr HI H1 H2;go_enter Tryz.func129,Tryz.ntmps129;go_wp2_with fail;refine hI.mono ?_;clear hI;rintro e w2 ⟨b,rfl,hbe,hb2⟩;have HE:Hid (b=true↔A):=hbe;obtain⟨⟨a0,a1,a2,a3,a4⟩,b4,e0,e1⟩:=HS.out w2 hb2;clear hbe;cases b with
 | true=>
  have hC:=H1'.out (HE.out.1 rfl) w2 hb2;clear HE;go_wp2_with fail;refine hC.mono ?_;clear hC;rintro e w3 ⟨rfl,hb3⟩;go_wp2_with fail;go_ret;exact⟨rfl,Below.join hb2 hb3⟩
 | false=>
  have hC:=H2'.out (fun h=>(by have:=HE.out.2 h;cases this)) w2 hb2;clear HE;go_wp2_with fail;refine hC.mono ?_;clear hC;rintro e w3 ⟨rfl,hb3⟩;go_wp2_with fail;go_ret;exact⟨rfl,Below.join hb2 hb3⟩
theorem mQh (x Z:List UInt8)(A:Prop)(w:World)(p q bf br:Nat)(t1 t2 r1 r2:TypeId)(y1 y2 z1 z2:Value)(n1 n2 m1 m2:Nat)(c1 c2:Value)(f1 f2:Nat)(k1 k2:Array Value)
  (hp:Blk w p (J9 r1 z1 m1 t1 y1 n1 c1 (.func (.func f1) #[] k1)) 91) (hq:Blk w q (J9 r2 z2 m2 t2 y2 n2 c2 (.func (.func f2) #[] k2)) 91) (hf:Blk w bf #[.pointer (some ⟨p,0,none⟩)] 72) (hr:Blk w br #[.pointer (some ⟨q,0,none⟩)] 72)
  (hcf1:∀(x:Value) (W:World),(callFunc f1 (#[x]++k1)).run Tryz.prog W=.ok (.enter f1 (#[x]++k1)) W) (hcf2:∀(x:Value) (W:World),(callFunc f2 (#[x]++k2)).run Tryz.prog W=.ok (.enter f2 (#[x]++k2)) W)
  (HI:∀W,Below w.heap.size w W->Calls Tryz.prog 46 #[.agg #[.iface r1 z1,.pointer (some ⟨m1,0,none⟩),.iface t1 y1,.pointer (some ⟨n1,0,none⟩)],A6 x] W fun e w'=>∃b:Bool,e=.returned (.bool b)/\(b=true↔A)/\Below W.heap.size W w')
  (H1:A->∀W,Below w.heap.size w W->Calls Tryz.prog f1 (#[A6 x]++k1) W fun e w'=>e=.returned (A6 Z)/\Below W.heap.size W w')
  (H2:¬A->∀W,Below w.heap.size w W->Calls Tryz.prog f2 (#[A6 x]++k2) W fun e w'=>e=.returned (A6 Z)/\Below W.heap.size W w') :
  Calls Tryz.prog 130 #[A6 x,.pointer (some ⟨bf,0,none⟩),.pointer (some ⟨br,0,none⟩)] w fun e w'=>e=.returned (A6 Z)/\Below w.heap.size w w':=by
 have HS:Hid (∀W:World,Below w.heap.size w W->(W.cell? ⟨p,0,none⟩=some (.iface r1 z1)/\W.cell? ⟨p,1,none⟩=some (.pointer (some ⟨m1,0,none⟩))/\W.cell? ⟨p,2,none⟩=some (.iface t1 y1)/\W.cell? ⟨p,3,none⟩=some (.pointer (some ⟨n1,0,none⟩))/\W.cell? ⟨p,5,none⟩=some (.func (.func f1) #[] k1))/\W.cell? ⟨q,5,none⟩=some (.func (.func f2) #[] k2)/\W.cell? ⟨bf,0,none⟩=some (.pointer (some ⟨p,0,none⟩))/\W.cell? ⟨br,0,none⟩=some (.pointer (some ⟨q,0,none⟩))):=fun W hW=>by
  obtain⟨a0,a1,a2,a3,_,a4⟩:=(hp.below hW hp.lt).six;obtain⟨_,_,_,_,_,b4⟩:=(hq.below hW hq.lt).six;exact⟨⟨a0,a1,a2,a3,a4⟩,b4,(hf.below hW hf.lt).cell 0,(hr.below hW hr.lt).cell 0⟩
 have hI:=HI w (Below.refl _ _);have H1':Hid (A->∀W,Below w.heap.size w W->Calls Tryz.prog f1 (#[A6 x]++k1) W fun e w'=>e=.returned (A6 Z)/\Below W.heap.size W w'):=H1;have H2':Hid (¬A->∀W,Below w.heap.size w W->Calls Tryz.prog f2 (#[A6 x]++k2) W fun e w'=>e=.returned (A6 Z)/\Below W.heap.size W w'):=H2;obtain⟨⟨a0,a1,a2,a3,a4⟩,b4,e0,e1⟩:=HS.out w (Below.refl _ _);clear hp hq hf hr HI H1 H2;go_enter Tryz.func130,Tryz.ntmps130;go_wp2_with fail;refine hI.mono ?_;clear hI;rintro e w2 ⟨b,rfl,hbe,hb2⟩;have HE:Hid (b=true↔A):=hbe;obtain⟨⟨a0,a1,a2,a3,a4⟩,b4,e0,e1⟩:=HS.out w2 hb2;clear hbe;cases b with
 | true=>
  have hC:=H1'.out (HE.out.1 rfl) w2 hb2;clear HE;go_wp2_with fail;refine hC.mono ?_;clear hC;rintro e w3 ⟨rfl,hb3⟩;go_wp2_with fail;go_ret;exact⟨rfl,Below.join hb2 hb3⟩
 | false=>
  have hC:=H2'.out (fun h=>(by have:=HE.out.2 h;cases this)) w2 hb2;clear HE;go_wp2_with fail;refine hC.mono ?_;clear hC;rintro e w3 ⟨rfl,hb3⟩;go_wp2_with fail;go_ret;exact⟨rfl,Below.join hb2 hb3⟩
theorem vQ4 (s Z:List UInt8)(R:World->Option Addr->Nat->Nat->Prop)(w:World)(p bf br:Nat)(t1 t2 r1:TypeId)(y1 y2 z1 r2 z2:Value)(n1 n2 m1:Nat)(c1:Value)(f1:Nat)(k1:Array Value)
  (hp:Blk w p (J9 t1 y1 n1 r1 z1 m1 (.func (.func f1) #[] k1) c1) 91) (hf:Blk w bf #[.pointer (some ⟨p,0,none⟩)] 72) (hr:Blk w br #[.iface t2 y2,.pointer (some ⟨n2,0,none⟩),r2,z2] 88)
  (HP:∀W,Below w.heap.size w W->Calls Tryz.prog 180 #[D5 (.iface t1 y1) n1,D5 (.iface t2 y2) n2,A6 s] W fun e w'=>∃v1 v2 v3,e=.returned (.slice v1 v2 v3)/\R w' v1 v2 v3/\Below W.heap.size W w')
  (HE:∀W v1 v2 v3,Below w.heap.size w W->R W v1 v2 v3->Calls Tryz.prog 179 #[.slice v1 v2 v3,.func (.func f1) #[] k1] W fun e w'=>e=.returned (A6 Z)/\Below W.heap.size W w') :
  Calls Tryz.prog 178 #[A6 s,.pointer (some ⟨bf,0,none⟩),.pointer (some ⟨br,0,none⟩)] w fun e w'=>e=.returned (A6 Z)/\Below w.heap.size w w':=by
 have HS:Hid (∀W:World,Below w.heap.size w W->(W.cell? ⟨p,0,none⟩=some (.iface t1 y1)/\W.cell? ⟨p,1,none⟩=some (.pointer (some ⟨n1,0,none⟩))/\W.cell? ⟨p,4,none⟩=some (.func (.func f1) #[] k1))/\(W.cell? ⟨br,0,none⟩=some (.iface t2 y2)/\W.cell? ⟨br,1,none⟩=some (.pointer (some ⟨n2,0,none⟩)))/\W.cell? ⟨bf,0,none⟩=some (.pointer (some ⟨p,0,none⟩))):=fun W hW=>by
  obtain⟨a0,a1,_,_,a4,_⟩:=(hp.below hW hp.lt).six;exact⟨⟨a0,a1,a4⟩,⟨(hr.below hW hr.lt).cell 0,(hr.below hW hr.lt).cell 1⟩,(hf.below hW hf.lt).cell 0⟩
 have HP':Hid (∀W,Below w.heap.size w W->Calls Tryz.prog 180 #[D5 (.iface t1 y1) n1,D5 (.iface t2 y2) n2,A6 s] W fun e w'=>∃v1 v2 v3,e=.returned (.slice v1 v2 v3)/\R w' v1 v2 v3/\Below W.heap.size W w'):=HP;have HE':Hid (∀W v1 v2 v3,Below w.heap.size w W->R W v1 v2 v3->Calls Tryz.prog 179 #[.slice v1 v2 v3,.func (.func f1) #[] k1] W fun e w'=>e=.returned (A6 Z)/\Below W.heap.size W w'):=HE;obtain⟨⟨a0,a1,a4⟩,⟨b0,b1⟩,e0⟩:=HS.out w (Below.refl _ _);clear hp hf hr HP HE;go_enter Tryz.func178,Tryz.ntmps178;go_wp2_with fail;go_region_held (fun w'=>(w'.cell? ⟨p,0,none⟩=some (.iface t1 y1)/\w'.cell? ⟨p,1,none⟩=some (.pointer (some ⟨n1,0,none⟩))/\w'.cell? ⟨p,4,none⟩=some (.func (.func f1) #[] k1))/\(w'.cell? ⟨br,0,none⟩=some (.iface t2 y2)/\w'.cell? ⟨br,1,none⟩=some (.pointer (some ⟨n2,0,none⟩)))/\w'.cell? ⟨bf,0,none⟩=some (.pointer (some ⟨p,0,none⟩))) (first|assumption|(refine⟨⟨?_,?_,?_⟩,⟨?_,?_⟩,?_⟩<;>assumption)|exact HS.out _ (Below.refl _ _).drew|exact HS.out _ hcur)
  (first
   | (go_at_call 180;refine(HP'.out _ ?_).mono ?_;exact(Below.refl _ _).drew;rintro e w2 ⟨v1,v2,v3,rfl,hR,hb2d⟩;have HR:Hid (R w2 v1 v2 v3):=hR;clear hR;have hb2:Below w.heap.size w w2:=Below.join (Below.refl _ _).drew hb2d;have hcur:Below w.heap.size w w2:=hb2)
   | (go_at_call 179;refine(HE'.out _ v1 v2 v3 hb2 HR.out).mono ?_;rintro e w3 ⟨rfl,hb3d⟩;have hb3:Below w.heap.size w w3:=Below.join hb2 hb3d;have hcur:Below w.heap.size w w3:=hb3))
 all_goals
  go_wp2_with fail;go_ret;exact⟨rfl,hb3⟩
theorem oQq (s Z:List UInt8)(R:World->Option Addr->Nat->Nat->Prop)(w:World)(p bf br:Nat)(t1 t2 r1:TypeId)(y1 y2 z1 r2 z2:Value)(n1 n2 m1:Nat)(c1:Value)(f1:Nat)(k1:Array Value)
  (hp:Blk w p (J9 r1 z1 m1 t1 y1 n1 c1 (.func (.func f1) #[] k1)) 91) (hf:Blk w bf #[.pointer (some ⟨p,0,none⟩)] 72) (hr:Blk w br #[r2,z2,.iface t2 y2,.pointer (some ⟨n2,0,none⟩)] 88)
  (HP:∀W,Below w.heap.size w W->Calls Tryz.prog 180 #[D5 (.iface t1 y1) n1,D5 (.iface t2 y2) n2,A6 s] W fun e w'=>∃v1 v2 v3,e=.returned (.slice v1 v2 v3)/\R w' v1 v2 v3/\Below W.heap.size W w')
  (HE:∀W v1 v2 v3,Below w.heap.size w W->R W v1 v2 v3->Calls Tryz.prog 179 #[.slice v1 v2 v3,.func (.func f1) #[] k1] W fun e w'=>e=.returned (A6 Z)/\Below W.heap.size W w') :
  Calls Tryz.prog 181 #[A6 s,.pointer (some ⟨bf,0,none⟩),.pointer (some ⟨br,0,none⟩)] w fun e w'=>e=.returned (A6 Z)/\Below w.heap.size w w':=by
 have HS:Hid (∀W:World,Below w.heap.size w W->(W.cell? ⟨p,2,none⟩=some (.iface t1 y1)/\W.cell? ⟨p,3,none⟩=some (.pointer (some ⟨n1,0,none⟩))/\W.cell? ⟨p,5,none⟩=some (.func (.func f1) #[] k1))/\(W.cell? ⟨br,2,none⟩=some (.iface t2 y2)/\W.cell? ⟨br,3,none⟩=some (.pointer (some ⟨n2,0,none⟩)))/\W.cell? ⟨bf,0,none⟩=some (.pointer (some ⟨p,0,none⟩))):=fun W hW=>by
  obtain⟨_,_,a0,a1,_,a4⟩:=(hp.below hW hp.lt).six;exact⟨⟨a0,a1,a4⟩,⟨(hr.below hW hr.lt).cell 2,(hr.below hW hr.lt).cell 3⟩,(hf.below hW hf.lt).cell 0⟩
 have HP':Hid (∀W,Below w.heap.size w W->Calls Tryz.prog 180 #[D5 (.iface t1 y1) n1,D5 (.iface t2 y2) n2,A6 s] W fun e w'=>∃v1 v2 v3,e=.returned (.slice v1 v2 v3)/\R w' v1 v2 v3/\Below W.heap.size W w'):=HP;have HE':Hid (∀W v1 v2 v3,Below w.heap.size w W->R W v1 v2 v3->Calls Tryz.prog 179 #[.slice v1 v2 v3,.func (.func f1) #[] k1] W fun e w'=>e=.returned (A6 Z)/\Below W.heap.size W w'):=HE;obtain⟨⟨a0,a1,a4⟩,⟨b0,b1⟩,e0⟩:=HS.out w (Below.refl _ _);clear hp hf hr HP HE;go_enter Tryz.func181,Tryz.ntmps181;go_wp2_with fail;go_region_held (fun w'=>(w'.cell? ⟨p,2,none⟩=some (.iface t1 y1)/\w'.cell? ⟨p,3,none⟩=some (.pointer (some ⟨n1,0,none⟩))/\w'.cell? ⟨p,5,none⟩=some (.func (.func f1) #[] k1))/\(w'.cell? ⟨br,2,none⟩=some (.iface t2 y2)/\w'.cell? ⟨br,3,none⟩=some (.pointer (some ⟨n2,0,none⟩)))/\w'.cell? ⟨bf,0,none⟩=some (.pointer (some ⟨p,0,none⟩))) (first|assumption|(refine⟨⟨?_,?_,?_⟩,⟨?_,?_⟩,?_⟩<;>assumption)|exact HS.out _ (Below.refl _ _).drew|exact HS.out _ hcur)
  (first
   | (go_at_call 180;refine(HP'.out _ ?_).mono ?_;exact(Below.refl _ _).drew;rintro e w2 ⟨v1,v2,v3,rfl,hR,hb2d⟩;have HR:Hid (R w2 v1 v2 v3):=hR;clear hR;have hb2:Below w.heap.size w w2:=Below.join (Below.refl _ _).drew hb2d;have hcur:Below w.heap.size w w2:=hb2)
   | (go_at_call 179;refine(HE'.out _ v1 v2 v3 hb2 HR.out).mono ?_;rintro e w3 ⟨rfl,hb3d⟩;have hb3:Below w.heap.size w w3:=Below.join hb2 hb3d;have hcur:Below w.heap.size w w3:=hb3))
 all_goals
  go_wp2_with fail;go_ret;exact⟨rfl,hb3⟩
theorem O1 {p q p' q':Ls.Pat}(h1:∀s,Ls.inL p s↔Ls.inL p' s)(h2:∀s,Ls.inL q s↔Ls.inL q' s):Ls.wQ1 p q↔Ls.wQ1 p' q':=by
 unfold Ls.wQ1;simp only[h1,h2]
theorem vQv {p q p' q':Ls.Pat}(h1:∀s,Ls.inL p s↔Ls.inL p' s)(h2:∀s,Ls.inL q s↔Ls.inL q' s):Ls.bXt p q↔Ls.bXt p' q':=by
 unfold Ls.bXt;simp only[h1,h2]
theorem iQy {d:Ls.D}{p:Ls.Pat}(hp:Ls.wf p)(h:∀s,Ls.inL (Ls.wQu d) s↔Ls.inL p s):(¬Ls.inL (Ls.wQu d) []/\¬Ls.wQ1 (Ls.wQu d) (Ls.wQu (Ls.rep 5 d)))↔I7 p:=by
 unfold I7;have h5:∀s,Ls.inL (Ls.wQu (Ls.rep 5 d)) s↔Ls.inL (Ls.wQ9 p) s:=fun s=>by
  rw[Ls.yQf,Ls.xQt];exact Ls.yQd h s
 rw[O1 h h5,h []];have he:=Ls.zQh p hp;constructor
 ·rintro ⟨a,b⟩
  refine⟨?_,b⟩;cases hx:Ls.empty p with
  | false=>rfl
  | true=>exact absurd (he.1 hx) a
 ·rintro ⟨a,b⟩
  exact⟨fun hx=>(by rw[he.2 hx]at a;cases a),b⟩
theorem cQs {w:World}{G:Nat->Prop}(hG:Old w G){t1 t2:TypeId}{y1 y2:Value}{n1 n2:Nat}{d:Ls.D}(h:Tx w G (.iface t1 y1) n1 d)(h24:Ls.dsize d<=24)(s:ByteArray)(hs:s.size<=1048576) :
  Calls Tryz.prog 43 #[.agg #[.iface t1 y1,.pointer (some ⟨n1,0,none⟩),.iface t2 y2,.pointer (some ⟨n2,0,none⟩)],.string s] w fun e w'=>∃b:Bool,e=.returned (.bool b)/\(b=true↔Ls.inL (Ls.wQu d) s.data.toList)/\Below w.heap.size w w':=by
 have hb0:=A4 w (.cells #[.iface t1 y1,.pointer (some ⟨n1,0,none⟩),.iface t2 y2,.pointer (some ⟨n2,0,none⟩)] 88);have hM:=q7 (h.below hG hb0) h24 s hs;have HB:Hid _:=hb0;clear h hb0;go_enter Tryz.func43,Tryz.ntmps43;go_wp2_with fail;refine hM.mono ?_;rintro e w1 ⟨b,rfl,hb,hb1⟩;have HE:Hid (b=true↔Ls.inL (Ls.wQu d) s.data.toList):=hb;clear hb hM;go_wp2_with fail;go_ret;exact⟨b,rfl,HE.out,Below.join HB.out hb1⟩
theorem fQa {w:World}{G:Nat->Prop}(hG:Old w G){t1 t2:TypeId}{y1 y2:Value}{n1 n2:Nat}{d:Ls.D}(h:Tx w G (.iface t2 y2) n2 d)(h24:Ls.dsize d<=24)(s:ByteArray)(hs:s.size<=1048576) :
  Calls Tryz.prog 46 #[.agg #[.iface t1 y1,.pointer (some ⟨n1,0,none⟩),.iface t2 y2,.pointer (some ⟨n2,0,none⟩)],.string s] w fun e w'=>∃b:Bool,e=.returned (.bool b)/\(b=true↔Ls.inL (Ls.wQu d) s.data.toList)/\Below w.heap.size w w':=by
 have hb0:=A4 w (.cells #[.iface t1 y1,.pointer (some ⟨n1,0,none⟩),.iface t2 y2,.pointer (some ⟨n2,0,none⟩)] 88);have hM:=q7 (h.below hG hb0) h24 s hs;have HB:Hid _:=hb0;clear h hb0;go_enter Tryz.func46,Tryz.ntmps46;go_wp2_with fail;refine hM.mono ?_;rintro e w1 ⟨b,rfl,hb,hb1⟩;have HE:Hid (b=true↔Ls.inL (Ls.wQu d) s.data.toList):=hb;clear hb hM;go_wp2_with fail;go_ret;exact⟨b,rfl,HE.out,Below.join HB.out hb1⟩
theorem tQ8 (x:List UInt8)(w:World):Calls Tryz.prog 174 #[A6 x] w fun e w'=>e=.returned (A6 x)/\Below w.heap.size w w':=by
 go_enter Tryz.func174,Tryz.ntmps174;go_wp2_with fail;go_ret;exact⟨rfl,Below.refl _ _⟩
abbrev Z4 (g:Nat):Value:=.func (.func 190) #[] #[.pointer (some ⟨g,0,none⟩)]
theorem bQt (ws:List UInt8)(w:World):Calls Tryz.prog 184 #[A6 ws] w fun e w'=>∃g,e=.returned (Z4 g)/\w.heap.size<=g/\g<w'.heap.size/\Blk w' g #[A6 ws] 9/\Below w.heap.size w w':=by
 have hmf:∀(fn:Fn) (first cap:Array Value) (w:World),(Instr.makeFunc fn first cap).run Tryz.prog w=.ok (.func fn first cap) w:=fun _ _ _ _=>rfl;go_enter Tryz.func184,Tryz.ntmps184;go_wp2_with fail;go_ret;exact⟨w.heap.size,rfl,Nat.le_refl _,by simp,Blk.new w _ _,A4 _ _⟩
theorem qQ0 (ws x:List UInt8)(w:World)(g:Nat)(h:Blk w g #[A6 ws] 9):Calls Tryz.prog 190 #[A6 x,.pointer (some ⟨g,0,none⟩)] w fun e w'=>e=.returned (A6 ws)/\Below w.heap.size w w':=by
 obtain⟨c0,c1⟩:=h.one;clear h;go_enter Tryz.func190,Tryz.ntmps190;go_wp2_with fail;go_ret;exact⟨rfl,Below.refl _ _⟩
theorem iQh (w:World)(G:Nat->Prop)(p:List UInt8->Prop)(val:List UInt8->List UInt8)(hv:∀x,val x=x):Turns w G (.func (.func 174) #[] #[]) p val:=⟨_,_,rfl,fun _ _=>by kernel_rfl,fun W _ _ x _ _=>by
  have:=tQ8 x W;rw[hv];exact this⟩
theorem aQy {w:World}{G:Nat->Prop}{g:Nat}{ws:List UInt8}(h:Blk w g #[A6 ws] 9)(hg:G g)(p:List UInt8->Prop)(val:List UInt8->List UInt8)(hv:∀x,val x=ws):Turns w G (Z4 g) p val:=⟨_,_,rfl,fun _ _=>by kernel_rfl,fun W hW _ x _ _=>by
  have:=qQ0 ws x W g (h.of (hW g hg));rw[hv];exact this⟩
theorem bQ1 {a b:Ls.Ln}(hgx:gx a+gx b<=1099511627776){X Y u v:List UInt8}(hX:X.length<=(u.length+1)*gx a)(hY:Y.length<=(v.length+1)*gx b)(hl:u.length+v.length<=60):X.length+Y.length<=140737488355328:=by
 have h1:(u.length+1)*gx a<=61*gx a:=Nat.mul_le_mul_right _ (by omega);have h2:(v.length+1)*gx b<=61*gx b:=Nat.mul_le_mul_right _ (by omega);omega
theorem rQg (a b:Ls.Ln)(oa:Ls.OkL 120 a)(ob:Ls.OkL 120 b)(h24:Ls.wQv a+Ls.wQv b<=24)(hgx:gx a+gx b<=1099511627776)(ht:¬Ls.wQ1 (Ls.wQu (Ls.dS a)) (Ls.wQu (Ls.dS b))){w:World}{G:Nat->Prop}{p q bf br:Nat}(hp:PartV w G p a)(hq:PartV w G q b)
  (hf:Blk w bf #[.pointer (some ⟨p,0,none⟩)] 72) (hr:Blk w br #[.pointer (some ⟨q,0,none⟩)] 72) (gf:G bf) (gr:G br) :
  Turns w G (.func (.func 143) #[] #[.pointer (some ⟨bf,0,none⟩),.pointer (some ⟨br,0,none⟩)]) (Ls.inL (Ls.wQu (Ls.dS (Ls.xQb a b)))) (A9 (Ls.xQb a b)):=by
 refine⟨_,_,rfl,fun _ _=>by kernel_rfl,fun W hW hO x hx hin=>?_⟩;have hpW:=hp.mono (G':=G) (fun _ h=>h) hW;have hqW:=hq.mono (G':=G) (fun _ h=>h) hW;have hfW:=hf.of (hW bf gf);have hrW:=hr.of (hW br gr);obtain⟨t1,y1,n1,t2,y2,n2,g1,c1,_,h2,h3,h4,h5,h6⟩:=hpW;obtain⟨t3,y3,n3,t4,y4,n4,g2,c2,_,k2,k3,k4,k5,k6⟩:=hqW;have hin2:Ls.inL (Ls.wQu (Ls.wQ7 (Ls.dS a) (Ls.dS b))) x:=by
  have:Ls.dS (Ls.xQb a b)=Ls.wQ7 (Ls.dS a) (Ls.dS b):=by simp[Ls.xQb,Ls.dS]
  rw[this]at hin;exact hin
 obtain⟨u,v,rfl,hu,hv⟩:=(Ls.yQl _ _ _).1 hin2;rw[List.length_append]at hx;obtain⟨f1,s1,rfl,e1,H1⟩:=Turns.at hO h5;obtain⟨f2,s2,rfl,e2,H2⟩:=Turns.at hO k5;have hsa:=Ls.xQz a oa;have hsb:=Ls.xQz b ob;have hval:A9 (Ls.xQb a b) (u++v)=A9 a u++A9 b v:=by
  have hc:D3 (Ls.wQx a) (Ls.wQx b) (u++v)=u.length:=cQl (Ls.OkL.src _ oa).ok (Ls.OkL.src _ ob).ok (by rw[<-O1 (Ls.xQ5 a oa) (Ls.xQ5 b ob)];exact ht) ((Ls.xQ5 a oa u).1 hu) ((Ls.xQ5 b ob v).1 hv);simp[Ls.xQb,A9,hc]
 have hlen:=bQ1 hgx (J6 a u) (J6 b v) (by omega);have:=qQe u v _ _ hlen W p q bf br _ _ _ _ _ _ _ _ _ _ _ _ _ _ f1 f2 s1 s2 h2 k2 hfW hrW e1 e2
  (fun W' hW'=>bQo (G:=G) (fun k hk=>Nat.lt_of_lt_of_le (hO k hk) hW'.size) (by omega) (by omega) ht hu hv (by omega) (h3.below hO hW') (k3.below hO hW'))
  (fun W' hW'=>H1 W' hW' u (by omega) hu) (fun W' hW'=>H2 W' hW' v (by omega) hv)
 rw[hval];exact this
theorem wQd (a b:Ls.Ln)(oa:Ls.OkL 120 a)(ob:Ls.OkL 120 b)(h24:Ls.wQv a+Ls.wQv b<=24)(hgx:gx a+gx b<=1099511627776)(ht:¬Ls.wQ1 (Ls.wQu (Ls.dV a)) (Ls.wQu (Ls.dV b))){w:World}{G:Nat->Prop}{p q bf br:Nat}(hp:PartV w G p a)(hq:PartV w G q b)
  (hf:Blk w bf #[.pointer (some ⟨p,0,none⟩)] 72) (hr:Blk w br #[.pointer (some ⟨q,0,none⟩)] 72) (gf:G bf) (gr:G br) :
  Turns w G (.func (.func 145) #[] #[.pointer (some ⟨bf,0,none⟩),.pointer (some ⟨br,0,none⟩)]) (Ls.inL (Ls.wQu (Ls.dV (Ls.xQb a b)))) (C5 (Ls.xQb a b)):=by
 refine⟨_,_,rfl,fun _ _=>by kernel_rfl,fun W hW hO x hx hin=>?_⟩;have hpW:=hp.mono (G':=G) (fun _ h=>h) hW;have hqW:=hq.mono (G':=G) (fun _ h=>h) hW;have hfW:=hf.of (hW bf gf);have hrW:=hr.of (hW br gr);obtain⟨t1,y1,n1,t2,y2,n2,g1,c1,_,h2,h3,h4,h5,h6⟩:=hpW;obtain⟨t3,y3,n3,t4,y4,n4,g2,c2,_,k2,k3,k4,k5,k6⟩:=hqW;have hin2:Ls.inL (Ls.wQu (Ls.wQ7 (Ls.dV a) (Ls.dV b))) x:=by
  have:Ls.dV (Ls.xQb a b)=Ls.wQ7 (Ls.dV a) (Ls.dV b):=by simp[Ls.xQb,Ls.dV]
  rw[this]at hin;exact hin
 obtain⟨u,v,rfl,hu,hv⟩:=(Ls.yQl _ _ _).1 hin2;rw[List.length_append]at hx;obtain⟨f1,s1,rfl,e1,H1⟩:=Turns.at hO h6;obtain⟨f2,s2,rfl,e2,H2⟩:=Turns.at hO k6;have hsa:=Ls.xQy a oa;have hsb:=Ls.xQy b ob;have hval:C5 (Ls.xQb a b) (u++v)=C5 a u++C5 b v:=by
  have hc:D3 (Ls.wQw a) (Ls.wQw b) (u++v)=u.length:=cQl (Ls.OkL.view _ oa).ok (Ls.OkL.view _ ob).ok (by rw[<-O1 (Ls.yQb a oa) (Ls.yQb b ob)];exact ht) ((Ls.yQb a oa u).1 hu) ((Ls.yQb b ob v).1 hv);simp[Ls.xQb,C5,hc]
 have hlen:=bQ1 hgx (N0 a u) (N0 b v) (by omega);have:=nQe u v _ _ hlen W p q bf br _ _ _ _ _ _ _ _ _ _ _ _ _ _ f1 f2 s1 s2 h2 k2 hfW hrW e1 e2
  (fun W' hW'=>bQo (G:=G) (fun k hk=>Nat.lt_of_lt_of_le (hO k hk) hW'.size) (by omega) (by omega) ht hu hv (by omega) (h4.below hO hW') (k4.below hO hW'))
  (fun W' hW'=>H1 W' hW' u (by omega) hu) (fun W' hW'=>H2 W' hW' v (by omega) hv)
 rw[hval];exact this
theorem vQu (a b:Ls.Ln)(oa:Ls.OkL 120 a)(ob:Ls.OkL 120 b)(h24:Ls.wQv a+Ls.wQv b<=24)(hgx:gx a+gx b<=1099511627776)(ht:¬Ls.wQ1 (Ls.wQu (Ls.dS a)) (Ls.wQu (Ls.dS b))){w:World}{G:Nat->Prop}{p q bf br:Nat}(hp:PartV w G p a)(hq:PartV w G q b)
  (hf:Blk w bf #[.pointer (some ⟨p,0,none⟩)] 72) (hr:Blk w br #[.pointer (some ⟨q,0,none⟩)] 72) (gf:G bf) (gr:G br) :
  Turns w G (.func (.func 175) #[] #[.pointer (some ⟨bf,0,none⟩),.pointer (some ⟨br,0,none⟩)]) (Ls.inL (Ls.wQu (Ls.dS (Ls.wQ5 a b)))) (A9 (Ls.wQ5 a b)):=by
 refine⟨_,_,rfl,fun _ _=>by kernel_rfl,fun W hW hO x hx hin=>?_⟩;have hpW:=hp.mono (G':=G) (fun _ h=>h) hW;have hqW:=hq.mono (G':=G) (fun _ h=>h) hW;have hfW:=hf.of (hW bf gf);have hrW:=hr.of (hW br gr);obtain⟨t1,y1,n1,t2,y2,n2,g1,c1,_,h2,h3,h4,h5,h6⟩:=hpW;obtain⟨t3,y3,n3,t4,y4,n4,g2,c2,_,k2,k3,k4,k5,k6⟩:=hqW;have hin2:Ls.inL (Ls.wQu (Ls.wQ7 (Ls.dS a) (Ls.dS b))) x:=by
  have:Ls.dS (Ls.wQ5 a b)=Ls.wQ7 (Ls.dS a) (Ls.dS b):=by simp[Ls.wQ5,Ls.dS]
  rw[this]at hin;exact hin
 obtain⟨u,v,rfl,hu,hv⟩:=(Ls.yQl _ _ _).1 hin2;rw[List.length_append]at hx;obtain⟨f1,s1,rfl,e1,H1⟩:=Turns.at hO h5;obtain⟨f2,s2,rfl,e2,H2⟩:=Turns.at hO k5;have hsa:=Ls.xQz a oa;have hsb:=Ls.xQz b ob;have hval:A9 (Ls.wQ5 a b) (u++v)=A9 b v++A9 a u:=by
  have hc:D3 (Ls.wQx a) (Ls.wQx b) (u++v)=u.length:=cQl (Ls.OkL.src _ oa).ok (Ls.OkL.src _ ob).ok (by rw[<-O1 (Ls.xQ5 a oa) (Ls.xQ5 b ob)];exact ht) ((Ls.xQ5 a oa u).1 hu) ((Ls.xQ5 b ob v).1 hv);simp[Ls.wQ5,A9,hc]
 have hlen:=bQ1 (a:=b) (b:=a) (by omega) (J6 b v) (J6 a u) (by omega);have:=sQa u v _ _ hlen W p q bf br _ _ _ _ _ _ _ _ _ _ _ _ _ _ f1 f2 s1 s2 h2 k2 hfW hrW e1 e2
  (fun W' hW'=>bQo (G:=G) (fun k hk=>Nat.lt_of_lt_of_le (hO k hk) hW'.size) (by omega) (by omega) ht hu hv (by omega) (h3.below hO hW') (k3.below hO hW'))
  (fun W' hW'=>H2 W' hW' v (by omega) hv) (fun W' hW'=>H1 W' hW' u (by omega) hu)
 rw[hval];exact this
theorem jQs (a b:Ls.Ln)(oa:Ls.OkL 120 a)(ob:Ls.OkL 120 b)(h24:Ls.wQv a+Ls.wQv b<=24)(hgx:gx a+gx b<=1099511627776)(ht:¬Ls.wQ1 (Ls.wQu (Ls.dV b)) (Ls.wQu (Ls.dV a))){w:World}{G:Nat->Prop}{p q bf br:Nat}(hp:PartV w G p a)(hq:PartV w G q b)
  (hf:Blk w bf #[.pointer (some ⟨p,0,none⟩)] 72) (hr:Blk w br #[.pointer (some ⟨q,0,none⟩)] 72) (gf:G bf) (gr:G br) :
  Turns w G (.func (.func 176) #[] #[.pointer (some ⟨br,0,none⟩),.pointer (some ⟨bf,0,none⟩)]) (Ls.inL (Ls.wQu (Ls.dV (Ls.wQ5 a b)))) (C5 (Ls.wQ5 a b)):=by
 refine⟨_,_,rfl,fun _ _=>by kernel_rfl,fun W hW hO x hx hin=>?_⟩;have hpW:=hp.mono (G':=G) (fun _ h=>h) hW;have hqW:=hq.mono (G':=G) (fun _ h=>h) hW;have hfW:=hf.of (hW bf gf);have hrW:=hr.of (hW br gr);obtain⟨t1,y1,n1,t2,y2,n2,g1,c1,_,h2,h3,h4,h5,h6⟩:=hpW;obtain⟨t3,y3,n3,t4,y4,n4,g2,c2,_,k2,k3,k4,k5,k6⟩:=hqW;have hin2:Ls.inL (Ls.wQu (Ls.wQ7 (Ls.dV b) (Ls.dV a))) x:=by
  have:Ls.dV (Ls.wQ5 a b)=Ls.wQ7 (Ls.dV b) (Ls.dV a):=by simp[Ls.wQ5,Ls.dV]
  rw[this]at hin;exact hin
 obtain⟨u,v,rfl,hu,hv⟩:=(Ls.yQl _ _ _).1 hin2;rw[List.length_append]at hx;obtain⟨f1,s1,rfl,e1,H1⟩:=Turns.at hO h6;obtain⟨f2,s2,rfl,e2,H2⟩:=Turns.at hO k6;have hsa:=Ls.xQy a oa;have hsb:=Ls.xQy b ob;have hval:C5 (Ls.wQ5 a b) (u++v)=C5 a v++C5 b u:=by
  have hc:D3 (Ls.wQw b) (Ls.wQw a) (u++v)=u.length:=cQl (Ls.OkL.view _ ob).ok (Ls.OkL.view _ oa).ok (by rw[<-O1 (Ls.yQb b ob) (Ls.yQb a oa)];exact ht) ((Ls.yQb b ob u).1 hu) ((Ls.yQb a oa v).1 hv);simp[Ls.wQ5,C5,hc]
 have hlen:=bQ1 hgx (N0 a v) (N0 b u) (by omega);have:=pQs u v _ _ hlen W p q bf br _ _ _ _ _ _ _ _ _ _ _ _ _ _ f1 f2 s1 s2 h2 k2 hfW hrW e1 e2
  (fun W' hW'=>bQo (G:=G) (fun k hk=>Nat.lt_of_lt_of_le (hO k hk) hW'.size) (by omega) (by omega) ht hu hv (by omega) (k4.below hO hW') (h4.below hO hW'))
  (fun W' hW'=>H1 W' hW' v (by omega) hv) (fun W' hW'=>H2 W' hW' u (by omega) hu)
 rw[hval];exact this
theorem sQt (a b:Ls.Ln)(oa:Ls.OkL 120 a)(h24:Ls.wQv a+Ls.wQv b<=24){w:World}{G:Nat->Prop}{p q bf br:Nat}(hp:PartV w G p a)(hq:PartV w G q b)
  (hf:Blk w bf #[.pointer (some ⟨p,0,none⟩)] 72) (hr:Blk w br #[.pointer (some ⟨q,0,none⟩)] 72) (gf:G bf) (gr:G br) :
  Turns w G (.func (.func 129) #[] #[.pointer (some ⟨bf,0,none⟩),.pointer (some ⟨br,0,none⟩)]) (Ls.inL (Ls.wQu (Ls.dS (Ls.xQe a b)))) (A9 (Ls.xQe a b)):=by
 refine⟨_,_,rfl,fun _ _=>by kernel_rfl,fun W hW hO x hx hin=>?_⟩;have hpW:=hp.mono (G':=G) (fun _ h=>h) hW;have hqW:=hq.mono (G':=G) (fun _ h=>h) hW;have hfW:=hf.of (hW bf gf);have hrW:=hr.of (hW br gr);obtain⟨t1,y1,n1,t2,y2,n2,g1,c1,_,h2,h3,h4,h5,h6⟩:=hpW;obtain⟨t3,y3,n3,t4,y4,n4,g2,c2,_,k2,k3,k4,k5,k6⟩:=hqW;have hin2:Ls.inL (Ls.wQu (Ls.xQh (Ls.dS a) (Ls.dS b))) x:=by
  have:Ls.dS (Ls.xQe a b)=Ls.xQh (Ls.dS a) (Ls.dS b):=by simp[Ls.xQe,Ls.dS]
  rw[this]at hin;exact hin
 have hor:=(Ls.zQb _ _ _).1 hin2;obtain⟨f1,s1,rfl,e1,H1⟩:=Turns.at hO h5;obtain⟨f2,s2,rfl,e2,H2⟩:=Turns.at hO k5;have hsa:=Ls.xQz a oa;have hiff:Ls.is (Ls.wQx a) x=true↔Ls.inL (Ls.wQu (Ls.dS a)) x:=(Ls.zQx _ (Ls.OkL.src _ oa).ok x).trans (Ls.xQ5 a oa x).symm;have hv1:Ls.inL (Ls.wQu (Ls.dS a)) x->A9 (Ls.xQe a b) x=A9 a x:=fun h=>by simp[Ls.xQe,A9,hiff.2 h]
 have hv2:¬Ls.inL (Ls.wQu (Ls.dS a)) x->A9 (Ls.xQe a b) x=A9 b x:=fun h=>by
  have:¬Ls.is (Ls.wQx a) x=true:=fun e=>h (hiff.1 e);simp[Ls.xQe,A9,this]
 exact mQq x (A9 (Ls.xQe a b) x) (Ls.inL (Ls.wQu (Ls.dS a)) x) W p q bf br _ _ _ _ _ _ _ _ _ _ _ _ _ _ f1 f2 s1 s2 h2 k2 hfW hrW e1 e2
  (fun W' hW'=>cQs (G:=G) (fun k hk=>Nat.lt_of_lt_of_le (hO k hk) hW'.size) (h3.below hO hW') (by omega) ⟨x.toArray⟩ (by simp[ByteArray.size];omega))
  (fun h W' hW'=>by rw[hv1 h];exact H1 W' hW' x hx h) (fun h W' hW'=>by rw[hv2 h];exact H2 W' hW' x hx (hor.resolve_left h))
theorem mQi (a b:Ls.Ln)(oa:Ls.OkL 120 a)(h24:Ls.wQv a+Ls.wQv b<=24){w:World}{G:Nat->Prop}{p q bf br:Nat}(hp:PartV w G p a)(hq:PartV w G q b)
  (hf:Blk w bf #[.pointer (some ⟨p,0,none⟩)] 72) (hr:Blk w br #[.pointer (some ⟨q,0,none⟩)] 72) (gf:G bf) (gr:G br) :
  Turns w G (.func (.func 130) #[] #[.pointer (some ⟨bf,0,none⟩),.pointer (some ⟨br,0,none⟩)]) (Ls.inL (Ls.wQu (Ls.dV (Ls.xQe a b)))) (C5 (Ls.xQe a b)):=by
 refine⟨_,_,rfl,fun _ _=>by kernel_rfl,fun W hW hO x hx hin=>?_⟩;have hpW:=hp.mono (G':=G) (fun _ h=>h) hW;have hqW:=hq.mono (G':=G) (fun _ h=>h) hW;have hfW:=hf.of (hW bf gf);have hrW:=hr.of (hW br gr);obtain⟨t1,y1,n1,t2,y2,n2,g1,c1,_,h2,h3,h4,h5,h6⟩:=hpW;obtain⟨t3,y3,n3,t4,y4,n4,g2,c2,_,k2,k3,k4,k5,k6⟩:=hqW;have hin2:Ls.inL (Ls.wQu (Ls.xQh (Ls.dV a) (Ls.dV b))) x:=by
  have:Ls.dV (Ls.xQe a b)=Ls.xQh (Ls.dV a) (Ls.dV b):=by simp[Ls.xQe,Ls.dV]
  rw[this]at hin;exact hin
 have hor:=(Ls.zQb _ _ _).1 hin2;obtain⟨f1,s1,rfl,e1,H1⟩:=Turns.at hO h6;obtain⟨f2,s2,rfl,e2,H2⟩:=Turns.at hO k6;have hsa:=Ls.xQy a oa;have hiff:Ls.is (Ls.wQw a) x=true↔Ls.inL (Ls.wQu (Ls.dV a)) x:=(Ls.zQx _ (Ls.OkL.view _ oa).ok x).trans (Ls.yQb a oa x).symm;have hv1:Ls.inL (Ls.wQu (Ls.dV a)) x->C5 (Ls.xQe a b) x=C5 a x:=fun h=>by simp[Ls.xQe,C5,hiff.2 h]
 have hv2:¬Ls.inL (Ls.wQu (Ls.dV a)) x->C5 (Ls.xQe a b) x=C5 b x:=fun h=>by
  have:¬Ls.is (Ls.wQw a) x=true:=fun e=>h (hiff.1 e);simp[Ls.xQe,C5,this]
 exact mQh x (C5 (Ls.xQe a b) x) (Ls.inL (Ls.wQu (Ls.dV a)) x) W p q bf br _ _ _ _ _ _ _ _ _ _ _ _ _ _ f1 f2 s1 s2 h2 k2 hfW hrW e1 e2
  (fun W' hW'=>fQa (G:=G) (fun k hk=>Nat.lt_of_lt_of_le (hO k hk) hW'.size) (h4.below hO hW') (by omega) ⟨x.toArray⟩ (by simp[ByteArray.size];omega))
  (fun h W' hW'=>by rw[hv1 h];exact H1 W' hW' x hx h) (fun h W' hW'=>by rw[hv2 h];exact H2 W' hW' x hx (hor.resolve_left h))
theorem sQ4 (a l:Ls.Ln)(k:Nat)(e:Ls.D)(ws:List UInt8)(hl:l=⟨k,e,ws,[a]⟩)(oa:Ls.OkL 120 a)(h24:Ls.wQv a<=24)(hgx:gx l<=1099511627776)(h0:¬Ls.inL (Ls.wQu (Ls.dS a)) [])(ht:¬Ls.wQ1 (Ls.wQu (Ls.dS a)) (Ls.wQu (Ls.rep 5 (Ls.dS a)))){w:World}{G:Nat->Prop}{p bf br:Nat}{t3:TypeId}{y3 x1 x2:Value}{n3:Nat}(hp:PartV w G p a)(hall:Tx w G (.iface t3 y3) n3 (Ls.rep 5 (Ls.dS a)))
  (hf:Blk w bf #[.pointer (some ⟨p,0,none⟩)] 72) (hr:Blk w br #[.iface t3 y3,.pointer (some ⟨n3,0,none⟩),x1,x2] 88) (gf:G bf) (gr:G br) :
  Turns w G (.func (.func 178) #[] #[.pointer (some ⟨bf,0,none⟩),.pointer (some ⟨br,0,none⟩)]) (Ls.inL (Ls.wQu (Ls.dS l))) (A9 l):=by
 refine⟨_,_,rfl,fun _ _=>by kernel_rfl,fun W hW hO x hx hin=>?_⟩;have hpW:=hp.mono (G':=G) (fun _ h=>h) hW;have haW:=hall.mono (G':=G) (fun _ h=>h) hW;have hfW:=hf.of (hW bf gf);have hrW:=hr.of (hW br gr);obtain⟨t1,y1,n1,t2,y2,n2,g1,c1,_,h2,h3,h4,h5,h6⟩:=hpW;have hin2:Ls.inL (Ls.wQu (Ls.rep 5 (Ls.dS a))) x:=by
  have:Ls.dS l=Ls.rep 5 (Ls.dS a):=by rw[hl,Ls.dS]
  rw[this]at hin;exact hin
 obtain⟨ps,rfl,hps⟩:=(Ls.yQf _ _).1 hin2;obtain⟨f1,s1,rfl,e1,H1⟩:=Turns.at hO h5;have hsa:=Ls.xQz a oa;have hst:∀s,Ls.inL (Ls.wQu (Ls.rep 5 (Ls.dS a))) s↔Ls.inL (Ls.wQ9 (Ls.wQx a)) s:=fun s=>by
  rw[Ls.yQf,Ls.xQt];exact Ls.yQd (Ls.xQ5 a oa) s
 have hval:A9 l ps.flatten=(ps.map (A9 a)).flatten:=by
  have hb:=Ls.OkL.src _ oa;rw[hl,A9,cQu hb.ok (Ls.zQo hb).ok (fun h=>h0 ((Ls.xQ5 a oa _).2 h)) (by rw[<-O1 (Ls.xQ5 a oa) hst];exact ht) ps (fun y hy=>(Ls.xQ5 a oa y).1 (hps y hy)) _ (Nat.le_refl _)]
 have hlen:((ps.map (A9 a)).flatten).length<=70368744177664:=by
  rw[<-hval];have h1:=J6 l ps.flatten;have h2:(ps.flatten.length+1)*gx l<=61*gx l:=Nat.mul_le_mul_right _ (by omega);omega
 have hpl:∀y,y∈ps->y.length<=60:=fun y hy=>by
  have:=(List.sublist_flatten_of_mem hy).length_le;omega
 have hcnt:ps.length<=1048576:=by
  have hq:∀qs:List (List UInt8),(∀y,y∈qs->Ls.inL (Ls.wQu (Ls.dS a)) y)->qs.length<=qs.flatten.length:=by
   intro qs;induction qs with
   | nil=>simp
   | cons q qs ih=>
    intro h;have h1:0<q.length:=List.length_pos_iff.2 (fun e=>h0 (by have:=h q (List.mem_cons_self ..);rw[e]at this;exact this));have h2:=ih (fun y hy=>h y (List.mem_cons_of_mem _ hy));rw[List.flatten_cons,List.length_append,List.length_cons];omega
  have:=hq ps hps;omega
 rw[hval];exact vQ4 ps.flatten _ (fun W' v1 v2 v3=>∃base,W'.ownsRow base 9 1 (.slice v1 v2 v3) ps.length (ps.map A6)) W p bf br _ _ _ _ _ _ _ _ _ _ _ _ f1 s1 h2 hfW hrW
  (fun W' hW'=>(gQl (G:=G) (fun k hk=>Nat.lt_of_lt_of_le (hO k hk) hW'.size) (by omega) h0 ht hps (by omega) (h3.below hO hW') (haW.below hO hW')).mono (fun e w' ⟨v1,v2,v3,he,ho,hb⟩=>⟨v1,v2,v3,he,⟨_,ho⟩,hb⟩))
  (fun W' v1 v2 v3 hW' ⟨base,ho⟩=>gQf ps hcnt (A9 a) hlen f1 s1 _ W' base ho e1 (fun W2 j hj hW2=>H1 W2 (Below.join hW' hW2) ps[j] (hpl _ (List.getElem_mem _)) (hps _ (List.getElem_mem _))))
theorem wQj (a l:Ls.Ln)(k:Nat)(e:Ls.D)(ws:List UInt8)(hl:l=⟨k,e,ws,[a]⟩)(oa:Ls.OkL 120 a)(h24:Ls.wQv a<=24)(hgx:gx l<=1099511627776)(h0:¬Ls.inL (Ls.wQu (Ls.dV a)) [])(ht:¬Ls.wQ1 (Ls.wQu (Ls.dV a)) (Ls.wQu (Ls.rep 5 (Ls.dV a)))){w:World}{G:Nat->Prop}{p bf br:Nat}{t3:TypeId}{y3 x1 x2:Value}{n3:Nat}(hp:PartV w G p a)(hall:Tx w G (.iface t3 y3) n3 (Ls.rep 5 (Ls.dV a)))
  (hf:Blk w bf #[.pointer (some ⟨p,0,none⟩)] 72) (hr:Blk w br #[x1,x2,.iface t3 y3,.pointer (some ⟨n3,0,none⟩)] 88) (gf:G bf) (gr:G br) :
  Turns w G (.func (.func 181) #[] #[.pointer (some ⟨bf,0,none⟩),.pointer (some ⟨br,0,none⟩)]) (Ls.inL (Ls.wQu (Ls.dV l))) (C5 l):=by
 refine⟨_,_,rfl,fun _ _=>by kernel_rfl,fun W hW hO x hx hin=>?_⟩;have hpW:=hp.mono (G':=G) (fun _ h=>h) hW;have haW:=hall.mono (G':=G) (fun _ h=>h) hW;have hfW:=hf.of (hW bf gf);have hrW:=hr.of (hW br gr);obtain⟨t1,y1,n1,t2,y2,n2,g1,c1,_,h2,h3,h4,h5,h6⟩:=hpW;have hin2:Ls.inL (Ls.wQu (Ls.rep 5 (Ls.dV a))) x:=by
  have:Ls.dV l=Ls.rep 5 (Ls.dV a):=by rw[hl,Ls.dV]
  rw[this]at hin;exact hin
 obtain⟨ps,rfl,hps⟩:=(Ls.yQf _ _).1 hin2;obtain⟨f1,s1,rfl,e1,H1⟩:=Turns.at hO h6;have hsa:=Ls.xQy a oa;have hst:∀s,Ls.inL (Ls.wQu (Ls.rep 5 (Ls.dV a))) s↔Ls.inL (Ls.wQ9 (Ls.wQw a)) s:=fun s=>by
  rw[Ls.yQf,Ls.xQt];exact Ls.yQd (Ls.yQb a oa) s
 have hval:C5 l ps.flatten=(ps.map (C5 a)).flatten:=by
  have hb:=Ls.OkL.view _ oa;rw[hl,C5,cQu hb.ok (Ls.zQo hb).ok (fun h=>h0 ((Ls.yQb a oa _).2 h)) (by rw[<-O1 (Ls.yQb a oa) hst];exact ht) ps (fun y hy=>(Ls.yQb a oa y).1 (hps y hy)) _ (Nat.le_refl _)]
 have hlen:((ps.map (C5 a)).flatten).length<=70368744177664:=by
  rw[<-hval];have h1:=N0 l ps.flatten;have h2:(ps.flatten.length+1)*gx l<=61*gx l:=Nat.mul_le_mul_right _ (by omega);omega
 have hpl:∀y,y∈ps->y.length<=60:=fun y hy=>by
  have:=(List.sublist_flatten_of_mem hy).length_le;omega
 have hcnt:ps.length<=1048576:=by
  have hq:∀qs:List (List UInt8),(∀y,y∈qs->Ls.inL (Ls.wQu (Ls.dV a)) y)->qs.length<=qs.flatten.length:=by
   intro qs;induction qs with
   | nil=>simp
   | cons q qs ih=>
    intro h;have h1:0<q.length:=List.length_pos_iff.2 (fun e=>h0 (by have:=h q (List.mem_cons_self ..);rw[e]at this;exact this));have h2:=ih (fun y hy=>h y (List.mem_cons_of_mem _ hy));rw[List.flatten_cons,List.length_append,List.length_cons];omega
  have:=hq ps hps;omega
 rw[hval];exact oQq ps.flatten _ (fun W' v1 v2 v3=>∃base,W'.ownsRow base 9 1 (.slice v1 v2 v3) ps.length (ps.map A6)) W p bf br _ _ _ _ _ _ _ _ _ _ _ _ f1 s1 h2 hfW hrW
  (fun W' hW'=>(gQl (G:=G) (fun k hk=>Nat.lt_of_lt_of_le (hO k hk) hW'.size) (by omega) h0 ht hps (by omega) (h4.below hO hW') (haW.below hO hW')).mono (fun e w' ⟨v1,v2,v3,he,ho,hb⟩=>⟨v1,v2,v3,he,⟨_,ho⟩,hb⟩))
  (fun W' v1 v2 v3 hW' ⟨base,ho⟩=>gQf ps hcnt (C5 a) hlen f1 s1 _ W' base ho e1 (fun W2 j hj hW2=>H1 W2 (Below.join hW' hW2) ps[j] (hpl _ (List.getElem_mem _)) (hps _ (List.getElem_mem _))))
theorem jQi (x:List UInt8)(hx:x.length<=140737488355328)(w:World):Calls Tryz.prog 48 #[A6 x] w fun e w'=>e=.returned (A6 x)/\Below w.heap.size w w':=by
 have hC:=Tryz.stringslite_Clone ⟨x.toArray⟩ w (by simp[ByteArray.size];omega);go_enter Tryz.func48,Tryz.ntmps48;go_wp2_with fail;refine hC.mono ?_;rintro e w1 ⟨rfl,hb1⟩;clear hC;go_wp2_with fail;go_ret;exact⟨rfl,hb1⟩
theorem gQk (s:ByteArray)(w:World)(L p:Nat)(h:Blk w L #[.pointer (some ⟨p,0,none⟩)] 79) :
  Calls Tryz.prog 42 #[.pointer (some ⟨L,0,none⟩),.string s] w fun e w'=>e=.returned (.bool (decide (s.size<=60)))/\w'=w:=by
 obtain⟨c0,c1⟩:=h.one;clear h
 by_cases hs:s.size<=60
 ·have h2:(s.size:Int)<=60:=by omega
  rw[decide_eq_true hs];go_enter Tryz.func42,Tryz.ntmps42;go_wp2_with fail;go_ret;exact⟨rfl,rfl⟩
 ·have h2:¬(s.size:Int)<=60:=by omega
  rw[decide_eq_false hs];go_enter Tryz.func42,Tryz.ntmps42;go_wp2_with fail;go_ret;exact⟨rfl,rfl⟩
structure LensV (w:World)(G:Nat->Prop)(L p:Nat)(l:Ls.Ln):Prop where
 blk:Blk w L #[.pointer (some ⟨p,0,none⟩)] 79
 part:PartV w G p l
 old:Old w G
 ok:Ls.OkL 120 l
 size:Ls.wQv l<=24
 few:cn l<=30000
theorem LensV.below {w w':World}{G:Nat->Prop}{L p:Nat}{l:Ls.Ln}(h:LensV w G L p l)(hb:Below w.heap.size w w'):LensV w' G L p l:=⟨h.blk.below hb h.blk.lt,h.part.below h.old hb,fun k hk=>Nat.lt_of_lt_of_le (h.old k hk) hb.size,h.ok,h.size,h.few⟩
def aQ1 (s:ByteArray)(w:World):Ending->World->Prop:=fun e w'=>
 ∃(v:Option Addr) (r:Nat),e=.returned (.tuple #[.pointer v,.int .i64 r])/\CompIs s.data.toList r/\r<=4/\(v.isSome=true↔r=0)/\Below w.heap.size w w'/\
  (r=0->∃l L p,v=some ⟨L,0,none⟩/\F9 s.data.toList=some l/\Ls.OkL 120 l/\cn l<=30000/\Ls.wQv l<=24/\w.heap.size<=L/\Blk w' L #[.pointer (some ⟨p,0,none⟩)] 79/\PartV w' (B6 w w') p l)
theorem rQ1 (s:ByteArray):(⟨s.data.toList.toArray⟩:ByteArray)=s:=by
 apply ByteArray.ext
 simp
theorem fQc (s:ByteArray)(hs:s.size<=1048576)(w:World)(G:Nat->Prop)(L p:Nat)(l:Ls.Ln)(h:LensV w G L p l) :
  Calls Tryz.prog 17 #[.pointer (some ⟨L,0,none⟩),.string s] w fun e w'=>e=.returned (.bool (C9 (Ls.wQx l) s.data.toList))/\Below w.heap.size w w':=by
 have hT:=gQk s w L p h.blk;have hlen:s.data.toList.length=s.size:=by simp
 obtain⟨t1,y1,n1,t2,y2,n2,g,c,_,h2,h3,h4,_,_⟩:=h.part;have hsz:=Ls.xQz l h.ok;have h24:=h.size;have hI:=cQs (t1:=t1) (y1:=y1) (n1:=n1) (t2:=t2) (y2:=y2) (n2:=n2) h.old h3 (by omega) s hs;have HE:Hid (∀b:Bool,(b=true↔Ls.inL (Ls.wQu (Ls.dS l)) s.data.toList)->s.size<=60->C9 (Ls.wQx l) s.data.toList=b):=fun b hb h60=>by
  have hi:Ls.is (Ls.wQx l) s.data.toList=b:=by
   rw[Bool.eq_iff_iff,hb,Ls.zQx _ (Ls.OkL.src _ h.ok).ok,Ls.xQ5 l h.ok]
  unfold C9;rw[hi,hlen,decide_eq_true h60,Bool.and_true]
 have HN:Hid (¬s.size<=60->C9 (Ls.wQx l) s.data.toList=false):=fun h60=>by
  unfold C9;rw[hlen,decide_eq_false h60,Bool.and_false]
 obtain⟨c0,c1⟩:=h.blk.one;obtain⟨a0,a1,a2,a3,_,_⟩:=h2.six;clear h h2 h3 h4;generalize C9 (Ls.wQx l) s.data.toList=v at *
 by_cases h60:s.size<=60
 ·rw[decide_eq_true h60]at hT
  go_enter Tryz.func17,Tryz.ntmps17;go_wp2_with fail;refine hT.mono ?_;rintro e w1 ⟨rfl,hw⟩;have hw2:=hw.symm;clear hw hT;subst hw2;go_wp2_with fail;refine hI.mono ?_;clear hI;rintro e w2 ⟨b,rfl,hb,hb2⟩;have HV:Hid (v=b):=HE.out b hb h60;clear hb;go_wp2_with fail;go_ret;exact⟨by rw[HV.out];rfl,hb2⟩
 ·rw[decide_eq_false h60]at hT
  have HV:Hid (v=false):=HN.out h60;go_enter Tryz.func17,Tryz.ntmps17;go_wp2_with fail;refine hT.mono ?_;rintro e w1 ⟨rfl,hw⟩;have hw2:=hw.symm;clear hw hT;subst hw2;go_wp2_with fail;go_ret;exact⟨by rw[HV.out];rfl,Below.refl _ _⟩
theorem jQj (s:ByteArray)(hs:s.size<=1048576)(w:World)(G:Nat->Prop)(L p:Nat)(l:Ls.Ln)(h:LensV w G L p l) :
  Calls Tryz.prog 19 #[.pointer (some ⟨L,0,none⟩),.string s] w fun e w'=>e=.returned (.bool (C9 (Ls.wQw l) s.data.toList))/\Below w.heap.size w w':=by
 have hT:=gQk s w L p h.blk;have hlen:s.data.toList.length=s.size:=by simp
 obtain⟨t1,y1,n1,t2,y2,n2,g,c,_,h2,h3,h4,_,_⟩:=h.part;have hsz:=Ls.xQy l h.ok;have h24:=h.size;have hI:=fQa (t1:=t1) (y1:=y1) (n1:=n1) (t2:=t2) (y2:=y2) (n2:=n2) h.old h4 (by omega) s hs;have HE:Hid (∀b:Bool,(b=true↔Ls.inL (Ls.wQu (Ls.dV l)) s.data.toList)->s.size<=60->C9 (Ls.wQw l) s.data.toList=b):=fun b hb h60=>by
  have hi:Ls.is (Ls.wQw l) s.data.toList=b:=by
   rw[Bool.eq_iff_iff,hb,Ls.zQx _ (Ls.OkL.view _ h.ok).ok,Ls.yQb l h.ok]
  unfold C9;rw[hi,hlen,decide_eq_true h60,Bool.and_true]
 have HN:Hid (¬s.size<=60->C9 (Ls.wQw l) s.data.toList=false):=fun h60=>by
  unfold C9;rw[hlen,decide_eq_false h60,Bool.and_false]
 obtain⟨c0,c1⟩:=h.blk.one;obtain⟨a0,a1,a2,a3,_,_⟩:=h2.six;clear h h2 h3 h4;generalize C9 (Ls.wQw l) s.data.toList=v at *
 by_cases h60:s.size<=60
 ·rw[decide_eq_true h60]at hT
  go_enter Tryz.func19,Tryz.ntmps19;go_wp2_with fail;refine hT.mono ?_;rintro e w1 ⟨rfl,hw⟩;have hw2:=hw.symm;clear hw hT;subst hw2;go_wp2_with fail;refine hI.mono ?_;clear hI;rintro e w2 ⟨b,rfl,hb,hb2⟩;have HV:Hid (v=b):=HE.out b hb h60;clear hb;go_wp2_with fail;go_ret;exact⟨by rw[HV.out];rfl,hb2⟩
 ·rw[decide_eq_false h60]at hT
  have HV:Hid (v=false):=HN.out h60;go_enter Tryz.func19,Tryz.ntmps19;go_wp2_with fail;refine hT.mono ?_;rintro e w1 ⟨rfl,hw⟩;have hw2:=hw.symm;clear hw hT;subst hw2;go_wp2_with fail;go_ret;exact⟨by rw[HV.out];rfl,Below.refl _ _⟩
theorem sQq (s:ByteArray)(hs:s.size<=1048576)(w:World)(G:Nat->Prop)(L p:Nat)(l:Ls.Ln)(h:LensV w G L p l) :
  Calls Tryz.prog 21 #[.pointer (some ⟨L,0,none⟩),.string s] w fun e w'=>e=.returned (if C9 (Ls.wQx l) s.data.toList=true then .tuple #[A6 (A9 l s.data.toList),.int .i64 0] else .tuple #[.string ⟨#[]⟩,.int .i64 5])/\Below w.heap.size w w':=by
 have hI:=fQc s hs w G L p l h;have hlen:s.data.toList.length=s.size:=by simp
 obtain⟨t1,y1,n1,t2,y2,n2,g,c,_,h2,h3,h4,h5,h6⟩:=h.part;have HIN:Hid (C9 (Ls.wQx l) s.data.toList=true->s.data.toList.length<=60/\Ls.inL (Ls.wQu (Ls.dS l)) s.data.toList):=fun ho=>by
  unfold C9 at ho;rw[Bool.and_eq_true,decide_eq_true_eq]at ho;exact⟨ho.2,(Ls.xQ5 l h.ok _).2 ((Ls.zQx _ (Ls.OkL.src _ h.ok).ok _).1 ho.1)⟩
 have hgx:=cQa h.ok h.size (by have:=h.few;omega);obtain⟨f,caps,rfl,hcf,hF⟩:=Turns.at h.old h5;have HF:Hid (∀W,Below w.heap.size w W->C9 (Ls.wQx l) s.data.toList=true->Calls Tryz.prog f (#[.string s]++caps) W fun e w'=>e=.returned (A6 (A9 l s.data.toList))/\Below W.heap.size W w'):=fun W hW ho=>by
  have:=hF W hW s.data.toList (HIN.out ho).1 (HIN.out ho).2;unfold A6 at this;rw[rQ1]at this;exact this
 have HL:Hid (C9 (Ls.wQx l) s.data.toList=true->(A9 l s.data.toList).length<=140737488355328):=fun ho=>by
  have h1:=J6 l s.data.toList;have h2:(s.data.toList.length+1)*gx l<=61*gx l:=Nat.mul_le_mul_right _ (by have:=(HIN.out ho).1;omega);omega
 have HS:Hid (∀W:World,Below w.heap.size w W->W.cell? ⟨L,0,none⟩=some (.pointer (some ⟨p,0,none⟩))/\W.cell? ⟨p,4,none⟩=some (.func (.func f) #[] caps)):=fun W hW=>⟨(h.blk.below hW h.blk.lt).cell 0,(h2.below hW h2.lt).cell 4⟩;clear h h2 h3 h4 h5 h6 hF hgx;generalize A9 l s.data.toList=r at *;generalize C9 (Ls.wQx l) s.data.toList=v at *;cases v with
 | false=>
  go_enter Tryz.func21,Tryz.ntmps21;go_wp2_with fail;refine hI.mono ?_;clear hI;rintro e w1 ⟨rfl,hb1⟩;go_wp2_with fail;go_ret2;exact⟨rfl,hb1⟩
 | true=>
  have HC:=HL.out rfl;have HF2:Hid (∀W,Below w.heap.size w W->Calls Tryz.prog f (#[.string s]++caps) W fun e w'=>e=.returned (A6 r)/\Below W.heap.size W w'):=fun W hW=>HF.out W hW rfl;clear HF HL HIN;go_enter Tryz.func21,Tryz.ntmps21;go_wp2_with fail;refine hI.mono ?_;clear hI;rintro e w1 ⟨rfl,hb1⟩;obtain⟨c0,c1⟩:=HS.out w1 hb1;have hG:=HF2.out w1 hb1;go_wp2_with fail;refine hG.mono ?_;clear hG;rintro e w2 ⟨rfl,hb2⟩;go_wp2_with fail;refine(jQi r HC w2).mono ?_;rintro e w3 ⟨rfl,hb3⟩;go_wp2_with fail;go_ret2;exact⟨rfl,Below.join hb1 (Below.join hb2 hb3)⟩
end Go.Proofs.YtcggfnlejalppaaGreatDoor
