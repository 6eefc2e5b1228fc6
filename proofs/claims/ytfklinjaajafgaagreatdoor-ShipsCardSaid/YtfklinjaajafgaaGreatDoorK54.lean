import Derived.Test.YtfklinjaajafgaaGreatDoorK51
import Derived.Test.YtfklinjaajafgaaGreatDoorK53
import Derived.Test.YtfklinjaajafgaaGreatDoorK50
import Derived.Test.YtfklinjaajafgaaGreatDoorK03
set_option maxRecDepth 100000
set_option maxHeartbeats 4000000
namespace Go.Proofs.YtfklinjaajafgaaGreatDoor
open Go.RowKit
theorem tQy (x Z:List UInt8)(A:Prop)(w:World)(p q bf br:Nat)(t1 t2 r1 r2:TypeId)(y1 y2 z1 z2:Value)(n1 n2 m1 m2:Nat)(c1 c2 d1 d2:Value)(f1 f2:Nat)(k1 k2:Array Value)
  (hp:Blk w p (I3 t1 y1 n1 r1 z1 m1 (.func (.func f1) #[] k1) c1 d1) 98) (hq:Blk w q (I3 t2 y2 n2 r2 z2 m2 (.func (.func f2) #[] k2) c2 d2) 98) (hf:Blk w bf #[.pointer (some ⟨p,0,none⟩)] 78) (hr:Blk w br #[.pointer (some ⟨q,0,none⟩)] 78)
  (hcf1:∀(x:Value) (W:World),(callFunc f1 (#[x]++k1)).run Tryz.prog W=.ok (.enter f1 (#[x]++k1)) W) (hcf2:∀(x:Value) (W:World),(callFunc f2 (#[x]++k2)).run Tryz.prog W=.ok (.enter f2 (#[x]++k2)) W)
  (HI:∀W,Below w.heap.size w W->Calls Tryz.prog 49 #[.agg #[.iface t1 y1,.pointer (some ⟨n1,0,none⟩),.iface r1 z1,.pointer (some ⟨m1,0,none⟩)],A4 x] W fun e w'=>∃b:Bool,e=.returned (.bool b)/\(b=true↔A)/\Below W.heap.size W w')
  (H1:A->∀W,Below w.heap.size w W->Calls Tryz.prog f1 (#[A4 x]++k1) W fun e w'=>e=.returned (A4 Z)/\Below W.heap.size W w')
  (H2:¬A->∀W,Below w.heap.size w W->Calls Tryz.prog f2 (#[A4 x]++k2) W fun e w'=>e=.returned (A4 Z)/\Below W.heap.size W w') :
  Calls Tryz.prog 136 #[A4 x,.pointer (some ⟨bf,0,none⟩),.pointer (some ⟨br,0,none⟩)] w fun e w'=>e=.returned (A4 Z)/\Below w.heap.size w w':=by
 have HS:Hid (∀W:World,Below w.heap.size w W->(W.cell? ⟨p,0,none⟩=some (.iface t1 y1)/\W.cell? ⟨p,1,none⟩=some (.pointer (some ⟨n1,0,none⟩))/\W.cell? ⟨p,2,none⟩=some (.iface r1 z1)/\W.cell? ⟨p,3,none⟩=some (.pointer (some ⟨m1,0,none⟩))/\W.cell? ⟨p,4,none⟩=some (.func (.func f1) #[] k1))/\W.cell? ⟨q,4,none⟩=some (.func (.func f2) #[] k2)/\W.cell? ⟨bf,0,none⟩=some (.pointer (some ⟨p,0,none⟩))/\W.cell? ⟨br,0,none⟩=some (.pointer (some ⟨q,0,none⟩))):=fun W hW=>by
  obtain⟨a0,a1,a2,a3,a4,_,_⟩:=(hp.below hW hp.lt).seven;obtain⟨_,_,_,_,b4,_,_⟩:=(hq.below hW hq.lt).seven;exact⟨⟨a0,a1,a2,a3,a4⟩,b4,(hf.below hW hf.lt).cell 0,(hr.below hW hr.lt).cell 0⟩
 have hI:=HI w (Below.refl _ _);have H1':Hid (A->∀W,Below w.heap.size w W->Calls Tryz.prog f1 (#[A4 x]++k1) W fun e w'=>e=.returned (A4 Z)/\Below W.heap.size W w'):=H1;have H2':Hid (¬A->∀W,Below w.heap.size w W->Calls Tryz.prog f2 (#[A4 x]++k2) W fun e w'=>e=.returned (A4 Z)/\Below W.heap.size W w'):=H2;obtain⟨⟨a0,a1,a2,a3,a4⟩,b4,e0,e1⟩:=HS.out w (Below.refl _ _);clear hp hq hf hr HI H1 H2;go_enter Tryz.func136,Tryz.ntmps136;go_wp2_with fail;refine hI.mono ?_;clear hI;rintro e w2 ⟨b,rfl,hbe,hb2⟩;have HE:Hid (b=true↔A):=hbe;obtain⟨⟨a0,a1,a2,a3,a4⟩,b4,e0,e1⟩:=HS.out w2 hb2;clear hbe;cases b with
 | true=>
  have hC:=H1'.out (HE.out.1 rfl) w2 hb2;clear HE;go_wp2_with fail;refine hC.mono ?_;clear hC;rintro e w3 ⟨rfl,hb3⟩;go_wp2_with fail;go_ret;exact⟨rfl,Below.join hb2 hb3⟩
 | false=>
  have hC:=H2'.out (fun h=>(by have:=HE.out.2 h;cases this)) w2 hb2;clear HE;go_wp2_with fail;refine hC.mono ?_;clear hC;rintro e w3 ⟨rfl,hb3⟩;go_wp2_with fail;go_ret;exact⟨rfl,Below.join hb2 hb3⟩
theorem sQh (x Z:List UInt8)(A:Prop)(w:World)(p q bf br:Nat)(t1 t2 r1 r2:TypeId)(y1 y2 z1 z2:Value)(n1 n2 m1 m2:Nat)(c1 c2 d1 d2:Value)(f1 f2:Nat)(k1 k2:Array Value)
  (hp:Blk w p (I3 r1 z1 m1 t1 y1 n1 c1 (.func (.func f1) #[] k1) d1) 98) (hq:Blk w q (I3 r2 z2 m2 t2 y2 n2 c2 (.func (.func f2) #[] k2) d2) 98) (hf:Blk w bf #[.pointer (some ⟨p,0,none⟩)] 78) (hr:Blk w br #[.pointer (some ⟨q,0,none⟩)] 78)
  (hcf1:∀(x:Value) (W:World),(callFunc f1 (#[x]++k1)).run Tryz.prog W=.ok (.enter f1 (#[x]++k1)) W) (hcf2:∀(x:Value) (W:World),(callFunc f2 (#[x]++k2)).run Tryz.prog W=.ok (.enter f2 (#[x]++k2)) W)
  (HI:∀W,Below w.heap.size w W->Calls Tryz.prog 52 #[.agg #[.iface r1 z1,.pointer (some ⟨m1,0,none⟩),.iface t1 y1,.pointer (some ⟨n1,0,none⟩)],A4 x] W fun e w'=>∃b:Bool,e=.returned (.bool b)/\(b=true↔A)/\Below W.heap.size W w')
  (H1:A->∀W,Below w.heap.size w W->Calls Tryz.prog f1 (#[A4 x]++k1) W fun e w'=>e=.returned (A4 Z)/\Below W.heap.size W w')
  (H2:¬A->∀W,Below w.heap.size w W->Calls Tryz.prog f2 (#[A4 x]++k2) W fun e w'=>e=.returned (A4 Z)/\Below W.heap.size W w') :
  Calls Tryz.prog 137 #[A4 x,.pointer (some ⟨bf,0,none⟩),.pointer (some ⟨br,0,none⟩)] w fun e w'=>e=.returned (A4 Z)/\Below w.heap.size w w':=by
 have HS:Hid (∀W:World,Below w.heap.size w W->(W.cell? ⟨p,0,none⟩=some (.iface r1 z1)/\W.cell? ⟨p,1,none⟩=some (.pointer (some ⟨m1,0,none⟩))/\W.cell? ⟨p,2,none⟩=some (.iface t1 y1)/\W.cell? ⟨p,3,none⟩=some (.pointer (some ⟨n1,0,none⟩))/\W.cell? ⟨p,5,none⟩=some (.func (.func f1) #[] k1))/\W.cell? ⟨q,5,none⟩=some (.func (.func f2) #[] k2)/\W.cell? ⟨bf,0,none⟩=some (.pointer (some ⟨p,0,none⟩))/\W.cell? ⟨br,0,none⟩=some (.pointer (some ⟨q,0,none⟩))):=fun W hW=>by
  obtain⟨a0,a1,a2,a3,_,a4,_⟩:=(hp.below hW hp.lt).seven;obtain⟨_,_,_,_,_,b4,_⟩:=(hq.below hW hq.lt).seven;exact⟨⟨a0,a1,a2,a3,a4⟩,b4,(hf.below hW hf.lt).cell 0,(hr.below hW hr.lt).cell 0⟩
 have hI:=HI w (Below.refl _ _);have H1':Hid (A->∀W,Below w.heap.size w W->Calls Tryz.prog f1 (#[A4 x]++k1) W fun e w'=>e=.returned (A4 Z)/\Below W.heap.size W w'):=H1;have H2':Hid (¬A->∀W,Below w.heap.size w W->Calls Tryz.prog f2 (#[A4 x]++k2) W fun e w'=>e=.returned (A4 Z)/\Below W.heap.size W w'):=H2;obtain⟨⟨a0,a1,a2,a3,a4⟩,b4,e0,e1⟩:=HS.out w (Below.refl _ _);clear hp hq hf hr HI H1 H2;go_enter Tryz.func137,Tryz.ntmps137;go_wp2_with fail;refine hI.mono ?_;clear hI;rintro e w2 ⟨b,rfl,hbe,hb2⟩;have HE:Hid (b=true↔A):=hbe;obtain⟨⟨a0,a1,a2,a3,a4⟩,b4,e0,e1⟩:=HS.out w2 hb2;clear hbe;cases b with
 | true=>
  have hC:=H1'.out (HE.out.1 rfl) w2 hb2;clear HE;go_wp2_with fail;refine hC.mono ?_;clear hC;rintro e w3 ⟨rfl,hb3⟩;go_wp2_with fail;go_ret;exact⟨rfl,Below.join hb2 hb3⟩
 | false=>
  have hC:=H2'.out (fun h=>(by have:=HE.out.2 h;cases this)) w2 hb2;clear HE;go_wp2_with fail;refine hC.mono ?_;clear hC;rintro e w3 ⟨rfl,hb3⟩;go_wp2_with fail;go_ret;exact⟨rfl,Below.join hb2 hb3⟩
theorem tQw (s Z:List UInt8)(R:World->Option Addr->Nat->Nat->Prop)(w:World)(p bf br:Nat)(t1 t2 r1:TypeId)(y1 y2 z1 r2 z2:Value)(n1 n2 m1:Nat)(c1 d1:Value)(f1:Nat)(k1:Array Value)
  (hp:Blk w p (I3 t1 y1 n1 r1 z1 m1 (.func (.func f1) #[] k1) c1 d1) 98) (hf:Blk w bf #[.pointer (some ⟨p,0,none⟩)] 78) (hr:Blk w br #[.iface t2 y2,.pointer (some ⟨n2,0,none⟩),r2,z2] 94)
  (HP:∀W,Below w.heap.size w W->Calls Tryz.prog 196 #[C8 (.iface t1 y1) n1,C8 (.iface t2 y2) n2,A4 s] W fun e w'=>∃v1 v2 v3,e=.returned (.slice v1 v2 v3)/\R w' v1 v2 v3/\Below W.heap.size W w')
  (HE:∀W v1 v2 v3,Below w.heap.size w W->R W v1 v2 v3->Calls Tryz.prog 195 #[.slice v1 v2 v3,.func (.func f1) #[] k1] W fun e w'=>e=.returned (A4 Z)/\Below W.heap.size W w') :
  Calls Tryz.prog 194 #[A4 s,.pointer (some ⟨bf,0,none⟩),.pointer (some ⟨br,0,none⟩)] w fun e w'=>e=.returned (A4 Z)/\Below w.heap.size w w':=by
 have HS:Hid (∀W:World,Below w.heap.size w W->(W.cell? ⟨p,0,none⟩=some (.iface t1 y1)/\W.cell? ⟨p,1,none⟩=some (.pointer (some ⟨n1,0,none⟩))/\W.cell? ⟨p,4,none⟩=some (.func (.func f1) #[] k1))/\(W.cell? ⟨br,0,none⟩=some (.iface t2 y2)/\W.cell? ⟨br,1,none⟩=some (.pointer (some ⟨n2,0,none⟩)))/\W.cell? ⟨bf,0,none⟩=some (.pointer (some ⟨p,0,none⟩))):=fun W hW=>by
  obtain⟨a0,a1,_,_,a4,_,_⟩:=(hp.below hW hp.lt).seven;exact⟨⟨a0,a1,a4⟩,⟨(hr.below hW hr.lt).cell 0,(hr.below hW hr.lt).cell 1⟩,(hf.below hW hf.lt).cell 0⟩
 have HP':Hid (∀W,Below w.heap.size w W->Calls Tryz.prog 196 #[C8 (.iface t1 y1) n1,C8 (.iface t2 y2) n2,A4 s] W fun e w'=>∃v1 v2 v3,e=.returned (.slice v1 v2 v3)/\R w' v1 v2 v3/\Below W.heap.size W w'):=HP;have HE':Hid (∀W v1 v2 v3,Below w.heap.size w W->R W v1 v2 v3->Calls Tryz.prog 195 #[.slice v1 v2 v3,.func (.func f1) #[] k1] W fun e w'=>e=.returned (A4 Z)/\Below W.heap.size W w'):=HE;obtain⟨⟨a0,a1,a4⟩,⟨b0,b1⟩,e0⟩:=HS.out w (Below.refl _ _);clear hp hf hr HP HE;go_enter Tryz.func194,Tryz.ntmps194;go_wp2_with fail;go_region_held (fun w'=>(w'.cell? ⟨p,0,none⟩=some (.iface t1 y1)/\w'.cell? ⟨p,1,none⟩=some (.pointer (some ⟨n1,0,none⟩))/\w'.cell? ⟨p,4,none⟩=some (.func (.func f1) #[] k1))/\(w'.cell? ⟨br,0,none⟩=some (.iface t2 y2)/\w'.cell? ⟨br,1,none⟩=some (.pointer (some ⟨n2,0,none⟩)))/\w'.cell? ⟨bf,0,none⟩=some (.pointer (some ⟨p,0,none⟩))) (first|assumption|(refine⟨⟨?_,?_,?_⟩,⟨?_,?_⟩,?_⟩<;>assumption)|exact HS.out _ (Below.refl _ _).drew|exact HS.out _ hcur)
  (first
   | (go_at_call 196;refine(HP'.out _ ?_).mono ?_;exact(Below.refl _ _).drew;rintro e w2 ⟨v1,v2,v3,rfl,hR,hb2d⟩;have HR:Hid (R w2 v1 v2 v3):=hR;clear hR;have hb2:Below w.heap.size w w2:=Below.join (Below.refl _ _).drew hb2d;have hcur:Below w.heap.size w w2:=hb2)
   | (go_at_call 195;refine(HE'.out _ v1 v2 v3 hb2 HR.out).mono ?_;rintro e w3 ⟨rfl,hb3d⟩;have hb3:Below w.heap.size w w3:=Below.join hb2 hb3d;have hcur:Below w.heap.size w w3:=hb3))
 all_goals
  go_wp2_with fail;go_ret;exact⟨rfl,hb3⟩
theorem sQf (s Z:List UInt8)(R:World->Option Addr->Nat->Nat->Prop)(w:World)(p bf br:Nat)(t1 t2 r1:TypeId)(y1 y2 z1 r2 z2:Value)(n1 n2 m1:Nat)(c1 d1:Value)(f1:Nat)(k1:Array Value)
  (hp:Blk w p (I3 r1 z1 m1 t1 y1 n1 c1 (.func (.func f1) #[] k1) d1) 98) (hf:Blk w bf #[.pointer (some ⟨p,0,none⟩)] 78) (hr:Blk w br #[r2,z2,.iface t2 y2,.pointer (some ⟨n2,0,none⟩)] 94)
  (HP:∀W,Below w.heap.size w W->Calls Tryz.prog 196 #[C8 (.iface t1 y1) n1,C8 (.iface t2 y2) n2,A4 s] W fun e w'=>∃v1 v2 v3,e=.returned (.slice v1 v2 v3)/\R w' v1 v2 v3/\Below W.heap.size W w')
  (HE:∀W v1 v2 v3,Below w.heap.size w W->R W v1 v2 v3->Calls Tryz.prog 195 #[.slice v1 v2 v3,.func (.func f1) #[] k1] W fun e w'=>e=.returned (A4 Z)/\Below W.heap.size W w') :
  Calls Tryz.prog 197 #[A4 s,.pointer (some ⟨bf,0,none⟩),.pointer (some ⟨br,0,none⟩)] w fun e w'=>e=.returned (A4 Z)/\Below w.heap.size w w':=by
 have HS:Hid (∀W:World,Below w.heap.size w W->(W.cell? ⟨p,2,none⟩=some (.iface t1 y1)/\W.cell? ⟨p,3,none⟩=some (.pointer (some ⟨n1,0,none⟩))/\W.cell? ⟨p,5,none⟩=some (.func (.func f1) #[] k1))/\(W.cell? ⟨br,2,none⟩=some (.iface t2 y2)/\W.cell? ⟨br,3,none⟩=some (.pointer (some ⟨n2,0,none⟩)))/\W.cell? ⟨bf,0,none⟩=some (.pointer (some ⟨p,0,none⟩))):=fun W hW=>by
  obtain⟨_,_,a0,a1,_,a4,_⟩:=(hp.below hW hp.lt).seven;exact⟨⟨a0,a1,a4⟩,⟨(hr.below hW hr.lt).cell 2,(hr.below hW hr.lt).cell 3⟩,(hf.below hW hf.lt).cell 0⟩
 have HP':Hid (∀W,Below w.heap.size w W->Calls Tryz.prog 196 #[C8 (.iface t1 y1) n1,C8 (.iface t2 y2) n2,A4 s] W fun e w'=>∃v1 v2 v3,e=.returned (.slice v1 v2 v3)/\R w' v1 v2 v3/\Below W.heap.size W w'):=HP;have HE':Hid (∀W v1 v2 v3,Below w.heap.size w W->R W v1 v2 v3->Calls Tryz.prog 195 #[.slice v1 v2 v3,.func (.func f1) #[] k1] W fun e w'=>e=.returned (A4 Z)/\Below W.heap.size W w'):=HE;obtain⟨⟨a0,a1,a4⟩,⟨b0,b1⟩,e0⟩:=HS.out w (Below.refl _ _);clear hp hf hr HP HE;go_enter Tryz.func197,Tryz.ntmps197;go_wp2_with fail;go_region_held (fun w'=>(w'.cell? ⟨p,2,none⟩=some (.iface t1 y1)/\w'.cell? ⟨p,3,none⟩=some (.pointer (some ⟨n1,0,none⟩))/\w'.cell? ⟨p,5,none⟩=some (.func (.func f1) #[] k1))/\(w'.cell? ⟨br,2,none⟩=some (.iface t2 y2)/\w'.cell? ⟨br,3,none⟩=some (.pointer (some ⟨n2,0,none⟩)))/\w'.cell? ⟨bf,0,none⟩=some (.pointer (some ⟨p,0,none⟩))) (first|assumption|(refine⟨⟨?_,?_,?_⟩,⟨?_,?_⟩,?_⟩<;>assumption)|exact HS.out _ (Below.refl _ _).drew|exact HS.out _ hcur)
  (first
   | (go_at_call 196;refine(HP'.out _ ?_).mono ?_;exact(Below.refl _ _).drew;rintro e w2 ⟨v1,v2,v3,rfl,hR,hb2d⟩;have HR:Hid (R w2 v1 v2 v3):=hR;clear hR;have hb2:Below w.heap.size w w2:=Below.join (Below.refl _ _).drew hb2d;have hcur:Below w.heap.size w w2:=hb2)
   | (go_at_call 195;refine(HE'.out _ v1 v2 v3 hb2 HR.out).mono ?_;rintro e w3 ⟨rfl,hb3d⟩;have hb3:Below w.heap.size w w3:=Below.join hb2 hb3d;have hcur:Below w.heap.size w w3:=hb3))
 all_goals
  go_wp2_with fail;go_ret;exact⟨rfl,hb3⟩
theorem N3 {p q p' q':Ls.Pat}(h1:∀s,Ls.inL p s↔Ls.inL p' s)(h2:∀s,Ls.inL q s↔Ls.inL q' s):Ls.dX0 p q↔Ls.dX0 p' q':=by
 unfold Ls.dX0;simp only[h1,h2]
theorem qQl {p q p' q':Ls.Pat}(h1:∀s,Ls.inL p s↔Ls.inL p' s)(h2:∀s,Ls.inL q s↔Ls.inL q' s):Ls.iXr p q↔Ls.iXr p' q':=by
 unfold Ls.iXr;simp only[h1,h2]
theorem lQj {d:Ls.D}{p:Ls.Pat}(hp:Ls.wf p)(h:∀s,Ls.inL (Ls.dXu d) s↔Ls.inL p s):(¬Ls.inL (Ls.dXu d) []/\¬Ls.dX0 (Ls.dXu d) (Ls.dXu (Ls.rep 5 d)))↔J2 p:=by
 unfold J2;have h5:∀s,Ls.inL (Ls.dXu (Ls.rep 5 d)) s↔Ls.inL (Ls.eXa p) s:=fun s=>by
  rw[Ls.eX5,Ls.eXf];exact Ls.eX8 h s
 rw[N3 h h5,h []];have he:=Ls.fXb p hp;constructor
 ·rintro ⟨a,b⟩
  refine⟨?_,b⟩;cases hx:Ls.empty p with
  | false=>rfl
  | true=>exact absurd (he.1 hx) a
 ·rintro ⟨a,b⟩
  exact⟨fun hx=>(by rw[he.2 hx]at a;cases a),b⟩
theorem dQ6 {w:World}{G:Nat->Prop}(hG:Old w G){t1 t2:TypeId}{y1 y2:Value}{n1 n2:Nat}{d:Ls.D}(h:Tx w G (.iface t1 y1) n1 d)(h24:Ls.dsize d<=24)(s:ByteArray)(hs:s.size<=1048576) :
  Calls Tryz.prog 49 #[.agg #[.iface t1 y1,.pointer (some ⟨n1,0,none⟩),.iface t2 y2,.pointer (some ⟨n2,0,none⟩)],.string s] w fun e w'=>∃b:Bool,e=.returned (.bool b)/\(b=true↔Ls.inL (Ls.dXu d) s.data.toList)/\Below w.heap.size w w':=by
 have hb0:=A5 w (.cells #[.iface t1 y1,.pointer (some ⟨n1,0,none⟩),.iface t2 y2,.pointer (some ⟨n2,0,none⟩)] 94);have hM:=cQk (h.below hG hb0) h24 s hs;have HB:Hid _:=hb0;clear h hb0;go_enter Tryz.func49,Tryz.ntmps49;go_wp2_with fail;refine hM.mono ?_;rintro e w1 ⟨b,rfl,hb,hb1⟩;have HE:Hid (b=true↔Ls.inL (Ls.dXu d) s.data.toList):=hb;clear hb hM;go_wp2_with fail;go_ret;exact⟨b,rfl,HE.out,Below.join HB.out hb1⟩
theorem dQ8 {w:World}{G:Nat->Prop}(hG:Old w G){t1 t2:TypeId}{y1 y2:Value}{n1 n2:Nat}{d:Ls.D}(h:Tx w G (.iface t2 y2) n2 d)(h24:Ls.dsize d<=24)(s:ByteArray)(hs:s.size<=1048576) :
  Calls Tryz.prog 52 #[.agg #[.iface t1 y1,.pointer (some ⟨n1,0,none⟩),.iface t2 y2,.pointer (some ⟨n2,0,none⟩)],.string s] w fun e w'=>∃b:Bool,e=.returned (.bool b)/\(b=true↔Ls.inL (Ls.dXu d) s.data.toList)/\Below w.heap.size w w':=by
 have hb0:=A5 w (.cells #[.iface t1 y1,.pointer (some ⟨n1,0,none⟩),.iface t2 y2,.pointer (some ⟨n2,0,none⟩)] 94);have hM:=cQk (h.below hG hb0) h24 s hs;have HB:Hid _:=hb0;clear h hb0;go_enter Tryz.func52,Tryz.ntmps52;go_wp2_with fail;refine hM.mono ?_;rintro e w1 ⟨b,rfl,hb,hb1⟩;have HE:Hid (b=true↔Ls.inL (Ls.dXu d) s.data.toList):=hb;clear hb hM;go_wp2_with fail;go_ret;exact⟨b,rfl,HE.out,Below.join HB.out hb1⟩
theorem cX2 (x:List UInt8)(w:World):Calls Tryz.prog 188 #[A4 x] w fun e w'=>e=.returned (A4 x)/\Below w.heap.size w w':=by
 go_enter Tryz.func188,Tryz.ntmps188;go_wp2_with fail;go_ret;exact⟨rfl,Below.refl _ _⟩
abbrev Y5 (g:Nat):Value:=.func (.func 208) #[] #[.pointer (some ⟨g,0,none⟩)]
theorem bQ3 (ws:List UInt8)(w:World):Calls Tryz.prog 187 #[A4 ws] w fun e w'=>∃g,e=.returned (Y5 g)/\w.heap.size<=g/\g<w'.heap.size/\Blk w' g #[A4 ws] 9/\Below w.heap.size w w':=by
 have hmf:∀(fn:Fn) (first cap:Array Value) (w:World),(Instr.makeFunc fn first cap).run Tryz.prog w=.ok (.func fn first cap) w:=fun _ _ _ _=>rfl;go_enter Tryz.func187,Tryz.ntmps187;go_wp2_with fail;go_ret;exact⟨w.heap.size,rfl,Nat.le_refl _,by simp,Blk.new w _ _,A5 _ _⟩
theorem iQd (ws x:List UInt8)(w:World)(g:Nat)(h:Blk w g #[A4 ws] 9):Calls Tryz.prog 208 #[A4 x,.pointer (some ⟨g,0,none⟩)] w fun e w'=>e=.returned (A4 ws)/\Below w.heap.size w w':=by
 obtain⟨c0,c1⟩:=h.one;clear h;go_enter Tryz.func208,Tryz.ntmps208;go_wp2_with fail;go_ret;exact⟨rfl,Below.refl _ _⟩
theorem mQ9 (w:World)(G:Nat->Prop)(p:List UInt8->Prop)(val:List UInt8->List UInt8)(hv:∀x,val x=x):Turns w G (.func (.func 188) #[] #[]) p val:=⟨_,_,rfl,fun _ _=>by kernel_rfl,fun W _ _ x _ _=>by
  have:=cX2 x W;rw[hv];exact this⟩
theorem eQ6 {w:World}{G:Nat->Prop}{g:Nat}{ws:List UInt8}(h:Blk w g #[A4 ws] 9)(hg:G g)(p:List UInt8->Prop)(val:List UInt8->List UInt8)(hv:∀x,val x=ws):Turns w G (Y5 g) p val:=⟨_,_,rfl,fun _ _=>by kernel_rfl,fun W hW _ x _ _=>by
  have:=iQd ws x W g (h.of (hW g hg));rw[hv];exact this⟩
theorem eQo {a b:Ls.Ln}(hgx:gx a+gx b<=1099511627776){X Y u v:List UInt8}(hX:X.length<=(u.length+1)*gx a)(hY:Y.length<=(v.length+1)*gx b)(hl:u.length+v.length<=60):X.length+Y.length<=140737488355328:=by
 have h1:(u.length+1)*gx a<=61*gx a:=Nat.mul_le_mul_right _ (by omega);have h2:(v.length+1)*gx b<=61*gx b:=Nat.mul_le_mul_right _ (by omega);omega
theorem cXv (a b:Ls.Ln)(oa:Ls.OkL 120 a)(ob:Ls.OkL 120 b)(h24:Ls.dXw a+Ls.dXw b<=24)(hgx:gx a+gx b<=1099511627776)(ht:¬Ls.dX0 (Ls.dXu (Ls.dS a)) (Ls.dXu (Ls.dS b))){w:World}{G:Nat->Prop}{p q bf br:Nat}(hp:PartV w G p a)(hq:PartV w G q b)
  (hf:Blk w bf #[.pointer (some ⟨p,0,none⟩)] 78) (hr:Blk w br #[.pointer (some ⟨q,0,none⟩)] 78) (gf:G bf) (gr:G br) :
  Turns w G (.func (.func 153) #[] #[.pointer (some ⟨bf,0,none⟩),.pointer (some ⟨br,0,none⟩)]) (Ls.inL (Ls.dXu (Ls.dS (Ls.dXy a b)))) (A6 (Ls.dXy a b)):=by
 refine⟨_,_,rfl,fun _ _=>by kernel_rfl,fun W hW hO x hx hin=>?_⟩;have hpW:=hp.mono (G':=G) (fun _ h=>h) hW;have hqW:=hq.mono (G':=G) (fun _ h=>h) hW;have hfW:=hf.of (hW bf gf);have hrW:=hr.of (hW br gr);obtain⟨t1,y1,n1,t2,y2,n2,g1,c1,u1,_,h2,h3,h4,h5,h6,h7⟩:=hpW;obtain⟨t3,y3,n3,t4,y4,n4,g2,c2,u2,_,k2,k3,k4,k5,k6,k7⟩:=hqW;have hin2:Ls.inL (Ls.dXu (Ls.dX7 (Ls.dS a) (Ls.dS b))) x:=by
  have:Ls.dS (Ls.dXy a b)=Ls.dX7 (Ls.dS a) (Ls.dS b):=by simp[Ls.dXy,Ls.dS]
  rw[this]at hin;exact hin
 obtain⟨u,v,rfl,hu,hv⟩:=(Ls.eX4 _ _ _).1 hin2;rw[List.length_append]at hx;obtain⟨f1,s1,rfl,e1,H1⟩:=Turns.at hO h5;obtain⟨f2,s2,rfl,e2,H2⟩:=Turns.at hO k5;have hsa:=Ls.eXs a oa;have hsb:=Ls.eXs b ob;have hval:A6 (Ls.dXy a b) (u++v)=A6 a u++A6 b v:=by
  have hc:B9 (Ls.dXx a) (Ls.dXx b) (u++v)=u.length:=K2 (Ls.OkL.src _ oa).ok (Ls.OkL.src _ ob).ok (by rw[<-N3 (Ls.eXv a oa) (Ls.eXv b ob)];exact ht) ((Ls.eXv a oa u).1 hu) ((Ls.eXv b ob v).1 hv);simp[Ls.dXy,A6,hc]
 have hlen:=eQo hgx (L9 a u) (L9 b v) (by omega);have:=tQx u v _ _ hlen W p q bf br _ _ _ _ _ _ _ _ _ _ _ _ _ _ _ _ f1 f2 s1 s2 h2 k2 hfW hrW e1 e2
  (fun W' hW'=>aQh (G:=G) (fun k hk=>Nat.lt_of_lt_of_le (hO k hk) hW'.size) (by omega) (by omega) ht hu hv (by omega) (h3.below hO hW') (k3.below hO hW'))
  (fun W' hW'=>H1 W' hW' u (by omega) hu) (fun W' hW'=>H2 W' hW' v (by omega) hv)
 rw[hval];exact this
theorem cXr (a b:Ls.Ln)(oa:Ls.OkL 120 a)(ob:Ls.OkL 120 b)(h24:Ls.dXw a+Ls.dXw b<=24)(hgx:gx a+gx b<=1099511627776)(ht:¬Ls.dX0 (Ls.dXu (Ls.dV a)) (Ls.dXu (Ls.dV b))){w:World}{G:Nat->Prop}{p q bf br:Nat}(hp:PartV w G p a)(hq:PartV w G q b)
  (hf:Blk w bf #[.pointer (some ⟨p,0,none⟩)] 78) (hr:Blk w br #[.pointer (some ⟨q,0,none⟩)] 78) (gf:G bf) (gr:G br) :
  Turns w G (.func (.func 155) #[] #[.pointer (some ⟨bf,0,none⟩),.pointer (some ⟨br,0,none⟩)]) (Ls.inL (Ls.dXu (Ls.dV (Ls.dXy a b)))) (A9 (Ls.dXy a b)):=by
 refine⟨_,_,rfl,fun _ _=>by kernel_rfl,fun W hW hO x hx hin=>?_⟩;have hpW:=hp.mono (G':=G) (fun _ h=>h) hW;have hqW:=hq.mono (G':=G) (fun _ h=>h) hW;have hfW:=hf.of (hW bf gf);have hrW:=hr.of (hW br gr);obtain⟨t1,y1,n1,t2,y2,n2,g1,c1,u1,_,h2,h3,h4,h5,h6,h7⟩:=hpW;obtain⟨t3,y3,n3,t4,y4,n4,g2,c2,u2,_,k2,k3,k4,k5,k6,k7⟩:=hqW;have hin2:Ls.inL (Ls.dXu (Ls.dX7 (Ls.dV a) (Ls.dV b))) x:=by
  have:Ls.dV (Ls.dXy a b)=Ls.dX7 (Ls.dV a) (Ls.dV b):=by simp[Ls.dXy,Ls.dV]
  rw[this]at hin;exact hin
 obtain⟨u,v,rfl,hu,hv⟩:=(Ls.eX4 _ _ _).1 hin2;rw[List.length_append]at hx;obtain⟨f1,s1,rfl,e1,H1⟩:=Turns.at hO h6;obtain⟨f2,s2,rfl,e2,H2⟩:=Turns.at hO k6;have hsa:=Ls.eXo a oa;have hsb:=Ls.eXo b ob;have hval:A9 (Ls.dXy a b) (u++v)=A9 a u++A9 b v:=by
  have hc:B9 (Ls.dXv a) (Ls.dXv b) (u++v)=u.length:=K2 (Ls.OkL.view _ oa).ok (Ls.OkL.view _ ob).ok (by rw[<-N3 (Ls.eXx a oa) (Ls.eXx b ob)];exact ht) ((Ls.eXx a oa u).1 hu) ((Ls.eXx b ob v).1 hv);simp[Ls.dXy,A9,hc]
 have hlen:=eQo hgx (J1 a u) (J1 b v) (by omega);have:=sQg u v _ _ hlen W p q bf br _ _ _ _ _ _ _ _ _ _ _ _ _ _ _ _ f1 f2 s1 s2 h2 k2 hfW hrW e1 e2
  (fun W' hW'=>aQh (G:=G) (fun k hk=>Nat.lt_of_lt_of_le (hO k hk) hW'.size) (by omega) (by omega) ht hu hv (by omega) (h4.below hO hW') (k4.below hO hW'))
  (fun W' hW'=>H1 W' hW' u (by omega) hu) (fun W' hW'=>H2 W' hW' v (by omega) hv)
 rw[hval];exact this
theorem cXt (a b:Ls.Ln)(oa:Ls.OkL 120 a)(ob:Ls.OkL 120 b)(h24:Ls.dXw a+Ls.dXw b<=24)(hgx:gx a+gx b<=1099511627776)(ht:¬Ls.dX0 (Ls.dXu (Ls.dS a)) (Ls.dXu (Ls.dS b))){w:World}{G:Nat->Prop}{p q bf br:Nat}(hp:PartV w G p a)(hq:PartV w G q b)
  (hf:Blk w bf #[.pointer (some ⟨p,0,none⟩)] 78) (hr:Blk w br #[.pointer (some ⟨q,0,none⟩)] 78) (gf:G bf) (gr:G br) :
  Turns w G (.func (.func 190) #[] #[.pointer (some ⟨bf,0,none⟩),.pointer (some ⟨br,0,none⟩)]) (Ls.inL (Ls.dXu (Ls.dS (Ls.dX1 a b)))) (A6 (Ls.dX1 a b)):=by
 refine⟨_,_,rfl,fun _ _=>by kernel_rfl,fun W hW hO x hx hin=>?_⟩;have hpW:=hp.mono (G':=G) (fun _ h=>h) hW;have hqW:=hq.mono (G':=G) (fun _ h=>h) hW;have hfW:=hf.of (hW bf gf);have hrW:=hr.of (hW br gr);obtain⟨t1,y1,n1,t2,y2,n2,g1,c1,u1,_,h2,h3,h4,h5,h6,h7⟩:=hpW;obtain⟨t3,y3,n3,t4,y4,n4,g2,c2,u2,_,k2,k3,k4,k5,k6,k7⟩:=hqW;have hin2:Ls.inL (Ls.dXu (Ls.dX7 (Ls.dS a) (Ls.dS b))) x:=by
  have:Ls.dS (Ls.dX1 a b)=Ls.dX7 (Ls.dS a) (Ls.dS b):=by simp[Ls.dX1,Ls.dS]
  rw[this]at hin;exact hin
 obtain⟨u,v,rfl,hu,hv⟩:=(Ls.eX4 _ _ _).1 hin2;rw[List.length_append]at hx;obtain⟨f1,s1,rfl,e1,H1⟩:=Turns.at hO h5;obtain⟨f2,s2,rfl,e2,H2⟩:=Turns.at hO k5;have hsa:=Ls.eXs a oa;have hsb:=Ls.eXs b ob;have hval:A6 (Ls.dX1 a b) (u++v)=A6 b v++A6 a u:=by
  have hc:B9 (Ls.dXx a) (Ls.dXx b) (u++v)=u.length:=K2 (Ls.OkL.src _ oa).ok (Ls.OkL.src _ ob).ok (by rw[<-N3 (Ls.eXv a oa) (Ls.eXv b ob)];exact ht) ((Ls.eXv a oa u).1 hu) ((Ls.eXv b ob v).1 hv);simp[Ls.dX1,A6,hc]
 have hlen:=eQo (a:=b) (b:=a) (by omega) (L9 b v) (L9 a u) (by omega);have:=tQv u v _ _ hlen W p q bf br _ _ _ _ _ _ _ _ _ _ _ _ _ _ _ _ f1 f2 s1 s2 h2 k2 hfW hrW e1 e2
  (fun W' hW'=>aQh (G:=G) (fun k hk=>Nat.lt_of_lt_of_le (hO k hk) hW'.size) (by omega) (by omega) ht hu hv (by omega) (h3.below hO hW') (k3.below hO hW'))
  (fun W' hW'=>H2 W' hW' v (by omega) hv) (fun W' hW'=>H1 W' hW' u (by omega) hu)
 rw[hval];exact this
theorem cXp (a b:Ls.Ln)(oa:Ls.OkL 120 a)(ob:Ls.OkL 120 b)(h24:Ls.dXw a+Ls.dXw b<=24)(hgx:gx a+gx b<=1099511627776)(ht:¬Ls.dX0 (Ls.dXu (Ls.dV b)) (Ls.dXu (Ls.dV a))){w:World}{G:Nat->Prop}{p q bf br:Nat}(hp:PartV w G p a)(hq:PartV w G q b)
  (hf:Blk w bf #[.pointer (some ⟨p,0,none⟩)] 78) (hr:Blk w br #[.pointer (some ⟨q,0,none⟩)] 78) (gf:G bf) (gr:G br) :
  Turns w G (.func (.func 191) #[] #[.pointer (some ⟨br,0,none⟩),.pointer (some ⟨bf,0,none⟩)]) (Ls.inL (Ls.dXu (Ls.dV (Ls.dX1 a b)))) (A9 (Ls.dX1 a b)):=by
 refine⟨_,_,rfl,fun _ _=>by kernel_rfl,fun W hW hO x hx hin=>?_⟩;have hpW:=hp.mono (G':=G) (fun _ h=>h) hW;have hqW:=hq.mono (G':=G) (fun _ h=>h) hW;have hfW:=hf.of (hW bf gf);have hrW:=hr.of (hW br gr);obtain⟨t1,y1,n1,t2,y2,n2,g1,c1,u1,_,h2,h3,h4,h5,h6,h7⟩:=hpW;obtain⟨t3,y3,n3,t4,y4,n4,g2,c2,u2,_,k2,k3,k4,k5,k6,k7⟩:=hqW;have hin2:Ls.inL (Ls.dXu (Ls.dX7 (Ls.dV b) (Ls.dV a))) x:=by
  have:Ls.dV (Ls.dX1 a b)=Ls.dX7 (Ls.dV b) (Ls.dV a):=by simp[Ls.dX1,Ls.dV]
  rw[this]at hin;exact hin
 obtain⟨u,v,rfl,hu,hv⟩:=(Ls.eX4 _ _ _).1 hin2;rw[List.length_append]at hx;obtain⟨f1,s1,rfl,e1,H1⟩:=Turns.at hO h6;obtain⟨f2,s2,rfl,e2,H2⟩:=Turns.at hO k6;have hsa:=Ls.eXo a oa;have hsb:=Ls.eXo b ob;have hval:A9 (Ls.dX1 a b) (u++v)=A9 a v++A9 b u:=by
  have hc:B9 (Ls.dXv b) (Ls.dXv a) (u++v)=u.length:=K2 (Ls.OkL.view _ ob).ok (Ls.OkL.view _ oa).ok (by rw[<-N3 (Ls.eXx b ob) (Ls.eXx a oa)];exact ht) ((Ls.eXx b ob u).1 hu) ((Ls.eXx a oa v).1 hv);simp[Ls.dX1,A9,hc]
 have hlen:=eQo hgx (J1 a v) (J1 b u) (by omega);have:=sQe u v _ _ hlen W p q bf br _ _ _ _ _ _ _ _ _ _ _ _ _ _ _ _ f1 f2 s1 s2 h2 k2 hfW hrW e1 e2
  (fun W' hW'=>aQh (G:=G) (fun k hk=>Nat.lt_of_lt_of_le (hO k hk) hW'.size) (by omega) (by omega) ht hu hv (by omega) (k4.below hO hW') (h4.below hO hW'))
  (fun W' hW'=>H1 W' hW' v (by omega) hv) (fun W' hW'=>H2 W' hW' u (by omega) hu)
 rw[hval];exact this
theorem cXw (a b:Ls.Ln)(oa:Ls.OkL 120 a)(h24:Ls.dXw a+Ls.dXw b<=24){w:World}{G:Nat->Prop}{p q bf br:Nat}(hp:PartV w G p a)(hq:PartV w G q b)
  (hf:Blk w bf #[.pointer (some ⟨p,0,none⟩)] 78) (hr:Blk w br #[.pointer (some ⟨q,0,none⟩)] 78) (gf:G bf) (gr:G br) :
  Turns w G (.func (.func 136) #[] #[.pointer (some ⟨bf,0,none⟩),.pointer (some ⟨br,0,none⟩)]) (Ls.inL (Ls.dXu (Ls.dS (Ls.eXc a b)))) (A6 (Ls.eXc a b)):=by
 refine⟨_,_,rfl,fun _ _=>by kernel_rfl,fun W hW hO x hx hin=>?_⟩;have hpW:=hp.mono (G':=G) (fun _ h=>h) hW;have hqW:=hq.mono (G':=G) (fun _ h=>h) hW;have hfW:=hf.of (hW bf gf);have hrW:=hr.of (hW br gr);obtain⟨t1,y1,n1,t2,y2,n2,g1,c1,u1,_,h2,h3,h4,h5,h6,h7⟩:=hpW;obtain⟨t3,y3,n3,t4,y4,n4,g2,c2,u2,_,k2,k3,k4,k5,k6,k7⟩:=hqW;have hin2:Ls.inL (Ls.dXu (Ls.eXk (Ls.dS a) (Ls.dS b))) x:=by
  have:Ls.dS (Ls.eXc a b)=Ls.eXk (Ls.dS a) (Ls.dS b):=by simp[Ls.eXc,Ls.dS]
  rw[this]at hin;exact hin
 have hor:=(Ls.fXj _ _ _).1 hin2;obtain⟨f1,s1,rfl,e1,H1⟩:=Turns.at hO h5;obtain⟨f2,s2,rfl,e2,H2⟩:=Turns.at hO k5;have hsa:=Ls.eXs a oa;have hiff:Ls.is (Ls.dXx a) x=true↔Ls.inL (Ls.dXu (Ls.dS a)) x:=(Ls.eX0 _ (Ls.OkL.src _ oa).ok x).trans (Ls.eXv a oa x).symm;have hv1:Ls.inL (Ls.dXu (Ls.dS a)) x->A6 (Ls.eXc a b) x=A6 a x:=fun h=>by simp[Ls.eXc,A6,hiff.2 h]
 have hv2:¬Ls.inL (Ls.dXu (Ls.dS a)) x->A6 (Ls.eXc a b) x=A6 b x:=fun h=>by
  have:¬Ls.is (Ls.dXx a) x=true:=fun e=>h (hiff.1 e);simp[Ls.eXc,A6,this]
 exact tQy x (A6 (Ls.eXc a b) x) (Ls.inL (Ls.dXu (Ls.dS a)) x) W p q bf br _ _ _ _ _ _ _ _ _ _ _ _ _ _ _ _ f1 f2 s1 s2 h2 k2 hfW hrW e1 e2
  (fun W' hW'=>dQ6 (G:=G) (fun k hk=>Nat.lt_of_lt_of_le (hO k hk) hW'.size) (h3.below hO hW') (by omega) ⟨x.toArray⟩ (by simp[ByteArray.size];omega))
  (fun h W' hW'=>by rw[hv1 h];exact H1 W' hW' x hx h) (fun h W' hW'=>by rw[hv2 h];exact H2 W' hW' x hx (hor.resolve_left h))
theorem cXs (a b:Ls.Ln)(oa:Ls.OkL 120 a)(h24:Ls.dXw a+Ls.dXw b<=24){w:World}{G:Nat->Prop}{p q bf br:Nat}(hp:PartV w G p a)(hq:PartV w G q b)
  (hf:Blk w bf #[.pointer (some ⟨p,0,none⟩)] 78) (hr:Blk w br #[.pointer (some ⟨q,0,none⟩)] 78) (gf:G bf) (gr:G br) :
  Turns w G (.func (.func 137) #[] #[.pointer (some ⟨bf,0,none⟩),.pointer (some ⟨br,0,none⟩)]) (Ls.inL (Ls.dXu (Ls.dV (Ls.eXc a b)))) (A9 (Ls.eXc a b)):=by
 refine⟨_,_,rfl,fun _ _=>by kernel_rfl,fun W hW hO x hx hin=>?_⟩;have hpW:=hp.mono (G':=G) (fun _ h=>h) hW;have hqW:=hq.mono (G':=G) (fun _ h=>h) hW;have hfW:=hf.of (hW bf gf);have hrW:=hr.of (hW br gr);obtain⟨t1,y1,n1,t2,y2,n2,g1,c1,u1,_,h2,h3,h4,h5,h6,h7⟩:=hpW;obtain⟨t3,y3,n3,t4,y4,n4,g2,c2,u2,_,k2,k3,k4,k5,k6,k7⟩:=hqW;have hin2:Ls.inL (Ls.dXu (Ls.eXk (Ls.dV a) (Ls.dV b))) x:=by
  have:Ls.dV (Ls.eXc a b)=Ls.eXk (Ls.dV a) (Ls.dV b):=by simp[Ls.eXc,Ls.dV]
  rw[this]at hin;exact hin
 have hor:=(Ls.fXj _ _ _).1 hin2;obtain⟨f1,s1,rfl,e1,H1⟩:=Turns.at hO h6;obtain⟨f2,s2,rfl,e2,H2⟩:=Turns.at hO k6;have hsa:=Ls.eXo a oa;have hiff:Ls.is (Ls.dXv a) x=true↔Ls.inL (Ls.dXu (Ls.dV a)) x:=(Ls.eX0 _ (Ls.OkL.view _ oa).ok x).trans (Ls.eXx a oa x).symm;have hv1:Ls.inL (Ls.dXu (Ls.dV a)) x->A9 (Ls.eXc a b) x=A9 a x:=fun h=>by simp[Ls.eXc,A9,hiff.2 h]
 have hv2:¬Ls.inL (Ls.dXu (Ls.dV a)) x->A9 (Ls.eXc a b) x=A9 b x:=fun h=>by
  have:¬Ls.is (Ls.dXv a) x=true:=fun e=>h (hiff.1 e);simp[Ls.eXc,A9,this]
 exact sQh x (A9 (Ls.eXc a b) x) (Ls.inL (Ls.dXu (Ls.dV a)) x) W p q bf br _ _ _ _ _ _ _ _ _ _ _ _ _ _ _ _ f1 f2 s1 s2 h2 k2 hfW hrW e1 e2
  (fun W' hW'=>dQ8 (G:=G) (fun k hk=>Nat.lt_of_lt_of_le (hO k hk) hW'.size) (h4.below hO hW') (by omega) ⟨x.toArray⟩ (by simp[ByteArray.size];omega))
  (fun h W' hW'=>by rw[hv1 h];exact H1 W' hW' x hx h) (fun h W' hW'=>by rw[hv2 h];exact H2 W' hW' x hx (hor.resolve_left h))
theorem cXu (a l:Ls.Ln)(k:Nat)(e:Ls.D)(ws:List UInt8)(hl:l=⟨k,e,ws,[a]⟩)(oa:Ls.OkL 120 a)(h24:Ls.dXw a<=24)(hgx:gx l<=1099511627776)(h0:¬Ls.inL (Ls.dXu (Ls.dS a)) [])(ht:¬Ls.dX0 (Ls.dXu (Ls.dS a)) (Ls.dXu (Ls.rep 5 (Ls.dS a)))){w:World}{G:Nat->Prop}{p bf br:Nat}{t3:TypeId}{y3 x1 x2:Value}{n3:Nat}(hp:PartV w G p a)(hall:Tx w G (.iface t3 y3) n3 (Ls.rep 5 (Ls.dS a)))
  (hf:Blk w bf #[.pointer (some ⟨p,0,none⟩)] 78) (hr:Blk w br #[.iface t3 y3,.pointer (some ⟨n3,0,none⟩),x1,x2] 94) (gf:G bf) (gr:G br) :
  Turns w G (.func (.func 194) #[] #[.pointer (some ⟨bf,0,none⟩),.pointer (some ⟨br,0,none⟩)]) (Ls.inL (Ls.dXu (Ls.dS l))) (A6 l):=by
 refine⟨_,_,rfl,fun _ _=>by kernel_rfl,fun W hW hO x hx hin=>?_⟩;have hpW:=hp.mono (G':=G) (fun _ h=>h) hW;have haW:=hall.mono (G':=G) (fun _ h=>h) hW;have hfW:=hf.of (hW bf gf);have hrW:=hr.of (hW br gr);obtain⟨t1,y1,n1,t2,y2,n2,g1,c1,u1,_,h2,h3,h4,h5,h6,h7⟩:=hpW;have hin2:Ls.inL (Ls.dXu (Ls.rep 5 (Ls.dS a))) x:=by
  have:Ls.dS l=Ls.rep 5 (Ls.dS a):=by rw[hl,Ls.dS]
  rw[this]at hin;exact hin
 obtain⟨ps,rfl,hps⟩:=(Ls.eX5 _ _).1 hin2;obtain⟨f1,s1,rfl,e1,H1⟩:=Turns.at hO h5;have hsa:=Ls.eXs a oa;have hst:∀s,Ls.inL (Ls.dXu (Ls.rep 5 (Ls.dS a))) s↔Ls.inL (Ls.eXa (Ls.dXx a)) s:=fun s=>by
  rw[Ls.eX5,Ls.eXf];exact Ls.eX8 (Ls.eXv a oa) s
 have hval:A6 l ps.flatten=(ps.map (A6 a)).flatten:=by
  have hb:=Ls.OkL.src _ oa;rw[hl,A6,U2 hb.ok (Ls.fX4 hb).ok (fun h=>h0 ((Ls.eXv a oa _).2 h)) (by rw[<-N3 (Ls.eXv a oa) hst];exact ht) ps (fun y hy=>(Ls.eXv a oa y).1 (hps y hy)) _ (Nat.le_refl _)]
 have hlen:((ps.map (A6 a)).flatten).length<=70368744177664:=by
  rw[<-hval];have h1:=L9 l ps.flatten;have h2:(ps.flatten.length+1)*gx l<=61*gx l:=Nat.mul_le_mul_right _ (by omega);omega
 have hpl:∀y,y∈ps->y.length<=60:=fun y hy=>by
  have:=(List.sublist_flatten_of_mem hy).length_le;omega
 have hcnt:ps.length<=1048576:=by
  have hq:∀qs:List (List UInt8),(∀y,y∈qs->Ls.inL (Ls.dXu (Ls.dS a)) y)->qs.length<=qs.flatten.length:=by
   intro qs;induction qs with
   | nil=>simp
   | cons q qs ih=>
    intro h;have h1:0<q.length:=List.length_pos_iff.2 (fun e=>h0 (by have:=h q (List.mem_cons_self ..);rw[e]at this;exact this));have h2:=ih (fun y hy=>h y (List.mem_cons_of_mem _ hy));rw[List.flatten_cons,List.length_append,List.length_cons];omega
  have:=hq ps hps;omega
 rw[hval];exact tQw ps.flatten _ (fun W' v1 v2 v3=>∃base,W'.ownsRow base 9 1 (.slice v1 v2 v3) ps.length (ps.map A4)) W p bf br _ _ _ _ _ _ _ _ _ _ _ _ _ f1 s1 h2 hfW hrW
  (fun W' hW'=>(eQr (G:=G) (fun k hk=>Nat.lt_of_lt_of_le (hO k hk) hW'.size) (by omega) h0 ht hps (by omega) (h3.below hO hW') (haW.below hO hW')).mono (fun e w' ⟨v1,v2,v3,he,ho,hb⟩=>⟨v1,v2,v3,he,⟨_,ho⟩,hb⟩))
  (fun W' v1 v2 v3 hW' ⟨base,ho⟩=>kQy ps hcnt (A6 a) hlen f1 s1 _ W' base ho e1 (fun W2 j hj hW2=>H1 W2 (Below.join hW' hW2) ps[j] (hpl _ (List.getElem_mem _)) (hps _ (List.getElem_mem _))))
theorem cXq (a l:Ls.Ln)(k:Nat)(e:Ls.D)(ws:List UInt8)(hl:l=⟨k,e,ws,[a]⟩)(oa:Ls.OkL 120 a)(h24:Ls.dXw a<=24)(hgx:gx l<=1099511627776)(h0:¬Ls.inL (Ls.dXu (Ls.dV a)) [])(ht:¬Ls.dX0 (Ls.dXu (Ls.dV a)) (Ls.dXu (Ls.rep 5 (Ls.dV a)))){w:World}{G:Nat->Prop}{p bf br:Nat}{t3:TypeId}{y3 x1 x2:Value}{n3:Nat}(hp:PartV w G p a)(hall:Tx w G (.iface t3 y3) n3 (Ls.rep 5 (Ls.dV a)))
  (hf:Blk w bf #[.pointer (some ⟨p,0,none⟩)] 78) (hr:Blk w br #[x1,x2,.iface t3 y3,.pointer (some ⟨n3,0,none⟩)] 94) (gf:G bf) (gr:G br) :
  Turns w G (.func (.func 197) #[] #[.pointer (some ⟨bf,0,none⟩),.pointer (some ⟨br,0,none⟩)]) (Ls.inL (Ls.dXu (Ls.dV l))) (A9 l):=by
 refine⟨_,_,rfl,fun _ _=>by kernel_rfl,fun W hW hO x hx hin=>?_⟩;have hpW:=hp.mono (G':=G) (fun _ h=>h) hW;have haW:=hall.mono (G':=G) (fun _ h=>h) hW;have hfW:=hf.of (hW bf gf);have hrW:=hr.of (hW br gr);obtain⟨t1,y1,n1,t2,y2,n2,g1,c1,u1,_,h2,h3,h4,h5,h6,h7⟩:=hpW;have hin2:Ls.inL (Ls.dXu (Ls.rep 5 (Ls.dV a))) x:=by
  have:Ls.dV l=Ls.rep 5 (Ls.dV a):=by rw[hl,Ls.dV]
  rw[this]at hin;exact hin
 obtain⟨ps,rfl,hps⟩:=(Ls.eX5 _ _).1 hin2;obtain⟨f1,s1,rfl,e1,H1⟩:=Turns.at hO h6;have hsa:=Ls.eXo a oa;have hst:∀s,Ls.inL (Ls.dXu (Ls.rep 5 (Ls.dV a))) s↔Ls.inL (Ls.eXa (Ls.dXv a)) s:=fun s=>by
  rw[Ls.eX5,Ls.eXf];exact Ls.eX8 (Ls.eXx a oa) s
 have hval:A9 l ps.flatten=(ps.map (A9 a)).flatten:=by
  have hb:=Ls.OkL.view _ oa;rw[hl,A9,U2 hb.ok (Ls.fX4 hb).ok (fun h=>h0 ((Ls.eXx a oa _).2 h)) (by rw[<-N3 (Ls.eXx a oa) hst];exact ht) ps (fun y hy=>(Ls.eXx a oa y).1 (hps y hy)) _ (Nat.le_refl _)]
 have hlen:((ps.map (A9 a)).flatten).length<=70368744177664:=by
  rw[<-hval];have h1:=J1 l ps.flatten;have h2:(ps.flatten.length+1)*gx l<=61*gx l:=Nat.mul_le_mul_right _ (by omega);omega
 have hpl:∀y,y∈ps->y.length<=60:=fun y hy=>by
  have:=(List.sublist_flatten_of_mem hy).length_le;omega
 have hcnt:ps.length<=1048576:=by
  have hq:∀qs:List (List UInt8),(∀y,y∈qs->Ls.inL (Ls.dXu (Ls.dV a)) y)->qs.length<=qs.flatten.length:=by
   intro qs;induction qs with
   | nil=>simp
   | cons q qs ih=>
    intro h;have h1:0<q.length:=List.length_pos_iff.2 (fun e=>h0 (by have:=h q (List.mem_cons_self ..);rw[e]at this;exact this));have h2:=ih (fun y hy=>h y (List.mem_cons_of_mem _ hy));rw[List.flatten_cons,List.length_append,List.length_cons];omega
  have:=hq ps hps;omega
 rw[hval];exact sQf ps.flatten _ (fun W' v1 v2 v3=>∃base,W'.ownsRow base 9 1 (.slice v1 v2 v3) ps.length (ps.map A4)) W p bf br _ _ _ _ _ _ _ _ _ _ _ _ _ f1 s1 h2 hfW hrW
  (fun W' hW'=>(eQr (G:=G) (fun k hk=>Nat.lt_of_lt_of_le (hO k hk) hW'.size) (by omega) h0 ht hps (by omega) (h4.below hO hW') (haW.below hO hW')).mono (fun e w' ⟨v1,v2,v3,he,ho,hb⟩=>⟨v1,v2,v3,he,⟨_,ho⟩,hb⟩))
  (fun W' v1 v2 v3 hW' ⟨base,ho⟩=>kQy ps hcnt (A9 a) hlen f1 s1 _ W' base ho e1 (fun W2 j hj hW2=>H1 W2 (Below.join hW' hW2) ps[j] (hpl _ (List.getElem_mem _)) (hps _ (List.getElem_mem _))))
theorem cXm (w:World)(G:Nat->Prop)(p q:List UInt8->Prop)(val:List UInt8->List UInt8->List UInt8)(hv:∀x y,val x y=x):Turns2 w G (.func (.func 189) #[] #[]) p q val:=by
 refine⟨_,_,rfl,fun _ _ _=>by kernel_rfl,fun W _ _ x y _ _ _ _=>?_⟩;rw[hv];show Calls Tryz.prog 189 #[A4 x,A4 y] W _;clear hv;go_enter Tryz.func189,Tryz.ntmps189;go_wp2_with fail;go_ret;exact⟨rfl,Below.refl _ _⟩
theorem cXn (w:World)(G:Nat->Prop)(p q:List UInt8->Prop)(val:List UInt8->List UInt8->List UInt8)(hv:∀x y,val x y=y):Turns2 w G (.func (.func 204) #[] #[]) p q val:=by
 refine⟨_,_,rfl,fun _ _ _=>by kernel_rfl,fun W _ _ x y _ _ _ _=>?_⟩;rw[hv];show Calls Tryz.prog 204 #[A4 x,A4 y] W _;clear hv;go_enter Tryz.func204,Tryz.ntmps204;go_wp2_with fail;go_ret;exact⟨rfl,Below.refl _ _⟩
theorem cXo (w:World)(G:Nat->Prop)(p q:List UInt8->Prop)(val:List UInt8->List UInt8->List UInt8)(hv:∀x y,val x y=[]):Turns2 w G (.func (.func 205) #[] #[]) p q val:=by
 refine⟨_,_,rfl,fun _ _ _=>by kernel_rfl,fun W _ _ x y _ _ _ _=>?_⟩;rw[hv];show Calls Tryz.prog 205 #[A4 x,A4 y] W _;clear hv;go_enter Tryz.func205,Tryz.ntmps205;go_wp2_with fail;go_ret;exact⟨rfl,Below.refl _ _⟩
theorem kQ9 {a b:Ls.Ln}(hgx:gx a+gx b<=1099511627776){X Y u v s t:List UInt8}(hX:X.length<=(u.length+s.length+2)*gx a)(hY:Y.length<=(v.length+t.length+2)*gx b)(hl:u.length+v.length<=60)(hl2:s.length+t.length<=60):X.length+Y.length<=140737488355328:=by
 have h1:(u.length+s.length+2)*gx a<=122*gx a:=Nat.mul_le_mul_right _ (by omega);have h2:(v.length+t.length+2)*gx b<=122*gx b:=Nat.mul_le_mul_right _ (by omega);omega
theorem cXz (a b:Ls.Ln)(oa:Ls.OkL 120 a)(ob:Ls.OkL 120 b)(h24:Ls.dXw a+Ls.dXw b<=24)(hgx:gx a+gx b<=1099511627776)(ht:¬Ls.dX0 (Ls.dXu (Ls.dS a)) (Ls.dXu (Ls.dS b)))(hv:¬Ls.dX0 (Ls.dXu (Ls.dV a)) (Ls.dXu (Ls.dV b))){w:World}{G:Nat->Prop}{p q bf br:Nat}(hp:PartV w G p a)(hq:PartV w G q b)
  (hf:Blk w bf #[.pointer (some ⟨p,0,none⟩)] 78) (hr:Blk w br #[.pointer (some ⟨q,0,none⟩)] 78) (gf:G bf) (gr:G br) :
  Turns2 w G (.func (.func 156) #[] #[.pointer (some ⟨bf,0,none⟩),.pointer (some ⟨br,0,none⟩)]) (Ls.inL (Ls.dXu (Ls.dV (Ls.dXy a b)))) (Ls.inL (Ls.dXu (Ls.dS (Ls.dXy a b)))) (B4 (Ls.dXy a b)):=by
 refine⟨_,_,rfl,fun _ _ _=>by kernel_rfl,fun W hW hO x y hx hy hin hiny=>?_⟩;have hpW:=hp.mono (G':=G) (fun _ h=>h) hW;have hqW:=hq.mono (G':=G) (fun _ h=>h) hW;have hfW:=hf.of (hW bf gf);have hrW:=hr.of (hW br gr);obtain⟨t1,y1,n1,t2,y2,n2,g1,c1,u1,_,h2,h3,h4,h5,h6,h7⟩:=hpW;obtain⟨t3,y3,n3,t4,y4,n4,g2,c2,u2,_,k2,k3,k4,k5,k6,k7⟩:=hqW;rw[show Ls.dV (Ls.dXy a b)=Ls.dX7 (Ls.dV a) (Ls.dV b) by simp[Ls.dXy,Ls.dV]]at hin;rw[show Ls.dS (Ls.dXy a b)=Ls.dX7 (Ls.dS a) (Ls.dS b) by simp[Ls.dXy,Ls.dS]]at hiny;obtain⟨u,v,rfl,hu,hv2⟩:=(Ls.eX4 _ _ _).1 hin;obtain⟨s,t,rfl,hs,ht2⟩:=(Ls.eX4 _ _ _).1 hiny;rw[List.length_append]at hx hy;obtain⟨f1,s1,rfl,e1,H1⟩:=Turns2.at hO h7;obtain⟨f2,s2,rfl,e2,H2⟩:=Turns2.at hO k7;have hsa:=Ls.eXs a oa;have hsb:=Ls.eXs b ob;have hva:=Ls.eXo a oa;have hvb:=Ls.eXo b ob;have hval:B4 (Ls.dXy a b) (u++v) (s++t)=B4 a u s++B4 b v t:=by
  have hc:B9 (Ls.dXv a) (Ls.dXv b) (u++v)=u.length:=K2 (Ls.OkL.view _ oa).ok (Ls.OkL.view _ ob).ok (by rw[<-N3 (Ls.eXx a oa) (Ls.eXx b ob)];exact hv) ((Ls.eXx a oa u).1 hu) ((Ls.eXx b ob v).1 hv2);have hd:B9 (Ls.dXx a) (Ls.dXx b) (s++t)=s.length:=K2 (Ls.OkL.src _ oa).ok (Ls.OkL.src _ ob).ok (by rw[<-N3 (Ls.eXv a oa) (Ls.eXv b ob)];exact ht) ((Ls.eXv a oa s).1 hs) ((Ls.eXv b ob t).1 ht2);simp[Ls.dXy,B4,hc,hd]
 have hlen:=kQ9 hgx (O9 a u s) (O9 b v t) (by omega) (by omega);have:=zQj u v s t _ _ hlen W p q bf br _ _ _ _ _ _ _ _ _ _ _ _ _ _ _ _ f1 f2 s1 s2 h2 k2 hfW hrW e1 e2
  (fun W' hW'=>aQh (G:=G) (fun k hk=>Nat.lt_of_lt_of_le (hO k hk) hW'.size) (by omega) (by omega) hv hu hv2 (by omega) (h4.below hO hW') (k4.below hO hW'))
  (fun W' hW'=>aQh (G:=G) (fun k hk=>Nat.lt_of_lt_of_le (hO k hk) hW'.size) (by omega) (by omega) ht hs ht2 (by omega) (h3.below hO hW') (k3.below hO hW'))
  (fun W' hW'=>H1 W' hW' u s (by omega) (by omega) hu hs) (fun W' hW'=>H2 W' hW' v t (by omega) (by omega) hv2 ht2)
 rw[hval];exact this
theorem cXx (a b:Ls.Ln)(oa:Ls.OkL 120 a)(ob:Ls.OkL 120 b)(h24:Ls.dXw a+Ls.dXw b<=24)(hgx:gx a+gx b<=1099511627776)(ht:¬Ls.dX0 (Ls.dXu (Ls.dS a)) (Ls.dXu (Ls.dS b)))(hv:¬Ls.dX0 (Ls.dXu (Ls.dV b)) (Ls.dXu (Ls.dV a))){w:World}{G:Nat->Prop}{p q bf br:Nat}(hp:PartV w G p a)(hq:PartV w G q b)
  (hf:Blk w bf #[.pointer (some ⟨p,0,none⟩)] 78) (hr:Blk w br #[.pointer (some ⟨q,0,none⟩)] 78) (gf:G bf) (gr:G br) :
  Turns2 w G (.func (.func 192) #[] #[.pointer (some ⟨br,0,none⟩),.pointer (some ⟨bf,0,none⟩)]) (Ls.inL (Ls.dXu (Ls.dV (Ls.dX1 a b)))) (Ls.inL (Ls.dXu (Ls.dS (Ls.dX1 a b)))) (B4 (Ls.dX1 a b)):=by
 refine⟨_,_,rfl,fun _ _ _=>by kernel_rfl,fun W hW hO x y hx hy hin hiny=>?_⟩;have hpW:=hp.mono (G':=G) (fun _ h=>h) hW;have hqW:=hq.mono (G':=G) (fun _ h=>h) hW;have hfW:=hf.of (hW bf gf);have hrW:=hr.of (hW br gr);obtain⟨t1,y1,n1,t2,y2,n2,g1,c1,u1,_,h2,h3,h4,h5,h6,h7⟩:=hpW;obtain⟨t3,y3,n3,t4,y4,n4,g2,c2,u2,_,k2,k3,k4,k5,k6,k7⟩:=hqW;rw[show Ls.dV (Ls.dX1 a b)=Ls.dX7 (Ls.dV b) (Ls.dV a) by simp[Ls.dX1,Ls.dV]]at hin;rw[show Ls.dS (Ls.dX1 a b)=Ls.dX7 (Ls.dS a) (Ls.dS b) by simp[Ls.dX1,Ls.dS]]at hiny;obtain⟨u,v,rfl,hu,hv2⟩:=(Ls.eX4 _ _ _).1 hin;obtain⟨s,t,rfl,hs,ht2⟩:=(Ls.eX4 _ _ _).1 hiny;rw[List.length_append]at hx hy;obtain⟨f1,s1,rfl,e1,H1⟩:=Turns2.at hO h7;obtain⟨f2,s2,rfl,e2,H2⟩:=Turns2.at hO k7;have hsa:=Ls.eXs a oa;have hsb:=Ls.eXs b ob;have hva:=Ls.eXo a oa;have hvb:=Ls.eXo b ob;have hval:B4 (Ls.dX1 a b) (u++v) (s++t)=B4 a v s++B4 b u t:=by
  have hc:B9 (Ls.dXv b) (Ls.dXv a) (u++v)=u.length:=K2 (Ls.OkL.view _ ob).ok (Ls.OkL.view _ oa).ok (by rw[<-N3 (Ls.eXx b ob) (Ls.eXx a oa)];exact hv) ((Ls.eXx b ob u).1 hu) ((Ls.eXx a oa v).1 hv2);have hd:B9 (Ls.dXx a) (Ls.dXx b) (s++t)=s.length:=K2 (Ls.OkL.src _ oa).ok (Ls.OkL.src _ ob).ok (by rw[<-N3 (Ls.eXv a oa) (Ls.eXv b ob)];exact ht) ((Ls.eXv a oa s).1 hs) ((Ls.eXv b ob t).1 ht2);simp[Ls.dX1,B4,hc,hd]
 have hlen:=kQ9 hgx (O9 a v s) (O9 b u t) (by omega) (by omega);have:=zQf u v s t _ _ hlen W p q bf br _ _ _ _ _ _ _ _ _ _ _ _ _ _ _ _ f1 f2 s1 s2 h2 k2 hfW hrW e1 e2
  (fun W' hW'=>aQh (G:=G) (fun k hk=>Nat.lt_of_lt_of_le (hO k hk) hW'.size) (by omega) (by omega) hv hu hv2 (by omega) (k4.below hO hW') (h4.below hO hW'))
  (fun W' hW'=>aQh (G:=G) (fun k hk=>Nat.lt_of_lt_of_le (hO k hk) hW'.size) (by omega) (by omega) ht hs ht2 (by omega) (h3.below hO hW') (k3.below hO hW'))
  (fun W' hW'=>H1 W' hW' v s (by omega) (by omega) hv2 hs) (fun W' hW'=>H2 W' hW' u t (by omega) (by omega) hu ht2)
 rw[hval];exact this
theorem cX0 (a b:Ls.Ln)(oa:Ls.OkL 120 a)(ob:Ls.OkL 120 b)(h24:Ls.dXw a+Ls.dXw b<=24){w:World}{G:Nat->Prop}{p q bf br:Nat}(hp:PartV w G p a)(hq:PartV w G q b)
  (hf:Blk w bf #[.pointer (some ⟨p,0,none⟩)] 78) (hr:Blk w br #[.pointer (some ⟨q,0,none⟩)] 78) (gf:G bf) (gr:G br) :
  Turns2 w G (.func (.func 138) #[] #[.pointer (some ⟨bf,0,none⟩),.pointer (some ⟨br,0,none⟩)]) (Ls.inL (Ls.dXu (Ls.dV (Ls.eXc a b)))) (Ls.inL (Ls.dXu (Ls.dS (Ls.eXc a b)))) (B4 (Ls.eXc a b)):=by
 refine⟨_,_,rfl,fun _ _ _=>by kernel_rfl,fun W hW hO x y hx hy hin hiny=>?_⟩;have hpW:=hp.mono (G':=G) (fun _ h=>h) hW;have hqW:=hq.mono (G':=G) (fun _ h=>h) hW;have hfW:=hf.of (hW bf gf);have hrW:=hr.of (hW br gr);obtain⟨t1,y1,n1,t2,y2,n2,g1,c1,u1,_,h2,h3,h4,h5,h6,h7⟩:=hpW;obtain⟨t3,y3,n3,t4,y4,n4,g2,c2,u2,_,k2,k3,k4,k5,k6,k7⟩:=hqW;rw[show Ls.dV (Ls.eXc a b)=Ls.eXk (Ls.dV a) (Ls.dV b) by simp[Ls.eXc,Ls.dV],Ls.fXj]at hin;rw[show Ls.dS (Ls.eXc a b)=Ls.eXk (Ls.dS a) (Ls.dS b) by simp[Ls.eXc,Ls.dS],Ls.fXj]at hiny;obtain⟨f1,s1,rfl,e1,H1⟩:=Turns2.at hO h7;obtain⟨f2,s2,rfl,e2,H2⟩:=Turns2.at hO k7;obtain⟨f3,s3,rfl,e3,H3⟩:=Turns.at hO h6;obtain⟨f4,s4,rfl,e4,H4⟩:=Turns.at hO k6;have hsa:=Ls.eXs a oa;have hva:=Ls.eXo a oa;have hvb:=Ls.eXo b ob;have hS:Ls.is (Ls.dXx a) y=true↔Ls.inL (Ls.dXu (Ls.dS a)) y:=(Ls.eX0 _ (Ls.OkL.src _ oa).ok y).trans (Ls.eXv a oa y).symm;have hA:Ls.is (Ls.dXv a) x=true↔Ls.inL (Ls.dXu (Ls.dV a)) x:=(Ls.eX0 _ (Ls.OkL.view _ oa).ok x).trans (Ls.eXx a oa x).symm;have hB:Ls.is (Ls.dXv b) x=true↔Ls.inL (Ls.dXu (Ls.dV b)) x:=(Ls.eX0 _ (Ls.OkL.view _ ob).ok x).trans (Ls.eXx b ob x).symm;have hval:B4 (Ls.eXc a b) x y=if Ls.is (Ls.dXx a) y=true then (if Ls.is (Ls.dXv a) x=true then B4 a x y else A9 b x) else (if Ls.is (Ls.dXv b) x=true then B4 b x y else A9 a x):=by simp[Ls.eXc,B4]
 refine zQl x y (B4 (Ls.eXc a b) x y) (Ls.inL (Ls.dXu (Ls.dS a)) y) W p q bf br _ _ _ _ _ _ _ _ _ h2 hfW hrW
  (fun W' hW'=>dQ6 (G:=G) (fun k hk=>Nat.lt_of_lt_of_le (hO k hk) hW'.size) (h3.below hO hW') (by omega) ⟨y.toArray⟩ (by simp[ByteArray.size];omega)) (fun h W1 hW1=>?_) (fun h W1 hW1=>?_)
 ·rw[hval,if_pos (hS.2 h)]
  refine lQs x y _ (Ls.inL (Ls.dXu (Ls.dV a)) x) W1 p q _ _ _ _ _ _ _ _ _ _ _ _ _ _ _ _ f1 f4 s1 s4 (h2.below hW1 h2.lt) (k2.below hW1 k2.lt) e1 e4
   (fun W' hW'=>dQ8 (G:=G) (fun k hk=>Nat.lt_of_lt_of_le (hO k hk) (Below.join hW1 hW').size) (h4.below hO (Below.join hW1 hW')) (by omega) ⟨x.toArray⟩ (by simp[ByteArray.size];omega))
   (fun g W' hW'=>?_) (fun g W' hW'=>?_)
  ·rw[if_pos (hA.2 g)]
   exact H1 W' (Below.join hW1 hW') x y hx hy g h
  ·rw[if_neg (fun e=>g (hA.1 e))]
   exact H4 W' (Below.join hW1 hW') x hx (hin.resolve_left g)
 ·rw[hval,if_neg (fun e=>h (hS.1 e))]
  refine lQs x y _ (Ls.inL (Ls.dXu (Ls.dV b)) x) W1 q p _ _ _ _ _ _ _ _ _ _ _ _ _ _ _ _ f2 f3 s2 s3 (k2.below hW1 k2.lt) (h2.below hW1 h2.lt) e2 e3
   (fun W' hW'=>dQ8 (G:=G) (fun k hk=>Nat.lt_of_lt_of_le (hO k hk) (Below.join hW1 hW').size) (k4.below hO (Below.join hW1 hW')) (by omega) ⟨x.toArray⟩ (by simp[ByteArray.size];omega))
   (fun g W' hW'=>?_) (fun g W' hW'=>?_)
  ·rw[if_pos (hB.2 g)]
   exact H2 W' (Below.join hW1 hW') x y hx hy g (hiny.resolve_left h)
  ·rw[if_neg (fun e=>g (hB.1 e))]
   exact H3 W' (Below.join hW1 hW') x hx (hin.resolve_right g)
theorem fQ1 (x:List UInt8)(hx:x.length<=140737488355328)(w:World):Calls Tryz.prog 54 #[A4 x] w fun e w'=>e=.returned (A4 x)/\Below w.heap.size w w':=by
 have hC:=Tryz.stringslite_Clone ⟨x.toArray⟩ w (by simp[ByteArray.size];omega);go_enter Tryz.func54,Tryz.ntmps54;go_wp2_with fail;refine hC.mono ?_;rintro e w1 ⟨rfl,hb1⟩;clear hC;go_wp2_with fail;go_ret;exact⟨rfl,hb1⟩
theorem mQ5 (s:ByteArray)(w:World)(L p:Nat)(h:Blk w L #[.pointer (some ⟨p,0,none⟩)] 85) :
  Calls Tryz.prog 48 #[.pointer (some ⟨L,0,none⟩),.string s] w fun e w'=>e=.returned (.bool (decide (s.size<=60)))/\w'=w:=by
 obtain⟨c0,c1⟩:=h.one;clear h
 by_cases hs:s.size<=60
 ·have h2:(s.size:Int)<=60:=by omega
  rw[decide_eq_true hs];go_enter Tryz.func48,Tryz.ntmps48;go_wp2_with fail;go_ret;exact⟨rfl,rfl⟩
 ·have h2:¬(s.size:Int)<=60:=by omega
  rw[decide_eq_false hs];go_enter Tryz.func48,Tryz.ntmps48;go_wp2_with fail;go_ret;exact⟨rfl,rfl⟩
structure LensV (w:World)(G:Nat->Prop)(L p:Nat)(l:Ls.Ln):Prop where
 blk:Blk w L #[.pointer (some ⟨p,0,none⟩)] 85
 part:PartV w G p l
 old:Old w G
 ok:Ls.OkL 120 l
 size:Ls.dXw l<=24
 few:cn l<=30000
theorem LensV.below {w w':World}{G:Nat->Prop}{L p:Nat}{l:Ls.Ln}(h:LensV w G L p l)(hb:Below w.heap.size w w'):LensV w' G L p l:=⟨h.blk.below hb h.blk.lt,h.part.below h.old hb,fun k hk=>Nat.lt_of_lt_of_le (h.old k hk) hb.size,h.ok,h.size,h.few⟩
def CompilePost (s:ByteArray)(w:World):Ending->World->Prop:=fun e w'=>
 ∃(v:Option Addr) (r:Nat),e=.returned (.tuple #[.pointer v,.int .i64 r])/\CompIs s.data.toList r/\r<=4/\(v.isSome=true↔r=0)/\Below w.heap.size w w'/\
  (r=0->∃l L p,v=some ⟨L,0,none⟩/\E2 s.data.toList=some l/\Ls.OkL 120 l/\cn l<=30000/\Ls.dXw l<=24/\w.heap.size<=L/\Blk w' L #[.pointer (some ⟨p,0,none⟩)] 85/\PartV w' (B8 w w') p l)
theorem aQ5 (s:ByteArray):(⟨s.data.toList.toArray⟩:ByteArray)=s:=by
 apply ByteArray.ext
 simp
theorem dQ4 (s:ByteArray)(hs:s.size<=1048576)(w:World)(G:Nat->Prop)(L p:Nat)(l:Ls.Ln)(h:LensV w G L p l) :
  Calls Tryz.prog 20 #[.pointer (some ⟨L,0,none⟩),.string s] w fun e w'=>e=.returned (.bool (B7 (Ls.dXx l) s.data.toList))/\Below w.heap.size w w':=by
 have hT:=mQ5 s w L p h.blk;have hlen:s.data.toList.length=s.size:=by simp
 obtain⟨t1,y1,n1,t2,y2,n2,g,c,u,_,h2,h3,h4,_,_,_⟩:=h.part;have hsz:=Ls.eXs l h.ok;have h24:=h.size;have hI:=dQ6 (t1:=t1) (y1:=y1) (n1:=n1) (t2:=t2) (y2:=y2) (n2:=n2) h.old h3 (by omega) s hs;have HE:Hid (∀b:Bool,(b=true↔Ls.inL (Ls.dXu (Ls.dS l)) s.data.toList)->s.size<=60->B7 (Ls.dXx l) s.data.toList=b):=fun b hb h60=>by
  have hi:Ls.is (Ls.dXx l) s.data.toList=b:=by
   rw[Bool.eq_iff_iff,hb,Ls.eX0 _ (Ls.OkL.src _ h.ok).ok,Ls.eXv l h.ok]
  unfold B7;rw[hi,hlen,decide_eq_true h60,Bool.and_true]
 have HN:Hid (¬s.size<=60->B7 (Ls.dXx l) s.data.toList=false):=fun h60=>by
  unfold B7;rw[hlen,decide_eq_false h60,Bool.and_false]
 obtain⟨c0,c1⟩:=h.blk.one;obtain⟨a0,a1,a2,a3,_,_,_⟩:=h2.seven;clear h h2 h3 h4;generalize B7 (Ls.dXx l) s.data.toList=v at *
 by_cases h60:s.size<=60
 ·rw[decide_eq_true h60]at hT
  go_enter Tryz.func20,Tryz.ntmps20;go_wp2_with fail;refine hT.mono ?_;rintro e w1 ⟨rfl,hw⟩;have hw2:=hw.symm;clear hw hT;subst hw2;go_wp2_with fail;refine hI.mono ?_;clear hI;rintro e w2 ⟨b,rfl,hb,hb2⟩;have HV:Hid (v=b):=HE.out b hb h60;clear hb;go_wp2_with fail;go_ret;exact⟨by rw[HV.out];rfl,hb2⟩
 ·rw[decide_eq_false h60]at hT
  have HV:Hid (v=false):=HN.out h60;go_enter Tryz.func20,Tryz.ntmps20;go_wp2_with fail;refine hT.mono ?_;rintro e w1 ⟨rfl,hw⟩;have hw2:=hw.symm;clear hw hT;subst hw2;go_wp2_with fail;go_ret;exact⟨by rw[HV.out];rfl,Below.refl _ _⟩
theorem dQ7 (s:ByteArray)(hs:s.size<=1048576)(w:World)(G:Nat->Prop)(L p:Nat)(l:Ls.Ln)(h:LensV w G L p l) :
  Calls Tryz.prog 22 #[.pointer (some ⟨L,0,none⟩),.string s] w fun e w'=>e=.returned (.bool (B7 (Ls.dXv l) s.data.toList))/\Below w.heap.size w w':=by
 have hT:=mQ5 s w L p h.blk;have hlen:s.data.toList.length=s.size:=by simp
 obtain⟨t1,y1,n1,t2,y2,n2,g,c,u,_,h2,h3,h4,_,_,_⟩:=h.part;have hsz:=Ls.eXo l h.ok;have h24:=h.size;have hI:=dQ8 (t1:=t1) (y1:=y1) (n1:=n1) (t2:=t2) (y2:=y2) (n2:=n2) h.old h4 (by omega) s hs;have HE:Hid (∀b:Bool,(b=true↔Ls.inL (Ls.dXu (Ls.dV l)) s.data.toList)->s.size<=60->B7 (Ls.dXv l) s.data.toList=b):=fun b hb h60=>by
  have hi:Ls.is (Ls.dXv l) s.data.toList=b:=by
   rw[Bool.eq_iff_iff,hb,Ls.eX0 _ (Ls.OkL.view _ h.ok).ok,Ls.eXx l h.ok]
  unfold B7;rw[hi,hlen,decide_eq_true h60,Bool.and_true]
 have HN:Hid (¬s.size<=60->B7 (Ls.dXv l) s.data.toList=false):=fun h60=>by
  unfold B7;rw[hlen,decide_eq_false h60,Bool.and_false]
 obtain⟨c0,c1⟩:=h.blk.one;obtain⟨a0,a1,a2,a3,_,_,_⟩:=h2.seven;clear h h2 h3 h4;generalize B7 (Ls.dXv l) s.data.toList=v at *
 by_cases h60:s.size<=60
 ·rw[decide_eq_true h60]at hT
  go_enter Tryz.func22,Tryz.ntmps22;go_wp2_with fail;refine hT.mono ?_;rintro e w1 ⟨rfl,hw⟩;have hw2:=hw.symm;clear hw hT;subst hw2;go_wp2_with fail;refine hI.mono ?_;clear hI;rintro e w2 ⟨b,rfl,hb,hb2⟩;have HV:Hid (v=b):=HE.out b hb h60;clear hb;go_wp2_with fail;go_ret;exact⟨by rw[HV.out];rfl,hb2⟩
 ·rw[decide_eq_false h60]at hT
  have HV:Hid (v=false):=HN.out h60;go_enter Tryz.func22,Tryz.ntmps22;go_wp2_with fail;refine hT.mono ?_;rintro e w1 ⟨rfl,hw⟩;have hw2:=hw.symm;clear hw hT;subst hw2;go_wp2_with fail;go_ret;exact⟨by rw[HV.out];rfl,Below.refl _ _⟩
theorem bQq (s:ByteArray)(hs:s.size<=1048576)(w:World)(G:Nat->Prop)(L p:Nat)(l:Ls.Ln)(h:LensV w G L p l) :
  Calls Tryz.prog 24 #[.pointer (some ⟨L,0,none⟩),.string s] w fun e w'=>e=.returned (if B7 (Ls.dXx l) s.data.toList=true then .tuple #[A4 (A6 l s.data.toList),.int .i64 0] else .tuple #[.string ⟨#[]⟩,.int .i64 5])/\Below w.heap.size w w':=by
 have hI:=dQ4 s hs w G L p l h;have hlen:s.data.toList.length=s.size:=by simp
 obtain⟨t1,y1,n1,t2,y2,n2,g,c,u,_,h2,h3,h4,h5,h6,h7⟩:=h.part;have HIN:Hid (B7 (Ls.dXx l) s.data.toList=true->s.data.toList.length<=60/\Ls.inL (Ls.dXu (Ls.dS l)) s.data.toList):=fun ho=>by
  unfold B7 at ho;rw[Bool.and_eq_true,decide_eq_true_eq]at ho;exact⟨ho.2,(Ls.eXv l h.ok _).2 ((Ls.eX0 _ (Ls.OkL.src _ h.ok).ok _).1 ho.1)⟩
 have hgx:=Y8 h.ok h.size (by have:=h.few;omega);obtain⟨f,caps,rfl,hcf,hF⟩:=Turns.at h.old h5;have HF:Hid (∀W,Below w.heap.size w W->B7 (Ls.dXx l) s.data.toList=true->Calls Tryz.prog f (#[.string s]++caps) W fun e w'=>e=.returned (A4 (A6 l s.data.toList))/\Below W.heap.size W w'):=fun W hW ho=>by
  have:=hF W hW s.data.toList (HIN.out ho).1 (HIN.out ho).2;unfold A4 at this;rw[aQ5]at this;exact this
 have HL:Hid (B7 (Ls.dXx l) s.data.toList=true->(A6 l s.data.toList).length<=140737488355328):=fun ho=>by
  have h1:=L9 l s.data.toList;have h2:(s.data.toList.length+1)*gx l<=61*gx l:=Nat.mul_le_mul_right _ (by have:=(HIN.out ho).1;omega);omega
 have HS:Hid (∀W:World,Below w.heap.size w W->W.cell? ⟨L,0,none⟩=some (.pointer (some ⟨p,0,none⟩))/\W.cell? ⟨p,4,none⟩=some (.func (.func f) #[] caps)):=fun W hW=>⟨(h.blk.below hW h.blk.lt).cell 0,(h2.below hW h2.lt).cell 4⟩;clear h h2 h3 h4 h5 h6 h7 hF hgx;generalize A6 l s.data.toList=r at *;generalize B7 (Ls.dXx l) s.data.toList=v at *;cases v with
 | false=>
  go_enter Tryz.func24,Tryz.ntmps24;go_wp2_with fail;refine hI.mono ?_;clear hI;rintro e w1 ⟨rfl,hb1⟩;go_wp2_with fail;go_ret2;exact⟨rfl,hb1⟩
 | true=>
  have HC:=HL.out rfl;have HF2:Hid (∀W,Below w.heap.size w W->Calls Tryz.prog f (#[.string s]++caps) W fun e w'=>e=.returned (A4 r)/\Below W.heap.size W w'):=fun W hW=>HF.out W hW rfl;clear HF HL HIN;go_enter Tryz.func24,Tryz.ntmps24;go_wp2_with fail;refine hI.mono ?_;clear hI;rintro e w1 ⟨rfl,hb1⟩;obtain⟨c0,c1⟩:=HS.out w1 hb1;have hG:=HF2.out w1 hb1;go_wp2_with fail;refine hG.mono ?_;clear hG;rintro e w2 ⟨rfl,hb2⟩;go_wp2_with fail;refine(fQ1 r HC w2).mono ?_;rintro e w3 ⟨rfl,hb3⟩;go_wp2_with fail;go_ret2;exact⟨rfl,Below.join hb1 (Below.join hb2 hb3)⟩
theorem dQu (s:ByteArray)(hs:s.size<=1048576)(w:World)(G:Nat->Prop)(L p:Nat)(l:Ls.Ln)(h:LensV w G L p l) :
  Calls Tryz.prog 26 #[.pointer (some ⟨L,0,none⟩),.string s] w fun e w'=>e=.returned (if B7 (Ls.dXv l) s.data.toList=true then .tuple #[A4 (A9 l s.data.toList),.int .i64 0] else .tuple #[.string ⟨#[]⟩,.int .i64 6])/\Below w.heap.size w w':=by
 have hI:=dQ7 s hs w G L p l h;have hlen:s.data.toList.length=s.size:=by simp
 obtain⟨t1,y1,n1,t2,y2,n2,g,c,u,_,h2,h3,h4,h5,h6,h7⟩:=h.part;have HIN:Hid (B7 (Ls.dXv l) s.data.toList=true->s.data.toList.length<=60/\Ls.inL (Ls.dXu (Ls.dV l)) s.data.toList):=fun ho=>by
  unfold B7 at ho;rw[Bool.and_eq_true,decide_eq_true_eq]at ho;exact⟨ho.2,(Ls.eXx l h.ok _).2 ((Ls.eX0 _ (Ls.OkL.view _ h.ok).ok _).1 ho.1)⟩
 have hgx:=Y8 h.ok h.size (by have:=h.few;omega);obtain⟨f,caps,rfl,hcf,hF⟩:=Turns.at h.old h6;have HF:Hid (∀W,Below w.heap.size w W->B7 (Ls.dXv l) s.data.toList=true->Calls Tryz.prog f (#[.string s]++caps) W fun e w'=>e=.returned (A4 (A9 l s.data.toList))/\Below W.heap.size W w'):=fun W hW ho=>by
  have:=hF W hW s.data.toList (HIN.out ho).1 (HIN.out ho).2;unfold A4 at this;rw[aQ5]at this;exact this
 have HL:Hid (B7 (Ls.dXv l) s.data.toList=true->(A9 l s.data.toList).length<=140737488355328):=fun ho=>by
  have h1:=J1 l s.data.toList;have h2:(s.data.toList.length+1)*gx l<=61*gx l:=Nat.mul_le_mul_right _ (by have:=(HIN.out ho).1;omega);omega
 have HS:Hid (∀W:World,Below w.heap.size w W->W.cell? ⟨L,0,none⟩=some (.pointer (some ⟨p,0,none⟩))/\W.cell? ⟨p,5,none⟩=some (.func (.func f) #[] caps)):=fun W hW=>⟨(h.blk.below hW h.blk.lt).cell 0,(h2.below hW h2.lt).cell 5⟩;clear h h2 h3 h4 h5 h6 h7 hF hgx;generalize A9 l s.data.toList=r at *;generalize B7 (Ls.dXv l) s.data.toList=v at *;cases v with
 | false=>
  go_enter Tryz.func26,Tryz.ntmps26;go_wp2_with fail;refine hI.mono ?_;clear hI;rintro e w1 ⟨rfl,hb1⟩;go_wp2_with fail;go_ret2;exact⟨rfl,hb1⟩
 | true=>
  have HC:=HL.out rfl;have HF2:Hid (∀W,Below w.heap.size w W->Calls Tryz.prog f (#[.string s]++caps) W fun e w'=>e=.returned (A4 r)/\Below W.heap.size W w'):=fun W hW=>HF.out W hW rfl;clear HF HL HIN;go_enter Tryz.func26,Tryz.ntmps26;go_wp2_with fail;refine hI.mono ?_;clear hI;rintro e w1 ⟨rfl,hb1⟩;obtain⟨c0,c1⟩:=HS.out w1 hb1;have hG:=HF2.out w1 hb1;go_wp2_with fail;refine hG.mono ?_;clear hG;rintro e w2 ⟨rfl,hb2⟩;go_wp2_with fail;refine(fQ1 r HC w2).mono ?_;rintro e w3 ⟨rfl,hb3⟩;go_wp2_with fail;go_ret2;exact⟨rfl,Below.join hb1 (Below.join hb2 hb3)⟩
def bQv (l:Ls.Ln)(v s:List UInt8):Value:=
 if B7 (Ls.dXv l) v=true then (if B7 (Ls.dXx l) s=true then .tuple #[A4 (B4 l v s),.int .i64 0] else .tuple #[.string ⟨#[]⟩,.int .i64 5]) else .tuple #[.string ⟨#[]⟩,.int .i64 6]
theorem cQs (v s:ByteArray)(hv:v.size<=1048576)(hs:s.size<=1048576)(w:World)(G:Nat->Prop)(L p:Nat)(l:Ls.Ln)(h:LensV w G L p l) :
  Calls Tryz.prog 28 #[.pointer (some ⟨L,0,none⟩),.string v,.string s] w fun e w'=>e=.returned (bQv l v.data.toList s.data.toList)/\Below w.heap.size w w':=by
 have hI:=dQ7 v hv w G L p l h;have HJ:Hid (∀W,Below w.heap.size w W->Calls Tryz.prog 20 #[.pointer (some ⟨L,0,none⟩),.string s] W fun e w'=>e=.returned (.bool (B7 (Ls.dXx l) s.data.toList))/\Below W.heap.size W w'):=fun W hW=>dQ4 s hs W G L p l (h.below hW);obtain⟨t1,y1,n1,t2,y2,n2,g,c,u,_,h2,h3,h4,h5,h6,h7⟩:=h.part;have HIN:Hid (B7 (Ls.dXv l) v.data.toList=true->v.data.toList.length<=60/\Ls.inL (Ls.dXu (Ls.dV l)) v.data.toList):=fun ho=>by
  unfold B7 at ho;rw[Bool.and_eq_true,decide_eq_true_eq]at ho;exact⟨ho.2,(Ls.eXx l h.ok _).2 ((Ls.eX0 _ (Ls.OkL.view _ h.ok).ok _).1 ho.1)⟩
 have HIS:Hid (B7 (Ls.dXx l) s.data.toList=true->s.data.toList.length<=60/\Ls.inL (Ls.dXu (Ls.dS l)) s.data.toList):=fun ho=>by
  unfold B7 at ho;rw[Bool.and_eq_true,decide_eq_true_eq]at ho;exact⟨ho.2,(Ls.eXv l h.ok _).2 ((Ls.eX0 _ (Ls.OkL.src _ h.ok).ok _).1 ho.1)⟩
 have hgx:=Y8 h.ok h.size (by have:=h.few;omega);obtain⟨f,caps,rfl,hcf,hF⟩:=Turns2.at h.old h7;have HF:Hid (∀W,Below w.heap.size w W->B7 (Ls.dXv l) v.data.toList=true->B7 (Ls.dXx l) s.data.toList=true->Calls Tryz.prog f (#[.string v,.string s]++caps) W fun e w'=>e=.returned (A4 (B4 l v.data.toList s.data.toList))/\Below W.heap.size W w'):=fun W hW ho hp=>by
  have:=hF W hW v.data.toList s.data.toList (HIN.out ho).1 (HIS.out hp).1 (HIN.out ho).2 (HIS.out hp).2;unfold A4 at this;rw[aQ5,aQ5]at this;exact this
 have HL:Hid (B7 (Ls.dXv l) v.data.toList=true->B7 (Ls.dXx l) s.data.toList=true->(B4 l v.data.toList s.data.toList).length<=140737488355328):=fun ho hp=>by
  have h1:=O9 l v.data.toList s.data.toList;have h2:(v.data.toList.length+s.data.toList.length+2)*gx l<=122*gx l:=Nat.mul_le_mul_right _ (by have:=(HIN.out ho).1;have:=(HIS.out hp).1;omega);omega
 have HS:Hid (∀W:World,Below w.heap.size w W->W.cell? ⟨L,0,none⟩=some (.pointer (some ⟨p,0,none⟩))/\W.cell? ⟨p,6,none⟩=some (.func (.func f) #[] caps)):=fun W hW=>⟨(h.blk.below hW h.blk.lt).cell 0,(h2.below hW h2.lt).cell 6⟩;clear h h2 h3 h4 h5 h6 h7 hF hgx;unfold bQv;generalize B4 l v.data.toList s.data.toList=r at *;generalize B7 (Ls.dXv l) v.data.toList=zv at *;generalize B7 (Ls.dXx l) s.data.toList=zs at *;cases zv with
 | false=>
  go_enter Tryz.func28,Tryz.ntmps28;go_wp2_with fail;refine hI.mono ?_;clear hI;rintro e w1 ⟨rfl,hb1⟩;go_wp2_with fail;go_ret2;exact⟨rfl,hb1⟩
 | true=>
  cases zs with
  | false=>
   go_enter Tryz.func28,Tryz.ntmps28;go_wp2_with fail;refine hI.mono ?_;clear hI;rintro e w1 ⟨rfl,hb1⟩;have hJ:=HJ.out w1 hb1;go_wp2_with fail;refine hJ.mono ?_;clear hJ;rintro e w2 ⟨rfl,hb2⟩;go_wp2_with fail;go_ret2;exact⟨rfl,Below.join hb1 hb2⟩
  | true=>
   have HC:=HL.out rfl rfl;have HF2:Hid (∀W,Below w.heap.size w W->Calls Tryz.prog f (#[.string v,.string s]++caps) W fun e w'=>e=.returned (A4 r)/\Below W.heap.size W w'):=fun W hW=>HF.out W hW rfl rfl;clear HF HL HIN HIS;go_enter Tryz.func28,Tryz.ntmps28;go_wp2_with fail;refine hI.mono ?_;clear hI;rintro e w1 ⟨rfl,hb1⟩;have hJ:=HJ.out w1 hb1;go_wp2_with fail;refine hJ.mono ?_;clear hJ;rintro e w2 ⟨rfl,hb2⟩;have hbw2:=Below.join hb1 hb2;obtain⟨c0,c1⟩:=HS.out w2 hbw2;have hG:=HF2.out w2 hbw2;go_wp2_with fail;refine hG.mono ?_;clear hG;rintro e w3 ⟨rfl,hb3⟩;go_wp2_with fail;refine(fQ1 r HC w3).mono ?_;rintro e w4 ⟨rfl,hb4⟩;go_wp2_with fail;go_ret2;exact⟨rfl,Below.join hbw2 (Below.join hb3 hb4)⟩
def fQ3 (l m:Ls.Ln)(s:List UInt8):Value:=
 if B7 (Ls.dXx l) s=true then (if B7 (Ls.dXv m) (A6 l s)=true then .tuple #[A4 (A9 m (A6 l s)),.int .i64 0] else .tuple #[.string ⟨#[]⟩,.int .i64 6]) else .tuple #[.string ⟨#[]⟩,.int .i64 5]
theorem rQ7 (s:ByteArray)(hs:s.size<=1048576)(w:World)(G G':Nat->Prop)(L p L' p':Nat)(l m:Ls.Ln)(h:LensV w G L p l)(h':LensV w G' L' p' m) :
  Calls Tryz.prog 30 #[.pointer (some ⟨L,0,none⟩),.pointer (some ⟨L',0,none⟩),.string s] w fun e w'=>e=.returned (fQ3 l m s.data.toList)/\Below w.heap.size w w':=by
 have hI:=bQq s hs w G L p l h;have HC:Hid (∀W,Below w.heap.size w W->B7 (Ls.dXx l) s.data.toList=true->Calls Tryz.prog 26 #[.pointer (some ⟨L',0,none⟩),A4 (A6 l s.data.toList)] W fun e w'=>e=.returned (if B7 (Ls.dXv m) (A6 l s.data.toList)=true then .tuple #[A4 (A9 m (A6 l s.data.toList)),.int .i64 0] else .tuple #[.string ⟨#[]⟩,.int .i64 6])/\Below W.heap.size W w'):=fun W hW ho=>by
  have hl:=jQl h.few (s:=s.data.toList) (by unfold B7 at ho;rw[Bool.and_eq_true,decide_eq_true_eq]at ho;exact ho.2);exact dQu ⟨(A6 l s.data.toList).toArray⟩ (by simpa [ByteArray.size] using hl) W G' L' p' m (h'.below hW)
 unfold fQ3;clear h h';generalize B7 (Ls.dXv m) (A6 l s.data.toList)=z at *;generalize A9 m (A6 l s.data.toList)=cr at *;generalize A6 l s.data.toList=r at *;generalize B7 (Ls.dXx l) s.data.toList=zs at *;cases zs with
 | false=>
  clear HC;go_enter Tryz.func30,Tryz.ntmps30;go_wp2_with fail;refine hI.mono ?_;clear hI;rintro e w1 ⟨rfl,hb1⟩;go_wp2_with fail;go_ret2;exact⟨rfl,hb1⟩
 | true=>
  go_enter Tryz.func30,Tryz.ntmps30;go_wp2_with fail;refine hI.mono ?_;clear hI;rintro e w1 ⟨rfl,hb1⟩;have hJ:=HC.out w1 hb1 (by first|trivial|rfl);clear HC;cases z with
  | false=>
   go_wp2_with fail;refine hJ.mono ?_;clear hJ;rintro e w2 ⟨rfl,hb2⟩;go_wp2_with fail;go_ret2;exact⟨rfl,Below.join hb1 hb2⟩
  | true=>
   go_wp2_with fail;refine hJ.mono ?_;clear hJ;rintro e w2 ⟨rfl,hb2⟩;go_wp2_with fail;go_ret2;exact⟨rfl,Below.join hb1 hb2⟩
end Go.Proofs.YtfklinjaajafgaaGreatDoor
