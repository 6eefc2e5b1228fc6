import Derived.Test.YtcggfnlejalppaaGreatDoorK02
import Derived.Test.YtcggfnlejalppaaGreatDoorK31
import Derived.Test.YtcggfnlejalppaaGreatDoorK34
import Derived.Deep.RegionHeld
set_option maxRecDepth 100000
set_option maxHeartbeats 4000000
namespace Go.Proofs.YtcggfnlejalppaaGreatDoor
open Go.RowKit
def R4 (w:World)(F:Prop):Ending->World->Prop:=fun e w'=>∃b:Bool,e=.returned (.bool b)/\(b=true↔F)/\Below w.heap.size w w'
theorem aQo {a b:Nat}(p q:Ls.Pat)(hp:Ls.BdL a p)(hq:Ls.BdL b q)(ha:a<=121)(hb:b<=121)(y z:Value)(w:World)(G:Nat->Prop)(hG:Old w G)(h1:PV w G p y)(h2:PV w G q z) :
  Calls Tryz.prog 13 #[A7 p y,A7 q z] w (R4 w (¬Ls.wQ1 p q)):=by
 obtain⟨r1,n1⟩:=hp.room ha;obtain⟨r2,n2⟩:=hq.room hb;exact qQ7 p q _ _ r1 r2 (by simp) (by simp) n1 n2 hp.sg hq.sg y z w G hG h1 h2
theorem oQl {a b:Nat}(p q:Ls.Pat)(hp:Ls.BdL a p)(hq:Ls.BdL b q)(ha:a<=121)(hb:b<=121)(y z:Value)(w:World)(G:Nat->Prop)(hG:Old w G)(h1:PV w G p y)(h2:PV w G q z) :
  Calls Tryz.prog 14 #[A7 p y,A7 q z] w (R4 w (¬Ls.bXt p q)):=by
 obtain⟨r1,n1⟩:=hp.room ha;obtain⟨r2,n2⟩:=hq.room hb;exact sQo p q _ _ r1 r2 (by simp) (by simp) n1 n2 hp.sg hq.sg y z w G hG h1 h2
theorem bQm (p:Ls.Pat)(hbd:Ls.BdL 120 p)(y:Value)(w:World)(G:Nat->Prop)(hG:Old w G)(hp:PV w G p y):Calls Tryz.prog 75 #[A7 p y] w (R4 w (I7 p)):=by
 obtain⟨y1,y2,y3,rfl⟩:=PV.slice _ _ hp;have hb1:=A4 w (B5 p (.slice y1 y2 y3));have hE:=cQb p hbd.ok (.slice y1 y2 y3) _ G (fun j hj=>Nat.lt_of_lt_of_le (hG j hj) hb1.size) (hp.below hb1 (fun j hj=>hG j hj) (fun _ h=>h));have hbx:=C1 w (B7 p (.slice y1 y2 y3));have HB1:Hid _:=hb1;have HP:Hid (PV w G p (.slice y1 y2 y3)):=hp;clear hp hb1;generalize hF:I7 p=F;have HF:Hid (F=I7 p):=hF.symm;clear hF;go_enter Tryz.func75,Tryz.ntmps75;go_wp2_with fail;refine hE.mono ?_;rintro e w2 ⟨rfl,hb2⟩;have hbx2:=hbx.below hb2 (by simp);have hbw2:=Below.join HB1.out hb2;obtain⟨m0,m1,m2⟩:=hbx2.three;have hl2:=hbx2.lt;cases hem:Ls.empty p with
 | true=>
  have HN:Hid (¬I7 p):=fun h=>by have:=h.1;rw[hem]at this;cases this
  clear hem hE hbx hbx2;go_wp2_with fail;go_ret;exact⟨false,rfl,⟨fun h=>(by cases h),fun h=>absurd (HF.out▸h) HN.out⟩,hbw2⟩
 | false=>
  have HE:Hid (Ls.empty p=false):=hem;have HS:Hid (∀W,Below w2.heap.size w2 W->Calls Tryz.prog 78 #[A7 p (.slice y1 y2 y3)] W fun e w'=>∃x1 x2 x3,e=.returned (.agg #[.int .i64 (Ls.wQ9 p).kind,.string ⟨(Ls.wQ9 p).signs.toArray⟩,.slice x1 x2 x3])/\PV w' (E1 G W w') (Ls.wQ9 p) (.slice x1 x2 x3)/\Below W.heap.size W w'):=by
   intro W hW;have hbW:=Below.join hbw2 hW;refine(U8 p (.slice y1 y2 y3) W G (fun j hj=>Nat.lt_of_lt_of_le (hG j hj) hbW.size) (HP.out.below hbW (fun j hj=>hG j hj) (fun _ h=>h))).mono ?_;rintro e w' ⟨x,rfl,hx,hb⟩;obtain⟨x1,x2,x3,rfl⟩:=PV.slice _ _ hx;exact⟨x1,x2,x3,rfl,hx,hb⟩
  have HO:Hid (∀W w3 x1 x2 x3,Below w2.heap.size w2 W->Below W.heap.size W w3->PV w3 (E1 G W w3) (Ls.wQ9 p) (.slice x1 x2 x3)->Calls Tryz.prog 13 #[A7 p (.slice y1 y2 y3),A7 (Ls.wQ9 p) (.slice x1 x2 x3)] w3 (R4 w3 (¬Ls.wQ1 p (Ls.wQ9 p)))):=by
   intro W w3 x1 x2 x3 hW h3 hx;have hbW:=Below.join (Below.join hbw2 hW) h3;exact aQo p (Ls.wQ9 p) hbd (Ls.zQo hbd) (by omega) (by omega) _ _ w3 (E1 G W w3) (fun j hj=>by
    rcases hj with hj|hj
    ·exact Nat.lt_of_lt_of_le (hG j hj) hbW.size
    ·exact hj.2) (HP.out.below hbW (fun j hj=>hG j hj) (fun _ h=>.inl h)) hx
  have HBX:Hid (Lies w2 w.heap.size (B7 p (.slice y1 y2 y3))):=hbx2;clear hem hE hbx hbx2;go_wp2_with fail;go_region_with (first
   | (go_at_call 78;refine(HS.out _ ?_).mono ?_;exact(Below.refl _ _).drew;rintro e w3 ⟨x1,x2,x3,rfl,hpv,hb3⟩;have hbx3:=HBX.out.below (Below.trans (Below.refl w2.heap.size w2).drew hb3) HBX.out.lt;obtain⟨n0,n1,n2⟩:=hbx3.three)
   | (go_at_call 13;refine(HO.out _ _ _ _ _ ?_ hb3 hpv).mono ?_;exact(Below.refl _ _).drew;rintro e w4 ⟨bb,rfl,hbb,hb4⟩))
  all_goals
   have HB:Hid (bb=true↔F):=by
    show _↔_;rw[HF.out];exact⟨fun h=>⟨HE.out,hbb.1 h⟩,fun h=>hbb.2 h.2⟩
   have HW:Hid (Below w.heap.size w w4):=Below.join (Below.join hbw2 (Below.trans (Below.refl w2.heap.size w2).drew hb3)) hb4;clear hbb hbx3 n0 n1 n2 hpv;go_wp2_with fail;go_ret;exact⟨bb,rfl,HB.out,HW.out⟩
def H4 (l:Ls.Ln):Prop:=∀(y x:Value) (w:World) (G:Nat->Prop),Old w G->NV w G l y x->Calls Tryz.prog 41 #[J8 l y x] w (R4 w (B4 l))
theorem mQ5 (p:Ls.D)(ws:List UInt8):H4 ⟨0,p,ws,[]⟩:=by
 intro y x w G hG h;rw[NV]at h;obtain⟨hv,rfl⟩:=h;obtain⟨y1,y2,y3,rfl⟩:=PV.slice _ _ hv;have HT:Hid (R4 w (B4 ⟨0,p,ws,[]⟩) (.returned (.bool true)) (w.alloc (A8 0 (Ls.wQu p) ws (.slice y1 y2 y3) (.slice none 0 0)))):=⟨true,rfl,by rw[B4];simp,A4 _ _⟩;generalize B4 ⟨0,p,ws,[]⟩=F at *;clear hv;go_enter Tryz.func41,Tryz.ntmps41;go_wp2_with fail;refine wp_loop_rounds 1 ?_;rw[rounds_succ];go_wp2_with fail;go_ret;exact HT.out
theorem kQ1 (p:Ls.D)(ws:List UInt8):H4 ⟨2,p,ws,[]⟩:=by
 intro y x w G hG h;rw[NV]at h;obtain⟨hv,rfl⟩:=h;obtain⟨y1,y2,y3,rfl⟩:=PV.slice _ _ hv;have HT:Hid (R4 w (B4 ⟨2,p,ws,[]⟩) (.returned (.bool true)) (w.alloc (A8 2 (Ls.wQu p) ws (.slice y1 y2 y3) (.slice none 0 0)))):=⟨true,rfl,by rw[B4];simp,A4 _ _⟩;generalize B4 ⟨2,p,ws,[]⟩=F at *;clear hv;go_enter Tryz.func41,Tryz.ntmps41;go_wp2_with fail;refine wp_loop_rounds 1 ?_;rw[rounds_succ];go_wp2_with fail;go_ret;exact HT.out
theorem qQx (p:Ls.D)(ws:List UInt8)(hws:ws.length<=1048576)(hb:Ls.BdL 120 (Ls.wQu p)):H4 ⟨1,p,ws,[]⟩:=by
 intro y x w G hG h;rw[NV]at h;obtain⟨hv,rfl⟩:=h;obtain⟨y1,y2,y3,rfl⟩:=PV.slice _ _ hv;have hb1:=A4 w (A8 1 (Ls.wQu p) ws (.slice y1 y2 y3) (.slice none 0 0));have hC:=fQk (Ls.wQu p) _ (hb.room (by omega)).1 (by simp) ⟨ws.toArray⟩ (by show ws.toArray.size<=_;unfold maxLen;simp;omega) (.slice y1 y2 y3) _ G (fun j hj=>Nat.lt_of_lt_of_le (hG j hj) hb1.size) (hv.below hb1 (fun j hj=>hG j hj) (fun _ h=>h));rw[show (ByteArray.mk ws.toArray).data.toList=ws from rfl]at hC;have HF:Hid (B4 ⟨1,p,ws,[]⟩↔Ls.is (Ls.wQu p) ws=true):=by
  show _↔_;rw[B4];simp
 have HB1:Hid _:=hb1;generalize B4 ⟨1,p,ws,[]⟩=F at *;clear hv hb1;go_enter Tryz.func41,Tryz.ntmps41;go_wp2_with fail;refine wp_loop_rounds 1 ?_;rw[rounds_succ];go_wp2_with fail;refine hC.mono ?_;rintro e w2 ⟨rfl,hb2⟩;go_wp2_with fail;go_ret;exact⟨_,rfl,HF.out.symm,Below.join HB1.out hb2⟩
theorem mQw (p:Ls.D)(ws:List UInt8)(a:Ls.Ln)(ha:H4 a)(hS:D4 a)(hV:E9 a)(d1:Ls.BdL 120 (Ls.wQx a))(d2:Ls.BdL 120 (Ls.wQw a)):H4 ⟨6,p,ws,[a]⟩:=by
 intro y x w G hG h;rw[NV]at h;obtain⟨hv,g,v1,u1,hg,rfl,hli,hna⟩:=h;obtain⟨y1,y2,y3,rfl⟩:=PV.slice _ _ hv;obtain⟨⟨b1,b2,b3,rfl⟩,t1,t2,t3,rfl⟩:=NV.slices _ _ _ hna;have hgl:=hG g hg;have HF:Hid (B4 ⟨6,p,ws,[a]⟩↔B4 a/\I7 (Ls.wQx a)/\I7 (Ls.wQw a)):=by
  show _↔_;rw[B4]
 generalize B4 ⟨6,p,ws,[a]⟩=F at *;have hb0:=A4 w (A8 6 (Ls.wQu p) ws (.slice y1 y2 y3) (.slice (some ⟨g,0,none⟩) 1 1));have HNA:Hid (∀W,Below w.heap.size w W->NV W G a (.slice b1 b2 b3) (.slice t1 t2 t3)):=fun W hW=>hna.below hW (fun j hj=>hG j hj) (fun _ h=>h);have HO:Hid (∀W,Below w.heap.size w W->Old W G):=fun W hW j hj=>Nat.lt_of_lt_of_le (hG j hj) hW.size;have HLI:Hid (∀W,Below w.heap.size w W->LiesL W g (D2 a (.slice b1 b2 b3) (.slice t1 t2 t3))):=fun W hW=>hli.of_block (hW.block g hgl);have HBX:Hid (∀W,Below (w.alloc (A8 6 (Ls.wQu p) ws (.slice y1 y2 y3) (.slice (some ⟨g,0,none⟩) 1 1))).heap.size (w.alloc (A8 6 (Ls.wQu p) ws (.slice y1 y2 y3) (.slice (some ⟨g,0,none⟩) 1 1))) W->LiesL W w.heap.size [.int .i64 (6:Nat),.int .i64 (Ls.wQu p).kind,.string ⟨(Ls.wQu p).signs.toArray⟩,.slice y1 y2 y3,.string ⟨ws.toArray⟩,.slice (some ⟨g,0,none⟩) 1 1]):=fun W hW=>(I0 w 6 (Ls.wQu p) ws (.slice y1 y2 y3) (.slice (some ⟨g,0,none⟩) 1 1)).of_block (hW.block _ (by simp));have hC:=ha _ _ _ G (HO.out _ hb0) (HNA.out _ hb0);obtain⟨a0,a1,a2,a3,a4,a5⟩:=hli.six;have HS:Hid (D4 a):=hS;have HV:Hid (E9 a):=hV;have HB0:Hid _:=hb0;clear hv hna hli hb0 hS hV ha;go_enter Tryz.func41,Tryz.ntmps41;go_wp2_with fail;refine wp_loop_rounds 2 ?_;rw[rounds_succ];go_wp2_with fail;refine hC.mono ?_;rintro e w2 ⟨tb,rfl,htb,hb2⟩;have hbw2:=Below.join HB0.out hb2;obtain⟨e0,e1,e2,e3,e4,e5⟩:=(HBX.out w2 hb2).six;obtain⟨r0,r1,r2,r3,r4,r5⟩:=(HLI.out w2 hbw2).six;have HTB:Hid (tb=true↔B4 a):=htb;clear a0 a1 a2 a3 a4 a5 hC htb;cases tb with
 | false=>
  have HN:Hid (¬F):=fun h=>by have:=HTB.out.2 (HF.out.1 h).1;cases this
  go_wp2_with fail;go_ret;exact⟨false,rfl,⟨fun h=>(by cases h),fun h=>absurd h HN.out⟩,hbw2⟩
 | true=>
  have HT1:Hid (B4 a):=HTB.out.1 rfl;have hC1:=HS.out _ _ w2 G (HO.out _ hbw2) (HNA.out _ hbw2);clear HTB;go_wp2_with fail;rw[rounds_succ];go_wp2_with fail;refine hC1.mono ?_;rintro e w3 ⟨v,rfl,hp3,hb3⟩;obtain⟨s1,s2,s3,rfl⟩:=PV.slice _ _ hp3;have hbw3:=Below.join hbw2 hb3;have hC2:=bQm (Ls.wQx a) d1 (.slice s1 s2 s3) w3 (E1 G w2 w3) (fun j hj=>by
   rcases hj with hj|hj
   ·exact HO.out _ hbw3 j hj
   ·exact hj.2) hp3
  clear hC1 hp3 e0 e1 e2 e3 e4 e5 r0 r1 r2 r3 r4 r5;go_wp2_with fail;refine hC2.mono ?_;rintro e w4 ⟨pb1,rfl,hpb1,hb4⟩;have hbw4:=Below.join hbw3 hb4;obtain⟨e0,e1,e2,e3,e4,e5⟩:=(HBX.out w4 (Below.join (Below.join hb2 hb3) hb4)).six;obtain⟨r0,r1,r2,r3,r4,r5⟩:=(HLI.out w4 hbw4).six;have hC3:=HV.out _ _ w4 G (HO.out _ hbw4) (HNA.out _ hbw4);have HP1:Hid (pb1=true↔I7 (Ls.wQx a)):=hpb1;clear hC2 hpb1;go_wp2_with fail;refine hC3.mono ?_;rintro e w5 ⟨v,rfl,hp5,hb5⟩;obtain⟨n1,n2,n3,rfl⟩:=PV.slice _ _ hp5;have hbw5:=Below.join hbw4 hb5;have hC4:=bQm (Ls.wQw a) d2 (.slice n1 n2 n3) w5 (E1 G w4 w5) (fun j hj=>by
   rcases hj with hj|hj
   ·exact HO.out _ hbw5 j hj
   ·exact hj.2) hp5
  clear hC3 hp5 e0 e1 e2 e3 e4 e5 r0 r1 r2 r3 r4 r5;go_wp2_with fail;refine hC4.mono ?_;rintro e w6 ⟨pb2,rfl,hpb2,hb6⟩;have HBW:Hid (Below w.heap.size w w6):=Below.join hbw5 hb6;have HX:Hid ((pb1&&pb2)=true↔F):=by
   show _↔_;rw[HF.out,Bool.and_eq_true,HP1.out,hpb2];exact⟨fun h=>⟨HT1.out,h⟩,fun h=>h.2⟩
  clear hC4 hpb2;cases pb1 with
  | false=>
   go_wp2_with fail;go_ret;exact⟨false,rfl,HX.out,HBW.out⟩
  | true=>
   have HX2:Hid (pb2=true↔F):=HX.out;go_wp2_with fail;go_ret;exact⟨pb2,rfl,HX2.out,HBW.out⟩
theorem jQx (p:Ls.D)(ws:List UInt8)(a:Ls.Ln)(ha:H4 a)(hS:D4 a)(hV:E9 a)(d1:Ls.BdL 120 (Ls.wQx a))(d2:Ls.BdL 120 (Ls.wQw a)):H4 ⟨7,p,ws,[a]⟩:=by
 intro y x w G hG h;rw[NV]at h;obtain⟨hv,g,v1,u1,hg,rfl,hli,hna⟩:=h;obtain⟨y1,y2,y3,rfl⟩:=PV.slice _ _ hv;obtain⟨⟨b1,b2,b3,rfl⟩,t1,t2,t3,rfl⟩:=NV.slices _ _ _ hna;have hgl:=hG g hg;have HF:Hid (B4 ⟨7,p,ws,[a]⟩↔B4 a/\I7 (Ls.wQx a)/\I7 (Ls.wQw a)):=by
  show _↔_;rw[B4]
 generalize B4 ⟨7,p,ws,[a]⟩=F at *;have hb0:=A4 w (A8 7 (Ls.wQu p) ws (.slice y1 y2 y3) (.slice (some ⟨g,0,none⟩) 1 1));have HNA:Hid (∀W,Below w.heap.size w W->NV W G a (.slice b1 b2 b3) (.slice t1 t2 t3)):=fun W hW=>hna.below hW (fun j hj=>hG j hj) (fun _ h=>h);have HO:Hid (∀W,Below w.heap.size w W->Old W G):=fun W hW j hj=>Nat.lt_of_lt_of_le (hG j hj) hW.size;have HLI:Hid (∀W,Below w.heap.size w W->LiesL W g (D2 a (.slice b1 b2 b3) (.slice t1 t2 t3))):=fun W hW=>hli.of_block (hW.block g hgl);have HBX:Hid (∀W,Below (w.alloc (A8 7 (Ls.wQu p) ws (.slice y1 y2 y3) (.slice (some ⟨g,0,none⟩) 1 1))).heap.size (w.alloc (A8 7 (Ls.wQu p) ws (.slice y1 y2 y3) (.slice (some ⟨g,0,none⟩) 1 1))) W->LiesL W w.heap.size [.int .i64 (7:Nat),.int .i64 (Ls.wQu p).kind,.string ⟨(Ls.wQu p).signs.toArray⟩,.slice y1 y2 y3,.string ⟨ws.toArray⟩,.slice (some ⟨g,0,none⟩) 1 1]):=fun W hW=>(I0 w 7 (Ls.wQu p) ws (.slice y1 y2 y3) (.slice (some ⟨g,0,none⟩) 1 1)).of_block (hW.block _ (by simp));have hC:=ha _ _ _ G (HO.out _ hb0) (HNA.out _ hb0);obtain⟨a0,a1,a2,a3,a4,a5⟩:=hli.six;have HS:Hid (D4 a):=hS;have HV:Hid (E9 a):=hV;have HB0:Hid _:=hb0;clear hv hna hli hb0 hS hV ha;go_enter Tryz.func41,Tryz.ntmps41;go_wp2_with fail;refine wp_loop_rounds 2 ?_;rw[rounds_succ];go_wp2_with fail;refine hC.mono ?_;rintro e w2 ⟨tb,rfl,htb,hb2⟩;have hbw2:=Below.join HB0.out hb2;obtain⟨e0,e1,e2,e3,e4,e5⟩:=(HBX.out w2 hb2).six;obtain⟨r0,r1,r2,r3,r4,r5⟩:=(HLI.out w2 hbw2).six;have HTB:Hid (tb=true↔B4 a):=htb;clear a0 a1 a2 a3 a4 a5 hC htb;cases tb with
 | false=>
  have HN:Hid (¬F):=fun h=>by have:=HTB.out.2 (HF.out.1 h).1;cases this
  go_wp2_with fail;go_ret;exact⟨false,rfl,⟨fun h=>(by cases h),fun h=>absurd h HN.out⟩,hbw2⟩
 | true=>
  have HT1:Hid (B4 a):=HTB.out.1 rfl;have hC1:=HS.out _ _ w2 G (HO.out _ hbw2) (HNA.out _ hbw2);clear HTB;go_wp2_with fail;rw[rounds_succ];go_wp2_with fail;refine hC1.mono ?_;rintro e w3 ⟨v,rfl,hp3,hb3⟩;obtain⟨s1,s2,s3,rfl⟩:=PV.slice _ _ hp3;have hbw3:=Below.join hbw2 hb3;have hC2:=bQm (Ls.wQx a) d1 (.slice s1 s2 s3) w3 (E1 G w2 w3) (fun j hj=>by
   rcases hj with hj|hj
   ·exact HO.out _ hbw3 j hj
   ·exact hj.2) hp3
  clear hC1 hp3 e0 e1 e2 e3 e4 e5 r0 r1 r2 r3 r4 r5;go_wp2_with fail;refine hC2.mono ?_;rintro e w4 ⟨pb1,rfl,hpb1,hb4⟩;have hbw4:=Below.join hbw3 hb4;obtain⟨e0,e1,e2,e3,e4,e5⟩:=(HBX.out w4 (Below.join (Below.join hb2 hb3) hb4)).six;obtain⟨r0,r1,r2,r3,r4,r5⟩:=(HLI.out w4 hbw4).six;have hC3:=HV.out _ _ w4 G (HO.out _ hbw4) (HNA.out _ hbw4);have HP1:Hid (pb1=true↔I7 (Ls.wQx a)):=hpb1;clear hC2 hpb1;go_wp2_with fail;refine hC3.mono ?_;rintro e w5 ⟨v,rfl,hp5,hb5⟩;obtain⟨n1,n2,n3,rfl⟩:=PV.slice _ _ hp5;have hbw5:=Below.join hbw4 hb5;have hC4:=bQm (Ls.wQw a) d2 (.slice n1 n2 n3) w5 (E1 G w4 w5) (fun j hj=>by
   rcases hj with hj|hj
   ·exact HO.out _ hbw5 j hj
   ·exact hj.2) hp5
  clear hC3 hp5 e0 e1 e2 e3 e4 e5 r0 r1 r2 r3 r4 r5;go_wp2_with fail;refine hC4.mono ?_;rintro e w6 ⟨pb2,rfl,hpb2,hb6⟩;have HBW:Hid (Below w.heap.size w w6):=Below.join hbw5 hb6;have HX:Hid ((pb1&&pb2)=true↔F):=by
   show _↔_;rw[HF.out,Bool.and_eq_true,HP1.out,hpb2];exact⟨fun h=>⟨HT1.out,h⟩,fun h=>h.2⟩
  clear hC4 hpb2;cases pb1 with
  | false=>
   go_wp2_with fail;go_ret;exact⟨false,rfl,HX.out,HBW.out⟩
  | true=>
   have HX2:Hid (pb2=true↔F):=HX.out;go_wp2_with fail;go_ret;exact⟨pb2,rfl,HX2.out,HBW.out⟩
theorem iQ3 (p:Ls.D)(ws:List UInt8)(a b:Ls.Ln)(ha:H4 a)(hb:H4 b)(hSa:D4 a)(hSb:D4 b)(d1:Ls.BdL 120 (Ls.wQx a))(d2:Ls.BdL 120 (Ls.wQx b)):H4 ⟨5,p,ws,[a,b]⟩:=by
 intro y x w G hG h;rw[NV]at h;obtain⟨hv,g,v1,u1,v2,u2,hg,rfl,hli,hna,hnb⟩:=h;obtain⟨y1,y2,y3,rfl⟩:=PV.slice _ _ hv;obtain⟨⟨b1,b2,b3,rfl⟩,t1,t2,t3,rfl⟩:=NV.slices _ _ _ hna;obtain⟨⟨c1,c2,c3,rfl⟩,f1,f2,f3,rfl⟩:=NV.slices _ _ _ hnb;have hgl:=hG g hg;have HF:Hid (B4 ⟨5,p,ws,[a,b]⟩↔B4 a/\B4 b/\¬Ls.bXt (Ls.wQx a) (Ls.wQx b)):=by
  show _↔_;rw[B4];simp
 generalize B4 ⟨5,p,ws,[a,b]⟩=F at *;have hb0:=A4 w (A8 5 (Ls.wQu p) ws (.slice y1 y2 y3) (.slice (some ⟨g,0,none⟩) 2 2));have HNA:Hid (∀W,Below w.heap.size w W->NV W G a (.slice b1 b2 b3) (.slice t1 t2 t3)):=fun W hW=>hna.below hW (fun j hj=>hG j hj) (fun _ h=>h);have HNB:Hid (∀W,Below w.heap.size w W->NV W G b (.slice c1 c2 c3) (.slice f1 f2 f3)):=fun W hW=>hnb.below hW (fun j hj=>hG j hj) (fun _ h=>h);have HO:Hid (∀W,Below w.heap.size w W->Old W G):=fun W hW j hj=>Nat.lt_of_lt_of_le (hG j hj) hW.size;have HLI:Hid (∀W,Below w.heap.size w W->LiesL W g (D2 a (.slice b1 b2 b3) (.slice t1 t2 t3)++D2 b (.slice c1 c2 c3) (.slice f1 f2 f3))):=fun W hW=>hli.of_block (hW.block g hgl);have HBX:Hid (∀W,Below (w.alloc (A8 5 (Ls.wQu p) ws (.slice y1 y2 y3) (.slice (some ⟨g,0,none⟩) 2 2))).heap.size (w.alloc (A8 5 (Ls.wQu p) ws (.slice y1 y2 y3) (.slice (some ⟨g,0,none⟩) 2 2))) W->LiesL W w.heap.size [.int .i64 (5:Nat),.int .i64 (Ls.wQu p).kind,.string ⟨(Ls.wQu p).signs.toArray⟩,.slice y1 y2 y3,.string ⟨ws.toArray⟩,.slice (some ⟨g,0,none⟩) 2 2]):=fun W hW=>(I0 w 5 (Ls.wQu p) ws (.slice y1 y2 y3) (.slice (some ⟨g,0,none⟩) 2 2)).of_block (hW.block _ (by simp));have HSS0:Hid (∀w',Below w.heap.size w w'->Below (w.alloc (A8 5 (Ls.wQu p) ws (.slice y1 y2 y3) (.slice (some ⟨g,0,none⟩) 2 2))).heap.size (w.alloc (A8 5 (Ls.wQu p) ws (.slice y1 y2 y3) (.slice (some ⟨g,0,none⟩) 2 2))) w'->w'.cell? ⟨w.heap.size,5,none⟩=some (.slice (some ⟨g,0,none⟩) 2 2)/\w'.cell? ⟨g,0,none⟩=some (.int .i64 a.kind)/\w'.cell? ⟨g,1,none⟩=some (.int .i64 (Ls.wQu a.p).kind)/\w'.cell? ⟨g,2,none⟩=some (.string ⟨(Ls.wQu a.p).signs.toArray⟩)/\w'.cell? ⟨g,3,none⟩=some (.slice b1 b2 b3)/\w'.cell? ⟨g,4,none⟩=some (.string ⟨a.w.toArray⟩)/\w'.cell? ⟨g,5,none⟩=some (.slice t1 t2 t3)/\w'.cell? ⟨g,6,none⟩=some (.int .i64 b.kind)/\w'.cell? ⟨g,7,none⟩=some (.int .i64 (Ls.wQu b.p).kind)/\w'.cell? ⟨g,8,none⟩=some (.string ⟨(Ls.wQu b.p).signs.toArray⟩)/\w'.cell? ⟨g,9,none⟩=some (.slice c1 c2 c3)/\w'.cell? ⟨g,10,none⟩=some (.string ⟨b.w.toArray⟩)/\w'.cell? ⟨g,11,none⟩=some (.slice f1 f2 f3)):=fun w' h1 h2=>by
  have l1:=HBX.out w' h2;have l2:=HLI.out w' h1;exact⟨l1.cell 5,l2.cell 0,l2.cell 1,l2.cell 2,l2.cell 3,l2.cell 4,l2.cell 5,l2.cell 6,l2.cell 7,l2.cell 8,l2.cell 9,l2.cell 10,l2.cell 11⟩
 have hC:=ha _ _ _ G (HO.out _ hb0) (HNA.out _ hb0);obtain⟨-,a0,a1,a2,a3,a4,a5,a6,a7,a8,a9,a10,a11⟩:True/\w.cell? ⟨g,0,none⟩=some (.int .i64 a.kind)/\w.cell? ⟨g,1,none⟩=some (.int .i64 (Ls.wQu a.p).kind)/\w.cell? ⟨g,2,none⟩=some (.string ⟨(Ls.wQu a.p).signs.toArray⟩)/\w.cell? ⟨g,3,none⟩=some (.slice b1 b2 b3)/\w.cell? ⟨g,4,none⟩=some (.string ⟨a.w.toArray⟩)/\w.cell? ⟨g,5,none⟩=some (.slice t1 t2 t3)/\w.cell? ⟨g,6,none⟩=some (.int .i64 b.kind)/\w.cell? ⟨g,7,none⟩=some (.int .i64 (Ls.wQu b.p).kind)/\w.cell? ⟨g,8,none⟩=some (.string ⟨(Ls.wQu b.p).signs.toArray⟩)/\w.cell? ⟨g,9,none⟩=some (.slice c1 c2 c3)/\w.cell? ⟨g,10,none⟩=some (.string ⟨b.w.toArray⟩)/\w.cell? ⟨g,11,none⟩=some (.slice f1 f2 f3):=by
  have l2:=hli;exact⟨trivial,l2.cell 0,l2.cell 1,l2.cell 2,l2.cell 3,l2.cell 4,l2.cell 5,l2.cell 6,l2.cell 7,l2.cell 8,l2.cell 9,l2.cell 10,l2.cell 11⟩
 have HSa:Hid (D4 a):=hSa;have HSb:Hid (D4 b):=hSb;have HTb:Hid (H4 b):=hb;have HB0:Hid _:=hb0;clear hv hna hnb hli hb0 hSa hSb ha hb;go_enter Tryz.func41,Tryz.ntmps41;go_wp2_with fail;refine wp_loop_rounds 3 ?_;rw[rounds_succ];go_wp2_with fail;refine hC.mono ?_;rintro e w2 ⟨ta,rfl,hta,hb2⟩;have hbw2:=Below.join HB0.out hb2;obtain⟨e5,r0,r1,r2,r3,r4,r5,r6,r7,r8,r9,r10,r11⟩:=HSS0.out w2 hbw2 hb2;have HTA:Hid (ta=true↔B4 a):=hta;have e0:=(HBX.out w2 hb2).cell 0;clear a0 a1 a2 a3 a4 a5 a6 a7 a8 a9 a10 a11 hC hta;cases ta with
 | false=>
  have HN:Hid (¬F):=fun h=>by have:=HTA.out.2 (HF.out.1 h).1;cases this
  go_wp2_with fail;go_ret;exact⟨false,rfl,⟨fun h=>(by cases h),fun h=>absurd h HN.out⟩,hbw2⟩
 | true=>
  have HT1:Hid (B4 a):=HTA.out.1 rfl;have hC1:=HTb.out _ _ w2 G (HO.out _ hbw2) (HNB.out _ hbw2);clear HTA;go_wp2_with fail;rw[rounds_succ];go_wp2_with fail;refine hC1.mono ?_;rintro e w3 ⟨tb,rfl,htb,hb3⟩;have hb23:=Below.join hb2 hb3;have hbw3:=Below.join hbw2 hb3;have HTB:Hid (tb=true↔B4 b):=htb;clear e5 r0 r1 r2 r3 r4 r5 r6 r7 r8 r9 r10 r11 hC1 htb e0;have hs3:=HSS0.out w3 hbw3 hb23;have HS3:Hid _:=hs3;obtain⟨e5,r0,r1,r2,r3,r4,r5,r6,r7,r8,r9,r10,r11⟩:=hs3;have e0:=(HBX.out w3 hb23).cell 0;cases tb with
  | false=>
   have HN:Hid (¬F):=fun h=>by have:=HTB.out.2 (HF.out.1 h).2.1;cases this
   go_wp2_with fail;go_ret;exact⟨false,rfl,⟨fun h=>(by cases h),fun h=>absurd h HN.out⟩,hbw3⟩
  | true=>
   have HT2:Hid (B4 b):=HTB.out.1 rfl;clear HTB;have HXa:Hid (∀W,Below w3.heap.size w3 W->Calls Tryz.prog 45 #[(Value.agg #[.int .i64 a.kind,.int .i64 (Ls.wQu a.p).kind,.string ⟨(Ls.wQu a.p).signs.toArray⟩,.slice b1 b2 b3,.string ⟨a.w.toArray⟩,.slice t1 t2 t3])] W fun e w'=>∃x1 x2 x3,e=.returned (.agg #[.int .i64 (Ls.wQx a).kind,.string ⟨(Ls.wQx a).signs.toArray⟩,.slice x1 x2 x3])/\Below W.heap.size W w'/\∀W',Below w'.heap.size w' W'->PV W' (fun j=>G j\/(w.heap.size<=j/\j<W'.heap.size)) (Ls.wQx a) (.slice x1 x2 x3)):=by
    intro W hW;have hbW:=Below.join hbw3 hW;refine(HSa.out _ _ W G (HO.out _ hbW) (HNA.out _ hbW)).mono ?_;rintro e w' ⟨v,rfl,hx,hbx⟩;obtain⟨x1,x2,x3,rfl⟩:=PV.slice _ _ hx;refine⟨x1,x2,x3,rfl,hbx,fun W' hW'=>hx.below hW' (fun j hj=>?_) (fun j hj=>?_)⟩
    ·rcases hj with hj|hj
     ·exact HO.out _ (Below.join hbW hbx) j hj
     ·exact hj.2
    ·rcases hj with hj|hj
     ·exact .inl hj
     ·exact .inr ⟨Nat.le_trans hbW.size hj.1,Nat.lt_of_lt_of_le hj.2 hW'.size⟩
   have HXb:Hid (∀W,Below w3.heap.size w3 W->Calls Tryz.prog 45 #[(Value.agg #[.int .i64 b.kind,.int .i64 (Ls.wQu b.p).kind,.string ⟨(Ls.wQu b.p).signs.toArray⟩,.slice c1 c2 c3,.string ⟨b.w.toArray⟩,.slice f1 f2 f3])] W fun e w'=>∃x1 x2 x3,e=.returned (.agg #[.int .i64 (Ls.wQx b).kind,.string ⟨(Ls.wQx b).signs.toArray⟩,.slice x1 x2 x3])/\Below W.heap.size W w'/\∀W',Below w'.heap.size w' W'->PV W' (fun j=>G j\/(w.heap.size<=j/\j<W'.heap.size)) (Ls.wQx b) (.slice x1 x2 x3)):=by
    intro W hW;have hbW:=Below.join hbw3 hW;refine(HSb.out _ _ W G (HO.out _ hbW) (HNB.out _ hbW)).mono ?_;rintro e w' ⟨v,rfl,hx,hbx⟩;obtain⟨x1,x2,x3,rfl⟩:=PV.slice _ _ hx;refine⟨x1,x2,x3,rfl,hbx,fun W' hW'=>hx.below hW' (fun j hj=>?_) (fun j hj=>?_)⟩
    ·rcases hj with hj|hj
     ·exact HO.out _ (Below.join hbW hbx) j hj
     ·exact hj.2
    ·rcases hj with hj|hj
     ·exact .inl hj
     ·exact .inr ⟨Nat.le_trans hbW.size hj.1,Nat.lt_of_lt_of_le hj.2 hW'.size⟩
   have HAp:Hid (∀W x1 x2 x3 z1 z2 z3,Below w3.heap.size w3 W->PV W (fun j=>G j\/(w.heap.size<=j/\j<W.heap.size)) (Ls.wQx a) (.slice x1 x2 x3)->PV W (fun j=>G j\/(w.heap.size<=j/\j<W.heap.size)) (Ls.wQx b) (.slice z1 z2 z3)->Calls Tryz.prog 14 #[A7 (Ls.wQx a) (.slice x1 x2 x3),A7 (Ls.wQx b) (.slice z1 z2 z3)] W (R4 W (¬Ls.bXt (Ls.wQx a) (Ls.wQx b)))):=by
    intro W x1 x2 x3 z1 z2 z3 hW h1 h2;exact oQl _ _ d1 d2 (by omega) (by omega) _ _ W _ (fun j hj=>by
     rcases hj with hj|hj
     ·exact HO.out _ (Below.join hbw3 hW) j hj
     ·exact hj.2) h1 h2
   have HSS:Hid (∀w',Below w3.heap.size w3 w'->w'.cell? ⟨w.heap.size,5,none⟩=some (.slice (some ⟨g,0,none⟩) 2 2)/\w'.cell? ⟨g,0,none⟩=some (.int .i64 a.kind)/\w'.cell? ⟨g,1,none⟩=some (.int .i64 (Ls.wQu a.p).kind)/\w'.cell? ⟨g,2,none⟩=some (.string ⟨(Ls.wQu a.p).signs.toArray⟩)/\w'.cell? ⟨g,3,none⟩=some (.slice b1 b2 b3)/\w'.cell? ⟨g,4,none⟩=some (.string ⟨a.w.toArray⟩)/\w'.cell? ⟨g,5,none⟩=some (.slice t1 t2 t3)/\w'.cell? ⟨g,6,none⟩=some (.int .i64 b.kind)/\w'.cell? ⟨g,7,none⟩=some (.int .i64 (Ls.wQu b.p).kind)/\w'.cell? ⟨g,8,none⟩=some (.string ⟨(Ls.wQu b.p).signs.toArray⟩)/\w'.cell? ⟨g,9,none⟩=some (.slice c1 c2 c3)/\w'.cell? ⟨g,10,none⟩=some (.string ⟨b.w.toArray⟩)/\w'.cell? ⟨g,11,none⟩=some (.slice f1 f2 f3)):=fun w' h1=>HSS0.out w' (Below.join hbw3 h1) (Below.join hb23 h1);go_wp2_with fail;rw[rounds_succ];go_wp2_with fail;go_region_held (fun w'=>w'.cell? ⟨w.heap.size,5,none⟩=some (.slice (some ⟨g,0,none⟩) 2 2)/\w'.cell? ⟨g,0,none⟩=some (.int .i64 a.kind)/\w'.cell? ⟨g,1,none⟩=some (.int .i64 (Ls.wQu a.p).kind)/\w'.cell? ⟨g,2,none⟩=some (.string ⟨(Ls.wQu a.p).signs.toArray⟩)/\w'.cell? ⟨g,3,none⟩=some (.slice b1 b2 b3)/\w'.cell? ⟨g,4,none⟩=some (.string ⟨a.w.toArray⟩)/\w'.cell? ⟨g,5,none⟩=some (.slice t1 t2 t3)/\w'.cell? ⟨g,6,none⟩=some (.int .i64 b.kind)/\w'.cell? ⟨g,7,none⟩=some (.int .i64 (Ls.wQu b.p).kind)/\w'.cell? ⟨g,8,none⟩=some (.string ⟨(Ls.wQu b.p).signs.toArray⟩)/\w'.cell? ⟨g,9,none⟩=some (.slice c1 c2 c3)/\w'.cell? ⟨g,10,none⟩=some (.string ⟨b.w.toArray⟩)/\w'.cell? ⟨g,11,none⟩=some (.slice f1 f2 f3)) (first|assumption|exact HSS.out _ (Below.refl _ _).drew|exact HSS.out _ hcur|go_keep)
    (first
     | (go_at_call_of 45 (Value.agg #[.int .i64 a.kind,.int .i64 (Ls.wQu a.p).kind,.string ⟨(Ls.wQu a.p).signs.toArray⟩,.slice b1 b2 b3,.string ⟨a.w.toArray⟩,.slice t1 t2 t3]);refine(HXa.out _ ?_).mono ?_;(first|exact(Below.refl _ _).drew|exact hcur);rintro e wa ⟨xa1,xa2,xa3,rfl,hbA,hA⟩;have hcur:Below w3.heap.size w3 wa:=(by first|exact Below.join (Below.refl _ _).drew hbA|exact Below.join hcur hbA);have hsA:=HSS.out wa hcur)
     | (go_at_call_of 45 (Value.agg #[.int .i64 b.kind,.int .i64 (Ls.wQu b.p).kind,.string ⟨(Ls.wQu b.p).signs.toArray⟩,.slice c1 c2 c3,.string ⟨b.w.toArray⟩,.slice f1 f2 f3]);refine(HXb.out _ ?_).mono ?_;(first|exact(Below.refl _ _).drew|exact hcur);rintro e wb ⟨xb1,xb2,xb3,rfl,hbB,hB⟩;have hcur:Below w3.heap.size w3 wb:=(by first|exact Below.join (Below.refl _ _).drew hbB|exact Below.join hcur hbB);have hsB:=HSS.out wb hcur)
     | (go_at_call 14;refine(HAp.out _ _ _ _ _ _ _ hcur (hA _ ?_) (hB _ ?_)).mono ?_;(first|exact Below.refl _ _|exact hbB);(first|exact Below.refl _ _|exact hbA);rintro e w4 ⟨ob,rfl,hob,hb4⟩;have hcur4:Below w3.heap.size w3 w4:=Below.join hcur hb4;have hs4:=HSS.out w4 hcur4))
   all_goals
    have HB:Hid (ob=true↔F):=by
     show _↔_;rw[HF.out,hob];exact⟨fun h=>⟨HT1.out,HT2.out,h⟩,fun h=>h.2.2⟩
    have HW:Hid (Below w.heap.size w w4):=Below.join hbw3 hcur4;clear hob hA hB;go_wp2_with fail;go_ret;exact⟨ob,rfl,HB.out,HW.out⟩
end Go.Proofs.YtcggfnlejalppaaGreatDoor
