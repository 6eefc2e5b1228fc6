import Derived.Test.YtcggfnlejalppaaGreatDoorK27
set_option maxRecDepth 100000
set_option maxHeartbeats 4000000
namespace Go.Proofs.YtcggfnlejalppaaGreatDoor
open Go.RowKit
theorem pQ0 (s:ByteArray)(hs:s.size<=1048576)(D:Nat)(hD:D<=12)(hL:T5 s (D+1))(pb i z:Nat)(w:World)(h:PB w pb s i z false)(hi:i<s.size)(hz:z<=1048576+i)(hc:nx s i=40) :
  Calls Tryz.prog 101 #[.pointer (some ⟨pb,0,none⟩),.int .i64 (D:Int)] w (LPost w pb s i z (Ls.wQ6 (Ls.pat (13-D)) (Ls.wQy (12-D)) (rest s i))):=by
 have HR:Hid (Ls.wQ6 (Ls.pat (13-D)) (Ls.wQy (12-D)) (rest s i)=N3 (L4 (H7 (Ls.wQy (12-D)) (rest s (i+1))))):=by
  show _=_;rw[C4 hi,hc];exact jQ3 _ _ _
 have Hc:Hid (nx s i=40):=hc;clear hc;have HL:Hid (∀(j zz:Nat) (W:World),PB W pb s j zz false->j<=s.size->zz<=1048576+j->Calls Tryz.prog 40 #[.pointer (some ⟨pb,0,none⟩),.int .i64 ((D:Int)+1)] W (LPost W pb s j zz (Ls.wQy (12-D) (rest s j)))):=fun j zz W h1 h2 h3=>by
  have:=hL pb j zz W h1 h2 h3;rw[show ((D+1:Nat):Int)=(D:Int)+1 from by omega,show 13-(D+1)=12-D from by omega]at this;exact this
 clear hL;have hpl:=h.lt;have hne:¬w.heap.size=pb:=by omega
 have hne':¬pb=w.heap.size:=by omega
 have hst0:=St.start h;go_enter Tryz.func101,Tryz.ntmps101;go_wp2_with fail;refine(E8 pb s i z false _ hst0.left.lies (by omega) (by omega)).mono ?_;rw[Hc.out];rintro e w1 ⟨rfl,hb1⟩;have hst1:=hst0.below hb1;have hst2:=hst1.set1 (i+1);obtain⟨c1,c2,c3,f1,f2,f3,q0,q1,q2,q3,q4,q5,g,hlt⟩:=hst1.cells;have hPc:=HL.out (i+1) z _ hst2.left.lies (by omega) (by omega);have HST2:Hid _:=hst2;clear hst0 hst1 hst2;go_wp2_with fail;refine hPc.mono ?_;clear hPc;rintro e w3 hpp;obtain⟨k,p,ws,y1,y2,y3,x1,x2,x3,i1,z1,bad,rfl,hi1,hi2,hz2,hl3,hcl⟩:=hpp.mid (fun l t hr=>Ls.xQ9 _ _ _ _ hr) (by omega);clear hpp c1 c2 c3 f1 f2 f3 q0 q1 q2 q3 q4 q5 g hlt;have hst3:=HST2.out.next hl3;have hst4:=hst3.below (A4 w3 (A8 k p ws (.slice y1 y2 y3) (.slice x1 x2 x3)));have hli:=I0 w3 k p ws (.slice y1 y2 y3) (.slice x1 x2 x3);have hz3:w.heap.size<((w1.setCell ⟨pb,1,none⟩ (.int .i64 ((i+1:Nat):Int))).heap.size):=HST2.out.res.lt;have hpl3:pb<w3.heap.size:=hst3.left.lies.lt;have hlt3:w.heap.size<w3.heap.size:=hst3.res.lt;have HST4:Hid _:=hst4;have HCL:Hid (CaseL w3 (B6 (w1.setCell ⟨pb,1,none⟩ (.int .i64 ((i+1:Nat):Int))) w3) (Ls.wQy (12-D) (rest s (i+1))) s z i1 z1 bad k p ws (.slice y1 y2 y3) (.slice x1 x2 x3)):=hcl;have HGA:Hid (∀j,B6 (w1.setCell ⟨pb,1,none⟩ (.int .i64 ((i+1:Nat):Int))) w3 j->w.heap.size<j/\j<w3.heap.size):=fun j hj=>⟨by have:=hj.1;omega,hj.2⟩;generalize (B6 (w1.setCell ⟨pb,1,none⟩ (.int .i64 ((i+1:Nat):Int))) w3)=GA at HCL HGA;have HLI:Hid (LiesL (w3.alloc (A8 k p ws (.slice y1 y2 y3) (.slice x1 x2 x3))) w3.heap.size [.int .i64 k,.int .i64 p.kind,.string ⟨p.signs.toArray⟩,.slice y1 y2 y3,.string ⟨ws.toArray⟩,.slice x1 x2 x3]):=hli;clear hst3 hst4 hcl hl3 hli hz3;go_wp2_with fail;refine(J0 pb s i1 z1 bad 126 _ HST4.out.left.lies (by omega) (by omega)).mono ?_;rintro e w5 ⟨rfl,hl5⟩;have hst5:=HST4.out.next hl5;have hz5:=hl5.grown.size;simp at hz5;have HLI5:Hid (LiesL w5 w3.heap.size [.int .i64 k,.int .i64 p.kind,.string ⟨p.signs.toArray⟩,.slice y1 y2 y3,.string ⟨ws.toArray⟩,.slice x1 x2 x3]):=HLI.out.of_block (hl5.block (by simp) (by omega));have HCL5:Hid (CaseL w5 GA (Ls.wQy (12-D) (rest s (i+1))) s z i1 z1 bad k p ws (.slice y1 y2 y3) (.slice x1 x2 x3)):=HCL.out.mono (fun j hj=>⟨hj,by
  have e1:=HGA.out j hj;rw[hl5.block (by simp;omega) (by omega),Below.heap_alloc _ _ _ e1.2]⟩)
 obtain⟨c1,c2,c3,f1,f2,f3,-,-,-,-,-,-,-,hlt⟩:=hst5.cells;have HST5:Hid (St w pb s (if A5 s i1 126=true then i1+1 else i1) z1 bad w5):=hst5;have hne3:¬w3.heap.size=pb:=by omega
 have hne4:¬pb=w3.heap.size:=by omega
 clear hst5 hl5 HLI HCL HST4;cases bad with
 | true=>
  have HN0:Hid (N3 (L4 (H7 (Ls.wQy (12-D)) (rest s (i+1))))=.none):=by
   rcases HCL5.out with⟨_,hr⟩|⟨h0,_⟩
   ·show _=_
    rw[tQ2 hr];rfl
   ·cases h0
  cases hm:A5 s i1 126 with
  | false=>
   rw[hm]at HST5;simp only[Bool.false_eq_true,if_false]at HST5;clear hm;go_wp2_with fail;refine(J0 pb s i1 z1 true 41 _ HST5.out.left.lies (by omega) (by omega)).mono ?_;rintro e w7 ⟨rfl,hl7⟩;have hst7:=HST5.out.next hl7;obtain⟨-,-,d3,-,-,k3,q0,q1,q2,q3,q4,q5,g,hlt7⟩:=hst7.cells;have g0:=g 0;have g1:=g 1;have g2:=g 2;have g3:=g 3;have g4:=g 4;have g5:=g 5;have HST8:Hid _:=hst7.set3 true;have HJ:Hid (i<=(if A5 s i1 41=true then i1+1 else i1)/\(if A5 s i1 41=true then i1+1 else i1)<=s.size+1/\z1<=z+((if A5 s i1 41=true then i1+1 else i1)-i)):=by
    cases hse:A5 s i1 41 with
    | false=>simp only[Bool.false_eq_true,if_false];exact⟨by omega,by omega,by omega⟩
    | true=>have:=(C6 hse).1;simp only[if_true];exact⟨by omega,by omega,by omega⟩
   clear hst7 hl7 g;go_wp2_with fail;rw[HR.out,HN0.out];exact bodyPost_ret (v:=C7 0 Ls.none [] (.slice none 0 0) (.slice none 0 0)) (by simp[results,Tryz.results101,go_sem,q0,q1,q2,q3,q4,q5,Ls.none]) rfl (S3 rfl HJ.out.1 HJ.out.2.1 HJ.out.2.2 HST8.out)
  | true=>
   have hms:=(C6 hm).1;rw[hm]at HST5;simp only[if_true]at HST5;clear hm;go_wp2_with fail;refine(J0 pb s (i1+1) z1 true 41 _ HST5.out.left.lies (by omega) (by omega)).mono ?_;rintro e w7 ⟨rfl,hl7⟩;have hst7:=HST5.out.next hl7;obtain⟨-,-,d3,-,-,k3,q0,q1,q2,q3,q4,q5,g,hlt7⟩:=hst7.cells;have g0:=g 0;have g1:=g 1;have g2:=g 2;have g3:=g 3;have g4:=g 4;have g5:=g 5;have HST8:Hid _:=hst7.set3 true;have HJ:Hid (i<=(if A5 s (i1+1) 41=true then (i1+1)+1 else (i1+1))/\(if A5 s (i1+1) 41=true then (i1+1)+1 else (i1+1))<=s.size+1/\z1<=z+((if A5 s (i1+1) 41=true then (i1+1)+1 else (i1+1))-i)):=by
    cases hse:A5 s (i1+1) 41 with
    | false=>simp only[Bool.false_eq_true,if_false];exact⟨by omega,by omega,by omega⟩
    | true=>have:=(C6 hse).1;simp only[if_true];exact⟨by omega,by omega,by omega⟩
   clear hst7 hl7 g;go_wp2_with fail;rw[HR.out,HN0.out];exact bodyPost_ret (v:=C7 0 Ls.none [] (.slice none 0 0) (.slice none 0 0)) (by simp[results,Tryz.results101,go_sem,q0,q1,q2,q3,q4,q5,Ls.none]) rfl (S3 rfl HJ.out.1 HJ.out.2.1 HJ.out.2.2 HST8.out)
 | false=>
  cases hm:A5 s i1 126 with
  | false=>
   rw[hm]at HST5;simp only[Bool.false_eq_true,if_false]at HST5;have HCX:Hid (CaseL w5 GA (H7 (Ls.wQy (12-D)) (rest s (i+1))) s z i1 z1 false k p ws (.slice y1 y2 y3) (.slice x1 x2 x3)):=by
    rcases HCL5.out with⟨h0,_⟩|⟨_,l,hr,h1⟩
    ·cases h0
    ·exact .inr ⟨rfl,l,rQq hr hm,h1⟩
   have HGX:Hid (∀j,GA j->w.heap.size<j/\j<w5.heap.size):=fun j hj=>by have:=HGA.out j hj;exact⟨by omega,by omega⟩
   clear hm;go_wp2_with fail;refine(J0 pb s i1 z1 false 41 _ HST5.out.left.lies (by omega) (by omega)).mono ?_;rintro e w7 ⟨rfl,hl7⟩;have hst7:=HST5.out.next hl7;have hz7:=hl7.grown.size;cases hse:A5 s i1 41 with
   | false=>
    rw[hse]at hst7;simp only[Bool.false_eq_true,if_false]at hst7;have HN:Hid (N3 (L4 (H7 (Ls.wQy (12-D)) (rest s (i+1))))=.none):=dQx HCX.out (by rw[hse];rfl);obtain⟨-,-,d3,-,-,k3,q0,q1,q2,q3,q4,q5,g,hlt7⟩:=hst7.cells;have g0:=g 0;have g1:=g 1;have g2:=g 2;have g3:=g 3;have g4:=g 4;have g5:=g 5;have HST8:Hid _:=hst7.set3 true;clear hst7 hl7 g hse;go_wp2_with fail;rw[HR.out,HN.out];exact bodyPost_ret (v:=C7 0 Ls.none [] (.slice none 0 0) (.slice none 0 0)) (by simp[results,Tryz.results101,go_sem,q0,q1,q2,q3,q4,q5,Ls.none]) rfl (S3 rfl (by omega) (by omega) (by omega) HST8.out)
   | true=>
    rw[hse]at hst7;simp only[if_true]at hst7;have hjs:=(C6 hse).1;have hst8:=hst7.set3 false;have hli8:=(HLI5.out.of_block (hl7.block HLI5.out.lt (by omega))).of_block (Below.heap_setCell w7 ⟨pb,3,none⟩ (.bool false) w3.heap.size (by show w3.heap.size≠pb;omega));have hsz8:(w7.setCell ⟨pb,3,none⟩ (.bool false)).heap.size=w7.heap.size:=by simp[World.setCell]
    have HC8:Hid (CaseL (w7.setCell ⟨pb,3,none⟩ (.bool false)) GA (L4 (H7 (Ls.wQy (12-D)) (rest s (i+1)))) s z (i1+1) z1 false k p ws (.slice y1 y2 y3) (.slice x1 x2 x3)):=(gQa HCX.out hse).mono (fun t ht=>⟨ht,by
     have e1:=HGX.out t ht;rw[Below.heap_setCell _ _ _ _ (by show t≠pb;omega),hl7.block e1.2 (by omega)]⟩)
    obtain⟨-,-,d3,-,-,k3,-,-,-,-,-,-,-,hlt7⟩:=hst7.cells;have HST8:Hid _:=hst8;have HLI8:Hid _:=hli8.six;clear hst7 hst8 hl7 hse hli8;go_upto_region 36 with (fail);generalize w7.setCell ⟨pb,3,none⟩ (.bool false)=W8 at *;obtain⟨a0,a1,a2,a3,a4,a5⟩:=HLI8.out;have hA:=dQm s hs pb (i1+1) z1 false W8 HST8.out.left.lies (by omega) (by omega) k p ws y1 y2 y3 x1 x2 x3;clear c1 c2 c3 f1 f2 f3 d3 k3;go_wp2_with fail;refine hA.mono ?_;rintro e w9 ha;obtain⟨k',p',ws',v1,v2,v3,u1,u2,u3,rfl,hcl2,hl9⟩:=dQ0 HC8.out ha (fun t ht=>by have:=HGX.out t ht;omega) (fun t ht=>by have:=HGX.out t ht;omega);have hst9:=HST8.out.next hl9;have hz9:=hl9.grown.size;obtain⟨-,-,-,-,-,-,q0,q1,q2,q3,q4,q5,g,hlt9⟩:=hst9.cells;have g0:=g 0;have g1:=g 1;have g2:=g 2;have g3:=g 3;have g4:=g 4;have g5:=g 5;have HST9:Hid _:=hst9;have HCL9:Hid (CaseL w9 (E1 GA W8 w9) (N3 (L4 (H7 (Ls.wQy (12-D)) (rest s (i+1))))) s z (if A5 s (i1+1) 42=true then i1+1+1 else i1+1) (if A5 s (i1+1) 42=true then z1+1 else z1) false k' p' ws' (.slice v1 v2 v3) (.slice u1 u2 u3)):=hcl2;have HI:Hid (i<=(if A5 s (i1+1) 42=true then i1+1+1 else i1+1)/\(if A5 s (i1+1) 42=true then i1+1+1 else i1+1)<=s.size+1/\(if A5 s (i1+1) 42=true then z1+1 else z1)<=z+((if A5 s (i1+1) 42=true then i1+1+1 else i1+1)-i)):=by
     cases hse:A5 s (i1+1) 42 with
     | false=>simp only[Bool.false_eq_true,if_false];exact⟨by omega,by omega,by omega⟩
     | true=>have:=(C6 hse).1;simp only[if_true];exact⟨by omega,by omega,by omega⟩
    have HH:Hid (∀t,E1 GA W8 w9 t->w.heap.size<t/\t<w9.heap.size):=by
     rintro t (ht|ht)
     ·have:=HGX.out t ht
      exact⟨by omega,by omega⟩
     ·have h1:=ht.1
      exact⟨by omega,ht.2⟩
    clear hst9 hcl2 hl9 ha hA g a0 a1 a2 a3 a4 a5;go_wp2_with fail;rw[HR.out];exact bodyPost_ret (v:=C7 k' p' ws' (.slice v1 v2 v3) (.slice u1 u2 u3)) (by simp[results,Tryz.results101,go_sem,q0,q1,q2,q3,q4,q5]) rfl (K0 HCL9.out HI.out.1 HI.out.2.1 HI.out.2.2 HST9.out HH.out)
  | true=>
   have hms:=(C6 hm).1;rw[hm]at HST5;simp only[if_true]at HST5;have HM:Hid (A5 s i1 126=true):=hm;clear hm;have hPc:=HL.out (i1+1) z1 w5 HST5.out.left.lies (by omega) (by omega);go_wp2_with fail;refine hPc.mono ?_;clear hPc;rintro e w6 hpp;obtain⟨kb,pb2,wb,r1,r2,r3,t1,t2,t3,i2,z2,bad2,rfl,hi3,hi4,hz4,hl6,hcl6⟩:=hpp.mid (fun l t hr=>Ls.xQ9 _ _ _ _ hr) (by omega);clear hpp c1 c2 c3 f1 f2 f3;have hst6:=HST5.out.next hl6;have hz6:=hl6.grown.size;have hpl6:pb<w6.heap.size:=hst6.left.lies.lt;have hlt6:w.heap.size<w6.heap.size:=hst6.res.lt;have hli6:LiesL w6 w3.heap.size [.int .i64 k,.int .i64 p.kind,.string ⟨p.signs.toArray⟩,.slice y1 y2 y3,.string ⟨ws.toArray⟩,.slice x1 x2 x3]:=HLI5.out.of_block (hl6.block (by omega) (by omega));have hb7:=A4 w6 (A8 kb pb2 wb (.slice r1 r2 r3) (.slice t1 t2 t3));have hst7:=hst6.below hb7;have hli7:=hli6.of_block (hb7.block _ hli6.lt);have hb8:=A4 (w6.alloc (A8 kb pb2 wb (.slice r1 r2 r3) (.slice t1 t2 t3))) (M1 k p ws (.slice y1 y2 y3) (.slice x1 x2 x3) kb pb2 wb (.slice r1 r2 r3) (.slice t1 t2 t3));have hst8:=hst7.below hb8;have hli8:=hli7.of_block (hb8.block _ hli7.lt);have hlr:=eQf (w6.alloc (A8 kb pb2 wb (.slice r1 r2 r3) (.slice t1 t2 t3))) k p ws (.slice y1 y2 y3) (.slice x1 x2 x3) kb pb2 wb (.slice r1 r2 r3) (.slice t1 t2 t3);rw[World.size_alloc]at hlr;have hz8:((w6.alloc (A8 kb pb2 wb (.slice r1 r2 r3) (.slice t1 t2 t3))).alloc (M1 k p ws (.slice y1 y2 y3) (.slice x1 x2 x3) kb pb2 wb (.slice r1 r2 r3) (.slice t1 t2 t3))).heap.size=w6.heap.size+1+1:=by simp
   have HCX:Hid (CaseL (set6 ((w6.alloc (A8 kb pb2 wb (.slice r1 r2 r3) (.slice t1 t2 t3))).alloc (M1 k p ws (.slice y1 y2 y3) (.slice x1 x2 x3) kb pb2 wb (.slice r1 r2 r3) (.slice t1 t2 t3))) w3.heap.size 4 Ls.none [] (.slice none 0 0) (.slice (some ⟨w6.heap.size+1,0,none⟩) 2 2))
     (fun t=>GA t\/B6 w5 w6 t\/t=w6.heap.size+1) (H7 (Ls.wQy (12-D)) (rest s (i+1))) s z i2 z2 bad2 4 Ls.none [] (.slice none 0 0) (.slice (some ⟨w6.heap.size+1,0,none⟩) 2 2)):=by
    refine kQj HCL5.out HM.out hcl6 (fun t ht=>⟨.inl ht,?_⟩) (fun t ht=>⟨.inr (.inl ht),?_⟩) (.inr (.inr rfl)) ?_
    ·have e1:=HGA.out t ht
     rw[bQu _ _ _ _ _ _ _ _ (by omega),hb8.block t (by simp;omega),hb7.block t (by omega),hl6.block (by omega) (by omega)]
    ·have e1:=ht.1
     have e2:=ht.2;rw[bQu _ _ _ _ _ _ _ _ (by omega),hb8.block t (by simp;omega),hb7.block t (by omega)]
    ·exact hlr.of_block (bQu _ _ _ _ _ _ _ _ (by omega))
   have HSTX:Hid (St w pb s i2 z2 bad2 (set6 ((w6.alloc (A8 kb pb2 wb (.slice r1 r2 r3) (.slice t1 t2 t3))).alloc (M1 k p ws (.slice y1 y2 y3) (.slice x1 x2 x3) kb pb2 wb (.slice r1 r2 r3) (.slice t1 t2 t3))) w3.heap.size 4 Ls.none [] (.slice none 0 0) (.slice (some ⟨w6.heap.size+1,0,none⟩) 2 2))):=hst8.set6 hlt3 _ _ _ _ _;have HLIX:Hid (LiesL (set6 ((w6.alloc (A8 kb pb2 wb (.slice r1 r2 r3) (.slice t1 t2 t3))).alloc (M1 k p ws (.slice y1 y2 y3) (.slice x1 x2 x3) kb pb2 wb (.slice r1 r2 r3) (.slice t1 t2 t3))) w3.heap.size 4 Ls.none [] (.slice none 0 0) (.slice (some ⟨w6.heap.size+1,0,none⟩) 2 2)) w3.heap.size [.int .i64 (4:Nat),.int .i64 Ls.none.kind,.string ⟨Ls.none.signs.toArray⟩,.slice none 0 0,.string ⟨([]:List UInt8).toArray⟩,.slice (some ⟨w6.heap.size+1,0,none⟩) 2 2]):=hli8.set6 4 Ls.none [] (.slice none 0 0) (.slice (some ⟨w6.heap.size+1,0,none⟩) 2 2);have HGX:Hid (∀t,(GA t\/B6 w5 w6 t\/t=w6.heap.size+1)->w.heap.size<t/\t<(set6 ((w6.alloc (A8 kb pb2 wb (.slice r1 r2 r3) (.slice t1 t2 t3))).alloc (M1 k p ws (.slice y1 y2 y3) (.slice x1 x2 x3) kb pb2 wb (.slice r1 r2 r3) (.slice t1 t2 t3))) w3.heap.size 4 Ls.none [] (.slice none 0 0) (.slice (some ⟨w6.heap.size+1,0,none⟩) 2 2)).heap.size):=by
    intro t ht;rw[dQ5,hz8];rcases ht with ht|ht|rfl
    ·have:=HGA.out t ht
     exact⟨by omega,by omega⟩
    ·have e1:=ht.1
     have e2:=ht.2;exact⟨by omega,by omega⟩
    ·exact⟨by omega,by omega⟩
   have HSZX:Hid ((set6 ((w6.alloc (A8 kb pb2 wb (.slice r1 r2 r3) (.slice t1 t2 t3))).alloc (M1 k p ws (.slice y1 y2 y3) (.slice x1 x2 x3) kb pb2 wb (.slice r1 r2 r3) (.slice t1 t2 t3))) w3.heap.size 4 Ls.none [] (.slice none 0 0) (.slice (some ⟨w6.heap.size+1,0,none⟩) 2 2)).heap.size=w6.heap.size+1+1):=(dQ5 _ _ _ _ _ _ _).trans hz8;obtain⟨a0,a1,a2,a3,a4,a5⟩:=hli7.six;obtain⟨b0,b1,b2,b3,b4,b5⟩:=hli8.six;have g0:=hli8.fr 0;have g1:=hli8.fr 1;have g2:=hli8.fr 2;have g3:=hli8.fr 3;have g4:=hli8.fr 4;have g5:=hli8.fr 5;clear hst6 hst7 hst8 hli6 hli7 hli8 hlr hl6 hcl6 hb7 hb8;cases bad2 with
   | true=>
    have HN0:Hid (N3 (L4 (H7 (Ls.wQy (12-D)) (rest s (i+1))))=.none):=dQx HCX.out rfl;go_wp2_with fail;refine(J0 pb s i2 z2 true 41 _ HSTX.out.left.lies (by omega) (by omega)).mono ?_;rintro e w7 ⟨rfl,hl7⟩;have hst7:=HSTX.out.next hl7;obtain⟨-,-,d3,-,-,k3,q0,q1,q2,q3,q4,q5,g,hlt7⟩:=hst7.cells;have g0:=g 0;have g1:=g 1;have g2:=g 2;have g3:=g 3;have g4:=g 4;have g5:=g 5;have HST8:Hid _:=hst7.set3 true;have HJ:Hid (i<=(if A5 s i2 41=true then i2+1 else i2)/\(if A5 s i2 41=true then i2+1 else i2)<=s.size+1/\z2<=z+((if A5 s i2 41=true then i2+1 else i2)-i)):=by
     cases hse:A5 s i2 41 with
     | false=>simp only[Bool.false_eq_true,if_false];exact⟨by omega,by omega,by omega⟩
     | true=>have:=(C6 hse).1;simp only[if_true];exact⟨by omega,by omega,by omega⟩
    clear hst7 hl7 g;go_wp2_with fail;rw[HR.out,HN0.out];exact bodyPost_ret (v:=C7 0 Ls.none [] (.slice none 0 0) (.slice none 0 0)) (by simp[results,Tryz.results101,go_sem,q0,q1,q2,q3,q4,q5,Ls.none]) rfl (S3 rfl HJ.out.1 HJ.out.2.1 HJ.out.2.2 HST8.out)
   | false=>
    go_wp2_with fail;refine(J0 pb s i2 z2 false 41 _ HSTX.out.left.lies (by omega) (by omega)).mono ?_;rintro e w7 ⟨rfl,hl7⟩;have hst7:=HSTX.out.next hl7;have hz7:=hl7.grown.size;cases hse:A5 s i2 41 with
    | false=>
     rw[hse]at hst7;simp only[Bool.false_eq_true,if_false]at hst7;have HN:Hid (N3 (L4 (H7 (Ls.wQy (12-D)) (rest s (i+1))))=.none):=dQx HCX.out (by rw[hse];rfl);obtain⟨-,-,d3,-,-,k3,q0,q1,q2,q3,q4,q5,g,hlt7⟩:=hst7.cells;have g0:=g 0;have g1:=g 1;have g2:=g 2;have g3:=g 3;have g4:=g 4;have g5:=g 5;have HST8:Hid _:=hst7.set3 true;clear hst7 hl7 g hse;go_wp2_with fail;rw[HR.out,HN.out];exact bodyPost_ret (v:=C7 0 Ls.none [] (.slice none 0 0) (.slice none 0 0)) (by simp[results,Tryz.results101,go_sem,q0,q1,q2,q3,q4,q5,Ls.none]) rfl (S3 rfl (by omega) (by omega) (by omega) HST8.out)
    | true=>
     rw[hse]at hst7;simp only[if_true]at hst7;have hjs:=(C6 hse).1;have hst8:=hst7.set3 false;have hli8:=(HLIX.out.of_block (hl7.block HLIX.out.lt (by omega))).of_block (Below.heap_setCell w7 ⟨pb,3,none⟩ (.bool false) w3.heap.size (by show w3.heap.size≠pb;omega));have hsz8:(w7.setCell ⟨pb,3,none⟩ (.bool false)).heap.size=w7.heap.size:=by simp[World.setCell]
     have HC8:Hid (CaseL (w7.setCell ⟨pb,3,none⟩ (.bool false)) (fun t=>GA t\/B6 w5 w6 t\/t=w6.heap.size+1) (L4 (H7 (Ls.wQy (12-D)) (rest s (i+1)))) s z (i2+1) z2 false 4 Ls.none [] (.slice none 0 0) (.slice (some ⟨w6.heap.size+1,0,none⟩) 2 2)):=(gQa HCX.out hse).mono (fun t ht=>⟨ht,by
      have e1:=HGX.out t ht;rw[Below.heap_setCell _ _ _ _ (by show t≠pb;omega),hl7.block e1.2 (by omega)]⟩)
     obtain⟨-,-,d3,-,-,k3,-,-,-,-,-,-,-,hlt7⟩:=hst7.cells;have HST8:Hid _:=hst8;have HLI8:Hid _:=hli8.six;clear hst7 hst8 hl7 hse hli8;go_upto_region 36 with (fail);generalize w7.setCell ⟨pb,3,none⟩ (.bool false)=W8 at *;obtain⟨a0,a1,a2,a3,a4,a5⟩:=HLI8.out;have hA:=dQm s hs pb (i2+1) z2 false W8 HST8.out.left.lies (by omega) (by omega) 4 Ls.none [] none 0 0 (some ⟨w6.heap.size+1,0,none⟩) 2 2;clear d3 k3;go_wp2_with fail;refine hA.mono ?_;rintro e w9 ha;obtain⟨k',p',ws',v1,v2,v3,u1,u2,u3,rfl,hcl2,hl9⟩:=dQ0 HC8.out ha (fun t ht=>by have:=HGX.out t ht;omega) (fun t ht=>by have:=HGX.out t ht;omega);have hst9:=HST8.out.next hl9;have hz9:=hl9.grown.size;obtain⟨-,-,-,-,-,-,q0,q1,q2,q3,q4,q5,g,hlt9⟩:=hst9.cells;have g0:=g 0;have g1:=g 1;have g2:=g 2;have g3:=g 3;have g4:=g 4;have g5:=g 5;have HST9:Hid _:=hst9;have HCL9:Hid (CaseL w9 (E1 (fun t=>GA t\/B6 w5 w6 t\/t=w6.heap.size+1) W8 w9) (N3 (L4 (H7 (Ls.wQy (12-D)) (rest s (i+1))))) s z (if A5 s (i2+1) 42=true then i2+1+1 else i2+1) (if A5 s (i2+1) 42=true then z2+1 else z2) false k' p' ws' (.slice v1 v2 v3) (.slice u1 u2 u3)):=hcl2;have HI:Hid (i<=(if A5 s (i2+1) 42=true then i2+1+1 else i2+1)/\(if A5 s (i2+1) 42=true then i2+1+1 else i2+1)<=s.size+1/\(if A5 s (i2+1) 42=true then z2+1 else z2)<=z+((if A5 s (i2+1) 42=true then i2+1+1 else i2+1)-i)):=by
      cases hse:A5 s (i2+1) 42 with
      | false=>simp only[Bool.false_eq_true,if_false];exact⟨by omega,by omega,by omega⟩
      | true=>have:=(C6 hse).1;simp only[if_true];exact⟨by omega,by omega,by omega⟩
     have HH:Hid (∀t,E1 (fun t=>GA t\/B6 w5 w6 t\/t=w6.heap.size+1) W8 w9 t->w.heap.size<t/\t<w9.heap.size):=by
      rintro t (ht|ht)
      ·have:=HGX.out t ht
       exact⟨by omega,by omega⟩
      ·have h1:=ht.1
       exact⟨by omega,ht.2⟩
     clear hst9 hcl2 hl9 ha hA g a0 a1 a2 a3 a4 a5;go_wp2_with fail;rw[HR.out];exact bodyPost_ret (v:=C7 k' p' ws' (.slice v1 v2 v3) (.slice u1 u2 u3)) (by simp[results,Tryz.results101,go_sem,q0,q1,q2,q3,q4,q5]) rfl (K0 HCL9.out HI.out.1 HI.out.2.1 HI.out.2.2 HST9.out HH.out)
end Go.Proofs.YtcggfnlejalppaaGreatDoor
