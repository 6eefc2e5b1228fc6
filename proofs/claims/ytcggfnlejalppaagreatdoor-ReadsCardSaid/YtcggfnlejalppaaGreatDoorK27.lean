import Derived.Test.YtcggfnlejalppaaGreatDoorK26
set_option maxRecDepth 100000
set_option maxHeartbeats 4000000
namespace Go.Proofs.YtcggfnlejalppaaGreatDoor
open Go.RowKit
def X8 (r:Ls.Rl):Ls.Rl:=match r with
 | .none=>.none
 | some (a,u)=>if u.head?=some 62 then some (Ls.bXf a,u.tail) else .none
theorem uQ9 {W W':World}{G G':Nat->Prop}{res:Ls.Rl}{s:ByteArray}{z i' z':Nat}{bad:Bool}{k:Nat}{p:Ls.Pat}{ws:List UInt8}{y x:Value}{g:Nat}(h:CaseL W G res s (z+1) i' z' bad k p ws y x)(hw:∀k,G k->G' k/\W'.heap[k]?=W.heap[k]?)(hg:G' g)
  (hl:LiesL W' g [.int .i64 k,.int .i64 p.kind,.string ⟨p.signs.toArray⟩,y,.string ⟨ws.toArray⟩,x]) :
  CaseL W' G' (X8 res) s z (if A5 s i' 62=true then i'+1 else i') z' (bad||!A5 s i' 62) 7 Ls.none [] (.slice none 0 0) (.slice (some ⟨g,0,none⟩) 1 1):=by
 rcases h with⟨rfl,hr⟩|⟨rfl,l,hr,rfl,rfl,rfl,rfl,hi',hv⟩
 ·exact .inl ⟨rfl,by rw[hr];rfl⟩
 ·cases hse:A5 s i' 62 with
  | false=>
   refine .inl ⟨rfl,?_⟩;rw[hr];show (if (rest s i').head?=some 62 then _ else _)=_;rw[if_neg (by rw[B8,hse];simp)]
  | true=>
   refine .inr ⟨rfl,Ls.bXf l,?_,rfl,Ls.wQ8,rfl,by rw[Ls.zQu];omega,by have:=(C6 hse).1;simp;omega,?_⟩
   ·rw[hr]
    show (if (rest s i').head?=some 62 then _ else _)=_;rw[if_pos (B8.2 hse),D7];simp
   ·show NV W' G' ⟨7,Ls.rnil,[],[l]⟩ (.slice none 0 0) (.slice (some ⟨g,0,none⟩) 1 1)
    rw[NV,Ls.wQ8];exact⟨L3 _ _ _ _,g,y,x,hg,rfl,hl,NV.mono hw _ _ _ hv⟩
abbrev A8 (k:Nat)(p:Ls.Pat)(ws:List UInt8)(y x:Value):Obj:=.cells #[.int .i64 k,.int .i64 p.kind,.string ⟨p.signs.toArray⟩,y,.string ⟨ws.toArray⟩,x] 37
theorem I0 (w:World)(k:Nat)(p:Ls.Pat)(ws:List UInt8)(y x:Value):LiesL (w.alloc (A8 k p ws y x)) w.heap.size [.int .i64 k,.int .i64 p.kind,.string ⟨p.signs.toArray⟩,y,.string ⟨ws.toArray⟩,x]:=
 W9 w [.int .i64 k,.int .i64 p.kind,.string ⟨p.signs.toArray⟩,y,.string ⟨ws.toArray⟩,x]
theorem uQ2 {w W2 w3 w5:World}{pb:Nat}{s:ByteArray}{i z i' z':Nat}{bad:Bool}{res:Ls.Rl}{k:Nat}{p:Ls.Pat}{ws:List UInt8}{y x:Value}(hcl:CaseL w3 (B6 W2 w3) res s (z+1) i' z' bad k p ws y x)
  (hst:St w pb s i' z' bad (w3.alloc (A8 k p ws y x))) (hl:Left (w3.alloc (A8 k p ws y x)) pb s (if A5 s i' 62=true then i'+1 else i') z' bad w5) (hz:w.heap.size<W2.heap.size) (h1:i+1<=i') (h2:i'<=s.size+1) (h3:z'<=z+1+(i'-(i+1))) :
  LPost w pb s i z (X8 res) (.returned (C7 7 Ls.none [] (.slice none 0 0) (.slice (some ⟨w5.heap.size,0,none⟩) 1 1)))
   (set6 ((w5.setCell ⟨pb,3,none⟩ (.bool (bad||!A5 s i' 62))).alloc (A8 k p ws y x)) w.heap.size 7 Ls.none [] (.slice none 0 0) (.slice (some ⟨w5.heap.size,0,none⟩) 1 1)):=by
 have hpl:=hst.pl;have hst5:=hst.next hl;have hst6:=hst5.set3 (bad||!A5 s i' 62);have hz5:=hl.grown.size;simp at hz5;have hsz:(w5.setCell ⟨pb,3,none⟩ (.bool (bad||!A5 s i' 62))).heap.size=w5.heap.size:=by simp[World.setCell]
 have hst7:=hst6.below (A4 _ (A8 k p ws y x));have hli:=I0 (w5.setCell ⟨pb,3,none⟩ (.bool (bad||!A5 s i' 62))) k p ws y x;rw[hsz]at hli;have hcl2:=uQ9 (G':=fun j=>B6 W2 w3 j\/j=w5.heap.size) hcl (W':=(w5.setCell ⟨pb,3,none⟩ (.bool (bad||!A5 s i' 62))).alloc (A8 k p ws y x)) (fun j hj=>⟨.inl hj,by
  have e1:=hj.1;have e2:=hj.2;rw[Below.heap_alloc _ _ _ (by rw[hsz];omega),Below.heap_setCell _ _ _ _ (by show j≠pb;omega),hl.block (by simp;omega) (by omega),Below.heap_alloc _ _ _ e2]⟩) (.inr rfl) hli
 refine K0 hcl2 ?_ ?_ ?_ ?_ ?_
 ·split<;>omega
 ·cases hse:A5 s i' 62 with
  | false=>simp;omega
  | true=>have:=(C6 hse).1;simp;omega
 ·split<;>omega
 ·exact hst7
 ·rintro j (hj|rfl)
  ·have e1:=hj.1
   have e2:=hj.2;exact⟨by omega,by rw[World.size_alloc,hsz];omega⟩
  ·refine⟨?_,by rw[World.size_alloc,hsz];omega⟩
   have:=hst5.res.lt;exact this
theorem kQk (s:ByteArray)(hs:s.size<=1048576)(D:Nat)(hD:D<=12)(hL:T5 s (D+1))(pb i z:Nat)(w:World)(h:PB w pb s i z false)(hi:i<s.size)(hz:z<=1048576+i)(hc:nx s i=60) :
  Calls Tryz.prog 101 #[.pointer (some ⟨pb,0,none⟩),.int .i64 (D:Int)] w (LPost w pb s i z (Ls.wQ6 (Ls.pat (13-D)) (Ls.wQy (12-D)) (rest s i))):=by
 have HR:Hid (Ls.wQ6 (Ls.pat (13-D)) (Ls.wQy (12-D)) (rest s i)=X8 (Ls.wQy (12-D) (rest s (i+1)))):=by
  show _=_;rw[C4 hi,hc];rfl
 have Hc:Hid (nx s i=60):=hc;clear hc;have hpl:=h.lt;have hne:¬w.heap.size=pb:=by omega
 have hne':¬pb=w.heap.size:=by omega
 have hst0:=St.start h;go_enter Tryz.func101,Tryz.ntmps101;go_wp2_with fail;refine(E8 pb s i z false _ hst0.left.lies (by omega) (by omega)).mono ?_;rw[Hc.out];rintro e w1 ⟨rfl,hb1⟩;have hst1:=hst0.below hb1;have hst2:=(hst1.set1 (i+1)).set2 (z+1);obtain⟨c1,c2,c3,f1,f2,f3,q0,q1,q2,q3,q4,q5,g,hlt⟩:=hst1.cells;have hPc:=hL pb (i+1) (z+1) _ hst2.left.lies (by omega) (by omega);rw[show ((D+1:Nat):Int)=(D:Int)+1 from by omega,show 13-(D+1)=12-D from by omega]at hPc;have HST2:Hid _:=hst2;clear hst0 hst1 hst2;go_wp2_with fail;refine hPc.mono ?_;clear hPc;rintro e w3 hpp;obtain⟨k,p,ws,y1,y2,y3,x1,x2,x3,i',z',bad,rfl,hi1,hi2,hz2,hl3,hcl⟩:=hpp.mid (fun l t hr=>Ls.xQ9 _ _ _ _ hr) (by omega);clear hpp c1 c2 c3 f1 f2 f3 q0 q1 q2 q3 q4 q5 g hlt;have hst3:=HST2.out.next hl3;have hst4:=hst3.below (A4 w3 (A8 k p ws (.slice y1 y2 y3) (.slice x1 x2 x3)));have hli:=I0 w3 k p ws (.slice y1 y2 y3) (.slice x1 x2 x3);have hz3:w.heap.size<(((w1.setCell ⟨pb,1,none⟩ (.int .i64 ((i+1:Nat):Int))).setCell ⟨pb,2,none⟩ (.int .i64 ((z+1:Nat):Int))).heap.size):=HST2.out.res.lt;have hpl3:pb<w3.heap.size:=hst3.left.lies.lt;have HST4:Hid _:=hst4;have HCL:Hid (CaseL w3 (B6 ((w1.setCell ⟨pb,1,none⟩ (.int .i64 ((i+1:Nat):Int))).setCell ⟨pb,2,none⟩ (.int .i64 ((z+1:Nat):Int))) w3) (Ls.wQy (12-D) (rest s (i+1))) s (z+1) i' z' bad k p ws (.slice y1 y2 y3) (.slice x1 x2 x3)):=hcl;have HLI:Hid (LiesL (w3.alloc (A8 k p ws (.slice y1 y2 y3) (.slice x1 x2 x3))) w3.heap.size [.int .i64 k,.int .i64 p.kind,.string ⟨p.signs.toArray⟩,.slice y1 y2 y3,.string ⟨ws.toArray⟩,.slice x1 x2 x3]):=hli;clear hst3 hst4 hcl hl3 hli;go_wp2_with fail;refine(J0 pb s i' z' bad 62 _ HST4.out.left.lies (by omega) (by omega)).mono ?_;rintro e w5 ⟨rfl,hl5⟩;have hst5:=HST4.out.next hl5;have hz5:=hl5.grown.size;simp at hz5;have hli5:=HLI.out.of_block (hl5.block (by simp) (by omega));have HLI6:Hid (∀b:Bool,LiesL (w5.setCell ⟨pb,3,none⟩ (.bool b)) w3.heap.size [.int .i64 k,.int .i64 p.kind,.string ⟨p.signs.toArray⟩,.slice y1 y2 y3,.string ⟨ws.toArray⟩,.slice x1 x2 x3]):=fun b=>hli5.of_block (Below.heap_setCell _ _ _ _ (by show w3.heap.size≠pb;omega));have HST7:Hid (∀b:Bool,St w pb s (if A5 s i' 62=true then i'+1 else i') z' b ((w5.setCell ⟨pb,3,none⟩ (.bool b)).alloc (A8 k p ws (.slice y1 y2 y3) (.slice x1 x2 x3)))):=fun b=>(hst5.set3 b).below (A4 _ _);obtain⟨c1,c2,c3,f1,f2,f3,-,-,-,-,-,-,-,hlt⟩:=hst5.cells;have HE:Hid _:=uQ2 HCL.out HST4.out hl5 hz3 hi1 hi2 hz2;clear hst5 hl5 hli5 hlt;cases bad with
 | true=>
  go_upto_region 25 with (fail);obtain⟨a0,a1,a2,a3,a4,a5⟩:=(HLI6.out true).six;obtain⟨-,-,-,-,-,-,q0,q1,q2,q3,q4,q5,g,hlt⟩:=(HST7.out true).cells;have g0:=g 0;have g1:=g 1;have g2:=g 2;have g3:=g 3;have g4:=g 4;have g5:=g 5;clear g c1 c2 c3 f1 f2 f3;have hsz:(w5.setCell ⟨pb,3,none⟩ (.bool true)).heap.size=w5.heap.size:=by simp[World.setCell]
  have HE2:Hid (LPost w pb s i z (X8 (Ls.wQy (12-D) (rest s (i+1)))) (.returned (C7 7 Ls.none [] (.slice none 0 0) (.slice (some ⟨w5.heap.size,0,none⟩) 1 1))) (set6 ((w5.setCell ⟨pb,3,none⟩ (.bool true)).alloc (A8 k p ws (.slice y1 y2 y3) (.slice x1 x2 x3))) w.heap.size 7 Ls.none [] (.slice none 0 0) (.slice (some ⟨w5.heap.size,0,none⟩) 1 1))):=HE.out;clear HE HST7 HLI6;generalize w5.setCell ⟨pb,3,none⟩ (.bool true)=W6 at *;go_wp2_with fail;rw[HR.out];exact bodyPost_ret (v:=C7 7 Ls.none [] (.slice none 0 0) (.slice (some ⟨w5.heap.size,0,none⟩) 1 1)) (by simp[results,Tryz.results101,go_sem,q0,q1,q2,q3,q4,q5,Ls.none]) rfl HE2.out
 | false=>
  cases hse:A5 s i' 62 with
  | false=>
   rw[hse]at HE;clear hse;go_upto_region 25 with (fail);obtain⟨a0,a1,a2,a3,a4,a5⟩:=(HLI6.out true).six;obtain⟨-,-,-,-,-,-,q0,q1,q2,q3,q4,q5,g,hlt⟩:=(HST7.out true).cells;have g0:=g 0;have g1:=g 1;have g2:=g 2;have g3:=g 3;have g4:=g 4;have g5:=g 5;clear g c1 c2 c3 f1 f2 f3;have hsz:(w5.setCell ⟨pb,3,none⟩ (.bool true)).heap.size=w5.heap.size:=by simp[World.setCell]
   have HE2:Hid (LPost w pb s i z (X8 (Ls.wQy (12-D) (rest s (i+1)))) (.returned (C7 7 Ls.none [] (.slice none 0 0) (.slice (some ⟨w5.heap.size,0,none⟩) 1 1))) (set6 ((w5.setCell ⟨pb,3,none⟩ (.bool true)).alloc (A8 k p ws (.slice y1 y2 y3) (.slice x1 x2 x3))) w.heap.size 7 Ls.none [] (.slice none 0 0) (.slice (some ⟨w5.heap.size,0,none⟩) 1 1))):=HE.out;clear HE HST7 HLI6;generalize w5.setCell ⟨pb,3,none⟩ (.bool true)=W6 at *;go_wp2_with fail;rw[HR.out];exact bodyPost_ret (v:=C7 7 Ls.none [] (.slice none 0 0) (.slice (some ⟨w5.heap.size,0,none⟩) 1 1)) (by simp[results,Tryz.results101,go_sem,q0,q1,q2,q3,q4,q5,Ls.none]) rfl HE2.out
  | true=>
   rw[hse]at HE;clear hse;go_upto_region 25 with (fail);obtain⟨a0,a1,a2,a3,a4,a5⟩:=(HLI6.out false).six;obtain⟨-,-,-,-,-,-,q0,q1,q2,q3,q4,q5,g,hlt⟩:=(HST7.out false).cells;have g0:=g 0;have g1:=g 1;have g2:=g 2;have g3:=g 3;have g4:=g 4;have g5:=g 5;clear g c1 c2 c3 f1 f2 f3;have hsz:(w5.setCell ⟨pb,3,none⟩ (.bool false)).heap.size=w5.heap.size:=by simp[World.setCell]
   have HE2:Hid (LPost w pb s i z (X8 (Ls.wQy (12-D) (rest s (i+1)))) (.returned (C7 7 Ls.none [] (.slice none 0 0) (.slice (some ⟨w5.heap.size,0,none⟩) 1 1))) (set6 ((w5.setCell ⟨pb,3,none⟩ (.bool false)).alloc (A8 k p ws (.slice y1 y2 y3) (.slice x1 x2 x3))) w.heap.size 7 Ls.none [] (.slice none 0 0) (.slice (some ⟨w5.heap.size,0,none⟩) 1 1))):=HE.out;clear HE HST7 HLI6;generalize w5.setCell ⟨pb,3,none⟩ (.bool false)=W6 at *;go_wp2_with fail;rw[HR.out];exact bodyPost_ret (v:=C7 7 Ls.none [] (.slice none 0 0) (.slice (some ⟨w5.heap.size,0,none⟩) 1 1)) (by simp[results,Tryz.results101,go_sem,q0,q1,q2,q3,q4,q5,Ls.none]) rfl HE2.out
def H7 (Q:List UInt8->Ls.Rl)(t:List UInt8):Ls.Rl:=match Q t with
 | .none=>.none
 | some (a,u)=>
  if u.head?=some 126 then
   match Q u.tail with
   | .none=>.none
   | some (b,v)=>some (Ls.wQ5 a b,v)
  else some (a,u)
def L4 (r:Ls.Rl):Ls.Rl:=match r with
 | .none=>.none
 | some (a,u)=>if u.head?=some 41 then some (a,u.tail) else .none
theorem jQ3 (P:List UInt8->Ls.Rd)(Q:List UInt8->Ls.Rl)(t:List UInt8):Ls.wQ6 P Q (40::t)=N3 (L4 (H7 Q t)):=by
 show (match Q t with|.none=>(.none:Ls.Rl)|some (a,u)=>if u.head?=some 126 then (match Q u.tail with|.none=>.none|some (b,v)=>if v.head?=some 41 then some (Ls.xQp (Ls.wQ5 a b) v.tail) else .none) else if u.head?=some 41 then some (Ls.xQp a u.tail) else .none)=_;unfold H7;cases Q t with
 | none=>rfl
 | some x=>
  obtain⟨a,u⟩:=x;dsimp only
  by_cases h:u.head?=some 126
  ·rw[if_pos h,if_pos h]
   cases Q u.tail with
   | none=>rfl
   | some x=>
    obtain⟨b,v⟩:=x;dsimp only[L4]
    by_cases h2:v.head?=some 41
    ·rw[if_pos h2,if_pos h2];rfl
    ·rw[if_neg h2,if_neg h2];rfl
  ·rw[if_neg h,if_neg h]
   dsimp only[L4]
   by_cases h2:u.head?=some 41
   ·rw[if_pos h2,if_pos h2];rfl
   ·rw[if_neg h2,if_neg h2];rfl
theorem tQ2 {Q:List UInt8->Ls.Rl}{t:List UInt8}(h:Q t=.none):H7 Q t=.none:=by unfold H7;rw[h]
theorem rQq {Q:List UInt8->Ls.Rl}{s:ByteArray}{i i1:Nat}{l:Ls.Ln}(h:Q (rest s i)=some (l,rest s i1))(hs:A5 s i1 126=false):H7 Q (rest s i)=some (l,rest s i1):=by
 unfold H7;rw[h];dsimp only
 rw[if_neg (by rw[B8,hs];simp)]
theorem hQ2 {Q:List UInt8->Ls.Rl}{s:ByteArray}{i i1:Nat}{l:Ls.Ln}(h:Q (rest s i)=some (l,rest s i1))(hs:A5 s i1 126=true):H7 Q (rest s i)=match Q (rest s (i1+1)) with|.none=>.none|some (b,v)=>some (Ls.wQ5 l b,v):=by
 unfold H7;rw[h];dsimp only
 rw[if_pos (B8.2 hs),D7]
theorem gQa {W:World}{G:Nat->Prop}{res:Ls.Rl}{s:ByteArray}{z j zj:Nat}{k:Nat}{p:Ls.Pat}{ws:List UInt8}{y x:Value}(h:CaseL W G res s z j zj false k p ws y x)(hs:A5 s j 41=true):CaseL W G (L4 res) s z (j+1) zj false k p ws y x:=by
 rcases h with⟨h0,_⟩|⟨_,l,hr,h1,h2,h3,h4,h5,h6⟩
 ·cases h0
 ·refine .inr ⟨rfl,l,?_,h1,h2,h3,h4,by have:=(C6 hs).1;omega,h6⟩
  rw[hr];show (if (rest s j).head?=some 41 then _ else _)=_;rw[if_pos (B8.2 hs),D7]
theorem dQx {W:World}{G:Nat->Prop}{res:Ls.Rl}{s:ByteArray}{z j zj:Nat}{bad:Bool}{k:Nat}{p:Ls.Pat}{ws:List UInt8}{y x:Value}(h:CaseL W G res s z j zj bad k p ws y x)(hs:(bad||!A5 s j 41)=true):N3 (L4 res)=.none:=by
 rcases h with⟨_,hr⟩|⟨rfl,l,hr,_⟩
 ·rw[hr];rfl
 ·rw[hr]
  have hse:A5 s j 41=false:=by simpa using hs
  show N3 (if (rest s j).head?=some 41 then _ else _)=_;rw[if_neg (by rw[B8,hse];simp)];rfl
theorem LiesL.set {W:World}{g:Nat}{x:List Value}(h:LiesL W g x)(o:Nat)(v:Value):LiesL (W.setCell ⟨g,o,none⟩ v) g (x.set o v):=by
 unfold LiesL at h ⊢;simp[World.setCell,Array.getElem?_modify,h]
theorem LiesL.set6 {W:World}{g:Nat}{a b c d e f:Value}(h:LiesL W g [a,b,c,d,e,f])(k:Nat)(p:Ls.Pat)(ws:List UInt8)(y x:Value):LiesL (set6 W g k p ws y x) g [.int .i64 k,.int .i64 p.kind,.string ⟨p.signs.toArray⟩,y,.string ⟨ws.toArray⟩,x]:=
 (((((h.set 0 _).set 1 _).set 2 _).set 3 _).set 4 _).set 5 _
theorem St.cell {w:World}{pb:Nat}{s:ByteArray}{i z:Nat}{bad:Bool}{W:World}(h:St w pb s i z bad W){g:Nat}(hg:w.heap.size<g)(o:Nat)(v:Value):St w pb s i z bad (W.setCell ⟨g,o,none⟩ v):=
 ⟨h.left.cellR (Nat.le_of_lt hg) h.pl o v,h.res.of_block (Below.heap_setCell _ _ _ _ (by show w.heap.size≠g;omega)),h.pl⟩
theorem St.set6 {w:World}{pb:Nat}{s:ByteArray}{i z:Nat}{bad:Bool}{W:World}(h:St w pb s i z bad W){g:Nat}(hg:w.heap.size<g)(k:Nat)(p:Ls.Pat)(ws:List UInt8)(y x:Value):St w pb s i z bad (set6 W g k p ws y x):=
 (((((h.cell hg 0 _).cell hg 1 _).cell hg 2 _).cell hg 3 _).cell hg 4 _).cell hg 5 _
theorem bQu (W:World)(g:Nat)(k:Nat)(p:Ls.Pat)(ws:List UInt8)(y x:Value)(j:Nat)(hj:j≠g):(set6 W g k p ws y x).heap[j]?=W.heap[j]?:=by
 show ((((((W.setCell _ _).setCell _ _).setCell _ _).setCell _ _).setCell _ _).setCell _ _).heap[j]?=_;rw[Below.heap_setCell _ _ _ _ hj,Below.heap_setCell _ _ _ _ hj,Below.heap_setCell _ _ _ _ hj,Below.heap_setCell _ _ _ _ hj,Below.heap_setCell _ _ _ _ hj,Below.heap_setCell _ _ _ _ hj]
theorem dQ5 (W:World)(g:Nat)(k:Nat)(p:Ls.Pat)(ws:List UInt8)(y x:Value):(set6 W g k p ws y x).heap.size=W.heap.size:=by simp[set6,World.setCell]
abbrev M1 (k:Nat)(p:Ls.Pat)(ws:List UInt8)(y x:Value)(k2:Nat)(p2:Ls.Pat)(ws2:List UInt8)(y2 x2:Value):Obj:=
 .cells #[.int .i64 k,.int .i64 p.kind,.string ⟨p.signs.toArray⟩,y,.string ⟨ws.toArray⟩,x,.int .i64 k2,.int .i64 p2.kind,.string ⟨p2.signs.toArray⟩,y2,.string ⟨ws2.toArray⟩,x2] 37
theorem eQf (w:World)(k:Nat)(p:Ls.Pat)(ws:List UInt8)(y x:Value)(k2:Nat)(p2:Ls.Pat)(ws2:List UInt8)(y2 x2:Value):LiesL (w.alloc (M1 k p ws y x k2 p2 ws2 y2 x2)) w.heap.size ([.int .i64 k,.int .i64 p.kind,.string ⟨p.signs.toArray⟩,y,.string ⟨ws.toArray⟩,x]++[.int .i64 k2,.int .i64 p2.kind,.string ⟨p2.signs.toArray⟩,y2,.string ⟨ws2.toArray⟩,x2]):=
 W9 w ([.int .i64 k,.int .i64 p.kind,.string ⟨p.signs.toArray⟩,y,.string ⟨ws.toArray⟩,x]++[.int .i64 k2,.int .i64 p2.kind,.string ⟨p2.signs.toArray⟩,y2,.string ⟨ws2.toArray⟩,x2])
theorem kQj {W W2 W':World}{G G2 G':Nat->Prop}{Q:List UInt8->Ls.Rl}{s:ByteArray}{i z i1 z1 i2 z2:Nat}{bad:Bool}{k:Nat}{p:Ls.Pat}{ws:List UInt8}{y x:Value}{k2:Nat}{p2:Ls.Pat}{ws2:List UInt8}{y2 x2:Value}{g:Nat}
  (h:CaseL W G (Q (rest s i)) s z i1 z1 false k p ws y x) (hs:A5 s i1 126=true) (h2:CaseL W2 G2 (Q (rest s (i1+1))) s z1 i2 z2 bad k2 p2 ws2 y2 x2) (hw:∀k,G k->G' k/\W'.heap[k]?=W.heap[k]?) (hw2:∀k,G2 k->G' k/\W'.heap[k]?=W2.heap[k]?) (hg:G' g)
  (hl:LiesL W' g ([.int .i64 k,.int .i64 p.kind,.string ⟨p.signs.toArray⟩,y,.string ⟨ws.toArray⟩,x]++[.int .i64 k2,.int .i64 p2.kind,.string ⟨p2.signs.toArray⟩,y2,.string ⟨ws2.toArray⟩,x2])) :
  CaseL W' G' (H7 Q (rest s i)) s z i2 z2 bad 4 Ls.none [] (.slice none 0 0) (.slice (some ⟨g,0,none⟩) 2 2):=by
 rcases h with⟨h0,_⟩|⟨_,l,hr,rfl,rfl,rfl,rfl,hi',hv⟩
 ·cases h0
 rcases h2 with⟨rfl,hr2⟩|⟨rfl,l2,hr2,rfl,rfl,rfl,rfl,hi2,hv2⟩
 ·exact .inl ⟨rfl,by rw[hQ2 hr hs,hr2]⟩
 ·refine .inr ⟨rfl,Ls.wQ5 l l2,by rw[hQ2 hr hs,hr2],rfl,Ls.wQ8,rfl,by rw[Ls.yQx];omega,hi2,?_⟩
  show NV W' G' ⟨4,Ls.rnil,[],[l,l2]⟩ (.slice none 0 0) (.slice (some ⟨g,0,none⟩) 2 2);rw[NV,Ls.wQ8];exact⟨L3 _ _ _ _,g,y,x,y2,x2,hg,rfl,hl,NV.mono hw _ _ _ hv,NV.mono hw2 _ _ _ hv2⟩
end Go.Proofs.YtcggfnlejalppaaGreatDoor
