import Derived.Test.YtcggfnlejalppaaGreatDoorK25
set_option maxRecDepth 100000
set_option maxHeartbeats 4000000
namespace Go.Proofs.YtcggfnlejalppaaGreatDoor
open Go.RowKit
def fQr (r:Ls.Rd):Ls.Rl:=match r with
 | .none=>.none
 | some (d,u)=>some (Ls.xQ7 d,u)
theorem sQg {W:World}{G:Nat->Prop}{res:Ls.Rd}{s:ByteArray}{z i' z':Nat}{bad:Bool}{p:Ls.Pat}{y:Value}(h:E3 res s z i' z' bad p)(hv:PV W G p y):CaseL W G (fQr res) s z i' z' bad 0 p [] y (.slice none 0 0):=by
 rcases h with⟨rfl,hr⟩|⟨rfl,d,hr,rfl,rfl,hi'⟩
 ·exact .inl ⟨rfl,by rw[hr];rfl⟩
 ·refine .inr ⟨rfl,Ls.xQ7 d,by rw[hr];rfl,rfl,rfl,rfl,by rw[Ls.zQr],hi',?_⟩
  show NV W G ⟨0,d,[],[]⟩ y (.slice none 0 0);rw[NV];exact⟨hv,rfl⟩
theorem nQg (s:ByteArray)(hs:s.size<=1048576)(D:Nat)(hSl:cQo s D)(pb i z:Nat)(w:World)(h:PB w pb s i z false)(hi:i<s.size)(hz:z<=1048576+i)(hc:nx s i=47) :
  Calls Tryz.prog 101 #[.pointer (some ⟨pb,0,none⟩),.int .i64 (D:Int)] w (LPost w pb s i z (Ls.wQ6 (Ls.pat (13-D)) (Ls.wQy (12-D)) (rest s i))):=by
 have HR:Hid (Ls.wQ6 (Ls.pat (13-D)) (Ls.wQy (12-D)) (rest s i)=N3 (fQr (Ls.wQ4 (Ls.pat (13-D)) (rest s (i+1))))):=by
  show _=_;rw[C4 hi,hc];show (match Ls.wQ4 (Ls.pat (13-D)) (rest s (i+1)) with|.none=>(.none:Ls.Rl)|some (d,u)=>some (Ls.xQp (Ls.xQ7 d) u))=_;cases Ls.wQ4 (Ls.pat (13-D)) (rest s (i+1)) with
  | none=>rfl
  | some x=>rfl
 have Hc:Hid (nx s i=47):=hc;clear hc;have hpl:=h.lt;have hne:¬w.heap.size=pb:=by omega
 have hne':¬pb=w.heap.size:=by omega
 have hst0:=St.start h;go_enter Tryz.func101,Tryz.ntmps101;go_wp2_with fail;refine(E8 pb s i z false _ hst0.left.lies (by omega) (by omega)).mono ?_;rw[Hc.out];rintro e w1 ⟨rfl,hb1⟩;have hst1:=hst0.below hb1;have hst2:=hst1.set1 (i+1);obtain⟨c1,c2,c3,f1,f2,f3,q0,q1,q2,q3,q4,q5,g,hlt⟩:=hst1.cells;have HST2:Hid _:=hst2;clear hst0 hst1 hst2;go_wp2_with fail;refine(hSl pb (i+1) z _ HST2.out.left.lies (by omega) (by omega)).mono ?_;rintro e w3 hpp;obtain⟨p,y1,y2,y3,i',z',bad,rfl,hv,hi1,hi2,hz2,hl3,hcase⟩:=hpp.mid (fun d t hr=>⟨(Ls.zQm (Ls.yQ0 _) hr).1,by have:=(Ls.zQm (Ls.yQ0 _) hr).2;omega⟩) (by omega);clear hpp c1 c2 c3 f1 f2 f3 q0 q1 q2 q3 q4 q5 g hlt;have hst3:=HST2.out.next hl3;have hb4:=A4 w3 (.cells #[.int .i64 p.kind,.string ⟨p.signs.toArray⟩,.slice y1 y2 y3] 27);have hst4:=hst3.below hb4;have hG:Old (w3.alloc (.cells #[.int .i64 p.kind,.string ⟨p.signs.toArray⟩,.slice y1 y2 y3] 27)) (B6 (w1.setCell ⟨pb,1,none⟩ (.int .i64 ((i+1:Nat):Int))) w3):=fun k hk=>Nat.lt_of_lt_of_le hk.2 hb4.size;have hz1:w.heap.size<(w1.setCell ⟨pb,1,none⟩ (.int .i64 ((i+1:Nat):Int))).heap.size:=HST2.out.res.lt;have hpG:∀k,B6 (w1.setCell ⟨pb,1,none⟩ (.int .i64 ((i+1:Nat):Int))) w3 k->k≠pb:=fun k hk=>by have:=hk.1;omega
 have hcl:=sQg hcase (hv.below hb4 (fun k hk=>hk.2) (fun _ h=>h));have hA:=dQm s hs pb i' z' bad _ hst4.left.lies (by omega) (by omega) 0 p [] y1 y2 y3 none 0 0;have HST4:Hid _:=hst4;have HG:Hid _:=hG;have HPG:Hid _:=hpG;have HCL:Hid _:=hcl;have hbz:=hb4.size;clear hst3 hst4 hG hpG hcl hcase hv hl3 hb4;go_wp2_with fail;refine hA.mono ?_;rintro e w5 ha;obtain⟨k',p',ws',v1,v2,v3,u1,u2,u3,rfl,hcl2,hl5⟩:=dQ0 HCL.out ha HG.out HPG.out;have hst5:=HST4.out.next hl5;have hz5:=hl5.grown.size;obtain⟨c1,c2,c3,f1,f2,f3,q0,q1,q2,q3,q4,q5,g,hlt⟩:=hst5.cells;have g0:=g 0;have g1:=g 1;have g2:=g 2;have g3:=g 3;have g4:=g 4;have g5:=g 5;have HST5:Hid _:=hst5;have HCL2:Hid _:=hcl2;have HI:Hid (i<=(if A5 s i' 42=true then i'+1 else i')/\(if A5 s i' 42=true then i'+1 else i')<=s.size+1/\(if A5 s i' 42=true then z'+1 else z')<=z+((if A5 s i' 42=true then i'+1 else i')-i)):=by
  cases hse:A5 s i' 42 with
  | false=>simp only[Bool.false_eq_true,if_false];exact⟨by omega,by omega,by omega⟩
  | true=>have:=(C6 hse).1;simp only[if_true];exact⟨by omega,by omega,by omega⟩
 have HH:Hid (∀k,E1 (B6 (w1.setCell ⟨pb,1,none⟩ (.int .i64 ((i+1:Nat):Int))) w3) (w3.alloc (.cells #[.int .i64 p.kind,.string ⟨p.signs.toArray⟩,.slice y1 y2 y3] 27)) w5 k->w.heap.size<k/\k<w5.heap.size):=by
  rintro k (hk|hk)
  ·have h1:=hk.1
   have h2:=hk.2;exact⟨by omega,by omega⟩
  ·have h1:=hk.1
   have h2:=(HST4.out).res.lt;exact⟨by omega,hk.2⟩
 clear hst5 hcl2 hl5 ha hA c1 c2 c3 f1 f2 f3 g;go_wp2_with fail;rw[HR.out];exact bodyPost_ret (v:=C7 k' p' ws' (.slice v1 v2 v3) (.slice u1 u2 u3)) (by simp[results,Tryz.results101,go_sem,q0,q1,q2,q3,q4,q5]) rfl (K0 HCL2.out HI.out.1 HI.out.2.1 HI.out.2.2 HST5.out HH.out)
def cQr (s:ByteArray)(i z i' z':Nat)(bad:Bool)(x:List UInt8):Prop:=
 (bad=true/\Ls.xQg (rest s i)=.none)\/(bad=false/\Ls.xQg (rest s i)=some (x,rest s i')/\z'=z+x.length/\i'<=s.size)
theorem WPost.mid {w w':World}{pb:Nat}{s:ByteArray}{i z:Nat}{e:Ending}(h:WPost w pb s i z e w')(hi:i<=s.size) :
  ∃x i' z' bad,e=.returned (F4 x)/\i<=i'/\i'<=s.size+1/\z'<=z+(i'-i)/\Left w pb s i' z' bad w'/\cQr s i z i' z' bad x:=by
 rcases h with⟨x,t,hr,he,hl⟩|⟨hr,x,i',z',he,h1,h2,h3,hl⟩
 ·obtain⟨h1,h2⟩:=Ls.zQ3 hr
  have htl:=Z8 h1;have hln:=h1.length_le;rw[D9]at hln h2;exact⟨x,s.size-t.length,z+x.length,false,he,by omega,by omega,by omega,hl,.inr ⟨rfl,by rw[hr,<-htl],rfl,by omega⟩⟩
 ·exact⟨x,i',z',true,he,h1,h2,h3,hl,.inl ⟨rfl,hr⟩⟩
def eQk (r:Option (List UInt8 × List UInt8)):Ls.Rl:=match r with
 | .none=>.none
 | some (w,v)=>some (Ls.zQ6 w,v)
theorem qQ9 {W:World}{s:ByteArray}{i z i' z':Nat}{bad:Bool}{x:List UInt8}(h:cQr s i z i' z' bad x):CaseL W (fun _=>False) (eQk (Ls.xQg (rest s i))) s z i' z' bad 2 Ls.none x (.slice none 0 0) (.slice none 0 0):=by
 rcases h with⟨rfl,hr⟩|⟨rfl,hr,rfl,hi'⟩
 ·exact .inl ⟨rfl,by rw[hr];rfl⟩
 ·refine .inr ⟨rfl,Ls.zQ6 x,by rw[hr];rfl,rfl,Ls.wQ8,rfl,by rw[Ls.aXk],hi',?_⟩
  show NV W _ ⟨2,Ls.rnil,x,[]⟩ (.slice none 0 0) (.slice none 0 0);rw[NV,Ls.wQ8];exact⟨L3 _ _ _ _,rfl⟩
theorem rQu (s:ByteArray)(hs:s.size<=1048576)(D:Nat)(pb i z:Nat)(w:World)(h:PB w pb s i z false)(hi:i<s.size)(hz:z<=1048576+i)(hc:nx s i=43) :
  Calls Tryz.prog 101 #[.pointer (some ⟨pb,0,none⟩),.int .i64 (D:Int)] w (LPost w pb s i z (Ls.wQ6 (Ls.pat (13-D)) (Ls.wQy (12-D)) (rest s i))):=by
 have HR:Hid (Ls.wQ6 (Ls.pat (13-D)) (Ls.wQy (12-D)) (rest s i)=eQk (Ls.xQg (rest s (i+1)))):=by
  show _=_;rw[C4 hi,hc];show (match Ls.xQg (rest s (i+1)) with|.none=>(.none:Ls.Rl)|some (w,v)=>some (Ls.zQ6 w,v))=_;cases Ls.xQg (rest s (i+1)) with
  | none=>rfl
  | some x=>rfl
 have Hc:Hid (nx s i=43):=hc;clear hc;have hpl:=h.lt;have hne:¬w.heap.size=pb:=by omega
 have hne':¬pb=w.heap.size:=by omega
 have hst0:=St.start h;go_enter Tryz.func101,Tryz.ntmps101;go_wp2_with fail;refine(E8 pb s i z false _ hst0.left.lies (by omega) (by omega)).mono ?_;rw[Hc.out];rintro e w1 ⟨rfl,hb1⟩;have hst1:=hst0.below hb1;have hst2:=hst1.set1 (i+1);obtain⟨c1,c2,c3,f1,f2,f3,q0,q1,q2,q3,q4,q5,g,hlt⟩:=hst1.cells;have HST2:Hid _:=hst2;clear hst0 hst1 hst2;go_wp2_with fail;refine(fQp s hs pb (i+1) z _ HST2.out.left.lies (by omega) (by omega)).mono ?_;rintro e w3 hpp;obtain⟨x,i',z',bad,rfl,hi1,hi2,hz2,hl3,hcase⟩:=hpp.mid (by omega);clear hpp c1 c2 c3 f1 f2 f3 q0 q1 q2 q3 q4 q5 g hlt;have hst3:=HST2.out.next hl3;obtain⟨c1,c2,c3,f1,f2,f3,q0,q1,q2,q3,q4,q5,g,hlt⟩:=hst3.cells;have g0:=g 0;have g1:=g 1;have g2:=g 2;have g3:=g 3;have g4:=g 4;have g5:=g 5;have HST3:Hid _:=hst3;have HCL:Hid _:=qQ9 (W:=w3) hcase;clear hst3 hcase hl3 c1 c2 c3 f1 f2 f3 g;go_wp2_with fail;rw[HR.out];exact bodyPost_ret (v:=C7 2 Ls.none x (.slice none 0 0) (.slice none 0 0)) (by simp[results,Tryz.results101,go_sem,q0,q1,q2,q3,q4,q5,Ls.none]) rfl (K0 HCL.out (by omega) hi2 (by omega) HST3.out (fun _ h=>h.elim))
theorem wQq (s:ByteArray)(hs:s.size<=1048576)(D:Nat)(pb i z:Nat)(w:World)(h:PB w pb s i z false)(hi:i<=s.size)(hc:∀x,x∈([47,45,43,60,40]:List UInt8)->nx s i≠x) :
  Calls Tryz.prog 101 #[.pointer (some ⟨pb,0,none⟩),.int .i64 (D:Int)] w (LPost w pb s i z (Ls.wQ6 (Ls.pat (13-D)) (Ls.wQy (12-D)) (rest s i))):=by
 have HR:Hid (Ls.wQ6 (Ls.pat (13-D)) (Ls.wQy (12-D)) (rest s i)=.none):=by
  show _=_
  by_cases hlt:i<s.size
  ·rw[C4 hlt]
   simp only[Ls.wQ6];rw[if_neg (hc 47 (by simp)),if_neg (hc 45 (by simp)),if_neg (hc 43 (by simp)),if_neg (hc 60 (by simp)),if_neg (hc 40 (by simp))]
  ·rw[K1 (by omega)];rfl
 have ne:∀x:UInt8,x∈([47,45,43,60,40]:List UInt8)->(((nx s i).toNat:Int)==(x.toNat:Int))=false:=fun x hx=>by
  rw[beq_eq_false_iff_ne];intro e;exact hc x hx (UInt8.toNat_inj.1 (by omega))
 have n1:(((nx s i).toNat:Int)==47)=false:=ne 47 (by simp);have n2:(((nx s i).toNat:Int)==45)=false:=ne 45 (by simp);have n3:(((nx s i).toNat:Int)==43)=false:=ne 43 (by simp);have n4:(((nx s i).toNat:Int)==60)=false:=ne 60 (by simp);have n5:(((nx s i).toNat:Int)==40)=false:=ne 40 (by simp);clear hc ne;have hpl:=h.lt;have hne:¬w.heap.size=pb:=by omega
 have hne':¬pb=w.heap.size:=by omega
 have hst0:=St.start h;go_enter Tryz.func101,Tryz.ntmps101;go_wp2_with fail;refine(E8 pb s i z false _ hst0.left.lies (by omega) (by omega)).mono ?_;rintro e w1 ⟨rfl,hb1⟩;have hst1:=hst0.below hb1;have hst2:=(hst1.set1 (i+1)).set3 true;obtain⟨c1,c2,c3,f1,f2,f3,q0,q1,q2,q3,q4,q5,g,hlt⟩:=hst1.cells;have g0:=g 0;have g1:=g 1;have g2:=g 2;have g3:=g 3;have g4:=g 4;have g5:=g 5;have HST2:Hid _:=hst2;clear hst0 hst1 hst2 g;go_wp2_with fail;rw[HR.out];exact bodyPost_ret (v:=C7 0 Ls.none [] (.slice none 0 0) (.slice none 0 0)) (by simp[results,Tryz.results101,go_sem,q0,q1,q2,q3,q4,q5,Ls.none]) rfl (S3 rfl (by omega) (by omega) (by omega) HST2.out)
def R1 (P:List UInt8->Ls.Rd)(t:List UInt8):Ls.Rl:=
 if t.head?=some 47 then
  match Ls.wQ4 P t.tail with
  | .none=>.none
  | some (d,u)=>
   match Ls.xQg u with
   | .none=>.none
   | some (w,v)=>some (Ls.xQk d w,v)
 else .none
theorem jQq {P:List UInt8->Ls.Rd}{s:ByteArray}{i:Nat}(h:A5 s i 47=false):R1 P (rest s i)=.none:=by
 unfold R1;rw[if_neg (by rw[B8,h];simp)]
theorem vQ3 {P:List UInt8->Ls.Rd}{s:ByteArray}{i:Nat}(h:A5 s i 47=true)(h1:Ls.wQ4 P (rest s (i+1))=.none):R1 P (rest s i)=.none:=by
 unfold R1;rw[if_pos (B8.2 h),D7,h1]
theorem lQ0 {W:World}{G:Nat->Prop}{P:List UInt8->Ls.Rd}{s:ByteArray}{i i' z z' i2 z2:Nat}{bad:Bool}{p:Ls.Pat}{x:List UInt8}{y:Value}(h:A5 s i 47=true)(h1:E3 (Ls.wQ4 P (rest s (i+1))) s z i' z' false p)(h2:cQr s i' z' i2 z2 bad x)(hv:PV W G p y) :
  CaseL W G (R1 P (rest s i)) s z i2 z2 bad 1 p x y (.slice none 0 0):=by
 rcases h1 with⟨h0,_⟩|⟨_,d,hr,rfl,rfl,hi'⟩
 ·cases h0
 rcases h2 with⟨rfl,hr2⟩|⟨rfl,hr2,rfl,hi2⟩
 ·refine .inl ⟨rfl,?_⟩
  unfold R1;rw[if_pos (B8.2 h),D7,hr];dsimp only
  rw[hr2]
 ·refine .inr ⟨rfl,Ls.xQk d x,?_,rfl,rfl,rfl,by rw[Ls.yQ8];omega,hi2,?_⟩
  ·unfold R1
   rw[if_pos (B8.2 h),D7,hr];dsimp only
   rw[hr2]
  ·show NV W G ⟨1,d,x,[]⟩ y (.slice none 0 0)
   rw[NV];exact⟨hv,rfl⟩
theorem Left.block {w W:World}{pb:Nat}{s:ByteArray}{i z:Nat}{b:Bool}(h:Left w pb s i z b W){k:Nat}(hk:k<w.heap.size)(hne:k≠pb):W.heap[k]?=w.heap[k]?:=h.grown.block k hk (by simp[hne])
theorem pQk (s:ByteArray)(hs:s.size<=1048576)(D:Nat)(hSl:cQo s D)(pb i z:Nat)(w:World)(h:PB w pb s i z false)(hi:i<s.size)(hz:z<=1048576+i)(hc:nx s i=45) :
  Calls Tryz.prog 101 #[.pointer (some ⟨pb,0,none⟩),.int .i64 (D:Int)] w (LPost w pb s i z (Ls.wQ6 (Ls.pat (13-D)) (Ls.wQy (12-D)) (rest s i))):=by
 have HR:Hid (Ls.wQ6 (Ls.pat (13-D)) (Ls.wQy (12-D)) (rest s i)=R1 (Ls.pat (13-D)) (rest s (i+1))):=by
  show _=_;rw[C4 hi,hc];rfl
 have Hc:Hid (nx s i=45):=hc;clear hc;have hpl:=h.lt;have hne:¬w.heap.size=pb:=by omega
 have hne':¬pb=w.heap.size:=by omega
 have hst0:=St.start h;go_enter Tryz.func101,Tryz.ntmps101;go_wp2_with fail;refine(E8 pb s i z false _ hst0.left.lies (by omega) (by omega)).mono ?_;rw[Hc.out];rintro e w1 ⟨rfl,hb1⟩;have hst1:=hst0.below hb1;have hst2:=hst1.set1 (i+1);obtain⟨c1,c2,c3,f1,f2,f3,q0,q1,q2,q3,q4,q5,g,hlt⟩:=hst1.cells;have HST2:Hid _:=hst2;clear hst0 hst1 hst2;go_wp2_with fail;refine(J0 pb s (i+1) z false 47 _ HST2.out.left.lies (by omega) (by omega)).mono ?_;rintro e w3 ⟨rfl,hl3⟩;clear c1 c2 c3 f1 f2 f3 q0 q1 q2 q3 q4 q5 g hlt;cases hse:A5 s (i+1) 47 with
 | false=>
  rw[hse]at hl3;simp only[Bool.false_eq_true,if_false]at hl3;have HN:Hid (R1 (Ls.pat (13-D)) (rest s (i+1))=.none):=jQq hse;have hst3:=HST2.out.next hl3;obtain⟨c1,c2,c3,f1,f2,f3,q0,q1,q2,q3,q4,q5,g,hlt⟩:=hst3.cells;have g0:=g 0;have g1:=g 1;have g2:=g 2;have g3:=g 3;have g4:=g 4;have g5:=g 5;have HST3:Hid _:=hst3.set3 true;clear hst3 hl3 hse g;go_wp2_with fail;rw[HR.out,HN.out];exact bodyPost_ret (v:=C7 0 Ls.none [] (.slice none 0 0) (.slice none 0 0)) (by simp[results,Tryz.results101,go_sem,q0,q1,q2,q3,q4,q5,Ls.none]) rfl (S3 rfl (by omega) (by omega) (by omega) HST3.out)
 | true=>
  rw[hse]at hl3;simp only[if_true]at hl3;have hi2:=(C6 hse).1;have HSE:Hid (A5 s (i+1) 47=true):=hse;have hst3:=HST2.out.next hl3;have hst4:=hst3.set3 false;obtain⟨c1,c2,c3,f1,f2,f3,q0,q1,q2,q3,q4,q5,g,hlt⟩:=hst3.cells;have HST4:Hid _:=hst4;clear hst3 hl3 hse hst4;go_wp2_with fail;refine(hSl pb (i+1+1) z _ HST4.out.left.lies (by omega) (by omega)).mono ?_;rintro e w5 hpp;obtain⟨p,y1,y2,y3,i',z',bad,rfl,hv,hi1',hi2',hz2,hl5,hcase⟩:=hpp.mid (fun d t hr=>⟨(Ls.zQm (Ls.yQ0 _) hr).1,by have:=(Ls.zQm (Ls.yQ0 _) hr).2;omega⟩) (by omega);clear hpp c1 c2 c3 f1 f2 f3 q0 q1 q2 q3 q4 q5 g hlt;have hst5:=HST4.out.next hl5;have hb6:=A4 w5 (.cells #[.int .i64 p.kind,.string ⟨p.signs.toArray⟩,.slice y1 y2 y3] 27);have hst6:=hst5.below hb6;have hlp:=C1 w5 (B7 p (.slice y1 y2 y3));obtain⟨c1,c2,c3,f1,f2,f3,q0,q1,q2,q3,q4,q5,g,hlt⟩:=hst6.cells;obtain⟨d1,_⟩:(w5.cell? ⟨pb,3,none⟩=some (.bool bad))/\True:=⟨hst5.cells.c3,trivial⟩;have hpl5:pb<w5.heap.size:=hst5.left.lies.lt;cases bad with
  | true=>
   have HN:Hid (R1 (Ls.pat (13-D)) (rest s (i+1))=.none):=by
    rcases hcase with⟨_,hr⟩|⟨h0,_⟩
    ·exact vQ3 HSE.out hr
    ·cases h0
   have g0:=g 0;have g1:=g 1;have g2:=g 2;have g3:=g 3;have g4:=g 4;have g5:=g 5;have HST6:Hid _:=hst6;clear hst5 hst6 hlp hcase hv hl5 hb6 g;go_wp2_with fail;rw[HR.out,HN.out];exact bodyPost_ret (v:=C7 0 Ls.none [] (.slice none 0 0) (.slice none 0 0)) (by simp[results,Tryz.results101,go_sem,q0,q1,q2,q3,q4,q5,Ls.none]) rfl (S3 rfl (by omega) (by omega) (by omega) HST6.out)
  | false=>
   have hi':i'<=s.size:=by
    rcases hcase with⟨h0,_⟩|⟨_,d,_,_,_,h1⟩
    ·cases h0
    ·exact h1
   have HV:Hid _:=hv;have HC:Hid (E3 (Ls.wQ4 (Ls.pat (13-D)) (rest s (i+1+1))) s z i' z' false p):=hcase;have HST6:Hid _:=hst6;have HLP:Hid (Lies (w5.alloc (.cells #[.int .i64 p.kind,.string ⟨p.signs.toArray⟩,.slice y1 y2 y3] 27)) w5.heap.size (B7 p (.slice y1 y2 y3))):=hlp;have HB6:Hid _:=hb6;have hz4:w.heap.size<((w3.setCell ⟨pb,3,none⟩ (.bool false)).heap.size):=HST4.out.res.lt;clear hst5 hst6 hlp hcase hv hl5 hb6 g;go_wp2_with fail;refine(fQp s hs pb i' z' _ HST6.out.left.lies (by omega) (by omega)).mono ?_;rintro e w7 hpp;obtain⟨x,i2,z2,bad2,rfl,hi3,hi4,hz3,hl7,hcw⟩:=hpp.mid hi';clear hpp c1 c2 c3 f1 f2 f3 q0 q1 q2 q3 q4 q5 hlt;have hst7:=HST6.out.next hl7;have hz5:=hl7.grown.size;have hz6:=HB6.out.size;have hlp7:Lies w7 w5.heap.size (B7 p (.slice y1 y2 y3)):=HLP.out.grown hl7.grown (by simp;omega);obtain⟨m0,m1,m2⟩:=hlp7.three;have hv7:PV w7 (B6 (w3.setCell ⟨pb,3,none⟩ (.bool false)) w5) p (.slice y1 y2 y3):=PV.mono (fun _ h=>h) (fun k hk=>by
    have h1:=hk.1;have h2:=hk.2;rw[hl7.block (by simp;omega) (by omega),HB6.out.block k h2]) _ _ HV.out
   have HCL:Hid _:=lQ0 HSE.out HC.out hcw hv7;obtain⟨c1,c2,c3,f1,f2,f3,q0,q1,q2,q3,q4,q5,g,hlt⟩:=hst7.cells;have g0:=g 0;have g1:=g 1;have g2:=g 2;have g3:=g 3;have g4:=g 4;have g5:=g 5;have HST7:Hid _:=hst7;have HH:Hid (∀k,B6 (w3.setCell ⟨pb,3,none⟩ (.bool false)) w5 k->w.heap.size<k/\k<w7.heap.size):=fun k hk=>by
    have h1:=hk.1;have h2:=hk.2;exact⟨by omega,by omega⟩
   clear hst7 hlp7 hv7 hcw hl7 g;go_wp2_with fail;rw[HR.out];exact bodyPost_ret (v:=C7 1 p x (.slice y1 y2 y3) (.slice none 0 0)) (by simp[results,Tryz.results101,go_sem,q0,q1,q2,q3,q4,q5]) rfl (K0 HCL.out (by omega) hi4 (by omega) HST7.out HH.out)
end Go.Proofs.YtcggfnlejalppaaGreatDoor
