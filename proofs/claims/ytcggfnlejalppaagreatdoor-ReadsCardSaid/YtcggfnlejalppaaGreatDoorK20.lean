import Derived.Test.YtcggfnlejalppaaGreatDoorK19
set_option maxRecDepth 100000
set_option maxHeartbeats 4000000
namespace Go.Proofs.YtcggfnlejalppaaGreatDoor
open Go.RowKit
theorem Z8 {s:ByteArray}{i:Nat}{t:List UInt8}(h:t <:+ rest s i):t=rest s (s.size-t.length):=by
 have h3:=h.trans (List.drop_suffix i s.data.toList);have h4:=List.suffix_iff_eq_drop.1 h3;simpa using h4
theorem jQ2 (s:ByteArray)(hs:s.size<=1048576)(D:Nat)(pb i z:Nat)(w:World)(h:PB w pb s i z false)(hi:i<s.size)(hz:z<=1048576+i)(hc:nx s i=91) :
  Calls Tryz.prog 111 #[.pointer (some ⟨pb,0,none⟩),.int .i64 (D:Int)] w (PPost w pb s i z (Ls.wQ2 (Ls.pat (12-D)) (rest s i))):=by
 have hpl:=h.lt;have hne:¬w.heap.size=pb:=by omega
 have hne':¬pb=w.heap.size:=by omega
 have HR:Hid (Ls.wQ2 (Ls.pat (12-D)) (rest s i)=match Ls.cls ((rest s (i+1)).length+1) [] (rest s (i+1)) with|.none=>.none|some (s,u)=>some (Ls.place s,u)):=by
  show _=_;rw[C4 hi,hc];rfl
 have Hc:Hid (nx s i=91):=hc;clear hc;have hcv:=G5;go_enter Tryz.func111,Tryz.ntmps111;go_wp2_with fail;refine(E8 pb s i z false _ (h.below (A4 _ _)) (by omega) (by omega)).mono ?_;rw[Hc.out];rintro e w1 ⟨rfl,hb1⟩;go_wp2_with fail;refine(I1 91 _).mono ?_;rintro e w2 ⟨rfl,rfl⟩;have hl1:=(Left.of_below h (A4 w (.cells #[.int .i64 0,.string ⟨#[]⟩,.slice none 0 0] 27))).below hb1;have hlie1:=(C1 w [.int .i64 0,.string ⟨#[]⟩,.slice none 0 0]).below hb1 (by simp);have hz1:=hlie1.lt;obtain⟨q0,q1,q2⟩:=hlie1.three (a:=Ls.none);have g0:=hlie1.fr 0;have g1:=hlie1.fr 1;have g2:=hlie1.fr 2;have f1:=hl1.lies.fr 1;have k1:=hl1.lies.c1;have f2:=hl1.lies.fr 2;have k2:=hl1.lies.c2;have f3:=hl1.lies.fr 3;have k3:=hl1.lies.c3;go_wp2_with fail;have hl2:=(hl1.set1 (i+1)).set2 (z+1);have hlie2:=(hlie1.set_other pb 1 (.int .i64 ((i+1:Nat):Int)) hne).set_other pb 2 (.int .i64 ((z+1:Nat):Int)) hne;refine(pQ8 pb s (i+1) (z+1) _ hl2.lies hs (by omega)).mono ?_;rintro e w3 hcp;have hgr:∃b i' ,Left w pb s i' (z+1) b w3:=by
  rcases hcp with⟨sg,t,_,_,hl⟩|⟨_,i',_,_,_,hl⟩
  ·exact⟨_,_,hl2.trans hl⟩
  ·exact⟨_,_,hl2.trans hl⟩
 have hg2:∃b i',Left ((w2.setCell ⟨pb,1,none⟩ (.int .i64 ((i+1:Nat):Int))).setCell ⟨pb,2,none⟩ (.int .i64 ((z+1:Nat):Int))) pb s i' (z+1) b w3:=by
  rcases hcp with⟨sg,t,_,_,hl⟩|⟨_,i',_,_,_,hl⟩
  ·exact⟨_,_,hl⟩
  ·exact⟨_,_,hl⟩
 obtain⟨_,_,hg2⟩:=hg2;have hlie3:=hlie2.grown hg2.grown (by simp[hne]);clear hgr hg2 q0 q1 q2 g0 g1 g2;obtain⟨q0,q1,q2⟩:=hlie3.three (a:=Ls.none);have g0:=hlie3.fr 0;have g1:=hlie3.fr 1;have g2:=hlie3.fr 2;rcases hcp with⟨sg,t,hcl,rfl,hl⟩|⟨hcl,i',h1,h2,rfl,hl⟩
 ·have hsuf:=Ls.aXs _ _ _ _ _ hcl
  have htl:Hid (t=rest s (s.size-t.length)):=Z8 hsuf.1;have htn:t.length<=s.size:=by have:=hsuf.2;simp at this;omega
  have HR2:Hid (Ls.wQ2 (Ls.pat (12-D)) (rest s i)=some (Ls.place sg,rest s (s.size-t.length))):=by
   show _=_;rw[HR.out,hcl,<-htl.out]
  clear hcl hsuf HR;go_wp2_with fail;exact bodyPost_ret (v:=A7 (Ls.set sg) (.slice none 0 0)) (by simp[results,Tryz.results111,go_sem,q0,q1,q2,Ls.set]) rfl (aQz HR2.out (by omega) ((hl2.trans hl).res (Nat.le_refl _) hpl _ _ _))
 ·have HR2:Hid (Ls.wQ2 (Ls.pat (12-D)) (rest s i)=.none):=by
   show _=_;rw[HR.out,hcl]
  clear hcl HR;go_wp2_with fail;exact bodyPost_ret (v:=A7 Ls.none (.slice none 0 0)) (by simp[results,Tryz.results111,go_sem,q0,q1,q2,Ls.none]) rfl (M9 HR2.out ((hl2.trans hl).res (Nat.le_refl _) hpl _ _ _) (by omega) (by omega) (by omega))
theorem lQ3 (s:ByteArray)(hs:s.size<=1048576)(D:Nat)(pb i z:Nat)(w:World)(h:PB w pb s i z false)(hi:i<s.size)(hz:z<=1048576+i)(hsg:Ls.xQ6 (nx s (i+1))=false)(hc:nx s i=92) :
  Calls Tryz.prog 111 #[.pointer (some ⟨pb,0,none⟩),.int .i64 (D:Int)] w (PPost w pb s i z (Ls.wQ2 (Ls.pat (12-D)) (rest s i))):=by
 have hpl:=h.lt;have Hsg:Hid (Ls.xQ6 (nx s (i+1))=false):=hsg;clear hsg;have hne:¬w.heap.size=pb:=by omega
 have hne':¬pb=w.heap.size:=by omega
 have Hc:Hid (nx s i=92):=hc;clear hc;have hcv:=G5;go_enter Tryz.func111,Tryz.ntmps111;go_wp2_with fail;refine(E8 pb s i z false _ (h.below (A4 _ _)) (by omega) (by omega)).mono ?_;rw[Hc.out];rintro e w1 ⟨rfl,hb1⟩;go_wp2_with fail;refine(I1 92 _).mono ?_;rintro e w2 ⟨rfl,rfl⟩;have hl1:=(Left.of_below h (A4 w (.cells #[.int .i64 0,.string ⟨#[]⟩,.slice none 0 0] 27))).below hb1;have hlie1:=(C1 w [.int .i64 0,.string ⟨#[]⟩,.slice none 0 0]).below hb1 (by simp);have hz1:=hlie1.lt;obtain⟨q0,q1,q2⟩:=hlie1.three (a:=Ls.none);have g0:=hlie1.fr 0;have g1:=hlie1.fr 1;have g2:=hlie1.fr 2;have f1:=hl1.lies.fr 1;have k1:=hl1.lies.c1;have f2:=hl1.lies.fr 2;have k2:=hl1.lies.c2;have f3:=hl1.lies.fr 3;have k3:=hl1.lies.c3;go_wp2_with fail;have hl2:=hl1.set1 (i+1);have hlie2:=hlie1.set_other pb 1 (.int .i64 ((i+1:Nat):Int)) hne;refine(E8 pb s (i+1) z false _ hl2.lies (by omega) (by omega)).mono ?_;rintro e w3 ⟨rfl,hb3⟩;have hl3:=hl2.below hb3;have hlie3:=hlie2.below hb3 hlie2.lt;clear q0 q1 q2 g0 g1 g2 k1 k2 k3 f1 f2 f3;have hz3:=hlie3.lt;obtain⟨q0,q1,q2⟩:=hlie3.three (a:=Ls.none);have g0:=hlie3.fr 0;have g1:=hlie3.fr 1;have g2:=hlie3.fr 2;have f1:=hl3.lies.fr 1;have k0:=hl3.lies.c0;have k1:=hl3.lies.c1;have f2:=hl3.lies.fr 2;have k2:=hl3.lies.c2;have f3:=hl3.lies.fr 3;have k3:=hl3.lies.c3;have hsg:=Hsg.out;clear Hsg;have HR2:Hid (Ls.wQ2 (Ls.pat (12-D)) (rest s i)=.none):=by
  show _=_;rw[C4 hi,Hc.out];rcases Nat.lt_or_ge (i+1) s.size with h1|h1
  ·rw[C4 h1];simp[Ls.wQ2,hsg]
  ·rw[K1 h1];rfl
 have HS:Hid (∀W,Calls Tryz.prog 63 #[.int .u8 (nx s (i+1)).toNat] W fun e w'=>e=.returned (.bool false)/\w'=W):=fun W=>by have:=I1 (nx s (i+1)) W;rw[hsg]at this;exact this
 clear hsg;go_wp2_with fail;go_quiet ((go_at_call 63;exact Calls.quiet_of_same (HS.out _)))
 go_wp2_with fail;exact bodyPost_ret (v:=A7 Ls.none (.slice none 0 0)) (by simp[results,Tryz.results111,go_sem,q0,q1,q2,Ls.none]) rfl (M9 HR2.out (((((hl3.below (D6 (w:=w3) nq)).set1 (i+1+1)).set2 (z+1)).set3 true).res (Nat.le_refl _) hpl _ _ _) (by omega) (by omega) (by omega))
theorem rQv (s:ByteArray)(hs:s.size<=1048576)(D:Nat)(pb i z:Nat)(w:World)(h:PB w pb s i z false)(hi:i<s.size)(hz:z<=1048576+i)(hsg:Ls.xQ6 (nx s (i+1))=true)(hc:nx s i=92) :
  Calls Tryz.prog 111 #[.pointer (some ⟨pb,0,none⟩),.int .i64 (D:Int)] w (PPost w pb s i z (Ls.wQ2 (Ls.pat (12-D)) (rest s i))):=by
 have hpl:=h.lt;have Hsg:Hid (Ls.xQ6 (nx s (i+1))=true):=hsg;clear hsg;have hne:¬w.heap.size=pb:=by omega
 have hne':¬pb=w.heap.size:=by omega
 have Hc:Hid (nx s i=92):=hc;clear hc;have hcv:=G5;go_enter Tryz.func111,Tryz.ntmps111;go_wp2_with fail;refine(E8 pb s i z false _ (h.below (A4 _ _)) (by omega) (by omega)).mono ?_;rw[Hc.out];rintro e w1 ⟨rfl,hb1⟩;go_wp2_with fail;refine(I1 92 _).mono ?_;rintro e w2 ⟨rfl,rfl⟩;have hl1:=(Left.of_below h (A4 w (.cells #[.int .i64 0,.string ⟨#[]⟩,.slice none 0 0] 27))).below hb1;have hlie1:=(C1 w [.int .i64 0,.string ⟨#[]⟩,.slice none 0 0]).below hb1 (by simp);have hz1:=hlie1.lt;obtain⟨q0,q1,q2⟩:=hlie1.three (a:=Ls.none);have g0:=hlie1.fr 0;have g1:=hlie1.fr 1;have g2:=hlie1.fr 2;have f1:=hl1.lies.fr 1;have k1:=hl1.lies.c1;have f2:=hl1.lies.fr 2;have k2:=hl1.lies.c2;have f3:=hl1.lies.fr 3;have k3:=hl1.lies.c3;go_wp2_with fail;have hl2:=hl1.set1 (i+1);have hlie2:=hlie1.set_other pb 1 (.int .i64 ((i+1:Nat):Int)) hne;refine(E8 pb s (i+1) z false _ hl2.lies (by omega) (by omega)).mono ?_;rintro e w3 ⟨rfl,hb3⟩;have hl3:=hl2.below hb3;have hlie3:=hlie2.below hb3 hlie2.lt;clear q0 q1 q2 g0 g1 g2 k1 k2 k3 f1 f2 f3;have hz3:=hlie3.lt;obtain⟨q0,q1,q2⟩:=hlie3.three (a:=Ls.none);have g0:=hlie3.fr 0;have g1:=hlie3.fr 1;have g2:=hlie3.fr 2;have f1:=hl3.lies.fr 1;have k0:=hl3.lies.c0;have k1:w3.cell? ⟨pb,1,none⟩=some (.int .i64 ((i:Int)+1)):=by have:=hl3.lies.c1;simpa using this
 have f2:=hl3.lies.fr 2;have k2:=hl3.lies.c2;have f3:=hl3.lies.fr 3;have k3:=hl3.lies.c3;have hsg:=Hsg.out;clear Hsg;have hi1:i+1<s.size:=by
  rcases Nat.lt_or_ge (i+1) s.size with h1|h1
  ·exact h1
  ·rw[aQw h1]at hsg;exact absurd hsg (by decide)
 have HR2:Hid (Ls.wQ2 (Ls.pat (12-D)) (rest s i)=some (Ls.place [nx s (i+1)],rest s (i+1+1))):=by
  show _=_;rw[C4 hi,Hc.out,C4 hi1];simp[Ls.wQ2,hsg]
 have HS:Hid (∀W,Calls Tryz.prog 63 #[.int .u8 (nx s (i+1)).toNat] W fun e w'=>e=.returned (.bool true)/\w'=W):=fun W=>by have:=I1 (nx s (i+1)) W;rw[hsg]at this;exact this
 clear hsg;have hd:decide (((i:Int)+1)<(s.size:Int))=true:=by simp;omega
 have hd2:((i:Int)+1)<(s.size:Int):=by omega
 go_wp2_with fail;go_quiet ((go_at_call 63;exact Calls.quiet_of_same (HS.out _)))
 clear hd hd2 HS k0 k3 f3 hb3 hb1 hlie1 hlie2 hl1 hl2 q0 q1 q2 g0 g1 g2 f1 k1 f2 k2;have hl4:=hl3.below (D6 (w:=w3) nq);have hlie4:=hlie3.below (D6 (w:=w3) nq) hlie3.lt;clear hl3 hlie3;generalize w3.drewN nq=w4 at *;have hz4:=hlie4.lt;obtain⟨q0,q1,q2⟩:=hlie4.three (a:=Ls.none);have g0:=hlie4.fr 0;have g1:=hlie4.fr 1;have g2:=hlie4.fr 2;have f1:=hl4.lies.fr 1;have k1:=hl4.lies.c1;have f2:=hl4.lies.fr 2;have k2:=hl4.lies.c2;go_wp2_with fail;exact bodyPost_ret (v:=A7 (Ls.set [nx s (i+1)]) (.slice none 0 0)) (by simp[results,Tryz.results111,go_sem,q0,q1,q2,hz4,Ls.set]) rfl (aQz HR2.out (by omega) ((((hl4.set1 (i+1+1)).set2 (z+1)).res (Nat.le_refl _) hpl _ _ _).below (A4 _ _)))
theorem rQc (s:ByteArray)(hs:s.size<=1048576)(D:Nat)(hD:D<=12)(hP:Q4 s (D+1))(pb i z:Nat)(w:World)(h:PB w pb s i z false)(hi:i<s.size)(hz:z<=1048576+i)(hc:nx s i=40) :
  Calls Tryz.prog 111 #[.pointer (some ⟨pb,0,none⟩),.int .i64 (D:Int)] w (PPost w pb s i z (Ls.wQ2 (Ls.pat (12-D)) (rest s i))):=by
 have hpl:=h.lt;have hne:¬w.heap.size=pb:=by omega
 have hne':¬pb=w.heap.size:=by omega
 have HR:Hid (Ls.wQ2 (Ls.pat (12-D)) (rest s i)=match Ls.pat (12-D) (rest s (i+1)) with|.none=>.none|some (d,u)=>if u.head?=some 41 then some (d,u.tail) else .none):=by
  show _=_;rw[C4 hi,hc];rfl
 have Hc:Hid (nx s i=40):=hc;clear hc;have hcv:=G5;go_enter Tryz.func111,Tryz.ntmps111;go_wp2_with fail;refine(E8 pb s i z false _ (h.below (A4 _ _)) (by omega) (by omega)).mono ?_;rw[Hc.out];rintro e w1 ⟨rfl,hb1⟩;go_wp2_with fail;refine(I1 40 _).mono ?_;rintro e w2 ⟨rfl,rfl⟩;have hl1:=(Left.of_below h (A4 w (.cells #[.int .i64 0,.string ⟨#[]⟩,.slice none 0 0] 27))).below hb1;have hlie1:=(C1 w [.int .i64 0,.string ⟨#[]⟩,.slice none 0 0]).below hb1 (by simp);have hz1:=hlie1.lt;obtain⟨q0,q1,q2⟩:=hlie1.three (a:=Ls.none);have g0:=hlie1.fr 0;have g1:=hlie1.fr 1;have g2:=hlie1.fr 2;have f1:=hl1.lies.fr 1;have k1:=hl1.lies.c1;have f2:=hl1.lies.fr 2;have k2:=hl1.lies.c2;have f3:=hl1.lies.fr 3;have k3:=hl1.lies.c3;go_wp2_with fail;have hl2:=hl1.set1 (i+1);have hlie2:=hlie1.set_other pb 1 (.int .i64 ((i+1:Nat):Int)) hne;have hPc:=hP pb (i+1) z _ hl2.lies (by omega) (by omega);rw[show ((D+1:Nat):Int)=(D:Int)+1 from by omega,show 13-(D+1)=12-D from by omega]at hPc;refine hPc.mono ?_;clear hPc;rintro e w3 hpp;clear q0 q1 q2 g0 g1 g2 k1 k2 k3 f1 f2 f3;have hmid:∃(p:Ls.Pat) (y:Value) (i' z':Nat) (bad:Bool),e=.returned (A7 p y)/\PV w3 (B6 (w2.setCell ⟨pb,1,none⟩ (.int .i64 ((i+1:Nat):Int))) w3) p y/\i'<=s.size+1/\i+1<=i'/\z'<=z+(i'-(i+1))/\Left (w2.setCell ⟨pb,1,none⟩ (.int .i64 ((i+1:Nat):Int))) pb s i' z' bad w3/\
   ((bad=true/\Ls.pat (12-D) (rest s (i+1))=.none)\/(bad=false/\∃d,Ls.pat (12-D) (rest s (i+1))=some (d,rest s i')/\p=Ls.wQu d/\z'=z+Ls.dsize d/\i'<=s.size)):=by
  rcases hpp with⟨d,t,y,hr,he,hv,hl⟩|⟨hr,p,y,i',z',he,hv,h1,h2,h3,hl⟩
  ·have hsuf:=Ls.yQm _ _ _ _ hr
   have hsz:=Ls.yQy _ _ _ _ hr;rw[D9]at hsz;have htl:=Z8 hsuf;have hln:=hsuf.length_le;rw[D9]at hln;exact⟨_,y,s.size-t.length,z+Ls.dsize d,false,he,hv,by omega,by omega,by omega,hl,.inr ⟨rfl,d,by rw[hr,<-htl],rfl,rfl,by omega⟩⟩
  ·exact⟨p,y,i',z',true,he,hv,h2,h1,h3,hl,.inl ⟨rfl,hr⟩⟩
 obtain⟨p,y,i',z',bad,rfl,hv,hi1,hi2,hz2,hl3,hcase⟩:=hmid;clear hpp;have hlie3:=hlie2.grown hl3.grown (by simp[hne]);have hl3w:=hl2.trans hl3;obtain⟨y1,y2,y3,rfl⟩:=PV.slice _ _ hv;have hz3:=hl3.grown.size;simp[World.setCell]at hz3;go_wp2_with fail;refine(J0 pb s i' z' bad 41 _ (hl3w.lies.below (A4 _ _)) (by omega) (by omega)).mono ?_;rintro e w4 ⟨rfl,hl4⟩;have hl4w:=(hl3w.below (A4 w3 (.cells #[.int .i64 p.kind,.string ⟨p.signs.toArray⟩,.slice y1 y2 y3] 27))).trans hl4;have hlie4:=(hlie3.below (A4 w3 (.cells #[.int .i64 p.kind,.string ⟨p.signs.toArray⟩,.slice y1 y2 y3] 27)) hlie3.lt).grown hl4.grown (by simp[hne]);have hne3:¬w3.heap.size=pb:=by omega
 have hliea:=(C1 w3 (B7 p (.slice y1 y2 y3))).grown hl4.grown (by simp[hne3]);obtain⟨q0,q1,q2⟩:=hlie4.three (a:=Ls.none);have g0:=hlie4.fr 0;have g1:=hlie4.fr 1;have g2:=hlie4.fr 2;obtain⟨m0,m1,m2⟩:=hliea.three;have k3:=hl4w.lies.c3;have f3:=hl4w.lies.fr 3;have hzz:w3.heap.size<w4.heap.size:=hliea.lt;have hzw:w.heap.size<w3.heap.size:=hlie3.lt;have hne4:¬pb=w3.heap.size:=by omega
 have hne5:¬w.heap.size=w3.heap.size:=by omega
 have hne6:¬w3.heap.size=w.heap.size:=by omega
 have HB:Hid (∀b' k,B6 (w2.setCell ⟨pb,1,none⟩ (.int .i64 ((i+1:Nat):Int))) w3 k->((((w4.setCell ⟨pb,3,none⟩ (.bool b')).setCell ⟨w.heap.size,0,none⟩ (.int .i64 p.kind)).setCell ⟨w.heap.size,1,none⟩ (.string ⟨p.signs.toArray⟩)).setCell ⟨w.heap.size,2,none⟩ (.slice y1 y2 y3)).heap[k]?=w3.heap[k]?):=by
  intro b' k hk;have h1:=hk.1;have h2:=hk.2;simp[World.setCell]at h1;rw[aQk _ _ _ _ _ _ (by omega),Below.heap_setCell _ _ _ _ (by show k≠pb;omega),hl4.grown.block k (by simp;omega) (by simp;omega)];exact Below.heap_alloc _ _ _ h2
 have HV:Hid (∀b',PV ((((w4.setCell ⟨pb,3,none⟩ (.bool b')).setCell ⟨w.heap.size,0,none⟩ (.int .i64 p.kind)).setCell ⟨w.heap.size,1,none⟩ (.string ⟨p.signs.toArray⟩)).setCell ⟨w.heap.size,2,none⟩ (.slice y1 y2 y3)) (B6 w ((((w4.setCell ⟨pb,3,none⟩ (.bool b')).setCell ⟨w.heap.size,0,none⟩ (.int .i64 p.kind)).setCell ⟨w.heap.size,1,none⟩ (.string ⟨p.signs.toArray⟩)).setCell ⟨w.heap.size,2,none⟩ (.slice y1 y2 y3))) p (.slice y1 y2 y3)):=by
  intro b';refine PV.mono (fun k hk=>?_) (HB.out b') _ _ hv;have h1:=hk.1;have h2:=hk.2;simp[World.setCell]at h1;exact⟨by omega,by simp[World.setCell];omega⟩
 have HL:Hid (∀b',Left w pb s (if A5 s i' 41=true then i'+1 else i') z' b' ((((w4.setCell ⟨pb,3,none⟩ (.bool b')).setCell ⟨w.heap.size,0,none⟩ (.int .i64 p.kind)).setCell ⟨w.heap.size,1,none⟩ (.string ⟨p.signs.toArray⟩)).setCell ⟨w.heap.size,2,none⟩ (.slice y1 y2 y3))):=fun b'=>(hl4w.set3 b').res (Nat.le_refl _) hpl _ _ _;clear HB;cases bad with
 | true=>
  have HN:Hid (Ls.wQ2 (Ls.pat (12-D)) (rest s i)=.none):=by
   rcases hcase with⟨_,hr⟩|⟨h0,_⟩
   ·show _=_;rw[HR.out,hr]
   ·cases h0
  clear hcase;go_wp2_with fail;have hsl:A5 s i' 41=true->i'<s.size:=fun h=>(C6 h).1;refine bodyPost_ret (v:=A7 p (.slice y1 y2 y3)) (by simp[results,Tryz.results111,go_sem,q0,q1,q2]) rfl (.inr ⟨HN.out,p,_,_,z',rfl,HV.out true,?_,?_,?_,HL.out true⟩)<;>(split<;>first|omega|(have:=hsl (by assumption);omega))
 | false=>
  obtain⟨d,hr,rfl,rfl,hi3⟩:∃d,Ls.pat (12-D) (rest s (i+1))=some (d,rest s i')/\p=Ls.wQu d/\z'=z+Ls.dsize d/\i'<=s.size:=by
   rcases hcase with⟨h0,_⟩|⟨_,h0⟩
   ·cases h0
   ·exact h0
  clear hcase;have Hr:Hid (Ls.pat (12-D) (rest s (i+1))=some (d,rest s i')):=hr;clear hr;cases hse:A5 s i' 41 with
  | true=>
   have HN:Hid (Ls.wQ2 (Ls.pat (12-D)) (rest s i)=some (d,rest s (i'+1))):=by
    show _=_;rw[HR.out,Hr.out];dsimp only
    rw[if_pos (B8.2 hse),D7]
   have hi4:=(C6 hse).1;have hl5:=HL.out false;rw[hse]at hl5;simp only[if_true]at hl5;have Hl5:Hid _:=hl5;clear hl5 HL hse;go_wp2_with fail;refine bodyPost_ret (v:=A7 (Ls.wQu d) (.slice y1 y2 y3)) (by simp[results,Tryz.results111,go_sem,q0,q1,q2]) rfl (.inl ⟨d,_,_,HN.out,rfl,HV.out false,?_⟩);rw[D9,show s.size-(s.size-(i'+1))=i'+1 from by omega];exact Hl5.out
  | false=>
   have HN:Hid (Ls.wQ2 (Ls.pat (12-D)) (rest s i)=.none):=by
    show _=_;rw[HR.out,Hr.out];dsimp only
    rw[if_neg (by rw[B8,hse];simp)]
   have hl5:=HL.out true;rw[hse]at hl5;simp only[Bool.false_eq_true,if_false]at hl5;have Hl5:Hid _:=hl5;clear hl5 HL hse;go_wp2_with fail;exact bodyPost_ret (v:=A7 (Ls.wQu d) (.slice y1 y2 y3)) (by simp[results,Tryz.results111,go_sem,q0,q1,q2]) rfl (.inr ⟨HN.out,_,_,_,_,rfl,HV.out true,by omega,by omega,by omega,Hl5.out⟩)
theorem vQn (s:ByteArray)(hs:s.size<=1048576)(D:Nat)(hD:D<=12)(hP:Q4 s (D+1)):fQn s D:=by
 intro pb i z w h hi hz
 by_cases hx:∀x,x∈([40,91,46,92,41,93,42,43,63,124,47,34]:List UInt8)->nx s i≠x
 ·cases hsg:Ls.xQ6 (nx s i) with
  | true=>exact vQ0 s hs D (nx s i) pb i z w h hi hz hx hsg rfl
  | false=>exact jQh s hs D (nx s i) pb i z w h hi hz hx hsg rfl
 ·have hx2:∃x,x∈([40,91,46,92,41,93,42,43,63,124,47,34]:List UInt8)/\nx s i=x:=by
   apply Classical.byContradiction
   intro hn;exact hx fun x hm e=>hn ⟨x,hm,e⟩
  obtain⟨x,hm,he⟩:=hx2;simp only[List.mem_cons,List.not_mem_nil,or_false]at hm;rcases hm with rfl|rfl|rfl|rfl|rfl|rfl|rfl|rfl|rfl|rfl|rfl|rfl
  ·exact rQc s hs D hD hP pb i z w h hi hz he
  ·exact jQ2 s hs D pb i z w h hi hz he
  ·exact wQk s hs D pb i z w h hi hz he
  ·cases hsg:Ls.xQ6 (nx s (i+1)) with
   | true=>exact rQv s hs D pb i z w h hi hz hsg he
   | false=>exact lQ3 s hs D pb i z w h hi hz hsg he
  ·exact qQ8 s hs D pb i z w h hi hz he
  ·exact oQs s hs D pb i z w h hi hz he
  ·exact kQi s hs D pb i z w h hi hz he
  ·exact tQn s hs D pb i z w h hi hz he
  ·exact nQ5 s hs D pb i z w h hi hz he
  ·exact lQ1 s hs D pb i z w h hi hz he
  ·exact vQ1 s hs D pb i z w h hi hz he
  ·exact pQb s hs D pb i z w h hi hz he
def E3 (res:Ls.Rd)(s:ByteArray)(z i' z':Nat)(bad:Bool)(p:Ls.Pat):Prop:=
 (bad=true/\res=.none)\/(bad=false/\∃d,res=some (d,rest s i')/\p=Ls.wQu d/\z'=z+Ls.dsize d/\i'<=s.size)
theorem PPost.mid {w w':World}{pb:Nat}{s:ByteArray}{i z:Nat}{res:Ls.Rd}{e:Ending}(h:PPost w pb s i z res e w')(hsuf:∀d t,res=some (d,t)->t <:+ rest s i/\Ls.dsize d+t.length<=(rest s i).length)(hi:i<=s.size) :
  ∃p y1 y2 y3 i' z' bad,e=.returned (A7 p (.slice y1 y2 y3))/\PV w' (B6 w w') p (.slice y1 y2 y3)/\i<=i'/\i'<=s.size+1/\z'<=z+(i'-i)/\Left w pb s i' z' bad w'/\E3 res s z i' z' bad p:=by
 rcases h with⟨d,t,y,hr,he,hv,hl⟩|⟨hr,p,y,i',z',he,hv,h1,h2,h3,hl⟩
 ·obtain⟨h1,h2⟩:=hsuf d t hr
  have htl:=Z8 h1;have hln:=h1.length_le;rw[D9]at hln h2;obtain⟨y1,y2,y3,rfl⟩:=PV.slice _ _ hv;exact⟨_,y1,y2,y3,s.size-t.length,z+Ls.dsize d,false,he,hv,by omega,by omega,by omega,hl,.inr ⟨rfl,d,by rw[hr,<-htl],rfl,rfl,by omega⟩⟩
 ·obtain⟨y1,y2,y3,rfl⟩:=PV.slice _ _ hv
  exact⟨p,y1,y2,y3,i',z',true,he,hv,h1,h2,h3,hl,.inl ⟨rfl,hr⟩⟩
theorem S5 {w W:World}{pb:Nat}{s:ByteArray}{i z i' z':Nat}{bad:Bool}{res:Ls.Rd}{p:Ls.Pat}{x:Value}{H:Nat->Prop}(hc:E3 res s z i' z' bad p)(hpl:pb<w.heap.size)(h1:i<=i')(h2:i'<=s.size+1)(h3:z'<=z+(i'-i))
  (hl:Left w pb s i' z' bad W) (hp:PV W H p x) (hH:∀k,H k->w.heap.size<k/\k<W.heap.size) :
  PPost w pb s i z res (.returned (A7 p x)) (((W.setCell ⟨w.heap.size,0,none⟩ (.int .i64 p.kind)).setCell ⟨w.heap.size,1,none⟩ (.string ⟨p.signs.toArray⟩)).setCell ⟨w.heap.size,2,none⟩ x):=by
 have hv:PV (((W.setCell ⟨w.heap.size,0,none⟩ (.int .i64 p.kind)).setCell ⟨w.heap.size,1,none⟩ (.string ⟨p.signs.toArray⟩)).setCell ⟨w.heap.size,2,none⟩ x) (B6 w (((W.setCell ⟨w.heap.size,0,none⟩ (.int .i64 p.kind)).setCell ⟨w.heap.size,1,none⟩ (.string ⟨p.signs.toArray⟩)).setCell ⟨w.heap.size,2,none⟩ x)) p x:=
  PV.mono (fun k hk=>⟨Nat.le_of_lt (hH k hk).1,by simp[World.setCell];exact(hH k hk).2⟩) (fun k hk=>aQk _ _ _ _ _ _ (by have:=(hH k hk).1;omega)) _ _ hp
 have hl':=hl.res (Nat.le_refl _) hpl (.int .i64 p.kind) (.string ⟨p.signs.toArray⟩) x;rcases hc with⟨rfl,hr⟩|⟨rfl,d,hr,rfl,rfl,hi'⟩
 ·exact .inr ⟨hr,_,_,i',z',rfl,hv,h1,h2,h3,hl'⟩
 ·refine .inl ⟨d,_,_,hr,rfl,hv,?_⟩
  rw[D9,show s.size-(s.size-i')=i' from by omega];exact hl'
theorem lQk {P:List UInt8->Ls.Rd}{r:List UInt8}{s:ByteArray}{z i' z':Nat}{bad:Bool}{p:Ls.Pat}(h:E3 (Ls.wQ2 P r) s z i' z' bad p)(hse:A5 s i' 42=true):E3 (Ls.xQ2 P r) s z (i'+1) z' bad (Ls.wQ9 p):=by
 rcases h with⟨rfl,hr⟩|⟨rfl,d,hr,rfl,rfl,hi'⟩
 ·exact .inl ⟨rfl,by rw[Ls.xQ2,hr]⟩
 ·refine .inr ⟨rfl,Ls.rep 5 d,?_,by rw[Ls.yQ3],by rw[Ls.xQl],(C6 hse).1⟩
  rw[Ls.xQ2,hr];dsimp only;rw[if_pos (B8.2 hse),D7]
theorem dQ3 {s:ByteArray}{i:Nat}{a b:UInt8}(h:A5 s i a=true)(hab:a≠b):A5 s i b=false:=by
 obtain⟨h1,h2⟩:=C6 h;simp[A5,h1,h2,hab]
theorem nQb {P:List UInt8->Ls.Rd}{r:List UInt8}{s:ByteArray}{z i' z':Nat}{bad:Bool}{p:Ls.Pat}(h:E3 (Ls.wQ2 P r) s z i' z' bad p)(hse:A5 s i' 43=true):E3 (Ls.xQ2 P r) s z (i'+1) z' bad (Ls.row p (Ls.wQ9 p)):=by
 rcases h with⟨rfl,hr⟩|⟨rfl,d,hr,rfl,rfl,hi'⟩
 ·exact .inl ⟨rfl,by rw[Ls.xQ2,hr]⟩
 ·refine .inr ⟨rfl,Ls.rep 6 d,?_,by rw[Ls.zQk],by rw[Ls.xQl],(C6 hse).1⟩
  rw[Ls.xQ2,hr];dsimp only;rw[if_neg (by rw[B8,dQ3 hse (by decide)];simp),if_pos (B8.2 hse),D7]
theorem oQd {P:List UInt8->Ls.Rd}{r:List UInt8}{s:ByteArray}{z i' z':Nat}{bad:Bool}{p:Ls.Pat}(h:E3 (Ls.wQ2 P r) s z i' z' bad p)(hse:A5 s i' 63=true):E3 (Ls.xQ2 P r) s z (i'+1) z' bad (Ls.any p Ls.none):=by
 rcases h with⟨rfl,hr⟩|⟨rfl,d,hr,rfl,rfl,hi'⟩
 ·exact .inl ⟨rfl,by rw[Ls.xQ2,hr]⟩
 ·refine .inr ⟨rfl,Ls.rep 7 d,?_,by rw[Ls.aXg],by rw[Ls.xQl],(C6 hse).1⟩
  rw[Ls.xQ2,hr];dsimp only;rw[if_neg (by rw[B8,dQ3 hse (by decide)];simp),if_neg (by rw[B8,dQ3 hse (by decide)];simp),if_pos (B8.2 hse),D7]
theorem tQm {P:List UInt8->Ls.Rd}{r:List UInt8}{s:ByteArray}{z i' z':Nat}{bad:Bool}{p:Ls.Pat}(h:E3 (Ls.wQ2 P r) s z i' z' bad p)(h1:A5 s i' 42=false)(h2:A5 s i' 43=false)(h3:A5 s i' 63=false):E3 (Ls.xQ2 P r) s z i' z' bad p:=by
 rcases h with⟨rfl,hr⟩|⟨rfl,d,hr,rfl,rfl,hi'⟩
 ·exact .inl ⟨rfl,by rw[Ls.xQ2,hr]⟩
 ·refine .inr ⟨rfl,d,?_,rfl,rfl,hi'⟩
  rw[Ls.xQ2,hr];dsimp only;rw[if_neg (by rw[B8,h1];simp),if_neg (by rw[B8,h2];simp),if_neg (by rw[B8,h3];simp)]
theorem dQ6 {s:ByteArray}{i:Nat}{c:UInt8}(h:A5 s i c=true):nx s i=c:=(C6 h).2
theorem cQ7 {s:ByteArray}{i:Nat}{c:UInt8}(hc:c≠0)(h:A5 s i c=false):nx s i≠c:=by
 intro e;rcases Nat.lt_or_ge i s.size with h1|h1
 ·simp[A5,h1,e]at h
 ·rw[aQw h1]at e;exact hc e.symm
def dQ7 (s:ByteArray)(D:Nat):Prop:=∀(pb i z:Nat) (w:World),PB w pb s i z false->i<s.size->z<=1048576+i->
 Calls Tryz.prog 91 #[.pointer (some ⟨pb,0,none⟩),.int .i64 (D:Int)] w (PPost w pb s i z (Ls.xQ2 (Ls.pat (12-D)) (rest s i)))
theorem qQs (s:ByteArray)(hs:s.size<=1048576)(D:Nat)(hO:fQn s D):dQ7 s D:=by
 intro pb i z w h hi hz;have hpl:=h.lt;have hne:¬w.heap.size=pb:=by omega
 have hne':¬pb=w.heap.size:=by omega
 go_enter Tryz.func91,Tryz.ntmps91;go_wp2_with fail;refine(hO pb i z _ (h.below (A4 _ _)) hi hz).mono ?_;rintro e w1 hpp;obtain⟨p,y1,y2,y3,i',z',bad,rfl,hv,hi1,hi2,hz2,hl1',hcase⟩:=hpp.mid (fun d t hr=>⟨(Ls.bXn (Ls.yQm _) hr).1,Ls.cXe (Ls.yQy _) hr⟩) (by omega);clear hpp;have hl1:=(Left.of_below h (A4 w (.cells #[.int .i64 0,.string ⟨#[]⟩,.slice none 0 0] 27))).trans hl1';have hlie1:=(C1 w [.int .i64 0,.string ⟨#[]⟩,.slice none 0 0]).grown hl1'.grown (by simp[hne]);have hz1:=hlie1.lt;go_wp2_with fail;have hN:=E8 pb s i' z' bad _ (hl1.lies.below (A4 w1 (.cells #[.int .i64 p.kind,.string ⟨p.signs.toArray⟩,.slice y1 y2 y3] 27))) (by omega) (by omega);have HB:Hid (∀k,B6 (w.alloc (.cells #[.int .i64 0,.string ⟨#[]⟩,.slice none 0 0] 27)) w1 k->w.heap.size<k/\k<w1.heap.size):=fun k hk=>by have h1:=hk.1;simp at h1;exact⟨by omega,hk.2⟩
 have hne1:¬w1.heap.size=pb:=by omega
 have hne2:¬pb=w1.heap.size:=by omega
 have hne3:¬w.heap.size=w1.heap.size:=by omega
 have hne4:¬w1.heap.size=w.heap.size:=by omega
 have fin:∀w2,Below (w1.alloc (.cells #[.int .i64 p.kind,.string ⟨p.signs.toArray⟩,.slice y1 y2 y3] 27)).heap.size (w1.alloc (.cells #[.int .i64 p.kind,.string ⟨p.signs.toArray⟩,.slice y1 y2 y3] 27)) w2->
   Left w pb s i' z' bad w2/\Lies w2 w1.heap.size (B7 p (.slice y1 y2 y3))/\Lies w2 w.heap.size [.int .i64 0,.string ⟨#[]⟩,.slice none 0 0]/\w1.heap.size<w2.heap.size/\PV w2 (B6 (w.alloc (.cells #[.int .i64 0,.string ⟨#[]⟩,.slice none 0 0] 27)) w1) p (.slice y1 y2 y3):=fun w2 hb2=>
  ⟨(hl1.below (A4 _ _)).below hb2,(C1 w1 _).below hb2 (by simp),(hlie1.below (A4 _ _) hz1).below hb2 (by simp;omega),by have:=hb2.size;simp at this;omega,(hv.below (A4 _ _) (fun _ h=>h.2) (fun _ h=>h)).below hb2 (fun k hk=>by have:=hk.2;simp;omega) (fun _ h=>h)⟩
 have Hfin:Hid _:=fin;clear fin hv hl1' hl1 hlie1 h;cases h42:A5 s i' 42 with
 | true=>
  have HC:=lQk hcase h42;rw[dQ6 h42]at hN;have hi3:=(C6 h42).1;clear h42 hcase;refine hN.mono ?_;rintro e w2 ⟨rfl,hb2⟩;obtain⟨hl2,hla,hlr,hz3,hv2⟩:=Hfin.out w2 hb2;obtain⟨m0,m1,m2⟩:=hla.three;have k1:=hl2.lies.c1;have f1:=hl2.lies.fr 1;go_wp2_with fail;refine(U8 p (.slice y1 y2 y3) _ _ (fun k hk=>by have:=HB.out k hk;simp[World.setCell];omega) (PV.mono (fun _ h=>h) (fun k hk=>Below.heap_setCell _ _ _ _ (by have:=HB.out k hk;show k≠pb;omega)) _ _ hv2)).mono ?_;rintro e w3 ⟨x,rfl,hx,hb3⟩;obtain⟨x1,x2,x3,rfl⟩:=PV.slice _ _ hx;have hl3:=(hl2.set1 (i'+1)).below hb3;have hlr3:=(hlr.set_other pb 1 (.int .i64 ((i'+1:Nat):Int)) hne).below hb3 (by simp[World.setCell];omega);have hs3:=hb3.size;simp[World.setCell]at hs3;obtain⟨q0,q1,q2⟩:=hlr3.three (a:=Ls.none);have g0:=hlr3.fr 0;have g1:=hlr3.fr 1;have g2:=hlr3.fr 2;go_wp2_with fail;exact bodyPost_ret (v:=A7 (Ls.wQ9 p) (.slice x1 x2 x3)) (by simp[results,Tryz.results91,go_sem,q0,q1,q2]) rfl (S5 HC hpl (by omega) (by omega) (by omega) hl3 hx (fun k hk=>by
   rcases hk with hk|hk
   ·have:=HB.out k hk;omega
   ·have:=hk.1;simp[World.setCell]at this;have:=hk.2;omega))
 | false=>
  cases h43:A5 s i' 43 with
  | true=>
   have HC:=nQb hcase h43;rw[dQ6 h43]at hN;have hi3:=(C6 h43).1;clear h42 h43 hcase;refine hN.mono ?_;rintro e w2 ⟨rfl,hb2⟩;obtain⟨hl2,hla,hlr,hz3,hv2⟩:=Hfin.out w2 hb2;obtain⟨m0,m1,m2⟩:=hla.three;have k1:=hl2.lies.c1;have f1:=hl2.lies.fr 1;go_wp2_with fail;have hvs:=PV.mono (fun _ h=>h) (fun k hk=>Below.heap_setCell w2 ⟨pb,1,none⟩ (.int .i64 ((i'+1:Nat):Int)) _ (by have:=HB.out k hk;show k≠pb;omega)) _ _ hv2;refine(U8 p (.slice y1 y2 y3) _ _ (fun k hk=>by have:=HB.out k hk;simp[World.setCell];omega) hvs).mono ?_;rintro e w3 ⟨x,rfl,hx,hb3⟩;obtain⟨x1,x2,x3,rfl⟩:=PV.slice _ _ hx;have hl3:=(hl2.set1 (i'+1)).below hb3;have hlr3:=(hlr.set_other pb 1 (.int .i64 ((i'+1:Nat):Int)) hne).below hb3 (by simp[World.setCell];omega);have hla3:=(hla.set_other pb 1 (.int .i64 ((i'+1:Nat):Int)) hne1).below hb3 (by simp[World.setCell];omega);have hv3:=hvs.below (G':=E1 (B6 (w.alloc (.cells #[.int .i64 0,.string ⟨#[]⟩,.slice none 0 0] 27)) w1) (w2.setCell ⟨pb,1,none⟩ (.int .i64 ((i'+1:Nat):Int))) w3) hb3 (fun k hk=>by have:=HB.out k hk;simp[World.setCell];omega) (fun _ h=>Or.inl h);have hs3:=hb3.size;simp[World.setCell]at hs3;clear m0 m1 m2 k1 f1;have hz4:w1.heap.size<w3.heap.size:=by omega
   have hz5:w.heap.size<w3.heap.size:=by omega
   obtain⟨m0,m1,m2⟩:=hla3.three;go_wp2_with fail;refine(R8 p (Ls.wQ9 p) (.slice y1 y2 y3) (.slice x1 x2 x3) _ _ (fun k hk=>?_) (hv3.below (A4 _ _) (fun k hk=>?_) (fun _ h=>h)) (hx.below (A4 _ _) (fun k hk=>?_) (fun _ h=>h))).mono ?_
   ·rcases hk with hk|hk
    ·have:=HB.out k hk;simp;omega
    ·have:=hk.2;simp;omega
   ·rcases hk with hk|hk
    ·have:=HB.out k hk;omega
    ·exact hk.2
   ·rcases hk with hk|hk
    ·have:=HB.out k hk;omega
    ·exact hk.2
   rintro e w4 ⟨u,rfl,hu,hb4⟩;obtain⟨u1,u2,u3,rfl⟩:=PV.slice _ _ hu;have hl4:=(hl3.below (A4 _ _)).below hb4;have hlr4:=(hlr3.below (A4 _ _) hlr3.lt).below hb4 (by simp;omega);have hs4:=hb4.size;simp at hs4;obtain⟨q0,q1,q2⟩:=hlr4.three (a:=Ls.none);have g0:=hlr4.fr 0;have g1:=hlr4.fr 1;have g2:=hlr4.fr 2;go_wp2_with fail;exact bodyPost_ret (v:=A7 (Ls.row p (Ls.wQ9 p)) (.slice u1 u2 u3)) (by simp[results,Tryz.results91,go_sem,q0,q1,q2]) rfl (S5 HC hpl (by omega) (by omega) (by omega) hl4 hu (fun k hk=>by
    rcases hk with (hk|hk)|hk
    ·have:=HB.out k hk;omega
    ·have:=hk.1;simp[World.setCell]at this;have:=hk.2;omega
    ·have:=hk.1;simp at this;have:=hk.2;omega))
  | false=>
   cases h63:A5 s i' 63 with
   | true=>
    have HC:=oQd hcase h63;rw[dQ6 h63]at hN;have hi3:=(C6 h63).1;clear h42 h43 h63 hcase;refine hN.mono ?_;rintro e w2 ⟨rfl,hb2⟩;obtain⟨hl2,hla,hlr,hz3,hv2⟩:=Hfin.out w2 hb2;obtain⟨m0,m1,m2⟩:=hla.three;have k1:=hl2.lies.c1;have f1:=hl2.lies.fr 1;go_wp2_with fail;refine(bQs p Ls.none (.slice y1 y2 y3) (.slice none 0 0) _ _ (fun k hk=>by have:=HB.out k hk;simp[World.setCell];omega) (PV.mono (fun _ h=>h) (fun k hk=>Below.heap_setCell _ _ _ _ (by have:=HB.out k hk;show k≠pb;omega)) _ _ hv2) (L3 _ _ _ _)).mono ?_;rintro e w3 ⟨x,rfl,hx,hb3⟩;obtain⟨x1,x2,x3,rfl⟩:=PV.slice _ _ hx;have hl3:=(hl2.set1 (i'+1)).below hb3;have hlr3:=(hlr.set_other pb 1 (.int .i64 ((i'+1:Nat):Int)) hne).below hb3 (by simp[World.setCell];omega);have hs3:=hb3.size;simp[World.setCell]at hs3;obtain⟨q0,q1,q2⟩:=hlr3.three (a:=Ls.none);have g0:=hlr3.fr 0;have g1:=hlr3.fr 1;have g2:=hlr3.fr 2;go_wp2_with fail;exact bodyPost_ret (v:=A7 (Ls.any p Ls.none) (.slice x1 x2 x3)) (by simp[results,Tryz.results91,go_sem,q0,q1,q2]) rfl (S5 HC hpl (by omega) (by omega) (by omega) hl3 hx (fun k hk=>by
     rcases hk with hk|hk
     ·have:=HB.out k hk;omega
     ·have:=hk.1;simp[World.setCell]at this;have:=hk.2;omega))
   | false=>
    have HC:=tQm hcase h42 h43 h63;have n42:(((nx s i').toNat:Int)==42)=false:=by rw[beq_eq_false_iff_ne];intro e;exact cQ7 (c:=42) (by decide) h42 (UInt8.toNat_inj.1 (by simp;omega))
    have n43:(((nx s i').toNat:Int)==43)=false:=by rw[beq_eq_false_iff_ne];intro e;exact cQ7 (c:=43) (by decide) h43 (UInt8.toNat_inj.1 (by simp;omega))
    have n63:(((nx s i').toNat:Int)==63)=false:=by rw[beq_eq_false_iff_ne];intro e;exact cQ7 (c:=63) (by decide) h63 (UInt8.toNat_inj.1 (by simp;omega))
    clear h42 h43 h63 hcase;refine hN.mono ?_;rintro e w2 ⟨rfl,hb2⟩;obtain⟨hl2,hla,hlr,hz3,hv2⟩:=Hfin.out w2 hb2;obtain⟨m0,m1,m2⟩:=hla.three;obtain⟨q0,q1,q2⟩:=hlr.three (a:=Ls.none);have g0:=hlr.fr 0;have g1:=hlr.fr 1;have g2:=hlr.fr 2;go_wp2_with fail;exact bodyPost_ret (v:=A7 p (.slice y1 y2 y3)) (by simp[results,Tryz.results91,go_sem,q0,q1,q2]) rfl (S5 HC hpl (by omega) (by omega) (by omega) hl2 hv2 (fun k hk=>by
     have:=HB.out k hk;omega))
end Go.Proofs.YtcggfnlejalppaaGreatDoor
