import Derived.Test.YtcggfnlejalppaaGreatDoorK28
set_option maxRecDepth 100000
set_option maxHeartbeats 4000000
namespace Go.Proofs.YtcggfnlejalppaaGreatDoor
open Go.RowKit
def dQq (s:ByteArray)(D:Nat):Prop:=∀(pb i z:Nat) (w:World),PB w pb s i z false->i<=s.size->z<=1048576+i->
 Calls Tryz.prog 101 #[.pointer (some ⟨pb,0,none⟩),.int .i64 (D:Int)] w (LPost w pb s i z (Ls.wQ6 (Ls.pat (13-D)) (Ls.wQy (12-D)) (rest s i)))
theorem aQx {s:ByteArray}{i:Nat}{c:UInt8}(h:nx s i=c)(hc:c≠0):i<s.size:=by
 rcases Nat.lt_or_ge i s.size with h1|h1
 ·exact h1
 ·rw[aQw h1]at h
  exact absurd h.symm hc
theorem tQv (s:ByteArray)(hs:s.size<=1048576)(D:Nat)(hD:D<=12)(hP:Q4 s D)(hL:T5 s (D+1)):dQq s D:=by
 intro pb i z w h hi hz;have hSl:=tQw s hs D hP
 by_cases h1:nx s i=47
 ·exact nQg s hs D hSl pb i z w h (aQx h1 (by decide)) hz h1
 by_cases h2:nx s i=45
 ·exact pQk s hs D hSl pb i z w h (aQx h2 (by decide)) hz h2
 by_cases h3:nx s i=43
 ·exact rQu s hs D pb i z w h (aQx h3 (by decide)) hz h3
 by_cases h4:nx s i=60
 ·exact kQk s hs D hD hL pb i z w h (aQx h4 (by decide)) hz h4
 by_cases h5:nx s i=40
 ·exact pQ0 s hs D hD hL pb i z w h (aQx h5 (by decide)) hz h5
 refine wQq s hs D pb i z w h hi (fun x hx=>?_);simp only[List.mem_cons,List.not_mem_nil,or_false]at hx;rcases hx with rfl|rfl|rfl|rfl|rfl
 ·exact h1
 ·exact h2
 ·exact h3
 ·exact h4
 ·exact h5
def aQ3 (kk:Nat)(l:Ls.Ln)(rb:Ls.Rl):Ls.Rl:=match rb with
 | .none=>.none
 | some (b,v)=>some (⟨kk,Ls.rnil,[],[l,b]⟩,v)
theorem vQd {W W2 W':World}{G G2 G':Nat->Prop}{ra rb res:Ls.Rl}{s:ByteArray}{z i1 z1 j i2 z2:Nat}{bad:Bool}{k:Nat}{p:Ls.Pat}{ws:List UInt8}{y x:Value}{k2:Nat}{p2:Ls.Pat}{ws2:List UInt8}{y2 x2:Value}{g:Nat}(kk:Nat)
  (h:CaseL W G ra s z i1 z1 false k p ws y x) (h2:CaseL W2 G2 rb s j i2 z2 bad k2 p2 ws2 y2 x2) (hj:j=z1) (hres:∀l,ra=some (l,rest s i1)->res=aQ3 kk l rb)
  (hw:∀k,G k->G' k/\W'.heap[k]?=W.heap[k]?) (hw2:∀k,G2 k->G' k/\W'.heap[k]?=W2.heap[k]?) (hg:G' g)
  (hl:LiesL W' g ([.int .i64 k,.int .i64 p.kind,.string ⟨p.signs.toArray⟩,y,.string ⟨ws.toArray⟩,x]++[.int .i64 k2,.int .i64 p2.kind,.string ⟨p2.signs.toArray⟩,y2,.string ⟨ws2.toArray⟩,x2])) :
  CaseL W' G' res s z i2 z2 bad kk Ls.none [] (.slice none 0 0) (.slice (some ⟨g,0,none⟩) 2 2):=by
 subst hj;rcases h with⟨h0,_⟩|⟨_,l,hr,rfl,rfl,rfl,rfl,hi',hv⟩
 ·cases h0
 have hr2:=hres l hr;rcases h2 with⟨rfl,hb⟩|⟨rfl,l2,hb,rfl,rfl,rfl,rfl,hi2,hv2⟩
 ·exact .inl ⟨rfl,by rw[hr2,hb];rfl⟩
 ·refine .inr ⟨rfl,⟨kk,Ls.rnil,[],[l,l2]⟩,by rw[hr2,hb];rfl,rfl,Ls.wQ8,rfl,by simp[Ls.wQv];omega,hi2,?_⟩
  rw[NV,Ls.wQ8];exact⟨L3 _ _ _ _,g,y,x,y2,x2,hg,rfl,hl,NV.mono hw _ _ _ hv,NV.mono hw2 _ _ _ hv2⟩
theorem gQ3 {w w6 w7:World}{pb:Nat}{s:ByteArray}{i z i1 z1 j i2 z2:Nat}{bad:Bool}{GA:Nat->Prop}{ra rb res:Ls.Rl}{k:Nat}{p:Ls.Pat}{ws:List UInt8}{y x:Value}{k2:Nat}{p2:Ls.Pat}{ws2:List UInt8}{y2 x2:Value}(kk:Nat)
  (h:CaseL w6 GA ra s z i1 z1 false k p ws y x) (hst:St w pb s j z1 false w6) (hl:Left w6 pb s i2 z2 bad w7) (h2:CaseL w7 (B6 w6 w7) rb s z1 i2 z2 bad k2 p2 ws2 y2 x2) (hG:∀t,GA t->w.heap.size<t/\t<w6.heap.size)
  (hres:∀l,ra=some (l,rest s i1)->res=aQ3 kk l rb) (h3:i<=i2) (h4:i2<=s.size+1) (h5:z2<=z+(i2-i)) :
  LPost w pb s i z res (.returned (C7 kk Ls.none [] (.slice none 0 0) (.slice (some ⟨w7.heap.size+1,0,none⟩) 2 2)))
   (set6 ((w7.alloc (A8 k2 p2 ws2 y2 x2)).alloc (M1 k p ws y x k2 p2 ws2 y2 x2)) w.heap.size kk Ls.none [] (.slice none 0 0) (.slice (some ⟨w7.heap.size+1,0,none⟩) 2 2)):=by
 have hpl:=hst.pl;have hlt:=hst.res.lt;have hz7:=hl.grown.size;have hb7:=A4 w7 (A8 k2 p2 ws2 y2 x2);have hb8:=A4 (w7.alloc (A8 k2 p2 ws2 y2 x2)) (M1 k p ws y x k2 p2 ws2 y2 x2);have hlr:=eQf (w7.alloc (A8 k2 p2 ws2 y2 x2)) k p ws y x k2 p2 ws2 y2 x2;rw[World.size_alloc]at hlr;have hz8:((w7.alloc (A8 k2 p2 ws2 y2 x2)).alloc (M1 k p ws y x k2 p2 ws2 y2 x2)).heap.size=w7.heap.size+1+1:=by simp
 refine K0 (H:=fun t=>GA t\/B6 w6 w7 t\/t=w7.heap.size+1) (vQd kk h h2 rfl hres (fun t ht=>⟨.inl ht,?_⟩) (fun t ht=>⟨.inr (.inl ht),?_⟩) (.inr (.inr rfl)) hlr) h3 h4 h5 (((hst.next hl).below hb7).below hb8) ?_
 ·have e1:=hG t ht
  rw[hb8.block t (by simp;omega),hb7.block t (by omega),hl.block (by omega) (by omega)]
 ·have e1:=ht.1
  have e2:=ht.2;rw[hb8.block t (by simp;omega),hb7.block t (by omega)]
 ·intro t ht
  rw[hz8];rcases ht with ht|ht|rfl
  ·have:=hG t ht
   exact⟨by omega,by omega⟩
  ·have e1:=ht.1
   have e2:=ht.2;exact⟨by omega,by omega⟩
  ·exact⟨by omega,by omega⟩
def Y4 (s:ByteArray)(D n:Nat):Prop:=∀(pb i z:Nat) (w:World),PB w pb s i z false->i<=s.size->z<=1048576+i->(rest s i).length<n->
 Calls Tryz.prog 73 #[.pointer (some ⟨pb,0,none⟩),.int .i64 (D:Int)] w (LPost w pb s i z (Ls.wQ0 (Ls.pat (13-D)) (Ls.wQy (12-D)) n (rest s i)))
theorem uQ8 {P:List UInt8->Ls.Rd}{Q:List UInt8->Ls.Rl}{n:Nat}{r:List UInt8}(h:Ls.wQ6 P Q r=.none):Ls.wQ0 P Q (n+1) r=.none:=by rw[Ls.wQ0,h]
theorem oQo {P:List UInt8->Ls.Rd}{Q:List UInt8->Ls.Rl}{n:Nat}{r r1:List UInt8}{l:Ls.Ln}(h:Ls.wQ6 P Q r=some (l,r1))(he:Ls.yQi r1=true):Ls.wQ0 P Q (n+1) r=some (l,r1):=by
 rw[Ls.wQ0,h];dsimp only
 rw[if_pos he]
theorem uQ7 {P:List UInt8->Ls.Rd}{Q:List UInt8->Ls.Rl}{n:Nat}{r r1:List UInt8}{l:Ls.Ln}(h:Ls.wQ6 P Q r=some (l,r1))(he:Ls.yQi r1=false):Ls.wQ0 P Q (n+1) r=aQ3 3 l (Ls.wQ0 P Q n r1):=by
 rw[Ls.wQ0,h];dsimp only
 rw[if_neg (by rw[he];simp)];cases Ls.wQ0 P Q n r1 with
 | none=>rfl
 | some x=>rfl
theorem lQs {s:ByteArray}{i:Nat}(h:s.size<=i):Ls.yQi (rest s i)=true:=by rw[K1 h];rfl
theorem rQ3 {s:ByteArray}{i:Nat}(h:i<s.size):Ls.yQi (rest s i)=(nx s i==124||nx s i==41||nx s i==62||nx s i==126):=by rw[C4 h];rfl
theorem X9 {W:World}{G:Nat->Prop}{P:List UInt8->Ls.Rd}{Q:List UInt8->Ls.Rl}{n:Nat}{r:List UInt8}{s:ByteArray}{z i1 z1:Nat}{bad:Bool}{k:Nat}{p:Ls.Pat}{ws:List UInt8}{y x:Value}(h:CaseL W G (Ls.wQ6 P Q r) s z i1 z1 bad k p ws y x)(he:bad=true\/Ls.yQi (rest s i1)=true):CaseL W G (Ls.wQ0 P Q (n+1) r) s z i1 z1 bad k p ws y x:=by
 rcases h with⟨h1,hr⟩|⟨h1,l,hr,h2⟩
 ·exact .inl ⟨h1,uQ8 hr⟩
 ·rcases he with he|he
  ·rw[he]at h1;cases h1
  ·exact .inr ⟨h1,l,oQo hr he,h2⟩
theorem aQ5 {a c:UInt8}(h:a=c):(((a.toNat:Nat):Int)==((c.toNat:Nat):Int))=true:=by rw[h];simp
theorem bQk {a c:UInt8}(h:a≠c):(((a.toNat:Nat):Int)==((c.toNat:Nat):Int))=false:=by
 rw[beq_eq_false_iff_ne];intro e;exact h (UInt8.toNat_inj.1 (by omega))
theorem iQ7 (s:ByteArray)(hs:s.size<=1048576)(D n:Nat)(hP:dQq s D)(hN:Y4 s D n):Y4 s D (n+1):=by
 intro pb i z w h hi hz hn;have hpl:=h.lt;have hne:¬w.heap.size=pb:=by omega
 have hne':¬pb=w.heap.size:=by omega
 have hst0:=St.start h;have HNn:Hid (Y4 s D n):=hN;clear hN;go_enter Tryz.func73,Tryz.ntmps73;go_wp2_with fail;refine(hP pb i z _ hst0.left.lies hi hz).mono ?_;rintro e w3 hpp;obtain⟨k,p,ws,y1,y2,y3,x1,x2,x3,i1,z1,bad,rfl,hi1,hi2,hz2,hl3,hcl⟩:=hpp.mid (fun l t hr=>⟨(Ls.bXg (Ls.yQ0 _) (Ls.xQ9 _) hr).1,(Ls.bXg (Ls.yQ0 _) (Ls.xQ9 _) hr).2.1⟩) hi;have HLen:Hid (bad=false->(rest s i1).length<n):=fun hb=>by
  rcases hcl with⟨h0,_⟩|⟨_,l,hr,_⟩
  ·rw[hb]at h0;cases h0
  ·have:=(Ls.bXg (Ls.yQ0 _) (Ls.xQ9 _) hr).2.2
   omega
 have HLe:Hid (bad=false->i1<=s.size):=fun hb=>by
  rcases hcl with⟨h0,_⟩|⟨_,l,hr,_,_,_,_,h1,_⟩
  ·rw[hb]at h0;cases h0
  ·exact h1
 clear hpp;have hst3:=hst0.next hl3;have hst4:=hst3.below (A4 w3 (A8 k p ws (.slice y1 y2 y3) (.slice x1 x2 x3)));have hli:=I0 w3 k p ws (.slice y1 y2 y3) (.slice x1 x2 x3);have hz3:=hst0.res.lt;have hpl3:pb<w3.heap.size:=hst3.left.lies.lt;have hlt3:w.heap.size<w3.heap.size:=hst3.res.lt;have HST4:Hid _:=hst4;have HCL:Hid (CaseL w3 (B6 (w.alloc (.cells #[.int .i64 0,.int .i64 0,.string ⟨#[]⟩,.slice none 0 0,.string ⟨#[]⟩,.slice none 0 0] 37)) w3) (Ls.wQ6 (Ls.pat (13-D)) (Ls.wQy (12-D)) (rest s i)) s z i1 z1 bad k p ws (.slice y1 y2 y3) (.slice x1 x2 x3)):=hcl;have HGA:Hid (∀j,B6 (w.alloc (.cells #[.int .i64 0,.int .i64 0,.string ⟨#[]⟩,.slice none 0 0,.string ⟨#[]⟩,.slice none 0 0] 37)) w3 j->w.heap.size<j/\j<w3.heap.size):=fun j hj=>⟨by have:=hj.1;omega,hj.2⟩;generalize (B6 (w.alloc (.cells #[.int .i64 0,.int .i64 0,.string ⟨#[]⟩,.slice none 0 0,.string ⟨#[]⟩,.slice none 0 0] 37)) w3)=GA at HCL HGA;have HLI:Hid (LiesL (w3.alloc (A8 k p ws (.slice y1 y2 y3) (.slice x1 x2 x3))) w3.heap.size [.int .i64 k,.int .i64 p.kind,.string ⟨p.signs.toArray⟩,.slice y1 y2 y3,.string ⟨ws.toArray⟩,.slice x1 x2 x3]):=hli;clear hst0 hst3 hst4 hcl hl3 hli hz3;go_wp2_with fail;refine(E8 pb s i1 z1 bad _ HST4.out.left.lies (by omega) (by omega)).mono ?_;rintro e w5 ⟨rfl,hb5⟩;have hst5:=HST4.out.below hb5;have hz5:=hb5.size;simp at hz5;have HLI5:Hid (LiesL w5 w3.heap.size [.int .i64 k,.int .i64 p.kind,.string ⟨p.signs.toArray⟩,.slice y1 y2 y3,.string ⟨ws.toArray⟩,.slice x1 x2 x3]):=HLI.out.of_block (hb5.block _ (by simp));have HCL5:Hid (CaseL w5 GA (Ls.wQ6 (Ls.pat (13-D)) (Ls.wQy (12-D)) (rest s i)) s z i1 z1 bad k p ws (.slice y1 y2 y3) (.slice x1 x2 x3)):=HCL.out.mono (fun j hj=>⟨hj,by
  have e1:=HGA.out j hj;rw[hb5.block j (by simp;omega),Below.heap_alloc _ _ _ e1.2]⟩)
 have k0:=hst5.left.lies.c0;have k1:=hst5.left.lies.c1;have k3:=hst5.left.lies.c3;have HST5:Hid (St w pb s i1 z1 bad w5):=hst5;clear hst5 hb5 HLI HCL HST4;cases bad with
 | true=>
  go_wp2_with fail;go_quiet (fail)
  have hst6:=HST5.out.below (D6 nq);have HLI6:Hid (LiesL (w5.drewN nq) w3.heap.size [.int .i64 k,.int .i64 p.kind,.string ⟨p.signs.toArray⟩,.slice y1 y2 y3,.string ⟨ws.toArray⟩,.slice x1 x2 x3]):=HLI5.out.of_block rfl;have HC6:Hid (CaseL (w5.drewN nq) GA (Ls.wQ0 (Ls.pat (13-D)) (Ls.wQy (12-D)) (n+1) (rest s i)) s z i1 z1 true k p ws (.slice y1 y2 y3) (.slice x1 x2 x3)):=X9 (HCL5.out.mono (fun j hj=>⟨hj,rfl⟩)) (.inl rfl);have hz6:w5.heap.size<=(w5.drewN nq).heap.size:=Nat.le_refl _;clear k0 k1 k3;generalize w5.drewN nq=w6 at *;obtain⟨-,-,-,-,-,-,q0,q1,q2,q3,q4,q5,g,hlt6⟩:=hst6.cells;obtain⟨a0,a1,a2,a3,a4,a5⟩:=HLI6.out.six;have g0:=g 0;have g1:=g 1;have g2:=g 2;have g3:=g 3;have g4:=g 4;have g5:=g 5;have HST6:Hid _:=hst6;have HH:Hid (∀t,GA t->w.heap.size<t/\t<w6.heap.size):=fun t ht=>by have:=HGA.out t ht;exact⟨by omega,by omega⟩
  clear hst6 g;go_wp2_with fail;exact bodyPost_ret (v:=C7 k p ws (.slice y1 y2 y3) (.slice x1 x2 x3)) (by simp[results,Tryz.results73,go_sem,q0,q1,q2,q3,q4,q5]) rfl (K0 HC6.out (by omega) hi2 (by omega) HST6.out HH.out)
 | false=>
  have HLe2:Hid (i1<=s.size):=HLe.out rfl;have HLen2:Hid ((rest s i1).length<n):=HLen.out rfl;clear HLe HLen
  by_cases hsz:s.size<=i1
  ·have hd:decide ((s.size:Int)<=(i1:Int))=true:=by simp;omega
   have hd3:decide (s.size<=i1)=true:=by simp;omega
   have HEnd:Hid (Ls.yQi (rest s i1)=true):=(lQs hsz);clear hsz;go_wp2_with fail;go_quiet (fail)
   have hst6:=HST5.out.below (D6 nq);have HLI6:Hid (LiesL (w5.drewN nq) w3.heap.size [.int .i64 k,.int .i64 p.kind,.string ⟨p.signs.toArray⟩,.slice y1 y2 y3,.string ⟨ws.toArray⟩,.slice x1 x2 x3]):=HLI5.out.of_block rfl;have HC6:Hid (CaseL (w5.drewN nq) GA (Ls.wQ0 (Ls.pat (13-D)) (Ls.wQy (12-D)) (n+1) (rest s i)) s z i1 z1 false k p ws (.slice y1 y2 y3) (.slice x1 x2 x3)):=X9 (HCL5.out.mono (fun j hj=>⟨hj,rfl⟩)) (.inr HEnd.out);have hz6:w5.heap.size<=(w5.drewN nq).heap.size:=Nat.le_refl _;clear k0 k1 k3;generalize w5.drewN nq=w6 at *;obtain⟨-,-,-,-,-,-,q0,q1,q2,q3,q4,q5,g,hlt6⟩:=hst6.cells;obtain⟨a0,a1,a2,a3,a4,a5⟩:=HLI6.out.six;have g0:=g 0;have g1:=g 1;have g2:=g 2;have g3:=g 3;have g4:=g 4;have g5:=g 5;have HST6:Hid _:=hst6;have HH:Hid (∀t,GA t->w.heap.size<t/\t<w6.heap.size):=fun t ht=>by have:=HGA.out t ht;exact⟨by omega,by omega⟩
   clear hst6 g;go_wp2_with fail;exact bodyPost_ret (v:=C7 k p ws (.slice y1 y2 y3) (.slice x1 x2 x3)) (by simp[results,Tryz.results73,go_sem,q0,q1,q2,q3,q4,q5]) rfl (K0 HC6.out (by omega) hi2 (by omega) HST6.out HH.out)
  ·have hlt1:i1<s.size:=by omega
   have hd:decide ((s.size:Int)<=(i1:Int))=false:=by simp;omega
   have hd2:(i1:Int)<(s.size:Int):=by omega
   have hd3:decide (s.size<=i1)=false:=by simp;omega
   have hen:=rQ3 hlt1;clear hsz
   by_cases m1:nx s i1=124
   ·have n1:(((nx s i1).toNat:Int)==124)=true:=aQ5 m1
    have HEnd:Hid (Ls.yQi (rest s i1)=true):=(by rw[hen,m1];rfl);clear hen m1;go_wp2_with fail;go_quiet (fail)
    have hst6:=HST5.out.below (D6 nq);have HLI6:Hid (LiesL (w5.drewN nq) w3.heap.size [.int .i64 k,.int .i64 p.kind,.string ⟨p.signs.toArray⟩,.slice y1 y2 y3,.string ⟨ws.toArray⟩,.slice x1 x2 x3]):=HLI5.out.of_block rfl;have HC6:Hid (CaseL (w5.drewN nq) GA (Ls.wQ0 (Ls.pat (13-D)) (Ls.wQy (12-D)) (n+1) (rest s i)) s z i1 z1 false k p ws (.slice y1 y2 y3) (.slice x1 x2 x3)):=X9 (HCL5.out.mono (fun j hj=>⟨hj,rfl⟩)) (.inr HEnd.out);have hz6:w5.heap.size<=(w5.drewN nq).heap.size:=Nat.le_refl _;clear k0 k1 k3;generalize w5.drewN nq=w6 at *;obtain⟨-,-,-,-,-,-,q0,q1,q2,q3,q4,q5,g,hlt6⟩:=hst6.cells;obtain⟨a0,a1,a2,a3,a4,a5⟩:=HLI6.out.six;have g0:=g 0;have g1:=g 1;have g2:=g 2;have g3:=g 3;have g4:=g 4;have g5:=g 5;have HST6:Hid _:=hst6;have HH:Hid (∀t,GA t->w.heap.size<t/\t<w6.heap.size):=fun t ht=>by have:=HGA.out t ht;exact⟨by omega,by omega⟩
    clear hst6 g;go_wp2_with fail;exact bodyPost_ret (v:=C7 k p ws (.slice y1 y2 y3) (.slice x1 x2 x3)) (by simp[results,Tryz.results73,go_sem,q0,q1,q2,q3,q4,q5]) rfl (K0 HC6.out (by omega) hi2 (by omega) HST6.out HH.out)
   have n1:(((nx s i1).toNat:Int)==124)=false:=bQk m1
   by_cases m2:nx s i1=41
   ·have n2:(((nx s i1).toNat:Int)==41)=true:=aQ5 m2
    have HEnd:Hid (Ls.yQi (rest s i1)=true):=(by rw[hen,m2];rfl);clear hen m1 m2;go_wp2_with fail;go_quiet (fail)
    have hst6:=HST5.out.below (D6 nq);have HLI6:Hid (LiesL (w5.drewN nq) w3.heap.size [.int .i64 k,.int .i64 p.kind,.string ⟨p.signs.toArray⟩,.slice y1 y2 y3,.string ⟨ws.toArray⟩,.slice x1 x2 x3]):=HLI5.out.of_block rfl;have HC6:Hid (CaseL (w5.drewN nq) GA (Ls.wQ0 (Ls.pat (13-D)) (Ls.wQy (12-D)) (n+1) (rest s i)) s z i1 z1 false k p ws (.slice y1 y2 y3) (.slice x1 x2 x3)):=X9 (HCL5.out.mono (fun j hj=>⟨hj,rfl⟩)) (.inr HEnd.out);have hz6:w5.heap.size<=(w5.drewN nq).heap.size:=Nat.le_refl _;clear k0 k1 k3;generalize w5.drewN nq=w6 at *;obtain⟨-,-,-,-,-,-,q0,q1,q2,q3,q4,q5,g,hlt6⟩:=hst6.cells;obtain⟨a0,a1,a2,a3,a4,a5⟩:=HLI6.out.six;have g0:=g 0;have g1:=g 1;have g2:=g 2;have g3:=g 3;have g4:=g 4;have g5:=g 5;have HST6:Hid _:=hst6;have HH:Hid (∀t,GA t->w.heap.size<t/\t<w6.heap.size):=fun t ht=>by have:=HGA.out t ht;exact⟨by omega,by omega⟩
    clear hst6 g;go_wp2_with fail;exact bodyPost_ret (v:=C7 k p ws (.slice y1 y2 y3) (.slice x1 x2 x3)) (by simp[results,Tryz.results73,go_sem,q0,q1,q2,q3,q4,q5]) rfl (K0 HC6.out (by omega) hi2 (by omega) HST6.out HH.out)
   have n2:(((nx s i1).toNat:Int)==41)=false:=bQk m2
   by_cases m3:nx s i1=62
   ·have n3:(((nx s i1).toNat:Int)==62)=true:=aQ5 m3
    have HEnd:Hid (Ls.yQi (rest s i1)=true):=(by rw[hen,m3];rfl);clear hen m1 m2 m3;go_wp2_with fail;go_quiet (fail)
    have hst6:=HST5.out.below (D6 nq);have HLI6:Hid (LiesL (w5.drewN nq) w3.heap.size [.int .i64 k,.int .i64 p.kind,.string ⟨p.signs.toArray⟩,.slice y1 y2 y3,.string ⟨ws.toArray⟩,.slice x1 x2 x3]):=HLI5.out.of_block rfl;have HC6:Hid (CaseL (w5.drewN nq) GA (Ls.wQ0 (Ls.pat (13-D)) (Ls.wQy (12-D)) (n+1) (rest s i)) s z i1 z1 false k p ws (.slice y1 y2 y3) (.slice x1 x2 x3)):=X9 (HCL5.out.mono (fun j hj=>⟨hj,rfl⟩)) (.inr HEnd.out);have hz6:w5.heap.size<=(w5.drewN nq).heap.size:=Nat.le_refl _;clear k0 k1 k3;generalize w5.drewN nq=w6 at *;obtain⟨-,-,-,-,-,-,q0,q1,q2,q3,q4,q5,g,hlt6⟩:=hst6.cells;obtain⟨a0,a1,a2,a3,a4,a5⟩:=HLI6.out.six;have g0:=g 0;have g1:=g 1;have g2:=g 2;have g3:=g 3;have g4:=g 4;have g5:=g 5;have HST6:Hid _:=hst6;have HH:Hid (∀t,GA t->w.heap.size<t/\t<w6.heap.size):=fun t ht=>by have:=HGA.out t ht;exact⟨by omega,by omega⟩
    clear hst6 g;go_wp2_with fail;exact bodyPost_ret (v:=C7 k p ws (.slice y1 y2 y3) (.slice x1 x2 x3)) (by simp[results,Tryz.results73,go_sem,q0,q1,q2,q3,q4,q5]) rfl (K0 HC6.out (by omega) hi2 (by omega) HST6.out HH.out)
   have n3:(((nx s i1).toNat:Int)==62)=false:=bQk m3
   by_cases m4:nx s i1=126
   ·have n4:(((nx s i1).toNat:Int)==126)=true:=aQ5 m4
    have HEnd:Hid (Ls.yQi (rest s i1)=true):=(by rw[hen,m4];rfl);clear hen m1 m2 m3 m4;go_wp2_with fail;go_quiet (fail)
    have hst6:=HST5.out.below (D6 nq);have HLI6:Hid (LiesL (w5.drewN nq) w3.heap.size [.int .i64 k,.int .i64 p.kind,.string ⟨p.signs.toArray⟩,.slice y1 y2 y3,.string ⟨ws.toArray⟩,.slice x1 x2 x3]):=HLI5.out.of_block rfl;have HC6:Hid (CaseL (w5.drewN nq) GA (Ls.wQ0 (Ls.pat (13-D)) (Ls.wQy (12-D)) (n+1) (rest s i)) s z i1 z1 false k p ws (.slice y1 y2 y3) (.slice x1 x2 x3)):=X9 (HCL5.out.mono (fun j hj=>⟨hj,rfl⟩)) (.inr HEnd.out);have hz6:w5.heap.size<=(w5.drewN nq).heap.size:=Nat.le_refl _;clear k0 k1 k3;generalize w5.drewN nq=w6 at *;obtain⟨-,-,-,-,-,-,q0,q1,q2,q3,q4,q5,g,hlt6⟩:=hst6.cells;obtain⟨a0,a1,a2,a3,a4,a5⟩:=HLI6.out.six;have g0:=g 0;have g1:=g 1;have g2:=g 2;have g3:=g 3;have g4:=g 4;have g5:=g 5;have HST6:Hid _:=hst6;have HH:Hid (∀t,GA t->w.heap.size<t/\t<w6.heap.size):=fun t ht=>by have:=HGA.out t ht;exact⟨by omega,by omega⟩
    clear hst6 g;go_wp2_with fail;exact bodyPost_ret (v:=C7 k p ws (.slice y1 y2 y3) (.slice x1 x2 x3)) (by simp[results,Tryz.results73,go_sem,q0,q1,q2,q3,q4,q5]) rfl (K0 HC6.out (by omega) hi2 (by omega) HST6.out HH.out)
   have n4:(((nx s i1).toNat:Int)==126)=false:=bQk m4;have HEnd:Hid (Ls.yQi (rest s i1)=false):=by
    show _=_;rw[hen];simp[m1,m2,m3,m4]
   clear hen m1 m2 m3 m4;go_wp2_with fail;go_quiet (fail)
   have hst6:=HST5.out.below (D6 nq);have HLI6:Hid (LiesL (w5.drewN nq) w3.heap.size [.int .i64 k,.int .i64 p.kind,.string ⟨p.signs.toArray⟩,.slice y1 y2 y3,.string ⟨ws.toArray⟩,.slice x1 x2 x3]):=HLI5.out.of_block rfl;have HC6:Hid (CaseL (w5.drewN nq) GA (Ls.wQ6 (Ls.pat (13-D)) (Ls.wQy (12-D)) (rest s i)) s z i1 z1 false k p ws (.slice y1 y2 y3) (.slice x1 x2 x3)):=HCL5.out.mono (fun j hj=>⟨hj,rfl⟩);have hz6:w5.heap.size<=(w5.drewN nq).heap.size:=Nat.le_refl _;clear k0 k1 k3;generalize w5.drewN nq=w6 at *;have hPc:=HNn.out pb i1 z1 w6 hst6.left.lies HLe2.out (by omega) HLen2.out;have hlt6:=hst6.res.lt;have HST6:Hid _:=hst6;clear hst6;go_wp2_with fail;refine hPc.mono ?_;clear hPc;rintro e w7 hpp;obtain⟨kb,pb2,wb,r1,r2,r3,t1,t2,t3,i2,z2,bad2,rfl,hi3,hi4,hz4,hl7,hcl7⟩:=hpp.mid (fun l t hr=>Ls.aXf (Ls.yQ0 _) (Ls.xQ9 _) _ _ _ _ hr) HLe2.out;clear hpp;have hz7:=hl7.grown.size;have HE:Hid _:=gQ3 (i:=i) 3 HC6.out HST6.out hl7 hcl7 (fun t ht=>by have:=HGA.out t ht;exact⟨by omega,by omega⟩) (fun l hr=>uQ7 hr HEnd.out) (by omega) hi4 (by omega);have hst7:=HST6.out.next hl7;have hst8:=(hst7.below (A4 w7 (A8 kb pb2 wb (.slice r1 r2 r3) (.slice t1 t2 t3)))).below (A4 _ (M1 k p ws (.slice y1 y2 y3) (.slice x1 x2 x3) kb pb2 wb (.slice r1 r2 r3) (.slice t1 t2 t3)));have hli7:=(HLI6.out.of_block (hl7.block (by omega) (by omega))).of_block ((A4 w7 (A8 kb pb2 wb (.slice r1 r2 r3) (.slice t1 t2 t3))).block _ (by omega));obtain⟨-,-,-,-,-,-,q0,q1,q2,q3,q4,q5,g,hlt8⟩:=hst8.cells;obtain⟨a0,a1,a2,a3,a4,a5⟩:=hli7.six;have g0:=g 0;have g1:=g 1;have g2:=g 2;have g3:=g 3;have g4:=g 4;have g5:=g 5;clear hst7 hst8 hli7 hl7 hcl7 g;go_wp2_with fail;exact bodyPost_ret (v:=C7 3 Ls.none [] (.slice none 0 0) (.slice (some ⟨w7.heap.size+1,0,none⟩) 2 2)) (by simp[results,Tryz.results73,go_sem,q0,q1,q2,q3,q4,q5,Ls.none]) rfl HE.out
theorem gQo (s:ByteArray)(hs:s.size<=1048576)(D:Nat)(hP:dQq s D):∀n,Y4 s D n
 | 0=>fun _ _ _ _ _ _ _ h=>absurd h (Nat.not_lt_zero _)
 | n+1=>iQ7 s hs D n hP (gQo s hs D hP n)
end Go.Proofs.YtcggfnlejalppaaGreatDoor
