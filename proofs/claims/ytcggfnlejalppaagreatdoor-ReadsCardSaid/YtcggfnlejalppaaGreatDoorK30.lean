import Derived.Test.YtcggfnlejalppaaGreatDoorK29
import Derived.Test.YtcggfnlejalppaaGreatDoorK02
set_option maxRecDepth 100000
set_option maxHeartbeats 4000000
namespace Go.Proofs.YtcggfnlejalppaaGreatDoor
open Go.RowKit
def cQg (s:ByteArray)(D n:Nat):Prop:=∀(pb i z:Nat) (w:World),PB w pb s i z false->i<=s.size->z<=1048576+i->(rest s i).length<n->
 Calls Tryz.prog 40 #[.pointer (some ⟨pb,0,none⟩),.int .i64 (D:Int)] w (LPost w pb s i z (Ls.xQo (Ls.pat (13-D)) (Ls.wQy (12-D)) n (rest s i)))
theorem fQb {P:List UInt8->Ls.Rd}{Q:List UInt8->Ls.Rl}{n:Nat}{r:List UInt8}(h:Ls.wQ0 P Q (r.length+1) r=.none):Ls.xQo P Q (n+1) r=.none:=by rw[Ls.xQo,h]
theorem vQ2 {P:List UInt8->Ls.Rd}{Q:List UInt8->Ls.Rl}{n:Nat}{s:ByteArray}{i i1:Nat}{l:Ls.Ln}(h:Ls.wQ0 P Q ((rest s i).length+1) (rest s i)=some (l,rest s i1))(hse:A5 s i1 124=false):Ls.xQo P Q (n+1) (rest s i)=some (l,rest s i1):=by
 rw[Ls.xQo,h];dsimp only
 rw[if_neg (by rw[B8,hse];simp)]
theorem tQg {P:List UInt8->Ls.Rd}{Q:List UInt8->Ls.Rl}{n:Nat}{s:ByteArray}{i i1:Nat}{l:Ls.Ln}(h:Ls.wQ0 P Q ((rest s i).length+1) (rest s i)=some (l,rest s i1))(hse:A5 s i1 124=true):Ls.xQo P Q (n+1) (rest s i)=aQ3 5 l (Ls.xQo P Q n (rest s (i1+1))):=by
 rw[Ls.xQo,h];dsimp only
 rw[if_pos (B8.2 hse),D7];cases Ls.xQo P Q n (rest s (i1+1)) with
 | none=>rfl
 | some x=>rfl
theorem lQ8 (s:ByteArray)(D:Nat)(hD:(12:Int)<(D:Int))(pb i z:Nat)(w:World)(h:PB w pb s i z false)(hi:i<=s.size) :
  Calls Tryz.prog 40 #[.pointer (some ⟨pb,0,none⟩),.int .i64 (D:Int)] w (LPost w pb s i z .none):=by
 have hpl:=h.lt;have hne:¬w.heap.size=pb:=by omega
 have hne':¬pb=w.heap.size:=by omega
 have hsz:(w.setCell ⟨pb,3,none⟩ (.bool true)).heap.size=w.heap.size:=by simp[World.setCell]
 have hst1:St w pb s i z true ((w.setCell ⟨pb,3,none⟩ (.bool true)).alloc (.cells #[.int .i64 0,.int .i64 0,.string ⟨#[]⟩,.slice none 0 0,.string ⟨#[]⟩,.slice none 0 0] 37)):=
  ⟨((Left.of_below h (Below.refl _ _)).set3 true).below (A4 _ _),by have:=W9 (w.setCell ⟨pb,3,none⟩ (.bool true)) Y9;rw[hsz]at this;exact this,hpl⟩
 have k3:=h.c3;have f3:=h.fr 3;have HST1:Hid _:=hst1;clear hst1 h hsz;go_enter Tryz.func40,Tryz.ntmps40;go_upto_region 3 with (fail);clear k3 f3;generalize (w.setCell ⟨pb,3,none⟩ (.bool true)).alloc (.cells #[.int .i64 0,.int .i64 0,.string ⟨#[]⟩,.slice none 0 0,.string ⟨#[]⟩,.slice none 0 0] 37)=W1 at *;obtain⟨-,-,-,-,-,-,q0,q1,q2,q3,q4,q5,g,hlt⟩:=HST1.out.cells;have g0:=g 0;have g1:=g 1;have g2:=g 2;have g3:=g 3;have g4:=g 4;have g5:=g 5;clear g;go_wp2_with fail;exact bodyPost_ret (v:=C7 0 Ls.none [] (.slice none 0 0) (.slice none 0 0)) (by simp[results,Tryz.results40,go_sem,q0,q1,q2,q3,q4,q5,Ls.none]) rfl (S3 rfl (Nat.le_refl _) (by omega) (by omega) HST1.out)
theorem kQx (s:ByteArray):T5 s 13:=fun pb i z w h hi _=>lQ8 s 13 (by decide) pb i z w h hi
theorem lQt (s:ByteArray)(hs:s.size<=1048576)(D n:Nat)(hD:D<=12)(hP:∀m,Y4 s D m)(hN:cQg s D n):cQg s D (n+1):=by
 intro pb i z w h hi hz hn;have hpl:=h.lt;have hne:¬w.heap.size=pb:=by omega
 have hne':¬pb=w.heap.size:=by omega
 have hD':¬(12:Int)<(D:Int):=by omega
 have hst0:=St.start h;have HNn:Hid (cQg s D n):=hN;clear hN;go_enter Tryz.func40,Tryz.ntmps40;go_wp2_with fail;refine(hP ((rest s i).length+1) pb i z _ hst0.left.lies hi hz (Nat.lt_succ_self _)).mono ?_;rintro e w3 hpp;obtain⟨k,p,ws,y1,y2,y3,x1,x2,x3,i1,z1,bad,rfl,hi1,hi2,hz2,hl3,hcl⟩:=hpp.mid (fun l t hr=>Ls.aXf (Ls.yQ0 _) (Ls.xQ9 _) _ _ _ _ hr) hi;have HLen:Hid (bad=false->(rest s i1).length<=n):=fun hb=>by
  rcases hcl with⟨h0,_⟩|⟨_,l,hr,_⟩
  ·rw[hb]at h0;cases h0
  ·have:=(Ls.aXf (Ls.yQ0 _) (Ls.xQ9 _) _ _ _ _ hr).2
   omega
 clear hpp;have hst3:=hst0.next hl3;have hst4:=hst3.below (A4 w3 (A8 k p ws (.slice y1 y2 y3) (.slice x1 x2 x3)));have hli:=I0 w3 k p ws (.slice y1 y2 y3) (.slice x1 x2 x3);have hz3:=hst0.res.lt;have hpl3:pb<w3.heap.size:=hst3.left.lies.lt;have hlt3:w.heap.size<w3.heap.size:=hst3.res.lt;have HST4:Hid _:=hst4;have HCL:Hid (CaseL w3 (B6 (w.alloc (.cells #[.int .i64 0,.int .i64 0,.string ⟨#[]⟩,.slice none 0 0,.string ⟨#[]⟩,.slice none 0 0] 37)) w3) (Ls.wQ0 (Ls.pat (13-D)) (Ls.wQy (12-D)) ((rest s i).length+1) (rest s i)) s z i1 z1 bad k p ws (.slice y1 y2 y3) (.slice x1 x2 x3)):=hcl;have HGA:Hid (∀j,B6 (w.alloc (.cells #[.int .i64 0,.int .i64 0,.string ⟨#[]⟩,.slice none 0 0,.string ⟨#[]⟩,.slice none 0 0] 37)) w3 j->w.heap.size<j/\j<w3.heap.size):=fun j hj=>⟨by have:=hj.1;omega,hj.2⟩;generalize (B6 (w.alloc (.cells #[.int .i64 0,.int .i64 0,.string ⟨#[]⟩,.slice none 0 0,.string ⟨#[]⟩,.slice none 0 0] 37)) w3)=GA at HCL HGA;have HLI:Hid (LiesL (w3.alloc (A8 k p ws (.slice y1 y2 y3) (.slice x1 x2 x3))) w3.heap.size [.int .i64 k,.int .i64 p.kind,.string ⟨p.signs.toArray⟩,.slice y1 y2 y3,.string ⟨ws.toArray⟩,.slice x1 x2 x3]):=hli;clear hst0 hst3 hst4 hcl hl3 hli hz3;go_wp2_with fail;refine(J0 pb s i1 z1 bad 124 _ HST4.out.left.lies (by omega) (by omega)).mono ?_;rintro e w5 ⟨rfl,hl5⟩;have hst5:=HST4.out.next hl5;have hz5:=hl5.grown.size;simp at hz5;have HLI5:Hid (LiesL w5 w3.heap.size [.int .i64 k,.int .i64 p.kind,.string ⟨p.signs.toArray⟩,.slice y1 y2 y3,.string ⟨ws.toArray⟩,.slice x1 x2 x3]):=HLI.out.of_block (hl5.block (by simp) (by omega));have HCL5:Hid (CaseL w5 GA (Ls.wQ0 (Ls.pat (13-D)) (Ls.wQy (12-D)) ((rest s i).length+1) (rest s i)) s z i1 z1 bad k p ws (.slice y1 y2 y3) (.slice x1 x2 x3)):=HCL.out.mono (fun j hj=>⟨hj,by
  have e1:=HGA.out j hj;rw[hl5.block (by simp;omega) (by omega),Below.heap_alloc _ _ _ e1.2]⟩)
 have HGX:Hid (∀t,GA t->w.heap.size<t/\t<w5.heap.size):=fun t ht=>by have:=HGA.out t ht;exact⟨by omega,by omega⟩
 have HST5:Hid (St w pb s (if A5 s i1 124=true then i1+1 else i1) z1 bad w5):=hst5;clear hst5 hl5 HLI HCL HST4;cases hse:A5 s i1 124 with
 | false=>
  rw[hse]at HST5;simp only[Bool.false_eq_true,if_false]at HST5;have HC:Hid (CaseL w5 GA (Ls.xQo (Ls.pat (13-D)) (Ls.wQy (12-D)) (n+1) (rest s i)) s z i1 z1 bad k p ws (.slice y1 y2 y3) (.slice x1 x2 x3)):=by
   rcases HCL5.out with⟨h1,hr⟩|⟨h1,l,hr,h2⟩
   ·exact .inl ⟨h1,fQb hr⟩
   ·exact .inr ⟨h1,l,vQ2 hr hse,h2⟩
  clear hse;obtain⟨-,-,c3,-,-,-,q0,q1,q2,q3,q4,q5,g,hlt5⟩:=HST5.out.cells;obtain⟨a0,a1,a2,a3,a4,a5⟩:=HLI5.out.six;have g0:=g 0;have g1:=g 1;have g2:=g 2;have g3:=g 3;have g4:=g 4;have g5:=g 5;clear g;go_wp2_with fail;exact bodyPost_ret (v:=C7 k p ws (.slice y1 y2 y3) (.slice x1 x2 x3)) (by simp[results,Tryz.results40,go_sem,q0,q1,q2,q3,q4,q5]) rfl (K0 HC.out (by omega) (by omega) (by omega) HST5.out HGX.out)
 | true=>
  have hjs:=(C6 hse).1;rw[hse]at HST5;simp only[if_true]at HST5;cases bad with
  | true=>
   have HC:Hid (CaseL w5 GA (Ls.xQo (Ls.pat (13-D)) (Ls.wQy (12-D)) (n+1) (rest s i)) s z (i1+1) z1 true k p ws (.slice y1 y2 y3) (.slice x1 x2 x3)):=by
    rcases HCL5.out with⟨h1,hr⟩|⟨h0,_⟩
    ·exact .inl ⟨h1,fQb hr⟩
    ·cases h0
   clear hse;obtain⟨-,-,c3,-,-,-,q0,q1,q2,q3,q4,q5,g,hlt5⟩:=HST5.out.cells;obtain⟨a0,a1,a2,a3,a4,a5⟩:=HLI5.out.six;have g0:=g 0;have g1:=g 1;have g2:=g 2;have g3:=g 3;have g4:=g 4;have g5:=g 5;clear g;go_wp2_with fail;exact bodyPost_ret (v:=C7 k p ws (.slice y1 y2 y3) (.slice x1 x2 x3)) (by simp[results,Tryz.results40,go_sem,q0,q1,q2,q3,q4,q5]) rfl (K0 HC.out (by omega) (by omega) (by omega) HST5.out HGX.out)
  | false=>
   have hlen:(rest s (i1+1)).length<n:=by
    have:=HLen.out rfl;rw[D9]at this ⊢;omega
   have hPc:=HNn.out pb (i1+1) z1 w5 HST5.out.left.lies (by omega) (by omega) hlen;have HSE:Hid (A5 s i1 124=true):=hse;have c3:=HST5.out.cells.c3;have hlt5:=HST5.out.res.lt;clear hse hlen HLen;go_wp2_with fail;refine hPc.mono ?_;clear hPc;rintro e w7 hpp;obtain⟨kb,pb2,wb,r1,r2,r3,t1,t2,t3,i2,z2,bad2,rfl,hi3,hi4,hz4,hl7,hcl7⟩:=hpp.mid (fun l t hr=>Ls.bX9 (Ls.yQ0 _) (Ls.xQ9 _) _ _ _ _ hr) (by omega);clear hpp;have hz7:=hl7.grown.size;have HE:Hid _:=gQ3 (i:=i) 5 HCL5.out HST5.out hl7 hcl7 HGX.out (fun l hr=>tQg hr HSE.out) (by omega) hi4 (by omega);have hst7:=HST5.out.next hl7;have hst8:=(hst7.below (A4 w7 (A8 kb pb2 wb (.slice r1 r2 r3) (.slice t1 t2 t3)))).below (A4 _ (M1 k p ws (.slice y1 y2 y3) (.slice x1 x2 x3) kb pb2 wb (.slice r1 r2 r3) (.slice t1 t2 t3)));have hli7:=(HLI5.out.of_block (hl7.block (by omega) (by omega))).of_block ((A4 w7 (A8 kb pb2 wb (.slice r1 r2 r3) (.slice t1 t2 t3))).block _ (by omega));obtain⟨-,-,-,-,-,-,q0,q1,q2,q3,q4,q5,g,hlt8⟩:=hst8.cells;obtain⟨a0,a1,a2,a3,a4,a5⟩:=hli7.six;have g0:=g 0;have g1:=g 1;have g2:=g 2;have g3:=g 3;have g4:=g 4;have g5:=g 5;clear hst7 hst8 hli7 hl7 hcl7 g;go_wp2_with fail;exact bodyPost_ret (v:=C7 5 Ls.none [] (.slice none 0 0) (.slice (some ⟨w7.heap.size+1,0,none⟩) 2 2)) (by simp[results,Tryz.results40,go_sem,q0,q1,q2,q3,q4,q5,Ls.none]) rfl HE.out
theorem iQd (s:ByteArray)(hs:s.size<=1048576)(D:Nat)(hD:D<=12)(hP:∀m,Y4 s D m):∀n,cQg s D n
 | 0=>fun _ _ _ _ _ _ _ h=>absurd h (Nat.not_lt_zero _)
 | n+1=>lQt s hs D n hD hP (iQd s hs D hD hP n)
theorem rQl (s:ByteArray)(hs:s.size<=1048576)(D:Nat)(hD:D<=12)(hP:Q4 s D)(hL:T5 s (D+1)):T5 s D:=by
 intro pb i z w h hi hz;have:=iQd s hs D hD (gQo s hs D (tQv s hs D hD hP hL)) ((rest s i).length+1) pb i z w h hi hz (Nat.lt_succ_self _);rw[show 13-D=(12-D)+1 by omega]at this ⊢;exact this
theorem hQ7 (s:ByteArray)(hs:s.size<=1048576):∀m,m<=13->T5 s (13-m)
 | 0,_=>kQx s
 | m+1,hm=>by
  have h1:=hQ7 s hs m (by omega);have e:13-m=13-(m+1)+1:=by omega
  rw[e]at h1;exact rQl s hs (13-(m+1)) (by omega) (eQ9 s hs (m+1) hm) h1
def G7 (w:World)(G:Nat->Prop)(p:Ls.Pat):Ending->World->Prop:=fun e w'=>∃v,e=.returned (A7 p v)/\PV w' (E1 G w w') p v/\Below w.heap.size w w'
def D4 (l:Ls.Ln):Prop:=∀(y x:Value) (w:World) (G:Nat->Prop),Old w G->NV w G l y x->Calls Tryz.prog 45 #[J8 l y x] w (G7 w G (Ls.wQx l))
def E9 (l:Ls.Ln):Prop:=∀(y x:Value) (w:World) (G:Nat->Prop),Old w G->NV w G l y x->Calls Tryz.prog 47 #[J8 l y x] w (G7 w G (Ls.wQw l))
abbrev B5 (p:Ls.Pat)(y:Value):Obj:=.cells #[.int .i64 p.kind,.string ⟨p.signs.toArray⟩,y] 27
abbrev D8:Obj:=.cells #[.int .i64 0,.string ⟨#[]⟩,.slice none 0 0] 27
abbrev set3 (W:World)(g:Nat)(p:Ls.Pat)(y:Value):World:=((W.setCell ⟨g,0,none⟩ (.int .i64 p.kind)).setCell ⟨g,1,none⟩ (.string ⟨p.signs.toArray⟩)).setCell ⟨g,2,none⟩ y
theorem aQa (W:World)(g:Nat)(p:Ls.Pat)(y:Value)(j:Nat)(hj:j≠g):(set3 W g p y).heap[j]?=W.heap[j]?:=by
 show (((W.setCell _ _).setCell _ _).setCell _ _).heap[j]?=_;rw[Below.heap_setCell _ _ _ _ hj,Below.heap_setCell _ _ _ _ hj,Below.heap_setCell _ _ _ _ hj]
theorem M8 {w W:World}{G H:Nat->Prop}{p:Ls.Pat}{v:Value}{g:Nat}(hg:w.heap.size<=g)(hv:PV W H p v)(hb:Below w.heap.size w W)(hH:∀k,H k->k≠g/\(G k\/(w.heap.size<=k/\k<W.heap.size))):G7 w G p (.returned (A7 p v)) (set3 W g p v):=by
 refine⟨v,rfl,PV.mono (fun k hk=>?_) (fun k hk=>aQa _ _ _ _ _ (hH k hk).1) _ _ hv,((hb.setCell hg _).setCell hg _).setCell hg _⟩;rcases (hH k hk).2 with h|h
 ·exact .inl h
 ·exact .inr ⟨h.1,by simp[World.setCell];exact h.2⟩
theorem P6 (w:World)(k:Nat)(p:Ls.Pat)(ws:List UInt8)(y x:Value):LiesL ((w.alloc (A8 k p ws y x)).alloc D8) w.heap.size [.int .i64 k,.int .i64 p.kind,.string ⟨p.signs.toArray⟩,y,.string ⟨ws.toArray⟩,x]/\Lies ((w.alloc (A8 k p ws y x)).alloc D8) (w.heap.size+1) [.int .i64 0,.string ⟨#[]⟩,.slice none 0 0]:=by
 refine⟨(I0 w k p ws y x).of_block (Below.heap_alloc _ _ _ (by simp)),?_⟩;have:=C1 (w.alloc (A8 k p ws y x)) [.int .i64 0,.string ⟨#[]⟩,.slice none 0 0];rw[World.size_alloc]at this;exact this
theorem vQ8 (p:Ls.D)(ws:List UInt8):D4 ⟨0,p,ws,[]⟩:=by
 intro y x w G hG h;rw[NV]at h;obtain⟨hv,rfl⟩:=h;obtain⟨y1,y2,y3,rfl⟩:=PV.slice _ _ hv;have hsp:Ls.wQx ⟨0,p,ws,[]⟩=Ls.wQu p:=by simp[Ls.wQx]
 have hb:=C0 w (A8 0 (Ls.wQu p) ws (.slice y1 y2 y3) (.slice none 0 0)) (B5 (Ls.wQu p) (.slice y1 y2 y3));have HP:Hid (G7 w G (Ls.wQu p) (.returned (A7 (Ls.wQu p) (.slice y1 y2 y3))) ((w.alloc (A8 0 (Ls.wQu p) ws (.slice y1 y2 y3) (.slice none 0 0))).alloc (B5 (Ls.wQu p) (.slice y1 y2 y3)))):=⟨_,rfl,hv.below hb (fun k hk=>hG k hk) (fun _ h=>.inl h),hb⟩;rw[hsp];clear hv hsp;go_enter Tryz.func45,Tryz.ntmps45;go_wp2_with fail;exact bodyPost_ret (v:=A7 (Ls.wQu p) (.slice y1 y2 y3)) (by simp[results,Tryz.results45,go_sem]) rfl HP.out
theorem vQl (p:Ls.D)(ws:List UInt8):D4 ⟨1,p,ws,[]⟩:=by
 intro y x w G hG h;rw[NV]at h;obtain⟨hv,rfl⟩:=h;obtain⟨y1,y2,y3,rfl⟩:=PV.slice _ _ hv;have hsp:Ls.wQx ⟨1,p,ws,[]⟩=Ls.wQu p:=by simp[Ls.wQx]
 have hb:=C0 w (A8 1 (Ls.wQu p) ws (.slice y1 y2 y3) (.slice none 0 0)) (B5 (Ls.wQu p) (.slice y1 y2 y3));have HP:Hid (G7 w G (Ls.wQu p) (.returned (A7 (Ls.wQu p) (.slice y1 y2 y3))) ((w.alloc (A8 1 (Ls.wQu p) ws (.slice y1 y2 y3) (.slice none 0 0))).alloc (B5 (Ls.wQu p) (.slice y1 y2 y3)))):=⟨_,rfl,hv.below hb (fun k hk=>hG k hk) (fun _ h=>.inl h),hb⟩;rw[hsp];clear hv hsp;go_enter Tryz.func45,Tryz.ntmps45;go_wp2_with fail;exact bodyPost_ret (v:=A7 (Ls.wQu p) (.slice y1 y2 y3)) (by simp[results,Tryz.results45,go_sem]) rfl HP.out
theorem jQy (p:Ls.D)(ws:List UInt8):D4 ⟨2,p,ws,[]⟩:=by
 intro y x w G hG h;rw[NV]at h;obtain⟨hv,rfl⟩:=h;obtain⟨y1,y2,y3,rfl⟩:=PV.slice _ _ hv;have hsp:Ls.wQx ⟨2,p,ws,[]⟩=Ls.none:=by simp[Ls.wQx]
 have hb:=C0 w (A8 2 (Ls.wQu p) ws (.slice y1 y2 y3) (.slice none 0 0)) (B5 (Ls.none) (.slice none 0 0));have HP:Hid (G7 w G (Ls.none) (.returned (A7 (Ls.none) (.slice none 0 0))) ((w.alloc (A8 2 (Ls.wQu p) ws (.slice y1 y2 y3) (.slice none 0 0))).alloc (B5 (Ls.none) (.slice none 0 0)))):=⟨_,rfl,L3 _ _ _ _,hb⟩;rw[hsp];clear hv hsp;go_enter Tryz.func45,Tryz.ntmps45;go_wp2_with fail;exact bodyPost_ret (v:=A7 (Ls.none) (.slice none 0 0)) (by simp[results,Tryz.results45,go_sem,Ls.none]) rfl HP.out
theorem vQ5 (p:Ls.D)(ws:List UInt8):E9 ⟨0,p,ws,[]⟩:=by
 intro y x w G hG h;rw[NV]at h;obtain⟨hv,rfl⟩:=h;obtain⟨y1,y2,y3,rfl⟩:=PV.slice _ _ hv;have hsp:Ls.wQw ⟨0,p,ws,[]⟩=Ls.wQu p:=by simp[Ls.wQw]
 have hb:=C0 w (A8 0 (Ls.wQu p) ws (.slice y1 y2 y3) (.slice none 0 0)) (B5 (Ls.wQu p) (.slice y1 y2 y3));have HP:Hid (G7 w G (Ls.wQu p) (.returned (A7 (Ls.wQu p) (.slice y1 y2 y3))) ((w.alloc (A8 0 (Ls.wQu p) ws (.slice y1 y2 y3) (.slice none 0 0))).alloc (B5 (Ls.wQu p) (.slice y1 y2 y3)))):=⟨_,rfl,hv.below hb (fun k hk=>hG k hk) (fun _ h=>.inl h),hb⟩;rw[hsp];clear hv hsp;go_enter Tryz.func47,Tryz.ntmps47;go_wp2_with fail;exact bodyPost_ret (v:=A7 (Ls.wQu p) (.slice y1 y2 y3)) (by simp[results,Tryz.results47,go_sem]) rfl HP.out
theorem tQ5 (p:Ls.D)(ws:List UInt8):E9 ⟨1,p,ws,[]⟩:=by
 intro y x w G hG h;rw[NV]at h;obtain⟨hv,rfl⟩:=h;obtain⟨y1,y2,y3,rfl⟩:=PV.slice _ _ hv;have hsp:Ls.wQw ⟨1,p,ws,[]⟩=Ls.none:=by simp[Ls.wQw]
 have hb:=C0 w (A8 1 (Ls.wQu p) ws (.slice y1 y2 y3) (.slice none 0 0)) (B5 (Ls.none) (.slice none 0 0));have HP:Hid (G7 w G (Ls.none) (.returned (A7 (Ls.none) (.slice none 0 0))) ((w.alloc (A8 1 (Ls.wQu p) ws (.slice y1 y2 y3) (.slice none 0 0))).alloc (B5 (Ls.none) (.slice none 0 0)))):=⟨_,rfl,L3 _ _ _ _,hb⟩;rw[hsp];clear hv hsp;go_enter Tryz.func47,Tryz.ntmps47;go_wp2_with fail;exact bodyPost_ret (v:=A7 (Ls.none) (.slice none 0 0)) (by simp[results,Tryz.results47,go_sem,Ls.none]) rfl HP.out
theorem rQa (p:Ls.D)(ws:List UInt8)(a:Ls.Ln)(ha:D4 a):D4 ⟨6,p,ws,[a]⟩:=by
 intro y x w G hG h;rw[NV]at h;obtain⟨hv,g,v1,u1,hg,rfl,hli,hna⟩:=h;obtain⟨y1,y2,y3,rfl⟩:=PV.slice _ _ hv;obtain⟨⟨b1,b2,b3,rfl⟩,d1,d2,d3,rfl⟩:=NV.slices _ _ _ hna;have hgl:=hG g hg;have hsp:Ls.wQx ⟨6,p,ws,[a]⟩=Ls.wQ9 (Ls.wQx a):=by simp[Ls.wQx]
 rw[hsp];have hb0:=C0 w (A8 6 (Ls.wQu p) ws (.slice y1 y2 y3) (.slice (some ⟨g,0,none⟩) 1 1)) D8;obtain⟨hbx,hrs⟩:=P6 w 6 (Ls.wQu p) ws (.slice y1 y2 y3) (.slice (some ⟨g,0,none⟩) 1 1);have hC:=ha _ _ _ G (fun j hj=>Nat.lt_of_lt_of_le (hG j hj) hb0.size) (hna.below hb0 (fun j hj=>hG j hj) (fun _ h=>h));obtain⟨a0,a1,a2,a3,a4,a5⟩:=hli.six;have HRS:Hid (Lies ((w.alloc (A8 6 (Ls.wQu p) ws (.slice y1 y2 y3) (.slice (some ⟨g,0,none⟩) 1 1))).alloc D8) (w.heap.size+1) [.int .i64 0,.string ⟨#[]⟩,.slice none 0 0]):=hrs;have HB0:Hid _:=hb0;obtain⟨e0,e1,e2,e3,e4,e5⟩:=hbx.six;clear hv hna hli hsp hbx hrs hb0;go_enter Tryz.func45,Tryz.ntmps45;go_wp2_with fail;refine hC.mono ?_;rintro e w3 ⟨v,rfl,hp3,hb3⟩;obtain⟨s1,s2,s3,rfl⟩:=PV.slice _ _ hp3;have hb4:=A4 w3 (B5 (Ls.wQx a) (.slice s1 s2 s3));have hz3:=hb3.size;simp at hz3;have hC2:=U8 (Ls.wQx a) (.slice s1 s2 s3) _ (E1 G ((w.alloc (A8 6 (Ls.wQu p) ws (.slice y1 y2 y3) (.slice (some ⟨g,0,none⟩) 1 1))).alloc D8) w3) (fun j hj=>by
  rcases hj with hj|hj
  ·have:=hG j hj;simp;omega
  ·have:=hj.2;simp;omega) (hp3.below hb4 (fun j hj=>by
  rcases hj with hj|hj
  ·have:=hG j hj;omega
  ·exact hj.2) (fun _ h=>h))
 have HB4:Hid (Below w.heap.size w (w3.alloc (B5 (Ls.wQx a) (.slice s1 s2 s3)))):=Below.join (Below.join HB0.out hb3) hb4;have HRS4:Hid (Lies (w3.alloc (B5 (Ls.wQx a) (.slice s1 s2 s3))) (w.heap.size+1) [.int .i64 0,.string ⟨#[]⟩,.slice none 0 0]):=(HRS.out.below hb3 (by simp)).below hb4 (by omega);clear hp3 hC e0 e1 e2 e3 e4 e5 a0 a1 a2 a3 a4 a5 hb4 hb3 HRS HB0;go_wp2_with fail;refine hC2.mono ?_;rintro e w5 ⟨u,rfl,hp5,hb5⟩;obtain⟨t1,t2,t3,rfl⟩:=PV.slice _ _ hp5;have hz5:=hb5.size;simp at hz5;have hrs5:=HRS4.out.below hb5 (by simp;omega);obtain⟨q0,q1,q2⟩:=hrs5.three (a:=Ls.none);have g0:=hrs5.fr 0;have g1:=hrs5.fr 1;have g2:=hrs5.fr 2;have hrl:=hrs5.lt;have HP:Hid (G7 w G (Ls.wQ9 (Ls.wQx a)) (.returned (A7 (Ls.wQ9 (Ls.wQx a)) (.slice t1 t2 t3))) (set3 w5 (w.heap.size+1) (Ls.wQ9 (Ls.wQx a)) (.slice t1 t2 t3))):=M8 (by omega) hp5 (Below.join HB4.out hb5) (fun j hj=>by
  rcases hj with (hj|hj)|hj
  ·have:=hG j hj;exact⟨by omega,.inl hj⟩
  ·have h1:=hj.1;have h2:=hj.2;simp at h1;exact⟨by omega,.inr ⟨by omega,by omega⟩⟩
  ·have h1:=hj.1;have h2:=hj.2;simp at h1;exact⟨by omega,.inr ⟨by omega,by omega⟩⟩)
 clear hrs5 hp5 hC2;go_wp2_with fail;exact bodyPost_ret (v:=A7 (Ls.wQ9 (Ls.wQx a)) (.slice t1 t2 t3)) (by simp[results,Tryz.results45,go_sem,q0,q1,q2]) rfl HP.out
theorem uQ1 (p:Ls.D)(ws:List UInt8)(a:Ls.Ln)(ha:D4 a):D4 ⟨7,p,ws,[a]⟩:=by
 intro y x w G hG h;rw[NV]at h;obtain⟨hv,g,v1,u1,hg,rfl,hli,hna⟩:=h;obtain⟨y1,y2,y3,rfl⟩:=PV.slice _ _ hv;obtain⟨⟨b1,b2,b3,rfl⟩,d1,d2,d3,rfl⟩:=NV.slices _ _ _ hna;have hgl:=hG g hg;have hsp:Ls.wQx ⟨7,p,ws,[a]⟩=Ls.wQ9 (Ls.wQx a):=by simp[Ls.wQx]
 rw[hsp];have hb0:=C0 w (A8 7 (Ls.wQu p) ws (.slice y1 y2 y3) (.slice (some ⟨g,0,none⟩) 1 1)) D8;obtain⟨hbx,hrs⟩:=P6 w 7 (Ls.wQu p) ws (.slice y1 y2 y3) (.slice (some ⟨g,0,none⟩) 1 1);have hC:=ha _ _ _ G (fun j hj=>Nat.lt_of_lt_of_le (hG j hj) hb0.size) (hna.below hb0 (fun j hj=>hG j hj) (fun _ h=>h));obtain⟨a0,a1,a2,a3,a4,a5⟩:=hli.six;have HRS:Hid (Lies ((w.alloc (A8 7 (Ls.wQu p) ws (.slice y1 y2 y3) (.slice (some ⟨g,0,none⟩) 1 1))).alloc D8) (w.heap.size+1) [.int .i64 0,.string ⟨#[]⟩,.slice none 0 0]):=hrs;have HB0:Hid _:=hb0;obtain⟨e0,e1,e2,e3,e4,e5⟩:=hbx.six;clear hv hna hli hsp hbx hrs hb0;go_enter Tryz.func45,Tryz.ntmps45;go_wp2_with fail;refine hC.mono ?_;rintro e w3 ⟨v,rfl,hp3,hb3⟩;obtain⟨s1,s2,s3,rfl⟩:=PV.slice _ _ hp3;have hb4:=A4 w3 (B5 (Ls.wQx a) (.slice s1 s2 s3));have hz3:=hb3.size;simp at hz3;have hC2:=U8 (Ls.wQx a) (.slice s1 s2 s3) _ (E1 G ((w.alloc (A8 7 (Ls.wQu p) ws (.slice y1 y2 y3) (.slice (some ⟨g,0,none⟩) 1 1))).alloc D8) w3) (fun j hj=>by
  rcases hj with hj|hj
  ·have:=hG j hj;simp;omega
  ·have:=hj.2;simp;omega) (hp3.below hb4 (fun j hj=>by
  rcases hj with hj|hj
  ·have:=hG j hj;omega
  ·exact hj.2) (fun _ h=>h))
 have HB4:Hid (Below w.heap.size w (w3.alloc (B5 (Ls.wQx a) (.slice s1 s2 s3)))):=Below.join (Below.join HB0.out hb3) hb4;have HRS4:Hid (Lies (w3.alloc (B5 (Ls.wQx a) (.slice s1 s2 s3))) (w.heap.size+1) [.int .i64 0,.string ⟨#[]⟩,.slice none 0 0]):=(HRS.out.below hb3 (by simp)).below hb4 (by omega);clear hp3 hC e0 e1 e2 e3 e4 e5 a0 a1 a2 a3 a4 a5 hb4 hb3 HRS HB0;go_wp2_with fail;refine hC2.mono ?_;rintro e w5 ⟨u,rfl,hp5,hb5⟩;obtain⟨t1,t2,t3,rfl⟩:=PV.slice _ _ hp5;have hz5:=hb5.size;simp at hz5;have hrs5:=HRS4.out.below hb5 (by simp;omega);obtain⟨q0,q1,q2⟩:=hrs5.three (a:=Ls.none);have g0:=hrs5.fr 0;have g1:=hrs5.fr 1;have g2:=hrs5.fr 2;have hrl:=hrs5.lt;have HP:Hid (G7 w G (Ls.wQ9 (Ls.wQx a)) (.returned (A7 (Ls.wQ9 (Ls.wQx a)) (.slice t1 t2 t3))) (set3 w5 (w.heap.size+1) (Ls.wQ9 (Ls.wQx a)) (.slice t1 t2 t3))):=M8 (by omega) hp5 (Below.join HB4.out hb5) (fun j hj=>by
  rcases hj with (hj|hj)|hj
  ·have:=hG j hj;exact⟨by omega,.inl hj⟩
  ·have h1:=hj.1;have h2:=hj.2;simp at h1;exact⟨by omega,.inr ⟨by omega,by omega⟩⟩
  ·have h1:=hj.1;have h2:=hj.2;simp at h1;exact⟨by omega,.inr ⟨by omega,by omega⟩⟩)
 clear hrs5 hp5 hC2;go_wp2_with fail;exact bodyPost_ret (v:=A7 (Ls.wQ9 (Ls.wQx a)) (.slice t1 t2 t3)) (by simp[results,Tryz.results45,go_sem,q0,q1,q2]) rfl HP.out
theorem tQi (p:Ls.D)(ws:List UInt8)(a:Ls.Ln)(ha:E9 a):E9 ⟨6,p,ws,[a]⟩:=by
 intro y x w G hG h;rw[NV]at h;obtain⟨hv,g,v1,u1,hg,rfl,hli,hna⟩:=h;obtain⟨y1,y2,y3,rfl⟩:=PV.slice _ _ hv;obtain⟨⟨b1,b2,b3,rfl⟩,d1,d2,d3,rfl⟩:=NV.slices _ _ _ hna;have hgl:=hG g hg;have hsp:Ls.wQw ⟨6,p,ws,[a]⟩=Ls.wQ9 (Ls.wQw a):=by simp[Ls.wQw]
 rw[hsp];have hb0:=C0 w (A8 6 (Ls.wQu p) ws (.slice y1 y2 y3) (.slice (some ⟨g,0,none⟩) 1 1)) D8;obtain⟨hbx,hrs⟩:=P6 w 6 (Ls.wQu p) ws (.slice y1 y2 y3) (.slice (some ⟨g,0,none⟩) 1 1);have hC:=ha _ _ _ G (fun j hj=>Nat.lt_of_lt_of_le (hG j hj) hb0.size) (hna.below hb0 (fun j hj=>hG j hj) (fun _ h=>h));obtain⟨a0,a1,a2,a3,a4,a5⟩:=hli.six;have HRS:Hid (Lies ((w.alloc (A8 6 (Ls.wQu p) ws (.slice y1 y2 y3) (.slice (some ⟨g,0,none⟩) 1 1))).alloc D8) (w.heap.size+1) [.int .i64 0,.string ⟨#[]⟩,.slice none 0 0]):=hrs;have HB0:Hid _:=hb0;obtain⟨e0,e1,e2,e3,e4,e5⟩:=hbx.six;clear hv hna hli hsp hbx hrs hb0;go_enter Tryz.func47,Tryz.ntmps47;go_wp2_with fail;refine hC.mono ?_;rintro e w3 ⟨v,rfl,hp3,hb3⟩;obtain⟨s1,s2,s3,rfl⟩:=PV.slice _ _ hp3;have hb4:=A4 w3 (B5 (Ls.wQw a) (.slice s1 s2 s3));have hz3:=hb3.size;simp at hz3;have hC2:=U8 (Ls.wQw a) (.slice s1 s2 s3) _ (E1 G ((w.alloc (A8 6 (Ls.wQu p) ws (.slice y1 y2 y3) (.slice (some ⟨g,0,none⟩) 1 1))).alloc D8) w3) (fun j hj=>by
  rcases hj with hj|hj
  ·have:=hG j hj;simp;omega
  ·have:=hj.2;simp;omega) (hp3.below hb4 (fun j hj=>by
  rcases hj with hj|hj
  ·have:=hG j hj;omega
  ·exact hj.2) (fun _ h=>h))
 have HB4:Hid (Below w.heap.size w (w3.alloc (B5 (Ls.wQw a) (.slice s1 s2 s3)))):=Below.join (Below.join HB0.out hb3) hb4;have HRS4:Hid (Lies (w3.alloc (B5 (Ls.wQw a) (.slice s1 s2 s3))) (w.heap.size+1) [.int .i64 0,.string ⟨#[]⟩,.slice none 0 0]):=(HRS.out.below hb3 (by simp)).below hb4 (by omega);clear hp3 hC e0 e1 e2 e3 e4 e5 a0 a1 a2 a3 a4 a5 hb4 hb3 HRS HB0;go_wp2_with fail;refine hC2.mono ?_;rintro e w5 ⟨u,rfl,hp5,hb5⟩;obtain⟨t1,t2,t3,rfl⟩:=PV.slice _ _ hp5;have hz5:=hb5.size;simp at hz5;have hrs5:=HRS4.out.below hb5 (by simp;omega);obtain⟨q0,q1,q2⟩:=hrs5.three (a:=Ls.none);have g0:=hrs5.fr 0;have g1:=hrs5.fr 1;have g2:=hrs5.fr 2;have hrl:=hrs5.lt;have HP:Hid (G7 w G (Ls.wQ9 (Ls.wQw a)) (.returned (A7 (Ls.wQ9 (Ls.wQw a)) (.slice t1 t2 t3))) (set3 w5 (w.heap.size+1) (Ls.wQ9 (Ls.wQw a)) (.slice t1 t2 t3))):=M8 (by omega) hp5 (Below.join HB4.out hb5) (fun j hj=>by
  rcases hj with (hj|hj)|hj
  ·have:=hG j hj;exact⟨by omega,.inl hj⟩
  ·have h1:=hj.1;have h2:=hj.2;simp at h1;exact⟨by omega,.inr ⟨by omega,by omega⟩⟩
  ·have h1:=hj.1;have h2:=hj.2;simp at h1;exact⟨by omega,.inr ⟨by omega,by omega⟩⟩)
 clear hrs5 hp5 hC2;go_wp2_with fail;exact bodyPost_ret (v:=A7 (Ls.wQ9 (Ls.wQw a)) (.slice t1 t2 t3)) (by simp[results,Tryz.results47,go_sem,q0,q1,q2]) rfl HP.out
theorem rQo (p:Ls.D)(ws:List UInt8)(a:Ls.Ln)(ha:E9 a):E9 ⟨7,p,ws,[a]⟩:=by
 intro y x w G hG h;rw[NV]at h;obtain⟨hv,g,v1,u1,hg,rfl,hli,hna⟩:=h;obtain⟨y1,y2,y3,rfl⟩:=PV.slice _ _ hv;obtain⟨⟨b1,b2,b3,rfl⟩,d1,d2,d3,rfl⟩:=NV.slices _ _ _ hna;have hgl:=hG g hg;have hsp:Ls.wQw ⟨7,p,ws,[a]⟩=Ls.wQ9 (Ls.wQw a):=by simp[Ls.wQw]
 rw[hsp];have hb0:=C0 w (A8 7 (Ls.wQu p) ws (.slice y1 y2 y3) (.slice (some ⟨g,0,none⟩) 1 1)) D8;obtain⟨hbx,hrs⟩:=P6 w 7 (Ls.wQu p) ws (.slice y1 y2 y3) (.slice (some ⟨g,0,none⟩) 1 1);have hC:=ha _ _ _ G (fun j hj=>Nat.lt_of_lt_of_le (hG j hj) hb0.size) (hna.below hb0 (fun j hj=>hG j hj) (fun _ h=>h));obtain⟨a0,a1,a2,a3,a4,a5⟩:=hli.six;have HRS:Hid (Lies ((w.alloc (A8 7 (Ls.wQu p) ws (.slice y1 y2 y3) (.slice (some ⟨g,0,none⟩) 1 1))).alloc D8) (w.heap.size+1) [.int .i64 0,.string ⟨#[]⟩,.slice none 0 0]):=hrs;have HB0:Hid _:=hb0;obtain⟨e0,e1,e2,e3,e4,e5⟩:=hbx.six;clear hv hna hli hsp hbx hrs hb0;go_enter Tryz.func47,Tryz.ntmps47;go_wp2_with fail;refine hC.mono ?_;rintro e w3 ⟨v,rfl,hp3,hb3⟩;obtain⟨s1,s2,s3,rfl⟩:=PV.slice _ _ hp3;have hb4:=A4 w3 (B5 (Ls.wQw a) (.slice s1 s2 s3));have hz3:=hb3.size;simp at hz3;have hC2:=U8 (Ls.wQw a) (.slice s1 s2 s3) _ (E1 G ((w.alloc (A8 7 (Ls.wQu p) ws (.slice y1 y2 y3) (.slice (some ⟨g,0,none⟩) 1 1))).alloc D8) w3) (fun j hj=>by
  rcases hj with hj|hj
  ·have:=hG j hj;simp;omega
  ·have:=hj.2;simp;omega) (hp3.below hb4 (fun j hj=>by
  rcases hj with hj|hj
  ·have:=hG j hj;omega
  ·exact hj.2) (fun _ h=>h))
 have HB4:Hid (Below w.heap.size w (w3.alloc (B5 (Ls.wQw a) (.slice s1 s2 s3)))):=Below.join (Below.join HB0.out hb3) hb4;have HRS4:Hid (Lies (w3.alloc (B5 (Ls.wQw a) (.slice s1 s2 s3))) (w.heap.size+1) [.int .i64 0,.string ⟨#[]⟩,.slice none 0 0]):=(HRS.out.below hb3 (by simp)).below hb4 (by omega);clear hp3 hC e0 e1 e2 e3 e4 e5 a0 a1 a2 a3 a4 a5 hb4 hb3 HRS HB0;go_wp2_with fail;refine hC2.mono ?_;rintro e w5 ⟨u,rfl,hp5,hb5⟩;obtain⟨t1,t2,t3,rfl⟩:=PV.slice _ _ hp5;have hz5:=hb5.size;simp at hz5;have hrs5:=HRS4.out.below hb5 (by simp;omega);obtain⟨q0,q1,q2⟩:=hrs5.three (a:=Ls.none);have g0:=hrs5.fr 0;have g1:=hrs5.fr 1;have g2:=hrs5.fr 2;have hrl:=hrs5.lt;have HP:Hid (G7 w G (Ls.wQ9 (Ls.wQw a)) (.returned (A7 (Ls.wQ9 (Ls.wQw a)) (.slice t1 t2 t3))) (set3 w5 (w.heap.size+1) (Ls.wQ9 (Ls.wQw a)) (.slice t1 t2 t3))):=M8 (by omega) hp5 (Below.join HB4.out hb5) (fun j hj=>by
  rcases hj with (hj|hj)|hj
  ·have:=hG j hj;exact⟨by omega,.inl hj⟩
  ·have h1:=hj.1;have h2:=hj.2;simp at h1;exact⟨by omega,.inr ⟨by omega,by omega⟩⟩
  ·have h1:=hj.1;have h2:=hj.2;simp at h1;exact⟨by omega,.inr ⟨by omega,by omega⟩⟩)
 clear hrs5 hp5 hC2;go_wp2_with fail;exact bodyPost_ret (v:=A7 (Ls.wQ9 (Ls.wQw a)) (.slice t1 t2 t3)) (by simp[results,Tryz.results47,go_sem,q0,q1,q2]) rfl HP.out
end Go.Proofs.YtcggfnlejalppaaGreatDoor
