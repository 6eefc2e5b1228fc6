import Derived.Test.YtcggfnlejalppaaGreatDoorK23
import Derived.Test.YtcggfnlejalppaaGreatDoorK02
set_option maxRecDepth 100000
set_option maxHeartbeats 4000000
namespace Go.Proofs.YtcggfnlejalppaaGreatDoor
open Go.RowKit
abbrev D2 (l:Ls.Ln)(y z:Value):List Value:=[.int .i64 l.kind,.int .i64 (Ls.wQu l.p).kind,.string ⟨(Ls.wQu l.p).signs.toArray⟩,y,.string ⟨l.w.toArray⟩,z]
abbrev J8 (l:Ls.Ln)(y z:Value):Value:=.agg #[.int .i64 l.kind,.int .i64 (Ls.wQu l.p).kind,.string ⟨(Ls.wQu l.p).signs.toArray⟩,y,.string ⟨l.w.toArray⟩,z]
abbrev C7 (k:Nat)(p:Ls.Pat)(ws:List UInt8)(y z:Value):Value:=.agg #[.int .i64 k,.int .i64 p.kind,.string ⟨p.signs.toArray⟩,y,.string ⟨ws.toArray⟩,z]
def LiesL (w:World)(g:Nat)(x:List Value):Prop:=w.heap[g]?=some (.cells x.toArray 37 (0,0))
theorem LiesL.cell {w:World}{g:Nat}{x:List Value}(h:LiesL w g x)(j:Nat):w.cell? ⟨g,j,none⟩=x[j]?:=by
  unfold LiesL at h;simp[World.cell?,h]
theorem LiesL.lt {w:World}{g:Nat}{x:List Value}(h:LiesL w g x):g<w.heap.size:=(Array.getElem?_eq_some_iff.1 h).1
def NV (w:World)(G:Nat->Prop):Ls.Ln->Value->Value->Prop
  | ⟨_,p,_,[]⟩,y,z=>PV w G (Ls.wQu p) y/\z=.slice none 0 0
  | ⟨_,p,_,[a]⟩,y,z=>PV w G (Ls.wQu p) y/\∃g y1 z1,G g/\z=.slice (some ⟨g,0,none⟩) 1 1/\LiesL w g (D2 a y1 z1)/\NV w G a y1 z1
  | ⟨_,p,_,[a,b]⟩,y,z=>PV w G (Ls.wQu p) y/\∃g y1 z1 y2 z2,G g/\z=.slice (some ⟨g,0,none⟩) 2 2/\LiesL w g (D2 a y1 z1++D2 b y2 z2)/\NV w G a y1 z1/\NV w G b y2 z2
  | _,_,_=>False
theorem NV.mono {w w':World}{G G':Nat->Prop}(hw:∀k,G k->G' k/\w'.heap[k]?=w.heap[k]?):(l:Ls.Ln)->(y z:Value)->NV w G l y z->NV w' G' l y z
  | ⟨k,p,s,[]⟩,y,z,h=>by rw[NV]at h ⊢;exact⟨h.1.mono (fun k hk=>(hw k hk).1) (fun k hk=>(hw k hk).2),h.2⟩
  | ⟨k,p,s,[a]⟩,y,z,h=>by
    rw[NV]at h ⊢;obtain⟨h0,g,y1,z1,h1,h2,h4,h5⟩:=h;exact⟨h0.mono (fun k hk=>(hw k hk).1) (fun k hk=>(hw k hk).2),g,y1,z1,(hw g h1).1,h2,by unfold LiesL at h4 ⊢;rw[(hw g h1).2];exact h4,NV.mono hw a y1 z1 h5⟩
  | ⟨k,p,s,[a,b]⟩,y,z,h=>by
    rw[NV]at h ⊢;obtain⟨h0,g,y1,z1,y2,z2,h1,h2,h4,h5,h6⟩:=h;exact⟨h0.mono (fun k hk=>(hw k hk).1) (fun k hk=>(hw k hk).2),g,y1,z1,y2,z2,(hw g h1).1,h2,by unfold LiesL at h4 ⊢;rw[(hw g h1).2];exact h4,NV.mono hw a y1 z1 h5,NV.mono hw b y2 z2 h6⟩
  | ⟨k,p,s,_::_::_::_⟩,y,z,h=>by simp[NV]at h
theorem NV.slices {w:World}{G:Nat->Prop}:(l:Ls.Ln)->(y z:Value)->NV w G l y z->(∃a n c,y=.slice a n c)/\∃a n c,z=.slice a n c
  | ⟨k,p,s,[]⟩,y,z,h=>by rw[NV]at h;exact⟨PV.slice _ _ h.1,_,_,_,h.2⟩
  | ⟨k,p,s,[a]⟩,y,z,h=>by rw[NV]at h;obtain⟨h0,g,y1,z1,h1,h2,_⟩:=h;exact⟨PV.slice _ _ h0,_,_,_,h2⟩
  | ⟨k,p,s,[a,b]⟩,y,z,h=>by rw[NV]at h;obtain⟨h0,g,y1,z1,y2,z2,h1,h2,_⟩:=h;exact⟨PV.slice _ _ h0,_,_,_,h2⟩
  | ⟨k,p,s,_::_::_::_⟩,y,z,h=>by simp[NV]at h
theorem NV.below {w w':World}{G G':Nat->Prop}{B:Nat}(hb:Below B w w')(hB:∀k,G k->k<B)(hG:∀k,G k->G' k){l:Ls.Ln}{y z:Value}(h:NV w G l y z):NV w' G' l y z:=
  NV.mono (fun k hk=>⟨hG k hk,hb.block k (hB k hk)⟩) l y z h
def LPost (w:World)(pb:Nat)(s:ByteArray)(i z:Nat)(res:Ls.Rl):Ending->World->Prop:=fun e w'=>
  (∃l t y x,res=some (l,t)/\e=.returned (J8 l y x)/\NV w' (B6 w w') l y x/\Left w pb s (s.size-t.length) (z+Ls.wQv l) false w')\/
  (res=.none/\∃k p ws y1 y2 y3 x1 x2 x3 i' z',e=.returned (C7 k p ws (.slice y1 y2 y3) (.slice x1 x2 x3))/\i<=i'/\i'<=s.size+1/\z'<=z+(i'-i)/\Left w pb s i' z' true w')
def cQo (s:ByteArray)(D:Nat):Prop:=∀(pb i z:Nat) (w:World),PB w pb s i z false->i<=s.size->z<=1048576+i->
  Calls Tryz.prog 116 #[.pointer (some ⟨pb,0,none⟩),.int .i64 (D:Int)] w (PPost w pb s i z (Ls.wQ4 (Ls.pat (13-D)) (rest s i)))
theorem jQe {P:List UInt8->Ls.Rd}{r:List UInt8}{s:ByteArray}{z i' z':Nat}{bad:Bool}{p:Ls.Pat}(h:E3 (P r) s z i' z' bad p):E3 (Ls.wQ4 P r) s z (if A5 s i' 47=true then i'+1 else i') z' (bad||!A5 s i' 47) p:=by
  rcases h with⟨rfl,hr⟩|⟨rfl,d,hr,rfl,rfl,hi'⟩
  · exact .inl ⟨by simp,by rw[Ls.wQ4,hr]⟩
  · cases hse:A5 s i' 47 with
    | false=>exact .inl ⟨by simp,by rw[Ls.wQ4,hr];dsimp only;rw[if_neg (by rw[B8,hse];simp)]⟩
    | true=>exact .inr ⟨by simp,d,by rw[Ls.wQ4,hr];dsimp only;rw[if_pos (B8.2 hse),D7];simp,rfl,rfl,by simp;exact(C6 hse).1⟩
theorem tQw (s:ByteArray)(hs:s.size<=1048576)(D:Nat)(hP:Q4 s D):cQo s D:=by
  intro pb i z w h hi hz;have hpl:=h.lt;have hne:¬w.heap.size=pb:=by omega
  have hne':¬pb=w.heap.size:=by omega
  have HP:Hid (Q4 s D):=hP;clear hP;go_enter Tryz.func116,Tryz.ntmps116;go_wp2_with fail;refine(HP.out pb i z _ (h.below (A4 _ _)) hi hz).mono ?_;rintro e w1 hpp;obtain⟨p,y1,y2,y3,i',z',bad,rfl,hv,hi1,hi2,hz2,hl1',hcase⟩:=hpp.mid (fun d t hr=>⟨Ls.yQm _ _ _ _ hr,Ls.yQy _ _ _ _ hr⟩) (by omega);clear hpp;have HC:Hid _:=jQe hcase;have hl1:=(Left.of_below h (A4 w (.cells #[.int .i64 0,.string ⟨#[]⟩,.slice none 0 0] 27))).trans hl1';have hlie1:=(C1 w [.int .i64 0,.string ⟨#[]⟩,.slice none 0 0]).grown hl1'.grown (by simp[hne]);have hz1:=hlie1.lt;have HB:Hid (∀k,B6 (w.alloc (.cells #[.int .i64 0,.string ⟨#[]⟩,.slice none 0 0] 27)) w1 k->w.heap.size<k/\k<w1.heap.size):=fun k hk=>by have h1:=hk.1;simp at h1;exact⟨by omega,hk.2⟩
  clear hcase hl1';go_wp2_with fail;have hl2:=hl1.below (A4 w1 (.cells #[.int .i64 p.kind,.string ⟨p.signs.toArray⟩,.slice y1 y2 y3] 27));refine(J0 pb s i' z' bad 47 _ hl2.lies (by omega) (by omega)).mono ?_;rintro e w2 ⟨rfl,hl3'⟩;have hl3:=hl2.trans hl3';have hne1:w1.heap.size≠pb:=by omega
  have hne2:pb≠w1.heap.size:=by omega
  have hla:=(C1 w1 (B7 p (.slice y1 y2 y3))).grown hl3'.grown (by simp;omega);have hlr:=(hlie1.below (A4 w1 (.cells #[.int .i64 p.kind,.string ⟨p.signs.toArray⟩,.slice y1 y2 y3] 27)) hz1).grown hl3'.grown (by simp[hne]);have hv2:PV w2 (B6 (w.alloc (.cells #[.int .i64 0,.string ⟨#[]⟩,.slice none 0 0] 27)) w1) p (.slice y1 y2 y3):=
    PV.mono (fun _ h=>h) (fun k hk=>by
      have h1:=HB.out k hk;rw[hl3'.grown.block k (by simp;omega) (by simp;omega),Below.heap_alloc _ _ _ h1.2]) _ _ hv
  have hz3:=hl3'.grown.size;simp at hz3;obtain⟨m0,m1,m2⟩:=hla.three;obtain⟨q0,q1,q2⟩:=hlr.three (a:=Ls.none);have g0:=hlr.fr 0;have g1:=hlr.fr 1;have g2:=hlr.fr 2;have c3:=hl3.lies.c3;have f3:=hl3.lies.fr 3;have hbd:i<=(if A5 s i' 47=true then i'+1 else i')/\(if A5 s i' 47=true then i'+1 else i')<=s.size+1/\z'<=z+((if A5 s i' 47=true then i'+1 else i')-i):=by
    split
    · rename_i hse;have:=(C6 hse).1;omega
    · omega
  have hfin:=fun (b:Bool) (hc:E3 (Ls.wQ4 (Ls.pat (13-D)) (rest s i)) s z (if A5 s i' 47=true then i'+1 else i') z' b p)=>
    S5 (w:=w) (W:=w2.setCell ⟨pb,3,none⟩ (.bool b)) (x:=.slice y1 y2 y3) hc hpl hbd.1 hbd.2.1 hbd.2.2 (hl3.set3 b) (H:=B6 (w.alloc (.cells #[.int .i64 0,.string ⟨#[]⟩,.slice none 0 0] 27)) w1)
      (PV.mono (fun _ h=>h) (fun k hk=>Below.heap_setCell _ _ _ _ (by have:=HB.out k hk;show k≠pb;omega)) _ _ hv2) (fun k hk=>by have:=HB.out k hk;simp[World.setCell];omega)
  have HF:Hid _:=hfin _ HC.out;clear hfin hbd HC hl3' hl3 hl2 hl1 hla hlr hv2 hv hlie1;generalize A5 s i' 47=t at *;cases bad<;>cases t<;>
    (go_wp2_with fail
     exact bodyPost_ret (v:=A7 p (.slice y1 y2 y3)) (by simp[results,Tryz.results116,go_sem,q0,q1,q2]) rfl HF.out)
theorem W9 (w:World)(x:List Value):LiesL (w.alloc (.cells x.toArray 37)) w.heap.size x:=by
  unfold LiesL;exact heap_alloc_new w _
theorem LiesL.six {w:World}{g:Nat}{a b c d e f:Value}(h:LiesL w g [a,b,c,d,e,f]) :
    w.cell? ⟨g,0,none⟩=some a/\w.cell? ⟨g,1,none⟩=some b/\w.cell? ⟨g,2,none⟩=some c/\w.cell? ⟨g,3,none⟩=some d/\w.cell? ⟨g,4,none⟩=some e/\w.cell? ⟨g,5,none⟩=some f:=
  ⟨h.cell 0,h.cell 1,h.cell 2,h.cell 3,h.cell 4,h.cell 5⟩
theorem LiesL.fr {w:World}{g:Nat}{x:List Value}(h:LiesL w g x)(o:Nat):w.frozen? ⟨g,o,none⟩=false:=by
  unfold LiesL at h;simp[World.frozen?,h]
theorem LiesL.of_block {w w':World}{g:Nat}{x:List Value}(h:LiesL w g x)(hb:w'.heap[g]?=w.heap[g]?):LiesL w' g x:=by unfold LiesL at h ⊢;rw[hb];exact h
theorem Left.cellR {w W:World}{pb:Nat}{s:ByteArray}{i z:Nat}{b:Bool}(h:Left w pb s i z b W){g:Nat}(hg:w.heap.size<=g)(hp:pb<w.heap.size)(o:Nat)(v:Value):Left w pb s i z b (W.setCell ⟨g,o,none⟩ v):=by
  refine⟨?_,⟨h.grown.os,h.grown.tape,h.grown.output,by simpa [World.setCell] using h.grown.size,fun k hk hr=>?_⟩⟩
  · have h1:=h.lies
    unfold PB at h1 ⊢;rw[Below.heap_setCell _ _ _ _ (by show pb≠g;omega)];exact h1
  · rw[Below.heap_setCell _ _ _ _ (by show k≠g;omega)];exact h.grown.block k hk hr
theorem NV.cellR {w:World}{G:Nat->Prop}{l:Ls.Ln}{y z:Value}(h:NV w G l y z){g:Nat}(hg:∀k,G k->k≠g)(o:Nat)(v:Value):NV (w.setCell ⟨g,o,none⟩ v) G l y z:=
  NV.mono (fun k hk=>⟨hk,Below.heap_setCell _ _ _ _ (hg k hk)⟩) _ _ _ h
theorem NV.up {w:World}{G G':Nat->Prop}{l:Ls.Ln}{y z:Value}(h:NV w G l y z)(hg:∀k,G k->G' k):NV w G' l y z:=NV.mono (fun k hk=>⟨hg k hk,rfl⟩) _ _ _ h
def M5 (s:ByteArray)(i:Nat)(l:Ls.Ln):Ls.Ln:=if A5 s i 42=true then Ls.yQp l else l
def gQ0 (w:World)(pb:Nat)(s:ByteArray)(i z:Nat)(bad:Bool)(k:Nat)(p:Ls.Pat)(ws:List UInt8)(y x:Value):Ending->World->Prop:=fun e w'=>
  ∃k' p' ws' v1 v2 v3 u1 u2 u3,e=.returned (C7 k' p' ws' (.slice v1 v2 v3) (.slice u1 u2 u3))/\
    (∀l:Ls.Ln,l.kind=k->Ls.wQu l.p=p->l.w=ws->((M5 s i l).kind=k'/\Ls.wQu (M5 s i l).p=p'/\(M5 s i l).w=ws')/\
      ∀G,Old w G->(∀k,G k->k≠pb)->NV w G l y x->NV w' (E1 G w w') (M5 s i l) (.slice v1 v2 v3) (.slice u1 u2 u3))/\Left w pb s (if A5 s i 42=true then i+1 else i) (if A5 s i 42=true then z+1 else z) bad w'
theorem dQm (s:ByteArray)(hs:s.size<=1048576)(pb i z:Nat)(bad:Bool)(w:World)(h:PB w pb s i z bad)(hi:i<=s.size+1)(hz:z<=4000000)(k:Nat)(p:Ls.Pat)(ws:List UInt8)(y1:Option Addr)(y2 y3:Nat)(x1:Option Addr)(x2 x3:Nat) :
    Calls Tryz.prog 117 #[.pointer (some ⟨pb,0,none⟩),C7 k p ws (.slice y1 y2 y3) (.slice x1 x2 x3)] w (gQ0 w pb s i z bad k p ws (.slice y1 y2 y3) (.slice x1 x2 x3)):=by
  have hpl:=h.lt;go_enter Tryz.func117,Tryz.ntmps117;go_wp2_with fail;have hba:=C0 w (.cells #[.int .i64 k,.int .i64 p.kind,.string ⟨p.signs.toArray⟩,.slice y1 y2 y3,.string ⟨ws.toArray⟩,.slice x1 x2 x3] 37) (.cells #[.int .i64 0,.int .i64 0,.string ⟨#[]⟩,.slice none 0 0,.string ⟨#[]⟩,.slice none 0 0] 37);have hl0:=Left.of_below h hba;have hpa:LiesL ((w.alloc (.cells #[.int .i64 k,.int .i64 p.kind,.string ⟨p.signs.toArray⟩,.slice y1 y2 y3,.string ⟨ws.toArray⟩,.slice x1 x2 x3] 37)).alloc (.cells #[.int .i64 0,.int .i64 0,.string ⟨#[]⟩,.slice none 0 0,.string ⟨#[]⟩,.slice none 0 0] 37)) w.heap.size [.int .i64 k,.int .i64 p.kind,.string ⟨p.signs.toArray⟩,.slice y1 y2 y3,.string ⟨ws.toArray⟩,.slice x1 x2 x3]:=(W9 w [.int .i64 k,.int .i64 p.kind,.string ⟨p.signs.toArray⟩,.slice y1 y2 y3,.string ⟨ws.toArray⟩,.slice x1 x2 x3]).of_block (Below.heap_alloc _ _ _ (by simp));have hrv:=W9 (w.alloc (.cells #[.int .i64 k,.int .i64 p.kind,.string ⟨p.signs.toArray⟩,.slice y1 y2 y3,.string ⟨ws.toArray⟩,.slice x1 x2 x3] 37)) [.int .i64 0,.int .i64 0,.string ⟨#[]⟩,.slice none 0 0,.string ⟨#[]⟩,.slice none 0 0];rw[World.size_alloc]at hrv;refine(J0 pb s i z bad 42 _ hl0.lies (by omega) (by omega)).mono ?_;rintro e w2 ⟨rfl,hl2'⟩;have hl2:=hl0.trans hl2';have hsz:=hl2'.grown.size;simp at hsz;have hpa2:=hpa.of_block (hl2'.grown.block w.heap.size (by simp;omega) (by simp;omega));have hrv2:=hrv.of_block (hl2'.grown.block (w.heap.size+1) (by simp) (by simp;omega));obtain⟨a0,a1,a2,a3,a4,a5⟩:=hpa2.six;obtain⟨r0,r1,r2,r3,r4,r5⟩:=hrv2.six;have g0:=hrv2.fr 0;have g1:=hrv2.fr 1;have g2:=hrv2.fr 2;have g3:=hrv2.fr 3;have g4:=hrv2.fr 4;have g5:=hrv2.fr 5;have c2:=hl2.lies.c2;have f2:=hl2.lies.fr 2;have hblk:∀j,j<w.heap.size->j≠pb->w2.heap[j]?=w.heap[j]?:=fun j hk hne=>(hl2'.grown.block j (by simp;omega) (by simp;omega)).trans (hba.block j hk);have Hblk:Hid _:=hblk;clear hl2' hl0 hpa hrv hblk;cases hse:A5 s i 42 with
  | false=>
    have Hse:Hid (A5 s i 42=false):=hse;rw[hse]at hl2;clear hse;go_wp2_with fail;refine bodyPost_ret (v:=C7 k p ws (.slice y1 y2 y3) (.slice x1 x2 x3)) (by simp[results,Tryz.results117,go_sem,r0,r1,r2,r3,r4,r5]) rfl ⟨k,p,ws,y1,y2,y3,x1,x2,x3,rfl,fun l e1 e2 e3=>?_,?_⟩
    · have hal:M5 s i l=l:=by unfold M5;rw[if_neg (by rw[Hse.out];simp)]
      rw[hal];refine⟨⟨e1,e2,e3⟩,fun G hG hne hn=>?_⟩;have h2:NV w2 G l (.slice y1 y2 y3) (.slice x1 x2 x3):=NV.mono (fun k hk=>⟨hk,Hblk.out k (hG k hk) (hne k hk)⟩) _ _ _ hn;have hg:∀k,G k->k≠w.heap.size+1:=fun k hk=>by have:=hG k hk;omega
      exact((((((h2.cellR hg 0 _).cellR hg 1 _).cellR hg 2 _).cellR hg 3 _).cellR hg 4 _).cellR hg 5 _).up (fun _ h=>.inl h)
    · rw[if_neg (by rw[Hse.out];simp),if_neg (by rw[Hse.out];simp)]
      rw[if_neg (by simp)]at hl2;have hg:w.heap.size<=w.heap.size+1:=by omega
      exact(((((hl2.cellR hg hpl 0 _).cellR hg hpl 1 _).cellR hg hpl 2 _).cellR hg hpl 3 _).cellR hg hpl 4 _).cellR hg hpl 5 _
  | true=>
    have Hse:Hid (A5 s i 42=true):=hse;rw[hse]at hl2;clear hse;clear r0 r1 r2 r3 r4 r5 g0 g1 g2 g3 g4 g5;have hcast:((z+1:Nat):Int)=(z:Int)+1:=by omega
    have hl3:=hl2.set2 (z+1);rw[hcast]at hl3;clear hcast;have hrv3:=hrv2.of_block (Below.heap_setCell w2 ⟨pb,2,none⟩ (.int .i64 ((z:Int)+1)) (w.heap.size+1) (by show w.heap.size+1≠pb;omega));have hb4:=A4 (w2.setCell ⟨pb,2,none⟩ (.int .i64 ((z:Int)+1))) (.cells #[.int .i64 k,.int .i64 p.kind,.string ⟨p.signs.toArray⟩,.slice y1 y2 y3,.string ⟨ws.toArray⟩,.slice x1 x2 x3] 37);have hl4:=hl3.below hb4;have hrv4:=hrv3.of_block (hb4.block _ hrv3.lt);obtain⟨r0,r1,r2,r3,r4,r5⟩:=hrv4.six;have g0:=hrv4.fr 0;have g1:=hrv4.fr 1;have g2:=hrv4.fr 2;have g3:=hrv4.fr 3;have g4:=hrv4.fr 4;have g5:=hrv4.fr 5;have hrow:=W9 (w2.setCell ⟨pb,2,none⟩ (.int .i64 ((z:Int)+1))) [.int .i64 k,.int .i64 p.kind,.string ⟨p.signs.toArray⟩,.slice y1 y2 y3,.string ⟨ws.toArray⟩,.slice x1 x2 x3];have hsz2:(w2.setCell ⟨pb,2,none⟩ (.int .i64 ((z:Int)+1))).heap.size=w2.heap.size:=by simp[World.setCell]
    rw[hsz2]at hrow;have Hrow:Hid _:=hrow;have Hl4:Hid _:=hl4;have Hb4:Hid _:=hb4;clear hrow hl4 hb4 hl3 hrv3 hrv2 hpa2;go_wp2_with fail;refine bodyPost_ret (v:=C7 6 Ls.none [] (.slice none 0 0) (.slice (some ⟨w2.heap.size,0,none⟩) 1 1)) (by simp[results,Tryz.results117,go_sem,r0,r1,r2,r3,r4,r5,Ls.none]) rfl ⟨6,Ls.none,[],none,0,0,some ⟨w2.heap.size,0,none⟩,1,1,rfl,fun l e1 e2 e3=>?_,?_⟩
    · have hal:M5 s i l=Ls.yQp l:=by unfold M5;rw[if_pos Hse.out]
      rw[hal];refine⟨⟨rfl,Ls.wQ8,rfl⟩,fun G hG hne hn=>?_⟩;subst e1 e2 e3;have hg:∀k,(G k\/k=w2.heap.size)->k≠w.heap.size+1:=fun k hk=>by
        rcases hk with hk|hk
        · have:=hG k hk;omega
        · omega
      have h2:=NV.mono (G':=fun k=>G k\/k=w2.heap.size) (fun k hk=>⟨.inl hk,(Hb4.out.block k (by rw[hsz2];have:=hG k hk;omega)).trans ((Below.heap_setCell w2 ⟨pb,2,none⟩ (.int .i64 ((z:Int)+1)) k (by show k≠pb;exact hne k hk)).trans (Hblk.out k (hG k hk) (hne k hk)))⟩) _ _ _ hn;have h3:NV ((w2.setCell ⟨pb,2,none⟩ (.int .i64 ((z:Int)+1))).alloc (.cells #[.int .i64 l.kind,.int .i64 (Ls.wQu l.p).kind,.string ⟨(Ls.wQu l.p).signs.toArray⟩,.slice y1 y2 y3,.string ⟨l.w.toArray⟩,.slice x1 x2 x3] 37)) (fun k=>G k\/k=w2.heap.size) (Ls.yQp l) (.slice none 0 0) (.slice (some ⟨w2.heap.size,0,none⟩) 1 1):=by
        unfold Ls.yQp;rw[NV];exact⟨by rw[Ls.wQ8];exact L3 _ _ _ _,w2.heap.size,_,_,.inr rfl,rfl,Hrow.out,h2⟩
      refine((((((h3.cellR hg 0 _).cellR hg 1 _).cellR hg 2 _).cellR hg 3 _).cellR hg 4 _).cellR hg 5 _).up (fun k hk=>?_);rcases hk with hk|hk
      · exact .inl hk
      · exact .inr ⟨by omega,by simp[World.setCell];omega⟩
    · rw[if_pos Hse.out,if_pos Hse.out]
      have hl5:=Hl4.out;rw[if_pos trivial]at hl5;have hg:w.heap.size<=w.heap.size+1:=by omega
      exact(((((hl5.cellR hg hpl 0 _).cellR hg hpl 1 _).cellR hg hpl 2 _).cellR hg hpl 3 _).cellR hg hpl 4 _).cellR hg hpl 5 _
def CaseL (W:World)(G:Nat->Prop)(res:Ls.Rl)(s:ByteArray)(z i' z':Nat)(bad:Bool)(k:Nat)(p:Ls.Pat)(ws:List UInt8)(y x:Value):Prop:=
 (bad=true/\res=.none)\/(bad=false/\∃l,res=some (l,rest s i')/\l.kind=k/\Ls.wQu l.p=p/\l.w=ws/\z'=z+Ls.wQv l/\i'<=s.size/\NV W G l y x)
theorem CaseL.mono {W W':World}{G G':Nat->Prop}{res:Ls.Rl}{s:ByteArray}{z i' z':Nat}{bad:Bool}{k:Nat}{p:Ls.Pat}{ws:List UInt8}{y x:Value}(h:CaseL W G res s z i' z' bad k p ws y x)(hw:∀k,G k->G' k/\W'.heap[k]?=W.heap[k]?):CaseL W' G' res s z i' z' bad k p ws y x:=by
 rcases h with h|⟨h1,l,h2,h3,h4,h5,h6,h7,h8⟩
 ·exact .inl h
 ·exact .inr ⟨h1,l,h2,h3,h4,h5,h6,h7,NV.mono hw _ _ _ h8⟩
theorem LPost.mid {w w':World}{pb:Nat}{s:ByteArray}{i z:Nat}{res:Ls.Rl}{e:Ending}(h:LPost w pb s i z res e w')(hsz:∀l t,res=some (l,t)->t <:+ rest s i/\Ls.wQv l+t.length<=(rest s i).length)(hi:i<=s.size) :
  ∃k p ws y1 y2 y3 x1 x2 x3 i' z' bad,e=.returned (C7 k p ws (.slice y1 y2 y3) (.slice x1 x2 x3))/\i<=i'/\i'<=s.size+1/\z'<=z+(i'-i)/\Left w pb s i' z' bad w'/\CaseL w' (B6 w w') res s z i' z' bad k p ws (.slice y1 y2 y3) (.slice x1 x2 x3):=by
 rcases h with⟨l,t,y,x,hr,he,hv,hl⟩|⟨hr,k,p,ws,y1,y2,y3,x1,x2,x3,i',z',he,h1,h2,h3,hl⟩
 ·obtain⟨h1,h2⟩:=hsz l t hr
  have htl:=Z8 h1;have hln:=h1.length_le;rw[D9]at hln h2;obtain⟨⟨y1,y2,y3,rfl⟩,x1,x2,x3,rfl⟩:=NV.slices _ _ _ hv;exact⟨l.kind,Ls.wQu l.p,l.w,y1,y2,y3,x1,x2,x3,s.size-t.length,z+Ls.wQv l,false,he,by omega,by omega,by omega,hl,.inr ⟨rfl,l,by rw[hr,<-htl],rfl,rfl,rfl,rfl,by omega,hv⟩⟩
 ·exact⟨k,p,ws,y1,y2,y3,x1,x2,x3,i',z',true,he,h1,h2,h3,hl,.inl ⟨rfl,hr⟩⟩
abbrev Y9:List Value:=[.int .i64 0,.int .i64 0,.string ⟨#[]⟩,.slice none 0 0,.string ⟨#[]⟩,.slice none 0 0]
structure St (w:World)(pb:Nat)(s:ByteArray)(i z:Nat)(bad:Bool)(W:World):Prop where
 left:Left w pb s i z bad W
 res:LiesL W w.heap.size Y9
 pl:pb<w.heap.size
theorem St.start {w:World}{pb:Nat}{s:ByteArray}{i z:Nat}{bad:Bool}(h:PB w pb s i z bad):St w pb s i z bad (w.alloc (.cells #[.int .i64 0,.int .i64 0,.string ⟨#[]⟩,.slice none 0 0,.string ⟨#[]⟩,.slice none 0 0] 37)):=
 ⟨Left.of_below h (A4 _ _),W9 w Y9,h.lt⟩
theorem St.next {w:World}{pb:Nat}{s:ByteArray}{i z i' z':Nat}{bad bad':Bool}{W W':World}(h:St w pb s i z bad W)(hl:Left W pb s i' z' bad' W'):St w pb s i' z' bad' W':=by
 have h1:=h.pl;exact⟨h.left.trans hl,h.res.of_block (hl.grown.block _ h.res.lt (by simp;omega)),h.pl⟩
theorem St.below {w:World}{pb:Nat}{s:ByteArray}{i z:Nat}{bad:Bool}{W W':World}(h:St w pb s i z bad W)(hb:Below W.heap.size W W'):St w pb s i z bad W':=h.next (Left.of_below h.left.lies hb)
theorem St.set1 {w:World}{pb:Nat}{s:ByteArray}{i z:Nat}{bad:Bool}{W:World}(h:St w pb s i z bad W)(a:Nat):St w pb s a z bad (W.setCell ⟨pb,1,none⟩ (.int .i64 a)):=h.next ((Left.of_below h.left.lies (Below.refl _ _)).set1 a)
theorem St.set2 {w:World}{pb:Nat}{s:ByteArray}{i z:Nat}{bad:Bool}{W:World}(h:St w pb s i z bad W)(a:Nat):St w pb s i a bad (W.setCell ⟨pb,2,none⟩ (.int .i64 a)):=h.next ((Left.of_below h.left.lies (Below.refl _ _)).set2 a)
theorem St.set3 {w:World}{pb:Nat}{s:ByteArray}{i z:Nat}{bad:Bool}{W:World}(h:St w pb s i z bad W)(b:Bool):St w pb s i z b (W.setCell ⟨pb,3,none⟩ (.bool b)):=h.next ((Left.of_below h.left.lies (Below.refl _ _)).set3 b)
structure Cells (w W:World)(pb:Nat)(s:ByteArray)(i z:Nat)(bad:Bool):Prop where
 c1:W.cell? ⟨pb,1,none⟩=some (.int .i64 i)
 c2:W.cell? ⟨pb,2,none⟩=some (.int .i64 z)
 c3:W.cell? ⟨pb,3,none⟩=some (.bool bad)
 f1:W.frozen? ⟨pb,1,none⟩=false
 f2:W.frozen? ⟨pb,2,none⟩=false
 f3:W.frozen? ⟨pb,3,none⟩=false
 q0:W.cell? ⟨w.heap.size,0,none⟩=some (.int .i64 0)
 q1:W.cell? ⟨w.heap.size,1,none⟩=some (.int .i64 0)
 q2:W.cell? ⟨w.heap.size,2,none⟩=some (.string ⟨#[]⟩)
 q3:W.cell? ⟨w.heap.size,3,none⟩=some (.slice none 0 0)
 q4:W.cell? ⟨w.heap.size,4,none⟩=some (.string ⟨#[]⟩)
 q5:W.cell? ⟨w.heap.size,5,none⟩=some (.slice none 0 0)
 g:∀o,W.frozen? ⟨w.heap.size,o,none⟩=false
 lt:w.heap.size<W.heap.size
theorem St.cells {w:World}{pb:Nat}{s:ByteArray}{i z:Nat}{bad:Bool}{W:World}(h:St w pb s i z bad W):Cells w W pb s i z bad:=by
 obtain⟨q0,q1,q2,q3,q4,q5⟩:=h.res.six;exact⟨h.left.lies.c1,h.left.lies.c2,h.left.lies.c3,h.left.lies.fr 1,h.left.lies.fr 2,h.left.lies.fr 3,q0,q1,q2,q3,q4,q5,h.res.fr,h.res.lt⟩
abbrev set6 (W:World)(g:Nat)(k:Nat)(p:Ls.Pat)(ws:List UInt8)(y x:Value):World:=
 (((((W.setCell ⟨g,0,none⟩ (.int .i64 k)).setCell ⟨g,1,none⟩ (.int .i64 p.kind)).setCell ⟨g,2,none⟩ (.string ⟨p.signs.toArray⟩)).setCell ⟨g,3,none⟩ y).setCell ⟨g,4,none⟩ (.string ⟨ws.toArray⟩)).setCell ⟨g,5,none⟩ x
theorem K0 {w W:World}{pb:Nat}{s:ByteArray}{i z i' z':Nat}{bad:Bool}{res:Ls.Rl}{k:Nat}{p:Ls.Pat}{ws:List UInt8}{y1:Option Addr}{y2 y3:Nat}{x1:Option Addr}{x2 x3:Nat}{H:Nat->Prop}(hc:CaseL W H res s z i' z' bad k p ws (.slice y1 y2 y3) (.slice x1 x2 x3))(h1:i<=i')(h2:i'<=s.size+1)(h3:z'<=z+(i'-i))
  (hl:St w pb s i' z' bad W) (hH:∀k,H k->w.heap.size<k/\k<W.heap.size) :
  LPost w pb s i z res (.returned (C7 k p ws (.slice y1 y2 y3) (.slice x1 x2 x3))) (set6 W w.heap.size k p ws (.slice y1 y2 y3) (.slice x1 x2 x3)):=by
 have hpl:=hl.pl;have hg:w.heap.size<=w.heap.size:=Nat.le_refl _;have hl':=(((((hl.left.cellR hg hpl 0 (.int .i64 k)).cellR hg hpl 1 (.int .i64 p.kind)).cellR hg hpl 2 (.string ⟨p.signs.toArray⟩)).cellR hg hpl 3 (.slice y1 y2 y3)).cellR hg hpl 4 (.string ⟨ws.toArray⟩)).cellR hg hpl 5 (.slice x1 x2 x3);rcases hc with⟨rfl,hr⟩|⟨rfl,l,hr,rfl,rfl,rfl,rfl,hi',hv⟩
 ·exact .inr ⟨hr,k,p,ws,y1,y2,y3,x1,x2,x3,i',z',rfl,h1,h2,h3,hl'⟩
 ·have hne:∀k,H k->k≠w.heap.size:=fun k hk=>by have:=hH k hk;omega
  have hv':=(((((hv.cellR hne 0 (.int .i64 l.kind)).cellR hne 1 (.int .i64 (Ls.wQu l.p).kind)).cellR hne 2 (.string ⟨(Ls.wQu l.p).signs.toArray⟩)).cellR hne 3 (.slice y1 y2 y3)).cellR hne 4 (.string ⟨l.w.toArray⟩)).cellR hne 5 (.slice x1 x2 x3);refine .inl ⟨l,rest s i',_,_,hr,rfl,hv'.up (fun k hk=>⟨Nat.le_of_lt (hH k hk).1,by simp[World.setCell];exact(hH k hk).2⟩),?_⟩;rw[D9,show s.size-(s.size-i')=i' by omega];exact hl'
theorem S3 {w W:World}{pb:Nat}{s:ByteArray}{i z i' z':Nat}{res:Ls.Rl}(hr:res=.none)(h1:i<=i')(h2:i'<=s.size+1)(h3:z'<=z+(i'-i))(hl:St w pb s i' z' true W) :
  LPost w pb s i z res (.returned (C7 0 Ls.none [] (.slice none 0 0) (.slice none 0 0))) (set6 W w.heap.size 0 Ls.none [] (.slice none 0 0) (.slice none 0 0)):=
 K0 (H:=fun _=>False) (.inl ⟨rfl,hr⟩) h1 h2 h3 hl (fun _ h=>h.elim)
def N3 (res:Ls.Rl):Ls.Rl:=match res with
 | .none=>.none
 | some (l,t)=>some (Ls.xQp l t)
theorem rQ9 (s:ByteArray)(i:Nat)(l:Ls.Ln):Ls.xQp l (rest s i)=(M5 s i l,rest s (if A5 s i 42=true then i+1 else i)):=by
 unfold Ls.xQp M5;cases hse:A5 s i 42 with
 | false=>rw[if_neg (by rw[B8,hse];simp)];simp
 | true=>rw[if_pos (B8.2 hse),D7];simp
theorem sQ2 (s:ByteArray)(i:Nat)(l:Ls.Ln):Ls.wQv (M5 s i l)=if A5 s i 42=true then Ls.wQv l+1 else Ls.wQv l:=by
 unfold M5;split
 ·exact Ls.yQu l
 ·rfl
theorem dQ0 {W w':World}{G:Nat->Prop}{pb:Nat}{res:Ls.Rl}{s:ByteArray}{z i' z':Nat}{bad:Bool}{k:Nat}{p:Ls.Pat}{ws:List UInt8}{y x:Value}{e:Ending}(h:CaseL W G res s z i' z' bad k p ws y x)(ha:gQ0 W pb s i' z' bad k p ws y x e w')(hG:Old W G)(hp:∀k,G k->k≠pb) :
  ∃k' p' ws' v1 v2 v3 u1 u2 u3,e=.returned (C7 k' p' ws' (.slice v1 v2 v3) (.slice u1 u2 u3))/\CaseL w' (E1 G W w') (N3 res) s z (if A5 s i' 42=true then i'+1 else i') (if A5 s i' 42=true then z'+1 else z') bad k' p' ws' (.slice v1 v2 v3) (.slice u1 u2 u3)/\
   Left W pb s (if A5 s i' 42=true then i'+1 else i') (if A5 s i' 42=true then z'+1 else z') bad w':=by
 obtain⟨k',p',ws',v1,v2,v3,u1,u2,u3,he,hall,hl⟩:=ha;refine⟨k',p',ws',v1,v2,v3,u1,u2,u3,he,?_,hl⟩;rcases h with⟨h1,h2⟩|⟨h1,l,h2,h3,h4,h5,h6,h7,h8⟩
 ·exact .inl ⟨h1,by rw[h2];rfl⟩
 ·obtain⟨⟨e1,e2,e3⟩,hn⟩:=hall l h3 h4 h5
  refine .inr ⟨h1,M5 s i' l,?_,e1,e2,e3,?_,?_,hn G hG hp h8⟩
  ·rw[h2]
   show some (Ls.xQp l (rest s i'))=_;rw[rQ9]
  ·rw[sQ2]
   split<;>omega
  ·split
   ·rename_i hse
    have:=(C6 hse).1;omega
   ·exact h7
def T5 (s:ByteArray)(D:Nat):Prop:=∀(pb i z:Nat) (w:World),PB w pb s i z false->i<=s.size->z<=1048576+i->
 Calls Tryz.prog 40 #[.pointer (some ⟨pb,0,none⟩),.int .i64 (D:Int)] w (LPost w pb s i z (Ls.wQy (13-D) (rest s i)))
end Go.Proofs.YtcggfnlejalppaaGreatDoor
