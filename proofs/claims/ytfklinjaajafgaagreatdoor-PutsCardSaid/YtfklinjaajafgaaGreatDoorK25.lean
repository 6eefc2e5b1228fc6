import Derived.Test.YtfklinjaajafgaaGreatDoorK20
set_option maxRecDepth 100000
set_option maxHeartbeats 4000000
namespace Go.Proofs.YtfklinjaajafgaaGreatDoor
open Ls
open Go.RowKit
variable {G G':Nat->Prop}{W W' w w':World}{bad:Bool}{e:Ending}{g i i' pb z z':Nat}{l:Ln}{p:Pat}{res:Rl}{s:By}{ws:Lu}{x:List Value}{y:Value}
abbrev E4 (l:Ln)(y z:Value):List Value:=[.int .i64 l.kind,.int .i64 (eX5 l.p).kind,.string ⟨(eX5 l.p).signs.toArray⟩,y,.string ⟨l.w.toArray⟩,z]
abbrev F0 (l:Ln)(y z:Value):Value:=.agg #[.int .i64 l.kind,.int .i64 (eX5 l.p).kind,.string ⟨(eX5 l.p).signs.toArray⟩,y,.string ⟨l.w.toArray⟩,z]
abbrev E0 (k:Nat)(p:Pat)(ws:Lu)(y z:Value):Value:=.agg #[.int .i64 k,.int .i64 p.kind,.string ⟨p.signs.toArray⟩,y,.string ⟨ws.toArray⟩,z]
def LiesL (w:World)(g:Nat)(x:List Value):Prop:=w.heap[g]?=some (.cells x.toArray 37 (0,0))
theorem LiesL.cell (h:LiesL w g x)(j:Nat):w.cell? ⟨g,j,none⟩=x[j]?:=by
  unfold LiesL at h;simp[World.cell?,h]
theorem LiesL.lt (h:LiesL w g x):g<w.heap.size:=(Array.getElem?_eq_some_iff.1 h).1
def NV (w:World)(G:Nat->Prop):Ln->Value->Value->Prop
  | ⟨_,p,_,[]⟩,y,z=>PV w G (eX5 p) y/\z=.slice none 0 0
  | ⟨_,p,_,[a]⟩,y,z=>PV w G (eX5 p) y/\∃g y1 z1,G g/\z=.slice (some ⟨g,0,none⟩) 1 1/\LiesL w g (E4 a y1 z1)/\NV w G a y1 z1
  | ⟨_,p,_,[a,b]⟩,y,z=>PV w G (eX5 p) y/\∃g y1 z1 y2 z2,G g/\z=.slice (some ⟨g,0,none⟩) 2 2/\LiesL w g (E4 a y1 z1++E4 b y2 z2)/\NV w G a y1 z1/\NV w G b y2 z2
  | _,_,_=>False
theorem NV.mono {w w':World}{G G':Nat->Prop}(c:∀k,G k->G' k/\w'.heap[k]?=w.heap[k]?):(l:Ln)->(y z:Value)->NV w G l y z->NV w' G' l y z
  | ⟨k,p,s,[]⟩,y,z,h=>by rw[NV]at h ⊢;exact⟨h.1.mono (fun k d=>(c k d).1) (fun k d=>(c k d).2),h.2⟩
  | ⟨k,p,s,[a]⟩,y,z,h=>by
    rw[NV]at h ⊢;obtain⟨m,g,i,j,e,n,f,o⟩:=h;exact⟨m.mono (fun k d=>(c k d).1) (fun k d=>(c k d).2),g,i,j,(c g e).1,n,by unfold LiesL at f ⊢;rw[(c g e).2];exact f,NV.mono c a i j o⟩
  | ⟨k,p,s,[a,b]⟩,y,z,h=>by
    rw[NV]at h ⊢;obtain⟨m,g,i,j,q,r,e,n,f,o,t⟩:=h;exact⟨m.mono (fun k d=>(c k d).1) (fun k d=>(c k d).2),g,i,j,q,r,(c g e).1,n,by unfold LiesL at f ⊢;rw[(c g e).2];exact f,NV.mono c a i j o,NV.mono c b q r t⟩
  | ⟨k,p,s,_::_::_::_⟩,y,z,h=>by simp[NV]at h
theorem NV.slices {w:World}{G:Nat->Prop}:(l:Ln)->(y z:Value)->NV w G l y z->(∃a n c,y=.slice a n c)/\∃a n c,z=.slice a n c
  | ⟨k,p,s,[]⟩,y,z,h=>by rw[NV]at h;exact⟨PV.slice _ _ h.1,_,_,_,h.2⟩
  | ⟨k,p,s,[a]⟩,y,z,h=>by rw[NV]at h;obtain⟨d,g,i,j,f,e,_⟩:=h;exact⟨PV.slice _ _ d,_,_,_,e⟩
  | ⟨k,p,s,[a,b]⟩,y,z,h=>by rw[NV]at h;obtain⟨d,g,i,j,m,o,f,e,_⟩:=h;exact⟨PV.slice _ _ d,_,_,_,e⟩
  | ⟨k,p,s,_::_::_::_⟩,y,z,h=>by simp[NV]at h
theorem NV.below {B:Nat}(d:Below B w w')(b:∀k,G k->k<B)(c:∀k,G k->G' k){z:Value}(h:NV w G l y z):NV w' G' l y z:=
  NV.mono (fun k a=>⟨c k a,d.block k (b k a)⟩) l y z h
def LPost (w:World)(pb:Nat)(s:By)(i z:Nat)(res:Rl):Ending->World->Prop:=fun e w'=>
  (∃l t y x,res=some (l,t)/\e=.returned (F0 l y x)/\NV w' (B8 w w') l y x/\Left w pb s (s.size-t.length) (z+eX7 l) false w')\/
  (res=.none/\∃k p ws y1 y2 y3 x1 x2 x3 i' z',e=.returned (E0 k p ws (.slice y1 y2 y3) (.slice x1 x2 x3))/\i<=i'/\i'<=s.size+1/\z'<=z+(i'-i)/\Left w pb s i' z' true w')
def gQc (s:By)(D:Nat):Prop:=∀(pb i z:Nat) (w:World),PB w pb s i z false->i<=s.size->z<=1048576+i->
  Ca 123 #[.pointer (some ⟨pb,0,none⟩),.int .i64 (D:Int)] w (PPost w pb s i z (fXj (pat (13-D)) (rest s i)))
theorem sQh {P:Lu->Rd}{r:Lu}(h:F8 (P r) s z i' z' bad p):F8 (fXj P r) s z (if A7 s i' 47=true then i'+1 else i') z' (bad||!A7 s i' 47) p:=by
  rcases h with⟨rfl,a⟩|⟨rfl,d,a,rfl,rfl,c⟩
  · exact .inl ⟨by simp,by rw[fXj,a]⟩
  · cases b:A7 s i' 47 with
    | false=>exact .inl ⟨by simp,by rw[fXj,a];dsimp only;rw[if_neg (by rw[C4,b];simp)]⟩
    | true=>exact .inr ⟨by simp,d,by rw[fXj,a];dsimp only;rw[if_pos (C4.2 b),E7];simp,rfl,rfl,by simp;exact(D9 b).1⟩
theorem cXq (s:By)(hs:s.size<=1048576)(D:Nat)(I:Y1 s D):gQc s D:=by
  intro g i z w h X hz;have Y:=h.lt;have N:¬w.heap.size=g:=by omega
  have a5:¬g=w.heap.size:=by omega
  have U:Hid _:=I;go_enter Tryz.func123,Tryz.ntmps123;go_wp2_with fail;refine(U.out g i z _ (h.below (A5 _ _)) X hz).mono ?_;rintro e d O;obtain⟨p,l,m,n,c,E,G,rfl,Q,a3,a4,a8,A,J⟩:=O.mid (fun a2 t P=>⟨hXa _ _ _ _ P,hXk _ _ _ _ P⟩) (by omega);have F:Hid _:=sQh J;have L:=(Left.of_below h (A5 w Zp)).trans A;have C:=(C7 w [Iv 0,Ez,Zl]).grown A.grown (by simp[N]);have a0:=C.lt;have u:Hid (∀k,B8 (w.alloc Zp) d k->w.heap.size<k/\k<d.heap.size):=fun k f=>by have y:=f.1;simp at y;exact⟨by omega,f.2⟩
  go_wp2_with fail;have B:=L.below (A5 d (.cells #[Iv p.kind,Sv p.signs,.slice l m n] 27));refine(O5 c 47 g s E G _ B.lies (by omega) (by omega)).mono ?_;rintro e S ⟨rfl,j⟩;have r:=B.trans j;have a6:d.heap.size≠g:=by omega
  have a7:g≠d.heap.size:=by omega
  have M:=(C7 d (C2 p (.slice l m n))).grown j.grown (by simp;omega);have o:=(C.below (A5 d (.cells #[Iv p.kind,Sv p.signs,.slice l m n] 27)) a0).grown j.grown (by simp[N]);have R:=
    PV.mono (fun _ h=>h) (fun k f=>by
      have y:=u.out k f;rw[j.grown.block k (by simp;omega) (by simp;omega),Below.heap_alloc _ _ _ y.2]) _ _ Q
  have a1:=j.grown.size;simp at a1;have⟨m0,m1,m2⟩:=M.three;have⟨q0,q1,q2⟩:=o.three (a:=nN);have g0:=o.fr 0;have g1:=o.fr 1;have g2:=o.fr 2;have c3:=r.lies.c3;have f3:=r.lies.fr 3;have q:i<=(if A7 s c 47=true then c+1 else c)/\(if A7 s c 47=true then c+1 else c)<=s.size+1/\E<=z+((if A7 s c 47=true then c+1 else c)-i):=by
    split
    · rename_i Z;have:=(D9 Z).1;omega
    · omega
  have K:=fun (b:Bool) (V:F8 (fXj (pat (13-D)) (rest s i)) s z (if A7 s c 47=true then c+1 else c) E b p)=>
    aQa (w:=w) (W:=S.setCell ⟨g,3,none⟩ (.bool b)) (x:=.slice l m n) V Y q.1 q.2.1 q.2.2 (r.set3 b) (H:=B8 (w.alloc Zp) d)
      (PV.mono (fun _ h=>h) (fun k f=>Below.heap_setCell _ _ _ _ (by have:=u.out k f;show k≠g;omega)) _ _ R) (fun k f=>by have:=u.out k f;simp[World.setCell];omega)
  have T:Hid _:=K _ F.out;generalize A7 s c 47=t at *;cases G<;>cases t<;>
    (go_wp2
     exact bodyPost_ret (v:=B4 p (.slice l m n)) (by simp[results,Tryz.results123,go_sem,q0,q1,q2]) rfl T.out)
theorem bQg (w:World)(x:List Value):LiesL (w.alloc (.cells x.toArray 37)) w.heap.size x:=by
  unfold LiesL;exact heap_alloc_new w _
theorem LiesL.six {a b c d e f:Value}(h:LiesL w g [a,b,c,d,e,f]) :
    Ce w g 0 a/\Ce w g 1 b/\Ce w g 2 c/\Ce w g 3 d/\Ce w g 4 e/\Ce w g 5 f:=
  ⟨h.cell 0,h.cell 1,h.cell 2,h.cell 3,h.cell 4,h.cell 5⟩
theorem LiesL.fr (h:LiesL w g x)(o:Nat):w.frozen? ⟨g,o,none⟩=false:=by
  unfold LiesL at h;simp[World.frozen?,h]
theorem LiesL.of_block (h:LiesL w g x)(a:w'.heap[g]?=w.heap[g]?):LiesL w' g x:=by unfold LiesL at h ⊢;rw[a];exact h
theorem Left.cellR {b:Bool}(h:Left w pb s i z b W)(e:w.heap.size<=g)(f:pb<w.heap.size)(o:Nat)(v:Value):Left w pb s i z b (W.setCell ⟨g,o,none⟩ v):=by
  refine⟨?_,⟨h.grown.os,h.grown.tape,h.grown.output,by simpa [World.setCell] using h.grown.size,fun k c d=>?_⟩⟩
  · have a:=h.lies
    unfold PB at a ⊢;rw[Below.heap_setCell _ _ _ _ (by show pb≠g;omega)];exact a
  · rw[Below.heap_setCell _ _ _ _ (by show k≠g;omega)];exact h.grown.block k c d
theorem NV.cellR {z:Value}(h:NV w G l y z)(b:∀k,G k->k≠g)(o:Nat)(v:Value):NV (w.setCell ⟨g,o,none⟩ v) G l y z:=
  NV.mono (fun k a=>⟨a,Below.heap_setCell _ _ _ _ (b k a)⟩) _ _ _ h
theorem NV.up {z:Value}(h:NV w G l y z)(a:∀k,G k->G' k):NV w G' l y z:=NV.mono (fun k b=>⟨a k b,rfl⟩) _ _ _ h
def S0 (s:By)(i:Nat)(l:Ln):Ln:=if A7 s i 42=true then hXb l else l
def iQv (w:World)(pb:Nat)(s:By)(i z:Nat)(bad:Bool)(k:Nat)(p:Pat)(ws:Lu)(y x:Value):Ending->World->Prop:=fun e w'=>
  ∃k' p' ws' v1 v2 v3 u1 u2 u3,e=.returned (E0 k' p' ws' (.slice v1 v2 v3) (.slice u1 u2 u3))/\
    (∀l:Ln,l.kind=k->eX5 l.p=p->l.w=ws->((S0 s i l).kind=k'/\eX5 (S0 s i l).p=p'/\(S0 s i l).w=ws')/\
      ∀G,Old w G->(∀k,G k->k≠pb)->NV w G l y x->NV w' (F5 G w w') (S0 s i l) (.slice v1 v2 v3) (.slice u1 u2 u3))/\Left w pb s (if A7 s i 42=true then i+1 else i) (if A7 s i 42=true then z+1 else z) bad w'
theorem gQj (s:By)(hs:s.size<=1048576)(d i z:Nat)(N:Bool)(w:World)(h:PB w d s i z N)(hi:i<=s.size+1)(hz:z<=4000000)(k:Nat)(p:Pat)(r:Lu)(m:Option Addr)(n o:Nat)(e:Option Addr)(f g:Nat) :
    Calls Tryz.prog 124 #[Pt d,E0 k p r (.slice m n o) (.slice e f g)] w (iQv w d s i z N k p r (.slice m n o) (.slice e f g)):=by
  have q:=h.lt;go_enter Tryz.func124,Tryz.ntmps124;go_wp2_with fail;have a6:=C6 w (.cells #[Iv k,Iv p.kind,Sv p.signs,.slice m n o,Sv r,.slice e f g] 37) (.cells #[Iv 0,Iv 0,Ez,Zl,Ez,Zl] 37);have T:=Left.of_below h a6;have b1:LiesL ((w.alloc (.cells #[Iv k,Iv p.kind,Sv p.signs,.slice m n o,Sv r,.slice e f g] 37)).alloc (.cells #[Iv 0,Iv 0,Ez,Zl,Ez,Zl] 37)) (Hz w) [Iv k,Iv p.kind,Sv p.signs,.slice m n o,Sv r,.slice e f g]:=(bQg w [Iv k,Iv p.kind,Sv p.signs,.slice m n o,Sv r,.slice e f g]).of_block (Below.heap_alloc _ _ _ (by simp));have X:=bQg (w.alloc (.cells #[Iv k,Iv p.kind,Sv p.signs,.slice m n o,Sv r,.slice e f g] 37)) [Iv 0,Iv 0,Ez,Zl,Ez,Zl];rw[World.size_alloc]at X;refine(O5 i 42 d s z N _ T.lies (by omega) (by omega)).mono ?_;rintro b8 c ⟨rfl,B⟩;have x:=T.trans B;have b7:=B.grown.size;simp at b7;have b2:=b1.of_block (B.grown.block w.heap.size (by simp;omega) (by simp;omega));have t:=X.of_block (B.grown.block (w.heap.size+1) (by simp) (by simp;omega));have⟨a0,a1,a2,a3,a4,a5⟩:=b2.six;have⟨H,I,J,K,L,M⟩:=t.six;have g0:=t.fr 0;have g1:=t.fr 1;have g2:=t.fr 2;have g3:=t.fr 3;have g4:=t.fr 4;have g5:=t.fr 5;have c2:=x.lies.c2;have f2:=x.lies.fr 2;have a7:∀j,j<w.heap.size->j≠d->c.heap[j]?=w.heap[j]?:=fun j b E=>(B.grown.block j (by simp;omega) (by simp;omega)).trans (a6.block j b);have Z:Hid _:=a7;cases C:A7 s i 42 with
  | false=>
    have u:Hid _:=C;rw[C]at x;go_wp2;refine bodyPost_ret (v:=E0 k p r (.slice m n o) (.slice e f g)) (by simp[results,Tryz.results124,go_sem,H,I,J,K,L,M]) rfl ⟨k,p,r,m,n,o,e,f,g,rfl,fun l O P Q=>?_,?_⟩
    · have S:S0 s i l=l:=by unfold S0;rw[if_neg (by rw[u.out];simp)]
      rw[S];refine⟨⟨O,P,Q⟩,fun G A E V=>?_⟩;have R:=NV.mono (fun k b=>⟨b,Z.out k (A k b) (E k b)⟩) _ _ _ V;have a:∀k,G k->k≠w.heap.size+1:=fun k b=>by have:=A k b;omega
      exact((((((R.cellR a 0 _).cellR a 1 _).cellR a 2 _).cellR a 3 _).cellR a 4 _).cellR a 5 _).up (fun _ h=>.inl h)
    · rw[if_neg (by rw[u.out];simp),if_neg (by rw[u.out];simp)]
      rw[if_neg (by simp)]at x;have a:w.heap.size<=w.heap.size+1:=by omega
      exact(((((x.cellR a q 0 _).cellR a q 1 _).cellR a q 2 _).cellR a q 3 _).cellR a q 4 _).cellR a q 5 _
  | true=>
    have u:Hid _:=C;rw[C]at x;have a8:((z+1:Nat):Int)=(z:Int)+1:=by omega
    have U:=x.set2 (z+1);rw[a8]at U;have Y:=t.of_block (Below.heap_setCell c ⟨d,2,none⟩ (Iv ((z:Int)+1)) (Hz w+1) (by show w.heap.size+1≠d;omega));have F:=A5 (c.setCell ⟨d,2,none⟩ (Iv ((z:Int)+1))) (.cells #[Iv k,Iv p.kind,Sv p.signs,.slice m n o,Sv r,.slice e f g] 37);have a9:=U.below F;have y:=Y.of_block (F.block _ Y.lt);have⟨H,I,J,K,L,M⟩:=y.six;have g0:=y.fr 0;have g1:=y.fr 1;have g2:=y.fr 2;have g3:=y.fr 3;have g4:=y.fr 4;have g5:=y.fr 5;have W:=bQg (c.setCell ⟨d,2,none⟩ (Iv ((z:Int)+1))) [Iv k,Iv p.kind,Sv p.signs,.slice m n o,Sv r,.slice e f g];have b3:(c.setCell ⟨d,2,none⟩ (Iv ((z:Int)+1))).heap.size=c.heap.size:=by simp[World.setCell]
    rw[b3]at W;have b6:Hid _:=W;have b5:Hid _:=a9;have b4:Hid _:=F;go_wp2;refine bodyPost_ret (v:=E0 6 nN [] Zl (Sl (Hz c) 1 1)) (by simp[results,Tryz.results124,go_sem,H,I,J,K,L,M,nN]) rfl ⟨6,nN,[],none,0,0,some ⟨Hz c,0,none⟩,1,1,rfl,fun l O P Q=>?_,?_⟩
    · have S:S0 s i l=hXb l:=by unfold S0;rw[if_pos u.out]
      rw[S];refine⟨⟨rfl,fXm,rfl⟩,fun G A E V=>?_⟩;subst O P Q;have a:∀k,(G k\/k=c.heap.size)->k≠w.heap.size+1:=fun k b=>by
        rcases b with b|b
        · have:=A k b;omega
        · omega
      have R:=NV.mono (G':=fun k=>G k\/k=Hz c) (fun k b=>⟨.inl b,(b4.out.block k (by rw[b3];have:=A k b;omega)).trans ((Below.heap_setCell c ⟨d,2,none⟩ (Iv ((z:Int)+1)) k (by show k≠d;exact E k b)).trans (Z.out k (A k b) (E k b)))⟩) _ _ _ V;have h3:NV ((c.setCell ⟨d,2,none⟩ (Iv ((z:Int)+1))).alloc (.cells #[Iv l.kind,Iv (eX5 l.p).kind,.string ⟨(eX5 l.p).signs.toArray⟩,.slice m n o,Sv l.w,.slice e f g] 37)) (fun k=>G k\/k=c.heap.size) (hXb l) Zl (Sl (Hz c) 1 1):=by
        unfold hXb;rw[NV];exact⟨by rw[fXm];exact R4 _ _ _ _,Hz c,_,_,.inr rfl,rfl,b6.out,R⟩
      refine((((((h3.cellR a 0 _).cellR a 1 _).cellR a 2 _).cellR a 3 _).cellR a 4 _).cellR a 5 _).up (fun k b=>?_);rcases b with b|b
      · exact .inl b
      · exact .inr ⟨by omega,by simp[World.setCell];omega⟩
    · rw[if_pos u.out,if_pos u.out]
      have b0:=b5.out;rw[if_pos trivial]at b0;have a:w.heap.size<=w.heap.size+1:=by omega
      exact(((((b0.cellR a q 0 _).cellR a q 1 _).cellR a q 2 _).cellR a q 3 _).cellR a q 4 _).cellR a q 5 _
def CaseL (W:World)(G:Nat->Prop)(res:Rl)(s:By)(z i' z':Nat)(bad:Bool)(k:Nat)(p:Pat)(ws:Lu)(y x:Value):Prop:=
 (bad=true/\res=.none)\/(bad=false/\∃l,res=some (l,rest s i')/\l.kind=k/\eX5 l.p=p/\l.w=ws/\z'=z+eX7 l/\i'<=s.size/\NV W G l y x)
theorem CaseL.mono {k:Nat}{x:Value}(h:CaseL W G res s z i' z' bad k p ws y x)(j:∀k,G k->G' k/\W'.heap[k]?=W.heap[k]?):CaseL W' G' res s z i' z' bad k p ws y x:=by
 rcases h with h|⟨a,l,b,c,d,e,f,g,i⟩
 ·exact .inl h
 ·exact .inr ⟨a,l,b,c,d,e,f,g,NV.mono j _ _ _ i⟩
theorem LPost.mid (h:LPost w pb s i z res e w')(F:∀l t,res=some (l,t)->t <:+ rest s i/\eX7 l+t.length<=(rest s i).length)(H:i<=s.size) :
  ∃k p q f g j b c d a m A,e=.returned (E0 k p q (.slice f g j) (.slice b c d))/\i<=a/\a<=s.size+1/\m<=z+(a-i)/\Left w pb s a m A w'/\CaseL w' (B8 w w') res s z a m A k p q (.slice f g j) (.slice b c d):=by
 rcases h with⟨l,t,y,x,o,u,B,v⟩|⟨o,k,p,q,f,g,j,b,c,d,a,m,u,n,r,C,v⟩
 ·have⟨n,r⟩:=F l t o
  have G:=dQq n;have E:=n.length_le;rw[F4]at E r;obtain⟨⟨f,g,j,rfl⟩,b,c,d,rfl⟩:=NV.slices _ _ _ B;exact⟨l.kind,eX5 l.p,l.w,f,g,j,b,c,d,s.size-t.length,z+eX7 l,false,u,by omega,by omega,by omega,v,.inr ⟨rfl,l,by rw[o,<-G],rfl,rfl,rfl,rfl,by omega,B⟩⟩
 ·exact⟨k,p,q,f,g,j,b,c,d,a,m,true,u,n,r,C,v,.inl ⟨rfl,o⟩⟩
abbrev cQj:List Value:=[.int .i64 0,.int .i64 0,.string ⟨#[]⟩,.slice none 0 0,.string ⟨#[]⟩,.slice none 0 0]
structure St (w:World)(pb:Nat)(s:By)(i z:Nat)(bad:Bool)(W:World):Prop where
 left:Left w pb s i z bad W
 res:LiesL W w.heap.size cQj
 pl:pb<w.heap.size
theorem St.start (h:PB w pb s i z bad):St w pb s i z bad (w.alloc (.cells #[Iv 0,Iv 0,.string ⟨#[]⟩,.slice none 0 0,.string ⟨#[]⟩,.slice none 0 0] 37)):=
 ⟨Left.of_below h (A5 _ _),bQg w cQj,h.lt⟩
theorem St.next {a:Bool}(h:St w pb s i z bad W)(b:Left W pb s i' z' a W'):St w pb s i' z' a W':=by
 have c:=h.pl;exact⟨h.left.trans b,h.res.of_block (b.grown.block _ h.res.lt (by simp;omega)),h.pl⟩
theorem St.below (h:St w pb s i z bad W)(a:Bw W W'):St w pb s i z bad W':=h.next (Left.of_below h.left.lies a)
theorem St.set1 (h:St w pb s i z bad W)(a:Nat):St w pb s a z bad (W.setCell ⟨pb,1,none⟩ (Iv a)):=h.next ((Left.of_below h.left.lies Br).set1 a)
theorem St.set2 (h:St w pb s i z bad W)(a:Nat):St w pb s i a bad (W.setCell ⟨pb,2,none⟩ (Iv a)):=h.next ((Left.of_below h.left.lies Br).set2 a)
theorem St.set3 (h:St w pb s i z bad W)(b:Bool):St w pb s i z b (W.setCell ⟨pb,3,none⟩ (.bool b)):=h.next ((Left.of_below h.left.lies Br).set3 b)
structure Cells (w W:World)(pb:Nat)(s:By)(i z:Nat)(bad:Bool):Prop where
 c1:Ce W pb 1 (.int .i64 i)
 c2:Ce W pb 2 (.int .i64 z)
 c3:Ce W pb 3 (.bool bad)
 f1:W.frozen? ⟨pb,1,none⟩=false
 f2:W.frozen? ⟨pb,2,none⟩=false
 f3:W.frozen? ⟨pb,3,none⟩=false
 q0:Ce W w.heap.size 0 (.int .i64 0)
 q1:Ce W w.heap.size 1 (.int .i64 0)
 q2:Ce W w.heap.size 2 (.string ⟨#[]⟩)
 q3:Ce W w.heap.size 3 (.slice none 0 0)
 q4:Ce W w.heap.size 4 (.string ⟨#[]⟩)
 q5:Ce W w.heap.size 5 (.slice none 0 0)
 g:∀o,W.frozen? ⟨w.heap.size,o,none⟩=false
 lt:w.heap.size<W.heap.size
theorem St.cells (h:St w pb s i z bad W):Cells w W pb s i z bad:=by
 have⟨a,b,c,d,e,f⟩:=h.res.six;exact⟨h.left.lies.c1,h.left.lies.c2,h.left.lies.c3,h.left.lies.fr 1,h.left.lies.fr 2,h.left.lies.fr 3,a,b,c,d,e,f,h.res.fr,h.res.lt⟩
abbrev set6 (W:World)(g:Nat)(k:Nat)(p:Pat)(ws:Lu)(y x:Value):World:=
 (((((W.setCell ⟨g,0,none⟩ (.int .i64 k)).setCell ⟨g,1,none⟩ (.int .i64 p.kind)).setCell ⟨g,2,none⟩ (.string ⟨p.signs.toArray⟩)).setCell ⟨g,3,none⟩ y).setCell ⟨g,4,none⟩ (.string ⟨ws.toArray⟩)).setCell ⟨g,5,none⟩ x
theorem P3 {k:Nat}{g:Option Addr}{h j:Nat}{d:Option Addr}{e f:Nat}{H:Nat->Prop}(x:CaseL W H res s z i' z' bad k p ws (.slice g h j) (.slice d e f))(t:i<=i')(u:i'<=s.size+1)(v:z'<=z+(i'-i))
  (q:St w pb s i' z' bad W) (n:∀k,H k->w.heap.size<k/\k<W.heap.size) :
  LPost w pb s i z res (.returned (E0 k p ws (.slice g h j) (.slice d e f))) (set6 W w.heap.size k p ws (.slice g h j) (.slice d e f)):=by
 have c:=q.pl;have a:w.heap.size<=w.heap.size:=Nr;have r:=(((((q.left.cellR a c 0 (Iv k)).cellR a c 1 (Iv p.kind)).cellR a c 2 (Sv p.signs)).cellR a c 3 (.slice g h j)).cellR a c 4 (Sv ws)).cellR a c 5 (.slice d e f);rcases x with⟨rfl,o⟩|⟨rfl,l,o,rfl,rfl,rfl,rfl,B,y⟩
 ·exact .inr ⟨o,k,p,ws,g,h,j,d,e,f,i',z',rfl,t,u,v,r⟩
 ·have b:∀k,H k->k≠w.heap.size:=fun k m=>by have:=n k m;omega
  have A:=(((((y.cellR b 0 (Iv l.kind)).cellR b 1 (Iv (eX5 l.p).kind)).cellR b 2 (.string ⟨(eX5 l.p).signs.toArray⟩)).cellR b 3 (.slice g h j)).cellR b 4 (Sv l.w)).cellR b 5 (.slice d e f);refine .inl ⟨l,rest s i',_,_,o,rfl,A.up (fun k m=>⟨Nat.le_of_lt (n k m).1,by simp[World.setCell];exact(n k m).2⟩),?_⟩;rw[F4,show s.size-(s.size-i')=i' by omega];exact r
theorem q8 (e:res=.none)(a:i<=i')(b:i'<=s.size+1)(c:z'<=z+(i'-i))(d:St w pb s i' z' true W) :
  LPost w pb s i z res (.returned (E0 0 nN [] (.slice none 0 0) (.slice none 0 0))) (set6 W w.heap.size 0 nN [] (.slice none 0 0) (.slice none 0 0)):=
 P3 (H:=fun _=>False) (.inl ⟨rfl,e⟩) a b c d (fun _ h=>h.elim)
def S8 (res:Rl):Rl:=match res with
 | .none=>.none
 | some (l,t)=>some (fX9 l t)
theorem qQx (s:By)(i:Nat)(l:Ln):fX9 l (rest s i)=(S0 s i l,rest s (if A7 s i 42=true then i+1 else i)):=by
 unfold fX9 S0;cases a:A7 s i 42 with
 | false=>rw[if_neg (by rw[C4,a];simp)];simp
 | true=>rw[if_pos (C4.2 a),E7];simp
theorem xQh (s:By)(i:Nat)(l:Ln):eX7 (S0 s i l)=if A7 s i 42=true then eX7 l+1 else eX7 l:=by
 unfold S0;split
 ·exact hXi l
 ·rfl
theorem gQo {k:Nat}{x:Value}(h:CaseL W G res s z i' z' bad k p ws y x)(ha:iQv W pb s i' z' bad k p ws y x e w')(C:Old W G)(J:∀k,G k->k≠pb) :
  ∃a b m g i j c d f,e=.returned (E0 a b m (.slice g i j) (.slice c d f))/\CaseL w' (F5 G W w') (S8 res) s z (if A7 s i' 42=true then i'+1 else i') (if A7 s i' 42=true then z'+1 else z') bad a b m (.slice g i j) (.slice c d f)/\
   Left W pb s (if A7 s i' 42=true then i'+1 else i') (if A7 s i' 42=true then z'+1 else z') bad w':=by
 have⟨a,b,m,g,i,j,c,d,f,F,E,H⟩:=ha;refine⟨a,b,m,g,i,j,c,d,f,F,?_,H⟩;rcases h with⟨n,o⟩|⟨n,l,o,u,v,w,L,A,B⟩
 ·exact .inl ⟨n,by rw[o];rfl⟩
 ·have⟨⟨q,r,t⟩,I⟩:=E l u v w
  refine .inr ⟨n,S0 s i' l,?_,q,r,t,?_,?_,I G C J B⟩
  ·rw[o]
   show some (fX9 l (rest s i'))=_;rw[qQx]
  ·rw[xQh]
   split<;>omega
  ·split
   ·rename_i K
    have:=(D9 K).1;omega
   ·exact A
def aQn (s:By)(D:Nat):Prop:=∀(pb i z:Nat) (w:World),PB w pb s i z false->i<=s.size->z<=1048576+i->
 Ca 46 #[.pointer (some ⟨pb,0,none⟩),.int .i64 (D:Int)] w (LPost w pb s i z (fXa (13-D) (rest s i)))
variable {G G':Nat->Prop}{P:Lu->Rd}{Q:Lu->Rl}{W W' W2:World}{a l:Ln}{b1 t1:Option Addr}{b2 b3 g i i' i1 i2 j t2 t3 z z' z2 zj:Nat}{bad:Bool}{p:Pat}{res:Rl}{s:By}{y:Value}(k D:Nat)(ws:Lu)(pb:Nat)(w:World)(x:Value)
def jQ0 (r:Rd):Rl:=match r with
 | .none=>.none
 | some (d,u)=>some (fXs d,u)
theorem sQc {b:Rd}(h:F8 b s z i' z' bad p)(e:PV W G p y):CaseL W G (jQ0 b) s z i' z' bad 0 p [] y (.slice none 0 0):=by
 rcases h with⟨rfl,a⟩|⟨rfl,d,a,rfl,rfl,c⟩
 ·exact .inl ⟨rfl,by rw[a];rfl⟩
 ·refine .inr ⟨rfl,fXs d,by rw[a];rfl,rfl,rfl,rfl,by rw[hX8],c,?_⟩
  show NV W G ⟨0,d,[],[]⟩ y Zl;rw[NV];exact⟨e,rfl⟩
theorem yQ9 (s:By)(hs:s.size<=1048576)(a7:gQc s D)(i z:Nat)(h:PB w pb s i z false)(hi:i<s.size)(hz:z<=1048576+i)(C:nx s i=47) :
  Calls Tryz.prog 108 #[Pt pb,Iv (D:Int)] w (LPost w pb s i z (fXk (pat (13-D)) (fXa (12-D)) (rest s i))):=by
 have HR:Hid (fXk (pat (13-D)) (fXa (12-D)) (rest s i)=S8 (jQ0 (fXj (pat (13-D)) (rest s (i+1))))):=by
  show _=_;rw[D4 hi,C];show (match fXj (pat (13-D)) (rest s (i+1)) with|.none=>(.none:Rl)|some (d,u)=>some (fX9 (fXs d) u))=_;cases fXj (pat (13-D)) (rest s (i+1)) with
  | none=>rfl
  | some c1=>rfl
 have Hc:Hid _:=C;have b6:=h.lt;have b4:¬w.heap.size=pb:=by omega
 have b5:¬pb=w.heap.size:=by omega
 have F:=St.start h;go_enter Tryz.func108,Tryz.ntmps108;go_wp2_with fail;refine(G5 i pb s z false _ F.left.lies (by omega) (by omega)).mono ?_;rw[Hc.out];rintro e j ⟨rfl,a8⟩;have G:=F.below a8;have a0:=G.set1 (i+1);have⟨r,t,x,y,A,B,J,K,L,M,N,O,g,X⟩:=G.cells;have q:Hid _:=a0;go_wp2_with fail;refine(a7 pb (i+1) z _ q.out.left.lies (by omega) (by omega)).mono ?_;rintro e c Z;obtain⟨p,l,m,n,a,P,a6,rfl,hv,b2,b3,b8,W,T⟩:=Z.mid (fun d c0 hr=>⟨(iXb (hXl _) hr).1,by have:=(iXb (hXl _) hr).2;omega⟩) (by omega);have a1:=q.out.next W;have f:=A5 c (.cells #[Iv p.kind,Sv p.signs,.slice l m n] 27);have H:=a1.below f;have S:Old (c.alloc (.cells #[Iv p.kind,Sv p.signs,.slice l m n] 27)) (B8 (j.setCell ⟨pb,1,none⟩ (Iv ((i+1:Nat):Int))) c):=fun k b=>Ll b.2 f.size;have b7:=q.out.res.lt;have Y:∀k,B8 (j.setCell ⟨pb,1,none⟩ (Iv ((i+1:Nat):Int))) c k->k≠pb:=fun k b=>by have:=b.1;omega
 have U:=sQc T (hv.below f (fun k b=>b.2) (fun _ h=>h));have R:=gQj s hs pb a P a6 _ H.left.lies (by omega) (by omega) 0 p [] l m n none 0 0;have Q:Hid _:=H;have HG:Hid _:=S;have a4:Hid _:=Y;have a2:Hid _:=U;have b1:=f.size;go_wp2_with fail;refine R.mono ?_;rintro e w5 ha;obtain⟨k',p',b0,v1,v2,v3,u1,u2,u3,rfl,V,E⟩:=gQo a2.out ha HG.out a4.out;have I:=Q.out.next E;have b9:=E.grown.size;have⟨r,t,x,y,A,B,J,K,L,M,N,O,g,X⟩:=I.cells;have g0:=g 0;have g1:=g 1;have g2:=g 2;have g3:=g 3;have g4:=g 4;have g5:=g 5;have a5:Hid _:=I;have a3:Hid _:=V;have o:Hid (i<=(if A7 s a 42=true then a+1 else a)/\(if A7 s a 42=true then a+1 else a)<=s.size+1/\(if A7 s a 42=true then P+1 else P)<=z+((if A7 s a 42=true then a+1 else a)-i)):=by
  cases a9:A7 s a 42 with
  | false=>simp only[Bool.false_eq_true,if_false];exact⟨by omega,by omega,by omega⟩
  | true=>have:=(D9 a9).1;simp only[if_true];exact⟨by omega,by omega,by omega⟩
 have HH:Hid (∀k,F5 (B8 (j.setCell ⟨pb,1,none⟩ (Iv ((i+1:Nat):Int))) c) (c.alloc (.cells #[Iv p.kind,Sv p.signs,.slice l m n] 27)) w5 k->w.heap.size<k/\k<w5.heap.size):=by
  rintro k (b|b)
  ·have h1:=b.1
   have h2:=b.2;exact⟨by omega,by omega⟩
  ·have h1:=b.1
   have h2:=(Q.out).res.lt;exact⟨by omega,b.2⟩
 clear I V E ha R r t x y A B g;go_wp2_with fail;rw[HR.out];exact bodyPost_ret (v:=E0 k' p' b0 (.slice v1 v2 v3) (.slice u1 u2 u3)) (by simp[results,Tryz.results108,go_sem,J,K,L,M,N,O]) rfl (P3 a3.out o.out.1 o.out.2.1 o.out.2.2 a5.out HH.out)
def fQ4 (s:By)(i z i' z':Nat)(bad:Bool)(x:Lu):Prop:=
 (bad=true/\fX1 (rest s i)=.none)\/(bad=false/\fX1 (rest s i)=some (x,rest s i')/\z'=z+x.length/\i'<=s.size)
theorem WPost.mid {w j:World}{g:Nat}{e:Ending}(h:WPost w g s i z e j)(n:i<=s.size) :
  ∃x i' z' bad,e=.returned (I5 x)/\i<=i'/\i'<=s.size+1/\z'<=z+(i'-i)/\Left w g s i' z' bad j/\fQ4 s i z i' z' bad x:=by
 rcases h with⟨x,t,b,d,f⟩|⟨b,x,i',z',d,a,c,k,f⟩
 ·have⟨a,c⟩:=iXo b
  have m:=dQq a;have l:=a.length_le;rw[F4]at l c;exact⟨x,s.size-t.length,z+x.length,false,d,by omega,by omega,by omega,f,.inr ⟨rfl,by rw[b,<-m],rfl,by omega⟩⟩
 ·exact⟨x,i',z',true,d,a,c,k,f,.inl ⟨rfl,b⟩⟩
def mQt (r:Option (Lu × Lu)):Rl:=match r with
 | .none=>.none
 | some (w,v)=>some (iXp w,v)
theorem sQg {x:Lu}(h:fQ4 s i z i' z' bad x):CaseL W (fun _=>False) (mQt (fX1 (rest s i))) s z i' z' bad 2 nN x (.slice none 0 0) (.slice none 0 0):=by
 rcases h with⟨rfl,a⟩|⟨rfl,a,rfl,b⟩
 ·exact .inl ⟨rfl,by rw[a];rfl⟩
 ·refine .inr ⟨rfl,iXp x,by rw[a];rfl,rfl,fXm,rfl,by rw[iXv],b,?_⟩
  show NV W _ ⟨2,rnil,x,[]⟩ Zl Zl;rw[NV,fXm];exact⟨R4 _ _ _ _,rfl⟩
theorem zQh (s:By)(hs:s.size<=1048576)(i z:Nat)(h:PB w pb s i z false)(L:i<s.size)(hz:z<=1048576+i)(k:nx s i=43) :
  Calls Tryz.prog 108 #[Pt pb,Iv (D:Int)] w (LPost w pb s i z (fXk (pat (13-D)) (fXa (12-D)) (rest s i))):=by
 have H:Hid (fXk (pat (13-D)) (fXa (12-D)) (rest s i)=mQt (fX1 (rest s (i+1)))):=by
  show _=_;rw[D4 L,k];show (match fX1 (rest s (i+1)) with|.none=>(.none:Rl)|some (w,v)=>some (iXp w,v))=_;cases fX1 (rest s (i+1)) with
  | none=>rfl
  | some x=>rfl
 have J:Hid _:=k;have Z:=h.lt;have X:¬w.heap.size=pb:=by omega
 have Y:¬pb=w.heap.size:=by omega
 have l:=St.start h;go_enter Tryz.func108,Tryz.ntmps108;go_wp2_with fail;refine(G5 i pb s z false _ l.left.lies (by omega) (by omega)).mono ?_;rw[J.out];rintro e w1 ⟨rfl,K⟩;have m:=l.below K;have F:=m.set1 (i+1);have⟨a,b,c,d,f,j,o,p,q,r,t,u,g,C⟩:=m.cells;have y:Hid _:=F;go_wp2_with fail;refine(oQc s pb (i+1) _ hs z y.out.left.lies (by omega) (by omega)).mono ?_;rintro e N E;obtain⟨x,i',z',O,rfl,V,M,a0,B,A⟩:=E.mid (by omega);have n:=y.out.next B;have⟨a,b,c,d,f,j,o,p,q,r,t,u,g,C⟩:=n.cells;have P:=g 0;have Q:=g 1;have R:=g 2;have S:=g 3;have T:=g 4;have U:=g 5;have I:Hid _:=n;have G:Hid _:=sQg (W:=N) A;go_wp2;rw[H.out];exact bodyPost_ret (v:=E0 2 nN x Zl Zl) (by simp[results,Tryz.results108,go_sem,o,p,q,r,t,u,nN]) rfl (P3 G.out (by omega) M (by omega) I.out (fun _ h=>h.elim))
theorem yQ6 (s:By)(hs:s.size<=1048576)(i z:Nat)(h:PB w pb s i z false)(L:i<=s.size)(a:∀x,x∈([47,45,43,60,40]:Lu)->nx s i≠x) :
  Calls Tryz.prog 108 #[Pt pb,Iv (D:Int)] w (LPost w pb s i z (fXk (pat (13-D)) (fXa (12-D)) (rest s i))):=by
 have j:Hid (fXk (pat (13-D)) (fXa (12-D)) (rest s i)=.none):=by
  show _=_
  by_cases d:i<s.size
  ·rw[D4 d]
   simp only[fXk];rw[if_neg (a 47 (by simp)),if_neg (a 45 (by simp)),if_neg (a 43 (by simp)),if_neg (a 60 (by simp)),if_neg (a 40 (by simp))]
  ·rw[P4 (by omega)];rfl
 have ne:∀x:UInt8,x∈([47,45,43,60,40]:Lu)->(((nx s i).toNat:Int)==(x.toNat:Int))=false:=fun x m=>by
  rw[beq_eq_false_iff_ne];intro e;exact a x m (UInt8.toNat_inj.1 (by omega))
 have P:(((nx s i).toNat:Int)==47)=false:=ne 47 (by simp);have Q:(((nx s i).toNat:Int)==45)=false:=ne 45 (by simp);have R:(((nx s i).toNat:Int)==43)=false:=ne 43 (by simp);have S:(((nx s i).toNat:Int)==60)=false:=ne 60 (by simp);have T:(((nx s i).toNat:Int)==40)=false:=ne 40 (by simp);have O:=h.lt;have M:¬w.heap.size=pb:=by omega
 have N:¬pb=w.heap.size:=by omega
 have b:=St.start h;go_enter Tryz.func108,Tryz.ntmps108;go_wp2_with fail;refine(G5 i pb s z false _ b.left.lies (by omega) (by omega)).mono ?_;rintro e U ⟨rfl,l⟩;have c:=b.below l;have f:=(c.set1 (i+1)).set3 true;have⟨u,y,A,B,C,E,n,o,p,q,r,t,g,d⟩:=c.cells;have F:=g 0;have G:=g 1;have H:=g 2;have I:=g 3;have J:=g 4;have K:=g 5;have k:Hid _:=f;clear b c f g;go_wp2_with fail;rw[j.out];exact bodyPost_ret (v:=E0 0 nN [] Zl Zl) (by simp[results,Tryz.results108,go_sem,n,o,p,q,r,t,nN]) rfl (q8 rfl (by omega) (by omega) (by omega) k.out)
def Z1 (P:Lu->Rd)(t:Lu):Rl:=
 if t.head?=some 47 then
  match fXj P t.tail with
  | .none=>.none
  | some (d,u)=>
   match fX1 u with
   | .none=>.none
   | some (w,v)=>some (fXf d w,v)
 else .none
theorem wQw (h:A7 s i 47=false):Z1 P (rest s i)=.none:=by
 unfold Z1;rw[if_neg (by rw[C4,h];simp)]
theorem wQv (h:A7 s i 47=true)(a:fXj P (rest s (i+1))=.none):Z1 P (rest s i)=.none:=by
 unfold Z1;rw[if_pos (C4.2 h),E7,a]
theorem sQe {x:Lu}(h:A7 s i 47=true)(e:F8 (fXj P (rest s (i+1))) s z i' z' false p)(f:fQ4 s i' z' i2 z2 bad x)(j:PV W G p y) :
  CaseL W G (Z1 P (rest s i)) s z i2 z2 bad 1 p x y (.slice none 0 0):=by
 rcases e with⟨c,_⟩|⟨_,d,b,rfl,rfl,k⟩
 ·cases c
 rcases f with⟨rfl,a⟩|⟨rfl,a,rfl,g⟩
 ·refine .inl ⟨rfl,?_⟩
  unfold Z1;rw[if_pos (C4.2 h),E7,b];dsimp only
  rw[a]
 ·refine .inr ⟨rfl,fXf d x,?_,rfl,rfl,rfl,by rw[hXt];omega,g,?_⟩
  ·unfold Z1
   rw[if_pos (C4.2 h),E7,b];dsimp only
   rw[a]
  ·show NV W G ⟨1,d,x,[]⟩ y Zl
   rw[NV];exact⟨j,rfl⟩
theorem Left.block {w:World}{a:Nat}{b:Bool}(h:Left w a s i z b W){k:Nat}(c:k<w.heap.size)(d:k≠a):W.heap[k]?=w.heap[k]?:=h.grown.block k c (by simp[d])
theorem zQc (s:By)(hs:s.size<=1048576)(b3:gQc s D)(i z:Nat)(h:PB w pb s i z false)(hi:i<s.size)(hz:z<=1048576+i)(U:nx s i=45) :
  Calls Tryz.prog 108 #[Pt pb,Iv (D:Int)] w (LPost w pb s i z (fXk (pat (13-D)) (fXa (12-D)) (rest s i))):=by
 have P:Hid (fXk (pat (13-D)) (fXa (12-D)) (rest s i)=Z1 (pat (13-D)) (rest s (i+1))):=by
  show _=_;rw[D4 hi,U];rfl
 have Hc:Hid _:=U;have c5:=h.lt;have c3:¬w.heap.size=pb:=by omega
 have c4:¬pb=w.heap.size:=by omega
 have X:=St.start h;go_enter Tryz.func108,Tryz.ntmps108;go_wp2_with fail;refine(G5 i pb s z false _ X.left.lies (by omega) (by omega)).mono ?_;rw[Hc.out];rintro e w1 ⟨rfl,b4⟩;have Y:=X.below b4;have a5:=Y.set1 (i+1);have⟨n,o,q,r,t,u,a,b,c,d,f,j,g,x⟩:=Y.cells;have Q:Hid _:=a5;go_wp2_with fail;refine(O5 (i+1) 47 pb s z false _ Q.out.left.lies (by omega) (by omega)).mono ?_;rintro e w3 ⟨rfl,m⟩;cases y:A7 s (i+1) 47 with
 | false=>
  rw[y]at m;simp only[Bool.false_eq_true,if_false]at m;have O:Hid (Z1 (pat (13-D)) (rest s (i+1))=.none):=wQw y;have A:=Q.out.next m;have⟨n,o,q,r,t,u,a,b,c,d,f,j,g,x⟩:=A.cells;have g0:=g 0;have g1:=g 1;have g2:=g 2;have g3:=g 3;have g4:=g 4;have g5:=g 5;have b0:Hid _:=A.set3 true;clear A m y g;go_wp2_with fail;rw[P.out,O.out];exact bodyPost_ret (v:=E0 0 nN [] Zl Zl) (by simp[results,Tryz.results108,go_sem,a,b,c,d,f,j,nN]) rfl (q8 rfl (by omega) (by omega) (by omega) b0.out)
 | true=>
  rw[y]at m;simp only[if_true]at m;have c0:=(D9 y).1;have a1:Hid (A7 s (i+1) 47=true):=y;have A:=Q.out.next m;have a6:=A.set3 false;have⟨n,o,q,r,t,u,a,b,c,d,f,j,g,x⟩:=A.cells;have R:Hid _:=a6;clear A m y a6;go_wp2_with fail;refine(b3 pb (i+1+1) z _ R.out.left.lies (by omega) (by omega)).mono ?_;rintro e l I;obtain⟨p,B,C,E,i',z',a2,rfl,hv,b9,c1,c7,V,F⟩:=I.mid (fun b2 d3 N=>⟨(iXb (hXl _) N).1,by have:=(iXb (hXl _) N).2;omega⟩) (by omega);clear I n o q r t u a b c d f j g x;have J:=R.out.next V;have M:=A5 l (.cells #[Iv p.kind,Sv p.signs,.slice B C E] 27);have K:=J.below M;have W:=C7 l (C2 p (.slice B C E));have⟨n,o,q,r,t,u,a,b,c,d,f,j,g,x⟩:=K.cells;obtain⟨d1,_⟩:(Ce l pb 3 (.bool a2))/\True:=⟨J.cells.c3,trivial⟩;have c6:pb<l.heap.size:=J.left.lies.lt;cases a2 with
  | true=>
   have O:Hid (Z1 (pat (13-D)) (rest s (i+1))=.none):=by
    rcases F with⟨_,N⟩|⟨S,_⟩
    ·exact wQv a1.out N
    ·cases S
   have g0:=g 0;have g1:=g 1;have g2:=g 2;have g3:=g 3;have g4:=g 4;have g5:=g 5;have L:Hid _:=K;clear J K W F hv V M g;go_wp2_with fail;rw[P.out,O.out];exact bodyPost_ret (v:=E0 0 nN [] Zl Zl) (by simp[results,Tryz.results108,go_sem,a,b,c,d,f,j,nN]) rfl (q8 rfl (by omega) (by omega) (by omega) L.out)
  | false=>
   have b5:i'<=s.size:=by
    rcases F with⟨S,_⟩|⟨_,b2,_,_,_,T⟩
    ·cases S
    ·exact T
   have HV:Hid _:=hv;have HC:Hid (F8 (fXj (pat (13-D)) (rest s (i+1+1))) s z i' z' false p):=F;have L:Hid _:=K;have a9:Hid (Lies (l.alloc (.cells #[Iv p.kind,Sv p.signs,.slice B C E] 27)) l.heap.size (C2 p (.slice B C E))):=W;have a0:Hid _:=M;have c9:w.heap.size<((w3.setCell ⟨pb,3,none⟩ (.bool false)).heap.size):=R.out.res.lt;clear J K W F hv V M g;go_wp2_with fail;refine(oQc s pb i' _ hs z' L.out.left.lies (by omega) (by omega)).mono ?_;rintro e w7 I;obtain⟨b7,i2,z2,b8,rfl,c2,b6,c8,H,a3⟩:=I.mid b5;clear I n o q r t u a b c d f j x;have Z:=L.out.next H;have d0:=H.grown.size;have d2:=a0.out.size;have a4:Lies w7 (Hz l) (C2 p (.slice B C E)):=a9.out.grown H.grown (by simp;omega);have⟨m0,m1,m2⟩:=a4.three;have a7:PV w7 (B8 (w3.setCell ⟨pb,3,none⟩ (.bool false)) l) p (.slice B C E):=PV.mono (fun _ h=>h) (fun k G=>by
    have T:=G.1;have h2:=G.2;rw[H.block (by simp;omega) (by omega),a0.out.block k h2]) _ _ HV.out
   have a8:Hid _:=sQe a1.out HC.out a3 a7;have⟨n,o,q,r,t,u,a,b,c,d,f,j,g,x⟩:=Z.cells;have g0:=g 0;have g1:=g 1;have g2:=g 2;have g3:=g 3;have g4:=g 4;have g5:=g 5;have b1:Hid _:=Z;have HH:Hid (∀k,B8 (w3.setCell ⟨pb,3,none⟩ (.bool false)) l k->w.heap.size<k/\k<w7.heap.size):=fun k G=>by
    have T:=G.1;have h2:=G.2;exact⟨by omega,by omega⟩
   clear Z a4 a7 a3 H g;go_wp2_with fail;rw[P.out];exact bodyPost_ret (v:=E0 1 p b7 (.slice B C E) Zl) (by simp[results,Tryz.results108,go_sem,a,b,c,d,f,j]) rfl (P3 a8.out (by omega) b6 (by omega) b1.out HH.out)
def cQa (r:Rl):Rl:=match r with
 | .none=>.none
 | some (a,u)=>if u.head?=some 62 then some (gXl a,u.tail) else .none
theorem sQd {k:Nat}{c:Lu}{x:Value}(h:CaseL W G res s (z+1) i' z' bad k p c y x)(i:∀k,G k->G' k/\W'.heap[k]?=W.heap[k]?)(d:G' g)
  (e:LiesL W' g [Iv k,Iv p.kind,Sv p.signs,y,Sv c,x]) :
  CaseL W' G' (cQa res) s z (if A7 s i' 62=true then i'+1 else i') z' (bad||!A7 s i' 62) 7 nN [] (.slice none 0 0) (Sl g 1 1):=by
 rcases h with⟨rfl,a⟩|⟨rfl,l,a,rfl,rfl,rfl,rfl,j,f⟩
 ·exact .inl ⟨rfl,by rw[a];rfl⟩
 ·cases b:A7 s i' 62 with
  | false=>
   refine .inl ⟨rfl,?_⟩;rw[a];show (if (rest s i').head?=some 62 then _ else _)=_;rw[if_neg (by rw[C4,b];simp)]
  | true=>
   refine .inr ⟨rfl,gXl l,?_,rfl,fXm,rfl,by rw[hX9];omega,by have:=(D9 b).1;simp;omega,?_⟩
   ·rw[a]
    show (if (rest s i').head?=some 62 then _ else _)=_;rw[if_pos (C4.2 b),E7];simp
   ·show NV W' G' ⟨7,rnil,[],[l]⟩ Zl (Sl g 1 1)
    rw[NV,fXm];exact⟨R4 _ _ _ _,g,y,x,d,rfl,e,NV.mono i _ _ _ f⟩
abbrev B7 (k:Nat)(p:Pat)(ws:Lu)(y x:Value):Obj:=.cells #[.int .i64 k,.int .i64 p.kind,.string ⟨p.signs.toArray⟩,y,.string ⟨ws.toArray⟩,x] 37
theorem N5 (k:Nat)(p:Pat)(a:Lu)(y x:Value):LiesL (w.alloc (B7 k p a y x)) w.heap.size [Iv k,Iv p.kind,Sv p.signs,y,Sv a,x]:=
 bQg w [Iv k,Iv p.kind,Sv p.signs,y,Sv a,x]
theorem wQk {w e a:World}{b:Nat}{k:Nat}{c:Lu}{x:Value}(q:CaseL e (B8 W2 e) res s (z+1) i' z' bad k p c y x)
  (m:St w b s i' z' bad (e.alloc (B7 k p c y x))) (g:Left (e.alloc (B7 k p c y x)) b s (if A7 s i' 62=true then i'+1 else i') z' bad a) (G:w.heap.size<W2.heap.size) (B:i+1<=i') (C:i'<=s.size+1) (E:z'<=z+1+(i'-(i+1))) :
  LPost w b s i z (cQa res) (.returned (E0 7 nN [] (.slice none 0 0) (Sl a.heap.size 1 1)))
   (set6 ((a.setCell ⟨b,3,none⟩ (.bool (bad||!A7 s i' 62))).alloc (B7 k p c y x)) w.heap.size 7 nN [] (.slice none 0 0) (Sl a.heap.size 1 1)):=by
 have F:=m.pl;have n:=m.next g;have u:=n.set3 (bad||!A7 s i' 62);have A:=g.grown.size;simp at A;have f:(a.setCell ⟨b,3,none⟩ (.bool (bad||!A7 s i' 62))).heap.size=a.heap.size:=by simp[World.setCell]
 have v:=u.below (A5 _ (B7 k p c y x));have l:=N5 (a.setCell ⟨b,3,none⟩ (.bool (bad||!A7 s i' 62))) k p c y x;rw[f]at l;have r:=sQd (G':=fun j=>B8 W2 e j\/j=a.heap.size) q (W':=(a.setCell ⟨b,3,none⟩ (.bool (bad||!A7 s i' 62))).alloc (B7 k p c y x)) (fun j d=>⟨.inl d,by
  have o:=d.1;have h:=d.2;rw[Below.heap_alloc _ _ _ (by rw[f];omega),Below.heap_setCell _ _ _ _ (by show j≠b;omega),g.block (by simp;omega) (by omega),Below.heap_alloc _ _ _ h]⟩) (.inr rfl) l
 refine P3 r ?_ ?_ ?_ ?_ ?_
 ·split<;>omega
 ·cases t:A7 s i' 62 with
  | false=>simp;omega
  | true=>have:=(D9 t).1;simp;omega
 ·split<;>omega
 ·exact v
 ·rintro j (d|rfl)
  ·have o:=d.1
   have h:=d.2;exact⟨by omega,by rw[World.size_alloc,f];omega⟩
  ·refine⟨?_,by rw[World.size_alloc,f];omega⟩
   have:=n.res.lt;exact this
theorem zQb (s:By)(hs:s.size<=1048576)(hD:D<=12)(hL:aQn s (D+1))(i z:Nat)(a7:PB w pb s i z false)(hi:i<s.size)(hz:z<=1048576+i)(R:nx s i=60) :
  Calls Tryz.prog 108 #[Pt pb,Iv (D:Int)] w (LPost w pb s i z (fXk (pat (13-D)) (fXa (12-D)) (rest s i))):=by
 have N:Hid (fXk (pat (13-D)) (fXa (12-D)) (rest s i)=cQa (fXa (12-D) (rest s (i+1)))):=by
  show _=_;rw[D4 hi,R];rfl
 have Hc:Hid _:=R;have c5:=a7.lt;have c3:¬w.heap.size=pb:=by omega
 have c4:¬pb=w.heap.size:=by omega
 have S:=St.start a7;go_enter Tryz.func108,Tryz.ntmps108;go_wp2_with fail;refine(G5 i pb s z false _ S.left.lies (by omega) (by omega)).mono ?_;rw[Hc.out];rintro a6 w1 ⟨rfl,b7⟩;have T:=S.below b7;have U:=(T.set1 (i+1)).set2 (z+1);have⟨F,G,H,I,J,K,o,q,r,t,u,x,g,B⟩:=T.cells;have Q:=hL pb (i+1) (z+1) _ U.left.lies (by omega) (by omega);rw[show ((D+1:Nat):Int)=(D:Int)+1 from by omega,show 13-(D+1)=12-D from by omega]at Q;have Y:Hid _:=U;go_wp2_with fail;refine Q.mono ?_;rintro a6 m b2;obtain⟨k,p,c,h,j,l,d,e,f,C,X,P,rfl,b8,b9,c0,a9,a8⟩:=b2.mid (fun c7 c8 hr=>gXx _ _ _ _ hr) (by omega);have V:=Y.out.next a9;have b3:=V.below (A5 m (B7 k p c (.slice h j l) (.slice d e f)));have b0:=N5 m k p c (.slice h j l) (.slice d e f);have c1:=Y.out.res.lt;have c6:=V.left.lies.lt;have O:Hid _:=b3;have b5:Hid (CaseL m (B8 ((w1.setCell ⟨pb,1,none⟩ (Iv ((i+1:Nat):Int))).setCell ⟨pb,2,none⟩ (Iv ((z+1:Nat):Int))) m) (fXa (12-D) (rest s (i+1))) s (z+1) C X P k p c (.slice h j l) (.slice d e f)):=a8;have b6:Hid (LiesL (m.alloc (B7 k p c (.slice h j l) (.slice d e f))) m.heap.size [Iv k,Iv p.kind,Sv p.signs,.slice h j l,Sv c,.slice d e f]):=b0;clear V b3 a8 a9 b0;go_wp2_with fail;refine(O5 C 62 pb s X P _ O.out.left.lies (by omega) (by omega)).mono ?_;rintro a6 a ⟨rfl,L⟩;have W:=O.out.next L;have c2:=L.grown.size;simp at c2;have b1:=b6.out.of_block (L.block (by simp) (by omega));have y:Hid (∀b:Bool,LiesL (a.setCell ⟨pb,3,none⟩ (.bool b)) (Hz m) [Iv k,Iv p.kind,Sv p.signs,.slice h j l,Sv c,.slice d e f]):=fun b=>b1.of_block (Below.heap_setCell _ _ _ _ (by show m.heap.size≠pb;omega));have A:Hid (∀b:Bool,St w pb s (if A7 s C 62=true then C+1 else C) X b ((a.setCell ⟨pb,3,none⟩ (.bool b)).alloc (B7 k p c (.slice h j l) (.slice d e f)))):=fun b=>(W.set3 b).below (A5 _ _);obtain⟨F,G,H,I,J,K,-,-,-,-,-,-,-,B⟩:=W.cells;have n:Hid _:=wQk b5.out O.out L c1 b8 b9 c0;clear W L b1 B;cases P with
 | true=>
  go_upto_region 25 with (fail);have⟨a0,a1,a2,a3,a4,a5⟩:=(y.out true).six;obtain⟨-,-,-,-,-,-,o,q,r,t,u,x,g,B⟩:=(A.out true).cells;have g0:=g 0;have g1:=g 1;have g2:=g 2;have g3:=g 3;have g4:=g 4;have g5:=g 5;clear g F G H I J K;have b4:(a.setCell ⟨pb,3,none⟩ (.bool true)).heap.size=a.heap.size:=by simp[World.setCell]
  have E:Hid (LPost w pb s i z (cQa (fXa (12-D) (rest s (i+1)))) (.returned (E0 7 nN [] Zl (Sl (Hz a) 1 1))) (set6 ((a.setCell ⟨pb,3,none⟩ (.bool true)).alloc (B7 k p c (.slice h j l) (.slice d e f))) (Hz w) 7 nN [] Zl (Sl (Hz a) 1 1))):=n.out;clear n A y;generalize a.setCell ⟨pb,3,none⟩ (.bool true)=Z at *;go_wp2_with fail;rw[N.out];exact bodyPost_ret (v:=E0 7 nN [] Zl (Sl (Hz a) 1 1)) (by simp[results,Tryz.results108,go_sem,o,q,r,t,u,x,nN]) rfl E.out
 | false=>
  cases M:A7 s C 62 with
  | false=>
   rw[M]at n;clear M;go_upto_region 25 with (fail);have⟨a0,a1,a2,a3,a4,a5⟩:=(y.out true).six;obtain⟨-,-,-,-,-,-,o,q,r,t,u,x,g,B⟩:=(A.out true).cells;have g0:=g 0;have g1:=g 1;have g2:=g 2;have g3:=g 3;have g4:=g 4;have g5:=g 5;clear g F G H I J K;have b4:(a.setCell ⟨pb,3,none⟩ (.bool true)).heap.size=a.heap.size:=by simp[World.setCell]
   have E:Hid (LPost w pb s i z (cQa (fXa (12-D) (rest s (i+1)))) (.returned (E0 7 nN [] Zl (Sl (Hz a) 1 1))) (set6 ((a.setCell ⟨pb,3,none⟩ (.bool true)).alloc (B7 k p c (.slice h j l) (.slice d e f))) (Hz w) 7 nN [] Zl (Sl (Hz a) 1 1))):=n.out;clear n A y;generalize a.setCell ⟨pb,3,none⟩ (.bool true)=Z at *;go_wp2_with fail;rw[N.out];exact bodyPost_ret (v:=E0 7 nN [] Zl (Sl (Hz a) 1 1)) (by simp[results,Tryz.results108,go_sem,o,q,r,t,u,x,nN]) rfl E.out
  | true=>
   rw[M]at n;clear M;go_upto_region 25 with (fail);have⟨a0,a1,a2,a3,a4,a5⟩:=(y.out false).six;obtain⟨-,-,-,-,-,-,o,q,r,t,u,x,g,B⟩:=(A.out false).cells;have g0:=g 0;have g1:=g 1;have g2:=g 2;have g3:=g 3;have g4:=g 4;have g5:=g 5;clear g F G H I J K;have b4:(a.setCell ⟨pb,3,none⟩ (.bool false)).heap.size=a.heap.size:=by simp[World.setCell]
   have E:Hid (LPost w pb s i z (cQa (fXa (12-D) (rest s (i+1)))) (.returned (E0 7 nN [] Zl (Sl (Hz a) 1 1))) (set6 ((a.setCell ⟨pb,3,none⟩ (.bool false)).alloc (B7 k p c (.slice h j l) (.slice d e f))) (Hz w) 7 nN [] Zl (Sl (Hz a) 1 1))):=n.out;clear n A y;generalize a.setCell ⟨pb,3,none⟩ (.bool false)=Z at *;go_wp2_with fail;rw[N.out];exact bodyPost_ret (v:=E0 7 nN [] Zl (Sl (Hz a) 1 1)) (by simp[results,Tryz.results108,go_sem,o,q,r,t,u,x,nN]) rfl E.out
abbrev E1 (a:Ln)(b1:Option Addr)(b2 b3:Nat)(t1:Option Addr)(t2 t3:Nat):Value:=F0 a (.slice b1 b2 b3) (.slice t1 t2 t3)
abbrev lo (k:Nat)(p:Ls.D)(ws:Lu)(y1:Option Addr)(y2 y3 g n:Nat):Obj:=B7 k (eX5 p) ws (.slice y1 y2 y3) (.slice (some ⟨g,0,none⟩) n n)
abbrev eX4 (k:Nat)(p:Ls.D)(ws:Lu)(y1:Option Addr)(y2 y3 g n:Nat):List Value:=[.int .i64 k,.int .i64 (eX5 p).kind,.string ⟨(eX5 p).signs.toArray⟩,.slice y1 y2 y3,.string ⟨ws.toArray⟩,.slice (some ⟨g,0,none⟩) n n]
abbrev eQ7 (k:Nat)(p:Ls.D)(ws:Lu)(y1:Option Addr)(y2 y3 g n:Nat):Value:=.agg #[.int .i64 k,.int .i64 (eX5 p).kind,.string ⟨(eX5 p).signs.toArray⟩,.slice y1 y2 y3,.string ⟨ws.toArray⟩,.slice (some ⟨g,0,none⟩) n n]
abbrev sx (w:World)(g:Nat)(a:Ln)(b1:Option Addr)(b2 b3:Nat)(t1:Option Addr)(t2 t3:Nat):Prop:=Ce w g 0 (.int .i64 a.kind)/\Ce w g 1 (.int .i64 (eX5 a.p).kind)/\Ce w g 2 (.string ⟨(eX5 a.p).signs.toArray⟩)/\Ce w g 3 (.slice b1 b2 b3)/\Ce w g 4 (.string ⟨a.w.toArray⟩)/\Ce w g 5 (.slice t1 t2 t3)
abbrev tw (w:World)(g:Nat)(a b:Ln)(b1:Option Addr)(b2 b3:Nat)(t1:Option Addr)(t2 t3:Nat)(c1:Option Addr)(c2 c3:Nat)(f1:Option Addr)(f2 f3:Nat):Prop:=
 Ce w g 0 (.int .i64 a.kind)/\Ce w g 1 (.int .i64 (eX5 a.p).kind)/\Ce w g 2 (.string ⟨(eX5 a.p).signs.toArray⟩)/\Ce w g 3 (.slice b1 b2 b3)/\Ce w g 4 (.string ⟨a.w.toArray⟩)/\Ce w g 5 (.slice t1 t2 t3)/\
 Ce w g 6 (.int .i64 b.kind)/\Ce w g 7 (.int .i64 (eX5 b.p).kind)/\Ce w g 8 (.string ⟨(eX5 b.p).signs.toArray⟩)/\Ce w g 9 (.slice c1 c2 c3)/\Ce w g 10 (.string ⟨b.w.toArray⟩)/\Ce w g 11 (.slice f1 f2 f3)
theorem LiesL.sx {w:World}(h:LiesL w g (E4 a (.slice b1 b2 b3) (.slice t1 t2 t3))):sx w g a b1 b2 b3 t1 t2 t3:=⟨h.cell 0,h.cell 1,h.cell 2,h.cell 3,h.cell 4,h.cell 5⟩
theorem LiesL.tw {w:World}{b:Ln}{c:Option Addr}{d e:Nat}{f:Option Addr}{i j:Nat}(h:LiesL w g (E4 a (.slice b1 b2 b3) (.slice t1 t2 t3)++E4 b (.slice c d e) (.slice f i j))):tw w g a b b1 b2 b3 t1 t2 t3 c d e f i j:=
 ⟨h.cell 0,h.cell 1,h.cell 2,h.cell 3,h.cell 4,h.cell 5,h.cell 6,h.cell 7,h.cell 8,h.cell 9,h.cell 10,h.cell 11⟩
def L3 (Q:Lu->Rl)(t:Lu):Rl:=match Q t with
 | .none=>.none
 | some (a,u)=>
  if u.head?=some 126 then
   match Q u.tail with
   | .none=>.none
   | some (b,v)=>some (fXc a b,v)
  else some (a,u)
def R6 (r:Rl):Rl:=match r with
 | .none=>.none
 | some (a,u)=>if u.head?=some 41 then some (a,u.tail) else .none
theorem zQi (P:Lu->Rd)(Q:Lu->Rl)(t:Lu):fXk P Q (40::t)=S8 (R6 (L3 Q t)):=by
 show (match Q t with|.none=>(.none:Rl)|some (a,u)=>if u.head?=some 126 then (match Q u.tail with|.none=>.none|some (b,v)=>if v.head?=some 41 then some (fX9 (fXc a b) v.tail) else .none) else if u.head?=some 41 then some (fX9 a u.tail) else .none)=_;unfold L3;cases Q t with
 | none=>rfl
 | some x=>
  have⟨a,u⟩:=x;dsimp only
  by_cases h:u.head?=some 126
  ·rw[if_pos h,if_pos h]
   cases Q u.tail with
   | none=>rfl
   | some x=>
    have⟨b,v⟩:=x;dsimp only[R6]
    by_cases c:v.head?=some 41
    ·rw[if_pos c,if_pos c];rfl
    ·rw[if_neg c,if_neg c];rfl
  ·rw[if_neg h,if_neg h]
   dsimp only[R6]
   by_cases c:u.head?=some 41
   ·rw[if_pos c,if_pos c];rfl
   ·rw[if_neg c,if_neg c];rfl
theorem sQq {t:Lu}(h:Q t=.none):L3 Q t=.none:=by unfold L3;rw[h]
theorem sQr (h:Q (rest s i)=some (l,rest s i1))(hs:A7 s i1 126=false):L3 Q (rest s i)=some (l,rest s i1):=by
 unfold L3;rw[h];dsimp only
 rw[if_neg (by rw[C4,hs];simp)]
theorem jQq (h:Q (rest s i)=some (l,rest s i1))(hs:A7 s i1 126=true):L3 Q (rest s i)=match Q (rest s (i1+1)) with|.none=>.none|some (b,v)=>some (fXc l b,v):=by
 unfold L3;rw[h];dsimp only
 rw[if_pos (C4.2 hs),E7]
theorem jQk {k:Nat}{a:Lu}{x:Value}(h:CaseL W G res s z j zj false k p a y x)(hs:A7 s j 41=true):CaseL W G (R6 res) s z (j+1) zj false k p a y x:=by
 rcases h with⟨b,_⟩|⟨_,l,i,c,d,e,f,m,g⟩
 ·cases b
 ·refine .inr ⟨rfl,l,?_,c,d,e,f,by have:=(D9 hs).1;omega,g⟩
  rw[i];show (if (rest s j).head?=some 41 then _ else _)=_;rw[if_pos (C4.2 hs),E7]
theorem iQi {k:Nat}{c:Lu}{x:Value}(h:CaseL W G res s z j zj bad k p c y x)(hs:(bad||!A7 s j 41)=true):S8 (R6 res)=.none:=by
 rcases h with⟨_,a⟩|⟨rfl,l,a,_⟩
 ·rw[a];rfl
 ·rw[a]
  have b:A7 s j 41=false:=by simpa using hs
  show S8 (if (rest s j).head?=some 41 then _ else _)=_;rw[if_neg (by rw[C4,b];simp)];rfl
theorem LiesL.set {x:List Value}(h:LiesL W g x)(o:Nat)(v:Value):LiesL (W.setCell ⟨g,o,none⟩ v) g (x.set o v):=by
 unfold LiesL at h ⊢;simp[World.setCell,Array.getElem?_modify,h]
theorem LiesL.set6 {a b c d e f:Value}(h:LiesL W g [a,b,c,d,e,f])(k:Nat)(p:Pat)(i:Lu)(y x:Value):LiesL (set6 W g k p i y x) g [Iv k,Iv p.kind,Sv p.signs,y,Sv i,x]:=
 (((((h.set 0 _).set 1 _).set 2 _).set 3 _).set 4 _).set 5 _
theorem St.cell {w:World}{a:Nat}(h:St w a s i z bad W)(b:w.heap.size<g)(o:Nat)(v:Value):St w a s i z bad (W.setCell ⟨g,o,none⟩ v):=
 ⟨h.left.cellR (Nat.le_of_lt b) h.pl o v,h.res.of_block (Below.heap_setCell _ _ _ _ (by show w.heap.size≠g;omega)),h.pl⟩
theorem St.set6 {w:World}{b:Nat}(h:St w b s i z bad W)(a:w.heap.size<g)(k:Nat)(p:Pat)(c:Lu)(y x:Value):St w b s i z bad (set6 W g k p c y x):=
 (((((h.cell a 0 _).cell a 1 _).cell a 2 _).cell a 3 _).cell a 4 _).cell a 5 _
theorem fQo (W:World)(g:Nat)(p:Pat)(y:Value)(j:Nat)(a:j≠g):(set6 W g k p ws y x).heap[j]?=W.heap[j]?:=by
 show ((((((W.setCell _ _).setCell _ _).setCell _ _).setCell _ _).setCell _ _).setCell _ _).heap[j]?=_;rw[Below.heap_setCell _ _ _ _ a,Below.heap_setCell _ _ _ _ a,Below.heap_setCell _ _ _ _ a,Below.heap_setCell _ _ _ _ a,Below.heap_setCell _ _ _ _ a,Below.heap_setCell _ _ _ _ a]
theorem iQg (W:World)(g:Nat)(p:Pat)(y:Value):(set6 W g k p ws y x).heap.size=W.heap.size:=by simp[set6,World.setCell]
abbrev S2 (k:Nat)(p:Pat)(ws:Lu)(y x:Value)(k2:Nat)(p2:Pat)(ws2:Lu)(y2 x2:Value):Obj:=
 .cells #[.int .i64 k,.int .i64 p.kind,.string ⟨p.signs.toArray⟩,y,.string ⟨ws.toArray⟩,x,.int .i64 k2,.int .i64 p2.kind,.string ⟨p2.signs.toArray⟩,y2,.string ⟨ws2.toArray⟩,x2] 37
theorem lQe (p:Pat)(y:Value)(b:Nat)(a:Pat)(c:Lu)(e d:Value):LiesL (w.alloc (S2 k p ws y x b a c e d)) w.heap.size ([Iv k,Iv p.kind,Sv p.signs,y,Sv ws,x]++[Iv b,Iv a.kind,Sv a.signs,e,Sv c,d]):=
 bQg w ([Iv k,Iv p.kind,Sv p.signs,y,Sv ws,x]++[Iv b,Iv a.kind,Sv a.signs,e,Sv c,d])
theorem sQb {e:Nat->Prop}{q:Nat}{k:Nat}{n:Lu}{x:Value}{j:Nat}{b:Pat}{o:Lu}{d c:Value}
  (h:CaseL W G (Q (rest s i)) s z i1 q false k p n y x) (hs:A7 s i1 126=true) (t:CaseL W2 e (Q (rest s (i1+1))) s q i2 z2 bad j b o d c) (C:∀k,G k->G' k/\W'.heap[k]?=W.heap[k]?) (E:∀k,e k->G' k/\W'.heap[k]?=W2.heap[k]?) (u:G' g)
  (w:LiesL W' g ([Iv k,Iv p.kind,Sv p.signs,y,Sv n,x]++[Iv j,Iv b.kind,Sv b.signs,d,Sv o,c])) :
  CaseL W' G' (L3 Q (rest s i)) s z i2 z2 bad 4 nN [] (.slice none 0 0) (Sl g 2 2):=by
 rcases h with⟨r,_⟩|⟨_,l,f,rfl,rfl,rfl,rfl,F,A⟩
 ·cases r
 rcases t with⟨rfl,a⟩|⟨rfl,m,a,rfl,rfl,rfl,rfl,v,B⟩
 ·exact .inl ⟨rfl,by rw[jQq f hs,a]⟩
 ·refine .inr ⟨rfl,fXc l m,by rw[jQq f hs,a],rfl,fXm,rfl,by rw[hXh];omega,v,?_⟩
  show NV W' G' ⟨4,rnil,[],[l,m]⟩ Zl (Sl g 2 2);rw[NV,fXm];exact⟨R4 _ _ _ _,g,y,x,d,c,u,rfl,w,NV.mono C _ _ _ A,NV.mono E _ _ _ B⟩
end Go.Proofs.YtfklinjaajafgaaGreatDoor
