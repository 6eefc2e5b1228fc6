import Derived.Test.YtfklinjaajafgaaGreatDoorK22
import Derived.Test.YtfklinjaajafgaaGreatDoorK02
set_option maxRecDepth 100000
set_option maxHeartbeats 4000000
namespace Go.Proofs.YtfklinjaajafgaaGreatDoor
open Go.RowKit
variable {G G':Nat->Prop}{W W' w w':World}{bad:Bool}{e:Ending}{g i i' pb z z':Nat}{l:Ls.Ln}{p:Ls.Pat}{res:Ls.Rl}{s:ByteArray}{ws:List UInt8}{x:List Value}{y:Value}
abbrev E4 (l:Ls.Ln)(y z:Value):List Value:=[.int .i64 l.kind,.int .i64 (Ls.eX5 l.p).kind,.string ⟨(Ls.eX5 l.p).signs.toArray⟩,y,.string ⟨l.w.toArray⟩,z]
abbrev F0 (l:Ls.Ln)(y z:Value):Value:=.agg #[.int .i64 l.kind,.int .i64 (Ls.eX5 l.p).kind,.string ⟨(Ls.eX5 l.p).signs.toArray⟩,y,.string ⟨l.w.toArray⟩,z]
abbrev E0 (k:Nat)(p:Ls.Pat)(ws:List UInt8)(y z:Value):Value:=.agg #[.int .i64 k,.int .i64 p.kind,.string ⟨p.signs.toArray⟩,y,.string ⟨ws.toArray⟩,z]
def LiesL (w:World)(g:Nat)(x:List Value):Prop:=w.heap[g]?=some (.cells x.toArray 37 (0,0))
theorem LiesL.cell (h:LiesL w g x)(j:Nat):w.cell? ⟨g,j,none⟩=x[j]?:=by
  unfold LiesL at h;simp[World.cell?,h]
theorem LiesL.lt (h:LiesL w g x):g<w.heap.size:=(Array.getElem?_eq_some_iff.1 h).1
def NV (w:World)(G:Nat->Prop):Ls.Ln->Value->Value->Prop
  | ⟨_,p,_,[]⟩,y,z=>PV w G (Ls.eX5 p) y/\z=.slice none 0 0
  | ⟨_,p,_,[a]⟩,y,z=>PV w G (Ls.eX5 p) y/\∃g y1 z1,G g/\z=.slice (some ⟨g,0,none⟩) 1 1/\LiesL w g (E4 a y1 z1)/\NV w G a y1 z1
  | ⟨_,p,_,[a,b]⟩,y,z=>PV w G (Ls.eX5 p) y/\∃g y1 z1 y2 z2,G g/\z=.slice (some ⟨g,0,none⟩) 2 2/\LiesL w g (E4 a y1 z1++E4 b y2 z2)/\NV w G a y1 z1/\NV w G b y2 z2
  | _,_,_=>False
theorem NV.mono {w w':World}{G G':Nat->Prop}(c:∀k,G k->G' k/\w'.heap[k]?=w.heap[k]?):(l:Ls.Ln)->(y z:Value)->NV w G l y z->NV w' G' l y z
  | ⟨k,p,s,[]⟩,y,z,h=>by rw[NV]at h ⊢;exact⟨h.1.mono (fun k d=>(c k d).1) (fun k d=>(c k d).2),h.2⟩
  | ⟨k,p,s,[a]⟩,y,z,h=>by
    rw[NV]at h ⊢;obtain⟨m,g,i,j,e,n,f,o⟩:=h;exact⟨m.mono (fun k d=>(c k d).1) (fun k d=>(c k d).2),g,i,j,(c g e).1,n,by unfold LiesL at f ⊢;rw[(c g e).2];exact f,NV.mono c a i j o⟩
  | ⟨k,p,s,[a,b]⟩,y,z,h=>by
    rw[NV]at h ⊢;obtain⟨m,g,i,j,q,r,e,n,f,o,t⟩:=h;exact⟨m.mono (fun k d=>(c k d).1) (fun k d=>(c k d).2),g,i,j,q,r,(c g e).1,n,by unfold LiesL at f ⊢;rw[(c g e).2];exact f,NV.mono c a i j o,NV.mono c b q r t⟩
  | ⟨k,p,s,_::_::_::_⟩,y,z,h=>by simp[NV]at h
theorem NV.slices {w:World}{G:Nat->Prop}:(l:Ls.Ln)->(y z:Value)->NV w G l y z->(∃a n c,y=.slice a n c)/\∃a n c,z=.slice a n c
  | ⟨k,p,s,[]⟩,y,z,h=>by rw[NV]at h;exact⟨PV.slice _ _ h.1,_,_,_,h.2⟩
  | ⟨k,p,s,[a]⟩,y,z,h=>by rw[NV]at h;obtain⟨d,g,i,j,f,e,_⟩:=h;exact⟨PV.slice _ _ d,_,_,_,e⟩
  | ⟨k,p,s,[a,b]⟩,y,z,h=>by rw[NV]at h;obtain⟨d,g,i,j,m,o,f,e,_⟩:=h;exact⟨PV.slice _ _ d,_,_,_,e⟩
  | ⟨k,p,s,_::_::_::_⟩,y,z,h=>by simp[NV]at h
theorem NV.below {B:Nat}(d:Below B w w')(b:∀k,G k->k<B)(c:∀k,G k->G' k){z:Value}(h:NV w G l y z):NV w' G' l y z:=
  NV.mono (fun k a=>⟨c k a,d.block k (b k a)⟩) l y z h
def LPost (w:World)(pb:Nat)(s:ByteArray)(i z:Nat)(res:Ls.Rl):Ending->World->Prop:=fun e w'=>
  (∃l t y x,res=some (l,t)/\e=.returned (F0 l y x)/\NV w' (B8 w w') l y x/\Left w pb s (s.size-t.length) (z+Ls.eX7 l) false w')\/
  (res=.none/\∃k p ws y1 y2 y3 x1 x2 x3 i' z',e=.returned (E0 k p ws (.slice y1 y2 y3) (.slice x1 x2 x3))/\i<=i'/\i'<=s.size+1/\z'<=z+(i'-i)/\Left w pb s i' z' true w')
def gQc (s:ByteArray)(D:Nat):Prop:=∀(pb i z:Nat) (w:World),PB w pb s i z false->i<=s.size->z<=1048576+i->
  Ca 123 #[.pointer (some ⟨pb,0,none⟩),.int .i64 (D:Int)] w (PPost w pb s i z (Ls.fXj (Ls.pat (13-D)) (rest s i)))
theorem sQh {P:List UInt8->Ls.Rd}{r:List UInt8}(h:F8 (P r) s z i' z' bad p):F8 (Ls.fXj P r) s z (if A7 s i' 47=true then i'+1 else i') z' (bad||!A7 s i' 47) p:=by
  rcases h with⟨rfl,a⟩|⟨rfl,d,a,rfl,rfl,c⟩
  · exact .inl ⟨by simp,by rw[Ls.fXj,a]⟩
  · cases b:A7 s i' 47 with
    | false=>exact .inl ⟨by simp,by rw[Ls.fXj,a];dsimp only;rw[if_neg (by rw[C4,b];simp)]⟩
    | true=>exact .inr ⟨by simp,d,by rw[Ls.fXj,a];dsimp only;rw[if_pos (C4.2 b),E7];simp,rfl,rfl,by simp;exact(D9 b).1⟩
theorem cXq (s:ByteArray)(hs:s.size<=1048576)(D:Nat)(I:Y1 s D):gQc s D:=by
  intro g i z w h X hz;have Y:=h.lt;have N:¬w.heap.size=g:=by omega
  have a5:¬g=w.heap.size:=by omega
  have U:Hid (Y1 s D):=I;clear I;go_enter Tryz.func123,Tryz.ntmps123;go_wp2_with fail;refine(U.out g i z _ (h.below (A5 _ _)) X hz).mono ?_;rintro e d O;obtain⟨p,l,m,n,c,E,G,rfl,Q,a3,a4,a8,A,J⟩:=O.mid (fun a2 t P=>⟨Ls.hXa _ _ _ _ P,Ls.hXk _ _ _ _ P⟩) (by omega);clear O;have F:Hid _:=sQh J;have L:=(Left.of_below h (A5 w (.cells #[Iv 0,.string ⟨#[]⟩,.slice none 0 0] 27))).trans A;have C:=(C7 w [Iv 0,.string ⟨#[]⟩,.slice none 0 0]).grown A.grown (by simp[N]);have a0:=C.lt;have u:Hid (∀k,B8 (w.alloc (.cells #[Iv 0,.string ⟨#[]⟩,.slice none 0 0] 27)) d k->w.heap.size<k/\k<d.heap.size):=fun k f=>by have y:=f.1;simp at y;exact⟨by omega,f.2⟩
  clear J A;go_wp2_with fail;have B:=L.below (A5 d (.cells #[Iv p.kind,Sv p.signs,.slice l m n] 27));refine(O5 c 47 g s E G _ B.lies (by omega) (by omega)).mono ?_;rintro e S ⟨rfl,j⟩;have r:=B.trans j;have a6:d.heap.size≠g:=by omega
  have a7:g≠d.heap.size:=by omega
  have M:=(C7 d (C2 p (.slice l m n))).grown j.grown (by simp;omega);have o:=(C.below (A5 d (.cells #[Iv p.kind,Sv p.signs,.slice l m n] 27)) a0).grown j.grown (by simp[N]);have R:PV S (B8 (w.alloc (.cells #[Iv 0,.string ⟨#[]⟩,.slice none 0 0] 27)) d) p (.slice l m n):=
    PV.mono (fun _ h=>h) (fun k f=>by
      have y:=u.out k f;rw[j.grown.block k (by simp;omega) (by simp;omega),Below.heap_alloc _ _ _ y.2]) _ _ Q
  have a1:=j.grown.size;simp at a1;obtain⟨m0,m1,m2⟩:=M.three;obtain⟨q0,q1,q2⟩:=o.three (a:=Ls.none);have g0:=o.fr 0;have g1:=o.fr 1;have g2:=o.fr 2;have c3:=r.lies.c3;have f3:=r.lies.fr 3;have q:i<=(if A7 s c 47=true then c+1 else c)/\(if A7 s c 47=true then c+1 else c)<=s.size+1/\E<=z+((if A7 s c 47=true then c+1 else c)-i):=by
    split
    · rename_i Z;have:=(D9 Z).1;omega
    · omega
  have K:=fun (b:Bool) (V:F8 (Ls.fXj (Ls.pat (13-D)) (rest s i)) s z (if A7 s c 47=true then c+1 else c) E b p)=>
    aQa (w:=w) (W:=S.setCell ⟨g,3,none⟩ (.bool b)) (x:=.slice l m n) V Y q.1 q.2.1 q.2.2 (r.set3 b) (H:=B8 (w.alloc (.cells #[Iv 0,.string ⟨#[]⟩,.slice none 0 0] 27)) d)
      (PV.mono (fun _ h=>h) (fun k f=>Below.heap_setCell _ _ _ _ (by have:=u.out k f;show k≠g;omega)) _ _ R) (fun k f=>by have:=u.out k f;simp[World.setCell];omega)
  have T:Hid _:=K _ F.out;clear K q F j r B L M o R Q C;generalize A7 s c 47=t at *;cases G<;>cases t<;>
    (go_wp2_with fail
     exact bodyPost_ret (v:=B4 p (.slice l m n)) (by simp[results,Tryz.results123,go_sem,q0,q1,q2]) rfl T.out)
theorem bQg (w:World)(x:List Value):LiesL (w.alloc (.cells x.toArray 37)) w.heap.size x:=by
  unfold LiesL;exact heap_alloc_new w _
theorem LiesL.six {a b c d e f:Value}(h:LiesL w g [a,b,c,d,e,f]) :
    Ce w g 0 a/\Ce w g 1 b/\Ce w g 2 c/\Ce w g 3 d/\Ce w g 4 e/\Ce w g 5 f:=
  ⟨h.cell 0,h.cell 1,h.cell 2,h.cell 3,h.cell 4,h.cell 5⟩
theorem LiesL.fr (h:LiesL w g x)(o:Nat):w.frozen? ⟨g,o,none⟩=false:=by
  unfold LiesL at h;simp[World.frozen?,h]
theorem LiesL.of_block (h:LiesL w g x)(a:w'.heap[g]?=w.heap[g]?):LiesL w' g x:=by unfold LiesL at h ⊢;rw[a];exact h
theorem Left.cellR {b:Bool}(h:Left w pb s i z b W)(e:w.heap.size<=g)(f:pb<w.heap.size)(o:Nat)(v:Value):Left w pb s i z b (W.setCell ⟨g,o,none⟩ v):=by
  refine⟨?_,⟨h.grown.os,h.grown.tape,h.grown.output,by simpa [World.setCell] using h.grown.size,fun k c d=>?_⟩⟩
  · have a:=h.lies
    unfold PB at a ⊢;rw[Below.heap_setCell _ _ _ _ (by show pb≠g;omega)];exact a
  · rw[Below.heap_setCell _ _ _ _ (by show k≠g;omega)];exact h.grown.block k c d
theorem NV.cellR {z:Value}(h:NV w G l y z)(b:∀k,G k->k≠g)(o:Nat)(v:Value):NV (w.setCell ⟨g,o,none⟩ v) G l y z:=
  NV.mono (fun k a=>⟨a,Below.heap_setCell _ _ _ _ (b k a)⟩) _ _ _ h
theorem NV.up {z:Value}(h:NV w G l y z)(a:∀k,G k->G' k):NV w G' l y z:=NV.mono (fun k b=>⟨a k b,rfl⟩) _ _ _ h
def S0 (s:ByteArray)(i:Nat)(l:Ls.Ln):Ls.Ln:=if A7 s i 42=true then Ls.hXb l else l
def iQv (w:World)(pb:Nat)(s:ByteArray)(i z:Nat)(bad:Bool)(k:Nat)(p:Ls.Pat)(ws:List UInt8)(y x:Value):Ending->World->Prop:=fun e w'=>
  ∃k' p' ws' v1 v2 v3 u1 u2 u3,e=.returned (E0 k' p' ws' (.slice v1 v2 v3) (.slice u1 u2 u3))/\
    (∀l:Ls.Ln,l.kind=k->Ls.eX5 l.p=p->l.w=ws->((S0 s i l).kind=k'/\Ls.eX5 (S0 s i l).p=p'/\(S0 s i l).w=ws')/\
      ∀G,Old w G->(∀k,G k->k≠pb)->NV w G l y x->NV w' (F5 G w w') (S0 s i l) (.slice v1 v2 v3) (.slice u1 u2 u3))/\Left w pb s (if A7 s i 42=true then i+1 else i) (if A7 s i 42=true then z+1 else z) bad w'
theorem gQj (s:ByteArray)(hs:s.size<=1048576)(d i z:Nat)(N:Bool)(w:World)(h:PB w d s i z N)(hi:i<=s.size+1)(hz:z<=4000000)(k:Nat)(p:Ls.Pat)(r:List UInt8)(m:Option Addr)(n o:Nat)(e:Option Addr)(f g:Nat) :
    Calls Tryz.prog 124 #[Pt d,E0 k p r (.slice m n o) (.slice e f g)] w (iQv w d s i z N k p r (.slice m n o) (.slice e f g)):=by
  have q:=h.lt;go_enter Tryz.func124,Tryz.ntmps124;go_wp2_with fail;have a6:=C6 w (.cells #[Iv k,Iv p.kind,Sv p.signs,.slice m n o,Sv r,.slice e f g] 37) (.cells #[Iv 0,Iv 0,.string ⟨#[]⟩,.slice none 0 0,.string ⟨#[]⟩,.slice none 0 0] 37);have T:=Left.of_below h a6;have b1:LiesL ((w.alloc (.cells #[Iv k,Iv p.kind,Sv p.signs,.slice m n o,Sv r,.slice e f g] 37)).alloc (.cells #[Iv 0,Iv 0,.string ⟨#[]⟩,.slice none 0 0,.string ⟨#[]⟩,.slice none 0 0] 37)) w.heap.size [Iv k,Iv p.kind,Sv p.signs,.slice m n o,Sv r,.slice e f g]:=(bQg w [Iv k,Iv p.kind,Sv p.signs,.slice m n o,Sv r,.slice e f g]).of_block (Below.heap_alloc _ _ _ (by simp));have X:=bQg (w.alloc (.cells #[Iv k,Iv p.kind,Sv p.signs,.slice m n o,Sv r,.slice e f g] 37)) [Iv 0,Iv 0,.string ⟨#[]⟩,.slice none 0 0,.string ⟨#[]⟩,.slice none 0 0];rw[World.size_alloc]at X;refine(O5 i 42 d s z N _ T.lies (by omega) (by omega)).mono ?_;rintro b8 c ⟨rfl,B⟩;have x:=T.trans B;have b7:=B.grown.size;simp at b7;have b2:=b1.of_block (B.grown.block w.heap.size (by simp;omega) (by simp;omega));have t:=X.of_block (B.grown.block (w.heap.size+1) (by simp) (by simp;omega));obtain⟨a0,a1,a2,a3,a4,a5⟩:=b2.six;obtain⟨H,I,J,K,L,M⟩:=t.six;have g0:=t.fr 0;have g1:=t.fr 1;have g2:=t.fr 2;have g3:=t.fr 3;have g4:=t.fr 4;have g5:=t.fr 5;have c2:=x.lies.c2;have f2:=x.lies.fr 2;have a7:∀j,j<w.heap.size->j≠d->c.heap[j]?=w.heap[j]?:=fun j b E=>(B.grown.block j (by simp;omega) (by simp;omega)).trans (a6.block j b);have Z:Hid _:=a7;clear B T b1 X a7;cases C:A7 s i 42 with
  | false=>
    have u:Hid (A7 s i 42=false):=C;rw[C]at x;clear C;go_wp2_with fail;refine bodyPost_ret (v:=E0 k p r (.slice m n o) (.slice e f g)) (by simp[results,Tryz.results124,go_sem,H,I,J,K,L,M]) rfl ⟨k,p,r,m,n,o,e,f,g,rfl,fun l O P Q=>?_,?_⟩
    · have S:S0 s i l=l:=by unfold S0;rw[if_neg (by rw[u.out];simp)]
      rw[S];refine⟨⟨O,P,Q⟩,fun G A E V=>?_⟩;have R:NV c G l (.slice m n o) (.slice e f g):=NV.mono (fun k b=>⟨b,Z.out k (A k b) (E k b)⟩) _ _ _ V;have a:∀k,G k->k≠w.heap.size+1:=fun k b=>by have:=A k b;omega
      exact((((((R.cellR a 0 _).cellR a 1 _).cellR a 2 _).cellR a 3 _).cellR a 4 _).cellR a 5 _).up (fun _ h=>.inl h)
    · rw[if_neg (by rw[u.out];simp),if_neg (by rw[u.out];simp)]
      rw[if_neg (by simp)]at x;have a:w.heap.size<=w.heap.size+1:=by omega
      exact(((((x.cellR a q 0 _).cellR a q 1 _).cellR a q 2 _).cellR a q 3 _).cellR a q 4 _).cellR a q 5 _
  | true=>
    have u:Hid (A7 s i 42=true):=C;rw[C]at x;clear C;clear H I J K L M g0 g1 g2 g3 g4 g5;have a8:((z+1:Nat):Int)=(z:Int)+1:=by omega
    have U:=x.set2 (z+1);rw[a8]at U;clear a8;have Y:=t.of_block (Below.heap_setCell c ⟨d,2,none⟩ (Iv ((z:Int)+1)) (w.heap.size+1) (by show w.heap.size+1≠d;omega));have F:=A5 (c.setCell ⟨d,2,none⟩ (Iv ((z:Int)+1))) (.cells #[Iv k,Iv p.kind,Sv p.signs,.slice m n o,Sv r,.slice e f g] 37);have a9:=U.below F;have y:=Y.of_block (F.block _ Y.lt);obtain⟨H,I,J,K,L,M⟩:=y.six;have g0:=y.fr 0;have g1:=y.fr 1;have g2:=y.fr 2;have g3:=y.fr 3;have g4:=y.fr 4;have g5:=y.fr 5;have W:=bQg (c.setCell ⟨d,2,none⟩ (Iv ((z:Int)+1))) [Iv k,Iv p.kind,Sv p.signs,.slice m n o,Sv r,.slice e f g];have b3:(c.setCell ⟨d,2,none⟩ (Iv ((z:Int)+1))).heap.size=c.heap.size:=by simp[World.setCell]
    rw[b3]at W;have b6:Hid _:=W;have b5:Hid _:=a9;have b4:Hid _:=F;clear W a9 F U Y t b2;go_wp2_with fail;refine bodyPost_ret (v:=E0 6 Ls.none [] (.slice none 0 0) (Sl c.heap.size 1 1)) (by simp[results,Tryz.results124,go_sem,H,I,J,K,L,M,Ls.none]) rfl ⟨6,Ls.none,[],none,0,0,some ⟨c.heap.size,0,none⟩,1,1,rfl,fun l O P Q=>?_,?_⟩
    · have S:S0 s i l=Ls.hXb l:=by unfold S0;rw[if_pos u.out]
      rw[S];refine⟨⟨rfl,Ls.fXm,rfl⟩,fun G A E V=>?_⟩;subst O P Q;have a:∀k,(G k\/k=c.heap.size)->k≠w.heap.size+1:=fun k b=>by
        rcases b with b|b
        · have:=A k b;omega
        · omega
      have R:=NV.mono (G':=fun k=>G k\/k=c.heap.size) (fun k b=>⟨.inl b,(b4.out.block k (by rw[b3];have:=A k b;omega)).trans ((Below.heap_setCell c ⟨d,2,none⟩ (Iv ((z:Int)+1)) k (by show k≠d;exact E k b)).trans (Z.out k (A k b) (E k b)))⟩) _ _ _ V;have h3:NV ((c.setCell ⟨d,2,none⟩ (Iv ((z:Int)+1))).alloc (.cells #[Iv l.kind,Iv (Ls.eX5 l.p).kind,.string ⟨(Ls.eX5 l.p).signs.toArray⟩,.slice m n o,Sv l.w,.slice e f g] 37)) (fun k=>G k\/k=c.heap.size) (Ls.hXb l) (.slice none 0 0) (Sl c.heap.size 1 1):=by
        unfold Ls.hXb;rw[NV];exact⟨by rw[Ls.fXm];exact R4 _ _ _ _,c.heap.size,_,_,.inr rfl,rfl,b6.out,R⟩
      refine((((((h3.cellR a 0 _).cellR a 1 _).cellR a 2 _).cellR a 3 _).cellR a 4 _).cellR a 5 _).up (fun k b=>?_);rcases b with b|b
      · exact .inl b
      · exact .inr ⟨by omega,by simp[World.setCell];omega⟩
    · rw[if_pos u.out,if_pos u.out]
      have b0:=b5.out;rw[if_pos trivial]at b0;have a:w.heap.size<=w.heap.size+1:=by omega
      exact(((((b0.cellR a q 0 _).cellR a q 1 _).cellR a q 2 _).cellR a q 3 _).cellR a q 4 _).cellR a q 5 _
def CaseL (W:World)(G:Nat->Prop)(res:Ls.Rl)(s:ByteArray)(z i' z':Nat)(bad:Bool)(k:Nat)(p:Ls.Pat)(ws:List UInt8)(y x:Value):Prop:=
 (bad=true/\res=.none)\/(bad=false/\∃l,res=some (l,rest s i')/\l.kind=k/\Ls.eX5 l.p=p/\l.w=ws/\z'=z+Ls.eX7 l/\i'<=s.size/\NV W G l y x)
theorem CaseL.mono {k:Nat}{x:Value}(h:CaseL W G res s z i' z' bad k p ws y x)(j:∀k,G k->G' k/\W'.heap[k]?=W.heap[k]?):CaseL W' G' res s z i' z' bad k p ws y x:=by
 rcases h with h|⟨a,l,b,c,d,e,f,g,i⟩
 ·exact .inl h
 ·exact .inr ⟨a,l,b,c,d,e,f,g,NV.mono j _ _ _ i⟩
theorem LPost.mid (h:LPost w pb s i z res e w')(F:∀l t,res=some (l,t)->t <:+ rest s i/\Ls.eX7 l+t.length<=(rest s i).length)(H:i<=s.size) :
  ∃k p q f g j b c d a m A,e=.returned (E0 k p q (.slice f g j) (.slice b c d))/\i<=a/\a<=s.size+1/\m<=z+(a-i)/\Left w pb s a m A w'/\CaseL w' (B8 w w') res s z a m A k p q (.slice f g j) (.slice b c d):=by
 rcases h with⟨l,t,y,x,o,u,B,v⟩|⟨o,k,p,q,f,g,j,b,c,d,a,m,u,n,r,C,v⟩
 ·obtain⟨n,r⟩:=F l t o
  have G:=dQq n;have E:=n.length_le;rw[F4]at E r;obtain⟨⟨f,g,j,rfl⟩,b,c,d,rfl⟩:=NV.slices _ _ _ B;exact⟨l.kind,Ls.eX5 l.p,l.w,f,g,j,b,c,d,s.size-t.length,z+Ls.eX7 l,false,u,by omega,by omega,by omega,v,.inr ⟨rfl,l,by rw[o,<-G],rfl,rfl,rfl,rfl,by omega,B⟩⟩
 ·exact⟨k,p,q,f,g,j,b,c,d,a,m,true,u,n,r,C,v,.inl ⟨rfl,o⟩⟩
abbrev cQj:List Value:=[.int .i64 0,.int .i64 0,.string ⟨#[]⟩,.slice none 0 0,.string ⟨#[]⟩,.slice none 0 0]
structure St (w:World)(pb:Nat)(s:ByteArray)(i z:Nat)(bad:Bool)(W:World):Prop where
 left:Left w pb s i z bad W
 res:LiesL W w.heap.size cQj
 pl:pb<w.heap.size
theorem St.start (h:PB w pb s i z bad):St w pb s i z bad (w.alloc (.cells #[Iv 0,Iv 0,.string ⟨#[]⟩,.slice none 0 0,.string ⟨#[]⟩,.slice none 0 0] 37)):=
 ⟨Left.of_below h (A5 _ _),bQg w cQj,h.lt⟩
theorem St.next {a:Bool}(h:St w pb s i z bad W)(b:Left W pb s i' z' a W'):St w pb s i' z' a W':=by
 have c:=h.pl;exact⟨h.left.trans b,h.res.of_block (b.grown.block _ h.res.lt (by simp;omega)),h.pl⟩
theorem St.below (h:St w pb s i z bad W)(a:Bw W W'):St w pb s i z bad W':=h.next (Left.of_below h.left.lies a)
theorem St.set1 (h:St w pb s i z bad W)(a:Nat):St w pb s a z bad (W.setCell ⟨pb,1,none⟩ (Iv a)):=h.next ((Left.of_below h.left.lies Br).set1 a)
theorem St.set2 (h:St w pb s i z bad W)(a:Nat):St w pb s i a bad (W.setCell ⟨pb,2,none⟩ (Iv a)):=h.next ((Left.of_below h.left.lies Br).set2 a)
theorem St.set3 (h:St w pb s i z bad W)(b:Bool):St w pb s i z b (W.setCell ⟨pb,3,none⟩ (.bool b)):=h.next ((Left.of_below h.left.lies Br).set3 b)
structure Cells (w W:World)(pb:Nat)(s:ByteArray)(i z:Nat)(bad:Bool):Prop where
 c1:Ce W pb 1 (.int .i64 i)
 c2:Ce W pb 2 (.int .i64 z)
 c3:Ce W pb 3 (.bool bad)
 f1:W.frozen? ⟨pb,1,none⟩=false
 f2:W.frozen? ⟨pb,2,none⟩=false
 f3:W.frozen? ⟨pb,3,none⟩=false
 q0:Ce W w.heap.size 0 (.int .i64 0)
 q1:Ce W w.heap.size 1 (.int .i64 0)
 q2:Ce W w.heap.size 2 (.string ⟨#[]⟩)
 q3:Ce W w.heap.size 3 (.slice none 0 0)
 q4:Ce W w.heap.size 4 (.string ⟨#[]⟩)
 q5:Ce W w.heap.size 5 (.slice none 0 0)
 g:∀o,W.frozen? ⟨w.heap.size,o,none⟩=false
 lt:w.heap.size<W.heap.size
theorem St.cells (h:St w pb s i z bad W):Cells w W pb s i z bad:=by
 obtain⟨a,b,c,d,e,f⟩:=h.res.six;exact⟨h.left.lies.c1,h.left.lies.c2,h.left.lies.c3,h.left.lies.fr 1,h.left.lies.fr 2,h.left.lies.fr 3,a,b,c,d,e,f,h.res.fr,h.res.lt⟩
abbrev set6 (W:World)(g:Nat)(k:Nat)(p:Ls.Pat)(ws:List UInt8)(y x:Value):World:=
 (((((W.setCell ⟨g,0,none⟩ (.int .i64 k)).setCell ⟨g,1,none⟩ (.int .i64 p.kind)).setCell ⟨g,2,none⟩ (.string ⟨p.signs.toArray⟩)).setCell ⟨g,3,none⟩ y).setCell ⟨g,4,none⟩ (.string ⟨ws.toArray⟩)).setCell ⟨g,5,none⟩ x
theorem P3 {k:Nat}{g:Option Addr}{h j:Nat}{d:Option Addr}{e f:Nat}{H:Nat->Prop}(x:CaseL W H res s z i' z' bad k p ws (.slice g h j) (.slice d e f))(t:i<=i')(u:i'<=s.size+1)(v:z'<=z+(i'-i))
  (q:St w pb s i' z' bad W) (n:∀k,H k->w.heap.size<k/\k<W.heap.size) :
  LPost w pb s i z res (.returned (E0 k p ws (.slice g h j) (.slice d e f))) (set6 W w.heap.size k p ws (.slice g h j) (.slice d e f)):=by
 have c:=q.pl;have a:w.heap.size<=w.heap.size:=Nat.le_refl _;have r:=(((((q.left.cellR a c 0 (Iv k)).cellR a c 1 (Iv p.kind)).cellR a c 2 (Sv p.signs)).cellR a c 3 (.slice g h j)).cellR a c 4 (Sv ws)).cellR a c 5 (.slice d e f);rcases x with⟨rfl,o⟩|⟨rfl,l,o,rfl,rfl,rfl,rfl,B,y⟩
 ·exact .inr ⟨o,k,p,ws,g,h,j,d,e,f,i',z',rfl,t,u,v,r⟩
 ·have b:∀k,H k->k≠w.heap.size:=fun k m=>by have:=n k m;omega
  have A:=(((((y.cellR b 0 (Iv l.kind)).cellR b 1 (Iv (Ls.eX5 l.p).kind)).cellR b 2 (.string ⟨(Ls.eX5 l.p).signs.toArray⟩)).cellR b 3 (.slice g h j)).cellR b 4 (Sv l.w)).cellR b 5 (.slice d e f);refine .inl ⟨l,rest s i',_,_,o,rfl,A.up (fun k m=>⟨Nat.le_of_lt (n k m).1,by simp[World.setCell];exact(n k m).2⟩),?_⟩;rw[F4,show s.size-(s.size-i')=i' by omega];exact r
theorem q8 (e:res=.none)(a:i<=i')(b:i'<=s.size+1)(c:z'<=z+(i'-i))(d:St w pb s i' z' true W) :
  LPost w pb s i z res (.returned (E0 0 Ls.none [] (.slice none 0 0) (.slice none 0 0))) (set6 W w.heap.size 0 Ls.none [] (.slice none 0 0) (.slice none 0 0)):=
 P3 (H:=fun _=>False) (.inl ⟨rfl,e⟩) a b c d (fun _ h=>h.elim)
def S8 (res:Ls.Rl):Ls.Rl:=match res with
 | .none=>.none
 | some (l,t)=>some (Ls.fX9 l t)
theorem qQx (s:ByteArray)(i:Nat)(l:Ls.Ln):Ls.fX9 l (rest s i)=(S0 s i l,rest s (if A7 s i 42=true then i+1 else i)):=by
 unfold Ls.fX9 S0;cases a:A7 s i 42 with
 | false=>rw[if_neg (by rw[C4,a];simp)];simp
 | true=>rw[if_pos (C4.2 a),E7];simp
theorem xQh (s:ByteArray)(i:Nat)(l:Ls.Ln):Ls.eX7 (S0 s i l)=if A7 s i 42=true then Ls.eX7 l+1 else Ls.eX7 l:=by
 unfold S0;split
 ·exact Ls.hXi l
 ·rfl
theorem gQo {k:Nat}{x:Value}(h:CaseL W G res s z i' z' bad k p ws y x)(ha:iQv W pb s i' z' bad k p ws y x e w')(C:Old W G)(J:∀k,G k->k≠pb) :
  ∃a b m g i j c d f,e=.returned (E0 a b m (.slice g i j) (.slice c d f))/\CaseL w' (F5 G W w') (S8 res) s z (if A7 s i' 42=true then i'+1 else i') (if A7 s i' 42=true then z'+1 else z') bad a b m (.slice g i j) (.slice c d f)/\
   Left W pb s (if A7 s i' 42=true then i'+1 else i') (if A7 s i' 42=true then z'+1 else z') bad w':=by
 obtain⟨a,b,m,g,i,j,c,d,f,F,E,H⟩:=ha;refine⟨a,b,m,g,i,j,c,d,f,F,?_,H⟩;rcases h with⟨n,o⟩|⟨n,l,o,u,v,w,L,A,B⟩
 ·exact .inl ⟨n,by rw[o];rfl⟩
 ·obtain⟨⟨q,r,t⟩,I⟩:=E l u v w
  refine .inr ⟨n,S0 s i' l,?_,q,r,t,?_,?_,I G C J B⟩
  ·rw[o]
   show some (Ls.fX9 l (rest s i'))=_;rw[qQx]
  ·rw[xQh]
   split<;>omega
  ·split
   ·rename_i K
    have:=(D9 K).1;omega
   ·exact A
def aQn (s:ByteArray)(D:Nat):Prop:=∀(pb i z:Nat) (w:World),PB w pb s i z false->i<=s.size->z<=1048576+i->
 Ca 46 #[.pointer (some ⟨pb,0,none⟩),.int .i64 (D:Int)] w (LPost w pb s i z (Ls.fXa (13-D) (rest s i)))
end Go.Proofs.YtfklinjaajafgaaGreatDoor
