import Derived.Test.YtfklinjaajafgaaGreatDoorK29
import Derived.Test.YtfklinjaajafgaaGreatDoorK26
import Derived.Test.YtfklinjaajafgaaGreatDoorK02
set_option maxRecDepth 100000
set_option maxHeartbeats 4000000
namespace Go.Proofs.YtfklinjaajafgaaGreatDoor
open Go.RowKit
variable {P:List UInt8->Ls.Rd}{Q:List UInt8->Ls.Rl}{i i1 n:Nat}{l:Ls.Ln}(s:ByteArray)(p:Ls.D)(ws:List UInt8)(D:Nat)(a:Ls.Ln)(w:World)(y:Value)
def dQv (s:ByteArray)(D n:Nat):Prop:=∀(pb i z:Nat) (w:World),PB w pb s i z false->i<=s.size->z<=1048576+i->(rest s i).length<n->
 Ca 46 #[.pointer (some ⟨pb,0,none⟩),.int .i64 (D:Int)] w (LPost w pb s i z (Ls.gXa (Ls.pat (13-D)) (Ls.fXa (12-D)) n (rest s i)))
theorem jQa {r:List UInt8}(h:Ls.fXe P Q (r.length+1) r=.none):Ls.gXa P Q (n+1) r=.none:=by rw[Ls.gXa,h]
theorem qQ6 {s:ByteArray}(h:Ls.fXe P Q ((rest s i).length+1) (rest s i)=some (l,rest s i1))(a:A7 s i1 124=false):Ls.gXa P Q (n+1) (rest s i)=some (l,rest s i1):=by
 rw[Ls.gXa,h];dsimp only
 rw[if_neg (by rw[C4,a];simp)]
theorem qQ8 {s:ByteArray}(h:Ls.fXe P Q ((rest s i).length+1) (rest s i)=some (l,rest s i1))(a:A7 s i1 124=true):Ls.gXa P Q (n+1) (rest s i)=fQy 5 l (Ls.gXa P Q n (rest s (i1+1))):=by
 rw[Ls.gXa,h];dsimp only
 rw[if_pos (C4.2 a),E7];cases Ls.gXa P Q n (rest s (i1+1)) with
 | none=>rfl
 | some x=>rfl
theorem wQ8 (B:(12:Int)<(D:Int))(a i z:Nat)(h:PB w a s i z false)(C:i<=s.size) :
  Calls Tryz.prog 46 #[Pt a,Iv (D:Int)] w (LPost w a s i z .none):=by
 have f:=h.lt;have F:¬w.heap.size=a:=by omega
 have G:¬a=w.heap.size:=by omega
 have d:(w.setCell ⟨a,3,none⟩ (.bool true)).heap.size=w.heap.size:=by simp[World.setCell]
 have c:St w a s i z true ((w.setCell ⟨a,3,none⟩ (.bool true)).alloc (.cells #[Iv 0,Iv 0,.string ⟨#[]⟩,.slice none 0 0,.string ⟨#[]⟩,.slice none 0 0] 37)):=
  ⟨((Left.of_below h Br).set3 true).below (A5 _ _),by have:=bQg (w.setCell ⟨a,3,none⟩ (.bool true)) cQj;rw[d]at this;exact this,f⟩
 have j:=h.c3;have e:=h.fr 3;have b:Hid _:=c;clear c h d;go_enter Tryz.func46,Tryz.ntmps46;go_upto_region 3 with (fail);clear j e;generalize (w.setCell ⟨a,3,none⟩ (.bool true)).alloc (.cells #[Iv 0,Iv 0,.string ⟨#[]⟩,.slice none 0 0,.string ⟨#[]⟩,.slice none 0 0] 37)=q at *;obtain⟨-,-,-,-,-,-,k,l,m,n,o,p,g,E⟩:=b.out.cells;have r:=g 0;have t:=g 1;have u:=g 2;have x:=g 3;have y:=g 4;have A:=g 5;clear g;go_wp2_with fail;exact bodyPost_ret (v:=E0 0 Ls.none [] (.slice none 0 0) (.slice none 0 0)) (by simp[results,Tryz.results46,go_sem,k,l,m,n,o,p,Ls.none]) rfl (q8 rfl (Nat.le_refl _) (by omega) (by omega) b.out)
theorem wQ6:aQn s 13:=fun b i z w h a _=>wQ8 s 13 w (by decide) b i z h a
theorem wQ7 (hs:s.size<=1048576)(n:Nat)(hD:D<=12)(hP:∀c8,bQr s D c8)(hN:dQv s D n):dQv s D (n+1):=by
 intro y i z w b0 hi hz hn;have d9:=b0.lt;have d7:¬w.heap.size=y:=by omega
 have d8:¬y=w.heap.size:=by omega
 have d0:¬(12:Int)<(D:Int):=by omega
 have Q:=St.start b0;have c2:Hid (dQv s D n):=hN;clear hN;go_enter Tryz.func46,Tryz.ntmps46;go_wp2_with fail;refine(hP ((rest s i).length+1) y i z _ Q.left.lies hi hz (Nat.lt_succ_self _)).mono ?_;rintro a9 d H;obtain⟨k,p,e,o,q,r,f,h,m,c,B,x,rfl,d1,d2,e2,b3,Z⟩:=H.mid (fun l t b=>Ls.iXx (Ls.hXl _) (Ls.gXx _) _ _ _ _ b) hi;have a8:Hid (x=false->(rest s c).length<=n):=fun hb=>by
  rcases Z with⟨P,_⟩|⟨_,l,b,_⟩
  ·rw[hb]at P;cases P
  ·have:=(Ls.iXx (Ls.hXl _) (Ls.gXx _) _ _ _ _ b).2
   omega
 clear H;have R:=Q.next b3;have b8:=R.below (A5 d (B7 k p e (.slice o q r) (.slice f h m)));have b5:=N5 d k p e (.slice o q r) (.slice f h m);have c6:=Q.res.lt;have e0:y<d.heap.size:=R.left.lies.lt;have d5:w.heap.size<d.heap.size:=R.res.lt;have Y:Hid _:=b8;have T:Hid (CaseL d (B8 (w.alloc (.cells #[Iv 0,Iv 0,.string ⟨#[]⟩,.slice none 0 0,.string ⟨#[]⟩,.slice none 0 0] 37)) d) (Ls.fXe (Ls.pat (13-D)) (Ls.fXa (12-D)) ((rest s i).length+1) (rest s i)) s z c B x k p e (.slice o q r) (.slice f h m)):=Z;have V:Hid (∀j,B8 (w.alloc (.cells #[Iv 0,Iv 0,.string ⟨#[]⟩,.slice none 0 0,.string ⟨#[]⟩,.slice none 0 0] 37)) d j->w.heap.size<j/\j<d.heap.size):=fun j E=>⟨by have:=E.1;omega,E.2⟩;generalize (B8 (w.alloc (.cells #[Iv 0,Iv 0,.string ⟨#[]⟩,.slice none 0 0,.string ⟨#[]⟩,.slice none 0 0] 37)) d)=O at T V;have a7:Hid (LiesL (d.alloc (B7 k p e (.slice o q r) (.slice f h m))) d.heap.size [Iv k,Iv p.kind,Sv p.signs,.slice o q r,Sv e,.slice f h m]):=b5;clear Q R b8 Z b3 b5 c6;go_wp2_with fail;refine(O5 c 124 y s B x _ Y.out.left.lies (by omega) (by omega)).mono ?_;rintro a9 A ⟨rfl,F⟩;have b9:=Y.out.next F;have c7:=F.grown.size;simp at c7;have X:Hid (LiesL A d.heap.size [Iv k,Iv p.kind,Sv p.signs,.slice o q r,Sv e,.slice f h m]):=a7.out.of_block (F.block (by simp) (by omega));have U:Hid (CaseL A O (Ls.fXe (Ls.pat (13-D)) (Ls.fXa (12-D)) ((rest s i).length+1) (rest s i)) s z c B x k p e (.slice o q r) (.slice f h m)):=T.out.mono (fun j E=>⟨E,by
  have e1:=V.out j E;rw[F.block (by simp;omega) (by omega),Below.heap_alloc _ _ _ e1.2]⟩)
 have W:Hid (∀t,O t->w.heap.size<t/\t<A.heap.size):=fun t ht=>by have:=V.out t ht;exact⟨by omega,by omega⟩
 have a:Hid (St w y s (if A7 s c 124=true then c+1 else c) B x A):=b9;clear b9 F a7 T Y;cases u:A7 s c 124 with
 | false=>
  rw[u]at a;simp only[Bool.false_eq_true,if_false]at a;have S:Hid (CaseL A O (Ls.gXa (Ls.pat (13-D)) (Ls.fXa (12-D)) (n+1) (rest s i)) s z c B x k p e (.slice o q r) (.slice f h m)):=by
   rcases U.out with⟨C,b⟩|⟨C,l,b,h2⟩
   ·exact .inl ⟨C,jQa b⟩
   ·exact .inr ⟨C,l,qQ6 b u,h2⟩
  clear u;obtain⟨-,-,c3,-,-,-,I,J,K,L,M,N,g,b7⟩:=a.out.cells;obtain⟨a0,a1,a2,a3,a4,a5⟩:=X.out.six;have g0:=g 0;have g1:=g 1;have g2:=g 2;have g3:=g 3;have g4:=g 4;have g5:=g 5;clear g;go_wp2_with fail;exact bodyPost_ret (v:=E0 k p e (.slice o q r) (.slice f h m)) (by simp[results,Tryz.results46,go_sem,I,J,K,L,M,N]) rfl (P3 S.out (by omega) (by omega) (by omega) a.out W.out)
 | true=>
  have d4:=(D9 u).1;rw[u]at a;simp only[if_true]at a;cases x with
  | true=>
   have S:Hid (CaseL A O (Ls.gXa (Ls.pat (13-D)) (Ls.fXa (12-D)) (n+1) (rest s i)) s z (c+1) B true k p e (.slice o q r) (.slice f h m)):=by
    rcases U.out with⟨C,b⟩|⟨P,_⟩
    ·exact .inl ⟨C,jQa b⟩
    ·cases P
   clear u;obtain⟨-,-,c3,-,-,-,I,J,K,L,M,N,g,b7⟩:=a.out.cells;obtain⟨a0,a1,a2,a3,a4,a5⟩:=X.out.six;have g0:=g 0;have g1:=g 1;have g2:=g 2;have g3:=g 3;have g4:=g 4;have g5:=g 5;clear g;go_wp2_with fail;exact bodyPost_ret (v:=E0 k p e (.slice o q r) (.slice f h m)) (by simp[results,Tryz.results46,go_sem,I,J,K,L,M,N]) rfl (P3 S.out (by omega) (by omega) (by omega) a.out W.out)
  | false=>
   have b4:(rest s (c+1)).length<n:=by
    have:=a8.out rfl;rw[F4]at this ⊢;omega
   have b1:=c2.out y (c+1) B A a.out.left.lies (by omega) (by omega) b4;have c4:Hid (A7 s c 124=true):=u;have c3:=a.out.cells.c3;have b7:=a.out.res.lt;clear u b4 a8;go_wp2_with fail;refine b1.mono ?_;clear b1;rintro a9 w7 H;obtain⟨kb,a6,wb,r1,r2,r3,t1,t2,t3,i2,z2,c9,rfl,d3,c5,e3,G,b2⟩:=H.mid (fun l t b=>Ls.kXd (Ls.hXl _) (Ls.gXx _) _ _ _ _ b) (by omega);clear H;have e4:=G.grown.size;have HE:Hid _:=lQ7 (i:=i) 5 U.out a.out G b2 W.out (fun l b=>qQ8 b c4.out) (by omega) c5 (by omega);have c0:=a.out.next G;have c1:=(c0.below (A5 w7 (B7 kb a6 wb (.slice r1 r2 r3) (.slice t1 t2 t3)))).below (A5 _ (S2 k p e (.slice o q r) (.slice f h m) kb a6 wb (.slice r1 r2 r3) (.slice t1 t2 t3)));have b6:=(X.out.of_block (G.block (by omega) (by omega))).of_block ((A5 w7 (B7 kb a6 wb (.slice r1 r2 r3) (.slice t1 t2 t3))).block _ (by omega));obtain⟨-,-,-,-,-,-,I,J,K,L,M,N,g,d6⟩:=c1.cells;obtain⟨a0,a1,a2,a3,a4,a5⟩:=b6.six;have g0:=g 0;have g1:=g 1;have g2:=g 2;have g3:=g 3;have g4:=g 4;have g5:=g 5;clear c0 c1 b6 G b2 g;go_wp2_with fail;exact bodyPost_ret (v:=E0 5 Ls.none [] (.slice none 0 0) (.slice (some ⟨w7.heap.size+1,0,none⟩) 2 2)) (by simp[results,Tryz.results46,go_sem,I,J,K,L,M,N,Ls.none]) rfl HE.out
theorem lQb (s:ByteArray)(hs:s.size<=1048576)(D:Nat)(a:D<=12)(b:∀m,bQr s D m):∀n,dQv s D n
 | 0=>fun _ _ _ _ _ _ _ h=>absurd h (Nat.not_lt_zero _)
 | n+1=>wQ7 s D hs n a b (lQb s hs D a b n)
theorem wQ9 (hs:s.size<=1048576)(a:D<=12)(c:Y1 s D)(b:aQn s (D+1)):aQn s D:=by
 intro f i z w h d e;have:=lQb s hs D a (mQc s hs D (yQ5 D s hs a c b)) ((rest s i).length+1) f i z w h d e (Nat.lt_succ_self _);rw[show 13-D=(12-D)+1 by omega]at this ⊢;exact this
theorem kQ9 (s:ByteArray)(hs:s.size<=1048576):∀m,m<=13->aQn s (13-m)
 | 0,_=>wQ6 s
 | m+1,hm=>by
  have a:=kQ9 s hs m (by omega);have e:13-m=13-(m+1)+1:=by omega
  rw[e]at a;exact wQ9 s (13-(m+1)) hs (by omega) (mQf s hs (m+1) hm) a
def J5 (w:World)(G:Nat->Prop)(p:Ls.Pat):Ending->World->Prop:=fun e w'=>∃v,e=.returned (B4 p v)/\PV w' (F5 G w w') p v/\Bw w w'
def D8 (l:Ls.Ln):Prop:=∀(y x:Value) (w:World) (G:Nat->Prop),Old w G->NV w G l y x->Ca 51 #[F0 l y x] w (J5 w G (Ls.eX8 l))
def D7 (l:Ls.Ln):Prop:=∀(y x:Value) (w:World) (G:Nat->Prop),Old w G->NV w G l y x->Ca 53 #[F0 l y x] w (J5 w G (Ls.eX6 l))
abbrev C1 (p:Ls.Pat)(y:Value):Obj:=.cells #[.int .i64 p.kind,.string ⟨p.signs.toArray⟩,y] 27
abbrev F3:Obj:=.cells #[.int .i64 0,.string ⟨#[]⟩,.slice none 0 0] 27
abbrev set3 (W:World)(g:Nat)(p:Ls.Pat)(y:Value):World:=((W.setCell ⟨g,0,none⟩ (.int .i64 p.kind)).setCell ⟨g,1,none⟩ (.string ⟨p.signs.toArray⟩)).setCell ⟨g,2,none⟩ y
theorem dQk (W:World)(g:Nat)(p:Ls.Pat)(j:Nat)(a:j≠g):(set3 W g p y).heap[j]?=W.heap[j]?:=by
 show (((W.setCell _ _).setCell _ _).setCell _ _).heap[j]?=_;rw[Below.heap_setCell _ _ _ _ a,Below.heap_setCell _ _ _ _ a,Below.heap_setCell _ _ _ _ a]
theorem T5 {w W:World}{G H:Nat->Prop}{p:Ls.Pat}{v:Value}{g:Nat}(a:w.heap.size<=g)(e:PV W H p v)(d:Bw w W)(c:∀k,H k->k≠g/\(G k\/(w.heap.size<=k/\k<W.heap.size))):J5 w G p (.returned (B4 p v)) (set3 W g p v):=by
 refine⟨v,rfl,PV.mono (fun k b=>?_) (fun k b=>dQk _ _ _ _ _ (c k b).1) _ _ e,((d.setCell a _).setCell a _).setCell a _⟩;rcases (c k b).2 with h|h
 ·exact .inl h
 ·exact .inr ⟨h.1,by simp[World.setCell];exact h.2⟩
theorem X8 (k:Nat)(p:Ls.Pat)(x:Value):LiesL ((w.alloc (B7 k p ws y x)).alloc F3) w.heap.size [Iv k,Iv p.kind,Sv p.signs,y,Sv ws,x]/\Lies ((w.alloc (B7 k p ws y x)).alloc F3) (w.heap.size+1) [Iv 0,.string ⟨#[]⟩,.slice none 0 0]:=by
 refine⟨(N5 w k p ws y x).of_block (Below.heap_alloc _ _ _ (by simp)),?_⟩;have:=C7 (w.alloc (B7 k p ws y x)) [Iv 0,.string ⟨#[]⟩,.slice none 0 0];rw[World.size_alloc]at this;exact this
theorem pQc:D8 ⟨0,p,ws,[]⟩:=by
 intro y x w G i h;rw[NV]at h;obtain⟨d,rfl⟩:=h;obtain⟨a,b,c,rfl⟩:=PV.slice _ _ d;have f:Ls.eX8 ⟨0,p,ws,[]⟩=Ls.eX5 p:=by simp[Ls.eX8]
 have e:=C6 w (B7 0 (Ls.eX5 p) ws (.slice a b c) (.slice none 0 0)) (C1 (Ls.eX5 p) (.slice a b c));have g:Hid (J5 w G (Ls.eX5 p) (.returned (B4 (Ls.eX5 p) (.slice a b c))) ((w.alloc (B7 0 (Ls.eX5 p) ws (.slice a b c) (.slice none 0 0))).alloc (C1 (Ls.eX5 p) (.slice a b c)))):=⟨_,rfl,d.below e (fun k j=>i k j) (fun _ h=>.inl h),e⟩;rw[f];clear d f;go_enter Tryz.func51,Tryz.ntmps51;go_wp2_with fail;exact bodyPost_ret (v:=B4 (Ls.eX5 p) (.slice a b c)) (by simp[results,Tryz.results51,go_sem]) rfl g.out
theorem pQd:D8 ⟨1,p,ws,[]⟩:=by
 intro y x w G i h;rw[NV]at h;obtain⟨d,rfl⟩:=h;obtain⟨a,b,c,rfl⟩:=PV.slice _ _ d;have f:Ls.eX8 ⟨1,p,ws,[]⟩=Ls.eX5 p:=by simp[Ls.eX8]
 have e:=C6 w (B7 1 (Ls.eX5 p) ws (.slice a b c) (.slice none 0 0)) (C1 (Ls.eX5 p) (.slice a b c));have g:Hid (J5 w G (Ls.eX5 p) (.returned (B4 (Ls.eX5 p) (.slice a b c))) ((w.alloc (B7 1 (Ls.eX5 p) ws (.slice a b c) (.slice none 0 0))).alloc (C1 (Ls.eX5 p) (.slice a b c)))):=⟨_,rfl,d.below e (fun k j=>i k j) (fun _ h=>.inl h),e⟩;rw[f];clear d f;go_enter Tryz.func51,Tryz.ntmps51;go_wp2_with fail;exact bodyPost_ret (v:=B4 (Ls.eX5 p) (.slice a b c)) (by simp[results,Tryz.results51,go_sem]) rfl g.out
theorem pQe:D8 ⟨2,p,ws,[]⟩:=by
 intro y x w G i h;rw[NV]at h;obtain⟨b,rfl⟩:=h;obtain⟨c,d,e,rfl⟩:=PV.slice _ _ b;have a:Ls.eX8 ⟨2,p,ws,[]⟩=Ls.none:=by simp[Ls.eX8]
 have g:=C6 w (B7 2 (Ls.eX5 p) ws (.slice c d e) (.slice none 0 0)) (C1 (Ls.none) (.slice none 0 0));have f:Hid (J5 w G (Ls.none) (.returned (B4 (Ls.none) (.slice none 0 0))) ((w.alloc (B7 2 (Ls.eX5 p) ws (.slice c d e) (.slice none 0 0))).alloc (C1 (Ls.none) (.slice none 0 0)))):=⟨_,rfl,R4 _ _ _ _,g⟩;rw[a];clear b a;go_enter Tryz.func51,Tryz.ntmps51;go_wp2_with fail;exact bodyPost_ret (v:=B4 (Ls.none) (.slice none 0 0)) (by simp[results,Tryz.results51,go_sem,Ls.none]) rfl f.out
theorem pQ3:D7 ⟨0,p,ws,[]⟩:=by
 intro y x w G i h;rw[NV]at h;obtain⟨d,rfl⟩:=h;obtain⟨a,b,c,rfl⟩:=PV.slice _ _ d;have f:Ls.eX6 ⟨0,p,ws,[]⟩=Ls.eX5 p:=by simp[Ls.eX6]
 have e:=C6 w (B7 0 (Ls.eX5 p) ws (.slice a b c) (.slice none 0 0)) (C1 (Ls.eX5 p) (.slice a b c));have g:Hid (J5 w G (Ls.eX5 p) (.returned (B4 (Ls.eX5 p) (.slice a b c))) ((w.alloc (B7 0 (Ls.eX5 p) ws (.slice a b c) (.slice none 0 0))).alloc (C1 (Ls.eX5 p) (.slice a b c)))):=⟨_,rfl,d.below e (fun k j=>i k j) (fun _ h=>.inl h),e⟩;rw[f];clear d f;go_enter Tryz.func53,Tryz.ntmps53;go_wp2_with fail;exact bodyPost_ret (v:=B4 (Ls.eX5 p) (.slice a b c)) (by simp[results,Tryz.results53,go_sem]) rfl g.out
theorem pQ4:D7 ⟨1,p,ws,[]⟩:=by
 intro y x w G i h;rw[NV]at h;obtain⟨b,rfl⟩:=h;obtain⟨c,d,e,rfl⟩:=PV.slice _ _ b;have a:Ls.eX6 ⟨1,p,ws,[]⟩=Ls.none:=by simp[Ls.eX6]
 have g:=C6 w (B7 1 (Ls.eX5 p) ws (.slice c d e) (.slice none 0 0)) (C1 (Ls.none) (.slice none 0 0));have f:Hid (J5 w G (Ls.none) (.returned (B4 (Ls.none) (.slice none 0 0))) ((w.alloc (B7 1 (Ls.eX5 p) ws (.slice c d e) (.slice none 0 0))).alloc (C1 (Ls.none) (.slice none 0 0)))):=⟨_,rfl,R4 _ _ _ _,g⟩;rw[a];clear b a;go_enter Tryz.func53,Tryz.ntmps53;go_wp2_with fail;exact bodyPost_ret (v:=B4 (Ls.none) (.slice none 0 0)) (by simp[results,Tryz.results53,go_sem,Ls.none]) rfl f.out
theorem pQi (ha:D8 a):D8 ⟨6,p,ws,[a]⟩:=by
 intro a6 a5 w G c h;rw[NV]at h;obtain⟨L,g,v1,u1,hg,rfl,I,t⟩:=h;obtain⟨n,o,q,rfl⟩:=PV.slice _ _ L;obtain⟨⟨b1,b2,b3,rfl⟩,d1,d2,d3,rfl⟩:=NV.slices _ _ _ t;have a2:=c g hg;have K:Ls.eX8 ⟨6,p,ws,[a]⟩=Ls.fXl (Ls.eX8 a):=by simp[Ls.eX8]
 rw[K];have f:=C6 w (lo 6 p ws n o q g 1) F3;obtain⟨H,J⟩:=X8 ws w (.slice n o q) 6 (Ls.eX5 p) (Sl g 1 1);have E:=ha _ _ _ G (fun j b=>Ll (c j b) f.size) (t.below f (fun j b=>c j b) (fun _ h=>h));obtain⟨P,Q,R,S,T,U⟩:=I.six;have C:Hid (Lies ((w.alloc (lo 6 p ws n o q g 1)).alloc F3) (w.heap.size+1) [Iv 0,.string ⟨#[]⟩,.slice none 0 0]):=J;have B:Hid _:=f;obtain⟨V,W,X,Y,Z,e5⟩:=H.six;clear L t I K H J f;go_enter Tryz.func51,Tryz.ntmps51;go_wp2_with fail;refine E.mono ?_;rintro e m ⟨v,rfl,u,i⟩;obtain⟨s1,s2,l,rfl⟩:=PV.slice _ _ u;have k:=A5 m (C1 (Ls.eX8 a) (.slice s1 s2 l));have a0:=i.size;simp at a0;have F:=aQ5 (.slice s1 s2 l) (Ls.eX8 a) _ (F5 G ((w.alloc (lo 6 p ws n o q g 1)).alloc F3) m) (fun j b=>by
  rcases b with b|b
  ·have:=c j b;simp;omega
  ·have:=b.2;simp;omega) (u.below k (fun j b=>by
  rcases b with b|b
  ·have:=c j b;omega
  ·exact b.2) (fun _ h=>h))
 have M:Hid (Bw w (m.alloc (C1 (Ls.eX8 a) (.slice s1 s2 l)))):=Bj (Bj B.out i) k;have O:Hid (Lies (m.alloc (C1 (Ls.eX8 a) (.slice s1 s2 l))) (w.heap.size+1) [Iv 0,.string ⟨#[]⟩,.slice none 0 0]):=(C.out.below i (by simp)).below k (by omega);clear u E V W X Y Z e5 P Q R S T U k i C B;go_wp2_with fail;refine F.mono ?_;rintro e w5 ⟨a4,rfl,x,s⟩;obtain⟨y,z,A,rfl⟩:=PV.slice _ _ x;have a1:=s.size;simp at a1;have d:=O.out.below s (by simp;omega);obtain⟨q0,q1,q2⟩:=d.three (a:=Ls.none);have g0:=d.fr 0;have g1:=d.fr 1;have g2:=d.fr 2;have a3:=d.lt;have N:Hid (J5 w G (Ls.fXl (Ls.eX8 a)) (.returned (B4 (Ls.fXl (Ls.eX8 a)) (.slice y z A))) (set3 w5 (w.heap.size+1) (Ls.fXl (Ls.eX8 a)) (.slice y z A))):=T5 (by omega) x (Bj M.out s) (fun j b=>by
  rcases b with (b|b)|b
  ·have:=c j b;exact⟨by omega,.inl b⟩
  ·have r:=b.1;have h2:=b.2;simp at r;exact⟨by omega,.inr ⟨by omega,by omega⟩⟩
  ·have r:=b.1;have h2:=b.2;simp at r;exact⟨by omega,.inr ⟨by omega,by omega⟩⟩)
 clear d x F;go_wp2_with fail;exact bodyPost_ret (v:=B4 (Ls.fXl (Ls.eX8 a)) (.slice y z A)) (by simp[results,Tryz.results51,go_sem,q0,q1,q2]) rfl N.out
theorem pQj (ha:D8 a):D8 ⟨7,p,ws,[a]⟩:=by
 intro a6 a5 w G c h;rw[NV]at h;obtain⟨L,g,v1,u1,hg,rfl,I,t⟩:=h;obtain⟨n,o,q,rfl⟩:=PV.slice _ _ L;obtain⟨⟨b1,b2,b3,rfl⟩,d1,d2,d3,rfl⟩:=NV.slices _ _ _ t;have a2:=c g hg;have K:Ls.eX8 ⟨7,p,ws,[a]⟩=Ls.fXl (Ls.eX8 a):=by simp[Ls.eX8]
 rw[K];have f:=C6 w (lo 7 p ws n o q g 1) F3;obtain⟨H,J⟩:=X8 ws w (.slice n o q) 7 (Ls.eX5 p) (Sl g 1 1);have E:=ha _ _ _ G (fun j b=>Ll (c j b) f.size) (t.below f (fun j b=>c j b) (fun _ h=>h));obtain⟨P,Q,R,S,T,U⟩:=I.six;have C:Hid (Lies ((w.alloc (lo 7 p ws n o q g 1)).alloc F3) (w.heap.size+1) [Iv 0,.string ⟨#[]⟩,.slice none 0 0]):=J;have B:Hid _:=f;obtain⟨V,W,X,Y,Z,e5⟩:=H.six;clear L t I K H J f;go_enter Tryz.func51,Tryz.ntmps51;go_wp2_with fail;refine E.mono ?_;rintro e m ⟨v,rfl,u,i⟩;obtain⟨s1,s2,l,rfl⟩:=PV.slice _ _ u;have k:=A5 m (C1 (Ls.eX8 a) (.slice s1 s2 l));have a0:=i.size;simp at a0;have F:=aQ5 (.slice s1 s2 l) (Ls.eX8 a) _ (F5 G ((w.alloc (lo 7 p ws n o q g 1)).alloc F3) m) (fun j b=>by
  rcases b with b|b
  ·have:=c j b;simp;omega
  ·have:=b.2;simp;omega) (u.below k (fun j b=>by
  rcases b with b|b
  ·have:=c j b;omega
  ·exact b.2) (fun _ h=>h))
 have M:Hid (Bw w (m.alloc (C1 (Ls.eX8 a) (.slice s1 s2 l)))):=Bj (Bj B.out i) k;have O:Hid (Lies (m.alloc (C1 (Ls.eX8 a) (.slice s1 s2 l))) (w.heap.size+1) [Iv 0,.string ⟨#[]⟩,.slice none 0 0]):=(C.out.below i (by simp)).below k (by omega);clear u E V W X Y Z e5 P Q R S T U k i C B;go_wp2_with fail;refine F.mono ?_;rintro e w5 ⟨a4,rfl,x,s⟩;obtain⟨y,z,A,rfl⟩:=PV.slice _ _ x;have a1:=s.size;simp at a1;have d:=O.out.below s (by simp;omega);obtain⟨q0,q1,q2⟩:=d.three (a:=Ls.none);have g0:=d.fr 0;have g1:=d.fr 1;have g2:=d.fr 2;have a3:=d.lt;have N:Hid (J5 w G (Ls.fXl (Ls.eX8 a)) (.returned (B4 (Ls.fXl (Ls.eX8 a)) (.slice y z A))) (set3 w5 (w.heap.size+1) (Ls.fXl (Ls.eX8 a)) (.slice y z A))):=T5 (by omega) x (Bj M.out s) (fun j b=>by
  rcases b with (b|b)|b
  ·have:=c j b;exact⟨by omega,.inl b⟩
  ·have r:=b.1;have h2:=b.2;simp at r;exact⟨by omega,.inr ⟨by omega,by omega⟩⟩
  ·have r:=b.1;have h2:=b.2;simp at r;exact⟨by omega,.inr ⟨by omega,by omega⟩⟩)
 clear d x F;go_wp2_with fail;exact bodyPost_ret (v:=B4 (Ls.fXl (Ls.eX8 a)) (.slice y z A)) (by simp[results,Tryz.results51,go_sem,q0,q1,q2]) rfl N.out
theorem pQ9 (ha:D7 a):D7 ⟨6,p,ws,[a]⟩:=by
 intro a6 a5 w G c h;rw[NV]at h;obtain⟨L,g,v1,u1,hg,rfl,I,t⟩:=h;obtain⟨n,o,q,rfl⟩:=PV.slice _ _ L;obtain⟨⟨b1,b2,b3,rfl⟩,d1,d2,d3,rfl⟩:=NV.slices _ _ _ t;have a2:=c g hg;have K:Ls.eX6 ⟨6,p,ws,[a]⟩=Ls.fXl (Ls.eX6 a):=by simp[Ls.eX6]
 rw[K];have f:=C6 w (lo 6 p ws n o q g 1) F3;obtain⟨H,J⟩:=X8 ws w (.slice n o q) 6 (Ls.eX5 p) (Sl g 1 1);have E:=ha _ _ _ G (fun j b=>Ll (c j b) f.size) (t.below f (fun j b=>c j b) (fun _ h=>h));obtain⟨P,Q,R,S,T,U⟩:=I.six;have C:Hid (Lies ((w.alloc (lo 6 p ws n o q g 1)).alloc F3) (w.heap.size+1) [Iv 0,.string ⟨#[]⟩,.slice none 0 0]):=J;have B:Hid _:=f;obtain⟨V,W,X,Y,Z,e5⟩:=H.six;clear L t I K H J f;go_enter Tryz.func53,Tryz.ntmps53;go_wp2_with fail;refine E.mono ?_;rintro e m ⟨v,rfl,u,i⟩;obtain⟨s1,s2,l,rfl⟩:=PV.slice _ _ u;have k:=A5 m (C1 (Ls.eX6 a) (.slice s1 s2 l));have a0:=i.size;simp at a0;have F:=aQ5 (.slice s1 s2 l) (Ls.eX6 a) _ (F5 G ((w.alloc (lo 6 p ws n o q g 1)).alloc F3) m) (fun j b=>by
  rcases b with b|b
  ·have:=c j b;simp;omega
  ·have:=b.2;simp;omega) (u.below k (fun j b=>by
  rcases b with b|b
  ·have:=c j b;omega
  ·exact b.2) (fun _ h=>h))
 have M:Hid (Bw w (m.alloc (C1 (Ls.eX6 a) (.slice s1 s2 l)))):=Bj (Bj B.out i) k;have O:Hid (Lies (m.alloc (C1 (Ls.eX6 a) (.slice s1 s2 l))) (w.heap.size+1) [Iv 0,.string ⟨#[]⟩,.slice none 0 0]):=(C.out.below i (by simp)).below k (by omega);clear u E V W X Y Z e5 P Q R S T U k i C B;go_wp2_with fail;refine F.mono ?_;rintro e w5 ⟨a4,rfl,x,s⟩;obtain⟨y,z,A,rfl⟩:=PV.slice _ _ x;have a1:=s.size;simp at a1;have d:=O.out.below s (by simp;omega);obtain⟨q0,q1,q2⟩:=d.three (a:=Ls.none);have g0:=d.fr 0;have g1:=d.fr 1;have g2:=d.fr 2;have a3:=d.lt;have N:Hid (J5 w G (Ls.fXl (Ls.eX6 a)) (.returned (B4 (Ls.fXl (Ls.eX6 a)) (.slice y z A))) (set3 w5 (w.heap.size+1) (Ls.fXl (Ls.eX6 a)) (.slice y z A))):=T5 (by omega) x (Bj M.out s) (fun j b=>by
  rcases b with (b|b)|b
  ·have:=c j b;exact⟨by omega,.inl b⟩
  ·have r:=b.1;have h2:=b.2;simp at r;exact⟨by omega,.inr ⟨by omega,by omega⟩⟩
  ·have r:=b.1;have h2:=b.2;simp at r;exact⟨by omega,.inr ⟨by omega,by omega⟩⟩)
 clear d x F;go_wp2_with fail;exact bodyPost_ret (v:=B4 (Ls.fXl (Ls.eX6 a)) (.slice y z A)) (by simp[results,Tryz.results53,go_sem,q0,q1,q2]) rfl N.out
theorem qQa (ha:D7 a):D7 ⟨7,p,ws,[a]⟩:=by
 intro a6 a5 w G c h;rw[NV]at h;obtain⟨L,g,v1,u1,hg,rfl,I,t⟩:=h;obtain⟨n,o,q,rfl⟩:=PV.slice _ _ L;obtain⟨⟨b1,b2,b3,rfl⟩,d1,d2,d3,rfl⟩:=NV.slices _ _ _ t;have a2:=c g hg;have K:Ls.eX6 ⟨7,p,ws,[a]⟩=Ls.fXl (Ls.eX6 a):=by simp[Ls.eX6]
 rw[K];have f:=C6 w (lo 7 p ws n o q g 1) F3;obtain⟨H,J⟩:=X8 ws w (.slice n o q) 7 (Ls.eX5 p) (Sl g 1 1);have E:=ha _ _ _ G (fun j b=>Ll (c j b) f.size) (t.below f (fun j b=>c j b) (fun _ h=>h));obtain⟨P,Q,R,S,T,U⟩:=I.six;have C:Hid (Lies ((w.alloc (lo 7 p ws n o q g 1)).alloc F3) (w.heap.size+1) [Iv 0,.string ⟨#[]⟩,.slice none 0 0]):=J;have B:Hid _:=f;obtain⟨V,W,X,Y,Z,e5⟩:=H.six;clear L t I K H J f;go_enter Tryz.func53,Tryz.ntmps53;go_wp2_with fail;refine E.mono ?_;rintro e m ⟨v,rfl,u,i⟩;obtain⟨s1,s2,l,rfl⟩:=PV.slice _ _ u;have k:=A5 m (C1 (Ls.eX6 a) (.slice s1 s2 l));have a0:=i.size;simp at a0;have F:=aQ5 (.slice s1 s2 l) (Ls.eX6 a) _ (F5 G ((w.alloc (lo 7 p ws n o q g 1)).alloc F3) m) (fun j b=>by
  rcases b with b|b
  ·have:=c j b;simp;omega
  ·have:=b.2;simp;omega) (u.below k (fun j b=>by
  rcases b with b|b
  ·have:=c j b;omega
  ·exact b.2) (fun _ h=>h))
 have M:Hid (Bw w (m.alloc (C1 (Ls.eX6 a) (.slice s1 s2 l)))):=Bj (Bj B.out i) k;have O:Hid (Lies (m.alloc (C1 (Ls.eX6 a) (.slice s1 s2 l))) (w.heap.size+1) [Iv 0,.string ⟨#[]⟩,.slice none 0 0]):=(C.out.below i (by simp)).below k (by omega);clear u E V W X Y Z e5 P Q R S T U k i C B;go_wp2_with fail;refine F.mono ?_;rintro e w5 ⟨a4,rfl,x,s⟩;obtain⟨y,z,A,rfl⟩:=PV.slice _ _ x;have a1:=s.size;simp at a1;have d:=O.out.below s (by simp;omega);obtain⟨q0,q1,q2⟩:=d.three (a:=Ls.none);have g0:=d.fr 0;have g1:=d.fr 1;have g2:=d.fr 2;have a3:=d.lt;have N:Hid (J5 w G (Ls.fXl (Ls.eX6 a)) (.returned (B4 (Ls.fXl (Ls.eX6 a)) (.slice y z A))) (set3 w5 (w.heap.size+1) (Ls.fXl (Ls.eX6 a)) (.slice y z A))):=T5 (by omega) x (Bj M.out s) (fun j b=>by
  rcases b with (b|b)|b
  ·have:=c j b;exact⟨by omega,.inl b⟩
  ·have r:=b.1;have h2:=b.2;simp at r;exact⟨by omega,.inr ⟨by omega,by omega⟩⟩
  ·have r:=b.1;have h2:=b.2;simp at r;exact⟨by omega,.inr ⟨by omega,by omega⟩⟩)
 clear d x F;go_wp2_with fail;exact bodyPost_ret (v:=B4 (Ls.fXl (Ls.eX6 a)) (.slice y z A)) (by simp[results,Tryz.results53,go_sem,q0,q1,q2]) rfl N.out
end Go.Proofs.YtfklinjaajafgaaGreatDoor
