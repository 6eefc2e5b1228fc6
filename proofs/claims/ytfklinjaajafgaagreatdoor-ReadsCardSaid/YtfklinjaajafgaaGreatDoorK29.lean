import Derived.Test.YtfklinjaajafgaaGreatDoorK28
set_option maxRecDepth 100000
set_option maxHeartbeats 4000000
namespace Go.Proofs.YtfklinjaajafgaaGreatDoor
open Go.RowKit
variable {G:Nat->Prop}{P:List UInt8->Ls.Rd}{Q:List UInt8->Ls.Rl}{W:World}{a c:UInt8}{bad:Bool}{i i1 i2 j k k2 n z z1 z2:Nat}{l:Ls.Ln}{p p2:Ls.Pat}{r r1 ws ws2:List UInt8}{ra rb res:Ls.Rl}{s:ByteArray}{x x2 y y2:Value}(kk D:Nat)
def fQ8 (s:ByteArray)(D:Nat):Prop:=∀(pb i z:Nat) (w:World),PB w pb s i z false->i<=s.size->z<=1048576+i->
 Ca 108 #[.pointer (some ⟨pb,0,none⟩),.int .i64 (D:Int)] w (LPost w pb s i z (Ls.fXk (Ls.pat (13-D)) (Ls.fXa (12-D)) (rest s i)))
theorem cQ5 (h:nx s i=c)(b:c≠0):i<s.size:=by
 rcases Nat.lt_or_ge i s.size with a|a
 ·exact a
 ·rw[dQa a]at h
  exact absurd h.symm b
theorem yQ5 (s:ByteArray)(hs:s.size<=1048576)(j:D<=12)(n:Y1 s D)(k:aQn s (D+1)):fQ8 s D:=by
 intro a i z w h o b;have l:=cXq s hs D n
 by_cases c:nx s i=47
 ·exact yQ9 D a w s hs l i z h (cQ5 c (by decide)) b c
 by_cases d:nx s i=45
 ·exact zQc D a w s hs l i z h (cQ5 d (by decide)) b d
 by_cases e:nx s i=43
 ·exact zQh D a w s hs i z h (cQ5 e (by decide)) b e
 by_cases f:nx s i=60
 ·exact zQb D a w s hs j k i z h (cQ5 f (by decide)) b f
 by_cases g:nx s i=40
 ·exact yQ7 s hs D j k a i z w h (cQ5 g (by decide)) b g
 refine yQ6 D a w s hs i z h o (fun x m=>?_);simp only[List.mem_cons,List.not_mem_nil,or_false]at m;rcases m with rfl|rfl|rfl|rfl|rfl
 ·exact c
 ·exact d
 ·exact e
 ·exact f
 ·exact g
def fQy (kk:Nat)(l:Ls.Ln)(rb:Ls.Rl):Ls.Rl:=match rb with
 | .none=>.none
 | some (b,v)=>some (⟨kk,Ls.rnil,[],[l,b]⟩,v)
theorem sQf {e b:World}{d a:Nat->Prop}{k:Nat}{g:Nat}
  (h:CaseL W G ra s z i1 z1 false k p ws y x) (m:CaseL e d rb s j i2 z2 bad k2 p2 ws2 y2 x2) (q:j=z1) (u:∀l,ra=some (l,rest s i1)->res=fQy kk l rb)
  (A:∀k,G k->a k/\b.heap[k]?=W.heap[k]?) (B:∀k,d k->a k/\b.heap[k]?=e.heap[k]?) (n:a g)
  (r:LiesL b g ([Iv k,Iv p.kind,Sv p.signs,y,Sv ws,x]++[Iv k2,Iv p2.kind,Sv p2.signs,y2,Sv ws2,x2])) :
  CaseL b a res s z i2 z2 bad kk Ls.none [] (.slice none 0 0) (Sl g 2 2):=by
 subst q;rcases h with⟨i,_⟩|⟨_,l,t,rfl,rfl,rfl,rfl,E,v⟩
 ·cases i
 have f:=u l t;rcases m with⟨rfl,c⟩|⟨rfl,C,c,rfl,rfl,rfl,rfl,o,w⟩
 ·exact .inl ⟨rfl,by rw[f,c];rfl⟩
 ·refine .inr ⟨rfl,⟨kk,Ls.rnil,[],[l,C]⟩,by rw[f,c];rfl,rfl,Ls.fXm,rfl,by simp[Ls.eX7];omega,o,?_⟩
  rw[NV,Ls.fXm];exact⟨R4 _ _ _ _,g,y,x,y2,x2,n,rfl,r,NV.mono A _ _ _ v,NV.mono B _ _ _ w⟩
theorem lQ7 {w c b:World}{n:Nat}{d:Nat->Prop}
  (h:CaseL c d ra s z i1 z1 false k p ws y x) (m:St w n s j z1 false c) (g:Left c n s i2 z2 bad b) (v:CaseL b (B8 c b) rb s z1 i2 z2 bad k2 p2 ws2 y2 x2) (q:∀t,d t->w.heap.size<t/\t<c.heap.size)
  (E:∀l,ra=some (l,rest s i1)->res=fQy kk l rb) (A:i<=i2) (B:i2<=s.size+1) (C:z2<=z+(i2-i)) :
  LPost w n s i z res (.returned (E0 kk Ls.none [] (.slice none 0 0) (.slice (some ⟨b.heap.size+1,0,none⟩) 2 2)))
   (set6 ((b.alloc (B7 k2 p2 ws2 y2 x2)).alloc (S2 k p ws y x k2 p2 ws2 y2 x2)) w.heap.size kk Ls.none [] (.slice none 0 0) (.slice (some ⟨b.heap.size+1,0,none⟩) 2 2)):=by
 have I:=m.pl;have G:=m.res.lt;have J:=g.grown.size;have e:=A5 b (B7 k2 p2 ws2 y2 x2);have f:=A5 (b.alloc (B7 k2 p2 ws2 y2 x2)) (S2 k p ws y x k2 p2 ws2 y2 x2);have r:=lQe k ws (b.alloc (B7 k2 p2 ws2 y2 x2)) x p y k2 p2 ws2 y2 x2;rw[World.size_alloc]at r;have F:((b.alloc (B7 k2 p2 ws2 y2 x2)).alloc (S2 k p ws y x k2 p2 ws2 y2 x2)).heap.size=b.heap.size+1+1:=by simp
 refine P3 (H:=fun t=>d t\/B8 c b t\/t=b.heap.size+1) (sQf kk h v rfl E (fun t a=>⟨.inl a,?_⟩) (fun t a=>⟨.inr (.inl a),?_⟩) (.inr (.inr rfl)) r) A B C (((m.next g).below e).below f) ?_
 ·have o:=q t a
  rw[f.block t (by simp;omega),e.block t (by omega),g.block (by omega) (by omega)]
 ·have o:=a.1
  have u:=a.2;rw[f.block t (by simp;omega),e.block t (by omega)]
 ·intro t a
  rw[F];rcases a with a|a|rfl
  ·have:=q t a
   exact⟨by omega,by omega⟩
  ·have o:=a.1
   have u:=a.2;exact⟨by omega,by omega⟩
  ·exact⟨by omega,by omega⟩
def bQr (s:ByteArray)(D n:Nat):Prop:=∀(pb i z:Nat) (w:World),PB w pb s i z false->i<=s.size->z<=1048576+i->(rest s i).length<n->
 Ca 81 #[.pointer (some ⟨pb,0,none⟩),.int .i64 (D:Int)] w (LPost w pb s i z (Ls.fXe (Ls.pat (13-D)) (Ls.fXa (12-D)) n (rest s i)))
theorem zQo (h:Ls.fXk P Q r=.none):Ls.fXe P Q (n+1) r=.none:=by rw[Ls.fXe,h]
theorem zQp (h:Ls.fXk P Q r=some (l,r1))(a:Ls.gX3 r1=true):Ls.fXe P Q (n+1) r=some (l,r1):=by
 rw[Ls.fXe,h];dsimp only
 rw[if_pos a]
theorem zQn (h:Ls.fXk P Q r=some (l,r1))(a:Ls.gX3 r1=false):Ls.fXe P Q (n+1) r=fQy 3 l (Ls.fXe P Q n r1):=by
 rw[Ls.fXe,h];dsimp only
 rw[if_neg (by rw[a];simp)];cases Ls.fXe P Q n r1 with
 | none=>rfl
 | some x=>rfl
theorem uQj (h:s.size<=i):Ls.gX3 (rest s i)=true:=by rw[P4 h];rfl
theorem uQg (h:i<s.size):Ls.gX3 (rest s i)=(nx s i==124||nx s i==41||nx s i==62||nx s i==126):=by rw[D4 h];rfl
theorem bQy (h:CaseL W G (Ls.fXk P Q r) s z i1 z1 bad k p ws y x)(b:bad=true\/Ls.gX3 (rest s i1)=true):CaseL W G (Ls.fXe P Q (n+1) r) s z i1 z1 bad k p ws y x:=by
 rcases h with⟨a,c⟩|⟨a,l,c,d⟩
 ·exact .inl ⟨a,zQo c⟩
 ·rcases b with b|b
  ·rw[b]at a;cases a
  ·exact .inr ⟨a,l,zQp c b,d⟩
theorem eQo (h:a=c):(((a.toNat:Nat):Int)==((c.toNat:Nat):Int))=true:=by rw[h];simp
theorem fQa (h:a≠c):(((a.toNat:Nat):Int)==((c.toNat:Nat):Int))=false:=by
 rw[beq_eq_false_iff_ne];intro e;exact h (UInt8.toNat_inj.1 (by omega))
theorem zQm (s:ByteArray)(hs:s.size<=1048576)(n:Nat)(hP:fQ8 s D)(hN:bQr s D n):bQr s D (n+1):=by
 intro pb i z w c9 hi hz hn;have f4:=c9.lt;have f2:¬w.heap.size=pb:=by omega
 have f3:¬pb=w.heap.size:=by omega
 have b4:=St.start c9;have d9:Hid (bQr s D n):=hN;clear hN;go_enter Tryz.func81,Tryz.ntmps81;go_wp2_with fail;refine(hP pb i z _ b4.left.lies hi hz).mono ?_;rintro c8 r b1;obtain⟨k,p,d,l,m,o,e,f,h,a,K,V,rfl,e8,a6,f6,d2,b3⟩:=b1.mid (fun b6 t P=>⟨(Ls.jXu (Ls.hXl _) (Ls.gXx _) P).1,(Ls.jXu (Ls.hXl _) (Ls.gXx _) P).2.1⟩) hi;have c7:Hid (V=false->(rest s a).length<n):=fun hb=>by
  rcases b3 with⟨h0,_⟩|⟨_,b6,P,_⟩
  ·rw[hb]at h0;cases h0
  ·have:=(Ls.jXu (Ls.hXl _) (Ls.gXx _) P).2.2
   omega
 have c5:Hid (V=false->a<=s.size):=fun hb=>by
  rcases b3 with⟨h0,_⟩|⟨_,b6,P,_,_,_,_,h1,_⟩
  ·rw[hb]at h0;cases h0
  ·exact h1
 clear b1;have b5:=b4.next d2;have d5:=b5.below (A5 r (B7 k p d (.slice l m o) (.slice e f h)));have d3:=N5 r k p d (.slice l m o) (.slice e f h);have e4:=b4.res.lt;have f5:pb<r.heap.size:=b5.left.lies.lt;have f0:w.heap.size<r.heap.size:=b5.res.lt;have b8:Hid _:=d5;have b7:Hid (CaseL r (B8 (w.alloc (.cells #[Iv 0,Iv 0,.string ⟨#[]⟩,.slice none 0 0,.string ⟨#[]⟩,.slice none 0 0] 37)) r) (Ls.fXk (Ls.pat (13-D)) (Ls.fXa (12-D)) (rest s i)) s z a K V k p d (.slice l m o) (.slice e f h)):=b3;have O:Hid (∀j,B8 (w.alloc (.cells #[Iv 0,Iv 0,.string ⟨#[]⟩,.slice none 0 0,.string ⟨#[]⟩,.slice none 0 0] 37)) r j->w.heap.size<j/\j<r.heap.size):=fun j q=>⟨by have:=q.1;omega,q.2⟩;generalize (B8 (w.alloc (.cells #[Iv 0,Iv 0,.string ⟨#[]⟩,.slice none 0 0,.string ⟨#[]⟩,.slice none 0 0] 37)) r)=u at b7 O;have c4:Hid (LiesL (r.alloc (B7 k p d (.slice l m o) (.slice e f h))) r.heap.size [Iv k,Iv p.kind,Sv p.signs,.slice l m o,Sv d,.slice e f h]):=d3;clear b4 b5 d5 b3 d2 d3 e4;go_wp2_with fail;refine(G5 a pb s K V _ b8.out.left.lies (by omega) (by omega)).mono ?_;rintro c8 b ⟨rfl,a9⟩;have b2:=b8.out.below a9;have e5:=a9.size;simp at e5;have T:Hid (LiesL b r.heap.size [Iv k,Iv p.kind,Sv p.signs,.slice l m o,Sv d,.slice e f h]):=c4.out.of_block (a9.block _ (by simp));have S:Hid (CaseL b u (Ls.fXk (Ls.pat (13-D)) (Ls.fXa (12-D)) (rest s i)) s z a K V k p d (.slice l m o) (.slice e f h)):=b7.out.mono (fun j q=>⟨q,by
  have e1:=O.out j q;rw[a9.block j (by simp;omega),Below.heap_alloc _ _ _ e1.2]⟩)
 have W:=b2.left.lies.c0;have X:=b2.left.lies.c1;have Y:=b2.left.lies.c3;have U:Hid (St w pb s a K V b):=b2;clear b2 a9 c4 b7 b8;cases V with
 | true=>
  go_wp2_with fail;go_quiet (fail)
  have c:=U.out.below (E5 nq);have A:Hid (LiesL (b.drewN nq) r.heap.size [Iv k,Iv p.kind,Sv p.signs,.slice l m o,Sv d,.slice e f h]):=T.out.of_block rfl;have y:Hid (CaseL (b.drewN nq) u (Ls.fXe (Ls.pat (13-D)) (Ls.fXa (12-D)) (n+1) (rest s i)) s z a K true k p d (.slice l m o) (.slice e f h)):=bQy (S.out.mono (fun j q=>⟨q,rfl⟩)) (.inl rfl);have a8:b.heap.size<=(b.drewN nq).heap.size:=Nat.le_refl _;clear W X Y;generalize b.drewN nq=J at *;obtain⟨-,-,-,-,-,-,C,E,F,G,H,I,g,a7⟩:=c.cells;obtain⟨a0,a1,a2,a3,a4,a5⟩:=A.out.six;have g0:=g 0;have g1:=g 1;have g2:=g 2;have g3:=g 3;have g4:=g 4;have g5:=g 5;have x:Hid _:=c;have M:Hid (∀t,u t->w.heap.size<t/\t<J.heap.size):=fun t B=>by have:=O.out t B;exact⟨by omega,by omega⟩
  clear c g;go_wp2_with fail;exact bodyPost_ret (v:=E0 k p d (.slice l m o) (.slice e f h)) (by simp[results,Tryz.results81,go_sem,C,E,F,G,H,I]) rfl (P3 y.out (by omega) a6 (by omega) x.out M.out)
 | false=>
  have c6:Hid (a<=s.size):=c5.out rfl;have d8:Hid ((rest s a).length<n):=c7.out rfl;clear c5 c7
  by_cases b9:s.size<=a
  ·have hd:decide ((s.size:Int)<=(a:Int))=true:=by simp;omega
   have e0:decide (s.size<=a)=true:=by simp;omega
   have L:Hid (Ls.gX3 (rest s a)=true):=(uQj b9);clear b9;go_wp2_with fail;go_quiet (fail)
   have c:=U.out.below (E5 nq);have A:Hid (LiesL (b.drewN nq) r.heap.size [Iv k,Iv p.kind,Sv p.signs,.slice l m o,Sv d,.slice e f h]):=T.out.of_block rfl;have y:Hid (CaseL (b.drewN nq) u (Ls.fXe (Ls.pat (13-D)) (Ls.fXa (12-D)) (n+1) (rest s i)) s z a K false k p d (.slice l m o) (.slice e f h)):=bQy (S.out.mono (fun j q=>⟨q,rfl⟩)) (.inr L.out);have a8:b.heap.size<=(b.drewN nq).heap.size:=Nat.le_refl _;clear W X Y;generalize b.drewN nq=J at *;obtain⟨-,-,-,-,-,-,C,E,F,G,H,I,g,a7⟩:=c.cells;obtain⟨a0,a1,a2,a3,a4,a5⟩:=A.out.six;have g0:=g 0;have g1:=g 1;have g2:=g 2;have g3:=g 3;have g4:=g 4;have g5:=g 5;have x:Hid _:=c;have M:Hid (∀t,u t->w.heap.size<t/\t<J.heap.size):=fun t B=>by have:=O.out t B;exact⟨by omega,by omega⟩
   clear c g;go_wp2_with fail;exact bodyPost_ret (v:=E0 k p d (.slice l m o) (.slice e f h)) (by simp[results,Tryz.results81,go_sem,C,E,F,G,H,I]) rfl (P3 y.out (by omega) a6 (by omega) x.out M.out)
  ·have e3:a<s.size:=by omega
   have hd:decide ((s.size:Int)<=(a:Int))=false:=by simp;omega
   have e7:(a:Int)<(s.size:Int):=by omega
   have e0:decide (s.size<=a)=false:=by simp;omega
   have N:=uQg e3;clear b9
   by_cases Q:nx s a=124
   ·have n1:(((nx s a).toNat:Int)==124)=true:=eQo Q
    have L:Hid (Ls.gX3 (rest s a)=true):=(by rw[N,Q];rfl);clear N Q;go_wp2_with fail;go_quiet (fail)
    have c:=U.out.below (E5 nq);have A:Hid (LiesL (b.drewN nq) r.heap.size [Iv k,Iv p.kind,Sv p.signs,.slice l m o,Sv d,.slice e f h]):=T.out.of_block rfl;have y:Hid (CaseL (b.drewN nq) u (Ls.fXe (Ls.pat (13-D)) (Ls.fXa (12-D)) (n+1) (rest s i)) s z a K false k p d (.slice l m o) (.slice e f h)):=bQy (S.out.mono (fun j q=>⟨q,rfl⟩)) (.inr L.out);have a8:b.heap.size<=(b.drewN nq).heap.size:=Nat.le_refl _;clear W X Y;generalize b.drewN nq=J at *;obtain⟨-,-,-,-,-,-,C,E,F,G,H,I,g,a7⟩:=c.cells;obtain⟨a0,a1,a2,a3,a4,a5⟩:=A.out.six;have g0:=g 0;have g1:=g 1;have g2:=g 2;have g3:=g 3;have g4:=g 4;have g5:=g 5;have x:Hid _:=c;have M:Hid (∀t,u t->w.heap.size<t/\t<J.heap.size):=fun t B=>by have:=O.out t B;exact⟨by omega,by omega⟩
    clear c g;go_wp2_with fail;exact bodyPost_ret (v:=E0 k p d (.slice l m o) (.slice e f h)) (by simp[results,Tryz.results81,go_sem,C,E,F,G,H,I]) rfl (P3 y.out (by omega) a6 (by omega) x.out M.out)
   have n1:(((nx s a).toNat:Int)==124)=false:=fQa Q
   by_cases R:nx s a=41
   ·have n2:(((nx s a).toNat:Int)==41)=true:=eQo R
    have L:Hid (Ls.gX3 (rest s a)=true):=(by rw[N,R];rfl);clear N Q R;go_wp2_with fail;go_quiet (fail)
    have c:=U.out.below (E5 nq);have A:Hid (LiesL (b.drewN nq) r.heap.size [Iv k,Iv p.kind,Sv p.signs,.slice l m o,Sv d,.slice e f h]):=T.out.of_block rfl;have y:Hid (CaseL (b.drewN nq) u (Ls.fXe (Ls.pat (13-D)) (Ls.fXa (12-D)) (n+1) (rest s i)) s z a K false k p d (.slice l m o) (.slice e f h)):=bQy (S.out.mono (fun j q=>⟨q,rfl⟩)) (.inr L.out);have a8:b.heap.size<=(b.drewN nq).heap.size:=Nat.le_refl _;clear W X Y;generalize b.drewN nq=J at *;obtain⟨-,-,-,-,-,-,C,E,F,G,H,I,g,a7⟩:=c.cells;obtain⟨a0,a1,a2,a3,a4,a5⟩:=A.out.six;have g0:=g 0;have g1:=g 1;have g2:=g 2;have g3:=g 3;have g4:=g 4;have g5:=g 5;have x:Hid _:=c;have M:Hid (∀t,u t->w.heap.size<t/\t<J.heap.size):=fun t B=>by have:=O.out t B;exact⟨by omega,by omega⟩
    clear c g;go_wp2_with fail;exact bodyPost_ret (v:=E0 k p d (.slice l m o) (.slice e f h)) (by simp[results,Tryz.results81,go_sem,C,E,F,G,H,I]) rfl (P3 y.out (by omega) a6 (by omega) x.out M.out)
   have n2:(((nx s a).toNat:Int)==41)=false:=fQa R
   by_cases Z:nx s a=62
   ·have n3:(((nx s a).toNat:Int)==62)=true:=eQo Z
    have L:Hid (Ls.gX3 (rest s a)=true):=(by rw[N,Z];rfl);clear N Q R Z;go_wp2_with fail;go_quiet (fail)
    have c:=U.out.below (E5 nq);have A:Hid (LiesL (b.drewN nq) r.heap.size [Iv k,Iv p.kind,Sv p.signs,.slice l m o,Sv d,.slice e f h]):=T.out.of_block rfl;have y:Hid (CaseL (b.drewN nq) u (Ls.fXe (Ls.pat (13-D)) (Ls.fXa (12-D)) (n+1) (rest s i)) s z a K false k p d (.slice l m o) (.slice e f h)):=bQy (S.out.mono (fun j q=>⟨q,rfl⟩)) (.inr L.out);have a8:b.heap.size<=(b.drewN nq).heap.size:=Nat.le_refl _;clear W X Y;generalize b.drewN nq=J at *;obtain⟨-,-,-,-,-,-,C,E,F,G,H,I,g,a7⟩:=c.cells;obtain⟨a0,a1,a2,a3,a4,a5⟩:=A.out.six;have g0:=g 0;have g1:=g 1;have g2:=g 2;have g3:=g 3;have g4:=g 4;have g5:=g 5;have x:Hid _:=c;have M:Hid (∀t,u t->w.heap.size<t/\t<J.heap.size):=fun t B=>by have:=O.out t B;exact⟨by omega,by omega⟩
    clear c g;go_wp2_with fail;exact bodyPost_ret (v:=E0 k p d (.slice l m o) (.slice e f h)) (by simp[results,Tryz.results81,go_sem,C,E,F,G,H,I]) rfl (P3 y.out (by omega) a6 (by omega) x.out M.out)
   have n3:(((nx s a).toNat:Int)==62)=false:=fQa Z
   by_cases m4:nx s a=126
   ·have n4:(((nx s a).toNat:Int)==126)=true:=eQo m4
    have L:Hid (Ls.gX3 (rest s a)=true):=(by rw[N,m4];rfl);clear N Q R Z m4;go_wp2_with fail;go_quiet (fail)
    have c:=U.out.below (E5 nq);have A:Hid (LiesL (b.drewN nq) r.heap.size [Iv k,Iv p.kind,Sv p.signs,.slice l m o,Sv d,.slice e f h]):=T.out.of_block rfl;have y:Hid (CaseL (b.drewN nq) u (Ls.fXe (Ls.pat (13-D)) (Ls.fXa (12-D)) (n+1) (rest s i)) s z a K false k p d (.slice l m o) (.slice e f h)):=bQy (S.out.mono (fun j q=>⟨q,rfl⟩)) (.inr L.out);have a8:b.heap.size<=(b.drewN nq).heap.size:=Nat.le_refl _;clear W X Y;generalize b.drewN nq=J at *;obtain⟨-,-,-,-,-,-,C,E,F,G,H,I,g,a7⟩:=c.cells;obtain⟨a0,a1,a2,a3,a4,a5⟩:=A.out.six;have g0:=g 0;have g1:=g 1;have g2:=g 2;have g3:=g 3;have g4:=g 4;have g5:=g 5;have x:Hid _:=c;have M:Hid (∀t,u t->w.heap.size<t/\t<J.heap.size):=fun t B=>by have:=O.out t B;exact⟨by omega,by omega⟩
    clear c g;go_wp2_with fail;exact bodyPost_ret (v:=E0 k p d (.slice l m o) (.slice e f h)) (by simp[results,Tryz.results81,go_sem,C,E,F,G,H,I]) rfl (P3 y.out (by omega) a6 (by omega) x.out M.out)
   have n4:(((nx s a).toNat:Int)==126)=false:=fQa m4;have L:Hid (Ls.gX3 (rest s a)=false):=by
    show _=_;rw[N];simp[Q,R,Z,m4]
   clear N Q R Z m4;go_wp2_with fail;go_quiet (fail)
   have c:=U.out.below (E5 nq);have A:Hid (LiesL (b.drewN nq) r.heap.size [Iv k,Iv p.kind,Sv p.signs,.slice l m o,Sv d,.slice e f h]):=T.out.of_block rfl;have y:Hid (CaseL (b.drewN nq) u (Ls.fXk (Ls.pat (13-D)) (Ls.fXa (12-D)) (rest s i)) s z a K false k p d (.slice l m o) (.slice e f h)):=S.out.mono (fun j q=>⟨q,rfl⟩);have a8:b.heap.size<=(b.drewN nq).heap.size:=Nat.le_refl _;clear W X Y;generalize b.drewN nq=J at *;have d0:=d9.out pb a K J c.left.lies c6.out (by omega) d8.out;have a7:=c.res.lt;have x:Hid _:=c;clear c;go_wp2_with fail;refine d0.mono ?_;clear d0;rintro c8 w7 b1;obtain⟨kb,c2,wb,r1,r2,r3,t1,t2,t3,i2,z2,e6,rfl,e9,e2,f7,b0,d1⟩:=b1.mid (fun b6 t P=>Ls.iXx (Ls.hXl _) (Ls.gXx _) _ _ _ _ P) c6.out;clear b1;have f8:=b0.grown.size;have HE:Hid _:=lQ7 (i:=i) 3 y.out x.out b0 d1 (fun t B=>by have:=O.out t B;exact⟨by omega,by omega⟩) (fun b6 P=>zQn P L.out) (by omega) e2 (by omega);have d6:=x.out.next b0;have d7:=(d6.below (A5 w7 (B7 kb c2 wb (.slice r1 r2 r3) (.slice t1 t2 t3)))).below (A5 _ (S2 k p d (.slice l m o) (.slice e f h) kb c2 wb (.slice r1 r2 r3) (.slice t1 t2 t3)));have d4:=(A.out.of_block (b0.block (by omega) (by omega))).of_block ((A5 w7 (B7 kb c2 wb (.slice r1 r2 r3) (.slice t1 t2 t3))).block _ (by omega));obtain⟨-,-,-,-,-,-,C,E,F,G,H,I,g,f1⟩:=d7.cells;obtain⟨a0,a1,a2,a3,a4,a5⟩:=d4.six;have g0:=g 0;have g1:=g 1;have g2:=g 2;have g3:=g 3;have g4:=g 4;have g5:=g 5;clear d6 d7 d4 b0 d1 g;go_wp2_with fail;exact bodyPost_ret (v:=E0 3 Ls.none [] (.slice none 0 0) (.slice (some ⟨w7.heap.size+1,0,none⟩) 2 2)) (by simp[results,Tryz.results81,go_sem,C,E,F,G,H,I,Ls.none]) rfl HE.out
theorem mQc (s:ByteArray)(hs:s.size<=1048576)(D:Nat)(a:fQ8 s D):∀n,bQr s D n
 | 0=>fun _ _ _ _ _ _ _ h=>absurd h (Nat.not_lt_zero _)
 | n+1=>zQm D s hs n a (mQc s hs D a n)
end Go.Proofs.YtfklinjaajafgaaGreatDoor
