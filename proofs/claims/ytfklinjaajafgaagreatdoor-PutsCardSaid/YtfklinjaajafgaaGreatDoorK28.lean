import Derived.Test.YtfklinjaajafgaaGreatDoorK25
set_option maxRecDepth 100000
set_option maxHeartbeats 4000000
namespace Go.Proofs.YtfklinjaajafgaaGreatDoor
open Ls
open Go.RowKit
theorem yQ7 (s:By)(hs:s.size<=1048576)(D:Nat)(hD:D<=12)(hL:aQn s (D+1))(b i z:Nat)(w:World)(g9:PB w b s i z false)(hi:i<s.size)(hz:z<=1048576+i)(hc:nx s i=40) :
  Calls Tryz.prog 108 #[Pt b,Iv (D:Int)] w (LPost w b s i z (fXk (pat (13-D)) (fXa (12-D)) (rest s i))):=by
 have HR:Hid (fXk (pat (13-D)) (fXa (12-D)) (rest s i)=S8 (R6 (L3 (fXa (12-D)) (rest s (i+1))))):=by
  show _=_;rw[D4 hi,hc];exact zQi _ _ _
 have Hc:Hid (nx s i=40):=hc;clear hc;have HL:Hid (∀(j zz:Nat) (c0:World),PB c0 b s j zz false->j<=s.size->zz<=1048576+j->Ca 46 #[Pt b,Iv ((D:Int)+1)] c0 (LPost c0 b s j zz (fXa (12-D) (rest s j)))):=fun j zz c0 h1 h2 h3=>by
  have:=hL b j zz c0 h1 h2 h3;rw[show ((D+1:Nat):Int)=(D:Int)+1 from by omega,show 13-(D+1)=12-D from by omega]at this;exact this
 clear hL;have k6:=g9.lt;have k1:¬w.heap.size=b:=by omega
 have k2:¬b=w.heap.size:=by omega
 have f5:=St.start g9;go_enter Tryz.func108,Tryz.ntmps108;go_wp2_with fail;refine(G5 i b s z false _ f5.left.lies (by omega) (by omega)).mono ?_;rw[Hc.out];rintro a6 w1 ⟨rfl,i1⟩;have f6:=f5.below i1;have f7:=f6.set1 (i+1);obtain⟨c1,c2,c3,f1,f2,f3,O,P,Q,R,S,T,g,h8⟩:=f6.cells;have c5:=HL.out (i+1) z _ f7.left.lies (by omega) (by omega);have g8:Hid _:=f7;clear f5 f6 f7;go_wp2_with fail;refine c5.mono ?_;clear c5;rintro a6 l d1;obtain⟨k,p,n,u,x,y,o,q,r,a,K,c4,rfl,j2,j3,k9,h6,h4⟩:=d1.mid (fun f9 t hr=>gXx _ _ _ _ hr) (by omega);clear d1 c1 c2 c3 f1 f2 f3 O P Q R S T g h8;have d7:=g8.out.next h6;have h9:=d7.below (A5 l (B7 k p n (.slice u x y) (.slice o q r)));have h7:=N5 l k p n (.slice u x y) (.slice o q r);have i7:w.heap.size<((w1.setCell ⟨b,1,none⟩ (Iv ((i+1:Nat):Int))).heap.size):=g8.out.res.lt;have k7:b<l.heap.size:=d7.left.lies.lt;have i3:w.heap.size<l.heap.size:=d7.res.lt;have e7:Hid _:=h9;have e0:Hid (CaseL l (B8 (w1.setCell ⟨b,1,none⟩ (Iv ((i+1:Nat):Int))) l) (fXa (12-D) (rest s (i+1))) s z a K c4 k p n (.slice u x y) (.slice o q r)):=h4;have b9:Hid (∀j,B8 (w1.setCell ⟨b,1,none⟩ (Iv ((i+1:Nat):Int))) l j->w.heap.size<j/\j<l.heap.size):=fun j hj=>⟨by have:=hj.1;omega,hj.2⟩;generalize (B8 (w1.setCell ⟨b,1,none⟩ (Iv ((i+1:Nat):Int))) l)=W at e0 b9;have g6:Hid (LiesL (l.alloc (B7 k p n (.slice u x y) (.slice o q r))) l.heap.size [Iv k,Iv p.kind,Sv p.signs,.slice u x y,Sv n,.slice o q r]):=h7;clear d7 h9 h4 h6 h7 i7;go_wp2_with fail;refine(O5 a 126 b s K c4 _ e7.out.left.lies (by omega) (by omega)).mono ?_;rintro a6 Y ⟨rfl,c9⟩;have f8:=e7.out.next c9;have i8:=c9.grown.size;simp at i8;have e5:Hid (LiesL Y l.heap.size [Iv k,Iv p.kind,Sv p.signs,.slice u x y,Sv n,.slice o q r]):=g6.out.of_block (c9.block (by simp) (by omega));have e3:Hid (CaseL Y W (fXa (12-D) (rest s (i+1))) s z a K c4 k p n (.slice u x y) (.slice o q r)):=e0.out.mono (fun j hj=>⟨hj,by
  have e1:=b9.out j hj;rw[c9.block (by simp;omega) (by omega),Below.heap_alloc _ _ _ e1.2]⟩)
 obtain⟨c1,c2,c3,f1,f2,f3,-,-,-,-,-,-,-,h8⟩:=f8.cells;have L:Hid (St w b s (if A7 s a 126=true then a+1 else a) K c4 Y):=f8;have k4:¬l.heap.size=b:=by omega
 have k5:¬b=l.heap.size:=by omega
 clear f8 c9 g6 e0 e7;cases c4 with
 | true=>
  have d4:Hid (S8 (R6 (L3 (fXa (12-D)) (rest s (i+1))))=.none):=by
   rcases e3.out with⟨_,hr⟩|⟨h0,_⟩
   ·show _=_
    rw[sQq hr];rfl
   ·cases h0
  cases V:A7 s a 126 with
  | false=>
   rw[V]at L;simp only[Bool.false_eq_true,if_false]at L;clear V;go_wp2_with fail;refine(O5 a 41 b s K true _ L.out.left.lies (by omega) (by omega)).mono ?_;rintro a6 U ⟨rfl,m⟩;have d:=L.out.next m;obtain⟨-,-,d3,-,-,k3,O,P,Q,R,S,T,g,b8⟩:=d.cells;have g0:=g 0;have g1:=g 1;have g2:=g 2;have g3:=g 3;have g4:=g 4;have g5:=g 5;have M:Hid _:=d.set3 true;have X:Hid (i<=(if A7 s a 41=true then a+1 else a)/\(if A7 s a 41=true then a+1 else a)<=s.size+1/\K<=z+((if A7 s a 41=true then a+1 else a)-i)):=by
    cases h:A7 s a 41 with
    | false=>simp only[Bool.false_eq_true,if_false];exact⟨by omega,by omega,by omega⟩
    | true=>have:=(D9 h).1;simp only[if_true];exact⟨by omega,by omega,by omega⟩
   clear d m g;go_wp2_with fail;rw[HR.out,d4.out];exact bodyPost_ret (v:=E0 0 nN [] (.slice none 0 0) (.slice none 0 0)) (by simp[results,Tryz.results108,go_sem,O,P,Q,R,S,T,nN]) rfl (q8 rfl X.out.1 X.out.2.1 X.out.2.2 M.out)
  | true=>
   have i5:=(D9 V).1;rw[V]at L;simp only[if_true]at L;clear V;go_wp2_with fail;refine(O5 (a+1) 41 b s K true _ L.out.left.lies (by omega) (by omega)).mono ?_;rintro a6 U ⟨rfl,m⟩;have d:=L.out.next m;obtain⟨-,-,d3,-,-,k3,O,P,Q,R,S,T,g,b8⟩:=d.cells;have g0:=g 0;have g1:=g 1;have g2:=g 2;have g3:=g 3;have g4:=g 4;have g5:=g 5;have M:Hid _:=d.set3 true;have X:Hid (i<=(if A7 s (a+1) 41=true then (a+1)+1 else (a+1))/\(if A7 s (a+1) 41=true then (a+1)+1 else (a+1))<=s.size+1/\K<=z+((if A7 s (a+1) 41=true then (a+1)+1 else (a+1))-i)):=by
    cases h:A7 s (a+1) 41 with
    | false=>simp only[Bool.false_eq_true,if_false];exact⟨by omega,by omega,by omega⟩
    | true=>have:=(D9 h).1;simp only[if_true];exact⟨by omega,by omega,by omega⟩
   clear d m g;go_wp2_with fail;rw[HR.out,d4.out];exact bodyPost_ret (v:=E0 0 nN [] (.slice none 0 0) (.slice none 0 0)) (by simp[results,Tryz.results108,go_sem,O,P,Q,R,S,T,nN]) rfl (q8 rfl X.out.1 X.out.2.1 X.out.2.2 M.out)
 | false=>
  cases V:A7 s a 126 with
  | false=>
   rw[V]at L;simp only[Bool.false_eq_true,if_false]at L;have b7:Hid (CaseL Y W (L3 (fXa (12-D)) (rest s (i+1))) s z a K false k p n (.slice u x y) (.slice o q r)):=by
    rcases e3.out with⟨h0,_⟩|⟨_,f9,hr,h1⟩
    ·cases h0
    ·exact .inr ⟨rfl,f9,sQr hr V,h1⟩
   have a7:Hid (∀j,W j->w.heap.size<j/\j<Y.heap.size):=fun j hj=>by have:=b9.out j hj;exact⟨by omega,by omega⟩
   clear V;go_wp2_with fail;refine(O5 a 41 b s K false _ L.out.left.lies (by omega) (by omega)).mono ?_;rintro a6 U ⟨rfl,m⟩;have d:=L.out.next m;have i9:=m.grown.size;cases h:A7 s a 41 with
   | false=>
    rw[h]at d;simp only[Bool.false_eq_true,if_false]at d;have HN:Hid (S8 (R6 (L3 (fXa (12-D)) (rest s (i+1))))=.none):=iQi b7.out (by rw[h];rfl);obtain⟨-,-,d3,-,-,k3,O,P,Q,R,S,T,g,b8⟩:=d.cells;have g0:=g 0;have g1:=g 1;have g2:=g 2;have g3:=g 3;have g4:=g 4;have g5:=g 5;have M:Hid _:=d.set3 true;clear d m g h;go_wp2_with fail;rw[HR.out,HN.out];exact bodyPost_ret (v:=E0 0 nN [] (.slice none 0 0) (.slice none 0 0)) (by simp[results,Tryz.results108,go_sem,O,P,Q,R,S,T,nN]) rfl (q8 rfl (by omega) (by omega) (by omega) M.out)
   | true=>
    rw[h]at d;simp only[if_true]at d;have i2:=(D9 h).1;have a8:=d.set3 false;have N:=(e5.out.of_block (m.block e5.out.lt (by omega))).of_block (Below.heap_setCell U ⟨b,3,none⟩ (.bool false) l.heap.size (by show l.heap.size≠b;omega));have i6:(U.setCell ⟨b,3,none⟩ (.bool false)).heap.size=U.heap.size:=by simp[World.setCell]
    have d9:Hid (CaseL (U.setCell ⟨b,3,none⟩ (.bool false)) W (R6 (L3 (fXa (12-D)) (rest s (i+1)))) s z (a+1) K false k p n (.slice u x y) (.slice o q r)):=(jQk b7.out h).mono (fun t c=>⟨c,by
     have e1:=a7.out t c;rw[Below.heap_setCell _ _ _ _ (by show t≠b;omega),m.block e1.2 (by omega)]⟩)
    obtain⟨-,-,d3,-,-,k3,-,-,-,-,-,-,-,b8⟩:=d.cells;have M:Hid _:=a8;have e6:Hid _:=N.six;clear d a8 m h N;go_upto_region 36 with (fail);generalize U.setCell ⟨b,3,none⟩ (.bool false)=W8 at *;obtain⟨a0,a1,a2,a3,a4,a5⟩:=e6.out;have hA:=gQj s hs b (a+1) K false W8 M.out.left.lies (by omega) (by omega) k p n u x y o q r;clear c1 c2 c3 f1 f2 f3 d3 k3;go_wp2_with fail;refine hA.mono ?_;rintro a6 w9 ha;obtain⟨k',p',d2,v1,v2,v3,u1,u2,u3,rfl,c8,a9⟩:=gQo d9.out ha (fun t c=>by have:=a7.out t c;omega) (fun t c=>by have:=a7.out t c;omega);have b6:=M.out.next a9;have j0:=a9.grown.size;obtain⟨-,-,-,-,-,-,O,P,Q,R,S,T,g,i4⟩:=b6.cells;have g0:=g 0;have g1:=g 1;have g2:=g 2;have g3:=g 3;have g4:=g 4;have g5:=g 5;have e8:Hid _:=b6;have e4:Hid (CaseL w9 (F5 W W8 w9) (S8 (R6 (L3 (fXa (12-D)) (rest s (i+1))))) s z (if A7 s (a+1) 42=true then a+1+1 else a+1) (if A7 s (a+1) 42=true then K+1 else K) false k' p' d2 (.slice v1 v2 v3) (.slice u1 u2 u3)):=c8;have HI:Hid (i<=(if A7 s (a+1) 42=true then a+1+1 else a+1)/\(if A7 s (a+1) 42=true then a+1+1 else a+1)<=s.size+1/\(if A7 s (a+1) 42=true then K+1 else K)<=z+((if A7 s (a+1) 42=true then a+1+1 else a+1)-i)):=by
     cases h:A7 s (a+1) 42 with
     | false=>simp only[Bool.false_eq_true,if_false];exact⟨by omega,by omega,by omega⟩
     | true=>have:=(D9 h).1;simp only[if_true];exact⟨by omega,by omega,by omega⟩
    have HH:Hid (∀t,F5 W W8 w9 t->w.heap.size<t/\t<w9.heap.size):=by
     rintro t (c|c)
     ·have:=a7.out t c
      exact⟨by omega,by omega⟩
     ·have h1:=c.1
      exact⟨by omega,c.2⟩
    clear b6 c8 a9 ha hA g a0 a1 a2 a3 a4 a5;go_wp2_with fail;rw[HR.out];exact bodyPost_ret (v:=E0 k' p' d2 (.slice v1 v2 v3) (.slice u1 u2 u3)) (by simp[results,Tryz.results108,go_sem,O,P,Q,R,S,T]) rfl (P3 e4.out HI.out.1 HI.out.2.1 HI.out.2.2 e8.out HH.out)
  | true=>
   have i5:=(D9 V).1;rw[V]at L;simp only[if_true]at L;have HM:Hid (A7 s a 126=true):=V;clear V;have c5:=HL.out (a+1) K Y L.out.left.lies (by omega) (by omega);go_wp2_with fail;refine c5.mono ?_;clear c5;rintro a6 e d1;obtain⟨A,B,J,C,E,F,G,H,I,f,Z,e9,rfl,j4,j7,l0,d0,h5⟩:=d1.mid (fun f9 t hr=>gXx _ _ _ _ hr) (by omega);clear d1 c1 c2 c3 f1 f2 f3;have d8:=L.out.next d0;have l1:=d0.grown.size;have k8:b<e.heap.size:=d8.left.lies.lt;have k0:w.heap.size<e.heap.size:=d8.res.lt;have f0:LiesL e l.heap.size [Iv k,Iv p.kind,Sv p.signs,.slice u x y,Sv n,.slice o q r]:=e5.out.of_block (d0.block (by omega) (by omega));have c6:=A5 e (B7 A B J (.slice C E F) (.slice G H I));have d:=d8.below c6;have d6:=f0.of_block (c6.block _ f0.lt);have c7:=A5 (e.alloc (B7 A B J (.slice C E F) (.slice G H I))) (S2 k p n (.slice u x y) (.slice o q r) A B J (.slice C E F) (.slice G H I));have a8:=d.below c7;have N:=d6.of_block (c7.block _ d6.lt);have f4:=lQe k n (e.alloc (B7 A B J (.slice C E F) (.slice G H I))) (.slice o q r) p (.slice u x y) A B J (.slice C E F) (.slice G H I);rw[World.size_alloc]at f4;have i0:((e.alloc (B7 A B J (.slice C E F) (.slice G H I))).alloc (S2 k p n (.slice u x y) (.slice o q r) A B J (.slice C E F) (.slice G H I))).heap.size=e.heap.size+1+1:=by simp
   have b7:Hid (CaseL (set6 ((e.alloc (B7 A B J (.slice C E F) (.slice G H I))).alloc (S2 k p n (.slice u x y) (.slice o q r) A B J (.slice C E F) (.slice G H I))) l.heap.size 4 nN [] (.slice none 0 0) (.slice (some ⟨e.heap.size+1,0,none⟩) 2 2))
     (fun t=>W t\/B8 Y e t\/t=e.heap.size+1) (L3 (fXa (12-D)) (rest s (i+1))) s z f Z e9 4 nN [] (.slice none 0 0) (.slice (some ⟨e.heap.size+1,0,none⟩) 2 2)):=by
    refine sQb e3.out HM.out h5 (fun t c=>⟨.inl c,?_⟩) (fun t c=>⟨.inr (.inl c),?_⟩) (.inr (.inr rfl)) ?_
    ·have e1:=b9.out t c
     rw[fQo _ _ _ _ _ _ _ _ (by omega),c7.block t (by simp;omega),c6.block t (by omega),d0.block (by omega) (by omega)]
    ·have e1:=c.1
     have e2:=c.2;rw[fQo _ _ _ _ _ _ _ _ (by omega),c7.block t (by simp;omega),c6.block t (by omega)]
    ·exact f4.of_block (fQo _ _ _ _ _ _ _ _ (by omega))
   have d5:Hid (St w b s f Z e9 (set6 ((e.alloc (B7 A B J (.slice C E F) (.slice G H I))).alloc (S2 k p n (.slice u x y) (.slice o q r) A B J (.slice C E F) (.slice G H I))) l.heap.size 4 nN [] (.slice none 0 0) (.slice (some ⟨e.heap.size+1,0,none⟩) 2 2))):=a8.set6 i3 _ _ _ _ _;have g7:Hid (LiesL (set6 ((e.alloc (B7 A B J (.slice C E F) (.slice G H I))).alloc (S2 k p n (.slice u x y) (.slice o q r) A B J (.slice C E F) (.slice G H I))) l.heap.size 4 nN [] (.slice none 0 0) (.slice (some ⟨e.heap.size+1,0,none⟩) 2 2)) l.heap.size [Iv (4:Nat),Iv nN.kind,Sv nN.signs,.slice none 0 0,Sv ([]:Lu),.slice (some ⟨e.heap.size+1,0,none⟩) 2 2]):=N.set6 4 nN [] (.slice none 0 0) (.slice (some ⟨e.heap.size+1,0,none⟩) 2 2);have a7:Hid (∀t,(W t\/B8 Y e t\/t=e.heap.size+1)->w.heap.size<t/\t<(set6 ((e.alloc (B7 A B J (.slice C E F) (.slice G H I))).alloc (S2 k p n (.slice u x y) (.slice o q r) A B J (.slice C E F) (.slice G H I))) l.heap.size 4 nN [] (.slice none 0 0) (.slice (some ⟨e.heap.size+1,0,none⟩) 2 2)).heap.size):=by
    intro t c;rw[iQg,i0];rcases c with c|c|rfl
    ·have:=b9.out t c
     exact⟨by omega,by omega⟩
    ·have e1:=c.1
     have e2:=c.2;exact⟨by omega,by omega⟩
    ·exact⟨by omega,by omega⟩
   have j1:Hid ((set6 ((e.alloc (B7 A B J (.slice C E F) (.slice G H I))).alloc (S2 k p n (.slice u x y) (.slice o q r) A B J (.slice C E F) (.slice G H I))) l.heap.size 4 nN [] (.slice none 0 0) (.slice (some ⟨e.heap.size+1,0,none⟩) 2 2)).heap.size=e.heap.size+1+1):=(iQg _ _ _ _ _ _ _).trans i0;obtain⟨a0,a1,a2,a3,a4,a5⟩:=d6.six;obtain⟨b0,b1,b2,b3,b4,b5⟩:=N.six;have g0:=N.fr 0;have g1:=N.fr 1;have g2:=N.fr 2;have g3:=N.fr 3;have g4:=N.fr 4;have g5:=N.fr 5;clear d8 d a8 f0 d6 N f4 d0 h5 c6 c7;cases e9 with
   | true=>
    have d4:Hid (S8 (R6 (L3 (fXa (12-D)) (rest s (i+1))))=.none):=iQi b7.out rfl;go_wp2_with fail;refine(O5 f 41 b s Z true _ d5.out.left.lies (by omega) (by omega)).mono ?_;rintro a6 U ⟨rfl,m⟩;have d:=d5.out.next m;obtain⟨-,-,d3,-,-,k3,O,P,Q,R,S,T,g,b8⟩:=d.cells;have g0:=g 0;have g1:=g 1;have g2:=g 2;have g3:=g 3;have g4:=g 4;have g5:=g 5;have M:Hid _:=d.set3 true;have X:Hid (i<=(if A7 s f 41=true then f+1 else f)/\(if A7 s f 41=true then f+1 else f)<=s.size+1/\Z<=z+((if A7 s f 41=true then f+1 else f)-i)):=by
     cases h:A7 s f 41 with
     | false=>simp only[Bool.false_eq_true,if_false];exact⟨by omega,by omega,by omega⟩
     | true=>have:=(D9 h).1;simp only[if_true];exact⟨by omega,by omega,by omega⟩
    clear d m g;go_wp2_with fail;rw[HR.out,d4.out];exact bodyPost_ret (v:=E0 0 nN [] (.slice none 0 0) (.slice none 0 0)) (by simp[results,Tryz.results108,go_sem,O,P,Q,R,S,T,nN]) rfl (q8 rfl X.out.1 X.out.2.1 X.out.2.2 M.out)
   | false=>
    go_wp2_with fail;refine(O5 f 41 b s Z false _ d5.out.left.lies (by omega) (by omega)).mono ?_;rintro a6 U ⟨rfl,m⟩;have d:=d5.out.next m;have i9:=m.grown.size;cases h:A7 s f 41 with
    | false=>
     rw[h]at d;simp only[Bool.false_eq_true,if_false]at d;have HN:Hid (S8 (R6 (L3 (fXa (12-D)) (rest s (i+1))))=.none):=iQi b7.out (by rw[h];rfl);obtain⟨-,-,d3,-,-,k3,O,P,Q,R,S,T,g,b8⟩:=d.cells;have g0:=g 0;have g1:=g 1;have g2:=g 2;have g3:=g 3;have g4:=g 4;have g5:=g 5;have M:Hid _:=d.set3 true;clear d m g h;go_wp2_with fail;rw[HR.out,HN.out];exact bodyPost_ret (v:=E0 0 nN [] (.slice none 0 0) (.slice none 0 0)) (by simp[results,Tryz.results108,go_sem,O,P,Q,R,S,T,nN]) rfl (q8 rfl (by omega) (by omega) (by omega) M.out)
    | true=>
     rw[h]at d;simp only[if_true]at d;have i2:=(D9 h).1;have a8:=d.set3 false;have N:=(g7.out.of_block (m.block g7.out.lt (by omega))).of_block (Below.heap_setCell U ⟨b,3,none⟩ (.bool false) l.heap.size (by show l.heap.size≠b;omega));have i6:(U.setCell ⟨b,3,none⟩ (.bool false)).heap.size=U.heap.size:=by simp[World.setCell]
     have d9:Hid (CaseL (U.setCell ⟨b,3,none⟩ (.bool false)) (fun t=>W t\/B8 Y e t\/t=e.heap.size+1) (R6 (L3 (fXa (12-D)) (rest s (i+1)))) s z (f+1) Z false 4 nN [] (.slice none 0 0) (.slice (some ⟨e.heap.size+1,0,none⟩) 2 2)):=(jQk b7.out h).mono (fun t c=>⟨c,by
      have e1:=a7.out t c;rw[Below.heap_setCell _ _ _ _ (by show t≠b;omega),m.block e1.2 (by omega)]⟩)
     obtain⟨-,-,d3,-,-,k3,-,-,-,-,-,-,-,b8⟩:=d.cells;have M:Hid _:=a8;have e6:Hid _:=N.six;clear d a8 m h N;go_upto_region 36 with (fail);generalize U.setCell ⟨b,3,none⟩ (.bool false)=W8 at *;obtain⟨a0,a1,a2,a3,a4,a5⟩:=e6.out;have hA:=gQj s hs b (f+1) Z false W8 M.out.left.lies (by omega) (by omega) 4 nN [] none 0 0 (some ⟨e.heap.size+1,0,none⟩) 2 2;clear d3 k3;go_wp2_with fail;refine hA.mono ?_;rintro a6 w9 ha;obtain⟨k',p',d2,v1,v2,v3,u1,u2,u3,rfl,c8,a9⟩:=gQo d9.out ha (fun t c=>by have:=a7.out t c;omega) (fun t c=>by have:=a7.out t c;omega);have b6:=M.out.next a9;have j0:=a9.grown.size;obtain⟨-,-,-,-,-,-,O,P,Q,R,S,T,g,i4⟩:=b6.cells;have g0:=g 0;have g1:=g 1;have g2:=g 2;have g3:=g 3;have g4:=g 4;have g5:=g 5;have e8:Hid _:=b6;have e4:Hid (CaseL w9 (F5 (fun t=>W t\/B8 Y e t\/t=e.heap.size+1) W8 w9) (S8 (R6 (L3 (fXa (12-D)) (rest s (i+1))))) s z (if A7 s (f+1) 42=true then f+1+1 else f+1) (if A7 s (f+1) 42=true then Z+1 else Z) false k' p' d2 (.slice v1 v2 v3) (.slice u1 u2 u3)):=c8;have HI:Hid (i<=(if A7 s (f+1) 42=true then f+1+1 else f+1)/\(if A7 s (f+1) 42=true then f+1+1 else f+1)<=s.size+1/\(if A7 s (f+1) 42=true then Z+1 else Z)<=z+((if A7 s (f+1) 42=true then f+1+1 else f+1)-i)):=by
      cases h:A7 s (f+1) 42 with
      | false=>simp only[Bool.false_eq_true,if_false];exact⟨by omega,by omega,by omega⟩
      | true=>have:=(D9 h).1;simp only[if_true];exact⟨by omega,by omega,by omega⟩
     have HH:Hid (∀t,F5 (fun t=>W t\/B8 Y e t\/t=e.heap.size+1) W8 w9 t->w.heap.size<t/\t<w9.heap.size):=by
      rintro t (c|c)
      ·have:=a7.out t c
       exact⟨by omega,by omega⟩
      ·have h1:=c.1
       exact⟨by omega,c.2⟩
     clear b6 c8 a9 ha hA g a0 a1 a2 a3 a4 a5;go_wp2_with fail;rw[HR.out];exact bodyPost_ret (v:=E0 k' p' d2 (.slice v1 v2 v3) (.slice u1 u2 u3)) (by simp[results,Tryz.results108,go_sem,O,P,Q,R,S,T]) rfl (P3 e4.out HI.out.1 HI.out.2.1 HI.out.2.2 e8.out HH.out)
variable {G:Nat->Prop}{P:Lu->Rd}{Q:Lu->Rl}{W:World}{a c:UInt8}{bad:Bool}{i i1 i2 j k k2 n z z1 z2:Nat}{l:Ln}{p p2:Pat}{r r1 ws ws2:Lu}{ra rb res:Rl}{s:By}{x x2 y y2:Value}(kk D:Nat)
def fQ8 (s:By)(D:Nat):Prop:=∀(pb i z:Nat) (w:World),PB w pb s i z false->i<=s.size->z<=1048576+i->
 Ca 108 #[.pointer (some ⟨pb,0,none⟩),.int .i64 (D:Int)] w (LPost w pb s i z (fXk (pat (13-D)) (fXa (12-D)) (rest s i)))
theorem cQ5 (h:nx s i=c)(b:c≠0):i<s.size:=by
 rcases Nat.lt_or_ge i s.size with a|a
 ·exact a
 ·rw[dQa a]at h
  exact absurd h.symm b
theorem yQ5 (s:By)(hs:s.size<=1048576)(j:D<=12)(n:Y1 s D)(k:aQn s (D+1)):fQ8 s D:=by
 intro a i z w h o b;have l:=cXq s hs D n
 by_cases c:nx s i=47
 ·exact yQ9 D a w s hs l i z h (cQ5 c (by decide)) b c
 by_cases d:nx s i=45
 ·exact zQc D a w s hs l i z h (cQ5 d (by decide)) b d
 by_cases e:nx s i=43
 ·exact zQh D a w s hs i z h (cQ5 e (by decide)) b e
 by_cases f:nx s i=60
 ·exact zQb D a w s hs j k i z h (cQ5 f (by decide)) b f
 by_cases g:nx s i=40
 ·exact yQ7 s hs D j k a i z w h (cQ5 g (by decide)) b g
 refine yQ6 D a w s hs i z h o (fun x m=>?_);simp only[List.mem_cons,List.not_mem_nil,or_false]at m;rcases m with rfl|rfl|rfl|rfl|rfl
 ·exact c
 ·exact d
 ·exact e
 ·exact f
 ·exact g
def fQy (kk:Nat)(l:Ln)(rb:Rl):Rl:=match rb with
 | .none=>.none
 | some (b,v)=>some (⟨kk,rnil,[],[l,b]⟩,v)
theorem sQf {e b:World}{d a:Nat->Prop}{k:Nat}{g:Nat}
  (h:CaseL W G ra s z i1 z1 false k p ws y x) (m:CaseL e d rb s j i2 z2 bad k2 p2 ws2 y2 x2) (q:j=z1) (u:∀l,ra=some (l,rest s i1)->res=fQy kk l rb)
  (A:∀k,G k->a k/\b.heap[k]?=W.heap[k]?) (B:∀k,d k->a k/\b.heap[k]?=e.heap[k]?) (n:a g)
  (r:LiesL b g ([Iv k,Iv p.kind,Sv p.signs,y,Sv ws,x]++[Iv k2,Iv p2.kind,Sv p2.signs,y2,Sv ws2,x2])) :
  CaseL b a res s z i2 z2 bad kk nN [] (.slice none 0 0) (Sl g 2 2):=by
 subst q;rcases h with⟨i,_⟩|⟨_,l,t,rfl,rfl,rfl,rfl,E,v⟩
 ·cases i
 have f:=u l t;rcases m with⟨rfl,c⟩|⟨rfl,C,c,rfl,rfl,rfl,rfl,o,w⟩
 ·exact .inl ⟨rfl,by rw[f,c];rfl⟩
 ·refine .inr ⟨rfl,⟨kk,rnil,[],[l,C]⟩,by rw[f,c];rfl,rfl,fXm,rfl,by simp[eX7];omega,o,?_⟩
  rw[NV,fXm];exact⟨R4 _ _ _ _,g,y,x,y2,x2,n,rfl,r,NV.mono A _ _ _ v,NV.mono B _ _ _ w⟩
theorem lQ7 {w c b:World}{n:Nat}{d:Nat->Prop}
  (h:CaseL c d ra s z i1 z1 false k p ws y x) (m:St w n s j z1 false c) (g:Left c n s i2 z2 bad b) (v:CaseL b (B8 c b) rb s z1 i2 z2 bad k2 p2 ws2 y2 x2) (q:∀t,d t->w.heap.size<t/\t<c.heap.size)
  (E:∀l,ra=some (l,rest s i1)->res=fQy kk l rb) (A:i<=i2) (B:i2<=s.size+1) (C:z2<=z+(i2-i)) :
  LPost w n s i z res (.returned (E0 kk nN [] (.slice none 0 0) (.slice (some ⟨b.heap.size+1,0,none⟩) 2 2)))
   (set6 ((b.alloc (B7 k2 p2 ws2 y2 x2)).alloc (S2 k p ws y x k2 p2 ws2 y2 x2)) w.heap.size kk nN [] (.slice none 0 0) (.slice (some ⟨b.heap.size+1,0,none⟩) 2 2)):=by
 have I:=m.pl;have G:=m.res.lt;have J:=g.grown.size;have e:=A5 b (B7 k2 p2 ws2 y2 x2);have f:=A5 (b.alloc (B7 k2 p2 ws2 y2 x2)) (S2 k p ws y x k2 p2 ws2 y2 x2);have r:=lQe k ws (b.alloc (B7 k2 p2 ws2 y2 x2)) x p y k2 p2 ws2 y2 x2;rw[World.size_alloc]at r;have F:((b.alloc (B7 k2 p2 ws2 y2 x2)).alloc (S2 k p ws y x k2 p2 ws2 y2 x2)).heap.size=b.heap.size+1+1:=by simp
 refine P3 (H:=fun t=>d t\/B8 c b t\/t=b.heap.size+1) (sQf kk h v rfl E (fun t a=>⟨.inl a,?_⟩) (fun t a=>⟨.inr (.inl a),?_⟩) (.inr (.inr rfl)) r) A B C (((m.next g).below e).below f) ?_
 ·have o:=q t a
  rw[f.block t (by simp;omega),e.block t (by omega),g.block (by omega) (by omega)]
 ·have o:=a.1
  have u:=a.2;rw[f.block t (by simp;omega),e.block t (by omega)]
 ·intro t a
  rw[F];rcases a with a|a|rfl
  ·have:=q t a
   exact⟨by omega,by omega⟩
  ·have o:=a.1
   have u:=a.2;exact⟨by omega,by omega⟩
  ·exact⟨by omega,by omega⟩
def bQr (s:By)(D n:Nat):Prop:=∀(pb i z:Nat) (w:World),PB w pb s i z false->i<=s.size->z<=1048576+i->(rest s i).length<n->
 Ca 81 #[.pointer (some ⟨pb,0,none⟩),.int .i64 (D:Int)] w (LPost w pb s i z (fXe (pat (13-D)) (fXa (12-D)) n (rest s i)))
theorem zQo (h:fXk P Q r=.none):fXe P Q (n+1) r=.none:=by rw[fXe,h]
theorem zQp (h:fXk P Q r=some (l,r1))(a:gX3 r1=true):fXe P Q (n+1) r=some (l,r1):=by
 rw[fXe,h];dsimp only
 rw[if_pos a]
theorem zQn (h:fXk P Q r=some (l,r1))(a:gX3 r1=false):fXe P Q (n+1) r=fQy 3 l (fXe P Q n r1):=by
 rw[fXe,h];dsimp only
 rw[if_neg (by rw[a];simp)];cases fXe P Q n r1 with
 | none=>rfl
 | some x=>rfl
theorem uQj (h:s.size<=i):gX3 (rest s i)=true:=by rw[P4 h];rfl
theorem uQg (h:i<s.size):gX3 (rest s i)=(nx s i==124||nx s i==41||nx s i==62||nx s i==126):=by rw[D4 h];rfl
theorem bQy (h:CaseL W G (fXk P Q r) s z i1 z1 bad k p ws y x)(b:bad=true\/gX3 (rest s i1)=true):CaseL W G (fXe P Q (n+1) r) s z i1 z1 bad k p ws y x:=by
 rcases h with⟨a,c⟩|⟨a,l,c,d⟩
 ·exact .inl ⟨a,zQo c⟩
 ·rcases b with b|b
  ·rw[b]at a;cases a
  ·exact .inr ⟨a,l,zQp c b,d⟩
theorem eQo (h:a=c):(((a.toNat:Nat):Int)==((c.toNat:Nat):Int))=true:=by rw[h];simp
theorem fQa (h:a≠c):(((a.toNat:Nat):Int)==((c.toNat:Nat):Int))=false:=by
 rw[beq_eq_false_iff_ne];intro e;exact h (UInt8.toNat_inj.1 (by omega))
theorem zQm (s:By)(hs:s.size<=1048576)(n:Nat)(hP:fQ8 s D)(hN:bQr s D n):bQr s D (n+1):=by
 intro pb i z w c9 hi hz hn;have f4:=c9.lt;have f2:¬w.heap.size=pb:=by omega
 have f3:¬pb=w.heap.size:=by omega
 have b4:=St.start c9;have d9:Hid _:=hN;go_enter Tryz.func81,Tryz.ntmps81;go_wp2_with fail;refine(hP pb i z _ b4.left.lies hi hz).mono ?_;rintro c8 r b1;obtain⟨k,p,d,l,m,o,e,f,h,a,K,V,rfl,e8,a6,f6,d2,b3⟩:=b1.mid (fun b6 t P=>⟨(jXu (hXl _) (gXx _) P).1,(jXu (hXl _) (gXx _) P).2.1⟩) hi;have c7:Hid (V=false->(rest s a).length<n):=fun hb=>by
  rcases b3 with⟨h0,_⟩|⟨_,b6,P,_⟩
  ·rw[hb]at h0;cases h0
  ·have:=(jXu (hXl _) (gXx _) P).2.2
   omega
 have c5:Hid (V=false->a<=s.size):=fun hb=>by
  rcases b3 with⟨h0,_⟩|⟨_,b6,P,_,_,_,_,h1,_⟩
  ·rw[hb]at h0;cases h0
  ·exact h1
 have b5:=b4.next d2;have d5:=b5.below (A5 r (B7 k p d (.slice l m o) (.slice e f h)));have d3:=N5 r k p d (.slice l m o) (.slice e f h);have e4:=b4.res.lt;have f5:=b5.left.lies.lt;have f0:=b5.res.lt;have b8:Hid _:=d5;have b7:Hid (CaseL r (B8 (w.alloc (.cells #[Iv 0,Iv 0,.string ⟨#[]⟩,.slice none 0 0,.string ⟨#[]⟩,.slice none 0 0] 37)) r) (fXk (pat (13-D)) (fXa (12-D)) (rest s i)) s z a K V k p d (.slice l m o) (.slice e f h)):=b3;have O:Hid (∀j,B8 (w.alloc (.cells #[Iv 0,Iv 0,.string ⟨#[]⟩,.slice none 0 0,.string ⟨#[]⟩,.slice none 0 0] 37)) r j->w.heap.size<j/\j<r.heap.size):=fun j q=>⟨by have:=q.1;omega,q.2⟩;generalize (B8 (w.alloc (.cells #[Iv 0,Iv 0,.string ⟨#[]⟩,.slice none 0 0,.string ⟨#[]⟩,.slice none 0 0] 37)) r)=u at b7 O;have c4:Hid (LiesL (r.alloc (B7 k p d (.slice l m o) (.slice e f h))) r.heap.size [Iv k,Iv p.kind,Sv p.signs,.slice l m o,Sv d,.slice e f h]):=d3;clear b4 b5 d5 b3 d2 d3 e4;go_wp2_with fail;refine(G5 a pb s K V _ b8.out.left.lies (by omega) (by omega)).mono ?_;rintro c8 b ⟨rfl,a9⟩;have b2:=b8.out.below a9;have e5:=a9.size;simp at e5;have T:Hid (LiesL b r.heap.size [Iv k,Iv p.kind,Sv p.signs,.slice l m o,Sv d,.slice e f h]):=c4.out.of_block (a9.block _ (by simp));have S:Hid (CaseL b u (fXk (pat (13-D)) (fXa (12-D)) (rest s i)) s z a K V k p d (.slice l m o) (.slice e f h)):=b7.out.mono (fun j q=>⟨q,by
  have e1:=O.out j q;rw[a9.block j (by simp;omega),Below.heap_alloc _ _ _ e1.2]⟩)
 have W:=b2.left.lies.c0;have X:=b2.left.lies.c1;have Y:=b2.left.lies.c3;have U:Hid (St w pb s a K V b):=b2;clear b2 a9 c4 b7 b8;cases V with
 | true=>
  go_wp2_with fail;go_quiet (fail)
  have c:=U.out.below (E5 nq);have A:Hid (LiesL (b.drewN nq) r.heap.size [Iv k,Iv p.kind,Sv p.signs,.slice l m o,Sv d,.slice e f h]):=T.out.of_block rfl;have y:Hid (CaseL (b.drewN nq) u (fXe (pat (13-D)) (fXa (12-D)) (n+1) (rest s i)) s z a K true k p d (.slice l m o) (.slice e f h)):=bQy (S.out.mono (fun j q=>⟨q,rfl⟩)) (.inl rfl);have a8:b.heap.size<=(b.drewN nq).heap.size:=Nat.le_refl _;clear W X Y;generalize b.drewN nq=J at *;obtain⟨-,-,-,-,-,-,C,E,F,G,H,I,g,a7⟩:=c.cells;obtain⟨a0,a1,a2,a3,a4,a5⟩:=A.out.six;have g0:=g 0;have g1:=g 1;have g2:=g 2;have g3:=g 3;have g4:=g 4;have g5:=g 5;have x:Hid _:=c;have M:Hid (∀t,u t->w.heap.size<t/\t<J.heap.size):=fun t B=>by have:=O.out t B;exact⟨by omega,by omega⟩
  clear c g;go_wp2_with fail;exact bodyPost_ret (v:=E0 k p d (.slice l m o) (.slice e f h)) (by simp[results,Tryz.results81,go_sem,C,E,F,G,H,I]) rfl (P3 y.out (by omega) a6 (by omega) x.out M.out)
 | false=>
  have c6:Hid (a<=s.size):=c5.out rfl;have d8:Hid ((rest s a).length<n):=c7.out rfl;clear c5 c7
  by_cases b9:s.size<=a
  ·have hd:decide ((s.size:Int)<=(a:Int))=true:=by simp;omega
   have e0:decide (s.size<=a)=true:=by simp;omega
   have L:Hid (gX3 (rest s a)=true):=(uQj b9);clear b9;go_wp2_with fail;go_quiet (fail)
   have c:=U.out.below (E5 nq);have A:Hid (LiesL (b.drewN nq) r.heap.size [Iv k,Iv p.kind,Sv p.signs,.slice l m o,Sv d,.slice e f h]):=T.out.of_block rfl;have y:Hid (CaseL (b.drewN nq) u (fXe (pat (13-D)) (fXa (12-D)) (n+1) (rest s i)) s z a K false k p d (.slice l m o) (.slice e f h)):=bQy (S.out.mono (fun j q=>⟨q,rfl⟩)) (.inr L.out);have a8:b.heap.size<=(b.drewN nq).heap.size:=Nat.le_refl _;clear W X Y;generalize b.drewN nq=J at *;obtain⟨-,-,-,-,-,-,C,E,F,G,H,I,g,a7⟩:=c.cells;obtain⟨a0,a1,a2,a3,a4,a5⟩:=A.out.six;have g0:=g 0;have g1:=g 1;have g2:=g 2;have g3:=g 3;have g4:=g 4;have g5:=g 5;have x:Hid _:=c;have M:Hid (∀t,u t->w.heap.size<t/\t<J.heap.size):=fun t B=>by have:=O.out t B;exact⟨by omega,by omega⟩
   clear c g;go_wp2_with fail;exact bodyPost_ret (v:=E0 k p d (.slice l m o) (.slice e f h)) (by simp[results,Tryz.results81,go_sem,C,E,F,G,H,I]) rfl (P3 y.out (by omega) a6 (by omega) x.out M.out)
  ·have e3:a<s.size:=by omega
   have hd:decide ((s.size:Int)<=(a:Int))=false:=by simp;omega
   have e7:(a:Int)<(s.size:Int):=by omega
   have e0:decide (s.size<=a)=false:=by simp;omega
   have N:=uQg e3;clear b9
   by_cases Q:nx s a=124
   ·have n1:(((nx s a).toNat:Int)==124)=true:=eQo Q
    have L:Hid (gX3 (rest s a)=true):=(by rw[N,Q];rfl);clear N Q;go_wp2_with fail;go_quiet (fail)
    have c:=U.out.below (E5 nq);have A:Hid (LiesL (b.drewN nq) r.heap.size [Iv k,Iv p.kind,Sv p.signs,.slice l m o,Sv d,.slice e f h]):=T.out.of_block rfl;have y:Hid (CaseL (b.drewN nq) u (fXe (pat (13-D)) (fXa (12-D)) (n+1) (rest s i)) s z a K false k p d (.slice l m o) (.slice e f h)):=bQy (S.out.mono (fun j q=>⟨q,rfl⟩)) (.inr L.out);have a8:b.heap.size<=(b.drewN nq).heap.size:=Nat.le_refl _;clear W X Y;generalize b.drewN nq=J at *;obtain⟨-,-,-,-,-,-,C,E,F,G,H,I,g,a7⟩:=c.cells;obtain⟨a0,a1,a2,a3,a4,a5⟩:=A.out.six;have g0:=g 0;have g1:=g 1;have g2:=g 2;have g3:=g 3;have g4:=g 4;have g5:=g 5;have x:Hid _:=c;have M:Hid (∀t,u t->w.heap.size<t/\t<J.heap.size):=fun t B=>by have:=O.out t B;exact⟨by omega,by omega⟩
    clear c g;go_wp2_with fail;exact bodyPost_ret (v:=E0 k p d (.slice l m o) (.slice e f h)) (by simp[results,Tryz.results81,go_sem,C,E,F,G,H,I]) rfl (P3 y.out (by omega) a6 (by omega) x.out M.out)
   have n1:(((nx s a).toNat:Int)==124)=false:=fQa Q
   by_cases R:nx s a=41
   ·have n2:(((nx s a).toNat:Int)==41)=true:=eQo R
    have L:Hid (gX3 (rest s a)=true):=(by rw[N,R];rfl);clear N Q R;go_wp2_with fail;go_quiet (fail)
    have c:=U.out.below (E5 nq);have A:Hid (LiesL (b.drewN nq) r.heap.size [Iv k,Iv p.kind,Sv p.signs,.slice l m o,Sv d,.slice e f h]):=T.out.of_block rfl;have y:Hid (CaseL (b.drewN nq) u (fXe (pat (13-D)) (fXa (12-D)) (n+1) (rest s i)) s z a K false k p d (.slice l m o) (.slice e f h)):=bQy (S.out.mono (fun j q=>⟨q,rfl⟩)) (.inr L.out);have a8:b.heap.size<=(b.drewN nq).heap.size:=Nat.le_refl _;clear W X Y;generalize b.drewN nq=J at *;obtain⟨-,-,-,-,-,-,C,E,F,G,H,I,g,a7⟩:=c.cells;obtain⟨a0,a1,a2,a3,a4,a5⟩:=A.out.six;have g0:=g 0;have g1:=g 1;have g2:=g 2;have g3:=g 3;have g4:=g 4;have g5:=g 5;have x:Hid _:=c;have M:Hid (∀t,u t->w.heap.size<t/\t<J.heap.size):=fun t B=>by have:=O.out t B;exact⟨by omega,by omega⟩
    clear c g;go_wp2_with fail;exact bodyPost_ret (v:=E0 k p d (.slice l m o) (.slice e f h)) (by simp[results,Tryz.results81,go_sem,C,E,F,G,H,I]) rfl (P3 y.out (by omega) a6 (by omega) x.out M.out)
   have n2:(((nx s a).toNat:Int)==41)=false:=fQa R
   by_cases Z:nx s a=62
   ·have n3:(((nx s a).toNat:Int)==62)=true:=eQo Z
    have L:Hid (gX3 (rest s a)=true):=(by rw[N,Z];rfl);clear N Q R Z;go_wp2_with fail;go_quiet (fail)
    have c:=U.out.below (E5 nq);have A:Hid (LiesL (b.drewN nq) r.heap.size [Iv k,Iv p.kind,Sv p.signs,.slice l m o,Sv d,.slice e f h]):=T.out.of_block rfl;have y:Hid (CaseL (b.drewN nq) u (fXe (pat (13-D)) (fXa (12-D)) (n+1) (rest s i)) s z a K false k p d (.slice l m o) (.slice e f h)):=bQy (S.out.mono (fun j q=>⟨q,rfl⟩)) (.inr L.out);have a8:b.heap.size<=(b.drewN nq).heap.size:=Nat.le_refl _;clear W X Y;generalize b.drewN nq=J at *;obtain⟨-,-,-,-,-,-,C,E,F,G,H,I,g,a7⟩:=c.cells;obtain⟨a0,a1,a2,a3,a4,a5⟩:=A.out.six;have g0:=g 0;have g1:=g 1;have g2:=g 2;have g3:=g 3;have g4:=g 4;have g5:=g 5;have x:Hid _:=c;have M:Hid (∀t,u t->w.heap.size<t/\t<J.heap.size):=fun t B=>by have:=O.out t B;exact⟨by omega,by omega⟩
    clear c g;go_wp2_with fail;exact bodyPost_ret (v:=E0 k p d (.slice l m o) (.slice e f h)) (by simp[results,Tryz.results81,go_sem,C,E,F,G,H,I]) rfl (P3 y.out (by omega) a6 (by omega) x.out M.out)
   have n3:(((nx s a).toNat:Int)==62)=false:=fQa Z
   by_cases m4:nx s a=126
   ·have n4:(((nx s a).toNat:Int)==126)=true:=eQo m4
    have L:Hid (gX3 (rest s a)=true):=(by rw[N,m4];rfl);clear N Q R Z m4;go_wp2_with fail;go_quiet (fail)
    have c:=U.out.below (E5 nq);have A:Hid (LiesL (b.drewN nq) r.heap.size [Iv k,Iv p.kind,Sv p.signs,.slice l m o,Sv d,.slice e f h]):=T.out.of_block rfl;have y:Hid (CaseL (b.drewN nq) u (fXe (pat (13-D)) (fXa (12-D)) (n+1) (rest s i)) s z a K false k p d (.slice l m o) (.slice e f h)):=bQy (S.out.mono (fun j q=>⟨q,rfl⟩)) (.inr L.out);have a8:b.heap.size<=(b.drewN nq).heap.size:=Nat.le_refl _;clear W X Y;generalize b.drewN nq=J at *;obtain⟨-,-,-,-,-,-,C,E,F,G,H,I,g,a7⟩:=c.cells;obtain⟨a0,a1,a2,a3,a4,a5⟩:=A.out.six;have g0:=g 0;have g1:=g 1;have g2:=g 2;have g3:=g 3;have g4:=g 4;have g5:=g 5;have x:Hid _:=c;have M:Hid (∀t,u t->w.heap.size<t/\t<J.heap.size):=fun t B=>by have:=O.out t B;exact⟨by omega,by omega⟩
    clear c g;go_wp2_with fail;exact bodyPost_ret (v:=E0 k p d (.slice l m o) (.slice e f h)) (by simp[results,Tryz.results81,go_sem,C,E,F,G,H,I]) rfl (P3 y.out (by omega) a6 (by omega) x.out M.out)
   have n4:(((nx s a).toNat:Int)==126)=false:=fQa m4;have L:Hid (gX3 (rest s a)=false):=by
    show _=_;rw[N];simp[Q,R,Z,m4]
   clear N Q R Z m4;go_wp2_with fail;go_quiet (fail)
   have c:=U.out.below (E5 nq);have A:Hid (LiesL (b.drewN nq) r.heap.size [Iv k,Iv p.kind,Sv p.signs,.slice l m o,Sv d,.slice e f h]):=T.out.of_block rfl;have y:Hid (CaseL (b.drewN nq) u (fXk (pat (13-D)) (fXa (12-D)) (rest s i)) s z a K false k p d (.slice l m o) (.slice e f h)):=S.out.mono (fun j q=>⟨q,rfl⟩);have a8:b.heap.size<=(b.drewN nq).heap.size:=Nat.le_refl _;clear W X Y;generalize b.drewN nq=J at *;have d0:=d9.out pb a K J c.left.lies c6.out (by omega) d8.out;have a7:=c.res.lt;have x:Hid _:=c;clear c;go_wp2_with fail;refine d0.mono ?_;clear d0;rintro c8 w7 b1;obtain⟨kb,c2,wb,r1,r2,r3,t1,t2,t3,i2,z2,e6,rfl,e9,e2,f7,b0,d1⟩:=b1.mid (fun b6 t P=>iXx (hXl _) (gXx _) _ _ _ _ P) c6.out;clear b1;have f8:=b0.grown.size;have HE:Hid _:=lQ7 (i:=i) 3 y.out x.out b0 d1 (fun t B=>by have:=O.out t B;exact⟨by omega,by omega⟩) (fun b6 P=>zQn P L.out) (by omega) e2 (by omega);have d6:=x.out.next b0;have d7:=(d6.below (A5 w7 (B7 kb c2 wb (.slice r1 r2 r3) (.slice t1 t2 t3)))).below (A5 _ (S2 k p d (.slice l m o) (.slice e f h) kb c2 wb (.slice r1 r2 r3) (.slice t1 t2 t3)));have d4:=(A.out.of_block (b0.block (by omega) (by omega))).of_block ((A5 w7 (B7 kb c2 wb (.slice r1 r2 r3) (.slice t1 t2 t3))).block _ (by omega));obtain⟨-,-,-,-,-,-,C,E,F,G,H,I,g,f1⟩:=d7.cells;obtain⟨a0,a1,a2,a3,a4,a5⟩:=d4.six;have g0:=g 0;have g1:=g 1;have g2:=g 2;have g3:=g 3;have g4:=g 4;have g5:=g 5;clear d6 d7 d4 b0 d1 g;go_wp2_with fail;exact bodyPost_ret (v:=E0 3 nN [] (.slice none 0 0) (.slice (some ⟨w7.heap.size+1,0,none⟩) 2 2)) (by simp[results,Tryz.results81,go_sem,C,E,F,G,H,I,nN]) rfl HE.out
theorem mQc (s:By)(hs:s.size<=1048576)(D:Nat)(a:fQ8 s D):∀n,bQr s D n
 | 0=>fun _ _ _ _ _ _ _ h=>absurd h (Nat.not_lt_zero _)
 | n+1=>zQm D s hs n a (mQc s hs D a n)
variable {P:Lu->Rd}{Q:Lu->Rl}{i i1 n:Nat}{l:Ln}(s:By)(p:Ls.D)(ws:Lu)(D:Nat)(a:Ln)(w:World)(y:Value)
def dQv (s:By)(D n:Nat):Prop:=∀(pb i z:Nat) (w:World),PB w pb s i z false->i<=s.size->z<=1048576+i->(rest s i).length<n->
 Ca 46 #[.pointer (some ⟨pb,0,none⟩),.int .i64 (D:Int)] w (LPost w pb s i z (gXa (pat (13-D)) (fXa (12-D)) n (rest s i)))
theorem jQa {r:Lu}(h:fXe P Q (r.length+1) r=.none):gXa P Q (n+1) r=.none:=by rw[gXa,h]
theorem qQ6 {s:By}(h:fXe P Q ((rest s i).length+1) (rest s i)=some (l,rest s i1))(a:A7 s i1 124=false):gXa P Q (n+1) (rest s i)=some (l,rest s i1):=by
 rw[gXa,h];dsimp only
 rw[if_neg (by rw[C4,a];simp)]
theorem qQ8 {s:By}(h:fXe P Q ((rest s i).length+1) (rest s i)=some (l,rest s i1))(a:A7 s i1 124=true):gXa P Q (n+1) (rest s i)=fQy 5 l (gXa P Q n (rest s (i1+1))):=by
 rw[gXa,h];dsimp only
 rw[if_pos (C4.2 a),E7];cases gXa P Q n (rest s (i1+1)) with
 | none=>rfl
 | some x=>rfl
theorem wQ8 (B:(12:Int)<(D:Int))(a i z:Nat)(h:PB w a s i z false)(C:i<=s.size) :
  Calls Tryz.prog 46 #[Pt a,Iv (D:Int)] w (LPost w a s i z .none):=by
 have f:=h.lt;have F:¬w.heap.size=a:=by omega
 have G:¬a=w.heap.size:=by omega
 have d:(w.setCell ⟨a,3,none⟩ (.bool true)).heap.size=w.heap.size:=by simp[World.setCell]
 have c:St w a s i z true ((w.setCell ⟨a,3,none⟩ (.bool true)).alloc (.cells #[Iv 0,Iv 0,.string ⟨#[]⟩,.slice none 0 0,.string ⟨#[]⟩,.slice none 0 0] 37)):=
  ⟨((Left.of_below h Br).set3 true).below (A5 _ _),by have:=bQg (w.setCell ⟨a,3,none⟩ (.bool true)) cQj;rw[d]at this;exact this,f⟩
 have j:=h.c3;have e:=h.fr 3;have b:Hid _:=c;go_enter Tryz.func46,Tryz.ntmps46;go_upto_region 3 with (fail);generalize (w.setCell ⟨a,3,none⟩ (.bool true)).alloc (.cells #[Iv 0,Iv 0,.string ⟨#[]⟩,.slice none 0 0,.string ⟨#[]⟩,.slice none 0 0] 37)=q at *;obtain⟨-,-,-,-,-,-,k,l,m,n,o,p,g,E⟩:=b.out.cells;have r:=g 0;have t:=g 1;have u:=g 2;have x:=g 3;have y:=g 4;have A:=g 5;go_wp2;exact bodyPost_ret (v:=E0 0 nN [] (.slice none 0 0) (.slice none 0 0)) (by simp[results,Tryz.results46,go_sem,k,l,m,n,o,p,nN]) rfl (q8 rfl (Nat.le_refl _) (by omega) (by omega) b.out)
theorem wQ6:aQn s 13:=fun b i z w h a _=>wQ8 s 13 w (by decide) b i z h a
theorem wQ7 (hs:s.size<=1048576)(n:Nat)(hD:D<=12)(hP:∀c8,bQr s D c8)(hN:dQv s D n):dQv s D (n+1):=by
 intro y i z w b0 hi hz hn;have d9:=b0.lt;have d7:¬w.heap.size=y:=by omega
 have d8:¬y=w.heap.size:=by omega
 have d0:¬(12:Int)<(D:Int):=by omega
 have Q:=St.start b0;have c2:Hid _:=hN;go_enter Tryz.func46,Tryz.ntmps46;go_wp2_with fail;refine(hP ((rest s i).length+1) y i z _ Q.left.lies hi hz (Nat.lt_succ_self _)).mono ?_;rintro a9 d H;obtain⟨k,p,e,o,q,r,f,h,m,c,B,x,rfl,d1,d2,e2,b3,Z⟩:=H.mid (fun l t b=>iXx (hXl _) (gXx _) _ _ _ _ b) hi;have a8:Hid (x=false->(rest s c).length<=n):=fun hb=>by
  rcases Z with⟨P,_⟩|⟨_,l,b,_⟩
  ·rw[hb]at P;cases P
  ·have:=(iXx (hXl _) (gXx _) _ _ _ _ b).2
   omega
 have R:=Q.next b3;have b8:=R.below (A5 d (B7 k p e (.slice o q r) (.slice f h m)));have b5:=N5 d k p e (.slice o q r) (.slice f h m);have c6:=Q.res.lt;have e0:=R.left.lies.lt;have d5:=R.res.lt;have Y:Hid _:=b8;have T:Hid (CaseL d (B8 (w.alloc (.cells #[Iv 0,Iv 0,.string ⟨#[]⟩,.slice none 0 0,.string ⟨#[]⟩,.slice none 0 0] 37)) d) (fXe (pat (13-D)) (fXa (12-D)) ((rest s i).length+1) (rest s i)) s z c B x k p e (.slice o q r) (.slice f h m)):=Z;have V:Hid (∀j,B8 (w.alloc (.cells #[Iv 0,Iv 0,.string ⟨#[]⟩,.slice none 0 0,.string ⟨#[]⟩,.slice none 0 0] 37)) d j->w.heap.size<j/\j<d.heap.size):=fun j E=>⟨by have:=E.1;omega,E.2⟩;generalize (B8 (w.alloc (.cells #[Iv 0,Iv 0,.string ⟨#[]⟩,.slice none 0 0,.string ⟨#[]⟩,.slice none 0 0] 37)) d)=O at T V;have a7:Hid (LiesL (d.alloc (B7 k p e (.slice o q r) (.slice f h m))) d.heap.size [Iv k,Iv p.kind,Sv p.signs,.slice o q r,Sv e,.slice f h m]):=b5;clear Q R b8 Z b3 b5 c6;go_wp2_with fail;refine(O5 c 124 y s B x _ Y.out.left.lies (by omega) (by omega)).mono ?_;rintro a9 A ⟨rfl,F⟩;have b9:=Y.out.next F;have c7:=F.grown.size;simp at c7;have X:Hid (LiesL A d.heap.size [Iv k,Iv p.kind,Sv p.signs,.slice o q r,Sv e,.slice f h m]):=a7.out.of_block (F.block (by simp) (by omega));have U:Hid (CaseL A O (fXe (pat (13-D)) (fXa (12-D)) ((rest s i).length+1) (rest s i)) s z c B x k p e (.slice o q r) (.slice f h m)):=T.out.mono (fun j E=>⟨E,by
  have e1:=V.out j E;rw[F.block (by simp;omega) (by omega),Below.heap_alloc _ _ _ e1.2]⟩)
 have W:Hid (∀t,O t->w.heap.size<t/\t<A.heap.size):=fun t ht=>by have:=V.out t ht;exact⟨by omega,by omega⟩
 have a:Hid (St w y s (if A7 s c 124=true then c+1 else c) B x A):=b9;clear b9 F a7 T Y;cases u:A7 s c 124 with
 | false=>
  rw[u]at a;simp only[Bool.false_eq_true,if_false]at a;have S:Hid (CaseL A O (gXa (pat (13-D)) (fXa (12-D)) (n+1) (rest s i)) s z c B x k p e (.slice o q r) (.slice f h m)):=by
   rcases U.out with⟨C,b⟩|⟨C,l,b,h2⟩
   ·exact .inl ⟨C,jQa b⟩
   ·exact .inr ⟨C,l,qQ6 b u,h2⟩
  clear u;obtain⟨-,-,c3,-,-,-,I,J,K,L,M,N,g,b7⟩:=a.out.cells;obtain⟨a0,a1,a2,a3,a4,a5⟩:=X.out.six;have g0:=g 0;have g1:=g 1;have g2:=g 2;have g3:=g 3;have g4:=g 4;have g5:=g 5;clear g;go_wp2_with fail;exact bodyPost_ret (v:=E0 k p e (.slice o q r) (.slice f h m)) (by simp[results,Tryz.results46,go_sem,I,J,K,L,M,N]) rfl (P3 S.out (by omega) (by omega) (by omega) a.out W.out)
 | true=>
  have d4:=(D9 u).1;rw[u]at a;simp only[if_true]at a;cases x with
  | true=>
   have S:Hid (CaseL A O (gXa (pat (13-D)) (fXa (12-D)) (n+1) (rest s i)) s z (c+1) B true k p e (.slice o q r) (.slice f h m)):=by
    rcases U.out with⟨C,b⟩|⟨P,_⟩
    ·exact .inl ⟨C,jQa b⟩
    ·cases P
   clear u;obtain⟨-,-,c3,-,-,-,I,J,K,L,M,N,g,b7⟩:=a.out.cells;obtain⟨a0,a1,a2,a3,a4,a5⟩:=X.out.six;have g0:=g 0;have g1:=g 1;have g2:=g 2;have g3:=g 3;have g4:=g 4;have g5:=g 5;clear g;go_wp2_with fail;exact bodyPost_ret (v:=E0 k p e (.slice o q r) (.slice f h m)) (by simp[results,Tryz.results46,go_sem,I,J,K,L,M,N]) rfl (P3 S.out (by omega) (by omega) (by omega) a.out W.out)
  | false=>
   have b4:(rest s (c+1)).length<n:=by
    have:=a8.out rfl;rw[F4]at this ⊢;omega
   have b1:=c2.out y (c+1) B A a.out.left.lies (by omega) (by omega) b4;have c4:Hid (A7 s c 124=true):=u;have c3:=a.out.cells.c3;have b7:=a.out.res.lt;clear u b4 a8;go_wp2_with fail;refine b1.mono ?_;clear b1;rintro a9 w7 H;obtain⟨kb,a6,wb,r1,r2,r3,t1,t2,t3,i2,z2,c9,rfl,d3,c5,e3,G,b2⟩:=H.mid (fun l t b=>kXd (hXl _) (gXx _) _ _ _ _ b) (by omega);clear H;have e4:=G.grown.size;have HE:Hid _:=lQ7 (i:=i) 5 U.out a.out G b2 W.out (fun l b=>qQ8 b c4.out) (by omega) c5 (by omega);have c0:=a.out.next G;have c1:=(c0.below (A5 w7 (B7 kb a6 wb (.slice r1 r2 r3) (.slice t1 t2 t3)))).below (A5 _ (S2 k p e (.slice o q r) (.slice f h m) kb a6 wb (.slice r1 r2 r3) (.slice t1 t2 t3)));have b6:=(X.out.of_block (G.block (by omega) (by omega))).of_block ((A5 w7 (B7 kb a6 wb (.slice r1 r2 r3) (.slice t1 t2 t3))).block _ (by omega));obtain⟨-,-,-,-,-,-,I,J,K,L,M,N,g,d6⟩:=c1.cells;obtain⟨a0,a1,a2,a3,a4,a5⟩:=b6.six;have g0:=g 0;have g1:=g 1;have g2:=g 2;have g3:=g 3;have g4:=g 4;have g5:=g 5;clear c0 c1 b6 G b2 g;go_wp2_with fail;exact bodyPost_ret (v:=E0 5 nN [] (.slice none 0 0) (.slice (some ⟨w7.heap.size+1,0,none⟩) 2 2)) (by simp[results,Tryz.results46,go_sem,I,J,K,L,M,N,nN]) rfl HE.out
theorem lQb (s:By)(hs:s.size<=1048576)(D:Nat)(a:D<=12)(b:∀m,bQr s D m):∀n,dQv s D n
 | 0=>fun _ _ _ _ _ _ _ h=>absurd h (Nat.not_lt_zero _)
 | n+1=>wQ7 s D hs n a b (lQb s hs D a b n)
theorem wQ9 (hs:s.size<=1048576)(a:D<=12)(c:Y1 s D)(b:aQn s (D+1)):aQn s D:=by
 intro f i z w h d e;have:=lQb s hs D a (mQc s hs D (yQ5 D s hs a c b)) ((rest s i).length+1) f i z w h d e (Nat.lt_succ_self _);rw[show 13-D=(12-D)+1 by omega]at this ⊢;exact this
theorem kQ9 (s:By)(hs:s.size<=1048576):∀m,m<=13->aQn s (13-m)
 | 0,_=>wQ6 s
 | m+1,hm=>by
  have a:=kQ9 s hs m (by omega);have e:13-m=13-(m+1)+1:=by omega
  rw[e]at a;exact wQ9 s (13-(m+1)) hs (by omega) (mQf s hs (m+1) hm) a
def J5 (w:World)(G:Nat->Prop)(p:Pat):Ending->World->Prop:=fun e w'=>∃v,e=.returned (B4 p v)/\PV w' (F5 G w w') p v/\Bw w w'
def DP (f:Nat)(l:Ln)(P:Pat):Prop:=∀(y x:Value) (w:World) (G:Nat->Prop),Old w G->NV w G l y x->Ca f #[F0 l y x] w (J5 w G P)
def D8 (l:Ln):Prop:=∀(y x:Value) (w:World) (G:Nat->Prop),Old w G->NV w G l y x->Ca 51 #[F0 l y x] w (J5 w G (eX8 l))
def D7 (l:Ln):Prop:=∀(y x:Value) (w:World) (G:Nat->Prop),Old w G->NV w G l y x->Ca 53 #[F0 l y x] w (J5 w G (eX6 l))
abbrev C1 (p:Pat)(y:Value):Obj:=.cells #[.int .i64 p.kind,.string ⟨p.signs.toArray⟩,y] 27
abbrev F3:Obj:=.cells #[.int .i64 0,.string ⟨#[]⟩,.slice none 0 0] 27
abbrev set3 (W:World)(g:Nat)(p:Pat)(y:Value):World:=((W.setCell ⟨g,0,none⟩ (.int .i64 p.kind)).setCell ⟨g,1,none⟩ (.string ⟨p.signs.toArray⟩)).setCell ⟨g,2,none⟩ y
theorem dQk (W:World)(g:Nat)(p:Pat)(j:Nat)(a:j≠g):(set3 W g p y).heap[j]?=W.heap[j]?:=by
 show (((W.setCell _ _).setCell _ _).setCell _ _).heap[j]?=_;rw[Below.heap_setCell _ _ _ _ a,Below.heap_setCell _ _ _ _ a,Below.heap_setCell _ _ _ _ a]
theorem T5 {w W:World}{G H:Nat->Prop}{p:Pat}{v:Value}{g:Nat}(a:w.heap.size<=g)(e:PV W H p v)(d:Bw w W)(c:∀k,H k->k≠g/\(G k\/(w.heap.size<=k/\k<W.heap.size))):J5 w G p (.returned (B4 p v)) (set3 W g p v):=by
 refine⟨v,rfl,PV.mono (fun k b=>?_) (fun k b=>dQk _ _ _ _ _ (c k b).1) _ _ e,((d.setCell a _).setCell a _).setCell a _⟩;rcases (c k b).2 with h|h
 ·exact .inl h
 ·exact .inr ⟨h.1,by simp[World.setCell];exact h.2⟩
theorem X8 (k:Nat)(p:Pat)(x:Value):LiesL ((w.alloc (B7 k p ws y x)).alloc F3) w.heap.size [Iv k,Iv p.kind,Sv p.signs,y,Sv ws,x]/\Lies ((w.alloc (B7 k p ws y x)).alloc F3) (w.heap.size+1) [Iv 0,.string ⟨#[]⟩,.slice none 0 0]:=by
 refine⟨(N5 w k p ws y x).of_block (Below.heap_alloc _ _ _ (by simp)),?_⟩;have:=C7 (w.alloc (B7 k p ws y x)) [Iv 0,.string ⟨#[]⟩,.slice none 0 0];rw[World.size_alloc]at this;exact this
theorem pQc:D8 ⟨0,p,ws,[]⟩:=by
 intro y x w G i h;rw[NV]at h;obtain⟨d,rfl⟩:=h;obtain⟨a,b,c,rfl⟩:=PV.slice _ _ d;have f:eX8 ⟨0,p,ws,[]⟩=eX5 p:=by simp[eX8]
 have e:=C6 w (B7 0 (eX5 p) ws (.slice a b c) (.slice none 0 0)) (C1 (eX5 p) (.slice a b c));have g:Hid (J5 w G (eX5 p) (.returned (B4 (eX5 p) (.slice a b c))) ((w.alloc (B7 0 (eX5 p) ws (.slice a b c) (.slice none 0 0))).alloc (C1 (eX5 p) (.slice a b c)))):=⟨_,rfl,d.below e (fun k j=>i k j) (fun _ h=>.inl h),e⟩;rw[f];go_enter Tryz.func51,Tryz.ntmps51;go_wp2;exact bodyPost_ret (v:=B4 (eX5 p) (.slice a b c)) (by simp[results,Tryz.results51,go_sem]) rfl g.out
theorem pQd:D8 ⟨1,p,ws,[]⟩:=by
 intro y x w G i h;rw[NV]at h;obtain⟨d,rfl⟩:=h;obtain⟨a,b,c,rfl⟩:=PV.slice _ _ d;have f:eX8 ⟨1,p,ws,[]⟩=eX5 p:=by simp[eX8]
 have e:=C6 w (B7 1 (eX5 p) ws (.slice a b c) (.slice none 0 0)) (C1 (eX5 p) (.slice a b c));have g:Hid (J5 w G (eX5 p) (.returned (B4 (eX5 p) (.slice a b c))) ((w.alloc (B7 1 (eX5 p) ws (.slice a b c) (.slice none 0 0))).alloc (C1 (eX5 p) (.slice a b c)))):=⟨_,rfl,d.below e (fun k j=>i k j) (fun _ h=>.inl h),e⟩;rw[f];go_enter Tryz.func51,Tryz.ntmps51;go_wp2;exact bodyPost_ret (v:=B4 (eX5 p) (.slice a b c)) (by simp[results,Tryz.results51,go_sem]) rfl g.out
theorem pQe:D8 ⟨2,p,ws,[]⟩:=by
 intro y x w G i h;rw[NV]at h;obtain⟨b,rfl⟩:=h;obtain⟨c,d,e,rfl⟩:=PV.slice _ _ b;have a:eX8 ⟨2,p,ws,[]⟩=nN:=by simp[eX8]
 have g:=C6 w (B7 2 (eX5 p) ws (.slice c d e) (.slice none 0 0)) (C1 (nN) (.slice none 0 0));have f:Hid (J5 w G (nN) (.returned (B4 (nN) (.slice none 0 0))) ((w.alloc (B7 2 (eX5 p) ws (.slice c d e) (.slice none 0 0))).alloc (C1 (nN) (.slice none 0 0)))):=⟨_,rfl,R4 _ _ _ _,g⟩;rw[a];go_enter Tryz.func51,Tryz.ntmps51;go_wp2;exact bodyPost_ret (v:=B4 (nN) (.slice none 0 0)) (by simp[results,Tryz.results51,go_sem,nN]) rfl f.out
theorem pQ3:D7 ⟨0,p,ws,[]⟩:=by
 intro y x w G i h;rw[NV]at h;obtain⟨d,rfl⟩:=h;obtain⟨a,b,c,rfl⟩:=PV.slice _ _ d;have f:eX6 ⟨0,p,ws,[]⟩=eX5 p:=by simp[eX6]
 have e:=C6 w (B7 0 (eX5 p) ws (.slice a b c) (.slice none 0 0)) (C1 (eX5 p) (.slice a b c));have g:Hid (J5 w G (eX5 p) (.returned (B4 (eX5 p) (.slice a b c))) ((w.alloc (B7 0 (eX5 p) ws (.slice a b c) (.slice none 0 0))).alloc (C1 (eX5 p) (.slice a b c)))):=⟨_,rfl,d.below e (fun k j=>i k j) (fun _ h=>.inl h),e⟩;rw[f];go_enter Tryz.func53,Tryz.ntmps53;go_wp2;exact bodyPost_ret (v:=B4 (eX5 p) (.slice a b c)) (by simp[results,Tryz.results53,go_sem]) rfl g.out
theorem pQ4:D7 ⟨1,p,ws,[]⟩:=by
 intro y x w G i h;rw[NV]at h;obtain⟨b,rfl⟩:=h;obtain⟨c,d,e,rfl⟩:=PV.slice _ _ b;have a:eX6 ⟨1,p,ws,[]⟩=nN:=by simp[eX6]
 have g:=C6 w (B7 1 (eX5 p) ws (.slice c d e) (.slice none 0 0)) (C1 (nN) (.slice none 0 0));have f:Hid (J5 w G (nN) (.returned (B4 (nN) (.slice none 0 0))) ((w.alloc (B7 1 (eX5 p) ws (.slice c d e) (.slice none 0 0))).alloc (C1 (nN) (.slice none 0 0)))):=⟨_,rfl,R4 _ _ _ _,g⟩;rw[a];go_enter Tryz.func53,Tryz.ntmps53;go_wp2;exact bodyPost_ret (v:=B4 (nN) (.slice none 0 0)) (by simp[results,Tryz.results53,go_sem,nN]) rfl f.out
theorem pQi {f9 k9:Nat}{q8 P9:Pat}(hf:f9=51\/f9=53)(hk:k9=6\/k9=7)(hP:P9=fXl q8)(ha:DP f9 a q8):DP f9 ⟨k9,p,ws,[a]⟩ P9:=by
 subst hP;intro a6 a5 w G c h;rw[NV]at h;obtain⟨L,g,v1,u1,hg,rfl,I,t⟩:=h;obtain⟨n,o,q,rfl⟩:=PV.slice _ _ L;obtain⟨⟨b1,b2,b3,rfl⟩,d1,d2,d3,rfl⟩:=NV.slices _ _ _ t;have a2:=c g hg
 have f:=C6 w (lo k9 p ws n o q g 1) F3;obtain⟨H,J⟩:=X8 ws w (.slice n o q) k9 (eX5 p) (Sl g 1 1);have E:=ha _ _ _ G (fun j b=>Ll (c j b) f.size) (t.below f (fun j b=>c j b) (fun _ h=>h));obtain⟨P,Q,R,S,T,U⟩:=I.six;have C:Hid (Lies ((w.alloc (lo k9 p ws n o q g 1)).alloc F3) (w.heap.size+1) [Iv 0,.string ⟨#[]⟩,.slice none 0 0]):=J;have B:Hid _:=f;obtain⟨V,W,X,Y,Z,e5⟩:=H.six;rcases hk with rfl|rfl<;>rcases hf with rfl|rfl
 all_goals
  first|go_enter Tryz.func51,Tryz.ntmps51|go_enter Tryz.func53,Tryz.ntmps53
  go_wp2_with fail;refine E.mono ?_;rintro e m ⟨v,rfl,u,i⟩;obtain⟨s1,s2,l,rfl⟩:=PV.slice _ _ u;have k:=A5 m (C1 q8 (.slice s1 s2 l));have a0:=i.size;simp at a0;have F:=aQ5 (.slice s1 s2 l) q8 _ (F5 G ((w.alloc (lo _ p ws n o q g 1)).alloc F3) m) (fun j b=>by
   rcases b with b|b
   ·have:=c j b;simp;omega
   ·have:=b.2;simp;omega) (u.below k (fun j b=>by
   rcases b with b|b
   ·have:=c j b;omega
   ·exact b.2) (fun _ h=>h))
  have M:Hid _:=Bj (Bj B.out i) k;have O:Hid (Lies (m.alloc (C1 q8 (.slice s1 s2 l))) (w.heap.size+1) [Iv 0,.string ⟨#[]⟩,.slice none 0 0]):=(C.out.below i (by simp)).below k (by omega);go_wp2_with fail;refine F.mono ?_;rintro e w5 ⟨a4,rfl,x,s⟩;obtain⟨y,z,A,rfl⟩:=PV.slice _ _ x;have a1:=s.size;simp at a1;have d:=O.out.below s (by simp;omega);obtain⟨q0,q1,q2⟩:=d.three (a:=nN);have g0:=d.fr 0;have g1:=d.fr 1;have g2:=d.fr 2;have a3:=d.lt;have N:Hid (J5 w G (fXl q8) (.returned (B4 (fXl q8) (.slice y z A))) (set3 w5 (w.heap.size+1) (fXl q8) (.slice y z A))):=T5 (by omega) x (Bj M.out s) (fun j b=>by
   rcases b with (b|b)|b
   ·have:=c j b;exact⟨by omega,.inl b⟩
   ·have r:=b.1;have h2:=b.2;simp at r;exact⟨by omega,.inr ⟨by omega,by omega⟩⟩
   ·have r:=b.1;have h2:=b.2;simp at r;exact⟨by omega,.inr ⟨by omega,by omega⟩⟩)
  clear d x F;go_wp2_with fail;exact bodyPost_ret (v:=B4 (fXl q8) (.slice y z A)) (by first|simp[results,Tryz.results51,go_sem,q0,q1,q2]|simp[results,Tryz.results53,go_sem,q0,q1,q2]) rfl N.out
end Go.Proofs.YtfklinjaajafgaaGreatDoor
