import Derived.Test.YtfklinjaajafgaaGreatDoorK25
set_option maxRecDepth 100000
set_option maxHeartbeats 4000000
namespace Go.Proofs.YtfklinjaajafgaaGreatDoor
open Ls hiding none
open Go.RowKit
theorem yQ7 (s:By)(hs:s.size<=1048576)(D:Nat)(hD:D<=12)(hL:aQn s (D+1))(b i z:Nat)(w:World)(g9:PB w b s i z false)(hi:i<s.size)(hz:z<=1048576+i)(hc:nx s i=40) :
  Calls Tryz.prog 108 #[Pt b,Iv (D:Int)] w (LPost w b s i z (fXk (pat (13-D)) (fXa (12-D)) (rest s i))):=by
 have HR:Hid (fXk (pat (13-D)) (fXa (12-D)) (rest s i)=S8 (R6 (L3 (fXa (12-D)) (rest s (i+1))))):=by
  show _=_;rw[D4 hi,hc];exact zQi _ _ _
 have Hc:Hid (nx s i=40):=hc;clear hc;have HL:Hid (∀(j zz:Nat) (c0:World),PB c0 b s j zz false->j<=s.size->zz<=1048576+j->Ca 46 #[Pt b,Iv ((D:Int)+1)] c0 (LPost c0 b s j zz (fXa (12-D) (rest s j)))):=fun j zz c0 h1 h2 h3=>by
  have:=hL b j zz c0 h1 h2 h3;rw[show ((D+1:Nat):Int)=(D:Int)+1 from by omega,show 13-(D+1)=12-D from by omega]at this;exact this
 clear hL;have k6:=g9.lt;have k1:¬w.heap.size=b:=by omega
 have k2:¬b=w.heap.size:=by omega
 have f5:=St.start g9;go_enter Tryz.func108,Tryz.ntmps108;go_wp2_with fail;refine(G5 i b s z false _ f5.left.lies (by omega) (by omega)).mono ?_;rw[Hc.out];rintro a6 w1 ⟨rfl,i1⟩;have f6:=f5.below i1;have f7:=f6.set1 (i+1);obtain⟨c1,c2,c3,f1,f2,f3,O,P,Q,R,S,T,g,h8⟩:=f6.cells;have c5:=HL.out (i+1) z _ f7.left.lies (by omega) (by omega);have g8:Hid _:=f7;clear f5 f6 f7;go_wp2_with fail;refine c5.mono ?_;clear c5;rintro a6 l d1;obtain⟨k,p,n,u,x,y,o,q,r,a,K,c4,rfl,j2,j3,k9,h6,h4⟩:=d1.mid (fun f9 t hr=>gXx _ _ _ _ hr) (by omega);clear d1 c1 c2 c3 f1 f2 f3 O P Q R S T g h8;have d7:=g8.out.next h6;have h9:=d7.below (A5 l (B7 k p n (.slice u x y) (.slice o q r)));have h7:=N5 l k p n (.slice u x y) (.slice o q r);have i7:w.heap.size<((w1.setCell ⟨b,1,none⟩ (Iv ((i+1:Nat):Int))).heap.size):=g8.out.res.lt;have k7:b<l.heap.size:=d7.left.lies.lt;have i3:w.heap.size<l.heap.size:=d7.res.lt;have e7:Hid _:=h9;have e0:Hid (CaseL l (B8 (w1.setCell ⟨b,1,none⟩ (Iv ((i+1:Nat):Int))) l) (fXa (12-D) (rest s (i+1))) s z a K c4 k p n (.slice u x y) (.slice o q r)):=h4;have b9:Hid (∀j,B8 (w1.setCell ⟨b,1,none⟩ (Iv ((i+1:Nat):Int))) l j->w.heap.size<j/\j<l.heap.size):=fun j hj=>⟨by have:=hj.1;omega,hj.2⟩;generalize (B8 (w1.setCell ⟨b,1,none⟩ (Iv ((i+1:Nat):Int))) l)=W at e0 b9;have g6:Hid (LiesL (l.alloc (B7 k p n (.slice u x y) (.slice o q r))) l.heap.size [Iv k,Iv p.kind,Sv p.signs,.slice u x y,Sv n,.slice o q r]):=h7;clear d7 h9 h4 h6 h7 i7;go_wp2_with fail;refine(O5 a 126 b s K c4 _ e7.out.left.lies (by omega) (by omega)).mono ?_;rintro a6 Y ⟨rfl,c9⟩;have f8:=e7.out.next c9;have i8:=c9.grown.size;simp at i8;have e5:Hid (LiesL Y l.heap.size [Iv k,Iv p.kind,Sv p.signs,.slice u x y,Sv n,.slice o q r]):=g6.out.of_block (c9.block (by simp) (by omega));have e3:Hid (CaseL Y W (fXa (12-D) (rest s (i+1))) s z a K c4 k p n (.slice u x y) (.slice o q r)):=e0.out.mono (fun j hj=>⟨hj,by
  have e1:=b9.out j hj;rw[c9.block (by simp;omega) (by omega),Below.heap_alloc _ _ _ e1.2]⟩)
 obtain⟨c1,c2,c3,f1,f2,f3,-,-,-,-,-,-,-,h8⟩:=f8.cells;have L:Hid (St w b s (if A7 s a 126=true then a+1 else a) K c4 Y):=f8;have k4:¬l.heap.size=b:=by omega
 have k5:¬b=l.heap.size:=by omega
 clear f8 c9 g6 e0 e7;cases c4 with
 | true=>
  have d4:Hid (S8 (R6 (L3 (fXa (12-D)) (rest s (i+1))))=.none):=by
   rcases e3.out with⟨_,hr⟩|⟨h0,_⟩
   ·show _=_
    rw[sQq hr];rfl
   ·cases h0
  cases V:A7 s a 126 with
  | false=>
   rw[V]at L;simp only[Bool.false_eq_true,if_false]at L;clear V;go_wp2_with fail;refine(O5 a 41 b s K true _ L.out.left.lies (by omega) (by omega)).mono ?_;rintro a6 U ⟨rfl,m⟩;have d:=L.out.next m;obtain⟨-,-,d3,-,-,k3,O,P,Q,R,S,T,g,b8⟩:=d.cells;have g0:=g 0;have g1:=g 1;have g2:=g 2;have g3:=g 3;have g4:=g 4;have g5:=g 5;have M:Hid _:=d.set3 true;have X:Hid (i<=(if A7 s a 41=true then a+1 else a)/\(if A7 s a 41=true then a+1 else a)<=s.size+1/\K<=z+((if A7 s a 41=true then a+1 else a)-i)):=by
    cases h:A7 s a 41 with
    | false=>simp only[Bool.false_eq_true,if_false];exact⟨by omega,by omega,by omega⟩
    | true=>have:=(D9 h).1;simp only[if_true];exact⟨by omega,by omega,by omega⟩
   clear d m g;go_wp2_with fail;rw[HR.out,d4.out];exact bodyPost_ret (v:=E0 0 Ls.none [] (.slice none 0 0) (.slice none 0 0)) (by simp[results,Tryz.results108,go_sem,O,P,Q,R,S,T,Ls.none]) rfl (q8 rfl X.out.1 X.out.2.1 X.out.2.2 M.out)
  | true=>
   have i5:=(D9 V).1;rw[V]at L;simp only[if_true]at L;clear V;go_wp2_with fail;refine(O5 (a+1) 41 b s K true _ L.out.left.lies (by omega) (by omega)).mono ?_;rintro a6 U ⟨rfl,m⟩;have d:=L.out.next m;obtain⟨-,-,d3,-,-,k3,O,P,Q,R,S,T,g,b8⟩:=d.cells;have g0:=g 0;have g1:=g 1;have g2:=g 2;have g3:=g 3;have g4:=g 4;have g5:=g 5;have M:Hid _:=d.set3 true;have X:Hid (i<=(if A7 s (a+1) 41=true then (a+1)+1 else (a+1))/\(if A7 s (a+1) 41=true then (a+1)+1 else (a+1))<=s.size+1/\K<=z+((if A7 s (a+1) 41=true then (a+1)+1 else (a+1))-i)):=by
    cases h:A7 s (a+1) 41 with
    | false=>simp only[Bool.false_eq_true,if_false];exact⟨by omega,by omega,by omega⟩
    | true=>have:=(D9 h).1;simp only[if_true];exact⟨by omega,by omega,by omega⟩
   clear d m g;go_wp2_with fail;rw[HR.out,d4.out];exact bodyPost_ret (v:=E0 0 Ls.none [] (.slice none 0 0) (.slice none 0 0)) (by simp[results,Tryz.results108,go_sem,O,P,Q,R,S,T,Ls.none]) rfl (q8 rfl X.out.1 X.out.2.1 X.out.2.2 M.out)
 | false=>
  cases V:A7 s a 126 with
  | false=>
   rw[V]at L;simp only[Bool.false_eq_true,if_false]at L;have b7:Hid (CaseL Y W (L3 (fXa (12-D)) (rest s (i+1))) s z a K false k p n (.slice u x y) (.slice o q r)):=by
    rcases e3.out with⟨h0,_⟩|⟨_,f9,hr,h1⟩
    ·cases h0
    ·exact .inr ⟨rfl,f9,sQr hr V,h1⟩
   have a7:Hid (∀j,W j->w.heap.size<j/\j<Y.heap.size):=fun j hj=>by have:=b9.out j hj;exact⟨by omega,by omega⟩
   clear V;go_wp2_with fail;refine(O5 a 41 b s K false _ L.out.left.lies (by omega) (by omega)).mono ?_;rintro a6 U ⟨rfl,m⟩;have d:=L.out.next m;have i9:=m.grown.size;cases h:A7 s a 41 with
   | false=>
    rw[h]at d;simp only[Bool.false_eq_true,if_false]at d;have HN:Hid (S8 (R6 (L3 (fXa (12-D)) (rest s (i+1))))=.none):=iQi b7.out (by rw[h];rfl);obtain⟨-,-,d3,-,-,k3,O,P,Q,R,S,T,g,b8⟩:=d.cells;have g0:=g 0;have g1:=g 1;have g2:=g 2;have g3:=g 3;have g4:=g 4;have g5:=g 5;have M:Hid _:=d.set3 true;clear d m g h;go_wp2_with fail;rw[HR.out,HN.out];exact bodyPost_ret (v:=E0 0 Ls.none [] (.slice none 0 0) (.slice none 0 0)) (by simp[results,Tryz.results108,go_sem,O,P,Q,R,S,T,Ls.none]) rfl (q8 rfl (by omega) (by omega) (by omega) M.out)
   | true=>
    rw[h]at d;simp only[if_true]at d;have i2:=(D9 h).1;have a8:=d.set3 false;have N:=(e5.out.of_block (m.block e5.out.lt (by omega))).of_block (Below.heap_setCell U ⟨b,3,none⟩ (.bool false) l.heap.size (by show l.heap.size≠b;omega));have i6:(U.setCell ⟨b,3,none⟩ (.bool false)).heap.size=U.heap.size:=by simp[World.setCell]
    have d9:Hid (CaseL (U.setCell ⟨b,3,none⟩ (.bool false)) W (R6 (L3 (fXa (12-D)) (rest s (i+1)))) s z (a+1) K false k p n (.slice u x y) (.slice o q r)):=(jQk b7.out h).mono (fun t c=>⟨c,by
     have e1:=a7.out t c;rw[Below.heap_setCell _ _ _ _ (by show t≠b;omega),m.block e1.2 (by omega)]⟩)
    obtain⟨-,-,d3,-,-,k3,-,-,-,-,-,-,-,b8⟩:=d.cells;have M:Hid _:=a8;have e6:Hid _:=N.six;clear d a8 m h N;go_upto_region 36 with (fail);generalize U.setCell ⟨b,3,none⟩ (.bool false)=W8 at *;obtain⟨a0,a1,a2,a3,a4,a5⟩:=e6.out;have hA:=gQj s hs b (a+1) K false W8 M.out.left.lies (by omega) (by omega) k p n u x y o q r;clear c1 c2 c3 f1 f2 f3 d3 k3;go_wp2_with fail;refine hA.mono ?_;rintro a6 w9 ha;obtain⟨k',p',d2,v1,v2,v3,u1,u2,u3,rfl,c8,a9⟩:=gQo d9.out ha (fun t c=>by have:=a7.out t c;omega) (fun t c=>by have:=a7.out t c;omega);have b6:=M.out.next a9;have j0:=a9.grown.size;obtain⟨-,-,-,-,-,-,O,P,Q,R,S,T,g,i4⟩:=b6.cells;have g0:=g 0;have g1:=g 1;have g2:=g 2;have g3:=g 3;have g4:=g 4;have g5:=g 5;have e8:Hid _:=b6;have e4:Hid (CaseL w9 (F5 W W8 w9) (S8 (R6 (L3 (fXa (12-D)) (rest s (i+1))))) s z (if A7 s (a+1) 42=true then a+1+1 else a+1) (if A7 s (a+1) 42=true then K+1 else K) false k' p' d2 (.slice v1 v2 v3) (.slice u1 u2 u3)):=c8;have HI:Hid (i<=(if A7 s (a+1) 42=true then a+1+1 else a+1)/\(if A7 s (a+1) 42=true then a+1+1 else a+1)<=s.size+1/\(if A7 s (a+1) 42=true then K+1 else K)<=z+((if A7 s (a+1) 42=true then a+1+1 else a+1)-i)):=by
     cases h:A7 s (a+1) 42 with
     | false=>simp only[Bool.false_eq_true,if_false];exact⟨by omega,by omega,by omega⟩
     | true=>have:=(D9 h).1;simp only[if_true];exact⟨by omega,by omega,by omega⟩
    have HH:Hid (∀t,F5 W W8 w9 t->w.heap.size<t/\t<w9.heap.size):=by
     rintro t (c|c)
     ·have:=a7.out t c
      exact⟨by omega,by omega⟩
     ·have h1:=c.1
      exact⟨by omega,c.2⟩
    clear b6 c8 a9 ha hA g a0 a1 a2 a3 a4 a5;go_wp2_with fail;rw[HR.out];exact bodyPost_ret (v:=E0 k' p' d2 (.slice v1 v2 v3) (.slice u1 u2 u3)) (by simp[results,Tryz.results108,go_sem,O,P,Q,R,S,T]) rfl (P3 e4.out HI.out.1 HI.out.2.1 HI.out.2.2 e8.out HH.out)
  | true=>
   have i5:=(D9 V).1;rw[V]at L;simp only[if_true]at L;have HM:Hid (A7 s a 126=true):=V;clear V;have c5:=HL.out (a+1) K Y L.out.left.lies (by omega) (by omega);go_wp2_with fail;refine c5.mono ?_;clear c5;rintro a6 e d1;obtain⟨A,B,J,C,E,F,G,H,I,f,Z,e9,rfl,j4,j7,l0,d0,h5⟩:=d1.mid (fun f9 t hr=>gXx _ _ _ _ hr) (by omega);clear d1 c1 c2 c3 f1 f2 f3;have d8:=L.out.next d0;have l1:=d0.grown.size;have k8:b<e.heap.size:=d8.left.lies.lt;have k0:w.heap.size<e.heap.size:=d8.res.lt;have f0:LiesL e l.heap.size [Iv k,Iv p.kind,Sv p.signs,.slice u x y,Sv n,.slice o q r]:=e5.out.of_block (d0.block (by omega) (by omega));have c6:=A5 e (B7 A B J (.slice C E F) (.slice G H I));have d:=d8.below c6;have d6:=f0.of_block (c6.block _ f0.lt);have c7:=A5 (e.alloc (B7 A B J (.slice C E F) (.slice G H I))) (S2 k p n (.slice u x y) (.slice o q r) A B J (.slice C E F) (.slice G H I));have a8:=d.below c7;have N:=d6.of_block (c7.block _ d6.lt);have f4:=lQe k n (e.alloc (B7 A B J (.slice C E F) (.slice G H I))) (.slice o q r) p (.slice u x y) A B J (.slice C E F) (.slice G H I);rw[World.size_alloc]at f4;have i0:((e.alloc (B7 A B J (.slice C E F) (.slice G H I))).alloc (S2 k p n (.slice u x y) (.slice o q r) A B J (.slice C E F) (.slice G H I))).heap.size=e.heap.size+1+1:=by simp
   have b7:Hid (CaseL (set6 ((e.alloc (B7 A B J (.slice C E F) (.slice G H I))).alloc (S2 k p n (.slice u x y) (.slice o q r) A B J (.slice C E F) (.slice G H I))) l.heap.size 4 Ls.none [] (.slice none 0 0) (.slice (some ⟨e.heap.size+1,0,none⟩) 2 2))
     (fun t=>W t\/B8 Y e t\/t=e.heap.size+1) (L3 (fXa (12-D)) (rest s (i+1))) s z f Z e9 4 Ls.none [] (.slice none 0 0) (.slice (some ⟨e.heap.size+1,0,none⟩) 2 2)):=by
    refine sQb e3.out HM.out h5 (fun t c=>⟨.inl c,?_⟩) (fun t c=>⟨.inr (.inl c),?_⟩) (.inr (.inr rfl)) ?_
    ·have e1:=b9.out t c
     rw[fQo _ _ _ _ _ _ _ _ (by omega),c7.block t (by simp;omega),c6.block t (by omega),d0.block (by omega) (by omega)]
    ·have e1:=c.1
     have e2:=c.2;rw[fQo _ _ _ _ _ _ _ _ (by omega),c7.block t (by simp;omega),c6.block t (by omega)]
    ·exact f4.of_block (fQo _ _ _ _ _ _ _ _ (by omega))
   have d5:Hid (St w b s f Z e9 (set6 ((e.alloc (B7 A B J (.slice C E F) (.slice G H I))).alloc (S2 k p n (.slice u x y) (.slice o q r) A B J (.slice C E F) (.slice G H I))) l.heap.size 4 Ls.none [] (.slice none 0 0) (.slice (some ⟨e.heap.size+1,0,none⟩) 2 2))):=a8.set6 i3 _ _ _ _ _;have g7:Hid (LiesL (set6 ((e.alloc (B7 A B J (.slice C E F) (.slice G H I))).alloc (S2 k p n (.slice u x y) (.slice o q r) A B J (.slice C E F) (.slice G H I))) l.heap.size 4 Ls.none [] (.slice none 0 0) (.slice (some ⟨e.heap.size+1,0,none⟩) 2 2)) l.heap.size [Iv (4:Nat),Iv Ls.none.kind,Sv Ls.none.signs,.slice none 0 0,Sv ([]:Lu),.slice (some ⟨e.heap.size+1,0,none⟩) 2 2]):=N.set6 4 Ls.none [] (.slice none 0 0) (.slice (some ⟨e.heap.size+1,0,none⟩) 2 2);have a7:Hid (∀t,(W t\/B8 Y e t\/t=e.heap.size+1)->w.heap.size<t/\t<(set6 ((e.alloc (B7 A B J (.slice C E F) (.slice G H I))).alloc (S2 k p n (.slice u x y) (.slice o q r) A B J (.slice C E F) (.slice G H I))) l.heap.size 4 Ls.none [] (.slice none 0 0) (.slice (some ⟨e.heap.size+1,0,none⟩) 2 2)).heap.size):=by
    intro t c;rw[iQg,i0];rcases c with c|c|rfl
    ·have:=b9.out t c
     exact⟨by omega,by omega⟩
    ·have e1:=c.1
     have e2:=c.2;exact⟨by omega,by omega⟩
    ·exact⟨by omega,by omega⟩
   have j1:Hid ((set6 ((e.alloc (B7 A B J (.slice C E F) (.slice G H I))).alloc (S2 k p n (.slice u x y) (.slice o q r) A B J (.slice C E F) (.slice G H I))) l.heap.size 4 Ls.none [] (.slice none 0 0) (.slice (some ⟨e.heap.size+1,0,none⟩) 2 2)).heap.size=e.heap.size+1+1):=(iQg _ _ _ _ _ _ _).trans i0;obtain⟨a0,a1,a2,a3,a4,a5⟩:=d6.six;obtain⟨b0,b1,b2,b3,b4,b5⟩:=N.six;have g0:=N.fr 0;have g1:=N.fr 1;have g2:=N.fr 2;have g3:=N.fr 3;have g4:=N.fr 4;have g5:=N.fr 5;clear d8 d a8 f0 d6 N f4 d0 h5 c6 c7;cases e9 with
   | true=>
    have d4:Hid (S8 (R6 (L3 (fXa (12-D)) (rest s (i+1))))=.none):=iQi b7.out rfl;go_wp2_with fail;refine(O5 f 41 b s Z true _ d5.out.left.lies (by omega) (by omega)).mono ?_;rintro a6 U ⟨rfl,m⟩;have d:=d5.out.next m;obtain⟨-,-,d3,-,-,k3,O,P,Q,R,S,T,g,b8⟩:=d.cells;have g0:=g 0;have g1:=g 1;have g2:=g 2;have g3:=g 3;have g4:=g 4;have g5:=g 5;have M:Hid _:=d.set3 true;have X:Hid (i<=(if A7 s f 41=true then f+1 else f)/\(if A7 s f 41=true then f+1 else f)<=s.size+1/\Z<=z+((if A7 s f 41=true then f+1 else f)-i)):=by
     cases h:A7 s f 41 with
     | false=>simp only[Bool.false_eq_true,if_false];exact⟨by omega,by omega,by omega⟩
     | true=>have:=(D9 h).1;simp only[if_true];exact⟨by omega,by omega,by omega⟩
    clear d m g;go_wp2_with fail;rw[HR.out,d4.out];exact bodyPost_ret (v:=E0 0 Ls.none [] (.slice none 0 0) (.slice none 0 0)) (by simp[results,Tryz.results108,go_sem,O,P,Q,R,S,T,Ls.none]) rfl (q8 rfl X.out.1 X.out.2.1 X.out.2.2 M.out)
   | false=>
    go_wp2_with fail;refine(O5 f 41 b s Z false _ d5.out.left.lies (by omega) (by omega)).mono ?_;rintro a6 U ⟨rfl,m⟩;have d:=d5.out.next m;have i9:=m.grown.size;cases h:A7 s f 41 with
    | false=>
     rw[h]at d;simp only[Bool.false_eq_true,if_false]at d;have HN:Hid (S8 (R6 (L3 (fXa (12-D)) (rest s (i+1))))=.none):=iQi b7.out (by rw[h];rfl);obtain⟨-,-,d3,-,-,k3,O,P,Q,R,S,T,g,b8⟩:=d.cells;have g0:=g 0;have g1:=g 1;have g2:=g 2;have g3:=g 3;have g4:=g 4;have g5:=g 5;have M:Hid _:=d.set3 true;clear d m g h;go_wp2_with fail;rw[HR.out,HN.out];exact bodyPost_ret (v:=E0 0 Ls.none [] (.slice none 0 0) (.slice none 0 0)) (by simp[results,Tryz.results108,go_sem,O,P,Q,R,S,T,Ls.none]) rfl (q8 rfl (by omega) (by omega) (by omega) M.out)
    | true=>
     rw[h]at d;simp only[if_true]at d;have i2:=(D9 h).1;have a8:=d.set3 false;have N:=(g7.out.of_block (m.block g7.out.lt (by omega))).of_block (Below.heap_setCell U ⟨b,3,none⟩ (.bool false) l.heap.size (by show l.heap.size≠b;omega));have i6:(U.setCell ⟨b,3,none⟩ (.bool false)).heap.size=U.heap.size:=by simp[World.setCell]
     have d9:Hid (CaseL (U.setCell ⟨b,3,none⟩ (.bool false)) (fun t=>W t\/B8 Y e t\/t=e.heap.size+1) (R6 (L3 (fXa (12-D)) (rest s (i+1)))) s z (f+1) Z false 4 Ls.none [] (.slice none 0 0) (.slice (some ⟨e.heap.size+1,0,none⟩) 2 2)):=(jQk b7.out h).mono (fun t c=>⟨c,by
      have e1:=a7.out t c;rw[Below.heap_setCell _ _ _ _ (by show t≠b;omega),m.block e1.2 (by omega)]⟩)
     obtain⟨-,-,d3,-,-,k3,-,-,-,-,-,-,-,b8⟩:=d.cells;have M:Hid _:=a8;have e6:Hid _:=N.six;clear d a8 m h N;go_upto_region 36 with (fail);generalize U.setCell ⟨b,3,none⟩ (.bool false)=W8 at *;obtain⟨a0,a1,a2,a3,a4,a5⟩:=e6.out;have hA:=gQj s hs b (f+1) Z false W8 M.out.left.lies (by omega) (by omega) 4 Ls.none [] none 0 0 (some ⟨e.heap.size+1,0,none⟩) 2 2;clear d3 k3;go_wp2_with fail;refine hA.mono ?_;rintro a6 w9 ha;obtain⟨k',p',d2,v1,v2,v3,u1,u2,u3,rfl,c8,a9⟩:=gQo d9.out ha (fun t c=>by have:=a7.out t c;omega) (fun t c=>by have:=a7.out t c;omega);have b6:=M.out.next a9;have j0:=a9.grown.size;obtain⟨-,-,-,-,-,-,O,P,Q,R,S,T,g,i4⟩:=b6.cells;have g0:=g 0;have g1:=g 1;have g2:=g 2;have g3:=g 3;have g4:=g 4;have g5:=g 5;have e8:Hid _:=b6;have e4:Hid (CaseL w9 (F5 (fun t=>W t\/B8 Y e t\/t=e.heap.size+1) W8 w9) (S8 (R6 (L3 (fXa (12-D)) (rest s (i+1))))) s z (if A7 s (f+1) 42=true then f+1+1 else f+1) (if A7 s (f+1) 42=true then Z+1 else Z) false k' p' d2 (.slice v1 v2 v3) (.slice u1 u2 u3)):=c8;have HI:Hid (i<=(if A7 s (f+1) 42=true then f+1+1 else f+1)/\(if A7 s (f+1) 42=true then f+1+1 else f+1)<=s.size+1/\(if A7 s (f+1) 42=true then Z+1 else Z)<=z+((if A7 s (f+1) 42=true then f+1+1 else f+1)-i)):=by
      cases h:A7 s (f+1) 42 with
      | false=>simp only[Bool.false_eq_true,if_false];exact⟨by omega,by omega,by omega⟩
      | true=>have:=(D9 h).1;simp only[if_true];exact⟨by omega,by omega,by omega⟩
     have HH:Hid (∀t,F5 (fun t=>W t\/B8 Y e t\/t=e.heap.size+1) W8 w9 t->w.heap.size<t/\t<w9.heap.size):=by
      rintro t (c|c)
      ·have:=a7.out t c
       exact⟨by omega,by omega⟩
      ·have h1:=c.1
       exact⟨by omega,c.2⟩
     clear b6 c8 a9 ha hA g a0 a1 a2 a3 a4 a5;go_wp2_with fail;rw[HR.out];exact bodyPost_ret (v:=E0 k' p' d2 (.slice v1 v2 v3) (.slice u1 u2 u3)) (by simp[results,Tryz.results108,go_sem,O,P,Q,R,S,T]) rfl (P3 e4.out HI.out.1 HI.out.2.1 HI.out.2.2 e8.out HH.out)
end Go.Proofs.YtfklinjaajafgaaGreatDoor
