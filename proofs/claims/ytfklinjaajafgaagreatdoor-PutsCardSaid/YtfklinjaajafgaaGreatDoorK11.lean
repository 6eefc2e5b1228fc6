import Derived.Test.YtfklinjaajafgaaGreatDoorK09
set_option maxRecDepth 100000
set_option maxHeartbeats 4000000
namespace Go.Proofs.YtfklinjaajafgaaGreatDoor
open Ls
open Go.RowKit
def Q5 (P:Lu->Rd)(r:Lu):Rl:=
 if r.head?=some 47 then
  match fXj P r.tail with
  | .none=>.none
  | some (d,u)=>
   match fX1 u with
   | .none=>.none
   | some (ws,v)=>some (fXf d ws,v)
 else .none
theorem cXm {d:Ls.D}(hd:dn d<=1048577)(hs:dsize d<=1048576){w:World}{G:Nat->Prop}(hG:Old w G){ty:TypeId}{x:Value}(h:Rep w G 0 d [.iface ty x]) :
  ∃ f, (∀ w, (Go.method 385 ty x "Size").run Tryz.prog w = .ok (f, x) w) /\ (∀ w, (callFunc f #[x]).run Tryz.prog w = .ok (.enter f #[x]) w) /\ ∀ W, Bw w W -> Calls Tryz.prog f #[x] W fun e w' => e = .returned (Iv (dsize d)) /\ Bw w w' := by
 obtain⟨f,hm,hcf,hf⟩:=iQj (dn d) d (Nat.le_refl _) hd hs w G ty x hG h;refine⟨f,hm,hcf,fun W hW=>?_⟩;obtain⟨f',hm',_,hf'⟩:=iQj (dn d) d (Nat.le_refl _) hd hs W G ty x (fun k hk=>Ll (hG k hk) hW.size) (h.later hG hW);have he:f=f':=by
  have h1:=(hm w).symm.trans (hm' w);injection h1 with h1;injection h1
 subst he;refine hf'.mono ?_;rintro e w' ⟨rfl,hb⟩;exact⟨rfl,Bj hW hb⟩
def dQu (s:By)(a1:Addr):Prop:=∀(z rb i:Nat) (w:World),z<=12->RB w rb s i z->Env w rb a1->i<=s.size->
 Ca 150 #[D3 rb] w (PlPost w rb s i z a1 (Q5 (pat (13-z)) (rest s i)))
def N8 (s:By)(j:Nat)(l:Ln):Ln:=if A7 s j 42=true then hXb l else l
def U1 (s:By)(j:Nat):Nat:=if A7 s j 42=true then j+1 else j
theorem iQ5 (s:By)(j:Nat)(l:Ln):fX9 l (rest s j)=(N8 s j l,rest s (U1 s j)):=by
 unfold fX9 N8 U1;cases h:A7 s j 42 with
 | true=>rw[if_pos (C4.2 h),E7];simp
 | false=>rw[if_neg (by rw[C4,h];simp)];simp
def cQl (w:World)(G:Nat->Prop)(rb:Nat)(s:By)(j z:Nat)(l:Ln):Ending->World->Prop:=fun e w'=>
 ∃f caps,e=.returned (C5 (eX7 (N8 s j l)) (.func (.func f) #[] caps))/\PlanV w' (fun k=>G k\/(w.heap.size<=k/\k<w'.heap.size)) (N8 s j l) (.func (.func f) #[] caps)/\RLeft w rb s (U1 s j) z w'
abbrev X6 (w:World)(rb n f:Nat)(caps:Array Value):World:=((w.alloc (H0 167 rb)).alloc (.cells #[.int .i64 n,.func (.func f) #[] caps] 130)).alloc (.cells #[.int .i64 (0:Nat),.nilFunc] 130)
theorem cXw (s:By)(hs:s.size<=120)(z b j:Nat)(l:Ln)(f:Nat)(a:Array Value)(w:World)(G:Nat->Prop)(u:Old w G)(J:¬G b)(h:RB w b s j z)(hj:j<=s.size)(hn:eX7 l<=120)(M:PlanV w G l (.func (.func f) #[] a)) :
  Calls Tryz.prog 144 #[D3 b,C5 (eX7 l) (.func (.func f) #[] a)] w (cQl w G b s j z l):=by
 have P:=h.lt;have L:Bw w (X6 w b (eX7 l) f a):=Q0 w _ _ _;have a0:(X6 w b (eX7 l) f a).heap.size=w.heap.size+1+1+1:=by simp
 have Q:Blk (X6 w b (eX7 l) f a) (w.heap.size+1) #[Iv (eX7 l),.func (.func f) #[] a] 130:=by
  have:=Blk.new (w.alloc (H0 167 b)) #[Iv (eX7 l),.func (.func f) #[] a] 130;rw[World.size_alloc]at this;exact this.of (Below.heap_alloc _ _ _ (by simp))
 have R:Blk (X6 w b (eX7 l) f a) (w.heap.size+1+1) #[Iv (0:Nat),.nilFunc] 130:=by
  have:=Blk.new ((w.alloc (H0 167 b)).alloc (.cells #[Iv (eX7 l),.func (.func f) #[] a] 130)) #[Iv (0:Nat),.nilFunc] 130;rw[World.size_alloc,World.size_alloc]at this;exact this
 have K:In 167 w b s j z (X6 w b (eX7 l) f a):=((In.enter _ h).below (A5 _ _)).below (A5 _ _);have E:Hid _:=M;have r:Hid _:=K;have F:Hid (Blk (X6 w b (eX7 l) f a) (w.heap.size+1) #[Iv (eX7 l),.func (.func f) #[] a] 130):=Q;have H:Hid (Blk (X6 w b (eX7 l) f a) (w.heap.size+1+1) #[Iv (0:Nat),.nilFunc] 130):=R;have C:Hid (Bw w (X6 w b (eX7 l) f a)):=L;clear M K Q R L;cases i:A7 s j 42 with
 | false=>
  have n:Hid (N8 s j l=l/\U1 s j=j):=by simp[Hid,N8,U1,i]
  have o:=X5 b s j z 42 _ r.out.lies (by omega) (by omega) i;clear i;go_enter Tryz.func144,Tryz.ntmps144;go_wp2_with fail;refine o.mono ?_;clear o;generalize X6 w b (eX7 l) f a=V at *;rintro e m ⟨rfl,d⟩;have W:=d.grown.size;have p:=F.out.of (d.grown.block _ (by omega) (by simp;omega));have q:=H.out.of (d.grown.block _ (by omega) (by simp;omega));obtain⟨Z,x1,y0,y1⟩:=p.two;obtain⟨A,B,X,s1⟩:=q.two;have x:Hid (cQl w G b s j z l (.returned (C5 (eX7 l) (.func (.func f) #[] a))) ((m.setCell ⟨w.heap.size+1+1,0,none⟩ (Iv (eX7 l))).setCell ⟨w.heap.size+1+1,1,none⟩ (.func (.func f) #[] a))):=by
   unfold Hid cQl;rw[n.out.1,n.out.2];refine⟨f,a,rfl,PlanV.mono (fun k c=>.inl c) (fun k c=>?_) _ _ E.out,((r.out.go d).left).res2 (by omega) P _ _⟩;have:=u k c;rw[L9 _ _ _ _ _ (by omega),d.grown.block k (by omega) (by simp;rintro rfl;exact J c)];exact C.out.block k this
  clear p q;go_wp2_with fail;exact bodyPost_ret (v:=C5 (eX7 l) (.func (.func f) #[] a)) (by simp[results,Tryz.results144,go_sem,A,B]) rfl x.out
 | true=>
  have n:Hid (N8 s j l=hXb l/\U1 s j=j+1):=by simp[Hid,N8,U1,i]
  have o:=Z5 b s j z 42 _ r.out.lies (by omega) i;clear i;go_enter Tryz.func144,Tryz.ntmps144;go_wp2_with fail;refine o.mono ?_;clear o;generalize X6 w b (eX7 l) f a=V at *;rintro e m ⟨rfl,d⟩;have W:=d.grown.size;have p:=F.out.of (d.grown.block _ (by omega) (by simp;omega));have q:=H.out.of (d.grown.block _ (by omega) (by simp;omega));obtain⟨Z,x1,y0,y1⟩:=p.two;have N:PlanV m G l (.func (.func f) #[] a):=PlanV.mono (fun k c=>c) (fun k c=>by
   have:=u k c;rw[d.grown.block k (by omega) (by simp;rintro rfl;exact J c)];exact C.out.block k this) _ _ E.out
  have I:=lQ6 6 (.inl rfl) l (eX7 l) f a (by omega) m G (fun k c=>by have:=u k c;omega) N;have T:Hid (In 167 w b s (j+1) z m):=r.out.go d;have U:Hid (Blk m (w.heap.size+1+1) #[Iv (0:Nat),.nilFunc] 130):=q;clear p q N;go_wp2_with fail;refine I.mono ?_;rintro e Y ⟨g,t,rfl,O,y⟩;have S:=U.out.below y (by omega);obtain⟨A,B,X,s1⟩:=S.two;have a1:=y.size;have x:Hid (cQl w G b s j z l (.returned (C5 (eX7 l+1) (.func (.func g) #[] t))) ((Y.setCell ⟨w.heap.size+1+1,0,none⟩ (Iv ((eX7 l+1:Nat):Int))).setCell ⟨w.heap.size+1+1,1,none⟩ (.func (.func g) #[] t))):=by
   unfold Hid cQl;rw[n.out.1,n.out.2,hXi];refine⟨g,t,rfl,PlanV.mono (fun k c=>?_) (fun k c=>?_) _ _ O,((T.out.below y).left).res2 (by omega) P _ _⟩
   ·rcases c with c|c
    ·exact .inl c
    ·exact .inr ⟨by omega,by rw[X4];exact c.2⟩
   ·rw[L9 _ _ _ _ _ ?_]
    rcases c with c|c
    ·have:=u k c;omega
    ·omega
  clear S O I;go_wp2_with fail;exact bodyPost_ret (v:=C5 (eX7 l+1) (.func (.func g) #[] t)) (by simp[results,Tryz.results144,go_sem,A,B]) rfl x.out
def Z8 (s:By)(a1:Addr)(z:Nat):Prop:=∀(rb i:Nat) (w:World),RB w rb s i z->Env w rb a1->i<=s.size->
 Ca 104 #[D3 rb] w (PlPost w rb s i z a1 (fXa (13-z) (rest s i)))
def S4 (Q:Lu->Rl)(r:Lu):Rl:=
 match Q r with
 | .none=>.none
 | some (a,u)=>if u.head?=some 62 then some (a,u.tail) else .none
abbrev L7 (n f:Nat)(caps:Array Value):Obj:=.cells #[.int .i64 n,.func (.func f) #[] caps] 130
theorem zQ5 (s:By)(hs:s.size<=120)(g:Addr)(z:Nat)(hz:z<=12)(K:z<=11->Z8 s g (z+1))(a i:Nat)(w:World)(h:RB w a s i z)(C:Env w a g)(V:i<=s.size) :
  Calls Tryz.prog 148 #[D3 a] w (PlPost w a s i z g (S4 (fXa (12-z)) (rest s i))):=by
 have q:Hid _:=Inp.enter h;have a2:(I9 w a).heap.size=w.heap.size+1+1:=by simp
 have H:Hid _:=C
 by_cases U:z=12
 ·subst U
  have m:Hid (S4 (fXa (12-12)) (rest s i)=.none):=rfl;have y:=hQw a s i g _ q.out.lies (q.out.env C);go_enter Tryz.func148,Tryz.ntmps148;go_wp2_with fail;refine y.mono ?_;rintro e u ⟨rfl,t⟩;go_wp2;exact⟨rfl,.inr ⟨m.out,rfl,q.out.threw rfl t⟩⟩
 ·have P:Hid _:=K (by omega)
  have y:=hQx a s i z _ q.out.lies (by omega);go_enter Tryz.func148,Tryz.ntmps148;go_wp2_with fail;refine y.mono ?_;rintro e Z ⟨rfl,W⟩;have n:=q.out.go W;have T:=n.cell;go_wp2_with fail;refine(P.out a i Z n.lies (n.env H.out) V).mono ?_;rintro e d (⟨l,j,f,b,p,a0,hj,rfl,L,G⟩|⟨p,rfl,t⟩)
  ·rw[show 13-(z+1)=12-z from by omega]at p
   have I:Hid (fXa (12-z) (rest s i)=some (l,rest s j)):=p;have J:=n.go G;have F:=A5 d (L7 (eX7 l) f b);have M:Blk (d.alloc (L7 (eX7 l) f b)) d.heap.size #[Iv (eX7 l),.func (.func f) #[] b] 130:=Blk.new d _ _;have x:=J.below F;have a5:(d.alloc (L7 (eX7 l) f b)).heap.size=d.heap.size+1:=by simp
   have a3:=n.size;have a4:=G.grown.size;have R:Hid (PlanV (d.alloc (L7 (eX7 l) f b)) (fun k=>w.heap.size+1<k/\k<d.heap.size) l (.func (.func f) #[] b)):=PlanV.mono (fun k c=>⟨by have:=c.1;omega,c.2⟩) (fun k c=>F.block k c.2) _ _ L;clear p T L G F;go_upto_region 3 with (fail);generalize d.alloc (L7 (eX7 l) f b)=u at *;have b3:=x.cell;have S:Hid (Blk u d.heap.size #[Iv (eX7 l),.func (.func f) #[] b] 130):=M;have r:Hid (Inp w a s j (z+1) u):=x;have ho:=x.inn.old;clear M x J n;cases o:A7 s j 62 with
   | true=>
    have m:Hid (S4 (fXa (12-z)) (rest s i)=some (l,rest s (j+1))):=by
     show _=_;unfold S4;rw[I.out];dsimp only
     rw[if_pos (C4.2 o),E7]
    have a1:=(D9 o).1;have A:=eQg a s j z 62 u r.out.lies (by omega) (by omega) o;clear o;go_wp2_with fail;refine A.mono ?_;rintro e O ⟨rfl,B⟩;have E:=r.out.go B;have N:=S.out.of (B.grown.block _ (by omega) (by simp;omega));obtain⟨x0,x1,y0,y1⟩:=N.two;obtain⟨X,Y,s0,s1⟩:=E.res.two;have a6:=B.grown.size;have Q:Hid (PlPost w a s i z g (S4 (fXa (12-z)) (rest s i)) (.returned (C5 (eX7 l) (.func (.func f) #[] b))) ((O.setCell ⟨w.heap.size+1,0,none⟩ (Iv (eX7 l))).setCell ⟨w.heap.size+1,1,none⟩ (.func (.func f) #[] b))):=by
     refine E.ret m.out (by omega) (by omega) (PlanV.mono (fun k c=>⟨c.1,by have:=c.2;omega⟩) (fun k c=>B.grown.block k (by have:=c.2;omega) (by have:=c.1;simp;omega)) _ _ R.out)
    clear N E A;go_wp2_with fail;exact bodyPost_ret (v:=C5 (eX7 l) (.func (.func f) #[] b)) (by simp[results,Tryz.results148,go_sem,X,Y]) rfl Q.out
   | false=>
    have m:Hid (S4 (fXa (12-z)) (rest s i)=.none):=by
     show _=_;unfold S4;rw[I.out];dsimp only
     rw[if_neg (by rw[C4,o];simp)]
    have A:=eQf a s j (z+1) 62 g u r.out.lies (r.out.env H.out) (by omega) (by omega) o;clear o;go_wp2_with fail;refine A.mono ?_;rintro e O ⟨rfl,t⟩;go_wp2_with fail;exact⟨rfl,.inr ⟨m.out,rfl,r.out.threw rfl t⟩⟩
  ·rw[show 13-(z+1)=12-z from by omega]at p
   have m:Hid (S4 (fXa (12-z)) (rest s i)=.none):=by
    show _=_;unfold S4;rw[p]
   go_wp2_with fail;exact⟨rfl,.inr ⟨m.out,rfl,n.threw rfl t⟩⟩
def J3 (Q:Lu->Rl)(r:Lu):Rl:=
 match Q r with
 | .none=>.none
 | some (a,u)=>
  if u.head?=some 126 then
   match Q u.tail with
   | .none=>.none
   | some (b,v)=>if v.head?=some 41 then some (fXc a b,v.tail) else .none
  else if u.head?=some 41 then some (a,u.tail) else .none
theorem bXt {Q:Lu->Rl}{r:Lu}(h:Q r=.none):J3 Q r=.none:=by
 unfold J3;rw[h]
section
variable {Q:Lu->Rl} {r:Lu} {s:By} {l:Ln} {j:Nat}
theorem bXv (h:Q r=some (l,rest s j))(a:A7 s j 126=false)(b:A7 s j 41=true):J3 Q r=some (l,rest s (j+1)):=by
 unfold J3;rw[h];dsimp only
 rw[if_neg (by rw[C4,a];simp),if_pos (C4.2 b),E7]
theorem bXu (h:Q r=some (l,rest s j))(a:A7 s j 126=false)(b:A7 s j 41=false):J3 Q r=.none:=by
 unfold J3;rw[h];dsimp only
 rw[if_neg (by rw[C4,a];simp),if_neg (by rw[C4,b];simp)]
theorem bXn (h:Q r=some (l,rest s j))(a:A7 s j 126=true)(b:Q (rest s (j+1))=.none):J3 Q r=.none:=by
 unfold J3;rw[h];dsimp only
 rw[if_pos (C4.2 a),E7,b]
theorem bX1 (h:Q r=some (l,rest s j))(b:A7 s j 126=true){m:Ln}{k:Nat}(c:Q (rest s (j+1))=some (m,rest s k)):J3 Q r=if A7 s k 41=true then some (fXc l m,rest s (k+1)) else .none:=by
 unfold J3;rw[h];dsimp only
 rw[if_pos (C4.2 b),E7,c];dsimp only
 cases a:A7 s k 41 with
 | true=>rw[if_pos (C4.2 a),E7];simp
 | false=>rw[if_neg (by rw[C4,a];simp)];simp
end
theorem bXm (s:By)(hs:s.size<=120)(a1:Addr)(z:Nat)(hz:z<=12)(hL:z<=11->Z8 s a1 (z+1))(c i:Nat)(w:World)(c1:RB w c s i z)(hE:Env w c a1)(hi:i<=s.size) :
  Calls Tryz.prog 146 #[D3 c] w (PlPost w c s i z a1 (J3 (fXa (12-z)) (rest s i))):=by
 have P:Hid _:=Inp.enter c1;have e5:(I9 w c).heap.size=w.heap.size+1+1:=by simp
 have T:Hid _:=hE
 by_cases d0:z=12
 ·subst d0
  have r:Hid (J3 (fXa (12-12)) (rest s i)=.none):=rfl;have hO:=hQw c s i a1 _ P.out.lies (P.out.env hE);go_enter Tryz.func146,Tryz.ntmps146;go_wp2_with fail;refine hO.mono ?_;rintro e S ⟨rfl,B⟩;go_wp2;exact⟨rfl,.inr ⟨r.out,rfl,P.out.threw rfl B⟩⟩
 ·have HL:Hid _:=hL (by omega)
  have hO:=hQx c s i z _ P.out.lies (by omega);go_enter Tryz.func146,Tryz.ntmps146;go_wp2_with fail;refine hO.mono ?_;rintro e w1 ⟨rfl,d2⟩;have H:=P.out.go d2;have b1:=H.cell;go_wp2_with fail;refine(HL.out c i w1 H.lies (H.env T.out) hi).mono ?_;rintro e a (⟨l,j,f,d,L,d9,hj,rfl,hp,E⟩|⟨L,rfl,B⟩)
  ·rw[show 13-(z+1)=12-z from by omega]at L
   have V:Hid (fXa (12-z) (rest s i)=some (l,rest s j)):=L;have c2:=H.go E;have a9:=A5 a (L7 (eX7 l) f d);have c7:Blk (a.alloc (L7 (eX7 l) f d)) a.heap.size #[Iv (eX7 l),.func (.func f) #[] d] 130:=Blk.new a _ _;have X:=c2.below a9;have e8:(a.alloc (L7 (eX7 l) f d)).heap.size=a.heap.size+1:=by simp
   have e6:=H.size;have e7:=E.grown.size;have b6:Hid (PlanV (a.alloc (L7 (eX7 l) f d)) (fun k=>w.heap.size+1<k/\k<a.heap.size) l (.func (.func f) #[] d)):=PlanV.mono (fun k h=>⟨by have:=h.1;omega,h.2⟩) (fun k h=>a9.block k h.2) _ _ hp;clear L b1 hp E a9;go_upto_region 3 with (fail);generalize a.alloc (L7 (eX7 l) f d)=S at *;have b3:=X.cell;have b9:Hid (Blk S a.heap.size #[Iv (eX7 l),.func (.func f) #[] d] 130):=c7;have U:Hid (Inp w c s j (z+1) S):=X;have ho:=X.inn.old;clear c7 X c2 H;cases G:A7 s j 126 with
   | false=>
    have R:=X5 c s j (z+1) 126 S U.out.lies (by omega) (by omega) G;have O:Hid (A7 s j 126=false):=G;clear G;go_wp2_with fail;refine R.mono ?_;rintro e x ⟨rfl,u⟩;have I:=U.out.go u;have M:=b9.out.of (u.grown.block _ (by omega) (by simp;omega));have b4:=I.cell;have d4:=u.grown.size;have a6:Hid (Blk x a.heap.size #[Iv (eX7 l),.func (.func f) #[] d] 130):=M;have F:Hid (Inp w c s j (z+1) x):=I;have a5:Hid (PlanV x (fun k=>w.heap.size+1<k/\k<a.heap.size) l (.func (.func f) #[] d)):=PlanV.mono (fun k h=>h) (fun k h=>u.grown.block k (by have:=h.2;omega) (by have:=h.1;simp;omega)) _ _ b6.out;clear M I b3 R u;cases p:A7 s j 41 with
    | true=>
     have r:Hid (J3 (fXa (12-z)) (rest s i)=some (l,rest s (j+1))):=bXv V.out O.out p;have e1:=(D9 p).1;have A:=eQg c s j z 41 x F.out.lies (by omega) (by omega) p;clear p;go_wp2_with fail;refine A.mono ?_;rintro e w5 ⟨rfl,a2⟩;have J:=F.out.go a2;have N:=a6.out.of (a2.grown.block _ (by omega) (by simp;omega));obtain⟨x0,x1,y0,y1⟩:=N.two;obtain⟨r0,r1,s0,s1⟩:=J.res.two;have d5:=a2.grown.size;have HP:Hid (PlPost w c s i z a1 (J3 (fXa (12-z)) (rest s i)) (.returned (C5 (eX7 l) (.func (.func f) #[] d))) ((w5.setCell ⟨w.heap.size+1,0,none⟩ (Iv (eX7 l))).setCell ⟨w.heap.size+1,1,none⟩ (.func (.func f) #[] d))):=by
      refine J.ret r.out (by omega) (by omega) (PlanV.mono (fun k h=>⟨h.1,by have:=h.2;omega⟩) (fun k h=>a2.grown.block k (by have:=h.2;omega) (by have:=h.1;simp;omega)) _ _ a5.out)
     clear N J A;go_wp2_with fail;exact bodyPost_ret (v:=C5 (eX7 l) (.func (.func f) #[] d)) (by simp[results,Tryz.results146,go_sem,r0,r1]) rfl HP.out
    | false=>
     have r:Hid (J3 (fXa (12-z)) (rest s i)=.none):=bXu V.out O.out p;have A:=eQf c s j (z+1) 41 a1 x F.out.lies (F.out.env T.out) (by omega) (by omega) p;clear p;go_wp2_with fail;refine A.mono ?_;rintro e w5 ⟨rfl,B⟩;go_wp2_with fail;exact⟨rfl,.inr ⟨r.out,rfl,F.out.threw rfl B⟩⟩
   | true=>
    have R:=Z5 c s j (z+1) 126 S U.out.lies (by omega) G;have O:Hid (A7 s j 126=true):=G;have e0:=(D9 G).1;clear G;go_wp2_with fail;refine R.mono ?_;rintro e x ⟨rfl,u⟩;have I:=U.out.go u;have M:=b9.out.of (u.grown.block _ (by omega) (by simp;omega));have b4:=I.cell;have d4:=u.grown.size;obtain⟨x0,x1,y0,y1⟩:=M.two;have a6:Hid (Blk x a.heap.size #[Iv (eX7 l),.func (.func f) #[] d] 130):=M;have F:Hid (Inp w c s (j+1) (z+1) x):=I;have a5:Hid (PlanV x (fun k=>w.heap.size+1<k/\k<a.heap.size) l (.func (.func f) #[] d)):=PlanV.mono (fun k h=>h) (fun k h=>u.grown.block k (by have:=h.2;omega) (by have:=h.1;simp;omega)) _ _ b6.out;clear M I b3 R u;have b2:Hid (∀W,Bw x W->Ca 104 #[D3 c] W fun e C=>
      (∃m k g t,fXa (12-z) (rest s (j+1))=some (m,rest s k)/\j+1+eX7 m<=k/\k<=s.size/\e=.returned (C5 (eX7 m) (.func (.func g) #[] t))/\Inp w c s k (z+1) C/\Blk C a.heap.size #[Iv (eX7 l),.func (.func f) #[] d] 130/\x.heap.size<=C.heap.size/\
       PlanV C (fun q=>w.heap.size+1<q/\q<C.heap.size/\q≠a.heap.size) l (.func (.func f) #[] d)/\PlanV C (fun q=>w.heap.size+1<q/\q<C.heap.size/\q≠a.heap.size) m (.func (.func g) #[] t))\/
      (fXa (12-z) (rest s (j+1))=.none/\K6 w c a1 e C)):=by
     intro W hW;have Z:=F.out.below hW;have d7:=hW.size;refine(HL.out c (j+1) W Z.lies (Z.env T.out) (by omega)).mono ?_;rintro e C (⟨m,k,g,t,Q,h1,h2,rfl,d3,E⟩|⟨Q,rfl,B⟩)
     ·rw[show 13-(z+1)=12-z from by omega]at Q
      have d8:=E.grown.size;refine .inl ⟨m,k,g,t,Q,h1,h2,rfl,Z.go E,(a6.out.below hW (by omega)).of (E.grown.block _ (by omega) (by simp;omega)),by omega,PlanV.mono (fun q b=>⟨b.1,by have:=b.2;omega,by have:=b.2;omega⟩) (fun q b=>?_) _ _ a5.out,PlanV.mono (fun q b=>⟨by have:=b.1;omega,b.2,by have:=b.1;omega⟩) (fun _ _=>rfl) _ _ d3⟩;rw[E.grown.block q (by have:=b.2;omega) (by have:=b.1;simp;omega)];exact hW.block q (by have:=b.2;omega)
     ·rw[show 13-(z+1)=12-z from by omega]at Q
      exact .inr ⟨Q,rfl,Z.threw rfl B⟩
    have HJ:Hid (∀(W:World) (m:Ln) (g:Nat) (t:Array Value),eX7 m<=120->PlanV W (fun q=>w.heap.size+1<q/\q<W.heap.size/\q≠a.heap.size) l (.func (.func f) #[] d)->PlanV W (fun q=>w.heap.size+1<q/\q<W.heap.size/\q≠a.heap.size) m (.func (.func g) #[] t)->
      Ca 121 #[C5 (eX7 l) (.func (.func f) #[] d),C5 (eX7 m) (.func (.func g) #[] t),.func (.func 170) #[] #[]] W (cQk W (fun q=>w.heap.size+1<q/\q<W.heap.size/\q≠a.heap.size) (eX7 l+eX7 m) ⟨4,rnil,[],[l,m]⟩)):=
     fun W m g t hm h1 h2=>kQz 4 (by omega) l m (eX7 l) (eX7 m) f g d t (by omega) (by omega) W _ (fun q b=>b.2.1) h1 h2
    go_wp2_with fail;go_region_with (first
      | (go_at_call 104;refine(b2.out _ ?_).mono ?_;exact Br.drew;rintro e w5 (⟨m,k,g,t,a4,e2,e3,rfl,J,N,d5,c3,c6⟩|⟨a4,rfl,d1⟩);rotate_left;(go_wp2_with fail;exact⟨rfl,.inr ⟨bXn V.out O.out a4,rfl,d1⟩⟩);have b5:=J.cell;obtain⟨v0,v1,v2,v3⟩:=N.two)
      | (go_at_call 121;refine(HJ.out _ m g t (by omega) c3 c6).mono ?_;rintro e y ⟨o,n,rfl,c4,a0⟩;have Y:=J.below a0;have b0:=N.below a0 (by omega);obtain⟨q0,q1,t0,t1⟩:=b0.two))
    all_goals
     have hN:=bX1 V.out O.out a4;have e9:=a0.size;have c8:Blk ((y.setCell ⟨a.heap.size,0,none⟩ (Iv ((eX7 l+eX7 m:Nat):Int))).setCell ⟨a.heap.size,1,none⟩ (.func (.func o) #[] n)) a.heap.size #[Iv ((eX7 l+eX7 m:Nat):Int),.func (.func o) #[] n] 130:=by
      have:=b0;unfold Blk at this ⊢;simp[World.setCell,Array.getElem?_modify,this]
     have a7:Inp w c s k (z+1) ((y.setCell ⟨a.heap.size,0,none⟩ (Iv ((eX7 l+eX7 m:Nat):Int))).setCell ⟨a.heap.size,1,none⟩ (.func (.func o) #[] n)):=
      ⟨⟨Y.inn.left.res2 (by omega) ho _ _,⟨by rw[L9 _ _ _ _ _ (by omega)];exact Y.inn.box.lies⟩,ho⟩,Y.res.of (L9 _ _ _ _ _ (by omega))⟩
     have c5:PlanV ((y.setCell ⟨a.heap.size,0,none⟩ (Iv ((eX7 l+eX7 m:Nat):Int))).setCell ⟨a.heap.size,1,none⟩ (.func (.func o) #[] n)) (fun q=>w.heap.size+1<q/\q<y.heap.size/\q≠a.heap.size) (fXc l m) (.func (.func o) #[] n):=
      PlanV.mono (fun q b=>by
       rcases b with b|b
       ·exact⟨b.1,by have:=b.2.1;omega,b.2.2⟩
       ·exact⟨by omega,b.2,by omega⟩) (fun q b=>L9 _ _ _ _ _ (by
       rcases b with b|b
       ·exact b.2.2
       ·omega)) _ _ c4
     have d6:((y.setCell ⟨a.heap.size,0,none⟩ (Iv ((eX7 l+eX7 m:Nat):Int))).setCell ⟨a.heap.size,1,none⟩ (.func (.func o) #[] n)).heap.size=y.heap.size:=X4 _ _ _ _;have K:Hid (Inp w c s k (z+1) ((y.setCell ⟨a.heap.size,0,none⟩ (Iv ((eX7 l+eX7 m:Nat):Int))).setCell ⟨a.heap.size,1,none⟩ (.func (.func o) #[] n))):=a7;have c0:Hid (Blk ((y.setCell ⟨a.heap.size,0,none⟩ (Iv ((eX7 l+eX7 m:Nat):Int))).setCell ⟨a.heap.size,1,none⟩ (.func (.func o) #[] n)) a.heap.size #[Iv ((eX7 l+eX7 m:Nat):Int),.func (.func o) #[] n] 130):=c8;have b8:Hid (PlanV ((y.setCell ⟨a.heap.size,0,none⟩ (Iv ((eX7 l+eX7 m:Nat):Int))).setCell ⟨a.heap.size,1,none⟩ (.func (.func o) #[] n)) (fun q=>w.heap.size+1<q/\q<y.heap.size/\q≠a.heap.size) (fXc l m) (.func (.func o) #[] n)):=c5;have r:Hid (J3 (fXa (12-z)) (rest s i)=if A7 s k 41=true then some (fXc l m,rest s (k+1)) else .none):=hN;have b7:=a7.cell;clear c8 a7 c5 hN c4 b0 Y c3 c6 N J q0 q1 t0 t1 x0 x1 y0 y1 v0 v1 v2 v3 b4 b5 a0 a4 HJ b2;simp only[Int.natCast_add]at K c0 b8 b7 d6;generalize (y.setCell ⟨a.heap.size,0,none⟩ (Iv ((eX7 l:Int)+(eX7 m:Int)))).setCell ⟨a.heap.size,1,none⟩ (.func (.func o) #[] n)=w7 at *;cases p:A7 s k 41 with
     | true=>
      have HR:Hid (J3 (fXa (12-z)) (rest s i)=some (fXc l m,rest s (k+1))):=by show _=_;rw[r.out,if_pos p]
      have e4:=(D9 p).1;have A:=eQg c s k z 41 w7 K.out.lies (by omega) (by omega) p;clear p r;go_wp2_with fail;refine A.mono ?_;rintro e w8 ⟨rfl,a3⟩;have a8:=K.out.go a3;have c9:=c0.out.of (a3.grown.block _ (by omega) (by simp;omega));obtain⟨x0,x1,y0,y1⟩:=c9.two;obtain⟨r0,r1,s0,s1⟩:=a8.res.two;have f0:=a3.grown.size;have HP:Hid (PlPost w c s i z a1 (J3 (fXa (12-z)) (rest s i)) (.returned (C5 (eX7 l+eX7 m) (.func (.func o) #[] n))) ((w8.setCell ⟨w.heap.size+1,0,none⟩ (Iv ((eX7 l:Int)+(eX7 m:Int)))).setCell ⟨w.heap.size+1,1,none⟩ (.func (.func o) #[] n))):=by
       have:=a8.ret (i:=i) (a1:=a1) HR.out (by rw[hXh];omega) (by omega) (PlanV.mono (fun q b=>⟨b.1,by have:=b.2.1;omega⟩) (fun q b=>a3.grown.block q (by have:=b.2.1;omega) (by have:=b.1;simp;omega)) _ _ b8.out);rw[hXh,Int.natCast_add]at this;exact this
      clear c9 a8 A;go_wp2_with fail;exact bodyPost_ret (v:=C5 (eX7 l+eX7 m) (.func (.func o) #[] n)) (by simp[results,Tryz.results146,go_sem,r0,r1]) rfl HP.out
     | false=>
      have HR:Hid (J3 (fXa (12-z)) (rest s i)=.none):=by show _=_;rw[r.out,p];simp
      have A:=eQf c s k (z+1) 41 a1 w7 K.out.lies (K.out.env T.out) (by omega) (by omega) p;clear p r;go_wp2_with fail;refine A.mono ?_;rintro e w8 ⟨rfl,B⟩;go_wp2_with fail;exact⟨rfl,.inr ⟨HR.out,rfl,K.out.threw rfl B⟩⟩
  ·rw[show 13-(z+1)=12-z from by omega]at L
   have r:Hid (J3 (fXa (12-z)) (rest s i)=.none):=bXt L;go_wp2_with fail;exact⟨rfl,.inr ⟨r.out,rfl,H.threw rfl B⟩⟩
def aQo (w:World)(rb:Nat)(s:By)(i z:Nat)(a1:Addr)(res:Rl):Ending->World->Prop:=fun e w'=>
 (∃l j f caps,res=some (l,rest s j)/\i+eX7 l<=j/\j<=s.size/\e=.returned (C5 (eX7 l) (.func (.func f) #[] caps))/\Inp w rb s j z w'/\PlanV w' (fun q=>w.heap.size+1<q/\q<w'.heap.size) l (.func (.func f) #[] caps))\/
 (res=.none/\K6 w rb a1 e w')
theorem PlPost.mid {w W:World}{d:Nat}{s:By}{i y z A:Nat}{g:Addr}{m:Rl}{e:Ending}{n:World}(h:PlPost W d s i z g m e n)(a:Inp w d s y A W):aQo w d s i z g m e n:=by
 have x:=a.size;rcases h with⟨l,j,f,o,c,p,r,b,v,u⟩|⟨c,b,t⟩
 ·exact .inl ⟨l,j,f,o,c,p,r,b,a.go u,PlanV.mono (fun q k=>⟨Ll x k.1,k.2⟩) (fun _ _=>rfl) _ _ v⟩
 ·exact .inr ⟨c,b,a.threw rfl t⟩
theorem nQs {s:By}{j:Nat}(l:Ln)(a:j<=s.size):j+eX7 (N8 s j l)<=U1 s j+eX7 l/\j<=U1 s j/\U1 s j<=s.size:=by
 unfold N8 U1;cases h:A7 s j 42 with
 | true=>
  have:=(D9 h).1;simp only[if_true];rw[hXi];omega
 | false=>simp[a]
theorem nQt (s:By)(hs:s.size<=120)(z d j:Nat)(l:Ln)(f:Nat)(k:Array Value)(w W:World)(c:Inp w d s j z W)(n:j<=s.size)(o:eX7 l<=120)(p:PlanV W (fun q=>w.heap.size+1<q/\q<W.heap.size) l (.func (.func f) #[] k)) :
  Calls Tryz.prog 144 #[D3 d,C5 (eX7 l) (.func (.func f) #[] k)] W fun e i=>
   ∃g b,e=.returned (C5 (eX7 (N8 s j l)) (.func (.func g) #[] b))/\Inp w d s (U1 s j) z i/\PlanV i (fun q=>w.heap.size+1<q/\q<i.heap.size) (N8 s j l) (.func (.func g) #[] b):=by
 have t:=c.inn.old;have u:=c.size;refine(cXw s hs z d j l f k W _ (fun q a=>a.2) (fun h=>by have:=h.1;omega) c.lies n o p).mono ?_;rintro e i ⟨g,b,rfl,r,m⟩;have v:=m.grown.size;refine⟨g,b,rfl,c.go m,PlanV.mono (fun q a=>?_) (fun _ _=>rfl) _ _ r⟩;rcases a with a|a
 ·exact⟨a.1,by have:=a.2;omega⟩
 ·exact⟨by have:=a.1;omega,a.2⟩
theorem qQ0 (s:By)(z m j k:Nat)(n:k=6\/k=7)(l:Ln)(f:Nat)(d:Array Value)(w W:World)(h:Inp w m s j z W)(r:eX7 l<=120)(o:PlanV W (fun q=>w.heap.size+1<q/\q<W.heap.size) l (.func (.func f) #[] d)) :
  Calls Tryz.prog 147 #[C5 (eX7 l) (.func (.func f) #[] d),.func (.func (N7 k)) #[] #[]] W fun e c=>
   ∃g b,e=.returned (C5 (eX7 l+1) (.func (.func g) #[] b))/\Inp w m s j z c/\PlanV c (fun q=>w.heap.size+1<q/\q<c.heap.size) ⟨k,rnil,[],[l]⟩ (.func (.func g) #[] b):=by
 have t:=h.size;refine(lQ6 k n l (eX7 l) f d (by omega) W _ (fun q a=>a.2) o).mono ?_;rintro e c ⟨g,b,rfl,p,i⟩;have u:=i.size;refine⟨g,b,rfl,h.below i,PlanV.mono (fun q a=>?_) (fun _ _=>rfl) _ _ p⟩;rcases a with a|a
 ·exact⟨a.1,by have:=a.2;omega⟩
 ·exact⟨by have:=a.1;omega,a.2⟩
section
variable {P:Lu->Rd} {Q:Lu->Rl} {s:By} {i:Nat}
theorem zQ6 (b:i<s.size)(a:nx s i=47):fXk P Q (rest s i)=match Y5 P (rest s (i+1)) with|.none=>.none|some (l,u)=>some (fX9 l u):=by
 rw[D4 b,a,fXk,if_pos rfl];unfold Y5;cases h:fXj P (rest s (i+1)) with
 | none=>rfl
 | some q=>obtain⟨d,u⟩:=q;rfl
theorem aXa (f:i<s.size)(e:nx s i=40):fXk P Q (rest s i)=match J3 Q (rest s (i+1)) with|.none=>.none|some (l,u)=>some (fX9 l u):=by
 rw[D4 f,e,fXk,if_neg (by decide),if_neg (by decide),if_neg (by decide),if_neg (by decide),if_pos rfl];unfold J3;cases h:Q (rest s (i+1)) with
 | none=>rfl
 | some q=>
  obtain⟨a,u⟩:=q;dsimp only
  by_cases d:u.head?=some 126
  ·rw[if_pos d,if_pos d]
   cases j:Q u.tail with
   | none=>rfl
   | some g=>
    obtain⟨b,v⟩:=g;dsimp only
    by_cases c:v.head?=some 41
    ·rw[if_pos c,if_pos c]
    ·rw[if_neg c,if_neg c]
  ·rw[if_neg d,if_neg d]
   by_cases c:u.head?=some 41
   ·rw[if_pos c,if_pos c]
   ·rw[if_neg c,if_neg c]
theorem zQg (d:i<s.size)(c:nx s i=60):fXk P Q (rest s i)=match S4 Q (rest s (i+1)) with|.none=>.none|some (l,u)=>some (gXl l,u):=by
 rw[D4 d,c,fXk,if_neg (by decide),if_neg (by decide),if_neg (by decide),if_pos rfl];unfold S4;cases h:Q (rest s (i+1)) with
 | none=>rfl
 | some q=>
  obtain⟨a,u⟩:=q;dsimp only
  by_cases b:u.head?=some 62
  ·rw[if_pos b,if_pos b]
  ·rw[if_neg b,if_neg b]
theorem zQ8 (b:i<s.size)(a:nx s i=45):fXk P Q (rest s i)=Q5 P (rest s (i+1)):=by
 rw[D4 b,a,fXk,if_neg (by decide),if_pos rfl];rfl
theorem zQ9 (b:i<s.size)(a:nx s i=43):fXk P Q (rest s i)=aQb (rest s (i+1)):=by
 rw[D4 b,a,fXk,if_neg (by decide),if_neg (by decide),if_pos rfl];rfl
theorem zQe (f:i<s.size)(a:nx s i≠47)(b:nx s i≠40)(c:nx s i≠60)(d:nx s i≠45)(e:nx s i≠43):fXk P Q (rest s i)=.none:=by
 rw[D4 f,fXk,if_neg a,if_neg d,if_neg e,if_neg c,if_neg b]
end
def fQ7 (s:By)(a1:Addr)(z:Nat):Prop:=∀(rb i:Nat) (w:World),RB w rb s i z->Env w rb a1->i<=s.size->
 Ca 130 #[D3 rb] w (PlPost w rb s i z a1 (fXk (pat (13-z)) (fXa (12-z)) (rest s i)))
theorem zQ7 (s:By)(hs:s.size<=120)(c:Addr)(z a i:Nat)(w:World)(h:RB w a s i z)(f:Env w a c)(j:i=s.size) :
  Calls Tryz.prog 130 #[D3 a] w (PlPost w a s i z c (fXk (pat (13-z)) (fXa (12-z)) (rest s i))):=by
 subst j;have d:Hid (fXk (pat (13-z)) (fXa (12-z)) (rest s s.size)=.none):=by show _=_;rw[P4 (by omega)];rfl
 have b:Hid _:=Inp.enter h;have k:=dQi a s s.size z c _ b.out.lies (b.out.env f) (by omega) (by omega) (by omega);go_enter Tryz.func130,Tryz.ntmps130;go_wp2_with fail;refine k.mono ?_;rintro e l ⟨rfl,g⟩;go_wp2;exact⟨rfl,.inr ⟨d.out,rfl,b.out.threw rfl g⟩⟩
theorem yQ3 (s:By)(hs:s.size<=120)(b:Addr)(z:Nat)(O:z<=12)(a i:Nat)(w:World)(h:RB w a s i z)(A:Env w a b)(B:i<s.size)(r:nx s i=47) :
  Calls Tryz.prog 130 #[D3 a] w (PlPost w a s i z b (fXk (pat (13-z)) (fXa (12-z)) (rest s i))):=by
 have y:Hid (fXk (pat (13-z)) (fXa (12-z)) (rest s i)=match Y5 (pat (13-z)) (rest s (i+1)) with|.none=>.none|some (l,u)=>some (fX9 l u)):=zQ6 B r;have k:Hid _:=Inp.enter h;have t:=O2 a s i z _ k.out.lies (by omega) B;have J:Hid _:=A;rw[r]at t;go_enter Tryz.func130,Tryz.ntmps130;go_wp2_with fail;refine t.mono ?_;rintro e x ⟨rfl,E⟩;have o:=k.out.go E;have S:=o.cell;have m:Hid _:=o;have I:Hid (∀W,Below x.heap.size x W->Calls Tryz.prog 145 #[D3 a] W (aQo w a s (i+1) z b (Y5 (pat (13-z)) (rest s (i+1))))):=fun W q=>
  (zQv s hs b z O a (i+1) W (m.out.below q).lies ((m.out.below q).env J.out) (by omega)).mono fun e H N=>N.mid (m.out.below q)
 go_wp2;go_region_held (fun H=>H.cell? ⟨w.heap.size,0,none⟩=some (.pointer (some ⟨a,0,none⟩))) (first|assumption|go_keep|(simp[World.cell?_setCell_far];assumption))
  (first
   | (go_at_call 145;refine(I.out _ ?_).mono ?_;exact(Below.refl _ _).drew;rintro e Z (⟨l,j,f,L,d,V,C,rfl,p,F⟩|⟨d,rfl,M⟩);rotate_left;(go_wp2;exact⟨rfl,.inr ⟨by rw[y.out,d],rfl,M⟩⟩);have T:=p.cell)
   | (go_at_call 144;refine(nQt s hs z a j l f L w _ p C (by omega) F).mono ?_;rintro e R ⟨g,n,rfl,c,G⟩;have U:=c.cell;obtain⟨P,Q,Y,s1⟩:=c.res.two))
 all_goals
  have X:=nQs l C;have K:Hid (PlPost w a s i z b (fXk (pat (13-z)) (fXa (12-z)) (rest s i)) (.returned (C5 (eX7 (N8 s j l)) (.func (.func g) #[] n))) ((R.setCell ⟨w.heap.size+1,0,none⟩ (.int .i64 (eX7 (N8 s j l)))).setCell ⟨w.heap.size+1,1,none⟩ (.func (.func g) #[] n))):=
   c.ret (by rw[y.out,d];dsimp only;rw[iQ5]) (by omega) (by omega) G
  clear G F c p d;go_wp2_with fail;exact bodyPost_ret (v:=C5 (eX7 (N8 s j l)) (.func (.func g) #[] n)) (by simp[results,Tryz.results130,go_sem,P,Q]) rfl K.out
theorem yQ0 (s:By)(hs:s.size<=120)(b:Addr)(z:Nat)(P:z<=12)(B:z<=11->Z8 s b (z+1))(a i:Nat)(w:World)(h:RB w a s i z)(A:Env w a b)(C:i<s.size)(r:nx s i=40) :
  Calls Tryz.prog 130 #[D3 a] w (PlPost w a s i z b (fXk (pat (13-z)) (fXa (12-z)) (rest s i))):=by
 have y:Hid (fXk (pat (13-z)) (fXa (12-z)) (rest s i)=match J3 (fXa (12-z)) (rest s (i+1)) with|.none=>.none|some (l,u)=>some (fX9 l u)):=aXa C r;have k:Hid _:=Inp.enter h;have t:=O2 a s i z _ k.out.lies (by omega) C;have K:Hid _:=A;rw[r]at t;go_enter Tryz.func130,Tryz.ntmps130;go_wp2_with fail;refine t.mono ?_;rintro e x ⟨rfl,F⟩;have o:=k.out.go F;have T:=o.cell;have m:Hid _:=o;have J:Hid (∀W,Below x.heap.size x W->Calls Tryz.prog 146 #[D3 a] W (aQo w a s (i+1) z b (J3 (fXa (12-z)) (rest s (i+1))))):=fun W q=>
  (bXm s hs b z P B a (i+1) W (m.out.below q).lies ((m.out.below q).env K.out) (by omega)).mono fun e I O=>O.mid (m.out.below q)
 go_wp2;go_region_held (fun I=>I.cell? ⟨w.heap.size,0,none⟩=some (.pointer (some ⟨a,0,none⟩))) (first|assumption|go_keep|(simp[World.cell?_setCell_far];assumption))
  (first
   | (go_at_call 146;refine(J.out _ ?_).mono ?_;exact(Below.refl _ _).drew;rintro e w2 (⟨l,j,f,M,d,X,E,rfl,p,G⟩|⟨d,rfl,N⟩);rotate_left;(go_wp2;exact⟨rfl,.inr ⟨by rw[y.out,d],rfl,N⟩⟩);have U:=p.cell)
   | (go_at_call 144;refine(nQt s hs z a j l f M w _ p E (by omega) G).mono ?_;rintro e S ⟨g,n,rfl,c,H⟩;have V:=c.cell;obtain⟨Q,R,Z,s1⟩:=c.res.two))
 all_goals
  have Y:=nQs l E;have L:Hid (PlPost w a s i z b (fXk (pat (13-z)) (fXa (12-z)) (rest s i)) (.returned (C5 (eX7 (N8 s j l)) (.func (.func g) #[] n))) ((S.setCell ⟨w.heap.size+1,0,none⟩ (.int .i64 (eX7 (N8 s j l)))).setCell ⟨w.heap.size+1,1,none⟩ (.func (.func g) #[] n))):=
   c.ret (by rw[y.out,d];dsimp only;rw[iQ5]) (by omega) (by omega) H
  clear H G c p d;go_wp2_with fail;exact bodyPost_ret (v:=C5 (eX7 (N8 s j l)) (.func (.func g) #[] n)) (by simp[results,Tryz.results130,go_sem,Q,R]) rfl L.out
theorem yQ2 (s:By)(hs:s.size<=120)(b:Addr)(z:Nat)(I:z<=12)(E:dQu s b)(a i:Nat)(w:World)(h:RB w a s i z)(r:Env w a b)(t:i<s.size)(o:nx s i=45) :
  Calls Tryz.prog 130 #[D3 a] w (PlPost w a s i z b (fXk (pat (13-z)) (fXa (12-z)) (rest s i))):=by
 have q:Hid (fXk (pat (13-z)) (fXa (12-z)) (rest s i)=Q5 (pat (13-z)) (rest s (i+1))):=zQ8 t o;have g:Hid _:=Inp.enter h;have p:=O2 a s i z _ g.out.lies (by omega) t;have A:Hid _:=r;rw[o]at p;go_enter Tryz.func130,Tryz.ntmps130;go_wp2_with fail;refine p.mono ?_;rintro e y ⟨rfl,u⟩;have c:=g.out.go u;have M:=c.cell;have m:=(E z a (i+1) y I c.lies (c.env A.out) (by omega)).mono fun e P H=>H.mid c;go_wp2_with fail;refine m.mono ?_;rintro e L (⟨l,j,f,k,d,N,G,rfl,n,x⟩|⟨d,rfl,F⟩)
 ·obtain⟨J,K,O,s1⟩:=n.res.two
  have C:Hid (PlPost w a s i z b (fXk (pat (13-z)) (fXa (12-z)) (rest s i)) (.returned (C5 (eX7 l) (.func (.func f) #[] k))) ((L.setCell ⟨w.heap.size+1,0,none⟩ (Iv (eX7 l))).setCell ⟨w.heap.size+1,1,none⟩ (.func (.func f) #[] k))):=
   n.ret (q.out.trans d) (by omega) G x
  go_wp2;exact bodyPost_ret (v:=C5 (eX7 l) (.func (.func f) #[] k)) (by simp[results,Tryz.results130,go_sem,J,K]) rfl C.out
 ·have B:Hid _:=q.out.trans d
  go_wp2;exact⟨rfl,.inr ⟨B.out,rfl,F⟩⟩
theorem yQ1 (s:By)(hs:s.size<=120)(b:Addr)(z:Nat)(a i:Nat)(w:World)(h:RB w a s i z)(r:Env w a b)(t:i<s.size)(o:nx s i=43) :
  Calls Tryz.prog 130 #[D3 a] w (PlPost w a s i z b (fXk (pat (13-z)) (fXa (12-z)) (rest s i))):=by
 have q:Hid (fXk (pat (13-z)) (fXa (12-z)) (rest s i)=aQb (rest s (i+1))):=zQ9 t o;have g:Hid _:=Inp.enter h;have p:=O2 a s i z _ g.out.lies (by omega) t;have A:Hid _:=r;rw[o]at p;go_enter Tryz.func130,Tryz.ntmps130;go_wp2_with fail;refine p.mono ?_;rintro e y ⟨rfl,u⟩;have c:=g.out.go u;have K:=c.cell;have m:=(aXe s hs b z a (i+1) y c.lies (c.env A.out) (by omega)).mono fun e N G=>G.mid c;go_wp2_with fail;refine m.mono ?_;rintro e J (⟨l,j,f,k,d,L,F,rfl,n,x⟩|⟨d,rfl,E⟩)
 ·obtain⟨H,I,M,s1⟩:=n.res.two
  have C:Hid (PlPost w a s i z b (fXk (pat (13-z)) (fXa (12-z)) (rest s i)) (.returned (C5 (eX7 l) (.func (.func f) #[] k))) ((J.setCell ⟨w.heap.size+1,0,none⟩ (Iv (eX7 l))).setCell ⟨w.heap.size+1,1,none⟩ (.func (.func f) #[] k))):=
   n.ret (q.out.trans d) (by omega) F x
  go_wp2;exact bodyPost_ret (v:=C5 (eX7 l) (.func (.func f) #[] k)) (by simp[results,Tryz.results130,go_sem,H,I]) rfl C.out
 ·have B:Hid _:=q.out.trans d
  go_wp2;exact⟨rfl,.inr ⟨B.out,rfl,E⟩⟩
theorem yQ4 (s:By)(hs:s.size<=120)(a1:Addr)(z:Nat)(O:z<=12)(y:z<=11->Z8 s a1 (z+1))(a i:Nat)(w:World)(h:RB w a s i z)(t:Env w a a1)(A:i<s.size)(o:nx s i=60) :
  Calls Tryz.prog 130 #[D3 a] w (PlPost w a s i z a1 (fXk (pat (13-z)) (fXa (12-z)) (rest s i))):=by
 have q:Hid (fXk (pat (13-z)) (fXa (12-z)) (rest s i)=match S4 (fXa (12-z)) (rest s (i+1)) with|.none=>.none|some (l,u)=>some (gXl l,u)):=zQg A o;have d:Hid _:=Inp.enter h;have p:=O2 a s i z _ d.out.lies (by omega) A;have G:Hid _:=t;rw[o]at p;go_enter Tryz.func130,Tryz.ntmps130;go_wp2_with fail;refine p.mono ?_;rintro e F ⟨rfl,B⟩;have b:=d.out.go B;have T:=b.cell;have m:=(zQ5 s hs a1 z O y a (i+1) F b.lies (b.env G.out) (by omega)).mono fun e W N=>N.mid b;go_wp2_with fail;refine m.mono ?_;rintro e R (⟨l,j,f,K,c,U,M,rfl,x,C⟩|⟨c,rfl,L⟩)
 ·have J:Hid (fXk (pat (13-z)) (fXa (12-z)) (rest s i)=some (gXl l,rest s j)):=by show _=_;rw[q.out,c]
  have r:=qQ0 s z a j 7 (.inr rfl) l f K w R x (by omega) C;go_wp2_with fail;refine r.mono ?_;rintro e S ⟨g,k,rfl,n,E⟩;obtain⟨P,Q,V,s1⟩:=n.res.two;have I:Hid (PlPost w a s i z a1 (fXk (pat (13-z)) (fXa (12-z)) (rest s i)) (.returned (C5 (eX7 l+1) (.func (.func g) #[] k))) ((S.setCell ⟨w.heap.size+1,0,none⟩ (Iv ((eX7 l+1:Nat):Int))).setCell ⟨w.heap.size+1,1,none⟩ (.func (.func g) #[] k))):=by
   have:=n.ret (i:=i) (a1:=a1) (l:=gXl l) J.out (by rw[hX9];omega) M E;rw[hX9]at this;exact this
  clear E n r;go_wp2_with fail;exact bodyPost_ret (v:=C5 (eX7 l+1) (.func (.func g) #[] k)) (by simp[results,Tryz.results130,go_sem,P,Q]) rfl I.out
 ·have H:Hid (fXk (pat (13-z)) (fXa (12-z)) (rest s i)=.none):=by show _=_;rw[q.out,c]
  clear c m;go_wp2_with fail;exact⟨rfl,.inr ⟨H.out,rfl,L⟩⟩
theorem zQf (s:By)(hs:s.size<=120)(b:Addr)(z a i:Nat)(w:World)(h:RB w a s i z)(p:Env w a b)(m:i<s.size)(c:nx s i≠47)(d:nx s i≠40)(f:nx s i≠60)(g:nx s i≠45)(j:nx s i≠43) :
  Calls Tryz.prog 130 #[D3 a] w (PlPost w a s i z b (fXk (pat (13-z)) (fXa (12-z)) (rest s i))):=by
 have o:Hid (fXk (pat (13-z)) (fXa (12-z)) (rest s i)=.none):=zQe m c d f g j;have l:Hid _:=Inp.enter h;have n:=O2 a s i z _ l.out.lies (by omega) m;have t:(((nx s i).toNat:Int)==47)=false:=by rw[beq_eq_false_iff_ne];intro e;exact c (UInt8.toNat_inj.1 (by simpa using (by omega:(nx s i).toNat=47)))
 have u:(((nx s i).toNat:Int)==40)=false:=by rw[beq_eq_false_iff_ne];intro e;exact d (UInt8.toNat_inj.1 (by simpa using (by omega:(nx s i).toNat=40)))
 have v:(((nx s i).toNat:Int)==60)=false:=by rw[beq_eq_false_iff_ne];intro e;exact f (UInt8.toNat_inj.1 (by simpa using (by omega:(nx s i).toNat=60)))
 have x:(((nx s i).toNat:Int)==45)=false:=by rw[beq_eq_false_iff_ne];intro e;exact g (UInt8.toNat_inj.1 (by simpa using (by omega:(nx s i).toNat=45)))
 have y:(((nx s i).toNat:Int)==43)=false:=by rw[beq_eq_false_iff_ne];intro e;exact j (UInt8.toNat_inj.1 (by simpa using (by omega:(nx s i).toNat=43)))
 go_enter Tryz.func130,Tryz.ntmps130;go_wp2_with fail;refine n.mono ?_;rintro e A ⟨rfl,q⟩;have k:=l.out.go q;have r:=k.cell;go_wp2_with fail;refine(V7 _ b _ (k.env p).sc).mono ?_;rintro e B ⟨rfl,rfl⟩;go_wp2;exact⟨rfl,.inr ⟨o.out,rfl,k.inn.left.grown⟩⟩
theorem mQj (s:By)(hs:s.size<=120)(a:Addr)(z:Nat)(e:z<=12)(n:dQu s a)(m:z<=11->Z8 s a (z+1)):fQ7 s a z:=by
 intro d i w h b o;rcases Nat.lt_or_ge i s.size with c|c
 ·by_cases f:nx s i=47
  ·exact yQ3 s hs a z e d i w h b c f
  ·by_cases g:nx s i=40
   ·exact yQ0 s hs a z e m d i w h b c g
   ·by_cases j:nx s i=60
    ·exact yQ4 s hs a z e m d i w h b c j
    ·by_cases k:nx s i=45
     ·exact yQ2 s hs a z e n d i w h b c k
     ·by_cases l:nx s i=43
      ·exact yQ1 s hs a z d i w h b c l
      ·exact zQf s hs a z d i w h b c f g j k l
 ·exact zQ7 s hs a z d i w h b (by omega)
theorem kQ0 (s:By)(z n j k:Nat)(p:k=3\/k=4\/k=5)(l m:Ln)(f g:Nat)(d b:Array Value)(w W:World)(i:Inp w n s j z W)(v:eX7 l<=120)(u:eX7 m<=120)(F:Nat)(o:F=S1 k)
  (r:PlanV W (fun q=>w.heap.size+1<q/\q<W.heap.size) l (.func (.func f) #[] d)) (a:PlanV W (fun q=>w.heap.size+1<q/\q<W.heap.size) m (.func (.func g) #[] b)) :
  Calls Tryz.prog 121 #[C5 (eX7 l) (.func (.func f) #[] d),C5 (eX7 m) (.func (.func g) #[] b),.func (.func F) #[] #[]] W fun e c=>
   ∃g b,e=.returned (C5 (eX7 l+eX7 m) (.func (.func g) #[] b))/\Inp w n s j z c/\PlanV c (fun q=>w.heap.size+1<q/\q<c.heap.size) ⟨k,rnil,[],[l,m]⟩ (.func (.func g) #[] b)/\Bw W c:=by
 subst o;have x:=i.size;refine(kQz k p l m (eX7 l) (eX7 m) f g d b (by omega) (by omega) W _ (fun q a=>a.2) r a).mono ?_;rintro e c ⟨g,b,rfl,t,h⟩;have y:=h.size;refine⟨g,b,rfl,i.below h,PlanV.mono (fun q a=>?_) (fun _ _=>rfl) _ _ t,h⟩;rcases a with a|a
 ·exact⟨a.1,by have:=a.2;omega⟩
 ·exact⟨by have:=a.1;omega,a.2⟩
theorem uQi {s:By}{k:Nat}(a:k<s.size):([124,126,41,62]:Lu).any (A7 s k)=gX3 (rest s k):=by
 rw[D4 a];simp[A7,a,gX3];cases (nx s k==124)<;>cases (nx s k==126)<;>cases (nx s k==41)<;>cases (nx s k==62)<;>rfl
theorem uQh {s:By}{k:Nat}(a:s.size<=k):gX3 (rest s k)=true:=by
 rw[P4 a];rfl
section
variable {P:Lu->Rd} {Q:Lu->Rl} {n:Nat} {r r1:Lu} {a:Ln}
theorem aXc (h:fXk P Q r=.none):fXe P Q (n+1) r=.none:=by rw[fXe,h]
theorem aXd (h:fXk P Q r=some (a,r1))(b:gX3 r1=true):fXe P Q (n+1) r=some (a,r1):=by rw[fXe,h];dsimp only;rw[if_pos b]
theorem zQl (h:fXk P Q r=some (a,r1))(c:gX3 r1=false)(b:fXe P Q n r1=.none):fXe P Q (n+1) r=.none:=by rw[fXe,h];dsimp only;rw[if_neg (by rw[c];simp),b]
theorem aXb {b:Ln}{c:Lu}(h:fXk P Q r=some (a,r1))(e:gX3 r1=false)(d:fXe P Q n r1=some (b,c)):fXe P Q (n+1) r=some (eX9 a b,c):=by rw[fXe,h];dsimp only;rw[if_neg (by rw[e];simp),d]
theorem yQz (h:fXe P Q (r.length+1) r=.none):gXa P Q (n+1) r=.none:=by rw[gXa,h]
theorem qQ7 (h:fXe P Q (r.length+1) r=some (a,r1))(b:r1.head?≠some 124):gXa P Q (n+1) r=some (a,r1):=by rw[gXa,h];dsimp only;rw[if_neg b]
theorem qQ4 (h:fXe P Q (r.length+1) r=some (a,r1))(c:r1.head?=some 124)(b:gXa P Q n r1.tail=.none):gXa P Q (n+1) r=.none:=by rw[gXa,h];dsimp only;rw[if_pos c,b]
theorem qQ5 {b:Ln}{c:Lu}(h:fXe P Q (r.length+1) r=some (a,r1))(e:r1.head?=some 124)(d:gXa P Q n r1.tail=some (b,c)):gXa P Q (n+1) r=some (fXn a b,c):=by rw[gXa,h];dsimp only;rw[if_pos e,d]
end
theorem eQ0 {W:World}{g x y:Nat}{a b:Value}(d:g≠x)(c:g≠y){p q r:Option Value}(e:W.cell? ⟨x,0,none⟩=p)(f:W.cell? ⟨y,0,none⟩=q)(h:W.cell? ⟨y,1,none⟩=r) :
  ((W.setCell ⟨g,0,none⟩ a).setCell ⟨g,1,none⟩ b).cell? ⟨x,0,none⟩=p/\((W.setCell ⟨g,0,none⟩ a).setCell ⟨g,1,none⟩ b).cell? ⟨y,0,none⟩=q/\((W.setCell ⟨g,0,none⟩ a).setCell ⟨g,1,none⟩ b).cell? ⟨y,1,none⟩=r:=
 ⟨(World.cell?_setCell_far _ _ _ _ d).trans ((World.cell?_setCell_far _ _ _ _ d).trans e),(World.cell?_setCell_far _ _ _ _ c).trans ((World.cell?_setCell_far _ _ _ _ c).trans f),(World.cell?_setCell_far _ _ _ _ c).trans ((World.cell?_setCell_far _ _ _ _ c).trans h)⟩
def bQq (s:By)(a1:Addr)(z n:Nat):Prop:=∀(rb i:Nat) (w:World),RB w rb s i z->Env w rb a1->i<=s.size->(rest s i).length<n->
 Ca 119 #[D3 rb] w (PlPost w rb s i z a1 (fXe (pat (13-z)) (fXa (12-z)) n (rest s i)))
theorem aXi (s:By)(hs:s.size<=120)(a1:Addr)(z n:Nat)(hP:fQ7 s a1 z)(hR:bQq s a1 z n):bQq s a1 z (n+1):=by
 intro a i w b1 hE hi hn;have O:Hid _:=Inp.enter b1;have HE:Hid _:=hE;have hC:=(hP a i _ O.out.lies (O.out.env hE) hi).mono fun e p c=>c.mid O.out;have c6:Hid _:=hR;go_enter Tryz.func119,Tryz.ntmps119;go_wp2_with fail;refine hC.mono ?_;rintro e d (⟨l,j,f,b,C,c9,hj,rfl,P,b7⟩|⟨C,rfl,hg⟩)
 ·have c1:=(jXu (hXl _) (gXx _) C).2.2
  have Hr:Hid _:=C;have a5:=A5 d (L7 (eX7 l) f b);have c2:Blk (d.alloc (L7 (eX7 l) f b)) d.heap.size #[.int .i64 (eX7 l),.func (.func f) #[] b] 130:=Blk.new d _ _;have a3:=P.below a5;have d7:(d.alloc (L7 (eX7 l) f b)).heap.size=d.heap.size+1:=by simp
  have d6:=P.size;have ho:=P.inn.old;have a8:Hid (PlanV (d.alloc (L7 (eX7 l) f b)) (fun q=>w.heap.size+1<q/\q<d.heap.size) l (.func (.func f) #[] b)):=PlanV.mono (fun q c=>c) (fun q c=>a5.block q c.2) _ _ b7;clear C b7 a5 P;go_upto_region 2 with (fail);generalize d.alloc (L7 (eX7 l) f b)=G at *;have b2:=a3.cell;have a9:Hid (Blk G d.heap.size #[.int .i64 (eX7 l),.func (.func f) #[] b] 130):=c2;have y:Hid (Inp w a s j z G):=a3;clear c2 a3;have b0:gX3 (rest s j)=true->∀h,RLeft G a s j z h->Blk h d.heap.size #[.int .i64 (eX7 l),.func (.func f) #[] b] 130/\Inp w a s j z h/\PlPost w a s i z a1 (fXe (pat (13-z)) (fXa (12-z)) (n+1) (rest s i)) (.returned (C5 (eX7 l) (.func (.func f) #[] b))) ((h.setCell ⟨w.heap.size+1,0,none⟩ (.int .i64 (eX7 l))).setCell ⟨w.heap.size+1,1,none⟩ (.func (.func f) #[] b)):=by
   intro he h o;have b5:=y.out.go o;have d8:=o.grown.size;exact⟨a9.out.of (o.grown.block _ (by omega) (by simp;omega)),b5,b5.ret (aXd Hr.out he) c9 hj (PlanV.mono (fun q c=>⟨c.1,by have:=c.2;omega⟩) (fun q c=>o.grown.block q (by have:=c.2;omega) (by have:=c.1;simp;omega)) _ _ a8.out)⟩
  have N:Hid (gX3 (rest s j)=true->∀h,RLeft G a s j z h->Blk h d.heap.size #[.int .i64 (eX7 l),.func (.func f) #[] b] 130/\Inp w a s j z h/\PlPost w a s i z a1 (fXe (pat (13-z)) (fXa (12-z)) (n+1) (rest s i)) (.returned (C5 (eX7 l) (.func (.func f) #[] b))) ((h.setCell ⟨w.heap.size+1,0,none⟩ (.int .i64 (eX7 l))).setCell ⟨w.heap.size+1,1,none⟩ (.func (.func f) #[] b))):=b0;clear b0;rcases Nat.lt_or_ge j s.size with T|T
  ·have x:=bQ3 a s j z G y.out.lies (by omega) (by omega) false (by simp;omega)
   have F:=uQi T;cases E:gX3 (rest s j) with
   | true=>
    rw[E]at F;have a0:Hid (([124,126,41,62]:Lu).any (A7 s j)=true):=F;have A:Hid (gX3 (rest s j)=true):=E;clear F E;go_wp2_with fail;refine x.mono ?_;rintro e h ⟨rfl,o⟩;have b3:=(y.out.go o).cell;clear b2 x;go_wp2_with fail;refine(fQn [124,126,41,62] _ rfl 4 rfl (by decide) a s j z h _ o.lies (by omega) (by omega) true a0.out).mono ?_;rintro e u ⟨rfl,V⟩;obtain⟨t,r,I⟩:=N.out A.out u (o.trans V);obtain⟨x0,x1,y0,y1⟩:=t.two;obtain⟨L,M,s0,s1⟩:=r.res.two;have H:Hid (PlPost w a s i z a1 (fXe (pat (13-z)) (fXa (12-z)) (n+1) (rest s i)) (.returned (C5 (eX7 l) (.func (.func f) #[] b))) ((u.setCell ⟨w.heap.size+1,0,none⟩ (.int .i64 (eX7 l))).setCell ⟨w.heap.size+1,1,none⟩ (.func (.func f) #[] b))):=I;clear t r I b3;go_wp2_with fail;exact bodyPost_ret (v:=C5 (eX7 l) (.func (.func f) #[] b)) (by simp[results,Tryz.results119,go_sem,L,M]) rfl H.out
   | false=>
    rw[E]at F;have a0:Hid (([124,126,41,62]:Lu).any (A7 s j)=false):=F;have A:Hid (gX3 (rest s j)=false):=E;clear F E N;go_wp2_with fail;refine x.mono ?_;rintro e h ⟨rfl,o⟩;have b3:=(y.out.go o).cell;clear b2 x;go_wp2_with fail;refine(fQn [124,126,41,62] _ rfl 4 rfl (by decide) a s j z h _ o.lies (by omega) (by omega) false a0.out).mono ?_;rintro e u ⟨rfl,V⟩;have J:=o.trans V;have r:=y.out.go J;have t:=a9.out.of (J.grown.block _ (by omega) (by simp;omega));have b4:=r.cell;have d9:=J.grown.size;obtain⟨x0,x1,y0,y1⟩:=t.two;have c7:Hid (Blk u d.heap.size #[.int .i64 (eX7 l),.func (.func f) #[] b] 130):=t;have c3:Hid (Inp w a s j z u):=r;have c5:Hid (PlanV u (fun q=>w.heap.size+1<q/\q<d.heap.size) l (.func (.func f) #[] b)):=PlanV.mono (fun q c=>c) (fun q c=>J.grown.block q (by have:=c.2;omega) (by have:=c.1;simp;omega)) _ _ a8.out;have c4:Hid (∀W,Below u.heap.size u W->Calls Tryz.prog 119 #[D3 a] W fun e p=>
      (∃m k g B,fXe (pat (13-z)) (fXa (12-z)) n (rest s j)=some (m,rest s k)/\j+eX7 m<=k/\k<=s.size/\e=.returned (C5 (eX7 m) (.func (.func g) #[] B))/\Inp w a s k z p/\Blk p d.heap.size #[.int .i64 (eX7 l),.func (.func f) #[] b] 130/\
       PlanV p (fun q=>w.heap.size+1<q/\q<p.heap.size) l (.func (.func f) #[] b)/\PlanV p (fun q=>w.heap.size+1<q/\q<p.heap.size) m (.func (.func g) #[] B))\/
      (fXe (pat (13-z)) (fXa (12-z)) n (rest s j)=.none/\K6 w a a1 e p)):=by
     intro W S;have R:=c3.out.below S;have d4:=S.size;refine(c6.out a j W R.lies (R.env HE.out) hj (by rw[F4]at c1 hn ⊢;rw[F4]at c1;omega)).mono ?_;rintro e p (⟨m,k,g,B,a6,h1,h2,rfl,d1,U⟩|⟨a6,rfl,hg⟩)
     ·have d5:=U.grown.size
      refine .inl ⟨m,k,g,B,a6,h1,h2,rfl,R.go U,(c7.out.below S (by omega)).of (U.grown.block _ (by omega) (by simp;omega)),PlanV.mono (fun q c=>⟨c.1,by have:=c.2;omega⟩) (fun q c=>?_) _ _ c5.out,PlanV.mono (fun q c=>⟨by have:=c.1;omega,c.2⟩) (fun _ _=>rfl) _ _ d1⟩;rw[U.grown.block q (by have:=c.2;omega) (by have:=c.1;simp;omega)];exact S.block q (by have:=c.2;omega)
     ·exact .inr ⟨a6,rfl,R.threw rfl hg⟩
    clear t r b3 o V J;go_wp2_with fail;go_region_held (fun p=>p.cell? ⟨w.heap.size,0,none⟩=some (.pointer (some ⟨a,0,none⟩))/\p.cell? ⟨d.heap.size,0,none⟩=some (.int .i64 (eX7 l))/\p.cell? ⟨d.heap.size,1,none⟩=some (.func (.func f) #[] b)) (first|assumption|(go_keep;done)|(refine eQ0 ?_ ?_ ?_ ?_ ?_<;>first|omega|exact Y.1|exact Y.2.1|exact Y.2.2|assumption))
     (first
      | (go_at_call 119;refine(c4.out _ ?_).mono ?_;exact(Below.refl _ _).drew;rintro e w5 (⟨m,k,g,B,X,T,d0,rfl,a4,K,b8,c0⟩|⟨X,rfl,c8⟩);rotate_left;(go_wp2_with fail;exact⟨rfl,.inr ⟨zQl Hr.out A.out X,rfl,c8⟩⟩);have d2:w5.cell? ⟨w.heap.size,0,none⟩=some (.pointer (some ⟨a,0,none⟩))/\w5.cell? ⟨d.heap.size,0,none⟩=some (.int .i64 (eX7 l))/\w5.cell? ⟨d.heap.size,1,none⟩=some (.func (.func f) #[] b):=⟨a4.cell,K.two.1,K.two.2.1⟩;have d3:=K.lt)
      | (go_at_call 121;refine(kQ0 s z a k 3 (.inl rfl) l m f g b B w _ a4 (by omega) (by omega) _ rfl b8 c0).mono ?_;rintro e Z ⟨g6,a2,rfl,Q,b9,b6⟩;obtain⟨L,M,s0,s1⟩:=Q.res.two;have a7:=K.below b6 d3;have Y:Z.cell? ⟨w.heap.size,0,none⟩=some (.pointer (some ⟨a,0,none⟩))/\Z.cell? ⟨d.heap.size,0,none⟩=some (.int .i64 (eX7 l))/\Z.cell? ⟨d.heap.size,1,none⟩=some (.func (.func f) #[] b):=⟨Q.cell,a7.two.1,a7.two.2.1⟩))
    all_goals
     have H:Hid (PlPost w a s i z a1 (fXe (pat (13-z)) (fXa (12-z)) (n+1) (rest s i)) (.returned (C5 (eX7 l+eX7 m) (.func (.func g6) #[] a2))) ((Z.setCell ⟨w.heap.size+1,0,none⟩ (.int .i64 ((eX7 l:Int)+(eX7 m:Int)))).setCell ⟨w.heap.size+1,1,none⟩ (.func (.func g6) #[] a2))):=by
      have:=Q.ret (i:=i) (a1:=a1) (l:=eX9 l m) (aXb Hr.out A.out X) (by rw[hX1];omega) d0 b9;rw[hX1,Int.natCast_add]at this;exact this
     clear b9 Q a7 Y b6 b8 c0 a4 K d2 X;go_wp2_with fail;exact bodyPost_ret (v:=C5 (eX7 l+eX7 m) (.func (.func g6) #[] a2)) (by simp[results,Tryz.results119,go_sem,L,M]) rfl H.out
  ·have x:=bQ3 a s j z G y.out.lies (by omega) (by omega) true (by simp;omega)
   have A:Hid (gX3 (rest s j)=true):=uQh T;go_wp2_with fail;refine x.mono ?_;rintro e h ⟨rfl,o⟩;obtain⟨t,r,I⟩:=N.out A.out h o;obtain⟨x0,x1,y0,y1⟩:=t.two;obtain⟨L,M,s0,s1⟩:=r.res.two;have H:Hid (PlPost w a s i z a1 (fXe (pat (13-z)) (fXa (12-z)) (n+1) (rest s i)) (.returned (C5 (eX7 l) (.func (.func f) #[] b))) ((h.setCell ⟨w.heap.size+1,0,none⟩ (.int .i64 (eX7 l))).setCell ⟨w.heap.size+1,1,none⟩ (.func (.func f) #[] b))):=I;clear t r I x N;go_wp2_with fail;exact bodyPost_ret (v:=C5 (eX7 l) (.func (.func f) #[] b)) (by simp[results,Tryz.results119,go_sem,L,M]) rfl H.out
 ·have HN:Hid (fXe (pat (13-z)) (fXa (12-z)) (n+1) (rest s i)=.none):=aXc C
  clear C;go_wp2_with fail;exact⟨rfl,.inr ⟨HN.out,rfl,hg⟩⟩
def dQy (s:By)(a1:Addr)(z n:Nat):Prop:=∀(rb i:Nat) (w:World),RB w rb s i z->Env w rb a1->i<=s.size->(rest s i).length<n->
 Ca 104 #[D3 rb] w (PlPost w rb s i z a1 (gXa (pat (13-z)) (fXa (12-z)) n (rest s i)))
theorem zQ4 (s:By)(hs:s.size<=120)(a1:Addr)(z n:Nat)(hP:∀n,bQq s a1 z n)(hR:dQy s a1 z n):dQy s a1 z (n+1):=by
 intro b i w a6 S hi hn;have A:Hid _:=Inp.enter a6;have HE:Hid _:=S;have hC:=(hP _ b i _ A.out.lies (A.out.env S) hi (Nat.lt_succ_self _)).mono fun e h a=>a.mid A.out;have b9:Hid _:=hR;go_enter Tryz.func104,Tryz.ntmps104;go_wp2_with fail;refine hC.mono ?_;rintro e d (⟨l,j,f,c,u,c2,hj,rfl,E,a8⟩|⟨u,rfl,Z⟩)
 ·have P:Hid _:=u
  have Y:=A5 d (L7 (eX7 l) f c);have b3:Blk (d.alloc (L7 (eX7 l) f c)) d.heap.size #[.int .i64 (eX7 l),.func (.func f) #[] c] 130:=Blk.new d _ _;have T:=E.below Y;have d2:(d.alloc (L7 (eX7 l) f c)).heap.size=d.heap.size+1:=by simp
  have d1:=E.size;have ho:=E.inn.old;have a4:Hid (PlanV (d.alloc (L7 (eX7 l) f c)) (fun q=>w.heap.size+1<q/\q<d.heap.size) l (.func (.func f) #[] c)):=PlanV.mono (fun q a=>a) (fun q a=>Y.block q a.2) _ _ a8;clear u a8 Y E;go_upto_region 2 with (fail);generalize d.alloc (L7 (eX7 l) f c)=M at *;have b2:=T.cell;have a5:Hid (Blk M d.heap.size #[.int .i64 (eX7 l),.func (.func f) #[] c] 130):=b3;have B:Hid (Inp w b s j z M):=T;clear b3 T;cases o:A7 s j 124 with
  | false=>
   have r:=X5 b s j z 124 M B.out.lies (by omega) (by omega) o;have C:Hid ((rest s j).head?≠some 124):=by show _≠_;rw[Ne,C4,o];simp
   clear o;go_wp2_with fail;refine r.mono ?_;rintro e w3 ⟨rfl,J⟩;have U:=B.out.go J;have d3:=J.grown.size;have b5:=a5.out.of (J.grown.block _ (by omega) (by simp;omega));obtain⟨x0,x1,y0,y1⟩:=b5.two;obtain⟨r0,r1,s0,s1⟩:=U.res.two;have O:Hid (PlPost w b s i z a1 (gXa (pat (13-z)) (fXa (12-z)) (n+1) (rest s i)) (.returned (C5 (eX7 l) (.func (.func f) #[] c))) ((w3.setCell ⟨w.heap.size+1,0,none⟩ (.int .i64 (eX7 l))).setCell ⟨w.heap.size+1,1,none⟩ (.func (.func f) #[] c))):=
    U.ret (qQ7 P.out C.out) c2 hj (PlanV.mono (fun q a=>⟨a.1,by have:=a.2;omega⟩) (fun q a=>J.grown.block q (by have:=a.2;omega) (by have:=a.1;simp;omega)) _ _ a4.out)
   clear b5 U r b2;go_wp2_with fail;exact bodyPost_ret (v:=C5 (eX7 l) (.func (.func f) #[] c)) (by simp[results,Tryz.results104,go_sem,r0,r1]) rfl O.out
  | true=>
   have r:=Z5 b s j z 124 M B.out.lies (by omega) o;have C:Hid ((rest s j).head?=some 124):=C4.2 o;have c9:=(D9 o).1;clear o;go_wp2_with fail;refine r.mono ?_;rintro e y ⟨rfl,t⟩;have V:=B.out.go t;have a2:=a5.out.of (t.grown.block _ (by omega) (by simp;omega));have b4:=V.cell;have d4:=t.grown.size;obtain⟨x0,x1,y0,y1⟩:=a2.two;have c0:Hid (Blk y d.heap.size #[.int .i64 (eX7 l),.func (.func f) #[] c] 130):=a2;have b6:Hid (Inp w b s (j+1) z y):=V;have b8:Hid (PlanV y (fun q=>w.heap.size+1<q/\q<d.heap.size) l (.func (.func f) #[] c)):=PlanV.mono (fun q a=>a) (fun q a=>t.grown.block q (by have:=a.2;omega) (by have:=a.1;simp;omega)) _ _ a4.out;have b7:Hid (∀W,Below y.heap.size y W->Calls Tryz.prog 104 #[D3 b] W fun e h=>
     (∃m k g p,gXa (pat (13-z)) (fXa (12-z)) n (rest s j).tail=some (m,rest s k)/\j+1+eX7 m<=k/\k<=s.size/\e=.returned (C5 (eX7 m) (.func (.func g) #[] p))/\Inp w b s k z h/\Blk h d.heap.size #[.int .i64 (eX7 l),.func (.func f) #[] c] 130/\
      PlanV h (fun q=>w.heap.size+1<q/\q<h.heap.size) l (.func (.func f) #[] c)/\PlanV h (fun q=>w.heap.size+1<q/\q<h.heap.size) m (.func (.func g) #[] p))\/
     (gXa (pat (13-z)) (fXa (12-z)) n (rest s j).tail=.none/\K6 w b a1 e h)):=by
    intro W H;have G:=b6.out.below H;have c7:=H.size;rw[E7];refine(b9.out b (j+1) W G.lies (G.env HE.out) (by omega) (by rw[F4]at hn ⊢;omega)).mono ?_;rintro e h (⟨m,k,g,p,a0,h1,h2,rfl,c4,I⟩|⟨a0,rfl,Z⟩)
    ·have c8:=I.grown.size
     refine .inl ⟨m,k,g,p,a0,h1,h2,rfl,G.go I,(c0.out.below H (by omega)).of (I.grown.block _ (by omega) (by simp;omega)),PlanV.mono (fun q a=>⟨a.1,by have:=a.2;omega⟩) (fun q a=>?_) _ _ b8.out,PlanV.mono (fun q a=>⟨by have:=a.1;omega,a.2⟩) (fun _ _=>rfl) _ _ c4⟩;rw[I.grown.block q (by have:=a.2;omega) (by have:=a.1;simp;omega)];exact H.block q (by have:=a.2;omega)
    ·exact .inr ⟨a0,rfl,G.threw rfl Z⟩
   clear a2 V b2 t r;go_wp2_with fail;go_region_held (fun h=>h.cell? ⟨w.heap.size,0,none⟩=some (.pointer (some ⟨b,0,none⟩))/\h.cell? ⟨d.heap.size,0,none⟩=some (.int .i64 (eX7 l))/\h.cell? ⟨d.heap.size,1,none⟩=some (.func (.func f) #[] c)) (first|assumption|(go_keep;done)|(refine eQ0 ?_ ?_ ?_ ?_ ?_<;>first|omega|exact L.1|exact L.2.1|exact L.2.2|assumption))
    (first
     | (go_at_call 104;refine(b7.out _ ?_).mono ?_;exact(Below.refl _ _).drew;rintro e w5 (⟨m,k,g,p,K,d0,c3,rfl,X,x,a9,b1⟩|⟨K,rfl,c1⟩);rotate_left;(go_wp2_with fail;exact⟨rfl,.inr ⟨qQ4 P.out C.out K,rfl,c1⟩⟩);have c5:w5.cell? ⟨w.heap.size,0,none⟩=some (.pointer (some ⟨b,0,none⟩))/\w5.cell? ⟨d.heap.size,0,none⟩=some (.int .i64 (eX7 l))/\w5.cell? ⟨d.heap.size,1,none⟩=some (.func (.func f) #[] c):=⟨X.cell,x.two.1,x.two.2.1⟩;have c6:=x.lt)
     | (go_at_call 121;refine(kQ0 s z b k 5 (.inr (.inr rfl)) l m f g c p w _ X (by omega) (by omega) _ rfl a9 b1).mono ?_;rintro e N ⟨R,Q,rfl,F,b0,a7⟩;obtain⟨r0,r1,s0,s1⟩:=F.res.two;have a3:=x.below a7 c6;have L:N.cell? ⟨w.heap.size,0,none⟩=some (.pointer (some ⟨b,0,none⟩))/\N.cell? ⟨d.heap.size,0,none⟩=some (.int .i64 (eX7 l))/\N.cell? ⟨d.heap.size,1,none⟩=some (.func (.func f) #[] c):=⟨F.cell,a3.two.1,a3.two.2.1⟩))
   all_goals
    have O:Hid (PlPost w b s i z a1 (gXa (pat (13-z)) (fXa (12-z)) (n+1) (rest s i)) (.returned (C5 (eX7 l+eX7 m) (.func (.func R) #[] Q))) ((N.setCell ⟨w.heap.size+1,0,none⟩ (.int .i64 ((eX7 l:Int)+(eX7 m:Int)))).setCell ⟨w.heap.size+1,1,none⟩ (.func (.func R) #[] Q))):=by
     have:=F.ret (i:=i) (a1:=a1) (l:=fXn l m) (qQ5 P.out C.out K) (by rw[iXk];omega) c3 b0;rw[iXk,Int.natCast_add]at this;exact this
    clear b0 F a3 L a7 a9 b1 X x c5 K;go_wp2_with fail;exact bodyPost_ret (v:=C5 (eX7 l+eX7 m) (.func (.func R) #[] Q)) (by simp[results,Tryz.results104,go_sem,r0,r1]) rfl O.out
 ·have HN:Hid (gXa (pat (13-z)) (fXa (12-z)) (n+1) (rest s i)=.none):=yQz u
  clear u;go_wp2_with fail;exact⟨rfl,.inr ⟨HN.out,rfl,Z⟩⟩
theorem hQ5 {s:By}(hs:s.size<=120){a:Addr}{z:Nat}(b:fQ7 s a z):∀n,bQq s a z n
 | 0=>fun _ _ _ _ _ _ c=>absurd c (Nat.not_lt_zero _)
 | n+1=>aXi s hs a z n b (hQ5 hs b n)
theorem hQy {s:By}(hs:s.size<=120){a:Addr}{z:Nat}(b:∀n,bQq s a z n):∀n,dQy s a z n
 | 0=>fun _ _ _ _ _ _ c=>absurd c (Nat.not_lt_zero _)
 | n+1=>zQ4 s hs a z n b (hQy hs b n)
theorem zQ3 {s:By}(hs:s.size<=120){a:Addr}(e:dQu s a):∀m,m<=12->Z8 s a (12-m):=by
 intro m;induction m with
 | zero=>
  intro _ d i w h b c;have:=hQy hs (hQ5 hs (mQj s hs a 12 (by omega) e (fun h=>by omega))) ((rest s i).length+1) d i w h b c (Nat.lt_succ_self _);exact this
 | succ m g=>
  intro j d i w h b c;have f:=mQj s hs a (12-(m+1)) (by omega) e (fun _=>by rw[show 12-(m+1)+1=12-m from by omega];exact g (by omega));have:=hQy hs (hQ5 hs f) ((rest s i).length+1) d i w h b c (Nat.lt_succ_self _);rw[show 13-(12-(m+1))=(12-(12-(m+1)))+1 from by omega]at this ⊢;exact this
def Vr (w W:World)(g:Nat)(v:Value)(T:TypeId):Prop:=Blk W g #[v] T/\w.heap.size+1<g
theorem Vr.new {w W:World}(h:w.heap.size+1<W.heap.size)(v:Value)(T:TypeId):Vr w (W.alloc (.cells #[v] T)) W.heap.size v T:=⟨Blk.new W _ _,h⟩
theorem Vr.new2 {w W:World}(h:w.heap.size+1<W.heap.size)(c:Array Value)(t:TypeId)(v:Value)(T:TypeId):Vr w ((W.alloc (.cells c t)).alloc (.cells #[v] T)) (W.heap.size+1) v T:=by
 have:=Blk.new (W.alloc (.cells c t)) #[v] T;rw[World.size_alloc]at this;exact⟨this,by omega⟩
theorem Vr.alloc {w W:World}{g:Nat}{v:Value}{T:TypeId}(h:Vr w W g v T)(o:Obj):Vr w (W.alloc o) g v T:=⟨h.1.of (Below.heap_alloc _ _ _ h.1.lt),h.2⟩
theorem Vr.left {w W c:World}{b:Nat}{s:By}{a z g:Nat}{v:Value}{T:TypeId}(e:b<w.heap.size)(d:RLeft W b s a z c)(h:Vr w W g v T):Vr w c g v T:=⟨h.1.of (d.grown.block g h.1.lt (by have:=h.2;simp;omega)),h.2⟩
theorem Vr.lt {w W:World}{g:Nat}{v:Value}{T:TypeId}(h:Vr w W g v T):g<W.heap.size/\¬g=W.heap.size/\¬W.heap.size=g:=⟨h.1.lt,Nat.ne_of_lt h.1.lt,Nat.ne_of_gt h.1.lt⟩
theorem Vr.one {w W:World}{g:Nat}{v:Value}{T:TypeId}(h:Vr w W g v T):Ce W g 0 v/\W.frozen? ⟨g,0,none⟩=false:=h.1.one
theorem Vr.set {w W:World}{g h:Nat}{v u:Value}{T:TypeId}(k:Vr w W g v T)(a:g≠h):Vr w (W.setCell ⟨h,0,none⟩ u) g v T:=⟨k.1.of (Below.heap_setCell _ _ _ _ a),k.2⟩
theorem Vr.put {w W:World}{g:Nat}{v u:Value}{T:TypeId}(k:Vr w W g v T):Vr w (W.setCell ⟨g,0,none⟩ u) g u T:=by
 refine⟨?_,k.2⟩;have:=k.1;unfold Blk at this ⊢;simp[World.setCell,Array.getElem?_modify,this]
theorem Inp.set {w W:World}{b:Nat}{s:By}{a z g:Nat}{u:Value}(h:Inp w b s a z W)(c:w.heap.size+1<g):Inp w b s a z (W.setCell ⟨g,0,none⟩ u):=
 ⟨h.inn.own (V8 _ _ _ _) (fun k e=>by cases e;omega),h.res.of (Below.heap_setCell _ _ _ _ (by show w.heap.size+1≠g;omega))⟩
structure Rq (w W:World)(lo hi:Nat)(d:Ls.D)(v:Value):Prop where
 rep:Rep W (fun q=>lo<=q/\q<hi) 0 d [v]
 low:w.heap.size+1<lo
 high:hi<=W.heap.size
theorem Rq.alloc {w W:World}{lo a:Nat}{d:Ls.D}{v:Value}(h:Rq w W lo a d v)(o:Obj):Rq w (W.alloc o) lo a d v:=
 ⟨h.rep.mono (fun _ h=>h) (fun q b=>Below.heap_alloc _ _ _ (by have:=b.2;have:=h.high;omega)),h.low,by have:=h.high;simp;omega⟩
theorem Rq.left {w W g:World}{f:Nat}{s:By}{a z lo b:Nat}{d:Ls.D}{v:Value}(i:f<w.heap.size)(c:RLeft W f s a z g)(h:Rq w W lo b d v):Rq w g lo b d v:=
 ⟨h.rep.mono (fun _ h=>h) (fun q e=>c.grown.block q (by have:=e.2;have:=h.high;omega) (by have:=e.1;have:=h.low;simp;omega)),h.low,Lq h.high c.grown.size⟩
theorem Rq.set {w W:World}{lo a:Nat}{d:Ls.D}{v:Value}(h:Rq w W lo a d v){g:Nat}(c:g<lo\/a<=g)(u:Value):Rq w (W.setCell ⟨g,0,none⟩ u) lo a d v:=
 ⟨h.rep.mono (fun _ h=>h) (fun q b=>Below.heap_setCell _ _ _ _ (by show q≠g;have:=b.1;have:=b.2;omega)),h.low,by simpa [World.setCell] using h.high⟩
theorem dQr {W:World}{g x:Nat}{v:Value}{p:Option Value}(a:g≠x)(h:W.cell? ⟨x,0,none⟩=p):(W.setCell ⟨g,0,none⟩ v).cell? ⟨x,0,none⟩=p:=(World.cell?_setCell_far _ _ _ _ a).trans h
theorem eXf {W:World}{g x:Nat}{v p:Value}{o:Obj}(a:g≠x)(h:Ce W x 0 p):((W.setCell ⟨g,0,none⟩ v).alloc o).cell? ⟨x,0,none⟩=some p:=
 (World.cell?_alloc_some _ _ _ (by rw[dQr a h];rfl)).trans (dQr a h)
theorem vQ1 {W:World}{r x y:Nat}{a b:Value}(c:r≠x)(d:r≠y){p q:Option Value}(e:W.cell? ⟨x,0,none⟩=p)(f:W.cell? ⟨y,0,none⟩=q) :
  ((W.setCell ⟨r,0,none⟩ a).setCell ⟨r,1,none⟩ b).cell? ⟨x,0,none⟩=p/\((W.setCell ⟨r,0,none⟩ a).setCell ⟨r,1,none⟩ b).cell? ⟨y,0,none⟩=q:=
 ⟨(World.cell?_setCell_far _ _ _ _ c).trans ((World.cell?_setCell_far _ _ _ _ c).trans e),(World.cell?_setCell_far _ _ _ _ d).trans ((World.cell?_setCell_far _ _ _ _ d).trans f)⟩
def bQp (w:World)(rb:Nat)(s:By)(i z:Nat)(sA sB:Value)(W:World):Prop:=
 ∃g h d j ty x ws k lo hi,sA=.pointer (some ⟨g,0,none⟩)/\sB=.pointer (some ⟨h,0,none⟩)/\fXj (pat (13-z)) (rest s (i+1))=some (d,rest s j)/\fX1 (rest s j)=some (ws,rest s k)/\i+1<=j/\j+ws.length<k/\k<=s.size/\
  Vr w W g (.iface ty x) 89/\Vr w W h (.string ⟨ws.toArray⟩) 9/\Inp w rb s k z W/\Rq w W lo hi d (.iface ty x)
section
variable {w W:World} {rb:Nat} {s:By} {i z j k lo hi:Nat} {d:Ls.D} {ty:TypeId} {x:Value} {ws:Lu}
theorem wQ0 (b:fXj (pat (13-z)) (rest s (i+1))=some (d,rest s j))(c:fX1 (rest s j)=some (ws,rest s k))(e:i+1<=j)(f:j+ws.length<k)(g:k<=s.size)(a:Inp w rb s k z W)(h:Rq w W lo hi d (.iface ty x)):bQp w rb s i z (Pt W.heap.size) (.pointer (some ⟨W.heap.size+1,0,none⟩)) ((W.alloc (.cells #[.iface ty x] 89)).alloc (.cells #[Sv ws] 9)):=
 ⟨_,_,d,j,ty,x,ws,k,lo,hi,rfl,rfl,b,c,e,f,g,(Vr.new a.size _ _).alloc _,Vr.new2 a.size _ _ _ _,a.below (C6 _ _ _),(h.alloc _).alloc _⟩
theorem wQ1 (b:fXj (pat (13-z)) (rest s (i+1))=some (d,rest s j))(c:fX1 (rest s j)=some (ws,rest s k))(e:i+1<=j)(f:j+ws.length<k)(g:k<=s.size)(a:Inp w rb s k z W)(h:Rq w W lo hi d (.iface ty x)):bQp w rb s i z (.pointer (some ⟨W.heap.size+1,0,none⟩)) (Pt W.heap.size) ((W.alloc (.cells #[Sv ws] 9)).alloc (.cells #[.iface ty x] 89)):=
 ⟨_,_,d,j,ty,x,ws,k,lo,hi,rfl,rfl,b,c,e,f,g,Vr.new2 a.size _ _ _ _,(Vr.new a.size _ _).alloc _,a.below (C6 _ _ _),(h.alloc _).alloc _⟩
theorem wQ2 (c:fXj (pat (13-z)) (rest s (i+1))=some (d,rest s j))(e:fX1 (rest s j)=some (ws,rest s k))(f:i+1<=j)(h:j+ws.length<k)(l:k<=s.size)(m:Inp w rb s k z W)(n:Rq w W lo hi d (.iface ty x)){g:Nat}{v:Value}(a:Vr w W g v 89)(o:g<lo\/hi<=g):bQp w rb s i z (Pt g) (Pt W.heap.size) ((W.setCell ⟨g,0,none⟩ (.iface ty x)).alloc (.cells #[Sv ws] 9)):=by
 have b:=m.set (u:=.iface ty x) a.2;have p:Vr w ((W.setCell ⟨g,0,none⟩ (.iface ty x)).alloc (.cells #[Sv ws] 9)) W.heap.size (Sv ws) 9:=by
  have:=Vr.new b.size (Sv ws) 9;simpa [World.setCell] using this
 exact⟨_,_,d,j,ty,x,ws,k,lo,hi,rfl,rfl,c,e,f,h,l,a.put.alloc _,p,b.below (A5 _ _),(n.set o _).alloc _⟩
theorem wQ3 (c:fXj (pat (13-z)) (rest s (i+1))=some (d,rest s j))(e:fX1 (rest s j)=some (ws,rest s k))(f:i+1<=j)(h:j+ws.length<k)(l:k<=s.size)(m:Inp w rb s k z W)(n:Rq w W lo hi d (.iface ty x)){g:Nat}{v:Value}(a:Vr w W g v 9)(o:g<lo\/hi<=g):bQp w rb s i z (Pt W.heap.size) (Pt g) ((W.setCell ⟨g,0,none⟩ (Sv ws)).alloc (.cells #[.iface ty x] 89)):=by
 have b:=m.set (u:=Sv ws) a.2;have p:Vr w ((W.setCell ⟨g,0,none⟩ (Sv ws)).alloc (.cells #[.iface ty x] 89)) W.heap.size (.iface ty x) 89:=by
  have:=Vr.new b.size (.iface ty x) 89;simpa [World.setCell] using this
 exact⟨_,_,d,j,ty,x,ws,k,lo,hi,rfl,rfl,c,e,f,h,l,p,a.put.alloc _,b.below (A5 _ _),(n.set o _).alloc _⟩
theorem wQ4 (e:fXj (pat (13-z)) (rest s (i+1))=some (d,rest s j))(f:fX1 (rest s j)=some (ws,rest s k))(l:i+1<=j)(m:j+ws.length<k)(n:k<=s.size)(o:Inp w rb s k z W)(p:Rq w W lo hi d (.iface ty x)){g h:Nat}{v u:Value}(a:Vr w W g v 89)(b:Vr w W h u 9)(c:g≠h)(q:g<lo\/hi<=g)(r:h<lo\/hi<=h):bQp w rb s i z (Pt g) (Pt h) ((W.setCell ⟨g,0,none⟩ (.iface ty x)).setCell ⟨h,0,none⟩ (Sv ws)):=
 ⟨_,_,d,j,ty,x,ws,k,lo,hi,rfl,rfl,e,f,l,m,n,a.put.set c,(b.set (Ne.symm c)).put,(o.set a.2).set b.2,(p.set q _).set r _⟩
end
section
variable {P:Lu->Rd} {s:By} {i:Nat}
theorem zQ1 (h:A7 s i 47=false):Q5 P (rest s i)=.none:=by
 unfold Q5;rw[if_neg (by rw[C4,h];simp)]
theorem wQx (h:A7 s i 47=true)(a:fXj P (rest s (i+1))=.none):Q5 P (rest s i)=.none:=by
 unfold Q5;rw[if_pos (C4.2 h),E7,a]
theorem wQy (h:A7 s i 47=true){d:Ls.D}{j:Nat}(a:fXj P (rest s (i+1))=some (d,rest s j))(b:fX1 (rest s j)=.none):Q5 P (rest s i)=.none:=by
 unfold Q5;rw[if_pos (C4.2 h),E7,a];dsimp only
 rw[b]
theorem wQz (h:A7 s i 47=true){d:Ls.D}{j:Nat}(b:fXj P (rest s (i+1))=some (d,rest s j)){a:Lu}{k:Nat}(c:fX1 (rest s j)=some (a,rest s k)):Q5 P (rest s i)=some (fXf d a,rest s k):=by
 unfold Q5;rw[if_pos (C4.2 h),E7,b];dsimp only
 rw[c]
end
theorem zQ2 (s:By)(hs:s.size<=120)(a1:Addr):dQu s a1:=by
 intro z a i w hz h hE hi;have d7:∀(fn:Fn) (first a7:Array Value) (w:World),(Instr.makeFunc fn first a7).run Tryz.prog w=.ok (.func fn first a7) w:=fun _ _ _ _=>rfl;have O:Hid _:=Inp.enter h;have HE:Hid _:=hE;cases K:A7 s i 47 with
 | false=>
  have HN:Hid (Q5 (pat (13-z)) (rest s i)=.none):=zQ1 K;have hC:=eQq a s i z 47 a1 _ O.out.lies (O.out.env hE) (by omega) (by omega) K;go_enter Tryz.func150,Tryz.ntmps150;go_wp2_with fail;refine hC.mono ?_;rintro e A ⟨rfl,Y⟩;go_wp2;exact⟨rfl,.inr ⟨HN.out,rfl,O.out.threw rfl Y⟩⟩
 | true=>
  have a0:Hid _:=K;have d5:=(D9 K).1;have hC:=eQr a s i z 47 _ O.out.lies (by omega) K;have e0:(I9 w a).heap.size=w.heap.size+1+1:=by simp
  go_enter Tryz.func150,Tryz.ntmps150;go_wp2_with fail;refine hC.mono ?_;clear hC;generalize I9 w a=W0 at *;rintro e A ⟨rfl,a8⟩;have V:=O.out.go a8;have b1:=V.cell;have S:=V.size;have a6:Hid (Inp w a s (i+1) z A):=V;have HP:Hid (∀W,Below A.heap.size A W->Calls Tryz.prog 166 #[D3 a] W fun e c=>
    (∃d j y x,fXj (pat (13-z)) (rest s (i+1))=some (d,rest s j)/\i+1<=j/\j<=s.size/\e=.returned (.iface y x)/\Inp w a s j z c/\Rq w c W.heap.size c.heap.size d (.iface y x)/\RLeft W a s j z c)\/
    (fXj (pat (13-z)) (rest s (i+1))=.none/\K6 w a a1 e c)):=by
   intro W hW;have t:=a6.out.below hW;have b5:=t.size;refine(mQk s (by omega) a1 z hz a (i+1) W t.lies (t.env HE.out) (by omega)).mono ?_;rintro e c (⟨d,j,v,N,I,Z,rfl,a9,hl⟩|⟨N,rfl,Y⟩)
   ·obtain⟨y,x,rfl⟩:=a9.iface
    exact .inl ⟨d,j,y,x,N,I,Z,rfl,t.go hl,⟨a9,b5,Nat.le_refl _⟩,hl⟩
   ·exact .inr ⟨N,rfl,t.threw rfl Y⟩
  have HW:Hid (∀W j,Inp w a s j z W->j<=s.size->Calls Tryz.prog 176 #[D3 a] W fun e c=>
    (∃m k,fX1 (rest s j)=some (m,rest s k)/\j+m.length<k/\k<=s.size/\e=.returned (.string ⟨m.toArray⟩)/\Inp w a s k z c/\RLeft W a s k z c)\/
    (fX1 (rest s j)=.none/\K6 w a a1 e c)):=by
   intro W j t Z;refine(mQv s (by omega) a1 z a j W t.lies (t.env HE.out) Z).mono ?_;rintro e c (⟨m,k,N,J,F,rfl,hl⟩|⟨N,rfl,Y⟩)
   ·exact .inl ⟨m,k,N,J,F,rfl,t.go hl,hl⟩
   ·exact .inr ⟨N,rfl,t.threw rfl Y⟩
  have b:=V.inn.old;clear V a8;go_upto_region 2 with (fail);go_cut [3,4] (fun sA sB wx=>bQp w a s i z sA sB wx)
  case first=>
   go_region_held (fun c=>c.cell? ⟨w.heap.size,0,none⟩=some (.pointer (some ⟨a,0,none⟩))) (first|assumption|(go_keep;done)|(refine dQr ?_ ?_<;>first|assumption|omega)|(refine dQr ?_ (dQr ?_ ?_)<;>first|assumption|omega)|(refine eXf ?_ ?_<;>first|assumption|omega))
    (first
     | (go_at_call 166;refine(HP.out _ ?_).mono ?_;(first|exact(Below.refl _ _).drew|exact(Below.refl _ _).drew.alloc (by simp) _|exact((Below.refl _ _).drew.alloc (by simp) _).alloc (by simp) _);rintro e r (⟨d,j,y,x,o,I,Z,rfl,X,a4,R⟩|⟨o,rfl,b7⟩);rotate_left;(go_wp2_with fail;exact⟨rfl,.inr ⟨wQx a0.out o,rfl,b7⟩⟩);have b2:=X.cell;have T:=X.size;(try have P:Vr w r A.heap.size (.nilIface) 89:=Vr.left b R (Vr.new S _ _));(try have P:Vr w r A.heap.size (.nilIface) 89:=Vr.left b R ((Vr.new S _ _).alloc _));(try have P:Vr w r (A.heap.size+1) (.nilIface) 89:=Vr.left b R (Vr.new2 S _ _ _ _));(try have Q:Vr w r A.heap.size (.string ⟨#[]⟩) 9:=Vr.left b R (Vr.new S _ _));(try have Q:Vr w r A.heap.size (.string ⟨#[]⟩) 9:=Vr.left b R ((Vr.new S _ _).alloc _));(try have Q:Vr w r (A.heap.size+1) (.string ⟨#[]⟩) 9:=Vr.left b R (Vr.new2 S _ _ _ _));(try obtain⟨c0,c8⟩:=P.one);(try obtain⟨c4,d1⟩:=Q.one);(try obtain⟨e2,e6,e4⟩:=P.lt);(try obtain⟨e3,e7,e5⟩:=Q.lt))
     | (go_at_call 176;refine(HW.out _ j ?_ Z).mono ?_;(first|exact X|exact X.below (A5 _ _)|exact X.below (C6 _ _ _));rintro e U (⟨m,k,u,J,F,rfl,L,n⟩|⟨u,rfl,b8⟩);rotate_left;(go_wp2_with fail;exact⟨rfl,.inr ⟨wQy a0.out o u,rfl,b8⟩⟩);have b3:=L.cell;have e1:=L.size;(try have E:=Rq.left b n a4);(try have E:=Rq.left b n (a4.alloc _));(try have E:=Rq.left b n ((a4.alloc _).alloc _));(try have B:=Vr.left b n P);(try have B:=Vr.left b n (P.alloc _));(try have B:Vr w U r.heap.size (.nilIface) 89:=Vr.left b n (Vr.new T _ _));(try have B:Vr w U r.heap.size (.nilIface) 89:=Vr.left b n ((Vr.new T _ _).alloc _));(try have B:Vr w U (r.heap.size+1) (.nilIface) 89:=Vr.left b n (Vr.new2 T _ _ _ _));(try have C:=Vr.left b n Q);(try have C:=Vr.left b n (Q.alloc _));(try have C:Vr w U r.heap.size (.string ⟨#[]⟩) 9:=Vr.left b n (Vr.new T _ _));(try have C:Vr w U r.heap.size (.string ⟨#[]⟩) 9:=Vr.left b n ((Vr.new T _ _).alloc _));(try have C:Vr w U (r.heap.size+1) (.string ⟨#[]⟩) 9:=Vr.left b n (Vr.new2 T _ _ _ _));(try obtain⟨c1,c9⟩:=B.one);(try obtain⟨c5,d2⟩:=C.one);(try obtain⟨c2,d0⟩:=(B.alloc (.cells #[.string ⟨#[]⟩] 9)).one);(try obtain⟨c6,d3⟩:=(C.alloc (.cells #[.nilIface] 89)).one);(try obtain⟨lA,nA,mA⟩:=B.lt);(try obtain⟨lB,nB,mB⟩:=C.lt)))
   all_goals
    have b9:=E.high
    (try simp only[World.size_alloc]at E)
    go_wp2_with fail;go_meet
    case rel=>
     first
      | exact wQ0 o u I J F L E
      | exact wQ1 o u I J F L E
      | (refine wQ2 o u I J F L E B ?_;first|omega|(simp;done)|(simp;omega))
      | (refine wQ3 o u I J F L E C ?_;first|omega|(simp;done)|(simp;omega))
      | (refine wQ4 o u I J F L E B C ?_ ?_ ?_<;>first|omega|(simp;done)|(simp;omega))
  case rest=>
   obtain⟨g,h,d,j,y,x,m,k,lo,hi,rfl,rfl,o,u,I,J,F,hA,hB,hI,hR⟩:=hcut;obtain⟨cA,fA⟩:=hA.one;obtain⟨cB,fB⟩:=hB.one;have b6:=nQm o;rw[F4,F4]at b6;have d6:=hR.low;have b9:=hR.high;have a2:Hid (Rep wc (fun q=>w.heap.size+1<q/\q<wc.heap.size) 0 d [.iface y x]):=hR.rep.mono (fun q M=>⟨by omega,by omega⟩) (fun _ _=>rfl);obtain⟨f,hm,d4,hf⟩:=cXm (d:=d) (by omega) (by omega) (w:=wc) (G:=fun q=>w.heap.size+1<q/\q<wc.heap.size) (fun q M=>M.2) a2.out;obtain⟨r0,r1,s0,s1⟩:=hI.res.two;have HN:Hid (Q5 (pat (13-z)) (rest s i)=some (fXf d m,rest s k)):=wQz a0.out o u;have HA:Hid (Vr w wc g (.iface y x) 89):=hA;have HB:Hid (Vr w wc h (.string ⟨m.toArray⟩) 9):=hB;have HI:Hid (Inp w a s k z wc):=hI;have HF:Hid (∀W,Below wc.heap.size wc W->Calls Tryz.prog f #[x] W fun e c=>e=.returned (.int .i64 (dsize d))/\Below wc.heap.size wc c):=hf;have d8:(ByteArray.mk m.toArray).size=m.length:=by simp[ByteArray.size]
   have d9:IntKind.i64.wrap ((dsize d:Int)+(m.length:Int))=((dsize d:Int)+(m.length:Int)):=by rw[IntKind.wrap_i64];omega
   have b0:=hA.2;have b4:=hB.2;clear hA hB hI hf o u hR HP HW a6 O;go_wp2_with fail;go_region_held (fun c=>c.cell? ⟨g,0,none⟩=some (.iface y x)/\c.cell? ⟨h,0,none⟩=some (.string ⟨m.toArray⟩)) (first|assumption|(go_keep;done)|(refine vQ1 ?_ ?_ ?_ ?_<;>first|assumption|omega))
    (first
     | (refine(HF.out _ ?_).mono ?_;exact(Below.refl _ _).drew;rintro e w5 ⟨rfl,H⟩;have c3:=(H.cell (p:=⟨g,0,none⟩) HA.out.1.lt).trans cA;have c7:=(H.cell (p:=⟨h,0,none⟩) HB.out.1.lt).trans cB;have a3:=HI.out.below H;obtain⟨r0,r1,s0,s1⟩:=a3.res.two))
   all_goals
    have HP:Hid (PlPost w a s i z a1 (Q5 (pat (13-z)) (rest s i)) (.returned (C5 (dsize d+m.length) (.func (.func 177) #[] #[.pointer (some ⟨g,0,none⟩),.pointer (some ⟨h,0,none⟩)]))) ((w5.setCell ⟨w.heap.size+1,0,none⟩ (.int .i64 ((dsize d:Int)+(m.length:Int)))).setCell ⟨w.heap.size+1,1,none⟩ (.func (.func 177) #[] #[.pointer (some ⟨g,0,none⟩),.pointer (some ⟨h,0,none⟩)]))):=by
     have a5:=H.size;have:=a3.ret (i:=i) (a1:=a1) (l:=fXf d m) (f:=177) (caps:=#[.pointer (some ⟨g,0,none⟩),.pointer (some ⟨h,0,none⟩)]) HN.out (by rw[hXt];omega) F (by
      unfold fXf;rw[PlanV];exact .inr (.inl ⟨rfl,g,h,.iface y x,⟨b0,Nat.lt_of_lt_of_le HA.out.1.lt a5⟩,⟨b4,Nat.lt_of_lt_of_le HB.out.1.lt a5⟩,rfl,HA.out.1.below H HA.out.1.lt,a2.out.mono (fun q M=>⟨M.1,Nat.lt_of_lt_of_le M.2 a5⟩) (fun q M=>H.block q M.2),HB.out.1.below H HB.out.1.lt⟩))
     rw[hXt,Int.natCast_add]at this;exact this
    clear a3 H HF a2;go_wp2_with fail;exact bodyPost_ret (v:=C5 (dsize d+m.length) (.func (.func 177) #[] #[.pointer (some ⟨g,0,none⟩),.pointer (some ⟨h,0,none⟩)])) (by simp[results,Tryz.results150,go_sem,r0,r1]) rfl HP.out
variable (s:By)(w:World)(a0 a1 a2 a3:Addr)
theorem aXh (hs:s.size<=120)(a:Nat)(h:RB w a s 0 0)(z:Env w a a1) :
    Calls Tryz.prog 77 #[Pt a] w (PlPost w a s 0 0 a1 (fXa 13 (rest s 0))):=by
  have p:Z8 s a1 0:=zQ3 hs (zQ2 s hs a1) 12 (Nat.le_refl _);have C:=h.lt;have d:=A5 w (.cells #[Iv (0:Nat),.nilFunc] 130);have t:Blk (w.alloc (.cells #[Iv (0:Nat),.nilFunc] 130)) w.heap.size #[Iv (0:Nat),.nilFunc] 130:=Blk.new w _ _;have o:Ca 104 #[D3 a] _ _:=p a 0 _ (h.below d) (z.below d) (Nat.zero_le _);have H:(w.alloc (.cells #[Iv (0:Nat),.nilFunc] 130)).heap.size=w.heap.size+1:=by simp
  have y:Hid (Blk (w.alloc (.cells #[Iv (0:Nat),.nilFunc] 130)) w.heap.size #[Iv (0:Nat),.nilFunc] 130):=t;have n:Hid (RLeft w a s 0 0 (w.alloc (.cells #[Iv (0:Nat),.nilFunc] 130))):=RLeft.of_below h d;clear p t d h;go_enter Tryz.func77,Tryz.ntmps77;go_wp2_with fail;refine o.mono ?_;clear o;generalize w.alloc (.cells #[Iv (0:Nat),.nilFunc] 130)=G at *;rintro e x (⟨l,j,f,c,b,A,B,rfl,r,i⟩|⟨b,rfl,q⟩)
  · have I:=i.grown.size
    have u:=y.out.of (i.grown.block _ (by omega) (by simp;omega));obtain⟨E,F,J,s1⟩:=u.two;have m:Hid (PlPost w a s 0 0 a1 (fXa 13 (rest s 0)) (.returned (C5 (eX7 l) (.func (.func f) #[] c))) ((x.setCell ⟨w.heap.size,0,none⟩ (Iv (eX7 l))).setCell ⟨w.heap.size,1,none⟩ (.func (.func f) #[] c))):=
      .inl ⟨l,j,f,c,b,A,B,rfl,PlanV.mono (fun k g=>⟨by have:=g.1;omega,by rw[X4];exact g.2⟩) (fun k g=>L9 _ _ _ _ _ (by have:=g.1;omega)) _ _ r,(n.out.trans i).res2 (Nat.le_refl _) C _ _⟩
    clear u r i b;go_wp2_with fail;exact bodyPost_ret (v:=C5 (eX7 l) (.func (.func f) #[] c)) (by simp[results,Tryz.results77,go_sem,E,F]) rfl m.out
  · have m:Hid (PlPost w a s 0 0 a1 (fXa 13 (rest s 0)) (.panicked [{v:=C9 a1,recovered:=false}]) x):=.inr ⟨b,rfl,J8 n.out.grown q⟩
    clear b q;go_wp2_with fail;exact⟨rfl,m.out⟩
structure BoxP (w:World)(H B:Nat)(s:By):Prop where
  text:Blk w H #[.string s] 9
  read:Blk w (H+1) #[.func (.func 77) #[] #[]] 133
  whole:Blk w B #[.int .i64 (0:Nat),.nilFunc] 130
def oQx (s:By)(a1:Addr)(w w0:World)(B:Nat):Ending->World->Prop:=fun e w'=>
  (∀k,k<w0.heap.size->k≠B->w'.heap[k]?=w0.heap[k]?)/\Bw w w'/\w0.heap.size<=w'.heap.size/\
  ((∃l f caps,E6 s.data.toList=some l/\OkL 120 l/\cn l<=30000/\e=.returned (.tuple #[])/\Blk w' B #[.int .i64 (eX7 l),.func (.func f) #[] caps] 130/\PlanV w' (fun k=>w0.heap.size<=k/\k<w'.heap.size) l (.func (.func f) #[] caps))\/
   (E6 s.data.toList=.none/\e=.panicked [{v:=C9 a1,recovered:=false}]))
theorem eXh (hs:s.size<=120)(a:World)(H B:Nat)(hH:w.heap.size<=H)(hB:H+1<B)(x:Bw w a)(h:BoxP a H B s)(M:Ce w 3 0 (C9 a1)) :
    Calls Tryz.prog 101 #[Pt H,.pointer (some ⟨H+1,0,none⟩),Pt B] a (oQx s a1 w a B):=by
  have a7:∀(v:Value) w,(callFunc 77 #[v]).run Tryz.prog w=.ok (.enter 77 #[v]) w:=fun v w=>by kernel_rfl
  have a3:3<w.heap.size:=World.block_lt_of_cell? w _ M;obtain⟨t0,t1⟩:=h.text.one;obtain⟨f0,f1⟩:=h.read.one;have b5:=h.whole.lt;have b2:=x.size;have n:=A5 a (.cells #[.string s,Iv (0:Nat),Iv (0:Nat)] 164);have R:RB (a.alloc (.cells #[.string s,Iv (0:Nat),Iv (0:Nat)] 164)) a.heap.size s 0 0:=heap_alloc_new _ _;have a2:=(x.cell (p:=⟨3,0,none⟩) a3).trans M;have C:Env (a.alloc (.cells #[.string s,Iv (0:Nat),Iv (0:Nat)] 164)) a.heap.size a1:=⟨(n.cell (p:=⟨3,0,none⟩) (by show 3<a.heap.size;omega)).trans a2,by omega⟩;have J:=aXh s _ a1 hs a.heap.size R C;have N:=h.read.below n h.read.lt;obtain⟨u0,u1⟩:=N.one;have S:=h.whole.below n h.whole.lt;have b3:(a.alloc (.cells #[.string s,Iv (0:Nat),Iv (0:Nat)] 164)).heap.size=a.heap.size+1:=by simp
  have F:Hid (Bw a (a.alloc (.cells #[.string s,Iv (0:Nat),Iv (0:Nat)] 164))):=n;have Y:Hid (Blk (a.alloc (.cells #[.string s,Iv (0:Nat),Iv (0:Nat)] 164)) B #[Iv (0:Nat),.nilFunc] 130):=S;have V:Hid (Env (a.alloc (.cells #[.string s,Iv (0:Nat),Iv (0:Nat)] 164)) a.heap.size a1):=C;have b0:H+1<a.heap.size:=by omega
  have b1:¬H+1=a.heap.size:=by omega
  clear R n N S C u1 h;go_enter Tryz.func101,Tryz.ntmps101;go_wp2_with fail;generalize a.alloc (.cells #[.string s,Iv (0:Nat),Iv (0:Nat)] 164)=W1 at *;refine J.mono ?_;clear J;rintro e c (⟨l,j,f,d,r,a9,hj,rfl,P,o⟩|⟨r,rfl,hg⟩)
  · have u:Hid (fXa 13 (rest s 0)=some (l,rest s j)):=r
    have b4:=o.grown.size;have E:=Y.out.of (o.grown.block _ (by omega) (by simp;omega));obtain⟨q0,q1,q2,q3⟩:=E.two;have m:Bw a c:=F.out.grown o.grown (by omega) (fun k b=>by cases b;omega);have y:RB ((c.setCell ⟨B,0,none⟩ (Iv (eX7 l))).setCell ⟨B,1,none⟩ (.func (.func f) #[] d)) a.heap.size s j 0:=by
      have:=o.lies;unfold RB at this ⊢;rw[L9 _ _ _ _ _ (by omega)];exact this
    have K:((c.setCell ⟨B,0,none⟩ (Iv (eX7 l))).setCell ⟨B,1,none⟩ (.func (.func f) #[] d)).cell? ⟨3,0,none⟩=some (C9 a1):=by
      rw[World.cell?_setCell_far _ _ _ _ (by show B≠3;omega),World.cell?_setCell_far _ _ _ _ (by show B≠3;omega)];exact(V.out.grown o.grown).sc
    have T:Blk ((c.setCell ⟨B,0,none⟩ (Iv (eX7 l))).setCell ⟨B,1,none⟩ (.func (.func f) #[] d)) B #[Iv (eX7 l),.func (.func f) #[] d] 130:=by
      have:=E;unfold Blk at this ⊢;simp[World.setCell,Array.getElem?_modify,this]
    have L:Bw w ((c.setCell ⟨B,0,none⟩ (Iv (eX7 l))).setCell ⟨B,1,none⟩ (.func (.func f) #[] d)):=aQd (Bj x m) (by omega) _ _;have O:∀k,k<a.heap.size->k≠B->((c.setCell ⟨B,0,none⟩ (Iv (eX7 l))).setCell ⟨B,1,none⟩ (.func (.func f) #[] d)).heap[k]?=a.heap[k]?:=fun k b q=>by
      rw[L9 _ _ _ _ _ q];exact m.block k b
    have Q:PlanV ((c.setCell ⟨B,0,none⟩ (Iv (eX7 l))).setCell ⟨B,1,none⟩ (.func (.func f) #[] d)) (fun k=>a.heap.size<k/\k<c.heap.size) l (.func (.func f) #[] d):=PlanV.mono (fun k b=>⟨by have:=b.1;omega,b.2⟩) (fun k b=>L9 _ _ _ _ _ (by have:=b.1;omega)) _ _ P;have z:((c.setCell ⟨B,0,none⟩ (Iv (eX7 l))).setCell ⟨B,1,none⟩ (.func (.func f) #[] d)).heap.size=c.heap.size:=X4 _ _ _ _;have t:Hid (Bw w ((c.setCell ⟨B,0,none⟩ (Iv (eX7 l))).setCell ⟨B,1,none⟩ (.func (.func f) #[] d))):=L;have G:Hid (∀k,k<a.heap.size->k≠B->((c.setCell ⟨B,0,none⟩ (Iv (eX7 l))).setCell ⟨B,1,none⟩ (.func (.func f) #[] d)).heap[k]?=a.heap[k]?):=O;have X:Hid (PlanV ((c.setCell ⟨B,0,none⟩ (Iv (eX7 l))).setCell ⟨B,1,none⟩ (.func (.func f) #[] d)) (fun k=>a.heap.size<k/\k<c.heap.size) l (.func (.func f) #[] d)):=Q;have Z:Hid (Blk ((c.setCell ⟨B,0,none⟩ (Iv (eX7 l))).setCell ⟨B,1,none⟩ (.func (.func f) #[] d)) B #[Iv (eX7 l),.func (.func f) #[] d] 130):=T;have W:Hid (((c.setCell ⟨B,0,none⟩ (Iv (eX7 l))).setCell ⟨B,1,none⟩ (.func (.func f) #[] d)).cell? ⟨3,0,none⟩=some (C9 a1)):=K;have I:Hid (((c.setCell ⟨B,0,none⟩ (Iv (eX7 l))).setCell ⟨B,1,none⟩ (.func (.func f) #[] d)).heap.size=c.heap.size):=z;clear r P Q L O E T K m z;rcases Nat.lt_or_ge j s.size with a5|a8
    · have i:Hid (E6 s.data.toList=.none):=mQn u.out a5
      have A:=bQ3 a.heap.size s j 0 _ y (by omega) (by omega) false (by simp;omega);clear y;go_wp2_with fail;generalize (c.setCell ⟨B,0,none⟩ (Iv (eX7 l))).setCell ⟨B,1,none⟩ (.func (.func f) #[] d)=W2 at *;refine A.mono ?_;rintro e U ⟨rfl,g⟩;have a0:Ce U 3 0 (C9 a1):=g.grown.cell W.out (by simp;omega);have a6:=g.grown.size;have z:=I.out;go_wp2_with fail;refine(V7 _ a1 _ a0).mono ?_;rintro e w4 ⟨rfl,rfl⟩;go_wp2_with fail;refine⟨rfl,fun k b q=>?_,t.out.grown g.grown (by have:=t.out.size;omega) (fun k b=>by cases b;omega),by omega,.inr ⟨i.out,rfl⟩⟩;rw[g.grown.block k (by omega) (by simp;omega)];exact G.out k b q
    · have a4:j=s.size:=by omega
      subst a4;have i:Hid (E6 s.data.toList=some l/\OkL 120 l/\cn l<=30000):=⟨mQp u.out,mXa u.out (by rw[F4];omega),by have:=lQa 13 _ _ _ u.out;have h0:=F4 s 0;omega⟩;have A:=bQ3 a.heap.size s s.size 0 _ y (by omega) (by omega) true (by simp);clear y;go_wp2_with fail;generalize (c.setCell ⟨B,0,none⟩ (Iv (eX7 l))).setCell ⟨B,1,none⟩ (.func (.func f) #[] d)=W2 at *;refine A.mono ?_;rintro e U ⟨rfl,g⟩;have a6:=g.grown.size;have z:=I.out;go_wp2_with fail;go_end0;refine⟨fun k b q=>?_,t.out.grown g.grown (by have:=t.out.size;omega) (fun k b=>by cases b;omega),by omega,.inl ⟨l,f,d,i.out.1,i.out.2.1,i.out.2.2,rfl,?_,?_⟩⟩
      · rw[g.grown.block k (by omega) (by simp;omega)]
        exact G.out k b q
      · exact Z.out.of (g.grown.block _ (by omega) (by simp;omega))
      · exact PlanV.mono (fun k b=>⟨Nat.le_of_lt b.1,by have:=b.2;omega⟩) (fun k b=>g.grown.block k (by have:=b.2;omega) (by have:=b.1;simp;omega)) _ _ X.out
  · have i:Hid (E6 s.data.toList=.none):=mQo r
    have m:Bw a c:=F.out.grown hg (by omega) (fun k b=>by cases b;omega);clear r;go_wp2_with fail;exact⟨rfl,fun k b _=>m.block k b,Bj x m,m.size,.inr ⟨i.out,rfl⟩⟩
def aQ9 (s:By)(a0 a1 a2 a3:Addr)(w:World):Ending->World->Prop:=fun e w'=>Bw w w'/\
  ((∃l f caps,s.data.toList.length<=120/\E6 s.data.toList=some l/\OkL 120 l/\cn l<=30000/\eX7 l<=24/\e=.returned (.tuple #[C5 (eX7 l) (.func (.func f) #[] caps),.nilIface])/\PlanV w' (B8 w w') l (.func (.func f) #[] caps))\/
   (∃r,(r=1\/r=2\/r=3)/\CompIs s.data.toList r/\e=.returned (.tuple #[C5 0 .nilFunc,C9 (bQ6 a0 a1 a2 a3 r)])))
abbrev hQ1:Obj:=.cells #[.int .i64 0,.nilFunc] 130
structure FourV (w W:World)(s:By):Prop where
  text:Blk W w.heap.size #[.string s] 9
  read:Blk W (w.heap.size+1) #[.func (.func 77) #[] #[]] 133
  res:Blk W (w.heap.size+1+1) #[.int .i64 0,.nilFunc] 130
  non:Blk W (w.heap.size+1+1+1) #[.int .i64 0,.nilFunc] 130
abbrev eXg (w:World)(s:By):World:=(((w.alloc (.cells #[.string s] 9)).alloc (.cells #[.func (.func 77) #[] #[]] 133)).alloc hQ1).alloc hQ1
theorem FourV.start (s:By):FourV w (eXg w s) s:=by
  have a:∀(W:World) (o:Obj) {g:Nat} {b:Array Value} {T:TypeId},Blk W g b T->Blk (W.alloc o) g b T:=fun W o _ _ _ h=>h.of (Below.heap_alloc _ _ _ h.lt);refine⟨a _ _ (a _ _ (a _ _ (Blk.new w _ _))),a _ _ (a _ _ ?_),a _ _ ?_,?_⟩
  · have:=Blk.new (w.alloc (.cells #[.string s] 9)) #[.func (.func 77) #[] #[]] 133
    rw[World.size_alloc]at this;exact this
  · have:=Blk.new ((w.alloc (.cells #[.string s] 9)).alloc (.cells #[.func (.func 77) #[] #[]] 133)) #[Iv 0,.nilFunc] 130
    rw[World.size_alloc,World.size_alloc]at this;exact this
  · have:=Blk.new (((w.alloc (.cells #[.string s] 9)).alloc (.cells #[.func (.func 77) #[] #[]] 133)).alloc hQ1) #[Iv 0,.nilFunc] 130
    rw[World.size_alloc,World.size_alloc,World.size_alloc]at this;exact this
theorem FourV.of {w W b:World}{s:By}(h:FourV w W s)(a:∀k,w.heap.size<=k->k<w.heap.size+1+1+1+1->b.heap[k]?=W.heap[k]?):FourV w b s:=
  ⟨h.text.of (a _ (by omega) (by omega)),h.read.of (a _ (by omega) (by omega)),h.res.of (a _ (by omega) (by omega)),h.non.of (a _ (by omega) (by omega))⟩
theorem zQ0 (n f:Nat)(a:Array Value):Calls Tryz.prog 232 #[.agg #[Iv n,.func (.func f) #[] a]] w fun e d=>e=.returned (Iv n)/\Bw w d:=by
  have c:=A5 w (.cells #[Iv n,.func (.func f) #[] a] 130);have b:Blk (w.alloc (.cells #[Iv n,.func (.func f) #[] a] 130)) w.heap.size #[Iv n,.func (.func f) #[] a] 130:=Blk.new w _ _;obtain⟨g,h,i,s1⟩:=b.two;clear b;go_enter Tryz.func232,Tryz.ntmps232;go_wp2_with fail;go_ret;exact⟨rfl,c⟩
theorem eQ4:s.data.toList.length=s.size:=by simp
theorem eXj (hs:120<s.size)(m:s.size<=1048576)(a:Sent w a0 a1 a2 a3) :
    Calls Tryz.prog 76 #[.string s,.func (.func 77) #[] #[]] w (aQ9 s a0 a1 a2 a3 w):=by
  have k:(120:Int)<(s.size:Int):=by omega
  have d:Below w.heap.size w ((((w.alloc (.cells #[.string s] 9)).alloc (.cells #[.func (.func 77) #[] #[]] 133)).alloc (.cells #[.int .i64 0,.nilFunc] 130)).alloc (.cells #[.int .i64 0,.nilFunc] 130)):=bQx _ _ _ _ _;have b:FourV w ((((w.alloc (.cells #[.string s] 9)).alloc (.cells #[.func (.func 77) #[] #[]] 133)).alloc (.cells #[.int .i64 0,.nilFunc] 130)).alloc (.cells #[.int .i64 0,.nilFunc] 130)) s:=FourV.start w s;have j:=(a.below d).c0;have l:0<w.heap.size:=World.block_lt_of_cell? w _ a.c0;have e:Hid (CompIs s.data.toList 1):=.inl ⟨by rw[eQ4];exact hs,rfl⟩;clear a;go_enter Tryz.func76,Tryz.ntmps76;go_upto_region 3 with (fail);generalize ((((w.alloc (.cells #[.string s] 9)).alloc (.cells #[.func (.func 77) #[] #[]] 133)).alloc (.cells #[.int .i64 0,.nilFunc] 130)).alloc (.cells #[.int .i64 0,.nilFunc] 130))=g at *;obtain⟨h,i,r,s1⟩:=b.res.two;obtain⟨p,q,n,o⟩:=b.non.two;have f:Hid (aQ9 s a0 a1 a2 a3 w (.returned (.tuple #[.agg #[.int .i64 0,.nilFunc],C9 a0])) ((g.setCell ⟨w.heap.size+1+1,0,none⟩ (.int .i64 0)).setCell ⟨w.heap.size+1+1,1,none⟩ .nilFunc).drew):=
    ⟨(aQd d (by omega) _ _).drew,.inr ⟨1,.inl rfl,e.out,rfl⟩⟩
  clear b;go_region_held (fun c=>c.cell? ⟨0,0,none⟩=some (C9 a0)/\c.cell? ⟨w.heap.size+1+1+1,0,none⟩=some (.int .i64 0)/\c.cell? ⟨w.heap.size+1+1+1,1,none⟩=some .nilFunc) (first|assumption|(go_keep;done)|(refine eQ0 ?_ ?_ ?_ ?_ ?_<;>first|assumption|omega)) (fail)
  all_goals
    go_wp2_with fail;exact bodyPost_ret (v:=.tuple #[.agg #[.int .i64 0,.nilFunc],C9 a0]) (by simp[results,Tryz.results76,go_sem,h,i]) rfl f.out
theorem eXk (hs:s.size<=120)(Y:Sent w a0 a1 a2 a3) :
    Calls Tryz.prog 76 #[.string s,.func (.func 77) #[] #[]] w (aQ9 s a0 a1 a2 a3 w):=by
  have c6:∀(X:Fn) (first W:Array Value) (w:World),(Instr.makeFunc X first W).run Tryz.prog w=.ok (.func X first W) w:=fun _ _ _ _=>rfl;have hd:¬(120:Int)<(s.size:Int):=by omega
  have c7:∀w,(binOp .neq 80 (C9 a1) .nilIface).run Tryz.prog w=.ok (.bool true) w:=fun w=>by kernel_rfl
  have c8:∀w,(binOp .neq 80 .nilIface .nilIface).run Tryz.prog w=.ok (.bool false) w:=fun w=>by kernel_rfl
  have b8:Below w.heap.size w ((((w.alloc (.cells #[.string s] 9)).alloc (.cells #[.func (.func 77) #[] #[]] 133)).alloc (.cells #[.int .i64 0,.nilFunc] 130)).alloc (.cells #[.int .i64 0,.nilFunc] 130)):=bQx _ _ _ _ _;have P:FourV w ((((w.alloc (.cells #[.string s] 9)).alloc (.cells #[.func (.func 77) #[] #[]] 133)).alloc (.cells #[.int .i64 0,.nilFunc] 130)).alloc (.cells #[.int .i64 0,.nilFunc] 130)) s:=FourV.start w s;have t:Hid (((((w.alloc (.cells #[.string s] 9)).alloc (.cells #[.func (.func 77) #[] #[]] 133)).alloc (.cells #[.int .i64 0,.nilFunc] 130)).alloc (.cells #[.int .i64 0,.nilFunc] 130)).heap.size=w.heap.size+1+1+1+1):=by show _=_;simp
  have K:Hid (Sent w a0 a1 a2 a3):=Y;clear Y;go_enter Tryz.func76,Tryz.ntmps76;go_upto_region 4 with (fail);generalize ((((w.alloc (.cells #[.string s] 9)).alloc (.cells #[.func (.func 77) #[] #[]] 133)).alloc (.cells #[.int .i64 0,.nilFunc] 130)).alloc (.cells #[.int .i64 0,.nilFunc] 130))=c at *;obtain⟨C,E,A,B⟩:=P.non.two;have R:Blk (c.alloc (.cells #[.int .i64 0,.nilFunc] 130)) c.heap.size #[.int .i64 0,.nilFunc] 130:=Blk.new c _ _;obtain⟨p0,p1,p2,p3⟩:=R.two;have Z:=A5 c (.cells #[.int .i64 0,.nilFunc] 130);have b1:FourV w (c.alloc (.cells #[.int .i64 0,.nilFunc] 130)) s:=P.of (fun k _ b=>Z.block k (by have:=t.out;omega));have N:=Bj b8 Z;have u:Hid ((c.alloc (.cells #[.int .i64 0,.nilFunc] 130)).heap.size=c.heap.size+1):=by show _=_;simp
  have m:Hid (FourV w (c.alloc (.cells #[.int .i64 0,.nilFunc] 130)) s):=b1;have V:Hid (Blk (c.alloc (.cells #[.int .i64 0,.nilFunc] 130)) c.heap.size #[.int .i64 0,.nilFunc] 130):=R;clear P b1 R;go_wp2_with fail;generalize c.alloc (.cells #[.int .i64 0,.nilFunc] 130)=a at *;have n:=A5 a (.cells #[.nilIface] 80);have c0:(a.alloc (.cells #[.nilIface] 80)).heap[a.heap.size]?=some (.cells #[.nilIface] 80 (0,0)):=heap_alloc_new _ _;have c9:(a.alloc (.cells #[.nilIface] 80)).heap.size=a.heap.size+1:=by simp
  have a7:=eXh s w a1 hs (a.alloc (.cells #[.nilIface] 80)) w.heap.size c.heap.size (Nat.le_refl _) (by have:=t.out;omega) (Bj N n) ⟨m.out.text.below n m.out.text.lt,m.out.read.below n m.out.read.lt,V.out.below n V.out.lt⟩ K.out.c1;have a4:=jQl 101 _ (fun w=>by kernel_rfl) a _ a7 (fun e I H=>⟨by rw[H.1 _ (by omega) (by have:=u.out;omega)];exact c0,by
    rcases H.2.2.2 with⟨l,f,d,_,_,_,h,_⟩|⟨_,h⟩
    · exact .inl h
    · exact .inr ⟨a1,h⟩⟩)
  clear a7 p0 p1 p2 p3 C E A B;refine a4.mono ?_;clear a4;rintro e j ⟨e1,g,H,a5⟩;obtain⟨b,G,b4,c4⟩:=H;rcases c4 with⟨l,f,d,z,a8,a6,rfl,b2,b0⟩|⟨z,rfl⟩
  · rcases a5 with⟨_,rfl,rfl⟩|⟨b6,h,_⟩
    rotate_left
    · cases h
    have Q:Blk (g.setCell ⟨a.heap.size,0,none⟩ .nilIface) c.heap.size #[.int .i64 (eX7 l),.func (.func f) #[] d] 130:=b2.of (Below.heap_setCell _ _ _ _ (by show c.heap.size≠a.heap.size;have:=u.out;omega));have i:FourV w (g.setCell ⟨a.heap.size,0,none⟩ .nilIface) s:=m.out.of (fun k _ c3=>by
      have h4:=t.out;have h5:=u.out;rw[Below.heap_setCell _ _ _ _ (by show k≠a.heap.size;omega),b k (by omega) (by omega)];exact n.block k (by omega))
    have L:Below w.heap.size w (g.setCell ⟨a.heap.size,0,none⟩ .nilIface):=G.setCell (p:=⟨a.heap.size,0,none⟩) (by show w.heap.size<=a.heap.size;exact N.size) _;have a9:PlanV (g.setCell ⟨a.heap.size,0,none⟩ .nilIface) (fun k=>w.heap.size+1+1<k/\k<(g.setCell ⟨a.heap.size,0,none⟩ .nilIface).heap.size) l (.func (.func f) #[] d):=PlanV.mono (fun k b=>⟨by have:=b.1;have:=t.out;have:=u.out;omega,by have:=b.2;simp[World.setCell];exact this⟩) (fun k b=>Below.heap_setCell _ _ _ _ (by show k≠a.heap.size;have:=b.1;omega)) _ _ b0;have F:Hid (E6 s.data.toList=some l/\OkL 120 l/\cn l<=30000):=⟨z,a8,a6⟩;clear b G b4 b2 b0 z a8 a6;generalize g.setCell ⟨a.heap.size,0,none⟩ .nilIface=j at *;obtain⟨q0,q1,q2,q3⟩:=Q.two;obtain⟨o,q,S,s1⟩:=i.res.two;obtain⟨C,E,A,B⟩:=i.non.two;have b5:Hid (PlanV j (fun k=>w.heap.size+1+1<k/\k<j.heap.size) l (.func (.func f) #[] d)):=a9;have U:Hid (Blk j c.heap.size #[.int .i64 (eX7 l),.func (.func f) #[] d] 130):=Q;have T:Hid (FourV w j s):=i;clear a9 Q i;go_wp2_with fail;refine(zQ0 j (eX7 l) f d).mono ?_;rintro e w3 ⟨rfl,y⟩;have M:=Bj L y;have O:=T.out.of (fun k _ b=>y.block k (Nat.lt_of_lt_of_le b (by have:=T.out.non.lt;omega)));have b3:=U.out.below y U.out.lt;clear q0 q1 q2 q3 o q S s1 C E A B;obtain⟨q0,q1,q2,q3⟩:=b3.two;obtain⟨o,q,S,s1⟩:=O.res.two;obtain⟨C,E,A,B⟩:=O.non.two;have c2:=(K.out.below M).c2;have c5:1<w.heap.size:=World.block_lt_of_cell? w _ K.out.c2;clear b3 O
    by_cases b7:24<eX7 l
    · have b9:(24:Int)<(eX7 l:Int):=by omega
      have J:Hid (CompIs s.data.toList 3):=.inr ⟨by rw[eQ4];exact hs,.inr ⟨l,F.out.1,.inl ⟨b7,rfl⟩⟩⟩;have r:Hid (aQ9 s a0 a1 a2 a3 w (.returned (.tuple #[.agg #[.int .i64 0,.nilFunc],C9 a2])) ((w3.setCell ⟨w.heap.size+1+1,0,none⟩ (.int .i64 0)).setCell ⟨w.heap.size+1+1,1,none⟩ .nilFunc).drew):=
        ⟨(aQd M (by omega) _ _).drew,.inr ⟨3,.inr (.inr rfl),J.out,rfl⟩⟩
      go_wp2_with fail;go_region_held (fun I=>I.cell? ⟨1,0,none⟩=some (C9 a2)/\I.cell? ⟨w.heap.size+1+1+1,0,none⟩=some (.int .i64 0)/\I.cell? ⟨w.heap.size+1+1+1,1,none⟩=some .nilFunc) (first|assumption|(go_keep;done)|(refine eQ0 ?_ ?_ ?_ ?_ ?_<;>first|assumption|omega)) (fail)
      all_goals
        go_wp2_with fail;exact bodyPost_ret (v:=.tuple #[.agg #[.int .i64 0,.nilFunc],C9 a2]) (by simp[results,Tryz.results76,go_sem,o,q]) rfl r.out
    · have b9:¬(24:Int)<(eX7 l:Int):=by omega
      have r:Hid (aQ9 s a0 a1 a2 a3 w (.returned (.tuple #[C5 (eX7 l) (.func (.func f) #[] d),.nilIface])) ((w3.setCell ⟨w.heap.size+1+1,0,none⟩ (.int .i64 (eX7 l))).setCell ⟨w.heap.size+1+1,1,none⟩ (.func (.func f) #[] d))):=by
        refine⟨aQd M (by omega) _ _,.inl ⟨l,f,d,by rw[eQ4];exact hs,F.out.1,F.out.2.1,F.out.2.2,by omega,rfl,PlanV.mono (fun k b=>⟨by have:=b.1;omega,by rw[X4];exact Nat.lt_of_lt_of_le b.2 y.size⟩) (fun k b=>?_) _ _ b5.out⟩⟩;rw[L9 _ _ _ _ _ (by have:=b.1;omega)];exact y.block k b.2
      go_wp2_with fail;exact bodyPost_ret (v:=.tuple #[C5 (eX7 l) (.func (.func f) #[] d),.nilIface]) (by simp[results,Tryz.results76,go_sem,o,q]) rfl r.out
  · rcases a5 with⟨h,_⟩|⟨b6,h,rfl,rfl⟩
    · cases h
    injection h with h;injection h with h;injection h with h;injection h with h x;injection x with x;injection x with x;subst x;have J:Hid (CompIs s.data.toList 2):=.inr ⟨by rw[eQ4];exact hs,.inl ⟨z,rfl⟩⟩;have i:FourV w (g.setCell ⟨a.heap.size,0,none⟩ (C9 a1)) s:=m.out.of (fun k _ c3=>by
      have h4:=t.out;have h5:=u.out;rw[Below.heap_setCell _ _ _ _ (by show k≠a.heap.size;omega),b k (by omega) (by omega)];exact n.block k (by omega))
    have L:Below w.heap.size w (g.setCell ⟨a.heap.size,0,none⟩ (C9 a1)):=G.setCell (p:=⟨a.heap.size,0,none⟩) (by show w.heap.size<=a.heap.size;exact N.size) _;clear b G b4 z;generalize g.setCell ⟨a.heap.size,0,none⟩ (C9 a1)=j at *;obtain⟨o,q,S,s1⟩:=i.res.two;obtain⟨C,E,A,B⟩:=i.non.two;clear i;have r:Hid (aQ9 s a0 a1 a2 a3 w (.returned (.tuple #[.agg #[.int .i64 0,.nilFunc],C9 a1])) ((j.setCell ⟨w.heap.size+1+1,0,none⟩ (.int .i64 0)).setCell ⟨w.heap.size+1+1,1,none⟩ .nilFunc)):=
      ⟨aQd L (by omega) _ _,.inr ⟨2,.inr (.inl rfl),J.out,rfl⟩⟩
    go_wp2_with fail;exact bodyPost_ret (v:=.tuple #[.agg #[.int .i64 0,.nilFunc],C9 a1]) (by simp[results,Tryz.results76,go_sem,o,q]) rfl r.out
theorem eXi (hs:s.size<=1048576)(a:Sent w a0 a1 a2 a3) :
    Calls Tryz.prog 76 #[.string s,.func (.func 77) #[] #[]] w (aQ9 s a0 a1 a2 a3 w):=by
  by_cases h:120<s.size
  · exact eXj s w a0 a1 a2 a3 h hs a
  · exact eXk s w a0 a1 a2 a3 (by omega) a
end Go.Proofs.YtfklinjaajafgaaGreatDoor
