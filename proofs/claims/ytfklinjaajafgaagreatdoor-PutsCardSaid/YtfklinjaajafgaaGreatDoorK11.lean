import Derived.Test.YtfklinjaajafgaaGreatDoorK09
set_option maxRecDepth 100000
set_option maxHeartbeats 4000000
namespace Go.Proofs.YtfklinjaajafgaaGreatDoor
open Ls hiding none
open Go.RowKit
def Q5 (P:Lu->Rd)(r:Lu):Rl:=
 if r.head?=some 47 then
  match fXj P r.tail with
  | .none=>.none
  | some (d,u)=>
   match fX1 u with
   | .none=>.none
   | some (ws,v)=>some (fXf d ws,v)
 else .none
theorem cXm {d:Ls.D}(hd:dn d<=1048577)(hs:dsize d<=1048576){w:World}{G:Nat->Prop}(hG:Old w G){ty:TypeId}{x:Value}(h:Rep w G 0 d [.iface ty x]) :
  ∃ f, (∀ w, (Go.method 385 ty x "Size").run Tryz.prog w = .ok (f, x) w) /\ (∀ w, (callFunc f #[x]).run Tryz.prog w = .ok (.enter f #[x]) w) /\ ∀ W, Bw w W -> Calls Tryz.prog f #[x] W fun e w' => e = .returned (Iv (dsize d)) /\ Bw w w' := by
 obtain⟨f,hm,hcf,hf⟩:=iQj (dn d) d (Nat.le_refl _) hd hs w G ty x hG h;refine⟨f,hm,hcf,fun W hW=>?_⟩;obtain⟨f',hm',_,hf'⟩:=iQj (dn d) d (Nat.le_refl _) hd hs W G ty x (fun k hk=>Ll (hG k hk) hW.size) (h.later hG hW);have he:f=f':=by
  have h1:=(hm w).symm.trans (hm' w);injection h1 with h1;injection h1
 subst he;refine hf'.mono ?_;rintro e w' ⟨rfl,hb⟩;exact⟨rfl,Bj hW hb⟩
def dQu (s:By)(a1:Addr):Prop:=∀(z rb i:Nat) (w:World),z<=12->RB w rb s i z->Env w rb a1->i<=s.size->
 Ca 150 #[D3 rb] w (PlPost w rb s i z a1 (Q5 (pat (13-z)) (rest s i)))
def N8 (s:By)(j:Nat)(l:Ln):Ln:=if A7 s j 42=true then hXb l else l
def U1 (s:By)(j:Nat):Nat:=if A7 s j 42=true then j+1 else j
theorem iQ5 (s:By)(j:Nat)(l:Ln):fX9 l (rest s j)=(N8 s j l,rest s (U1 s j)):=by
 unfold fX9 N8 U1;cases h:A7 s j 42 with
 | true=>rw[if_pos (C4.2 h),E7];simp
 | false=>rw[if_neg (by rw[C4,h];simp)];simp
def cQl (w:World)(G:Nat->Prop)(rb:Nat)(s:By)(j z:Nat)(l:Ln):Ending->World->Prop:=fun e w'=>
 ∃f caps,e=.returned (C5 (eX7 (N8 s j l)) (.func (.func f) #[] caps))/\PlanV w' (fun k=>G k\/(w.heap.size<=k/\k<w'.heap.size)) (N8 s j l) (.func (.func f) #[] caps)/\RLeft w rb s (U1 s j) z w'
abbrev X6 (w:World)(rb n f:Nat)(caps:Array Value):World:=((w.alloc (H0 167 rb)).alloc (.cells #[.int .i64 n,.func (.func f) #[] caps] 130)).alloc (.cells #[.int .i64 (0:Nat),.nilFunc] 130)
theorem cXw (s:By)(hs:s.size<=120)(z b j:Nat)(l:Ln)(f:Nat)(a:Array Value)(w:World)(G:Nat->Prop)(u:Old w G)(J:¬G b)(h:RB w b s j z)(hj:j<=s.size)(hn:eX7 l<=120)(M:PlanV w G l (.func (.func f) #[] a)) :
  Calls Tryz.prog 144 #[D3 b,C5 (eX7 l) (.func (.func f) #[] a)] w (cQl w G b s j z l):=by
 have P:=h.lt;have L:Bw w (X6 w b (eX7 l) f a):=Q0 w _ _ _;have a0:(X6 w b (eX7 l) f a).heap.size=w.heap.size+1+1+1:=by simp
 have Q:Blk (X6 w b (eX7 l) f a) (w.heap.size+1) #[Iv (eX7 l),.func (.func f) #[] a] 130:=by
  have:=Blk.new (w.alloc (H0 167 b)) #[Iv (eX7 l),.func (.func f) #[] a] 130;rw[World.size_alloc]at this;exact this.of (Below.heap_alloc _ _ _ (by simp))
 have R:Blk (X6 w b (eX7 l) f a) (w.heap.size+1+1) #[Iv (0:Nat),.nilFunc] 130:=by
  have:=Blk.new ((w.alloc (H0 167 b)).alloc (.cells #[Iv (eX7 l),.func (.func f) #[] a] 130)) #[Iv (0:Nat),.nilFunc] 130;rw[World.size_alloc,World.size_alloc]at this;exact this
 have K:In 167 w b s j z (X6 w b (eX7 l) f a):=((In.enter _ h).below (A5 _ _)).below (A5 _ _);have E:Hid _:=M;have r:Hid _:=K;have F:Hid (Blk (X6 w b (eX7 l) f a) (w.heap.size+1) #[Iv (eX7 l),.func (.func f) #[] a] 130):=Q;have H:Hid (Blk (X6 w b (eX7 l) f a) (w.heap.size+1+1) #[Iv (0:Nat),.nilFunc] 130):=R;have C:Hid (Bw w (X6 w b (eX7 l) f a)):=L;clear M K Q R L;cases i:A7 s j 42 with
 | false=>
  have n:Hid (N8 s j l=l/\U1 s j=j):=by simp[Hid,N8,U1,i]
  have o:=X5 b s j z 42 _ r.out.lies (by omega) (by omega) i;clear i;go_enter Tryz.func144,Tryz.ntmps144;go_wp2_with fail;refine o.mono ?_;clear o;generalize X6 w b (eX7 l) f a=V at *;rintro e m ⟨rfl,d⟩;have W:=d.grown.size;have p:=F.out.of (d.grown.block _ (by omega) (by simp;omega));have q:=H.out.of (d.grown.block _ (by omega) (by simp;omega));obtain⟨Z,x1,y0,y1⟩:=p.two;obtain⟨A,B,X,s1⟩:=q.two;have x:Hid (cQl w G b s j z l (.returned (C5 (eX7 l) (.func (.func f) #[] a))) ((m.setCell ⟨w.heap.size+1+1,0,none⟩ (Iv (eX7 l))).setCell ⟨w.heap.size+1+1,1,none⟩ (.func (.func f) #[] a))):=by
   unfold Hid cQl;rw[n.out.1,n.out.2];refine⟨f,a,rfl,PlanV.mono (fun k c=>.inl c) (fun k c=>?_) _ _ E.out,((r.out.go d).left).res2 (by omega) P _ _⟩;have:=u k c;rw[L9 _ _ _ _ _ (by omega),d.grown.block k (by omega) (by simp;rintro rfl;exact J c)];exact C.out.block k this
  clear p q;go_wp2_with fail;exact bodyPost_ret (v:=C5 (eX7 l) (.func (.func f) #[] a)) (by simp[results,Tryz.results144,go_sem,A,B]) rfl x.out
 | true=>
  have n:Hid (N8 s j l=hXb l/\U1 s j=j+1):=by simp[Hid,N8,U1,i]
  have o:=Z5 b s j z 42 _ r.out.lies (by omega) i;clear i;go_enter Tryz.func144,Tryz.ntmps144;go_wp2_with fail;refine o.mono ?_;clear o;generalize X6 w b (eX7 l) f a=V at *;rintro e m ⟨rfl,d⟩;have W:=d.grown.size;have p:=F.out.of (d.grown.block _ (by omega) (by simp;omega));have q:=H.out.of (d.grown.block _ (by omega) (by simp;omega));obtain⟨Z,x1,y0,y1⟩:=p.two;have N:PlanV m G l (.func (.func f) #[] a):=PlanV.mono (fun k c=>c) (fun k c=>by
   have:=u k c;rw[d.grown.block k (by omega) (by simp;rintro rfl;exact J c)];exact C.out.block k this) _ _ E.out
  have I:=lQ6 6 (.inl rfl) l (eX7 l) f a (by omega) m G (fun k c=>by have:=u k c;omega) N;have T:Hid (In 167 w b s (j+1) z m):=r.out.go d;have U:Hid (Blk m (w.heap.size+1+1) #[Iv (0:Nat),.nilFunc] 130):=q;clear p q N;go_wp2_with fail;refine I.mono ?_;rintro e Y ⟨g,t,rfl,O,y⟩;have S:=U.out.below y (by omega);obtain⟨A,B,X,s1⟩:=S.two;have a1:=y.size;have x:Hid (cQl w G b s j z l (.returned (C5 (eX7 l+1) (.func (.func g) #[] t))) ((Y.setCell ⟨w.heap.size+1+1,0,none⟩ (Iv ((eX7 l+1:Nat):Int))).setCell ⟨w.heap.size+1+1,1,none⟩ (.func (.func g) #[] t))):=by
   unfold Hid cQl;rw[n.out.1,n.out.2,hXi];refine⟨g,t,rfl,PlanV.mono (fun k c=>?_) (fun k c=>?_) _ _ O,((T.out.below y).left).res2 (by omega) P _ _⟩
   ·rcases c with c|c
    ·exact .inl c
    ·exact .inr ⟨by omega,by rw[X4];exact c.2⟩
   ·rw[L9 _ _ _ _ _ ?_]
    rcases c with c|c
    ·have:=u k c;omega
    ·omega
  clear S O I;go_wp2_with fail;exact bodyPost_ret (v:=C5 (eX7 l+1) (.func (.func g) #[] t)) (by simp[results,Tryz.results144,go_sem,A,B]) rfl x.out
def Z8 (s:By)(a1:Addr)(z:Nat):Prop:=∀(rb i:Nat) (w:World),RB w rb s i z->Env w rb a1->i<=s.size->
 Ca 104 #[D3 rb] w (PlPost w rb s i z a1 (fXa (13-z) (rest s i)))
def S4 (Q:Lu->Rl)(r:Lu):Rl:=
 match Q r with
 | .none=>.none
 | some (a,u)=>if u.head?=some 62 then some (a,u.tail) else .none
abbrev L7 (n f:Nat)(caps:Array Value):Obj:=.cells #[.int .i64 n,.func (.func f) #[] caps] 130
theorem zQ5 (s:By)(hs:s.size<=120)(g:Addr)(z:Nat)(hz:z<=12)(K:z<=11->Z8 s g (z+1))(a i:Nat)(w:World)(h:RB w a s i z)(C:Env w a g)(V:i<=s.size) :
  Calls Tryz.prog 148 #[D3 a] w (PlPost w a s i z g (S4 (fXa (12-z)) (rest s i))):=by
 have q:Hid _:=Inp.enter h;have a2:(I9 w a).heap.size=w.heap.size+1+1:=by simp
 have H:Hid _:=C
 by_cases U:z=12
 ·subst U
  have m:Hid (S4 (fXa (12-12)) (rest s i)=.none):=rfl;have y:=hQw a s i g _ q.out.lies (q.out.env C);go_enter Tryz.func148,Tryz.ntmps148;go_wp2_with fail;refine y.mono ?_;rintro e u ⟨rfl,t⟩;go_wp2;exact⟨rfl,.inr ⟨m.out,rfl,q.out.threw rfl t⟩⟩
 ·have P:Hid _:=K (by omega)
  have y:=hQx a s i z _ q.out.lies (by omega);go_enter Tryz.func148,Tryz.ntmps148;go_wp2_with fail;refine y.mono ?_;rintro e Z ⟨rfl,W⟩;have n:=q.out.go W;have T:=n.cell;go_wp2_with fail;refine(P.out a i Z n.lies (n.env H.out) V).mono ?_;rintro e d (⟨l,j,f,b,p,a0,hj,rfl,L,G⟩|⟨p,rfl,t⟩)
  ·rw[show 13-(z+1)=12-z from by omega]at p
   have I:Hid (fXa (12-z) (rest s i)=some (l,rest s j)):=p;have J:=n.go G;have F:=A5 d (L7 (eX7 l) f b);have M:Blk (d.alloc (L7 (eX7 l) f b)) d.heap.size #[Iv (eX7 l),.func (.func f) #[] b] 130:=Blk.new d _ _;have x:=J.below F;have a5:(d.alloc (L7 (eX7 l) f b)).heap.size=d.heap.size+1:=by simp
   have a3:=n.size;have a4:=G.grown.size;have R:Hid (PlanV (d.alloc (L7 (eX7 l) f b)) (fun k=>w.heap.size+1<k/\k<d.heap.size) l (.func (.func f) #[] b)):=PlanV.mono (fun k c=>⟨by have:=c.1;omega,c.2⟩) (fun k c=>F.block k c.2) _ _ L;clear p T L G F;go_upto_region 3 with (fail);generalize d.alloc (L7 (eX7 l) f b)=u at *;have b3:=x.cell;have S:Hid (Blk u d.heap.size #[Iv (eX7 l),.func (.func f) #[] b] 130):=M;have r:Hid (Inp w a s j (z+1) u):=x;have ho:=x.inn.old;clear M x J n;cases o:A7 s j 62 with
   | true=>
    have m:Hid (S4 (fXa (12-z)) (rest s i)=some (l,rest s (j+1))):=by
     show _=_;unfold S4;rw[I.out];dsimp only
     rw[if_pos (C4.2 o),E7]
    have a1:=(D9 o).1;have A:=eQg a s j z 62 u r.out.lies (by omega) (by omega) o;clear o;go_wp2_with fail;refine A.mono ?_;rintro e O ⟨rfl,B⟩;have E:=r.out.go B;have N:=S.out.of (B.grown.block _ (by omega) (by simp;omega));obtain⟨x0,x1,y0,y1⟩:=N.two;obtain⟨X,Y,s0,s1⟩:=E.res.two;have a6:=B.grown.size;have Q:Hid (PlPost w a s i z g (S4 (fXa (12-z)) (rest s i)) (.returned (C5 (eX7 l) (.func (.func f) #[] b))) ((O.setCell ⟨w.heap.size+1,0,none⟩ (Iv (eX7 l))).setCell ⟨w.heap.size+1,1,none⟩ (.func (.func f) #[] b))):=by
     refine E.ret m.out (by omega) (by omega) (PlanV.mono (fun k c=>⟨c.1,by have:=c.2;omega⟩) (fun k c=>B.grown.block k (by have:=c.2;omega) (by have:=c.1;simp;omega)) _ _ R.out)
    clear N E A;go_wp2_with fail;exact bodyPost_ret (v:=C5 (eX7 l) (.func (.func f) #[] b)) (by simp[results,Tryz.results148,go_sem,X,Y]) rfl Q.out
   | false=>
    have m:Hid (S4 (fXa (12-z)) (rest s i)=.none):=by
     show _=_;unfold S4;rw[I.out];dsimp only
     rw[if_neg (by rw[C4,o];simp)]
    have A:=eQf a s j (z+1) 62 g u r.out.lies (r.out.env H.out) (by omega) (by omega) o;clear o;go_wp2_with fail;refine A.mono ?_;rintro e O ⟨rfl,t⟩;go_wp2_with fail;exact⟨rfl,.inr ⟨m.out,rfl,r.out.threw rfl t⟩⟩
  ·rw[show 13-(z+1)=12-z from by omega]at p
   have m:Hid (S4 (fXa (12-z)) (rest s i)=.none):=by
    show _=_;unfold S4;rw[p]
   go_wp2_with fail;exact⟨rfl,.inr ⟨m.out,rfl,n.threw rfl t⟩⟩
def J3 (Q:Lu->Rl)(r:Lu):Rl:=
 match Q r with
 | .none=>.none
 | some (a,u)=>
  if u.head?=some 126 then
   match Q u.tail with
   | .none=>.none
   | some (b,v)=>if v.head?=some 41 then some (fXc a b,v.tail) else .none
  else if u.head?=some 41 then some (a,u.tail) else .none
theorem bXt {Q:Lu->Rl}{r:Lu}(h:Q r=.none):J3 Q r=.none:=by
 unfold J3;rw[h]
section
variable {Q:Lu->Rl} {r:Lu} {s:By} {l:Ln} {j:Nat}
theorem bXv (h:Q r=some (l,rest s j))(a:A7 s j 126=false)(b:A7 s j 41=true):J3 Q r=some (l,rest s (j+1)):=by
 unfold J3;rw[h];dsimp only
 rw[if_neg (by rw[C4,a];simp),if_pos (C4.2 b),E7]
theorem bXu (h:Q r=some (l,rest s j))(a:A7 s j 126=false)(b:A7 s j 41=false):J3 Q r=.none:=by
 unfold J3;rw[h];dsimp only
 rw[if_neg (by rw[C4,a];simp),if_neg (by rw[C4,b];simp)]
theorem bXn (h:Q r=some (l,rest s j))(a:A7 s j 126=true)(b:Q (rest s (j+1))=.none):J3 Q r=.none:=by
 unfold J3;rw[h];dsimp only
 rw[if_pos (C4.2 a),E7,b]
theorem bX1 (h:Q r=some (l,rest s j))(b:A7 s j 126=true){m:Ln}{k:Nat}(c:Q (rest s (j+1))=some (m,rest s k)):J3 Q r=if A7 s k 41=true then some (fXc l m,rest s (k+1)) else .none:=by
 unfold J3;rw[h];dsimp only
 rw[if_pos (C4.2 b),E7,c];dsimp only
 cases a:A7 s k 41 with
 | true=>rw[if_pos (C4.2 a),E7];simp
 | false=>rw[if_neg (by rw[C4,a];simp)];simp
end
theorem bXm (s:By)(hs:s.size<=120)(a1:Addr)(z:Nat)(hz:z<=12)(hL:z<=11->Z8 s a1 (z+1))(c i:Nat)(w:World)(c1:RB w c s i z)(hE:Env w c a1)(hi:i<=s.size) :
  Calls Tryz.prog 146 #[D3 c] w (PlPost w c s i z a1 (J3 (fXa (12-z)) (rest s i))):=by
 have P:Hid _:=Inp.enter c1;have e5:(I9 w c).heap.size=w.heap.size+1+1:=by simp
 have T:Hid _:=hE
 by_cases d0:z=12
 ·subst d0
  have r:Hid (J3 (fXa (12-12)) (rest s i)=.none):=rfl;have hO:=hQw c s i a1 _ P.out.lies (P.out.env hE);go_enter Tryz.func146,Tryz.ntmps146;go_wp2_with fail;refine hO.mono ?_;rintro e S ⟨rfl,B⟩;go_wp2;exact⟨rfl,.inr ⟨r.out,rfl,P.out.threw rfl B⟩⟩
 ·have HL:Hid _:=hL (by omega)
  have hO:=hQx c s i z _ P.out.lies (by omega);go_enter Tryz.func146,Tryz.ntmps146;go_wp2_with fail;refine hO.mono ?_;rintro e w1 ⟨rfl,d2⟩;have H:=P.out.go d2;have b1:=H.cell;go_wp2_with fail;refine(HL.out c i w1 H.lies (H.env T.out) hi).mono ?_;rintro e a (⟨l,j,f,d,L,d9,hj,rfl,hp,E⟩|⟨L,rfl,B⟩)
  ·rw[show 13-(z+1)=12-z from by omega]at L
   have V:Hid (fXa (12-z) (rest s i)=some (l,rest s j)):=L;have c2:=H.go E;have a9:=A5 a (L7 (eX7 l) f d);have c7:Blk (a.alloc (L7 (eX7 l) f d)) a.heap.size #[Iv (eX7 l),.func (.func f) #[] d] 130:=Blk.new a _ _;have X:=c2.below a9;have e8:(a.alloc (L7 (eX7 l) f d)).heap.size=a.heap.size+1:=by simp
   have e6:=H.size;have e7:=E.grown.size;have b6:Hid (PlanV (a.alloc (L7 (eX7 l) f d)) (fun k=>w.heap.size+1<k/\k<a.heap.size) l (.func (.func f) #[] d)):=PlanV.mono (fun k h=>⟨by have:=h.1;omega,h.2⟩) (fun k h=>a9.block k h.2) _ _ hp;clear L b1 hp E a9;go_upto_region 3 with (fail);generalize a.alloc (L7 (eX7 l) f d)=S at *;have b3:=X.cell;have b9:Hid (Blk S a.heap.size #[Iv (eX7 l),.func (.func f) #[] d] 130):=c7;have U:Hid (Inp w c s j (z+1) S):=X;have ho:=X.inn.old;clear c7 X c2 H;cases G:A7 s j 126 with
   | false=>
    have R:=X5 c s j (z+1) 126 S U.out.lies (by omega) (by omega) G;have O:Hid (A7 s j 126=false):=G;clear G;go_wp2_with fail;refine R.mono ?_;rintro e x ⟨rfl,u⟩;have I:=U.out.go u;have M:=b9.out.of (u.grown.block _ (by omega) (by simp;omega));have b4:=I.cell;have d4:=u.grown.size;have a6:Hid (Blk x a.heap.size #[Iv (eX7 l),.func (.func f) #[] d] 130):=M;have F:Hid (Inp w c s j (z+1) x):=I;have a5:Hid (PlanV x (fun k=>w.heap.size+1<k/\k<a.heap.size) l (.func (.func f) #[] d)):=PlanV.mono (fun k h=>h) (fun k h=>u.grown.block k (by have:=h.2;omega) (by have:=h.1;simp;omega)) _ _ b6.out;clear M I b3 R u;cases p:A7 s j 41 with
    | true=>
     have r:Hid (J3 (fXa (12-z)) (rest s i)=some (l,rest s (j+1))):=bXv V.out O.out p;have e1:=(D9 p).1;have A:=eQg c s j z 41 x F.out.lies (by omega) (by omega) p;clear p;go_wp2_with fail;refine A.mono ?_;rintro e w5 ⟨rfl,a2⟩;have J:=F.out.go a2;have N:=a6.out.of (a2.grown.block _ (by omega) (by simp;omega));obtain⟨x0,x1,y0,y1⟩:=N.two;obtain⟨r0,r1,s0,s1⟩:=J.res.two;have d5:=a2.grown.size;have HP:Hid (PlPost w c s i z a1 (J3 (fXa (12-z)) (rest s i)) (.returned (C5 (eX7 l) (.func (.func f) #[] d))) ((w5.setCell ⟨w.heap.size+1,0,none⟩ (Iv (eX7 l))).setCell ⟨w.heap.size+1,1,none⟩ (.func (.func f) #[] d))):=by
      refine J.ret r.out (by omega) (by omega) (PlanV.mono (fun k h=>⟨h.1,by have:=h.2;omega⟩) (fun k h=>a2.grown.block k (by have:=h.2;omega) (by have:=h.1;simp;omega)) _ _ a5.out)
     clear N J A;go_wp2_with fail;exact bodyPost_ret (v:=C5 (eX7 l) (.func (.func f) #[] d)) (by simp[results,Tryz.results146,go_sem,r0,r1]) rfl HP.out
    | false=>
     have r:Hid (J3 (fXa (12-z)) (rest s i)=.none):=bXu V.out O.out p;have A:=eQf c s j (z+1) 41 a1 x F.out.lies (F.out.env T.out) (by omega) (by omega) p;clear p;go_wp2_with fail;refine A.mono ?_;rintro e w5 ⟨rfl,B⟩;go_wp2_with fail;exact⟨rfl,.inr ⟨r.out,rfl,F.out.threw rfl B⟩⟩
   | true=>
    have R:=Z5 c s j (z+1) 126 S U.out.lies (by omega) G;have O:Hid (A7 s j 126=true):=G;have e0:=(D9 G).1;clear G;go_wp2_with fail;refine R.mono ?_;rintro e x ⟨rfl,u⟩;have I:=U.out.go u;have M:=b9.out.of (u.grown.block _ (by omega) (by simp;omega));have b4:=I.cell;have d4:=u.grown.size;obtain⟨x0,x1,y0,y1⟩:=M.two;have a6:Hid (Blk x a.heap.size #[Iv (eX7 l),.func (.func f) #[] d] 130):=M;have F:Hid (Inp w c s (j+1) (z+1) x):=I;have a5:Hid (PlanV x (fun k=>w.heap.size+1<k/\k<a.heap.size) l (.func (.func f) #[] d)):=PlanV.mono (fun k h=>h) (fun k h=>u.grown.block k (by have:=h.2;omega) (by have:=h.1;simp;omega)) _ _ b6.out;clear M I b3 R u;have b2:Hid (∀W,Bw x W->Ca 104 #[D3 c] W fun e C=>
      (∃m k g t,fXa (12-z) (rest s (j+1))=some (m,rest s k)/\j+1+eX7 m<=k/\k<=s.size/\e=.returned (C5 (eX7 m) (.func (.func g) #[] t))/\Inp w c s k (z+1) C/\Blk C a.heap.size #[Iv (eX7 l),.func (.func f) #[] d] 130/\x.heap.size<=C.heap.size/\
       PlanV C (fun q=>w.heap.size+1<q/\q<C.heap.size/\q≠a.heap.size) l (.func (.func f) #[] d)/\PlanV C (fun q=>w.heap.size+1<q/\q<C.heap.size/\q≠a.heap.size) m (.func (.func g) #[] t))\/
      (fXa (12-z) (rest s (j+1))=.none/\K6 w c a1 e C)):=by
     intro W hW;have Z:=F.out.below hW;have d7:=hW.size;refine(HL.out c (j+1) W Z.lies (Z.env T.out) (by omega)).mono ?_;rintro e C (⟨m,k,g,t,Q,h1,h2,rfl,d3,E⟩|⟨Q,rfl,B⟩)
     ·rw[show 13-(z+1)=12-z from by omega]at Q
      have d8:=E.grown.size;refine .inl ⟨m,k,g,t,Q,h1,h2,rfl,Z.go E,(a6.out.below hW (by omega)).of (E.grown.block _ (by omega) (by simp;omega)),by omega,PlanV.mono (fun q b=>⟨b.1,by have:=b.2;omega,by have:=b.2;omega⟩) (fun q b=>?_) _ _ a5.out,PlanV.mono (fun q b=>⟨by have:=b.1;omega,b.2,by have:=b.1;omega⟩) (fun _ _=>rfl) _ _ d3⟩;rw[E.grown.block q (by have:=b.2;omega) (by have:=b.1;simp;omega)];exact hW.block q (by have:=b.2;omega)
     ·rw[show 13-(z+1)=12-z from by omega]at Q
      exact .inr ⟨Q,rfl,Z.threw rfl B⟩
    have HJ:Hid (∀(W:World) (m:Ln) (g:Nat) (t:Array Value),eX7 m<=120->PlanV W (fun q=>w.heap.size+1<q/\q<W.heap.size/\q≠a.heap.size) l (.func (.func f) #[] d)->PlanV W (fun q=>w.heap.size+1<q/\q<W.heap.size/\q≠a.heap.size) m (.func (.func g) #[] t)->
      Ca 121 #[C5 (eX7 l) (.func (.func f) #[] d),C5 (eX7 m) (.func (.func g) #[] t),.func (.func 170) #[] #[]] W (cQk W (fun q=>w.heap.size+1<q/\q<W.heap.size/\q≠a.heap.size) (eX7 l+eX7 m) ⟨4,rnil,[],[l,m]⟩)):=
     fun W m g t hm h1 h2=>kQz 4 (by omega) l m (eX7 l) (eX7 m) f g d t (by omega) (by omega) W _ (fun q b=>b.2.1) h1 h2
    go_wp2_with fail;go_region_with (first
      | (go_at_call 104;refine(b2.out _ ?_).mono ?_;exact Br.drew;rintro e w5 (⟨m,k,g,t,a4,e2,e3,rfl,J,N,d5,c3,c6⟩|⟨a4,rfl,d1⟩);rotate_left;(go_wp2_with fail;exact⟨rfl,.inr ⟨bXn V.out O.out a4,rfl,d1⟩⟩);have b5:=J.cell;obtain⟨v0,v1,v2,v3⟩:=N.two)
      | (go_at_call 121;refine(HJ.out _ m g t (by omega) c3 c6).mono ?_;rintro e y ⟨o,n,rfl,c4,a0⟩;have Y:=J.below a0;have b0:=N.below a0 (by omega);obtain⟨q0,q1,t0,t1⟩:=b0.two))
    all_goals
     have hN:=bX1 V.out O.out a4;have e9:=a0.size;have c8:Blk ((y.setCell ⟨a.heap.size,0,none⟩ (Iv ((eX7 l+eX7 m:Nat):Int))).setCell ⟨a.heap.size,1,none⟩ (.func (.func o) #[] n)) a.heap.size #[Iv ((eX7 l+eX7 m:Nat):Int),.func (.func o) #[] n] 130:=by
      have:=b0;unfold Blk at this ⊢;simp[World.setCell,Array.getElem?_modify,this]
     have a7:Inp w c s k (z+1) ((y.setCell ⟨a.heap.size,0,none⟩ (Iv ((eX7 l+eX7 m:Nat):Int))).setCell ⟨a.heap.size,1,none⟩ (.func (.func o) #[] n)):=
      ⟨⟨Y.inn.left.res2 (by omega) ho _ _,⟨by rw[L9 _ _ _ _ _ (by omega)];exact Y.inn.box.lies⟩,ho⟩,Y.res.of (L9 _ _ _ _ _ (by omega))⟩
     have c5:PlanV ((y.setCell ⟨a.heap.size,0,none⟩ (Iv ((eX7 l+eX7 m:Nat):Int))).setCell ⟨a.heap.size,1,none⟩ (.func (.func o) #[] n)) (fun q=>w.heap.size+1<q/\q<y.heap.size/\q≠a.heap.size) (fXc l m) (.func (.func o) #[] n):=
      PlanV.mono (fun q b=>by
       rcases b with b|b
       ·exact⟨b.1,by have:=b.2.1;omega,b.2.2⟩
       ·exact⟨by omega,b.2,by omega⟩) (fun q b=>L9 _ _ _ _ _ (by
       rcases b with b|b
       ·exact b.2.2
       ·omega)) _ _ c4
     have d6:((y.setCell ⟨a.heap.size,0,none⟩ (Iv ((eX7 l+eX7 m:Nat):Int))).setCell ⟨a.heap.size,1,none⟩ (.func (.func o) #[] n)).heap.size=y.heap.size:=X4 _ _ _ _;have K:Hid (Inp w c s k (z+1) ((y.setCell ⟨a.heap.size,0,none⟩ (Iv ((eX7 l+eX7 m:Nat):Int))).setCell ⟨a.heap.size,1,none⟩ (.func (.func o) #[] n))):=a7;have c0:Hid (Blk ((y.setCell ⟨a.heap.size,0,none⟩ (Iv ((eX7 l+eX7 m:Nat):Int))).setCell ⟨a.heap.size,1,none⟩ (.func (.func o) #[] n)) a.heap.size #[Iv ((eX7 l+eX7 m:Nat):Int),.func (.func o) #[] n] 130):=c8;have b8:Hid (PlanV ((y.setCell ⟨a.heap.size,0,none⟩ (Iv ((eX7 l+eX7 m:Nat):Int))).setCell ⟨a.heap.size,1,none⟩ (.func (.func o) #[] n)) (fun q=>w.heap.size+1<q/\q<y.heap.size/\q≠a.heap.size) (fXc l m) (.func (.func o) #[] n)):=c5;have r:Hid (J3 (fXa (12-z)) (rest s i)=if A7 s k 41=true then some (fXc l m,rest s (k+1)) else .none):=hN;have b7:=a7.cell;clear c8 a7 c5 hN c4 b0 Y c3 c6 N J q0 q1 t0 t1 x0 x1 y0 y1 v0 v1 v2 v3 b4 b5 a0 a4 HJ b2;simp only[Int.natCast_add]at K c0 b8 b7 d6;generalize (y.setCell ⟨a.heap.size,0,none⟩ (Iv ((eX7 l:Int)+(eX7 m:Int)))).setCell ⟨a.heap.size,1,none⟩ (.func (.func o) #[] n)=w7 at *;cases p:A7 s k 41 with
     | true=>
      have HR:Hid (J3 (fXa (12-z)) (rest s i)=some (fXc l m,rest s (k+1))):=by show _=_;rw[r.out,if_pos p]
      have e4:=(D9 p).1;have A:=eQg c s k z 41 w7 K.out.lies (by omega) (by omega) p;clear p r;go_wp2_with fail;refine A.mono ?_;rintro e w8 ⟨rfl,a3⟩;have a8:=K.out.go a3;have c9:=c0.out.of (a3.grown.block _ (by omega) (by simp;omega));obtain⟨x0,x1,y0,y1⟩:=c9.two;obtain⟨r0,r1,s0,s1⟩:=a8.res.two;have f0:=a3.grown.size;have HP:Hid (PlPost w c s i z a1 (J3 (fXa (12-z)) (rest s i)) (.returned (C5 (eX7 l+eX7 m) (.func (.func o) #[] n))) ((w8.setCell ⟨w.heap.size+1,0,none⟩ (Iv ((eX7 l:Int)+(eX7 m:Int)))).setCell ⟨w.heap.size+1,1,none⟩ (.func (.func o) #[] n))):=by
       have:=a8.ret (i:=i) (a1:=a1) HR.out (by rw[hXh];omega) (by omega) (PlanV.mono (fun q b=>⟨b.1,by have:=b.2.1;omega⟩) (fun q b=>a3.grown.block q (by have:=b.2.1;omega) (by have:=b.1;simp;omega)) _ _ b8.out);rw[hXh,Int.natCast_add]at this;exact this
      clear c9 a8 A;go_wp2_with fail;exact bodyPost_ret (v:=C5 (eX7 l+eX7 m) (.func (.func o) #[] n)) (by simp[results,Tryz.results146,go_sem,r0,r1]) rfl HP.out
     | false=>
      have HR:Hid (J3 (fXa (12-z)) (rest s i)=.none):=by show _=_;rw[r.out,p];simp
      have A:=eQf c s k (z+1) 41 a1 w7 K.out.lies (K.out.env T.out) (by omega) (by omega) p;clear p r;go_wp2_with fail;refine A.mono ?_;rintro e w8 ⟨rfl,B⟩;go_wp2_with fail;exact⟨rfl,.inr ⟨HR.out,rfl,K.out.threw rfl B⟩⟩
  ·rw[show 13-(z+1)=12-z from by omega]at L
   have r:Hid (J3 (fXa (12-z)) (rest s i)=.none):=bXt L;go_wp2_with fail;exact⟨rfl,.inr ⟨r.out,rfl,H.threw rfl B⟩⟩
end Go.Proofs.YtfklinjaajafgaaGreatDoor
