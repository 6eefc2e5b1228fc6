import Derived.Test.YtfklinjaajafgaaGreatDoorK13
set_option maxRecDepth 100000
set_option maxHeartbeats 4000000
namespace Go.Proofs.YtfklinjaajafgaaGreatDoor
open Go.RowKit
theorem kQ0 (s:ByteArray)(z n j k:Nat)(p:k=3\/k=4\/k=5)(l m:Ls.Ln)(f g:Nat)(d b:Array Value)(w W:World)(i:Inp w n s j z W)(v:Ls.eX7 l<=120)(u:Ls.eX7 m<=120)(F:Nat)(o:F=S1 k)
  (r:PlanV W (fun q=>w.heap.size+1<q/\q<W.heap.size) l (.func (.func f) #[] d)) (a:PlanV W (fun q=>w.heap.size+1<q/\q<W.heap.size) m (.func (.func g) #[] b)) :
  Calls Tryz.prog 121 #[C5 (Ls.eX7 l) (.func (.func f) #[] d),C5 (Ls.eX7 m) (.func (.func g) #[] b),.func (.func F) #[] #[]] W fun e c=>
   ∃g b,e=.returned (C5 (Ls.eX7 l+Ls.eX7 m) (.func (.func g) #[] b))/\Inp w n s j z c/\PlanV c (fun q=>w.heap.size+1<q/\q<c.heap.size) ⟨k,Ls.rnil,[],[l,m]⟩ (.func (.func g) #[] b)/\Bw W c:=by
 subst o;have x:=i.size;refine(kQz k p l m (Ls.eX7 l) (Ls.eX7 m) f g d b (by omega) (by omega) W _ (fun q a=>a.2) r a).mono ?_;rintro e c ⟨g,b,rfl,t,h⟩;have y:=h.size;refine⟨g,b,rfl,i.below h,PlanV.mono (fun q a=>?_) (fun _ _=>rfl) _ _ t,h⟩;rcases a with a|a
 ·exact⟨a.1,by have:=a.2;omega⟩
 ·exact⟨by have:=a.1;omega,a.2⟩
theorem uQi {s:ByteArray}{k:Nat}(a:k<s.size):([124,126,41,62]:List UInt8).any (A7 s k)=Ls.gX3 (rest s k):=by
 rw[D4 a];simp[A7,a,Ls.gX3];cases (nx s k==124)<;>cases (nx s k==126)<;>cases (nx s k==41)<;>cases (nx s k==62)<;>rfl
theorem uQh {s:ByteArray}{k:Nat}(a:s.size<=k):Ls.gX3 (rest s k)=true:=by
 rw[P4 a];rfl
section
variable {P:List UInt8->Ls.Rd} {Q:List UInt8->Ls.Rl} {n:Nat} {r r1:List UInt8} {a:Ls.Ln}
theorem aXc (h:Ls.fXk P Q r=.none):Ls.fXe P Q (n+1) r=.none:=by rw[Ls.fXe,h]
theorem aXd (h:Ls.fXk P Q r=some (a,r1))(b:Ls.gX3 r1=true):Ls.fXe P Q (n+1) r=some (a,r1):=by rw[Ls.fXe,h];dsimp only;rw[if_pos b]
theorem zQl (h:Ls.fXk P Q r=some (a,r1))(c:Ls.gX3 r1=false)(b:Ls.fXe P Q n r1=.none):Ls.fXe P Q (n+1) r=.none:=by rw[Ls.fXe,h];dsimp only;rw[if_neg (by rw[c];simp),b]
theorem aXb {b:Ls.Ln}{c:List UInt8}(h:Ls.fXk P Q r=some (a,r1))(e:Ls.gX3 r1=false)(d:Ls.fXe P Q n r1=some (b,c)):Ls.fXe P Q (n+1) r=some (Ls.eX9 a b,c):=by rw[Ls.fXe,h];dsimp only;rw[if_neg (by rw[e];simp),d]
theorem yQz (h:Ls.fXe P Q (r.length+1) r=.none):Ls.gXa P Q (n+1) r=.none:=by rw[Ls.gXa,h]
theorem qQ7 (h:Ls.fXe P Q (r.length+1) r=some (a,r1))(b:r1.head?≠some 124):Ls.gXa P Q (n+1) r=some (a,r1):=by rw[Ls.gXa,h];dsimp only;rw[if_neg b]
theorem qQ4 (h:Ls.fXe P Q (r.length+1) r=some (a,r1))(c:r1.head?=some 124)(b:Ls.gXa P Q n r1.tail=.none):Ls.gXa P Q (n+1) r=.none:=by rw[Ls.gXa,h];dsimp only;rw[if_pos c,b]
theorem qQ5 {b:Ls.Ln}{c:List UInt8}(h:Ls.fXe P Q (r.length+1) r=some (a,r1))(e:r1.head?=some 124)(d:Ls.gXa P Q n r1.tail=some (b,c)):Ls.gXa P Q (n+1) r=some (Ls.fXn a b,c):=by rw[Ls.gXa,h];dsimp only;rw[if_pos e,d]
end
theorem eQ0 {W:World}{g x y:Nat}{a b:Value}(d:g≠x)(c:g≠y){p q r:Option Value}(e:W.cell? ⟨x,0,none⟩=p)(f:W.cell? ⟨y,0,none⟩=q)(h:W.cell? ⟨y,1,none⟩=r) :
  ((W.setCell ⟨g,0,none⟩ a).setCell ⟨g,1,none⟩ b).cell? ⟨x,0,none⟩=p/\((W.setCell ⟨g,0,none⟩ a).setCell ⟨g,1,none⟩ b).cell? ⟨y,0,none⟩=q/\((W.setCell ⟨g,0,none⟩ a).setCell ⟨g,1,none⟩ b).cell? ⟨y,1,none⟩=r:=
 ⟨(World.cell?_setCell_far _ _ _ _ d).trans ((World.cell?_setCell_far _ _ _ _ d).trans e),(World.cell?_setCell_far _ _ _ _ c).trans ((World.cell?_setCell_far _ _ _ _ c).trans f),(World.cell?_setCell_far _ _ _ _ c).trans ((World.cell?_setCell_far _ _ _ _ c).trans h)⟩
def bQq (s:ByteArray)(a1:Addr)(z n:Nat):Prop:=∀(rb i:Nat) (w:World),RB w rb s i z->Env w rb a1->i<=s.size->(rest s i).length<n->
 Ca 119 #[D3 rb] w (PlPost w rb s i z a1 (Ls.fXe (Ls.pat (13-z)) (Ls.fXa (12-z)) n (rest s i)))
theorem aXi (s:ByteArray)(hs:s.size<=120)(a1:Addr)(z n:Nat)(hP:fQ7 s a1 z)(hR:bQq s a1 z n):bQq s a1 z (n+1):=by
 intro a i w b1 hE hi hn;have O:Hid (Inp w a s i z (I9 w a)):=Inp.enter b1;have HE:Hid (Env w a a1):=hE;have hC:Calls Tryz.prog 130 #[D3 a] (I9 w a) (aQo w a s i z a1 (Ls.fXk (Ls.pat (13-z)) (Ls.fXa (12-z)) (rest s i))):=(hP a i _ O.out.lies (O.out.env hE) hi).mono fun e p c=>c.mid O.out;have c6:Hid (bQq s a1 z n):=hR;clear hP hR hE b1 O;go_enter Tryz.func119,Tryz.ntmps119;go_wp2_with fail;refine hC.mono ?_;clear hC;rintro e d (⟨l,j,f,b,C,c9,hj,rfl,P,b7⟩|⟨C,rfl,hg⟩)
 ·have c1:=(Ls.jXu (Ls.hXl _) (Ls.gXx _) C).2.2
  have Hr:Hid (Ls.fXk (Ls.pat (13-z)) (Ls.fXa (12-z)) (rest s i)=some (l,rest s j)):=C;have a5:=A5 d (L7 (Ls.eX7 l) f b);have c2:Blk (d.alloc (L7 (Ls.eX7 l) f b)) d.heap.size #[.int .i64 (Ls.eX7 l),.func (.func f) #[] b] 130:=Blk.new d _ _;have a3:=P.below a5;have d7:(d.alloc (L7 (Ls.eX7 l) f b)).heap.size=d.heap.size+1:=by simp
  have d6:=P.size;have ho:=P.inn.old;have a8:Hid (PlanV (d.alloc (L7 (Ls.eX7 l) f b)) (fun q=>w.heap.size+1<q/\q<d.heap.size) l (.func (.func f) #[] b)):=PlanV.mono (fun q c=>c) (fun q c=>a5.block q c.2) _ _ b7;clear C b7 a5 P;go_upto_region 2 with (fail);generalize d.alloc (L7 (Ls.eX7 l) f b)=G at *;have b2:=a3.cell;have a9:Hid (Blk G d.heap.size #[.int .i64 (Ls.eX7 l),.func (.func f) #[] b] 130):=c2;have y:Hid (Inp w a s j z G):=a3;clear c2 a3;have b0:Ls.gX3 (rest s j)=true->∀h,RLeft G a s j z h->Blk h d.heap.size #[.int .i64 (Ls.eX7 l),.func (.func f) #[] b] 130/\Inp w a s j z h/\PlPost w a s i z a1 (Ls.fXe (Ls.pat (13-z)) (Ls.fXa (12-z)) (n+1) (rest s i)) (.returned (C5 (Ls.eX7 l) (.func (.func f) #[] b))) ((h.setCell ⟨w.heap.size+1,0,none⟩ (.int .i64 (Ls.eX7 l))).setCell ⟨w.heap.size+1,1,none⟩ (.func (.func f) #[] b)):=by
   intro he h o;have b5:=y.out.go o;have d8:=o.grown.size;exact⟨a9.out.of (o.grown.block _ (by omega) (by simp;omega)),b5,b5.ret (aXd Hr.out he) c9 hj (PlanV.mono (fun q c=>⟨c.1,by have:=c.2;omega⟩) (fun q c=>o.grown.block q (by have:=c.2;omega) (by have:=c.1;simp;omega)) _ _ a8.out)⟩
  have N:Hid (Ls.gX3 (rest s j)=true->∀h,RLeft G a s j z h->Blk h d.heap.size #[.int .i64 (Ls.eX7 l),.func (.func f) #[] b] 130/\Inp w a s j z h/\PlPost w a s i z a1 (Ls.fXe (Ls.pat (13-z)) (Ls.fXa (12-z)) (n+1) (rest s i)) (.returned (C5 (Ls.eX7 l) (.func (.func f) #[] b))) ((h.setCell ⟨w.heap.size+1,0,none⟩ (.int .i64 (Ls.eX7 l))).setCell ⟨w.heap.size+1,1,none⟩ (.func (.func f) #[] b))):=b0;clear b0;rcases Nat.lt_or_ge j s.size with T|T
  ·have x:=bQ3 a s j z G y.out.lies (by omega) (by omega) false (by simp;omega)
   have F:=uQi T;cases E:Ls.gX3 (rest s j) with
   | true=>
    rw[E]at F;have a0:Hid (([124,126,41,62]:List UInt8).any (A7 s j)=true):=F;have A:Hid (Ls.gX3 (rest s j)=true):=E;clear F E;go_wp2_with fail;refine x.mono ?_;rintro e h ⟨rfl,o⟩;have b3:=(y.out.go o).cell;clear b2 x;go_wp2_with fail;refine(fQn [124,126,41,62] _ rfl 4 rfl (by decide) a s j z h _ o.lies (by omega) (by omega) true a0.out).mono ?_;rintro e u ⟨rfl,V⟩;obtain⟨t,r,I⟩:=N.out A.out u (o.trans V);obtain⟨x0,x1,y0,y1⟩:=t.two;obtain⟨L,M,s0,s1⟩:=r.res.two;have H:Hid (PlPost w a s i z a1 (Ls.fXe (Ls.pat (13-z)) (Ls.fXa (12-z)) (n+1) (rest s i)) (.returned (C5 (Ls.eX7 l) (.func (.func f) #[] b))) ((u.setCell ⟨w.heap.size+1,0,none⟩ (.int .i64 (Ls.eX7 l))).setCell ⟨w.heap.size+1,1,none⟩ (.func (.func f) #[] b))):=I;clear t r I b3;go_wp2_with fail;exact bodyPost_ret (v:=C5 (Ls.eX7 l) (.func (.func f) #[] b)) (by simp[results,Tryz.results119,go_sem,L,M]) rfl H.out
   | false=>
    rw[E]at F;have a0:Hid (([124,126,41,62]:List UInt8).any (A7 s j)=false):=F;have A:Hid (Ls.gX3 (rest s j)=false):=E;clear F E N;go_wp2_with fail;refine x.mono ?_;rintro e h ⟨rfl,o⟩;have b3:=(y.out.go o).cell;clear b2 x;go_wp2_with fail;refine(fQn [124,126,41,62] _ rfl 4 rfl (by decide) a s j z h _ o.lies (by omega) (by omega) false a0.out).mono ?_;rintro e u ⟨rfl,V⟩;have J:=o.trans V;have r:=y.out.go J;have t:=a9.out.of (J.grown.block _ (by omega) (by simp;omega));have b4:=r.cell;have d9:=J.grown.size;obtain⟨x0,x1,y0,y1⟩:=t.two;have c7:Hid (Blk u d.heap.size #[.int .i64 (Ls.eX7 l),.func (.func f) #[] b] 130):=t;have c3:Hid (Inp w a s j z u):=r;have c5:Hid (PlanV u (fun q=>w.heap.size+1<q/\q<d.heap.size) l (.func (.func f) #[] b)):=PlanV.mono (fun q c=>c) (fun q c=>J.grown.block q (by have:=c.2;omega) (by have:=c.1;simp;omega)) _ _ a8.out;have c4:Hid (∀W,Below u.heap.size u W->Calls Tryz.prog 119 #[D3 a] W fun e p=>
      (∃m k g B,Ls.fXe (Ls.pat (13-z)) (Ls.fXa (12-z)) n (rest s j)=some (m,rest s k)/\j+Ls.eX7 m<=k/\k<=s.size/\e=.returned (C5 (Ls.eX7 m) (.func (.func g) #[] B))/\Inp w a s k z p/\Blk p d.heap.size #[.int .i64 (Ls.eX7 l),.func (.func f) #[] b] 130/\
       PlanV p (fun q=>w.heap.size+1<q/\q<p.heap.size) l (.func (.func f) #[] b)/\PlanV p (fun q=>w.heap.size+1<q/\q<p.heap.size) m (.func (.func g) #[] B))\/
      (Ls.fXe (Ls.pat (13-z)) (Ls.fXa (12-z)) n (rest s j)=.none/\K6 w a a1 e p)):=by
     intro W S;have R:=c3.out.below S;have d4:=S.size;refine(c6.out a j W R.lies (R.env HE.out) hj (by rw[F4]at c1 hn ⊢;rw[F4]at c1;omega)).mono ?_;rintro e p (⟨m,k,g,B,a6,h1,h2,rfl,d1,U⟩|⟨a6,rfl,hg⟩)
     ·have d5:=U.grown.size
      refine .inl ⟨m,k,g,B,a6,h1,h2,rfl,R.go U,(c7.out.below S (by omega)).of (U.grown.block _ (by omega) (by simp;omega)),PlanV.mono (fun q c=>⟨c.1,by have:=c.2;omega⟩) (fun q c=>?_) _ _ c5.out,PlanV.mono (fun q c=>⟨by have:=c.1;omega,c.2⟩) (fun _ _=>rfl) _ _ d1⟩;rw[U.grown.block q (by have:=c.2;omega) (by have:=c.1;simp;omega)];exact S.block q (by have:=c.2;omega)
     ·exact .inr ⟨a6,rfl,R.threw rfl hg⟩
    clear t r b3 o V J;go_wp2_with fail;go_region_held (fun p=>p.cell? ⟨w.heap.size,0,none⟩=some (.pointer (some ⟨a,0,none⟩))/\p.cell? ⟨d.heap.size,0,none⟩=some (.int .i64 (Ls.eX7 l))/\p.cell? ⟨d.heap.size,1,none⟩=some (.func (.func f) #[] b)) (first|assumption|(go_keep;done)|(refine eQ0 ?_ ?_ ?_ ?_ ?_<;>first|omega|exact Y.1|exact Y.2.1|exact Y.2.2|assumption))
     (first
      | (go_at_call 119;refine(c4.out _ ?_).mono ?_;exact(Below.refl _ _).drew;rintro e w5 (⟨m,k,g,B,X,T,d0,rfl,a4,K,b8,c0⟩|⟨X,rfl,c8⟩);rotate_left;(go_wp2_with fail;exact⟨rfl,.inr ⟨zQl Hr.out A.out X,rfl,c8⟩⟩);have d2:w5.cell? ⟨w.heap.size,0,none⟩=some (.pointer (some ⟨a,0,none⟩))/\w5.cell? ⟨d.heap.size,0,none⟩=some (.int .i64 (Ls.eX7 l))/\w5.cell? ⟨d.heap.size,1,none⟩=some (.func (.func f) #[] b):=⟨a4.cell,K.two.1,K.two.2.1⟩;have d3:=K.lt)
      | (go_at_call 121;refine(kQ0 s z a k 3 (.inl rfl) l m f g b B w _ a4 (by omega) (by omega) _ rfl b8 c0).mono ?_;rintro e Z ⟨g6,a2,rfl,Q,b9,b6⟩;obtain⟨L,M,s0,s1⟩:=Q.res.two;have a7:=K.below b6 d3;have Y:Z.cell? ⟨w.heap.size,0,none⟩=some (.pointer (some ⟨a,0,none⟩))/\Z.cell? ⟨d.heap.size,0,none⟩=some (.int .i64 (Ls.eX7 l))/\Z.cell? ⟨d.heap.size,1,none⟩=some (.func (.func f) #[] b):=⟨Q.cell,a7.two.1,a7.two.2.1⟩))
    all_goals
     have H:Hid (PlPost w a s i z a1 (Ls.fXe (Ls.pat (13-z)) (Ls.fXa (12-z)) (n+1) (rest s i)) (.returned (C5 (Ls.eX7 l+Ls.eX7 m) (.func (.func g6) #[] a2))) ((Z.setCell ⟨w.heap.size+1,0,none⟩ (.int .i64 ((Ls.eX7 l:Int)+(Ls.eX7 m:Int)))).setCell ⟨w.heap.size+1,1,none⟩ (.func (.func g6) #[] a2))):=by
      have:=Q.ret (i:=i) (a1:=a1) (l:=Ls.eX9 l m) (aXb Hr.out A.out X) (by rw[Ls.hX1];omega) d0 b9;rw[Ls.hX1,Int.natCast_add]at this;exact this
     clear b9 Q a7 Y b6 b8 c0 a4 K d2 X;go_wp2_with fail;exact bodyPost_ret (v:=C5 (Ls.eX7 l+Ls.eX7 m) (.func (.func g6) #[] a2)) (by simp[results,Tryz.results119,go_sem,L,M]) rfl H.out
  ·have x:=bQ3 a s j z G y.out.lies (by omega) (by omega) true (by simp;omega)
   have A:Hid (Ls.gX3 (rest s j)=true):=uQh T;go_wp2_with fail;refine x.mono ?_;rintro e h ⟨rfl,o⟩;obtain⟨t,r,I⟩:=N.out A.out h o;obtain⟨x0,x1,y0,y1⟩:=t.two;obtain⟨L,M,s0,s1⟩:=r.res.two;have H:Hid (PlPost w a s i z a1 (Ls.fXe (Ls.pat (13-z)) (Ls.fXa (12-z)) (n+1) (rest s i)) (.returned (C5 (Ls.eX7 l) (.func (.func f) #[] b))) ((h.setCell ⟨w.heap.size+1,0,none⟩ (.int .i64 (Ls.eX7 l))).setCell ⟨w.heap.size+1,1,none⟩ (.func (.func f) #[] b))):=I;clear t r I x N;go_wp2_with fail;exact bodyPost_ret (v:=C5 (Ls.eX7 l) (.func (.func f) #[] b)) (by simp[results,Tryz.results119,go_sem,L,M]) rfl H.out
 ·have HN:Hid (Ls.fXe (Ls.pat (13-z)) (Ls.fXa (12-z)) (n+1) (rest s i)=.none):=aXc C
  clear C;go_wp2_with fail;exact⟨rfl,.inr ⟨HN.out,rfl,hg⟩⟩
def dQy (s:ByteArray)(a1:Addr)(z n:Nat):Prop:=∀(rb i:Nat) (w:World),RB w rb s i z->Env w rb a1->i<=s.size->(rest s i).length<n->
 Ca 104 #[D3 rb] w (PlPost w rb s i z a1 (Ls.gXa (Ls.pat (13-z)) (Ls.fXa (12-z)) n (rest s i)))
theorem zQ4 (s:ByteArray)(hs:s.size<=120)(a1:Addr)(z n:Nat)(hP:∀n,bQq s a1 z n)(hR:dQy s a1 z n):dQy s a1 z (n+1):=by
 intro b i w a6 S hi hn;have A:Hid (Inp w b s i z (I9 w b)):=Inp.enter a6;have HE:Hid (Env w b a1):=S;have hC:Calls Tryz.prog 119 #[D3 b] (I9 w b) (aQo w b s i z a1 (Ls.fXe (Ls.pat (13-z)) (Ls.fXa (12-z)) ((rest s i).length+1) (rest s i))):=(hP _ b i _ A.out.lies (A.out.env S) hi (Nat.lt_succ_self _)).mono fun e h a=>a.mid A.out;have b9:Hid (dQy s a1 z n):=hR;clear hP hR S a6 A;go_enter Tryz.func104,Tryz.ntmps104;go_wp2_with fail;refine hC.mono ?_;clear hC;rintro e d (⟨l,j,f,c,u,c2,hj,rfl,E,a8⟩|⟨u,rfl,Z⟩)
 ·have P:Hid (Ls.fXe (Ls.pat (13-z)) (Ls.fXa (12-z)) ((rest s i).length+1) (rest s i)=some (l,rest s j)):=u
  have Y:=A5 d (L7 (Ls.eX7 l) f c);have b3:Blk (d.alloc (L7 (Ls.eX7 l) f c)) d.heap.size #[.int .i64 (Ls.eX7 l),.func (.func f) #[] c] 130:=Blk.new d _ _;have T:=E.below Y;have d2:(d.alloc (L7 (Ls.eX7 l) f c)).heap.size=d.heap.size+1:=by simp
  have d1:=E.size;have ho:=E.inn.old;have a4:Hid (PlanV (d.alloc (L7 (Ls.eX7 l) f c)) (fun q=>w.heap.size+1<q/\q<d.heap.size) l (.func (.func f) #[] c)):=PlanV.mono (fun q a=>a) (fun q a=>Y.block q a.2) _ _ a8;clear u a8 Y E;go_upto_region 2 with (fail);generalize d.alloc (L7 (Ls.eX7 l) f c)=M at *;have b2:=T.cell;have a5:Hid (Blk M d.heap.size #[.int .i64 (Ls.eX7 l),.func (.func f) #[] c] 130):=b3;have B:Hid (Inp w b s j z M):=T;clear b3 T;cases o:A7 s j 124 with
  | false=>
   have r:=X5 b s j z 124 M B.out.lies (by omega) (by omega) o;have C:Hid ((rest s j).head?≠some 124):=by show _≠_;rw[Ne,C4,o];simp
   clear o;go_wp2_with fail;refine r.mono ?_;rintro e w3 ⟨rfl,J⟩;have U:=B.out.go J;have d3:=J.grown.size;have b5:=a5.out.of (J.grown.block _ (by omega) (by simp;omega));obtain⟨x0,x1,y0,y1⟩:=b5.two;obtain⟨r0,r1,s0,s1⟩:=U.res.two;have O:Hid (PlPost w b s i z a1 (Ls.gXa (Ls.pat (13-z)) (Ls.fXa (12-z)) (n+1) (rest s i)) (.returned (C5 (Ls.eX7 l) (.func (.func f) #[] c))) ((w3.setCell ⟨w.heap.size+1,0,none⟩ (.int .i64 (Ls.eX7 l))).setCell ⟨w.heap.size+1,1,none⟩ (.func (.func f) #[] c))):=
    U.ret (qQ7 P.out C.out) c2 hj (PlanV.mono (fun q a=>⟨a.1,by have:=a.2;omega⟩) (fun q a=>J.grown.block q (by have:=a.2;omega) (by have:=a.1;simp;omega)) _ _ a4.out)
   clear b5 U r b2;go_wp2_with fail;exact bodyPost_ret (v:=C5 (Ls.eX7 l) (.func (.func f) #[] c)) (by simp[results,Tryz.results104,go_sem,r0,r1]) rfl O.out
  | true=>
   have r:=Z5 b s j z 124 M B.out.lies (by omega) o;have C:Hid ((rest s j).head?=some 124):=C4.2 o;have c9:=(D9 o).1;clear o;go_wp2_with fail;refine r.mono ?_;rintro e y ⟨rfl,t⟩;have V:=B.out.go t;have a2:=a5.out.of (t.grown.block _ (by omega) (by simp;omega));have b4:=V.cell;have d4:=t.grown.size;obtain⟨x0,x1,y0,y1⟩:=a2.two;have c0:Hid (Blk y d.heap.size #[.int .i64 (Ls.eX7 l),.func (.func f) #[] c] 130):=a2;have b6:Hid (Inp w b s (j+1) z y):=V;have b8:Hid (PlanV y (fun q=>w.heap.size+1<q/\q<d.heap.size) l (.func (.func f) #[] c)):=PlanV.mono (fun q a=>a) (fun q a=>t.grown.block q (by have:=a.2;omega) (by have:=a.1;simp;omega)) _ _ a4.out;have b7:Hid (∀W,Below y.heap.size y W->Calls Tryz.prog 104 #[D3 b] W fun e h=>
     (∃m k g p,Ls.gXa (Ls.pat (13-z)) (Ls.fXa (12-z)) n (rest s j).tail=some (m,rest s k)/\j+1+Ls.eX7 m<=k/\k<=s.size/\e=.returned (C5 (Ls.eX7 m) (.func (.func g) #[] p))/\Inp w b s k z h/\Blk h d.heap.size #[.int .i64 (Ls.eX7 l),.func (.func f) #[] c] 130/\
      PlanV h (fun q=>w.heap.size+1<q/\q<h.heap.size) l (.func (.func f) #[] c)/\PlanV h (fun q=>w.heap.size+1<q/\q<h.heap.size) m (.func (.func g) #[] p))\/
     (Ls.gXa (Ls.pat (13-z)) (Ls.fXa (12-z)) n (rest s j).tail=.none/\K6 w b a1 e h)):=by
    intro W H;have G:=b6.out.below H;have c7:=H.size;rw[E7];refine(b9.out b (j+1) W G.lies (G.env HE.out) (by omega) (by rw[F4]at hn ⊢;omega)).mono ?_;rintro e h (⟨m,k,g,p,a0,h1,h2,rfl,c4,I⟩|⟨a0,rfl,Z⟩)
    ·have c8:=I.grown.size
     refine .inl ⟨m,k,g,p,a0,h1,h2,rfl,G.go I,(c0.out.below H (by omega)).of (I.grown.block _ (by omega) (by simp;omega)),PlanV.mono (fun q a=>⟨a.1,by have:=a.2;omega⟩) (fun q a=>?_) _ _ b8.out,PlanV.mono (fun q a=>⟨by have:=a.1;omega,a.2⟩) (fun _ _=>rfl) _ _ c4⟩;rw[I.grown.block q (by have:=a.2;omega) (by have:=a.1;simp;omega)];exact H.block q (by have:=a.2;omega)
    ·exact .inr ⟨a0,rfl,G.threw rfl Z⟩
   clear a2 V b2 t r;go_wp2_with fail;go_region_held (fun h=>h.cell? ⟨w.heap.size,0,none⟩=some (.pointer (some ⟨b,0,none⟩))/\h.cell? ⟨d.heap.size,0,none⟩=some (.int .i64 (Ls.eX7 l))/\h.cell? ⟨d.heap.size,1,none⟩=some (.func (.func f) #[] c)) (first|assumption|(go_keep;done)|(refine eQ0 ?_ ?_ ?_ ?_ ?_<;>first|omega|exact L.1|exact L.2.1|exact L.2.2|assumption))
    (first
     | (go_at_call 104;refine(b7.out _ ?_).mono ?_;exact(Below.refl _ _).drew;rintro e w5 (⟨m,k,g,p,K,d0,c3,rfl,X,x,a9,b1⟩|⟨K,rfl,c1⟩);rotate_left;(go_wp2_with fail;exact⟨rfl,.inr ⟨qQ4 P.out C.out K,rfl,c1⟩⟩);have c5:w5.cell? ⟨w.heap.size,0,none⟩=some (.pointer (some ⟨b,0,none⟩))/\w5.cell? ⟨d.heap.size,0,none⟩=some (.int .i64 (Ls.eX7 l))/\w5.cell? ⟨d.heap.size,1,none⟩=some (.func (.func f) #[] c):=⟨X.cell,x.two.1,x.two.2.1⟩;have c6:=x.lt)
     | (go_at_call 121;refine(kQ0 s z b k 5 (.inr (.inr rfl)) l m f g c p w _ X (by omega) (by omega) _ rfl a9 b1).mono ?_;rintro e N ⟨R,Q,rfl,F,b0,a7⟩;obtain⟨r0,r1,s0,s1⟩:=F.res.two;have a3:=x.below a7 c6;have L:N.cell? ⟨w.heap.size,0,none⟩=some (.pointer (some ⟨b,0,none⟩))/\N.cell? ⟨d.heap.size,0,none⟩=some (.int .i64 (Ls.eX7 l))/\N.cell? ⟨d.heap.size,1,none⟩=some (.func (.func f) #[] c):=⟨F.cell,a3.two.1,a3.two.2.1⟩))
   all_goals
    have O:Hid (PlPost w b s i z a1 (Ls.gXa (Ls.pat (13-z)) (Ls.fXa (12-z)) (n+1) (rest s i)) (.returned (C5 (Ls.eX7 l+Ls.eX7 m) (.func (.func R) #[] Q))) ((N.setCell ⟨w.heap.size+1,0,none⟩ (.int .i64 ((Ls.eX7 l:Int)+(Ls.eX7 m:Int)))).setCell ⟨w.heap.size+1,1,none⟩ (.func (.func R) #[] Q))):=by
     have:=F.ret (i:=i) (a1:=a1) (l:=Ls.fXn l m) (qQ5 P.out C.out K) (by rw[Ls.iXk];omega) c3 b0;rw[Ls.iXk,Int.natCast_add]at this;exact this
    clear b0 F a3 L a7 a9 b1 X x c5 K;go_wp2_with fail;exact bodyPost_ret (v:=C5 (Ls.eX7 l+Ls.eX7 m) (.func (.func R) #[] Q)) (by simp[results,Tryz.results104,go_sem,r0,r1]) rfl O.out
 ·have HN:Hid (Ls.gXa (Ls.pat (13-z)) (Ls.fXa (12-z)) (n+1) (rest s i)=.none):=yQz u
  clear u;go_wp2_with fail;exact⟨rfl,.inr ⟨HN.out,rfl,Z⟩⟩
theorem hQ5 {s:ByteArray}(hs:s.size<=120){a:Addr}{z:Nat}(b:fQ7 s a z):∀n,bQq s a z n
 | 0=>fun _ _ _ _ _ _ c=>absurd c (Nat.not_lt_zero _)
 | n+1=>aXi s hs a z n b (hQ5 hs b n)
theorem hQy {s:ByteArray}(hs:s.size<=120){a:Addr}{z:Nat}(b:∀n,bQq s a z n):∀n,dQy s a z n
 | 0=>fun _ _ _ _ _ _ c=>absurd c (Nat.not_lt_zero _)
 | n+1=>zQ4 s hs a z n b (hQy hs b n)
theorem zQ3 {s:ByteArray}(hs:s.size<=120){a:Addr}(e:dQu s a):∀m,m<=12->Z8 s a (12-m):=by
 intro m;induction m with
 | zero=>
  intro _ d i w h b c;have:=hQy hs (hQ5 hs (mQj s hs a 12 (by omega) e (fun h=>by omega))) ((rest s i).length+1) d i w h b c (Nat.lt_succ_self _);exact this
 | succ m g=>
  intro j d i w h b c;have f:=mQj s hs a (12-(m+1)) (by omega) e (fun _=>by rw[show 12-(m+1)+1=12-m from by omega];exact g (by omega));have:=hQy hs (hQ5 hs f) ((rest s i).length+1) d i w h b c (Nat.lt_succ_self _);rw[show 13-(12-(m+1))=(12-(12-(m+1)))+1 from by omega]at this ⊢;exact this
end Go.Proofs.YtfklinjaajafgaaGreatDoor
