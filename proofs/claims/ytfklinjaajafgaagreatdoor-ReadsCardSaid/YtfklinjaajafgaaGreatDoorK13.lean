import Derived.Test.YtfklinjaajafgaaGreatDoorK11
set_option maxRecDepth 100000
set_option maxHeartbeats 4000000
namespace Go.Proofs.YtfklinjaajafgaaGreatDoor
open Go.RowKit
def aQo (w:World)(rb:Nat)(s:ByteArray)(i z:Nat)(a1:Addr)(res:Ls.Rl):Ending->World->Prop:=fun e w'=>
 (∃l j f caps,res=some (l,rest s j)/\i+Ls.eX7 l<=j/\j<=s.size/\e=.returned (C5 (Ls.eX7 l) (.func (.func f) #[] caps))/\Inp w rb s j z w'/\PlanV w' (fun q=>w.heap.size+1<q/\q<w'.heap.size) l (.func (.func f) #[] caps))\/
 (res=.none/\K6 w rb a1 e w')
theorem PlPost.mid {w W:World}{d:Nat}{s:ByteArray}{i y z A:Nat}{g:Addr}{m:Ls.Rl}{e:Ending}{n:World}(h:PlPost W d s i z g m e n)(a:Inp w d s y A W):aQo w d s i z g m e n:=by
 have x:=a.size;rcases h with⟨l,j,f,o,c,p,r,b,v,u⟩|⟨c,b,t⟩
 ·exact .inl ⟨l,j,f,o,c,p,r,b,a.go u,PlanV.mono (fun q k=>⟨Ll x k.1,k.2⟩) (fun _ _=>rfl) _ _ v⟩
 ·exact .inr ⟨c,b,a.threw rfl t⟩
theorem nQs {s:ByteArray}{j:Nat}(l:Ls.Ln)(a:j<=s.size):j+Ls.eX7 (N8 s j l)<=U1 s j+Ls.eX7 l/\j<=U1 s j/\U1 s j<=s.size:=by
 unfold N8 U1;cases h:A7 s j 42 with
 | true=>
  have:=(D9 h).1;simp only[if_true];rw[Ls.hXi];omega
 | false=>simp[a]
theorem nQt (s:ByteArray)(hs:s.size<=120)(z d j:Nat)(l:Ls.Ln)(f:Nat)(k:Array Value)(w W:World)(c:Inp w d s j z W)(n:j<=s.size)(o:Ls.eX7 l<=120)(p:PlanV W (fun q=>w.heap.size+1<q/\q<W.heap.size) l (.func (.func f) #[] k)) :
  Calls Tryz.prog 144 #[D3 d,C5 (Ls.eX7 l) (.func (.func f) #[] k)] W fun e i=>
   ∃g b,e=.returned (C5 (Ls.eX7 (N8 s j l)) (.func (.func g) #[] b))/\Inp w d s (U1 s j) z i/\PlanV i (fun q=>w.heap.size+1<q/\q<i.heap.size) (N8 s j l) (.func (.func g) #[] b):=by
 have t:=c.inn.old;have u:=c.size;refine(cXw s hs z d j l f k W _ (fun q a=>a.2) (fun h=>by have:=h.1;omega) c.lies n o p).mono ?_;rintro e i ⟨g,b,rfl,r,m⟩;have v:=m.grown.size;refine⟨g,b,rfl,c.go m,PlanV.mono (fun q a=>?_) (fun _ _=>rfl) _ _ r⟩;rcases a with a|a
 ·exact⟨a.1,by have:=a.2;omega⟩
 ·exact⟨by have:=a.1;omega,a.2⟩
theorem qQ0 (s:ByteArray)(z m j k:Nat)(n:k=6\/k=7)(l:Ls.Ln)(f:Nat)(d:Array Value)(w W:World)(h:Inp w m s j z W)(r:Ls.eX7 l<=120)(o:PlanV W (fun q=>w.heap.size+1<q/\q<W.heap.size) l (.func (.func f) #[] d)) :
  Calls Tryz.prog 147 #[C5 (Ls.eX7 l) (.func (.func f) #[] d),.func (.func (N7 k)) #[] #[]] W fun e c=>
   ∃g b,e=.returned (C5 (Ls.eX7 l+1) (.func (.func g) #[] b))/\Inp w m s j z c/\PlanV c (fun q=>w.heap.size+1<q/\q<c.heap.size) ⟨k,Ls.rnil,[],[l]⟩ (.func (.func g) #[] b):=by
 have t:=h.size;refine(lQ6 k n l (Ls.eX7 l) f d (by omega) W _ (fun q a=>a.2) o).mono ?_;rintro e c ⟨g,b,rfl,p,i⟩;have u:=i.size;refine⟨g,b,rfl,h.below i,PlanV.mono (fun q a=>?_) (fun _ _=>rfl) _ _ p⟩;rcases a with a|a
 ·exact⟨a.1,by have:=a.2;omega⟩
 ·exact⟨by have:=a.1;omega,a.2⟩
section
variable {P:List UInt8->Ls.Rd} {Q:List UInt8->Ls.Rl} {s:ByteArray} {i:Nat}
theorem zQ6 (b:i<s.size)(a:nx s i=47):Ls.fXk P Q (rest s i)=match Y5 P (rest s (i+1)) with|.none=>.none|some (l,u)=>some (Ls.fX9 l u):=by
 rw[D4 b,a,Ls.fXk,if_pos rfl];unfold Y5;cases h:Ls.fXj P (rest s (i+1)) with
 | none=>rfl
 | some q=>obtain⟨d,u⟩:=q;rfl
theorem aXa (f:i<s.size)(e:nx s i=40):Ls.fXk P Q (rest s i)=match J3 Q (rest s (i+1)) with|.none=>.none|some (l,u)=>some (Ls.fX9 l u):=by
 rw[D4 f,e,Ls.fXk,if_neg (by decide),if_neg (by decide),if_neg (by decide),if_neg (by decide),if_pos rfl];unfold J3;cases h:Q (rest s (i+1)) with
 | none=>rfl
 | some q=>
  obtain⟨a,u⟩:=q;dsimp only
  by_cases d:u.head?=some 126
  ·rw[if_pos d,if_pos d]
   cases j:Q u.tail with
   | none=>rfl
   | some g=>
    obtain⟨b,v⟩:=g;dsimp only
    by_cases c:v.head?=some 41
    ·rw[if_pos c,if_pos c]
    ·rw[if_neg c,if_neg c]
  ·rw[if_neg d,if_neg d]
   by_cases c:u.head?=some 41
   ·rw[if_pos c,if_pos c]
   ·rw[if_neg c,if_neg c]
theorem zQg (d:i<s.size)(c:nx s i=60):Ls.fXk P Q (rest s i)=match S4 Q (rest s (i+1)) with|.none=>.none|some (l,u)=>some (Ls.gXl l,u):=by
 rw[D4 d,c,Ls.fXk,if_neg (by decide),if_neg (by decide),if_neg (by decide),if_pos rfl];unfold S4;cases h:Q (rest s (i+1)) with
 | none=>rfl
 | some q=>
  obtain⟨a,u⟩:=q;dsimp only
  by_cases b:u.head?=some 62
  ·rw[if_pos b,if_pos b]
  ·rw[if_neg b,if_neg b]
theorem zQ8 (b:i<s.size)(a:nx s i=45):Ls.fXk P Q (rest s i)=Q5 P (rest s (i+1)):=by
 rw[D4 b,a,Ls.fXk,if_neg (by decide),if_pos rfl];rfl
theorem zQ9 (b:i<s.size)(a:nx s i=43):Ls.fXk P Q (rest s i)=aQb (rest s (i+1)):=by
 rw[D4 b,a,Ls.fXk,if_neg (by decide),if_neg (by decide),if_pos rfl];rfl
theorem zQe (f:i<s.size)(a:nx s i≠47)(b:nx s i≠40)(c:nx s i≠60)(d:nx s i≠45)(e:nx s i≠43):Ls.fXk P Q (rest s i)=.none:=by
 rw[D4 f,Ls.fXk,if_neg a,if_neg d,if_neg e,if_neg c,if_neg b]
end
def fQ7 (s:ByteArray)(a1:Addr)(z:Nat):Prop:=∀(rb i:Nat) (w:World),RB w rb s i z->Env w rb a1->i<=s.size->
 Ca 130 #[D3 rb] w (PlPost w rb s i z a1 (Ls.fXk (Ls.pat (13-z)) (Ls.fXa (12-z)) (rest s i)))
theorem zQ7 (s:ByteArray)(hs:s.size<=120)(c:Addr)(z a i:Nat)(w:World)(h:RB w a s i z)(f:Env w a c)(j:i=s.size) :
  Calls Tryz.prog 130 #[D3 a] w (PlPost w a s i z c (Ls.fXk (Ls.pat (13-z)) (Ls.fXa (12-z)) (rest s i))):=by
 subst j;have d:Hid (Ls.fXk (Ls.pat (13-z)) (Ls.fXa (12-z)) (rest s s.size)=.none):=by show _=_;rw[P4 (by omega)];rfl
 have b:Hid (Inp w a s s.size z (I9 w a)):=Inp.enter h;have k:=dQi a s s.size z c _ b.out.lies (b.out.env f) (by omega) (by omega) (by omega);go_enter Tryz.func130,Tryz.ntmps130;go_wp2_with fail;refine k.mono ?_;rintro e l ⟨rfl,g⟩;go_wp2_with fail;exact⟨rfl,.inr ⟨d.out,rfl,b.out.threw rfl g⟩⟩
theorem yQ3 (s:ByteArray)(hs:s.size<=120)(b:Addr)(z:Nat)(O:z<=12)(a i:Nat)(w:World)(h:RB w a s i z)(A:Env w a b)(B:i<s.size)(r:nx s i=47) :
  Calls Tryz.prog 130 #[D3 a] w (PlPost w a s i z b (Ls.fXk (Ls.pat (13-z)) (Ls.fXa (12-z)) (rest s i))):=by
 have y:Hid (Ls.fXk (Ls.pat (13-z)) (Ls.fXa (12-z)) (rest s i)=match Y5 (Ls.pat (13-z)) (rest s (i+1)) with|.none=>.none|some (l,u)=>some (Ls.fX9 l u)):=zQ6 B r;have k:Hid (Inp w a s i z (I9 w a)):=Inp.enter h;have t:=O2 a s i z _ k.out.lies (by omega) B;have J:Hid (Env w a b):=A;rw[r]at t;clear r A h;go_enter Tryz.func130,Tryz.ntmps130;go_wp2_with fail;refine t.mono ?_;rintro e x ⟨rfl,E⟩;have o:=k.out.go E;have S:=o.cell;have m:Hid (Inp w a s (i+1) z x):=o;have I:Hid (∀W,Below x.heap.size x W->Calls Tryz.prog 145 #[D3 a] W (aQo w a s (i+1) z b (Y5 (Ls.pat (13-z)) (rest s (i+1))))):=fun W q=>
  (zQv s hs b z O a (i+1) W (m.out.below q).lies ((m.out.below q).env J.out) (by omega)).mono fun e H N=>N.mid (m.out.below q)
 clear t E o k;go_wp2_with fail;go_region_held (fun H=>H.cell? ⟨w.heap.size,0,none⟩=some (.pointer (some ⟨a,0,none⟩))) (first|assumption|go_keep|(simp[World.cell?_setCell_far];assumption))
  (first
   | (go_at_call 145;refine(I.out _ ?_).mono ?_;exact(Below.refl _ _).drew;rintro e Z (⟨l,j,f,L,d,V,C,rfl,p,F⟩|⟨d,rfl,M⟩);rotate_left;(go_wp2_with fail;exact⟨rfl,.inr ⟨by rw[y.out,d],rfl,M⟩⟩);have T:=p.cell)
   | (go_at_call 144;refine(nQt s hs z a j l f L w _ p C (by omega) F).mono ?_;rintro e R ⟨g,n,rfl,c,G⟩;have U:=c.cell;obtain⟨P,Q,Y,s1⟩:=c.res.two))
 all_goals
  have X:=nQs l C;have K:Hid (PlPost w a s i z b (Ls.fXk (Ls.pat (13-z)) (Ls.fXa (12-z)) (rest s i)) (.returned (C5 (Ls.eX7 (N8 s j l)) (.func (.func g) #[] n))) ((R.setCell ⟨w.heap.size+1,0,none⟩ (.int .i64 (Ls.eX7 (N8 s j l)))).setCell ⟨w.heap.size+1,1,none⟩ (.func (.func g) #[] n))):=
   c.ret (by rw[y.out,d];dsimp only;rw[iQ5]) (by omega) (by omega) G
  clear G F c p d;go_wp2_with fail;exact bodyPost_ret (v:=C5 (Ls.eX7 (N8 s j l)) (.func (.func g) #[] n)) (by simp[results,Tryz.results130,go_sem,P,Q]) rfl K.out
theorem yQ0 (s:ByteArray)(hs:s.size<=120)(b:Addr)(z:Nat)(P:z<=12)(B:z<=11->Z8 s b (z+1))(a i:Nat)(w:World)(h:RB w a s i z)(A:Env w a b)(C:i<s.size)(r:nx s i=40) :
  Calls Tryz.prog 130 #[D3 a] w (PlPost w a s i z b (Ls.fXk (Ls.pat (13-z)) (Ls.fXa (12-z)) (rest s i))):=by
 have y:Hid (Ls.fXk (Ls.pat (13-z)) (Ls.fXa (12-z)) (rest s i)=match J3 (Ls.fXa (12-z)) (rest s (i+1)) with|.none=>.none|some (l,u)=>some (Ls.fX9 l u)):=aXa C r;have k:Hid (Inp w a s i z (I9 w a)):=Inp.enter h;have t:=O2 a s i z _ k.out.lies (by omega) C;have K:Hid (Env w a b):=A;rw[r]at t;clear r A h;go_enter Tryz.func130,Tryz.ntmps130;go_wp2_with fail;refine t.mono ?_;rintro e x ⟨rfl,F⟩;have o:=k.out.go F;have T:=o.cell;have m:Hid (Inp w a s (i+1) z x):=o;have J:Hid (∀W,Below x.heap.size x W->Calls Tryz.prog 146 #[D3 a] W (aQo w a s (i+1) z b (J3 (Ls.fXa (12-z)) (rest s (i+1))))):=fun W q=>
  (bXm s hs b z P B a (i+1) W (m.out.below q).lies ((m.out.below q).env K.out) (by omega)).mono fun e I O=>O.mid (m.out.below q)
 clear t F o k B;go_wp2_with fail;go_region_held (fun I=>I.cell? ⟨w.heap.size,0,none⟩=some (.pointer (some ⟨a,0,none⟩))) (first|assumption|go_keep|(simp[World.cell?_setCell_far];assumption))
  (first
   | (go_at_call 146;refine(J.out _ ?_).mono ?_;exact(Below.refl _ _).drew;rintro e w2 (⟨l,j,f,M,d,X,E,rfl,p,G⟩|⟨d,rfl,N⟩);rotate_left;(go_wp2_with fail;exact⟨rfl,.inr ⟨by rw[y.out,d],rfl,N⟩⟩);have U:=p.cell)
   | (go_at_call 144;refine(nQt s hs z a j l f M w _ p E (by omega) G).mono ?_;rintro e S ⟨g,n,rfl,c,H⟩;have V:=c.cell;obtain⟨Q,R,Z,s1⟩:=c.res.two))
 all_goals
  have Y:=nQs l E;have L:Hid (PlPost w a s i z b (Ls.fXk (Ls.pat (13-z)) (Ls.fXa (12-z)) (rest s i)) (.returned (C5 (Ls.eX7 (N8 s j l)) (.func (.func g) #[] n))) ((S.setCell ⟨w.heap.size+1,0,none⟩ (.int .i64 (Ls.eX7 (N8 s j l)))).setCell ⟨w.heap.size+1,1,none⟩ (.func (.func g) #[] n))):=
   c.ret (by rw[y.out,d];dsimp only;rw[iQ5]) (by omega) (by omega) H
  clear H G c p d;go_wp2_with fail;exact bodyPost_ret (v:=C5 (Ls.eX7 (N8 s j l)) (.func (.func g) #[] n)) (by simp[results,Tryz.results130,go_sem,Q,R]) rfl L.out
theorem yQ2 (s:ByteArray)(hs:s.size<=120)(b:Addr)(z:Nat)(I:z<=12)(E:dQu s b)(a i:Nat)(w:World)(h:RB w a s i z)(r:Env w a b)(t:i<s.size)(o:nx s i=45) :
  Calls Tryz.prog 130 #[D3 a] w (PlPost w a s i z b (Ls.fXk (Ls.pat (13-z)) (Ls.fXa (12-z)) (rest s i))):=by
 have q:Hid (Ls.fXk (Ls.pat (13-z)) (Ls.fXa (12-z)) (rest s i)=Q5 (Ls.pat (13-z)) (rest s (i+1))):=zQ8 t o;have g:Hid (Inp w a s i z (I9 w a)):=Inp.enter h;have p:=O2 a s i z _ g.out.lies (by omega) t;have A:Hid (Env w a b):=r;rw[o]at p;clear o r h;go_enter Tryz.func130,Tryz.ntmps130;go_wp2_with fail;refine p.mono ?_;rintro e y ⟨rfl,u⟩;have c:=g.out.go u;have M:=c.cell;have m:Ca 150 #[D3 a] y (aQo w a s (i+1) z b (Q5 (Ls.pat (13-z)) (rest s (i+1)))):=(E z a (i+1) y I c.lies (c.env A.out) (by omega)).mono fun e P H=>H.mid c;clear p u g;go_wp2_with fail;refine m.mono ?_;rintro e L (⟨l,j,f,k,d,N,G,rfl,n,x⟩|⟨d,rfl,F⟩)
 ·obtain⟨J,K,O,s1⟩:=n.res.two
  have C:Hid (PlPost w a s i z b (Ls.fXk (Ls.pat (13-z)) (Ls.fXa (12-z)) (rest s i)) (.returned (C5 (Ls.eX7 l) (.func (.func f) #[] k))) ((L.setCell ⟨w.heap.size+1,0,none⟩ (Iv (Ls.eX7 l))).setCell ⟨w.heap.size+1,1,none⟩ (.func (.func f) #[] k))):=
   n.ret (q.out.trans d) (by omega) G x
  clear x n d m c;go_wp2_with fail;exact bodyPost_ret (v:=C5 (Ls.eX7 l) (.func (.func f) #[] k)) (by simp[results,Tryz.results130,go_sem,J,K]) rfl C.out
 ·have B:Hid (Ls.fXk (Ls.pat (13-z)) (Ls.fXa (12-z)) (rest s i)=.none):=q.out.trans d
  clear d m;go_wp2_with fail;exact⟨rfl,.inr ⟨B.out,rfl,F⟩⟩
theorem yQ1 (s:ByteArray)(hs:s.size<=120)(b:Addr)(z:Nat)(a i:Nat)(w:World)(h:RB w a s i z)(r:Env w a b)(t:i<s.size)(o:nx s i=43) :
  Calls Tryz.prog 130 #[D3 a] w (PlPost w a s i z b (Ls.fXk (Ls.pat (13-z)) (Ls.fXa (12-z)) (rest s i))):=by
 have q:Hid (Ls.fXk (Ls.pat (13-z)) (Ls.fXa (12-z)) (rest s i)=aQb (rest s (i+1))):=zQ9 t o;have g:Hid (Inp w a s i z (I9 w a)):=Inp.enter h;have p:=O2 a s i z _ g.out.lies (by omega) t;have A:Hid (Env w a b):=r;rw[o]at p;clear o r h;go_enter Tryz.func130,Tryz.ntmps130;go_wp2_with fail;refine p.mono ?_;rintro e y ⟨rfl,u⟩;have c:=g.out.go u;have K:=c.cell;have m:Ca 151 #[D3 a] y (aQo w a s (i+1) z b (aQb (rest s (i+1)))):=(aXe s hs b z a (i+1) y c.lies (c.env A.out) (by omega)).mono fun e N G=>G.mid c;clear p u g;go_wp2_with fail;refine m.mono ?_;rintro e J (⟨l,j,f,k,d,L,F,rfl,n,x⟩|⟨d,rfl,E⟩)
 ·obtain⟨H,I,M,s1⟩:=n.res.two
  have C:Hid (PlPost w a s i z b (Ls.fXk (Ls.pat (13-z)) (Ls.fXa (12-z)) (rest s i)) (.returned (C5 (Ls.eX7 l) (.func (.func f) #[] k))) ((J.setCell ⟨w.heap.size+1,0,none⟩ (Iv (Ls.eX7 l))).setCell ⟨w.heap.size+1,1,none⟩ (.func (.func f) #[] k))):=
   n.ret (q.out.trans d) (by omega) F x
  clear x n d m c;go_wp2_with fail;exact bodyPost_ret (v:=C5 (Ls.eX7 l) (.func (.func f) #[] k)) (by simp[results,Tryz.results130,go_sem,H,I]) rfl C.out
 ·have B:Hid (Ls.fXk (Ls.pat (13-z)) (Ls.fXa (12-z)) (rest s i)=.none):=q.out.trans d
  clear d m;go_wp2_with fail;exact⟨rfl,.inr ⟨B.out,rfl,E⟩⟩
theorem yQ4 (s:ByteArray)(hs:s.size<=120)(a1:Addr)(z:Nat)(O:z<=12)(y:z<=11->Z8 s a1 (z+1))(a i:Nat)(w:World)(h:RB w a s i z)(t:Env w a a1)(A:i<s.size)(o:nx s i=60) :
  Calls Tryz.prog 130 #[D3 a] w (PlPost w a s i z a1 (Ls.fXk (Ls.pat (13-z)) (Ls.fXa (12-z)) (rest s i))):=by
 have q:Hid (Ls.fXk (Ls.pat (13-z)) (Ls.fXa (12-z)) (rest s i)=match S4 (Ls.fXa (12-z)) (rest s (i+1)) with|.none=>.none|some (l,u)=>some (Ls.gXl l,u)):=zQg A o;have d:Hid (Inp w a s i z (I9 w a)):=Inp.enter h;have p:=O2 a s i z _ d.out.lies (by omega) A;have G:Hid (Env w a a1):=t;rw[o]at p;clear o t h;go_enter Tryz.func130,Tryz.ntmps130;go_wp2_with fail;refine p.mono ?_;rintro e F ⟨rfl,B⟩;have b:=d.out.go B;have T:=b.cell;have m:Ca 148 #[D3 a] F (aQo w a s (i+1) z a1 (S4 (Ls.fXa (12-z)) (rest s (i+1)))):=(zQ5 s hs a1 z O y a (i+1) F b.lies (b.env G.out) (by omega)).mono fun e W N=>N.mid b;clear p B d y;go_wp2_with fail;refine m.mono ?_;rintro e R (⟨l,j,f,K,c,U,M,rfl,x,C⟩|⟨c,rfl,L⟩)
 ·have J:Hid (Ls.fXk (Ls.pat (13-z)) (Ls.fXa (12-z)) (rest s i)=some (Ls.gXl l,rest s j)):=by show _=_;rw[q.out,c]
  have r:=qQ0 s z a j 7 (.inr rfl) l f K w R x (by omega) C;clear C x c m b;go_wp2_with fail;refine r.mono ?_;rintro e S ⟨g,k,rfl,n,E⟩;obtain⟨P,Q,V,s1⟩:=n.res.two;have I:Hid (PlPost w a s i z a1 (Ls.fXk (Ls.pat (13-z)) (Ls.fXa (12-z)) (rest s i)) (.returned (C5 (Ls.eX7 l+1) (.func (.func g) #[] k))) ((S.setCell ⟨w.heap.size+1,0,none⟩ (Iv ((Ls.eX7 l+1:Nat):Int))).setCell ⟨w.heap.size+1,1,none⟩ (.func (.func g) #[] k))):=by
   have:=n.ret (i:=i) (a1:=a1) (l:=Ls.gXl l) J.out (by rw[Ls.hX9];omega) M E;rw[Ls.hX9]at this;exact this
  clear E n r;go_wp2_with fail;exact bodyPost_ret (v:=C5 (Ls.eX7 l+1) (.func (.func g) #[] k)) (by simp[results,Tryz.results130,go_sem,P,Q]) rfl I.out
 ·have H:Hid (Ls.fXk (Ls.pat (13-z)) (Ls.fXa (12-z)) (rest s i)=.none):=by show _=_;rw[q.out,c]
  clear c m;go_wp2_with fail;exact⟨rfl,.inr ⟨H.out,rfl,L⟩⟩
theorem zQf (s:ByteArray)(hs:s.size<=120)(b:Addr)(z a i:Nat)(w:World)(h:RB w a s i z)(p:Env w a b)(m:i<s.size)(c:nx s i≠47)(d:nx s i≠40)(f:nx s i≠60)(g:nx s i≠45)(j:nx s i≠43) :
  Calls Tryz.prog 130 #[D3 a] w (PlPost w a s i z b (Ls.fXk (Ls.pat (13-z)) (Ls.fXa (12-z)) (rest s i))):=by
 have o:Hid (Ls.fXk (Ls.pat (13-z)) (Ls.fXa (12-z)) (rest s i)=.none):=zQe m c d f g j;have l:Hid (Inp w a s i z (I9 w a)):=Inp.enter h;have n:=O2 a s i z _ l.out.lies (by omega) m;have t:(((nx s i).toNat:Int)==47)=false:=by rw[beq_eq_false_iff_ne];intro e;exact c (UInt8.toNat_inj.1 (by simpa using (by omega:(nx s i).toNat=47)))
 have u:(((nx s i).toNat:Int)==40)=false:=by rw[beq_eq_false_iff_ne];intro e;exact d (UInt8.toNat_inj.1 (by simpa using (by omega:(nx s i).toNat=40)))
 have v:(((nx s i).toNat:Int)==60)=false:=by rw[beq_eq_false_iff_ne];intro e;exact f (UInt8.toNat_inj.1 (by simpa using (by omega:(nx s i).toNat=60)))
 have x:(((nx s i).toNat:Int)==45)=false:=by rw[beq_eq_false_iff_ne];intro e;exact g (UInt8.toNat_inj.1 (by simpa using (by omega:(nx s i).toNat=45)))
 have y:(((nx s i).toNat:Int)==43)=false:=by rw[beq_eq_false_iff_ne];intro e;exact j (UInt8.toNat_inj.1 (by simpa using (by omega:(nx s i).toNat=43)))
 clear c d f g j h;go_enter Tryz.func130,Tryz.ntmps130;go_wp2_with fail;refine n.mono ?_;rintro e A ⟨rfl,q⟩;have k:=l.out.go q;have r:=k.cell;clear n;go_wp2_with fail;refine(V7 _ b _ (k.env p).sc).mono ?_;rintro e B ⟨rfl,rfl⟩;go_wp2_with fail;exact⟨rfl,.inr ⟨o.out,rfl,k.inn.left.grown⟩⟩
theorem mQj (s:ByteArray)(hs:s.size<=120)(a:Addr)(z:Nat)(e:z<=12)(n:dQu s a)(m:z<=11->Z8 s a (z+1)):fQ7 s a z:=by
 intro d i w h b o;rcases Nat.lt_or_ge i s.size with c|c
 ·by_cases f:nx s i=47
  ·exact yQ3 s hs a z e d i w h b c f
  ·by_cases g:nx s i=40
   ·exact yQ0 s hs a z e m d i w h b c g
   ·by_cases j:nx s i=60
    ·exact yQ4 s hs a z e m d i w h b c j
    ·by_cases k:nx s i=45
     ·exact yQ2 s hs a z e n d i w h b c k
     ·by_cases l:nx s i=43
      ·exact yQ1 s hs a z d i w h b c l
      ·exact zQf s hs a z d i w h b c f g j k l
 ·exact zQ7 s hs a z d i w h b (by omega)
end Go.Proofs.YtfklinjaajafgaaGreatDoor
