import Derived.Test.YtfklinjaajafgaaGreatDoorK11
set_option maxRecDepth 100000
set_option maxHeartbeats 4000000
namespace Go.Proofs.YtfklinjaajafgaaGreatDoor
open Ls hiding none
open Go.RowKit
def aQo (w:World)(rb:Nat)(s:By)(i z:Nat)(a1:Addr)(res:Rl):Ending->World->Prop:=fun e w'=>
 (∃l j f caps,res=some (l,rest s j)/\i+eX7 l<=j/\j<=s.size/\e=.returned (C5 (eX7 l) (.func (.func f) #[] caps))/\Inp w rb s j z w'/\PlanV w' (fun q=>w.heap.size+1<q/\q<w'.heap.size) l (.func (.func f) #[] caps))\/
 (res=.none/\K6 w rb a1 e w')
theorem PlPost.mid {w W:World}{d:Nat}{s:By}{i y z A:Nat}{g:Addr}{m:Rl}{e:Ending}{n:World}(h:PlPost W d s i z g m e n)(a:Inp w d s y A W):aQo w d s i z g m e n:=by
 have x:=a.size;rcases h with⟨l,j,f,o,c,p,r,b,v,u⟩|⟨c,b,t⟩
 ·exact .inl ⟨l,j,f,o,c,p,r,b,a.go u,PlanV.mono (fun q k=>⟨Ll x k.1,k.2⟩) (fun _ _=>rfl) _ _ v⟩
 ·exact .inr ⟨c,b,a.threw rfl t⟩
theorem nQs {s:By}{j:Nat}(l:Ln)(a:j<=s.size):j+eX7 (N8 s j l)<=U1 s j+eX7 l/\j<=U1 s j/\U1 s j<=s.size:=by
 unfold N8 U1;cases h:A7 s j 42 with
 | true=>
  have:=(D9 h).1;simp only[if_true];rw[hXi];omega
 | false=>simp[a]
theorem nQt (s:By)(hs:s.size<=120)(z d j:Nat)(l:Ln)(f:Nat)(k:Array Value)(w W:World)(c:Inp w d s j z W)(n:j<=s.size)(o:eX7 l<=120)(p:PlanV W (fun q=>w.heap.size+1<q/\q<W.heap.size) l (.func (.func f) #[] k)) :
  Calls Tryz.prog 144 #[D3 d,C5 (eX7 l) (.func (.func f) #[] k)] W fun e i=>
   ∃g b,e=.returned (C5 (eX7 (N8 s j l)) (.func (.func g) #[] b))/\Inp w d s (U1 s j) z i/\PlanV i (fun q=>w.heap.size+1<q/\q<i.heap.size) (N8 s j l) (.func (.func g) #[] b):=by
 have t:=c.inn.old;have u:=c.size;refine(cXw s hs z d j l f k W _ (fun q a=>a.2) (fun h=>by have:=h.1;omega) c.lies n o p).mono ?_;rintro e i ⟨g,b,rfl,r,m⟩;have v:=m.grown.size;refine⟨g,b,rfl,c.go m,PlanV.mono (fun q a=>?_) (fun _ _=>rfl) _ _ r⟩;rcases a with a|a
 ·exact⟨a.1,by have:=a.2;omega⟩
 ·exact⟨by have:=a.1;omega,a.2⟩
theorem qQ0 (s:By)(z m j k:Nat)(n:k=6\/k=7)(l:Ln)(f:Nat)(d:Array Value)(w W:World)(h:Inp w m s j z W)(r:eX7 l<=120)(o:PlanV W (fun q=>w.heap.size+1<q/\q<W.heap.size) l (.func (.func f) #[] d)) :
  Calls Tryz.prog 147 #[C5 (eX7 l) (.func (.func f) #[] d),.func (.func (N7 k)) #[] #[]] W fun e c=>
   ∃g b,e=.returned (C5 (eX7 l+1) (.func (.func g) #[] b))/\Inp w m s j z c/\PlanV c (fun q=>w.heap.size+1<q/\q<c.heap.size) ⟨k,rnil,[],[l]⟩ (.func (.func g) #[] b):=by
 have t:=h.size;refine(lQ6 k n l (eX7 l) f d (by omega) W _ (fun q a=>a.2) o).mono ?_;rintro e c ⟨g,b,rfl,p,i⟩;have u:=i.size;refine⟨g,b,rfl,h.below i,PlanV.mono (fun q a=>?_) (fun _ _=>rfl) _ _ p⟩;rcases a with a|a
 ·exact⟨a.1,by have:=a.2;omega⟩
 ·exact⟨by have:=a.1;omega,a.2⟩
section
variable {P:Lu->Rd} {Q:Lu->Rl} {s:By} {i:Nat}
theorem zQ6 (b:i<s.size)(a:nx s i=47):fXk P Q (rest s i)=match Y5 P (rest s (i+1)) with|.none=>.none|some (l,u)=>some (fX9 l u):=by
 rw[D4 b,a,fXk,if_pos rfl];unfold Y5;cases h:fXj P (rest s (i+1)) with
 | none=>rfl
 | some q=>obtain⟨d,u⟩:=q;rfl
theorem aXa (f:i<s.size)(e:nx s i=40):fXk P Q (rest s i)=match J3 Q (rest s (i+1)) with|.none=>.none|some (l,u)=>some (fX9 l u):=by
 rw[D4 f,e,fXk,if_neg (by decide),if_neg (by decide),if_neg (by decide),if_neg (by decide),if_pos rfl];unfold J3;cases h:Q (rest s (i+1)) with
 | none=>rfl
 | some q=>
  obtain⟨a,u⟩:=q;dsimp only
  by_cases d:u.head?=some 126
  ·rw[if_pos d,if_pos d]
   cases j:Q u.tail with
   | none=>rfl
   | some g=>
    obtain⟨b,v⟩:=g;dsimp only
    by_cases c:v.head?=some 41
    ·rw[if_pos c,if_pos c]
    ·rw[if_neg c,if_neg c]
  ·rw[if_neg d,if_neg d]
   by_cases c:u.head?=some 41
   ·rw[if_pos c,if_pos c]
   ·rw[if_neg c,if_neg c]
theorem zQg (d:i<s.size)(c:nx s i=60):fXk P Q (rest s i)=match S4 Q (rest s (i+1)) with|.none=>.none|some (l,u)=>some (gXl l,u):=by
 rw[D4 d,c,fXk,if_neg (by decide),if_neg (by decide),if_neg (by decide),if_pos rfl];unfold S4;cases h:Q (rest s (i+1)) with
 | none=>rfl
 | some q=>
  obtain⟨a,u⟩:=q;dsimp only
  by_cases b:u.head?=some 62
  ·rw[if_pos b,if_pos b]
  ·rw[if_neg b,if_neg b]
theorem zQ8 (b:i<s.size)(a:nx s i=45):fXk P Q (rest s i)=Q5 P (rest s (i+1)):=by
 rw[D4 b,a,fXk,if_neg (by decide),if_pos rfl];rfl
theorem zQ9 (b:i<s.size)(a:nx s i=43):fXk P Q (rest s i)=aQb (rest s (i+1)):=by
 rw[D4 b,a,fXk,if_neg (by decide),if_neg (by decide),if_pos rfl];rfl
theorem zQe (f:i<s.size)(a:nx s i≠47)(b:nx s i≠40)(c:nx s i≠60)(d:nx s i≠45)(e:nx s i≠43):fXk P Q (rest s i)=.none:=by
 rw[D4 f,fXk,if_neg a,if_neg d,if_neg e,if_neg c,if_neg b]
end
def fQ7 (s:By)(a1:Addr)(z:Nat):Prop:=∀(rb i:Nat) (w:World),RB w rb s i z->Env w rb a1->i<=s.size->
 Ca 130 #[D3 rb] w (PlPost w rb s i z a1 (fXk (pat (13-z)) (fXa (12-z)) (rest s i)))
theorem zQ7 (s:By)(hs:s.size<=120)(c:Addr)(z a i:Nat)(w:World)(h:RB w a s i z)(f:Env w a c)(j:i=s.size) :
  Calls Tryz.prog 130 #[D3 a] w (PlPost w a s i z c (fXk (pat (13-z)) (fXa (12-z)) (rest s i))):=by
 subst j;have d:Hid (fXk (pat (13-z)) (fXa (12-z)) (rest s s.size)=.none):=by show _=_;rw[P4 (by omega)];rfl
 have b:Hid _:=Inp.enter h;have k:=dQi a s s.size z c _ b.out.lies (b.out.env f) (by omega) (by omega) (by omega);go_enter Tryz.func130,Tryz.ntmps130;go_wp2_with fail;refine k.mono ?_;rintro e l ⟨rfl,g⟩;go_wp2;exact⟨rfl,.inr ⟨d.out,rfl,b.out.threw rfl g⟩⟩
theorem yQ3 (s:By)(hs:s.size<=120)(b:Addr)(z:Nat)(O:z<=12)(a i:Nat)(w:World)(h:RB w a s i z)(A:Env w a b)(B:i<s.size)(r:nx s i=47) :
  Calls Tryz.prog 130 #[D3 a] w (PlPost w a s i z b (fXk (pat (13-z)) (fXa (12-z)) (rest s i))):=by
 have y:Hid (fXk (pat (13-z)) (fXa (12-z)) (rest s i)=match Y5 (pat (13-z)) (rest s (i+1)) with|.none=>.none|some (l,u)=>some (fX9 l u)):=zQ6 B r;have k:Hid _:=Inp.enter h;have t:=O2 a s i z _ k.out.lies (by omega) B;have J:Hid _:=A;rw[r]at t;go_enter Tryz.func130,Tryz.ntmps130;go_wp2_with fail;refine t.mono ?_;rintro e x ⟨rfl,E⟩;have o:=k.out.go E;have S:=o.cell;have m:Hid _:=o;have I:Hid (∀W,Below x.heap.size x W->Calls Tryz.prog 145 #[D3 a] W (aQo w a s (i+1) z b (Y5 (pat (13-z)) (rest s (i+1))))):=fun W q=>
  (zQv s hs b z O a (i+1) W (m.out.below q).lies ((m.out.below q).env J.out) (by omega)).mono fun e H N=>N.mid (m.out.below q)
 go_wp2;go_region_held (fun H=>H.cell? ⟨w.heap.size,0,none⟩=some (.pointer (some ⟨a,0,none⟩))) (first|assumption|go_keep|(simp[World.cell?_setCell_far];assumption))
  (first
   | (go_at_call 145;refine(I.out _ ?_).mono ?_;exact(Below.refl _ _).drew;rintro e Z (⟨l,j,f,L,d,V,C,rfl,p,F⟩|⟨d,rfl,M⟩);rotate_left;(go_wp2;exact⟨rfl,.inr ⟨by rw[y.out,d],rfl,M⟩⟩);have T:=p.cell)
   | (go_at_call 144;refine(nQt s hs z a j l f L w _ p C (by omega) F).mono ?_;rintro e R ⟨g,n,rfl,c,G⟩;have U:=c.cell;obtain⟨P,Q,Y,s1⟩:=c.res.two))
 all_goals
  have X:=nQs l C;have K:Hid (PlPost w a s i z b (fXk (pat (13-z)) (fXa (12-z)) (rest s i)) (.returned (C5 (eX7 (N8 s j l)) (.func (.func g) #[] n))) ((R.setCell ⟨w.heap.size+1,0,none⟩ (.int .i64 (eX7 (N8 s j l)))).setCell ⟨w.heap.size+1,1,none⟩ (.func (.func g) #[] n))):=
   c.ret (by rw[y.out,d];dsimp only;rw[iQ5]) (by omega) (by omega) G
  clear G F c p d;go_wp2_with fail;exact bodyPost_ret (v:=C5 (eX7 (N8 s j l)) (.func (.func g) #[] n)) (by simp[results,Tryz.results130,go_sem,P,Q]) rfl K.out
theorem yQ0 (s:By)(hs:s.size<=120)(b:Addr)(z:Nat)(P:z<=12)(B:z<=11->Z8 s b (z+1))(a i:Nat)(w:World)(h:RB w a s i z)(A:Env w a b)(C:i<s.size)(r:nx s i=40) :
  Calls Tryz.prog 130 #[D3 a] w (PlPost w a s i z b (fXk (pat (13-z)) (fXa (12-z)) (rest s i))):=by
 have y:Hid (fXk (pat (13-z)) (fXa (12-z)) (rest s i)=match J3 (fXa (12-z)) (rest s (i+1)) with|.none=>.none|some (l,u)=>some (fX9 l u)):=aXa C r;have k:Hid _:=Inp.enter h;have t:=O2 a s i z _ k.out.lies (by omega) C;have K:Hid _:=A;rw[r]at t;go_enter Tryz.func130,Tryz.ntmps130;go_wp2_with fail;refine t.mono ?_;rintro e x ⟨rfl,F⟩;have o:=k.out.go F;have T:=o.cell;have m:Hid _:=o;have J:Hid (∀W,Below x.heap.size x W->Calls Tryz.prog 146 #[D3 a] W (aQo w a s (i+1) z b (J3 (fXa (12-z)) (rest s (i+1))))):=fun W q=>
  (bXm s hs b z P B a (i+1) W (m.out.below q).lies ((m.out.below q).env K.out) (by omega)).mono fun e I O=>O.mid (m.out.below q)
 go_wp2;go_region_held (fun I=>I.cell? ⟨w.heap.size,0,none⟩=some (.pointer (some ⟨a,0,none⟩))) (first|assumption|go_keep|(simp[World.cell?_setCell_far];assumption))
  (first
   | (go_at_call 146;refine(J.out _ ?_).mono ?_;exact(Below.refl _ _).drew;rintro e w2 (⟨l,j,f,M,d,X,E,rfl,p,G⟩|⟨d,rfl,N⟩);rotate_left;(go_wp2;exact⟨rfl,.inr ⟨by rw[y.out,d],rfl,N⟩⟩);have U:=p.cell)
   | (go_at_call 144;refine(nQt s hs z a j l f M w _ p E (by omega) G).mono ?_;rintro e S ⟨g,n,rfl,c,H⟩;have V:=c.cell;obtain⟨Q,R,Z,s1⟩:=c.res.two))
 all_goals
  have Y:=nQs l E;have L:Hid (PlPost w a s i z b (fXk (pat (13-z)) (fXa (12-z)) (rest s i)) (.returned (C5 (eX7 (N8 s j l)) (.func (.func g) #[] n))) ((S.setCell ⟨w.heap.size+1,0,none⟩ (.int .i64 (eX7 (N8 s j l)))).setCell ⟨w.heap.size+1,1,none⟩ (.func (.func g) #[] n))):=
   c.ret (by rw[y.out,d];dsimp only;rw[iQ5]) (by omega) (by omega) H
  clear H G c p d;go_wp2_with fail;exact bodyPost_ret (v:=C5 (eX7 (N8 s j l)) (.func (.func g) #[] n)) (by simp[results,Tryz.results130,go_sem,Q,R]) rfl L.out
theorem yQ2 (s:By)(hs:s.size<=120)(b:Addr)(z:Nat)(I:z<=12)(E:dQu s b)(a i:Nat)(w:World)(h:RB w a s i z)(r:Env w a b)(t:i<s.size)(o:nx s i=45) :
  Calls Tryz.prog 130 #[D3 a] w (PlPost w a s i z b (fXk (pat (13-z)) (fXa (12-z)) (rest s i))):=by
 have q:Hid (fXk (pat (13-z)) (fXa (12-z)) (rest s i)=Q5 (pat (13-z)) (rest s (i+1))):=zQ8 t o;have g:Hid _:=Inp.enter h;have p:=O2 a s i z _ g.out.lies (by omega) t;have A:Hid _:=r;rw[o]at p;go_enter Tryz.func130,Tryz.ntmps130;go_wp2_with fail;refine p.mono ?_;rintro e y ⟨rfl,u⟩;have c:=g.out.go u;have M:=c.cell;have m:=(E z a (i+1) y I c.lies (c.env A.out) (by omega)).mono fun e P H=>H.mid c;go_wp2_with fail;refine m.mono ?_;rintro e L (⟨l,j,f,k,d,N,G,rfl,n,x⟩|⟨d,rfl,F⟩)
 ·obtain⟨J,K,O,s1⟩:=n.res.two
  have C:Hid (PlPost w a s i z b (fXk (pat (13-z)) (fXa (12-z)) (rest s i)) (.returned (C5 (eX7 l) (.func (.func f) #[] k))) ((L.setCell ⟨w.heap.size+1,0,none⟩ (Iv (eX7 l))).setCell ⟨w.heap.size+1,1,none⟩ (.func (.func f) #[] k))):=
   n.ret (q.out.trans d) (by omega) G x
  go_wp2;exact bodyPost_ret (v:=C5 (eX7 l) (.func (.func f) #[] k)) (by simp[results,Tryz.results130,go_sem,J,K]) rfl C.out
 ·have B:Hid _:=q.out.trans d
  go_wp2;exact⟨rfl,.inr ⟨B.out,rfl,F⟩⟩
theorem yQ1 (s:By)(hs:s.size<=120)(b:Addr)(z:Nat)(a i:Nat)(w:World)(h:RB w a s i z)(r:Env w a b)(t:i<s.size)(o:nx s i=43) :
  Calls Tryz.prog 130 #[D3 a] w (PlPost w a s i z b (fXk (pat (13-z)) (fXa (12-z)) (rest s i))):=by
 have q:Hid (fXk (pat (13-z)) (fXa (12-z)) (rest s i)=aQb (rest s (i+1))):=zQ9 t o;have g:Hid _:=Inp.enter h;have p:=O2 a s i z _ g.out.lies (by omega) t;have A:Hid _:=r;rw[o]at p;go_enter Tryz.func130,Tryz.ntmps130;go_wp2_with fail;refine p.mono ?_;rintro e y ⟨rfl,u⟩;have c:=g.out.go u;have K:=c.cell;have m:=(aXe s hs b z a (i+1) y c.lies (c.env A.out) (by omega)).mono fun e N G=>G.mid c;go_wp2_with fail;refine m.mono ?_;rintro e J (⟨l,j,f,k,d,L,F,rfl,n,x⟩|⟨d,rfl,E⟩)
 ·obtain⟨H,I,M,s1⟩:=n.res.two
  have C:Hid (PlPost w a s i z b (fXk (pat (13-z)) (fXa (12-z)) (rest s i)) (.returned (C5 (eX7 l) (.func (.func f) #[] k))) ((J.setCell ⟨w.heap.size+1,0,none⟩ (Iv (eX7 l))).setCell ⟨w.heap.size+1,1,none⟩ (.func (.func f) #[] k))):=
   n.ret (q.out.trans d) (by omega) F x
  go_wp2;exact bodyPost_ret (v:=C5 (eX7 l) (.func (.func f) #[] k)) (by simp[results,Tryz.results130,go_sem,H,I]) rfl C.out
 ·have B:Hid _:=q.out.trans d
  go_wp2;exact⟨rfl,.inr ⟨B.out,rfl,E⟩⟩
theorem yQ4 (s:By)(hs:s.size<=120)(a1:Addr)(z:Nat)(O:z<=12)(y:z<=11->Z8 s a1 (z+1))(a i:Nat)(w:World)(h:RB w a s i z)(t:Env w a a1)(A:i<s.size)(o:nx s i=60) :
  Calls Tryz.prog 130 #[D3 a] w (PlPost w a s i z a1 (fXk (pat (13-z)) (fXa (12-z)) (rest s i))):=by
 have q:Hid (fXk (pat (13-z)) (fXa (12-z)) (rest s i)=match S4 (fXa (12-z)) (rest s (i+1)) with|.none=>.none|some (l,u)=>some (gXl l,u)):=zQg A o;have d:Hid _:=Inp.enter h;have p:=O2 a s i z _ d.out.lies (by omega) A;have G:Hid _:=t;rw[o]at p;go_enter Tryz.func130,Tryz.ntmps130;go_wp2_with fail;refine p.mono ?_;rintro e F ⟨rfl,B⟩;have b:=d.out.go B;have T:=b.cell;have m:=(zQ5 s hs a1 z O y a (i+1) F b.lies (b.env G.out) (by omega)).mono fun e W N=>N.mid b;go_wp2_with fail;refine m.mono ?_;rintro e R (⟨l,j,f,K,c,U,M,rfl,x,C⟩|⟨c,rfl,L⟩)
 ·have J:Hid (fXk (pat (13-z)) (fXa (12-z)) (rest s i)=some (gXl l,rest s j)):=by show _=_;rw[q.out,c]
  have r:=qQ0 s z a j 7 (.inr rfl) l f K w R x (by omega) C;go_wp2_with fail;refine r.mono ?_;rintro e S ⟨g,k,rfl,n,E⟩;obtain⟨P,Q,V,s1⟩:=n.res.two;have I:Hid (PlPost w a s i z a1 (fXk (pat (13-z)) (fXa (12-z)) (rest s i)) (.returned (C5 (eX7 l+1) (.func (.func g) #[] k))) ((S.setCell ⟨w.heap.size+1,0,none⟩ (Iv ((eX7 l+1:Nat):Int))).setCell ⟨w.heap.size+1,1,none⟩ (.func (.func g) #[] k))):=by
   have:=n.ret (i:=i) (a1:=a1) (l:=gXl l) J.out (by rw[hX9];omega) M E;rw[hX9]at this;exact this
  clear E n r;go_wp2_with fail;exact bodyPost_ret (v:=C5 (eX7 l+1) (.func (.func g) #[] k)) (by simp[results,Tryz.results130,go_sem,P,Q]) rfl I.out
 ·have H:Hid (fXk (pat (13-z)) (fXa (12-z)) (rest s i)=.none):=by show _=_;rw[q.out,c]
  clear c m;go_wp2_with fail;exact⟨rfl,.inr ⟨H.out,rfl,L⟩⟩
theorem zQf (s:By)(hs:s.size<=120)(b:Addr)(z a i:Nat)(w:World)(h:RB w a s i z)(p:Env w a b)(m:i<s.size)(c:nx s i≠47)(d:nx s i≠40)(f:nx s i≠60)(g:nx s i≠45)(j:nx s i≠43) :
  Calls Tryz.prog 130 #[D3 a] w (PlPost w a s i z b (fXk (pat (13-z)) (fXa (12-z)) (rest s i))):=by
 have o:Hid (fXk (pat (13-z)) (fXa (12-z)) (rest s i)=.none):=zQe m c d f g j;have l:Hid _:=Inp.enter h;have n:=O2 a s i z _ l.out.lies (by omega) m;have t:(((nx s i).toNat:Int)==47)=false:=by rw[beq_eq_false_iff_ne];intro e;exact c (UInt8.toNat_inj.1 (by simpa using (by omega:(nx s i).toNat=47)))
 have u:(((nx s i).toNat:Int)==40)=false:=by rw[beq_eq_false_iff_ne];intro e;exact d (UInt8.toNat_inj.1 (by simpa using (by omega:(nx s i).toNat=40)))
 have v:(((nx s i).toNat:Int)==60)=false:=by rw[beq_eq_false_iff_ne];intro e;exact f (UInt8.toNat_inj.1 (by simpa using (by omega:(nx s i).toNat=60)))
 have x:(((nx s i).toNat:Int)==45)=false:=by rw[beq_eq_false_iff_ne];intro e;exact g (UInt8.toNat_inj.1 (by simpa using (by omega:(nx s i).toNat=45)))
 have y:(((nx s i).toNat:Int)==43)=false:=by rw[beq_eq_false_iff_ne];intro e;exact j (UInt8.toNat_inj.1 (by simpa using (by omega:(nx s i).toNat=43)))
 go_enter Tryz.func130,Tryz.ntmps130;go_wp2_with fail;refine n.mono ?_;rintro e A ⟨rfl,q⟩;have k:=l.out.go q;have r:=k.cell;go_wp2_with fail;refine(V7 _ b _ (k.env p).sc).mono ?_;rintro e B ⟨rfl,rfl⟩;go_wp2;exact⟨rfl,.inr ⟨o.out,rfl,k.inn.left.grown⟩⟩
theorem mQj (s:By)(hs:s.size<=120)(a:Addr)(z:Nat)(e:z<=12)(n:dQu s a)(m:z<=11->Z8 s a (z+1)):fQ7 s a z:=by
 intro d i w h b o;rcases Nat.lt_or_ge i s.size with c|c
 ·by_cases f:nx s i=47
  ·exact yQ3 s hs a z e d i w h b c f
  ·by_cases g:nx s i=40
   ·exact yQ0 s hs a z e m d i w h b c g
   ·by_cases j:nx s i=60
    ·exact yQ4 s hs a z e m d i w h b c j
    ·by_cases k:nx s i=45
     ·exact yQ2 s hs a z e n d i w h b c k
     ·by_cases l:nx s i=43
      ·exact yQ1 s hs a z d i w h b c l
      ·exact zQf s hs a z d i w h b c f g j k l
 ·exact zQ7 s hs a z d i w h b (by omega)
theorem kQ0 (s:By)(z n j k:Nat)(p:k=3\/k=4\/k=5)(l m:Ln)(f g:Nat)(d b:Array Value)(w W:World)(i:Inp w n s j z W)(v:eX7 l<=120)(u:eX7 m<=120)(F:Nat)(o:F=S1 k)
  (r:PlanV W (fun q=>w.heap.size+1<q/\q<W.heap.size) l (.func (.func f) #[] d)) (a:PlanV W (fun q=>w.heap.size+1<q/\q<W.heap.size) m (.func (.func g) #[] b)) :
  Calls Tryz.prog 121 #[C5 (eX7 l) (.func (.func f) #[] d),C5 (eX7 m) (.func (.func g) #[] b),.func (.func F) #[] #[]] W fun e c=>
   ∃g b,e=.returned (C5 (eX7 l+eX7 m) (.func (.func g) #[] b))/\Inp w n s j z c/\PlanV c (fun q=>w.heap.size+1<q/\q<c.heap.size) ⟨k,rnil,[],[l,m]⟩ (.func (.func g) #[] b)/\Bw W c:=by
 subst o;have x:=i.size;refine(kQz k p l m (eX7 l) (eX7 m) f g d b (by omega) (by omega) W _ (fun q a=>a.2) r a).mono ?_;rintro e c ⟨g,b,rfl,t,h⟩;have y:=h.size;refine⟨g,b,rfl,i.below h,PlanV.mono (fun q a=>?_) (fun _ _=>rfl) _ _ t,h⟩;rcases a with a|a
 ·exact⟨a.1,by have:=a.2;omega⟩
 ·exact⟨by have:=a.1;omega,a.2⟩
theorem uQi {s:By}{k:Nat}(a:k<s.size):([124,126,41,62]:Lu).any (A7 s k)=gX3 (rest s k):=by
 rw[D4 a];simp[A7,a,gX3];cases (nx s k==124)<;>cases (nx s k==126)<;>cases (nx s k==41)<;>cases (nx s k==62)<;>rfl
theorem uQh {s:By}{k:Nat}(a:s.size<=k):gX3 (rest s k)=true:=by
 rw[P4 a];rfl
section
variable {P:Lu->Rd} {Q:Lu->Rl} {n:Nat} {r r1:Lu} {a:Ln}
theorem aXc (h:fXk P Q r=.none):fXe P Q (n+1) r=.none:=by rw[fXe,h]
theorem aXd (h:fXk P Q r=some (a,r1))(b:gX3 r1=true):fXe P Q (n+1) r=some (a,r1):=by rw[fXe,h];dsimp only;rw[if_pos b]
theorem zQl (h:fXk P Q r=some (a,r1))(c:gX3 r1=false)(b:fXe P Q n r1=.none):fXe P Q (n+1) r=.none:=by rw[fXe,h];dsimp only;rw[if_neg (by rw[c];simp),b]
theorem aXb {b:Ln}{c:Lu}(h:fXk P Q r=some (a,r1))(e:gX3 r1=false)(d:fXe P Q n r1=some (b,c)):fXe P Q (n+1) r=some (eX9 a b,c):=by rw[fXe,h];dsimp only;rw[if_neg (by rw[e];simp),d]
theorem yQz (h:fXe P Q (r.length+1) r=.none):gXa P Q (n+1) r=.none:=by rw[gXa,h]
theorem qQ7 (h:fXe P Q (r.length+1) r=some (a,r1))(b:r1.head?≠some 124):gXa P Q (n+1) r=some (a,r1):=by rw[gXa,h];dsimp only;rw[if_neg b]
theorem qQ4 (h:fXe P Q (r.length+1) r=some (a,r1))(c:r1.head?=some 124)(b:gXa P Q n r1.tail=.none):gXa P Q (n+1) r=.none:=by rw[gXa,h];dsimp only;rw[if_pos c,b]
theorem qQ5 {b:Ln}{c:Lu}(h:fXe P Q (r.length+1) r=some (a,r1))(e:r1.head?=some 124)(d:gXa P Q n r1.tail=some (b,c)):gXa P Q (n+1) r=some (fXn a b,c):=by rw[gXa,h];dsimp only;rw[if_pos e,d]
end
theorem eQ0 {W:World}{g x y:Nat}{a b:Value}(d:g≠x)(c:g≠y){p q r:Option Value}(e:W.cell? ⟨x,0,none⟩=p)(f:W.cell? ⟨y,0,none⟩=q)(h:W.cell? ⟨y,1,none⟩=r) :
  ((W.setCell ⟨g,0,none⟩ a).setCell ⟨g,1,none⟩ b).cell? ⟨x,0,none⟩=p/\((W.setCell ⟨g,0,none⟩ a).setCell ⟨g,1,none⟩ b).cell? ⟨y,0,none⟩=q/\((W.setCell ⟨g,0,none⟩ a).setCell ⟨g,1,none⟩ b).cell? ⟨y,1,none⟩=r:=
 ⟨(World.cell?_setCell_far _ _ _ _ d).trans ((World.cell?_setCell_far _ _ _ _ d).trans e),(World.cell?_setCell_far _ _ _ _ c).trans ((World.cell?_setCell_far _ _ _ _ c).trans f),(World.cell?_setCell_far _ _ _ _ c).trans ((World.cell?_setCell_far _ _ _ _ c).trans h)⟩
def bQq (s:By)(a1:Addr)(z n:Nat):Prop:=∀(rb i:Nat) (w:World),RB w rb s i z->Env w rb a1->i<=s.size->(rest s i).length<n->
 Ca 119 #[D3 rb] w (PlPost w rb s i z a1 (fXe (pat (13-z)) (fXa (12-z)) n (rest s i)))
theorem aXi (s:By)(hs:s.size<=120)(a1:Addr)(z n:Nat)(hP:fQ7 s a1 z)(hR:bQq s a1 z n):bQq s a1 z (n+1):=by
 intro a i w b1 hE hi hn;have O:Hid _:=Inp.enter b1;have HE:Hid _:=hE;have hC:=(hP a i _ O.out.lies (O.out.env hE) hi).mono fun e p c=>c.mid O.out;have c6:Hid _:=hR;go_enter Tryz.func119,Tryz.ntmps119;go_wp2_with fail;refine hC.mono ?_;rintro e d (⟨l,j,f,b,C,c9,hj,rfl,P,b7⟩|⟨C,rfl,hg⟩)
 ·have c1:=(jXu (hXl _) (gXx _) C).2.2
  have Hr:Hid _:=C;have a5:=A5 d (L7 (eX7 l) f b);have c2:Blk (d.alloc (L7 (eX7 l) f b)) d.heap.size #[.int .i64 (eX7 l),.func (.func f) #[] b] 130:=Blk.new d _ _;have a3:=P.below a5;have d7:(d.alloc (L7 (eX7 l) f b)).heap.size=d.heap.size+1:=by simp
  have d6:=P.size;have ho:=P.inn.old;have a8:Hid (PlanV (d.alloc (L7 (eX7 l) f b)) (fun q=>w.heap.size+1<q/\q<d.heap.size) l (.func (.func f) #[] b)):=PlanV.mono (fun q c=>c) (fun q c=>a5.block q c.2) _ _ b7;clear C b7 a5 P;go_upto_region 2 with (fail);generalize d.alloc (L7 (eX7 l) f b)=G at *;have b2:=a3.cell;have a9:Hid (Blk G d.heap.size #[.int .i64 (eX7 l),.func (.func f) #[] b] 130):=c2;have y:Hid (Inp w a s j z G):=a3;clear c2 a3;have b0:gX3 (rest s j)=true->∀h,RLeft G a s j z h->Blk h d.heap.size #[.int .i64 (eX7 l),.func (.func f) #[] b] 130/\Inp w a s j z h/\PlPost w a s i z a1 (fXe (pat (13-z)) (fXa (12-z)) (n+1) (rest s i)) (.returned (C5 (eX7 l) (.func (.func f) #[] b))) ((h.setCell ⟨w.heap.size+1,0,none⟩ (.int .i64 (eX7 l))).setCell ⟨w.heap.size+1,1,none⟩ (.func (.func f) #[] b)):=by
   intro he h o;have b5:=y.out.go o;have d8:=o.grown.size;exact⟨a9.out.of (o.grown.block _ (by omega) (by simp;omega)),b5,b5.ret (aXd Hr.out he) c9 hj (PlanV.mono (fun q c=>⟨c.1,by have:=c.2;omega⟩) (fun q c=>o.grown.block q (by have:=c.2;omega) (by have:=c.1;simp;omega)) _ _ a8.out)⟩
  have N:Hid (gX3 (rest s j)=true->∀h,RLeft G a s j z h->Blk h d.heap.size #[.int .i64 (eX7 l),.func (.func f) #[] b] 130/\Inp w a s j z h/\PlPost w a s i z a1 (fXe (pat (13-z)) (fXa (12-z)) (n+1) (rest s i)) (.returned (C5 (eX7 l) (.func (.func f) #[] b))) ((h.setCell ⟨w.heap.size+1,0,none⟩ (.int .i64 (eX7 l))).setCell ⟨w.heap.size+1,1,none⟩ (.func (.func f) #[] b))):=b0;clear b0;rcases Nat.lt_or_ge j s.size with T|T
  ·have x:=bQ3 a s j z G y.out.lies (by omega) (by omega) false (by simp;omega)
   have F:=uQi T;cases E:gX3 (rest s j) with
   | true=>
    rw[E]at F;have a0:Hid (([124,126,41,62]:Lu).any (A7 s j)=true):=F;have A:Hid (gX3 (rest s j)=true):=E;clear F E;go_wp2_with fail;refine x.mono ?_;rintro e h ⟨rfl,o⟩;have b3:=(y.out.go o).cell;clear b2 x;go_wp2_with fail;refine(fQn [124,126,41,62] _ rfl 4 rfl (by decide) a s j z h _ o.lies (by omega) (by omega) true a0.out).mono ?_;rintro e u ⟨rfl,V⟩;obtain⟨t,r,I⟩:=N.out A.out u (o.trans V);obtain⟨x0,x1,y0,y1⟩:=t.two;obtain⟨L,M,s0,s1⟩:=r.res.two;have H:Hid (PlPost w a s i z a1 (fXe (pat (13-z)) (fXa (12-z)) (n+1) (rest s i)) (.returned (C5 (eX7 l) (.func (.func f) #[] b))) ((u.setCell ⟨w.heap.size+1,0,none⟩ (.int .i64 (eX7 l))).setCell ⟨w.heap.size+1,1,none⟩ (.func (.func f) #[] b))):=I;clear t r I b3;go_wp2_with fail;exact bodyPost_ret (v:=C5 (eX7 l) (.func (.func f) #[] b)) (by simp[results,Tryz.results119,go_sem,L,M]) rfl H.out
   | false=>
    rw[E]at F;have a0:Hid (([124,126,41,62]:Lu).any (A7 s j)=false):=F;have A:Hid (gX3 (rest s j)=false):=E;clear F E N;go_wp2_with fail;refine x.mono ?_;rintro e h ⟨rfl,o⟩;have b3:=(y.out.go o).cell;clear b2 x;go_wp2_with fail;refine(fQn [124,126,41,62] _ rfl 4 rfl (by decide) a s j z h _ o.lies (by omega) (by omega) false a0.out).mono ?_;rintro e u ⟨rfl,V⟩;have J:=o.trans V;have r:=y.out.go J;have t:=a9.out.of (J.grown.block _ (by omega) (by simp;omega));have b4:=r.cell;have d9:=J.grown.size;obtain⟨x0,x1,y0,y1⟩:=t.two;have c7:Hid (Blk u d.heap.size #[.int .i64 (eX7 l),.func (.func f) #[] b] 130):=t;have c3:Hid (Inp w a s j z u):=r;have c5:Hid (PlanV u (fun q=>w.heap.size+1<q/\q<d.heap.size) l (.func (.func f) #[] b)):=PlanV.mono (fun q c=>c) (fun q c=>J.grown.block q (by have:=c.2;omega) (by have:=c.1;simp;omega)) _ _ a8.out;have c4:Hid (∀W,Below u.heap.size u W->Calls Tryz.prog 119 #[D3 a] W fun e p=>
      (∃m k g B,fXe (pat (13-z)) (fXa (12-z)) n (rest s j)=some (m,rest s k)/\j+eX7 m<=k/\k<=s.size/\e=.returned (C5 (eX7 m) (.func (.func g) #[] B))/\Inp w a s k z p/\Blk p d.heap.size #[.int .i64 (eX7 l),.func (.func f) #[] b] 130/\
       PlanV p (fun q=>w.heap.size+1<q/\q<p.heap.size) l (.func (.func f) #[] b)/\PlanV p (fun q=>w.heap.size+1<q/\q<p.heap.size) m (.func (.func g) #[] B))\/
      (fXe (pat (13-z)) (fXa (12-z)) n (rest s j)=.none/\K6 w a a1 e p)):=by
     intro W S;have R:=c3.out.below S;have d4:=S.size;refine(c6.out a j W R.lies (R.env HE.out) hj (by rw[F4]at c1 hn ⊢;rw[F4]at c1;omega)).mono ?_;rintro e p (⟨m,k,g,B,a6,h1,h2,rfl,d1,U⟩|⟨a6,rfl,hg⟩)
     ·have d5:=U.grown.size
      refine .inl ⟨m,k,g,B,a6,h1,h2,rfl,R.go U,(c7.out.below S (by omega)).of (U.grown.block _ (by omega) (by simp;omega)),PlanV.mono (fun q c=>⟨c.1,by have:=c.2;omega⟩) (fun q c=>?_) _ _ c5.out,PlanV.mono (fun q c=>⟨by have:=c.1;omega,c.2⟩) (fun _ _=>rfl) _ _ d1⟩;rw[U.grown.block q (by have:=c.2;omega) (by have:=c.1;simp;omega)];exact S.block q (by have:=c.2;omega)
     ·exact .inr ⟨a6,rfl,R.threw rfl hg⟩
    clear t r b3 o V J;go_wp2_with fail;go_region_held (fun p=>p.cell? ⟨w.heap.size,0,none⟩=some (.pointer (some ⟨a,0,none⟩))/\p.cell? ⟨d.heap.size,0,none⟩=some (.int .i64 (eX7 l))/\p.cell? ⟨d.heap.size,1,none⟩=some (.func (.func f) #[] b)) (first|assumption|(go_keep;done)|(refine eQ0 ?_ ?_ ?_ ?_ ?_<;>first|omega|exact Y.1|exact Y.2.1|exact Y.2.2|assumption))
     (first
      | (go_at_call 119;refine(c4.out _ ?_).mono ?_;exact(Below.refl _ _).drew;rintro e w5 (⟨m,k,g,B,X,T,d0,rfl,a4,K,b8,c0⟩|⟨X,rfl,c8⟩);rotate_left;(go_wp2_with fail;exact⟨rfl,.inr ⟨zQl Hr.out A.out X,rfl,c8⟩⟩);have d2:w5.cell? ⟨w.heap.size,0,none⟩=some (.pointer (some ⟨a,0,none⟩))/\w5.cell? ⟨d.heap.size,0,none⟩=some (.int .i64 (eX7 l))/\w5.cell? ⟨d.heap.size,1,none⟩=some (.func (.func f) #[] b):=⟨a4.cell,K.two.1,K.two.2.1⟩;have d3:=K.lt)
      | (go_at_call 121;refine(kQ0 s z a k 3 (.inl rfl) l m f g b B w _ a4 (by omega) (by omega) _ rfl b8 c0).mono ?_;rintro e Z ⟨g6,a2,rfl,Q,b9,b6⟩;obtain⟨L,M,s0,s1⟩:=Q.res.two;have a7:=K.below b6 d3;have Y:Z.cell? ⟨w.heap.size,0,none⟩=some (.pointer (some ⟨a,0,none⟩))/\Z.cell? ⟨d.heap.size,0,none⟩=some (.int .i64 (eX7 l))/\Z.cell? ⟨d.heap.size,1,none⟩=some (.func (.func f) #[] b):=⟨Q.cell,a7.two.1,a7.two.2.1⟩))
    all_goals
     have H:Hid (PlPost w a s i z a1 (fXe (pat (13-z)) (fXa (12-z)) (n+1) (rest s i)) (.returned (C5 (eX7 l+eX7 m) (.func (.func g6) #[] a2))) ((Z.setCell ⟨w.heap.size+1,0,none⟩ (.int .i64 ((eX7 l:Int)+(eX7 m:Int)))).setCell ⟨w.heap.size+1,1,none⟩ (.func (.func g6) #[] a2))):=by
      have:=Q.ret (i:=i) (a1:=a1) (l:=eX9 l m) (aXb Hr.out A.out X) (by rw[hX1];omega) d0 b9;rw[hX1,Int.natCast_add]at this;exact this
     clear b9 Q a7 Y b6 b8 c0 a4 K d2 X;go_wp2_with fail;exact bodyPost_ret (v:=C5 (eX7 l+eX7 m) (.func (.func g6) #[] a2)) (by simp[results,Tryz.results119,go_sem,L,M]) rfl H.out
  ·have x:=bQ3 a s j z G y.out.lies (by omega) (by omega) true (by simp;omega)
   have A:Hid (gX3 (rest s j)=true):=uQh T;go_wp2_with fail;refine x.mono ?_;rintro e h ⟨rfl,o⟩;obtain⟨t,r,I⟩:=N.out A.out h o;obtain⟨x0,x1,y0,y1⟩:=t.two;obtain⟨L,M,s0,s1⟩:=r.res.two;have H:Hid (PlPost w a s i z a1 (fXe (pat (13-z)) (fXa (12-z)) (n+1) (rest s i)) (.returned (C5 (eX7 l) (.func (.func f) #[] b))) ((h.setCell ⟨w.heap.size+1,0,none⟩ (.int .i64 (eX7 l))).setCell ⟨w.heap.size+1,1,none⟩ (.func (.func f) #[] b))):=I;clear t r I x N;go_wp2_with fail;exact bodyPost_ret (v:=C5 (eX7 l) (.func (.func f) #[] b)) (by simp[results,Tryz.results119,go_sem,L,M]) rfl H.out
 ·have HN:Hid (fXe (pat (13-z)) (fXa (12-z)) (n+1) (rest s i)=.none):=aXc C
  clear C;go_wp2_with fail;exact⟨rfl,.inr ⟨HN.out,rfl,hg⟩⟩
def dQy (s:By)(a1:Addr)(z n:Nat):Prop:=∀(rb i:Nat) (w:World),RB w rb s i z->Env w rb a1->i<=s.size->(rest s i).length<n->
 Ca 104 #[D3 rb] w (PlPost w rb s i z a1 (gXa (pat (13-z)) (fXa (12-z)) n (rest s i)))
theorem zQ4 (s:By)(hs:s.size<=120)(a1:Addr)(z n:Nat)(hP:∀n,bQq s a1 z n)(hR:dQy s a1 z n):dQy s a1 z (n+1):=by
 intro b i w a6 S hi hn;have A:Hid _:=Inp.enter a6;have HE:Hid _:=S;have hC:=(hP _ b i _ A.out.lies (A.out.env S) hi (Nat.lt_succ_self _)).mono fun e h a=>a.mid A.out;have b9:Hid _:=hR;go_enter Tryz.func104,Tryz.ntmps104;go_wp2_with fail;refine hC.mono ?_;rintro e d (⟨l,j,f,c,u,c2,hj,rfl,E,a8⟩|⟨u,rfl,Z⟩)
 ·have P:Hid _:=u
  have Y:=A5 d (L7 (eX7 l) f c);have b3:Blk (d.alloc (L7 (eX7 l) f c)) d.heap.size #[.int .i64 (eX7 l),.func (.func f) #[] c] 130:=Blk.new d _ _;have T:=E.below Y;have d2:(d.alloc (L7 (eX7 l) f c)).heap.size=d.heap.size+1:=by simp
  have d1:=E.size;have ho:=E.inn.old;have a4:Hid (PlanV (d.alloc (L7 (eX7 l) f c)) (fun q=>w.heap.size+1<q/\q<d.heap.size) l (.func (.func f) #[] c)):=PlanV.mono (fun q a=>a) (fun q a=>Y.block q a.2) _ _ a8;clear u a8 Y E;go_upto_region 2 with (fail);generalize d.alloc (L7 (eX7 l) f c)=M at *;have b2:=T.cell;have a5:Hid (Blk M d.heap.size #[.int .i64 (eX7 l),.func (.func f) #[] c] 130):=b3;have B:Hid (Inp w b s j z M):=T;clear b3 T;cases o:A7 s j 124 with
  | false=>
   have r:=X5 b s j z 124 M B.out.lies (by omega) (by omega) o;have C:Hid ((rest s j).head?≠some 124):=by show _≠_;rw[Ne,C4,o];simp
   clear o;go_wp2_with fail;refine r.mono ?_;rintro e w3 ⟨rfl,J⟩;have U:=B.out.go J;have d3:=J.grown.size;have b5:=a5.out.of (J.grown.block _ (by omega) (by simp;omega));obtain⟨x0,x1,y0,y1⟩:=b5.two;obtain⟨r0,r1,s0,s1⟩:=U.res.two;have O:Hid (PlPost w b s i z a1 (gXa (pat (13-z)) (fXa (12-z)) (n+1) (rest s i)) (.returned (C5 (eX7 l) (.func (.func f) #[] c))) ((w3.setCell ⟨w.heap.size+1,0,none⟩ (.int .i64 (eX7 l))).setCell ⟨w.heap.size+1,1,none⟩ (.func (.func f) #[] c))):=
    U.ret (qQ7 P.out C.out) c2 hj (PlanV.mono (fun q a=>⟨a.1,by have:=a.2;omega⟩) (fun q a=>J.grown.block q (by have:=a.2;omega) (by have:=a.1;simp;omega)) _ _ a4.out)
   clear b5 U r b2;go_wp2_with fail;exact bodyPost_ret (v:=C5 (eX7 l) (.func (.func f) #[] c)) (by simp[results,Tryz.results104,go_sem,r0,r1]) rfl O.out
  | true=>
   have r:=Z5 b s j z 124 M B.out.lies (by omega) o;have C:Hid ((rest s j).head?=some 124):=C4.2 o;have c9:=(D9 o).1;clear o;go_wp2_with fail;refine r.mono ?_;rintro e y ⟨rfl,t⟩;have V:=B.out.go t;have a2:=a5.out.of (t.grown.block _ (by omega) (by simp;omega));have b4:=V.cell;have d4:=t.grown.size;obtain⟨x0,x1,y0,y1⟩:=a2.two;have c0:Hid (Blk y d.heap.size #[.int .i64 (eX7 l),.func (.func f) #[] c] 130):=a2;have b6:Hid (Inp w b s (j+1) z y):=V;have b8:Hid (PlanV y (fun q=>w.heap.size+1<q/\q<d.heap.size) l (.func (.func f) #[] c)):=PlanV.mono (fun q a=>a) (fun q a=>t.grown.block q (by have:=a.2;omega) (by have:=a.1;simp;omega)) _ _ a4.out;have b7:Hid (∀W,Below y.heap.size y W->Calls Tryz.prog 104 #[D3 b] W fun e h=>
     (∃m k g p,gXa (pat (13-z)) (fXa (12-z)) n (rest s j).tail=some (m,rest s k)/\j+1+eX7 m<=k/\k<=s.size/\e=.returned (C5 (eX7 m) (.func (.func g) #[] p))/\Inp w b s k z h/\Blk h d.heap.size #[.int .i64 (eX7 l),.func (.func f) #[] c] 130/\
      PlanV h (fun q=>w.heap.size+1<q/\q<h.heap.size) l (.func (.func f) #[] c)/\PlanV h (fun q=>w.heap.size+1<q/\q<h.heap.size) m (.func (.func g) #[] p))\/
     (gXa (pat (13-z)) (fXa (12-z)) n (rest s j).tail=.none/\K6 w b a1 e h)):=by
    intro W H;have G:=b6.out.below H;have c7:=H.size;rw[E7];refine(b9.out b (j+1) W G.lies (G.env HE.out) (by omega) (by rw[F4]at hn ⊢;omega)).mono ?_;rintro e h (⟨m,k,g,p,a0,h1,h2,rfl,c4,I⟩|⟨a0,rfl,Z⟩)
    ·have c8:=I.grown.size
     refine .inl ⟨m,k,g,p,a0,h1,h2,rfl,G.go I,(c0.out.below H (by omega)).of (I.grown.block _ (by omega) (by simp;omega)),PlanV.mono (fun q a=>⟨a.1,by have:=a.2;omega⟩) (fun q a=>?_) _ _ b8.out,PlanV.mono (fun q a=>⟨by have:=a.1;omega,a.2⟩) (fun _ _=>rfl) _ _ c4⟩;rw[I.grown.block q (by have:=a.2;omega) (by have:=a.1;simp;omega)];exact H.block q (by have:=a.2;omega)
    ·exact .inr ⟨a0,rfl,G.threw rfl Z⟩
   clear a2 V b2 t r;go_wp2_with fail;go_region_held (fun h=>h.cell? ⟨w.heap.size,0,none⟩=some (.pointer (some ⟨b,0,none⟩))/\h.cell? ⟨d.heap.size,0,none⟩=some (.int .i64 (eX7 l))/\h.cell? ⟨d.heap.size,1,none⟩=some (.func (.func f) #[] c)) (first|assumption|(go_keep;done)|(refine eQ0 ?_ ?_ ?_ ?_ ?_<;>first|omega|exact L.1|exact L.2.1|exact L.2.2|assumption))
    (first
     | (go_at_call 104;refine(b7.out _ ?_).mono ?_;exact(Below.refl _ _).drew;rintro e w5 (⟨m,k,g,p,K,d0,c3,rfl,X,x,a9,b1⟩|⟨K,rfl,c1⟩);rotate_left;(go_wp2_with fail;exact⟨rfl,.inr ⟨qQ4 P.out C.out K,rfl,c1⟩⟩);have c5:w5.cell? ⟨w.heap.size,0,none⟩=some (.pointer (some ⟨b,0,none⟩))/\w5.cell? ⟨d.heap.size,0,none⟩=some (.int .i64 (eX7 l))/\w5.cell? ⟨d.heap.size,1,none⟩=some (.func (.func f) #[] c):=⟨X.cell,x.two.1,x.two.2.1⟩;have c6:=x.lt)
     | (go_at_call 121;refine(kQ0 s z b k 5 (.inr (.inr rfl)) l m f g c p w _ X (by omega) (by omega) _ rfl a9 b1).mono ?_;rintro e N ⟨R,Q,rfl,F,b0,a7⟩;obtain⟨r0,r1,s0,s1⟩:=F.res.two;have a3:=x.below a7 c6;have L:N.cell? ⟨w.heap.size,0,none⟩=some (.pointer (some ⟨b,0,none⟩))/\N.cell? ⟨d.heap.size,0,none⟩=some (.int .i64 (eX7 l))/\N.cell? ⟨d.heap.size,1,none⟩=some (.func (.func f) #[] c):=⟨F.cell,a3.two.1,a3.two.2.1⟩))
   all_goals
    have O:Hid (PlPost w b s i z a1 (gXa (pat (13-z)) (fXa (12-z)) (n+1) (rest s i)) (.returned (C5 (eX7 l+eX7 m) (.func (.func R) #[] Q))) ((N.setCell ⟨w.heap.size+1,0,none⟩ (.int .i64 ((eX7 l:Int)+(eX7 m:Int)))).setCell ⟨w.heap.size+1,1,none⟩ (.func (.func R) #[] Q))):=by
     have:=F.ret (i:=i) (a1:=a1) (l:=fXn l m) (qQ5 P.out C.out K) (by rw[iXk];omega) c3 b0;rw[iXk,Int.natCast_add]at this;exact this
    clear b0 F a3 L a7 a9 b1 X x c5 K;go_wp2_with fail;exact bodyPost_ret (v:=C5 (eX7 l+eX7 m) (.func (.func R) #[] Q)) (by simp[results,Tryz.results104,go_sem,r0,r1]) rfl O.out
 ·have HN:Hid (gXa (pat (13-z)) (fXa (12-z)) (n+1) (rest s i)=.none):=yQz u
  clear u;go_wp2_with fail;exact⟨rfl,.inr ⟨HN.out,rfl,Z⟩⟩
theorem hQ5 {s:By}(hs:s.size<=120){a:Addr}{z:Nat}(b:fQ7 s a z):∀n,bQq s a z n
 | 0=>fun _ _ _ _ _ _ c=>absurd c (Nat.not_lt_zero _)
 | n+1=>aXi s hs a z n b (hQ5 hs b n)
theorem hQy {s:By}(hs:s.size<=120){a:Addr}{z:Nat}(b:∀n,bQq s a z n):∀n,dQy s a z n
 | 0=>fun _ _ _ _ _ _ c=>absurd c (Nat.not_lt_zero _)
 | n+1=>zQ4 s hs a z n b (hQy hs b n)
theorem zQ3 {s:By}(hs:s.size<=120){a:Addr}(e:dQu s a):∀m,m<=12->Z8 s a (12-m):=by
 intro m;induction m with
 | zero=>
  intro _ d i w h b c;have:=hQy hs (hQ5 hs (mQj s hs a 12 (by omega) e (fun h=>by omega))) ((rest s i).length+1) d i w h b c (Nat.lt_succ_self _);exact this
 | succ m g=>
  intro j d i w h b c;have f:=mQj s hs a (12-(m+1)) (by omega) e (fun _=>by rw[show 12-(m+1)+1=12-m from by omega];exact g (by omega));have:=hQy hs (hQ5 hs f) ((rest s i).length+1) d i w h b c (Nat.lt_succ_self _);rw[show 13-(12-(m+1))=(12-(12-(m+1)))+1 from by omega]at this ⊢;exact this
end Go.Proofs.YtfklinjaajafgaaGreatDoor
