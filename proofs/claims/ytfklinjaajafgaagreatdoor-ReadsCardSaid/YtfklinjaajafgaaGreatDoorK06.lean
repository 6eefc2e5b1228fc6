import Derived.Test.YtfklinjaajafgaaGreatDoorK05
import Derived.Deep.RegionHeld3
import Derived.Deep.DrawnRows
set_option maxRecDepth 100000
set_option maxHeartbeats 4000000
namespace Go.Proofs.YtfklinjaajafgaaGreatDoor
open Go.RowKit
variable {G:Nat->Prop}{P:List UInt8->Ls.Rd}{W w1 w2:World}{d:Ls.D}{j:Nat}{r:List UInt8}{res:Ls.Rd}{v:Value}(s:ByteArray)(ty:TypeId)(a1:Addr)(x:Value)(z rb i:Nat)(w:World)
theorem Rep.iface {w:World}(h:Rep w G 0 d [v]):∃t x,v=.iface t x:=by
 rcases h.at0 with⟨_,_,_,_,_,rfl⟩|⟨_,_,_,_,_,_,rfl⟩|⟨_,_,_,_,rfl⟩|⟨_,_,_,_,rfl⟩<;>exact⟨_,_,rfl⟩
def X3 (s:ByteArray)(i:Nat)(v:Value):Value:=if A7 s i 42=true then T8 v true true else if A7 s i 43=true then T8 v false true else if A7 s i 63=true then T8 v true false else v
def X2 (s:ByteArray)(i:Nat)(d:Ls.D):Ls.D:=if A7 s i 42=true then Ls.rep 5 d else if A7 s i 43=true then Ls.rep 6 d else if A7 s i 63=true then Ls.rep 7 d else d
def L8 (s:ByteArray)(i:Nat):Nat:=if A7 s i 42=true then i+1 else if A7 s i 43=true then i+1 else if A7 s i 63=true then i+1 else i
theorem bXe {s:ByteArray}(h:Ls.fXg P r=some (d,rest s j)):Ls.gXq P r=some (X2 s j d,rest s (L8 s j)):=by
 rw[Ls.gXq,h];dsimp only
 unfold X2 L8;cases a:A7 s j 42 with
 | true=>rw[if_pos (C4.2 a),E7];simp
 | false=>
  rw[if_neg (by rw[C4,a];simp)];cases b:A7 s j 43 with
  | true=>rw[if_pos (C4.2 b),E7];simp
  | false=>
   rw[if_neg (by rw[C4,b];simp)];cases c:A7 s j 63 with
   | true=>rw[if_pos (C4.2 c),E7];simp
   | false=>rw[if_neg (by rw[C4,c];simp)];simp
theorem bXd {w:World}(h:Rep w G 0 d [v]):Rep w G 0 (X2 s i d) [X3 s i v]:=by
 unfold X2 X3;split
 ·exact .rep (t:=5) (by simp) h
 ·split
  ·exact .rep (t:=6) (by simp) h
  ·split
   ·exact .rep (t:=7) (by simp) h
   ·exact h
theorem aX9 {s:ByteArray}{i:Nat}(h:i<=s.size):i<=L8 s i/\L8 s i<=s.size:=by
 unfold L8;have b:∀c,A7 s i c=true->i<s.size:=fun c d=>(D9 d).1;split
 ·rename_i a;have:=b _ a;omega
 ·split
  ·rename_i a;have:=b _ a;omega
  ·split
   ·rename_i a;have:=b _ a;omega
   ·omega
theorem lQn:
  Calls Tryz.prog 159 #[.iface ty x] w fun e a=>e=.returned (T8 (.iface ty x) true true)/\a=w:=by
 go_enter Tryz.func159,Tryz.ntmps159;go_wp2_with fail;go_ret;exact⟨rfl,rfl⟩
theorem bXf (h:RB w rb s i z)(hs:s.size<=1048576)(B:i<=s.size) :
  Calls Tryz.prog 140 #[D3 rb,.iface ty x] w fun e y=>e=.returned (X3 s i (.iface ty x))/\RLeft w rb s (L8 s i) z y:=by
 have j:Hid (In 177 w rb s i z (w.alloc (H0 177 rb))):=In.enter 177 h;cases b:A7 s i 42 with
 | true=>
  have a:Hid (X3 s i (.iface ty x)=T8 (.iface ty x) true true/\L8 s i=i+1):=by simp[Hid,X3,L8,b]
  have v:=Z5 rb s i z 42 _ j.out.lies hs b;clear b;go_enter Tryz.func140,Tryz.ntmps140;go_wp2_with fail;refine v.mono ?_;rintro e l ⟨rfl,c⟩;go_wp2_with fail;refine(lQn ty x _).mono ?_;rintro e n ⟨rfl,rfl⟩;go_wp2_with fail;go_ret;rw[a.out.1,a.out.2];exact⟨rfl,(j.out.go c).left⟩
 | false=>
  have q:=X5 rb s i z 42 _ j.out.lies hs (by omega) b;cases d:A7 s i 43 with
  | true=>
   have a:Hid (X3 s i (.iface ty x)=T8 (.iface ty x) false true/\L8 s i=i+1):=by simp[Hid,X3,L8,b,d]
   clear b;have o:Hid (A7 s i 43=true):=d;clear d;go_enter Tryz.func140,Tryz.ntmps140;go_wp2_with fail;refine q.mono ?_;rintro e l ⟨rfl,c⟩;have f:=j.out.go c;have t:=f.cell;go_wp2_with fail;refine(Z5 rb s i z 43 l c.lies hs o.out).mono ?_;rintro e n ⟨rfl,g⟩;go_wp2_with fail;go_ret;rw[a.out.1,a.out.2];exact⟨rfl,(f.go g).left⟩
  | false=>
   have o:Hid (A7 s i 43=false):=d;cases k:A7 s i 63 with
   | true=>
    have a:Hid (X3 s i (.iface ty x)=T8 (.iface ty x) true false/\L8 s i=i+1):=by simp[Hid,X3,L8,b,d,k]
    have p:Hid (A7 s i 63=true):=k;clear b d k;go_enter Tryz.func140,Tryz.ntmps140;go_wp2_with fail;refine q.mono ?_;rintro e l ⟨rfl,c⟩;have f:=j.out.go c;have t:=f.cell;go_wp2_with fail;refine(X5 rb s i z 43 l c.lies hs (by omega) o.out).mono ?_;rintro e n ⟨rfl,g⟩;have m:=f.go g;have u:=m.cell;go_wp2_with fail;refine(Z5 rb s i z 63 n g.lies hs p.out).mono ?_;rintro e A ⟨rfl,r⟩;go_wp2_with fail;go_ret;rw[a.out.1,a.out.2];exact⟨rfl,(m.go r).left⟩
   | false=>
    have a:Hid (X3 s i (.iface ty x)=.iface ty x/\L8 s i=i):=by simp[Hid,X3,L8,b,d,k]
    have p:Hid (A7 s i 63=false):=k;clear b d k;go_enter Tryz.func140,Tryz.ntmps140;go_wp2_with fail;refine q.mono ?_;rintro e l ⟨rfl,c⟩;have f:=j.out.go c;have t:=f.cell;go_wp2_with fail;refine(X5 rb s i z 43 l c.lies hs (by omega) o.out).mono ?_;rintro e n ⟨rfl,g⟩;have m:=f.go g;have u:=m.cell;go_wp2_with fail;refine(X5 rb s i z 63 n g.lies hs (by omega) p.out).mono ?_;rintro e A ⟨rfl,r⟩;go_wp2_with fail;go_ret;rw[a.out.1,a.out.2];exact⟨rfl,(m.go r).left⟩
def aQl (s:ByteArray)(a1:Addr)(z:Nat):Prop:=∀(rb i:Nat) (w:World),RB w rb s i z->Env w rb a1->i<=s.size->
 Ca 113 #[D3 rb] w (RPost w rb s i z a1 (Ls.pat (13-z) (rest s i)))
def R2 (P:List UInt8->Ls.Rd)(r:List UInt8):Ls.Rd:=
 match P r with
 | .none=>.none
 | some (d,u)=>if u.head?=some 41 then some (d,u.tail) else .none
theorem vQv {s:ByteArray}(h:P r=some (d,rest s j))(a:A7 s j 41=true):R2 P r=some (d,rest s (j+1)):=by
 unfold R2;rw[h];dsimp only
 rw[if_pos (C4.2 a),E7]
theorem vQt {s:ByteArray}(h:P r=some (d,rest s j))(a:A7 s j 41=false):R2 P r=.none:=by
 unfold R2;rw[h];dsimp only
 rw[if_neg (by rw[C4,a];simp)]
theorem vQu (h:P r=.none):R2 P r=.none:=by
 unfold R2;rw[h]
theorem Rep.grown {w:World}{c:Nat}(f:c<w.heap.size)(e:w.heap.size<=W.heap.size)(h:Rep w1 (B8 W w1) 0 d [v])(b:w1.grownBy w2 (some c)):Rep w2 (B8 w w2) 0 d [v]:=
 h.mono (fun k a=>⟨Lq e a.1,Ll a.2 b.size⟩) (fun k a=>b.block k a.2 (by have:=a.1;simp;omega))
theorem vQw (hs:s.size<=1048576)(R:z<=12)(y:z<=11->aQl s a1 (z+1))(h:RB w rb s i z)(p:Env w rb a1)(J:i<=s.size) :
  Calls Tryz.prog 160 #[D3 rb] w (RPost w rb s i z a1 (R2 (Ls.pat (12-z)) (rest s i))):=by
 have k:Hid (In 177 w rb s i z (w.alloc (H0 177 rb))):=In.enter 177 h;have M:=h.lt
 by_cases I:z=12
 ·subst I
  have a:Hid (R2 (Ls.pat (12-12)) (rest s i)=.none):=rfl;have m:=hQw rb s i a1 _ k.out.lies (k.out.env p);go_enter Tryz.func160,Tryz.ntmps160;go_wp2_with fail;refine m.mono ?_;rintro e o ⟨rfl,l⟩;go_wp2_with fail;exact⟨rfl,.inr ⟨a.out,rfl,k.out.threw rfl l⟩⟩
 ·have C:Hid (aQl s a1 (z+1)):=y (by omega)
  have m:=hQx rb s i z _ k.out.lies (by omega);clear y;go_enter Tryz.func160,Tryz.ntmps160;go_wp2_with fail;refine m.mono ?_;rintro e t ⟨rfl,K⟩;have c:=k.out.go K;have H:=c.cell;clear m;go_wp2_with fail;refine(C.out rb i t c.lies (c.env p) J).mono ?_;rintro e n (⟨d,j,v,g,O,P,rfl,r,L⟩|⟨g,rfl,l⟩)
  ·rw[show 13-(z+1)=12-z from by omega]at g
   have u:Hid (Ls.pat (12-z) (rest s i)=some (d,rest s j)):=g;clear g H;have f:=c.go L;have N:=f.cell;obtain⟨B,x,rfl⟩:=r.iface;have F:Hid (w.heap.size<=t.heap.size):=Nat.le_of_lt c.size;have G:Hid (Rep n (B8 t n) 0 d [.iface B x]):=r;clear r;cases b:A7 s j 41 with
   | true=>
    have a:Hid (R2 (Ls.pat (12-z)) (rest s i)=some (d,rest s (j+1))):=vQv u.out b;have Q:=(D9 b).1;have q:=eQg rb s j z 41 n f.lies hs (by omega) b;clear b;go_wp2_with fail;refine q.mono ?_;rintro e o ⟨rfl,A⟩;have E:Hid (Rep o (B8 w o) 0 d [.iface B x]):=G.out.grown M F.out A.grown;go_wp2_with fail;go_ret;exact .inl ⟨d,j+1,_,a.out,by omega,by omega,rfl,E.out,(f.go A).left⟩
   | false=>
    have a:Hid (R2 (Ls.pat (12-z)) (rest s i)=.none):=vQt u.out b;have q:=eQf rb s j (z+1) 41 a1 n f.lies (f.env p) hs (by omega) b;clear b;go_wp2_with fail;refine q.mono ?_;rintro e o ⟨rfl,l⟩;go_wp2_with fail;exact⟨rfl,.inr ⟨a.out,rfl,f.threw rfl l⟩⟩
  ·rw[show 13-(z+1)=12-z from by omega]at g
   have a:Hid (R2 (Ls.pat (12-z)) (rest s i)=.none):=vQu g;go_wp2_with fail;exact⟨rfl,.inr ⟨a.out,rfl,c.threw rfl l⟩⟩
def gQa (s:ByteArray)(a1:Addr)(z:Nat):Prop:=∀(rb i:Nat) (w:World),RB w rb s i z->Env w rb a1->i<=s.size->
 Ca 141 #[D3 rb] w (RPost w rb s i z a1 (Ls.fXg (Ls.pat (12-z)) (rest s i)))
theorem RPost.after {w:World}{f:Nat}{s:ByteArray}{i z:Nat}{g:Addr}{o:Ls.Rd}{e:Ending}(h:RPost w1 f s j z g o e w2)(c:w.grownBy w1 (some f))(u:i<=j)(a:res=o):RPost w f s i z g res e w2:=by
 subst a;rcases h with⟨d,k,v,a,t,p,b,r,l⟩|⟨a,b,q⟩
 ·exact .inl ⟨d,k,v,a,by omega,p,b,r.mono (fun m n=>⟨Lq c.size n.1,n.2⟩) (fun _ _=>rfl),l.lies,J8 c l.grown⟩
 ·exact .inr ⟨a,b,J8 c q⟩
theorem RPost.placed {w:World}{b:Nat}{s:ByteArray}{i z:Nat}{c:Addr}{g:List UInt8}{lo a:Nat}(k:res=some (Ls.place g,rest s j))(e:i<=j)(f:j<=s.size)(d:SB g lo a)(h:RLeft w b s j z W):RPost w b s i z c res (.returned (K3 lo a)) W:=
 .inl ⟨Ls.place g,j,_,k,e,f,rfl,.place d,h⟩
theorem dXf (hs:s.size<=1048576)(h:RB w rb s i z)(c:Env w rb a1)(f:i=s.size) :
  Calls Tryz.prog 141 #[D3 rb] w (RPost w rb s i z a1 (Ls.fXg (Ls.pat (12-z)) (rest s i))):=by
 subst f;have b:Hid (Ls.fXg (Ls.pat (12-z)) (rest s s.size)=.none):=by show _=_;rw[P4 (by omega)];rfl
 have a:Hid (In 177 w rb s s.size z (w.alloc (H0 177 rb))):=In.enter 177 h;have g:=dQi rb s s.size z a1 _ a.out.lies (a.out.env c) hs (by omega) (by omega);go_enter Tryz.func141,Tryz.ntmps141;go_wp2_with fail;refine g.mono ?_;rintro e j ⟨rfl,d⟩;go_wp2_with fail;exact⟨rfl,.inr ⟨b.out,rfl,a.out.threw rfl d⟩⟩
theorem dXj (hs:s.size<=1048576)(C:z<=12)(r:z<=11->aQl s a1 (z+1))(h:RB w rb s i z)(t:Env w rb a1)(l:i<s.size)(f:nx s i=40) :
  Calls Tryz.prog 141 #[D3 rb] w (RPost w rb s i z a1 (Ls.fXg (Ls.pat (12-z)) (rest s i))):=by
 have k:Hid (Ls.fXg (Ls.pat (12-z)) (rest s i)=R2 (Ls.pat (12-z)) (rest s (i+1))):=by show _=_;rw[D4 l,f];rfl
 have g:Hid (In 177 w rb s i z (w.alloc (H0 177 rb))):=In.enter 177 h;have m:=O2 rb s i z _ g.out.lies hs l;rw[f]at m;clear f;go_enter Tryz.func141,Tryz.ntmps141;go_wp2_with fail;refine m.mono ?_;rintro e o ⟨rfl,A⟩;have a:=g.out.go A;have E:=a.cell;go_wp2_with fail;refine(vQw s a1 z rb (i+1) o hs C r a.lies (a.env t) (by omega)).mono ?_;rintro e p (⟨d,j,v,b,x,y,rfl,n,B⟩|⟨b,rfl,u⟩)
 ·have c:Hid (R2 (Ls.pat (12-z)) (rest s (i+1))=some (d,rest s j)):=b
  clear b;have q:Hid (Rep p (B8 o p) 0 d [v]):=n;clear n;go_wp2_with fail;go_ret;exact RPost.after (.inl ⟨d,j,v,c.out,x,y,rfl,q.out,B⟩) a.left.grown (by omega) k.out
 ·have c:Hid (R2 (Ls.pat (12-z)) (rest s (i+1))=.none):=b
  clear b;go_wp2_with fail;exact⟨rfl,RPost.after (.inr ⟨c.out,rfl,u⟩) a.left.grown (Nat.le_succ i) k.out⟩
theorem dXd (hs:s.size<=1048576)(h:RB w rb s i z)(n:Env w rb a1)(l:i<s.size)(d:nx s i=91) :
  Calls Tryz.prog 141 #[D3 rb] w (RPost w rb s i z a1 (Ls.fXg (Ls.pat (12-z)) (rest s i))):=by
 have k:Hid (Ls.fXg (Ls.pat (12-z)) (rest s i)=match Ls.cls ((rest s (i+1)).length+1) [] (rest s (i+1)) with|.none=>.none|some (g,u)=>some (Ls.place g,u)):=by show _=_;rw[D4 l,d];rfl
 have f:Hid (In 177 w rb s i z (w.alloc (H0 177 rb))):=In.enter 177 h;have m:=O2 rb s i z _ f.out.lies hs l;rw[d]at m;clear d;go_enter Tryz.func141,Tryz.ntmps141;go_wp2_with fail;refine m.mono ?_;rintro e v ⟨rfl,r⟩;have a:=f.out.go r;have x:=a.cell;go_wp2_with fail;refine(aXz rb s (i+1) z a1 v a.lies (a.env n) hs (by omega)).mono ?_;rintro e B (⟨g,j,lo,y,b,A,q,rfl,o,t⟩|⟨b,rfl,p⟩)
 ·have c:Hid (Ls.fXg (Ls.pat (12-z)) (rest s i)=some (Ls.place g,rest s j)):=by show _=_;rw[k.out,b]
  clear b;go_wp2_with fail;go_ret;exact RPost.placed c.out (by omega) q o (a.go t).left
 ·have c:Hid (Ls.fXg (Ls.pat (12-z)) (rest s i)=.none):=by show _=_;rw[k.out,b]
  clear b;go_wp2_with fail;exact⟨rfl,.inr ⟨c.out,rfl,a.threw rfl p⟩⟩
theorem dXe (hs:s.size<=1048576)(h:RB w rb s i z)(f:i<s.size)(a:nx s i=46) :
  Calls Tryz.prog 141 #[D3 rb] w (RPost w rb s i z a1 (Ls.fXg (Ls.pat (12-z)) (rest s i))):=by
 have j:Hid (Ls.fXg (Ls.pat (12-z)) (rest s i)=some (Ls.place Ls.az,rest s (i+1))):=by show _=_;rw[D4 f,a];rfl
 have b:Hid (In 177 w rb s i z (w.alloc (H0 177 rb))):=In.enter 177 h;have g:=O2 rb s i z _ b.out.lies hs f;rw[a]at g;clear a;go_enter Tryz.func141,Tryz.ntmps141;go_wp2_with fail;refine g.mono ?_;rintro e r ⟨rfl,q⟩;have o:=b.out.go q;go_wp2_with fail;refine(fQz 0 0 97 122 _ (by decide) (by decide) (by omega) (by omega)).mono ?_;rintro e t ⟨lo,p,rfl,k,l,c,n⟩;have m:SB Ls.az lo p:=(SB.with SB.empty k l (by decide) c).congr (fun d=>(vQd d).symm);clear c;go_wp2_with fail;go_ret;exact RPost.placed j.out (by omega) (by omega) m (o.below n).left
theorem dXg (hs:s.size<=1048576)(h:RB w rb s i z)(G:Env w rb a1)(y:i<s.size)(f:nx s i=92) :
  Calls Tryz.prog 141 #[D3 rb] w (RPost w rb s i z a1 (Ls.fXg (Ls.pat (12-z)) (rest s i))):=by
 have u:Hid (In 177 w rb s i z (w.alloc (H0 177 rb))):=In.enter 177 h;have A:=O2 rb s i z _ u.out.lies hs y;rw[f]at A;rcases Nat.lt_or_ge (i+1) s.size with j|j
 ·cases l:Ls.gXu (nx s (i+1)) with
  | true=>
   have p:Hid (Ls.fXg (Ls.pat (12-z)) (rest s i)=some (Ls.place [nx s (i+1)],rest s (i+1+1))):=by
    show _=_;rw[D4 y,f,D4 j];simp[Ls.fXg,l]
   have B:Hid (Ls.gXu (nx s (i+1))=true):=l;clear f l;go_enter Tryz.func141,Tryz.ntmps141;go_wp2_with fail;refine A.mono ?_;rintro e d ⟨rfl,t⟩;have c:=u.out.go t;have m:Hid (In 177 w rb s (i+1) z d):=c;have x:=c.cell;clear c;have n:Hid (∀W,Below d.heap.size d W->Calls Tryz.prog 143 #[.pointer (some ⟨rb,0,none⟩)] W fun e a=>e=.returned (.int .u8 (nx s (i+1)).toNat)/\In 177 w rb s (i+1+1) z a):=by
    intro W r;have b:=m.out.below r;refine(O2 rb s (i+1) z W b.lies hs j).mono ?_;rintro e a ⟨rfl,E⟩;exact⟨rfl,b.go E⟩
   go_wp2_with fail;go_region_held3 (fun a=>a.cell? ⟨w.heap.size,0,none⟩=some (.pointer (some ⟨rb,0,none⟩))) (first|assumption|go_keep)
    (first
     | (go_at_call 143;refine(n.out _ ?_).mono ?_;exact(Below.refl _ _).drew;rintro e I ⟨rfl,k⟩;have F:=k.cell)
     | (go_at_call 163;refine(mQ2 rb (nx s (i+1)) _ B.out).mono ?_;rintro e M ⟨⟨lo,O,rfl,L⟩,H⟩;have N:=(k.below H).cell))
   all_goals
    go_wp2_with fail;go_ret;exact RPost.placed p.out (by omega) (by omega) L (k.below H).left
  | false=>
   have p:Hid (Ls.fXg (Ls.pat (12-z)) (rest s i)=.none):=by
    show _=_;rw[D4 y,f,D4 j];simp[Ls.fXg,l]
   have B:Hid (Ls.gXu (nx s (i+1))=false):=l;clear f l;go_enter Tryz.func141,Tryz.ntmps141;go_wp2_with fail;refine A.mono ?_;rintro e d ⟨rfl,t⟩;have c:=u.out.go t;have m:Hid (In 177 w rb s (i+1) z d):=c;have x:=c.cell;clear c;have n:Hid (∀W,Below d.heap.size d W->Calls Tryz.prog 143 #[.pointer (some ⟨rb,0,none⟩)] W fun e a=>e=.returned (.int .u8 (nx s (i+1)).toNat)/\In 177 w rb s (i+1+1) z a):=by
    intro W r;have b:=m.out.below r;refine(O2 rb s (i+1) z W b.lies hs j).mono ?_;rintro e a ⟨rfl,E⟩;exact⟨rfl,b.go E⟩
   have J:Hid (∀W,In 177 w rb s (i+1+1) z W->Calls Tryz.prog 163 #[D3 rb,.int .u8 (nx s (i+1)).toNat] W (K6 w rb a1)):=by
    intro W b;refine(mQ1 rb (nx s (i+1)) a1 W (b.env G) B.out).mono ?_;rintro e a ⟨rfl,g⟩;exact⟨rfl,b.threw rfl g⟩
   go_wp2_with fail;refine wp_region_held_drew (S:=fun a=>a.cell? ⟨w.heap.size,0,none⟩=some (.pointer (some ⟨rb,0,none⟩))) (by kernel_rfl) (by simp[x]) (fun hHeld=>?_);refine wpAnyH_take (i:=0) (oi:=⟨_,_,_,_,_,_⟩) (v:=D3 rb) rfl (by kernel_rfl) (by kernel_rfl) (by kernel_rfl) (fun _ _ _ h=>h) (Or.inl ⟨by rfl,fun a q=>by go_simp⟩) hHeld ?_;simp only[Act.put,List.setIfInBounds_toArray,List.set_cons_zero,List.set_cons_succ];refine wpAnyH_take (i:=1) (oi:=⟨_,_,_,_,_,_⟩) (v:=.pointer (some ⟨w.heap.size,0,none⟩)) rfl (by kernel_rfl) (by kernel_rfl) (by kernel_rfl) (fun _ _ _ h=>h) (Or.inl ⟨by rfl,fun a q=>by go_simp⟩) hHeld ?_;simp only[Act.put,List.setIfInBounds_toArray,List.set_cons_zero,List.set_cons_succ];refine wpAnyH_take (i:=2) (oi:=⟨_,_,_,_,_,_⟩) (v:=.pointer (some ⟨rb,0,none⟩)) rfl (by kernel_rfl) (by kernel_rfl) (by kernel_rfl) (fun _ _ _ h=>h) (Or.inl ⟨by rfl,fun a q=>by go_simp⟩) hHeld ?_;simp only[Act.put,List.setIfInBounds_toArray,List.set_cons_zero,List.set_cons_succ];refine wpAnyH_ready (rs:=[3]) (by kernel_rfl) (by simp) (AllReadyH.cons (o:=⟨_,_,_,_,_,_⟩) rfl (fun K C=>?_) AllReadyH.nil);go_simp
   refine(n.out _ (Below.refl _ _).drew).mono ?_;rintro e I ⟨rfl,k⟩;have F:=k.cell;go_simp
   refine C.out _ _ F (fun hHeld=>?_);refine wpAnyH_ready (rs:=[4]) (by kernel_rfl) (by simp) (AllReadyH.cons (o:=⟨_,_,_,_,_,_⟩) rfl (fun K C=>?_) AllReadyH.nil);go_simp
   refine(J.out _ k).mono ?_;rintro e M ⟨rfl,g⟩;go_wp2_with fail;exact⟨rfl,.inr ⟨p.out,rfl,g⟩⟩
 ·have p:Hid (Ls.fXg (Ls.pat (12-z)) (rest s i)=.none):=by
   show _=_;rw[D4 y,f,P4 j];simp[Ls.fXg]
  clear f;go_enter Tryz.func141,Tryz.ntmps141;go_wp2_with fail;refine A.mono ?_;rintro e d ⟨rfl,t⟩;have c:=u.out.go t;have m:Hid (In 177 w rb s (i+1) z d):=c;have x:=c.cell;clear c;have n:Hid (∀W,Below d.heap.size d W->Calls Tryz.prog 143 #[.pointer (some ⟨rb,0,none⟩)] W (K6 w rb a1)):=by
   intro W r;have b:=m.out.below r;refine(dQi rb s (i+1) z a1 W b.lies (b.env G) hs j (by omega)).mono ?_;rintro e a ⟨rfl,g⟩;exact⟨rfl,b.threw rfl g⟩
  go_wp2_with fail;refine wp_region_held_drew (S:=fun a=>a.cell? ⟨w.heap.size,0,none⟩=some (.pointer (some ⟨rb,0,none⟩))) (by kernel_rfl) (by simp[x]) (fun hHeld=>?_);refine wpAnyH_take (i:=0) (oi:=⟨_,_,_,_,_,_⟩) (v:=D3 rb) rfl (by kernel_rfl) (by kernel_rfl) (by kernel_rfl) (fun _ _ _ h=>h) (Or.inl ⟨by rfl,fun a q=>by go_simp⟩) hHeld ?_;simp only[Act.put,List.setIfInBounds_toArray,List.set_cons_zero,List.set_cons_succ];refine wpAnyH_take (i:=1) (oi:=⟨_,_,_,_,_,_⟩) (v:=.pointer (some ⟨w.heap.size,0,none⟩)) rfl (by kernel_rfl) (by kernel_rfl) (by kernel_rfl) (fun _ _ _ h=>h) (Or.inl ⟨by rfl,fun a q=>by go_simp⟩) hHeld ?_;simp only[Act.put,List.setIfInBounds_toArray,List.set_cons_zero,List.set_cons_succ];refine wpAnyH_take (i:=2) (oi:=⟨_,_,_,_,_,_⟩) (v:=.pointer (some ⟨rb,0,none⟩)) rfl (by kernel_rfl) (by kernel_rfl) (by kernel_rfl) (fun _ _ _ h=>h) (Or.inl ⟨by rfl,fun a q=>by go_simp⟩) hHeld ?_;simp only[Act.put,List.setIfInBounds_toArray,List.set_cons_zero,List.set_cons_succ];refine wpAnyH_ready (rs:=[3]) (by kernel_rfl) (by simp) (AllReadyH.cons (o:=⟨_,_,_,_,_,_⟩) rfl (fun K C=>?_) AllReadyH.nil);go_simp
  refine(n.out _ (Below.refl _ _).drew).mono ?_;rintro e I ⟨rfl,g⟩;go_wp2_with fail;exact⟨rfl,.inr ⟨p.out,rfl,g⟩⟩
def cQi:ByteArray:=⟨#[40,41,91,93,42,43,63,124,47,34,92]⟩
theorem cXr (c:UInt8)(a:c≠40)(b:c≠91)(d:c≠92):decide (0<=firstIdx cQi c)=Ls.jX8 c:=by
 rw[firstIdx_nonneg,Bool.eq_iff_iff];simp[cQi,Ls.jX8];constructor
 ·rintro (h|h|h|h|h|h|h|h|h|h|h)<;>simp_all
 ·rintro (((((((h|h)|h)|h)|h)|h)|h)|h)<;>simp_all
theorem dXk (hs:s.size<=1048576)(h:RB w rb s i z)(v:Env w rb a1)(y:i<s.size)(k:nx s i≠40)(l:nx s i≠91)(r:nx s i≠46)(m:nx s i≠92) :
  Calls Tryz.prog 141 #[D3 rb] w (RPost w rb s i z a1 (Ls.fXg (Ls.pat (12-z)) (rest s i))):=by
 have j:Hid (In 177 w rb s i z (w.alloc (H0 177 rb))):=In.enter 177 h;have t:=O2 rb s i z _ j.out.lies hs y;have x:Ls.fXg (Ls.pat (12-z)) (rest s i)=if Ls.jX8 (nx s i)=true\/Ls.gXu (nx s i)=false then .none else some (Ls.place [nx s i],rest s (i+1)):=by
  rw[D4 y];simp[Ls.fXg,k,l,r,m]
 have o:Hid _:=x;clear x;have J:(((nx s i).toNat:Int)==40)=false:=by rw[beq_eq_false_iff_ne];intro e;exact k (UInt8.toNat_inj.1 (by simpa using (by omega:(nx s i).toNat=40)))
 have K:(((nx s i).toNat:Int)==91)=false:=by rw[beq_eq_false_iff_ne];intro e;exact l (UInt8.toNat_inj.1 (by simpa using (by omega:(nx s i).toNat=91)))
 have L:(((nx s i).toNat:Int)==46)=false:=by rw[beq_eq_false_iff_ne];intro e;exact r (UInt8.toNat_inj.1 (by simpa using (by omega:(nx s i).toNat=46)))
 have M:(((nx s i).toNat:Int)==92)=false:=by rw[beq_eq_false_iff_ne];intro e;exact m (UInt8.toNat_inj.1 (by simpa using (by omega:(nx s i).toNat=92)))
 have c:=cXr (nx s i) k l m;clear k l r m;have n:Hid (∀W,Ca 164 #[.string cQi,.int .u8 (nx s i).toNat] W fun e I=>e=.returned (Iv (firstIdx cQi (nx s i)))/\I=W):=fun W=>vQj (nx s i) cQi W;generalize firstIdx cQi (nx s i)=q at *;cases b:Ls.jX8 (nx s i) with
 | true=>
  have f:Hid (Ls.fXg (Ls.pat (12-z)) (rest s i)=.none):=by show _=_;rw[o.out,if_pos (.inl b)]
  rw[b]at c;have H:0<=q:=of_decide_eq_true c;clear b c;go_enter Tryz.func141,Tryz.ntmps141;go_wp2_with fail;refine t.mono ?_;rintro e A ⟨rfl,g⟩;have a:=j.out.go g;have u:=a.cell;go_wp2_with fail;refine(n.out _).mono ?_;rintro e B ⟨rfl,rfl⟩;go_wp2_with fail;refine(V7 _ a1 _ (a.env v).sc).mono ?_;rintro e C ⟨rfl,rfl⟩;go_wp2_with fail;exact⟨rfl,.inr ⟨f.out,rfl,a.left.grown⟩⟩
 | false=>
  rw[b]at c;have H:¬0<=q:=of_decide_eq_false c;cases d:Ls.gXu (nx s i) with
  | true=>
   have f:Hid (Ls.fXg (Ls.pat (12-z)) (rest s i)=some (Ls.place [nx s i],rest s (i+1))):=by show _=_;rw[o.out,if_neg (by rw[b,d];simp)]
   have p:Hid _:=d;clear b c d;go_enter Tryz.func141,Tryz.ntmps141;go_wp2_with fail;refine t.mono ?_;rintro e A ⟨rfl,g⟩;have a:=j.out.go g;have u:=a.cell;go_wp2_with fail;refine(n.out _).mono ?_;rintro e B ⟨rfl,rfl⟩;go_wp2_with fail;refine(mQ2 rb (nx s i) _ p.out).mono ?_;rintro e C ⟨⟨lo,N,rfl,E⟩,F⟩;go_wp2_with fail;go_ret;exact RPost.placed f.out (by omega) (by omega) E (a.below F).left
  | false=>
   have f:Hid (Ls.fXg (Ls.pat (12-z)) (rest s i)=.none):=by show _=_;rw[o.out,if_pos (.inr d)]
   have p:Hid _:=d;clear b c d;go_enter Tryz.func141,Tryz.ntmps141;go_wp2_with fail;refine t.mono ?_;rintro e A ⟨rfl,g⟩;have a:=j.out.go g;have u:=a.cell;go_wp2_with fail;refine(n.out _).mono ?_;rintro e B ⟨rfl,rfl⟩;go_wp2_with fail;refine(mQ1 rb (nx s i) a1 _ (a.env v) p.out).mono ?_;rintro e C ⟨rfl,G⟩;go_wp2_with fail;exact⟨rfl,.inr ⟨f.out,rfl,a.threw rfl G⟩⟩
theorem bX9 (hs:s.size<=1048576)(k:z<=12)(j:z<=11->aQl s a1 (z+1)):gQa s a1 z:=by
 intro b i w h c l;rcases Nat.lt_or_ge i s.size with a|a
 ·by_cases d:nx s i=40
  ·exact dXj s a1 z b i w hs k j h c a d
  ·by_cases e:nx s i=91
   ·exact dXd s a1 z b i w hs h c a e
   ·by_cases f:nx s i=46
    ·exact dXe s a1 z b i w hs h a f
    ·by_cases g:nx s i=92
     ·exact dXg s a1 z b i w hs h c a g
     ·exact dXk s a1 z b i w hs h c a d e f g
 ·exact dXf s a1 z b i w hs h c (by omega)
end Go.Proofs.YtfklinjaajafgaaGreatDoor
