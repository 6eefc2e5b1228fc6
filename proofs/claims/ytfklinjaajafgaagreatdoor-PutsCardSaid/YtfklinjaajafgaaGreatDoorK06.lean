import Derived.Test.YtfklinjaajafgaaGreatDoorK03
import Derived.Deep.RegionHeld3
import Derived.Deep.DrawnRows
import Derived.Deep.AppendLies
import Derived.Stop.IfaceNil
set_option maxRecDepth 100000
set_option maxHeartbeats 4000000
namespace Go.Proofs.YtfklinjaajafgaaGreatDoor
open Ls
open Go.RowKit
variable {G:Nat->Prop}{P:Lu->Rd}{W w1 w2:World}{d:Ls.D}{j:Nat}{r:Lu}{res:Rd}{v:Value}(s:By)(ty:TypeId)(a1:Addr)(x:Value)(z rb i:Nat)(w:World)
theorem Rep.iface {w:World}(h:Rep w G 0 d [v]):∃t x,v=.iface t x:=by
 rcases h.at0 with⟨_,_,_,_,_,rfl⟩|⟨_,_,_,_,_,_,rfl⟩|⟨_,_,_,_,rfl⟩|⟨_,_,_,_,rfl⟩<;>exact⟨_,_,rfl⟩
def X3 (s:By)(i:Nat)(v:Value):Value:=if A7 s i 42=true then T8 v true true else if A7 s i 43=true then T8 v false true else if A7 s i 63=true then T8 v true false else v
def X2 (s:By)(i:Nat)(d:Ls.D):Ls.D:=if A7 s i 42=true then Ls.rep 5 d else if A7 s i 43=true then Ls.rep 6 d else if A7 s i 63=true then Ls.rep 7 d else d
def L8 (s:By)(i:Nat):Nat:=if A7 s i 42=true then i+1 else if A7 s i 43=true then i+1 else if A7 s i 63=true then i+1 else i
theorem bXe {s:By}(h:fXg P r=some (d,rest s j)):gXq P r=some (X2 s j d,rest s (L8 s j)):=by
 rw[gXq,h];dsimp only
 unfold X2 L8;cases a:A7 s j 42 with
 | true=>rw[if_pos (C4.2 a),E7];simp
 | false=>
  rw[if_neg (by rw[C4,a];simp)];cases b:A7 s j 43 with
  | true=>rw[if_pos (C4.2 b),E7];simp
  | false=>
   rw[if_neg (by rw[C4,b];simp)];cases c:A7 s j 63 with
   | true=>rw[if_pos (C4.2 c),E7];simp
   | false=>rw[if_neg (by rw[C4,c];simp)];simp
theorem bXd {w:World}(h:Rep w G 0 d [v]):Rep w G 0 (X2 s i d) [X3 s i v]:=by
 unfold X2 X3;split
 ·exact .rep (t:=5) (by simp) h
 ·split
  ·exact .rep (t:=6) (by simp) h
  ·split
   ·exact .rep (t:=7) (by simp) h
   ·exact h
theorem aX9 {s:By}{i:Nat}(h:i<=s.size):i<=L8 s i/\L8 s i<=s.size:=by
 unfold L8;have b:∀c,A7 s i c=true->i<s.size:=fun c d=>(D9 d).1;split
 ·rename_i a;have:=b _ a;omega
 ·split
  ·rename_i a;have:=b _ a;omega
  ·split
   ·rename_i a;have:=b _ a;omega
   ·omega
theorem lQn:
  Calls Tryz.prog 159 #[.iface ty x] w fun e a=>e=.returned (T8 (.iface ty x) true true)/\a=w:=by
 go_enter Tryz.func159,Tryz.ntmps159;go_wp2;go_ret;exact⟨rfl,rfl⟩
theorem bXf (h:RB w rb s i z)(hs:s.size<=1048576)(B:i<=s.size) :
  Calls Tryz.prog 140 #[D3 rb,.iface ty x] w fun e y=>e=.returned (X3 s i (.iface ty x))/\RLeft w rb s (L8 s i) z y:=by
 have j:Hid _:=In.enter 177 h;cases b:A7 s i 42 with
 | true=>
  have a:Hid (X3 s i (.iface ty x)=T8 (.iface ty x) true true/\L8 s i=i+1):=by simp[Hid,X3,L8,b]
  have v:=Z5 rb s i z 42 _ j.out.lies hs b;go_enter Tryz.func140,Tryz.ntmps140;go_wp2_with fail;refine v.mono ?_;rintro e l ⟨rfl,c⟩;go_wp2_with fail;refine(lQn ty x _).mono ?_;rintro e n ⟨rfl,rfl⟩;go_wp2;go_ret;rw[a.out.1,a.out.2];exact⟨rfl,(j.out.go c).left⟩
 | false=>
  have q:=X5 rb s i z 42 _ j.out.lies hs (by omega) b;cases d:A7 s i 43 with
  | true=>
   have a:Hid (X3 s i (.iface ty x)=T8 (.iface ty x) false true/\L8 s i=i+1):=by simp[Hid,X3,L8,b,d]
   have o:Hid _:=d;go_enter Tryz.func140,Tryz.ntmps140;go_wp2_with fail;refine q.mono ?_;rintro e l ⟨rfl,c⟩;have f:=j.out.go c;have t:=f.cell;go_wp2_with fail;refine(Z5 rb s i z 43 l c.lies hs o.out).mono ?_;rintro e n ⟨rfl,g⟩;go_wp2_with fail;go_ret;rw[a.out.1,a.out.2];exact⟨rfl,(f.go g).left⟩
  | false=>
   have o:Hid (A7 s i 43=false):=d;cases k:A7 s i 63 with
   | true=>
    have a:Hid (X3 s i (.iface ty x)=T8 (.iface ty x) true false/\L8 s i=i+1):=by simp[Hid,X3,L8,b,d,k]
    have p:Hid (A7 s i 63=true):=k;clear b d k;go_enter Tryz.func140,Tryz.ntmps140;go_wp2_with fail;refine q.mono ?_;rintro e l ⟨rfl,c⟩;have f:=j.out.go c;have t:=f.cell;go_wp2_with fail;refine(X5 rb s i z 43 l c.lies hs (by omega) o.out).mono ?_;rintro e n ⟨rfl,g⟩;have m:=f.go g;have u:=m.cell;go_wp2_with fail;refine(Z5 rb s i z 63 n g.lies hs p.out).mono ?_;rintro e A ⟨rfl,r⟩;go_wp2_with fail;go_ret;rw[a.out.1,a.out.2];exact⟨rfl,(m.go r).left⟩
   | false=>
    have a:Hid (X3 s i (.iface ty x)=.iface ty x/\L8 s i=i):=by simp[Hid,X3,L8,b,d,k]
    have p:Hid (A7 s i 63=false):=k;clear b d k;go_enter Tryz.func140,Tryz.ntmps140;go_wp2_with fail;refine q.mono ?_;rintro e l ⟨rfl,c⟩;have f:=j.out.go c;have t:=f.cell;go_wp2_with fail;refine(X5 rb s i z 43 l c.lies hs (by omega) o.out).mono ?_;rintro e n ⟨rfl,g⟩;have m:=f.go g;have u:=m.cell;go_wp2_with fail;refine(X5 rb s i z 63 n g.lies hs (by omega) p.out).mono ?_;rintro e A ⟨rfl,r⟩;go_wp2_with fail;go_ret;rw[a.out.1,a.out.2];exact⟨rfl,(m.go r).left⟩
def aQl (s:By)(a1:Addr)(z:Nat):Prop:=∀(rb i:Nat) (w:World),RB w rb s i z->Env w rb a1->i<=s.size->
 Ca 113 #[D3 rb] w (RPost w rb s i z a1 (pat (13-z) (rest s i)))
def R2 (P:Lu->Rd)(r:Lu):Rd:=
 match P r with
 | .none=>.none
 | some (d,u)=>if u.head?=some 41 then some (d,u.tail) else .none
theorem vQv {s:By}(h:P r=some (d,rest s j))(a:A7 s j 41=true):R2 P r=some (d,rest s (j+1)):=by
 unfold R2;rw[h];dsimp only
 rw[if_pos (C4.2 a),E7]
theorem vQt {s:By}(h:P r=some (d,rest s j))(a:A7 s j 41=false):R2 P r=.none:=by
 unfold R2;rw[h];dsimp only
 rw[if_neg (by rw[C4,a];simp)]
theorem vQu (h:P r=.none):R2 P r=.none:=by
 unfold R2;rw[h]
theorem Rep.grown {w:World}{c:Nat}(f:c<w.heap.size)(e:w.heap.size<=W.heap.size)(h:Rep w1 (B8 W w1) 0 d [v])(b:w1.grownBy w2 (some c)):Rep w2 (B8 w w2) 0 d [v]:=
 h.mono (fun k a=>⟨Lq e a.1,Ll a.2 b.size⟩) (fun k a=>b.block k a.2 (by have:=a.1;simp;omega))
theorem vQw (hs:s.size<=1048576)(R:z<=12)(y:z<=11->aQl s a1 (z+1))(h:RB w rb s i z)(p:Env w rb a1)(J:i<=s.size) :
  Calls Tryz.prog 160 #[D3 rb] w (RPost w rb s i z a1 (R2 (pat (12-z)) (rest s i))):=by
 have k:Hid _:=In.enter 177 h;have M:=h.lt
 by_cases I:z=12
 ·subst I
  have a:Hid (R2 (pat (12-12)) (rest s i)=.none):=rfl;have m:=hQw rb s i a1 _ k.out.lies (k.out.env p);go_enter Tryz.func160,Tryz.ntmps160;go_wp2_with fail;refine m.mono ?_;rintro e o ⟨rfl,l⟩;go_wp2;exact⟨rfl,.inr ⟨a.out,rfl,k.out.threw rfl l⟩⟩
 ·have C:Hid _:=y (by omega)
  have m:=hQx rb s i z _ k.out.lies (by omega);go_enter Tryz.func160,Tryz.ntmps160;go_wp2_with fail;refine m.mono ?_;rintro e t ⟨rfl,K⟩;have c:=k.out.go K;have H:=c.cell;go_wp2_with fail;refine(C.out rb i t c.lies (c.env p) J).mono ?_;rintro e n (⟨d,j,v,g,O,P,rfl,r,L⟩|⟨g,rfl,l⟩)
  ·rw[show 13-(z+1)=12-z from by omega]at g
   have u:Hid _:=g;have f:=c.go L;have N:=f.cell;obtain⟨B,x,rfl⟩:=r.iface;have F:Hid _:=Nat.le_of_lt c.size;have G:Hid _:=r;cases b:A7 s j 41 with
   | true=>
    have a:Hid _:=vQv u.out b;have Q:=(D9 b).1;have q:=eQg rb s j z 41 n f.lies hs (by omega) b;clear b;go_wp2_with fail;refine q.mono ?_;rintro e o ⟨rfl,A⟩;have E:Hid (Rep o (B8 w o) 0 d [.iface B x]):=G.out.grown M F.out A.grown;go_wp2_with fail;go_ret;exact .inl ⟨d,j+1,_,a.out,by omega,by omega,rfl,E.out,(f.go A).left⟩
   | false=>
    have a:Hid (R2 (pat (12-z)) (rest s i)=.none):=vQt u.out b;have q:=eQf rb s j (z+1) 41 a1 n f.lies (f.env p) hs (by omega) b;clear b;go_wp2_with fail;refine q.mono ?_;rintro e o ⟨rfl,l⟩;go_wp2_with fail;exact⟨rfl,.inr ⟨a.out,rfl,f.threw rfl l⟩⟩
  ·rw[show 13-(z+1)=12-z from by omega]at g
   have a:Hid (R2 (pat (12-z)) (rest s i)=.none):=vQu g;go_wp2_with fail;exact⟨rfl,.inr ⟨a.out,rfl,c.threw rfl l⟩⟩
def gQa (s:By)(a1:Addr)(z:Nat):Prop:=∀(rb i:Nat) (w:World),RB w rb s i z->Env w rb a1->i<=s.size->
 Ca 141 #[D3 rb] w (RPost w rb s i z a1 (fXg (pat (12-z)) (rest s i)))
theorem RPost.after {w:World}{f:Nat}{s:By}{i z:Nat}{g:Addr}{o:Rd}{e:Ending}(h:RPost w1 f s j z g o e w2)(c:w.grownBy w1 (some f))(u:i<=j)(a:res=o):RPost w f s i z g res e w2:=by
 subst a;rcases h with⟨d,k,v,a,t,p,b,r,l⟩|⟨a,b,q⟩
 ·exact .inl ⟨d,k,v,a,by omega,p,b,r.mono (fun m n=>⟨Lq c.size n.1,n.2⟩) (fun _ _=>rfl),l.lies,J8 c l.grown⟩
 ·exact .inr ⟨a,b,J8 c q⟩
theorem RPost.placed {w:World}{b:Nat}{s:By}{i z:Nat}{c:Addr}{g:Lu}{lo a:Nat}(k:res=some (Ls.place g,rest s j))(e:i<=j)(f:j<=s.size)(d:SB g lo a)(h:RLeft w b s j z W):RPost w b s i z c res (.returned (K3 lo a)) W:=
 .inl ⟨Ls.place g,j,_,k,e,f,rfl,.place d,h⟩
theorem dXf (hs:s.size<=1048576)(h:RB w rb s i z)(c:Env w rb a1)(f:i=s.size) :
  Calls Tryz.prog 141 #[D3 rb] w (RPost w rb s i z a1 (fXg (pat (12-z)) (rest s i))):=by
 subst f;have b:Hid (fXg (pat (12-z)) (rest s s.size)=.none):=by show _=_;rw[P4 (by omega)];rfl
 have a:Hid _:=In.enter 177 h;have g:=dQi rb s s.size z a1 _ a.out.lies (a.out.env c) hs (by omega) (by omega);go_enter Tryz.func141,Tryz.ntmps141;go_wp2_with fail;refine g.mono ?_;rintro e j ⟨rfl,d⟩;go_wp2;exact⟨rfl,.inr ⟨b.out,rfl,a.out.threw rfl d⟩⟩
theorem dXj (hs:s.size<=1048576)(C:z<=12)(r:z<=11->aQl s a1 (z+1))(h:RB w rb s i z)(t:Env w rb a1)(l:i<s.size)(f:nx s i=40) :
  Calls Tryz.prog 141 #[D3 rb] w (RPost w rb s i z a1 (fXg (pat (12-z)) (rest s i))):=by
 have k:Hid (fXg (pat (12-z)) (rest s i)=R2 (pat (12-z)) (rest s (i+1))):=by show _=_;rw[D4 l,f];rfl
 have g:Hid _:=In.enter 177 h;have m:=O2 rb s i z _ g.out.lies hs l;rw[f]at m;go_enter Tryz.func141,Tryz.ntmps141;go_wp2_with fail;refine m.mono ?_;rintro e o ⟨rfl,A⟩;have a:=g.out.go A;have E:=a.cell;go_wp2_with fail;refine(vQw s a1 z rb (i+1) o hs C r a.lies (a.env t) (by omega)).mono ?_;rintro e p (⟨d,j,v,b,x,y,rfl,n,B⟩|⟨b,rfl,u⟩)
 ·have c:Hid _:=b
  have q:Hid _:=n;go_wp2;go_ret;exact RPost.after (.inl ⟨d,j,v,c.out,x,y,rfl,q.out,B⟩) a.left.grown (by omega) k.out
 ·have c:Hid _:=b
  go_wp2;exact⟨rfl,RPost.after (.inr ⟨c.out,rfl,u⟩) a.left.grown (Nat.le_succ i) k.out⟩
theorem dXd (hs:s.size<=1048576)(h:RB w rb s i z)(n:Env w rb a1)(l:i<s.size)(d:nx s i=91) :
  Calls Tryz.prog 141 #[D3 rb] w (RPost w rb s i z a1 (fXg (pat (12-z)) (rest s i))):=by
 have k:Hid (fXg (pat (12-z)) (rest s i)=match cls ((rest s (i+1)).length+1) [] (rest s (i+1)) with|.none=>.none|some (g,u)=>some (Ls.place g,u)):=by show _=_;rw[D4 l,d];rfl
 have f:Hid _:=In.enter 177 h;have m:=O2 rb s i z _ f.out.lies hs l;rw[d]at m;go_enter Tryz.func141,Tryz.ntmps141;go_wp2_with fail;refine m.mono ?_;rintro e v ⟨rfl,r⟩;have a:=f.out.go r;have x:=a.cell;go_wp2_with fail;refine(aXz rb s (i+1) z a1 v a.lies (a.env n) hs (by omega)).mono ?_;rintro e B (⟨g,j,lo,y,b,A,q,rfl,o,t⟩|⟨b,rfl,p⟩)
 ·have c:Hid (fXg (pat (12-z)) (rest s i)=some (Ls.place g,rest s j)):=by show _=_;rw[k.out,b]
  go_wp2;go_ret;exact RPost.placed c.out (by omega) q o (a.go t).left
 ·have c:Hid (fXg (pat (12-z)) (rest s i)=.none):=by show _=_;rw[k.out,b]
  go_wp2;exact⟨rfl,.inr ⟨c.out,rfl,a.threw rfl p⟩⟩
theorem dXe (hs:s.size<=1048576)(h:RB w rb s i z)(f:i<s.size)(a:nx s i=46) :
  Calls Tryz.prog 141 #[D3 rb] w (RPost w rb s i z a1 (fXg (pat (12-z)) (rest s i))):=by
 have j:Hid (fXg (pat (12-z)) (rest s i)=some (Ls.place az,rest s (i+1))):=by show _=_;rw[D4 f,a];rfl
 have b:Hid _:=In.enter 177 h;have g:=O2 rb s i z _ b.out.lies hs f;rw[a]at g;go_enter Tryz.func141,Tryz.ntmps141;go_wp2_with fail;refine g.mono ?_;rintro e r ⟨rfl,q⟩;have o:=b.out.go q;go_wp2_with fail;refine(fQz 0 0 97 122 _ (by decide) (by decide) (by omega) (by omega)).mono ?_;rintro e t ⟨lo,p,rfl,k,l,c,n⟩;have m:=(SB.with SB.empty k l (by decide) c).congr (fun d=>(vQd d).symm);go_wp2;go_ret;exact RPost.placed j.out (by omega) (by omega) m (o.below n).left
theorem dXg (hs:s.size<=1048576)(h:RB w rb s i z)(G:Env w rb a1)(y:i<s.size)(f:nx s i=92) :
  Calls Tryz.prog 141 #[D3 rb] w (RPost w rb s i z a1 (fXg (pat (12-z)) (rest s i))):=by
 have u:Hid _:=In.enter 177 h;have A:=O2 rb s i z _ u.out.lies hs y;rw[f]at A;rcases Nat.lt_or_ge (i+1) s.size with j|j
 ·cases l:gXu (nx s (i+1)) with
  | true=>
   have p:Hid (fXg (pat (12-z)) (rest s i)=some (Ls.place [nx s (i+1)],rest s (i+1+1))):=by
    show _=_;rw[D4 y,f,D4 j];simp[fXg,l]
   have B:Hid _:=l;go_enter Tryz.func141,Tryz.ntmps141;go_wp2_with fail;refine A.mono ?_;rintro e d ⟨rfl,t⟩;have c:=u.out.go t;have m:Hid _:=c;have x:=c.cell;have n:Hid (∀W,Below d.heap.size d W->Calls Tryz.prog 143 #[.pointer (some ⟨rb,0,none⟩)] W fun e a=>e=.returned (.int .u8 (nx s (i+1)).toNat)/\In 177 w rb s (i+1+1) z a):=by
    intro W r;have b:=m.out.below r;refine(O2 rb s (i+1) z W b.lies hs j).mono ?_;rintro e a ⟨rfl,E⟩;exact⟨rfl,b.go E⟩
   go_wp2;go_region_held3 (fun a=>a.cell? ⟨w.heap.size,0,none⟩=some (.pointer (some ⟨rb,0,none⟩))) (first|assumption|go_keep)
    (first
     | (go_at_call 143;refine(n.out _ ?_).mono ?_;exact(Below.refl _ _).drew;rintro e I ⟨rfl,k⟩;have F:=k.cell)
     | (go_at_call 163;refine(mQ2 rb (nx s (i+1)) _ B.out).mono ?_;rintro e M ⟨⟨lo,O,rfl,L⟩,H⟩;have N:=(k.below H).cell))
   all_goals
    go_wp2;go_ret;exact RPost.placed p.out (by omega) (by omega) L (k.below H).left
  | false=>
   have p:Hid (fXg (pat (12-z)) (rest s i)=.none):=by
    show _=_;rw[D4 y,f,D4 j];simp[fXg,l]
   have B:Hid _:=l;go_enter Tryz.func141,Tryz.ntmps141;go_wp2_with fail;refine A.mono ?_;rintro e d ⟨rfl,t⟩;have c:=u.out.go t;have m:Hid _:=c;have x:=c.cell;have n:Hid (∀W,Below d.heap.size d W->Calls Tryz.prog 143 #[.pointer (some ⟨rb,0,none⟩)] W fun e a=>e=.returned (.int .u8 (nx s (i+1)).toNat)/\In 177 w rb s (i+1+1) z a):=by
    intro W r;have b:=m.out.below r;refine(O2 rb s (i+1) z W b.lies hs j).mono ?_;rintro e a ⟨rfl,E⟩;exact⟨rfl,b.go E⟩
   have J:Hid (∀W,In 177 w rb s (i+1+1) z W->Calls Tryz.prog 163 #[D3 rb,.int .u8 (nx s (i+1)).toNat] W (K6 w rb a1)):=by
    intro W b;refine(mQ1 rb (nx s (i+1)) a1 W (b.env G) B.out).mono ?_;rintro e a ⟨rfl,g⟩;exact⟨rfl,b.threw rfl g⟩
   go_wp2;refine wp_region_held_drew (S:=fun a=>a.cell? ⟨w.heap.size,0,none⟩=some (.pointer (some ⟨rb,0,none⟩))) (by kernel_rfl) (by simp[x]) (fun hHeld=>?_);refine wpAnyH_take (i:=0) (oi:=⟨_,_,_,_,_,_⟩) (v:=D3 rb) rfl (by kernel_rfl) (by kernel_rfl) (by kernel_rfl) (fun _ _ _ h=>h) (Or.inl ⟨by rfl,fun a q=>by go_simp⟩) hHeld ?_;simp only[Act.put,List.setIfInBounds_toArray,List.set_cons_zero,List.set_cons_succ];refine wpAnyH_take (i:=1) (oi:=⟨_,_,_,_,_,_⟩) (v:=.pointer (some ⟨w.heap.size,0,none⟩)) rfl (by kernel_rfl) (by kernel_rfl) (by kernel_rfl) (fun _ _ _ h=>h) (Or.inl ⟨by rfl,fun a q=>by go_simp⟩) hHeld ?_;simp only[Act.put,List.setIfInBounds_toArray,List.set_cons_zero,List.set_cons_succ];refine wpAnyH_take (i:=2) (oi:=⟨_,_,_,_,_,_⟩) (v:=.pointer (some ⟨rb,0,none⟩)) rfl (by kernel_rfl) (by kernel_rfl) (by kernel_rfl) (fun _ _ _ h=>h) (Or.inl ⟨by rfl,fun a q=>by go_simp⟩) hHeld ?_;simp only[Act.put,List.setIfInBounds_toArray,List.set_cons_zero,List.set_cons_succ];refine wpAnyH_ready (rs:=[3]) (by kernel_rfl) (by simp) (AllReadyH.cons (o:=⟨_,_,_,_,_,_⟩) rfl (fun K C=>?_) AllReadyH.nil);go_simp
   refine(n.out _ (Below.refl _ _).drew).mono ?_;rintro e I ⟨rfl,k⟩;have F:=k.cell;go_simp
   refine C.out _ _ F (fun hHeld=>?_);refine wpAnyH_ready (rs:=[4]) (by kernel_rfl) (by simp) (AllReadyH.cons (o:=⟨_,_,_,_,_,_⟩) rfl (fun K C=>?_) AllReadyH.nil);go_simp
   refine(J.out _ k).mono ?_;rintro e M ⟨rfl,g⟩;go_wp2;exact⟨rfl,.inr ⟨p.out,rfl,g⟩⟩
 ·have p:Hid (fXg (pat (12-z)) (rest s i)=.none):=by
   show _=_;rw[D4 y,f,P4 j];simp[fXg]
  clear f;go_enter Tryz.func141,Tryz.ntmps141;go_wp2_with fail;refine A.mono ?_;rintro e d ⟨rfl,t⟩;have c:=u.out.go t;have m:Hid (In 177 w rb s (i+1) z d):=c;have x:=c.cell;clear c;have n:Hid (∀W,Below d.heap.size d W->Calls Tryz.prog 143 #[.pointer (some ⟨rb,0,none⟩)] W (K6 w rb a1)):=by
   intro W r;have b:=m.out.below r;refine(dQi rb s (i+1) z a1 W b.lies (b.env G) hs j (by omega)).mono ?_;rintro e a ⟨rfl,g⟩;exact⟨rfl,b.threw rfl g⟩
  go_wp2_with fail;refine wp_region_held_drew (S:=fun a=>a.cell? ⟨w.heap.size,0,none⟩=some (.pointer (some ⟨rb,0,none⟩))) (by kernel_rfl) (by simp[x]) (fun hHeld=>?_);refine wpAnyH_take (i:=0) (oi:=⟨_,_,_,_,_,_⟩) (v:=D3 rb) rfl (by kernel_rfl) (by kernel_rfl) (by kernel_rfl) (fun _ _ _ h=>h) (Or.inl ⟨by rfl,fun a q=>by go_simp⟩) hHeld ?_;simp only[Act.put,List.setIfInBounds_toArray,List.set_cons_zero,List.set_cons_succ];refine wpAnyH_take (i:=1) (oi:=⟨_,_,_,_,_,_⟩) (v:=.pointer (some ⟨w.heap.size,0,none⟩)) rfl (by kernel_rfl) (by kernel_rfl) (by kernel_rfl) (fun _ _ _ h=>h) (Or.inl ⟨by rfl,fun a q=>by go_simp⟩) hHeld ?_;simp only[Act.put,List.setIfInBounds_toArray,List.set_cons_zero,List.set_cons_succ];refine wpAnyH_take (i:=2) (oi:=⟨_,_,_,_,_,_⟩) (v:=.pointer (some ⟨rb,0,none⟩)) rfl (by kernel_rfl) (by kernel_rfl) (by kernel_rfl) (fun _ _ _ h=>h) (Or.inl ⟨by rfl,fun a q=>by go_simp⟩) hHeld ?_;simp only[Act.put,List.setIfInBounds_toArray,List.set_cons_zero,List.set_cons_succ];refine wpAnyH_ready (rs:=[3]) (by kernel_rfl) (by simp) (AllReadyH.cons (o:=⟨_,_,_,_,_,_⟩) rfl (fun K C=>?_) AllReadyH.nil);go_simp
  refine(n.out _ (Below.refl _ _).drew).mono ?_;rintro e I ⟨rfl,g⟩;go_wp2_with fail;exact⟨rfl,.inr ⟨p.out,rfl,g⟩⟩
def cQi:By:=⟨#[40,41,91,93,42,43,63,124,47,34,92]⟩
theorem cXr (c:UInt8)(a:c≠40)(b:c≠91)(d:c≠92):decide (0<=firstIdx cQi c)=jX8 c:=by
 rw[firstIdx_nonneg,Bool.eq_iff_iff];simp[cQi,jX8];constructor
 ·rintro (h|h|h|h|h|h|h|h|h|h|h)<;>simp_all
 ·rintro (((((((h|h)|h)|h)|h)|h)|h)|h)<;>simp_all
theorem dXk (hs:s.size<=1048576)(h:RB w rb s i z)(v:Env w rb a1)(y:i<s.size)(k:nx s i≠40)(l:nx s i≠91)(r:nx s i≠46)(m:nx s i≠92) :
  Calls Tryz.prog 141 #[D3 rb] w (RPost w rb s i z a1 (fXg (pat (12-z)) (rest s i))):=by
 have j:Hid _:=In.enter 177 h;have t:=O2 rb s i z _ j.out.lies hs y;have x:fXg (pat (12-z)) (rest s i)=if jX8 (nx s i)=true\/gXu (nx s i)=false then .none else some (Ls.place [nx s i],rest s (i+1)):=by
  rw[D4 y];simp[fXg,k,l,r,m]
 have o:Hid _:=x;clear x;have J:(((nx s i).toNat:Int)==40)=false:=by rw[beq_eq_false_iff_ne];intro e;exact k (UInt8.toNat_inj.1 (by simpa using (by omega:(nx s i).toNat=40)))
 have K:(((nx s i).toNat:Int)==91)=false:=by rw[beq_eq_false_iff_ne];intro e;exact l (UInt8.toNat_inj.1 (by simpa using (by omega:(nx s i).toNat=91)))
 have L:(((nx s i).toNat:Int)==46)=false:=by rw[beq_eq_false_iff_ne];intro e;exact r (UInt8.toNat_inj.1 (by simpa using (by omega:(nx s i).toNat=46)))
 have M:(((nx s i).toNat:Int)==92)=false:=by rw[beq_eq_false_iff_ne];intro e;exact m (UInt8.toNat_inj.1 (by simpa using (by omega:(nx s i).toNat=92)))
 have c:=cXr (nx s i) k l m;have n:Hid (∀W,Ca 164 #[.string cQi,.int .u8 (nx s i).toNat] W fun e I=>e=.returned (Iv (firstIdx cQi (nx s i)))/\I=W):=fun W=>vQj (nx s i) cQi W;generalize firstIdx cQi (nx s i)=q at *;cases b:jX8 (nx s i) with
 | true=>
  have f:Hid (fXg (pat (12-z)) (rest s i)=.none):=by show _=_;rw[o.out,if_pos (.inl b)]
  rw[b]at c;have H:=of_decide_eq_true c;go_enter Tryz.func141,Tryz.ntmps141;go_wp2_with fail;refine t.mono ?_;rintro e A ⟨rfl,g⟩;have a:=j.out.go g;have u:=a.cell;go_wp2_with fail;refine(n.out _).mono ?_;rintro e B ⟨rfl,rfl⟩;go_wp2_with fail;refine(V7 _ a1 _ (a.env v).sc).mono ?_;rintro e C ⟨rfl,rfl⟩;go_wp2_with fail;exact⟨rfl,.inr ⟨f.out,rfl,a.left.grown⟩⟩
 | false=>
  rw[b]at c;have H:¬0<=q:=of_decide_eq_false c;cases d:gXu (nx s i) with
  | true=>
   have f:Hid (fXg (pat (12-z)) (rest s i)=some (Ls.place [nx s i],rest s (i+1))):=by show _=_;rw[o.out,if_neg (by rw[b,d];simp)]
   have p:Hid _:=d;clear b c d;go_enter Tryz.func141,Tryz.ntmps141;go_wp2_with fail;refine t.mono ?_;rintro e A ⟨rfl,g⟩;have a:=j.out.go g;have u:=a.cell;go_wp2_with fail;refine(n.out _).mono ?_;rintro e B ⟨rfl,rfl⟩;go_wp2_with fail;refine(mQ2 rb (nx s i) _ p.out).mono ?_;rintro e C ⟨⟨lo,N,rfl,E⟩,F⟩;go_wp2_with fail;go_ret;exact RPost.placed f.out (by omega) (by omega) E (a.below F).left
  | false=>
   have f:Hid (fXg (pat (12-z)) (rest s i)=.none):=by show _=_;rw[o.out,if_pos (.inr d)]
   have p:Hid _:=d;clear b c d;go_enter Tryz.func141,Tryz.ntmps141;go_wp2_with fail;refine t.mono ?_;rintro e A ⟨rfl,g⟩;have a:=j.out.go g;have u:=a.cell;go_wp2_with fail;refine(n.out _).mono ?_;rintro e B ⟨rfl,rfl⟩;go_wp2_with fail;refine(mQ1 rb (nx s i) a1 _ (a.env v) p.out).mono ?_;rintro e C ⟨rfl,G⟩;go_wp2_with fail;exact⟨rfl,.inr ⟨f.out,rfl,a.threw rfl G⟩⟩
theorem bX9 (hs:s.size<=1048576)(k:z<=12)(j:z<=11->aQl s a1 (z+1)):gQa s a1 z:=by
 intro b i w h c l;rcases Nat.lt_or_ge i s.size with a|a
 ·by_cases d:nx s i=40
  ·exact dXj s a1 z b i w hs k j h c a d
  ·by_cases e:nx s i=91
   ·exact dXd s a1 z b i w hs h c a e
   ·by_cases f:nx s i=46
    ·exact dXe s a1 z b i w hs h a f
    ·by_cases g:nx s i=92
     ·exact dXg s a1 z b i w hs h c a g
     ·exact dXk s a1 z b i w hs h c a d e f g
 ·exact dXf s a1 z b i w hs h c (by omega)
def Each (w:World)(G:Nat->Prop):List Ls.D->List Value->Prop
 | [],[]=>True
 | a::l,x::vs=>Rep w G 0 a [x]/\Each w G l vs
 | _,_=>False
section
variable {w:World} {G:Nat->Prop}
theorem Each.nil:Each w G [] []:=trivial
theorem Each.cons {a:Ls.D}{x:Value}{l:List Ls.D}{b:List Value}(h:Rep w G 0 a [x])(hs:Each w G l b):Each w G (a::l) (x::b):=⟨h,hs⟩
theorem Each.ind {motive:(l:List Ls.D)->(vs:List Value)->Each w G l vs->Prop}(nil:motive [] [] .nil)
  (cons:∀{a:Ls.D} {x:Value} {l:List Ls.D} {vs:List Value} (h:Rep w G 0 a [x]) (hs:Each w G l vs),motive l vs hs->motive (a::l) (x::vs) (.cons h hs))
  {l:List Ls.D} {vs:List Value} (h:Each w G l vs):motive l vs h:=by
 have key:∀(l:List Ls.D) (vs:List Value) (h:Each w G l vs),motive l vs h:=by
  intro l;induction l with
  | nil=>
   intro vs h;cases vs with
   | nil=>exact nil
   | cons=>exact h.elim
  | cons a l ih=>
   intro vs h;cases vs with
   | nil=>exact h.elim
   | cons x vs=>exact cons h.1 h.2 (ih vs h.2)
 exact key l vs h
end
theorem Each.mono {w w':World}{G G':Nat->Prop}(b:∀k,G k->G' k)(d:∀k,G k->w'.heap[k]?=w.heap[k]?){l:List Ls.D}{a:List Value}(h:Each w G l a):Each w' G' l a:=by
 induction h using Each.ind with
 | nil=>exact .nil
 | cons c _ e=>exact .cons (c.mono b d) e
theorem Each.snoc {w:World}{G:Nat->Prop}{l:List Ls.D}{b:List Value}{a:Ls.D}{x:Value}(h:Each w G l b)(d:Rep w G 0 a [x]):Each w G (l++[a]) (b++[x]):=by
 induction h using Each.ind with
 | nil=>exact .cons d .nil
 | cons c _ e=>exact .cons c e
theorem Each.length {w:World}{G:Nat->Prop}{l:List Ls.D}{a:List Value}(h:Each w G l a):a.length=l.length:=by
 induction h using Each.ind with
 | nil=>rfl
 | cons _ _ b=>simp[b]
def F7:List Ls.D->Ls.D
 | []=>rnil
 | [a]=>clast a
 | a::b::l=>ccons a (F7 (b::l))
theorem sQo (l:List Ls.D)(a:Ls.D):F7 (l++[a])=l.foldr ccons (clast a):=by
 induction l with
 | nil=>rfl
 | cons b l d=>
  cases l with
  | nil=>rfl
  | cons c l=>simp only[List.cons_append,F7,List.foldr_cons]at d ⊢;rw[d]
theorem Each.row {w:World}{G:Nat->Prop}{l:List Ls.D}{a:List Value}(h:Each w G l a):Rep w G 1 (l.foldr rcons rnil) a:=by
 induction h using Each.ind with
 | nil=>exact .rnil
 | cons b _ c=>exact .rcons b c
theorem Each.chain {w:World}{G:Nat->Prop}{l:List Ls.D}{b:List Value}(h:Each w G l b)(d:l≠[]):Rep w G 2 (F7 l) b:=by
 induction h using Each.ind with
 | nil=>exact absurd rfl d
 | cons a c e=>
  cases c using Each.ind with
  | nil=>exact .clast a
  | cons f g=>exact .ccons a (e (by simp))
def S7 (w0 w:World)(v:Value):Nat->Prop:=fun k=>w0.heap.size<=k/\k<w.heap.size/\some k≠v.ownBlock
structure Parts (w0 w:World)(v:Value)(l:List Ls.D)(vs:List Value):Prop where
 own:w.ownsRow w0.heap.size 89 1 v vs.length vs
 each:Each w (S7 w0 w v) l vs
theorem Parts.nil (a w:World):Parts a w (.slice none 0 0) [] []:=⟨World.ownsRow_nil _ _ _ _,.nil⟩
theorem Parts.kept {c w e:World}{v:Value}{l:List Ls.D}{d:List Value}{rb:Nat}(h:Parts c w v l d)(b:w.grownBy e (some rb))(g:rb<c.heap.size):Parts c e v l d:=by
 refine⟨h.own.kept b ?_,h.each.mono (fun k a=>⟨a.1,Ll a.2.1 b.size,a.2.2⟩) (fun k a=>b.block k a.2.1 (by have:=a.1;simp;omega))⟩;cases f:v.ownBlock with
 | none=>exact .inl rfl
 | some k=>
  have:=h.own.lt k f;exact .inr (by simp;omega)
theorem Parts.fits {d w b:World}{v:Value}{l:List Ls.D}{i:List Value}(h:Parts d w v l i)(f:d.heap.size<=w.heap.size){a:Ls.D}{x:Value}(g:Rep b (B8 w b) 0 a [x]):Rep b (S7 d b v) 0 a [x]:=by
 refine g.mono (fun k c=>⟨Lq f c.1,c.2,fun e=>?_⟩) (fun _ _=>rfl);have:=h.own.lt k e.symm;have:=c.1;omega
theorem Parts.push {f w g:World}{v c:Value}{l:List Ls.D}{d:List Value}(h:Parts f w v l d){a:Ls.D}{x:Value}(o:Rep w (S7 f w v) 0 a [x])(i:w.grownBy g v.ownBlock)
  (j:g.ownsRow f.heap.size 89 1 c (d.length+1) (d++[x])) (n:c.ownBlock=v.ownBlock\/∃k,c.ownBlock=some k/\w.heap.size<=k):Parts f g c (l++[a]) (d++[x]):=by
 refine⟨by rw[List.length_append];exact j,(h.each.snoc o).mono (fun k b=>⟨b.1,Ll b.2.1 i.size,?_⟩) (fun k b=>i.block k b.2.1 b.2.2)⟩;rcases n with e|⟨m,e,p⟩
 ·rw[e];exact b.2.2
 ·rw[e];have:=b.2.1;simp;omega
theorem Parts.alloc {c w:World}{v:Value}{l:List Ls.D}{b:List Value}(h:Parts c w v l b)(o:Obj):Parts c (w.alloc o) v l b:=
 ⟨h.own.alloc o,h.each.mono (fun k a=>⟨a.1,by have:=a.2.1;simp;omega,a.2.2⟩) (fun k a=>Below.heap_alloc _ _ _ a.2.1)⟩
theorem RLeft.own {w i j:World}{c:Nat}{s:By}{a z:Nat}(h:RLeft w c s a z i)(n:c<w.heap.size){r:Option Nat}(b:i.grownBy j r)(f:∀k,r=some k->w.heap.size<=k):RLeft w c s a z j:=by
 have d:=h.lies;have m:=d.lt;refine⟨?_,b.os.trans h.grown.os,b.tape.trans h.grown.tape,b.output.trans h.grown.output,Lq h.grown.size b.size,fun k g l=>?_⟩
 ·unfold RB at d ⊢
  rw[b.block c m (fun e=>by have:=f c e.symm;omega)];exact d
 ·rw[b.block k (Ll g h.grown.size) (fun e=>by have:=f k e.symm;omega)]
  exact h.grown.block k g l
theorem Parts.shows {c w:World}{v:Value}{l:List Ls.D}{b:List Value}(h:Parts c w v l b):Shows w (B8 c w) v b/\Each w (B8 c w) l b:=by
 refine⟨⟨⟨h.own.1,?_⟩,fun k a=>h.own.lt k a⟩,h.each.mono (fun k a=>⟨a.1,a.2.1⟩) (fun _ _=>rfl)⟩;rcases h.own.2 with f|⟨g,d,e,j,m,i⟩
 ·exact .inl f
 ·exact .inr ⟨g,d,e,j,Nat.zero_le _,i⟩
theorem Parts.slice {f w:World}{v:Value}{l:List Ls.D}{e:List Value}(h:Parts f w v l e):∃a n c,v=.slice a n c:=by
 rcases h.own.2 with⟨b,_⟩|⟨g,i,j,d,m,k⟩
 ·exact⟨_,_,_,b⟩
 ·exact⟨_,_,_,d⟩
theorem gQ8:(Tryz.prog.info? 89).map (fun i=>(i.zero,i.size,i.bytes))=some (some .nilIface,1,16):=by kernel_rfl
theorem bQa (w:World)(x:Value)(t:TypeId):∀j u,[x][j]?=some u->(w.alloc (.cells #[x] t)).cell? ((⟨w.heap.size,0,none⟩:Addr).add j)=some u:=by
 intro j u a;match j,a with
 | 0,a=>
  simp at a;subst a;have h:=heap_alloc_new w (.cells #[x] t);show World.cell? _ ⟨w.heap.size,0,none⟩=_;unfold World.cell?;rw[h];rfl
def Q7 (P:Lu->Rd)(n:Nat)(l:List Ls.D)(r:Lu):Rd:=
 match things P n r with
 | .none=>.none
 | some (b,t)=>some (l.foldr rcons b,t)
theorem bX5 (P:Lu->Rd)(n:Nat)(r:Lu):Q7 P n [] r=things P n r:=by
 unfold Q7;split
 ·rename_i h;rw[h]
 ·rename_i h;rw[h];rfl
theorem bX7 {P:Lu->Rd}{n:Nat}{l:List Ls.D}{r:Lu}(hs:hXn r=true):Q7 P (n+1) l r=some (l.foldr rcons rnil,r):=by
 unfold Q7;rw[things,if_pos hs]
theorem bX6 {P:Lu->Rd}{n:Nat}{l:List Ls.D}{r t:Lu}{a:Ls.D}(hs:hXn r=false)(c:gXq P r=some (a,t)):Q7 P (n+1) l r=Q7 P n (l++[a]) t:=by
 unfold Q7;rw[things,if_neg (by rw[hs];simp),c];dsimp only
 cases h:things P n t with
 | none=>rfl
 | some q=>obtain⟨b,u⟩:=q;simp
theorem bX4 {P:Lu->Rd}{n:Nat}{l:List Ls.D}{r:Lu}(hs:hXn r=false)(a:fXg P r=.none):Q7 P n l r=.none:=by
 unfold Q7;cases n with
 | zero=>rfl
 | succ n=>
  have:gXq P r=.none:=by rw[gXq,a]
  rw[things,if_neg (by rw[hs];simp),this]
theorem cX2 {s:By}{k:Nat}(a:k<s.size):([124,41,47]:Lu).any (A7 s k)=hXn (rest s k):=by
 rw[D4 a];simp[A7,a,hXn,Bool.or_assoc]
theorem cX0 {s:By}{k:Nat}(a:s.size<=k):hXn (rest s k)=true:=by
 rw[P4 a];rfl
def Q3 (P:Lu->Rd)(n:Nat)(l:List Ls.D)(t:Lu):Rd:=
 if t.head?=some 124 then
  match alts P n t.tail with
  | .none=>.none
  | some (b,u)=>some (l.foldr ccons b,u)
 else some (F7 l,t)
theorem jQb {P:Lu->Rd}{n:Nat}{r t:Lu}{a:Ls.D}(h:things P (r.length+1) r=some (a,t)):alts P (n+1) r=Q3 P n [a] t:=by
 unfold Q3;rw[alts,h];dsimp only
 by_cases c:t.head?=some 124
 ·rw[if_pos c,if_pos c]
  cases d:alts P n t.tail with
  | none=>rfl
  | some q=>obtain⟨b,u⟩:=q;rfl
 ·rw[if_neg c,if_neg c];rfl
theorem iQ8 {P:Lu->Rd}{n:Nat}{r:Lu}(h:things P (r.length+1) r=.none):alts P n r=.none:=by
 cases n with
 | zero=>rfl
 | succ n=>rw[alts,h]
theorem sQu {P:Lu->Rd}{n:Nat}{l:List Ls.D}{t u:Lu}{a:Ls.D}(e:t.head?=some 124)(h:things P (t.tail.length+1) t.tail=some (a,u)):Q3 P (n+1) l t=Q3 P n (l++[a]) u:=by
 have d:Q3 P (n+1) l t=match alts P (n+1) t.tail with|.none=>.none|some (b,u)=>some (l.foldr ccons b,u):=by unfold Q3;rw[if_pos e]
 rw[d,jQb h];unfold Q3
 by_cases c:u.head?=some 124
 ·rw[if_pos c,if_pos c]
  cases f:alts P n u.tail with
  | none=>rfl
  | some q=>obtain⟨b,v⟩:=q;simp
 ·rw[if_neg c,if_neg c,sQo];rfl
theorem sQs {P:Lu->Rd}{n:Nat}{l:List Ls.D}{t:Lu}(a:t.head?=some 124)(h:things P (t.tail.length+1) t.tail=.none):Q3 P n l t=.none:=by
 unfold Q3;rw[if_pos a,iQ8 h]
theorem sQt {P:Lu->Rd}{n:Nat}{l:List Ls.D}{t:Lu}(a:t.head?≠some 124):Q3 P n l t=some (F7 l,t):=by
 unfold Q3;rw[if_neg a]
def gQb (s:By)(a1:Addr)(z:Nat):Prop:=∀(rb i:Nat) (w:World),RB w rb s i z->Env w rb a1->i<=s.size->
 Ca 127 #[D3 rb] w (RPost w rb s i z a1 (things (pat (12-z)) ((rest s i).length+1) (rest s i)))
theorem bQ3 (a:Nat)(s:By)(i z:Nat)(w:World)(h:RB w a s i z)(hs:s.size<=1048576)(d:i<=1048577)(b:Bool)(c:decide (s.size<=i)=b) :
  Calls Tryz.prog 102 #[Pt a] w fun e f=>e=.returned (.bool b)/\RLeft w a s i z f:=by
 subst c;refine(eQk a s i z w h hs d).mono ?_;rintro e g ⟨rfl,n,rfl⟩;exact⟨rfl,RLeft.of_below h (E5 n)⟩
theorem fQn (a:Lu)(g:Array Value)(p:g=(a.map fun c=>Value.int .u8 c.toNat).toArray)(n:Nat)(o:n=a.length)(j:a.length<=8)(d:Nat)(s:By)(i z:Nat)(w:World)(t:TypeId)(h:RB w d s i z)(hs:s.size<=1048576)(l:i<=1048577)(b:Bool)(f:a.any (A7 s i)=b) :
  Calls Tryz.prog 131 #[Pt d,Sl w.heap.size n n] (w.alloc (.cells g t)) fun e q=>e=.returned (.bool b)/\RLeft w d s i z q:=by
 subst f o p;refine(mQ4 d s i z a w.heap.size _ (h.below (A5 _ _)) j (by simp) (fun k m=>?_) hs l).mono ?_
 ·have:=heap_alloc_new w (.cells (a.map fun c=>Value.int .u8 c.toNat).toArray t)
  show World.cell? _ ⟨w.heap.size,k,none⟩=_;unfold World.cell?;rw[this];simp[m]
 ·rintro e r ⟨rfl,f⟩
  exact⟨rfl,RLeft.of_below h (Bj (A5 _ _) f)⟩
theorem dXn {P:Lu->Rd}{n:Nat}{l:List Ls.D}{s:By}{k j:Nat}{d:Ls.D}(c:hXn (rest s k)=false)(b:fXg P (rest s k)=some (d,rest s j))(e:(rest s k).length<n) :
  ∃a,n=a+1/\Q7 P n l (rest s k)=Q7 P a (l++[X2 s j d]) (rest s (L8 s j)):=by
 obtain⟨a,rfl⟩:∃a,n=a+1:=⟨n-1,by omega⟩;exact⟨a,rfl,bX6 c (bXe b)⟩
theorem In.own {T:TypeId}{w f g:World}{d:Nat}{s:By}{a z:Nat}(h:In T w d s a z f){r:Option Nat}(b:f.grownBy g r)(c:∀k,r=some k->w.heap.size<k):In T w d s a z g:=by
 refine⟨h.left.own h.old b (fun k e=>Nat.le_of_lt (c k e)),⟨?_⟩,h.old⟩;rw[b.block _ h.size (fun e=>by have:=c _ e.symm;omega)];exact h.box.lies
theorem bX8 (s:By)(hs:s.size<=1048576)(C:Addr)(z:Nat)(hT:gQa s C z):gQb s C z:=by
 intro rb i w h hE hi;have g3:=h.lt;have HT:Hid _:=hT;have HE:Hid _:=hE;have c0:Hid _:=In.enter 177 h;have g4:(w.alloc (H0 177 rb)).heap.size=w.heap.size+1:=by simp
 go_enter Tryz.func127,Tryz.ntmps127;go_wp2;generalize w.alloc (H0 177 rb)=b at *;go_loopw [3] (fun v wr=>∃(k n:Nat) (l:List Ls.D) (A:List Value),i<=k/\k<=s.size/\l.length<=k/\(rest s k).length<n/\things (pat (12-z)) ((rest s i).length+1) (rest s i)=Q7 (pat (12-z)) n l (rest s k)/\In 177 w rb s k z wr/\b.heap.size<=wr.heap.size/\Parts b wr v l A) (fun _ wr=>s.size+1-U8 wr rb)
 case atStart=>
  exact⟨i,_,[],[],Nat.le_refl _,hi,by simp,Nat.lt_succ_self _,(bX5 _ _ _).symm,c0.out,Nat.le_refl _,Parts.nil _ _⟩
 case round=>
  obtain⟨k,n,l,A,e8,a9,g1,hn,d6,E,g7,Z⟩:=hrel;have T:Hid _:=d6;obtain⟨g,p,q,rfl⟩:=Z.slice;have f2:=aQs E.lies;have c5:hXn (rest s k)=true->∀c,RLeft wr rb s k z c->RPost w rb s i z C (things (pat (12-z)) ((rest s i).length+1) (rest s i)) (.returned (P5 (.slice g p q))) c:=by
   intro f6 c u;refine .inl ⟨l.foldr rcons rnil,k,_,?_,e8,a9,rfl,?_,(E.go u).left⟩
   ·rw[T.out]
    cases n with
    | zero=>omega
    | succ n=>exact bX7 f6
   ·have d8:=(Z.kept u.grown (by omega)).shows
    have f:∀m,B8 b c m->B8 w c m:=fun m f=>⟨by have:=f.1;omega,f.2⟩;exact .row (d8.1.mono f (fun _ _=>rfl)) (d8.2.mono f (fun _ _=>rfl)).row
  have N:Hid _:=c5;have HP:Hid _:=Z;have b0:=E.cell;rcases Nat.lt_or_ge k s.size with a8|a8
  ·have O:=bQ3 rb s k z wr E.lies hs (by omega) false (by simp;omega)
   have K:=cX2 a8;cases J:hXn (rest s k) with
   | true=>
    rw[J]at K;have a4:Hid _:=N.out J;have a3:Hid _:=K;go_wp2_with fail;refine O.mono ?_;rintro e c ⟨rfl,u⟩;have b2:=(E.go u).cell;go_wp2_with fail;refine(fQn [124,41,47] _ rfl 3 rfl (by decide) rb s k z c _ u.lies hs (by omega) true a3.out).mono ?_;rintro e w3 ⟨rfl,f0⟩;go_wp2;go_ret;exact a4.out _ (u.trans f0)
   | false=>
    rw[J]at K;have a3:Hid _:=K;have c4:Hid (hXn (rest s k)=false):=J;clear K J N;go_wp2_with fail;refine O.mono ?_;rintro e c ⟨rfl,u⟩;have b2:=(E.go u).cell;go_wp2_with fail;refine(fQn [124,41,47] _ rfl 3 rfl (by decide) rb s k z c _ u.lies hs (by omega) false a3.out).mono ?_;rintro e L ⟨rfl,d1⟩;have Y:=u.trans d1;have a5:=E.go Y;have c2:Hid (Parts b L (.slice g p q) l A):=HP.out.kept Y.grown (by omega);have g5:=Y.grown.size;have b4:=a5.cell;have c1:Hid (In 177 w rb s k z L):=a5;clear u d1 Y b0 b2 O E a5;go_wp2_with fail;cases G:fXg (pat (12-z)) (rest s k) with
    | none=>
     have HR:Hid (things (pat (12-z)) ((rest s i).length+1) (rest s i)=.none):=T.out.trans (bX4 c4.out G);have R:Hid (∀W,Below L.heap.size L W->Calls Tryz.prog 141 #[D3 rb] W (K6 w rb C)):=by
      intro W P;have B:=c1.out.below P;refine(HT.out rb k W B.lies (B.env HE.out) a9).mono ?_;rintro e a (⟨d,j,x,F,_⟩|⟨_,rfl,hg⟩)
      ·rw[G]at F;cases F
      ·exact⟨rfl,B.threw rfl hg⟩
     clear G;refine wp_region_held_drew (S:=fun a=>a.cell? ⟨w.heap.size,0,none⟩=some (.pointer (some ⟨rb,0,none⟩))) (by kernel_rfl) (by simp[b4]) (fun hHeld=>?_);refine wpAnyH_take (i:=0) (oi:=⟨_,_,_,_,_,_⟩) (v:=.slice g p q) rfl (by kernel_rfl) (by kernel_rfl) (by kernel_rfl) (fun _ _ _ h=>h) (Or.inl ⟨by rfl,fun a c6=>by go_simp⟩) hHeld ?_;simp only[Act.put,List.setIfInBounds_toArray,List.set_cons_zero,List.set_cons_succ];refine wpAnyH_take (i:=1) (oi:=⟨_,_,_,_,_,_⟩) (v:=D3 rb) rfl (by kernel_rfl) (by kernel_rfl) (by kernel_rfl) (fun _ _ _ h=>h) (Or.inl ⟨by rfl,fun a c6=>by go_simp⟩) hHeld ?_;simp only[Act.put,List.setIfInBounds_toArray,List.set_cons_zero,List.set_cons_succ];refine wpAnyH_take (i:=2) (oi:=⟨_,_,_,_,_,_⟩) (v:=D3 rb) rfl (by kernel_rfl) (by kernel_rfl) (by kernel_rfl) (fun _ _ _ h=>h) (Or.inl ⟨by rfl,fun a c6=>by go_simp⟩) hHeld ?_;simp only[Act.put,List.setIfInBounds_toArray,List.set_cons_zero,List.set_cons_succ];refine wpAnyH_ready (rs:=[3]) (by kernel_rfl) (by simp) (AllReadyH.cons (o:=⟨_,_,_,_,_,_⟩) rfl (fun g0 hK=>?_) AllReadyH.nil);go_simp
     refine(R.out _ (Below.refl _ _).drew).mono ?_;rintro e w5 ⟨rfl,hg⟩;go_wp2_with fail;exact⟨rfl,.inr ⟨HR.out,rfl,hg⟩⟩
    | some b9=>
     obtain⟨d,e0⟩:=b9;have R:Hid (∀W,Below L.heap.size L W->Calls Tryz.prog 141 #[D3 rb] W fun e a=>∃y x j,e=.returned (.iface y x)/\e0=rest s j/\k<=j/\j<=s.size/\In 177 w rb s j z a/\b.heap.size<=a.heap.size/\Parts b a (.slice g p q) l A/\Rep a (S7 b a (.slice g p q)) 0 d [.iface y x]):=by
      intro W P;have B:=c1.out.below P;have U:Parts b W (.slice g p q) l A:=c2.out.kept (rb:=rb) (L5 P _) (by omega);refine(HT.out rb k W B.lies (B.env HE.out) a9).mono ?_;rintro e a (⟨d',j,x,F,d0,I,rfl,a1,b1⟩|⟨F,_⟩)
      ·rw[G]at F
       simp at F;obtain⟨rfl,rfl⟩:=F;obtain⟨y,f9,rfl⟩:=a1.iface;have V:b.heap.size<=W.heap.size:=Nat.le_trans (by omega) P.size;exact⟨y,f9,j,rfl,rfl,d0,I,B.go b1,Nat.le_trans V b1.grown.size,U.kept b1.grown (by omega),U.fits V a1⟩
      ·rw[G]at F;cases F
     have HQ:Hid (∀(W:World) (y:TypeId) (x:Value) (j:Nat),In 177 w rb s j z W->b.heap.size<=W.heap.size->j<=s.size->Parts b W (.slice g p q) l A->Rep W (S7 b W (.slice g p q)) 0 d [.iface y x]->Calls Tryz.prog 140 #[D3 rb,.iface y x] W fun e a=>∃r t,e=.returned (.iface r t)/\In 177 w rb s (L8 s j) z a/\b.heap.size<=a.heap.size/\Parts b a (.slice g p q) l A/\Rep a (S7 b a (.slice g p q)) 0 (X2 s j d) [.iface r t]):=by
      intro W y x j B V I U a1;refine(bXf s y x z rb j W B.lies hs I).mono ?_;rintro e a ⟨rfl,Q⟩;have a2:Rep a (S7 b a (.slice g p q)) 0 d [.iface y x]:=a1.mono (fun m f=>⟨f.1,Nat.lt_of_lt_of_le f.2.1 Q.grown.size,f.2.2⟩) (fun m f=>Q.grown.block m f.2.1 (by have:=f.1;simp;omega));have b8:=bXd s j a2;obtain⟨r,t,d9⟩:=b8.iface;rw[d9]at b8;exact⟨r,t,by rw[d9],B.go Q,Nat.le_trans V Q.grown.size,U.kept Q.grown (by omega),b8⟩
     have c3:Hid (∀j,e0=rest s j->∃H,n=H+1/\things (pat (12-z)) ((rest s i).length+1) (rest s i)=Q7 (pat (12-z)) H (l++[X2 s j d]) (rest s (L8 s j))/\s.size-j<s.size-k):=by
      rintro j rfl;obtain⟨H,e1,e2⟩:=dXn (l:=l) c4.out G hn;refine⟨H,e1,T.out.trans e2,?_⟩;have b3:=(jXt (hXa _) G).2;rw[F4,F4]at b3;exact b3
     have f1:=c2.out.each.length;obtain⟨b9,hq,f3,f4,f5⟩:=info_parts gQ8;clear G T;go_region_held3 (fun a=>a.cell? ⟨w.heap.size,0,none⟩=some (.pointer (some ⟨rb,0,none⟩))) (first|assumption|go_keep|exact(a6.below (A5 _ _)).cell)
      (first
       | (go_at_call 141;refine(R.out _ ?_).mono ?_;exact(Below.refl _ _).drew;rintro e w5 ⟨y,x,j,rfl,e9,d0,I,c9,f7,d3,d5⟩;have b5:=c9.cell)
       | (go_at_call 140;refine(HQ.out _ y x j c9 f7 I d3 d5).mono ?_;rintro e M ⟨r,t,rfl,a6,g6,a0,a2⟩;have b6:=a6.cell)
       | (refine step_append_lies _ (by rfl) _ _ _ (by rfl) b.heap.size 89 b9 _ 1 16 Tryz.underlying182 hq f3 f4 f5 rfl (by omega) (.slice g p q) A.length A (by rfl) (a0.alloc _).own ⟨M.heap.size,0,none⟩ 1 1 [.iface r t] (by rfl) (by rfl) (bQa M (.iface r t) 89) (by simp[Value.oneCell']) (by omega) (by unfold maxLen;omega) (by omega) (by simp;omega) (M.heap.size+1) (by simp) ?_;intro gg e6 w7 d2 X c7 g2;have a7:=(a6.below (A5 M (.cells #[.iface r t] 89))).own X (fun m e=>by have:=((a0.alloc (.cells #[.iface r t] 89)).own.lt m e).1;omega);have b7:=a7.cell))
     all_goals
      obtain⟨H,rfl,d7,b3⟩:=c3.out j e9;have e5:Hid (things (pat (12-z)) ((rest s i).length+1) (rest s i)=Q7 (pat (12-z)) H (l++[X2 s j d]) (rest s (L8 s j))):=d7;have e7:=aX9 I;have d4:=a0.alloc (.cells #[.iface r t] 89);have c8:Rep (M.alloc (.cells #[.iface r t] 89)) (S7 b (M.alloc (.cells #[.iface r t] 89)) (.slice g p q)) 0 (X2 s j d) [.iface r t]:=a2.mono (fun m f=>⟨f.1,by have:=f.2.1;simp;omega,f.2.2⟩) (fun m f=>Below.heap_alloc _ _ _ f.2.1);have e4:Hid (Parts b w7 (.slice (some ⟨gg,0,none⟩) (l.length+1) e6) (l++[X2 s j d]) (A++[.iface r t])):=by
       show Parts _ _ _ _ _;rw[<-f1];refine d4.push c8 X d2 ?_;rcases c7 with e|e
       ·exact .inl e.symm
       ·exact .inr ⟨gg,rfl,by simp;omega⟩
      have f8:=X.size;simp at f8;have e3:Hid (U8 w7 rb=L8 s j):=aQs a7.lies;clear d4 c8 X d2 c7 a2 d5 d3 a0 d7 c3 R HQ;go_wp2_with fail;go_roundw
      case rel=>
       refine⟨L8 s j,H,l++[X2 s j d],A++[.iface r t],by omega,e7.2,by simp;omega,?_,e5.out,a7,by omega,e4.out⟩;rw[F4]at hn ⊢;omega
      case measure=>
       rw[f2,e3.out];omega
  ·have O:=bQ3 rb s k z wr E.lies hs (by omega) true (by simp;omega)
   have a4:Hid (∀c,RLeft wr rb s k z c->RPost w rb s i z C (things (pat (12-z)) ((rest s i).length+1) (rest s i)) (.returned (P5 (.slice g p q))) c):=N.out (cX0 a8);clear N;go_wp2_with fail;refine O.mono ?_;rintro e c ⟨rfl,u⟩;go_wp2_with fail;go_ret;exact a4.out _ u
theorem zQq (n:Nat)(r:Lu):pat (n+1) r=alts (pat n) (r.length+1) r:=rfl
theorem vQf {s:By}{k:Nat}{c:UInt8}(h:A7 s k c=false):(rest s k).head?≠some c:=by rw[Ne,C4,h];simp
theorem Parts.one {d w:World}{a:Ls.D}{c:TypeId}{y:Value}(f:d.heap.size<=w.heap.size)(h:Rep w (B8 d w) 0 a [.iface c y]):Parts d (w.alloc (.cells #[.iface c y] 89)) (Sl w.heap.size 1 1) [a] [.iface c y]:=by
 refine⟨World.ownsRow_lit (e:=89) (size:=1) w #[.iface c y] 1 f (by unfold maxLen;omega) rfl,.cons (h.mono (fun k b=>⟨b.1,by have:=b.2;simp;omega,?_⟩) (fun k b=>Below.heap_alloc _ _ _ b.2)) .nil⟩;have:=b.2;show some k≠some w.heap.size;simp;omega
theorem sQv (s:By)(hs:s.size<=1048576)(F:Addr)(z:Nat)(hz:z<=12)(hR:gQb s F z):aQl s F z:=by
 intro a i w h hE hi;have d7:=h.lt;have W:Hid _:=hR;have T:Hid _:=hE;have V:Hid (pat (13-z) (rest s i)=alts (pat (12-z)) ((rest s i).length+1) (rest s i)):=by
  show _=_;rw[show 13-z=(12-z)+1 from by omega,zQq]
 have y:Hid _:=In.enter 177 h;have d0:(w.alloc (H0 177 a)).heap.size=w.heap.size+1:=by simp
 have Z:=W.out a i _ y.out.lies (y.out.env T.out) hi;go_enter Tryz.func113,Tryz.ntmps113;go_wp2_with fail;generalize w.alloc (H0 177 a)=g at *;refine Z.mono ?_;rintro e w1 (⟨d,a8,e3,H,b9,hj,rfl,Q,N⟩|⟨H,rfl,B⟩)
 ·have Y:Hid _:=V.out.trans (jQb H)
  obtain⟨ty,a9,rfl⟩:=Q.iface;have b6:=y.out.go N;have t:=Parts.one N.grown.size Q;have X:Hid _:=t;have d8:=N.grown.size;go_wp2;go_loopw [3] (fun d3 wr=>∃(k n:Nat) (l:List Ls.D) (j:List Value),i<=k/\k<=s.size/\l≠[]/\l.length<=k+1/\(rest s k).length<=n/\pat (13-z) (rest s i)=Q3 (pat (12-z)) n l (rest s k)/\In 177 w a s k z wr/\g.heap.size<=wr.heap.size/\Parts g wr d3 l j) (fun _ wr=>s.size+1-U8 wr a)
  case atStart=>
   refine⟨a8,_,[d],_,b9,hj,by simp,by simp,?_,Y.out,b6.below (A5 _ _),by simp;omega,X.out⟩;rw[F4,F4];omega
  case round=>
   obtain⟨k,n,l,j,c0,c2,a3,d6,hn,a6,r,e1,t⟩:=hrel;have L:Hid _:=a6;obtain⟨u,v,x,rfl⟩:=t.slice;have c5:=aQs r.lies;have U:Hid _:=t;have b3:Hid _:=a3;have b0:=r.cell;cases p:A7 s k 124 with
   | false=>
    have M:=X5 a s k z 124 wr r.lies hs (by omega) p;have A:Hid _:=L.out.trans (sQt (vQf p));go_wp2_with fail;refine M.mono ?_;rintro e E ⟨rfl,q⟩;go_wp2_with fail;go_ret;have a7:=(U.out.kept q.grown (by omega)).shows;have f:∀m,B8 g E m->B8 w E m:=fun m f=>⟨by have:=f.1;omega,f.2⟩;exact .inl ⟨F7 l,k,_,A.out,c0,c2,rfl,.choice (a7.1.mono f (fun _ _=>rfl)) ((a7.2.mono f (fun _ _=>rfl)).chain b3.out),(r.go q).left⟩
   | true=>
    have M:=Z5 a s k z 124 wr r.lies hs p;have d4:=(D9 p).1;have S:Hid ((rest s k).head?=some 124):=C4.2 p;clear p;go_wp2_with fail;refine M.mono ?_;rintro e E ⟨rfl,q⟩;have C:=r.go q;have K:Hid (Parts g E (.slice u v x) l j):=U.out.kept q.grown (by omega);have d9:=q.grown.size;have b2:=C.cell;clear b0;go_wp2_with fail;refine(W.out a (k+1) E C.lies (C.env T.out) (by omega)).mono ?_;rintro e o (⟨G,j3,e4,I,d5,c1,rfl,R,O⟩|⟨I,rfl,b8⟩)
    ·obtain⟨J,rfl⟩:∃J,n=J+1:=⟨n-1,by rw[F4]at hn;omega⟩
     have b5:Hid (pat (13-z) (rest s i)=Q3 (pat (12-z)) J (l++[G]) (rest s j3)):=L.out.trans (sQu S.out (by rw[E7];exact I));clear I;obtain⟨b,c,rfl⟩:=R.iface;have a2:=K.out.fits (by omega) R;have a5:=K.out.kept O.grown (by omega);have c4:=C.go O;have P:=a5.alloc (.cells #[.iface b c] 89);have a1:Rep (o.alloc (.cells #[.iface b c] 89)) (S7 g (o.alloc (.cells #[.iface b c] 89)) (.slice u v x)) 0 G [.iface b c]:=a2.mono (fun m f=>⟨f.1,by have:=f.2.1;simp;omega,f.2.2⟩) (fun m f=>Below.heap_alloc _ _ _ f.2.1);have a4:=P.own;have b7:=bQa o (.iface b c) 89;have c3:=K.out.each.length;obtain⟨d2,hq,c6,c7,c8⟩:=info_parts gQ8;have b4:Hid (Parts g (o.alloc (.cells #[.iface b c] 89)) (.slice u v x) l j):=P;have b1:Hid (Rep (o.alloc (.cells #[.iface b c] 89)) (S7 g (o.alloc (.cells #[.iface b c] 89)) (.slice u v x)) 0 G [.iface b c]):=a1;have e0:=O.grown.size;clear P a1 a2 a5 R;go_wp2_with (at_builtin;refine P8 _ rfl _ _ 182 rfl g.heap.size 89 d2 _ 1 16 Tryz.underlying182 hq c6 c7 c8 rfl (by omega) (.slice u v x) j.length j rfl a4 ⟨o.heap.size,0,none⟩ 1 1 [.iface b c] rfl ?l1 b7 ?l0 ?l2 ?l3 ?l4 ?l5 ?_)
     case l1=>rfl
     case l0=>intro e2 hu;simp at hu;subst hu;rfl
     case l2=>unfold maxLen;omega
     case l3=>omega
     case l4=>simp;omega
     case l5=>omega
     intro v' w' ho B c9;have a0:=(c4.below (A5 o (.cells #[.iface b c] 89))).own B (fun m e=>by have:=(a4.lt m e).1;omega);have d1:=B.size;simp at d1;go_wp2_with fail;go_roundw
     case rel=>
      refine⟨j3,J,l++[G],j++[.iface b c],by omega,c1,by simp,by simp;omega,?_,b5.out,a0,by omega,?_⟩
      ·rw[F4]at hn ⊢;omega
      ·exact b4.out.push b1.out B (by rw[c3,d0];exact ho) (by simpa using c9)
     case measure=>
      rw[c5,aQs a0.lies];omega
    ·have A:Hid (pat (13-z) (rest s i)=.none):=L.out.trans (sQs S.out (by rw[E7];exact I))
     go_wp2_with fail;exact⟨rfl,.inr ⟨A.out,rfl,C.threw rfl b8⟩⟩
 ·have A:Hid (pat (13-z) (rest s i)=.none):=V.out.trans (iQ8 H)
  go_wp2_with fail;exact⟨rfl,.inr ⟨A.out,rfl,y.out.threw rfl B⟩⟩
theorem jQs (s:By)(hs:s.size<=1048576)(a:Addr)(z:Nat)(b:z<=12)(c:z<=11->aQl s a (z+1)):aQl s a z:=
 sQv s hs a z b (bX8 s hs a z (bX9 s a z hs b c))
theorem jQr (s:By)(hs:s.size<=1048576)(a:Addr):(k:Nat)->k<=12->aQl s a (12-k)
 | 0,_=>jQs s hs a 12 (Nat.le_refl _) (fun h=>by omega)
 | k+1,hk=>by
  have h:=jQr s hs a k (by omega);refine jQs s hs a (12-(k+1)) (by omega) (fun _=>?_);rw[show 12-(k+1)+1=12-k from by omega];exact h
end Go.Proofs.YtfklinjaajafgaaGreatDoor
namespace Go.Proofs.YtfklinjaajafgaaGreatDoor
open Ls
open Go.RowKit Go.Extern
variable {G:Nat->Prop}{P:Lu->Rd}{d:Ls.D}{r t:Lu}{sl:Value}{vs:List Value}{w':World}(v:Value)(x: Value)(l:List Ls.D)(a:Ls.D)(xT:TypeId)(a0:Addr)(k:Nat)(w:World)(a1 a2 a3:Addr)
theorem vQ0:(Extern.ReflectliteType.typeOf #[.iface 251 v]).run Tryz.prog w=.ok (.iface 194 (.agg #[.pointer (some ⟨5,251,none⟩)])) w:=by kernel_rfl
theorem isComparable (w : World) : ((Extern.ReflectliteType.method fun t => do Rtype.noPackHeld "Comparable" t; pure (.bool (<- typeInfo t).comparable)) #[.agg #[.pointer (some ⟨5, 251, none⟩)]]).run Tryz.prog w = .ok (.bool true) w := by kernel_rfl
theorem jQi:(callFunc 106 #[.iface 251 v]).run Tryz.prog w=.ok (.value (.iface 194 (.agg #[.pointer (some ⟨5,251,none⟩)]))) w:=by
 rw[@run_callFunc_extern Tryz.prog 106 _ Extern.ReflectliteType.typeOf Tryz.func106 (by kernel_rfl) (by kernel_rfl) (by kernel_rfl) (by kernel_rfl),vQ0];rfl
theorem jQh:(callFunc 240 #[.agg #[.pointer (some ⟨5,251,none⟩)]]).run Tryz.prog w=.ok (.value (.bool true)) w:=by
 rw [@run_callFunc_extern Tryz.prog 240 _ (Extern.ReflectliteType.method fun t => do Rtype.noPackHeld "Comparable" t; pure (.bool (<- typeInfo t).comparable)) Tryz.func240 (by kernel_rfl) (by kernel_rfl) (by kernel_rfl) (by kernel_rfl), isComparable]
 rfl
theorem isMethodComparable (v : Value) (w : World) : (Go.method 385 194 v "Comparable").run Tryz.prog w = .ok (240, v) w := by kernel_rfl
theorem kQt:(Tryz.prog.info? 251).map (·.comparable)=some true:=by kernel_rfl
theorem kQw:(Tryz.prog.info? 274).map (·.size)=some 1:=by kernel_rfl
theorem xQ2:(Instr.typeAssert (.iface 251 v) xT 196 true).run Tryz.prog w=.ok (.tuple #[.nilIface,.bool false]) w:=run_typeAssert_lacksB Tryz.underlying196 (by kernel_rfl) (by kernel_rfl) v xT w
theorem xQ3:(Instr.typeAssert (.iface 251 v) xT 199 true).run Tryz.prog w=.ok (.tuple #[.nilIface,.bool false]) w:=run_typeAssert_lacksB Tryz.underlying199 (by kernel_rfl) (by kernel_rfl) v xT w
theorem xQ4:(Instr.typeAssert (.iface 251 v) xT 201 true).run Tryz.prog w=.ok (.tuple #[.nilIface,.bool false]) w:=run_typeAssert_lacksB Tryz.underlying201 (by kernel_rfl) (by kernel_rfl) v xT w
theorem hQb (a:Addr) :
  Calls Tryz.prog 80 #[C9 a,C9 a] w fun e f=>e=.returned (.bool true)/\f=w:=by
 have⟨i,c,b⟩:=Option.map_eq_some_iff.1 kQt;have⟨j,d,l⟩:=Option.map_eq_some_iff.1 kQw;have h:=jQi;have g:=jQh;have m:=isMethodComparable;have k:=run_eql_iface_ptr_same (P:=Tryz.prog) w a Tryz.underlying80 Tryz.underlying251 c b d;go_enter Tryz.func80,Tryz.ntmps80;go_wp2
 refine wp_loop_rounds 1 ?_;rw[rounds_succ];go_wp2
 go_ret;exact⟨rfl,rfl⟩
theorem bQ9 (a b:Addr)(c d:Array Value)(n o:TypeId)(m:a≠b)(ha:w.heap[a.block]?=some (.cells c n (0,0)))(f:w.heap[b.block]?=some (.cells d o (0,0))) :
  Calls Tryz.prog 80 #[C9 a,C9 b] w fun e p=>e=.returned (.bool false)/\p=w:=by
 have⟨i,h,g⟩:=Option.map_eq_some_iff.1 kQt;have⟨j,k,l⟩:=Option.map_eq_some_iff.1 kQw;have r:=jQi;have q:=jQh;have t:=isMethodComparable;have u:=xQ2;have v:=xQ3;have x:=xQ4;have s:=run_eql_iface_ptr_other (P:=Tryz.prog) w Tryz.underlying80 Tryz.underlying251 h g k (by rw[l];decide) m ha f;go_enter Tryz.func80,Tryz.ntmps80;go_wp2
 refine wp_loop_rounds 1 ?_;rw[rounds_succ];go_wp2
 go_ret;exact⟨rfl,rfl⟩
theorem uQl (h:Sent w a0 a1 a2 a3) :
  Calls Tryz.prog 45 #[C9 a0] w fun e a=>e=.returned (Iv 1)/\a=w:=by
 have b:=h.c0;have c:=h.c2;have d:=run_eql_iface_nil (P:=Tryz.prog) (w:=w) 80 (by kernel_rfl) 251 (.pointer (some a0));go_enter Tryz.func45,Tryz.ntmps45;go_wp2_with fail;refine(hQb w a0).mono ?_;rintro e a ⟨rfl,rfl⟩;go_wp2;go_ret;exact⟨rfl,rfl⟩
theorem uQm (h:Sent w a0 a1 a2 a3) :
  Calls Tryz.prog 45 #[C9 a2] w fun e a=>e=.returned (Iv 3)/\a=w:=by
 have l:=h.c0;have m:=h.c2;have⟨d,j,b⟩:=h.b0;have⟨f,k,c⟩:=h.b2;have g:=bQ9 w a2 a0 f d k j (Ne.symm h.n02) c b;have i:=hQb w a2;have n:=run_eql_iface_nil (P:=Tryz.prog) (w:=w) 80 (by kernel_rfl) 251 (.pointer (some a2));go_enter Tryz.func45,Tryz.ntmps45;go_wp2_with fail;refine g.mono ?_;rintro e a ⟨rfl,rfl⟩;go_wp2_with fail;refine i.mono ?_;rintro e a ⟨rfl,rfl⟩;go_wp2;go_ret;exact⟨rfl,rfl⟩
theorem uQo (h:Sent w a0 a1 a2 a3) :
  Calls Tryz.prog 45 #[C9 a3] w fun e a=>e=.returned (Iv 4)/\a=w:=by
 have p:=h.c0;have q:=h.c2;have r:=h.c3;have⟨i,n,c⟩:=h.b0;have⟨j,o,d⟩:=h.b2;have⟨f,g,b⟩:=h.b3;have k:=bQ9 w a3 a0 f i g n (Ne.symm h.n03) b c;have l:=bQ9 w a3 a2 f j g o (Ne.symm h.n23) b d;have m:=hQb w a3;have s:=run_eql_iface_nil (P:=Tryz.prog) (w:=w) 80 (by kernel_rfl) 251 (.pointer (some a3));go_enter Tryz.func45,Tryz.ntmps45;go_wp2_with fail;refine k.mono ?_;rintro e a ⟨rfl,rfl⟩;go_wp2_with fail;refine l.mono ?_;rintro e a ⟨rfl,rfl⟩;go_wp2_with fail;refine m.mono ?_;rintro e a ⟨rfl,rfl⟩;go_wp2;go_ret;exact⟨rfl,rfl⟩
theorem uQn (h:Sent w a0 a1 a2 a3) :
  Calls Tryz.prog 45 #[C9 a1] w fun e b=>e=.returned (Iv 2)/\b=w:=by
 have s:=h.c0;have t:=h.c2;have u:=h.c3;have⟨j,p,f⟩:=h.b0;have⟨c,d,a⟩:=h.b1;have⟨k,q,g⟩:=h.b2;have⟨l,r,i⟩:=h.b3;have m:=bQ9 w a1 a0 c j d p (Ne.symm h.n01) a f;have n:=bQ9 w a1 a2 c k d q h.n12 a g;have o:=bQ9 w a1 a3 c l d r h.n13 a i;have v:=run_eql_iface_nil (P:=Tryz.prog) (w:=w) 80 (by kernel_rfl) 251 (.pointer (some a1));go_enter Tryz.func45,Tryz.ntmps45;go_wp2_with fail;refine m.mono ?_;rintro e b ⟨rfl,rfl⟩;go_wp2_with fail;refine n.mono ?_;rintro e b ⟨rfl,rfl⟩;go_wp2_with fail;refine o.mono ?_;rintro e b ⟨rfl,rfl⟩;go_wp2;go_ret;exact⟨rfl,rfl⟩
theorem mPlace  (w : World) : (Go.method 385 180 x "Size").run Tryz.prog w = .ok (233, x) w := by kernel_rfl
theorem mRow  (w : World) : (Go.method 385 184 x "Size").run Tryz.prog w = .ok (234, x) w := by kernel_rfl
theorem mChoice  (w : World) : (Go.method 385 187 x "Size").run Tryz.prog w = .ok (236, x) w := by kernel_rfl
theorem mRepeat  (w : World) : (Go.method 385 189 x "Size").run Tryz.prog w = .ok (237, x) w := by kernel_rfl
def dn:Ls.D->Nat
 | ⟨_,_,[]⟩=>1
 | ⟨_,_,[a]⟩=>dn a+1
 | ⟨_,_,[a,b]⟩=>dn a+dn b+1
 | _=>1
theorem aQw (t:Nat):dn (Ls.rep t a)=dn a+1:=by simp[Ls.rep,dn]
theorem Y8 (r:Ls.D):dn (rcons a r)=dn a+dn r+1:=by simp[rcons,dn]
theorem bQ2 (r:Ls.D):dn (clast r)=dn r+1:=by simp[clast,dn]
theorem bQ1 (r c:Ls.D):dn (ccons r c)=dn r+dn c+1:=by simp[ccons,dn]
theorem Rep.things {w:World}{r:Nat}(h:Rep w G r d vs)(c:r=1):∃l:List Ls.D,d=l.foldr Ls.rcons Ls.rnil/\Each w G l vs:=by
 induction h using Rep.ind with
 | rnil=>exact⟨[],rfl,.nil⟩
 | rcons a _ _ f=>
  have⟨l,e,b⟩:=f rfl;exact⟨_::l,by rw[e];rfl,.cons a b⟩
 | _=>cases c
theorem Rep.sides {w:World}{r:Nat}(h:Rep w G r d vs)(g:r=2):∃l:List Ls.D,l≠[]/\d=F7 l/\Each w G l vs:=by
 induction h using Rep.ind with
 | clast a _=>exact⟨[_],by simp,rfl,.cons a .nil⟩
 | ccons a _ _ i=>
  have⟨l,f,e,c⟩:=i rfl;refine⟨_::l,by simp,?_,.cons a c⟩;cases l with
  | nil=>exact absurd rfl f
  | cons b l=>rw[e];rfl
 | _=>cases g
theorem jQ8:∀a,a∈l->dn a<dn (l.foldr rcons rnil):=by
 induction l with
 | nil=>simp
 | cons b l c=>
  intro a ha;simp only[List.foldr_cons,Y8];simp only[List.mem_cons]at ha;rcases ha with rfl|ha
  ·omega
  ·have:=c a ha;omega
theorem jQ7:∀a,a∈l->dn a<dn (F7 l):=by
 induction l with
 | nil=>simp
 | cons b l d=>
  intro a ha;cases l with
  | nil=>simp only[List.mem_cons,List.not_mem_nil,or_false]at ha;subst ha;simp only[F7,bQ2];omega
  | cons c l=>
   simp only[F7,bQ1];rw[List.mem_cons]at ha;rcases ha with rfl|ha
   ·omega
   ·have:=d a ha;omega
def G0:List Ls.D->Nat
 | []=>0
 | a::l=>dsize a+G0 l
theorem nQj:G0 (l++[a])=G0 l+dsize a:=by
 induction l with
 | nil=>simp[G0]
 | cons b l c=>simp only[List.cons_append,G0,c];omega
theorem iQk:G0 (l.take k)<=G0 l:=by
 induction l generalizing k with
 | nil=>simp
 | cons b l a=>
  cases k with
  | zero=>simp[G0]
  | succ k=>simp only[List.take_succ_cons,G0];have:=a k;omega
theorem nQi:dsize (l.foldr rcons rnil)=G0 l:=by
 induction l with
 | nil=>exact gXh
 | cons a l b=>simp only[List.foldr_cons,gXp,G0,b]
theorem nQf (h:l≠[]):dsize (F7 l)=G0 l:=by
 induction l with
 | nil=>exact absurd rfl h
 | cons a l c=>
  cases l with
  | nil=>simp[F7,gX8,G0]
  | cons b l=>simp only[F7,gX7,c (by simp),G0]
theorem nQh:l.length<dn (l.foldr rcons rnil):=by
 induction l with
 | nil=>simp[rnil,dn]
 | cons a l b=>simp only[List.length_cons,List.foldr_cons,Y8];omega
theorem jQp:l.length<=dn (F7 l):=by
 induction l with
 | nil=>simp
 | cons a l c=>
  cases l with
  | nil=>simp only[F7,bQ2,List.length_cons,List.length_nil];omega
  | cons b l=>simp only[F7,bQ1,List.length_cons]at c ⊢;omega
theorem Each.get {w:World}{l:List Ls.D}(h:Each w G l vs)(k:Nat)(b:k<l.length):∃a x,vs[k]?=some (.iface a x)/\Rep w G 0 l[k] [.iface a x]:=by
 induction h using Each.ind generalizing k with
 | nil=>simp at b
 | cons c _ d=>
  cases k with
  | zero=>obtain⟨a,x,rfl⟩:=c.iface;exact⟨a,x,rfl,c⟩
  | succ k=>exact d k (by simpa using b)
def bQt (d:Ls.D):Prop:=dsize d<=1048576->∀(w:World) (G:Nat->Prop) (ty:TypeId) (x:Value),Old w G->Rep w G 0 d [.iface ty x]->
 ∃ f, (∀ w, (Go.method 385 ty x "Size").run Tryz.prog w = .ok (f, x) w) /\ (∀ w, (callFunc f #[x]).run Tryz.prog w = .ok (.enter f #[x]) w) /\ Ca f #[x] w fun e w' => e = .returned (.int .i64 (dsize d)) /\ Bw w w'
theorem Shows.shape {w:World}(h:Shows w G sl vs):(sl=.slice none 0 0/\vs=[])\/∃g a,sl=Sl g vs.length a/\G g/\∀k,k<vs.length->w.cell? ⟨g,k,none⟩=vs[k]?:=by
 rcases h.own.2 with⟨b,c⟩|⟨g,a,d,rfl,e⟩
 ·exact .inl ⟨b,List.eq_nil_of_length_eq_zero c⟩
 ·exact .inr ⟨g,a,rfl,h.inG g rfl,fun k f=>h.own.cellAt k (by omega)⟩
theorem Shows.later {w:World}(h:Shows w G sl vs)(a:Old w G)(b:Bw w w'):Shows w' G sl vs:=
 h.mono (fun _ h=>h) (fun k c=>b.block k (a k c))
theorem Rep.later {w:World}{v:Value}(h:Rep w G 0 d [v])(a:Old w G)(b:Bw w w'):Rep w' G 0 d [v]:=
 h.mono (fun _ h=>h) (fun k c=>b.block k (a k c))
theorem Each.later {w:World}{l:List Ls.D}(h:Each w G l vs)(a:Old w G)(b:Bw w w'):Each w' G l vs:=
 h.mono (fun _ h=>h) (fun k c=>b.block k (a k c))
theorem nQd (p:∀a,a∈l->bQt a)(X:G0 l<=1048576)(V:l.length<=1048577)(G:Nat->Prop)(h:Old w G)(v:Value)(z:List Value)(hs:Shows w G v z)(j:Each w G l z) :
  Calls Tryz.prog 235 #[v] w fun e L=>e=.returned (Iv (G0 l))/\Bw w L:=by
 have C:Hid _:=p;have m:=j.length;rcases hs.shape with⟨rfl,rfl⟩|⟨g,M,rfl,I,n⟩
 ·obtain rfl:l=[]:=List.eq_nil_of_length_eq_zero (by simpa using m.symm)
  go_enter Tryz.func235,Tryz.ntmps235;go_wp2;refine wp_loop_rounds 1 ?_;rw[rounds_succ];go_wp2;go_ret;exact⟨rfl,Br⟩
 ·have T:=h g I
  have B:Hid _:=hs;have A:Hid _:=j;rw[m];have E:Hid _:=m;go_enter Tryz.func235,Tryz.ntmps235;go_wp2;go_loopw [3,8] (fun t i wr=>∃k:Nat,k<=l.length/\i=Iv k/\t=Iv (G0 (l.take k))/\Bw w wr) (fun _ i _=>l.length-(intOf i).toNat)
  ·exact⟨0,Nat.zero_le _,rfl,by simp[G0],Br⟩
  ·
   obtain⟨k,U,rfl,rfl,c⟩:=hrel;have Y:=iQk l k
   by_cases d:k<l.length
   ·have s:=B.out.later h c
    have o:=A.out.later h c;have⟨y,x,u,q⟩:=o.get k d;have⟨f,W,S,H⟩:=C.out l[k] (List.getElem_mem d) (by
     have:=iQk l (k+1);rw[List.take_succ_eq_append_getElem d,nQj]at this;omega) wr G y x (h.below c) q
    have R:wr.cell? ⟨g,k,none⟩=some (.iface y x):=by
     rcases s.shape with⟨e,_⟩|⟨Q,N,e,_,n⟩
     ·cases e
     ·injection e with b O P
      injection b with b;injection b with b;subst b;rw[n k (by rw[E.out];exact d),u]
    have r:Hid (G0 (l.take (k+1))=G0 (l.take k)+dsize l[k]):=by show _=_;rw[List.take_succ_eq_append_getElem d,nQj]
    have K:=iQk l (k+1);rw[r.out]at K;go_wp2;refine H.mono ?_;rintro e Z ⟨rfl,F⟩;go_wp2;go_roundw
    ·exact⟨k+1,by omega,by go_num,by rw[r.out];go_num,Bj c F⟩
    ·simp[intOf];omega
   ·have J:k=l.length:=by omega
    go_wp2;go_ret;rw[J,List.take_length];exact⟨rfl,c⟩
theorem rQ6 (x:Value)(w:World):(callFunc 233 #[x]).run Tryz.prog w=.ok (.enter 233 #[x]) w:=by kernel_rfl
theorem rQ8 (x:Value)(w:World):(callFunc 234 #[x]).run Tryz.prog w=.ok (.enter 234 #[x]) w:=by kernel_rfl
theorem rQ5 (x:Value)(w:World):(callFunc 236 #[x]).run Tryz.prog w=.ok (.enter 236 #[x]) w:=by kernel_rfl
theorem rQ7 (x:Value)(w:World):(callFunc 237 #[x]).run Tryz.prog w=.ok (.enter 237 #[x]) w:=by kernel_rfl
theorem nQe (d:Ls.D)(k:∀a,dn a<dn d->bQt a)(O:dn d<=1048577):bQt d:=by
 intro m w G r x i h;rcases h.at0 with⟨s,lo,N,B,rfl,q⟩|⟨t,a,Q,I,b,rfl,q⟩|⟨g,u,hs,b,q⟩|⟨g,u,hs,b,q⟩<;>cases q<;>clear h
 ·clear B
  refine⟨_,mPlace _,rQ6 _,?_⟩;rw[gXe];go_enter Tryz.func233,Tryz.ntmps233;go_wp2;go_ret;exact⟨rfl,A5 _ _⟩
 ·clear I
  obtain⟨r,y,rfl⟩:=b.iface;refine⟨_,mRepeat _,rQ7 _,?_⟩;rw[fX5]at m ⊢;have z:Hid _:=b;have A:Hid _:=k a (by rw[aQw];omega);have⟨f,P,M,C⟩:=A.out m (w.alloc (.cells #[.iface r y,.bool (t != 6),.bool (t != 7)] 189)) G r y (i.alloc _) (z.out.later i (A5 _ _));go_enter Tryz.func237,Tryz.ntmps237;go_wp2;refine C.mono ?_;rintro e v ⟨rfl,o⟩;go_wp2;go_ret;exact⟨rfl,Bj (A5 _ _) o⟩
 ·obtain⟨l,rfl,p⟩:=b.things rfl
  refine⟨_,mRow _,rQ8 _,?_⟩;rw[nQi]at m ⊢;have j:=A5 w (.cells #[g] 184);have E:=nQh l;have H:=nQd l _ (fun a ha=>k a (jQ8 l a ha)) m (by omega) G (i.alloc (.cells #[g] 184)) g u (hs.later i j) (p.later i j);obtain⟨J,K,L,rfl⟩:∃a n c,g=.slice a n c:=by
   rcases hs.shape with⟨e,_⟩|⟨_,_,e,_⟩<;>exact⟨_,_,_,e⟩
  go_enter Tryz.func234,Tryz.ntmps234;go_wp2_with fail;refine H.mono ?_;rintro e v ⟨rfl,o⟩;go_wp2;go_ret;exact⟨rfl,Bj j o⟩
 ·obtain⟨l,F,rfl,p⟩:=b.sides rfl
  refine⟨_,mChoice _,rQ5 _,?_⟩;rw[nQf l F]at m ⊢;have j:=A5 w (.cells #[g] 187);have E:=jQp l;have H:=nQd l _ (fun a ha=>k a (jQ7 l a ha)) m (by omega) G (i.alloc (.cells #[g] 187)) g u (hs.later i j) (p.later i j);obtain⟨J,K,L,rfl⟩:∃a n c,g=.slice a n c:=by
   rcases hs.shape with⟨e,_⟩|⟨_,_,e,_⟩<;>exact⟨_,_,_,e⟩
  go_enter Tryz.func236,Tryz.ntmps236;go_wp2_with fail;refine H.mono ?_;rintro e v ⟨rfl,o⟩;go_wp2;go_ret;exact⟨rfl,Bj j o⟩
theorem iQj (n:Nat):∀d,dn d<=n->dn d<=1048577->bQt d:=by
 induction n with
 | zero=>intro d b h;exact nQe d (fun a ha=>by omega) h
 | succ n c=>intro d b h;exact nQe d (fun a ha=>c a (by omega) (by omega)) h
def Z6 (P:Lu->Rd):Prop:=∀r d t,P r=some (d,t)->dn d+4*t.length<=4*r.length+2
theorem cQt (s:Lu):dn (Ls.place s)=1:=by simp[Ls.place,dn]
theorem V5:dn rnil=1:=by simp[rnil,dn]
theorem xQ9 (g:Z6 P)(h:fXg P r=some (d,t)):dn d+4*t.length+1<=4*r.length:=by
 cases r with
 | nil=>simp[fXg]at h
 | cons c r=>
  unfold fXg at h;dsimp only at h
  split at h
  ·split at h
   ·simp at h
   ·rename_i e u a
    have b:=g _ _ _ a;split at h
    ·rename_i f
     have:=fXr f;simp at h;obtain⟨rfl,rfl⟩:=h;simp only[List.length_cons];omega
    ·simp at h
  ·split at h
   ·split at h
    ·simp at h
    ·rename_i e u a
     have b:=iX4 _ _ _ _ _ a;simp at h;obtain⟨rfl,rfl⟩:=h;rw[cQt];simp only[List.length_cons];omega
   ·split at h
    ·simp at h;obtain⟨rfl,rfl⟩:=h;rw[cQt];simp only[List.length_cons];omega
    ·split at h
     ·split at h
      ·simp at h
      ·split at h
       ·simp at h;obtain⟨rfl,rfl⟩:=h
        rw[cQt];simp only[List.length_cons];omega
       ·simp at h
     ·split at h
      ·simp at h
      ·simp at h;obtain⟨rfl,rfl⟩:=h;rw[cQt];simp only[List.length_cons];omega
theorem dXh (e:Z6 P)(h:gXq P r=some (d,t)):dn d+4*t.length+1<=4*r.length:=by
 rw[gXq]at h;split at h
 ·simp at h
 ·rename_i a u f
  have c:=xQ9 e f;split at h
  ·rename_i b
   have:=fXr b;simp at h;obtain⟨rfl,rfl⟩:=h;rw[aQw];omega
  ·split at h
   ·rename_i b
    have:=fXr b;simp at h;obtain⟨rfl,rfl⟩:=h;rw[aQw];omega
   ·split at h
    ·rename_i b
     have:=fXr b;simp at h;obtain⟨rfl,rfl⟩:=h;rw[aQw];omega
    ·simp at h;obtain⟨rfl,rfl⟩:=h;exact c
theorem nQ7 {P:Lu->Rd}(c:Z6 P):(n:Nat)->(r:Lu)->(d:Ls.D)->(t:Lu)->things P n r=some (d,t)->dn d+4*t.length<=4*r.length+1
 | 0,_,_,_,h=>by simp[things]at h
 | n+1,r,d,t,h=>by
  rw[things]at h;split at h
  ·simp at h;obtain⟨rfl,rfl⟩:=h;rw[V5];omega
  ·split at h
   ·simp at h
   ·rename_i a g e
    have j:=dXh c e;split at h
    ·simp at h
    ·rename_i b i f
     have k:=nQ7 c n g b i f;simp at h;obtain⟨rfl,rfl⟩:=h;rw[Y8];omega
theorem iQ9 {P:Lu->Rd}(c:Z6 P):(n:Nat)->(r:Lu)->(d:Ls.D)->(t:Lu)->alts P n r=some (d,t)->dn d+4*t.length<=4*r.length+2
 | 0,_,_,_,h=>by simp[alts]at h
 | n+1,r,d,t,h=>by
  rw[alts]at h;split at h
  ·simp at h
  ·rename_i a l e
   have j:=nQ7 c _ _ _ _ e;split at h
   ·rename_i g
    have:=fXr g;split at h
    ·simp at h
    ·rename_i b i f
     have k:=iQ9 c n _ b i f;simp at h;obtain⟨rfl,rfl⟩:=h;rw[bQ1];omega
   ·simp at h;obtain⟨rfl,rfl⟩:=h;rw[bQ2];omega
theorem hQ0:(d:Nat)->Z6 (pat d)
 | 0=>fun r e t h=>by simp[pat]at h
 | d+1=>fun r e t h=>iQ9 (hQ0 d) _ _ _ _ h
def bQ6 (a0 a1 a2 a3:Addr)(n:Nat):Addr:=if n=1 then a0 else if n=2 then a1 else if n=3 then a2 else a3
theorem uQk (h:Sent w a0 a1 a2 a3)(r:Nat)(a:r=1\/r=2\/r=3\/r=4) :
  Calls Tryz.prog 45 #[C9 (bQ6 a0 a1 a2 a3 r)] w fun e b=>e=.returned (Iv r)/\b=w:=by
 rcases a with rfl|rfl|rfl|rfl
 ·exact uQl a0 w a1 a2 a3 h
 ·exact uQn a0 w a1 a2 a3 h
 ·exact uQm a0 w a1 a2 a3 h
 ·exact uQo a0 w a1 a2 a3 h
end Go.Proofs.YtfklinjaajafgaaGreatDoor
namespace Ls
variable (a b:D)(s:Lu)
def iXg:Lu->D
 | []=>rnil
 | c::w=>rcons (place [c]) (iXg w)
def fXi (a b:D):D:=rcons a (rcons b rnil)
def fXv (a b:D):D:=ccons a (clast b)
def dS:Ln->D
 | ⟨k,p,_,[]⟩=>if k=0\/k=1 then p else rnil
 | ⟨_,_,_,[a]⟩=>rep 5 (dS a)
 | ⟨k,_,_,[a,b]⟩=>if k=5 then fXv (dS a) (dS b) else fXi (dS a) (dS b)
 | _=>rnil
def dV:Ln->D
 | ⟨k,p,w,[]⟩=>if k=0 then p else if k=2 then iXg w else rnil
 | ⟨_,_,_,[a]⟩=>rep 5 (dV a)
 | ⟨k,_,_,[a,b]⟩=>if k=5 then fXv (dV a) (dV b) else if k=4 then fXi (dV b) (dV a) else fXi (dV a) (dV b)
 | _=>rnil
theorem iXr:inL (eX5 (rcons a b)) s↔∃u v,s=u++v/\inL (eX5 a) u/\inL (eX5 b) v:=by
 rw[hXe];exact jXg _ _ (kXn a) (kXn b) s
theorem gXf:inL (eX5 (fXi a b)) s↔∃u v,s=u++v/\inL (eX5 a) u/\inL (eX5 b) v:=by
 unfold fXi;rw[iXr];constructor
 ·rintro ⟨u,v,e,d,c⟩
  rw[iXr]at c;have⟨x,y,f,h,g⟩:=c;rw[fXm,fXp]at g;subst g;rw[List.append_nil]at f;subst f;exact⟨u,v,e,d,h⟩
 ·rintro ⟨u,v,e,d,c⟩
  exact⟨u,v,e,d,(iXr _ _ _).2 ⟨v,[],by simp,c,by rw[fXm,fXp]⟩⟩
theorem gXv:inL (eX5 (fXv a b)) s↔inL (eX5 a) s\/inL (eX5 b) s:=by
 unfold fXv;rw[hXc,hXd,gX2]
theorem gXg:inL (eX5 (rep 5 a)) s↔hXx (inL (eX5 a)) s:=by rw[hXo,fXq]
theorem gXj {L M:Lu->Prop}(h:∀s,L s↔M s)(s:Lu):hXx L s↔hXx M s:=by
 obtain rfl:L=M:=funext fun s=>propext (h s);exact Iff.rfl
theorem kXt:(w:Lu)->wf (fX0 w)->∀s,inL (eX5 (iXg w)) s↔inL (fX0 w) s
 | [],_,s=>by
  show inL (eX5 rnil) s↔_;rw[fXm];exact Iff.rfl
 | c::w,h,s=>by
  show inL (eX5 (rcons (place [c]) (iXg w))) s↔inL (row (set [c]) (fX0 w)) s;rw[iXr,fX7];have b:wf (fX0 w)/\wf (set [c]):=by
   have h:wf (row (set [c]) (fX0 w)):=h;unfold row at h;rw[if_neg (by simp[set])]at h;split at h
   ·rename_i a
    refine⟨?_,h⟩;cases w with
    | nil=>exact gXz
    | cons d w=>
     exfalso
     have a:(row (set [d]) (fX0 w)).kind=0:=a;unfold row at a;rw[if_neg (by simp[set])]at a;split at a<;>simp[set,gX4]at a
   ·simp[gX4,wf]at h
    exact⟨h.2.2,h.2.1⟩
  rw[fXt b.2 b.1];simp only[kXt w b.1]
theorem hXg {a b:D}{p q:Pat}(c:∀s,inL (eX5 a) s↔inL p s)(d:∀s,inL (eX5 b) s↔inL q s)(e:wf p)(f:wf q)(s:Lu):inL (eX5 (fXi a b)) s↔inL (row p q) s:=by
 rw[gXf,fXt e f];simp only[c,d]
theorem fX6 {c:Nat}:(l:Ln)->OkL c l->∀s,inL (eX5 (dS l)) s↔inL (eX8 l) s
 | ⟨k,p,w,[]⟩,h,s=>by
  rw[dS,eX8];split
  ·exact Iff.rfl
  ·rw[fXm]
 | ⟨k,p,w,[a]⟩,h,s=>by
  rw[OkL]at h;rw[dS,eX8,if_pos h.2.1,gXg,fXq];exact gXj (fX6 a h.2.2) s
 | ⟨k,p,w,[a,b]⟩,h,s=>by
  rw[OkL]at h;obtain⟨_,e,ha,d⟩:=h;rw[dS,eX8];rcases e with rfl|rfl|rfl
  ·rw[if_neg (by omega),if_pos (.inl rfl)]
   exact hXg (fX6 a ha) (fX6 b d) ha.src.ok d.src.ok s
  ·rw[if_neg (by omega),if_pos (.inr rfl)]
   exact hXg (fX6 a ha) (fX6 b d) ha.src.ok d.src.ok s
  ·rw[if_pos rfl,if_neg (by omega),if_pos rfl,gXv,gX2,fX6 a ha,fX6 b d]
 | ⟨k,p,w,_::_::_::_⟩,h,_=>by simp[OkL]at h
theorem fX8 {c:Nat}:(l:Ln)->OkL c l->∀s,inL (eX5 (dV l)) s↔inL (eX6 l) s
 | ⟨k,p,w,[]⟩,h,s=>by
  rw[OkL]at h;have e:=h.1.2.ok;rw[dV,eX6];rw[eX6]at e;split
  ·exact Iff.rfl
  ·rename_i f
   rw[if_neg f]at e;split
   ·rename_i g
    rw[if_pos g]at e;exact kXt w e s
   ·rw[fXm]
 | ⟨k,p,w,[a]⟩,h,s=>by
  rw[OkL]at h;rw[dV,eX6,if_pos h.2.1,gXg,fXq];exact gXj (fX8 a h.2.2) s
 | ⟨k,p,w,[a,b]⟩,h,s=>by
  rw[OkL]at h;obtain⟨_,i,ha,d⟩:=h;rw[dV,eX6];rcases i with rfl|rfl|rfl
  ·rw[if_neg (by omega),if_neg (by omega),if_pos rfl]
   exact hXg (fX8 a ha) (fX8 b d) ha.view.ok d.view.ok s
  ·rw[if_neg (by omega),if_pos rfl,if_neg (by omega),if_pos rfl]
   exact hXg (fX8 b d) (fX8 a ha) d.view.ok ha.view.ok s
  ·rw[if_pos rfl,if_neg (by omega),if_neg (by omega),if_pos rfl,gXv,gX2,fX8 a ha,fX8 b d]
 | ⟨k,p,w,_::_::_::_⟩,h,_=>by simp[OkL]at h
theorem iXi:(w:Lu)->dsize (iXg w)=w.length
 | []=>by simp[iXg,gXh]
 | c::w=>by rw[iXg,gXp,gXe,iXi w,List.length_cons];omega
theorem hXp:dsize (fXi a b)=dsize a+dsize b:=by rw[fXi,gXp,gXp,gXh];omega
theorem hXq:dsize (fXv a b)=dsize a+dsize b:=by rw[fXv,gX7,gX8]
theorem fX3 {c:Nat}:(l:Ln)->OkL c l->dsize (dS l)<=eX7 l
 | ⟨k,p,w,[]⟩,_=>by
  rw[dS,eX7];split
  ·omega
  ·rw[gXh];omega
 | ⟨k,p,w,[a]⟩,h=>by
  rw[OkL]at h;have:=fX3 a h.2.2;rw[dS,eX7,if_pos h.2.1,fX5];omega
 | ⟨k,p,w,[a,b]⟩,h=>by
  rw[OkL]at h;have d:=fX3 a h.2.2.1;have e:=fX3 b h.2.2.2;rw[dS,eX7];split
  ·rw[hXq];omega
  ·rw[hXp];omega
 | ⟨k,p,w,_::_::_::_⟩,h=>by simp[OkL]at h
theorem fXz {c:Nat}:(l:Ln)->OkL c l->dsize (dV l)<=eX7 l
 | ⟨k,p,w,[]⟩,_=>by
  rw[dV,eX7];split
  ·omega
  ·split
   ·rw[iXi];omega
   ·rw[gXh];omega
 | ⟨k,p,w,[a]⟩,h=>by
  rw[OkL]at h;have:=fXz a h.2.2;rw[dV,eX7,if_pos h.2.1,fX5];omega
 | ⟨k,p,w,[a,b]⟩,h=>by
  rw[OkL]at h;have d:=fXz a h.2.2.1;have e:=fXz b h.2.2.2;rw[dV,eX7];split
  ·rw[hXq];omega
  ·split<;>rw[hXp]<;>omega
 | ⟨k,p,w,_::_::_::_⟩,h=>by simp[OkL]at h
end Ls
namespace Go.Proofs.YtfklinjaajafgaaGreatDoor
open Ls
def cn:Ln->Nat
 | ⟨_,p,w,[]⟩=>dn p+2*w.length+2
 | ⟨_,_,_,[a]⟩=>cn a+1
 | ⟨_,_,_,[a,b]⟩=>cn a+cn b+4
 | _=>1
theorem gQz:(w:Lu)->dn (iXg w)=2*w.length+1
 | []=>by simp[iXg,V5]
 | c::w=>by rw[iXg,Y8,cQt,gQz w,List.length_cons];omega
theorem Y6:(l:Ln)->dn (dS l)<=cn l
 | ⟨k,p,w,[]⟩=>by
  rw[dS,cn];split
  ·omega
  ·rw[V5];omega
 | ⟨k,p,w,[a]⟩=>by
  have:=Y6 a;rw[dS,cn,aQw];omega
 | ⟨k,p,w,[a,b]⟩=>by
  have c:=Y6 a;have d:=Y6 b;rw[dS,cn];split
  ·rw[fXv,bQ1,bQ2];omega
  ·rw[fXi,Y8,Y8,V5];omega
 | ⟨k,p,w,_::_::_::_⟩=>by
  show dn rnil<=1;rw[V5];omega
theorem Y7:(l:Ln)->dn (dV l)<=cn l
 | ⟨k,p,w,[]⟩=>by
  rw[dV,cn];split
  ·omega
  ·split
   ·rw[gQz];omega
   ·rw[V5];omega
 | ⟨k,p,w,[a]⟩=>by
  have:=Y7 a;rw[dV,cn,aQw];omega
 | ⟨k,p,w,[a,b]⟩=>by
  have c:=Y7 a;have d:=Y7 b;rw[dV,cn];split
  ·rw[fXv,bQ1,bQ2];omega
  ·split<;>rw[fXi,Y8,Y8,V5]<;>omega
 | ⟨k,p,w,_::_::_::_⟩=>by
  show dn rnil<=1;rw[V5];omega
end Go.Proofs.YtfklinjaajafgaaGreatDoor
namespace Go.Proofs.YtfklinjaajafgaaGreatDoor
open Ls
open Go.RowKit
theorem aX2 (s:By)(hs:s.size<=1048576)(b:Addr)(z:Nat)(u:z<=12)(a i:Nat)(w:World)(h:RB w a s i z)(n:Env w a b)(p:i<=s.size) :
  Calls Tryz.prog 94 #[Pt a] w (RPost w a s i z b (pat (13-z) (rest s i))):=by
 have g:=jQr s hs b (12-z) (by omega);rw[show 12-(12-z)=z from by omega]at g;have k:=g a i w h n p;go_enter Tryz.func94,Tryz.ntmps94;go_wp2_with fail;refine k.mono ?_;rintro e m (⟨d,j,v,c,q,r,rfl,l,t⟩|⟨c,rfl,o⟩)
 ·have f:Hid (RPost w a s i z b (pat (13-z) (rest s i)) (.returned v) m):=.inl ⟨d,j,v,c,q,r,rfl,l,t⟩
  go_wp2;go_ret;exact f.out
 ·have f:Hid (RPost w a s i z b (pat (13-z) (rest s i)) (.panicked [{v:=C9 b,recovered:=false}]) m):=.inr ⟨c,rfl,o⟩
  clear c k;go_wp2;exact⟨rfl,f.out⟩
end Go.Proofs.YtfklinjaajafgaaGreatDoor
namespace Go.Proofs.YtfklinjaajafgaaGreatDoor
open Ls
theorem sQ0 (d:Ls.D):cn (fXs d)=dn d+2:=by simp[fXs,cn]
theorem sQ2 (d:Ls.D)(w:Lu):cn (fXf d w)=dn d+2*w.length+2:=by simp[fXf,cn]
theorem sQ3 (w:Lu):cn (iXp w)=2*w.length+3:=by simp[iXp,cn,V5];omega
theorem sQy (a b:Ln):cn (eX9 a b)=cn a+cn b+4:=by simp[eX9,cn]
theorem sQz (a b:Ln):cn (fXc a b)=cn a+cn b+4:=by simp[fXc,cn]
theorem sQ5 (a b:Ln):cn (fXn a b)=cn a+cn b+4:=by simp[fXn,cn]
theorem sQ4 (a:Ln):cn (hXb a)=cn a+1:=by simp[hXb,cn]
theorem sQ1 (a:Ln):cn (gXl a)=cn a+1:=by simp[gXl,cn]
def aQ8 (Q:Lu->Rl):Prop:=∀r l t,Q r=some (l,t)->cn l+4+8*t.length<=8*r.length
theorem nQl {P:Lu->Rd}(b:Z6 P){r:Lu}{d:Ls.D}{t:Lu}(h:fXj P r=some (d,t)):dn d+4*t.length+2<=4*r.length:=by
 unfold fXj at h;cases a:P r with
 | none=>rw[a]at h;cases h
 | some x=>
  have⟨e,u⟩:=x;rw[a]at h;dsimp only at h
  split at h
  ·rename_i c
   have f:=fXo c;simp only[Option.some.injEq,Prod.mk.injEq]at h;obtain⟨rfl,rfl⟩:=h;have:=b _ _ _ a;omega
  ·cases h
theorem gQk (l:Ln)(t:Lu):cn (fX9 l t).1+8*(fX9 l t).2.length<=cn l+8*t.length:=by
 unfold fX9;split
 ·rename_i a
  have:=fXo a;rw[sQ4];dsimp only;omega
 ·exact Nr
theorem yQ8 {P:Lu->Rd}{Q:Lu->Rl}(q:Z6 P)(n:aQ8 Q):aQ8 (fXk P Q):=by
 intro r l t h;cases r with
 | nil=>simp[fXk]at h
 | cons c r=>
  simp only[fXk]at h;simp only[List.length_cons];split at h
  ·cases e:fXj P r with
   | none=>rw[e]at h;cases h
   | some x=>
    have⟨d,u⟩:=x;rw[e]at h;simp only[Option.some.injEq]at h;have m:=nQl q e;have i:=gQk (fXs d) u;rw[h,sQ0]at i;dsimp only at i
    omega
  ·split at h
   ·split at h
    ·rename_i k
     have s:=fXo k;cases e:fXj P r.tail with
     | none=>rw[e]at h;cases h
     | some x=>
      have⟨d,u⟩:=x;rw[e]at h;dsimp only at h
      have m:=nQl q e;cases g:fX1 u with
      | none=>rw[g]at h;cases h
      | some x=>
       have⟨w,v⟩:=x;rw[g]at h;simp only[Option.some.injEq,Prod.mk.injEq]at h;obtain⟨rfl,rfl⟩:=h;have⟨y,i⟩:=iXo g;rw[sQ2];omega
    ·cases h
   ·split at h
    ·cases g:fX1 r with
     | none=>rw[g]at h;cases h
     | some x=>
      have⟨w,v⟩:=x;rw[g]at h;simp only[Option.some.injEq,Prod.mk.injEq]at h;obtain⟨rfl,rfl⟩:=h;have⟨y,i⟩:=iXo g;rw[sQ3];omega
    ·split at h
     ·cases f:Q r with
      | none=>rw[f]at h;cases h
      | some x=>
       have⟨a,u⟩:=x;rw[f]at h;dsimp only at h
       have m:=n _ _ _ f;split at h
       ·rename_i k
        have s:=fXo k;simp only[Option.some.injEq,Prod.mk.injEq]at h;obtain⟨rfl,rfl⟩:=h;rw[sQ1];omega
       ·cases h
     ·split at h
      ·cases f:Q r with
       | none=>rw[f]at h;cases h
       | some x=>
        have⟨a,u⟩:=x;rw[f]at h;dsimp only at h
        have m:=n _ _ _ f;split at h
        ·rename_i k
         have s:=fXo k;cases p:Q u.tail with
         | none=>rw[p]at h;cases h
         | some x=>
          have⟨b,v⟩:=x;rw[p]at h;dsimp only at h
          have i:=n _ _ _ p;split at h
          ·rename_i o
           have z:=fXo o;simp only[Option.some.injEq]at h;have j:=gQk (fXc a b) v.tail;rw[h,sQz]at j;dsimp only at j
           omega
          ·cases h
        ·split at h
         ·rename_i o
          have z:=fXo o;simp only[Option.some.injEq]at h;have j:=gQk a u.tail;rw[h]at j;dsimp only at j
          omega
         ·cases h
      ·cases h
theorem mQd {P:Lu->Rd}{Q:Lu->Rl}(e:Z6 P)(f:aQ8 Q):∀n,aQ8 (fXe P Q n)
 | 0,r,l,t,h=>by simp[fXe]at h
 | n+1,r,l,t,h=>by
  simp only[fXe]at h;cases c:fXk P Q r with
  | none=>rw[c]at h;cases h
  | some x=>
   obtain⟨a,i⟩:=x;rw[c]at h;dsimp only at h
   have g:=yQ8 e f _ _ _ c;split at h
   ·simp only[Option.some.injEq,Prod.mk.injEq]at h
    obtain⟨rfl,rfl⟩:=h;exact g
   ·cases d:fXe P Q n i with
    | none=>rw[d]at h;cases h
    | some x=>
     obtain⟨b,k⟩:=x;rw[d]at h;simp only[Option.some.injEq,Prod.mk.injEq]at h;obtain⟨rfl,rfl⟩:=h;have j:=mQd e f n _ _ _ d;rw[sQy];omega
theorem iQ7 {P:Lu->Rd}{Q:Lu->Rl}(e:Z6 P)(f:aQ8 Q):∀n,aQ8 (gXa P Q n)
 | 0,r,l,t,h=>by simp[gXa]at h
 | n+1,r,l,t,h=>by
  simp only[gXa]at h;cases c:fXe P Q (r.length+1) r with
  | none=>rw[c]at h;cases h
  | some x=>
   obtain⟨a,j⟩:=x;rw[c]at h;dsimp only at h
   have g:=mQd e f _ _ _ _ c;split at h
   ·rename_i i
    have m:=fXo i;cases d:gXa P Q n j.tail with
    | none=>rw[d]at h;cases h
    | some x=>
     obtain⟨b,o⟩:=x;rw[d]at h;simp only[Option.some.injEq,Prod.mk.injEq]at h;obtain⟨rfl,rfl⟩:=h;have k:=iQ7 e f n _ _ _ d;rw[sQ5];omega
   ·simp only[Option.some.injEq,Prod.mk.injEq]at h
    obtain⟨rfl,rfl⟩:=h;exact g
theorem lQa:∀n,aQ8 (fXa n)
 | 0,r,l,t,h=>by simp[fXa]at h
 | n+1,r,l,t,h=>iQ7 (hQ0 _) (lQa n) _ _ _ _ h
theorem oQe:(w:Lu)->∀c,c∈w->[c]∈gX1 (fX0 w)
 | [],c,h=>by cases h
 | d::t,c,h=>by
  show [c]∈gX1 (Ls.row (Ls.set [d]) (fX0 t));have b:(Ls.set [d]).kind≠0:=by simp[Ls.set]
  unfold Ls.row;rw[if_neg b];rcases List.mem_cons.1 h with rfl|h
  ·split
   ·rw[Ls.sets_set];simp
   ·rw[gXt,Ls.sets_set];simp
  ·have f:=oQe t c h
   split
   ·rename_i a
    exfalso
    cases t with
    | nil=>cases h
    | cons e t=>
     have a:(Ls.row (Ls.set [e]) (fX0 t)).kind=0:=a;unfold Ls.row at a;rw[if_neg (by simp[Ls.set])]at a;split at a<;>simp[Ls.set,gX4]at a
   ·rw[gXt];exact List.mem_append_right _ f
theorem xQ7 {c:Nat}{p:Ls.D}{w:Lu}(h:OkL c ⟨2,p,w,[]⟩):∀d,d∈w->d.toNat<=126:=by
 intro d b;rw[OkL]at h;have hs:=h.1.2.sg;have:eX6 ⟨2,p,w,[]⟩=fX0 w:=by simp[eX6]
 rw[this]at hs;have a:=hs _ (oQe w d b) d (by simp[Ls.has]);simp[gXu]at a;omega
def B6 (p:Pat)(s:Lu):Bool:=Ls.is p s&&decide (s.length<=60)
def R0 (p q:Pat)(s:Lu):Nat->Nat->Nat
 | 0,_=>0
 | n+1,i=>if (Ls.is p (s.take i)&&Ls.is q (s.drop i))=true then i else R0 p q s n (i+1)
def C0 (p q:Pat)(s:Lu):Nat:=R0 p q s (s.length+1) 0
theorem jQ4 (p q:Pat)(s:Lu):(n i:Nat)->i+n<=s.length+1->R0 p q s n i<=s.length
 | 0,_,_=>Nat.zero_le _
 | n+1,i,h=>by
  unfold R0;split
  ·omega
  ·exact jQ4 p q s n (i+1) (by omega)
theorem R1 (p q:Pat)(s:Lu):C0 p q s<=s.length:=jQ4 p q s _ _ (by omega)
def O1 (p:Pat)(s:Lu):Nat->Nat->Nat
 | 0,i=>i
 | n+1,i=>if (Ls.is p (s.take i)&&Ls.is (fXl p) (s.drop i))=true then i else O1 p s n (i+1)
def N6 (p:Pat)(s:Lu):Nat:=O1 p s (s.length-1) 1
def B9 (p:Pat):Nat->Lu->List (Lu)
 | 0,_=>[]
 | n+1,s=>if s=[] then [] else s.take (N6 p s)::B9 p n (s.drop (N6 p s))
theorem mQh (p:Pat)(s:Lu):(n i:Nat)->i<=O1 p s n i/\O1 p s n i<=i+n
 | 0,i=>by rw[O1];omega
 | n+1,i=>by
  rw[O1];split
  ·omega
  ·have:=mQh p s n (i+1);omega
theorem fQg (p:Pat){s:Lu}(h:s≠[]):1<=N6 p s/\N6 p s<=s.length:=by
 have:=mQh p s (s.length-1) 1;have:0<s.length:=List.length_pos_iff.2 h;unfold N6;omega
theorem mQa (p:Pat):(n m:Nat)->(s:Lu)->s.length<=n->n<=m->B9 p m s=B9 p n s
 | 0,m,s,h,_=>by
  have:s=[]:=List.eq_nil_of_length_eq_zero (by omega);subst this;cases m with
  | zero=>rfl
  | succ m=>simp[B9]
 | n+1,m,s,h,hm=>by
  obtain⟨m,rfl⟩:∃k,m=k+1:=⟨m-1,by omega⟩;rw[B9,B9]
  by_cases hs:s=[]
  ·rw[if_pos hs,if_pos hs]
  ·rw[if_neg hs,if_neg hs]
   have a:=fQg p hs;rw[mQa p n m _ (by rw[List.length_drop];omega) (by omega)]
def A6:Ln->Lu->Lu
 | ⟨k,_,w,[]⟩,s=>if k=0 then s else if k=2 then w else []
 | ⟨_,_,_,[a]⟩,s=>((B9 (eX8 a) s.length s).map (A6 a)).flatten
 | ⟨k,_,_,[a,b]⟩,s=>
  if k=5 then (if Ls.is (eX8 a) s=true then A6 a s else A6 b s) else
  if k=4 then A6 b (s.drop (C0 (eX8 a) (eX8 b) s))++A6 a (s.take (C0 (eX8 a) (eX8 b) s)) else
  A6 a (s.take (C0 (eX8 a) (eX8 b) s))++A6 b (s.drop (C0 (eX8 a) (eX8 b) s))
 | _,_=>[]
def gx:Ln->Nat
 | ⟨_,_,w,[]⟩=>w.length+1
 | ⟨_,_,_,[a]⟩=>2*gx a
 | ⟨_,_,_,[a,b]⟩=>gx a+gx b
 | _=>0
theorem S3 (p:Pat):(n:Nat)->(s:Lu)->s.length<=n->((B9 p n s).map fun x=>x.length+1).sum<=2*s.length
 | 0,s,h=>by simp[B9]
 | n+1,s,h=>by
  rw[B9]
  by_cases hs:s=[]
  ·rw[if_pos hs];simp
  ·rw[if_neg hs]
   have a:=fQg p hs;have:=S3 p n (s.drop (N6 p s)) (by rw[List.length_drop];omega);rw[List.length_drop]at this;simp only[List.map_cons,List.sum_cons,List.length_take];omega
theorem N2:(l:Ln)->(s:Lu)->(A6 l s).length<=(s.length+1)*gx l
 | ⟨k,p,w,[]⟩,s=>by
  rw[A6,gx];have d:(s.length+1)*(w.length+1)=s.length*w.length+s.length+w.length+1:=by rw[Nat.add_mul,Nat.mul_add,Nat.one_mul];omega
  split
  ·rw[d];omega
  ·split
   ·rw[d];omega
   ·simp
 | ⟨k,p,w,[a]⟩,s=>by
  rw[A6,gx];have d:∀c:List (Lu),((c.map (A6 a)).flatten).length<=(c.map fun x=>x.length+1).sum*gx a:=by
   intro c;induction c with
   | nil=>simp
   | cons x c r=>
    simp only[List.map_cons,List.flatten_cons,List.length_append,List.sum_cons];have:=N2 a x;rw[Nat.add_mul];omega
  have i:=d (B9 (eX8 a) s.length s);have e:=S3 (eX8 a) s.length s (Nat.le_refl _);have j:(((B9 (eX8 a) s.length s).map fun x=>x.length+1).sum)*gx a<=(2*s.length)*gx a:=Nat.mul_le_mul_right _ e;have m:(2*s.length)*gx a<=(s.length+1)*(2*gx a):=by
   rw[Nat.mul_comm 2 s.length,Nat.mul_assoc];exact Nat.mul_le_mul_right _ (by omega)
  omega
 | ⟨k,p,w,[a,b]⟩,s=>by
  have q:=R1 (eX8 a) (eX8 b) s;have ha:=N2 a (s.take (C0 (eX8 a) (eX8 b) s));have f:=N2 b (s.drop (C0 (eX8 a) (eX8 b) s));have n:=N2 a s;have o:=N2 b s;rw[List.length_take]at ha;rw[List.length_drop]at f;have g:(min (C0 (eX8 a) (eX8 b) s) s.length+1)*gx a<=(s.length+1)*gx a:=Nat.mul_le_mul_right _ (by omega);have h:(s.length-C0 (eX8 a) (eX8 b) s+1)*gx b<=(s.length+1)*gx b:=Nat.mul_le_mul_right _ (by omega);rw[A6,gx,Nat.mul_add];split
  ·split<;>omega
  ·split<;>rw[List.length_append]<;>omega
 | ⟨k,p,w,_::_::_::_⟩,s=>by simp[A6]
theorem kQh (a:Ln)(b:List (Lu)):((b.map (A6 a)).flatten).length<=(b.map fun x=>x.length+1).sum*gx a:=by
 induction b with
 | nil=>simp
 | cons x b c=>
  simp only[List.map_cons,List.flatten_cons,List.length_append,List.sum_cons];have:=N2 a x;rw[Nat.add_mul];omega
theorem fQw (a:List (Lu)):∀k,((a.take k).map fun x=>x.length+1).sum<=(a.map fun x=>x.length+1).sum:=by
 induction a with
 | nil=>intro k;simp
 | cons x a b=>
  intro k;cases k with
  | zero=>simp
  | succ k=>
   simp only[List.take_succ_cons,List.map_cons,List.sum_cons];have:=b k;omega
theorem z8 (p:Pat):(n:Nat)->(s x:Lu)->x∈B9 p n s->x.length<=s.length
 | 0,s,x,h=>by simp[B9]at h
 | n+1,s,x,h=>by
  rw[B9]at h;split at h
  ·cases h
  ·rcases List.mem_cons.1 h with rfl|h
   ·rw[List.length_take];omega
   ·have:=z8 p n _ x h
    rw[List.length_drop]at this;omega
theorem cQw:(l:Ln)->(c:Nat)->OkL c l->gx l<=cn l*2 ^ eX7 l
 | ⟨k,p,w,[]⟩,c,_=>by
  rw[gx,cn];have:1<=2 ^ eX7 ⟨k,p,w,[]⟩:=Nat.one_le_two_pow;calc w.length+1<=(dn p+2*w.length+2)*1:=by omega
   _<=_:=Nat.mul_le_mul_left _ this
 | ⟨k,p,w,[a]⟩,c,h=>by
  rw[OkL]at h;have:=cQw a c h.2.2;rw[gx,cn,eX7,if_pos h.2.1,Nat.pow_succ];have d:(cn a+1)*(2 ^ eX7 a*2)=2*(cn a*2 ^ eX7 a)+2 ^ eX7 a*2:=by
   rw[Nat.add_mul,Nat.one_mul,<-Nat.mul_assoc,Nat.mul_comm (cn a*2 ^ eX7 a) 2]
  rw[d];omega
 | ⟨k,p,w,[a,b]⟩,c,h=>by
  rw[OkL]at h;have ha:=cQw a c h.2.2.1;have j:=cQw b c h.2.2.2;rw[gx,cn,eX7];have e:2 ^ eX7 a<=2 ^ (eX7 a+eX7 b):=Nat.pow_le_pow_right (by omega) (by omega);have d:2 ^ eX7 b<=2 ^ (eX7 a+eX7 b):=Nat.pow_le_pow_right (by omega) (by omega);have g:=Nat.mul_le_mul_left (cn a) e;have i:=Nat.mul_le_mul_left (cn b) d;have f:(cn a+cn b+4)*2 ^ (eX7 a+eX7 b)=cn a*2 ^ (eX7 a+eX7 b)+cn b*2 ^ (eX7 a+eX7 b)+4*2 ^ (eX7 a+eX7 b):=by rw[Nat.add_mul,Nat.add_mul]
  rw[f];omega
 | ⟨k,p,w,_::_::_::_⟩,c,h=>by simp[OkL]at h
theorem j9 {l:Ln}(c:OkL 120 l)(hs:eX7 l<=24)(b:cn l<=60000):gx l<=1099511627776:=by
 have d:=cQw l 120 c;have a:2 ^ eX7 l<=2 ^ 24:=Nat.pow_le_pow_right (by omega) hs;have e:=Nat.mul_le_mul b a;have f:60000*2 ^ 24<=1099511627776:=by decide
 omega
def A8:Ln->Lu->Lu
 | ⟨k,_,w,[]⟩,v=>if k=0 then v else if k=1 then w else []
 | ⟨_,_,_,[a]⟩,v=>((B9 (eX6 a) v.length v).map (A8 a)).flatten
 | ⟨k,_,_,[a,b]⟩,v=>
  if k=5 then (if Ls.is (eX6 a) v=true then A8 a v else A8 b v) else
  if k=4 then A8 a (v.drop (C0 (eX6 b) (eX6 a) v))++A8 b (v.take (C0 (eX6 b) (eX6 a) v)) else
  A8 a (v.take (C0 (eX6 a) (eX6 b) v))++A8 b (v.drop (C0 (eX6 a) (eX6 b) v))
 | _,_=>[]
theorem K1:(l:Ln)->(s:Lu)->(A8 l s).length<=(s.length+1)*gx l
 | ⟨k,p,w,[]⟩,s=>by
  rw[A8,gx];have d:(s.length+1)*(w.length+1)=s.length*w.length+s.length+w.length+1:=by rw[Nat.add_mul,Nat.mul_add,Nat.one_mul];omega
  split
  ·rw[d];omega
  ·split
   ·rw[d];omega
   ·simp
 | ⟨k,p,w,[a]⟩,s=>by
  rw[A8,gx];have d:∀c:List (Lu),((c.map (A8 a)).flatten).length<=(c.map fun x=>x.length+1).sum*gx a:=by
   intro c;induction c with
   | nil=>simp
   | cons x c z=>
    simp only[List.map_cons,List.flatten_cons,List.length_append,List.sum_cons];have:=K1 a x;rw[Nat.add_mul];omega
  have o:=d (B9 (eX6 a) s.length s);have e:=S3 (eX6 a) s.length s (Nat.le_refl _);have q:(((B9 (eX6 a) s.length s).map fun x=>x.length+1).sum)*gx a<=(2*s.length)*gx a:=Nat.mul_le_mul_right _ e;have r:(2*s.length)*gx a<=(s.length+1)*(2*gx a):=by
   rw[Nat.mul_comm 2 s.length,Nat.mul_assoc];exact Nat.mul_le_mul_right _ (by omega)
  omega
 | ⟨k,p,w,[a,b]⟩,s=>by
  have v:=R1 (eX6 a) (eX6 b) s;have y:=R1 (eX6 b) (eX6 a) s;have ha:=K1 a (s.take (C0 (eX6 a) (eX6 b) s));have g:=K1 b (s.drop (C0 (eX6 a) (eX6 b) s));have f:=K1 a (s.drop (C0 (eX6 b) (eX6 a) s));have h:=K1 b (s.take (C0 (eX6 b) (eX6 a) s));have t:=K1 a s;have u:=K1 b s;rw[List.length_take]at ha h;rw[List.length_drop]at g f;have i:(min (C0 (eX6 a) (eX6 b) s) s.length+1)*gx a<=(s.length+1)*gx a:=Nat.mul_le_mul_right _ (by omega);have j:(s.length-C0 (eX6 a) (eX6 b) s+1)*gx b<=(s.length+1)*gx b:=Nat.mul_le_mul_right _ (by omega);have m:(s.length-C0 (eX6 b) (eX6 a) s+1)*gx a<=(s.length+1)*gx a:=Nat.mul_le_mul_right _ (by omega);have n:(min (C0 (eX6 b) (eX6 a) s) s.length+1)*gx b<=(s.length+1)*gx b:=Nat.mul_le_mul_right _ (by omega);rw[A8,gx,Nat.mul_add];split
  ·split<;>omega
  ·split<;>rw[List.length_append]<;>omega
 | ⟨k,p,w,_::_::_::_⟩,s=>by simp[A8]
def low (c:UInt8):Bool:=decide (97<=c.toNat)&&decide (c.toNat<=122)
def C3 (s:Lu):Lu:=s.takeWhile low
def D2 (f:Lu->Bool):List (Lu)->Option (Lu × List (Lu))
 | []=>none
 | x::xs=>if f x=true then some (x,xs) else match D2 f xs with
  | none=>none
  | some (y,r)=>some (y,x::r)
def I4 (put:Lu->Lu->Lu)(cr:Lu->Lu):List (Lu)->List (Lu)->Lu
 | [],_=>[]
 | m::ms,[]=>cr m++I4 put cr ms []
 | m::ms,n::ns=>put m n++I4 put cr ms ns
def E9 (put:Lu->Lu->Lu)(cr g:Lu->Lu):List (Lu)->List (Lu)->Lu
 | [],_=>[]
 | m::ms,ns=>match D2 (fun n=>C3 (g n)==C3 m) ns with
  | none=>cr m++E9 put cr g ms ns
  | some (n,r)=>put m n++E9 put cr g ms r
def A9:Ln->Lu->Lu->Lu
 | ⟨k,_,_,[]⟩,v,s=>if k=0 then v else if k=1 then s else []
 | ⟨k,_,_,[a]⟩,v,s=>
  if k=7 then E9 (A9 a) (A8 a) (A6 a) (B9 (eX6 a) v.length v) (B9 (eX8 a) s.length s) else
  I4 (A9 a) (A8 a) (B9 (eX6 a) v.length v) (B9 (eX8 a) s.length s)
 | ⟨k,_,_,[a,b]⟩,v,s=>
  if k=5 then
   if Ls.is (eX8 a) s=true then (if Ls.is (eX6 a) v=true then A9 a v s else A8 b v)
   else (if Ls.is (eX6 b) v=true then A9 b v s else A8 a v)
  else if k=4 then
   A9 a (v.drop (C0 (eX6 b) (eX6 a) v)) (s.take (C0 (eX8 a) (eX8 b) s))++A9 b (v.take (C0 (eX6 b) (eX6 a) v)) (s.drop (C0 (eX8 a) (eX8 b) s))
  else
   A9 a (v.take (C0 (eX6 a) (eX6 b) v)) (s.take (C0 (eX8 a) (eX8 b) s))++A9 b (v.drop (C0 (eX6 a) (eX6 b) v)) (s.drop (C0 (eX8 a) (eX8 b) s))
 | _,_,_=>[]
theorem nQ3 (f:Lu->Bool):(b:List (Lu))->(n:Lu)->(r:List (Lu))->D2 f b=some (n,r)->(b.map fun x=>x.length+1).sum=n.length+1+(r.map fun x=>x.length+1).sum
 | [],n,r,h=>by simp[D2]at h
 | x::xs,n,r,h=>by
  rw[D2]at h;split at h
  ·simp only[Option.some.injEq,Prod.mk.injEq]at h
   obtain⟨rfl,rfl⟩:=h;simp
  ·cases a:D2 f xs with
   | none=>rw[a]at h;cases h
   | some q=>
    obtain⟨y,t⟩:=q;rw[a]at h;simp only[Option.some.injEq,Prod.mk.injEq]at h;obtain⟨rfl,rfl⟩:=h;have:=nQ3 f xs y t a;simp only[List.map_cons,List.sum_cons];omega
theorem dQ5 {put:Lu->Lu->Lu}{f:Lu->Lu}{q:Nat}(d:∀v s,(put v s).length<=(v.length+s.length+2)*q)(c:∀v,(f v).length<=(v.length+1)*q) :
  (a b:List (Lu))->(I4 put f a b).length<=((a.map fun x=>x.length+1).sum+(b.map fun x=>x.length+1).sum)*q
 | [],b=>by simp[I4]
 | m::a,[]=>by
  have h:=c m;have g:=dQ5 d c a [];simp only[I4,List.length_append,List.map_cons,List.sum_cons,List.map_nil,List.sum_nil,Nat.add_zero]at g ⊢;rw[Nat.add_mul];omega
 | m::a,n::b=>by
  have h:=d m n;have g:=dQ5 d c a b;simp only[I4,List.length_append,List.map_cons,List.sum_cons];have e:(m.length+1+(a.map fun x=>x.length+1).sum+(n.length+1+(b.map fun x=>x.length+1).sum))*q=(m.length+n.length+2)*q+((a.map fun x=>x.length+1).sum+(b.map fun x=>x.length+1).sum)*q:=by
   rw[<-Nat.add_mul];congr 1;omega
  rw[e];omega
theorem dQ6 {put:Lu->Lu->Lu}{f:Lu->Lu}(g:Lu->Lu){q:Nat}(d:∀v s,(put v s).length<=(v.length+s.length+2)*q)(c:∀v,(f v).length<=(v.length+1)*q) :
  (b a:List (Lu))->(E9 put f g b a).length<=((b.map fun x=>x.length+1).sum+(a.map fun x=>x.length+1).sum)*q
 | [],a=>by simp[E9]
 | m::b,a=>by
  rw[E9];cases h:D2 (fun n=>C3 (g n)==C3 m) a with
  | none=>
   have i:=c m;have j:=dQ6 g d c b a;simp only[List.length_append,List.map_cons,List.sum_cons];have e:(m.length+1+(b.map fun x=>x.length+1).sum+(a.map fun x=>x.length+1).sum)*q=(m.length+1)*q+((b.map fun x=>x.length+1).sum+(a.map fun x=>x.length+1).sum)*q:=by
    rw[<-Nat.add_mul];congr 1;omega
   rw[e];omega
  | some z=>
   obtain⟨n,r⟩:=z;have k:=nQ3 _ a n r h;have i:=d m n;have j:=dQ6 g d c b r;simp only[List.length_append,List.map_cons,List.sum_cons];have e:(m.length+1+(b.map fun x=>x.length+1).sum+(a.map fun x=>x.length+1).sum)*q=(m.length+n.length+2)*q+((b.map fun x=>x.length+1).sum+(r.map fun x=>x.length+1).sum)*q:=by
    rw[<-Nat.add_mul];congr 1;omega
   rw[e];omega
theorem Q6:(l:Ln)->(v s:Lu)->(A9 l v s).length<=(v.length+s.length+2)*gx l
 | ⟨k,p,w,[]⟩,v,s=>by
  rw[A9,gx];have o:(v.length+s.length+2)*1<=(v.length+s.length+2)*(w.length+1):=Nat.mul_le_mul_left _ (by omega);split
  ·omega
  ·split
   ·omega
   ·simp
 | ⟨k,p,w,[a]⟩,v,s=>by
  have j:=Q6 a;have i:=K1 a;have o:=S3 (eX6 a) v.length v (Nat.le_refl _);have E:=S3 (eX8 a) s.length s (Nat.le_refl _);have F:=dQ5 j i (B9 (eX6 a) v.length v) (B9 (eX8 a) s.length s);have G:=dQ6 (A6 a) j i (B9 (eX6 a) v.length v) (B9 (eX8 a) s.length s);rw[A9,gx];have e:(((B9 (eX6 a) v.length v).map fun x=>x.length+1).sum+((B9 (eX8 a) s.length s).map fun x=>x.length+1).sum)*gx a<=(v.length+s.length+2)*(2*gx a):=by
   rw[<-Nat.mul_assoc];exact Nat.mul_le_mul_right _ (by omega)
  split<;>omega
 | ⟨k,p,w,[a,b]⟩,v,s=>by
  have n:∀(l:Ln) (x y:Lu),x.length<=v.length->y.length<=s.length->(A9 l x y).length<=(x.length+y.length+2)*gx l->(A9 l x y).length<=(v.length+s.length+2)*gx l:=fun l x y c d h=>Lq h (Nat.mul_le_mul_right _ (by omega));have m:∀(l:Ln),(A8 l v).length<=(v.length+s.length+2)*gx l:=fun l=>Lq (K1 l v) (Nat.mul_le_mul_right _ (by omega));have f:∀x y:Lu,x.length<=v.length->y.length<=s.length->(A9 a x y).length<=(v.length+s.length+2)*gx a:=fun x y c d=>n a x y c d (Q6 a x y);have g:∀x y:Lu,x.length<=v.length->y.length<=s.length->(A9 b x y).length<=(v.length+s.length+2)*gx b:=fun x y c d=>n b x y c d (Q6 b x y);have B:=m a;have C:=m b;have q:=f v s (Nat.le_refl _) (Nat.le_refl _);have u:=g v s (Nat.le_refl _) (Nat.le_refl _);have r:=f (v.drop (C0 (eX6 b) (eX6 a) v)) (s.take (C0 (eX8 a) (eX8 b) s)) (by rw[List.length_drop];omega) (by rw[List.length_take];omega);have z:=g (v.take (C0 (eX6 b) (eX6 a) v)) (s.drop (C0 (eX8 a) (eX8 b) s)) (by rw[List.length_take];omega) (by rw[List.length_drop];omega);have t:=f (v.take (C0 (eX6 a) (eX6 b) v)) (s.take (C0 (eX8 a) (eX8 b) s)) (by rw[List.length_take];omega) (by rw[List.length_take];omega);have A:=g (v.drop (C0 (eX6 a) (eX6 b) v)) (s.drop (C0 (eX8 a) (eX8 b) s)) (by rw[List.length_drop];omega) (by rw[List.length_drop];omega);rw[A9,gx,Nat.mul_add];split
  ·split<;>split<;>omega
  ·split<;>rw[List.length_append]<;>omega
 | ⟨k,p,w,_::_::_::_⟩,v,s=>by simp[A9]
def G8:List (Lu)->List Bool->List (Lu)
 | n::ns,u::us=>if u=true then G8 ns us else n::G8 ns us
 | _,_=>[]
theorem mQz:(a:List (Lu))->G8 a (List.replicate a.length false)=a
 | []=>rfl
 | n::a=>by
  rw[List.length_cons,List.replicate_succ,G8,if_neg (by simp),mQz a]
theorem nQz (f:Lu->Bool):(b:List (Lu))->(a:List Bool)->(j:Nat)->(n:Lu)->(∀i,i<j->∀x,b[i]?=some x->a[i]?=some false->f x=false)->b[j]?=some n->a[j]?=some false->f n=true->D2 f (G8 b a)=some (n,G8 b (a.set j true))
 | [],a,j,n,_,h,_,_=>by simp at h
 | x::xs,[],j,n,_,_,h,_=>by simp at h
 | x::xs,u::a,0,n,_,h1,h2,h3=>by
  simp only[List.getElem?_cons_zero,Option.some.injEq]at h1 h2;subst h1 h2;simp[G8,D2,h3]
 | x::xs,u::a,j+1,n,h0,h1,h2,h3=>by
  rw[List.getElem?_cons_succ]at h1 h2;have c:=nQz f xs a j n (fun i k y g e=>h0 (i+1) (by omega) y (by rw[List.getElem?_cons_succ];exact g) (by rw[List.getElem?_cons_succ];exact e)) h1 h2 h3;rw[List.set_cons_succ];cases u with
  | true=>rw[G8,G8,if_pos rfl,if_pos rfl,c]
  | false=>
   have d:=h0 0 (by omega) x (by simp) (by simp);rw[G8,G8,if_neg (by simp),if_neg (by simp),D2,if_neg (by simp[d]),c]
theorem nQ1 (f:Lu->Bool):(c:List (Lu))->(a:List Bool)->(∀(i:Nat) (x:Lu),c[i]?=some x->a[i]?=some false->f x=false)->D2 f (G8 c a)=none
 | [],a,_=>by simp[G8,D2]
 | x::xs,[],_=>by simp[G8,D2]
 | x::xs,u::a,h=>by
  have b:=nQ1 f xs a (fun i y g e=>h (i+1) y (by rw[List.getElem?_cons_succ];exact g) (by rw[List.getElem?_cons_succ];exact e));cases u with
  | true=>rw[G8,if_pos rfl,b]
  | false=>
   have d:=h 0 x (by simp) (by simp);rw[G8,if_neg (by simp),D2,if_neg (by simp[d]),b]
def wl:Ln->Nat
 | ⟨_,_,w,[]⟩=>w.length
 | ⟨_,_,_,[a]⟩=>wl a
 | ⟨_,_,_,[a,b]⟩=>wl a+wl b
 | _=>0
theorem mQb (p:Pat):(n:Nat)->(s:Lu)->s.length<=n->((B9 p n s).map List.length).sum<=s.length/\(B9 p n s).length<=s.length
 | 0,s,h=>by simp[B9]
 | n+1,s,h=>by
  rw[B9]
  by_cases hs:s=[]
  ·rw[if_pos hs];simp
  ·rw[if_neg hs]
   have a:=fQg p hs;have:=mQb p n (s.drop (N6 p s)) (by rw[List.length_drop];omega);rw[List.length_drop]at this;simp only[List.map_cons,List.sum_cons,List.length_take,List.length_cons];omega
theorem uQv (f:Lu->Lu)(A B:Nat)(b:∀s,(f s).length<=A*s.length+B)(a:List (Lu)):((a.map f).flatten).length<=A*(a.map List.length).sum+B*a.length:=by
 induction a with
 | nil=>simp
 | cons x a c=>
  simp only[List.map_cons,List.flatten_cons,List.length_append,List.sum_cons,List.length_cons];have:=b x;rw[Nat.mul_add,Nat.mul_add,Nat.mul_one];omega
theorem eQs:(l:Ln)->∃A B,A+B<=1+wl l/\B<=wl l/\∀s,(A6 l s).length<=A*s.length+B
 | ⟨k,p,w,[]⟩=>by
  by_cases g:k=0
  ·refine⟨1,0,by simp[wl],Nat.zero_le _,fun s=>?_⟩
   rw[A6,if_pos g];omega
  ·refine⟨0,w.length,by simp[wl],by simp[wl],fun s=>?_⟩
   rw[A6,if_neg g];split
   ·omega
   ·simp
 | ⟨k,p,w,[a]⟩=>by
  obtain⟨A,B,m,n,d⟩:=eQs a;refine⟨A+B,0,by rw[wl];omega,Nat.zero_le _,fun s=>?_⟩;rw[A6];have I:=uQv (A6 a) A B d (B9 (eX8 a) s.length s);have i:=mQb (eX8 a) s.length s (Nat.le_refl _);have J:=Nat.mul_le_mul_left A i.1;have K:=Nat.mul_le_mul_left B i.2;rw[Nat.add_mul];omega
 | ⟨k,p,w,[a,b]⟩=>by
  obtain⟨A,B,m,n,d⟩:=eQs a;obtain⟨C,D,G,H,f⟩:=eQs b;refine⟨max A C,B+D,by rw[wl];omega,by rw[wl];omega,fun s=>?_⟩;have e:∀x y:Nat,x<=y->∀M N:Nat,M<=N->M*x<=N*y:=fun x y h M N j=>Nat.mul_le_mul j h;have o:=R1 (eX8 a) (eX8 b) s;generalize q:C0 (eX8 a) (eX8 b) s=c at *;have r:=d (s.take c);have t:=f (s.drop c);have L:=d s;have O:=f s;rw[List.length_take,Nat.min_eq_left o]at r;rw[List.length_drop]at t;have u:=e c c (Nat.le_refl _) A (max A C) (by omega);have v:=e (s.length-c) (s.length-c) (Nat.le_refl _) C (max A C) (by omega);have z:max A C*c+max A C*(s.length-c)=max A C*s.length:=by rw[<-Nat.mul_add];congr 1;omega
  have E:=e s.length s.length (Nat.le_refl _) A (max A C) (by omega);have F:=e s.length s.length (Nat.le_refl _) C (max A C) (by omega);rw[A6,q];split
  ·split<;>omega
  ·split<;>rw[List.length_append]<;>omega
 | ⟨k,p,w,_::_::_::_⟩=>⟨0,0,by simp,Nat.zero_le _,fun s=>by simp[A6]⟩
theorem fQ0:(l:Ln)->2*wl l<=cn l
 | ⟨k,p,w,[]⟩=>by rw[wl,cn];omega
 | ⟨k,p,w,[a]⟩=>by
  have:=fQ0 a;rw[wl,cn];omega
 | ⟨k,p,w,[a,b]⟩=>by
  have:=fQ0 a;have:=fQ0 b;rw[wl,cn];omega
 | ⟨k,p,w,_::_::_::_⟩=>by simp[wl]
theorem kQi {l:Ln}(g:cn l<=30000){s:Lu}(hs:s.length<=60):(A6 l s).length<=1048576:=by
 have⟨A,B,b,c,a⟩:=eQs l;have d:=fQ0 l;have e:=a s;have f:A*s.length<=15001*60:=Nat.mul_le_mul (by omega) hs;omega
theorem jQ6 {p q:Pat}(g:wf p)(j:wf q)(c:¬fXb p q){u v:Lu}(d:inL p u)(f:inL q v){i:Nat}(b:i<=u.length)(a:(Ls.is p ((u++v).take i)&&Ls.is q ((u++v).drop i))=true):i=u.length:=by
 rcases Nat.lt_or_ge i u.length with h|h
 ·exfalso
  rw[Bool.and_eq_true,gXb p g,gXb q j,List.take_append_of_le_length b,List.drop_append_of_le_length b]at a;refine c ⟨u.take i,u.drop i,v,?_,a.1,by rw[List.take_append_drop];exact d,a.2,f⟩;intro e;have:=congrArg List.length e;rw[List.length_drop,List.length_nil]at this;omega
 ·omega
theorem jQ5 {p q:Pat}(c:wf p)(d:wf q){u v:Lu}(a:inL p u)(b:inL q v):(Ls.is p ((u++v).take u.length)&&Ls.is q ((u++v).drop u.length))=true:=by
 rw[List.take_left,List.drop_left,Bool.and_eq_true];exact⟨(gXb p c u).2 a,(gXb q d v).2 b⟩
theorem jQ3 {p q:Pat}(d:wf p)(f:wf q)(g:¬fXb p q){u v:Lu}(b:inL p u)(c:inL q v):(n i:Nat)->i<=u.length->u.length<i+n->R0 p q (u++v) n i=u.length
 | 0,i,h1,h2=>by omega
 | n+1,i,h1,h2=>by
  rw[R0]
  by_cases a:(Ls.is p ((u++v).take i)&&Ls.is q ((u++v).drop i))=true
  ·rw[if_pos a]
   exact jQ6 d f g b c h1 a
  ·rw[if_neg a]
   have h:i≠u.length:=by
    intro e;subst e;exact a (jQ5 d f b c)
   exact jQ3 d f g b c n (i+1) (by omega) (by omega)
theorem L4 {p q:Pat}(d:wf p)(e:wf q)(a:¬fXb p q){u v:Lu}(b:inL p u)(c:inL q v):C0 p q (u++v)=u.length:=by
 unfold C0;exact jQ3 d e a b c _ 0 (Nat.zero_le _) (by rw[List.length_append];omega)
theorem mQg {p:Pat}(d:wf p)(f:wf (fXl p))(g:¬fXb p (fXl p)){u v:Lu}(b:inL p u)(c:inL (fXl p) v):(n i:Nat)->i<=u.length->u.length<=i+n->O1 p (u++v) n i=u.length
 | 0,i,h1,h2=>by rw[O1];omega
 | n+1,i,h1,h2=>by
  rw[O1]
  by_cases a:(Ls.is p ((u++v).take i)&&Ls.is (fXl p) ((u++v).drop i))=true
  ·rw[if_pos a]
   exact jQ6 d f g b c h1 a
  ·rw[if_neg a]
   have h:i≠u.length:=by
    intro e;subst e;exact a (jQ5 d f b c)
   exact mQg d f g b c n (i+1) (by omega) (by omega)
theorem X0 {p:Pat}(i:wf p)(j:wf (fXl p))(c:¬inL p [])(f:¬fXb p (fXl p)):(a:List (Lu))->(∀x,x∈a->inL p x)->(n:Nat)->a.flatten.length<=n->B9 p n a.flatten=a
 | [],_,0,_=>by simp[B9]
 | [],_,n+1,_=>by simp[B9]
 | x::a,h,n,hn=>by
  have g:=h x (List.mem_cons_self ..);have d:x≠[]:=by
   intro e;subst e;exact c g
  have l:0<x.length:=List.length_pos_iff.2 d;rw[List.flatten_cons,List.length_append]at hn;have hs:inL (fXl p) a.flatten:=(fXq p _).2 ⟨a,rfl,fun y b=>h y (List.mem_cons_of_mem _ b)⟩;have k:N6 p (x++a.flatten)=x.length:=by
   unfold N6;exact mQg i j f g hs _ 1 l (by rw[List.length_append];omega)
  cases n with
  | zero=>omega
  | succ n=>
   rw[List.flatten_cons,B9,if_neg (by simp[d]),k,List.take_left,List.drop_left,X0 i j c f a (fun y b=>h y (List.mem_cons_of_mem _ b)) n (by omega)]
def K4 (κ:Lu->Lu)(put:Lu->Lu->Lu)(cr g:Lu->Lu):List (Lu)->List (Lu)->List (Lu)
 | [],_=>[]
 | m::ms,ns=>match D2 (fun n=>κ (g n)==κ m) ns with
  | none=>cr m::K4 κ put cr g ms ns
  | some (n,r)=>put m n::K4 κ put cr g ms r
def N4 (κ g:Lu->Lu):List (Lu)->List (Lu)->List (Lu)
 | [],ns=>ns
 | m::ms,ns=>match D2 (fun n=>κ (g n)==κ m) ns with
  | none=>N4 κ g ms ns
  | some (_,r)=>N4 κ g ms r
variable {κ g cr:Lu->Lu} {put:Lu->Lu->Lu}
theorem iQd:(a b:List (Lu))->(K4 κ put cr g a b).length=a.length
 | [],_=>rfl
 | m::a,b=>by
  rw[K4];cases h:D2 (fun n=>κ (g n)==κ m) b with
  | none=>simp[iQd a]
  | some z=>simp[iQd a]
theorem hQi:(a b:List (Lu))->(j:Nat)->(c:j<a.length)->
  N4 κ g (a.take (j+1)) b=(match D2 (fun n=>κ (g n)==κ a[j]) (N4 κ g (a.take j) b) with|none=>N4 κ g (a.take j) b|some (_,r)=>r)
 | m::a,b,0,_=>by
  simp only[List.take_succ_cons,List.take_zero,N4,List.getElem_cons_zero]
 | m::a,b,j+1,c=>by
  simp only[List.take_succ_cons,N4,List.getElem_cons_succ];cases h:D2 (fun n=>κ (g n)==κ m) b with
  | none=>exact hQi a _ j (by simpa using c)
  | some z=>exact hQi a _ j (by simpa using c)
theorem iQc:(a b:List (Lu))->(j:Nat)->(c:j<a.length)->
  (K4 κ put cr g a b).getD j []=(match D2 (fun n=>κ (g n)==κ a[j]) (N4 κ g (a.take j) b) with|none=>cr a[j]|some (n,_)=>put a[j] n)
 | m::a,b,0,_=>by
  simp only[K4,List.take_zero,N4,List.getElem_cons_zero];cases h:D2 (fun n=>κ (g n)==κ m) b with
  | none=>rfl
  | some z=>rfl
 | m::a,b,j+1,c=>by
  have d:j<a.length:=by simpa using c
  simp only[K4,List.take_succ_cons,N4,List.getElem_cons_succ];cases h:D2 (fun n=>κ (g n)==κ m) b with
  | none=>exact iQc a b j d
  | some z=>obtain⟨n,r⟩:=z;exact iQc a r j d
theorem fQv (f:Lu->Bool):(c:List (Lu))->(n:Lu)->(r:List (Lu))->D2 f c=some (n,r)->n∈c/\∀x,x∈r->x∈c
 | [],n,r,h=>by simp[D2]at h
 | x::xs,n,r,h=>by
  rw[D2]at h;split at h
  ·simp only[Option.some.injEq,Prod.mk.injEq]at h
   obtain⟨rfl,rfl⟩:=h;exact⟨List.mem_cons_self ..,fun y d=>List.mem_cons_of_mem _ d⟩
  ·cases a:D2 f xs with
   | none=>rw[a]at h;cases h
   | some q=>
    obtain⟨y,t⟩:=q;rw[a]at h;simp only[Option.some.injEq,Prod.mk.injEq]at h;obtain⟨rfl,rfl⟩:=h;have:=fQv f xs y t a;refine⟨List.mem_cons_of_mem _ this.1,fun z b=>?_⟩;rcases List.mem_cons.1 b with rfl|b
    ·exact List.mem_cons_self ..
    ·exact List.mem_cons_of_mem _ (this.2 z b)
theorem nQ0 (f:Lu->Bool):(b:List (Lu))->(n:Lu)->(r:List (Lu))->D2 f b=some (n,r)->r.length+1=b.length
 | [],n,r,h=>by simp[D2]at h
 | x::xs,n,r,h=>by
  rw[D2]at h;split at h
  ·simp only[Option.some.injEq,Prod.mk.injEq]at h
   obtain⟨rfl,rfl⟩:=h;rfl
  ·cases a:D2 f xs with
   | none=>rw[a]at h;cases h
   | some q=>
    obtain⟨y,t⟩:=q;rw[a]at h;simp only[Option.some.injEq,Prod.mk.injEq]at h;obtain⟨rfl,rfl⟩:=h;have:=nQ0 f xs y t a;simp only[List.length_cons];omega
theorem hQh:(b a:List (Lu))->∀x,x∈N4 κ g b a->x∈a
 | [],_,_,h=>h
 | m::b,a,x,h=>by
  rw[N4]at h;split at h
  ·exact hQh b a x h
  ·rename_i n r c
   exact(fQv _ a n r c).2 x (hQh b r x h)
theorem hQg:(b a:List (Lu))->(N4 κ g b a).length<=a.length
 | [],_=>Nat.le_refl _
 | m::b,a=>by
  rw[N4];cases h:D2 (fun n=>κ (g n)==κ m) a with
  | none=>exact hQg b a
  | some z=>
   obtain⟨n,r⟩:=z;have d:=nQ0 _ a n r h;have c:=hQg b r;exact Lq c (by omega)
theorem nQ2 (f:Lu->Bool)(a:List (Lu)):(D2 f a=none/\∀x,x∈a->f x=false)\/∃i,∃k:i<a.length,D2 f a=some (a[i],a.eraseIdx i)/\f a[i]=true/\∀j,(l:j<i)->f (a[j]'(by omega))=false:=by
 induction a with
 | nil=>exact .inl ⟨rfl,fun x h=>by cases h⟩
 | cons x o n=>
  by_cases e:f x=true
  ·exact .inr ⟨0,by simp,by simp[D2,e],by simpa using e,fun j l=>by omega⟩
  ·have b:f x=false:=by simpa using e
   rcases n with⟨c,d⟩|⟨i,k,c,d,m⟩
   ·refine .inl ⟨by simp[D2,b,c],fun y g=>?_⟩
    rcases List.mem_cons.1 g with rfl|g
    ·exact b
    ·exact d y g
   ·refine .inr ⟨i+1,by simpa using k,by simp[D2,b,c],by simpa using d,fun j l=>?_⟩
    cases j with
    | zero=>simpa using b
    | succ j=>simpa using m j (by omega)
theorem iQb:(a b:List (Lu))->(K4 C3 put cr g a b).flatten=E9 put cr g a b
 | [],_=>rfl
 | m::a,b=>by
  rw[K4,E9];cases h:D2 (fun n=>C3 (g n)==C3 m) b with
  | none=>simp[iQb a]
  | some z=>simp[iQb a]
theorem iQa:(a b:List (Lu))->(K4 (fun _=>[]) put cr g a b).flatten=I4 put cr a b
 | [],_=>by simp[K4,I4]
 | m::a,[]=>by simp[K4,D2,I4,iQa a]
 | m::a,n::b=>by simp[K4,D2,I4,iQa a]
end Go.Proofs.YtfklinjaajafgaaGreatDoor
