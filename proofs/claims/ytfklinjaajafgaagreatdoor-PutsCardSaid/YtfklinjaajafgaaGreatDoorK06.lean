import Derived.Test.YtfklinjaajafgaaGreatDoorK04
import Derived.Deep.RegionHeld3
import Derived.Deep.DrawnRows
import Derived.Deep.AppendLies
set_option maxRecDepth 100000
set_option maxHeartbeats 4000000
namespace Go.Proofs.YtfklinjaajafgaaGreatDoor
open Ls hiding none
open Go.RowKit
variable {G:Nat->Prop}{P:Lu->Rd}{W w1 w2:World}{d:Ls.D}{j:Nat}{r:Lu}{res:Rd}{v:Value}(s:By)(ty:TypeId)(a1:Addr)(x:Value)(z rb i:Nat)(w:World)
theorem Rep.iface {w:World}(h:Rep w G 0 d [v]):∃t x,v=.iface t x:=by
 rcases h.at0 with⟨_,_,_,_,_,rfl⟩|⟨_,_,_,_,_,_,rfl⟩|⟨_,_,_,_,rfl⟩|⟨_,_,_,_,rfl⟩<;>exact⟨_,_,rfl⟩
def X3 (s:By)(i:Nat)(v:Value):Value:=if A7 s i 42=true then T8 v true true else if A7 s i 43=true then T8 v false true else if A7 s i 63=true then T8 v true false else v
def X2 (s:By)(i:Nat)(d:Ls.D):Ls.D:=if A7 s i 42=true then Ls.rep 5 d else if A7 s i 43=true then Ls.rep 6 d else if A7 s i 63=true then Ls.rep 7 d else d
def L8 (s:By)(i:Nat):Nat:=if A7 s i 42=true then i+1 else if A7 s i 43=true then i+1 else if A7 s i 63=true then i+1 else i
theorem bXe {s:By}(h:fXg P r=some (d,rest s j)):gXq P r=some (X2 s j d,rest s (L8 s j)):=by
 rw[gXq,h];dsimp only
 unfold X2 L8;cases a:A7 s j 42 with
 | true=>rw[if_pos (C4.2 a),E7];simp
 | false=>
  rw[if_neg (by rw[C4,a];simp)];cases b:A7 s j 43 with
  | true=>rw[if_pos (C4.2 b),E7];simp
  | false=>
   rw[if_neg (by rw[C4,b];simp)];cases c:A7 s j 63 with
   | true=>rw[if_pos (C4.2 c),E7];simp
   | false=>rw[if_neg (by rw[C4,c];simp)];simp
theorem bXd {w:World}(h:Rep w G 0 d [v]):Rep w G 0 (X2 s i d) [X3 s i v]:=by
 unfold X2 X3;split
 ·exact .rep (t:=5) (by simp) h
 ·split
  ·exact .rep (t:=6) (by simp) h
  ·split
   ·exact .rep (t:=7) (by simp) h
   ·exact h
theorem aX9 {s:By}{i:Nat}(h:i<=s.size):i<=L8 s i/\L8 s i<=s.size:=by
 unfold L8;have b:∀c,A7 s i c=true->i<s.size:=fun c d=>(D9 d).1;split
 ·rename_i a;have:=b _ a;omega
 ·split
  ·rename_i a;have:=b _ a;omega
  ·split
   ·rename_i a;have:=b _ a;omega
   ·omega
theorem lQn:
  Calls Tryz.prog 159 #[.iface ty x] w fun e a=>e=.returned (T8 (.iface ty x) true true)/\a=w:=by
 go_enter Tryz.func159,Tryz.ntmps159;go_wp2;go_ret;exact⟨rfl,rfl⟩
theorem bXf (h:RB w rb s i z)(hs:s.size<=1048576)(B:i<=s.size) :
  Calls Tryz.prog 140 #[D3 rb,.iface ty x] w fun e y=>e=.returned (X3 s i (.iface ty x))/\RLeft w rb s (L8 s i) z y:=by
 have j:Hid _:=In.enter 177 h;cases b:A7 s i 42 with
 | true=>
  have a:Hid (X3 s i (.iface ty x)=T8 (.iface ty x) true true/\L8 s i=i+1):=by simp[Hid,X3,L8,b]
  have v:=Z5 rb s i z 42 _ j.out.lies hs b;go_enter Tryz.func140,Tryz.ntmps140;go_wp2_with fail;refine v.mono ?_;rintro e l ⟨rfl,c⟩;go_wp2_with fail;refine(lQn ty x _).mono ?_;rintro e n ⟨rfl,rfl⟩;go_wp2;go_ret;rw[a.out.1,a.out.2];exact⟨rfl,(j.out.go c).left⟩
 | false=>
  have q:=X5 rb s i z 42 _ j.out.lies hs (by omega) b;cases d:A7 s i 43 with
  | true=>
   have a:Hid (X3 s i (.iface ty x)=T8 (.iface ty x) false true/\L8 s i=i+1):=by simp[Hid,X3,L8,b,d]
   have o:Hid _:=d;go_enter Tryz.func140,Tryz.ntmps140;go_wp2_with fail;refine q.mono ?_;rintro e l ⟨rfl,c⟩;have f:=j.out.go c;have t:=f.cell;go_wp2_with fail;refine(Z5 rb s i z 43 l c.lies hs o.out).mono ?_;rintro e n ⟨rfl,g⟩;go_wp2_with fail;go_ret;rw[a.out.1,a.out.2];exact⟨rfl,(f.go g).left⟩
  | false=>
   have o:Hid (A7 s i 43=false):=d;cases k:A7 s i 63 with
   | true=>
    have a:Hid (X3 s i (.iface ty x)=T8 (.iface ty x) true false/\L8 s i=i+1):=by simp[Hid,X3,L8,b,d,k]
    have p:Hid (A7 s i 63=true):=k;clear b d k;go_enter Tryz.func140,Tryz.ntmps140;go_wp2_with fail;refine q.mono ?_;rintro e l ⟨rfl,c⟩;have f:=j.out.go c;have t:=f.cell;go_wp2_with fail;refine(X5 rb s i z 43 l c.lies hs (by omega) o.out).mono ?_;rintro e n ⟨rfl,g⟩;have m:=f.go g;have u:=m.cell;go_wp2_with fail;refine(Z5 rb s i z 63 n g.lies hs p.out).mono ?_;rintro e A ⟨rfl,r⟩;go_wp2_with fail;go_ret;rw[a.out.1,a.out.2];exact⟨rfl,(m.go r).left⟩
   | false=>
    have a:Hid (X3 s i (.iface ty x)=.iface ty x/\L8 s i=i):=by simp[Hid,X3,L8,b,d,k]
    have p:Hid (A7 s i 63=false):=k;clear b d k;go_enter Tryz.func140,Tryz.ntmps140;go_wp2_with fail;refine q.mono ?_;rintro e l ⟨rfl,c⟩;have f:=j.out.go c;have t:=f.cell;go_wp2_with fail;refine(X5 rb s i z 43 l c.lies hs (by omega) o.out).mono ?_;rintro e n ⟨rfl,g⟩;have m:=f.go g;have u:=m.cell;go_wp2_with fail;refine(X5 rb s i z 63 n g.lies hs (by omega) p.out).mono ?_;rintro e A ⟨rfl,r⟩;go_wp2_with fail;go_ret;rw[a.out.1,a.out.2];exact⟨rfl,(m.go r).left⟩
def aQl (s:By)(a1:Addr)(z:Nat):Prop:=∀(rb i:Nat) (w:World),RB w rb s i z->Env w rb a1->i<=s.size->
 Ca 113 #[D3 rb] w (RPost w rb s i z a1 (pat (13-z) (rest s i)))
def R2 (P:Lu->Rd)(r:Lu):Rd:=
 match P r with
 | .none=>.none
 | some (d,u)=>if u.head?=some 41 then some (d,u.tail) else .none
theorem vQv {s:By}(h:P r=some (d,rest s j))(a:A7 s j 41=true):R2 P r=some (d,rest s (j+1)):=by
 unfold R2;rw[h];dsimp only
 rw[if_pos (C4.2 a),E7]
theorem vQt {s:By}(h:P r=some (d,rest s j))(a:A7 s j 41=false):R2 P r=.none:=by
 unfold R2;rw[h];dsimp only
 rw[if_neg (by rw[C4,a];simp)]
theorem vQu (h:P r=.none):R2 P r=.none:=by
 unfold R2;rw[h]
theorem Rep.grown {w:World}{c:Nat}(f:c<w.heap.size)(e:w.heap.size<=W.heap.size)(h:Rep w1 (B8 W w1) 0 d [v])(b:w1.grownBy w2 (some c)):Rep w2 (B8 w w2) 0 d [v]:=
 h.mono (fun k a=>⟨Lq e a.1,Ll a.2 b.size⟩) (fun k a=>b.block k a.2 (by have:=a.1;simp;omega))
theorem vQw (hs:s.size<=1048576)(R:z<=12)(y:z<=11->aQl s a1 (z+1))(h:RB w rb s i z)(p:Env w rb a1)(J:i<=s.size) :
  Calls Tryz.prog 160 #[D3 rb] w (RPost w rb s i z a1 (R2 (pat (12-z)) (rest s i))):=by
 have k:Hid _:=In.enter 177 h;have M:=h.lt
 by_cases I:z=12
 ·subst I
  have a:Hid (R2 (pat (12-12)) (rest s i)=.none):=rfl;have m:=hQw rb s i a1 _ k.out.lies (k.out.env p);go_enter Tryz.func160,Tryz.ntmps160;go_wp2_with fail;refine m.mono ?_;rintro e o ⟨rfl,l⟩;go_wp2;exact⟨rfl,.inr ⟨a.out,rfl,k.out.threw rfl l⟩⟩
 ·have C:Hid _:=y (by omega)
  have m:=hQx rb s i z _ k.out.lies (by omega);go_enter Tryz.func160,Tryz.ntmps160;go_wp2_with fail;refine m.mono ?_;rintro e t ⟨rfl,K⟩;have c:=k.out.go K;have H:=c.cell;go_wp2_with fail;refine(C.out rb i t c.lies (c.env p) J).mono ?_;rintro e n (⟨d,j,v,g,O,P,rfl,r,L⟩|⟨g,rfl,l⟩)
  ·rw[show 13-(z+1)=12-z from by omega]at g
   have u:Hid _:=g;have f:=c.go L;have N:=f.cell;obtain⟨B,x,rfl⟩:=r.iface;have F:Hid _:=Nat.le_of_lt c.size;have G:Hid _:=r;cases b:A7 s j 41 with
   | true=>
    have a:Hid _:=vQv u.out b;have Q:=(D9 b).1;have q:=eQg rb s j z 41 n f.lies hs (by omega) b;clear b;go_wp2_with fail;refine q.mono ?_;rintro e o ⟨rfl,A⟩;have E:Hid (Rep o (B8 w o) 0 d [.iface B x]):=G.out.grown M F.out A.grown;go_wp2_with fail;go_ret;exact .inl ⟨d,j+1,_,a.out,by omega,by omega,rfl,E.out,(f.go A).left⟩
   | false=>
    have a:Hid (R2 (pat (12-z)) (rest s i)=.none):=vQt u.out b;have q:=eQf rb s j (z+1) 41 a1 n f.lies (f.env p) hs (by omega) b;clear b;go_wp2_with fail;refine q.mono ?_;rintro e o ⟨rfl,l⟩;go_wp2_with fail;exact⟨rfl,.inr ⟨a.out,rfl,f.threw rfl l⟩⟩
  ·rw[show 13-(z+1)=12-z from by omega]at g
   have a:Hid (R2 (pat (12-z)) (rest s i)=.none):=vQu g;go_wp2_with fail;exact⟨rfl,.inr ⟨a.out,rfl,c.threw rfl l⟩⟩
def gQa (s:By)(a1:Addr)(z:Nat):Prop:=∀(rb i:Nat) (w:World),RB w rb s i z->Env w rb a1->i<=s.size->
 Ca 141 #[D3 rb] w (RPost w rb s i z a1 (fXg (pat (12-z)) (rest s i)))
theorem RPost.after {w:World}{f:Nat}{s:By}{i z:Nat}{g:Addr}{o:Rd}{e:Ending}(h:RPost w1 f s j z g o e w2)(c:w.grownBy w1 (some f))(u:i<=j)(a:res=o):RPost w f s i z g res e w2:=by
 subst a;rcases h with⟨d,k,v,a,t,p,b,r,l⟩|⟨a,b,q⟩
 ·exact .inl ⟨d,k,v,a,by omega,p,b,r.mono (fun m n=>⟨Lq c.size n.1,n.2⟩) (fun _ _=>rfl),l.lies,J8 c l.grown⟩
 ·exact .inr ⟨a,b,J8 c q⟩
theorem RPost.placed {w:World}{b:Nat}{s:By}{i z:Nat}{c:Addr}{g:Lu}{lo a:Nat}(k:res=some (Ls.place g,rest s j))(e:i<=j)(f:j<=s.size)(d:SB g lo a)(h:RLeft w b s j z W):RPost w b s i z c res (.returned (K3 lo a)) W:=
 .inl ⟨Ls.place g,j,_,k,e,f,rfl,.place d,h⟩
theorem dXf (hs:s.size<=1048576)(h:RB w rb s i z)(c:Env w rb a1)(f:i=s.size) :
  Calls Tryz.prog 141 #[D3 rb] w (RPost w rb s i z a1 (fXg (pat (12-z)) (rest s i))):=by
 subst f;have b:Hid (fXg (pat (12-z)) (rest s s.size)=.none):=by show _=_;rw[P4 (by omega)];rfl
 have a:Hid _:=In.enter 177 h;have g:=dQi rb s s.size z a1 _ a.out.lies (a.out.env c) hs (by omega) (by omega);go_enter Tryz.func141,Tryz.ntmps141;go_wp2_with fail;refine g.mono ?_;rintro e j ⟨rfl,d⟩;go_wp2;exact⟨rfl,.inr ⟨b.out,rfl,a.out.threw rfl d⟩⟩
theorem dXj (hs:s.size<=1048576)(C:z<=12)(r:z<=11->aQl s a1 (z+1))(h:RB w rb s i z)(t:Env w rb a1)(l:i<s.size)(f:nx s i=40) :
  Calls Tryz.prog 141 #[D3 rb] w (RPost w rb s i z a1 (fXg (pat (12-z)) (rest s i))):=by
 have k:Hid (fXg (pat (12-z)) (rest s i)=R2 (pat (12-z)) (rest s (i+1))):=by show _=_;rw[D4 l,f];rfl
 have g:Hid _:=In.enter 177 h;have m:=O2 rb s i z _ g.out.lies hs l;rw[f]at m;go_enter Tryz.func141,Tryz.ntmps141;go_wp2_with fail;refine m.mono ?_;rintro e o ⟨rfl,A⟩;have a:=g.out.go A;have E:=a.cell;go_wp2_with fail;refine(vQw s a1 z rb (i+1) o hs C r a.lies (a.env t) (by omega)).mono ?_;rintro e p (⟨d,j,v,b,x,y,rfl,n,B⟩|⟨b,rfl,u⟩)
 ·have c:Hid _:=b
  have q:Hid _:=n;go_wp2;go_ret;exact RPost.after (.inl ⟨d,j,v,c.out,x,y,rfl,q.out,B⟩) a.left.grown (by omega) k.out
 ·have c:Hid _:=b
  go_wp2;exact⟨rfl,RPost.after (.inr ⟨c.out,rfl,u⟩) a.left.grown (Nat.le_succ i) k.out⟩
theorem dXd (hs:s.size<=1048576)(h:RB w rb s i z)(n:Env w rb a1)(l:i<s.size)(d:nx s i=91) :
  Calls Tryz.prog 141 #[D3 rb] w (RPost w rb s i z a1 (fXg (pat (12-z)) (rest s i))):=by
 have k:Hid (fXg (pat (12-z)) (rest s i)=match cls ((rest s (i+1)).length+1) [] (rest s (i+1)) with|.none=>.none|some (g,u)=>some (Ls.place g,u)):=by show _=_;rw[D4 l,d];rfl
 have f:Hid _:=In.enter 177 h;have m:=O2 rb s i z _ f.out.lies hs l;rw[d]at m;go_enter Tryz.func141,Tryz.ntmps141;go_wp2_with fail;refine m.mono ?_;rintro e v ⟨rfl,r⟩;have a:=f.out.go r;have x:=a.cell;go_wp2_with fail;refine(aXz rb s (i+1) z a1 v a.lies (a.env n) hs (by omega)).mono ?_;rintro e B (⟨g,j,lo,y,b,A,q,rfl,o,t⟩|⟨b,rfl,p⟩)
 ·have c:Hid (fXg (pat (12-z)) (rest s i)=some (Ls.place g,rest s j)):=by show _=_;rw[k.out,b]
  go_wp2;go_ret;exact RPost.placed c.out (by omega) q o (a.go t).left
 ·have c:Hid (fXg (pat (12-z)) (rest s i)=.none):=by show _=_;rw[k.out,b]
  go_wp2;exact⟨rfl,.inr ⟨c.out,rfl,a.threw rfl p⟩⟩
theorem dXe (hs:s.size<=1048576)(h:RB w rb s i z)(f:i<s.size)(a:nx s i=46) :
  Calls Tryz.prog 141 #[D3 rb] w (RPost w rb s i z a1 (fXg (pat (12-z)) (rest s i))):=by
 have j:Hid (fXg (pat (12-z)) (rest s i)=some (Ls.place az,rest s (i+1))):=by show _=_;rw[D4 f,a];rfl
 have b:Hid _:=In.enter 177 h;have g:=O2 rb s i z _ b.out.lies hs f;rw[a]at g;go_enter Tryz.func141,Tryz.ntmps141;go_wp2_with fail;refine g.mono ?_;rintro e r ⟨rfl,q⟩;have o:=b.out.go q;go_wp2_with fail;refine(fQz 0 0 97 122 _ (by decide) (by decide) (by omega) (by omega)).mono ?_;rintro e t ⟨lo,p,rfl,k,l,c,n⟩;have m:=(SB.with SB.empty k l (by decide) c).congr (fun d=>(vQd d).symm);go_wp2;go_ret;exact RPost.placed j.out (by omega) (by omega) m (o.below n).left
theorem dXg (hs:s.size<=1048576)(h:RB w rb s i z)(G:Env w rb a1)(y:i<s.size)(f:nx s i=92) :
  Calls Tryz.prog 141 #[D3 rb] w (RPost w rb s i z a1 (fXg (pat (12-z)) (rest s i))):=by
 have u:Hid _:=In.enter 177 h;have A:=O2 rb s i z _ u.out.lies hs y;rw[f]at A;rcases Nat.lt_or_ge (i+1) s.size with j|j
 ·cases l:gXu (nx s (i+1)) with
  | true=>
   have p:Hid (fXg (pat (12-z)) (rest s i)=some (Ls.place [nx s (i+1)],rest s (i+1+1))):=by
    show _=_;rw[D4 y,f,D4 j];simp[fXg,l]
   have B:Hid _:=l;go_enter Tryz.func141,Tryz.ntmps141;go_wp2_with fail;refine A.mono ?_;rintro e d ⟨rfl,t⟩;have c:=u.out.go t;have m:Hid _:=c;have x:=c.cell;have n:Hid (∀W,Below d.heap.size d W->Calls Tryz.prog 143 #[.pointer (some ⟨rb,0,none⟩)] W fun e a=>e=.returned (.int .u8 (nx s (i+1)).toNat)/\In 177 w rb s (i+1+1) z a):=by
    intro W r;have b:=m.out.below r;refine(O2 rb s (i+1) z W b.lies hs j).mono ?_;rintro e a ⟨rfl,E⟩;exact⟨rfl,b.go E⟩
   go_wp2;go_region_held3 (fun a=>a.cell? ⟨w.heap.size,0,none⟩=some (.pointer (some ⟨rb,0,none⟩))) (first|assumption|go_keep)
    (first
     | (go_at_call 143;refine(n.out _ ?_).mono ?_;exact(Below.refl _ _).drew;rintro e I ⟨rfl,k⟩;have F:=k.cell)
     | (go_at_call 163;refine(mQ2 rb (nx s (i+1)) _ B.out).mono ?_;rintro e M ⟨⟨lo,O,rfl,L⟩,H⟩;have N:=(k.below H).cell))
   all_goals
    go_wp2;go_ret;exact RPost.placed p.out (by omega) (by omega) L (k.below H).left
  | false=>
   have p:Hid (fXg (pat (12-z)) (rest s i)=.none):=by
    show _=_;rw[D4 y,f,D4 j];simp[fXg,l]
   have B:Hid _:=l;go_enter Tryz.func141,Tryz.ntmps141;go_wp2_with fail;refine A.mono ?_;rintro e d ⟨rfl,t⟩;have c:=u.out.go t;have m:Hid _:=c;have x:=c.cell;have n:Hid (∀W,Below d.heap.size d W->Calls Tryz.prog 143 #[.pointer (some ⟨rb,0,none⟩)] W fun e a=>e=.returned (.int .u8 (nx s (i+1)).toNat)/\In 177 w rb s (i+1+1) z a):=by
    intro W r;have b:=m.out.below r;refine(O2 rb s (i+1) z W b.lies hs j).mono ?_;rintro e a ⟨rfl,E⟩;exact⟨rfl,b.go E⟩
   have J:Hid (∀W,In 177 w rb s (i+1+1) z W->Calls Tryz.prog 163 #[D3 rb,.int .u8 (nx s (i+1)).toNat] W (K6 w rb a1)):=by
    intro W b;refine(mQ1 rb (nx s (i+1)) a1 W (b.env G) B.out).mono ?_;rintro e a ⟨rfl,g⟩;exact⟨rfl,b.threw rfl g⟩
   go_wp2;refine wp_region_held_drew (S:=fun a=>a.cell? ⟨w.heap.size,0,none⟩=some (.pointer (some ⟨rb,0,none⟩))) (by kernel_rfl) (by simp[x]) (fun hHeld=>?_);refine wpAnyH_take (i:=0) (oi:=⟨_,_,_,_,_,_⟩) (v:=D3 rb) rfl (by kernel_rfl) (by kernel_rfl) (by kernel_rfl) (fun _ _ _ h=>h) (Or.inl ⟨by rfl,fun a q=>by go_simp⟩) hHeld ?_;simp only[Act.put,List.setIfInBounds_toArray,List.set_cons_zero,List.set_cons_succ];refine wpAnyH_take (i:=1) (oi:=⟨_,_,_,_,_,_⟩) (v:=.pointer (some ⟨w.heap.size,0,none⟩)) rfl (by kernel_rfl) (by kernel_rfl) (by kernel_rfl) (fun _ _ _ h=>h) (Or.inl ⟨by rfl,fun a q=>by go_simp⟩) hHeld ?_;simp only[Act.put,List.setIfInBounds_toArray,List.set_cons_zero,List.set_cons_succ];refine wpAnyH_take (i:=2) (oi:=⟨_,_,_,_,_,_⟩) (v:=.pointer (some ⟨rb,0,none⟩)) rfl (by kernel_rfl) (by kernel_rfl) (by kernel_rfl) (fun _ _ _ h=>h) (Or.inl ⟨by rfl,fun a q=>by go_simp⟩) hHeld ?_;simp only[Act.put,List.setIfInBounds_toArray,List.set_cons_zero,List.set_cons_succ];refine wpAnyH_ready (rs:=[3]) (by kernel_rfl) (by simp) (AllReadyH.cons (o:=⟨_,_,_,_,_,_⟩) rfl (fun K C=>?_) AllReadyH.nil);go_simp
   refine(n.out _ (Below.refl _ _).drew).mono ?_;rintro e I ⟨rfl,k⟩;have F:=k.cell;go_simp
   refine C.out _ _ F (fun hHeld=>?_);refine wpAnyH_ready (rs:=[4]) (by kernel_rfl) (by simp) (AllReadyH.cons (o:=⟨_,_,_,_,_,_⟩) rfl (fun K C=>?_) AllReadyH.nil);go_simp
   refine(J.out _ k).mono ?_;rintro e M ⟨rfl,g⟩;go_wp2;exact⟨rfl,.inr ⟨p.out,rfl,g⟩⟩
 ·have p:Hid (fXg (pat (12-z)) (rest s i)=.none):=by
   show _=_;rw[D4 y,f,P4 j];simp[fXg]
  clear f;go_enter Tryz.func141,Tryz.ntmps141;go_wp2_with fail;refine A.mono ?_;rintro e d ⟨rfl,t⟩;have c:=u.out.go t;have m:Hid (In 177 w rb s (i+1) z d):=c;have x:=c.cell;clear c;have n:Hid (∀W,Below d.heap.size d W->Calls Tryz.prog 143 #[.pointer (some ⟨rb,0,none⟩)] W (K6 w rb a1)):=by
   intro W r;have b:=m.out.below r;refine(dQi rb s (i+1) z a1 W b.lies (b.env G) hs j (by omega)).mono ?_;rintro e a ⟨rfl,g⟩;exact⟨rfl,b.threw rfl g⟩
  go_wp2_with fail;refine wp_region_held_drew (S:=fun a=>a.cell? ⟨w.heap.size,0,none⟩=some (.pointer (some ⟨rb,0,none⟩))) (by kernel_rfl) (by simp[x]) (fun hHeld=>?_);refine wpAnyH_take (i:=0) (oi:=⟨_,_,_,_,_,_⟩) (v:=D3 rb) rfl (by kernel_rfl) (by kernel_rfl) (by kernel_rfl) (fun _ _ _ h=>h) (Or.inl ⟨by rfl,fun a q=>by go_simp⟩) hHeld ?_;simp only[Act.put,List.setIfInBounds_toArray,List.set_cons_zero,List.set_cons_succ];refine wpAnyH_take (i:=1) (oi:=⟨_,_,_,_,_,_⟩) (v:=.pointer (some ⟨w.heap.size,0,none⟩)) rfl (by kernel_rfl) (by kernel_rfl) (by kernel_rfl) (fun _ _ _ h=>h) (Or.inl ⟨by rfl,fun a q=>by go_simp⟩) hHeld ?_;simp only[Act.put,List.setIfInBounds_toArray,List.set_cons_zero,List.set_cons_succ];refine wpAnyH_take (i:=2) (oi:=⟨_,_,_,_,_,_⟩) (v:=.pointer (some ⟨rb,0,none⟩)) rfl (by kernel_rfl) (by kernel_rfl) (by kernel_rfl) (fun _ _ _ h=>h) (Or.inl ⟨by rfl,fun a q=>by go_simp⟩) hHeld ?_;simp only[Act.put,List.setIfInBounds_toArray,List.set_cons_zero,List.set_cons_succ];refine wpAnyH_ready (rs:=[3]) (by kernel_rfl) (by simp) (AllReadyH.cons (o:=⟨_,_,_,_,_,_⟩) rfl (fun K C=>?_) AllReadyH.nil);go_simp
  refine(n.out _ (Below.refl _ _).drew).mono ?_;rintro e I ⟨rfl,g⟩;go_wp2_with fail;exact⟨rfl,.inr ⟨p.out,rfl,g⟩⟩
def cQi:By:=⟨#[40,41,91,93,42,43,63,124,47,34,92]⟩
theorem cXr (c:UInt8)(a:c≠40)(b:c≠91)(d:c≠92):decide (0<=firstIdx cQi c)=jX8 c:=by
 rw[firstIdx_nonneg,Bool.eq_iff_iff];simp[cQi,jX8];constructor
 ·rintro (h|h|h|h|h|h|h|h|h|h|h)<;>simp_all
 ·rintro (((((((h|h)|h)|h)|h)|h)|h)|h)<;>simp_all
theorem dXk (hs:s.size<=1048576)(h:RB w rb s i z)(v:Env w rb a1)(y:i<s.size)(k:nx s i≠40)(l:nx s i≠91)(r:nx s i≠46)(m:nx s i≠92) :
  Calls Tryz.prog 141 #[D3 rb] w (RPost w rb s i z a1 (fXg (pat (12-z)) (rest s i))):=by
 have j:Hid _:=In.enter 177 h;have t:=O2 rb s i z _ j.out.lies hs y;have x:fXg (pat (12-z)) (rest s i)=if jX8 (nx s i)=true\/gXu (nx s i)=false then .none else some (Ls.place [nx s i],rest s (i+1)):=by
  rw[D4 y];simp[fXg,k,l,r,m]
 have o:Hid _:=x;clear x;have J:(((nx s i).toNat:Int)==40)=false:=by rw[beq_eq_false_iff_ne];intro e;exact k (UInt8.toNat_inj.1 (by simpa using (by omega:(nx s i).toNat=40)))
 have K:(((nx s i).toNat:Int)==91)=false:=by rw[beq_eq_false_iff_ne];intro e;exact l (UInt8.toNat_inj.1 (by simpa using (by omega:(nx s i).toNat=91)))
 have L:(((nx s i).toNat:Int)==46)=false:=by rw[beq_eq_false_iff_ne];intro e;exact r (UInt8.toNat_inj.1 (by simpa using (by omega:(nx s i).toNat=46)))
 have M:(((nx s i).toNat:Int)==92)=false:=by rw[beq_eq_false_iff_ne];intro e;exact m (UInt8.toNat_inj.1 (by simpa using (by omega:(nx s i).toNat=92)))
 have c:=cXr (nx s i) k l m;have n:Hid (∀W,Ca 164 #[.string cQi,.int .u8 (nx s i).toNat] W fun e I=>e=.returned (Iv (firstIdx cQi (nx s i)))/\I=W):=fun W=>vQj (nx s i) cQi W;generalize firstIdx cQi (nx s i)=q at *;cases b:jX8 (nx s i) with
 | true=>
  have f:Hid (fXg (pat (12-z)) (rest s i)=.none):=by show _=_;rw[o.out,if_pos (.inl b)]
  rw[b]at c;have H:=of_decide_eq_true c;go_enter Tryz.func141,Tryz.ntmps141;go_wp2_with fail;refine t.mono ?_;rintro e A ⟨rfl,g⟩;have a:=j.out.go g;have u:=a.cell;go_wp2_with fail;refine(n.out _).mono ?_;rintro e B ⟨rfl,rfl⟩;go_wp2_with fail;refine(V7 _ a1 _ (a.env v).sc).mono ?_;rintro e C ⟨rfl,rfl⟩;go_wp2_with fail;exact⟨rfl,.inr ⟨f.out,rfl,a.left.grown⟩⟩
 | false=>
  rw[b]at c;have H:¬0<=q:=of_decide_eq_false c;cases d:gXu (nx s i) with
  | true=>
   have f:Hid (fXg (pat (12-z)) (rest s i)=some (Ls.place [nx s i],rest s (i+1))):=by show _=_;rw[o.out,if_neg (by rw[b,d];simp)]
   have p:Hid _:=d;clear b c d;go_enter Tryz.func141,Tryz.ntmps141;go_wp2_with fail;refine t.mono ?_;rintro e A ⟨rfl,g⟩;have a:=j.out.go g;have u:=a.cell;go_wp2_with fail;refine(n.out _).mono ?_;rintro e B ⟨rfl,rfl⟩;go_wp2_with fail;refine(mQ2 rb (nx s i) _ p.out).mono ?_;rintro e C ⟨⟨lo,N,rfl,E⟩,F⟩;go_wp2_with fail;go_ret;exact RPost.placed f.out (by omega) (by omega) E (a.below F).left
  | false=>
   have f:Hid (fXg (pat (12-z)) (rest s i)=.none):=by show _=_;rw[o.out,if_pos (.inr d)]
   have p:Hid _:=d;clear b c d;go_enter Tryz.func141,Tryz.ntmps141;go_wp2_with fail;refine t.mono ?_;rintro e A ⟨rfl,g⟩;have a:=j.out.go g;have u:=a.cell;go_wp2_with fail;refine(n.out _).mono ?_;rintro e B ⟨rfl,rfl⟩;go_wp2_with fail;refine(mQ1 rb (nx s i) a1 _ (a.env v) p.out).mono ?_;rintro e C ⟨rfl,G⟩;go_wp2_with fail;exact⟨rfl,.inr ⟨f.out,rfl,a.threw rfl G⟩⟩
theorem bX9 (hs:s.size<=1048576)(k:z<=12)(j:z<=11->aQl s a1 (z+1)):gQa s a1 z:=by
 intro b i w h c l;rcases Nat.lt_or_ge i s.size with a|a
 ·by_cases d:nx s i=40
  ·exact dXj s a1 z b i w hs k j h c a d
  ·by_cases e:nx s i=91
   ·exact dXd s a1 z b i w hs h c a e
   ·by_cases f:nx s i=46
    ·exact dXe s a1 z b i w hs h a f
    ·by_cases g:nx s i=92
     ·exact dXg s a1 z b i w hs h c a g
     ·exact dXk s a1 z b i w hs h c a d e f g
 ·exact dXf s a1 z b i w hs h c (by omega)
def Each (w:World)(G:Nat->Prop):List Ls.D->List Value->Prop
 | [],[]=>True
 | a::l,x::vs=>Rep w G 0 a [x]/\Each w G l vs
 | _,_=>False
section
variable {w:World} {G:Nat->Prop}
theorem Each.nil:Each w G [] []:=trivial
theorem Each.cons {a:Ls.D}{x:Value}{l:List Ls.D}{b:List Value}(h:Rep w G 0 a [x])(hs:Each w G l b):Each w G (a::l) (x::b):=⟨h,hs⟩
theorem Each.ind {motive:(l:List Ls.D)->(vs:List Value)->Each w G l vs->Prop}(nil:motive [] [] .nil)
  (cons:∀{a:Ls.D} {x:Value} {l:List Ls.D} {vs:List Value} (h:Rep w G 0 a [x]) (hs:Each w G l vs),motive l vs hs->motive (a::l) (x::vs) (.cons h hs))
  {l:List Ls.D} {vs:List Value} (h:Each w G l vs):motive l vs h:=by
 have key:∀(l:List Ls.D) (vs:List Value) (h:Each w G l vs),motive l vs h:=by
  intro l;induction l with
  | nil=>
   intro vs h;cases vs with
   | nil=>exact nil
   | cons=>exact h.elim
  | cons a l ih=>
   intro vs h;cases vs with
   | nil=>exact h.elim
   | cons x vs=>exact cons h.1 h.2 (ih vs h.2)
 exact key l vs h
end
theorem Each.mono {w w':World}{G G':Nat->Prop}(b:∀k,G k->G' k)(d:∀k,G k->w'.heap[k]?=w.heap[k]?){l:List Ls.D}{a:List Value}(h:Each w G l a):Each w' G' l a:=by
 induction h using Each.ind with
 | nil=>exact .nil
 | cons c _ e=>exact .cons (c.mono b d) e
theorem Each.snoc {w:World}{G:Nat->Prop}{l:List Ls.D}{b:List Value}{a:Ls.D}{x:Value}(h:Each w G l b)(d:Rep w G 0 a [x]):Each w G (l++[a]) (b++[x]):=by
 induction h using Each.ind with
 | nil=>exact .cons d .nil
 | cons c _ e=>exact .cons c e
theorem Each.length {w:World}{G:Nat->Prop}{l:List Ls.D}{a:List Value}(h:Each w G l a):a.length=l.length:=by
 induction h using Each.ind with
 | nil=>rfl
 | cons _ _ b=>simp[b]
def F7:List Ls.D->Ls.D
 | []=>rnil
 | [a]=>clast a
 | a::b::l=>ccons a (F7 (b::l))
theorem sQo (l:List Ls.D)(a:Ls.D):F7 (l++[a])=l.foldr ccons (clast a):=by
 induction l with
 | nil=>rfl
 | cons b l d=>
  cases l with
  | nil=>rfl
  | cons c l=>simp only[List.cons_append,F7,List.foldr_cons]at d ⊢;rw[d]
theorem Each.row {w:World}{G:Nat->Prop}{l:List Ls.D}{a:List Value}(h:Each w G l a):Rep w G 1 (l.foldr rcons rnil) a:=by
 induction h using Each.ind with
 | nil=>exact .rnil
 | cons b _ c=>exact .rcons b c
theorem Each.chain {w:World}{G:Nat->Prop}{l:List Ls.D}{b:List Value}(h:Each w G l b)(d:l≠[]):Rep w G 2 (F7 l) b:=by
 induction h using Each.ind with
 | nil=>exact absurd rfl d
 | cons a c e=>
  cases c using Each.ind with
  | nil=>exact .clast a
  | cons f g=>exact .ccons a (e (by simp))
def S7 (w0 w:World)(v:Value):Nat->Prop:=fun k=>w0.heap.size<=k/\k<w.heap.size/\some k≠v.ownBlock
structure Parts (w0 w:World)(v:Value)(l:List Ls.D)(vs:List Value):Prop where
 own:w.ownsRow w0.heap.size 89 1 v vs.length vs
 each:Each w (S7 w0 w v) l vs
theorem Parts.nil (a w:World):Parts a w (.slice none 0 0) [] []:=⟨World.ownsRow_nil _ _ _ _,.nil⟩
theorem Parts.kept {c w e:World}{v:Value}{l:List Ls.D}{d:List Value}{rb:Nat}(h:Parts c w v l d)(b:w.grownBy e (some rb))(g:rb<c.heap.size):Parts c e v l d:=by
 refine⟨h.own.kept b ?_,h.each.mono (fun k a=>⟨a.1,Ll a.2.1 b.size,a.2.2⟩) (fun k a=>b.block k a.2.1 (by have:=a.1;simp;omega))⟩;cases f:v.ownBlock with
 | none=>exact .inl rfl
 | some k=>
  have:=h.own.lt k f;exact .inr (by simp;omega)
theorem Parts.fits {d w b:World}{v:Value}{l:List Ls.D}{i:List Value}(h:Parts d w v l i)(f:d.heap.size<=w.heap.size){a:Ls.D}{x:Value}(g:Rep b (B8 w b) 0 a [x]):Rep b (S7 d b v) 0 a [x]:=by
 refine g.mono (fun k c=>⟨Lq f c.1,c.2,fun e=>?_⟩) (fun _ _=>rfl);have:=h.own.lt k e.symm;have:=c.1;omega
theorem Parts.push {f w g:World}{v c:Value}{l:List Ls.D}{d:List Value}(h:Parts f w v l d){a:Ls.D}{x:Value}(o:Rep w (S7 f w v) 0 a [x])(i:w.grownBy g v.ownBlock)
  (j:g.ownsRow f.heap.size 89 1 c (d.length+1) (d++[x])) (n:c.ownBlock=v.ownBlock\/∃k,c.ownBlock=some k/\w.heap.size<=k):Parts f g c (l++[a]) (d++[x]):=by
 refine⟨by rw[List.length_append];exact j,(h.each.snoc o).mono (fun k b=>⟨b.1,Ll b.2.1 i.size,?_⟩) (fun k b=>i.block k b.2.1 b.2.2)⟩;rcases n with e|⟨m,e,p⟩
 ·rw[e];exact b.2.2
 ·rw[e];have:=b.2.1;simp;omega
theorem Parts.alloc {c w:World}{v:Value}{l:List Ls.D}{b:List Value}(h:Parts c w v l b)(o:Obj):Parts c (w.alloc o) v l b:=
 ⟨h.own.alloc o,h.each.mono (fun k a=>⟨a.1,by have:=a.2.1;simp;omega,a.2.2⟩) (fun k a=>Below.heap_alloc _ _ _ a.2.1)⟩
theorem RLeft.own {w i j:World}{c:Nat}{s:By}{a z:Nat}(h:RLeft w c s a z i)(n:c<w.heap.size){r:Option Nat}(b:i.grownBy j r)(f:∀k,r=some k->w.heap.size<=k):RLeft w c s a z j:=by
 have d:=h.lies;have m:=d.lt;refine⟨?_,b.os.trans h.grown.os,b.tape.trans h.grown.tape,b.output.trans h.grown.output,Lq h.grown.size b.size,fun k g l=>?_⟩
 ·unfold RB at d ⊢
  rw[b.block c m (fun e=>by have:=f c e.symm;omega)];exact d
 ·rw[b.block k (Ll g h.grown.size) (fun e=>by have:=f k e.symm;omega)]
  exact h.grown.block k g l
theorem Parts.shows {c w:World}{v:Value}{l:List Ls.D}{b:List Value}(h:Parts c w v l b):Shows w (B8 c w) v b/\Each w (B8 c w) l b:=by
 refine⟨⟨⟨h.own.1,?_⟩,fun k a=>h.own.lt k a⟩,h.each.mono (fun k a=>⟨a.1,a.2.1⟩) (fun _ _=>rfl)⟩;rcases h.own.2 with f|⟨g,d,e,j,m,i⟩
 ·exact .inl f
 ·exact .inr ⟨g,d,e,j,Nat.zero_le _,i⟩
theorem Parts.slice {f w:World}{v:Value}{l:List Ls.D}{e:List Value}(h:Parts f w v l e):∃a n c,v=.slice a n c:=by
 rcases h.own.2 with⟨b,_⟩|⟨g,i,j,d,m,k⟩
 ·exact⟨_,_,_,b⟩
 ·exact⟨_,_,_,d⟩
theorem gQ8:(Tryz.prog.info? 89).map (fun i=>(i.zero,i.size,i.bytes))=some (some .nilIface,1,16):=by kernel_rfl
theorem bQa (w:World)(x:Value)(t:TypeId):∀j u,[x][j]?=some u->(w.alloc (.cells #[x] t)).cell? ((⟨w.heap.size,0,none⟩:Addr).add j)=some u:=by
 intro j u a;match j,a with
 | 0,a=>
  simp at a;subst a;have h:=heap_alloc_new w (.cells #[x] t);show World.cell? _ ⟨w.heap.size,0,none⟩=_;unfold World.cell?;rw[h];rfl
def Q7 (P:Lu->Rd)(n:Nat)(l:List Ls.D)(r:Lu):Rd:=
 match things P n r with
 | .none=>.none
 | some (b,t)=>some (l.foldr rcons b,t)
theorem bX5 (P:Lu->Rd)(n:Nat)(r:Lu):Q7 P n [] r=things P n r:=by
 unfold Q7;split
 ·rename_i h;rw[h]
 ·rename_i h;rw[h];rfl
theorem bX7 {P:Lu->Rd}{n:Nat}{l:List Ls.D}{r:Lu}(hs:hXn r=true):Q7 P (n+1) l r=some (l.foldr rcons rnil,r):=by
 unfold Q7;rw[things,if_pos hs]
theorem bX6 {P:Lu->Rd}{n:Nat}{l:List Ls.D}{r t:Lu}{a:Ls.D}(hs:hXn r=false)(c:gXq P r=some (a,t)):Q7 P (n+1) l r=Q7 P n (l++[a]) t:=by
 unfold Q7;rw[things,if_neg (by rw[hs];simp),c];dsimp only
 cases h:things P n t with
 | none=>rfl
 | some q=>obtain⟨b,u⟩:=q;simp
theorem bX4 {P:Lu->Rd}{n:Nat}{l:List Ls.D}{r:Lu}(hs:hXn r=false)(a:fXg P r=.none):Q7 P n l r=.none:=by
 unfold Q7;cases n with
 | zero=>rfl
 | succ n=>
  have:gXq P r=.none:=by rw[gXq,a]
  rw[things,if_neg (by rw[hs];simp),this]
theorem cX2 {s:By}{k:Nat}(a:k<s.size):([124,41,47]:Lu).any (A7 s k)=hXn (rest s k):=by
 rw[D4 a];simp[A7,a,hXn,Bool.or_assoc]
theorem cX0 {s:By}{k:Nat}(a:s.size<=k):hXn (rest s k)=true:=by
 rw[P4 a];rfl
def Q3 (P:Lu->Rd)(n:Nat)(l:List Ls.D)(t:Lu):Rd:=
 if t.head?=some 124 then
  match alts P n t.tail with
  | .none=>.none
  | some (b,u)=>some (l.foldr ccons b,u)
 else some (F7 l,t)
theorem jQb {P:Lu->Rd}{n:Nat}{r t:Lu}{a:Ls.D}(h:things P (r.length+1) r=some (a,t)):alts P (n+1) r=Q3 P n [a] t:=by
 unfold Q3;rw[alts,h];dsimp only
 by_cases c:t.head?=some 124
 ·rw[if_pos c,if_pos c]
  cases d:alts P n t.tail with
  | none=>rfl
  | some q=>obtain⟨b,u⟩:=q;rfl
 ·rw[if_neg c,if_neg c];rfl
theorem iQ8 {P:Lu->Rd}{n:Nat}{r:Lu}(h:things P (r.length+1) r=.none):alts P n r=.none:=by
 cases n with
 | zero=>rfl
 | succ n=>rw[alts,h]
theorem sQu {P:Lu->Rd}{n:Nat}{l:List Ls.D}{t u:Lu}{a:Ls.D}(e:t.head?=some 124)(h:things P (t.tail.length+1) t.tail=some (a,u)):Q3 P (n+1) l t=Q3 P n (l++[a]) u:=by
 have d:Q3 P (n+1) l t=match alts P (n+1) t.tail with|.none=>.none|some (b,u)=>some (l.foldr ccons b,u):=by unfold Q3;rw[if_pos e]
 rw[d,jQb h];unfold Q3
 by_cases c:u.head?=some 124
 ·rw[if_pos c,if_pos c]
  cases f:alts P n u.tail with
  | none=>rfl
  | some q=>obtain⟨b,v⟩:=q;simp
 ·rw[if_neg c,if_neg c,sQo];rfl
theorem sQs {P:Lu->Rd}{n:Nat}{l:List Ls.D}{t:Lu}(a:t.head?=some 124)(h:things P (t.tail.length+1) t.tail=.none):Q3 P n l t=.none:=by
 unfold Q3;rw[if_pos a,iQ8 h]
theorem sQt {P:Lu->Rd}{n:Nat}{l:List Ls.D}{t:Lu}(a:t.head?≠some 124):Q3 P n l t=some (F7 l,t):=by
 unfold Q3;rw[if_neg a]
def gQb (s:By)(a1:Addr)(z:Nat):Prop:=∀(rb i:Nat) (w:World),RB w rb s i z->Env w rb a1->i<=s.size->
 Ca 127 #[D3 rb] w (RPost w rb s i z a1 (things (pat (12-z)) ((rest s i).length+1) (rest s i)))
theorem bQ3 (a:Nat)(s:By)(i z:Nat)(w:World)(h:RB w a s i z)(hs:s.size<=1048576)(d:i<=1048577)(b:Bool)(c:decide (s.size<=i)=b) :
  Calls Tryz.prog 102 #[Pt a] w fun e f=>e=.returned (.bool b)/\RLeft w a s i z f:=by
 subst c;refine(eQk a s i z w h hs d).mono ?_;rintro e g ⟨rfl,n,rfl⟩;exact⟨rfl,RLeft.of_below h (E5 n)⟩
theorem fQn (a:Lu)(g:Array Value)(p:g=(a.map fun c=>Value.int .u8 c.toNat).toArray)(n:Nat)(o:n=a.length)(j:a.length<=8)(d:Nat)(s:By)(i z:Nat)(w:World)(t:TypeId)(h:RB w d s i z)(hs:s.size<=1048576)(l:i<=1048577)(b:Bool)(f:a.any (A7 s i)=b) :
  Calls Tryz.prog 131 #[Pt d,Sl w.heap.size n n] (w.alloc (.cells g t)) fun e q=>e=.returned (.bool b)/\RLeft w d s i z q:=by
 subst f o p;refine(mQ4 d s i z a w.heap.size _ (h.below (A5 _ _)) j (by simp) (fun k m=>?_) hs l).mono ?_
 ·have:=heap_alloc_new w (.cells (a.map fun c=>Value.int .u8 c.toNat).toArray t)
  show World.cell? _ ⟨w.heap.size,k,none⟩=_;unfold World.cell?;rw[this];simp[m]
 ·rintro e r ⟨rfl,f⟩
  exact⟨rfl,RLeft.of_below h (Bj (A5 _ _) f)⟩
theorem dXn {P:Lu->Rd}{n:Nat}{l:List Ls.D}{s:By}{k j:Nat}{d:Ls.D}(c:hXn (rest s k)=false)(b:fXg P (rest s k)=some (d,rest s j))(e:(rest s k).length<n) :
  ∃a,n=a+1/\Q7 P n l (rest s k)=Q7 P a (l++[X2 s j d]) (rest s (L8 s j)):=by
 obtain⟨a,rfl⟩:∃a,n=a+1:=⟨n-1,by omega⟩;exact⟨a,rfl,bX6 c (bXe b)⟩
theorem In.own {T:TypeId}{w f g:World}{d:Nat}{s:By}{a z:Nat}(h:In T w d s a z f){r:Option Nat}(b:f.grownBy g r)(c:∀k,r=some k->w.heap.size<k):In T w d s a z g:=by
 refine⟨h.left.own h.old b (fun k e=>Nat.le_of_lt (c k e)),⟨?_⟩,h.old⟩;rw[b.block _ h.size (fun e=>by have:=c _ e.symm;omega)];exact h.box.lies
theorem bX8 (s:By)(hs:s.size<=1048576)(C:Addr)(z:Nat)(hT:gQa s C z):gQb s C z:=by
 intro rb i w h hE hi;have g3:=h.lt;have HT:Hid _:=hT;have HE:Hid _:=hE;have c0:Hid _:=In.enter 177 h;have g4:(w.alloc (H0 177 rb)).heap.size=w.heap.size+1:=by simp
 go_enter Tryz.func127,Tryz.ntmps127;go_wp2;generalize w.alloc (H0 177 rb)=b at *;go_loopw [3] (fun v wr=>∃(k n:Nat) (l:List Ls.D) (A:List Value),i<=k/\k<=s.size/\l.length<=k/\(rest s k).length<n/\things (pat (12-z)) ((rest s i).length+1) (rest s i)=Q7 (pat (12-z)) n l (rest s k)/\In 177 w rb s k z wr/\b.heap.size<=wr.heap.size/\Parts b wr v l A) (fun _ wr=>s.size+1-U8 wr rb)
 case atStart=>
  exact⟨i,_,[],[],Nat.le_refl _,hi,by simp,Nat.lt_succ_self _,(bX5 _ _ _).symm,c0.out,Nat.le_refl _,Parts.nil _ _⟩
 case round=>
  obtain⟨k,n,l,A,e8,a9,g1,hn,d6,E,g7,Z⟩:=hrel;have T:Hid _:=d6;obtain⟨g,p,q,rfl⟩:=Z.slice;have f2:=aQs E.lies;have c5:hXn (rest s k)=true->∀c,RLeft wr rb s k z c->RPost w rb s i z C (things (pat (12-z)) ((rest s i).length+1) (rest s i)) (.returned (P5 (.slice g p q))) c:=by
   intro f6 c u;refine .inl ⟨l.foldr rcons rnil,k,_,?_,e8,a9,rfl,?_,(E.go u).left⟩
   ·rw[T.out]
    cases n with
    | zero=>omega
    | succ n=>exact bX7 f6
   ·have d8:=(Z.kept u.grown (by omega)).shows
    have f:∀m,B8 b c m->B8 w c m:=fun m f=>⟨by have:=f.1;omega,f.2⟩;exact .row (d8.1.mono f (fun _ _=>rfl)) (d8.2.mono f (fun _ _=>rfl)).row
  have N:Hid _:=c5;have HP:Hid _:=Z;have b0:=E.cell;rcases Nat.lt_or_ge k s.size with a8|a8
  ·have O:=bQ3 rb s k z wr E.lies hs (by omega) false (by simp;omega)
   have K:=cX2 a8;cases J:hXn (rest s k) with
   | true=>
    rw[J]at K;have a4:Hid _:=N.out J;have a3:Hid _:=K;go_wp2_with fail;refine O.mono ?_;rintro e c ⟨rfl,u⟩;have b2:=(E.go u).cell;go_wp2_with fail;refine(fQn [124,41,47] _ rfl 3 rfl (by decide) rb s k z c _ u.lies hs (by omega) true a3.out).mono ?_;rintro e w3 ⟨rfl,f0⟩;go_wp2;go_ret;exact a4.out _ (u.trans f0)
   | false=>
    rw[J]at K;have a3:Hid _:=K;have c4:Hid (hXn (rest s k)=false):=J;clear K J N;go_wp2_with fail;refine O.mono ?_;rintro e c ⟨rfl,u⟩;have b2:=(E.go u).cell;go_wp2_with fail;refine(fQn [124,41,47] _ rfl 3 rfl (by decide) rb s k z c _ u.lies hs (by omega) false a3.out).mono ?_;rintro e L ⟨rfl,d1⟩;have Y:=u.trans d1;have a5:=E.go Y;have c2:Hid (Parts b L (.slice g p q) l A):=HP.out.kept Y.grown (by omega);have g5:=Y.grown.size;have b4:=a5.cell;have c1:Hid (In 177 w rb s k z L):=a5;clear u d1 Y b0 b2 O E a5;go_wp2_with fail;cases G:fXg (pat (12-z)) (rest s k) with
    | none=>
     have HR:Hid (things (pat (12-z)) ((rest s i).length+1) (rest s i)=.none):=T.out.trans (bX4 c4.out G);have R:Hid (∀W,Below L.heap.size L W->Calls Tryz.prog 141 #[D3 rb] W (K6 w rb C)):=by
      intro W P;have B:=c1.out.below P;refine(HT.out rb k W B.lies (B.env HE.out) a9).mono ?_;rintro e a (⟨d,j,x,F,_⟩|⟨_,rfl,hg⟩)
      ·rw[G]at F;cases F
      ·exact⟨rfl,B.threw rfl hg⟩
     clear G;refine wp_region_held_drew (S:=fun a=>a.cell? ⟨w.heap.size,0,none⟩=some (.pointer (some ⟨rb,0,none⟩))) (by kernel_rfl) (by simp[b4]) (fun hHeld=>?_);refine wpAnyH_take (i:=0) (oi:=⟨_,_,_,_,_,_⟩) (v:=.slice g p q) rfl (by kernel_rfl) (by kernel_rfl) (by kernel_rfl) (fun _ _ _ h=>h) (Or.inl ⟨by rfl,fun a c6=>by go_simp⟩) hHeld ?_;simp only[Act.put,List.setIfInBounds_toArray,List.set_cons_zero,List.set_cons_succ];refine wpAnyH_take (i:=1) (oi:=⟨_,_,_,_,_,_⟩) (v:=D3 rb) rfl (by kernel_rfl) (by kernel_rfl) (by kernel_rfl) (fun _ _ _ h=>h) (Or.inl ⟨by rfl,fun a c6=>by go_simp⟩) hHeld ?_;simp only[Act.put,List.setIfInBounds_toArray,List.set_cons_zero,List.set_cons_succ];refine wpAnyH_take (i:=2) (oi:=⟨_,_,_,_,_,_⟩) (v:=D3 rb) rfl (by kernel_rfl) (by kernel_rfl) (by kernel_rfl) (fun _ _ _ h=>h) (Or.inl ⟨by rfl,fun a c6=>by go_simp⟩) hHeld ?_;simp only[Act.put,List.setIfInBounds_toArray,List.set_cons_zero,List.set_cons_succ];refine wpAnyH_ready (rs:=[3]) (by kernel_rfl) (by simp) (AllReadyH.cons (o:=⟨_,_,_,_,_,_⟩) rfl (fun g0 hK=>?_) AllReadyH.nil);go_simp
     refine(R.out _ (Below.refl _ _).drew).mono ?_;rintro e w5 ⟨rfl,hg⟩;go_wp2_with fail;exact⟨rfl,.inr ⟨HR.out,rfl,hg⟩⟩
    | some b9=>
     obtain⟨d,e0⟩:=b9;have R:Hid (∀W,Below L.heap.size L W->Calls Tryz.prog 141 #[D3 rb] W fun e a=>∃y x j,e=.returned (.iface y x)/\e0=rest s j/\k<=j/\j<=s.size/\In 177 w rb s j z a/\b.heap.size<=a.heap.size/\Parts b a (.slice g p q) l A/\Rep a (S7 b a (.slice g p q)) 0 d [.iface y x]):=by
      intro W P;have B:=c1.out.below P;have U:Parts b W (.slice g p q) l A:=c2.out.kept (rb:=rb) (L5 P _) (by omega);refine(HT.out rb k W B.lies (B.env HE.out) a9).mono ?_;rintro e a (⟨d',j,x,F,d0,I,rfl,a1,b1⟩|⟨F,_⟩)
      ·rw[G]at F
       simp at F;obtain⟨rfl,rfl⟩:=F;obtain⟨y,f9,rfl⟩:=a1.iface;have V:b.heap.size<=W.heap.size:=Nat.le_trans (by omega) P.size;exact⟨y,f9,j,rfl,rfl,d0,I,B.go b1,Nat.le_trans V b1.grown.size,U.kept b1.grown (by omega),U.fits V a1⟩
      ·rw[G]at F;cases F
     have HQ:Hid (∀(W:World) (y:TypeId) (x:Value) (j:Nat),In 177 w rb s j z W->b.heap.size<=W.heap.size->j<=s.size->Parts b W (.slice g p q) l A->Rep W (S7 b W (.slice g p q)) 0 d [.iface y x]->Calls Tryz.prog 140 #[D3 rb,.iface y x] W fun e a=>∃r t,e=.returned (.iface r t)/\In 177 w rb s (L8 s j) z a/\b.heap.size<=a.heap.size/\Parts b a (.slice g p q) l A/\Rep a (S7 b a (.slice g p q)) 0 (X2 s j d) [.iface r t]):=by
      intro W y x j B V I U a1;refine(bXf s y x z rb j W B.lies hs I).mono ?_;rintro e a ⟨rfl,Q⟩;have a2:Rep a (S7 b a (.slice g p q)) 0 d [.iface y x]:=a1.mono (fun m f=>⟨f.1,Nat.lt_of_lt_of_le f.2.1 Q.grown.size,f.2.2⟩) (fun m f=>Q.grown.block m f.2.1 (by have:=f.1;simp;omega));have b8:=bXd s j a2;obtain⟨r,t,d9⟩:=b8.iface;rw[d9]at b8;exact⟨r,t,by rw[d9],B.go Q,Nat.le_trans V Q.grown.size,U.kept Q.grown (by omega),b8⟩
     have c3:Hid (∀j,e0=rest s j->∃H,n=H+1/\things (pat (12-z)) ((rest s i).length+1) (rest s i)=Q7 (pat (12-z)) H (l++[X2 s j d]) (rest s (L8 s j))/\s.size-j<s.size-k):=by
      rintro j rfl;obtain⟨H,e1,e2⟩:=dXn (l:=l) c4.out G hn;refine⟨H,e1,T.out.trans e2,?_⟩;have b3:=(jXt (hXa _) G).2;rw[F4,F4]at b3;exact b3
     have f1:=c2.out.each.length;obtain⟨b9,hq,f3,f4,f5⟩:=info_parts gQ8;clear G T;go_region_held3 (fun a=>a.cell? ⟨w.heap.size,0,none⟩=some (.pointer (some ⟨rb,0,none⟩))) (first|assumption|go_keep|exact(a6.below (A5 _ _)).cell)
      (first
       | (go_at_call 141;refine(R.out _ ?_).mono ?_;exact(Below.refl _ _).drew;rintro e w5 ⟨y,x,j,rfl,e9,d0,I,c9,f7,d3,d5⟩;have b5:=c9.cell)
       | (go_at_call 140;refine(HQ.out _ y x j c9 f7 I d3 d5).mono ?_;rintro e M ⟨r,t,rfl,a6,g6,a0,a2⟩;have b6:=a6.cell)
       | (refine step_append_lies _ (by rfl) _ _ _ (by rfl) b.heap.size 89 b9 _ 1 16 Tryz.underlying182 hq f3 f4 f5 rfl (by omega) (.slice g p q) A.length A (by rfl) (a0.alloc _).own ⟨M.heap.size,0,none⟩ 1 1 [.iface r t] (by rfl) (by rfl) (bQa M (.iface r t) 89) (by simp[Value.oneCell']) (by omega) (by unfold maxLen;omega) (by omega) (by simp;omega) (M.heap.size+1) (by simp) ?_;intro gg e6 w7 d2 X c7 g2;have a7:=(a6.below (A5 M (.cells #[.iface r t] 89))).own X (fun m e=>by have:=((a0.alloc (.cells #[.iface r t] 89)).own.lt m e).1;omega);have b7:=a7.cell))
     all_goals
      obtain⟨H,rfl,d7,b3⟩:=c3.out j e9;have e5:Hid (things (pat (12-z)) ((rest s i).length+1) (rest s i)=Q7 (pat (12-z)) H (l++[X2 s j d]) (rest s (L8 s j))):=d7;have e7:=aX9 I;have d4:=a0.alloc (.cells #[.iface r t] 89);have c8:Rep (M.alloc (.cells #[.iface r t] 89)) (S7 b (M.alloc (.cells #[.iface r t] 89)) (.slice g p q)) 0 (X2 s j d) [.iface r t]:=a2.mono (fun m f=>⟨f.1,by have:=f.2.1;simp;omega,f.2.2⟩) (fun m f=>Below.heap_alloc _ _ _ f.2.1);have e4:Hid (Parts b w7 (.slice (some ⟨gg,0,none⟩) (l.length+1) e6) (l++[X2 s j d]) (A++[.iface r t])):=by
       show Parts _ _ _ _ _;rw[<-f1];refine d4.push c8 X d2 ?_;rcases c7 with e|e
       ·exact .inl e.symm
       ·exact .inr ⟨gg,rfl,by simp;omega⟩
      have f8:=X.size;simp at f8;have e3:Hid (U8 w7 rb=L8 s j):=aQs a7.lies;clear d4 c8 X d2 c7 a2 d5 d3 a0 d7 c3 R HQ;go_wp2_with fail;go_roundw
      case rel=>
       refine⟨L8 s j,H,l++[X2 s j d],A++[.iface r t],by omega,e7.2,by simp;omega,?_,e5.out,a7,by omega,e4.out⟩;rw[F4]at hn ⊢;omega
      case measure=>
       rw[f2,e3.out];omega
  ·have O:=bQ3 rb s k z wr E.lies hs (by omega) true (by simp;omega)
   have a4:Hid (∀c,RLeft wr rb s k z c->RPost w rb s i z C (things (pat (12-z)) ((rest s i).length+1) (rest s i)) (.returned (P5 (.slice g p q))) c):=N.out (cX0 a8);clear N;go_wp2_with fail;refine O.mono ?_;rintro e c ⟨rfl,u⟩;go_wp2_with fail;go_ret;exact a4.out _ u
theorem zQq (n:Nat)(r:Lu):pat (n+1) r=alts (pat n) (r.length+1) r:=rfl
theorem vQf {s:By}{k:Nat}{c:UInt8}(h:A7 s k c=false):(rest s k).head?≠some c:=by rw[Ne,C4,h];simp
theorem Parts.one {d w:World}{a:Ls.D}{c:TypeId}{y:Value}(f:d.heap.size<=w.heap.size)(h:Rep w (B8 d w) 0 a [.iface c y]):Parts d (w.alloc (.cells #[.iface c y] 89)) (Sl w.heap.size 1 1) [a] [.iface c y]:=by
 refine⟨World.ownsRow_lit (e:=89) (size:=1) w #[.iface c y] 1 f (by unfold maxLen;omega) rfl,.cons (h.mono (fun k b=>⟨b.1,by have:=b.2;simp;omega,?_⟩) (fun k b=>Below.heap_alloc _ _ _ b.2)) .nil⟩;have:=b.2;show some k≠some w.heap.size;simp;omega
theorem sQv (s:By)(hs:s.size<=1048576)(F:Addr)(z:Nat)(hz:z<=12)(hR:gQb s F z):aQl s F z:=by
 intro a i w h hE hi;have d7:=h.lt;have W:Hid _:=hR;have T:Hid _:=hE;have V:Hid (pat (13-z) (rest s i)=alts (pat (12-z)) ((rest s i).length+1) (rest s i)):=by
  show _=_;rw[show 13-z=(12-z)+1 from by omega,zQq]
 have y:Hid _:=In.enter 177 h;have d0:(w.alloc (H0 177 a)).heap.size=w.heap.size+1:=by simp
 have Z:=W.out a i _ y.out.lies (y.out.env T.out) hi;go_enter Tryz.func113,Tryz.ntmps113;go_wp2_with fail;generalize w.alloc (H0 177 a)=g at *;refine Z.mono ?_;rintro e w1 (⟨d,a8,e3,H,b9,hj,rfl,Q,N⟩|⟨H,rfl,B⟩)
 ·have Y:Hid _:=V.out.trans (jQb H)
  obtain⟨ty,a9,rfl⟩:=Q.iface;have b6:=y.out.go N;have t:=Parts.one N.grown.size Q;have X:Hid _:=t;have d8:=N.grown.size;go_wp2;go_loopw [3] (fun d3 wr=>∃(k n:Nat) (l:List Ls.D) (j:List Value),i<=k/\k<=s.size/\l≠[]/\l.length<=k+1/\(rest s k).length<=n/\pat (13-z) (rest s i)=Q3 (pat (12-z)) n l (rest s k)/\In 177 w a s k z wr/\g.heap.size<=wr.heap.size/\Parts g wr d3 l j) (fun _ wr=>s.size+1-U8 wr a)
  case atStart=>
   refine⟨a8,_,[d],_,b9,hj,by simp,by simp,?_,Y.out,b6.below (A5 _ _),by simp;omega,X.out⟩;rw[F4,F4];omega
  case round=>
   obtain⟨k,n,l,j,c0,c2,a3,d6,hn,a6,r,e1,t⟩:=hrel;have L:Hid _:=a6;obtain⟨u,v,x,rfl⟩:=t.slice;have c5:=aQs r.lies;have U:Hid _:=t;have b3:Hid _:=a3;have b0:=r.cell;cases p:A7 s k 124 with
   | false=>
    have M:=X5 a s k z 124 wr r.lies hs (by omega) p;have A:Hid _:=L.out.trans (sQt (vQf p));go_wp2_with fail;refine M.mono ?_;rintro e E ⟨rfl,q⟩;go_wp2_with fail;go_ret;have a7:=(U.out.kept q.grown (by omega)).shows;have f:∀m,B8 g E m->B8 w E m:=fun m f=>⟨by have:=f.1;omega,f.2⟩;exact .inl ⟨F7 l,k,_,A.out,c0,c2,rfl,.choice (a7.1.mono f (fun _ _=>rfl)) ((a7.2.mono f (fun _ _=>rfl)).chain b3.out),(r.go q).left⟩
   | true=>
    have M:=Z5 a s k z 124 wr r.lies hs p;have d4:=(D9 p).1;have S:Hid ((rest s k).head?=some 124):=C4.2 p;clear p;go_wp2_with fail;refine M.mono ?_;rintro e E ⟨rfl,q⟩;have C:=r.go q;have K:Hid (Parts g E (.slice u v x) l j):=U.out.kept q.grown (by omega);have d9:=q.grown.size;have b2:=C.cell;clear b0;go_wp2_with fail;refine(W.out a (k+1) E C.lies (C.env T.out) (by omega)).mono ?_;rintro e o (⟨G,j3,e4,I,d5,c1,rfl,R,O⟩|⟨I,rfl,b8⟩)
    ·obtain⟨J,rfl⟩:∃J,n=J+1:=⟨n-1,by rw[F4]at hn;omega⟩
     have b5:Hid (pat (13-z) (rest s i)=Q3 (pat (12-z)) J (l++[G]) (rest s j3)):=L.out.trans (sQu S.out (by rw[E7];exact I));clear I;obtain⟨b,c,rfl⟩:=R.iface;have a2:=K.out.fits (by omega) R;have a5:=K.out.kept O.grown (by omega);have c4:=C.go O;have P:=a5.alloc (.cells #[.iface b c] 89);have a1:Rep (o.alloc (.cells #[.iface b c] 89)) (S7 g (o.alloc (.cells #[.iface b c] 89)) (.slice u v x)) 0 G [.iface b c]:=a2.mono (fun m f=>⟨f.1,by have:=f.2.1;simp;omega,f.2.2⟩) (fun m f=>Below.heap_alloc _ _ _ f.2.1);have a4:=P.own;have b7:=bQa o (.iface b c) 89;have c3:=K.out.each.length;obtain⟨d2,hq,c6,c7,c8⟩:=info_parts gQ8;have b4:Hid (Parts g (o.alloc (.cells #[.iface b c] 89)) (.slice u v x) l j):=P;have b1:Hid (Rep (o.alloc (.cells #[.iface b c] 89)) (S7 g (o.alloc (.cells #[.iface b c] 89)) (.slice u v x)) 0 G [.iface b c]):=a1;have e0:=O.grown.size;clear P a1 a2 a5 R;go_wp2_with (at_builtin;refine P8 _ rfl _ _ 182 rfl g.heap.size 89 d2 _ 1 16 Tryz.underlying182 hq c6 c7 c8 rfl (by omega) (.slice u v x) j.length j rfl a4 ⟨o.heap.size,0,none⟩ 1 1 [.iface b c] rfl ?l1 b7 ?l0 ?l2 ?l3 ?l4 ?l5 ?_)
     case l1=>rfl
     case l0=>intro e2 hu;simp at hu;subst hu;rfl
     case l2=>unfold maxLen;omega
     case l3=>omega
     case l4=>simp;omega
     case l5=>omega
     intro v' w' ho B c9;have a0:=(c4.below (A5 o (.cells #[.iface b c] 89))).own B (fun m e=>by have:=(a4.lt m e).1;omega);have d1:=B.size;simp at d1;go_wp2_with fail;go_roundw
     case rel=>
      refine⟨j3,J,l++[G],j++[.iface b c],by omega,c1,by simp,by simp;omega,?_,b5.out,a0,by omega,?_⟩
      ·rw[F4]at hn ⊢;omega
      ·exact b4.out.push b1.out B (by rw[c3,d0];exact ho) (by simpa using c9)
     case measure=>
      rw[c5,aQs a0.lies];omega
    ·have A:Hid (pat (13-z) (rest s i)=.none):=L.out.trans (sQs S.out (by rw[E7];exact I))
     go_wp2_with fail;exact⟨rfl,.inr ⟨A.out,rfl,C.threw rfl b8⟩⟩
 ·have A:Hid (pat (13-z) (rest s i)=.none):=V.out.trans (iQ8 H)
  go_wp2_with fail;exact⟨rfl,.inr ⟨A.out,rfl,y.out.threw rfl B⟩⟩
theorem jQs (s:By)(hs:s.size<=1048576)(a:Addr)(z:Nat)(b:z<=12)(c:z<=11->aQl s a (z+1)):aQl s a z:=
 sQv s hs a z b (bX8 s hs a z (bX9 s a z hs b c))
theorem jQr (s:By)(hs:s.size<=1048576)(a:Addr):(k:Nat)->k<=12->aQl s a (12-k)
 | 0,_=>jQs s hs a 12 (Nat.le_refl _) (fun h=>by omega)
 | k+1,hk=>by
  have h:=jQr s hs a k (by omega);refine jQs s hs a (12-(k+1)) (by omega) (fun _=>?_);rw[show 12-(k+1)+1=12-k from by omega];exact h
end Go.Proofs.YtfklinjaajafgaaGreatDoor
