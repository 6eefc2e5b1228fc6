import Derived.Test.YtfklinjaajafgaaGreatDoorK20
import Derived.Test.YtfklinjaajafgaaGreatDoorK24
import Derived.Deep.CutBlock
set_option maxRecDepth 100000
set_option maxHeartbeats 4000000
namespace Go.Proofs.YtfklinjaajafgaaGreatDoor
open Ls hiding none
open Go.RowKit
variable {P:Lu->Rd}{a i1 i2 k n z z1 z2:Nat}{b bad:Bool}{c:UInt8}{p q:Pat}(s:By)(t:Lu)(D pb i:Nat)(w:World)
def bQv (w:World)(pb:Nat)(s:By)(i z:Nat)(b:Bool):Ending->World->Prop:=fun e w'=>e=.returned (B4 Ls.none (.slice none 0 0))/\Left w pb s i z b w'
theorem dXo (z:Nat)(h:PB w pb s i z true) :
  Calls Tryz.prog 67 #[Pt pb,Iv (D:Int)] w (bQv w pb s i z true):=by
 have f:=h.lt;have o:=h.c0;have p:=h.c1;have q:=h.c3;have d:=Left.of_below h (A5 w (.cells #[Iv 0,.string ⟨#[]⟩,.slice none 0 0] 27));have c:=C7 w [Iv 0,.string ⟨#[]⟩,.slice none 0 0];go_enter Tryz.func67,Tryz.ntmps67;go_wp2;go_quiet (fail)
 have e:=d.below (E5 (w:=w.alloc (.cells #[Iv 0,.string ⟨#[]⟩,.slice none 0 0] 27)) nq);have b:=c.below (E5 (w:=w.alloc (.cells #[Iv 0,.string ⟨#[]⟩,.slice none 0 0] 27)) nq) c.lt;generalize (w.alloc (.cells #[Iv 0,.string ⟨#[]⟩,.slice none 0 0] 27)).drewN nq=r at *;obtain⟨g,j,k⟩:=b.three (a:=Ls.none);have l:=b.fr 0;have m:=b.fr 1;have n:=b.fr 2;go_wp2;exact bodyPost_ret (v:=B4 Ls.none (.slice none 0 0)) (by simp[results,Tryz.results67,go_sem,g,j,k,Ls.none]) rfl ⟨rfl,e.res (Nat.le_refl _) f _ _ _⟩
theorem dXs (z:Nat)(h:PB w pb s i z false)(_hs:s.size<=1048576)(p:s.size<=i)(_hi2:i<=4611686018427387904) :
  Calls Tryz.prog 67 #[Pt pb,Iv (D:Int)] w (bQv w pb s i z false):=by
 have f:=h.lt;have q:=h.c0;have r:=h.c1;have t:=h.c3;have o:decide ((s.size:Int)<=(i:Int))=true:=by simp;omega
 have d:=Left.of_below h (A5 w (.cells #[Iv 0,.string ⟨#[]⟩,.slice none 0 0] 27));have c:=C7 w [Iv 0,.string ⟨#[]⟩,.slice none 0 0];go_enter Tryz.func67,Tryz.ntmps67;go_wp2;go_quiet (fail)
 have e:=d.below (E5 (w:=w.alloc (.cells #[Iv 0,.string ⟨#[]⟩,.slice none 0 0] 27)) nq);have b:=c.below (E5 (w:=w.alloc (.cells #[Iv 0,.string ⟨#[]⟩,.slice none 0 0] 27)) nq) c.lt;generalize (w.alloc (.cells #[Iv 0,.string ⟨#[]⟩,.slice none 0 0] 27)).drewN nq=u at *;obtain⟨g,j,k⟩:=b.three (a:=Ls.none);have l:=b.fr 0;have m:=b.fr 1;have n:=b.fr 2;go_wp2;exact bodyPost_ret (v:=B4 Ls.none (.slice none 0 0)) (by simp[results,Tryz.results67,go_sem,g,j,k,Ls.none]) rfl ⟨rfl,e.res (Nat.le_refl _) f _ _ _⟩
theorem dXp (z:Nat)(h:PB w pb s i z false)(_hs:s.size<=1048576)(f:i<s.size)(d:nx s i=124) :
  Calls Tryz.prog 67 #[Pt pb,Iv (D:Int)] w (bQv w pb s i z false):=by
 have j:=h.lt;have u:=h.c0;have x:=h.c1;have y:=h.c3;have q:decide ((s.size:Int)<=(i:Int))=false:=by simp;omega
 have r:(i:Int)<(s.size:Int):=by omega
 have t:decide (s.size<=i)=false:=by simp;omega
 have A:((s[i].toNat:Int)==124)=true:=by rw[<-M6 f,d];rfl
 have e:=Left.of_below h (A5 w (.cells #[Iv 0,.string ⟨#[]⟩,.slice none 0 0] 27));have c:=C7 w [Iv 0,.string ⟨#[]⟩,.slice none 0 0];go_enter Tryz.func67,Tryz.ntmps67;go_wp2;go_quiet (fail)
 have g:=e.below (E5 (w:=w.alloc (.cells #[Iv 0,.string ⟨#[]⟩,.slice none 0 0] 27)) nq);have b:=c.below (E5 (w:=w.alloc (.cells #[Iv 0,.string ⟨#[]⟩,.slice none 0 0] 27)) nq) c.lt;generalize (w.alloc (.cells #[Iv 0,.string ⟨#[]⟩,.slice none 0 0] 27)).drewN nq=B at *;obtain⟨k,l,m⟩:=b.three (a:=Ls.none);have n:=b.fr 0;have o:=b.fr 1;have p:=b.fr 2;go_wp2;exact bodyPost_ret (v:=B4 Ls.none (.slice none 0 0)) (by simp[results,Tryz.results67,go_sem,k,l,m,Ls.none]) rfl ⟨rfl,g.res (Nat.le_refl _) j _ _ _⟩
theorem dXq (z:Nat)(h:PB w pb s i z false)(_hs:s.size<=1048576)(e:i<s.size)(c:nx s i=41) :
  Calls Tryz.prog 67 #[Pt pb,Iv (D:Int)] w (bQv w pb s i z false):=by
 have j:=h.lt;have u:=h.c0;have x:=h.c1;have y:=h.c3;have q:decide ((s.size:Int)<=(i:Int))=false:=by simp;omega
 have r:(i:Int)<(s.size:Int):=by omega
 have t:decide (s.size<=i)=false:=by simp;omega
 have A:((s[i].toNat:Int)==124)=false:=by rw[<-M6 e,c];rfl
 have B:((s[i].toNat:Int)==41)=true:=by rw[<-M6 e,c];rfl
 have f:=Left.of_below h (A5 w (.cells #[Iv 0,.string ⟨#[]⟩,.slice none 0 0] 27));have d:=C7 w [Iv 0,.string ⟨#[]⟩,.slice none 0 0];go_enter Tryz.func67,Tryz.ntmps67;go_wp2;go_quiet (fail)
 have g:=f.below (E5 (w:=w.alloc (.cells #[Iv 0,.string ⟨#[]⟩,.slice none 0 0] 27)) nq);have b:=d.below (E5 (w:=w.alloc (.cells #[Iv 0,.string ⟨#[]⟩,.slice none 0 0] 27)) nq) d.lt;generalize (w.alloc (.cells #[Iv 0,.string ⟨#[]⟩,.slice none 0 0] 27)).drewN nq=C at *;obtain⟨k,l,m⟩:=b.three (a:=Ls.none);have n:=b.fr 0;have o:=b.fr 1;have p:=b.fr 2;go_wp2;exact bodyPost_ret (v:=B4 Ls.none (.slice none 0 0)) (by simp[results,Tryz.results67,go_sem,k,l,m,Ls.none]) rfl ⟨rfl,g.res (Nat.le_refl _) j _ _ _⟩
theorem dXr (z:Nat)(h:PB w pb s i z false)(_hs:s.size<=1048576)(d:i<s.size)(b:nx s i=47) :
  Calls Tryz.prog 67 #[Pt pb,Iv (D:Int)] w (bQv w pb s i z false):=by
 have j:=h.lt;have u:=h.c0;have x:=h.c1;have y:=h.c3;have q:decide ((s.size:Int)<=(i:Int))=false:=by simp;omega
 have r:(i:Int)<(s.size:Int):=by omega
 have t:decide (s.size<=i)=false:=by simp;omega
 have A:((s[i].toNat:Int)==124)=false:=by rw[<-M6 d,b];rfl
 have B:((s[i].toNat:Int)==41)=false:=by rw[<-M6 d,b];rfl
 have C:((s[i].toNat:Int)==47)=true:=by rw[<-M6 d,b];rfl
 have f:=Left.of_below h (A5 w (.cells #[Iv 0,.string ⟨#[]⟩,.slice none 0 0] 27));have e:=C7 w [Iv 0,.string ⟨#[]⟩,.slice none 0 0];go_enter Tryz.func67,Tryz.ntmps67;go_wp2;go_quiet (fail)
 have g:=f.below (E5 (w:=w.alloc (.cells #[Iv 0,.string ⟨#[]⟩,.slice none 0 0] 27)) nq);have c:=e.below (E5 (w:=w.alloc (.cells #[Iv 0,.string ⟨#[]⟩,.slice none 0 0] 27)) nq) e.lt;generalize (w.alloc (.cells #[Iv 0,.string ⟨#[]⟩,.slice none 0 0] 27)).drewN nq=E at *;obtain⟨k,l,m⟩:=c.three (a:=Ls.none);have n:=c.fr 0;have o:=c.fr 1;have p:=c.fr 2;go_wp2;exact bodyPost_ret (v:=B4 Ls.none (.slice none 0 0)) (by simp[results,Tryz.results67,go_sem,k,l,m,Ls.none]) rfl ⟨rfl,g.res (Nat.le_refl _) j _ _ _⟩
theorem dXu (hs:s.size<=1048576)(z:Nat)(h:PB w pb s i z false)(d:i<=s.size)(c:hXn (rest s i)=true) :
  Calls Tryz.prog 67 #[Pt pb,Iv (D:Int)] w (bQv w pb s i z false):=by
 rcases Nat.lt_or_ge i s.size with a|a
 ·rw[D4 a]at c
  simp only[hXn,Bool.or_eq_true,beq_iff_eq]at c;rcases c with (b|b)|b
  ·exact dXp s D pb i w z h hs a b
  ·exact dXq s D pb i w z h hs a b
  ·exact dXr s D pb i w z h hs a b
 ·exact dXs s D pb i w z h hs a (by omega)
def dQ3 (s:By)(D n:Nat):Prop:=∀(pb i z:Nat) (w:World),PB w pb s i z false->i<=s.size->z<=1048576+i->(rest s i).length<n->
 Ca 67 #[.pointer (some ⟨pb,0,none⟩),.int .i64 (D:Int)] w (PPost w pb s i z (things (pat (12-D)) n (rest s i)))
theorem sQi {s:By}{i:Nat}(c:hXn (rest s i)=false)(g:F8 (gXq P (rest s i)) s z i1 z1 false p)(h:F8 (things P n (rest s i1)) s z1 i2 z2 bad q):F8 (things P (n+1) (rest s i)) s z i2 z2 bad (Ls.row p q):=by
 rcases g with⟨f,_⟩|⟨_,d,b,rfl,rfl,k⟩
 ·cases f
 rcases h with⟨rfl,a⟩|⟨rfl,e,a,rfl,rfl,j⟩
 ·exact .inl ⟨rfl,by rw[things,if_neg (by simp[c]),b];dsimp only;rw[a]⟩
 ·exact .inr ⟨rfl,rcons d e,by rw[things,if_neg (by simp[c]),b];dsimp only;rw[a],by rw[hXe],by rw[gXp];omega,j⟩
theorem sQj {s:By}{i:Nat}(d:hXn (rest s i)=false)(b:F8 (gXq P (rest s i)) s z i1 z1 true p):F8 (things P (n+1) (rest s i)) s z i2 z2 true q:=by
 rcases b with⟨_,c⟩|⟨a,_⟩
 ·exact .inl ⟨rfl,by rw[things,if_neg (by simp[d]),c]⟩
 ·cases a
theorem cX1 {s:By}{i:Nat}(a:hXn (rest s i)=false):∃_h:i<s.size,nx s i≠124/\nx s i≠41/\nx s i≠47:=by
 rcases Nat.lt_or_ge i s.size with b|b
 ·rw[D4 b]at a
  simp only[hXn,Bool.or_eq_false_iff,beq_eq_false_iff_ne]at a;exact⟨b,a.1.1,a.1.2,a.2⟩
 ·rw[P4 b]at a;cases a
theorem dXt (_hs:s.size<=1048576)(n:Nat)(hT:gQe s D)(hN:dQ3 s D n)(z:Nat)(h:PB w pb s i z false)(hz:z<=1048576+i)(hn:(rest s i).length<n+1)(U:hXn (rest s i)=false) :
  Calls Tryz.prog 67 #[Pt pb,Iv (D:Int)] w (PPost w pb s i z (things (pat (12-D)) (n+1) (rest s i))):=by
 obtain⟨G,K,L,M⟩:=cX1 U;have b2:=h.lt;have a2:¬w.heap.size=pb:=by omega
 have c2:¬pb=w.heap.size:=by omega
 have k0:=h.c0;have k1:=h.c1;have k3:=h.c3;have hd:decide ((s.size:Int)<=(i:Int))=false:=by simp;omega
 have b7:(i:Int)<(s.size:Int):=by omega
 have b8:decide (s.size<=i)=false:=by simp;omega
 have c8:((s[i].toNat:Int)==124)=false:=by rw[beq_eq_false_iff_ne,<-M6 G];intro e;exact K (UInt8.toNat_inj.1 (by simp;omega))
 have c9:((s[i].toNat:Int)==41)=false:=by rw[beq_eq_false_iff_ne,<-M6 G];intro e;exact L (UInt8.toNat_inj.1 (by simp;omega))
 have d0:((s[i].toNat:Int)==47)=false:=by rw[beq_eq_false_iff_ne,<-M6 G];intro e;exact M (UInt8.toNat_inj.1 (by simp;omega))
 have X:=Left.of_below h (A5 w (.cells #[Iv 0,.string ⟨#[]⟩,.slice none 0 0] 27));have S:=C7 w [Iv 0,.string ⟨#[]⟩,.slice none 0 0];go_enter Tryz.func67,Tryz.ntmps67;go_wp2;go_quiet (fail)
 have Y:=X.below (E5 (w:=w.alloc (.cells #[Iv 0,.string ⟨#[]⟩,.slice none 0 0] 27)) nq);have a0:=S.below (E5 (w:=w.alloc (.cells #[Iv 0,.string ⟨#[]⟩,.slice none 0 0] 27)) nq) S.lt;generalize (w.alloc (.cells #[Iv 0,.string ⟨#[]⟩,.slice none 0 0] 27)).drewN nq=w2 at *;go_wp2_with fail;refine(hT pb i z _ Y.lies G hz).mono ?_;rintro e x J;obtain⟨p,g,j,l,o,N,a4,rfl,hv,b9,a7,c4,Q,y⟩:=J.mid (fun d b6 m=>⟨(jXz (hXa _) m).1,kXy (hXk _) m⟩) (by omega);have a8:=Y.trans Q;have a1:=a0.grown Q.grown (by simp[a2]);have c5:=Q.grown.size;have c7:=a0.lt;go_wp2_with fail;have R:=a8.below (A5 x (.cells #[Iv p.kind,Sv p.signs,.slice g j l] 27));have b0:=a1.below (A5 x (.cells #[Iv p.kind,Sv p.signs,.slice g j l] 27)) a1.lt;have a3:Ca 67 #[Pt pb,Iv (D:Int)] (x.alloc (.cells #[Iv p.kind,Sv p.signs,.slice g j l] 27)) fun e c=>
   ∃q r t u f A B,e=.returned (B4 q (.slice r t u))/\PV c (B8 (x.alloc (.cells #[Iv p.kind,Sv p.signs,.slice g j l] 27)) c) q (.slice r t u)/\o<=f/\f<=s.size+1/\A<=N+(f-o)/\Left (x.alloc (.cells #[Iv p.kind,Sv p.signs,.slice g j l] 27)) pb s f A B c/\F8 (things (pat (12-D)) (n+1) (rest s i)) s z f A B (Ls.row p q):=by
  cases a4 with
  | true=>
   refine(dXo s D pb o _ N R.lies).mono ?_;rintro e c ⟨rfl,E⟩;exact⟨Ls.none,none,0,0,o,N,true,rfl,R4 _ _ _ _,Nat.le_refl _,a7,by omega,E,sQj U y⟩
  | false=>
   have P:o<=s.size/\(rest s o).length<n:=by
    rcases y with⟨h0,_⟩|⟨_,d,m,_,_,a6⟩
    ·cases h0
    ·have:=(jXz (hXa _) m).2
     exact⟨a6,by omega⟩
   refine(hN pb o N _ R.lies P.1 (by omega) P.2).mono ?_;rintro e c J;obtain⟨q,r,t,u,f,A,B,rfl,V,C,F,W,E,a5⟩:=J.mid (fun d b6 m=>⟨iXe (hXa _) _ _ _ _ m,iXd (hXk _) _ _ _ _ m⟩) P.1;exact⟨q,r,t,u,f,A,B,rfl,V,C,F,W,E,sQi U y a5⟩
 refine a3.mono ?_;rintro e c ⟨q,r,t,u,f,A,B,rfl,V,C,F,W,H,y⟩;have b1:¬x.heap.size=pb:=by omega
 have E:=R.trans H;have T:=b0.grown H.grown (by simp[a2]);have Z:=(C7 x (C2 p (.slice g j l))).grown H.grown (by simp[b1]);have c6:=Z.lt;have b4:PV c (B8 w2 c) p (.slice g j l):=PV.mono (fun k b=>⟨b.1,by have:=b.2;omega⟩) (fun k b=>by
  rw[H.grown.block k (by have:=b.2;simp;omega) (by have:=b.1;simp;omega)];exact Below.heap_alloc _ _ _ b.2) _ _ hv
 have b5:PV c (B8 w2 c) q (.slice r t u):=PV.mono (fun k b=>⟨by have:=b.1;simp at this;omega,b.2⟩) (fun _ _=>rfl) _ _ V;obtain⟨m0,m1,m2⟩:=Z.three;go_wp2_with fail;refine(aQc p q (.slice g j l) (.slice r t u) _ _ (fun k b=>by have:=b.2;simp;omega) (b4.below (A5 _ _) (fun k b=>b.2) (fun _ h=>h)) (b5.below (A5 _ _) (fun k b=>b.2) (fun _ h=>h))).mono ?_;rintro e w5 ⟨d1,rfl,hx,O⟩;obtain⟨K,L,M,rfl⟩:=PV.slice _ _ hx;have a9:=(E.below (A5 _ _)).below O;have I:=(T.below (A5 _ _) T.lt).below O (by have:=T.lt;simp;omega);have b3:=O.size;simp at b3;obtain⟨q0,q1,q2⟩:=I.three (a:=Ls.none);have g0:=I.fr 0;have g1:=I.fr 1;have g2:=I.fr 2;go_wp2_with fail;exact bodyPost_ret (v:=B4 (Ls.row p q) (.slice K L M)) (by simp[results,Tryz.results67,go_sem,q0,q1,q2]) rfl (aQa y b2 (by omega) (by omega) (by omega) a9 hx (fun k b=>by
  rcases b with b|b
  ·have C:=b.1;have F:=b.2;omega
  ·have C:=b.1;have F:=b.2;simp at C;omega))
theorem nQ6 (s:By)(hs:s.size<=1048576)(D:Nat)(d:gQe s D):(n:Nat)->dQ3 s D n
 | 0=>fun c i z w _ _ _ a=>absurd a (Nat.not_lt_zero _)
 | n+1=>fun c i z w h f j a=>by
  cases b:hXn (rest s i) with
  | true=>
   refine(dXu s D c i w hs z h f b).mono ?_;rintro e k ⟨rfl,g⟩;refine .inl ⟨rnil,rest s i,_,by rw[things,if_pos b],by rw[fXm],by rw[fXm];exact R4 _ _ _ _,?_⟩;rw[F4,gXh,show s.size-(s.size-i)=i from by omega];exact g
  | false=>exact dXt s D c i w hs n d (nQ6 s hs D d n) z h j a b
def fQ9 (s:By)(D n:Nat):Prop:=∀(pb i z:Nat) (w:World),PB w pb s i z false->i<=s.size->z<=1048576+i->(rest s i).length<n->
 Ca 39 #[.pointer (some ⟨pb,0,none⟩),.int .i64 (D:Int)] w (PPost w pb s i z (alts (pat (12-D)) n (rest s i)))
theorem rQ9 {s:By}{i:Nat}(b:F8 (things P ((rest s i).length+1) (rest s i)) s z i1 z1 false p)(f:A7 s i1 124=false):F8 (alts P (n+1) (rest s i)) s z i1 z1 false p:=by
 rcases b with⟨a,_⟩|⟨_,d,e,rfl,rfl,c⟩
 ·cases a
 ·exact .inr ⟨rfl,clast d,by rw[alts,e];dsimp only;rw[if_neg (by rw[C4,f];simp)],by rw[hXd],by rw[gX8],c⟩
theorem jQj {s:By}{i:Nat}(b:F8 (things P ((rest s i).length+1) (rest s i)) s z i1 z1 true p):F8 (alts P (n+1) (rest s i)) s z i2 z2 true q:=by
 rcases b with⟨_,c⟩|⟨a,_⟩
 ·exact .inl ⟨rfl,by rw[alts,c]⟩
 ·cases a
theorem sQa {s:By}{i:Nat}(g:F8 (things P ((rest s i).length+1) (rest s i)) s z i1 z1 false p)(c:A7 s i1 124=true)(h:F8 (alts P n (rest s (i1+1))) s z1 i2 z2 bad q):F8 (alts P (n+1) (rest s i)) s z i2 z2 bad (Ls.any p q):=by
 rcases g with⟨f,_⟩|⟨_,d,b,rfl,rfl,k⟩
 ·cases f
 rcases h with⟨rfl,a⟩|⟨rfl,e,a,rfl,rfl,j⟩
 ·exact .inl ⟨rfl,by rw[alts,b];dsimp only;rw[if_pos (C4.2 c),E7,a]⟩
 ·exact .inr ⟨rfl,ccons d e,by rw[alts,b];dsimp only;rw[if_pos (C4.2 c),E7,a],by rw[hXc],by rw[gX7];omega,j⟩
theorem zQr:Y1 s 13:=by
 intro a i z w h c k;have j:=h.lt;have f:¬w.heap.size=a:=by omega
 have g:¬a=w.heap.size:=by omega
 have d:=Left.of_below h (A5 w (.cells #[Iv 0,.string ⟨#[]⟩,.slice none 0 0] 27));have l:=h.c3;have b:=h.fr 3;have e:=C7 w [Iv 0,.string ⟨#[]⟩,.slice none 0 0];go_enter Tryz.func39,Tryz.ntmps39;go_wp2;exact bodyPost_ret (v:=B4 Ls.none (.slice none 0 0)) (by simp[results,Tryz.results39,go_sem,Ls.none]) rfl (T6 rfl (((Left.of_below h Br).set3 true).below (A5 _ _)) (Nat.le_refl _) (by omega) (by omega))
theorem zQs (hs:s.size<=1048576)(n:Nat)(hD:D<=12)(hT:∀b7,dQ3 s D b7)(hN:fQ9 s D n):fQ9 s D (n+1):=by
 intro x i z w h hi hz hn;have T:=h.lt;have S:¬w.heap.size=x:=by omega
 have c4:¬x=w.heap.size:=by omega
 have hl:=Left.of_below h (A5 w (.cells #[Iv 0,.string ⟨#[]⟩,.slice none 0 0] 27));have b1:=C7 w [Iv 0,.string ⟨#[]⟩,.slice none 0 0];have b9:¬(12:Int)<(D:Int):=by omega
 go_enter Tryz.func39,Tryz.ntmps39;go_wp2_with fail;refine(hT ((rest s i).length+1) x i z _ hl.lies hi hz (Nat.lt_succ_self _)).mono ?_;rintro e d C;obtain⟨p,f,g,j,u,M,I,rfl,hv,c0,c1,c7,O,r⟩:=C.mid (fun a7 b8 E=>⟨iXe (hXa _) _ _ _ _ E,iXd (hXk _) _ _ _ _ E⟩) hi;have a1:=hl.trans O;have a2:=b1.grown O.grown (by simp[S]);have b6:=a2.lt;have b5:=O.grown.size;simp at b5;go_wp2_with fail;refine(O5 u 124 x s M I _ (a1.lies.below (A5 d (.cells #[Iv p.kind,Sv p.signs,.slice f g j] 27))) (by omega) (by omega)).mono ?_;rintro e w2 ⟨rfl,J⟩;have P:=(a1.below (A5 d (.cells #[Iv p.kind,Sv p.signs,.slice f g j] 27))).trans J;have a3:¬d.heap.size=x:=by omega
 have B:=(a2.below (A5 d (.cells #[Iv p.kind,Sv p.signs,.slice f g j] 27)) b6).grown J.grown (by simp[S]);have Q:=(C7 d (C2 p (.slice f g j))).grown J.grown (by simp[a3]);have c8:=Q.lt;have L:=PV.mono (fun k b=>b) (fun k b=>by
  rw[J.grown.block k (by have:=b.2;simp;omega) (by have:=b.1;simp at this;simp;omega)];exact Below.heap_alloc _ _ _ b.2) _ _ hv
 have c:Hid (∀k,B8 (w.alloc (.cells #[Iv 0,.string ⟨#[]⟩,.slice none 0 0] 27)) d k->w.heap.size<k/\k<d.heap.size):=fun k b=>by have A:=b.1;simp at A;exact⟨by omega,b.2⟩
 obtain⟨F,G,H⟩:=B.three (a:=Ls.none);have X:=B.fr 0;have Y:=B.fr 1;have Z:=B.fr 2;obtain⟨m0,m1,m2⟩:=Q.three;have k3:=P.lies.c3;cases o:A7 s u 124 with
 | false=>
  have l:=P;rw[o]at l;simp only[Bool.false_eq_true,if_false]at l;have y:Hid (F8 (alts (pat (12-D)) (n+1) (rest s i)) s z u M I p):=by
   cases I with
   | true=>exact jQj r
   | false=>exact rQ9 r o
  go_wp2;exact bodyPost_ret (v:=B4 p (.slice f g j)) (by simp[results,Tryz.results39,go_sem,F,G,H]) rfl (aQa y.out T (by omega) (by omega) (by omega) l L (fun k b=>by have:=c.out k b;omega))
 | true=>
  have c2:=(D9 o).1;have l:=P;rw[o]at l;simp only[if_true]at l;cases I with
  | true=>
   have y:Hid (F8 (alts (pat (12-D)) (n+1) (rest s i)) s z (u+1) M true p):=jQj r;go_wp2;exact bodyPost_ret (v:=B4 p (.slice f g j)) (by simp[results,Tryz.results39,go_sem,F,G,H]) rfl (aQa y.out T (by omega) (by omega) (by omega) l L (fun k b=>by have:=c.out k b;omega))
  | false=>
   have a5:Hid (A7 s u 124=true):=o;clear o;go_wp2_with fail;refine(hN x (u+1) M _ l.lies (by omega) (by omega) (by simp at hn ⊢;omega)).mono ?_;rintro e m C;obtain⟨q,U,V,W,i2,z2,a6,rfl,a4,A,h2,h3,t,a0⟩:=C.mid (fun a7 b8 E=>⟨kXf (hXa _) _ _ _ _ E,kXe (hXk _) _ _ _ _ E⟩) (by omega);clear C;have y:Hid (F8 (alts (pat (12-D)) (n+1) (rest s i)) s z i2 z2 a6 (Ls.any p q)):=sQa r a5.out a0;clear r a0;have a8:=l.trans t;have R:=B.grown t.grown (by simp[S]);have b0:=Q.grown t.grown (by simp[a3]);have c9:=t.grown.size;clear F G H X Y Z m0 m1 m2 k3;obtain⟨m0,m1,m2⟩:=b0.three;have d0:d.heap.size<m.heap.size:=by omega
   have c5:PV m (B8 w m) p (.slice f g j):=PV.mono (fun k b=>⟨by have:=c.out k b;omega,by have:=c.out k b;omega⟩) (fun k b=>t.grown.block k (by have:=c.out k b;omega) (by have:=c.out k b;simp;omega)) _ _ L;have c6:PV m (B8 d m) q (.slice U V W):=PV.mono (fun k b=>⟨by have:=b.1;omega,b.2⟩) (fun _ _=>rfl) _ _ a4;have b3:PV m (fun k=>w.heap.size<k/\k<m.heap.size) p (.slice f g j):=PV.mono (fun k b=>⟨by have:=c.out k b;omega,by have:=c.out k b;omega⟩) (fun k b=>t.grown.block k (by have:=c.out k b;omega) (by have:=c.out k b;simp;omega)) _ _ L;have b4:PV m (fun k=>w.heap.size<k/\k<m.heap.size) q (.slice U V W):=PV.mono (fun k b=>⟨by have:=b.1;omega,b.2⟩) (fun _ _=>rfl) _ _ a4;go_wp2_with fail;refine(eQl q (.slice f g j) (.slice U V W) p _ _ (fun k b=>by have:=b.2;simp;omega) (b3.below (A5 _ _) (fun k b=>b.2) (fun _ h=>h)) (b4.below (A5 _ _) (fun k b=>b.2) (fun _ h=>h))).mono ?_;rintro e w5 ⟨d1,rfl,hx,N⟩;obtain⟨x1,x2,x3,rfl⟩:=PV.slice _ _ hx;have a9:=(a8.below (A5 _ _)).below N;have K:=(R.below (A5 _ _) R.lt).below N (by have:=R.lt;simp;omega);have b2:=N.size;simp at b2;obtain⟨F,G,H⟩:=K.three (a:=Ls.none);have X:=K.fr 0;have Y:=K.fr 1;have Z:=K.fr 2;go_wp2_with fail;exact bodyPost_ret (v:=B4 (Ls.any p q) (.slice x1 x2 x3)) (by simp[results,Tryz.results39,go_sem,F,G,H]) rfl (aQa y.out T (by omega) (by omega) (by omega) a9 hx (fun k b=>by
    rcases b with b|b
    ·have A:=b.1;have h2:=b.2;omega
    ·have A:=b.1;have h2:=b.2;simp at A;omega))
theorem mQe (s:By)(hs:s.size<=1048576)(D:Nat)(a:D<=12)(b:∀m,dQ3 s D m):(n:Nat)->fQ9 s D n
 | 0=>fun _ _ _ _ _ _ _ c=>absurd c (Nat.not_lt_zero _)
 | n+1=>zQs s D hs n a b (mQe s hs D a b n)
theorem zQt (hs:s.size<=1048576)(a:D<=12)(b:Y1 s (D+1)):Y1 s D:=by
 intro f i z w h d e;have c:=nQ6 s hs D (dXb D s hs (yQa D s hs a b));have:=mQe s hs D a c ((rest s i).length+1) f i z w h d e (Nat.lt_succ_self _);rw[show 13-D=(12-D)+1 from by omega,pat];exact this
theorem mQf (s:By)(hs:s.size<=1048576):(k:Nat)->k<=13->Y1 s (13-k)
 | 0,_=>zQr s
 | k+1,hk=>by
  have h:=mQf s hs k (by omega);refine zQt s (13-(k+1)) hs (by omega) ?_;rw[show 13-(k+1)+1=13-k from by omega];exact h
def bQh (c:UInt8):Bool:=gXu c&&c != 10
theorem eXo:fX4 (34::t)=some ([],t):=by simp[fX4]
theorem eXn (h:c≠34)(a:bQh c=false):fX4 (c::t)=.none:=by
  rw[fX4,if_neg h,if_pos];unfold bQh at a;cases hs:gXu c with
  | false=>exact .inl rfl
  | true=>rw[hs]at a;simp at a;exact .inr a
theorem eXp (h:c≠34)(b:bQh c=true):fX4 (c::t)=match fX4 t with|.none=>.none|some (w,u)=>some (c::w,u):=by
  unfold bQh at b;simp at b;have d:¬(gXu c=false\/c=10):=by
    rintro (a|a)
    · rw[b.1]at a;cases a
    · exact b.2 a
  rw[fX4,if_neg h,if_neg d];cases fX4 t with
  | none=>rfl
  | some x=>obtain⟨w,u⟩:=x;rfl
structure Scan (s:By)(i k:Nat)(bad:Bool):Prop where
  le:i<=k
  lt:k<=s.size
  ok:bad=false->fX4 (rest s i)=match fX4 (rest s k) with|.none=>.none|some (w,u)=>some ((rest s i).take (k-i)++w,u)
  no:bad=true->fX4 (rest s i)=.none
theorem Scan.start (a:i<=s.size):Scan s i i false:=by
  refine⟨Nat.le_refl _,a,fun _=>?_,by simp⟩;cases fX4 (rest s i) with
  | none=>rfl
  | some x=>obtain⟨w,u⟩:=x;simp
theorem cX7 {s:By}{i:Nat}(c:i<=k)(a:k<s.size):(rest s i).take (k+1-i)=(rest s i).take (k-i)++[nx s k]:=by
  have b:k-i<(rest s i).length:=by rw[F4];omega
  rw[show k+1-i=(k-i)+1 by omega,List.take_succ_eq_append_getElem b];congr 2
  rw[List.getElem_drop,M6 a,ByteArray.getElem_eq_getElem_data];simp[show i+(k-i)=k by omega]
theorem Scan.next {s:By}{i:Nat}(h:Scan s i k bad)(b:k<s.size)(c:nx s k≠34):Scan s i (k+1) (bad||!bQh (nx s k)):=by
  have d:=h.le;refine⟨by omega,by omega,fun a=>?_,fun a=>?_⟩
  · simp at a
    rw[h.ok a.1,D4 b,eXp _ c a.2,cX7 h.le b];cases fX4 (rest s (k+1)) with
    | none=>rfl
    | some x=>obtain⟨w,u⟩:=x;simp
  · simp at a
    rcases a with a|a
    · exact h.no a
    · cases bad with
      | true=>exact h.no rfl
      | false=>rw[h.ok rfl,D4 b,eXn _ c a]
def cQo (w:World)(pb:Nat):Nat:=match w.cell? ⟨pb,1,none⟩ with
  | some (.int _ a)=>a.toNat
  | _=>0
theorem jQe {w:World}{c:Nat}{s:By}(h:PB w c s a z b):cQo w c=a:=by unfold cQo;rw[h.c1];simp
theorem Left.drew' {w d:World}{c:Nat}{s:By}(h:Left w c s a z b d):Left w c s a z b d.drew:=h.below ⟨rfl,rfl,rfl,Nat.le_refl _,fun _ _=>rfl⟩
theorem fQ1 {w d:World}{a:Nat}{s:By}{c:Bool}(l:Scan s i1 k bad)(i:k<s.size)(h:nx s k≠34)(g:c=(bad||!bQh (nx s k)))(j:Left w a s k z bad d) :
    (∃(f:Nat) (b:Bool),Scan s i1 f b/\Left w a s f z b ((d.setCell ⟨a,3,none⟩ (.bool c)).setCell ⟨a,1,none⟩ (Iv (((k+1:Nat)):Int))).drew)/\
    s.size-cQo ((d.setCell ⟨a,3,none⟩ (.bool c)).setCell ⟨a,1,none⟩ (Iv (((k+1:Nat)):Int))).drew a<s.size-k:=by
  have e:=((j.set3 c).set1 (k+1)).drew';exact⟨⟨k+1,c,by rw[g];exact l.next i h,e⟩,by rw[jQe e.lies];omega⟩
theorem cQu (k:Nat):s.extract i k=⟨((rest s i).take (k-i)).toArray⟩:=by
  apply ByteArray.ext
  apply Array.toList_inj.1
  simp[ByteArray.data_extract,List.take_drop]
theorem uQr {s:By}{i:Nat}(a:i<=k)(b:k<=s.size):(s.extract i k).size=k-i:=by
  rw[ByteArray.size_extract];omega
def WPost (w:World)(pb:Nat)(s:By)(i z:Nat):Ending->World->Prop:=fun e w'=>
  (∃x t,fX1 (rest s i)=some (x,t)/\e=.returned (I5 x)/\Left w pb s (s.size-t.length) (z+x.length) false w')\/
  (fX1 (rest s i)=.none/\∃x i' z',e=.returned (I5 x)/\i<=i'/\i'<=s.size+1/\z'<=z+(i'-i)/\Left w pb s i' z' true w')
theorem eXz {w o:World}{e:Nat}{s:By}{i:Nat}(f:Scan s i1 k bad)(p:s.size<=k\/nx s k=34)(m:i1=(if A7 s i 34=true then i+1 else i))(q:Left w e s (if A7 s k 34=true then k+1 else k) z bad o) :
    WPost w e s i z (.returned (.string (s.extract i1 k))) ((o.setCell ⟨e,3,none⟩ (.bool (bad||!A7 s i 34||!A7 s k 34))).setCell ⟨e,2,none⟩ (Iv ((z+(k-i1):Nat):Int))):=by
  have v:=f.le;have x:=f.lt;have a:=(q.set3 (bad||!A7 s i 34||!A7 s k 34)).set2 (z+(k-i1));have j:(if A7 s k 34=true then k+1 else k)<=s.size+1/\k<=(if A7 s k 34=true then k+1 else k):=by split<;>omega
  have u:i<=i1:=by rw[m];split<;>omega
  rw[cQu];cases c:A7 s i 34 with
  | false=>
    have t:fX1 (rest s i)=.none:=by unfold fX1;rw[if_neg (by rw[C4,c];simp)]
    rw[c]at a;exact .inr ⟨t,_,_,z+(k-i1),rfl,by omega,j.1,by omega,by simpa using a⟩
  | true=>
    have l:fX1 (rest s i)=fX4 (rest s i1):=by unfold fX1;rw[if_pos (C4.2 c),E7,m,if_pos c]
    rw[c]at a;cases bad with
    | true=>
      exact .inr ⟨by rw[l];exact f.no rfl,_,_,z+(k-i1),rfl,by omega,j.1,by omega,by simpa using a⟩
    | false=>
      have d:=f.ok rfl;cases b:A7 s k 34 with
      | false=>
        have n:s.size<=k:=by
          rcases p with h|h
          · exact h
          · rcases Nat.lt_or_ge k s.size with g|g
            · unfold A7 at b;simp[g,h]at b
            · exact g
        rw[P4 n]at d;rw[b]at a j;exact .inr ⟨by rw[l];exact d,_,k,z+(k-i1),rfl,by omega,by omega,by omega,by simpa using a⟩
      | true=>
        have n:=(D9 b).1;rw[mQ5 b,eXo]at d;rw[b]at a;refine .inl ⟨_,_,by rw[l];exact d,by simp,?_⟩;rw[F4,show s.size-(s.size-(k+1))=k+1 by omega];have r:((rest s i1).take (k-i1)++[]).length=k-i1:=by simp;omega
        rw[r];simpa using a
theorem oQc (hs:s.size<=1048576)(z:Nat)(h:PB w pb s i z false)(S:i<=s.size)(hz:z<=1048576+i) :
    Calls Tryz.prog 125 #[Pt pb] w (WPost w pb s i z):=by
  go_enter Tryz.func125,Tryz.ntmps125;go_wp2_with fail;refine(O5 i 34 pb s z false _ h (by omega) (by omega)).mono ?_;rintro e w1 ⟨rfl,B⟩;have Y:=B.lies.c1;obtain⟨f,A,a0,T⟩:∃f,f=(if A7 s i 34=true then i+1 else i)/\i<=f/\f<=s.size:=by
    refine⟨_,rfl,?_,?_⟩
    · split<;>omega
    · split
      · rename_i V;have:=(D9 V).1;omega
      · exact S
  rw[<-A]at B Y;have M:Hid _:=A;clear A;go_upto_block 0 with fail
  go_cut [5] (fun _ wx=>∃(k:Nat) (d:Bool),Scan s f k d/\(s.size<=k\/nx s k=34)/\Left w pb s k z d wx)
  case first=>
   go_wp2;go_loopw [5] (fun _ wr=>∃(k:Nat) (d:Bool),Scan s f k d/\Left w pb s k z d wr) (fun _ wr=>s.size-cQo wr pb)
   case atStart=>exact⟨f,false,Scan.start s f T,B⟩
   case round=>
     obtain⟨k,d,c,b⟩:=hrel;have I:=c.le;have J:=c.lt;have n:=b.lies.c0;have o:=b.lies.c1;have y:=b.lies.c3
     by_cases l:k<s.size
     · have U:decide ((k:Int)<(s.size:Int))=true:=by simp;omega
       by_cases g:nx s k=34
       · have Q:((s[k].toNat:Int) != 34)=false:=by
           rw[M6 l]at g;simp[g]
         have m:Hid _:=g;go_wp2;go_quiet (fail)
         go_wp2;go_meet
         case rel=>exact⟨k,d,c,.inr m.out,b.below (E5 (w:=wr) nq)⟩
       · have Q:((s[k].toNat:Int) != 34)=true:=by
           rw[M6 l]at g;simp;intro e;exact g (UInt8.toNat_inj.1 (by simpa using Int.ofNat.inj (by simpa using e)))
         have m:Hid _:=g;have E:Hid (∀W,Ca 71 #[.int .u8 s[k].toNat] W fun e Z=>e=.returned (.bool (gXu s[k]))/\Z=W):=fun W=>M7 s[k] W;go_wp2;go_quiet (fail)
         go_wp2;have j:=b.below (E5 (w:=wr) nq);have F:=jQe b.lies;generalize wr.drewN nq=C at *;have n:=j.lies.c0;have o:=j.lies.c1;go_quiet ((go_at_call 71;exact Calls.quiet_of_same (E.out _)))
         go_wp2;have a:=j.below (E5 (w:=C) nq);generalize C.drewN nq=w4 at *;have n:=a.lies.c0;have o:=a.lies.c1;have y:=a.lies.c3;have f1:=a.lies.fr 1;have O:=a.lies.fr 3;have q:Hid _:=F;have x:Hid (bQh (nx s k)=(gXu s[k]&&s[k] != 10)):=by show _=_;rw[M6 l];rfl
         cases d with
         | true=>
           go_region;go_wp2;rw[q.out];exact fQ1 c l m.out (by simp) a
         | false=>
           cases u:gXu s[k] with
           | false=>
             have r:Hid _:=u;go_region;go_wp2;rw[q.out];exact fQ1 c l m.out (by rw[x.out,r.out];rfl) a
           | true=>
             have r:Hid _:=u;clear u
             by_cases p:s[k]=10
             · have P:((s[k].toNat:Int)==10)=true:=by simp[p]
               have v:Hid (s[k]=10):=p;clear p;go_region;go_wp2_with fail;rw[q.out];exact fQ1 c l m.out (by rw[x.out,r.out,v.out];rfl) a
             · have P:((s[k].toNat:Int)==10)=false:=by
                 simp;intro e;exact p (UInt8.toNat_inj.1 (by simpa using Int.ofNat.inj (by simpa using e)))
               have v:Hid (s[k]≠10):=p;clear p;go_region;go_wp2_with fail;rw[q.out];exact fQ1 c l m.out (by rw[x.out,r.out];simp[v.out]) a
     · have U:decide ((k:Int)<(s.size:Int))=false:=by simp;omega
       go_wp2_with fail;go_quiet (fail)
       go_wp2_with fail;go_meet
       case rel=>exact⟨k,d,c,.inl (by omega),b.below (E5 (w:=wr) nq)⟩
  case rest=>
    obtain⟨k,d,c,H,b⟩:=hcut;have I:=c.le;have J:=c.lt;have n:=b.lies.c0;have o:=b.lies.c1;go_wp2_with fail;go_quiet (fail)
    go_wp2_with fail;have j:=b.below (E5 (w:=wc) nq);clear n o b;generalize wc.drewN nq=C at *;refine(O5 k 34 pb s z d _ j.lies (by omega) (by omega)).mono ?_;rintro e w3 ⟨rfl,K⟩;have a:=j.trans K;have a1:=uQr I J;have c2:=a.lies.c2;have y:=a.lies.c3;have f2:=a.lies.fr 2;have O:=a.lies.fr 3;clear K j;have G:=eXz c H M.out a;have L:Hid _:=G;clear G a c H;generalize X:A7 s i 34=t at *;generalize R:A7 s k 34=N at *;clear X R;cases d<;>cases t<;>cases N<;>
      (go_wp2_with fail
       go_ret;exact L.out)
end Go.Proofs.YtfklinjaajafgaaGreatDoor
