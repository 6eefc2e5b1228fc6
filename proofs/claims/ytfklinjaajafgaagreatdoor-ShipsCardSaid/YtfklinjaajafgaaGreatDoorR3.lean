import Derived.Test.YtfklinjaajafgaaGreatDoorR1
import Derived.Test.YtfklinjaajafgaaGreatDoorK54
import Derived.Test.YtfklinjaajafgaaGreatDoorK09
set_option maxRecDepth 100000
set_option maxHeartbeats 4000000
namespace Go.Proofs.YtfklinjaajafgaaGreatDoor
theorem gQb {a b:Ls.Ln}(wa:Ls.wf (Ls.dXx a))(wb:Ls.wf (Ls.dXx b))(ht:¬Ls.dX0 (Ls.dXx a) (Ls.dXx b)){u v:List UInt8}(hu:Ls.inL (Ls.dXx a) u)(hv:Ls.inL (Ls.dXx b) v):A6 (Ls.dXy a b) (u++v)=A6 a u++A6 b v:=by
 have hc:=K2 wa wb ht hu hv;simp[Ls.dXy,A6,hc]
theorem fQ4 {a b:Ls.Ln}(wa:Ls.wf (Ls.dXv a))(wb:Ls.wf (Ls.dXv b))(ht:¬Ls.dX0 (Ls.dXv a) (Ls.dXv b)){u v:List UInt8}(hu:Ls.inL (Ls.dXv a) u)(hv:Ls.inL (Ls.dXv b) v):A9 (Ls.dXy a b) (u++v)=A9 a u++A9 b v:=by
 have hc:=K2 wa wb ht hu hv;simp[Ls.dXy,A9,hc]
theorem hQb {a b:Ls.Ln}(wa:Ls.wf (Ls.dXv a))(wb:Ls.wf (Ls.dXv b))(ht:¬Ls.dX0 (Ls.dXv a) (Ls.dXv b))(xa:Ls.wf (Ls.dXx a))(xb:Ls.wf (Ls.dXx b))(hx:¬Ls.dX0 (Ls.dXx a) (Ls.dXx b))
  {u v s t:List UInt8} (hu:Ls.inL (Ls.dXv a) u) (hv:Ls.inL (Ls.dXv b) v) (hs:Ls.inL (Ls.dXx a) s) (ht2:Ls.inL (Ls.dXx b) t):B4 (Ls.dXy a b) (u++v) (s++t)=B4 a u s++B4 b v t:=by
 have hc:=K2 wa wb ht hu hv;have hd:=K2 xa xb hx hs ht2;simp[Ls.dXy,B4,hc,hd]
theorem j7 {a b:Ls.Ln}(h:B6 (Ls.dXy a b)):B6 b/\¬Ls.dX0 (Ls.dXx a) (Ls.dXx b)/\¬Ls.dX0 (Ls.dXv a) (Ls.dXv b):=by
 unfold Ls.dXy at h;rw[B6]at h;exact⟨h.2.1,h.2.2.1 rfl⟩
theorem O0 (d:Ls.D):Ls.dXx (Ls.eXh d)=Ls.dXu d:=by simp[Ls.eXh,Ls.dXx]
theorem O2 (d:Ls.D):Ls.dXv (Ls.eXh d)=Ls.dXu d:=by simp[Ls.eXh,Ls.dXv]
theorem K7 (d:Ls.D)(w:List UInt8):Ls.dXx (Ls.dX4 d w)=Ls.dXu d:=by simp[Ls.dX4,Ls.dXx]
theorem K8 (d:Ls.D)(w:List UInt8):Ls.dXv (Ls.dX4 d w)=Ls.none:=by simp[Ls.dX4,Ls.dXv]
theorem S4 (a b:Ls.Ln):Ls.dXx (Ls.dXy a b)=Ls.row (Ls.dXx a) (Ls.dXx b):=by simp[Ls.dXy,Ls.dXx]
theorem S6 (a b:Ls.Ln):Ls.dXv (Ls.dXy a b)=Ls.row (Ls.dXv a) (Ls.dXv b):=by simp[Ls.dXy,Ls.dXv]
structure LineS (m e:Ls.D)(x mi nu en:List UInt8):Prop where
 x:Ls.inL L6 x
 mi:Ls.inL (Ls.dXu m) mi
 nu:Ls.inL E4 nu
 en:Ls.inL (Ls.dXu e) en
section
variable {m e:Ls.D} {a b:UInt8} {x mi nu en x' nu':List UInt8}
theorem eQg (h:LineOk m e a b)(k:LineS m e x mi nu en):Ls.inL (Ls.dXx (D7 m e a b)) (x++(mi++(nu++en))):=by
 rw[gQr];have w3:=Ls.eXn H9 h.we;have w2:=Ls.eXn h.wm w3;exact(Ls.eXi P3 w2 _).2 ⟨x,_,rfl,k.x,(Ls.eXi h.wm w3 _).2 ⟨mi,_,rfl,k.mi,(Ls.eXi H9 h.we _).2 ⟨nu,en,rfl,k.nu,k.en⟩⟩⟩
theorem cQg (hx:Ls.inL L6 x)(hn:Ls.inL E4 nu):Ls.inL (Ls.dXv (D7 m e a b)) (x++nu):=by
 rw[gQs];exact(Ls.eXi P3 H9 _).2 ⟨x,nu,rfl,hx,hn⟩
theorem dXt (h:LineOk m e a b):Ls.inL (Ls.dXu m) [a]/\Ls.inL (Ls.dXu e) [b]:=⟨(Ls.eX0 _ h.wm _).1 h.im,(Ls.eX0 _ h.we _).1 h.ie⟩
theorem gQp (h:LineOk m e a b):B6 (D7 m e a b):=by
 have:=eQi h;unfold Ls.fXf at this;rw[B6]at this;exact this.1
theorem dQ3:Ls.inL Ls.none []:=(Ls.eXe _).2 rfl
theorem kQh (h:LineOk m e a b)(k:LineS m e x mi nu en):A6 (D7 m e a b) (x++(mi++(nu++en)))=x++nu:=by
 have w3:=Ls.eXn H9 h.we;have w2:=Ls.eXn h.wm w3;obtain⟨t2,a1,_⟩:=j7 (gQp h);obtain⟨t3,a2,_⟩:=j7 t2;obtain⟨_,a3,_⟩:=j7 t3;unfold D7;rw[gQb (by rw[O0];exact P3) (by rw[S4,S4,K7,K7,O0];exact w2) a1 (by rw[O0];exact k.x) (by rw[S4,S4,K7,K7,O0];exact(Ls.eXi h.wm w3 _).2 ⟨mi,_,rfl,k.mi,(Ls.eXi H9 h.we _).2 ⟨nu,en,rfl,k.nu,k.en⟩⟩),
  gQb (by rw[K7];exact h.wm) (by rw[S4,K7,O0];exact w3) a2 (by rw[K7];exact k.mi) (by rw[S4,K7,O0];exact(Ls.eXi H9 h.we _).2 ⟨nu,en,rfl,k.nu,k.en⟩),
  gQb (by rw[O0];exact H9) (by rw[K7];exact h.we) a3 (by rw[O0];exact k.nu) (by rw[K7];exact k.en)]
 simp[Ls.eXh,Ls.dX4,A6]
theorem vQ6 (h:LineOk m e a b)(hx:Ls.inL L6 x)(hn:Ls.inL E4 nu):A9 (D7 m e a b) (x++nu)=x++([a]++(nu++[b])):=by
 have e1:Ls.row E4 Ls.none=E4:=rfl;have e2:Ls.row Ls.none E4=E4:=rfl;obtain⟨t2,_,a1⟩:=j7 (gQp h);obtain⟨t3,_,a2⟩:=j7 t2;obtain⟨_,_,a3⟩:=j7 t3;have hn2:Ls.inL (Ls.row E4 Ls.none) nu:=by rw[e1];exact hn
 unfold D7;rw[fQ4 (by rw[O2];exact P3) (by rw[S6,S6,K8,K8,O2,e1,e2];exact H9) a1 (by rw[O2];exact hx) (by rw[S6,S6,K8,K8,O2,e1,e2];exact hn),
  show nu=[]++nu from rfl,fQ4 (by rw[K8];exact Ls.fXo) (by rw[S6,K8,O2,e1];exact H9) a2 (by rw[K8];exact dQ3) (by rw[S6,K8,O2,e1];exact hn),
  show nu=nu++[] by simp,fQ4 (by rw[O2];exact H9) (by rw[K8];exact Ls.fXo) a3 (by rw[O2];exact hn) (by rw[K8];exact dQ3)]
 simp[Ls.eXh,Ls.dX4,A9]
theorem eQh (h:LineOk m e a b)(k:LineS m e x mi nu en)(hx:Ls.inL L6 x')(hn:Ls.inL E4 nu'):B4 (D7 m e a b) (x'++nu') (x++(mi++(nu++en)))=x'++(mi++(nu'++en)):=by
 have w3:=Ls.eXn H9 h.we;have w2:=Ls.eXn h.wm w3;have e1:Ls.row E4 Ls.none=E4:=rfl;have e2:Ls.row Ls.none E4=E4:=rfl;obtain⟨t2,b1,a1⟩:=j7 (gQp h);obtain⟨t3,b2,a2⟩:=j7 t2;obtain⟨_,b3,a3⟩:=j7 t3;unfold D7;rw[hQb (by rw[O2];exact P3) (by rw[S6,S6,K8,K8,O2,e1,e2];exact H9) a1 (by rw[O0];exact P3) (by rw[S4,S4,K7,K7,O0];exact w2) b1 (by rw[O2];exact hx) (by rw[S6,S6,K8,K8,O2,e1,e2];exact hn) (by rw[O0];exact k.x) (by rw[S4,S4,K7,K7,O0];exact(Ls.eXi h.wm w3 _).2 ⟨mi,_,rfl,k.mi,(Ls.eXi H9 h.we _).2 ⟨nu,en,rfl,k.nu,k.en⟩⟩),
  show nu'=[]++nu' from rfl,hQb (by rw[K8];exact Ls.fXo) (by rw[S6,K8,O2,e1];exact H9) a2 (by rw[K7];exact h.wm) (by rw[S4,K7,O0];exact w3) b2 (by rw[K8];exact dQ3) (by rw[S6,K8,O2,e1];exact hn) (by rw[K7];exact k.mi) (by rw[S4,K7,O0];exact(Ls.eXi H9 h.we _).2 ⟨nu,en,rfl,k.nu,k.en⟩),
  show nu'=nu'++[] by simp,hQb (by rw[O2];exact H9) (by rw[K8];exact Ls.fXo) a3 (by rw[O0];exact H9) (by rw[K7];exact h.we) b3 (by rw[O2];exact hn) (by rw[K8];exact dQ3) (by rw[O0];exact k.nu) (by rw[K7];exact k.en)]
 simp[Ls.eXh,Ls.dX4,B4]
theorem gQj (h:LineOk m e a b):(Ls.wf (Ls.dXx (D7 m e a b))/\¬Ls.inL (Ls.dXx (D7 m e a b)) []/\¬Ls.dX0 (Ls.dXx (D7 m e a b)) (Ls.eXa (Ls.dXx (D7 m e a b))))/\(Ls.wf (Ls.dXv (D7 m e a b))/\¬Ls.inL (Ls.dXv (D7 m e a b)) []/\¬Ls.dX0 (Ls.dXv (D7 m e a b)) (Ls.eXa (Ls.dXv (D7 m e a b)))):=by
 have:=eQi h;unfold Ls.fXf at this;rw[B6]at this;have w3:=Ls.eXn H9 h.we;have w2:=Ls.eXn h.wm w3;have wS:Ls.wf (Ls.dXx (D7 m e a b)):=by rw[gQr];exact Ls.eXn P3 w2
 have wV:Ls.wf (Ls.dXv (D7 m e a b)):=by rw[gQs];exact Ls.eXn P3 H9
 refine⟨⟨wS,fun hn=>?_,this.2.1.2⟩,⟨wV,fun hn=>?_,this.2.2.2⟩⟩
 ·have h0:=this.2.1.1;rw[(Ls.fXb _ wS).2 hn]at h0;cases h0
 ·have h0:=this.2.2.1;rw[(Ls.fXb _ wV).2 hn]at h0;cases h0
theorem dXs (h:LineOk m e a b)(ps:List (List UInt8))(hp:∀y,y∈ps->Ls.inL (Ls.dXx (D7 m e a b)) y):A6 (Ls.fXf (D7 m e a b)) ps.flatten=(ps.map (A6 (D7 m e a b))).flatten:=by
 obtain⟨⟨w,h0,ht⟩,_⟩:=gQj h;unfold Ls.fXf;rw[A6,U2 w (Ls.eXl w) h0 ht ps hp _ (Nat.le_refl _)]
theorem dXr (h:LineOk m e a b)(ps:List (List UInt8))(hp:∀y,y∈ps->Ls.inL (Ls.dXv (D7 m e a b)) y):A9 (Ls.fXf (D7 m e a b)) ps.flatten=(ps.map (A9 (D7 m e a b))).flatten:=by
 obtain⟨_,w,h0,ht⟩:=gQj h;unfold Ls.fXf;rw[A9,U2 w (Ls.eXl w) h0 ht ps hp _ (Nat.le_refl _)]
theorem vQf (h:LineOk m e a b)(ms ns:List (List UInt8))(hm:∀y,y∈ms->Ls.inL (Ls.dXv (D7 m e a b)) y)(hn:∀y,y∈ns->Ls.inL (Ls.dXx (D7 m e a b)) y) :
  B4 (Ls.fXf (D7 m e a b)) ms.flatten ns.flatten=E5 (B4 (D7 m e a b)) (A9 (D7 m e a b)) (A6 (D7 m e a b)) ms ns:=by
 obtain⟨⟨w1,h1,t1⟩,w2,h2,t2⟩:=gQj h;unfold Ls.fXf;rw[B4,if_pos rfl,U2 w1 (Ls.eXl w1) h1 t1 ns hn _ (Nat.le_refl _),U2 w2 (Ls.eXl w2) h2 t2 ms hm _ (Nat.le_refl _)]
theorem vQd (ps:List (List UInt8))(hp:∀y,y∈ps->Ls.inL (Ls.dXx (D7 m e a b)) y):Ls.inL (Ls.dXx (Ls.fXf (D7 m e a b))) ps.flatten:=by
 have:Ls.dXx (Ls.fXf (D7 m e a b))=Ls.eXa (Ls.dXx (D7 m e a b)):=by simp[Ls.fXf,Ls.dXx]
 rw[this,Ls.eXf];exact⟨ps,rfl,hp⟩
theorem vQe (ps:List (List UInt8))(hp:∀y,y∈ps->Ls.inL (Ls.dXv (D7 m e a b)) y):Ls.inL (Ls.dXv (Ls.fXf (D7 m e a b))) ps.flatten:=by
 have:Ls.dXv (Ls.fXf (D7 m e a b))=Ls.eXa (Ls.dXv (D7 m e a b)):=by simp[Ls.fXf,Ls.dXv]
 rw[this,Ls.eXf];exact⟨ps,rfl,hp⟩
end
theorem gQ7 {g:List UInt8}{s:List UInt8}(hg:Ls.wf (Ls.set g))(h0:s≠[])(h:∀c,c∈s->Ls.has g c=true):Ls.inL (Ls.row (Ls.set g) (Ls.eXa (Ls.set g))) s:=by
 rw[Ls.eXi hg (Ls.eXl hg)];cases s with
 | nil=>exact absurd rfl h0
 | cons c t=>
  refine⟨[c],t,rfl,(Ls.fXk _ _).2 ⟨c,rfl,h c (List.mem_cons_self ..)⟩,(Ls.eXf _ _).2 ⟨t.map fun x=>[x],?_,fun y hy=>?_⟩⟩
  ·clear h h0
   induction t with
   | nil=>rfl
   | cons d t ih=>rw[List.map_cons,List.flatten_cons,<-ih];rfl
  ·obtain⟨d,hd,rfl⟩:=List.mem_map.1 hy
   exact(Ls.fXk _ _).2 ⟨d,rfl,h d (List.mem_cons_of_mem _ hd)⟩
theorem V5 {s:List UInt8}(h0:s≠[])(h:∀c,c∈s->M7 c=true):Ls.inL L6 s:=by
 rw[dXh];refine gQ7 hQt h0 (fun c hc=>?_);have h1:=h c hc;have:∀n,n<256->M7 (UInt8.ofNat n)=true->Ls.has Ls.az (UInt8.ofNat n)=true:=by decide +kernel
 have:=this c.toNat c.toNat_lt;rw[UInt8.ofNat_toNat]at this;exact this h1
theorem wQ1 {s:List UInt8}(h0:s≠[])(h:∀c,c∈s->M0 c=true):Ls.inL E4 s:=by
 rw[wQ0];refine gQ7 hQs h0 (fun c hc=>?_);have h1:=h c hc;have:∀n,n<256->M0 (UInt8.ofNat n)=true->Ls.has [48,49,50,51,52,53,54,55,56,57] (UInt8.ofNat n)=true:=by decide +kernel
 have:=this c.toNat c.toNat_lt;rw[UInt8.ofNat_toNat]at this;exact this h1
theorem uQs {c:UInt8}(h:M0 c=true):low c=false:=by
 have:∀n,n<256->M0 (UInt8.ofNat n)=true->low (UInt8.ofNat n)=false:=by decide +kernel
 have:=this c.toNat c.toNat_lt;rw[UInt8.ofNat_toNat]at this;exact this h
theorem eQa {x:List UInt8}(hx:∀c,c∈x->M7 c=true){c:UInt8}{t:List UInt8}(hc:M0 c=true):C3 (x++c::t)=x:=by
 unfold C3;induction x with
 | nil=>simp[uQs hc]
 | cons d x ih=>
  have hd:low d=true:=hx d (List.mem_cons_self ..);rw[List.cons_append,List.takeWhile_cons,hd,if_pos rfl,ih (fun c hc=>hx c (List.mem_cons_of_mem _ hc))]
theorem mQp (n:Nat):Ls.inL (Ls.eXa (Ls.set [32])) (List.replicate n 32):=by
 rw[Ls.eXf];refine⟨List.replicate n [32],?_,fun y hy=>?_⟩
 ·induction n with
  | zero=>rfl
  | succ n ih=>rw[List.replicate_succ,List.replicate_succ,List.flatten_cons,<-ih];rfl
 ·rw[List.eq_of_mem_replicate hy]
  exact(Ls.fXk _ _).2 ⟨32,rfl,by decide⟩
theorem jQc (i j:Nat):Ls.inL (Ls.dXu X4) (List.replicate i 32++([61]++List.replicate j 32)):=by
 have h1:Ls.dXu X4=Ls.row (Ls.eXa (Ls.set [32])) (Ls.row (Ls.set [61]) (Ls.eXa (Ls.set [32]))):=rfl;have w1:=Ls.eXl (V0 32);rw[h1,Ls.eXi w1 (Ls.eXn (V0 61) w1)];exact⟨_,_,rfl,mQp i,(Ls.eXi (V0 61) w1 _).2 ⟨_,_,rfl,(Ls.fXk _ _).2 ⟨61,rfl,by decide⟩,mQp j⟩⟩
theorem jQf (k:Nat):Ls.inL (Ls.dXu X5) (List.replicate (k+1) 33):=by
 have h2:Ls.dXu X5=Ls.row (Ls.set [33]) (Ls.eXa (Ls.set [33])):=rfl;rw[h2];refine gQ7 (V0 33) (by simp[List.replicate_succ]) (fun c hc=>?_);rw[List.eq_of_mem_replicate hc];decide
theorem aQw {c:UInt8}(h:M0 c=true):Ls.inL E4 [c]:=wQ1 (by simp) (fun d hd=>by rw[List.mem_singleton.1 hd];exact h)
section
variable {W U:List UInt8} (n:Nat)
def G8 (W:List UInt8)(n:Nat)(d:UInt8):List UInt8:=W++((List.replicate n 32++([61]++List.replicate 0 32))++([d]++List.replicate 1 33))
def G9 (U:List UInt8)(n:Nat)(d:UInt8):List UInt8:=U++((List.replicate 0 32++([61]++List.replicate (n+1) 32))++([d]++List.replicate 2 33))
theorem cQh (h0:W≠[])(h:∀c,c∈W->M7 c=true){d:UInt8}(hd:M0 d=true):LineS X4 X5 W (List.replicate n 32++([61]++List.replicate 0 32)) [d] (List.replicate 1 33):=⟨V5 h0 h,jQc _ _,aQw hd,jQf 0⟩
theorem cQi (h0:U≠[])(h:∀c,c∈U->M7 c=true){d:UInt8}(hd:M0 d=true):LineS X4 X5 U (List.replicate 0 32++([61]++List.replicate (n+1) 32)) [d] (List.replicate 2 33):=⟨V5 h0 h,jQc _ _,aQw hd,jQf 1⟩
abbrev L7:Ls.Ln:=D7 X4 X5 61 33
theorem jQ8 (ns:List (List UInt8))(hW0:W≠[])(hW:∀c,c∈W->M7 c=true)(hU0:U≠[])(hU:∀c,c∈U->M7 c=true)(hns:∀y,y∈ns->Ls.inL (Ls.dXv L7) y) :
  B4 L8 ((U++[55])++((W++[56])++ns.flatten)) (G8 W n 49++G9 U n 50)=(if W=U then G8 W n 55++(G9 W n 56++E5 (B4 L7) (A9 L7) (A6 L7) ns []) else G9 U n 55++(G8 W n 56++E5 (B4 L7) (A9 L7) (A6 L7) ns [])):=by
 have d:∀c:UInt8,M0 c=true->Ls.inL E4 [c]:=fun c h=>aQw h;have hk:=vQf Q7 ((U++[55])::(W++[56])::ns) [G8 W n 49,G9 U n 50] (fun y hy=>by
  rcases List.mem_cons.1 hy with rfl|hy
  ·exact cQg (V5 hU0 hU) (d _ (by decide))
  ·rcases List.mem_cons.1 hy with rfl|hy
   ·exact cQg (V5 hW0 hW) (d _ (by decide))
   ·exact hns y hy) (fun y hy=>by
  rcases List.mem_cons.1 hy with rfl|hy
  ·exact eQg Q7 (cQh n hW0 hW (by decide))
  ·rw[List.mem_singleton.1 hy];exact eQg Q7 (cQi n hU0 hU (by decide)))
 have e1:((U++[55])::(W++[56])::ns).flatten=(U++[55])++((W++[56])++ns.flatten):=by simp
 have e2:[G8 W n 49,G9 U n 50].flatten=G8 W n 49++G9 U n 50:=by simp
 rw[e1,e2]at hk;unfold L8;rw[hk];have g1:C3 (A6 L7 (G8 W n 49))=W:=by rw[G8,kQh Q7 (cQh n hW0 hW (by decide)),eQa hW (by decide)]
 have g2:C3 (A6 L7 (G9 U n 50))=U:=by rw[G9,kQh Q7 (cQi n hU0 hU (by decide)),eQa hU (by decide)]
 have k1:C3 (U++[55])=U:=eQa hU (by decide);have k2:C3 (W++[56])=W:=eQa hW (by decide);have p11:B4 L7 (U++[55]) (G8 W n 49)=G8 U n 55:=eQh Q7 (cQh n hW0 hW (by decide)) (V5 hU0 hU) (d _ (by decide));have p12:B4 L7 (U++[55]) (G9 U n 50)=G9 U n 55:=eQh Q7 (cQi n hU0 hU (by decide)) (V5 hU0 hU) (d _ (by decide));have p21:B4 L7 (W++[56]) (G8 W n 49)=G8 W n 56:=eQh Q7 (cQh n hW0 hW (by decide)) (V5 hW0 hW) (d _ (by decide));have p22:B4 L7 (W++[56]) (G9 U n 50)=G9 W n 56:=eQh Q7 (cQi n hU0 hU (by decide)) (V5 hW0 hW) (d _ (by decide))
 by_cases h:W=U
 ·subst h
  rw[if_pos rfl,E5];simp only[D1,g1,k1,beq_self_eq_true,if_true];rw[E5];simp only[D1,g2,k2,beq_self_eq_true,if_true];rw[p11,p22]
 ·have hb:(W==U)=false:=by simpa using h
  rw[if_neg h,E5];simp only[D1,g1,g2,k1,beq_self_eq_true,hb,if_true,Bool.false_eq_true,if_false];rw[E5];simp only[D1,g1,k2,beq_self_eq_true,if_true];rw[p12,p21]
theorem wQu:Ls.inL (Ls.dXv L7) ([110,101,119]++[57])/\E5 (B4 L7) (A9 L7) (A6 L7) [[110,101,119]++[57]] []=[110,101,119,61,57,33]:=by
 have hw:Ls.inL L6 [110,101,119]:=V5 (by simp) (by decide);refine⟨cQg hw (aQw (by decide)),?_⟩;rw[E5];simp only[D1,E5];rw[vQ6 Q7 hw (aQw (by decide))];rfl
theorem jQ6 (ns:List (List UInt8))(hW0:W≠[])(hW:∀c,c∈W->M7 c=true)(hU0:U≠[])(hU:∀c,c∈U->M7 c=true)(hns:∀y,y∈ns->Ls.inL (Ls.dXv L7) y) :
  Ls.inL (Ls.dXv L8) ((U++[55])++((W++[56])++ns.flatten))/\Ls.inL (Ls.dXx L8) (G8 W n 49++G9 U n 50):=by
 have h1:=vQe (m:=X4) (e:=X5) (a:=61) (b:=33) ((U++[55])::(W++[56])::ns) (fun y hy=>by
  rcases List.mem_cons.1 hy with rfl|hy
  ·exact cQg (V5 hU0 hU) (aQw (by decide))
  ·rcases List.mem_cons.1 hy with rfl|hy
   ·exact cQg (V5 hW0 hW) (aQw (by decide))
   ·exact hns y hy)
 have h2:=vQd (m:=X4) (e:=X5) (a:=61) (b:=33) [G8 W n 49,G9 U n 50] (fun y hy=>by
  rcases List.mem_cons.1 hy with rfl|hy
  ·exact eQg Q7 (cQh n hW0 hW (by decide))
  ·rw[List.mem_singleton.1 hy];exact eQg Q7 (cQi n hU0 hU (by decide)))
 have e1:((U++[55])::(W++[56])::ns).flatten=(U++[55])++((W++[56])++ns.flatten):=by simp
 have e2:[G8 W n 49,G9 U n 50].flatten=G8 W n 49++G9 U n 50:=by simp
 rw[e1]at h1;rw[e2]at h2;exact⟨h1,h2⟩
end
end Go.Proofs.YtfklinjaajafgaaGreatDoor
namespace Go.Proofs.YtfklinjaajafgaaGreatDoor
open Go.RowKit
def I6 (f:UInt8->Bool):Nat->List UInt8->List UInt8
 | 0,_=>[]
 | _+1,[]=>[]
 | n+1,c::t=>if f c=true then c::I6 f n t else I6 f (n+1) t
theorem iQv (f:UInt8->Bool)(n:Nat):I6 f n []=[]:=by cases n<;>rfl
theorem fQ0 (f:UInt8->Bool):(t:List UInt8)->(n:Nat)->(I6 f n t).length<=n/\∀c,c∈I6 f n t->f c=true
 | [],n=>by rw[iQv];simp
 | c::t,0=>by simp[I6]
 | c::t,n+1=>by
  rw[I6]
  by_cases h:f c=true
  ·rw[if_pos h]
   have:=fQ0 f t n;refine⟨by simp[this.1],fun d hd=>?_⟩;rcases List.mem_cons.1 hd with rfl|hd
   ·exact h
   ·exact this.2 d hd
  ·rw[if_neg h]
   exact fQ0 f t (n+1)
def inR (lo hi c:UInt8):Bool:=decide (lo.toNat<=c.toNat)&&decide (c.toNat<=hi.toNat)
def M5 (lo hi:UInt8)(s:List UInt8):List UInt8:=lo::I6 (inR lo hi) 3 s
theorem tQj (s:ByteArray)(k:Nat)(hk:k<s.size):s.extract k (k+1)=⟨[s[k]].toArray⟩:=by
 apply ByteArray.ext
 rw[ByteArray.data_extract];apply Array.ext'
 have h1:k<s.data.toList.length:=by rw[Array.length_toList];exact hk
 have h2:s.data.toList.drop k=s[k]::s.data.toList.drop (k+1):=by
  rw[List.drop_eq_getElem_cons h1];rfl
 simp[h2]
theorem iQx (s:ByteArray)(hs:s.size<=9223372036854775807)(lo hi:UInt8)(w:World) :
  Calls Tryz.prog 35 #[.string s,.int .u8 lo.toNat,.int .u8 hi.toNat] w fun e w'=>e=.returned (A4 (M5 lo hi s.data.toList))/\Below w.heap.size w w':=by
 have hcv:(convert 105 9 (.slice (some ⟨w.heap.size,0,none⟩) 1 1)).run Tryz.prog (w.alloc (.cells #[.int .u8 lo.toNat] 5))=.ok (A4 [lo]) (w.alloc (.cells #[.int .u8 lo.toNat] 5)):=
  iQh (base:=0) (ws:=[lo]) ⟨rfl,.inr ⟨w.heap.size,1,#[.int .u8 lo.toNat],rfl,Nat.zero_le _,heap_alloc_new _ _,Nat.le_refl _,by unfold maxLen;omega,rfl,rfl⟩⟩
 have hb0:=A5 w (.cells #[.int .u8 lo.toNat] 5);go_enter Tryz.func35,Tryz.ntmps35;go_wp2_with fail;generalize w.alloc (.cells #[.int .u8 lo.toNat] 5)=w0 at *;go_loopw [7,8] (fun ov tv wr=>∃(i:Nat) (x:List UInt8),i<=s.size/\tv=.int .i64 i/\ov=A4 (lo::x)/\x.length<=3/\wr=w0/\x++I6 (inR lo hi) (3-x.length) (s.data.toList.drop i)=I6 (inR lo hi) 3 s.data.toList) (fun _ tv _=>s.size-(intOf tv).toNat)
 case atStart=>exact⟨0,[],Nat.zero_le _,rfl,rfl,by simp,rfl,by simp⟩
 case round=>
  obtain⟨i,x,hi2,rfl,rfl,hx3,rfl,hcl⟩:=hrel;have HC:Hid (x++I6 (inR lo hi) (3-x.length) (s.data.toList.drop i)=I6 (inR lo hi) 3 s.data.toList):=hcl;have hi0:(0:Int)<=(i:Int):=by omega
  clear hcl
  by_cases hlt:i<s.size
  ·have hlt2:(i:Int)<(s.size:Int):=by omega
   by_cases hroom:x.length<3
   ·have hr2:(x.length:Int)+1<4:=by omega
    have hd:s.data.toList.drop i=s[i]::s.data.toList.drop (i+1):=by
     rw[List.drop_eq_getElem_cons (by rw[Array.length_toList];exact hlt)];rfl
    have hi1:(i:Int)+1<=(s.size:Int):=by omega
    have hex:=tQj s i hlt;obtain⟨n,hn⟩:∃n,3-x.length=n+1:=⟨2-x.length,by omega⟩;have HS:Hid (I6 (inR lo hi) (3-x.length) (s.data.toList.drop i)=if inR lo hi s[i]=true then s[i]::I6 (inR lo hi) n (s.data.toList.drop (i+1)) else I6 (inR lo hi) (n+1) (s.data.toList.drop (i+1))):=by
     show _=_;rw[hd,hn,I6]
    have HN:Hid (3-x.length=n+1):=hn;clear hd hn
    by_cases h1:lo.toNat<=s[i].toNat
    ·have h1z:(lo.toNat:Int)<=(s[i].toNat:Int):=by omega
     by_cases h2:s[i].toNat<=hi.toNat
     ·have h2z:(s[i].toNat:Int)<=(hi.toNat:Int):=by omega
      have HQ:Hid ((x++[s[i]])++I6 (inR lo hi) (3-(x++[s[i]]).length) (s.data.toList.drop (i+1))=I6 (inR lo hi) 3 s.data.toList):=by
       show _=_;have hn:=HN.out;rw[<-HC.out,HS.out,if_pos (by simp[inR,h1,h2]),List.length_append,show 3-(x.length+[s[i]].length)=n by simp;omega];simp
      have hsz:x.length+1+1<=140737488355328:=by omega
      clear HS HC;go_wp2_with fail;go_roundw
      case rel=>exact⟨i+1,x++[s[i]],by omega,by go_num,by show Value.string ((⟨(lo::x).toArray⟩:ByteArray)++⟨[s[i]].toArray⟩)=_;rw[O1];rfl,by simp;omega,trivial,HQ.out⟩
      case measure=>simp[intOf];omega
     ·have h2z:¬(s[i].toNat:Int)<=(hi.toNat:Int):=by omega
      have HQ:Hid (x++I6 (inR lo hi) (3-x.length) (s.data.toList.drop (i+1))=I6 (inR lo hi) 3 s.data.toList):=by
       show _=_;rw[<-HC.out,HS.out,if_neg (by simp[inR];omega),HN.out]
      clear HS HC hex;go_wp2_with fail;go_roundw
      case rel=>exact⟨i+1,x,by omega,by go_num,rfl,hx3,trivial,HQ.out⟩
      case measure=>simp[intOf];omega
    ·have h1z:¬(lo.toNat:Int)<=(s[i].toNat:Int):=by omega
     have HQ:Hid (x++I6 (inR lo hi) (3-x.length) (s.data.toList.drop (i+1))=I6 (inR lo hi) 3 s.data.toList):=by
      show _=_;rw[<-HC.out,HS.out,if_neg (by simp[inR];omega),HN.out]
     clear HS HC hex;go_wp2_with fail;go_roundw
     case rel=>exact⟨i+1,x,by omega,by go_num,rfl,hx3,trivial,HQ.out⟩
     case measure=>simp[intOf];omega
   ·have hr2:¬(x.length:Int)+1<4:=by omega
    have HQ:Hid (lo::x=M5 lo hi s.data.toList):=by
     show _=_;unfold M5;rw[<-HC.out,show 3-x.length=0 by omega];simp[I6]
    clear HC;go_wp2_with fail;go_ret;exact⟨by rw[<-HQ.out];rfl,hb0⟩
  ·have hlt2:¬(i:Int)<(s.size:Int):=by omega
   have HQ:Hid (lo::x=M5 lo hi s.data.toList):=by
    show _=_;unfold M5;rw[<-HC.out,List.drop_of_length_le (by rw[Array.length_toList];show s.size<=i;omega),iQv];simp
   clear HC;go_wp2_with fail;go_ret;exact⟨by rw[<-HQ.out];rfl,hb0⟩
end Go.Proofs.YtfklinjaajafgaaGreatDoor
