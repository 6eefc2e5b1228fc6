import Derived.Test.YtfklinjaajafgaaGreatDoorK08
import Derived.Test.YtfklinjaajafgaaGreatDoorK03
import Derived.Test.YtfklinjaajafgaaGreatDoorProg
import Derived.Test.YtfklinjaajafgaaGreatDoorK54
set_option maxRecDepth 100000
set_option maxHeartbeats 4000000
namespace Go.Proofs.YtfklinjaajafgaaGreatDoor
theorem dXp {c:UInt8}{w:List UInt8}(h:Ls.wf (Ls.eXp (c::w))):Ls.wf (Ls.eXp w)/\Ls.wf (Ls.set [c]):=by
 have h:Ls.wf (Ls.row (Ls.set [c]) (Ls.eXp w)):=h;unfold Ls.row at h;rw[if_neg (by simp[Ls.set])]at h;split at h
 ·rename_i hk
  refine⟨?_,h⟩;cases w with
  | nil=>exact Ls.fXo
  | cons d w=>
   exfalso
   have hk:(Ls.row (Ls.set [d]) (Ls.eXp w)).kind=0:=hk;unfold Ls.row at hk;rw[if_neg (by simp[Ls.set])]at hk;split at hk<;>simp[Ls.set,Ls.fXt]at hk
 ·simp[Ls.fXt,Ls.wf]at h
  exact⟨h.2.2,h.2.1⟩
theorem hQu:(w:List UInt8)->Ls.wf (Ls.eXp w)->∀s,Ls.inL (Ls.eXp w) s↔s=w
 | [],_,s=>Ls.eXe s
 | c::w,h,s=>by
  have hw:=dXp h;show Ls.inL (Ls.row (Ls.set [c]) (Ls.eXp w)) s↔_;rw[Ls.eXi hw.2 hw.1];constructor
  ·rintro ⟨u,v,rfl,h1,h2⟩
   obtain⟨d,rfl,hd⟩:=(Ls.fXk _ _).1 h1;rw[cQd,beq_iff_eq]at hd;rw[(hQu w hw.1 v).1 h2,hd];rfl
  ·rintro rfl
   exact⟨[c],w,rfl,(Ls.fXk _ _).2 ⟨c,rfl,by rw[cQd];simp⟩,(hQu w hw.1 w).2 rfl⟩
structure Lawful (l:Ls.Ln):Prop where
 get:∀s,Ls.inL (Ls.dXx l) s->Ls.inL (Ls.dXv l) (A6 l s)
 cre:∀v,Ls.inL (Ls.dXv l) v->Ls.inL (Ls.dXx l) (A9 l v)/\A6 l (A9 l v)=v
 put:∀v s,Ls.inL (Ls.dXv l) v->Ls.inL (Ls.dXx l) s->Ls.inL (Ls.dXx l) (B4 l v s)/\A6 l (B4 l v s)=v
 back:∀s,Ls.inL (Ls.dXx l) s->B4 l (A6 l s) s=s
theorem vQh (p:Ls.D)(w:List UInt8):Lawful ⟨0,p,w,[]⟩:=by
 refine⟨fun s h=>?_,fun v h=>?_,fun v s h h2=>?_,fun s h=>?_⟩<;>simp_all [A6,A9,B4,Ls.dXx,Ls.dXv]
theorem vQi (p:Ls.D)(w:List UInt8)(hw:Ls.inL (Ls.dXu p) w):Lawful ⟨1,p,w,[]⟩:=by
 refine⟨fun s h=>?_,fun v h=>?_,fun v s h h2=>?_,fun s h=>?_⟩<;>simp_all [A6,A9,B4,Ls.dXx,Ls.dXv,Ls.eXe]
theorem vQj (p:Ls.D)(w:List UInt8)(hw:Ls.wf (Ls.eXp w)):Lawful ⟨2,p,w,[]⟩:=by
 have h1:=hQu w hw;refine⟨fun s h=>?_,fun v h=>?_,fun v s h h2=>?_,fun s h=>?_⟩<;>simp_all [A6,A9,B4,Ls.dXx,Ls.dXv,Ls.eXe]
theorem vQk (p:Ls.D)(w:List UInt8)(a b:Ls.Ln)(la:Lawful a)(lb:Lawful b)(wa:Ls.wf (Ls.dXx a))(wb:Ls.wf (Ls.dXx b))(va:Ls.wf (Ls.dXv a))(vb:Ls.wf (Ls.dXv b))(h1:¬Ls.dX0 (Ls.dXx a) (Ls.dXx b))(h2:¬Ls.dX0 (Ls.dXv a) (Ls.dXv b)):Lawful ⟨3,p,w,[a,b]⟩:=by
 have hS:∀s,Ls.inL (Ls.dXx ⟨3,p,w,[a,b]⟩) s↔∃u v,s=u++v/\Ls.inL (Ls.dXx a) u/\Ls.inL (Ls.dXx b) v:=fun s=>Ls.eXi wa wb s;have hV:∀s,Ls.inL (Ls.dXv ⟨3,p,w,[a,b]⟩) s↔∃u v,s=u++v/\Ls.inL (Ls.dXv a) u/\Ls.inL (Ls.dXv b) v:=fun s=>Ls.eXi va vb s;have hg:∀u v,Ls.inL (Ls.dXx a) u->Ls.inL (Ls.dXx b) v->A6 ⟨3,p,w,[a,b]⟩ (u++v)=A6 a u++A6 b v:=fun u v hu hv=>by
  simp[A6,K2 wa wb h1 hu hv]
 have hc:∀u v,Ls.inL (Ls.dXv a) u->Ls.inL (Ls.dXv b) v->A9 ⟨3,p,w,[a,b]⟩ (u++v)=A9 a u++A9 b v:=fun u v hu hv=>by
  simp[A9,K2 va vb h2 hu hv]
 have hp:∀u v x y,Ls.inL (Ls.dXv a) u->Ls.inL (Ls.dXv b) v->Ls.inL (Ls.dXx a) x->Ls.inL (Ls.dXx b) y->B4 ⟨3,p,w,[a,b]⟩ (u++v) (x++y)=B4 a u x++B4 b v y:=fun u v x y hu hv hx hy=>by
  simp[B4,K2 va vb h2 hu hv,K2 wa wb h1 hx hy]
 refine⟨fun s h=>?_,fun v h=>?_,fun v s h k=>?_,fun s h=>?_⟩
 ·obtain⟨u,v,rfl,hu,hv⟩:=(hS s).1 h
  rw[hg u v hu hv];exact(hV _).2 ⟨_,_,rfl,la.get u hu,lb.get v hv⟩
 ·obtain⟨x,y,rfl,hx,hy⟩:=(hV v).1 h
  obtain⟨c1,c2⟩:=la.cre x hx;obtain⟨d1,d2⟩:=lb.cre y hy;rw[hc x y hx hy];exact⟨(hS _).2 ⟨_,_,rfl,c1,d1⟩,by rw[hg _ _ c1 d1,c2,d2]⟩
 ·obtain⟨x,y,rfl,hx,hy⟩:=(hV v).1 h
  obtain⟨u,t,rfl,hu,ht⟩:=(hS s).1 k;obtain⟨c1,c2⟩:=la.put x u hx hu;obtain⟨d1,d2⟩:=lb.put y t hy ht;rw[hp x y u t hx hy hu ht];exact⟨(hS _).2 ⟨_,_,rfl,c1,d1⟩,by rw[hg _ _ c1 d1,c2,d2]⟩
 ·obtain⟨u,v,rfl,hu,hv⟩:=(hS s).1 h
  rw[hg u v hu hv,hp _ _ u v (la.get u hu) (lb.get v hv) hu hv,la.back u hu,lb.back v hv]
theorem vQl (p:Ls.D)(w:List UInt8)(a b:Ls.Ln)(la:Lawful a)(lb:Lawful b)(wa:Ls.wf (Ls.dXx a))(wb:Ls.wf (Ls.dXx b))(va:Ls.wf (Ls.dXv a))(vb:Ls.wf (Ls.dXv b))(h1:¬Ls.dX0 (Ls.dXx a) (Ls.dXx b))(h2:¬Ls.dX0 (Ls.dXv b) (Ls.dXv a)):Lawful ⟨4,p,w,[a,b]⟩:=by
 have hS:∀s,Ls.inL (Ls.dXx ⟨4,p,w,[a,b]⟩) s↔∃u v,s=u++v/\Ls.inL (Ls.dXx a) u/\Ls.inL (Ls.dXx b) v:=fun s=>Ls.eXi wa wb s;have hV:∀s,Ls.inL (Ls.dXv ⟨4,p,w,[a,b]⟩) s↔∃u v,s=u++v/\Ls.inL (Ls.dXv b) u/\Ls.inL (Ls.dXv a) v:=fun s=>Ls.eXi vb va s;have hg:∀u v,Ls.inL (Ls.dXx a) u->Ls.inL (Ls.dXx b) v->A6 ⟨4,p,w,[a,b]⟩ (u++v)=A6 b v++A6 a u:=fun u v hu hv=>by
  simp[A6,K2 wa wb h1 hu hv]
 have hc:∀u v,Ls.inL (Ls.dXv b) u->Ls.inL (Ls.dXv a) v->A9 ⟨4,p,w,[a,b]⟩ (u++v)=A9 a v++A9 b u:=fun u v hu hv=>by
  simp[A9,K2 vb va h2 hu hv]
 have hp:∀u v x y,Ls.inL (Ls.dXv b) u->Ls.inL (Ls.dXv a) v->Ls.inL (Ls.dXx a) x->Ls.inL (Ls.dXx b) y->B4 ⟨4,p,w,[a,b]⟩ (u++v) (x++y)=B4 a v x++B4 b u y:=fun u v x y hu hv hx hy=>by
  simp[B4,K2 vb va h2 hu hv,K2 wa wb h1 hx hy]
 refine⟨fun s h=>?_,fun v h=>?_,fun v s h k=>?_,fun s h=>?_⟩
 ·obtain⟨u,v,rfl,hu,hv⟩:=(hS s).1 h
  rw[hg u v hu hv];exact(hV _).2 ⟨_,_,rfl,lb.get v hv,la.get u hu⟩
 ·obtain⟨x,y,rfl,hx,hy⟩:=(hV v).1 h
  obtain⟨c1,c2⟩:=la.cre y hy;obtain⟨d1,d2⟩:=lb.cre x hx;rw[hc x y hx hy];exact⟨(hS _).2 ⟨_,_,rfl,c1,d1⟩,by rw[hg _ _ c1 d1,c2,d2]⟩
 ·obtain⟨x,y,rfl,hx,hy⟩:=(hV v).1 h
  obtain⟨u,t,rfl,hu,ht⟩:=(hS s).1 k;obtain⟨c1,c2⟩:=la.put y u hy hu;obtain⟨d1,d2⟩:=lb.put x t hx ht;rw[hp x y u t hx hy hu ht];exact⟨(hS _).2 ⟨_,_,rfl,c1,d1⟩,by rw[hg _ _ c1 d1,c2,d2]⟩
 ·obtain⟨u,v,rfl,hu,hv⟩:=(hS s).1 h
  rw[hg u v hu hv,hp _ _ u v (lb.get v hv) (la.get u hu) hu hv,la.back u hu,lb.back v hv]
theorem vQm (p:Ls.D)(w:List UInt8)(a b:Ls.Ln)(la:Lawful a)(lb:Lawful b)(wa:Ls.wf (Ls.dXx a))(va:Ls.wf (Ls.dXv a))(vb:Ls.wf (Ls.dXv b))(h1:¬Ls.iXr (Ls.dXx a) (Ls.dXx b)):Lawful ⟨5,p,w,[a,b]⟩:=by
 have hS:∀s,Ls.inL (Ls.dXx ⟨5,p,w,[a,b]⟩) s↔Ls.inL (Ls.dXx a) s\/Ls.inL (Ls.dXx b) s:=fun s=>Ls.fXr _ _ s;have hV:∀s,Ls.inL (Ls.dXv ⟨5,p,w,[a,b]⟩) s↔Ls.inL (Ls.dXv a) s\/Ls.inL (Ls.dXv b) s:=fun s=>Ls.fXr _ _ s;have ia:=Ls.eX0 _ wa;have ja:=Ls.eX0 _ va;have jb:=Ls.eX0 _ vb;have nb:∀s,Ls.inL (Ls.dXx b) s->¬Ls.inL (Ls.dXx a) s:=fun s hb ha=>h1 ⟨s,ha,hb⟩;have g1:∀s,Ls.inL (Ls.dXx a) s->A6 ⟨5,p,w,[a,b]⟩ s=A6 a s:=fun s h=>by simp[A6,(ia s).2 h]
 have g2:∀s,Ls.inL (Ls.dXx b) s->A6 ⟨5,p,w,[a,b]⟩ s=A6 b s:=fun s h=>by
  have:¬Ls.is (Ls.dXx a) s=true:=fun e=>nb s h ((ia s).1 e);simp[A6,this]
 have cr:∀v,Ls.inL (Ls.dXv a) v\/Ls.inL (Ls.dXv b) v->Ls.inL (Ls.dXx ⟨5,p,w,[a,b]⟩) (A9 ⟨5,p,w,[a,b]⟩ v)/\A6 ⟨5,p,w,[a,b]⟩ (A9 ⟨5,p,w,[a,b]⟩ v)=v:=fun v h=>by
  by_cases hv:Ls.inL (Ls.dXv a) v
  ·obtain⟨c1,c2⟩:=la.cre v hv
   have e:A9 ⟨5,p,w,[a,b]⟩ v=A9 a v:=by simp[A9,(ja v).2 hv]
   rw[e];exact⟨(hS _).2 (.inl c1),by rw[g1 _ c1,c2]⟩
  ·obtain⟨c1,c2⟩:=lb.cre v (h.resolve_left hv)
   have:¬Ls.is (Ls.dXv a) v=true:=fun e=>hv ((ja v).1 e);have e:A9 ⟨5,p,w,[a,b]⟩ v=A9 b v:=by simp[A9,this]
   rw[e];exact⟨(hS _).2 (.inr c1),by rw[g2 _ c1,c2]⟩
 refine⟨fun s h=>?_,fun v h=>cr v ((hV v).1 h),fun v s h k=>?_,fun s h=>?_⟩
 ·rcases (hS s).1 h with h|h
  ·rw[g1 s h];exact(hV _).2 (.inl (la.get s h))
  ·rw[g2 s h];exact(hV _).2 (.inr (lb.get s h))
 ·rcases (hS s).1 k with k|k
  ·by_cases hv:Ls.inL (Ls.dXv a) v
   ·have e:B4 ⟨5,p,w,[a,b]⟩ v s=B4 a v s:=by simp[B4,(ia s).2 k,(ja v).2 hv]
    obtain⟨c1,c2⟩:=la.put v s hv k;rw[e];exact⟨(hS _).2 (.inl c1),by rw[g1 _ c1,c2]⟩
   ·have n:¬Ls.is (Ls.dXv a) v=true:=fun e=>hv ((ja v).1 e)
    have e:B4 ⟨5,p,w,[a,b]⟩ v s=A9 b v:=by simp[B4,(ia s).2 k,n]
    obtain⟨c1,c2⟩:=lb.cre v (((hV v).1 h).resolve_left hv);rw[e];exact⟨(hS _).2 (.inr c1),by rw[g2 _ c1,c2]⟩
  ·have n0:¬Ls.is (Ls.dXx a) s=true:=fun e=>nb s k ((ia s).1 e)
   by_cases hv:Ls.inL (Ls.dXv b) v
   ·have e:B4 ⟨5,p,w,[a,b]⟩ v s=B4 b v s:=by simp[B4,n0,(jb v).2 hv]
    obtain⟨c1,c2⟩:=lb.put v s hv k;rw[e];exact⟨(hS _).2 (.inr c1),by rw[g2 _ c1,c2]⟩
   ·have n:¬Ls.is (Ls.dXv b) v=true:=fun e=>hv ((jb v).1 e)
    have e:B4 ⟨5,p,w,[a,b]⟩ v s=A9 a v:=by simp[B4,n0,n]
    obtain⟨c1,c2⟩:=la.cre v (((hV v).1 h).resolve_right hv);rw[e];exact⟨(hS _).2 (.inl c1),by rw[g1 _ c1,c2]⟩
 ·rcases (hS s).1 h with h|h
  ·rw[g1 s h]
   have e:B4 ⟨5,p,w,[a,b]⟩ (A6 a s) s=B4 a (A6 a s) s:=by simp[B4,(ia s).2 h,(ja _).2 (la.get s h)]
   rw[e,la.back s h]
  ·rw[g2 s h]
   have n0:¬Ls.is (Ls.dXx a) s=true:=fun e=>nb s h ((ia s).1 e);have e:B4 ⟨5,p,w,[a,b]⟩ (A6 b s) s=B4 b (A6 b s) s:=by simp[B4,n0,(jb _).2 (lb.get s h)]
   rw[e,lb.back s h]
theorem fQq {a:Ls.Ln}(la:Lawful a):(ms ns:List (List UInt8))->(∀x,x∈ms->Ls.inL (Ls.dXv a) x)->(∀x,x∈ns->Ls.inL (Ls.dXx a) x)->∃qs:List (List UInt8),H6 (B4 a) (A9 a) ms ns=qs.flatten/\(∀x,x∈qs->Ls.inL (Ls.dXx a) x)/\qs.map (A6 a)=ms
 | [],ns,_,_=>⟨[],by simp[H6],by simp,rfl⟩
 | m::ms,[],hm,hn=>by
  obtain⟨qs,h1,h2,h3⟩:=fQq la ms [] (fun x hx=>hm x (List.mem_cons_of_mem _ hx)) hn;obtain⟨c1,c2⟩:=la.cre m (hm m (List.mem_cons_self ..));refine⟨A9 a m::qs,by rw[H6,h1,List.flatten_cons],fun x hx=>?_,by rw[List.map_cons,c2,h3]⟩;rcases List.mem_cons.1 hx with rfl|hx
  ·exact c1
  ·exact h2 x hx
 | m::ms,n::ns,hm,hn=>by
  obtain⟨qs,h1,h2,h3⟩:=fQq la ms ns (fun x hx=>hm x (List.mem_cons_of_mem _ hx)) (fun x hx=>hn x (List.mem_cons_of_mem _ hx));obtain⟨c1,c2⟩:=la.put m n (hm m (List.mem_cons_self ..)) (hn n (List.mem_cons_self ..));refine⟨B4 a m n::qs,by rw[H6,h1,List.flatten_cons],fun x hx=>?_,by rw[List.map_cons,c2,h3]⟩;rcases List.mem_cons.1 hx with rfl|hx
  ·exact c1
  ·exact h2 x hx
theorem fQr {a:Ls.Ln}(la:Lawful a):(ms ns:List (List UInt8))->(∀x,x∈ms->Ls.inL (Ls.dXv a) x)->(∀x,x∈ns->Ls.inL (Ls.dXx a) x)->∃qs:List (List UInt8),E5 (B4 a) (A9 a) (A6 a) ms ns=qs.flatten/\(∀x,x∈qs->Ls.inL (Ls.dXx a) x)/\qs.map (A6 a)=ms
 | [],ns,_,_=>⟨[],by simp[E5],by simp,rfl⟩
 | m::ms,ns,hm,hn=>by
  rw[E5];cases h:D1 (fun n=>C3 (A6 a n)==C3 m) ns with
  | none=>
   obtain⟨qs,h1,h2,h3⟩:=fQr la ms ns (fun x hx=>hm x (List.mem_cons_of_mem _ hx)) hn;obtain⟨c1,c2⟩:=la.cre m (hm m (List.mem_cons_self ..));refine⟨A9 a m::qs,by rw[List.flatten_cons,<-h1],fun x hx=>?_,by rw[List.map_cons,c2,h3]⟩;rcases List.mem_cons.1 hx with rfl|hx
   ·exact c1
   ·exact h2 x hx
  | some q=>
   obtain⟨n,r⟩:=q;obtain⟨k1,k2⟩:=eQ4 _ ns n r h;obtain⟨qs,h1,h2,h3⟩:=fQr la ms r (fun x hx=>hm x (List.mem_cons_of_mem _ hx)) (fun x hx=>hn x (k2 x hx));obtain⟨c1,c2⟩:=la.put m n (hm m (List.mem_cons_self ..)) (hn n k1);refine⟨B4 a m n::qs,by rw[List.flatten_cons,<-h1],fun x hx=>?_,by rw[List.map_cons,c2,h3]⟩;rcases List.mem_cons.1 hx with rfl|hx
   ·exact c1
   ·exact h2 x hx
theorem hQ4 {a:Ls.Ln}(la:Lawful a):(ns:List (List UInt8))->(∀x,x∈ns->Ls.inL (Ls.dXx a) x)->H6 (B4 a) (A9 a) (ns.map (A6 a)) ns=ns.flatten
 | [],_=>by simp[H6]
 | n::ns,hn=>by
  rw[List.map_cons,H6,la.back n (hn n (List.mem_cons_self ..)),hQ4 la ns (fun x hx=>hn x (List.mem_cons_of_mem _ hx)),List.flatten_cons]
theorem hQ5 {a:Ls.Ln}(la:Lawful a):(ns:List (List UInt8))->(∀x,x∈ns->Ls.inL (Ls.dXx a) x)->E5 (B4 a) (A9 a) (A6 a) (ns.map (A6 a)) ns=ns.flatten
 | [],_=>by simp[E5]
 | n::ns,hn=>by
  have h:D1 (fun x=>C3 (A6 a x)==C3 (A6 a n)) (n::ns)=some (n,ns):=by
   rw[D1,if_pos (by simp)]
  rw[List.map_cons,E5,h];show B4 a (A6 a n) n++E5 (B4 a) (A9 a) (A6 a) (ns.map (A6 a)) ns=_;rw[la.back n (hn n (List.mem_cons_self ..)),hQ5 la ns (fun x hx=>hn x (List.mem_cons_of_mem _ hx)),List.flatten_cons]
theorem vQn (k:Nat)(hk:k=6\/k=7)(p:Ls.D)(w:List UInt8)(a:Ls.Ln)(la:Lawful a)(wa:Ls.wf (Ls.dXx a))(va:Ls.wf (Ls.dXv a))(h1:J2 (Ls.dXx a))(h2:J2 (Ls.dXv a)):Lawful ⟨k,p,w,[a]⟩:=by
 have hS:∀s,Ls.inL (Ls.dXx ⟨k,p,w,[a]⟩) s↔∃ps:List (List UInt8),s=ps.flatten/\∀x,x∈ps->Ls.inL (Ls.dXx a) x:=fun s=>by
  rw[Ls.dXx,if_pos hk];exact Ls.eXf _ s
 have hV:∀s,Ls.inL (Ls.dXv ⟨k,p,w,[a]⟩) s↔∃ps:List (List UInt8),s=ps.flatten/\∀x,x∈ps->Ls.inL (Ls.dXv a) x:=fun s=>by
  rw[Ls.dXv,if_pos hk];exact Ls.eXf _ s
 have ne1:¬Ls.inL (Ls.dXx a) []:=fun h=>by
  have:=(Ls.fXb _ wa).2 h;rw[h1.1]at this;cases this
 have ne2:¬Ls.inL (Ls.dXv a) []:=fun h=>by
  have:=(Ls.fXb _ va).2 h;rw[h2.1]at this;cases this
 have ps:∀ns:List (List UInt8),(∀x,x∈ns->Ls.inL (Ls.dXx a) x)->C0 (Ls.dXx a) ns.flatten.length ns.flatten=ns:=fun ns h=>U2 wa (Ls.eXl wa) ne1 h1.2 ns h _ (Nat.le_refl _);have pv:∀ms:List (List UInt8),(∀x,x∈ms->Ls.inL (Ls.dXv a) x)->C0 (Ls.dXv a) ms.flatten.length ms.flatten=ms:=fun ms h=>U2 va (Ls.eXl va) ne2 h2.2 ms h _ (Nat.le_refl _);have hg:∀ns:List (List UInt8),(∀x,x∈ns->Ls.inL (Ls.dXx a) x)->A6 ⟨k,p,w,[a]⟩ ns.flatten=(ns.map (A6 a)).flatten:=fun ns h=>by rw[A6,ps ns h]
 have mv:∀ns:List (List UInt8),(∀x,x∈ns->Ls.inL (Ls.dXx a) x)->∀x,x∈ns.map (A6 a)->Ls.inL (Ls.dXv a) x:=fun ns h x hx=>by
  obtain⟨y,hy,rfl⟩:=List.mem_map.1 hx;exact la.get y (h y hy)
 have hput:∀ms ns:List (List UInt8),(∀x,x∈ms->Ls.inL (Ls.dXv a) x)->(∀x,x∈ns->Ls.inL (Ls.dXx a) x)->B4 ⟨k,p,w,[a]⟩ ms.flatten ns.flatten=if k=7 then E5 (B4 a) (A9 a) (A6 a) ms ns else H6 (B4 a) (A9 a) ms ns:=fun ms ns h h'=>by rw[B4,pv ms h,ps ns h']
 refine⟨fun s h=>?_,fun v h=>?_,fun v s h h'=>?_,fun s h=>?_⟩
 ·obtain⟨ns,rfl,hn⟩:=(hS s).1 h
  rw[hg ns hn];exact(hV _).2 ⟨_,rfl,mv ns hn⟩
 ·obtain⟨ms,rfl,hm⟩:=(hV v).1 h
  have e:A9 ⟨k,p,w,[a]⟩ ms.flatten=(ms.map (A9 a)).flatten:=by rw[A9,pv ms hm]
  have hc:∀x,x∈ms.map (A9 a)->Ls.inL (Ls.dXx a) x:=fun x hx=>by
   obtain⟨y,hy,rfl⟩:=List.mem_map.1 hx;exact(la.cre y (hm y hy)).1
  rw[e];refine⟨(hS _).2 ⟨_,rfl,hc⟩,?_⟩;rw[hg _ hc,List.map_map];congr 1
  have:∀x,x∈ms->(A6 a ∘ A9 a) x=x:=fun x hx=>(la.cre x (hm x hx)).2;rw[List.map_congr_left this,List.map_id']
 ·obtain⟨ms,rfl,hm⟩:=(hV v).1 h
  obtain⟨ns,rfl,hn⟩:=(hS s).1 h';rw[hput ms ns hm hn];split
  ·obtain⟨qs,q1,q2,q3⟩:=fQr la ms ns hm hn
   rw[q1];exact⟨(hS _).2 ⟨_,rfl,q2⟩,by rw[hg qs q2,q3]⟩
  ·obtain⟨qs,q1,q2,q3⟩:=fQq la ms ns hm hn
   rw[q1];exact⟨(hS _).2 ⟨_,rfl,q2⟩,by rw[hg qs q2,q3]⟩
 ·obtain⟨ns,rfl,hn⟩:=(hS s).1 h
  rw[hg ns hn,hput _ ns (mv ns hn) hn];split
  ·exact hQ5 la ns hn
  ·exact hQ4 la ns hn
theorem eQc {c:Nat}:(l:Ls.Ln)->Ls.OkL c l->B6 l->Lawful l
 | ⟨k,p,w,[]⟩,h,ht=>by
  rw[Ls.OkL]at h;rw[B6]at ht;rcases h.2 with rfl|rfl|rfl
  ·exact vQh p w
  ·have hp:Ls.wf (Ls.dXu p):=by
    have:=h.1.1.ok;rw[Ls.dXx,if_pos (by simp)]at this;exact this
   exact vQi p w ((Ls.eX0 _ hp w).1 (ht rfl))
  ·have hw:Ls.wf (Ls.eXp w):=by
    have:=h.1.2.ok;rw[Ls.dXv,if_neg (by simp),if_pos rfl]at this;exact this
   exact vQj p w hw
 | ⟨k,p,w,[a]⟩,h,ht=>by
  rw[Ls.OkL]at h;rw[B6]at ht;exact vQn k h.2.1 p w a (eQc a h.2.2 ht.1) h.2.2.src.ok h.2.2.view.ok ht.2.1 ht.2.2
 | ⟨k,p,w,[a,b]⟩,h,ht=>by
  rw[Ls.OkL]at h;rw[B6]at ht;obtain⟨_,hk,oa,ob⟩:=h;obtain⟨ta,tb,t3,t4,t5⟩:=ht;have la:=eQc a oa ta;have lb:=eQc b ob tb;rcases hk with rfl|rfl|rfl
  ·exact vQk p w a b la lb oa.src.ok ob.src.ok oa.view.ok ob.view.ok (t3 rfl).1 (t3 rfl).2
  ·exact vQl p w a b la lb oa.src.ok ob.src.ok oa.view.ok ob.view.ok (t4 rfl).1 (t4 rfl).2
  ·exact vQm p w a b la lb oa.src.ok oa.view.ok ob.view.ok (t5 rfl)
 | ⟨k,p,w,_::_::_::_⟩,h,_=>by simp[Ls.OkL]at h
def dQt:List UInt8:=[60,47,91,97,45,122,93,43,47,45,47,44,47,34,44,34,47,91,48,45,57,93,43,47,45,47,59,47,34,59,34,62]
def bQ9:List UInt8:=[60,47,91,97,45,122,93,43,47,45,47,32,42,61,32,42,47,34,61,34,47,91,48,45,57,93,43,47,45,47,33,43,47,34,33,34,62]
def nQa:Ls.D:=Ls.clast (Ls.rcons (Ls.rep 6 (Ls.place Ls.az)) Ls.rnil)
def aQk:Ls.D:=Ls.clast (Ls.rcons (Ls.rep 6 (Ls.place [48,49,50,51,52,53,54,55,56,57])) Ls.rnil)
def cQq (c:UInt8):Ls.D:=Ls.clast (Ls.rcons (Ls.place [c]) Ls.rnil)
def X4:Ls.D:=Ls.clast (Ls.rcons (Ls.rep 5 (Ls.place [32])) (Ls.rcons (Ls.place [61]) (Ls.rcons (Ls.rep 5 (Ls.place [32])) Ls.rnil)))
def X5:Ls.D:=Ls.clast (Ls.rcons (Ls.rep 6 (Ls.place [33])) Ls.rnil)
def D7 (m e:Ls.D)(a b:UInt8):Ls.Ln:=Ls.dXy (Ls.eXh nQa) (Ls.dXy (Ls.dX4 m [a]) (Ls.dXy (Ls.eXh aQk) (Ls.dX4 e [b])))
def R7:Ls.Ln:=Ls.fXf (D7 (cQq 44) (cQq 59) 44 59)
def L8:Ls.Ln:=Ls.fXf (D7 X4 X5 61 33)
theorem iQ0:E2 dQt=some R7:=by kernel_rfl
theorem jQd:E2 bQ9=some L8:=by kernel_rfl
theorem uQa (Q:UInt8->Bool)(p:Ls.Pat)(hp:Ls.wf p):(∀g,g∈Ls.fXq p->∀c,Ls.has g c=true->Q c=true)->∀u,Ls.inL p u->∀c,c∈u->Q c=true:=by
 refine Ls.ind (P:=fun p=>(∀g,g∈Ls.fXq p->∀c,Ls.has g c=true->Q c=true)->∀u,Ls.inL p u->∀c,c∈u->Q c=true) ?_ ?_ ?_ ?_ ?_ p hp
 ·intro _ u h;rw[Ls.eXe]at h;subst h;simp
 ·intro g _ hf u h
  rw[Ls.fXk]at h;obtain⟨c,rfl,hc⟩:=h;intro d hd;simp only[List.mem_singleton]at hd;subst hd;exact hf g (by simp[Ls.sets_set]) d hc
 ·intro a b _ _ _ _ ia ib hf u h
  rw[Ls.gXh]at h;rw[Ls.fXh]at hf;obtain⟨x,y,rfl,hx,hy⟩:=h;intro c hc;rw[List.mem_append]at hc;rcases hc with hc|hc
  ·exact ia (fun g hg=>hf g (by simp[hg])) x hx c hc
  ·exact ib (fun g hg=>hf g (by simp[hg])) y hy c hc
 ·intro a b _ _ ia ib hf u h
  rw[Ls.fXr]at h;rw[Ls.gXk]at hf;rcases h with h|h
  ·exact ia (fun g hg=>hf g (by simp[hg])) u h
  ·exact ib (fun g hg=>hf g (by simp[hg])) u h
 ·intro a _ ia hf u h
  rw[Ls.eXf]at h;rw[Ls.sets_star]at hf;obtain⟨ps,rfl,hps⟩:=h;intro c hc;rw[List.mem_flatten]at hc;obtain⟨x,hx,hc⟩:=hc;exact ia hf x (hps x hx) c hc
def R6 (F:UInt8->Bool)(p:Ls.Pat):Bool:=(Ls.fXq p).all fun g=>g.all F
theorem fQw {F:UInt8->Bool}{p:Ls.Pat}(hp:Ls.wf p)(h:R6 F p=true){u:List UInt8}(hu:Ls.inL p u):∀c,c∈u->F c=true:=by
 refine uQa F p hp (fun g hg c hc=>?_) u hu;have h1:=List.all_eq_true.1 (List.all_eq_true.1 h g hg);unfold Ls.has at hc;rw[List.any_eq_true]at hc;obtain⟨d,hd,he⟩:=hc;rw[<-eq_of_beq he];exact h1 d hd
theorem bQt {p q:Ls.Pat}(F:UInt8->Bool)(hp:∀u c w,Ls.inL p u->Ls.inL p (u++c::w)->F c=true)(hq:∀c w,Ls.inL q (c::w)->F c=false):¬Ls.dX0 p q:=by
 rintro ⟨u,w,v,hw,h1,h2,h3,_⟩;cases w with
 | nil=>exact hw rfl
 | cons c w=>
  have a:=hp u c w h1 h2;have b:=hq c (w++v) (by simpa using h3);rw[a]at b;cases b
theorem bQo {q:Ls.Pat}(hq:Ls.wf q)(F:UInt8->Bool)(h:((List.range 256).all fun n=>!F (UInt8.ofNat n)||(Ls.behind q (UInt8.ofNat n)).isEmpty)=true):∀c w,Ls.inL q (c::w)->F c=false:=by
 intro c w hc;have h1:=List.all_eq_true.1 h c.toNat (List.mem_range.2 c.toNat_lt);rw[UInt8.ofNat_toNat]at h1;cases hF:F c with
 | false=>rfl
 | true=>
  rw[hF]at h1;obtain⟨r,hr,_⟩:=(Ls.gXs q hq c w).1 hc;simp at h1;rw[h1]at hr;cases hr
def Shape (F:UInt8->Bool)(s:List UInt8):Prop:=∃x y,s=x++y/\(∀c,c∈x->F c=false)/\(∀c,c∈y->F c=true)/\y≠[]
theorem Shape.put {F:UInt8->Bool}{s t:List UInt8}(h:Shape F t)(hs:∀c,c∈s->F c=false):Shape F (s++t):=by
 obtain⟨x,y,rfl,h1,h2,h3⟩:=h;refine⟨s++x,y,by simp,fun c hc=>?_,h2,h3⟩;rcases List.mem_append.1 hc with hc|hc
 ·exact hs c hc
 ·exact h1 c hc
theorem mQa {F:UInt8->Bool}{u w:List UInt8}{c:UInt8}(h:Shape F u)(k:Shape F (u++c::w)):F c=true:=by
 obtain⟨x,y,rfl,h1,h2,h3⟩:=h;obtain⟨x',y',he,k1,k2,_⟩:=k;have hlen:x'.length<=x.length:=by
  apply Nat.le_of_not_lt
  intro hlt;cases y with
  | nil=>exact h3 rfl
  | cons d y=>
   have e1:(x++d::y++c::w)[x.length]?=some d:=by simp
   rw[he,List.getElem?_append_left hlt]at e1;have:=k1 d (List.mem_of_getElem? e1);rw[h2 d (List.mem_cons_self ..)]at this;cases this
 have e2:(x++y++c::w)[x.length+y.length]?=some c:=by
  rw[List.getElem?_append_right (by simp)];simp
 rw[he,List.getElem?_append_right (by omega)]at e2;exact k2 c (List.mem_of_getElem? e2)
theorem gQq {F:UInt8->Bool}{p q r t:Ls.Pat}(hp:Ls.wf p)(hq:Ls.wf q)(hr:Ls.wf r)(ht:Ls.wf t)(h1:R6 (fun c=>!F c) p=true)(h2:R6 (fun c=>!F c) q=true)(h3:R6 (fun c=>!F c) r=true)(h4:R6 F t=true)(h5:Ls.empty t=false){s:List UInt8}(h:Ls.inL (Ls.row p (Ls.row q (Ls.row r t))) s):Shape F s:=by
 have w1:=Ls.eXn hr ht;have w2:=Ls.eXn hq w1;obtain⟨a,v,rfl,ha,hv⟩:=(Ls.eXi hp w2 s).1 h;obtain⟨b,v,rfl,hb,hv⟩:=(Ls.eXi hq w1 _).1 hv;obtain⟨c,d,rfl,hc,hd⟩:=(Ls.eXi hr ht _).1 hv;have no:∀{p:Ls.Pat},Ls.wf p->R6 (fun c=>!F c) p=true->∀{u},Ls.inL p u->∀c,c∈u->F c=false:=fun hp h u hu c hc=>by simpa using fQw hp h hu c hc
 have hdn:d≠[]:=fun e=>by
  rw[e]at hd;rw[(Ls.fXb t ht).2 hd]at h5;cases h5
 exact Shape.put (Shape.put (Shape.put ⟨[],d,rfl,by simp,fQw ht h4 hd,hdn⟩ (no hr h3 hc)) (no hq h2 hb)) (no hp h1 ha)
theorem dQm {F:UInt8->Bool}{p:Ls.Pat}(hp:Ls.wf p)(h:R6 F p=true):∀u c w,Ls.inL p u->Ls.inL p (u++c::w)->F c=true:=
 fun u c w _ k=>fQw hp h k c (by simp)
def M7 (c:UInt8):Bool:=decide (97<=c.toNat)&&decide (c.toNat<=122)
def M0 (c:UInt8):Bool:=decide (48<=c.toNat)&&decide (c.toNat<=57)
abbrev L6:Ls.Pat:=Ls.dXu nQa
abbrev E4:Ls.Pat:=Ls.dXu aQk
theorem dXh:L6=Ls.row (Ls.set Ls.az) (Ls.eXa (Ls.set Ls.az)):=rfl
theorem wQ0:E4=Ls.row (Ls.set [48,49,50,51,52,53,54,55,56,57]) (Ls.eXa (Ls.set [48,49,50,51,52,53,54,55,56,57])):=rfl
theorem hQt:Ls.wf (Ls.set Ls.az):=Ls.jXq (.inr ⟨by decide,by decide⟩)
theorem hQs:Ls.wf (Ls.set [48,49,50,51,52,53,54,55,56,57]):=Ls.jXq (.inr ⟨by decide,by decide⟩)
theorem V0 (c:UInt8):Ls.wf (Ls.set [c]):=Ls.jXq (.inl ⟨c,rfl⟩)
theorem P3:Ls.wf L6:=Ls.eXn hQt (Ls.eXl hQt)
theorem H9:Ls.wf E4:=Ls.eXn hQs (Ls.eXl hQs)
structure LineOk (m e:Ls.D)(a b:UInt8):Prop where
 wm:Ls.wf (Ls.dXu m)
 we:Ls.wf (Ls.dXu e)
 im:Ls.is (Ls.dXu m) [a]=true
 ie:Ls.is (Ls.dXu e) [b]=true
 f1:((List.range 256).all fun n=>!M7 (UInt8.ofNat n)||(Ls.behind (Ls.row (Ls.dXu m) (Ls.row E4 (Ls.dXu e))) (UInt8.ofNat n)).isEmpty)=true
 am:R6 (fun c=>!M0 c) (Ls.dXu m)=true
 f2:((List.range 256).all fun n=>!!M0 (UInt8.ofNat n)||(Ls.behind (Ls.row E4 (Ls.dXu e)) (UInt8.ofNat n)).isEmpty)=true
 f3:((List.range 256).all fun n=>!M0 (UInt8.ofNat n)||(Ls.behind (Ls.dXu e) (UInt8.ofNat n)).isEmpty)=true
 em:Ls.empty (Ls.dXu e)=false
 a1:R6 (fun c=>!(c==b)) L6=true
 a2:R6 (fun c=>!(c==b)) (Ls.dXu m)=true
 a3:R6 (fun c=>!(c==b)) E4=true
 a4:R6 (fun c=>c==b) (Ls.dXu e)=true
 es:Ls.empty (Ls.row L6 (Ls.row (Ls.dXu m) (Ls.row E4 (Ls.dXu e))))=false
 fs:((List.range 256).all fun n=>!(UInt8.ofNat n==b)||(Ls.behind (Ls.eXa (Ls.row L6 (Ls.row (Ls.dXu m) (Ls.row E4 (Ls.dXu e))))) (UInt8.ofNat n)).isEmpty)=true
theorem gQr (m e:Ls.D)(a b:UInt8):Ls.dXx (D7 m e a b)=Ls.row L6 (Ls.row (Ls.dXu m) (Ls.row E4 (Ls.dXu e))):=by simp[D7,Ls.dXy,Ls.eXh,Ls.dX4,Ls.dXx]
theorem gQs (m e:Ls.D)(a b:UInt8):Ls.dXv (D7 m e a b)=Ls.row L6 E4:=by
 simp[D7,Ls.dXy,Ls.eXh,Ls.dX4,Ls.dXv];rfl
theorem eQi {m e:Ls.D}{a b:UInt8}(h:LineOk m e a b):B6 (Ls.fXf (D7 m e a b)):=by
 have w3:=Ls.eXn H9 h.we;have w2:=Ls.eXn h.wm w3;have w1:=Ls.eXn P3 w2;have v1:=Ls.eXn P3 H9;have t1:=bQt M7 (dQm P3 (by decide +kernel)) (bQo w2 M7 h.f1);have t2:¬Ls.dX0 L6 E4:=bQt M7 (dQm P3 (by decide +kernel)) (bQo H9 M7 (by decide +kernel));have t3:=bQt (fun c=>!M0 c) (dQm h.wm h.am) (bQo w3 _ h.f2);have t4:¬Ls.dX0 Ls.none E4:=fun ⟨u,w,v,hw,_,h2,_⟩=>by
  rw[Ls.eXe]at h2;exact hw (List.append_eq_nil_iff.1 h2).2
 have t5:=bQt M0 (dQm H9 (by decide +kernel)) (bQo h.we M0 h.f3);have t6:¬Ls.dX0 E4 Ls.none:=fun ⟨u,w,v,hw,_,_,h3,_⟩=>by
  rw[Ls.eXe]at h3;exact hw (List.append_eq_nil_iff.1 h3).1
 have t7:=bQt (fun c=>c==b) (fun u c w h1 h2=>mQa (F:=fun c=>c==b) (gQq P3 h.wm H9 h.we h.a1 h.a2 h.a3 h.a4 h.em h1) (gQq P3 h.wm H9 h.we h.a1 h.a2 h.a3 h.a4 h.em h2)) (bQo (Ls.eXl w1) _ h.fs);have t8:¬Ls.dX0 (Ls.row L6 E4) (Ls.eXa (Ls.row L6 E4)):=by
  have e:Ls.row L6 E4=Ls.row L6 (Ls.row Ls.none (Ls.row Ls.none E4)):=rfl;have sh:∀s,Ls.inL (Ls.row L6 E4) s->Shape M0 s:=fun s hs=>by
   rw[e]at hs;exact gQq P3 Ls.fXo Ls.fXo H9 (by decide +kernel) (by decide +kernel) (by decide +kernel) (by decide +kernel) (by decide +kernel) hs
  exact bQt M0 (fun u c w h1 h2=>mQa (sh _ h1) (sh _ h2)) (bQo (Ls.eXl v1) M0 (by decide +kernel))
 have x1:Ls.dXv (Ls.dXy (Ls.eXh aQk) (Ls.dX4 e [b]))=E4:=by simp[Ls.dXy,Ls.eXh,Ls.dX4,Ls.dXv];rfl
 have x2:Ls.dXv (Ls.dXy (Ls.dX4 m [a]) (Ls.dXy (Ls.eXh aQk) (Ls.dX4 e [b])))=E4:=by simp[Ls.dXy,Ls.eXh,Ls.dX4,Ls.dXv];rfl
 have y1:Ls.dXx (Ls.dXy (Ls.eXh aQk) (Ls.dX4 e [b]))=Ls.row E4 (Ls.dXu e):=by simp[Ls.dXy,Ls.eXh,Ls.dX4,Ls.dXx]
 have y2:Ls.dXx (Ls.dXy (Ls.dX4 m [a]) (Ls.dXy (Ls.eXh aQk) (Ls.dX4 e [b])))=Ls.row (Ls.dXu m) (Ls.row E4 (Ls.dXu e)):=by simp[Ls.dXy,Ls.eXh,Ls.dX4,Ls.dXx]
 have c1:∀d,Ls.dXx (Ls.eXh d)=Ls.dXu d/\Ls.dXv (Ls.eXh d)=Ls.dXu d:=fun d=>by simp[Ls.eXh,Ls.dXx,Ls.dXv]
 have c2:∀d w,Ls.dXx (Ls.dX4 d w)=Ls.dXu d/\Ls.dXv (Ls.dX4 d w)=Ls.none:=fun d w=>by simp[Ls.dX4,Ls.dXx,Ls.dXv]
 have bt:∀x y:Ls.Ln,B6 x->B6 y->¬Ls.dX0 (Ls.dXx x) (Ls.dXx y)->¬Ls.dX0 (Ls.dXv x) (Ls.dXv y)->B6 (Ls.dXy x y):=fun x y hx hy h1 h2=>by
  unfold Ls.dXy;rw[B6];exact⟨hx,hy,fun _=>⟨h1,h2⟩,fun h=>(by cases h),fun h=>(by cases h)⟩
 have l3:B6 (Ls.dXy (Ls.eXh aQk) (Ls.dX4 e [b])):=by
  refine bt _ _ (by simp[Ls.eXh,B6]) (by simp only[Ls.dX4,B6];exact fun _=>h.ie) ?_ ?_
  ·rw[(c1 _).1,(c2 _ _).1];exact t5
  ·rw[(c1 _).2,(c2 _ _).2];exact t6
 have l2:B6 (Ls.dXy (Ls.dX4 m [a]) (Ls.dXy (Ls.eXh aQk) (Ls.dX4 e [b]))):=by
  refine bt _ _ (by simp only[Ls.dX4,B6];exact fun _=>h.im) l3 ?_ ?_
  ·rw[(c2 _ _).1,y1];exact t3
  ·rw[(c2 _ _).2,x1];exact t4
 have l1:B6 (D7 m e a b):=by
  refine bt _ _ (by simp[Ls.eXh,B6]) l2 ?_ ?_
  ·rw[(c1 _).1,y2];exact t1
  ·rw[(c1 _).2,x2];exact t2
 unfold Ls.fXf;rw[B6];refine⟨l1,?_,?_⟩
 ·rw[gQr];exact⟨h.es,t7⟩
 ·rw[gQs];exact⟨by decide +kernel,t8⟩
theorem rQy:LineOk (cQq 44) (cQq 59) 44 59:=by
 have h:∀c,Ls.dXu (cQq c)=Ls.set [c]:=fun c=>rfl;exact⟨by rw[h];exact V0 _,by rw[h];exact V0 _,by decide +kernel,by decide +kernel,by decide +kernel,by decide +kernel,by decide +kernel,by decide +kernel,by decide +kernel,by decide +kernel,by decide +kernel,by decide +kernel,by decide +kernel,by decide +kernel,by decide +kernel⟩
theorem Q7:LineOk X4 X5 61 33:=by
 have h1:Ls.dXu X4=Ls.row (Ls.eXa (Ls.set [32])) (Ls.row (Ls.set [61]) (Ls.eXa (Ls.set [32]))):=rfl;have h2:Ls.dXu X5=Ls.row (Ls.set [33]) (Ls.eXa (Ls.set [33])):=rfl;exact⟨by rw[h1];exact Ls.eXn (Ls.eXl (V0 _)) (Ls.eXn (V0 _) (Ls.eXl (V0 _))),by rw[h2];exact Ls.eXn (V0 _) (Ls.eXl (V0 _)),by decide +kernel,by decide +kernel,by decide +kernel,by decide +kernel,by decide +kernel,by decide +kernel,by decide +kernel,by decide +kernel,by decide +kernel,by decide +kernel,by decide +kernel,by decide +kernel,by decide +kernel⟩
theorem rQx:CompIs dQt 0:=.inr ⟨by decide,.inr ⟨R7,iQ0,.inr ⟨by decide +kernel,.inr ⟨eQi rQy,rfl⟩⟩⟩⟩
theorem tQd:CompIs bQ9 0:=.inr ⟨by decide,.inr ⟨L8,jQd,.inr ⟨by decide +kernel,.inr ⟨eQi Q7,rfl⟩⟩⟩⟩
end Go.Proofs.YtfklinjaajafgaaGreatDoor
namespace Go.Proofs.YtfklinjaajafgaaGreatDoor
open Go.RowKit
theorem CompilePost.known {s:ByteArray}{w:World}{e:Ending}{w':World}(h:CompilePost s w e w'){l:Ls.Ln}(hp:E2 s.data.toList=some l)(hc:CompIs s.data.toList 0):∃L p,e=.returned (.tuple #[.pointer (some ⟨L,0,none⟩),.int .i64 ((0:Nat):Int)])/\Below w.heap.size w w'/\LensV w' (B8 w w') L p l:=by
 obtain⟨v,r,h1,h2,h3,h4,h5,h6⟩:=h;obtain rfl:r=0:=h2.one hc;obtain⟨l',L,p,rfl,k1,k2,k3,k4,k5,k6,k7⟩:=h6 rfl;obtain rfl:l'=l:=Option.some.inj (k1.symm.trans hp);exact⟨L,p,h1,h5,k6,k7,fun _ hk=>hk.2,k2,k4,k3⟩
theorem hQ7 (w:World)(hC:Calls Tryz.prog 18 #[.string ⟨dQt.toArray⟩] w (CompilePost ⟨dQt.toArray⟩ w)) :
  Calls Tryz.prog 32 #[] w fun e w'=>e=.returned (.bool true)/\Below w.heap.size w w':=by
 have hC2:Calls Tryz.prog 18 #[.string ⟨#[60,47,91,97,45,122,93,43,47,45,47,44,47,34,44,34,47,91,48,45,57,93,43,47,45,47,59,47,34,59,34,62]⟩] w fun e w'=>∃L p,e=.returned (.tuple #[.pointer (some ⟨L,0,none⟩),.int .i64 ((0:Nat):Int)])/\Below w.heap.size w w'/\LensV w' (B8 w w') L p R7:=
  hC.mono (fun e w' h=>h.known iQ0 rQx)
 have HG:Hid (∀W G L p,LensV W G L p R7->(Calls Tryz.prog 24 #[.pointer (some ⟨L,0,none⟩),.string ⟨#[97,98,44,49,59]⟩] W fun e w'=>e=.returned (.tuple #[.string ⟨#[97,98,49]⟩,.int .i64 0])/\Below W.heap.size W w')):=fun W G L p h=>by
  have:=bQq ⟨#[97,98,44,49,59]⟩ (by decide) W G L p R7 h;rw[show B7 (Ls.dXx R7) (⟨#[97,98,44,49,59]⟩:ByteArray).data.toList=true by decide +kernel,show A6 R7 (⟨#[97,98,44,49,59]⟩:ByteArray).data.toList=[97,98,49] by decide +kernel]at this;exact this
 have HK:Hid (∀W G L p,LensV W G L p R7->(Calls Tryz.prog 26 #[.pointer (some ⟨L,0,none⟩),.string ⟨#[97,98,49]⟩] W fun e w'=>e=.returned (.tuple #[.string ⟨#[97,98,44,49,59]⟩,.int .i64 0])/\Below W.heap.size W w')):=fun W G L p h=>by
  have:=dQu ⟨#[97,98,49]⟩ (by decide) W G L p R7 h;rw[show B7 (Ls.dXv R7) (⟨#[97,98,49]⟩:ByteArray).data.toList=true by decide +kernel,show A9 R7 (⟨#[97,98,49]⟩:ByteArray).data.toList=[97,98,44,49,59] by decide +kernel]at this;exact this
 clear hC;go_enter Tryz.func32,Tryz.ntmps32;go_wp2_with fail;refine hC2.mono ?_;clear hC2;rintro e w1 ⟨L,p,rfl,hb1,hL⟩;have hG:=HG.out w1 _ L p hL;have HL:Hid (LensV w1 (B8 w w1) L p R7):=hL;clear hL;go_wp2_with fail;refine hG.mono ?_;clear hG;rintro e w2 ⟨rfl,hb2⟩;have hK:=HK.out w2 _ L p (HL.out.below hb2);go_wp2_with fail;refine hK.mono ?_;clear hK;rintro e w3 ⟨rfl,hb3⟩;go_wp2_with fail;go_ret;exact⟨rfl,Below.join hb1 (Below.join hb2 hb3)⟩
theorem Z8 (s:ByteArray)(w:World):Calls Tryz.prog 33 #[.string s] w fun e w'=>e=.returned (.bool (decide (s.size<=60)))/\Below w.heap.size w w':=by
 by_cases h:s.size<=60
 ·have h2:(s.size:Int)<=60:=by omega
  rw[decide_eq_true h];go_enter Tryz.func33,Tryz.ntmps33;go_wp2_with fail;go_ret;exact⟨rfl,Below.refl _ _⟩
 ·have h2:¬(s.size:Int)<=60:=by omega
  rw[decide_eq_false h];go_enter Tryz.func33,Tryz.ntmps33;go_wp2_with fail;go_ret;exact⟨rfl,Below.refl _ _⟩
end Go.Proofs.YtfklinjaajafgaaGreatDoor
