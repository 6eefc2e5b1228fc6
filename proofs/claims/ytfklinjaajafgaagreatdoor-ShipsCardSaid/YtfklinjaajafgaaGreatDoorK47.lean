import Derived.Test.YtfklinjaajafgaaGreatDoorK01
import Derived.Test.YtfklinjaajafgaaGreatDoorK03
import Derived.Deep.RegionHeld
import Derived.Deep.DeepCutAuto
import Derived.Maps.OwnSet
import Derived.DeepKeys4
import Derived.Deep.RegionLaw
import Derived.Deep.AppendLies
import Derived.Test.YtfklinjaajafgaaGreatDoorK41
set_option maxRecDepth 100000
set_option maxHeartbeats 4000000
namespace Ls
structure Au where
 nx:Nat->Nat->Bool
 tk:Nat->UInt8->Bool
 en:Nat->Bool
def Wk (A:Au):Nat->List UInt8->Nat->Prop
 | p,[],q=>p=q
 | p,c::u,q=>∃r,A.nx p r=true/\A.tk r c=true/\Wk A r u q
theorem iXp (A:Au)(p:Nat)(u v:List UInt8)(q:Nat):Wk A p (u++v) q↔∃r,Wk A p u r/\Wk A r v q:=by
 induction u generalizing p with
 | nil=>simp[Wk]
 | cons c u ih=>
  simp only[List.cons_append,Wk];constructor
  ·rintro ⟨r,h1,h2,h3⟩
   obtain⟨s,h4,h5⟩:=(ih r).1 h3;exact⟨s,⟨r,h1,h2,h4⟩,h5⟩
  ·rintro ⟨s,⟨r,h1,h2,h4⟩,h5⟩
   exact⟨r,h1,h2,(ih r).2 ⟨s,h4,h5⟩⟩
theorem gXl {A:Au}{p:Nat}{u:List UInt8}{q r:Nat}{c:UInt8}(h:Wk A p u q)(h1:A.nx q r=true)(h2:A.tk r c=true):Wk A p (u++[c]) r:=
 (iXp A p u [c] r).2 ⟨q,h,r,h1,h2,rfl⟩
def Lg (A:Au)(u:List UInt8):Prop:=∃q,Wk A 0 u q/\A.en q=true
def Stp (A B:Au)(s t:Pr):Prop:=t.1=s.1/\A.nx s.2.1 t.2.1=true/\B.nx s.2.2 t.2.2=true/\∃c,A.tk t.2.1 c=true/\B.tk t.2.2 c=true
def Reach (N:Pr->Pr->Prop)(a s:Pr):Prop:=∀P:Pr->Prop,P a->(∀x y,P x->N x y->P y)->P s
theorem Reach.refl (N:Pr->Pr->Prop)(a:Pr):Reach N a a:=fun _ h _=>h
theorem Reach.step {N:Pr->Pr->Prop}{a s t:Pr}(h:Reach N a s)(h1:N s t):Reach N a t:=fun P h2 h3=>h3 _ _ (h P h2 h3) h1
theorem hXl {N:Pr->Pr->Prop}{a:Pr}{A B:Au}{f:Nat}(hN:∀s t:Pr,s.1=f->Stp A B s t->N s t):∀(u:List UInt8) (p q p' q':Nat),Reach N a (f,p,q)->Wk A p u p'->Wk B q u q'->Reach N a (f,p',q')
 | [],p,q,p',q',h,h1,h2=>by
  simp only[Wk]at h1 h2;subst h1 h2;exact h
 | c::u,p,q,p',q',h,h1,h2=>by
  obtain⟨r,h3,h4,h5⟩:=h1;obtain⟨s,h6,h7,h8⟩:=h2;exact hXl hN u r s p' q' (h.step (hN _ (f,r,s) rfl ⟨rfl,h3,h6,c,h4,h7⟩)) h5 h8
def kXj (A B:Au)(s:Pr):Prop:=A.en s.2.1=true/\B.en s.2.2=true
theorem jXt (A B:Au):(∃s,Reach (Stp A B) (0,0,0) s/\kXj A B s)↔∃u,Lg A u/\Lg B u:=by
 constructor
 ·rintro ⟨s,h,h1,h2⟩
  have:=h (fun s=>∃u,Wk A 0 u s.2.1/\Wk B 0 u s.2.2) ⟨[],rfl,rfl⟩ (by
   rintro x y ⟨u,h3,h4⟩ ⟨_,h5,h6,c,h7,h8⟩;exact⟨u++[c],gXl h3 h5 h7,gXl h4 h6 h8⟩)
  obtain⟨u,h3,h4⟩:=this;exact⟨u,⟨_,h3,h1⟩,⟨_,h4,h2⟩⟩
 ·rintro ⟨u,⟨p,h1,h2⟩,⟨q,h3,h4⟩⟩
  exact⟨(0,p,q),hXl (f:=0) (fun _ _ _ h=>h) u 0 0 p q (Reach.refl _ _) h1 h3,h2,h4⟩
def NxO (A B:Au)(s t:Pr):Prop:=
 (s.1=0/\(Stp A A s t\/(A.en s.2.1=true/\Stp B A (1,0,s.2.2) t)))\/
 (s.1=1/\(Stp B A s t\/(A.en s.2.2=true/\t=(2,s.2.1,0))))\/
 (s.1=2/\Stp B B s t)
def jX2 (B:Au)(s:Pr):Prop:=s.1=2/\B.en s.2.1=true/\B.en s.2.2=true
def Way (A B:Au)(s:Pr):Prop:=
 (s.1=0/\∃u,Wk A 0 u s.2.1/\Wk A 0 u s.2.2)\/
 (s.1=1/\∃u w,w≠[]/\Lg A u/\Wk B 0 w s.2.1/\Wk A 0 (u++w) s.2.2)\/
 (s.1=2/\∃u w v,w≠[]/\Lg A u/\Lg A (u++w)/\Wk B 0 (w++v) s.2.1/\Wk B 0 v s.2.2)
theorem lXr {A B:Au}{s t:Pr}(h:Way A B s)(h1:NxO A B s t):Way A B t:=by
 rcases h1 with⟨e,h1⟩|⟨e,h1⟩|⟨e,h1⟩
 ·rcases h with⟨_,u,h2,h3⟩|⟨e2,_⟩|⟨e2,_⟩
  ·rcases h1 with⟨e1,h5,h6,c,h7,h8⟩|⟨h4,e1,h5,h6,c,h7,h8⟩
   ·exact .inl ⟨by omega,u++[c],gXl h2 h5 h7,gXl h3 h6 h8⟩
   ·exact .inr (.inl ⟨e1,u,[c],by simp,⟨_,h2,h4⟩,⟨_,h5,h7,rfl⟩,gXl h3 h6 h8⟩)
  ·omega
  ·omega
 ·rcases h with⟨e2,_⟩|⟨_,u,w,hw,h2,h3,h4⟩|⟨e2,_⟩
  ·omega
  ·rcases h1 with⟨e1,h5,h6,c,h7,h8⟩|⟨h5,rfl⟩
   ·exact .inr (.inl ⟨by omega,u,w++[c],by simp,h2,gXl h3 h5 h7,by rw[<-List.append_assoc];exact gXl h4 h6 h8⟩)
   ·exact .inr (.inr ⟨rfl,u,w,[],hw,h2,⟨_,h4,h5⟩,by simpa using h3,rfl⟩)
  ·omega
 ·rcases h with⟨e2,_⟩|⟨e2,_⟩|⟨_,u,w,v,hw,h2,h3,h4,h5⟩
  ·omega
  ·omega
  ·obtain⟨e1,h6,h7,c,h8,h9⟩:=h1
   exact .inr (.inr ⟨by omega,u,w,v++[c],hw,h2,h3,by rw[<-List.append_assoc];exact gXl h4 h6 h8,gXl h5 h7 h9⟩)
theorem kXf (A B:Au):(∃s,Reach (NxO A B) (0,0,0) s/\jX2 B s)↔∃u w v,w≠[]/\Lg A u/\Lg A (u++w)/\Lg B (w++v)/\Lg B v:=by
 constructor
 ·rintro ⟨s,h,e,h1,h2⟩
  rcases h (Way A B) (.inl ⟨rfl,[],rfl,rfl⟩) (fun x y h3 h4=>lXr h3 h4) with⟨e2,_⟩|⟨e2,_⟩|⟨_,u,w,v,hw,h3,h4,h5,h6⟩
  ·omega
  ·omega
  ·exact⟨u,w,v,hw,h3,h4,⟨_,h5,h1⟩,⟨_,h6,h2⟩⟩
 ·rintro ⟨u,w,v,hw,⟨p,h1,h2⟩,⟨q,h3,h4⟩,⟨p',h5,h6⟩,⟨q',h7,h8⟩⟩
  obtain⟨c,w,rfl⟩:∃c w',w=c::w':=by
   cases w with
   | nil=>exact absurd rfl hw
   | cons c w=>exact⟨c,w,rfl⟩
  obtain⟨m,h9,h10⟩:=(iXp A 0 u (c::w) q).1 h3;obtain⟨r,h11,h12,h13⟩:=h10;obtain⟨k,h14,h15⟩:=(iXp B 0 (c::w) v p').1 h5;obtain⟨l,h16,h17,h18⟩:=h14;have r0:=hXl (N:=NxO A B) (a:=(0,0,0)) (A:=A) (B:=A) (f:=0) (fun s t e h=>.inl ⟨e,.inl h⟩) u 0 0 p m (Reach.refl _ _) h1 h9;have r1:Reach (NxO A B) (0,0,0) (1,l,r):=r0.step (.inl ⟨rfl,.inr ⟨h2,rfl,h16,h11,c,h17,h12⟩⟩);have r2:=hXl (N:=NxO A B) (a:=(0,0,0)) (A:=B) (B:=A) (f:=1) (fun s t e h=>.inr (.inl ⟨e,.inl h⟩)) w l r k q r1 h18 h13;have r3:Reach (NxO A B) (0,0,0) (2,k,0):=r2.step (.inr (.inl ⟨rfl,.inr ⟨h4,rfl⟩⟩));have r4:=hXl (N:=NxO A B) (a:=(0,0,0)) (A:=B) (B:=B) (f:=2) (fun s t e h=>.inr (.inr ⟨e,h⟩)) v k 0 p' q' r3 h15 h7;exact⟨_,r4,rfl,h6,h8⟩
structure Sch (N:Pr->Pr->Prop)(bad:Pr->Prop)(a:Pr)(M O:List Pr):Prop where
 first:a∈M
 sub:∀x,x∈O->x∈M
 came:∀x,x∈M->Reach N a x
 done:∀x,x∈M->x ∉ O->¬bad x/\∀y,N x y->y∈M
theorem Sch.start (N:Pr->Pr->Prop)(bad:Pr->Prop)(a:Pr):Sch N bad a [a] [a]:=⟨by simp,fun _ h=>h,fun x h=>by simp at h;subst h;exact Reach.refl _ _,fun x h1 h2=>absurd h1 h2⟩
theorem Sch.none {N:Pr->Pr->Prop}{bad:Pr->Prop}{a:Pr}{M:List Pr}(h:Sch N bad a M []):¬∃s,Reach N a s/\bad s:=by
 rintro ⟨s,h1,h2⟩;have:=h1 (fun s=>s∈M) h.first (fun x y h3 h4=>(h.done x h3 (by simp)).2 y h4);exact(h.done s this (by simp)).1 h2
theorem Sch.next {N:Pr->Pr->Prop}{bad:Pr->Prop}{a x:Pr}{M O T:List Pr}(h:Sch N bad a M (O++[x]))(hb:¬bad x)(hT:∀y,y∈T->N x y)(hall:∀y,N x y->y∈M++T):Sch N bad a (M++T) (O++T):=by
 refine⟨by simp[h.first],?_,?_,?_⟩
 ·intro y hy
  rcases List.mem_append.1 hy with h1|h1
  ·exact List.mem_append_left _ (h.sub y (by simp[h1]))
  ·exact List.mem_append_right _ h1
 ·intro y hy
  rcases List.mem_append.1 hy with h1|h1
  ·exact h.came y h1
  ·exact(h.came x (h.sub x (by simp))).step (hT y h1)
 ·intro y hy hn
  simp only[List.mem_append,not_or]at hn
  by_cases e:y=x
  ·subst e;exact⟨hb,hall⟩
  ·have h1:y∈M:=by
    rcases List.mem_append.1 hy with h1|h1
    ·exact h1
    ·exact absurd h1 hn.2
   obtain⟨h2,h3⟩:=h.done y h1 (by simp[hn.1,e]);exact⟨h2,fun z hz=>List.mem_append_left _ (h3 z hz)⟩
def au (n:Net)(x:Span):Au where
 nx p q:=match p,q with
  | _,0=>false
  | 0,q+1=>x.first.testBit q
  | p+1,q+1=>(n.behind.getD p 0).testBit q
 tk q c:=match q with
  | 0=>false
  | q+1=>has (n.places.getD q []) c
 en p:=match p with
  | 0=>x.empty
  | p+1=>x.last.testBit p
theorem iXw (n:Net)(x:Span)(p:Nat):(au n x).nx p 0=false:=by cases p<;>rfl
theorem jX1 (n:Net)(x:Span):∀(u:List UInt8) (p:Nat),Acc (fXa n) (lb x) u p↔∃q,Wk (au n x) (p+1) u q/\(au n x).en q=true
 | [],p=>by
  constructor
  ·intro h;exact⟨p+1,rfl,h⟩
  ·rintro ⟨q,h1,h2⟩
   simp only[Wk]at h1;subst h1;exact h2
 | c::u,p=>by
  constructor
  ·rintro ⟨q,h1,h2,h3⟩
   obtain⟨r,h4,h5⟩:=(jX1 n x u q).1 h3;exact⟨r,⟨q+1,h1,h2,h4⟩,h5⟩
  ·rintro ⟨r,⟨q,h1,h2,h4⟩,h5⟩
   cases q with
   | zero=>rw[iXw]at h1;cases h1
   | succ q=>exact⟨q,h1,h2,(jX1 n x u q).2 ⟨r,h4,h5⟩⟩
theorem lX5 {n:Net}{x:Span}{q:Nat}{c:UInt8}(h:(au n x).tk q c=true):∃i,q=i+1/\i<n.places.length:=by
 cases q with
 | zero=>cases h
 | succ i=>
  refine⟨i,rfl,?_⟩;rcases Nat.lt_or_ge i n.places.length with h1|h1
  ·exact h1
  ·have h2:has (n.places.getD i []) c=true:=h
   rw[List.getD_eq_getElem?_getD,List.getElem?_eq_none h1]at h2;simp[has]at h2
end Ls
namespace Go.Proofs.YtfklinjaajafgaaGreatDoor
open Go.RowKit Go.Maps
theorem vQg:laidOutB Tryz.prog=true:=by kernel_rfl
theorem dXa:(match Tryz.prog.underlying 112 with|some (.array _ _)|some (.struct _)=>true|_=>false)=true:=by rw[Tryz.underlying112]
theorem aXw:(112:TypeId)<Tryz.prog.types.size:=of_decide_eq_true (by kernel_rfl)
theorem eQb:Keyed Tryz.prog 112:=Keyed.of_law (deep_law_laid vQg (m:=2) (Nat.le_of_ble_eq_true rfl) aXw (by kernel_rfl) dXa)
theorem dXq (w:World):(zeroValue 159).run Tryz.prog w=.ok (.agg #[]) w:=by kernel_rfl
theorem uQ6:Tryz.prog.keyType 112=true:=by kernel_rfl
theorem uQy:Tryz.prog.cellsOf 112=3:=by kernel_rfl
theorem uQz:Tryz.prog.cellsOf 3=1:=by kernel_rfl
theorem uQ0 (a b c:Int)(ha:(Lit.int .i64 a).wf=true)(hb:(Lit.int .i64 b).wf=true)(hc:(Lit.int .i64 c).wf=true):∃l,keyOf Tryz.prog 112 (.agg #[.int .i64 a,.int .i64 b,.int .i64 c])=some l:=by
 obtain⟨d,hd⟩:∃d,Tryz.prog.types.size+1=d+1+1:=⟨_,rfl⟩;unfold keyOf;rw[hd,Tryz.underlying112];clear hd;simp only[uQ6,Program.keyLits,Tryz.underlying112];simp[Value.formed,Tryz.underlying112,uQy,uQz,Value.cells,ha,hb,hc]
abbrev j5 (s:Ls.Pr):List Value:=[.int .i64 (s.1:Nat),.int .i64 ((s.2.1:Int)-1),.int .i64 ((s.2.2:Int)-1)]
abbrev F8 (s:Ls.Pr):Value:=.agg #[.int .i64 (s.1:Nat),.int .i64 ((s.2.1:Int)-1),.int .i64 ((s.2.2:Int)-1)]
theorem cQb (O:List Ls.Pr):(O.flatMap j5).length=O.length*3:=by
 induction O with
 | nil=>rfl
 | cons x O ih=>rw[List.flatMap_cons,List.length_append,ih];simp;omega
def Rg (s:Ls.Pr):Prop:=(s.1=0\/s.1=1\/s.1=2)/\s.2.1<33/\s.2.2<33
theorem jQ5 {s:Ls.Pr}(h:Rg s):∃l,keyOf Tryz.prog 112 (F8 s)=some l:=by
 obtain⟨h1,h2,h3⟩:=h;exact uQ0 _ _ _ (WalkArith.wf_i64 (by omega)) (WalkArith.wf_i64 (by omega)) (WalkArith.wf_i64 (by omega))
theorem bXi {s t:Ls.Pr}(h:F8 s=F8 t):s=t:=by
 obtain⟨a,b,c⟩:=s;obtain⟨x,y,z⟩:=t;simp only[F8,Value.agg.injEq,Array.mk.injEq,List.cons.injEq,Value.int.injEq,true_and,and_true]at h;obtain⟨h1,h2,h3⟩:=h;simp only[Prod.mk.injEq];omega
def MapOf (D:DataW Unit)(M:List Ls.Pr):Prop:=∀s l,Rg s->keyOf Tryz.prog 112 (F8 s)=some l->(Maps.has D l=true↔s∈M)
theorem MapOf.put {D:DataW Unit}{M:List Ls.Pr}(h:MapOf D M)(hD:IsMap D){s:Ls.Pr}{l:Lit}(hl:keyOf Tryz.prog 112 (F8 s)=some l)(d:DataW Unit):MapOf (D.put l d) (M++[s]):=by
 intro t k ht hk
 by_cases e:t=s
 ·subst e
  obtain rfl:l=k:=Option.some.inj (hl.symm.trans hk);simp[has_put_same hD (eQb.key hl) d]
 ·have hne:k≠l:=fun e2=>e (bXi (eQb.inj hk (e2▸hl)))
  rw[has_put_other hne,h t k ht hk];simp[e]
structure Srch (w:World)(B sb mb:Nat)(V:Value)(M O:List Ls.Pr):Prop where
 lies:w.heap[sb]?=some (.cells #[.map (some mb),V] 116 (0,0))
 map:∃D:DataW Unit,w.ownsMap Tryz.prog 112 unitElem mb M.length D/\MapOf D M
 row:w.ownsRow B 112 3 V O.length (O.flatMap j5)
 bs:B<=sb
 bm:B<=mb
 apM:sb≠mb
 apV:V.ownBlock≠some sb
 apVM:V.ownBlock≠some mb
 nodup:M.Nodup
 rg:∀s,s∈M->Rg s
 sub:∀s,s∈O->s∈M
 le:O.length<=M.length
theorem aXv {w w':World}{B:Nat}{e:TypeId}{sz:Nat}{v:Value}{m:Nat}{xs:List Value}(ho:w.ownsRow B e sz v m xs)(hk:∀k,v.ownBlock=some k->w'.heap[k]?=w.heap[k]?):w'.ownsRow B e sz v m xs:=by
 refine⟨ho.1,?_⟩;rcases ho.2 with h4|⟨g,cap,cur,rfl,hbg,hg,h5⟩
 ·exact .inl h4
 ·exact .inr ⟨g,cap,cur,rfl,hbg,by rw[hk g rfl];exact hg,h5⟩
theorem xQo {H:Type}{w w':World}{P:Program}{k:TypeId}{R:Value->Option (DataW H × List MemPlace)}{b n:Nat}{D:DataW H}(h:w.ownsMap P k R b n D)(hb:w'.heap[b]?=w.heap[b]?):w'.ownsMap P k R b n D:=by
 obtain⟨es,clock,h1,h2⟩:=h;exact⟨es,clock,hb.trans h1,h2⟩
theorem Srch.lt {w:World}{B sb mb:Nat}{V:Value}{M O:List Ls.Pr}(h:Srch w B sb mb V M O):sb<w.heap.size:=(Array.getElem?_eq_some_iff.1 h.lies).1
theorem Srch.ltm {w:World}{B sb mb:Nat}{V:Value}{M O:List Ls.Pr}(h:Srch w B sb mb V M O):mb<w.heap.size:=by
 obtain⟨D,h1,_⟩:=h.map;exact h1.lt
theorem Srch.same {w w':World}{B sb mb:Nat}{V:Value}{M O:List Ls.Pr}(h:Srch w B sb mb V M O)(h1:w'.heap[sb]?=w.heap[sb]?)(h2:w'.heap[mb]?=w.heap[mb]?)(h3:∀k,V.ownBlock=some k->w'.heap[k]?=w.heap[k]?):Srch w' B sb mb V M O:=by
 obtain⟨D,hD,hM⟩:=h.map;exact⟨h1.trans h.lies,⟨D,xQo hD h2,hM⟩,aXv h.row h3,h.bs,h.bm,h.apM,h.apV,h.apVM,h.nodup,h.rg,h.sub,h.le⟩
theorem Srch.below {w w':World}{B sb mb:Nat}{V:Value}{M O:List Ls.Pr}(h:Srch w B sb mb V M O)(hb:Below w.heap.size w w'):Srch w' B sb mb V M O:=
 h.same (hb.block _ h.lt) (hb.block _ h.ltm) (fun k hk=>hb.block k (h.row.lt k hk).2)
theorem Srch.few {w:World}{B sb mb:Nat}{V:Value}{M O:List Ls.Pr}(h:Srch w B sb mb V M O):M.length<=3267:=by
 have:=bXm (N:=33) h.nodup h.rg;omega
theorem Srch.shape {w:World}{B sb mb:Nat}{V:Value}{M O:List Ls.Pr}(h:Srch w B sb mb V M O):∃a cap,V=.slice a O.length cap:=by
 rcases xQp h.row with⟨h1,h2⟩|⟨g,cap,h1⟩
 ·exact⟨_,_,by rw[h1,h2]⟩
 ·exact⟨_,_,h1⟩
theorem Srch.met {w w1 w2:World}{B sb mb:Nat}{V V':Value}{M O:List Ls.Pr}(h:Srch w B sb mb V M O){s:Ls.Pr}(hs:Rg s)(hn:s ∉ M){l:Lit}(hl:keyOf Tryz.prog 112 (F8 s)=some l){D:DataW Unit}{d:DataW Unit}
  (hI:IsMap D) (hM:MapOf D M) (h1:w1.ownsMap Tryz.prog 112 unitElem mb (M.length+1) (D.put l d)) (hg1:w.grownBy w1 (some mb)) (o:Obj)
  (h2:w2.ownsRow B 112 3 V' (O.length+1) (O.flatMap j5++j5 s)) (hg2:(w1.alloc o).grownBy w2 V.ownBlock) (hV:V'.ownBlock=V.ownBlock\/∃k,V'.ownBlock=some k/\w1.heap.size+1<=k) :
  Srch (w2.setCell ⟨sb,1,none⟩ V') B sb mb V' (M++[s]) (O++[s]):=by
 have hls:=h.lt;have hlm:=h.ltm;have z1:=hg1.size;have z2:=hg2.size;simp at z2;have hset:=T9 w2 sb 1 V';have a1:V'.ownBlock≠some sb:=by
  rcases hV with e|⟨k,e,hk⟩
  ·rw[e];exact h.apV
  ·rw[e];simp;omega
 have a2:V'.ownBlock≠some mb:=by
  rcases hV with e|⟨k,e,hk⟩
  ·rw[e];exact h.apVM
  ·rw[e];simp;omega
 refine⟨?_,⟨D.put l d,?_,hM.put hI hl d⟩,?_,h.bs,h.bm,h.apM,a1,a2,?_,?_,?_,?_⟩
 ·have e1:=hg1.block sb hls (by simp[h.apM])
  have e2:=hg2.block sb (by simp;omega) (Ne.symm h.apV);rw[Below.heap_alloc _ _ _ (by omega),e1,h.lies]at e2;simp[World.setCell,Array.getElem?_modify,e2]
 ·have e3:w2.ownsMap Tryz.prog 112 unitElem mb (M.length+1) (D.put l d):=(h1.alloc o).kept hg2 (Ne.symm h.apVM)
  have:=e3.kept hset (by simp[Ne.symm h.apM]);simpa using this
 ·have:=h2.kept hset (.inr a1)
  simpa using this
 ·rw[List.nodup_append]
  exact⟨h.nodup,by simp,fun a ha b hb=>by simp at hb;subst hb;rintro rfl;exact hn ha⟩
 ·intro t ht
  rcases List.mem_append.1 ht with h3|h3
  ·exact h.rg t h3
  ·simp at h3;subst h3;exact hs
 ·intro t ht
  rcases List.mem_append.1 ht with h3|h3
  ·exact List.mem_append_left _ (h.sub t h3)
  ·exact List.mem_append_right _ h3
 ·have:=h.le
  simp;exact this
theorem Srch.pop {w:World}{B sb mb:Nat}{V:Value}{M O:List Ls.Pr}{x:Ls.Pr}(h:Srch w B sb mb V M (O++[x])):∃g cap,V=.slice (some ⟨g,0,none⟩) (O.length+1) cap/\O.length+1<=cap/\(∀j,j<3->w.cell? ⟨g,O.length*3+j,none⟩=(j5 x)[j]?)/\g≠sb/\g<w.heap.size/\
  Srch (w.setCell ⟨sb,1,none⟩ (.slice (some ⟨g,0,none⟩) O.length cap)) B sb mb (.slice (some ⟨g,0,none⟩) O.length cap) M O:=by
 have hrow:=h.row;obtain⟨hlen,hrest⟩:=h.row;rcases hrest with⟨_,h2⟩|⟨g,cap,cur,rfl,hbg,hg,hc1,hc2,hc3,hc4⟩
 ·simp at h2
 ·have hap:g≠sb:=fun e=>h.apV (by rw[<-e];rfl)
  have hgl:=(Array.getElem?_eq_some_iff.1 hg).1;simp only[List.length_append,List.length_singleton]at hc1 hc4 hrow hlen ⊢;refine⟨g,cap,rfl,hc1,?_,hap,hgl,?_⟩
  ·intro j hj
   rw[hrow.cellAt _ (by omega),List.flatMap_append,List.getElem?_append_right (by rw[cQb];omega),cQb,Nat.add_sub_cancel_left,List.flatMap_singleton]
  ·have hset:=T9 w sb 1 (.slice (some ⟨g,0,none⟩) O.length cap)
   obtain⟨D,hD,hM⟩:=h.map;refine⟨?_,⟨D,hD.kept hset (by simp[Ne.symm h.apM]),hM⟩,?_,h.bs,h.bm,h.apM,?_,?_,h.nodup,h.rg,fun s hs=>h.sub s (by simp[hs]),?_⟩
   ·have:=h.lies
    simp[World.setCell,Array.getElem?_modify,this]
   ·refine World.ownsRow.kept (w:=w) ⟨cQb O,.inr ⟨g,cap,cur,rfl,hbg,hg,by omega,hc2,hc3,?_⟩⟩ hset (.inr (by show some g≠some sb;simp[hap]))
    have e1:=congrArg (List.take (O.length*3)) hc4;rw[List.take_take,Nat.min_eq_left (by omega),List.flatMap_append,List.take_append_of_le_length (by rw[cQb];omega)]at e1;rw[e1,List.take_of_length_le (by rw[cQb];omega)]
   ·show some g≠some sb;simp[hap]
   ·exact h.apVM
   ·have:=h.le;simp at this;omega
def cQ8 (w:World)(sb mb:Nat)(V:Value)(k:Nat):Prop:=k<w.heap.size/\k≠sb/\k≠mb/\some k≠V.ownBlock
structure SStep (w:World)(sb mb:Nat)(V:Value)(w':World)(V':Value):Prop where
 os:w'.os=w.os
 tape:w'.tape=w.tape
 output:w'.output=w.output
 size:w.heap.size<=w'.heap.size
 block:∀k,cQ8 w sb mb V k->w'.heap[k]?=w.heap[k]?
 row:V'.ownBlock=V.ownBlock\/∃k,V'.ownBlock=some k/\w.heap.size<=k
theorem SStep.free {w w':World}{sb mb:Nat}{V V':Value}(h:SStep w sb mb V w' V'){k:Nat}(hk:cQ8 w sb mb V k):cQ8 w' sb mb V' k:=by
 refine⟨Nat.lt_of_lt_of_le hk.1 h.size,hk.2.1,hk.2.2.1,?_⟩;rcases h.row with e|⟨m,e,hm⟩
 ·rw[e];exact hk.2.2.2
 ·rw[e];have:=hk.1;simp;omega
theorem SStep.trans {w w1 w2:World}{sb mb:Nat}{V V1 V2:Value}(h:SStep w sb mb V w1 V1)(k:SStep w1 sb mb V1 w2 V2):SStep w sb mb V w2 V2:=by
 refine⟨k.os.trans h.os,k.tape.trans h.tape,k.output.trans h.output,Nat.le_trans h.size k.size,fun i hi=>(k.block i (h.free hi)).trans (h.block i hi),?_⟩;rcases k.row with e|⟨m,e,hm⟩
 ·rw[e];exact h.row
 ·exact .inr ⟨m,e,Nat.le_trans h.size hm⟩
theorem SStep.of_below {w w':World}(sb mb:Nat)(V:Value)(h:Below w.heap.size w w'):SStep w sb mb V w' V:=⟨h.os,h.tape,h.output,h.size,fun k hk=>h.block k hk.1,.inl rfl⟩
theorem SStep.below {w w':World}{B sb mb:Nat}{V V':Value}{M O:List Ls.Pr}(h:SStep w sb mb V w' V')(hS:Srch w B sb mb V M O)(hB:B<=w.heap.size):Below B w w':=by
 refine⟨h.os,h.tape,h.output,h.size,fun k hk=>h.block k ⟨by omega,?_,?_,?_⟩⟩
 ·have:=hS.bs;omega
 ·have:=hS.bm;omega
 ·intro e
  have:=(hS.row.lt k e.symm).1;omega
theorem Srch.free {w:World}{B sb mb:Nat}{V:Value}{M O:List Ls.Pr}(h:Srch w B sb mb V M O)(o:Obj):cQ8 (w.alloc o) sb mb V w.heap.size:=by
 refine⟨by simp,?_,?_,?_⟩
 ·have:=h.lt;omega
 ·have:=h.ltm;omega
 ·intro e
  have:=(h.row.lt _ e.symm).2;omega
end Go.Proofs.YtfklinjaajafgaaGreatDoor
namespace Go.Proofs.YtfklinjaajafgaaGreatDoor
open Go.RowKit
theorem wQj (lo hi lo' hi':Nat)(h1:lo<18446744073709551616)(h2:hi<18446744073709551616)(h3:lo'<18446744073709551616)(h4:hi'<18446744073709551616) :
  (bits .or .u64 (bits .and .u64 (lo:Int) (lo':Int)) (bits .and .u64 (hi:Int) (hi':Int)) != 0)=true↔∃k,k<128/\F9 lo hi k=true/\F9 lo' hi' k=true:=by
 have a1:lo &&& lo'<18446744073709551616:=Nat.lt_of_le_of_lt Nat.and_le_left h1;have a2:hi &&& hi'<18446744073709551616:=Nat.lt_of_le_of_lt Nat.and_le_left h2;rw[u64_and_nat lo lo' h1 h3,u64_and_nat hi hi' h2 h4,u64_or_nat _ _ a1 a2];have small:∀y:Nat,y<18446744073709551616->∀k,y.testBit k=true->k<64:=fun y hy k hk=>by
  rcases Nat.lt_or_ge k 64 with h|h
  ·exact h
  ·have h5:y<2 ^ k:=Nat.lt_of_lt_of_le hy (Nat.pow_le_pow_right (n:=2) (by omega) h)
   rw[Nat.testBit_lt_two_pow h5]at hk;cases hk
 constructor
 ·intro h
  have h1:(lo &&& lo') ||| (hi &&& hi')≠0:=by intro e;rw[e]at h;simp at h
  obtain⟨q,hq⟩:=Nat.exists_testBit_of_ne_zero h1;simp only[Nat.testBit_or,Nat.testBit_and,Bool.or_eq_true,Bool.and_eq_true]at hq;rcases hq with⟨h5,h6⟩|⟨h5,h6⟩
  ·have h7:=small lo (by omega) q h5
   exact⟨q,by omega,by unfold F9;rw[if_pos h7];exact h5,by unfold F9;rw[if_pos h7];exact h6⟩
  ·have h7:=small hi (by omega) q h5
   exact⟨q+64,by omega,by unfold F9;rw[if_neg (by omega),Nat.add_sub_cancel];exact h5,by unfold F9;rw[if_neg (by omega),Nat.add_sub_cancel];exact h6⟩
 ·rintro ⟨k,hk,h5,h6⟩
  rw[bne_iff_ne];intro e;have e2:(lo &&& lo') ||| (hi &&& hi')=0:=by omega
  unfold F9 at h5 h6
  by_cases h7:k<64
  ·rw[if_pos h7]at h5 h6
   have:((lo &&& lo') ||| (hi &&& hi')).testBit k=true:=by simp[Nat.testBit_or,Nat.testBit_and,h5,h6]
   rw[e2]at this;simp at this
  ·rw[if_neg h7]at h5 h6
   have:((lo &&& lo') ||| (hi &&& hi')).testBit (k-64)=true:=by simp[Nat.testBit_or,Nat.testBit_and,h5,h6]
   rw[e2]at this;simp at this
theorem wQn {g g':List UInt8}{lo hi lo' hi':Nat}(h:SB g lo hi)(h':SB g' lo' hi'):(∃k,k<128/\F9 lo hi k=true/\F9 lo' hi' k=true)↔∃c,Ls.has g c=true/\Ls.has g' c=true:=by
 constructor
 ·rintro ⟨k,hk,h1,h2⟩
  have e:(UInt8.ofNat k).toNat=k:=by rw[UInt8.toNat_ofNat'];omega
  refine⟨UInt8.ofNat k,?_,?_⟩
  ·rw[<-h.bit _ (by rw[e];exact hk),e];exact h1
  ·rw[<-h'.bit _ (by rw[e];exact hk),e];exact h2
 ·rintro ⟨c,h1,h2⟩
  have hc:c.toNat<128:=by
   rcases Nat.lt_or_ge c.toNat 128 with h3|h3
   ·exact h3
   ·rw[h.none c h3]at h1;cases h1
  exact⟨c.toNat,hc,by rw[h.bit c hc];exact h1,by rw[h'.bit c hc];exact h2⟩
theorem wQm {g g':List UInt8}{lo hi lo' hi':Nat}(h:SB g lo hi)(h':SB g' lo' hi')(w:World) :
  Calls Tryz.prog 98 #[.agg #[.int .u64 lo,.int .u64 hi],.agg #[.int .u64 lo',.int .u64 hi']] w fun e w'=>∃b:Bool,e=.returned (.bool b)/\(b=true↔∃c,Ls.has g c=true/\Ls.has g' c=true)/\Below w.heap.size w w':=by
 have HM:Hid _:=(wQj lo hi lo' hi' h.loLt h.hiLt h'.loLt h'.hiLt).trans (wQn h h');have hb:=C6 w (.cells #[.int .u64 lo,.int .u64 hi] 157) (.cells #[.int .u64 lo',.int .u64 hi'] 157);clear h h';go_enter Tryz.func98,Tryz.ntmps98;go_wp2_with fail;go_ret;exact⟨_,rfl,HM.out,hb⟩
def X9 (n:Ls.Net)(x:Ls.Span):Nat->Nat
 | 0=>x.first
 | p+1=>n.behind.getD p 0
theorem cQn (n:Ls.Net)(x:Ls.Span)(p i:Nat):(Ls.au n x).nx p (i+1)=(X9 n x p).testBit i:=by cases p<;>rfl
theorem NetL.nextV_lt {w:World}{B nb:Nat}{P Q:Value}{n:Ls.Net}{x:Ls.Span}(h:NetL w B nb P Q n x)(hf:x.first<4294967296)(p:Nat):X9 n x p<4294967296:=by
 cases p with
 | zero=>exact hf
 | succ p=>
  show n.behind.getD p 0<_;rw[List.getD_eq_getElem?_getD];cases hp:n.behind[p]? with
  | none=>simp
  | some v=>exact h.small v (List.mem_of_getElem? hp)
theorem kQw (w:World)(B nb:Nat)(P Q:Value)(n:Ls.Net)(x:Ls.Span)(h:NetL w B nb P Q n x)(p:Nat)(hp:p<=n.places.length) :
  Calls Tryz.prog 96 #[.pointer (some ⟨nb,0,none⟩),.int .i64 ((p:Int)-1)] w fun e w'=>e=.returned (.int .u32 (X9 n x p))/\w'=w:=by
 have hnl:=h.lt;have hli:=h.lies;have hfew:=h.few;have hgd:=h.good;unfold Ls.iXu at hgd;have c2:w.cell? ⟨nb,2,none⟩=some (.int .u32 x.first):=by simp[World.cell?,hli]
 have c1:=h.c1;cases p with
 | zero=>
  rw[show (((0:Nat):Int)-1)=-1 from rfl];clear h hli c1;go_enter Tryz.func96,Tryz.ntmps96;go_wp2_with fail;go_ret;exact⟨rfl,rfl⟩
 | succ p=>
  rw[show (((p+1:Nat):Int)-1)=(p:Int) by omega];have hkb:p<n.behind.length:=by omega
  obtain⟨qa,qc,rfl⟩:=h.shapeQ';obtain⟨g,rfl⟩:∃g,qa=some ⟨g,0,none⟩:=by
   obtain⟨g,cap,e,_⟩:=h.bhs.form (by omega);injection e with e1;exact⟨g,e1⟩
  have hcell:w.cell? ⟨g,p,none⟩=some (.int .u32 n.behind[p]):=by
   have h1:=h.bhs.cellAt p (by show p<n.places.length*1;omega);rw[h1,List.getElem?_map,List.getElem?_eq_getElem hkb];rfl
  have HE:Hid (X9 n x (p+1)=n.behind[p]):=by
   show n.behind.getD p 0=_;rw[List.getD_eq_getElem?_getD,List.getElem?_eq_getElem hkb];rfl
  have hn1:((p:Int)==-1)=false:=by simp
  have hp2:(p:Int)<(n.places.length:Int):=by omega
  clear h hli c2;go_enter Tryz.func96,Tryz.ntmps96;go_wp2_with fail;go_ret;exact⟨by rw[HE.out];rfl,rfl⟩
theorem bQm (w:World)(B nb:Nat)(P Q:Value)(n:Ls.Net)(x:Ls.Span)(h:NetL w B nb P Q n x)(hl:x.last<4294967296)(p:Nat)(hp:p<=n.places.length) :
  Calls Tryz.prog 65 #[.pointer (some ⟨nb,0,none⟩),.int .i64 ((p:Int)-1)] w fun e w'=>e=.returned (.bool ((Ls.au n x).en p))/\w'=w:=by
 have hnl:=h.lt;have hli:=h.lies;have hfew:=h.few;have c3:w.cell? ⟨nb,3,none⟩=some (.int .u32 x.last):=by simp[World.cell?,hli]
 have c4:w.cell? ⟨nb,4,none⟩=some (.bool x.empty):=by simp[World.cell?,hli]
 clear h hli;cases p with
 | zero=>
  rw[show (((0:Nat):Int)-1)=-1 from rfl];go_enter Tryz.func65,Tryz.ntmps65;go_wp2_with fail;go_ret;exact⟨rfl,rfl⟩
 | succ p=>
  rw[show (((p+1:Nat):Int)-1)=(p:Int) by omega];have hn1:((p:Int)==-1)=false:=by simp
  have hH:=aQ3 x.last p hl (by omega) w;go_enter Tryz.func65,Tryz.ntmps65;go_wp2_with fail;refine hH.mono ?_;rintro e w1 ⟨rfl,rfl⟩;go_wp2_with fail;go_ret;exact⟨rfl,rfl⟩
end Go.Proofs.YtfklinjaajafgaaGreatDoor
namespace Go.Proofs.YtfklinjaajafgaaGreatDoor
open Go.RowKit Go.Maps
theorem uQk:(Tryz.prog.info? 112).map (fun i=>(i.zero,i.size,i.bytes))=some (some (.agg #[.int .i64 0,.int .i64 0,.int .i64 0]),3,24):=by kernel_rfl
theorem eQj {w:World}{mb n:Nat}{D:DataW Unit}(h:w.ownsMap Tryz.prog 112 unitElem mb n D){s:Ls.Pr}{l:Lit}(hl:keyOf Tryz.prog 112 (F8 s)=some l) :
  (Instr.lookup 113 (.map (some mb)) (F8 s) true).run Tryz.prog w=.ok (.tuple #[.agg #[],.bool (Maps.has D l)]) w:=by
 obtain⟨v,ps,h1,h2⟩:=h.look_ok eQb Tryz.underlying113 (dXq w) unitElem_mk hl;obtain⟨rfl,_⟩:=unitElem_inv h2;exact h1
def dQb (w:World)(B sb mb:Nat)(V:Value)(M O:List Ls.Pr)(S:Ls.Pr->Prop):Ending->World->Prop:=fun e w'=>
 e=.returned (.tuple #[])/\∃V' T,Srch w' B sb mb V' (M++T) (O++T)/\(∀t,t∈T->S t)/\(∀t,S t->t∈M++T)/\SStep w sb mb V w' V'
theorem Srch.drew {w:World}{B sb mb:Nat}{V:Value}{M O:List Ls.Pr}(h:Srch w B sb mb V M O):Srch w.drew B sb mb V M O:=h.same rfl rfl (fun _ _=>rfl)
structure Box (w W:World)(B sb mb:Nat)(V:Value)(M O:List Ls.Pr)(a:Nat)(i1 i2:Int):Prop where
 srch:Srch W B sb mb V M O
 below:Below w.heap.size w W
 box:W.heap[w.heap.size]?=some (.cells #[.int .i64 a,.int .i64 i1,.int .i64 i2] 112 (0,0))
 lt:sb<w.heap.size
 ltm:mb<w.heap.size
theorem Box.start {w:World}{B sb mb:Nat}{V:Value}{M O:List Ls.Pr}(h:Srch w B sb mb V M O)(a:Nat)(i1 i2:Int):Box w (w.alloc (.cells #[.int .i64 a,.int .i64 i1,.int .i64 i2] 112)) B sb mb V M O a i1 i2:=⟨h.below (A5 _ _),A5 _ _,heap_alloc_new _ _,h.lt,h.ltm⟩
theorem Box.cells {w W:World}{B sb mb:Nat}{V:Value}{M O:List Ls.Pr}{a:Nat}{i1 i2:Int}(h:Box w W B sb mb V M O a i1 i2) :
  W.cell? ⟨sb,0,none⟩=some (.map (some mb))/\W.cell? ⟨sb,1,none⟩=some V/\W.cell? ⟨w.heap.size,0,none⟩=some (.int .i64 a)/\W.cell? ⟨w.heap.size,1,none⟩=some (.int .i64 i1)/\W.cell? ⟨w.heap.size,2,none⟩=some (.int .i64 i2):=by
 have h1:=h.box;have h2:=h.srch.lies;refine⟨?_,?_,?_,?_,?_⟩
 ·simp[World.cell?,h2]
 ·simp[World.cell?,h2]
 ·simp[World.cell?,h1]
 ·simp[World.cell?,h1]
 ·simp[World.cell?,h1]
theorem wQl (w:World)(B sb mb:Nat)(V:Value)(M O:List Ls.Pr)(h:Srch w B sb mb V M O)(s:Ls.Pr)(hs:Rg s)(hm:s∈M) :
  Calls Tryz.prog 66 #[.pointer (some ⟨sb,0,none⟩),F8 s] w (dQb w B sb mb V M O (fun t=>t=s)):=by
 obtain⟨l,hl⟩:=jQ5 hs;have hX:=Box.start h s.1 ((s.2.1:Int)-1) ((s.2.2:Int)-1);obtain⟨D,hD,hM⟩:=hX.srch.map;have hh:Maps.has D l=true:=(hM s l hs hl).2 hm;have hk0:=eQj hD.drew hl;have hk1:=eQj (hD.alloc (.cells #[] 159)).drew hl;rw[hh]at hk0 hk1;have Hm:Hid (s∈M):=hm;clear hM hl hD hh h hs hm;unfold F8 at *;generalize s.1=a at *;generalize ((s.2.1:Int)-1)=i1 at *;generalize ((s.2.2:Int)-1)=i2 at *;go_enter Tryz.func66,Tryz.ntmps66;go_upto_region 1 with (fail);generalize (w.alloc (.cells #[.int .i64 (a:Int),.int .i64 i1,.int .i64 i2] 112))=W at *;obtain⟨c0,_,k0,k1,k2⟩:=hX.cells;have hz1:=(Array.getElem?_eq_some_iff.1 hX.box).1;have hz2:=hX.srch.lt;have HX:Hid _:=hX;clear hX;go_wp2_with fail;go_region
 all_goals
  go_wp2_with fail;go_end0;refine⟨rfl,V,[],?_,by simp,fun t ht=>by subst ht;simpa using Hm.out,?_⟩
  ·simpa using (HX.out.srch.below (A5 W (.cells #[] 159))).drew
  ·exact SStep.of_below _ _ _ (HX.out.below.alloc HX.out.below.size _).drew
theorem Box.next {w W:World}{B sb mb:Nat}{V:Value}{M O:List Ls.Pr}{a:Nat}{i1 i2:Int}(h:Box w W B sb mb V M O a i1 i2)(o:Obj):Box w (W.alloc o).drew B sb mb V M O a i1 i2:=⟨(h.srch.below (A5 _ _)).drew,(Below.trans h.below ((A5 W o).mono h.below.size)).drew,(Below.heap_alloc _ _ _ (Array.getElem?_eq_some_iff.1 h.box).1).trans h.box,h.lt,h.ltm⟩
structure Put (w W W3:World)(B sb mb:Nat)(V:Value)(a:Nat)(i1 i2:Int):Prop where
 grown:W.grownBy W3 (some mb)
 c1:W3.cell? ⟨sb,1,none⟩=some V
 f1:W3.frozen? ⟨sb,1,none⟩=false
 k0:W3.cell? ⟨w.heap.size,0,none⟩=some (.int .i64 a)
 k1:W3.cell? ⟨w.heap.size,1,none⟩=some (.int .i64 i1)
 k2:W3.cell? ⟨w.heap.size,2,none⟩=some (.int .i64 i2)
 z1:w.heap.size<W3.heap.size
 z2:sb<W3.heap.size
theorem Box.put {w W W3:World}{B sb mb:Nat}{V:Value}{M O:List Ls.Pr}{a:Nat}{i1 i2:Int}(h:Box w W B sb mb V M O a i1 i2)(hg:W.grownBy W3 (some mb)):Put w W W3 B sb mb V a i1 i2:=by
 have h1:=hg.block _ (Array.getElem?_eq_some_iff.1 h.box).1 (by have:=h.ltm;simp;omega);rw[h.box]at h1;have h2:=hg.block sb h.srch.lt (by have:=h.srch.apM;simp[this]);rw[h.srch.lies]at h2;refine⟨hg,?_,?_,?_,?_,?_,(Array.getElem?_eq_some_iff.1 h1).1,(Array.getElem?_eq_some_iff.1 h2).1⟩
 ·simp[World.cell?,h2]
 ·simp[World.frozen?,h2]
 ·simp[World.cell?,h1]
 ·simp[World.cell?,h1]
 ·simp[World.cell?,h1]
theorem wQk (w:World)(B sb mb:Nat)(V:Value)(M O:List Ls.Pr)(h:Srch w B sb mb V M O)(hB:B<=w.heap.size)(s:Ls.Pr)(hs:Rg s)(hm:s ∉ M) :
  Calls Tryz.prog 66 #[.pointer (some ⟨sb,0,none⟩),F8 s] w (dQb w B sb mb V M O (fun t=>t=s)):=by
 obtain⟨l,hl⟩:=jQ5 hs;have hX:=Box.start h s.1 ((s.2.1:Int)-1) ((s.2.2:Int)-1);obtain⟨D,hD,hM⟩:=hX.srch.map;have hh:Maps.has D l=false:=by
  cases hh:Maps.has D l with
  | false=>rfl
  | true=>exact absurd ((hM s l hs hl).1 hh) hm
 have hk0:=eQj hD.drew hl;have hk1:=eQj (hD.alloc (.cells #[] 159)).drew hl;rw[hh]at hk0 hk1;have hfew:=h.few;have hle:=h.le;have hst:=fun (W:World) (hW:W.ownsMap Tryz.prog 112 unitElem mb M.length D)=>hW.store eQb Tryz.underlying113 (by unfold maxLen;omega) hl unitElem_mk;have HST:Hid _:=hst;have HD:Hid ((((w.alloc (.cells #[.int .i64 (s.1:Nat),.int .i64 ((s.2.1:Int)-1),.int .i64 ((s.2.2:Int)-1)] 112)).alloc (.cells #[] 159)).drew).ownsMap Tryz.prog 112 unitElem mb M.length D):=(hD.alloc (.cells #[] 159)).drew;obtain⟨va,vc,rfl⟩:=h.shape;have HF:Hid (∀w w1 w2 V V' d (_:Srch w B sb mb V M O) (_:w1.ownsMap Tryz.prog 112 unitElem mb (M.length+1) (D.put l d)) (_:w.grownBy w1 (some mb)) o (_:w2.ownsRow B 112 3 V' (O.length+1) (O.flatMap j5++j5 s)) (_:(w1.alloc o).grownBy w2 V.ownBlock) (_:V'.ownBlock=V.ownBlock\/∃k,V'.ownBlock=some k/\w1.heap.size+1<=k),Srch (w2.setCell ⟨sb,1,none⟩ V') B sb mb V' (M++[s]) (O++[s])):=
  fun w w1 w2 V V' d h h1 hg1 o h2 hg2 hV=>h.met hs hm hl hD.isMap hM h1 hg1 o h2 hg2 hV
 clear hM hl hD hh h hs hm hst;unfold F8 j5 at *;generalize hx0:s.1=a at *;generalize hx1:((s.2.1:Int)-1)=i1 at *;generalize hx2:((s.2.2:Int)-1)=i2 at *;clear hx0 hx1 hx2;go_enter Tryz.func66,Tryz.ntmps66;go_upto_region 1 with (fail);generalize (w.alloc (.cells #[.int .i64 (a:Int),.int .i64 i1,.int .i64 i2] 112))=W at *;obtain⟨c0,_,k0,k1,k2⟩:=hX.cells;have hz1:=(Array.getElem?_eq_some_iff.1 hX.box).1;have hz2:=hX.srch.lt;have HX:Hid _:=hX.next (.cells #[] 159);clear hX;go_wp2_with fail;go_region
 all_goals
  clear hk0 hk1 c0 k0 k1 k2 hz1 hz2;go_wp2_with fail;have hX2:=HX.out;have hD2:=HD.out;clear HX HD;generalize (W.alloc (Obj.cells #[] 159)).drew=W2 at *;obtain⟨W3,hrun,hD3,hturn⟩:=HST.out W2.drew hD2.drew;obtain⟨c0,c1,k0,k1,k2⟩:=hX2.cells;have hgr:W2.grownBy W3 (some mb):=by have g:=hturn.grown;exact⟨g.os,g.tape,g.output,g.size,g.block⟩
  have hP:=hX2.put hgr;have HP:Hid _:=hP;have HX:Hid _:=hX2;have HD:Hid (W3.ownsMap Tryz.prog 112 unitElem mb (M.length+1) (D.put l (DataW.agg []))):=hD3;clear hP hX2 hD2 hD3 hturn hgr;go_region
  all_goals
   clear c0 c1 k0 k1 k2 hrun;go_wp2_with fail;obtain⟨_,c1,f1,k0,k1,k2,z1,z2⟩:=HP.out;obtain⟨i0,hi0,hz1,hz2,hz3⟩:=info_parts uQk;have hR:W3.ownsRow B 112 3 (.slice va O.length vc) O.length (O.flatMap j5):=HX.out.srch.row.kept HP.out.grown (.inr HX.out.srch.apVM);have hap:=HX.out.srch.apV;have hBz:B<=W3.heap.size:=Nat.le_trans hB (Nat.le_of_lt z1);go_region_law
    ((refine step_append_lies _ (by rfl) _ _ _ (by rfl) B 112 i0 _ 3 24 Tryz.underlying114 hi0 hz1 hz2 hz3 rfl (by omega) (.slice va O.length vc) O.length _ (by rfl) (hR.alloc _) ⟨W3.heap.size,0,none⟩ 1 1 [.int .i64 a,.int .i64 i1,.int .i64 i2] (by rfl) (by rfl) (World.news_of_block (cs:=#[.int .i64 a,.int .i64 i1,.int .i64 i2]) (t:=112) (fr:=(0,0)) (heap_alloc_new W3 _)) (by simp[Value.oneCell']) (by omega) (by unfold maxLen;omega) (by omega) (by simp;omega) (W3.heap.size+1) (by simp) ?_;intro gg cap w1 hown1 hgrow hat hlt;have hfz:w1.frozen? ⟨sb,1,none⟩=false:=(hgrow.frozen_far ⟨sb,1,none⟩ (by simp;omega) (Ne.symm hap)).trans (((A5 W3 _).frozen (p:=⟨sb,1,none⟩) z2).trans f1);have hcz:w1.cell? ⟨sb,1,none⟩=some (.slice va O.length vc):=(hgrow.cell_far ⟨sb,1,none⟩ (by simp;omega) (Ne.symm hap)).trans (((A5 W3 _).cell (p:=⟨sb,1,none⟩) z2).trans c1)))
   all_goals
    go_wp2_with fail;go_end0;have hgrow2:(W3.alloc (.cells #[.int .i64 a,.int .i64 i1,.int .i64 i2] 112)).grownBy w1 (Value.slice va O.length vc).ownBlock:=⟨hgrow.os,hgrow.tape,hgrow.output,hgrow.size,hgrow.block⟩;refine⟨rfl,.slice (some ⟨gg,0,none⟩) (O.length+1) cap,[s],HF.out W2 W3 w1 _ _ _ HX.out.srch HD.out HP.out.grown _ hown1 hgrow2 ?_,by simp,by simp,?_⟩
    ·rcases hat with e|e
     ·exact .inl (by rw[e];rfl)
     ·exact .inr ⟨gg,rfl,by omega⟩
    ·have g1:=HP.out.grown
     have b1:=HX.out.below;have hs3:=g1.size;have hs2:=hgrow2.size;simp at hs2;refine⟨hgrow2.os.trans (g1.os.trans b1.os),hgrow2.tape.trans (g1.tape.trans b1.tape),hgrow2.output.trans (g1.output.trans b1.output),by simp[World.setCell];omega,fun k hk=>?_,?_⟩
     ·have hz:=b1.size
      have hk0:=hk.1;rw[Below.heap_setCell _ _ _ _ hk.2.1,hgrow2.block k (by simp;omega) hk.2.2.2,Below.heap_alloc _ _ _ (by omega),g1.block k (by omega) (by simp[hk.2.2.1]),b1.block k hk.1]
     ·rcases hat with e|e
      ·exact .inl (by rw[e];rfl)
      ·exact .inr ⟨gg,rfl,by omega⟩
theorem gQt (w:World)(B sb mb:Nat)(V:Value)(M O:List Ls.Pr)(h:Srch w B sb mb V M O)(hB:B<=w.heap.size)(s:Ls.Pr)(hs:Rg s) :
  Calls Tryz.prog 66 #[.pointer (some ⟨sb,0,none⟩),F8 s] w (dQb w B sb mb V M O (fun t=>t=s)):=by
 by_cases hm:s∈M
 ·exact wQl w B sb mb V M O h s hs hm
 ·exact wQk w B sb mb V M O h hB s hs hm
theorem bXh (w:World)(o:Obj):Srch (((w.alloc o).alloc (.map #[] 0)).alloc (.cells #[.map (some (w.heap.size+1)),.slice none 0 0] 116)) w.heap.size (w.heap.size+1+1) (w.heap.size+1) (.slice none 0 0) [] []:=by
 have h1:((w.alloc o).alloc (.map #[] 0)).ownsMap Tryz.prog 112 (unitElem (H:=Unit)) (w.heap.size+1) 0 (.map []):=by
  have:=World.ownsMap_made (H:=Unit) (w.alloc o) Tryz.prog 112 unitElem;simpa using this
 have h2:=heap_alloc_new ((w.alloc o).alloc (.map #[] 0)) (.cells #[.map (some (w.heap.size+1)),.slice none 0 0] 116);refine⟨by simpa using h2,⟨.map [],h1.alloc _,?_⟩,World.ownsRow_nil _ _ _ _,by omega,by omega,by omega,?_,?_,by simp,by simp,by simp,by simp⟩
 ·intro s l _ _
  simp[Maps.has]
 ·simp[Value.ownBlock]
 ·simp[Value.ownBlock]
theorem pQu {T:List Ls.Pr}{s:Ls.Pr}(h1:T.Nodup)(h2:∀t,t∈T->t=s)(h3:s∈T):T=[s]:=by
 match T,h1,h2,h3 with
 | [],_,_,h3=>simp at h3
 | [a],_,h2,_=>rw[h2 a (by simp)]
 | a::b::r,h1,h2,_=>
  have e1:=h2 a (by simp);have e2:=h2 b (by simp);subst e1;simp[e2]at h1
theorem kQt (w:World)(s:Ls.Pr)(hs:Rg s) :
  Calls Tryz.prog 62 #[F8 s] w fun e w'=>∃sb mb V,e=.returned (.pointer (some ⟨sb,0,none⟩))/\Srch w' w.heap.size sb mb V [s] [s]/\Below w.heap.size w w':=by
 have hmm:=@run_makeMap Tryz.prog;have hS:=bXh w (.cells #[.int .i64 (s.1:Nat),.int .i64 ((s.2.1:Int)-1),.int .i64 ((s.2.2:Int)-1)] 112);have hC:=gQt _ _ _ _ _ _ _ hS (by simp;omega) s hs;have hb0:=C6 w (.cells #[.int .i64 (s.1:Nat),.int .i64 ((s.2.1:Int)-1),.int .i64 ((s.2.2:Int)-1)] 112) (.map #[] 0);have hb1:=hb0.alloc hb0.size (.cells #[.map (some (w.heap.size+1)),.slice none 0 0] 116);have HS0:Hid _:=hS;clear hS hb0;unfold F8 at *;go_enter Tryz.func62,Tryz.ntmps62;go_wp2_with fail;refine hC.mono ?_;rintro e w' ⟨rfl,V',T,hS,h1,h2,hb2⟩;obtain rfl:T=[s]:=pQu (by have:=hS.nodup;simpa using this) h1 (by have:=h2 s rfl;simpa using this);clear h1 h2;go_wp2_with fail;go_ret;exact⟨_,_,_,rfl,by simpa using hS,Below.trans hb1 (hb2.below HS0.out (by simp;omega))⟩
theorem mQn (w:World)(B sb mb:Nat)(V:Value)(M O:List Ls.Pr)(x:Ls.Pr)(h:Srch w B sb mb V M (O++[x])) :
  Calls Tryz.prog 63 #[.pointer (some ⟨sb,0,none⟩)] w fun e w'=>e=.returned (F8 x)/\∃V',Srch w' B sb mb V' M O/\SStep w sb mb V w' V':=by
 have hlt:=h.lt;have hfew:=h.few;have hle:=h.le;simp only[List.length_append,List.length_singleton]at hle;obtain⟨g,cap,hV,hcap,hc,hgs,hgw,hS⟩:=h.pop;subst hV;have hbs:=h.bs;have hli:=h.lies;have c1:w.cell? ⟨sb,1,none⟩=some (.slice (some ⟨g,0,none⟩) (O.length+1) cap):=by simp[World.cell?,hli]
 have f1:w.frozen? ⟨sb,1,none⟩=false:=by simp[World.frozen?,hli]
 have r0:w.cell? ⟨g,O.length*3,none⟩=some (.int .i64 (x.1:Nat)):=hc 0 (by omega);have r1:w.cell? ⟨g,O.length*3+1,none⟩=some (.int .i64 ((x.2.1:Int)-1)):=hc 1 (by omega);have r2:w.cell? ⟨g,O.length*3+2,none⟩=some (.int .i64 ((x.2.2:Int)-1)):=hc 2 (by omega);have HS:Hid _:=hS;clear hS h hli hc;unfold F8;have hn1:(((O.length+1:Nat):Int)-1)=(O.length:Int):=by omega
 go_enter Tryz.func63,Tryz.ntmps63;go_wp2_with fail;refine bodyPost_ret (v:=F8 x) (by simp[results,Tryz.results63,go_sem]) rfl ⟨rfl,_,HS.out.below (C6 _ _ _),?_⟩;refine SStep.trans (w1:=w.setCell ⟨sb,1,none⟩ (.slice (some ⟨g,0,none⟩) O.length cap)) (V1:=.slice (some ⟨g,0,none⟩) O.length cap) ?_ (SStep.of_below _ _ _ (C6 _ _ _));exact⟨rfl,rfl,rfl,by simp[World.setCell],fun k hk=>Below.heap_setCell _ _ _ _ hk.2.1,.inl rfl⟩
end Go.Proofs.YtfklinjaajafgaaGreatDoor
