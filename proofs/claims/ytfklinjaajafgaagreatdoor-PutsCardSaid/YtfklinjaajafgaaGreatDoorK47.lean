import Derived.Test.YtfklinjaajafgaaGreatDoorK41
set_option maxRecDepth 100000
set_option maxHeartbeats 4000000
namespace Ls
variable {M:List Pr}{N:Pr->Pr->Prop}{a s t:Pr}{bad:Pr->Prop}{c:UInt8}{q:Nat}(p:Nat)
structure Au where
 nx:Nat->Nat->Bool
 tk:Nat->UInt8->Bool
 en:Nat->Bool
def Wk (A:Au):Nat->Lu->Nat->Prop
 | p,[],q=>p=q
 | p,c::u,q=>∃r,A.nx p r=true/\A.tk r c=true/\Wk A r u q
theorem jX0 (A:Au)(u v:Lu)(q:Nat):Wk A p (u++v) q↔∃r,Wk A p u r/\Wk A r v q:=by
 induction u generalizing p with
 | nil=>simp[Wk]
 | cons c u f=>
  simp only[List.cons_append,Wk];constructor
  ·rintro ⟨r,a,b,g⟩
   obtain⟨s,d,e⟩:=(f r).1 g;exact⟨s,⟨r,a,b,d⟩,e⟩
  ·rintro ⟨s,⟨r,a,b,d⟩,e⟩
   exact⟨r,a,b,(f r).2 ⟨s,d,e⟩⟩
theorem hXw {A:Au}{p:Nat}{u:Lu}{r:Nat}(h:Wk A p u q)(a:A.nx q r=true)(b:A.tk r c=true):Wk A p (u++[c]) r:=
 (jX0 p A u [c] r).2 ⟨q,h,r,a,b,rfl⟩
def Lg (A:Au)(u:Lu):Prop:=∃q,Wk A 0 u q/\A.en q=true
def Stp (A B:Au)(s t:Pr):Prop:=t.1=s.1/\A.nx s.2.1 t.2.1=true/\B.nx s.2.2 t.2.2=true/\∃c,A.tk t.2.1 c=true/\B.tk t.2.2 c=true
def Reach (N:Pr->Pr->Prop)(a s:Pr):Prop:=∀P:Pr->Prop,P a->(∀x y,P x->N x y->P y)->P s
theorem Reach.refl (N:Pr->Pr->Prop)(a:Pr):Reach N a a:=fun _ h _=>h
theorem Reach.step (h:Reach N a s)(c:N s t):Reach N a t:=fun P d b=>b _ _ (h P d b) c
theorem iXz {N:Pr->Pr->Prop}{a:Pr}{A B:Au}{f:Nat}(e:∀s t:Pr,s.1=f->Stp A B s t->N s t):∀(u:Lu) (p q b d:Nat),Reach N a (f,p,q)->Wk A p u b->Wk B q u d->Reach N a (f,b,d)
 | [],p,q,b,d,h,h1,h2=>by
  simp only[Wk]at h1 h2;subst h1 h2;exact h
 | c::u,p,q,b,d,h,h1,h2=>by
  obtain⟨r,g,i,j⟩:=h1;obtain⟨s,k,l,m⟩:=h2;exact iXz e u r s b d (h.step (e _ (f,r,s) rfl ⟨rfl,g,k,c,i,l⟩)) j m
def lXu (A B:Au)(s:Pr):Prop:=A.en s.2.1=true/\B.en s.2.2=true
theorem kX4 (A B:Au):(∃s,Reach (Stp A B) (0,0,0) s/\lXu A B s)↔∃u,Lg A u/\Lg B u:=by
 constructor
 ·rintro ⟨s,h,d,e⟩
  have:=h (fun s=>∃u,Wk A 0 u s.2.1/\Wk B 0 u s.2.2) ⟨[],rfl,rfl⟩ (by
   rintro x y ⟨u,a,b⟩ ⟨_,g,i,c,j,k⟩;exact⟨u++[c],hXw a g j,hXw b i k⟩)
  obtain⟨u,a,b⟩:=this;exact⟨u,⟨_,a,d⟩,⟨_,b,e⟩⟩
 ·rintro ⟨u,⟨p,d,e⟩,⟨q,a,b⟩⟩
  exact⟨(0,p,q),iXz (f:=0) (fun _ _ _ h=>h) u 0 0 p q (Reach.refl _ _) d a,e,b⟩
def NxO (A B:Au)(s t:Pr):Prop:=
 (s.1=0/\(Stp A A s t\/(A.en s.2.1=true/\Stp B A (1,0,s.2.2) t)))\/
 (s.1=1/\(Stp B A s t\/(A.en s.2.2=true/\t=(2,s.2.1,0))))\/
 (s.1=2/\Stp B B s t)
def lXd (B:Au)(s:Pr):Prop:=s.1=2/\B.en s.2.1=true/\B.en s.2.2=true
def Way (A B:Au)(s:Pr):Prop:=
 (s.1=0/\∃u,Wk A 0 u s.2.1/\Wk A 0 u s.2.2)\/
 (s.1=1/\∃u w,w≠[]/\Lg A u/\Wk B 0 w s.2.1/\Wk A 0 (u++w) s.2.2)\/
 (s.1=2/\∃u w v,w≠[]/\Lg A u/\Lg A (u++w)/\Wk B 0 (w++v) s.2.1/\Wk B 0 v s.2.2)
theorem mX2 {A B:Au}(h:Way A B s)(b:NxO A B s t):Way A B t:=by
 rcases b with⟨e,b⟩|⟨e,b⟩|⟨e,b⟩
 ·rcases h with⟨_,u,d,f⟩|⟨l,_⟩|⟨l,_⟩
  ·rcases b with⟨m,a,g,c,i,j⟩|⟨k,m,a,g,c,i,j⟩
   ·exact .inl ⟨by omega,u++[c],hXw d a i,hXw f g j⟩
   ·exact .inr (.inl ⟨m,u,[c],by simp,⟨_,d,k⟩,⟨_,a,i,rfl⟩,hXw f g j⟩)
  ·omega
  ·omega
 ·rcases h with⟨l,_⟩|⟨_,u,w,n,d,f,k⟩|⟨l,_⟩
  ·omega
  ·rcases b with⟨m,a,g,c,i,j⟩|⟨a,rfl⟩
   ·exact .inr (.inl ⟨by omega,u,w++[c],by simp,d,hXw f a i,by rw[<-List.append_assoc];exact hXw k g j⟩)
   ·exact .inr (.inr ⟨rfl,u,w,[],n,d,⟨_,k,a⟩,by simpa using f,rfl⟩)
  ·omega
 ·rcases h with⟨l,_⟩|⟨l,_⟩|⟨_,u,w,v,n,d,f,k,a⟩
  ·omega
  ·omega
  ·obtain⟨m,g,i,c,j,o⟩:=b
   exact .inr (.inr ⟨by omega,u,w,v++[c],n,d,f,by rw[<-List.append_assoc];exact hXw k g j,hXw a i o⟩)
theorem lXq (A B:Au):(∃s,Reach (NxO A B) (0,0,0) s/\lXd B s)↔∃u w v,w≠[]/\Lg A u/\Lg A (u++w)/\Lg B (w++v)/\Lg B v:=by
 constructor
 ·rintro ⟨s,h,e,g,i⟩
  rcases h (Way A B) (.inl ⟨rfl,[],rfl,rfl⟩) (fun x y b d=>mX2 b d) with⟨C,_⟩|⟨C,_⟩|⟨_,u,w,v,o,b,d,j,n⟩
  ·omega
  ·omega
  ·exact⟨u,w,v,o,b,d,⟨_,j,g⟩,⟨_,n,i⟩⟩
 ·rintro ⟨u,w,v,o,⟨p,g,i⟩,⟨q,b,d⟩,⟨z,j,n⟩,⟨R,O,P⟩⟩
  obtain⟨c,w,rfl⟩:∃c X,w=c::X:=by
   cases w with
   | nil=>exact absurd rfl o
   | cons c w=>exact⟨c,w,rfl⟩
  obtain⟨m,Q,E⟩:=(jX0 0 A u (c::w) q).1 b;obtain⟨r,F,G,H⟩:=E;obtain⟨k,I,J⟩:=(jX0 0 B (c::w) v z).1 j;obtain⟨l,K,L,M⟩:=I;have S:=iXz (N:=NxO A B) (a:=(0,0,0)) (A:=A) (B:=A) (f:=0) (fun s t e h=>.inl ⟨e,.inl h⟩) u 0 0 p m (Reach.refl _ _) g Q;have T:Reach (NxO A B) (0,0,0) (1,l,r):=S.step (.inl ⟨rfl,.inr ⟨i,rfl,K,F,c,L,G⟩⟩);have U:=iXz (N:=NxO A B) (a:=(0,0,0)) (A:=B) (B:=A) (f:=1) (fun s t e h=>.inr (.inl ⟨e,.inl h⟩)) w l r k q T M H;have V:=U.step (.inr (.inl ⟨rfl,.inr ⟨d,rfl⟩⟩));have W:=iXz (N:=NxO A B) (a:=(0,0,0)) (A:=B) (B:=B) (f:=2) (fun s t e h=>.inr (.inr ⟨e,h⟩)) v k 0 z R V J O;exact⟨_,W,rfl,n,P⟩
structure Sch (N:Pr->Pr->Prop)(bad:Pr->Prop)(a:Pr)(M O:List Pr):Prop where
 first:a∈M
 sub:∀x,x∈O->x∈M
 came:∀x,x∈M->Reach N a x
 done:∀x,x∈M->x ∉ O->¬bad x/\∀y,N x y->y∈M
theorem Sch.start (N:Pr->Pr->Prop)(b:Pr->Prop)(a:Pr):Sch N b a [a] [a]:=⟨by simp,fun _ h=>h,fun x h=>by simp at h;subst h;exact Reach.refl _ _,fun x c d=>absurd c d⟩
theorem Sch.none (h:Sch N bad a M []):¬∃s,Reach N a s/\bad s:=by
 rintro ⟨s,b,c⟩;have:=b (fun s=>s∈M) h.first (fun x y d e=>(h.done x d (by simp)).2 y e);exact(h.done s this (by simp)).1 c
theorem Sch.next {x:Pr}{O T:List Pr}(h:Sch N bad a M (O++[x]))(k:¬bad x)(i:∀y,y∈T->N x y)(j:∀y,N x y->y∈M++T):Sch N bad a (M++T) (O++T):=by
 refine⟨by simp[h.first],?_,?_,?_⟩
 ·intro y c
  rcases List.mem_append.1 c with b|b
  ·exact List.mem_append_left _ (h.sub y (by simp[b]))
  ·exact List.mem_append_right _ b
 ·intro y c
  rcases List.mem_append.1 c with b|b
  ·exact h.came y b
  ·exact(h.came x (h.sub x (by simp))).step (i y b)
 ·intro y c d
  simp only[List.mem_append,not_or]at d
  by_cases e:y=x
  ·subst e;exact⟨k,j⟩
  ·have b:y∈M:=by
    rcases List.mem_append.1 c with b|b
    ·exact b
    ·exact absurd b d.2
   obtain⟨f,g⟩:=h.done y b (by simp[d.1,e]);exact⟨f,fun z l=>List.mem_append_left _ (g z l)⟩
def au (n:Net)(x:Span):Au where
 nx p q:=match p,q with
  | _,0=>false
  | 0,q+1=>x.first.testBit q
  | p+1,q+1=>(n.behind.getD p 0).testBit q
 tk q c:=match q with
  | 0=>false
  | q+1=>has (n.places.getD q []) c
 en p:=match p with
  | 0=>x.empty
  | p+1=>x.last.testBit p
theorem jX7 (n:Net)(x:Span):(au n x).nx p 0=false:=by cases p<;>rfl
theorem lXc (n:Net)(x:Span):∀(u:Lu) (p:Nat),Acc (gXm n) (lb x) u p↔∃q,Wk (au n x) (p+1) u q/\(au n x).en q=true
 | [],p=>by
  constructor
  ·intro h;exact⟨p+1,rfl,h⟩
  ·rintro ⟨q,a,b⟩
   simp only[Wk]at a;subst a;exact b
 | c::u,p=>by
  constructor
  ·rintro ⟨q,a,b,f⟩
   obtain⟨r,d,e⟩:=(lXc n x u q).1 f;exact⟨r,⟨q+1,a,b,d⟩,e⟩
  ·rintro ⟨r,⟨q,a,b,d⟩,e⟩
   cases q with
   | zero=>rw[jX7]at a;cases a
   | succ q=>exact⟨q,a,b,(lXc n x u q).2 ⟨r,d,e⟩⟩
theorem nXg {n:Net}{x:Span}(h:(au n x).tk q c=true):∃i,q=i+1/\i<n.places.length:=by
 cases q with
 | zero=>cases h
 | succ i=>
  refine⟨i,rfl,?_⟩;rcases Nat.lt_or_ge i n.places.length with a|a
  ·exact a
  ·have b:has (n.places.getD i []) c=true:=h
   rw[List.getD_eq_getElem?_getD,List.getElem?_eq_none a]at b;simp[has]at b
end Ls
namespace Go.Proofs.YtfklinjaajafgaaGreatDoor
open Ls
open Go.RowKit Go.Maps
variable {B mb sb:Nat}{M O:List Pr}{V V':Value}{s:Pr}{w w' w1 w2:World}
theorem wQn:laidOutB Tryz.prog=true:=by kernel_rfl
theorem eXl:(match Tryz.prog.underlying 112 with|some (.array _ _)|some (.struct _)=>true|_=>false)=true:=by rw[Tryz.underlying112]
theorem bX3:(112:TypeId)<Tryz.prog.types.size:=of_decide_eq_true (by kernel_rfl)
theorem eQ2:Keyed Tryz.prog 112:=Keyed.of_law (deep_law_laid wQn (m:=2) (Nat.le_of_ble_eq_true rfl) bX3 (by kernel_rfl) eXl)
theorem eX2 (w:World):(zeroValue 159).run Tryz.prog w=.ok (.agg #[]) w:=by kernel_rfl
theorem wQd:Tryz.prog.keyType 112=true:=by kernel_rfl
theorem vQ5:Tryz.prog.cellsOf 112=3:=by kernel_rfl
theorem vQ6:Tryz.prog.cellsOf 3=1:=by kernel_rfl
theorem vQ7 (a b c:Int)(ha:(Lit.int .i64 a).wf=true)(f:(Lit.int .i64 b).wf=true)(g:(Lit.int .i64 c).wf=true):∃l,keyOf Tryz.prog 112 (.agg #[Iv a,Iv b,Iv c])=some l:=by
 obtain⟨d,e⟩:∃d,Tryz.prog.types.size+1=d+1+1:=⟨_,rfl⟩;unfold keyOf;rw[e,Tryz.underlying112];simp only[wQd,Program.keyLits,Tryz.underlying112];simp[Value.formed,Tryz.underlying112,vQ5,vQ6,Value.cells,ha,f,g]
abbrev aQf (s:Pr):List Value:=[.int .i64 (s.1:Nat),.int .i64 ((s.2.1:Int)-1),.int .i64 ((s.2.2:Int)-1)]
abbrev G3 (s:Pr):Value:=.agg #[.int .i64 (s.1:Nat),.int .i64 ((s.2.1:Int)-1),.int .i64 ((s.2.2:Int)-1)]
theorem cQv (O:List Pr):(O.flatMap aQf).length=O.length*3:=by
 induction O with
 | nil=>rfl
 | cons x O a=>rw[List.flatMap_cons,List.length_append,a];simp;omega
def Rg (s:Pr):Prop:=(s.1=0\/s.1=1\/s.1=2)/\s.2.1<33/\s.2.2<33
theorem kQ2 (h:Rg s):∃l,keyOf Tryz.prog 112 (G3 s)=some l:=by
 obtain⟨a,b,c⟩:=h;exact vQ7 _ _ _ (WalkArith.wf_i64 (by omega)) (WalkArith.wf_i64 (by omega)) (WalkArith.wf_i64 (by omega))
theorem cXt {t:Pr}(h:G3 s=G3 t):s=t:=by
 obtain⟨a,b,c⟩:=s;obtain⟨x,y,z⟩:=t;simp only[G3,Value.agg.injEq,Array.mk.injEq,List.cons.injEq,Value.int.injEq,true_and,and_true]at h;obtain⟨d,e,f⟩:=h;simp only[Prod.mk.injEq];omega
def MapOf (D:DataW Unit)(M:List Pr):Prop:=∀s l,Rg s->keyOf Tryz.prog 112 (G3 s)=some l->(Maps.has D l=true↔s∈M)
theorem MapOf.put {D:DataW Unit}(h:MapOf D M)(f:IsMap D){l:Lit}(b:keyOf Tryz.prog 112 (G3 s)=some l)(d:DataW Unit):MapOf (D.put l d) (M++[s]):=by
 intro t k i a
 by_cases e:t=s
 ·subst e
  obtain rfl:l=k:=Option.some.inj (b.symm.trans a);simp[has_put_same f (eQ2.key b) d]
 ·have g:k≠l:=fun c=>e (cXt (eQ2.inj a (c▸b)))
  rw[has_put_other g,h t k i a];simp[e]
structure Srch (w:World)(B sb mb:Nat)(V:Value)(M O:List Pr):Prop where
 lies:w.heap[sb]?=some (.cells #[.map (some mb),V] 116 (0,0))
 map:∃D:DataW Unit,w.ownsMap Tryz.prog 112 unitElem mb M.length D/\MapOf D M
 row:w.ownsRow B 112 3 V O.length (O.flatMap aQf)
 bs:B<=sb
 bm:B<=mb
 apM:sb≠mb
 apV:V.ownBlock≠some sb
 apVM:V.ownBlock≠some mb
 nodup:M.Nodup
 rg:∀s,s∈M->Rg s
 sub:∀s,s∈O->s∈M
 le:O.length<=M.length
theorem bX2 {e:TypeId}{b:Nat}{v:Value}{m:Nat}{c:List Value}(a:w.ownsRow B e b v m c)(n:∀k,v.ownBlock=some k->w'.heap[k]?=w.heap[k]?):w'.ownsRow B e b v m c:=by
 refine⟨a.1,?_⟩;rcases a.2 with h|⟨g,d,f,rfl,j,l,i⟩
 ·exact .inl h
 ·exact .inr ⟨g,d,f,rfl,j,by rw[n g rfl];exact l,i⟩
theorem yQu {H:Type}{P:Program}{k:TypeId}{R:Value->Option (DataW H × List MemPlace)}{b n:Nat}{D:DataW H}(h:w.ownsMap P k R b n D)(f:w'.heap[b]?=w.heap[b]?):w'.ownsMap P k R b n D:=by
 obtain⟨c,a,d,e⟩:=h;exact⟨c,a,f.trans d,e⟩
theorem Srch.lt (h:Srch w B sb mb V M O):sb<w.heap.size:=(Array.getElem?_eq_some_iff.1 h.lies).1
theorem Srch.ltm (h:Srch w B sb mb V M O):mb<w.heap.size:=by
 obtain⟨D,a,_⟩:=h.map;exact a.lt
theorem Srch.same (h:Srch w B sb mb V M O)(a:w'.heap[sb]?=w.heap[sb]?)(b:w'.heap[mb]?=w.heap[mb]?)(c:∀k,V.ownBlock=some k->w'.heap[k]?=w.heap[k]?):Srch w' B sb mb V M O:=by
 obtain⟨D,d,e⟩:=h.map;exact⟨a.trans h.lies,⟨D,yQu d b,e⟩,bX2 h.row c,h.bs,h.bm,h.apM,h.apV,h.apVM,h.nodup,h.rg,h.sub,h.le⟩
theorem Srch.below (h:Srch w B sb mb V M O)(a:Bw w w'):Srch w' B sb mb V M O:=
 h.same (a.block _ h.lt) (a.block _ h.ltm) (fun k b=>a.block k (h.row.lt k b).2)
theorem Srch.few (h:Srch w B sb mb V M O):M.length<=3267:=by
 have:=cXx (N:=33) h.nodup h.rg;omega
theorem Srch.shape (h:Srch w B sb mb V M O):∃a c,V=.slice a O.length c:=by
 rcases yQv h.row with⟨b,d⟩|⟨g,c,b⟩
 ·exact⟨_,_,by rw[b,d]⟩
 ·exact⟨_,_,b⟩
theorem Srch.met (h:Srch w B sb mb V M O)(hs:Rg s)(G:s ∉ M){l:Lit}(E:keyOf Tryz.prog 112 (G3 s)=some l){D:DataW Unit}{d:DataW Unit}
  (z:IsMap D) (A:MapOf D M) (x:w1.ownsMap Tryz.prog 112 unitElem mb (M.length+1) (D.put l d)) (p:w.grownBy w1 (some mb)) (o:Obj)
  (y:w2.ownsRow B 112 3 V' (O.length+1) (O.flatMap aQf++aQf s)) (f:(w1.alloc o).grownBy w2 V.ownBlock) (m:V'.ownBlock=V.ownBlock\/∃k,V'.ownBlock=some k/\w1.heap.size+1<=k) :
  Srch (w2.setCell ⟨sb,1,none⟩ V') B sb mb V' (M++[s]) (O++[s]):=by
 have F:=h.lt;have I:=h.ltm;have J:=p.size;have H:=f.size;simp at H;have q:=V8 w2 sb 1 V';have i:V'.ownBlock≠some sb:=by
  rcases m with e|⟨k,e,C⟩
  ·rw[e];exact h.apV
  ·rw[e];simp;omega
 have r:V'.ownBlock≠some mb:=by
  rcases m with e|⟨k,e,C⟩
  ·rw[e];exact h.apVM
  ·rw[e];simp;omega
 refine⟨?_,⟨D.put l d,?_,A.put z E d⟩,?_,h.bs,h.bm,h.apM,i,r,?_,?_,?_,?_⟩
 ·have u:=p.block sb F (by simp[h.apM])
  have j:=f.block sb (by simp;omega) (Ne.symm h.apV);rw[Below.heap_alloc _ _ _ (by omega),u,h.lies]at j;simp[World.setCell,Array.getElem?_modify,j]
 ·have v:=(x.alloc o).kept f (Ne.symm h.apVM)
  have:=v.kept q (by simp[Ne.symm h.apM]);simpa using this
 ·have:=y.kept q (.inr i)
  simpa using this
 ·rw[List.nodup_append]
  exact⟨h.nodup,by simp,fun a ha b n=>by simp at n;subst n;rintro rfl;exact G ha⟩
 ·intro t g
  rcases List.mem_append.1 g with c|c
  ·exact h.rg t c
  ·simp at c;subst c;exact hs
 ·intro t g
  rcases List.mem_append.1 g with c|c
  ·exact List.mem_append_left _ (h.sub t c)
  ·exact List.mem_append_right _ c
 ·have:=h.le
  simp;exact this
theorem Srch.pop {x:Pr}(h:Srch w B sb mb V M (O++[x])):∃g a,V=Sl g (O.length+1) a/\O.length+1<=a/\(∀j,j<3->w.cell? ⟨g,O.length*3+j,none⟩=(aQf x)[j]?)/\g≠sb/\g<w.heap.size/\
  Srch (w.setCell ⟨sb,1,none⟩ (Sl g O.length a)) B sb mb (Sl g O.length a) M O:=by
 have k:=h.row;obtain⟨v,y⟩:=h.row;rcases y with⟨_,n⟩|⟨g,a,m,rfl,q,i,d,r,t,f⟩
 ·simp at n
 ·have b:g≠sb:=fun e=>h.apV (by rw[<-e];rfl)
  have u:=(Array.getElem?_eq_some_iff.1 i).1;simp only[List.length_append,List.length_singleton]at d f k v ⊢;refine⟨g,a,rfl,d,?_,b,u,?_⟩
  ·intro j z
   rw[k.cellAt _ (by omega),List.flatMap_append,List.getElem?_append_right (by rw[cQv];omega),cQv,Nat.add_sub_cancel_left,List.flatMap_singleton]
  ·have l:=V8 w sb 1 (Sl g O.length a)
   obtain⟨D,o,p⟩:=h.map;refine⟨?_,⟨D,o.kept l (by simp[Ne.symm h.apM]),p⟩,?_,h.bs,h.bm,h.apM,?_,?_,h.nodup,h.rg,fun s hs=>h.sub s (by simp[hs]),?_⟩
   ·have:=h.lies
    simp[World.setCell,Array.getElem?_modify,this]
   ·refine World.ownsRow.kept (w:=w) ⟨cQv O,.inr ⟨g,a,m,rfl,q,i,by omega,r,t,?_⟩⟩ l (.inr (by show some g≠some sb;simp[b]))
    have c:=congrArg (List.take (O.length*3)) f;rw[List.take_take,Nat.min_eq_left (by omega),List.flatMap_append,List.take_append_of_le_length (by rw[cQv];omega)]at c;rw[c,List.take_of_length_le (by rw[cQv];omega)]
   ·show some g≠some sb;simp[b]
   ·exact h.apVM
   ·have:=h.le;simp at this;omega
def dQt (w:World)(sb mb:Nat)(V:Value)(k:Nat):Prop:=k<w.heap.size/\k≠sb/\k≠mb/\some k≠V.ownBlock
structure SStep (w:World)(sb mb:Nat)(V:Value)(w':World)(V':Value):Prop where
 os:w'.os=w.os
 tape:w'.tape=w.tape
 output:w'.output=w.output
 size:w.heap.size<=w'.heap.size
 block:∀k,dQt w sb mb V k->w'.heap[k]?=w.heap[k]?
 row:V'.ownBlock=V.ownBlock\/∃k,V'.ownBlock=some k/\w.heap.size<=k
theorem SStep.free (h:SStep w sb mb V w' V'){k:Nat}(a:dQt w sb mb V k):dQt w' sb mb V' k:=by
 refine⟨Ll a.1 h.size,a.2.1,a.2.2.1,?_⟩;rcases h.row with e|⟨m,e,b⟩
 ·rw[e];exact a.2.2.2
 ·rw[e];have:=a.1;simp;omega
theorem SStep.trans {V1 a:Value}(h:SStep w sb mb V w1 V1)(k:SStep w1 sb mb V1 w2 a):SStep w sb mb V w2 a:=by
 refine⟨k.os.trans h.os,k.tape.trans h.tape,k.output.trans h.output,Lq h.size k.size,fun i b=>(k.block i (h.free b)).trans (h.block i b),?_⟩;rcases k.row with e|⟨m,e,c⟩
 ·rw[e];exact h.row
 ·exact .inr ⟨m,e,Lq h.size c⟩
theorem SStep.of_below (c b:Nat)(V:Value)(h:Bw w w'):SStep w c b V w' V:=⟨h.os,h.tape,h.output,h.size,fun k a=>h.block k a.1,.inl rfl⟩
theorem SStep.below (h:SStep w sb mb V w' V')(a:Srch w B sb mb V M O)(b:B<=w.heap.size):Below B w w':=by
 refine⟨h.os,h.tape,h.output,h.size,fun k c=>h.block k ⟨by omega,?_,?_,?_⟩⟩
 ·have:=a.bs;omega
 ·have:=a.bm;omega
 ·intro e
  have:=(a.row.lt k e.symm).1;omega
theorem Srch.free (h:Srch w B sb mb V M O)(o:Obj):dQt (w.alloc o) sb mb V w.heap.size:=by
 refine⟨by simp,?_,?_,?_⟩
 ·have:=h.lt;omega
 ·have:=h.ltm;omega
 ·intro e
  have:=(h.row.lt _ e.symm).2;omega
end Go.Proofs.YtfklinjaajafgaaGreatDoor
namespace Go.Proofs.YtfklinjaajafgaaGreatDoor
open Ls
open Go.RowKit
variable {g g':Lu}{hi hi' lo lo':Nat}(w:World)(B nb:Nat)(P:Value)(n:Net)(Q:Value)(x:Span)(p:Nat)
theorem xQp (lo b f d:Nat)(i:lo<18446744073709551616)(m:b<18446744073709551616)(t:f<18446744073709551616)(u:d<18446744073709551616) :
  (bits .or .u64 (bits .and .u64 (lo:Int) (f:Int)) (bits .and .u64 (b:Int) (d:Int)) != 0)=true↔∃k,k<128/\G4 lo b k=true/\G4 f d k=true:=by
 have r:lo &&& f<18446744073709551616:=Nat.lt_of_le_of_lt Nat.and_le_left i;have s:b &&& d<18446744073709551616:=Nat.lt_of_le_of_lt Nat.and_le_left m;rw[u64_and_nat lo f i t,u64_and_nat b d m u,u64_or_nat _ _ r s];have p:∀y:Nat,y<18446744073709551616->∀k,y.testBit k=true->k<64:=fun y v k j=>by
  rcases Nat.lt_or_ge k 64 with h|h
  ·exact h
  ·have a:=Ll v (Nat.pow_le_pow_right (n:=2) (by omega) h)
   rw[Nat.testBit_lt_two_pow a]at j;cases j
 constructor
 ·intro h
  have i:(lo &&& f) ||| (b &&& d)≠0:=by intro e;rw[e]at h;simp at h
  obtain⟨q,o⟩:=Nat.exists_testBit_of_ne_zero i;simp only[Nat.testBit_or,Nat.testBit_and,Bool.or_eq_true,Bool.and_eq_true]at o;rcases o with⟨a,c⟩|⟨a,c⟩
  ·have g:=p lo (by omega) q a
   exact⟨q,by omega,by unfold G4;rw[if_pos g];exact a,by unfold G4;rw[if_pos g];exact c⟩
  ·have g:=p b (by omega) q a
   exact⟨q+64,by omega,by unfold G4;rw[if_neg (by omega),Nat.add_sub_cancel];exact a,by unfold G4;rw[if_neg (by omega),Nat.add_sub_cancel];exact c⟩
 ·rintro ⟨k,j,a,c⟩
  rw[bne_iff_ne];intro e;have l:(lo &&& f) ||| (b &&& d)=0:=by omega
  unfold G4 at a c
  by_cases g:k<64
  ·rw[if_pos g]at a c
   have:((lo &&& f) ||| (b &&& d)).testBit k=true:=by simp[Nat.testBit_or,Nat.testBit_and,a,c]
   rw[l]at this;simp at this
  ·rw[if_neg g]at a c
   have:((lo &&& f) ||| (b &&& d)).testBit (k-64)=true:=by simp[Nat.testBit_or,Nat.testBit_and,a,c]
   rw[l]at this;simp at this
theorem xQt (h:SB g lo hi)(i:SB g' lo' hi'):(∃k,k<128/\G4 lo hi k=true/\G4 lo' hi' k=true)↔∃c,Ls.has g c=true/\Ls.has g' c=true:=by
 constructor
 ·rintro ⟨k,j,a,b⟩
  have e:(UInt8.ofNat k).toNat=k:=by rw[UInt8.toNat_ofNat'];omega
  refine⟨UInt8.ofNat k,?_,?_⟩
  ·rw[<-h.bit _ (by rw[e];exact j),e];exact a
  ·rw[<-i.bit _ (by rw[e];exact j),e];exact b
 ·rintro ⟨c,a,b⟩
  have f:c.toNat<128:=by
   rcases Nat.lt_or_ge c.toNat 128 with d|d
   ·exact d
   ·rw[h.none c d]at a;cases a
  exact⟨c.toNat,f,by rw[h.bit c f];exact a,by rw[i.bit c f];exact b⟩
theorem xQs (h:SB g lo hi)(a:SB g' lo' hi') :
  Calls Tryz.prog 98 #[.agg #[.int .u64 lo,.int .u64 hi],.agg #[.int .u64 lo',.int .u64 hi']] w fun e i=>∃b:Bool,e=.returned (.bool b)/\(b=true↔∃c,Ls.has g c=true/\Ls.has g' c=true)/\Bw w i:=by
 have d:Hid _:=(xQp lo hi lo' hi' h.loLt h.hiLt a.loLt a.hiLt).trans (xQt h a);have f:=C6 w (.cells #[.int .u64 lo,.int .u64 hi] 157) (.cells #[.int .u64 lo',.int .u64 hi'] 157);go_enter Tryz.func98,Tryz.ntmps98;go_wp2;go_ret;exact⟨_,rfl,d.out,f⟩
def Z2 (n:Net)(x:Span):Nat->Nat
 | 0=>x.first
 | p+1=>n.behind.getD p 0
theorem cQ9 (i:Nat):(au n x).nx p (i+1)=(Z2 n x p).testBit i:=by cases p<;>rfl
theorem NetL.nextV_lt {w:World}{B c:Nat}{P Q:Value}{n:Net}{x:Span}(h:NetL w B c P Q n x)(a:x.first<4294967296)(p:Nat):Z2 n x p<4294967296:=by
 cases p with
 | zero=>exact a
 | succ p=>
  show n.behind.getD p 0<_;rw[List.getD_eq_getElem?_getD];cases b:n.behind[p]? with
  | none=>simp
  | some v=>exact h.small v (List.mem_of_getElem? b)
theorem lQv (h:NetL w B nb P Q n x)(u:p<=n.places.length) :
  Calls Tryz.prog 96 #[Pt nb,Iv ((p:Int)-1)] w fun e m=>e=.returned (.int .u32 (Z2 n x p))/\m=w:=by
 have t:=h.lt;have a:=h.lies;have r:=h.few;have k:=h.good;unfold jX5 at k;have f:w.cell? ⟨nb,2,none⟩=some (.int .u32 x.first):=by simp[World.cell?,a]
 have d:=h.c1;cases p with
 | zero=>
  rw[show (((0:Nat):Int)-1)=-1 from rfl];go_enter Tryz.func96,Tryz.ntmps96;go_wp2;go_ret;exact⟨rfl,rfl⟩
 | succ p=>
  rw[show (((p+1:Nat):Int)-1)=(p:Int) by omega];have b:p<n.behind.length:=by omega
  obtain⟨l,y,rfl⟩:=h.shapeQ';obtain⟨g,rfl⟩:∃g,l=some ⟨g,0,none⟩:=by
   obtain⟨g,o,e,_⟩:=h.bhs.form (by omega);injection e with i;exact⟨g,i⟩
  have q:w.cell? ⟨g,p,none⟩=some (.int .u32 n.behind[p]):=by
   have j:=h.bhs.cellAt p (by show p<n.places.length*1;omega);rw[j,List.getElem?_map,List.getElem?_eq_getElem b];rfl
  have c:Hid (Z2 n x (p+1)=n.behind[p]):=by
   show n.behind.getD p 0=_;rw[List.getD_eq_getElem?_getD,List.getElem?_eq_getElem b];rfl
  have s:((p:Int)==-1)=false:=by simp
  have v:(p:Int)<(n.places.length:Int):=by omega
  go_enter Tryz.func96,Tryz.ntmps96;go_wp2;go_ret;exact⟨by rw[c.out];rfl,rfl⟩
theorem bQ4 (h:NetL w B nb P Q n x)(c:x.last<4294967296)(l:p<=n.places.length) :
  Calls Tryz.prog 65 #[Pt nb,Iv ((p:Int)-1)] w fun e d=>e=.returned (.bool ((au n x).en p))/\d=w:=by
 have k:=h.lt;have a:=h.lies;have i:=h.few;have f:w.cell? ⟨nb,3,none⟩=some (.int .u32 x.last):=by simp[World.cell?,a]
 have g:w.cell? ⟨nb,4,none⟩=some (.bool x.empty):=by simp[World.cell?,a]
 cases p with
 | zero=>
  rw[show (((0:Nat):Int)-1)=-1 from rfl];go_enter Tryz.func65,Tryz.ntmps65;go_wp2;go_ret;exact⟨rfl,rfl⟩
 | succ p=>
  rw[show (((p+1:Nat):Int)-1)=(p:Int) by omega];have j:((p:Int)==-1)=false:=by simp
  have b:=bQl x.last p c (by omega) w;go_enter Tryz.func65,Tryz.ntmps65;go_wp2_with fail;refine b.mono ?_;rintro e m ⟨rfl,rfl⟩;go_wp2;go_ret;exact⟨rfl,rfl⟩
end Go.Proofs.YtfklinjaajafgaaGreatDoor
namespace Go.Proofs.YtfklinjaajafgaaGreatDoor
open Ls
open Go.RowKit Go.Maps
variable {B a mb sb:Nat}{M O:List Pr}{V:Value}{W w:World}{i1 i2:Int}(s:Pr)
theorem vQr:(Tryz.prog.info? 112).map (fun i=>(i.zero,i.size,i.bytes))=some (some (.agg #[Iv 0,Iv 0,Iv 0]),3,24):=by kernel_rfl
theorem eQ8 {n:Nat}{D:DataW Unit}(h:w.ownsMap Tryz.prog 112 unitElem mb n D){s:Pr}{l:Lit}(c:keyOf Tryz.prog 112 (G3 s)=some l) :
  (Instr.lookup 113 (.map (some mb)) (G3 s) true).run Tryz.prog w=.ok (.tuple #[.agg #[],.bool (Maps.has D l)]) w:=by
 obtain⟨v,d,a,b⟩:=h.look_ok eQ2 Tryz.underlying113 (eX2 w) unitElem_mk c;obtain⟨rfl,_⟩:=unitElem_inv b;exact a
def dQw (w:World)(B sb mb:Nat)(V:Value)(M O:List Pr)(S:Pr->Prop):Ending->World->Prop:=fun e w'=>
 e=.returned (.tuple #[])/\∃V' T,Srch w' B sb mb V' (M++T) (O++T)/\(∀t,t∈T->S t)/\(∀t,S t->t∈M++T)/\SStep w sb mb V w' V'
theorem Srch.drew (h:Srch w B sb mb V M O):Srch w.drew B sb mb V M O:=h.same rfl rfl (fun _ _=>rfl)
structure Box (w W:World)(B sb mb:Nat)(V:Value)(M O:List Pr)(a:Nat)(i1 i2:Int):Prop where
 srch:Srch W B sb mb V M O
 below:Bw w W
 box:W.heap[w.heap.size]?=some (.cells #[.int .i64 a,.int .i64 i1,.int .i64 i2] 112 (0,0))
 lt:sb<w.heap.size
 ltm:mb<w.heap.size
theorem Box.start (h:Srch w B sb mb V M O)(a:Nat)(b c:Int):Box w (w.alloc (.cells #[Iv a,Iv b,Iv c] 112)) B sb mb V M O a b c:=⟨h.below (A5 _ _),A5 _ _,heap_alloc_new _ _,h.lt,h.ltm⟩
theorem Box.cells (h:Box w W B sb mb V M O a i1 i2) :
  W.cell? ⟨sb,0,none⟩=some (.map (some mb))/\W.cell? ⟨sb,1,none⟩=some V/\W.cell? ⟨w.heap.size,0,none⟩=some (.int .i64 a)/\W.cell? ⟨w.heap.size,1,none⟩=some (.int .i64 i1)/\W.cell? ⟨w.heap.size,2,none⟩=some (.int .i64 i2):=by
 have b:=h.box;have c:=h.srch.lies;refine⟨?_,?_,?_,?_,?_⟩
 ·simp[World.cell?,c]
 ·simp[World.cell?,c]
 ·simp[World.cell?,b]
 ·simp[World.cell?,b]
 ·simp[World.cell?,b]
theorem xQr (w:World)(B g k:Nat)(V:Value)(M O:List Pr)(h:Srch w B g k V M O)(hs:Rg s)(f:s∈M) :
  Calls Tryz.prog 66 #[Pt g,G3 s] w (dQw w B g k V M O (fun t=>t=s)):=by
 obtain⟨l,c⟩:=kQ2 hs;have b:=Box.start h s.1 ((s.2.1:Int)-1) ((s.2.2:Int)-1);obtain⟨D,e,i⟩:=b.srch.map;have j:=(i s l hs c).2 f;have n:=eQ8 e.drew c;have o:=eQ8 (e.alloc (.cells #[] 159)).drew c;rw[j]at n o;have m:Hid _:=f;unfold G3 at *;generalize s.1=a at *;generalize ((s.2.1:Int)-1)=q at *;generalize ((s.2.2:Int)-1)=r at *;go_enter Tryz.func66,Tryz.ntmps66;go_upto_region 1 with (fail);generalize (w.alloc (.cells #[Iv (a:Int),Iv q,Iv r] 112))=W at *;obtain⟨u,_,y,z,A⟩:=b.cells;have v:=(Array.getElem?_eq_some_iff.1 b.box).1;have x:=b.srch.lt;have d:Hid _:=b;go_wp2;go_region
 all_goals
  go_wp2;go_end0;refine⟨rfl,V,[],?_,by simp,fun t p=>by subst p;simpa using m.out,?_⟩
  ·simpa using (d.out.srch.below (A5 W (.cells #[] 159))).drew
  ·exact SStep.of_below _ _ _ (d.out.below.alloc d.out.below.size _).drew
theorem Box.next (h:Box w W B sb mb V M O a i1 i2)(o:Obj):Box w (W.alloc o).drew B sb mb V M O a i1 i2:=⟨(h.srch.below (A5 _ _)).drew,(Below.trans h.below ((A5 W o).mono h.below.size)).drew,(Below.heap_alloc _ _ _ (Array.getElem?_eq_some_iff.1 h.box).1).trans h.box,h.lt,h.ltm⟩
structure Put (w W W3:World)(B sb mb:Nat)(V:Value)(a:Nat)(i1 i2:Int):Prop where
 grown:W.grownBy W3 (some mb)
 c1:W3.cell? ⟨sb,1,none⟩=some V
 f1:W3.frozen? ⟨sb,1,none⟩=false
 k0:W3.cell? ⟨w.heap.size,0,none⟩=some (.int .i64 a)
 k1:W3.cell? ⟨w.heap.size,1,none⟩=some (.int .i64 i1)
 k2:W3.cell? ⟨w.heap.size,2,none⟩=some (.int .i64 i2)
 z1:w.heap.size<W3.heap.size
 z2:sb<W3.heap.size
theorem Box.put {e:World}(h:Box w W B sb mb V M O a i1 i2)(d:W.grownBy e (some mb)):Put w W e B sb mb V a i1 i2:=by
 have b:=d.block _ (Array.getElem?_eq_some_iff.1 h.box).1 (by have:=h.ltm;simp;omega);rw[h.box]at b;have c:=d.block sb h.srch.lt (by have:=h.srch.apM;simp[this]);rw[h.srch.lies]at c;refine⟨d,?_,?_,?_,?_,?_,(Array.getElem?_eq_some_iff.1 b).1,(Array.getElem?_eq_some_iff.1 c).1⟩
 ·simp[World.cell?,c]
 ·simp[World.frozen?,c]
 ·simp[World.cell?,b]
 ·simp[World.cell?,b]
 ·simp[World.cell?,b]
theorem xQq (w:World)(B b d:Nat)(V:Value)(M O:List Pr)(h:Srch w B b d V M O)(hB:B<=w.heap.size)(hs:Rg s)(X:s ∉ M) :
  Calls Tryz.prog 66 #[Pt b,G3 s] w (dQw w B b d V M O (fun t=>t=s)):=by
 obtain⟨l,r⟩:=kQ2 hs;have n:=Box.start h s.1 ((s.2.1:Int)-1) ((s.2.2:Int)-1);obtain⟨D,x,T⟩:=n.srch.map;have E:Maps.has D l=false:=by
  cases E:Maps.has D l with
  | false=>rfl
  | true=>exact absurd ((T s l hs r).1 E) X
 have U:=eQ8 x.drew r;have a6:=eQ8 (x.alloc (.cells #[] 159)).drew r;rw[E]at U a6;have c3:=h.few;have c5:=h.le;have a7:=fun (W:World) (hW:W.ownsMap Tryz.prog 112 unitElem d M.length D)=>hW.store eQ2 Tryz.underlying113 (by unfold maxLen;omega) r unitElem_mk;have a9:Hid _:=a7;have z:Hid ((((w.alloc (.cells #[Iv (s.1:Nat),Iv ((s.2.1:Int)-1),Iv ((s.2.2:Int)-1)] 112)).alloc (.cells #[] 159)).drew).ownsMap Tryz.prog 112 unitElem d M.length D):=(x.alloc (.cells #[] 159)).drew;obtain⟨K,L,rfl⟩:=h.shape;have HF:Hid (∀w f N V m a0 (_:Srch w B b d V M O) (_:f.ownsMap Tryz.prog 112 unitElem d (M.length+1) (D.put l a0)) (_:w.grownBy f (some d)) o (_:N.ownsRow B 112 3 m (O.length+1) (O.flatMap aQf++aQf s)) (_:(f.alloc o).grownBy N V.ownBlock) (_:m.ownBlock=V.ownBlock\/∃k,m.ownBlock=some k/\f.heap.size+1<=k),Srch (N.setCell ⟨b,1,none⟩ m) B b d m (M++[s]) (O++[s])):=
  fun w f N V m a0 h h1 b1 o h2 b2 hV=>h.met hs X r x.isMap T h1 b1 o h2 b2 hV
 unfold G3 aQf at *;generalize b7:s.1=a at *;generalize b8:((s.2.1:Int)-1)=F at *;generalize b9:((s.2.2:Int)-1)=G at *;go_enter Tryz.func66,Tryz.ntmps66;go_upto_region 1 with (fail);generalize (w.alloc (.cells #[Iv (a:Int),Iv F,Iv G] 112))=W at *;obtain⟨Q,_,H,I,J⟩:=n.cells;have Y:=(Array.getElem?_eq_some_iff.1 n.box).1;have Z:=n.srch.lt;have i:Hid _:=n.next (.cells #[] 159);go_wp2;go_region
 all_goals
  go_wp2;have C:=i.out;have a1:=z.out;generalize (W.alloc (Obj.cells #[] 159)).drew=P at *;obtain⟨c,b5,a2,a8⟩:=a9.out P.drew a1.drew;obtain⟨Q,R,H,I,J⟩:=C.cells;have a5:P.grownBy c (some d):=by have g:=a8.grown;exact⟨g.os,g.tape,g.output,g.size,g.block⟩
  have hP:=C.put a5;have A:Hid _:=hP;have i:Hid _:=C;have z:Hid _:=a2;go_region
  all_goals
   go_wp2;obtain⟨_,R,f1,H,I,J,z1,z2⟩:=A.out;obtain⟨i0,b3,Y,Z,c0⟩:=info_parts vQr;have hR:=i.out.srch.row.kept A.out.grown (.inr i.out.srch.apVM);have a3:=i.out.srch.apV;have c1:=Lq hB (Nat.le_of_lt z1);go_region_law
    ((refine step_append_lies _ (by rfl) _ _ _ (by rfl) B 112 i0 _ 3 24 Tryz.underlying114 b3 Y Z c0 rfl (by omega) (.slice K O.length L) O.length _ (by rfl) (hR.alloc _) ⟨c.heap.size,0,none⟩ 1 1 [Iv a,Iv F,Iv G] (by rfl) (by rfl) (World.news_of_block (cs:=#[Iv a,Iv F,Iv G]) (t:=112) (fr:=(0,0)) (heap_alloc_new c _)) (by simp[Value.oneCell']) (by omega) (by unfold maxLen;omega) (by omega) (by simp;omega) (c.heap.size+1) (by simp) ?_;intro S b0 f b4 j a4 c6;have c4:=(j.frozen_far ⟨b,1,none⟩ (by simp;omega) (Ne.symm a3)).trans (((A5 c _).frozen (p:=⟨b,1,none⟩) z2).trans f1);have c2:=(j.cell_far ⟨b,1,none⟩ (by simp;omega) (Ne.symm a3)).trans (((A5 c _).cell (p:=⟨b,1,none⟩) z2).trans R)))
   all_goals
    go_wp2;go_end0;have q:(c.alloc (.cells #[Iv a,Iv F,Iv G] 112)).grownBy f (Value.slice K O.length L).ownBlock:=⟨j.os,j.tape,j.output,j.size,j.block⟩;refine⟨rfl,Sl S (O.length+1) b0,[s],HF.out P c f _ _ _ i.out.srch z.out A.out.grown _ b4 q ?_,by simp,by simp,?_⟩
    ·rcases a4 with e|e
     ·exact .inl (by rw[e];rfl)
     ·exact .inr ⟨S,rfl,by omega⟩
    ·have v:=A.out.grown
     have u:=i.out.below;have c7:=v.size;have b6:=q.size;simp at b6;refine⟨q.os.trans (v.os.trans u.os),q.tape.trans (v.tape.trans u.tape),q.output.trans (v.output.trans u.output),by simp[World.setCell];omega,fun k y=>?_,?_⟩
     ·have hz:=u.size
      have U:=y.1;rw[Below.heap_setCell _ _ _ _ y.2.1,q.block k (by simp;omega) y.2.2.2,Below.heap_alloc _ _ _ (by omega),v.block k (by omega) (by simp[y.2.2.1]),u.block k y.1]
     ·rcases a4 with e|e
      ·exact .inl (by rw[e];rfl)
      ·exact .inr ⟨S,rfl,by omega⟩
theorem hQo (w:World)(B a b:Nat)(V:Value)(M O:List Pr)(h:Srch w B a b V M O)(d:B<=w.heap.size)(hs:Rg s) :
  Calls Tryz.prog 66 #[Pt a,G3 s] w (dQw w B a b V M O (fun t=>t=s)):=by
 by_cases c:s∈M
 ·exact xQr s w B a b V M O h hs c
 ·exact xQq s w B a b V M O h d hs c
theorem cXs (w:World)(o:Obj):Srch (((w.alloc o).alloc (.map #[] 0)).alloc (.cells #[.map (some (w.heap.size+1)),.slice none 0 0] 116)) w.heap.size (w.heap.size+1+1) (w.heap.size+1) (.slice none 0 0) [] []:=by
 have a:((w.alloc o).alloc (.map #[] 0)).ownsMap Tryz.prog 112 (unitElem (H:=Unit)) (w.heap.size+1) 0 (.map []):=by
  have:=World.ownsMap_made (H:=Unit) (w.alloc o) Tryz.prog 112 unitElem;simpa using this
 have b:=heap_alloc_new ((w.alloc o).alloc (.map #[] 0)) (.cells #[.map (some (w.heap.size+1)),.slice none 0 0] 116);refine⟨by simpa using b,⟨.map [],a.alloc _,?_⟩,World.ownsRow_nil _ _ _ _,by omega,by omega,by omega,?_,?_,by simp,by simp,by simp,by simp⟩
 ·intro s l _ _
  simp[Maps.has]
 ·simp[Value.ownBlock]
 ·simp[Value.ownBlock]
theorem qQ3 {T:List Pr}{s:Pr}(d:T.Nodup)(c:∀t,t∈T->t=s)(e:s∈T):T=[s]:=by
 match T,d,c,e with
 | [],_,_,e=>simp at e
 | [a],_,c,_=>rw[c a (by simp)]
 | a::b::r,d,c,_=>
  have f:=c a (by simp);have g:=c b (by simp);subst f;simp[g]at d
theorem lQs (w:World)(hs:Rg s) :
  Calls Tryz.prog 62 #[G3 s] w fun e c=>∃g l V,e=.returned (Pt g)/\Srch c w.heap.size g l V [s] [s]/\Bw w c:=by
 have n:=@run_makeMap Tryz.prog;have a:=cXs w (.cells #[Iv (s.1:Nat),Iv ((s.2.1:Int)-1),Iv ((s.2.2:Int)-1)] 112);have i:=hQo s _ _ _ _ _ _ _ a (by simp;omega) hs;have b:=C6 w (.cells #[Iv (s.1:Nat),Iv ((s.2.1:Int)-1),Iv ((s.2.2:Int)-1)] 112) (.map #[] 0);have j:=b.alloc b.size (.cells #[.map (some (w.heap.size+1)),.slice none 0 0] 116);have h:Hid _:=a;unfold G3 at *;go_enter Tryz.func62,Tryz.ntmps62;go_wp2_with fail;refine i.mono ?_;rintro e c ⟨rfl,m,T,a,d,f,k⟩;obtain rfl:T=[s]:=qQ3 (by have:=a.nodup;simpa using this) d (by have:=f s rfl;simpa using this);go_wp2;go_ret;exact⟨_,_,_,rfl,by simpa using a,Below.trans j (k.below h.out (by simp;omega))⟩
theorem nQn (w:World)(B a f:Nat)(V:Value)(M O:List Pr)(x:Pr)(h:Srch w B a f V M (O++[x])) :
  Calls Tryz.prog 63 #[Pt a] w fun e l=>e=.returned (G3 x)/\∃i,Srch l B a f i M O/\SStep w a f V l i:=by
 have A:=h.lt;have u:=h.few;have p:=h.le;simp only[List.length_append,List.length_singleton]at p;obtain⟨g,c,n,t,b,y,z,j⟩:=h.pop;subst n;have s:=h.bs;have d:=h.lies;have q:w.cell? ⟨a,1,none⟩=some (.slice (some ⟨g,0,none⟩) (O.length+1) c):=by simp[World.cell?,d]
 have r:w.frozen? ⟨a,1,none⟩=false:=by simp[World.frozen?,d]
 have E:w.cell? ⟨g,O.length*3,none⟩=some (.int .i64 (x.1:Nat)):=b 0 (by omega);have F:=b 1 (by omega);have G:=b 2 (by omega);have m:Hid _:=j;unfold G3;have C:(((O.length+1:Nat):Int)-1)=(O.length:Int):=by omega
 go_enter Tryz.func63,Tryz.ntmps63;go_wp2;refine bodyPost_ret (v:=G3 x) (by simp[results,Tryz.results63,go_sem]) rfl ⟨rfl,_,m.out.below (C6 _ _ _),?_⟩;refine SStep.trans (w1:=w.setCell ⟨a,1,none⟩ (.slice (some ⟨g,0,none⟩) O.length c)) (V1:=.slice (some ⟨g,0,none⟩) O.length c) ?_ (SStep.of_below _ _ _ (C6 _ _ _));exact⟨rfl,rfl,rfl,by simp[World.setCell],fun k o=>Below.heap_setCell _ _ _ _ o.2.1,.inl rfl⟩
end Go.Proofs.YtfklinjaajafgaaGreatDoor
namespace Go.Proofs.YtfklinjaajafgaaGreatDoor
open Ls
open Go.RowKit
variable {B k m:Nat}{M O T:List Pr}{n n':Net}{s:Pr}{w:World}{x x':Span}(nb nb':Nat)(P Q P' Q':Value)
structure Nt (w:World)(B nb:Nat)(P Q:Value)(n:Net)(x:Span):Prop where
 net:∃B0,NetL w B0 nb P Q n x
 low:nb<B
 lowP:∀k,P.ownBlock=some k->k<B
 lowQ:∀k,Q.ownBlock=some k->k<B
 fst:x.first<4294967296
 lst:x.last<4294967296
theorem Nt.keep {d:World}{c:Nat}{P Q:Value}(h:Nt w B c P Q n x)(a:Below B w d):Nt d B c P Q n x:=by
 obtain⟨e,f⟩:=h.net;exact⟨⟨e,f.same (a.block _ h.low) (fun k b=>a.block k (h.lowP k b)) (fun k b=>a.block k (h.lowQ k b))⟩,h.low,h.lowP,h.lowQ,h.fst,h.lst⟩
def U6 (A C:Au)(s:Pr)(M T:List Pr)(k m:Nat):Prop:=
 (∀t,t∈T->Stp A C s t)/\∀t,Stp A C s t->t.2.1<=k\/(t.2.1=k+1/\t.2.2<=m)->t∈M++T
theorem aQg {t:Pr}(h:Stp (au n x) (au n' x') s t):0<t.2.1/\t.2.1<=n.places.length/\0<t.2.2/\t.2.2<=n'.places.length:=by
 obtain⟨_,_,_,c,a,b⟩:=h;obtain⟨i,d,f⟩:=nXg a;obtain⟨j,e,g⟩:=nXg b;omega
theorem zQk (n b:Net)(x c:Span)(s:Pr)(M:List Pr):U6 (au n x) (au b c) s M [] 0 0:=⟨by simp,fun t a d=>by have:=aQg a;omega⟩
theorem zQj (h:U6 (au n x) (au n' x') s M T k 0)(c:(au n x).nx s.2.1 (k+1)=false):U6 (au n x) (au n' x') s M T (k+1) 0:=by
 refine⟨h.1,fun t a d=>?_⟩;have f:=aQg a
 by_cases e:t.2.1=k+1
 ·have b:=a.2.1
  rw[e,c]at b;cases b
 ·exact h.2 t a (by omega)
theorem zQa (h:U6 (au n x) (au n' x') s M T k m)(c:n'.places.length<=m):U6 (au n x) (au n' x') s M T (k+1) 0:=⟨h.1,fun t a b=>h.2 t a (by have:=aQg a;omega)⟩
theorem lQ9 (h:U6 (au n x) (au n' x') s M T k m)(c:¬Stp (au n x) (au n' x') s (s.1,k+1,m+1)):U6 (au n x) (au n' x') s M T k (m+1):=by
 refine⟨h.1,fun t a d=>?_⟩
 by_cases e:t.2.1=k+1/\t.2.2=m+1
 ·refine absurd ?_ c
  have b:t=(s.1,k+1,m+1):=Prod.ext a.1 (Prod.ext e.1 e.2);rw[<-b];exact a
 ·exact h.2 t a (by omega)
theorem zQd {a:List Pr}(h:U6 (au n x) (au n' x') s M T k m)(i:Stp (au n x) (au n' x') s (s.1,k+1,m+1))(f:∀t,t∈a->t=(s.1,k+1,m+1))(g:(s.1,k+1,m+1)∈(M++T)++a):U6 (au n x) (au n' x') s M (T++a) k (m+1):=by
 refine⟨fun t j=>?_,fun t c l=>?_⟩
 ·rcases List.mem_append.1 j with b|b
  ·exact h.1 t b
  ·rw[f t b];exact i
 ·rw[<-List.append_assoc]
  by_cases e:t.2.1=k+1/\t.2.2=m+1
  ·have d:t=(s.1,k+1,m+1):=Prod.ext c.1 (Prod.ext e.1 e.2)
   rw[d];exact g
  ·exact List.mem_append_left _ (h.2 t c (by omega))
theorem iQm:Stp (au n x) (au n' x') s (s.1,k+1,m+1)↔(Z2 n x s.2.1).testBit k=true/\(Z2 n' x' s.2.2).testBit m=true/\∃c,Ls.has (n.places.getD k []) c=true/\Ls.has (n'.places.getD m []) c=true:=by
 constructor
 ·rintro ⟨_,a,b,d⟩
  exact⟨(cQ9 _ _ _ _).symm.trans a,(cQ9 _ _ _ _).symm.trans b,d⟩
 ·rintro ⟨a,b,d⟩
  exact⟨rfl,(cQ9 _ _ _ _).trans a,(cQ9 _ _ _ _).trans b,d⟩
theorem dQf (w:World)(B b d:Nat)(V:Value)(M O:List Pr)(h:Srch w B b d V M O)(hB:B<=w.heap.size)(s:Pr)(f8:s.1=0\/s.1=1\/s.1=2)
    (n f:Net) (x C:Span) (hN:Nt w B nb P Q n x) (e4:Nt w B nb' P' Q' f C) (j1:s.2.1<=n.places.length) (j2:s.2.2<=f.places.length) :
  Calls Tryz.prog 64 #[Pt b,G3 s,Pt nb,Pt nb'] w (dQw w B b d V M O (fun c5=>Stp (au n x) (au f C) s c5)):=by
 have X:=A5 w (.cells #[.int .i64 (s.1:Nat),.int .i64 ((s.2.1:Int)-1),.int .i64 ((s.2.2:Int)-1)] 112);have b4:(w.alloc (.cells #[.int .i64 (s.1:Nat),.int .i64 ((s.2.1:Int)-1),.int .i64 ((s.2.2:Int)-1)] 112)).heap[w.heap.size]?=some (.cells #[.int .i64 (s.1:Nat),.int .i64 ((s.2.1:Int)-1),.int .i64 ((s.2.2:Int)-1)] 112 (0,0)):=heap_alloc_new _ _;have e6:=h.below X;have e0:=h.free (.cells #[.int .i64 (s.1:Nat),.int .i64 ((s.2.1:Int)-1),.int .i64 ((s.2.2:Int)-1)] 112);have g2:=SStep.of_below b d V X;have a9:=hN.keep (X.mono hB);have b0:=e4.keep (X.mono hB);have h1:Hid _:=f8;unfold G3;go_enter Tryz.func64,Tryz.ntmps64;go_upto_region 1 with (fail);generalize w.alloc (.cells #[.int .i64 (s.1:Nat),.int .i64 ((s.2.1:Int)-1),.int .i64 ((s.2.2:Int)-1)] 112)=W at *;obtain⟨k0,k1,k2⟩:W.cell? ⟨w.heap.size,0,none⟩=some (.int .i64 (s.1:Nat))/\W.cell? ⟨w.heap.size,1,none⟩=some (.int .i64 ((s.2.1:Int)-1))/\W.cell? ⟨w.heap.size,2,none⟩=some (.int .i64 ((s.2.2:Int)-1)):=by
  refine⟨?_,?_,?_⟩<;>simp[World.cell?,b4]
 have H1:Hid (∀q,Calls Tryz.prog 96 #[.pointer (some ⟨nb,0,none⟩),.int .i64 ((s.2.1:Int)-1)] (W.drewN q) fun e w'=>e=.returned (.int .u32 (Z2 n x s.2.1))/\w'=W.drewN q):=fun q=>by
  obtain⟨Y,i⟩:=a9.net;exact lQv _ Y nb P n Q x _ (i.below (E5 q)) j1
 have H2:Hid (∀q,Calls Tryz.prog 96 #[.pointer (some ⟨nb',0,none⟩),.int .i64 ((s.2.2:Int)-1)] (W.drewN q) fun e w'=>e=.returned (.int .u32 (Z2 f C s.2.2))/\w'=W.drewN q):=fun q=>by
  obtain⟨Y,i⟩:=b0.net;exact lQv _ Y nb' P' f Q' C _ (i.below (E5 q)) j2
 have HM:Hid _:=a9;have c7:Hid _:=b0;have d2:Hid _:=e6;have a3:Hid _:=e0;have a6:Hid _:=g2;have Z:Hid _:=b4;clear a9 b0 e6 e0 g2 b4 X;generalize l4:((s.2.1:Int)-1)=i1 at *;generalize l5:((s.2.2:Int)-1)=i2 at *;go_wp2;go_quiet (first|(go_at_call_of 96 (Value.int .i64 i1);exact Calls.quiet_of_same (H1.out _))|(go_at_call_of 96 (Value.int .i64 i2);exact Calls.quiet_of_same (H2.out _)))
 obtain⟨N,b3⟩:∃N,N=W.drewN nq:=⟨_,rfl⟩;have I:Below W.heap.size W N:=by rw[b3];exact E5 nq
 have c2:B<=W.heap.size:=Nat.le_trans hB a6.out.size;have e7:=d2.out.below I;have e2:=(SStep.of_below b d V I).free a3.out;have b9:=a6.out.trans (SStep.of_below b d V I);have f4:=(I.block _ a3.out.1).trans Z.out;have S:=HM.out.keep (I.mono c2);have U:=c7.out.keep (I.mono c2);rw[<-b3];clear b3 I HM c7 d2 a3 a6 Z H1 H2 k0 k1 k2 c2;clear W;obtain⟨Y,o⟩:=S.net;obtain⟨k5,a8⟩:=U.net;have f5:=S.net.elim fun _ h=>h.nextV_lt S.fst s.2.1;have f6:=U.net.elim fun _ h=>h.nextV_lt U.fst s.2.2;obtain⟨pa,pc,rfl⟩:=o.shapeP;obtain⟨k4,l8,rfl⟩:=a8.shapeP;have c0:=o.c0;have k8:=o.few;have k9:=a8.few;have d9:B<=N.heap.size:=Nat.le_trans hB b9.size;have g7:Hid _:=S;have g8:Hid _:=U;have d3:Hid _:=e7;have c6:Hid _:=e2;have h5:Hid _:=b9;have Z:Hid _:=f4;obtain⟨f1,b5⟩:∃f1,f1=Z2 n x s.2.1:=⟨_,rfl⟩;obtain⟨f2,b6⟩:∃f2,f2=Z2 f C s.2.2:=⟨_,rfl⟩;rw[<-b5]at f5 ⊢;rw[<-b6]at f6 ⊢;have d7:Hid _:=b5;have d8:Hid _:=b6;clear b5 b6;clear o a8 S U e7 e2 b9 f4;go_wp2_with fail;go_loopw [27] (fun c3 wr=>∃k T E,k<=n.places.length/\c3=.int .i64 (k:Nat)/\Srch wr B b d E (M++T) (O++T)/\SStep N b d V wr E/\U6 (au n x) (au f C) s M T k 0) (fun c3 _=>n.places.length-(intOf c3).toNat)
 case atStart=>exact⟨0,[],V,Nat.zero_le _,rfl,by simpa using d3.out,SStep.of_below _ _ _ (Below.refl _ _),zQk n f x C s M⟩
 case round=>
  obtain⟨c,j3⟩:∃c,c=wr:=⟨_,rfl⟩;subst j3;obtain⟨k,T,E,hk,rfl,F,a,H⟩:=hrel;have f0:=a.below d3.out d9;have e5:=g7.out.keep f0;have HP:Hid _:=H
  by_cases i8:k<n.places.length
  ·obtain⟨B1,o⟩:=e5.net
   obtain⟨g,rfl⟩:∃g,pa=some ⟨g,0,none⟩:=by
    obtain⟨k3,i,h2,h3⟩:=o.pls;obtain⟨g,i0,e,_⟩:=h3.form (by omega);injection e with e1;exact⟨g,e1⟩
   obtain⟨lo,G,d0,d1,i4⟩:=o.placeAt i8;have r:=bQl f1 k f5 (by omega) (c.alloc (.cells #[.int .u64 lo,.int .u64 G] 157));have u:Hid _:=F;have z:Hid _:=a;have c9:Hid _:=g8.out.keep f0;have R:B<=c.heap.size:=Nat.le_trans d9 a.size;clear F a H e5 o;cases j:f1.testBit k with
   | false=>
    rw[j]at r;have y:Hid _:=zQj HP.out (by rw[cQ9,<-d7.out];exact j);clear j;go_wp2_with fail;refine r.mono ?_;rintro e w1 ⟨rfl,rfl⟩;go_wp2_with fail;go_roundw
    case rel=>exact⟨k+1,T,E,by omega,by go_num,u.out.below (A5 _ _),z.out.trans (SStep.of_below _ _ _ (A5 _ _)),y.out⟩
    case measure=>simp[intOf];omega
   | true=>
    rw[j]at r;have v:=A5 c (.cells #[.int .u64 lo,.int .u64 G] 157);have e8:=u.out.below v;have g3:=z.out.trans (SStep.of_below b d E v);have f9:(c.alloc (.cells #[.int .u64 lo,.int .u64 G] 157)).heap[c.heap.size]?=some (.cells #[.int .u64 lo,.int .u64 G] 157 (0,0)):=heap_alloc_new _ _;have f7:=u.out.free (.cells #[.int .u64 lo,.int .u64 G] 157);have b1:=c9.out.keep (v.mono R);obtain⟨B2,e3⟩:=b1.net;have h9:=e3.c0;have a7:B<=(c.alloc (.cells #[.int .u64 lo,.int .u64 G] 157)).heap.size:=Nat.le_trans R v.size;have a5:Hid _:=e8;have a1:Hid _:=g3;have d5:Hid _:=f9;have a4:Hid _:=f7;have c8:Hid _:=b1;have g9:Hid _:=j;clear e8 g3 f9 f7 b1 e3 v u z c9 j;go_wp2_with fail;refine r.mono ?_;rintro e w1 ⟨rfl,g5⟩;rw[<-g5]at a5 a1 d5 a4 c8 h9 a7;clear g5 r;go_wp2_with fail;go_loopw [41] (fun c4 t=>∃m l A,m<=f.places.length/\c4=.int .i64 (m:Nat)/\Srch t B b d A (M++l) (O++l)/\SStep w1 b d E t A/\U6 (au n x) (au f C) s M l k m) (fun c4 _=>f.places.length-(intOf c4).toNat)
    case atStart=>exact⟨0,T,E,Nat.zero_le _,rfl,a5.out,SStep.of_below _ _ _ (Below.refl _ _),HP.out⟩
    case round=>
     obtain⟨m,l,A,hm,rfl,F,a,H⟩:=hrel;have i6:=a.below a5.out a7;have b2:=c8.out.keep i6;have a0:Hid _:=H;have b7:=a1.out.free c6.out;have f3:=(a.block _ b7).trans ((a1.out.block _ c6.out).trans Z.out);have c1:=(a.block _ a4.out).trans d5.out;have k0:wr.cell? ⟨w.heap.size,0,none⟩=some (.int .i64 (s.1:Nat)):=by simp[World.cell?,f3]
     have g0:wr.cell? ⟨c.heap.size,0,none⟩=some (.int .u64 lo):=by simp[World.cell?,c1]
     have g1:wr.cell? ⟨c.heap.size,1,none⟩=some (.int .u64 G):=by simp[World.cell?,c1]
     have j4:w.heap.size<wr.heap.size:=Nat.lt_of_lt_of_le b7.1 a.size;have g6:c.heap.size<wr.heap.size:=Nat.lt_of_lt_of_le a4.out.1 a.size;clear b7 f3 c1
     by_cases i9:m<f.places.length
     ·obtain⟨B3,o⟩:=b2.net
      obtain⟨g',rfl⟩:∃g,k4=some ⟨g,0,none⟩:=by
       obtain⟨k3,i,h2,h3⟩:=o.pls;obtain⟨g,i0,e,_⟩:=h3.form (by omega);injection e with e1;exact⟨g,e1⟩
      obtain⟨L,K,k6,k7,i5⟩:=o.placeAt i9;have r:=bQl f2 m f6 (by omega) (wr.alloc (.cells #[.int .u64 L,.int .u64 K] 157));have v:=A5 wr (.cells #[.int .u64 L,.int .u64 K] 157);have u:Hid _:=F.below v;have z:Hid _:=a.trans (SStep.of_below b d A v);have R:B<=(wr.alloc (.cells #[.int .u64 L,.int .u64 K] 157)).heap.size:=Nat.le_trans (Nat.le_trans a7 a.size) v.size;clear F a H b2 o v;cases j:f2.testBit m with
      | false=>
       rw[j]at r;have y:Hid _:=lQ9 a0.out (fun h=>by have i:=(iQm.1 h).2.1;rw[<-d8.out,j]at i;cases i);clear j;go_wp2_with fail;refine r.mono ?_;rintro e t ⟨rfl,rfl⟩;go_wp2_with fail;go_roundw
       case rel=>exact⟨m+1,l,A,by omega,by go_num,u.out,z.out,y.out⟩
       case measure=>simp[intOf];omega
      | true=>
       rw[j]at r;have hG:=xQs (wr.alloc (.cells #[.int .u64 L,.int .u64 K] 157)) i4 i5;have h0:Hid _:=j;clear j;go_wp2_with fail;refine r.mono ?_;rintro e t ⟨rfl,J⟩;rw[<-J]at u z hG R;have i7:t.cell? ⟨w.heap.size,0,none⟩=some (.int .i64 (s.1:Nat)):=by rw[J];exact((A5 wr _).cell (p:=⟨w.heap.size,0,none⟩) j4).trans k0
       have l0:t.cell? ⟨c.heap.size,0,none⟩=some (.int .u64 lo):=by rw[J];exact((A5 wr _).cell (p:=⟨c.heap.size,0,none⟩) g6).trans g0
       have l1:t.cell? ⟨c.heap.size,1,none⟩=some (.int .u64 G):=by rw[J];exact((A5 wr _).cell (p:=⟨c.heap.size,1,none⟩) g6).trans g1
       have b8:t.heap[wr.heap.size]?=some (.cells #[.int .u64 L,.int .u64 K] 157 (0,0)):=by rw[J];exact heap_alloc_new _ _
       have l2:t.cell? ⟨wr.heap.size,0,none⟩=some (.int .u64 L):=by simp[World.cell?,b8]
       have l3:t.cell? ⟨wr.heap.size,1,none⟩=some (.int .u64 K):=by simp[World.cell?,b8]
       have j7:w.heap.size<t.heap.size:=by rw[J];simp;omega
       clear b8 J r;go_wp2_with fail;refine hG.mono ?_;rintro e w3 ⟨h8,rfl,hb,a2⟩;have HB:Hid _:=hb;clear hb hG;have l7:w3.cell? ⟨w.heap.size,0,none⟩=some (.int .i64 (s.1:Nat)):=(a2.cell (p:=⟨w.heap.size,0,none⟩) j7).trans i7;have d4:Hid _:=u.out.below a2;have d6:Hid _:=z.out.trans (SStep.of_below b d A a2);have i3:B<=w3.heap.size:=Nat.le_trans R a2.size;cases h8 with
       | false=>
        have y:Hid _:=lQ9 a0.out (fun h=>by have i:=HB.out.2 (iQm.1 h).2.2;cases i);go_wp2_with fail;go_roundw
        case rel=>exact⟨m+1,l,A,by omega,by go_num,d4.out,d6.out,y.out⟩
        case measure=>simp[intOf];omega
       | true=>
        have h7:Hid (Stp (au n x) (au f C) s (s.1,k+1,m+1)):=iQm.2 ⟨by rw[<-d7.out];exact g9.out,by rw[<-d8.out];exact h0.out,HB.out.1 rfl⟩;have hC:=hQo (s.1,k+1,m+1) w3 B b d A (M++l) (O++l) d4.out i3 ⟨h1.out,by show k+1<33;omega,by show m+1<33;omega⟩;unfold G3 at hC;rw[show (((s.1,k+1,m+1):Pr).1:Nat)=s.1 from rfl,show ((((s.1,k+1,m+1):Pr).2.1:Nat):Int)-1=(k:Int) by simp,show ((((s.1,k+1,m+1):Pr).2.2:Nat):Int)-1=(m:Int) by simp]at hC;go_wp2_with fail;refine hC.mono ?_;rintro e w4 ⟨rfl,V3,T3,e9,i,h2,g4⟩;have y:Hid _:=zQd a0.out h7.out i (h2 _ rfl);have h4:Hid (Srch w4 B b d V3 (M++(l++T3)) (O++(l++T3))):=by
         rw[<-List.append_assoc,<-List.append_assoc];exact e9
        have h6:Hid _:=d6.out.trans g4;clear i h2 e9 g4 hC;go_wp2_with fail;go_roundw
        case rel=>exact⟨m+1,l++T3,V3,by omega,by go_num,h4.out,h6.out,y.out⟩
        case measure=>simp[intOf];omega
     ·have j0:f.places.length<=m:=by omega
      have y:Hid _:=zQa a0.out j0;have u:Hid _:=F;have z:Hid _:=a1.out.trans a;clear F a H b2;go_wp2_with fail;go_roundw
      case rel=>exact⟨k+1,l,A,by omega,by go_num,u.out,z.out,y.out⟩
      case measure=>simp[intOf];omega
  ·have l6:k=n.places.length:=by omega
   go_wp2_with fail;go_end0;refine⟨rfl,E,T,F,H.1,fun c5 ht=>H.2 c5 ht (.inl ?_),h5.out.trans a⟩;have:=aQg ht;omega
theorem aX0 (h:Ls.Reach (Stp (au n x) (au n' x')) (0,0,0) s):s.1=0/\s.2.1<=n.places.length/\s.2.2<=n'.places.length:=by
 refine h (fun s=>s.1=0/\s.2.1<=n.places.length/\s.2.2<=n'.places.length) ⟨rfl,Nat.zero_le _,Nat.zero_le _⟩ ?_;rintro a b ⟨d,_⟩ c;have:=aQg c;exact⟨c.1.trans d,by omega,by omega⟩
def J9 (M O:List Pr):Nat:=2*(3267-M.length)+O.length
theorem nQv {b a:Nat}{V:Value}{x:Pr}(h:Srch w B b a V (M++T) (O++T)):J9 (M++T) (O++T)<J9 M (O++[x]):=by
 have:=h.few;unfold J9;simp only[List.length_append,List.length_singleton]at this ⊢;omega
theorem nQo (h:0<O.length):∃a x,O=a++[x]:=by
 rcases List.eq_nil_or_concat O with e|⟨a,x,e⟩
 ·subst e;simp at h
 ·exact⟨a,x,by simpa using e⟩
def dQs (w:World)(F:Prop):Ending->World->Prop:=fun e w'=>∃b:Bool,e=.returned (.bool b)/\(b=true↔¬F)/\Bw w w'
theorem yQw (w:World)(n a:Net)(x b:Span)(hN:Nt w w.heap.size nb P Q n x)(a4:Nt w w.heap.size nb' P' Q' a b)
  (F:Prop) (hF:(∃s,Ls.Reach (Stp (au n x) (au a b)) (0,0,0) s/\lXu (au n x) (au a b) s)↔F) :
  Calls Tryz.prog 38 #[Pt nb,Pt nb'] w (dQs w F):=by
 have E:=lQs (0,0,0) w ⟨.inl rfl,by show 0<33;omega,by show 0<33;omega⟩;unfold G3 at E;rw[show ((((0,0,0):Pr).1:Nat):Int)=0 from rfl,show (0:Int)-1=-1 from rfl]at E;have HF:Hid _:=hF;have HN:Hid _:=hN;have b1:Hid _:=a4;go_enter Tryz.func38,Tryz.ntmps38;go_wp2_with fail;refine E.mono ?_;rintro e w1 ⟨p,C,V,rfl,f,a6⟩;have b2:Hid _:=f;have a9:Hid _:=a6;go_wp2;go_loopg [6] (J9 [(0,0,0)] [(0,0,0)]) (fun b6 _ wr=>∃V M O,Srch wr w.heap.size p C V M O/\Below w.heap.size w wr/\Sch (Stp (au n x) (au a b)) (lXu (au n x) (au a b)) (0,0,0) M O/\b6=J9 M O)
 case atStart=>exact⟨V,_,_,b2.out,a9.out,Sch.start _ _ _,rfl⟩
 case round=>
  obtain⟨V1,M,O,f,I,J,rfl⟩:=hrel;obtain⟨va,vc,rfl⟩:=f.shape;have a7:=f.lies;have c1:wr.cell? ⟨p,1,none⟩=some (.slice va O.length vc):=by simp[World.cell?,a7]
  rcases Nat.eq_zero_or_pos O.length with U|U
  ·have j:=List.eq_nil_of_length_eq_zero U
   have HE:Hid (¬∃s,Ls.Reach (Stp (au n x) (au a b)) (0,0,0) s/\lXu (au n x) (au a b) s):=by
    subst j;exact J.none
   have hd:¬(0:Int)<(O.length:Int):=by omega
   go_wp2;go_ret;exact⟨true,rfl,⟨fun _ h=>HE.out (HF.out.2 h),fun _=>rfl⟩,I⟩
  ·have hd:(0:Int)<(O.length:Int):=by omega
   obtain⟨d,y,j⟩:=nQo U;have u:Hid (Sch (Stp (au n x) (au a b)) (lXu (au n x) (au a b)) (0,0,0) M (d++[y])):=by rw[<-j];exact J
   have W:=nQn wr w.heap.size p C (.slice va O.length vc) M d y (by rw[<-j];exact f);have b4:=I.size;have HB:Hid _:=I;have HK:Hid (J9 M O=J9 M (d++[y])):=by rw[j];rfl
   have b3:Hid _:=f;unfold G3 at W;go_wp2_with fail;refine W.mono ?_;rintro e w2 ⟨rfl,V2,a5,a8⟩;have o:=aX0 (u.out.came y (u.out.sub y (by simp)));have Z:=HB.out.trans (a8.below b3.out b4);have a0:=A5 w2 (.cells #[.int .i64 (y.1:Nat),.int .i64 ((y.2.1:Int)-1),.int .i64 ((y.2.2:Int)-1)] 112);have b5:w.heap.size<=w2.heap.size:=Z.size;have A:=Z.trans (a0.mono b5);have G:=HN.out.keep A;have H:=b1.out.keep A;have Y:=a5.below a0;have X:=dQf nb nb' P Q P' Q' _ w.heap.size p C V2 M d Y A.size y (.inl o.1) n a x b G H o.2.1 o.2.2;have v:=G.net.elim fun L h=>bQ4 _ L nb P n Q x y.2.1 h G.lst o.2.1;have z:=H.net.elim fun L h=>bQ4 _ L nb' P' a Q' b y.2.2 h H.lst o.2.2;have b7:=heap_alloc_new w2 (.cells #[.int .i64 (y.1:Nat),.int .i64 ((y.2.1:Int)-1),.int .i64 ((y.2.2:Int)-1)] 112);have a2:Hid _:=Y;have q:Hid _:=A;unfold G3 at X;clear a5 a8 o Z a0 A G H Y W;have a3:∀(w':World) (g:Value) (T:List Pr),¬lXu (au n x) (au a b) y->Srch w' w.heap.size p C g (M++T) (d++T)->(∀t,t∈T->Stp (au n x) (au a b) y t)->(∀t,Stp (au n x) (au a b) y t->t∈M++T)->
     Sch (Stp (au n x) (au a b)) (lXu (au n x) (au a b)) (0,0,0) (M++T) (d++T)/\J9 (M++T) (d++T)<J9 M O:=
    fun w' g T c i h3 h4=>⟨u.out.next c h3 h4,by rw[HK.out];exact nQv i⟩
   have a1:Hid _:=a3;clear a3;cases l:(au n x).en y.2.1 with
   | false=>
    rw[l]at v;have R:Hid (¬lXu (au n x) (au a b) y):=fun h=>by have c:=h.1;rw[l]at c;cases c
    clear l z;go_wp2_with fail;refine v.mono ?_;rintro e K ⟨rfl,rfl⟩;go_wp2_with fail;refine X.mono ?_;rintro e w4 ⟨rfl,g,T,k,c,i,B⟩;have r:Hid _:=a1.out w4 g T R.out k c i;have S:Hid _:=k;have N:Hid _:=q.out.trans (B.below a2.out q.out.size);clear c i k B;go_wp2_with fail;go_roundg (J9 (M++T) (d++T))
    case rel=>exact⟨g,M++T,d++T,S.out,N.out,r.out.1,rfl⟩
    case measure=>exact r.out.2
   | true=>
    rw[l]at v;cases m:(au a b).en y.2.2 with
    | false=>
     rw[m]at z;have R:Hid (¬lXu (au n x) (au a b) y):=fun h=>by have c:=h.2;rw[m]at c;cases c
     clear l m;go_wp2_with fail;refine v.mono ?_;rintro e K ⟨rfl,rfl⟩;go_wp2_with fail;refine z.mono ?_;rintro e K ⟨rfl,rfl⟩;go_wp2_with fail;refine X.mono ?_;rintro e w4 ⟨rfl,g,T,k,c,i,B⟩;have r:Hid _:=a1.out w4 g T R.out k c i;have S:Hid _:=k;have N:Hid _:=q.out.trans (B.below a2.out q.out.size);clear c i k B;go_wp2_with fail;go_roundg (J9 (M++T) (d++T))
     case rel=>exact⟨g,M++T,d++T,S.out,N.out,r.out.1,rfl⟩
     case measure=>exact r.out.2
    | true=>
     rw[m]at z;have b0:Hid (∃s,Ls.Reach (Stp (au n x) (au a b)) (0,0,0) s/\lXu (au n x) (au a b) s):=⟨y,u.out.came y (u.out.sub y (by simp)),l,m⟩;clear l m;go_wp2_with fail;refine v.mono ?_;rintro e K ⟨rfl,rfl⟩;go_wp2_with fail;refine z.mono ?_;rintro e K ⟨rfl,rfl⟩;go_wp2_with fail;go_ret;exact⟨false,rfl,⟨fun h=>(by cases h),fun h=>absurd (HF.out.1 b0.out) h⟩,q.out⟩
variable {A C:Au}{t y:Pr}
theorem aX1 {n d:Net}{x g:Span}{s:Pr}(h:Ls.Reach (NxO (au n x) (au d g)) (0,0,0) s) :
  (s.1=0/\s.2.1<=n.places.length/\s.2.2<=n.places.length)\/(s.1=1/\s.2.1<=d.places.length/\s.2.2<=n.places.length)\/(s.1=2/\s.2.1<=d.places.length/\s.2.2<=d.places.length):=by
 refine h (fun s=>(s.1=0/\s.2.1<=n.places.length/\s.2.2<=n.places.length)\/(s.1=1/\s.2.1<=d.places.length/\s.2.2<=n.places.length)\/(s.1=2/\s.2.1<=d.places.length/\s.2.2<=d.places.length)) (.inl ⟨rfl,Nat.zero_le _,Nat.zero_le _⟩) ?_;rintro a b f (⟨e,c|⟨_,c⟩⟩|⟨e,c|⟨_,rfl⟩⟩|⟨e,c⟩)
 ·have:=aQg c
  exact .inl ⟨c.1.trans e,by omega,by omega⟩
 ·have:=aQg c
  exact .inr (.inl ⟨c.1,by omega,by omega⟩)
 ·have:=aQg c
  exact .inr (.inl ⟨c.1.trans e,by omega,by omega⟩)
 ·rcases f with f|f|f
  ·omega
  ·exact .inr (.inr ⟨rfl,f.2.1,Nat.zero_le _⟩)
  ·omega
 ·have:=aQg c
  exact .inr (.inr ⟨c.1.trans e,by omega,by omega⟩)
theorem hQs (h:y.1=0):NxO A C y t↔Stp A A y t\/(A.en y.2.1=true/\Stp C A (1,0,y.2.2) t):=by
 unfold NxO;simp[h]
theorem hQt (h:y.1=1):NxO A C y t↔Stp C A y t\/(A.en y.2.2=true/\t=(2,y.2.1,0)):=by
 unfold NxO;simp[h]
theorem fQd (h:y.1=2):NxO A C y t↔Stp C C y t:=by
 unfold NxO;simp[h]
theorem lQr {S S' N:Pr->Prop}{M T a:List Pr}(b:∀t,N t↔S t\/S' t)(d:∀t,t∈T->S t)(e:∀t,S t->t∈M++T)(f:∀t,t∈a->S' t)(g:∀t,S' t->t∈(M++T)++a):(∀t,t∈T++a->N t)/\∀t,N t->t∈M++(T++a):=by
 refine⟨fun t c=>?_,fun t c=>?_⟩
 ·rcases List.mem_append.1 c with h|h
  ·exact(b t).2 (.inl (d t h))
  ·exact(b t).2 (.inr (f t h))
 ·rw[<-List.append_assoc]
  rcases (b t).1 c with h|h
  ·exact List.mem_append_left _ (e t h)
  ·exact g t h
theorem nQ8 {W:World}{g:Nat}{a b c:Value}{t:TypeId}(h:W.heap[g]?=some (.cells #[a,b,c] t (0,0))):W.cell? ⟨g,0,none⟩=some a/\W.cell? ⟨g,1,none⟩=some b/\W.cell? ⟨g,2,none⟩=some c:=by
 refine⟨?_,?_,?_⟩<;>simp[World.cell?,h]
theorem yQx (w:World)(U V:Nat)(P Q X Y:Value)(n a:Net)(x b:Span)(hN:Nt w w.heap.size U P Q n x)(c8:Nt w w.heap.size V X Y a b)
  (b6:Prop) (hF:(∃s,Ls.Reach (NxO (au n x) (au a b)) (0,0,0) s/\lXd (au a b) s)↔b6) :
  Calls Tryz.prog 37 #[Pt U,Pt V] w (dQs w b6):=by
 have hC:=lQs (0,0,0) w ⟨.inl rfl,by show 0<33;omega,by show 0<33;omega⟩;unfold G3 at hC;rw[show ((((0,0,0):Pr).1:Nat):Int)=0 from rfl,show (0:Int)-1=-1 from rfl]at hC;have HF:Hid ((∃s,Ls.Reach (NxO (au n x) (au a b)) (0,0,0) s/\lXd (au a b) s)↔b6):=hF;have HN:Hid _:=hN;have b9:Hid _:=c8;clear hN c8 hF;go_enter Tryz.func37,Tryz.ntmps37;go_wp2_with fail;refine hC.mono ?_;rintro e w1 ⟨v,C,c0,rfl,K,d3⟩;have d8:Hid _:=K;have d6:Hid _:=d3;clear K d3 hC;go_wp2_with fail;go_loopg [6] (J9 [(0,0,0)] [(0,0,0)]) (fun e3 _ wr=>∃c0 M O,Srch wr w.heap.size v C c0 M O/\Below w.heap.size w wr/\Sch (NxO (au n x) (au a b)) (lXd (au a b)) (0,0,0) M O/\e3=J9 M O)
 case atStart=>exact⟨c0,_,_,d8.out,d6.out,Sch.start _ _ _,rfl⟩
 case round=>
  obtain⟨V1,M,O,K,hb,b5,rfl⟩:=hrel;obtain⟨va,vc,rfl⟩:=K.shape;have d4:=K.lies;have c1:wr.cell? ⟨v,1,none⟩=some (.slice va O.length vc):=by simp[World.cell?,d4]
  clear d4;rcases Nat.eq_zero_or_pos O.length with h0|h0
  ·have hO:O=[]:=List.eq_nil_of_length_eq_zero h0
   have HE:Hid (¬∃s,Ls.Reach (NxO (au n x) (au a b)) (0,0,0) s/\lXd (au a b) s):=by
    subst hO;exact b5.none
   have hd:¬(0:Int)<(O.length:Int):=by omega
   clear hO b5 K;go_wp2_with fail;go_ret;exact⟨true,rfl,⟨fun _ h=>HE.out (HF.out.2 h),fun _=>rfl⟩,hb⟩
  ·have hd:(0:Int)<(O.length:Int):=by omega
   obtain⟨c,y,hO⟩:=nQo h0;have a8:Hid (Sch (NxO (au n x) (au a b)) (lXd (au a b)) (0,0,0) M (c++[y])):=by rw[<-hO];exact b5
   have hD:=nQn wr w.heap.size v C (.slice va O.length vc) M c y (by rw[<-hO];exact K);have e0:=hb.size;have HB:Hid _:=hb;have HK:Hid (J9 M O=J9 M (c++[y])):=by rw[hO];rfl
   have d9:Hid (Srch wr w.heap.size v C (.slice va O.length vc) M O):=K;clear b5 K hO hb;unfold G3 at hD;go_wp2_with fail;refine hD.mono ?_;rintro e w2 ⟨rfl,V2,c2,d5⟩;have e2:=aX1 (a8.out.came y (a8.out.sub y (by simp)));have c3:=HB.out.trans (d5.below d9.out e0);have c4:=A5 w2 (.cells #[.int .i64 (y.1:Nat),.int .i64 ((y.2.1:Int)-1),.int .i64 ((y.2.2:Int)-1)] 112);have e1:w.heap.size<=w2.heap.size:=c3.size;have b4:=c3.trans (c4.mono e1);have c9:=HN.out.keep b4;have d0:=b9.out.keep b4;have d2:=c2.below c4;have c7:=c2.free (.cells #[.int .i64 (y.1:Nat),.int .i64 ((y.2.1:Int)-1),.int .i64 ((y.2.2:Int)-1)] 112);have c5:=heap_alloc_new w2 (.cells #[.int .i64 (y.1:Nat),.int .i64 ((y.2.1:Int)-1),.int .i64 ((y.2.2:Int)-1)] 112);have G:Hid _:=d2;have j:Hid _:=b4;have a6:Hid _:=c7;have a2:Hid _:=c5;have a4:Hid _:=c9;have F:Hid _:=d0;clear c2 d5 c3 c4 b4 d2 hD c7 c5 c9 d0;have c6:∀(w':World) (i:Value) (T:List Pr),¬lXd (au a b) y->Srch w' w.heap.size v C i (M++T) (c++T)->(∀t,t∈T->NxO (au n x) (au a b) y t)->(∀t,NxO (au n x) (au a b) y t->t∈M++T)->
     Sch (NxO (au n x) (au a b)) (lXd (au a b)) (0,0,0) (M++T) (c++T)/\J9 (M++T) (c++T)<J9 M O:=
    fun w' i T f r h3 h4=>⟨a8.out.next f h3 h4,by rw[HK.out];exact nQv r⟩
   have a3:Hid _:=c6;clear c6 HK;rcases e2 with⟨o,a0,S⟩|⟨o,a0,S⟩|⟨o,a0,S⟩
   ·have L:((y.1:Nat):Int)=0:=by rw[o];rfl
    rw[L]at G a6 a2 a4 F j;have I:Hid (¬lXd (au a b) y):=fun h=>by have:=h.1;omega
    have p:=dQf U U P Q P Q _ w.heap.size v C V2 M c G.out j.out.size y (.inl o) n n x x a4.out a4.out a0 S;unfold G3 at p;rw[L]at p;have q:Hid (y.1=0):=o;clear o;go_wp2_with fail;refine p.mono ?_;rintro e E ⟨rfl,i,T,l,f,r,u⟩;have H:=j.out.trans (u.below G.out j.out.size);have R:=HN.out.keep H;have d1:=b9.out.keep H;have b2:=(u.block _ a6.out).trans a2.out;obtain⟨_,k1,k2⟩:=nQ8 b2;have J:=R.net.elim fun W h=>bQ4 E W U P n Q x y.2.1 h R.lst a0;have B:=dQf V U X Y P Q E w.heap.size v C i (M++T) (c++T) l H.size (1,0,y.2.2) (.inr (.inl rfl)) a n b x d1 R (Nat.zero_le _) S;unfold G3 at B;rw[show ((((1,0,y.2.2):Pr).1:Nat):Int)=1 from rfl,show ((((1,0,y.2.2):Pr).2.1:Nat):Int)-1=-1 from rfl,show (((1,0,y.2.2):Pr).2.2:Nat)=y.2.2 from rfl]at B;have H1:Hid (∀t,t∈T->Stp (au n x) (au n x) y t):=f;have H2:Hid (∀t,Stp (au n x) (au n x) y t->t∈M++T):=r;have A:Hid _:=l;have z:Hid _:=H;clear f r l H u b2 R d1 p;cases d:(au n x).en y.2.1 with
    | false=>
     rw[d]at J;have g:Hid _:=a3.out E i T I.out A.out (fun t m=>(hQs q.out).2 (.inl (H1.out t m))) (fun t m=>by
      rcases (hQs q.out).1 m with h|⟨h,_⟩
      ·exact H2.out t h
      ·rw[d]at h;cases h)
     clear d B;go_wp2_with fail;refine J.mono ?_;rintro e w5 ⟨rfl,rfl⟩;go_wp2_with fail;go_roundg (J9 (M++T) (c++T))
     case rel=>exact⟨i,M++T,c++T,A.out,z.out,g.out.1,rfl⟩
     case measure=>exact g.out.2
    | true=>
     rw[d]at J;have b8:Hid ((au n x).en y.2.1=true):=d;clear d;go_wp2_with fail;refine J.mono ?_;rintro e w5 ⟨rfl,rfl⟩;go_wp2_with fail;refine B.mono ?_;rintro e w6 ⟨rfl,Z,k,b1,h3,h4,b3⟩;have a7:Hid (Srch w6 w.heap.size v C Z (M++(T++k)) (c++(T++k))):=by rw[<-List.append_assoc,<-List.append_assoc];exact b1
     have a1:=lQr (N:=fun t=>NxO (au n x) (au a b) y t) (S':=fun t=>Stp (au a b) (au n x) (1,0,y.2.2) t) (fun t=>(hQs q.out).trans (by rw[b8.out];simp)) H1.out H2.out h3 h4;have g:Hid _:=a3.out w6 Z (T++k) I.out a7.out a1.1 a1.2;have b7:Hid _:=z.out.trans (b3.below A.out z.out.size);clear h3 h4 b1 b3 a1 B;go_wp2_with fail;go_roundg (J9 (M++(T++k)) (c++(T++k)))
     case rel=>exact⟨Z,M++(T++k),c++(T++k),a7.out,b7.out,g.out.1,rfl⟩
     case measure=>exact g.out.2
   ·have L:((y.1:Nat):Int)=1:=by rw[o];rfl
    rw[L]at G a6 a2 a4 F j;have I:Hid (¬lXd (au a b) y):=fun h=>by have:=h.1;omega
    have p:=dQf V U X Y P Q _ w.heap.size v C V2 M c G.out j.out.size y (.inr (.inl o)) a n b x F.out a4.out a0 S;unfold G3 at p;rw[L]at p;have q:Hid (y.1=1):=o;clear o;go_wp2_with fail;refine p.mono ?_;rintro e E ⟨rfl,i,T,l,f,r,u⟩;have H:=j.out.trans (u.below G.out j.out.size);have R:=HN.out.keep H;have e4:=b9.out.net.elim fun _ h=>h.few;have b2:=(u.block _ a6.out).trans a2.out;obtain⟨_,k1,k2⟩:=nQ8 b2;have J:=R.net.elim fun W h=>bQ4 E W U P n Q x y.2.2 h R.lst S;have B:=hQo (2,y.2.1,0) E w.heap.size v C i (M++T) (c++T) l H.size ⟨.inr (.inr rfl),by show y.2.1<33;omega,by show 0<33;omega⟩;unfold G3 at B;rw[show ((((2,y.2.1,0):Pr).1:Nat):Int)=2 from rfl,show ((((2,y.2.1,0):Pr).2.2:Nat):Int)-1=-1 from rfl,show (((2,y.2.1,0):Pr).2.1:Nat)=y.2.1 from rfl]at B;have H1:Hid (∀t,t∈T->Stp (au a b) (au n x) y t):=f;have H2:Hid (∀t,Stp (au a b) (au n x) y t->t∈M++T):=r;have A:Hid _:=l;have z:Hid _:=H;clear f r l H u b2 R p;cases d:(au n x).en y.2.2 with
    | false=>
     rw[d]at J;have g:Hid _:=a3.out E i T I.out A.out (fun t m=>(hQt q.out).2 (.inl (H1.out t m))) (fun t m=>by
      rcases (hQt q.out).1 m with h|⟨h,_⟩
      ·exact H2.out t h
      ·rw[d]at h;cases h)
     clear d B;go_wp2_with fail;refine J.mono ?_;rintro e w5 ⟨rfl,rfl⟩;go_wp2_with fail;go_roundg (J9 (M++T) (c++T))
     case rel=>exact⟨i,M++T,c++T,A.out,z.out,g.out.1,rfl⟩
     case measure=>exact g.out.2
    | true=>
     rw[d]at J;have b8:Hid ((au n x).en y.2.2=true):=d;clear d;go_wp2_with fail;refine J.mono ?_;rintro e w5 ⟨rfl,rfl⟩;go_wp2_with fail;refine B.mono ?_;rintro e w6 ⟨rfl,Z,k,b1,h3,h4,b3⟩;have a7:Hid (Srch w6 w.heap.size v C Z (M++(T++k)) (c++(T++k))):=by rw[<-List.append_assoc,<-List.append_assoc];exact b1
     have a1:=lQr (N:=fun t=>NxO (au n x) (au a b) y t) (S':=fun t=>t=(2,y.2.1,0)) (fun t=>(hQt q.out).trans (by rw[b8.out];simp)) H1.out H2.out h3 h4;have g:Hid _:=a3.out w6 Z (T++k) I.out a7.out a1.1 a1.2;have b7:Hid _:=z.out.trans (b3.below A.out z.out.size);clear h3 h4 b1 b3 a1 B;go_wp2_with fail;go_roundg (J9 (M++(T++k)) (c++(T++k)))
     case rel=>exact⟨Z,M++(T++k),c++(T++k),a7.out,b7.out,g.out.1,rfl⟩
     case measure=>exact g.out.2
   ·have L:((y.1:Nat):Int)=2:=by rw[o];rfl
    rw[L]at G a6 a2 a4 F j;have p:=dQf V V X Y X Y _ w.heap.size v C V2 M c G.out j.out.size y (.inr (.inr o)) a a b b F.out F.out a0 S;unfold G3 at p;rw[L]at p;have q:Hid (y.1=2):=o;clear o;have a9:=F.out.net.elim fun W h=>bQ4 _ W V X a Y b y.2.1 h F.out.lst a0;have b0:=F.out.net.elim fun W h=>bQ4 _ W V X a Y b y.2.2 h F.out.lst S;have c5:=a2.out;cases d:(au a b).en y.2.1 with
    | false=>
     rw[d]at a9;have I:Hid (¬lXd (au a b) y):=fun h=>by have f:=h.2.1;rw[d]at f;cases f
     clear d b0;go_wp2_with fail;refine a9.mono ?_;rintro e w3 ⟨rfl,rfl⟩;go_wp2_with fail;refine p.mono ?_;rintro e E ⟨rfl,i,T,l,f,r,u⟩;have g:Hid _:=a3.out E i T I.out l (fun t m=>(fQd q.out).2 (f t m)) (fun t m=>r t ((fQd q.out).1 m));have A:Hid _:=l;have z:Hid _:=j.out.trans (u.below G.out j.out.size);clear f r l u;go_wp2_with fail;go_roundg (J9 (M++T) (c++T))
     case rel=>exact⟨i,M++T,c++T,A.out,z.out,g.out.1,rfl⟩
     case measure=>exact g.out.2
    | true=>
     rw[d]at a9;cases a5:(au a b).en y.2.2 with
     | false=>
      rw[a5]at b0;have I:Hid (¬lXd (au a b) y):=fun h=>by have f:=h.2.2;rw[a5]at f;cases f
      clear d a5;go_wp2_with fail;refine a9.mono ?_;rintro e w3 ⟨rfl,rfl⟩;go_wp2_with fail;refine b0.mono ?_;rintro e w3 ⟨rfl,rfl⟩;go_wp2_with fail;refine p.mono ?_;rintro e E ⟨rfl,i,T,l,f,r,u⟩;have g:Hid _:=a3.out E i T I.out l (fun t m=>(fQd q.out).2 (f t m)) (fun t m=>r t ((fQd q.out).1 m));have A:Hid _:=l;have z:Hid _:=j.out.trans (u.below G.out j.out.size);clear f r l u;go_wp2_with fail;go_roundg (J9 (M++T) (c++T))
      case rel=>exact⟨i,M++T,c++T,A.out,z.out,g.out.1,rfl⟩
      case measure=>exact g.out.2
     | true=>
      rw[a5]at b0;have d7:Hid (∃s,Ls.Reach (NxO (au n x) (au a b)) (0,0,0) s/\lXd (au a b) s):=⟨y,a8.out.came y (a8.out.sub y (by simp)),q.out,d,a5⟩;clear d a5;go_wp2_with fail;refine a9.mono ?_;rintro e w3 ⟨rfl,rfl⟩;go_wp2_with fail;refine b0.mono ?_;rintro e w3 ⟨rfl,rfl⟩;go_wp2_with fail;go_ret;exact⟨false,rfl,⟨fun h=>(by cases h),fun h=>absurd (HF.out.1 d7.out) h⟩,j.out⟩
end Go.Proofs.YtfklinjaajafgaaGreatDoor
namespace Go.Proofs.YtfklinjaajafgaaGreatDoor
open Ls
variable {d e:Ls.D}(u:Lu)
theorem xQa (n:Net)(x:Span):Lg (au n x) u↔cQ0 n x u:=by
 cases u with
 | nil=>
  constructor
  ·rintro ⟨q,a,b⟩
   simp only[Wk]at a;subst a;exact b
  ·intro h;exact⟨0,rfl,h⟩
 | cons c u=>
  constructor
  ·rintro ⟨r,⟨q,a,b,d⟩,e⟩
   cases q with
   | zero=>rw[jX7]at a;cases a
   | succ q=>exact⟨q,a,b,(lXc n x u q).2 ⟨r,d,e⟩⟩
  ·rintro ⟨q,a,b,f⟩
   obtain⟨r,d,e⟩:=(lXc n x u q).1 f;exact⟨r,⟨q+1,a,b,d⟩,e⟩
abbrev aQt (d:Ls.D):Au:=au (Ls.add d I7).1 (Ls.add d I7).2
theorem eQ5 (h:Wd 0 d)(u:Lu):Lg (aQt d) u↔inL (eX5 d) u:=(xQa u _ _).trans (lQc h u)
theorem rQv (a:Wd 0 d)(b:Wd 0 e):(∃s,Ls.Reach (Stp (aQt d) (aQt e)) (0,0,0) s/\lXu (aQt d) (aQt e) s)↔jX2 (eX5 d) (eX5 e):=by
 rw[kX4];unfold jX2;simp only[eQ5 a,eQ5 b]
theorem eXc (a:Wd 0 d)(b:Wd 0 e):(∃s,Ls.Reach (NxO (aQt d) (aQt e)) (0,0,0) s/\lXd (aQt e) s)↔fXb (eX5 d) (eX5 e):=by
 rw[lXq];unfold fXb;simp only[eQ5 a,eQ5 b]
end Go.Proofs.YtfklinjaajafgaaGreatDoor
namespace Go.Proofs.YtfklinjaajafgaaGreatDoor
open Ls
open Go.RowKit
theorem NetL.nt {w:World}{B b:Nat}{P Q:Value}{n:Net}{x:Span}(h:NetL w B b P Q n x)(d:x.first<4294967296)(e:x.last<4294967296):Nt w w.heap.size b P Q n x:=by
 obtain⟨f,_,_,c⟩:=h.pls;exact⟨⟨B,h⟩,h.lt,fun k a=>(c.lt k a).2,fun k a=>(h.bhs.lt k a).2,d,e⟩
def iQw (f:FuncId)(F:Pat->Pat->Prop):Prop:=∀(w:World) (nb nb':Nat) (P Q P' Q':Value) (d d':Ls.D),Wd 0 d->Wd 0 d'->Nt w w.heap.size nb P Q (Ls.add d I7).1 (Ls.add d I7).2->Nt w w.heap.size nb' P' Q' (Ls.add d' I7).1 (Ls.add d' I7).2->
 Ca f #[.pointer (some ⟨nb,0,none⟩),.pointer (some ⟨nb',0,none⟩)] w (dQs w (F (eX5 d) (eX5 d')))
theorem rQn:iQw 38 jX2:=fun w f g P Q a b _ _ d e h c=>yQw f g P Q a b w _ _ _ _ h c _ (rQv d e)
theorem jQd:iQw 37 fXb:=fun w f g P Q a b _ _ d e h c=>yQx w f g P Q a b _ _ _ _ h c _ (eXc d e)
end Go.Proofs.YtfklinjaajafgaaGreatDoor
