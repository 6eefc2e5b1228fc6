set_option maxRecDepth 100000
set_option maxHeartbeats 4000000
namespace Ls
abbrev Lu:=List UInt8
abbrev By:=ByteArray
structure Pat where
 kind:Nat
 signs:Lu
 parts:List Pat
def nN:Pat:=⟨0,[],[]⟩
def set (s:Lu):Pat:=⟨1,s,[]⟩
def gX4 (a b:Pat):Pat:=⟨2,[],[a,b]⟩
def any (a b:Pat):Pat:=⟨3,[],[a,b]⟩
def fXl (a:Pat):Pat:=⟨4,[],[a]⟩
def row (a b:Pat):Pat:=if a.kind=0 then b else if b.kind=0 then a else gX4 a b
def gXu (c:UInt8):Bool:=decide (c.toNat=10\/(32<=c.toNat/\c.toNat<=126))
def iXl (c:UInt8):Bool:=decide ((48<=c.toNat/\c.toNat<=57)\/(97<=c.toNat/\c.toNat<=122)\/(65<=c.toNat/\c.toNat<=90))
def has (s:Lu)(c:UInt8):Bool:=s.any (·==c)
def hX5 (s:Lu):Prop:=(∃c,s=[c])\/(s≠[]/\∀c,c∈s->48<=c.toNat/\c.toNat<=122)
def wf:Pat->Prop
 | ⟨k,s,[]⟩=>(k=0/\s=[])\/(k=1/\hX5 s)
 | ⟨k,s,[a]⟩=>k=4/\s=[]/\wf a
 | ⟨k,s,[a,b]⟩=>((k=2/\a.kind≠0/\b.kind≠0)\/k=3)/\s=[]/\wf a/\wf b
 | _=>False
theorem ind {P:Pat->Prop}(hn:P nN)(hs:∀s,hX5 s->P (set s))
  (hr:∀a b,wf a->wf b->a.kind≠0->b.kind≠0->P a->P b->P (gX4 a b)) (ha:∀a b,wf a->wf b->P a->P b->P (any a b)) (ht:∀a,wf a->P a->P (fXl a)):(p:Pat)->wf p->P p
 | ⟨k,s,[]⟩,h=>by
  rw[wf]at h;rcases h with⟨rfl,rfl⟩|⟨rfl,h⟩
  ·exact hn
  ·exact hs s h
 | ⟨k,s,[a]⟩,h=>by
  rw[wf]at h;obtain⟨rfl,rfl,h⟩:=h;exact ht a h (ind hn hs hr ha ht a h)
 | ⟨k,s,[a,b]⟩,h=>by
  rw[wf]at h;obtain⟨hk,rfl,h1,h2⟩:=h;rcases hk with⟨rfl,h3,h4⟩|rfl
  ·exact hr a b h1 h2 h3 h4 (ind hn hs hr ha ht a h1) (ind hn hs hr ha ht b h2)
  ·exact ha a b h1 h2 (ind hn hs hr ha ht a h1) (ind hn hs hr ha ht b h2)
 | ⟨k,s,_::_::_::_⟩,h=>by simp[wf]at h
theorem gXz:wf nN:=by simp[nN,wf]
theorem kX1 {s:Lu}(h:hX5 s):wf (set s):=by simp[set,wf,h]
theorem mXp {a b:Pat}(c:wf a)(d:wf b):wf (any a b):=by simp[any,wf,c,d]
theorem fXw {a:Pat}(b:wf a):wf (fXl a):=by simp[fXl,wf,b]
theorem fXy {a b:Pat}(c:wf a)(d:wf b):wf (row a b):=by
 unfold row;split
 ·exact d
 ·split
  ·exact c
  ·simp[gX4,wf, *]
def empty:Pat->Bool
 | ⟨k,_,[a,b]⟩=>if k=2 then empty a&&empty b else empty a||empty b
 | ⟨k,_,_⟩=>k != 1
def key:Pat->Lu
 | ⟨k,s,[]⟩=>UInt8.ofNat (48+k)::s++[40,41]
 | ⟨k,s,[a]⟩=>UInt8.ofNat (48+k)::s++40::key a++[41]
 | ⟨k,s,[a,b]⟩=>UInt8.ofNat (48+k)::s++40::key a++key b++[41]
 | _=>[]
def put (l:List Pat)(p:Pat):List Pat:=if l.any (fun q=>key q==key p) then l else l++[p]
def fXh (l m:List Pat):List Pat:=m.foldl put l
def behind:Pat->UInt8->List Pat
 | ⟨k,s,[]⟩,c=>if k=1/\has s c=true then [nN] else []
 | ⟨_,_,[a]⟩,c=>fXh [] ((behind a c).map (fun x=>row x (fXl a)))
 | ⟨k,_,[a,b]⟩,c=>
  if k=3 then fXh (behind a c) (behind b c)
  else if empty a then fXh (fXh [] ((behind a c).map (fun x=>row x b))) (behind b c) else fXh [] ((behind a c).map (fun x=>row x b))
 | _,_=>[]
def step (l:List Pat)(c:UInt8):List Pat:=l.foldl (fun n p=>fXh n (behind p c)) []
def is (p:Pat)(s:Lu):Bool:=(s.foldl step [p]).any empty
variable {q:Pat}(a:Pat)(l:List Pat)(p b:Pat)(m:List Pat)(x:Pat)(c:UInt8)
def ks (p:Pat):Nat:=(key p).length
theorem iXj:ks nN=3:=rfl
theorem jXo (s:Lu):ks (set s)=s.length+3:=by simp[ks,set,key]
theorem iX6:ks (gX4 a b)=ks a+ks b+3:=by simp[ks,gX4,key];omega
theorem jXc:ks (any a b)=ks a+ks b+3:=by simp[ks,any,key];omega
theorem gXw:ks (fXl a)=ks a+3:=by simp[ks,fXl,key]
theorem iXu:ks (row a b)<=ks a+ks b+3:=by
 unfold row;split
 ·omega
 ·split
  ·omega
  ·rw[iX6];exact Nat.le_refl _
def nd:Pat->Nat
 | ⟨_,_,[a,b]⟩=>nd a+nd b
 | ⟨_,_,[a]⟩=>nd a
 | _=>1
def md:Pat->Nat
 | ⟨k,_,[a,b]⟩=>if k=2 then max (md a+ks b+3) (md b) else max (md a) (md b)
 | ⟨_,_,[a]⟩=>md a+ks a+6
 | _=>3
theorem lXa:fXh l (m++[x])=put (fXh l m) x:=by simp[fXh]
theorem lXt:(put l x).length<=l.length+1:=by
 unfold put;split<;>simp
theorem nXc {l:List Pat}{x:Pat}(h:q∈put l x):q∈l\/q=x:=by
 unfold put at h;split at h
 ·exact .inl h
 ·simpa using h
theorem gXs:(fXh l m).length<=l.length+m.length:=by
 induction m generalizing l with
 | nil=>simp[fXh]
 | cons x m a=>
  have b:=a (put l x);have c:=lXt l x;show (fXh (put l x) m).length<=_;simp only[List.length_cons];omega
theorem fXu {l m:List Pat}(h:q∈fXh l m):q∈l\/q∈m:=by
 induction m generalizing l with
 | nil=>exact .inl h
 | cons x m a=>
  rcases a (l:=put l x) h with h|h
  ·rcases nXc h with h|rfl
   ·exact .inl h
   ·exact .inr (by simp)
  ·exact .inr (by simp[h])
theorem behind_none (c:UInt8):behind nN c=[]:=by simp[nN,behind]
theorem behind_set (s:Lu)(c:UInt8):behind (set s) c=if has s c=true then [nN] else []:=by simp[set,behind]
theorem behind_rowB (a b:Pat)(c:UInt8):behind (gX4 a b) c =
  if empty a=true then fXh (fXh [] ((behind a c).map (fun x=>row x b))) (behind b c) else fXh [] ((behind a c).map (fun x=>row x b)):=by simp[gX4,behind]
theorem behind_any (a b:Pat)(c:UInt8):behind (any a b) c=fXh (behind a c) (behind b c):=by simp[any,behind]
theorem behind_star (a:Pat)(c:UInt8):behind (fXl a) c=fXh [] ((behind a c).map (fun x=>row x (fXl a))):=by simp[fXl,behind]
theorem iX7:md (gX4 a b)=max (md a+ks b+3) (md b):=by simp[gX4,md]
theorem lXg:md (any a b)=max (md a) (md b):=by simp[any,md]
theorem jXq:md (fXl a)=md a+ks a+6:=by simp[fXl,md]
theorem hXu:nd (gX4 a b)=nd a+nd b:=by simp[gX4,nd]
theorem iXw:nd (any a b)=nd a+nd b:=by simp[any,nd]
theorem gX9:nd (fXl a)=nd a:=by simp[fXl,nd]
theorem gXd (h:wf p)(c:UInt8):(behind p c).length<=nd p:=by
 refine ind (P:=fun p=>(behind p c).length<=nd p) ?_ ?_ ?_ ?_ ?_ p h
 ·simp[behind_none]
 ·intro s _;rw[behind_set];split<;>simp[set,nd]
 ·intro a b _ _ _ _ e g
  rw[behind_rowB,hXu];have d:=gXs [] ((behind a c).map (fun x=>row x b));have f:=gXs (fXh [] ((behind a c).map (fun x=>row x b))) (behind b c);simp at d;split<;>omega
 ·intro a b _ _ e g
  rw[behind_any,iXw];have f:=gXs (behind a c) (behind b c);omega
 ·intro a _ e
  rw[behind_star,gX9];have d:=gXs [] ((behind a c).map (fun x=>row x (fXl a)));simp at d;omega
theorem fX2 (l:wf p):∀x,x∈behind p c->wf x/\ks x<=md p:=by
 refine ind (P:=fun p=>∀x,x∈behind p c->wf x/\ks x<=md p) ?_ ?_ ?_ ?_ ?_ p l
 ·simp[behind_none]
 ·intro s _ x d
  rw[behind_set]at d;split at d
  ·simp only[List.mem_singleton]at d;subst d;exact⟨gXz,by simp[iXj,set,md]⟩
  ·simp at d
 ·intro a b k m _ _ e f x d
  rw[behind_rowB]at d;have key:∀x,x∈(behind a c).map (fun x=>row x b)->wf x/\ks x<=md (gX4 a b):=by
   intro x d;obtain⟨z,g,rfl⟩:=List.mem_map.1 d;have:=e z g;have i:=iXu z b;exact⟨fXy this.1 m,by rw[iX7];omega⟩
  have j:∀x,x∈fXh [] ((behind a c).map (fun x=>row x b))->wf x/\ks x<=md (gX4 a b):=fun x d=>by
   rcases fXu d with h|h
   ·simp at h
   ·exact key x h
  split at d
  ·rcases fXu d with h|h
   ·exact j x h
   ·have:=f x h;exact⟨this.1,by rw[iX7];omega⟩
  ·exact j x d
 ·intro a b _ _ e f x d
  rw[behind_any]at d;rcases fXu d with h|h
  ·have:=e x h;exact⟨this.1,by rw[lXg];omega⟩
  ·have:=f x h;exact⟨this.1,by rw[lXg];omega⟩
 ·intro a k e x d
  rw[behind_star]at d;rcases fXu d with h|h
  ·simp at h
  ·obtain⟨z,g,rfl⟩:=List.mem_map.1 h
   have:=e z g;have i:=iXu z (fXl a);rw[gXw]at i;exact⟨fXy this.1 (fXw k),by rw[jXq];omega⟩
variable {L l:List Pat}(p:Pat)(s:Lu)(c:UInt8)
structure Room (L:List Pat):Prop where
 closed:∀q,q∈L->∀c x,x∈behind q c->x∈L
 ok:∀q,q∈L->wf q/\ks q<=4611686018427387904/\nd q<=1000000000/\md q<=4611686018427387904
 small:L.length<=500000000
def KD (l:List Pat):Prop:=(l.map key).Nodup
theorem jX6:KD []:=by simp[KD]
theorem nXf (h:KD l)(x:Pat):KD (put l x):=by
 unfold put;split
 ·exact h
 ·rename_i f
  unfold KD at h ⊢;rw[List.map_append,List.nodup_append];refine⟨h,by simp,?_⟩;intro a d b c;simp only[List.map_cons,List.map_nil,List.mem_singleton]at c;subst c;rintro rfl;apply f
  rw[List.any_eq_true];obtain⟨q,g,e⟩:=List.mem_map.1 d;exact⟨q,g,by simp[e]⟩
theorem gX6 (h:KD l)(m:List Pat):KD (fXh l m):=by
 induction m generalizing l with
 | nil=>exact h
 | cons x m a=>exact a (nXf h x)
theorem jXh {α:Type} [DecidableEq α]:(l L:List α)->l.Nodup->(∀x,x∈l->x∈L)->l.length<=L.length
 | [],_,_,_=>by simp
 | a::l,L,h,hs=>by
  rw[List.nodup_cons]at h;have b:=hs a (by simp);have:=jXh l (L.erase a) h.2 (fun x c=>by
   rw[List.mem_erase_of_ne (by rintro rfl;exact h.1 c)];exact hs x (by simp[c]))
  rw[List.length_erase_of_mem b]at this;have d:0<L.length:=List.length_pos_of_mem b;simp only[List.length_cons];omega
theorem iXq (h:KD l)(hs:∀x,x∈l->x∈L):l.length<=L.length:=by
 have:=jXh (l.map key) (L.map key) h (fun x b=>by
  obtain⟨q,a,rfl⟩:=List.mem_map.1 b;exact List.mem_map.2 ⟨q,hs q a,rfl⟩)
 simpa using this
def jXd (l:List Pat)(c:UInt8):List Pat:=l.foldl (fun n p=>fXh n (behind p c)) []
theorem lXb (l:List Pat):jXd (l++[p]) c=fXh (jXd l c) (behind p c):=by simp[jXd]
theorem kXx (l:List Pat):KD (jXd l c):=by
 have:∀(l m:List Pat),KD m->KD (l.foldl (fun n p=>fXh n (behind p c)) m):=by
  intro l;induction l with
  | nil=>intro m h;exact h
  | cons p l a=>intro m h;exact a _ (gX6 h _)
 exact this l [] jX6
theorem jXy (e:Room L)(h:∀x,x∈l->x∈L):∀x,x∈jXd l c->x∈L:=by
 have:∀(l m:List Pat),(∀x,x∈l->x∈L)->(∀x,x∈m->x∈L)->∀x,x∈l.foldl (fun n p=>fXh n (behind p c)) m->x∈L:=by
  intro l;induction l with
  | nil=>intro m _ h;exact h
  | cons p l f=>
   intro m b d;refine f _ (fun x a=>b x (by simp[a])) (fun x a=>?_);rcases fXu a with a|a
   ·exact d x a
   ·exact e.closed p (b p (by simp)) c x a
 exact this l [] h (by simp)
def after (p:Pat)(s:Lu):List Pat:=s.foldl step [p]
theorem lXm:after p (s++[c])=step (after p s) c:=by simp[after]
theorem nXj:is p s=(after p s).any empty:=rfl
theorem mXr (d:Room L){p:Pat}(e:p∈L):KD (after p s)/\∀x,x∈after p s->x∈L:=by
 have:∀(s:Lu) (l:List Pat),KD l->(∀x,x∈l->x∈L)->KD (s.foldl step l)/\∀x,x∈s.foldl step l->x∈L:=by
  intro s;induction s with
  | nil=>intro l b a;exact⟨b,a⟩
  | cons c s f=>intro l b a;exact f _ (kXx c l) (jXy c d a)
 exact this s [p] (by simp[KD]) (by simpa using e)
variable {r t:Lu}(s:Lu)
structure D where
 tag:Nat
 signs:Lu
 parts:List D
def place (s:Lu):D:=⟨0,s,[]⟩
def rnil:D:=⟨1,[],[]⟩
def rcons (a r:D):D:=⟨2,[],[a,r]⟩
def clast (r:D):D:=⟨3,[],[r]⟩
def ccons (r c:D):D:=⟨4,[],[r,c]⟩
def rep (t:Nat)(a:D):D:=⟨t,[],[a]⟩
def eX5:D->Pat
 | ⟨t,s,[]⟩=>if t=0 then set s else nN
 | ⟨t,_,[a]⟩=>if t=3 then eX5 a else if t=5 then fXl (eX5 a) else if t=6 then row (eX5 a) (fXl (eX5 a)) else any (eX5 a) nN
 | ⟨t,_,[a,b]⟩=>if t=2 then row (eX5 a) (eX5 b) else any (eX5 a) (eX5 b)
 | _=>nN
def dsize:D->Nat
 | ⟨t,_,[]⟩=>if t=0 then 1 else 0
 | ⟨_,_,[a]⟩=>dsize a
 | ⟨_,_,[a,b]⟩=>dsize a+dsize b
 | _=>0
theorem fX7:eX5 (place s)=set s:=by simp[place,eX5]
theorem fXm:eX5 rnil=nN:=by simp[rnil,eX5]
theorem hXe (a r:D):eX5 (rcons a r)=row (eX5 a) (eX5 r):=by simp[rcons,eX5]
theorem hXd (r:D):eX5 (clast r)=eX5 r:=by simp[clast,eX5]
theorem hXc (r c:D):eX5 (ccons r c)=any (eX5 r) (eX5 c):=by simp[ccons,eX5]
theorem hXo (a:D):eX5 (rep 5 a)=fXl (eX5 a):=by simp[rep,eX5]
theorem iXf (a:D):eX5 (rep 6 a)=row (eX5 a) (fXl (eX5 a)):=by simp[rep,eX5]
theorem iX2 (a:D):eX5 (rep 7 a)=any (eX5 a) nN:=by simp[rep,eX5]
theorem gXe:dsize (place s)=1:=by simp[place,dsize]
theorem gXh:dsize rnil=0:=by simp[rnil,dsize]
theorem gXp (a r:D):dsize (rcons a r)=dsize a+dsize r:=by simp[rcons,dsize]
theorem gX8 (r:D):dsize (clast r)=dsize r:=by simp[clast,dsize]
theorem gX7 (r c:D):dsize (ccons r c)=dsize r+dsize c:=by simp[ccons,dsize]
theorem fX5 (t:Nat)(a:D):dsize (rep t a)=dsize a:=by simp[rep,dsize]
abbrev Rd:=Option (D × Lu)
def gXo (acc:Lu)(a b:UInt8)(n:Nat):Lu:=
 (List.range n).foldl (fun o c=>if a.toNat<=c/\c<=b.toNat/\has o (UInt8.ofNat c)=false then o++[UInt8.ofNat c] else o) acc
def rng (acc:Lu)(a b:UInt8):Lu:=gXo acc a b 128
def gXc:Lu->Option (UInt8 × UInt8 × Lu)
 | []=>.none
 | a::r=>if iXl a=false then .none else
  if r.head?=some 45 then
   match r.tail with
   | []=>.none
   | b::t=>if iXl b=false\/b.toNat<a.toNat then .none else some (a,b,t)
  else some (a,a,r)
def cls:Nat->Lu->Lu->Option (Lu × Lu)
 | 0,_,_=>.none
 | n+1,acc,r=>
  match gXc r with
  | .none=>.none
  | some (a,b,t)=>if t.head?=some 93 then some (rng acc a b,t.tail) else cls n (rng acc a b) t
def az:Lu:=[97,98,99,100,101,102,103,104,105,106,107,108,109,110,111,112,113,114,115,116,117,118,119,120,121,122]
def jX8 (c:UInt8):Bool:=c==41||c==93||c==42||c==43||c==63||c==124||c==47||c==34
def fXg (P:Lu->Rd):Lu->Rd
 | []=>.none
 | c::t=>
  if c=40 then
   match P t with
   | .none=>.none
   | some (d,u)=>if u.head?=some 41 then some (d,u.tail) else .none
  else if c=91 then
   match cls (t.length+1) [] t with
   | .none=>.none
   | some (s,u)=>some (place s,u)
  else if c=46 then some (place az,t)
  else if c=92 then
   match t with
   | []=>.none
   | e::u=>if gXu e=true then some (place [e],u) else .none
  else if jX8 c=true\/gXu c=false then .none
  else some (place [c],t)
def gXq (P:Lu->Rd)(r:Lu):Rd:=
 match fXg P r with
 | .none=>.none
 | some (a,t)=>
  if t.head?=some 42 then some (rep 5 a,t.tail)
  else if t.head?=some 43 then some (rep 6 a,t.tail)
  else if t.head?=some 63 then some (rep 7 a,t.tail)
  else some (a,t)
def hXn:Lu->Bool
 | []=>true
 | c::_=>c==124||c==41||c==47
def things (P:Lu->Rd):Nat->Lu->Rd
 | 0,_=>.none
 | n+1,r=>
  if hXn r=true then some (rnil,r) else
  match gXq P r with
  | .none=>.none
  | some (a,r1)=>
   match things P n r1 with
   | .none=>.none
   | some (b,r2)=>some (rcons a b,r2)
def alts (P:Lu->Rd):Nat->Lu->Rd
 | 0,_=>.none
 | n+1,r=>
  match things P (r.length+1) r with
  | .none=>.none
  | some (a,r1)=>
   if r1.head?=some 124 then
    match alts P n r1.tail with
    | .none=>.none
    | some (b,r3)=>some (ccons a b,r3)
   else some (clast a,r1)
def pat:Nat->Lu->Rd
 | 0,_=>.none
 | d+1,r=>alts (pat d) (r.length+1) r
theorem iXc (h:t <:+ r):t.tail <:+ r:=(List.tail_suffix t).trans h
theorem fXr {c:UInt8}(h:t.head?=some c):t.tail.length+1=t.length:=by
 cases t with
 | nil=>simp at h
 | cons a t=>simp
def Suf (P:Lu->Rd):Prop:=∀r d t,P r=some (d,t)->t <:+ r
theorem iX9 {a b:UInt8}(h:gXc r=some (a,b,t)):t <:+ r/\t.length<r.length:=by
 cases r with
 | nil=>simp[gXc]at h
 | cons c r=>
  unfold gXc at h;dsimp only at h
  split at h
  ·simp at h
  ·split at h
   ·rename_i g
    have d:=fXr g;split at h
    ·simp at h
    ·rename_i e u f
     split at h
     ·simp at h
     ·simp at h
      obtain⟨_,_,rfl⟩:=h;rw[f]at d;simp only[List.length_cons]at d ⊢;refine⟨((List.suffix_cons e u).trans ?_).trans (List.suffix_cons c r),by omega⟩;rw[<-f];exact List.tail_suffix r
   ·simp at h
    obtain⟨_,_,rfl⟩:=h;exact⟨List.suffix_cons _ _,by simp⟩
theorem iX4:(n:Nat)->(c r s t:Lu)->cls n c r=some (s,t)->t <:+ r/\t.length<r.length
 | 0,_,_,_,_,h=>by simp[cls]at h
 | n+1,c,r,s,t,h=>by
  rw[cls]at h;split at h
  ·simp at h
  ·rename_i a b u g
   have d:=iX9 g;split at h
   ·rename_i f
    have:=fXr f;simp at h;obtain⟨_,rfl⟩:=h;exact⟨iXc d.1,by omega⟩
   ·have e:=iX4 n _ _ _ _ h;exact⟨e.1.trans d.1,by omega⟩
theorem jXt {P:Lu->Rd}(i:Suf P){d:D}(h:fXg P r=some (d,t)):t <:+ r/\t.length<r.length:=by
 cases r with
 | nil=>simp[fXg]at h
 | cons c r=>
  unfold fXg at h;dsimp only at h
  have a:=List.suffix_cons c r;split at h
  ·split at h
   ·simp at h
   ·rename_i e u f
    have b:=i _ _ _ f;have j:=b.length_le;split at h
    ·rename_i g
     have:=fXr g;obtain⟨_,rfl⟩:=h;exact⟨(iXc b).trans a,by simp only[List.length_cons];omega⟩
    ·simp at h
  ·split at h
   ·split at h
    ·simp at h
    ·rename_i e u f
     have b:=iX4 _ _ _ _ _ f;obtain⟨_,rfl⟩:=h;exact⟨b.1.trans a,by simp only[List.length_cons];omega⟩
   ·split at h
    ·simp at h;obtain⟨_,rfl⟩:=h;exact⟨a,by simp⟩
    ·split at h
     ·split at h
      ·simp at h
      ·rename_i e u
       split at h
       ·simp at h;obtain⟨_,rfl⟩:=h
        exact⟨(List.suffix_cons _ _).trans a,by simp only[List.length_cons];omega⟩
       ·simp at h
     ·split at h
      ·simp at h
      ·simp at h;obtain⟨_,rfl⟩:=h;exact⟨a,by simp⟩
theorem jXz {P:Lu->Rd}(e:Suf P){d:D}(h:gXq P r=some (d,t)):t <:+ r/\t.length<r.length:=by
 rw[gXq]at h;split at h
 ·simp at h
 ·rename_i a u f
  have c:=jXt e f;split at h
  ·rename_i b
   have:=fXr b;obtain⟨_,rfl⟩:=h;exact⟨iXc c.1,by omega⟩
  ·split at h
   ·rename_i b
    have:=fXr b;obtain⟨_,rfl⟩:=h;exact⟨iXc c.1,by omega⟩
   ·split at h
    ·rename_i b
     have:=fXr b;obtain⟨_,rfl⟩:=h;exact⟨iXc c.1,by omega⟩
    ·simp at h;obtain⟨_,rfl⟩:=h;exact c
theorem iXe {P:Lu->Rd}(c:Suf P):(n:Nat)->(r:Lu)->(d:D)->(t:Lu)->things P n r=some (d,t)->t <:+ r
 | 0,_,_,_,h=>by simp[things]at h
 | n+1,r,d,t,h=>by
  rw[things]at h;split at h
  ·simp at h;obtain⟨_,rfl⟩:=h;exact List.suffix_refl _
  ·split at h
   ·simp at h
   ·rename_i a j e
    have f:=jXz c e;split at h
    ·simp at h
    ·rename_i b k g
     have i:=iXe c n j b k g;simp at h;obtain⟨_,rfl⟩:=h;exact i.trans f.1
theorem kXf {P:Lu->Rd}(e:Suf P):(n:Nat)->(r:Lu)->(d:D)->(t:Lu)->alts P n r=some (d,t)->t <:+ r
 | 0,_,_,_,h=>by simp[alts]at h
 | n+1,r,d,t,h=>by
  rw[alts]at h;split at h
  ·simp at h
  ·rename_i a k f
   have c:=iXe e _ _ _ _ f;split at h
   ·split at h
    ·simp at h
    ·rename_i b j g
     have i:=kXf e n _ b j g;simp at h;obtain⟨_,rfl⟩:=h;exact i.trans (iXc c)
   ·simp at h;obtain⟨_,rfl⟩:=h;exact c
theorem hXa:(d:Nat)->Suf (pat d)
 | 0=>fun r e t h=>by simp[pat]at h
 | d+1=>fun r e t h=>kXf (hXa d) _ _ _ _ h
def Siz (P:Lu->Rd):Prop:=∀r d t,P r=some (d,t)->dsize d+t.length<=r.length
theorem kXw {P:Lu->Rd}(g:Siz P){d:D}(h:fXg P r=some (d,t)):dsize d+t.length<=r.length:=by
 cases r with
 | nil=>simp[fXg]at h
 | cons c r=>
  unfold fXg at h;dsimp only at h
  split at h
  ·split at h
   ·simp at h
   ·rename_i e u a
    have b:=g _ _ _ a;split at h
    ·rename_i f
     have:=fXr f;obtain⟨rfl,rfl⟩:=h;simp only[List.length_cons];omega
    ·simp at h
  ·split at h
   ·split at h
    ·simp at h
    ·rename_i e u a
     have b:=iX4 _ _ _ _ _ a;obtain⟨rfl,rfl⟩:=h;rw[gXe];simp only[List.length_cons];omega
   ·split at h
    ·simp at h;obtain⟨rfl,rfl⟩:=h;rw[gXe];simp only[List.length_cons];omega
    ·split at h
     ·split at h
      ·simp at h
      ·split at h
       ·simp at h;obtain⟨rfl,rfl⟩:=h
        rw[gXe];simp only[List.length_cons];omega
       ·simp at h
     ·split at h
      ·simp at h
      ·simp at h;obtain⟨rfl,rfl⟩:=h;rw[gXe];simp only[List.length_cons];omega
theorem kXy {P:Lu->Rd}(e:Siz P){d:D}(h:gXq P r=some (d,t)):dsize d+t.length<=r.length:=by
 rw[gXq]at h;split at h
 ·simp at h
 ·rename_i a u f
  have c:=kXw e f;split at h
  ·rename_i b
   have:=fXr b;obtain⟨rfl,rfl⟩:=h;rw[fX5];omega
  ·split at h
   ·rename_i b
    have:=fXr b;obtain⟨rfl,rfl⟩:=h;rw[fX5];omega
   ·split at h
    ·rename_i b
     have:=fXr b;obtain⟨rfl,rfl⟩:=h;rw[fX5];omega
    ·simp at h;obtain⟨rfl,rfl⟩:=h;exact c
theorem iXd {P:Lu->Rd}(c:Siz P):(n:Nat)->(r:Lu)->(d:D)->(t:Lu)->things P n r=some (d,t)->dsize d+t.length<=r.length
 | 0,_,_,_,h=>by simp[things]at h
 | n+1,r,d,t,h=>by
  rw[things]at h;split at h
  ·simp at h;obtain⟨rfl,rfl⟩:=h;rw[gXh];omega
  ·split at h
   ·simp at h
   ·rename_i a g e
    have j:=kXy c e;split at h
    ·simp at h
    ·rename_i b i f
     have k:=iXd c n g b i f;simp at h;obtain⟨rfl,rfl⟩:=h;rw[gXp];omega
theorem kXe {P:Lu->Rd}(c:Siz P):(n:Nat)->(r:Lu)->(d:D)->(t:Lu)->alts P n r=some (d,t)->dsize d+t.length<=r.length
 | 0,_,_,_,h=>by simp[alts]at h
 | n+1,r,d,t,h=>by
  rw[alts]at h;split at h
  ·simp at h
  ·rename_i a l e
   have f:=iXd c _ _ _ _ e;split at h
   ·rename_i i
    have:=fXr i;split at h
    ·simp at h
    ·rename_i b j g
     have k:=kXe c n _ b j g;simp at h;obtain⟨rfl,rfl⟩:=h;rw[gX7];omega
   ·simp at h;obtain⟨rfl,rfl⟩:=h;rw[gX8];exact f
theorem hXk:(d:Nat)->Siz (pat d)
 | 0=>fun r e t h=>by simp[pat]at h
 | d+1=>fun r e t h=>kXe (hXk d) _ _ _ _ h
variable {z:Pat}(s:Lu)(a p b:Pat)(c:UInt8)
def pds:Pat->List Pat
 | ⟨k,_,[]⟩=>if k=1 then [nN] else []
 | ⟨_,_,[a]⟩=>(pds a).map (fun x=>row x (fXl a))
 | ⟨k,_,[a,b]⟩=>if k=3 then pds a++pds b else (pds a).map (fun x=>row x b)++pds b
 | _=>[]
def hs:Pat->Nat
 | ⟨_,_,[a]⟩=>hs a+1
 | ⟨_,_,[a,b]⟩=>max (hs a) (hs b)
 | _=>1
theorem jXi:pds nN=[]:=by simp[nN,pds]
theorem jXw:pds (set s)=[nN]:=by simp[set,pds]
theorem iXy:pds (gX4 a b)=(pds a).map (fun x=>row x b)++pds b:=by simp[gX4,pds]
theorem jXv:pds (any a b)=pds a++pds b:=by simp[any,pds]
theorem iXa:pds (fXl a)=(pds a).map (fun x=>row x (fXl a)):=by simp[fXl,pds]
theorem kXl:hs (gX4 a b)=max (hs a) (hs b):=by simp[gX4,hs]
theorem jX9:hs (any a b)=max (hs a) (hs b):=by simp[any,hs]
theorem iX5:hs (fXl a)=hs a+1:=by simp[fXl,hs]
theorem lXh:nd (set s)=1:=by simp[set,nd]
theorem kXp:nd nN=1:=by simp[nN,nd]
theorem mXb:md nN=3:=by simp[nN,md]
theorem nXk:md (set s)=3:=by simp[set,md]
theorem hX7 (i:wf p):∀x,x∈behind p c->x∈pds p:=by
 refine ind (P:=fun p=>∀x,x∈behind p c->x∈pds p) ?_ ?_ ?_ ?_ ?_ p i
 ·simp[behind_none]
 ·intro s _ x d
  rw[behind_set]at d;split at d
  ·exact d
  ·simp at d
 ·intro a b _ _ _ _ e f x d
  rw[behind_rowB]at d;rw[iXy,List.mem_append];have key:x∈fXh [] ((behind a c).map (fun x=>row x b))->x∈(pds a).map (fun x=>row x b):=fun h=>by
   rcases fXu h with h|h
   ·simp at h
   ·obtain⟨z,g,rfl⟩:=List.mem_map.1 h
    exact List.mem_map.2 ⟨z,e z g,rfl⟩
  split at d
  ·rcases fXu d with h|h
   ·exact .inl (key h)
   ·exact .inr (f x h)
  ·exact .inl (key d)
 ·intro a b _ _ e f x d
  rw[behind_any]at d;rw[jXv,List.mem_append];rcases fXu d with h|h
  ·exact .inl (e x h)
  ·exact .inr (f x h)
 ·intro a _ e x d
  rw[behind_star]at d;rcases fXu d with h|h
  ·simp at h
  ·obtain⟨z,g,rfl⟩:=List.mem_map.1 h
   exact List.mem_map.2 ⟨z,e z g,rfl⟩
theorem iX0 {b:Pat}(h:z.kind=0):row z b=b:=by unfold row;rw[if_pos h]
theorem iX1 {b:Pat}(h:z.kind≠0)(a:b.kind≠0):row z b=gX4 z b:=by unfold row;rw[if_neg h,if_neg a]
theorem nXl (i:wf p):∀q,q∈pds p->wf q:=by
 refine ind (P:=fun p=>∀q,q∈pds p->wf q) ?_ ?_ ?_ ?_ ?_ p i
 ·simp[jXi]
 ·intro s _ q c;rw[jXw]at c;simp only[List.mem_singleton]at c;subst c;exact gXz
 ·intro a b g j _ _ d e q c
  rw[iXy,List.mem_append]at c;rcases c with h|h
  ·obtain⟨z,f,rfl⟩:=List.mem_map.1 h;exact fXy (d z f) j
  ·exact e q h
 ·intro a b _ _ d e q c
  rw[jXv,List.mem_append]at c;exact c.elim (d q) (e q)
 ·intro a g d q c
  rw[iXa]at c;obtain⟨z,f,rfl⟩:=List.mem_map.1 c;exact fXy (d z f) (fXw g)
theorem lXr (n:wf p):∀q,q∈pds p->∀x,x∈behind q c->x∈pds p:=by
 refine ind (P:=fun p=>∀q,q∈pds p->∀x,x∈behind q c->x∈pds p) ?_ ?_ ?_ ?_ ?_ p n
 ·simp[jXi]
 ·intro s _ q e x d
  rw[jXw]at e;simp only[List.mem_singleton]at e;subst e;simp[behind_none]at d
 ·intro a b l m _ o f g q e x d
  rw[iXy,List.mem_append]at e ⊢;rcases e with h|h
  ·obtain⟨z,j,rfl⟩:=List.mem_map.1 h
   by_cases kz:z.kind=0
   ·rw[iX0 kz]at d;exact .inr (hX7 b c m x d)
   ·rw[iX1 kz o,behind_rowB]at d
    have key:x∈fXh [] ((behind z c).map (fun x=>row x b))->x∈(pds a).map (fun x=>row x b):=fun h=>by
     rcases fXu h with h|h
     ·simp at h
     ·obtain⟨u,i,rfl⟩:=List.mem_map.1 h
      exact List.mem_map.2 ⟨u,f z j u i,rfl⟩
    split at d
    ·rcases fXu d with h|h
     ·exact .inl (key h)
     ·exact .inr (hX7 b c m x h)
    ·exact .inl (key d)
  ·exact .inr (g q h x d)
 ·intro a b _ _ f g q e x d
  rw[jXv,List.mem_append]at e ⊢;exact e.imp (fun h=>f q h x d) (fun h=>g q h x d)
 ·intro a l f q e x d
  have k:=hX7 (fXl a) c (fXw l);obtain⟨z,j,rfl⟩:=List.mem_map.1 e
  by_cases kz:z.kind=0
  ·rw[iX0 kz]at d;exact k x d
  ·rw[iX1 kz (by simp[fXl]),behind_rowB]at d
   have key:x∈fXh [] ((behind z c).map (fun x=>row x (fXl a)))->x∈pds (fXl a):=fun h=>by
    rcases fXu h with h|h
    ·simp at h
    ·obtain⟨u,i,rfl⟩:=List.mem_map.1 h
     rw[iXa];exact List.mem_map.2 ⟨u,f z j u i,rfl⟩
   split at d
   ·rcases fXu d with h|h
    ·exact key h
    ·exact k x h
   ·exact key d
theorem kXa (e:wf p):(pds p).length<=nd p:=by
 refine ind (P:=fun p=>(pds p).length<=nd p) ?_ ?_ ?_ ?_ ?_ p e
 ·simp[jXi]
 ·intro s _;simp[jXw,lXh]
 ·intro a b _ _ _ _ c d;rw[iXy,hXu];simp;omega
 ·intro a b _ _ c d;rw[jXv,iXw];simp;omega
 ·intro a _ c;rw[iXa,gX9];simpa using c
theorem lXf (e:wf p):3<=ks p:=by
 refine ind (P:=fun p=>3<=ks p) ?_ ?_ ?_ ?_ ?_ p e
 ·rw[iXj];omega
 ·intro s _;rw[jXo];omega
 ·intro a b _ _ _ _ c d;rw[iX6];omega
 ·intro a b _ _ c d;rw[jXc];omega
 ·intro a _ c;rw[gXw];omega
theorem jXx {a b:Nat}(h:a<=b):a*a<=b*b:=Nat.mul_le_mul h h
theorem mX7 (a b:Nat)(e:3<=a)(f:3<=b):a*a+b+3<=(a+b+3)*(a+b+3):=by
 have c:(a+b+3)*(a+b+3)=a*a+a*(b+3)+(b+3)*(a+b+3):=by rw[Nat.add_assoc,Nat.mul_add,Nat.add_mul];simp[Nat.mul_add,Nat.mul_comm]
 have d:b+3<=(b+3)*(a+b+3):=Nat.le_mul_of_pos_right _ (by omega);omega
theorem mXm (a:Nat):a*a+a+6<=(a+3)*(a+3):=by
 have b:(a+3)*(a+3)=a*a+6*a+9:=by simp[Nat.mul_add,Nat.mul_comm];omega
 omega
theorem nXb (i:wf p):md p<=ks p*ks p:=by
 refine ind (P:=fun p=>md p<=ks p*ks p) ?_ ?_ ?_ ?_ ?_ p i
 ·rw[mXb,iXj];omega
 ·intro s _;rw[nXk,jXo];have:=jXx (show 3<=s.length+3 by omega);omega
 ·intro a b c e _ _ d h
  rw[iX7,iX6];have f:=mX7 (ks a) (ks b) (lXf a c) (lXf b e);have g:=jXx (show ks b<=ks a+ks b+3 by omega);omega
 ·intro a b c e d h
  rw[lXg,jXc];have f:=jXx (show ks a<=ks a+ks b+3 by omega);have g:=jXx (show ks b<=ks a+ks b+3 by omega);omega
 ·intro a c d
  rw[jXq,gXw];have:=mXm (ks a);omega
theorem mXe (w:wf p):∀q,q∈pds p->ks q<=ks p*ks p/\md q<=ks p*ks p/\nd q<=nd p*hs p:=by
 refine ind (P:=fun p=>∀q,q∈pds p->ks q<=ks p*ks p/\md q<=ks p*ks p/\nd q<=nd p*hs p) ?_ ?_ ?_ ?_ ?_ p w
 ·simp[jXi]
 ·intro s _ q c
  rw[jXw]at c;simp only[List.mem_singleton]at c;subst c;rw[iXj,jXo,mXb,kXp,lXh];have:=jXx (show 3<=s.length+3 by omega);exact⟨by omega,by omega,by simp[set,hs]⟩
 ·intro a b d o _ A e m q c
  have C:=lXf a d;have E:=lXf b o;rw[iXy,List.mem_append]at c;rw[iX6,hXu,kXl];have s1:=mX7 (ks a) (ks b) C E;have s2:=jXx (show ks b<=ks a+ks b+3 by omega);have t:nd a*hs a<=nd a*max (hs a) (hs b):=Nat.mul_le_mul_left _ (Nat.le_max_left _ _);have B:nd b*hs b<=nd b*max (hs a) (hs b):=Nat.mul_le_mul_left _ (Nat.le_max_right _ _);have v:1<=max (hs a) (hs b):=by
   have:1<=hs a:=by
    obtain⟨k,s,l⟩:=a;match l with
    | []=>simp[hs]
    | [_]=>simp[hs]
    | [x,y]=>
     refine ind (P:=fun p=>1<=hs p) ?_ ?_ ?_ ?_ ?_ _ d
     ·simp[nN,hs]
     ·intro s _;simp[set,hs]
     ·intro a b _ _ _ _ r u;rw[kXl];omega
     ·intro a b _ _ r u;rw[jX9];omega
     ·intro a _ r;rw[iX5];omega
    | _::_::_::_=>simp[wf]at d
   omega
  have H:nd b<=nd b*max (hs a) (hs b):=Nat.le_mul_of_pos_right _ v;rw[Nat.add_mul (nd a) (nd b)];rcases c with h|h
  ·obtain⟨z,n,rfl⟩:=List.mem_map.1 h
   obtain⟨g,i,j⟩:=e z n;have f:=iXu z b;have G:=nXb b o
   by_cases kz:z.kind=0
   ·rw[iX0 kz]
    refine⟨by have:=jXx (show 1<=ks b by omega);have:ks b<=ks b*ks b:=Nat.le_mul_of_pos_right _ (by omega);omega,by omega,by omega⟩
   ·rw[iX1 kz A]at f ⊢
    rw[iX7,hXu];exact⟨by omega,by omega,by omega⟩
  ·obtain⟨g,i,j⟩:=m q h
   exact⟨by omega,by omega,by omega⟩
 ·intro a b d o e m q c
  rw[jXv,List.mem_append]at c;rw[jXc,iXw,jX9,Nat.add_mul (nd a) (nd b)];have s1:=jXx (show ks a<=ks a+ks b+3 by omega);have s2:=jXx (show ks b<=ks a+ks b+3 by omega);have t:nd a*hs a<=nd a*max (hs a) (hs b):=Nat.mul_le_mul_left _ (Nat.le_max_left _ _);have B:nd b*hs b<=nd b*max (hs a) (hs b):=Nat.mul_le_mul_left _ (Nat.le_max_right _ _);rcases c with h|h
  ·obtain⟨g,i,j⟩:=e q h;exact⟨by omega,by omega,by omega⟩
  ·obtain⟨g,i,j⟩:=m q h;exact⟨by omega,by omega,by omega⟩
 ·intro a d e q c
  rw[iXa]at c;rw[gXw,gX9,iX5];obtain⟨z,n,rfl⟩:=List.mem_map.1 c;obtain⟨g,i,j⟩:=e z n;have f:=iXu z (fXl a);rw[gXw]at f;have s1:=mXm (ks a);have F:=nXb a d;have t:nd a*(hs a+1)=nd a*hs a+nd a:=Nat.mul_succ _ _
  by_cases kz:z.kind=0
  ·rw[iX0 kz,gXw,jXq,gX9]
   refine⟨?_,by omega,by omega⟩;have:=jXx (show 1<=ks a+3 by omega);have:ks a+3<=(ks a+3)*(ks a+3):=Nat.le_mul_of_pos_right _ (by omega);omega
  ·rw[iX1 kz (by simp[fXl])]at f ⊢
   rw[iX7,hXu,gX9,jXq,gXw];exact⟨by omega,by omega,by omega⟩
theorem room (b:wf p)(f:ks p<=1000000000)(g:nd p*hs p<=400000000)(e:1<=hs p):Room (p::pds p):=by
 have i:=jXx f;have h:nd p<=nd p*hs p:=Nat.le_mul_of_pos_right _ e;refine⟨?_,?_,?_⟩
 ·intro q a c x d
  rcases List.mem_cons.1 a with rfl|a
  ·exact List.mem_cons_of_mem _ (hX7 q c b x d)
  ·exact List.mem_cons_of_mem _ (lXr p c b q a x d)
 ·intro q a
  rcases List.mem_cons.1 a with rfl|a
  ·have:=nXb q b;exact⟨b,by omega,by omega,by omega⟩
  ·obtain⟨j,k,l⟩:=mXe p b q a
   exact⟨nXl p b q a,by omega,by omega,by omega⟩
 ·have:=kXa p b
  simp only[List.length_cons];omega
variable {P:Lu->Rd}{X Y:Nat}{a b:UInt8}{acc r t:Lu}{d:D}(n:Nat)
theorem nXi (p:Pat)(e:wf p):1<=hs p:=by
 refine ind (P:=fun p=>1<=hs p) ?_ ?_ ?_ ?_ ?_ p e
 ·simp[nN,hs]
 ·intro s _;simp[set,hs]
 ·intro a b _ _ _ _ c d;rw[kXl];omega
 ·intro a b _ _ c d;rw[jX9];omega
 ·intro a _ c;rw[iX5];omega
theorem mXc (a b:Pat):nd (row a b)<=nd a+nd b:=by
 unfold row;split
 ·omega
 ·split
  ·omega
  ·rw[hXu];omega
theorem lX7 (a b:Pat):hs (row a b)<=max (hs a) (hs b):=by
 unfold row;split
 ·omega
 ·split
  ·omega
  ·rw[kXl];omega
theorem mXi (c:Lu)(a b:UInt8):(gXo c a b n).length<=c.length+n:=by
 induction n with
 | zero=>simp[gXo]
 | succ n d=>
  unfold gXo at d ⊢;rw[List.range_succ,List.foldl_append];simp only[List.foldl_cons,List.foldl_nil];split
  ·rw[List.length_append];simp only[List.length_cons,List.length_nil];omega
  ·omega
theorem mXj (g:n<=128):∀c,c∈gXo acc a b n->c∈acc\/(a.toNat<=c.toNat/\c.toNat<=b.toNat):=by
 induction n with
 | zero=>intro c d;exact .inl (by simpa [gXo] using d)
 | succ n e=>
  intro c d;have e:=e (by omega);unfold gXo at e d;rw[List.range_succ,List.foldl_append]at d;simp only[List.foldl_cons,List.foldl_nil]at d;split at d
  ·rename_i h
   rcases List.mem_append.1 d with f|f
   ·exact e c f
   ·simp only[List.mem_singleton]at f
    subst f;have:(UInt8.ofNat n).toNat=n:=by simp;omega
    exact .inr ⟨by omega,by omega⟩
  ·exact e c d
theorem mXh (g:a.toNat<=b.toNat)(i:a.toNat<n):gXo acc a b n≠[]:=by
 induction n with
 | zero=>omega
 | succ n d=>
  unfold gXo at d ⊢;rw[List.range_succ,List.foldl_append];simp only[List.foldl_cons,List.foldl_nil];split
  ·simp
  ·rename_i h
   rcases Nat.lt_or_ge a.toNat n with c|c
   ·exact d c
   ·have e:a.toNat=n:=by omega
    intro f;rw[f]at h;exact h ⟨by omega,by omega,by simp[has]⟩
theorem kXo {c:UInt8}(h:iXl c=true):48<=c.toNat/\c.toNat<=122:=by
 simp[iXl]at h;omega
theorem mXg (h:gXc r=some (a,b,t)):iXl a=true/\iXl b=true/\a.toNat<=b.toNat:=by
 cases r with
 | nil=>simp[gXc]at h
 | cons c r=>
  unfold gXc at h;dsimp only at h
  split at h
  ·simp at h
  ·rename_i d
   split at h
   ·split at h
    ·simp at h
    ·split at h
     ·simp at h
     ·rename_i e
      simp at h;obtain⟨rfl,rfl,_⟩:=h;simp only[not_or,Bool.not_eq_false]at e;exact⟨by simpa using d,e.1,by omega⟩
   ·simp at h
    obtain⟨rfl,rfl,_⟩:=h;exact⟨by simpa using d,by simpa using d,Nat.le_refl _⟩
theorem lX2:(n:Nat)->(d r s t:Lu)->(∀c,c∈d->48<=c.toNat/\c.toNat<=122)->cls n d r=some (s,t)->s≠[]/\(∀c,c∈s->48<=c.toNat/\c.toNat<=122)/\s.length+128*t.length<=d.length+128*r.length
 | 0,_,_,_,_,_,h=>by simp[cls]at h
 | n+1,d,r,s,t,hacc,h=>by
  rw[cls]at h;split at h
  ·simp at h
  ·rename_i a b u f
   obtain⟨o,p,k⟩:=mXg f;have q:=kXo o;have v:=kXo p;have hs:=iX9 f;have w:=mXi 128 d a b;have e:∀c,c∈rng d a b->48<=c.toNat/\c.toNat<=122:=fun c l=>by
    rcases mXj 128 (Nat.le_refl _) c l with h|h
    ·exact hacc c h
    ·omega
   split at h
   ·rename_i m
    have:=fXr m;simp at h;obtain⟨rfl,rfl⟩:=h;exact⟨mXh 128 k (by omega),e,by unfold rng;omega⟩
   ·obtain⟨g,i,j⟩:=lX2 n _ _ _ _ e h
    exact⟨g,i,by unfold rng at j;omega⟩
def Bd (X Y c:Nat)(p:Pat):Prop:=wf p/\nd p<=X/\ks p<=Y/\hs p<=c
def Bnd (X Y:Nat)(P:Lu->Rd):Prop:=∀r d t,P r=some (d,t)->∃c,r.length=t.length+c/\Bd ((c+1)*X) ((c+1)*Y) (c+1) (eX5 d)
theorem jXf {c:Nat}(a:1<=X)(b:131<=Y)(d:1<=c){s:Lu}(hs:hX5 s)(e:s.length+3<=131*c):Bd (c*X) (c*Y) c (eX5 (place s)):=by
 rw[fX7];refine⟨kX1 hs,?_,?_,by simp[set,Ls.hs];omega⟩
 ·rw[lXh];exact Nat.mul_pos d a
 ·rw[jXo]
  have:c*131<=c*Y:=Nat.mul_le_mul_left _ b;omega
theorem mXv (a:1<=X)(b:131<=Y)(m:Bnd X Y P)(h:fXg P r=some (d,t)):∃c,1<=c/\r.length=t.length+c/\Bd (c*X) (c*Y) c (eX5 d):=by
 cases r with
 | nil=>simp[fXg]at h
 | cons e r=>
  unfold fXg at h;dsimp only at h
  split at h
  ·split at h
   ·simp at h
   ·rename_i n u f
    obtain⟨c,i,g,j,k,o⟩:=m _ _ _ f;split at h
    ·rename_i l
     have:=fXr l;obtain⟨rfl,rfl⟩:=h;refine⟨c+2,by omega,by simp only[List.length_cons];omega,g,?_,?_,by omega⟩
     ·have:(c+1)*X<=(c+2)*X:=Nat.mul_le_mul_right _ (by omega);omega
     ·have:(c+1)*Y<=(c+2)*Y:=Nat.mul_le_mul_right _ (by omega);omega
    ·simp at h
  ·split at h
   ·split at h
    ·simp at h
    ·rename_i s u f
     obtain⟨i,g,j⟩:=lX2 _ _ _ _ _ (by simp) f;have k:=(iX4 _ _ _ _ _ f).2;simp at h;obtain⟨rfl,rfl⟩:=h;refine⟨r.length+1-u.length,by omega,by simp only[List.length_cons];omega,jXf a b (by omega) (.inr ⟨i,g⟩) ?_⟩;simp at j;omega
   ·split at h
    ·simp at h;obtain⟨rfl,rfl⟩:=h
     exact⟨1,by omega,by simp,jXf a b (by omega) (.inr ⟨by simp[az],by decide⟩) (by decide)⟩
    ·split at h
     ·split at h
      ·simp at h
      ·split at h
       ·simp at h;obtain⟨rfl,rfl⟩:=h
        exact⟨2,by omega,by simp,jXf a b (by omega) (.inl ⟨_,rfl⟩) (by simp)⟩
       ·simp at h
     ·split at h
      ·simp at h
      ·simp at h;obtain⟨rfl,rfl⟩:=h
       exact⟨1,by omega,by simp,jXf a b (by omega) (.inl ⟨_,rfl⟩) (by simp)⟩
theorem mXz (p:1<=X)(q:131<=Y)(o:Bnd X Y P)(h:gXq P r=some (d,t)):∃c,1<=c/\r.length=t.length+c/\Bd (c*(2*X)) (c*(2*Y+6)) c (eX5 d):=by
 rw[gXq]at h;split at h
 ·simp at h
 ·rename_i a u s
  obtain⟨c,l,m,b,x,y,n⟩:=mXv p q o s;have j:c*(2*X)=2*(c*X):=Nat.mul_left_comm _ _ _;have k:c*(2*Y+6)=2*(c*Y)+6*c:=by rw[Nat.mul_add,Nat.mul_left_comm,Nat.mul_comm c 6]
  have v:(c+1)*(2*X)=2*(c*X)+2*X:=by rw[Nat.add_mul,j,Nat.one_mul]
  have w:(c+1)*(2*Y+6)=2*(c*Y)+6*c+2*Y+6:=by rw[Nat.add_mul,k,Nat.one_mul];omega
  split at h
  ·rename_i e
   have:=fXr e;obtain⟨rfl,rfl⟩:=h;rw[hXo];exact⟨c+1,by omega,by omega,fXw b,by rw[gX9];omega,by rw[gXw];omega,by rw[iX5];omega⟩
  ·split at h
   ·rename_i e
    have:=fXr e;obtain⟨rfl,rfl⟩:=h;rw[iXf];have f:=mXc (eX5 a) (fXl (eX5 a));have g:=iXu (eX5 a) (fXl (eX5 a));have i:=lX7 (eX5 a) (fXl (eX5 a));rw[gX9]at f;rw[gXw]at g;rw[iX5]at i;exact⟨c+1,by omega,by omega,fXy b (fXw b),by omega,by omega,by omega⟩
   ·split at h
    ·rename_i e
     have:=fXr e;simp at h;obtain⟨rfl,rfl⟩:=h;rw[iX2];exact⟨c+1,by omega,by omega,mXp b gXz,by rw[iXw,kXp];omega,by rw[jXc,iXj];omega,by rw[jX9];simp[nN,Ls.hs];omega⟩
    ·simp at h;obtain⟨rfl,rfl⟩:=h
     exact⟨c,l,m,b,by omega,by omega,n⟩
theorem kXz {X Y:Nat}(i:1<=X)(j:131<=Y){P:Lu->Rd}(g:Bnd X Y P):(n:Nat)->(r:Lu)->(d:D)->(t:Lu)->things P n r=some (d,t)->∃c,r.length=t.length+c/\Bd (c*(2*X)+1) (c*(2*Y+9)+3) (c+1) (eX5 d)
 | 0,_,_,_,h=>by simp[things]at h
 | n+1,r,d,t,h=>by
  rw[things]at h;split at h
  ·simp at h;obtain⟨rfl,rfl⟩:=h
   rw[fXm];exact⟨0,by omega,gXz,by rw[kXp];omega,by rw[iXj];omega,by simp[nN,Ls.hs]⟩
  ·split at h
   ·simp at h
   ·rename_i a p m
    obtain⟨e,s,u,k,v,w,x⟩:=mXz i j g m;split at h
    ·simp at h
    ·rename_i b q o
     obtain⟨f,y,l,z,A,B⟩:=kXz i j g n p b q o;simp at h;obtain⟨rfl,rfl⟩:=h;rw[hXe];have C:=mXc (eX5 a) (eX5 b);have E:=iXu (eX5 a) (eX5 b);have F:=lX7 (eX5 a) (eX5 b);have G:(e+f)*(2*X)=e*(2*X)+f*(2*X):=Nat.add_mul _ _ _;have H:(e+f)*(2*Y+9)=e*(2*Y+6)+3*e+f*(2*Y+9):=by
      rw[Nat.add_mul,show 2*Y+9=(2*Y+6)+3 from by omega,Nat.mul_add e,Nat.mul_comm e 3]
     exact⟨e+f,by omega,fXy k l,by omega,by omega,by omega⟩
theorem lXw {X Y:Nat}(j:1<=X)(k:131<=Y){P:Lu->Rd}(i:Bnd X Y P):(n:Nat)->(r:Lu)->(d:D)->(t:Lu)->alts P n r=some (d,t)->∃c,r.length=t.length+c/\Bd ((c+1)*(2*X)) ((c+1)*(2*Y+12)) (c+1) (eX5 d)
 | 0,_,_,_,h=>by simp[alts]at h
 | n+1,r,d,t,h=>by
  rw[alts]at h;split at h
  ·simp at h
  ·rename_i a G p
   obtain⟨e,l,g,v,w,m⟩:=kXz j k i _ _ _ _ p;have B:(e+1)*(2*X)=e*(2*X)+2*X:=by rw[Nat.add_mul,Nat.one_mul]
   have C:(e+1)*(2*Y+12)=e*(2*Y+9)+3*e+2*Y+12:=by
    rw[Nat.add_mul,Nat.one_mul,show 2*Y+12=(2*Y+9)+3 from by omega,Nat.mul_add e,Nat.mul_comm e 3];omega
   split at h
   ·rename_i s
    have:=fXr s;split at h
    ·simp at h
    ·rename_i b u q
     obtain⟨f,x,o,y,z,A⟩:=lXw j k i n _ b u q;simp at h;obtain⟨rfl,rfl⟩:=h;rw[hXc];have E:(e+1+f+1)*(2*X)=(e+1)*(2*X)+(f+1)*(2*X):=by rw[Nat.add_assoc,Nat.add_mul]
     have F:(e+1+f+1)*(2*Y+12)=(e+1)*(2*Y+12)+(f+1)*(2*Y+12):=by rw[Nat.add_assoc,Nat.add_mul]
     exact⟨e+1+f,by omega,mXp g o,by rw[iXw];omega,by rw[jXc];omega,by rw[jX9];omega⟩
   ·simp at h;obtain⟨rfl,rfl⟩:=h
    rw[hXd];exact⟨e,l,g,by omega,by omega,m⟩
theorem mX5:(d:Nat)->Bnd (2 ^ d) (143*2 ^ d-12) (pat d)
 | 0=>fun r e t h=>by simp[pat]at h
 | d+1=>fun r e t h=>by
  have b:1<=2 ^ d:=Nat.one_le_two_pow;have a:=lXw (X:=2 ^ d) (Y:=143*2 ^ d-12) b (by omega) (mX5 d) _ _ _ _ h;rw[show 2 ^ (d+1)=2*2 ^ d from by rw[Nat.pow_succ,Nat.mul_comm],show 143*(2*2 ^ d)-12=2*(143*2 ^ d-12)+12 from by omega];exact a
variable {c:UInt8}{l:List Pat}{y:Lu}(g:Lu)(a p b:Pat)(x s:Lu)
def hXx (L:Lu->Prop)(s:Lu):Prop:=∃ps:List (Lu),s=ps.flatten/\∀x,x∈ps->L x
def inL:Pat->Lu->Prop
 | ⟨k,g,[]⟩,s=>if k=1 then ∃c,s=[c]/\has g c=true else s=[]
 | ⟨_,_,[a]⟩,s=>hXx (inL a) s
 | ⟨k,_,[a,b]⟩,s=>if k=3 then inL a s\/inL b s else ∃u v,s=u++v/\inL a u/\inL b v
 | _,_=>False
theorem fXp:inL nN s↔s=[]:=by simp[nN,inL]
theorem gXr:inL (set g) s↔∃c,s=[c]/\has g c=true:=by simp[set,inL]
theorem hXs:inL (gX4 a b) s↔∃u v,s=u++v/\inL a u/\inL b v:=by simp[gX4,inL]
theorem gX2:inL (any a b) s↔inL a s\/inL b s:=by simp[any,inL]
theorem fXq:inL (fXl a) s↔hXx (inL a) s:=by simp[fXl,inL]
theorem lXl {p:Pat}(h:wf p)(c:p.kind=0):p=nN:=by
 refine ind (P:=fun p=>p.kind=0->p=nN) ?_ ?_ ?_ ?_ ?_ p h c
 ·intro _;rfl
 ·intro s _ h;simp[set]at h
 ·intro a b _ _ _ _ _ _ h;simp[gX4]at h
 ·intro a b _ _ _ _ h;simp[any]at h
 ·intro a _ _ h;simp[fXl]at h
theorem fXt {a b:Pat}(e:wf a)(f:wf b)(s:Lu):inL (row a b) s↔∃u v,s=u++v/\inL a u/\inL b v:=by
 unfold row;split
 ·rename_i h
  rw[lXl e h];constructor
  ·intro h;exact⟨[],s,rfl,(fXp _).2 rfl,h⟩
  ·rintro ⟨u,v,rfl,c,d⟩;subst c;exact d
 ·split
  ·rename_i h
   rw[lXl f h];constructor
   ·intro h;exact⟨s,[],by simp,h,(fXp _).2 rfl⟩
   ·rintro ⟨u,v,rfl,c,d⟩;subst d;simpa using c
  ·exact hXs a b s
theorem kX5:empty nN=true:=by simp[nN,empty]
theorem lXo:empty (set g)=false:=by simp[set,empty]
theorem kX6:empty (gX4 a b)=(empty a&&empty b):=by simp[gX4,empty]
theorem lXn:empty (any a b)=(empty a||empty b):=by simp[any,empty]
theorem kX7:empty (fXl a)=true:=by simp[fXl,empty]
theorem gXn (h:wf p):empty p=true↔inL p []:=by
 refine ind (P:=fun p=>empty p=true↔inL p []) ?_ ?_ ?_ ?_ ?_ p h
 ·simp[kX5,fXp]
 ·intro g _;simp[lXo,gXr]
 ·intro a b _ _ _ _ f i
  rw[kX6,hXs,Bool.and_eq_true,f,i];constructor
  ·rintro ⟨c,d⟩;exact⟨[],[],rfl,c,d⟩
  ·rintro ⟨u,v,e,c,d⟩
   obtain⟨rfl,rfl⟩:=List.nil_eq_append_iff.1 e;exact⟨c,d⟩
 ·intro a b _ _ f i;rw[lXn,gX2,Bool.or_eq_true,f,i]
 ·intro a _ _;rw[kX7,fXq];simp;exact⟨[],rfl,by simp⟩
theorem nXv {a b x:Lu}(f:∀c,c∈a->c≠40)(g:∀c,c∈b->c≠40)(h:a++40::x=b++40::y):a=b/\x=y:=by
 induction a generalizing b with
 | nil=>
  cases b with
  | nil=>simp at h;exact⟨rfl,h⟩
  | cons c b=>simp at h;exact absurd h.1.symm (g c (by simp))
 | cons c a i=>
  cases b with
  | nil=>simp at h;exact absurd h.1 (f c (by simp))
  | cons d b=>
   simp at h;obtain⟨rfl,h⟩:=h;obtain⟨rfl,rfl⟩:=i (fun c e=>f c (by simp[e])) (fun c e=>g c (by simp[e])) h;exact⟨rfl,rfl⟩
theorem nXq (h:48<=c.toNat):c≠40:=by rintro rfl;exact absurd h (by decide)
theorem mXl {a b x:Lu}(g:hX5 a)(f:hX5 b)(h:a++40::41::x=b++40::41::y):a=b/\x=y:=by
 rcases g with⟨c,rfl⟩|⟨g,l⟩
 ·rcases f with⟨d,rfl⟩|⟨f,i⟩
  ·simp at h;exact⟨by rw[h.1],h.2⟩
  ·cases b with
   | nil=>exact absurd rfl f
   | cons d b=>
    simp at h;obtain⟨rfl,h⟩:=h;cases b with
    | nil=>simp at h;exact⟨rfl,h⟩
    | cons e b=>simp at h;exact absurd h.1.symm (nXq (i e (by simp)).1)
 ·rcases f with⟨d,rfl⟩|⟨f,i⟩
  ·cases a with
   | nil=>exact absurd rfl g
   | cons c a=>
    simp at h;obtain⟨rfl,h⟩:=h;cases a with
    | nil=>simp at h;exact⟨rfl,h⟩
    | cons e a=>simp at h;exact absurd h.1 (nXq (l e (by simp)).1)
  ·obtain⟨m,k⟩:=nXv (fun c j=>nXq (l c j).1) (fun c j=>nXq (i c j).1) h
   simp at k;exact⟨m,k⟩
theorem hXy:key nN++x=48::40::41::x:=by simp[nN,key]
theorem iXt:key (set g)++x=49::(g++40::41::x):=by simp[set,key]
theorem hXz:key (gX4 a b)++x=50::40::(key a++(key b++41::x)):=by simp[gX4,key]
theorem iXs:key (any a b)++x=51::40::(key a++(key b++41::x)):=by simp[any,key]
theorem hX0:key (fXl a)++x=52::40::(key a++41::x):=by simp[fXl,key]
theorem iX3 {p:Pat}(h:wf p):p=nN\/(∃g,hX5 g/\p=set g)\/(∃a b,wf a/\wf b/\p=gX4 a b)\/(∃a b,wf a/\wf b/\p=any a b)\/(∃a,wf a/\p=fXl a):=by
 refine ind (P:=fun p=>p=nN\/(∃g,hX5 g/\p=set g)\/(∃a b,wf a/\wf b/\p=gX4 a b)\/(∃a b,wf a/\wf b/\p=any a b)\/(∃a,wf a/\p=fXl a)) ?_ ?_ ?_ ?_ ?_ p h
 ·exact .inl rfl
 ·intro g e;exact .inr (.inl ⟨g,e,rfl⟩)
 ·intro a b c d _ _ _ _;exact .inr (.inr (.inl ⟨a,b,c,d,rfl⟩))
 ·intro a b c d _ _;exact .inr (.inr (.inr (.inl ⟨a,b,c,d,rfl⟩)))
 ·intro a c _;exact .inr (.inr (.inr (.inr ⟨a,c,rfl⟩)))
theorem lXp (u:wf p):∀q,wf q->∀x y,key p++x=key q++y->p=q/\x=y:=by
 refine ind (P:=fun p=>∀q,wf q->∀x y,key p++x=key q++y->p=q/\x=y) ?_ ?_ ?_ ?_ ?_ p u
 ·intro q e x y h
  rcases iX3 e with rfl|⟨g,t,rfl⟩|⟨a,b,f,n,rfl⟩|⟨a,b,f,n,rfl⟩|⟨a,f,rfl⟩<;>simp only[hXy,iXt,hXz,iXs,hX0,List.cons.injEq]at h
  ·exact⟨rfl,h.2.2.2⟩
  all_goals exact absurd h.1 (by decide)
 ·intro g t q e x y h
  rcases iX3 e with rfl|⟨r,o,rfl⟩|⟨a,b,f,n,rfl⟩|⟨a,b,f,n,rfl⟩|⟨a,f,rfl⟩<;>simp only[hXy,iXt,hXz,iXs,hX0,List.cons.injEq]at h
  ·exact absurd h.1 (by decide)
  ·obtain⟨rfl,rfl⟩:=mXl t o h.2
   exact⟨rfl,rfl⟩
  all_goals exact absurd h.1 (by decide)
 ·intro a b f n _ _ m s q e x y h
  rcases iX3 e with rfl|⟨r,o,rfl⟩|⟨c,i,d,j,rfl⟩|⟨c,i,d,j,rfl⟩|⟨c,d,rfl⟩<;>simp only[hXy,iXt,hXz,iXs,hX0,List.cons.injEq]at h
  ·exact absurd h.1 (by decide)
  ·exact absurd h.1 (by decide)
  ·obtain⟨rfl,k⟩:=m c d _ _ h.2.2
   obtain⟨rfl,l⟩:=s i j _ _ k;simp at l;exact⟨rfl,l⟩
  all_goals exact absurd h.1 (by decide)
 ·intro a b f n m s q e x y h
  rcases iX3 e with rfl|⟨r,o,rfl⟩|⟨c,i,d,j,rfl⟩|⟨c,i,d,j,rfl⟩|⟨c,d,rfl⟩<;>simp only[hXy,iXt,hXz,iXs,hX0,List.cons.injEq]at h
  ·exact absurd h.1 (by decide)
  ·exact absurd h.1 (by decide)
  ·exact absurd h.1 (by decide)
  ·obtain⟨rfl,k⟩:=m c d _ _ h.2.2
   obtain⟨rfl,l⟩:=s i j _ _ k;simp at l;exact⟨rfl,l⟩
  ·exact absurd h.1 (by decide)
 ·intro a f m q e x y h
  rcases iX3 e with rfl|⟨r,o,rfl⟩|⟨c,i,d,j,rfl⟩|⟨c,i,d,j,rfl⟩|⟨c,d,rfl⟩<;>simp only[hXy,iXt,hXz,iXs,hX0,List.cons.injEq]at h
  ·exact absurd h.1 (by decide)
  ·exact absurd h.1 (by decide)
  ·exact absurd h.1 (by decide)
  ·exact absurd h.1 (by decide)
  ·obtain⟨rfl,k⟩:=m c d _ _ h.2.2
   simp at k;exact⟨rfl,k⟩
theorem lX8 {p q:Pat}(a:wf p)(b:wf q)(h:key p=key q):p=q:=(lXp p a q b [] [] (by simpa using h)).1
theorem mXf {x:Pat}(c:∀y,y∈l->wf y)(d:wf x):∀q,q∈put l x↔q∈l\/q=x:=by
 intro q;unfold put;split
 ·rename_i h
  constructor
  ·exact .inl
  ·rintro (b|rfl)
   ·exact b
   ·rw[List.any_eq_true]at h
    obtain⟨y,a,e⟩:=h;rw[<-lX8 (c y a) d (by simpa using e)];exact a
 ·simp
theorem nXm {x:Pat}(a:∀y,y∈l->wf y)(b:wf x):∀q,q∈put l x->wf q:=fun q c=>by
 rcases (mXf a b q).1 c with h|rfl
 ·exact a q h
 ·exact b
theorem gXi {m:List Pat}(a:∀y,y∈l->wf y)(b:∀y,y∈m->wf y):∀q,q∈fXh l m↔q∈l\/q∈m:=by
 induction m generalizing l with
 | nil=>intro q;simp[fXh]
 | cons x m e=>
  intro q;have c:=b x (by simp);show q∈fXh (put l x) m↔_;rw[e (nXm a c) (fun y d=>b y (by simp[d])),mXf a c];simp[or_assoc]
theorem gXy {L:Lu->Prop}{s:Lu}:hXx L (c::s)↔∃u v,s=u++v/\L (c::u)/\hXx L v:=by
 constructor
 ·rintro ⟨b,e,h⟩
  induction b with
  | nil=>simp at e
  | cons p b i=>
   cases p with
   | nil=>simp at e;exact i (by simpa using e) (fun x a=>h x (by simp[a]))
   | cons d p=>
    simp at e;obtain⟨rfl,e⟩:=e;exact⟨p,b.flatten,e,h _ (by simp),b,rfl,fun x a=>h x (by simp[a])⟩
 ·rintro ⟨u,v,rfl,f,b,rfl,g⟩
  refine⟨(c::u)::b,by simp,fun x a=>?_⟩;rcases List.mem_cons.1 a with rfl|a
  ·exact f
  ·exact g x a
theorem hX6 (H:wf p)(c:UInt8):∀s,inL p (c::s)↔∃q,q∈behind p c/\inL q s:=by
 refine ind (P:=fun p=>∀s,inL p (c::s)↔∃q,q∈behind p c/\inL q s) ?_ ?_ ?_ ?_ ?_ p H
 ·intro s;simp[fXp,behind_none]
 ·intro g _ s
  rw[gXr,behind_set];constructor
  ·rintro ⟨d,e,h⟩
   simp at e;obtain⟨rfl,rfl⟩:=e;exact⟨nN,by simp[h],(fXp _).2 rfl⟩
  ·rintro ⟨q,f,h⟩
   split at f
   ·rename_i F
    simp at f;subst f;subst h;exact⟨c,rfl,F⟩
   ·simp at f
 ·intro a b l t K L r A s
  have E:∀y,y∈(behind a c).map (fun x=>row x b)->wf y:=fun y m=>by
   obtain⟨z,k,rfl⟩:=List.mem_map.1 m;exact fXy (fX2 a c l z k).1 t
  have B:∀y,y∈behind b c->wf y:=fun y m=>(fX2 b c t y m).1;have n:∀q,q∈fXh [] ((behind a c).map (fun x=>row x b))↔q∈(behind a c).map (fun x=>row x b):=fun q=>by
   rw[gXi (by simp) E];simp
  have J:(∃u v,s=u++v/\inL a (c::u)/\inL b v)↔∃q,q∈(behind a c).map (fun x=>row x b)/\inL q s:=by
   constructor
   ·rintro ⟨u,v,rfl,i,j⟩
    obtain⟨z,k,o⟩:=(r u).1 i;exact⟨row z b,List.mem_map.2 ⟨z,k,rfl⟩,(fXt (fX2 a c l z k).1 t _).2 ⟨u,v,rfl,o,j⟩⟩
   ·rintro ⟨q,f,h⟩
    obtain⟨z,k,rfl⟩:=List.mem_map.1 f;obtain⟨u,v,rfl,i,j⟩:=(fXt (fX2 a c l z k).1 t _).1 h;exact⟨u,v,rfl,(r u).2 ⟨z,k,i⟩,j⟩
  have I:inL (gX4 a b) (c::s)↔(∃u v,s=u++v/\inL a (c::u)/\inL b v)\/(inL a []/\inL b (c::s)):=by
   rw[hXs];constructor
   ·rintro ⟨u,v,e,i,j⟩
    cases u with
    | nil=>simp at e;subst e;exact .inr ⟨i,j⟩
    | cons d u=>simp at e;obtain⟨rfl,rfl⟩:=e;exact .inl ⟨u,v,rfl,i,j⟩
   ·rintro (⟨u,v,rfl,i,j⟩|⟨i,j⟩)
    ·exact⟨c::u,v,rfl,i,j⟩
    ·exact⟨[],c::s,rfl,i,j⟩
  rw[I,J,behind_rowB,<-gXn a l];split
  ·rename_i w
   simp only[w,true_and,A s];have C:∀y,y∈fXh [] ((behind a c).map (fun x=>row x b))->wf y:=fun y m=>E y ((n y).1 m);constructor
   ·rintro (⟨q,f,h⟩|⟨q,f,h⟩)
    ·exact⟨q,(gXi C B q).2 (.inl ((n q).2 f)),h⟩
    ·exact⟨q,(gXi C B q).2 (.inr f),h⟩
   ·rintro ⟨q,f,h⟩
    rcases (gXi C B q).1 f with i|i
    ·exact .inl ⟨q,(n q).1 i,h⟩
    ·exact .inr ⟨q,i,h⟩
  ·rename_i w
   simp only[w,Bool.false_eq_true,false_and,or_false];constructor
   ·rintro ⟨q,f,h⟩;exact⟨q,(n q).2 f,h⟩
   ·rintro ⟨q,f,h⟩;exact⟨q,(n q).1 f,h⟩
 ·intro a b l t r A s
  rw[gX2,behind_any,r s,A s];have i:∀y,y∈behind a c->wf y:=fun y m=>(fX2 a c l y m).1;have j:∀y,y∈behind b c->wf y:=fun y m=>(fX2 b c t y m).1;constructor
  ·rintro (⟨q,f,h⟩|⟨q,f,h⟩)
   ·exact⟨q,(gXi i j q).2 (.inl f),h⟩
   ·exact⟨q,(gXi i j q).2 (.inr f),h⟩
  ·rintro ⟨q,f,h⟩
   rcases (gXi i j q).1 f with o|o
   ·exact .inl ⟨q,o,h⟩
   ·exact .inr ⟨q,o,h⟩
 ·intro a l r s
  have G:∀y,y∈(behind a c).map (fun x=>row x (fXl a))->wf y:=fun y m=>by
   obtain⟨z,k,rfl⟩:=List.mem_map.1 m;exact fXy (fX2 a c l z k).1 (fXw l)
  have n:∀q,q∈fXh [] ((behind a c).map (fun x=>row x (fXl a)))↔q∈(behind a c).map (fun x=>row x (fXl a)):=fun q=>by
   rw[gXi (by simp) G];simp
  rw[fXq,behind_star,gXy];constructor
  ·rintro ⟨u,v,rfl,i,j⟩
   obtain⟨z,k,o⟩:=(r u).1 i;exact⟨row z (fXl a),(n _).2 (List.mem_map.2 ⟨z,k,rfl⟩),(fXt (fX2 a c l z k).1 (fXw l) _).2 ⟨u,v,rfl,o,(fXq _ _).2 j⟩⟩
  ·rintro ⟨q,f,h⟩
   obtain⟨z,k,rfl⟩:=List.mem_map.1 ((n q).1 f);obtain⟨u,v,rfl,i,j⟩:=(fXt (fX2 a c l z k).1 (fXw l) _).1 h;exact⟨u,v,rfl,(r u).2 ⟨z,k,i⟩,(fXq _ _).1 j⟩
theorem mXy (d:∀y,y∈l->wf y)(c:UInt8):(∀q,q∈step l c->wf q)/\∀q,q∈step l c↔∃p,p∈l/\q∈behind p c:=by
 have:∀(l m:List Pat),(∀y,y∈l->wf y)->(∀y,y∈m->wf y)->(∀q,q∈l.foldl (fun n p=>fXh n (behind p c)) m->wf q)/\∀q,q∈l.foldl (fun n p=>fXh n (behind p c)) m↔q∈m\/∃p,p∈l/\q∈behind p c:=by
  intro l;induction l with
  | nil=>intro m _ a;exact⟨a,fun q=>by simp⟩
  | cons p l k=>
   intro m d a;have i:=d p (by simp);have g:∀y,y∈behind p c->wf y:=fun y b=>(fX2 p c i y b).1;have j:∀y,y∈fXh m (behind p c)->wf y:=fun y b=>by
    rcases (gXi a g y).1 b with h|h
    ·exact a y h
    ·exact g y h
   obtain⟨e,f⟩:=k (fXh m (behind p c)) (fun y b=>d y (by simp[b])) j;refine⟨e,fun q=>?_⟩;rw[List.foldl_cons,f,gXi a g];simp[or_assoc]
 obtain⟨e,f⟩:=this l [] d (by simp);exact⟨e,fun q=>by have:=f q;simpa [step] using this⟩
theorem gXb (b:wf p)(s:Lu):is p s=true↔inL p s:=by
 have:∀(s:Lu) (l:List Pat),(∀y,y∈l->wf y)->((s.foldl step l).any empty=true↔∃q,q∈l/\inL q s):=by
  intro s;induction s with
  | nil=>
   intro l d;rw[List.foldl_nil,List.any_eq_true];constructor
   ·rintro ⟨q,a,h⟩;exact⟨q,a,(gXn q (d q a)).1 h⟩
   ·rintro ⟨q,a,h⟩;exact⟨q,a,(gXn q (d q a)).2 h⟩
  | cons c s j=>
   intro l d;obtain⟨f,e⟩:=mXy d c;rw[List.foldl_cons,j _ f];constructor
   ·rintro ⟨q,a,h⟩
    obtain⟨p,b,i⟩:=(e q).1 a;exact⟨p,b,(hX6 p (d p b) c s).2 ⟨q,i,h⟩⟩
   ·rintro ⟨p,b,h⟩
    obtain⟨q,a,g⟩:=(hX6 p (d p b) c s).1 h;exact⟨q,(e q).2 ⟨p,b,a⟩,g⟩
 have h:=this s [p] (by simpa using b);simpa [is] using h
variable {L u v:Lu}{i k:Nat}{p q:Pat}{ss sts ts:List Pat}(a:Pat)(f:UInt8->UInt8)(b:Pat)
def gX1:Pat->List (Lu)
 | ⟨k,s,[]⟩=>if k=1 then [s] else []
 | ⟨_,_,[a]⟩=>gX1 a
 | ⟨_,_,[a,b]⟩=>gX1 a++gX1 b
 | _=>[]
theorem sets_none:gX1 nN=[]:=by simp[nN,gX1]
theorem sets_set (g:Lu):gX1 (set g)=[g]:=by simp[set,gX1]
theorem gXt:gX1 (gX4 a b)=gX1 a++gX1 b:=by simp[gX4,gX1]
theorem hXv:gX1 (any a b)=gX1 a++gX1 b:=by simp[any,gX1]
theorem sets_star (a:Pat):gX1 (fXl a)=gX1 a:=by simp[fXl,gX1]
def fXx (p:Pat):Prop:=∀g,g∈gX1 p->∀c,has g c=true->gXu c=true
theorem lXs {L:Lu->Prop}(h:∀x,L x->L (x.map f)){s:Lu}(hs:hXx L s):hXx L (s.map f):=by
 obtain⟨d,rfl,a⟩:=hs;refine⟨d.map (fun x=>x.map f),by rw[List.map_flatten],?_⟩;intro x b;obtain⟨y,c,rfl⟩:=List.mem_map.1 b;exact h y (a y c)
theorem kXm (p:Pat)(l:wf p):(∀g,g∈gX1 p->∀c,has g c=true->has g (f c)=true)->∀u,inL p u->inL p (u.map f):=by
 refine ind (P:=fun p=>(∀g,g∈gX1 p->∀c,has g c=true->has g (f c)=true)->∀u,inL p u->inL p (u.map f)) ?_ ?_ ?_ ?_ ?_ p l
 ·intro _ u h;subst h;rfl
 ·intro g _ d u h
  rw[gXr]at h ⊢;obtain⟨c,rfl,k⟩:=h;exact⟨f c,rfl,d g (by simp[sets_set]) c k⟩
 ·intro a b _ _ _ _ i j d u h
  rw[hXs]at h ⊢;obtain⟨x,y,rfl,m,n⟩:=h;rw[gXt]at d;exact⟨x.map f,y.map f,by simp,i (fun g e=>d g (by simp[e])) x m,j (fun g e=>d g (by simp[e])) y n⟩
 ·intro a b _ _ i j d u h
  rw[gX2]at h ⊢;rw[hXv]at d;rcases h with h|h
  ·exact .inl (i (fun g e=>d g (by simp[e])) u h)
  ·exact .inr (j (fun g e=>d g (by simp[e])) u h)
 ·intro a _ i d u h
  rw[fXq]at h ⊢;exact lXs f (i d) h
theorem jXn (p:Pat)(n:wf p):fXx p->∀u,inL p u->∀c,c∈u->gXu c=true:=by
 refine ind (P:=fun p=>fXx p->∀u,inL p u->∀c,c∈u->gXu c=true) ?_ ?_ ?_ ?_ ?_ p n
 ·intro _ u h;subst h;simp
 ·intro g _ e u h
  rw[gXr]at h;obtain⟨c,rfl,f⟩:=h;intro d m;simp only[List.mem_singleton]at m;subst m;exact e g (by simp[sets_set]) d f
 ·intro a b _ _ _ _ j l e u h
  unfold fXx at e;rw[gXt]at e;obtain⟨x,y,rfl,k,q⟩:=h;intro c f;rw[List.mem_append]at f;rcases f with f|f
  ·exact j (fun g i=>e g (by simp[i])) x k c f
  ·exact l (fun g i=>e g (by simp[i])) y q c f
 ·intro a b _ _ j l e u h
  unfold fXx at e;rw[hXv]at e;rcases h with h|h
  ·exact j (fun g i=>e g (by simp[i])) u h
  ·exact l (fun g i=>e g (by simp[i])) u h
 ·intro a _ j e u h
  unfold fXx at e;rw[sets_star]at e;obtain⟨r,rfl,o⟩:=h;intro c f;rw[List.mem_flatten]at f;obtain⟨x,k,f⟩:=f;exact j e x (o x k) c f
def iXh (p q:Pat)(L:Lu):Prop:=∀c,gXu c=true->∃d,d∈L/\∀g,g∈gX1 p++gX1 q->has g d=has g c
def jX2 (p q:Pat):Prop:=∃u,inL p u/\inL q u
def fXb (p q:Pat):Prop:=∃u w v,w≠[]/\inL p u/\inL p (u++w)/\inL q (w++v)/\inL q v
def Of (L:Lu)(u:Lu):Prop:=∀c,c∈u->c∈L
theorem turn (h:iXh p q L):∃f:UInt8->UInt8,(∀c,gXu c=true->f c∈L)/\(∀g,g∈gX1 p++gX1 q->∀c,gXu c=true->has g (f c)=has g c):=by
 have:∀c,∃d,gXu c=true->d∈L/\∀g,g∈gX1 p++gX1 q->has g d=has g c:=fun c=>by
  cases a:gXu c with
  | false=>exact⟨c,by simp⟩
  | true=>obtain⟨d,b⟩:=h c a;exact⟨d,fun _=>b⟩
 exact⟨fun c=>Classical.choose (this c),fun c a=>(Classical.choose_spec (this c) a).1,fun g e c a=>(Classical.choose_spec (this c) a).2 g e⟩
theorem mX9 (j:wf p)(n:wf q)(sp:fXx p)(o:fXx q)(h:iXh p q L):jX2 p q↔∃u,Of L u/\inL p u/\inL q u:=by
 constructor
 ·rintro ⟨u,e,k⟩
  obtain⟨f,m,i⟩:=turn h;refine⟨u.map f,?_,kXm f p j (fun g b c a=>by rw[i g (by simp[b]) c (sp g b c a)];exact a) u e,kXm f q n (fun g b c a=>by rw[i g (by simp[b]) c (o g b c a)];exact a) u k⟩;intro c a;obtain⟨d,l,rfl⟩:=List.mem_map.1 a;exact m d (jXn p j sp u e d l)
 ·rintro ⟨u,_,h⟩;exact⟨u,h⟩
theorem mX1 (l:wf p)(m:wf q)(sp:fXx p)(r:fXx q)(h:iXh p q L):fXb p q↔∃u w v,(Of L u/\Of L w/\Of L v)/\w≠[]/\inL p u/\inL p (u++w)/\inL q (w++v)/\inL q v:=by
 constructor
 ·rintro ⟨u,w,v,A,s,i,t,j⟩
  obtain⟨f,z,k⟩:=turn h;have n:=kXm f p l (fun g b c a=>by rw[k g (by simp[b]) c (sp g b c a)];exact a);have o:=kXm f q m (fun g b c a=>by rw[k g (by simp[b]) c (r g b c a)];exact a);have s1:=jXn p l sp _ i;have s2:=jXn q m r _ j;have e:∀x:Lu,(∀c,c∈x->gXu c=true)->Of L (x.map f):=fun x B c a=>by
   obtain⟨d,y,rfl⟩:=List.mem_map.1 a;exact z d (B d y)
  refine⟨u.map f,w.map f,v.map f,⟨e u (fun c a=>s1 c (by simp[a])),e w (fun c a=>s1 c (by simp[a])),e v s2⟩,by simpa using A,n u s,?_,?_,o v j⟩
  ·rw[<-List.map_append];exact n _ i
  ·rw[<-List.map_append];exact o _ t
 ·rintro ⟨u,w,v,_,h⟩;exact⟨u,w,v,h⟩
structure Tab where
 to:List (List (List Nat))
 ends:List Bool
def Tab.go (t:Tab)(i k j:Nat):Prop:=∃r l,t.to[i]?=some r/\r[k]?=some l/\j∈l
structure TabOf (p:Pat)(L:Lu)(t:Tab)(sts:List Pat):Prop where
 first:sts[0]?=some p
 wfs:∀q,q∈sts->wf q
 lenT:t.to.length=sts.length
 lenE:t.ends.length=sts.length
 ends:∀(i:Nat) (q:Pat),sts[i]?=some q->t.ends[i]?=some (empty q)
 row:∀(i:Nat) (q:Pat),sts[i]?=some q->∃r,t.to[i]?=some r/\r.length=L.length/\∀(k:Nat) (c:UInt8),L[k]?=some c->∃l:List Nat,r[k]?=some l/\l.map (fun j=>sts[j]?)=(behind q c).map some
theorem TabOf.fwd {t:Tab}(h:TabOf p L t sts){j:Nat}(u:sts[i]?=some q)(w:k<L.length)(v:t.go i k j):∃a,sts[j]?=some a/\a∈behind q L[k]:=by
 obtain⟨r,l,b,e,f⟩:=v;obtain⟨y,g,_,m⟩:=h.row i q u;obtain rfl:r=y:=Option.some.inj (b.symm.trans g);obtain⟨x,n,o⟩:=m k L[k] (by simp[w]);obtain rfl:l=x:=Option.some.inj (e.symm.trans n);have s:sts[j]?∈(behind q L[k]).map some:=by rw[<-o];exact List.mem_map.2 ⟨j,f,rfl⟩
 obtain⟨a,c,d⟩:=List.mem_map.1 s;exact⟨a,d.symm,c⟩
theorem TabOf.bwd {t:Tab}(h:TabOf p L t sts){a:Pat}(n:sts[i]?=some q)(o:k<L.length)(r:a∈behind q L[k]):∃j,t.go i k j/\sts[j]?=some a:=by
 obtain⟨s,e,_,f⟩:=h.row i q n;obtain⟨b,g,l⟩:=f k L[k] (by simp[o]);have m:some a∈b.map (fun j=>sts[j]?):=by rw[l];exact List.mem_map.2 ⟨a,r,rfl⟩
 obtain⟨j,c,d⟩:=List.mem_map.1 m;exact⟨j,⟨s,b,e,g,c⟩,d⟩
theorem TabOf.nil {t:Tab}(h:TabOf p L t sts)(a:sts[i]?=some q):t.ends[i]?=some true↔inL q []:=by
 rw[h.ends i q a,<-gXn q (h.wfs q (List.mem_of_getElem? a))];simp
theorem TabOf.cons {t:Tab}(h:TabOf p L t sts)(f:sts[i]?=some q)(g:k<L.length)(s:Lu):inL q (L[k]::s)↔∃j a,t.go i k j/\sts[j]?=some a/\inL a s:=by
 rw[hX6 q (h.wfs q (List.mem_of_getElem? f))];constructor
 ·rintro ⟨a,c,d⟩
  obtain⟨j,e,b⟩:=h.bwd f g c;exact⟨j,a,e,b,d⟩
 ·rintro ⟨j,a,c,d,e⟩
  obtain⟨m,b,l⟩:=h.fwd f g c;rw[d]at b;cases b;exact⟨a,l,e⟩
theorem jXr {c:UInt8}(h:Of L (c::u)):(∃k,∃b:k<L.length,L[k]=c)/\Of L u:=
 ⟨List.getElem_of_mem (h c (by simp)),fun d a=>h d (by simp[a])⟩
theorem jXk (b:k<L.length)(h:Of L u):Of L (L[k]::u):=by
 intro c a;simp only[List.mem_cons]at a;rcases a with rfl|a
 ·exact List.getElem_mem b
 ·exact h c a
abbrev Pr:=Nat × Nat × Nat
def Hit (E:Pr->Pr->Prop)(A:Pr->Prop):Nat->Pr->Prop
 | 0,a=>A a
 | n+1,a=>∃b,E a b/\Hit E A n b
theorem mXs {E:Pr->Pr->Prop}{A:Pr->Prop}{l:List Pr}(e:∀a,a∈l->∀b,E a b->b∈l)(f:∀a,a∈l->¬A a):∀n a,a∈l->¬Hit E A n a:=by
 intro n;induction n with
 | zero=>intro a c h;exact f a c h
 | succ n g=>rintro a c ⟨b,d,h⟩;exact g b (e a c b d) h
def nXr (E:Pr->Pr->Prop)(A:Pr->Prop)(l:List Pr):Prop:=∀a,a∈l->(∃n,Hit E A n a)->∃n,Hit E A n (0,0,0)
def jXe (S T:Tab)(n:Nat)(a b:Pr):Prop:=b.1=0/\∃k,k<n/\S.go a.2.1 k b.2.1/\T.go a.2.2 k b.2.2
def lXv (S T:Tab)(a:Pr):Prop:=S.ends[a.2.1]?=some true/\T.ends[a.2.2]?=some true
def jX3 (S T:Tab)(ph:Nat):Tab:=if ph=2 then T else S
def jX4 (S T:Tab)(ph:Nat):Tab:=if ph=0 then S else T
def hXr (S T:Tab)(n:Nat)(a b:Pr):Prop:=
 (b.1=a.1/\∃k,k<n/\(jX3 S T a.1).go a.2.1 k b.2.1/\(jX4 S T a.1).go a.2.2 k b.2.2)\/
 (a.1=0/\S.ends[a.2.1]?=some true/\b.1=1/\∃k,k<n/\S.go a.2.2 k b.2.1/\T.go 0 k b.2.2)\/
 (a.1=1/\S.ends[a.2.1]?=some true/\b=(2,a.2.2,0))
def kXr (T:Tab)(a:Pr):Prop:=a.1=2/\T.ends[a.2.1]?=some true/\T.ends[a.2.2]?=some true
theorem lX6 {S T:Tab}(h:TabOf p L S ss)(i:TabOf q L T ts):∀n x y a b,ss[x]?=some a->ts[y]?=some b->Hit (jXe S T L.length) (lXv S T) n (0,x,y)->∃u,Of L u/\inL a u/\inL b u:=by
 intro n;induction n with
 | zero=>
  rintro x y a b f g ⟨d,e⟩;exact⟨[],by simp[Of],(h.nil f).1 d,(i.nil g).1 e⟩
 | succ n B=>
  rintro x y a b f g ⟨⟨C,r,s⟩,⟨t,k,c,d,e⟩,v⟩;obtain rfl:C=0:=t;obtain⟨j,m,_⟩:=h.fwd f c d;obtain⟨l,o,_⟩:=i.fwd g c e;obtain⟨u,A,w,z⟩:=B r s j l m o v;exact⟨L[k]::u,jXk c A,(h.cons f c u).2 ⟨r,j,d,m,w⟩,(i.cons g c u).2 ⟨s,l,e,o,z⟩⟩
theorem mXo {S T:Tab}(i:TabOf p L S ss)(j:TabOf q L T ts):∀u,Of L u->∀x y a b,ss[x]?=some a->ts[y]?=some b->inL a u->inL b u->∃n,Hit (jXe S T L.length) (lXv S T) n (0,x,y):=by
 intro u;induction u with
 | nil=>intro _ x y a b g h d e;exact⟨0,(i.nil g).2 d,(j.nil h).2 e⟩
 | cons c u F=>
  intro C x y a b g h d e;obtain⟨⟨k,f,rfl⟩,E⟩:=jXr C;obtain⟨l,o,s,t,v⟩:=(i.cons g f u).1 d;obtain⟨m,r,w,z,A⟩:=(j.cons h f u).1 e;obtain⟨n,B⟩:=F E l m o r t z v A;exact⟨n+1,(0,l,m),⟨rfl,k,f,s,w⟩,B⟩
theorem nXu {S T:Tab}(e:TabOf q L T ts):∀n x y a b,ts[x]?=some a->ts[y]?=some b->Hit (hXr S T L.length) (kXr T) n (2,x,y)->∃v,Of L v/\inL a v/\inL b v:=by
 intro n;induction n with
 | zero=>
  rintro x y a b h i ⟨_,c,d⟩;exact⟨[],by simp[Of],(e.nil h).1 c,(e.nil i).1 d⟩
 | succ n B=>
  rintro x y a b h i ⟨⟨C,j,l⟩,z,s⟩;rcases z with⟨f,k,g,c,d⟩|⟨f,_⟩|⟨f,_⟩
  ·obtain rfl:C=2:=f
   have c:=c;have d:=d;obtain⟨m,p,_⟩:=e.fwd h g c;obtain⟨o,r,_⟩:=e.fwd i g d;obtain⟨u,A,t,w⟩:=B j l m o p r s;exact⟨L[k]::u,jXk g A,(e.cons h g u).2 ⟨j,m,c,p,t⟩,(e.cons i g u).2 ⟨l,o,d,r,w⟩⟩
  ·cases f
  ·cases f
theorem nXt {S T:Tab}(m:TabOf p L S ss)(h:TabOf q L T ts):∀n x y a b,ss[x]?=some a->ts[y]?=some b->Hit (hXr S T L.length) (kXr T) n (1,x,y)->∃w v,(Of L w/\Of L v)/\inL a w/\inL b (w++v)/\inL q v:=by
 intro n;induction n with
 | zero=>
  rintro x y a b i j ⟨c,_⟩;cases c
 | succ n G=>
  rintro x y a b i j ⟨⟨H,o,r⟩,E,u⟩;rcases E with⟨l,k,e,c,d⟩|⟨l,_⟩|⟨_,c,d⟩
  ·obtain rfl:H=1:=l
   have c:=c;have d:=d;obtain⟨s,f,_⟩:=m.fwd i e c;obtain⟨t,g,_⟩:=h.fwd j e d;obtain⟨w,v,z,A,B,C⟩:=G o r s t f g u;exact⟨L[k]::w,v,⟨jXk e z.1,z.2⟩,(m.cons i e w).2 ⟨o,s,c,f,A⟩,(h.cons j e (w++v)).2 ⟨r,t,d,g,B⟩,C⟩
  ·cases l
  ·cases d
   obtain⟨v,F,f,g⟩:=nXu h n y 0 b q j h.first u;exact⟨[],v,⟨by simp[Of],F⟩,(m.nil i).1 c,f,g⟩
theorem nXs {S T:Tab}(f:TabOf p L S ss)(r:TabOf q L T ts):∀n x y a b,ss[x]?=some a->ss[y]?=some b->Hit (hXr S T L.length) (kXr T) n (0,x,y)->∃u w v,(Of L u/\Of L w/\Of L v)/\w≠[]/\inL a u/\inL b (u++w)/\inL q (w++v)/\inL q v:=by
 intro n;induction n with
 | zero=>
  rintro x y a b A t ⟨e,_⟩;cases e
 | succ n J=>
  rintro x y a b A t ⟨⟨F,h,i⟩,H,E⟩;rcases H with⟨m,k,c,e,d⟩|⟨_,e,m,k,c,d,g⟩|⟨m,_⟩
  ·obtain rfl:F=0:=m
   have e:=e;have d:=d;obtain⟨j,g,_⟩:=f.fwd A c e;obtain⟨l,o,_⟩:=f.fwd t c d;obtain⟨u,w,v,s,I,z,B,C⟩:=J h i j l g o E;exact⟨L[k]::u,w,v,⟨jXk c s.1,s.2⟩,I,(f.cons A c u).2 ⟨h,j,e,g,z⟩,(f.cons t c (u++w)).2 ⟨i,l,d,o,B⟩,C⟩
  ·obtain rfl:F=1:=m
   have d:=d;have g:=g;obtain⟨j,o,_⟩:=f.fwd t c d;obtain⟨l,z,_⟩:=r.fwd r.first c g;obtain⟨w,v,s,B,C,G⟩:=nXt f r n h i j l o z E;exact⟨[],L[k]::w,v,⟨by simp[Of],jXk c s.1,s.2⟩,by simp,(f.nil A).1 e,(f.cons t c w).2 ⟨h,j,d,o,B⟩,(r.cons r.first c (w++v)).2 ⟨i,l,g,z,C⟩,G⟩
  ·cases m
theorem nXp {S T:Tab}(d:TabOf q L T ts):∀v,Of L v->∀x y a b,ts[x]?=some a->ts[y]?=some b->inL a v->inL b v->∃n,Hit (hXr S T L.length) (kXr T) n (2,x,y):=by
 intro u;induction u with
 | nil=>intro _ x y a b h i e f;exact⟨0,rfl,(d.nil h).2 e,(d.nil i).2 f⟩
 | cons c u E=>
  intro B x y a b h i e f;obtain⟨⟨k,g,rfl⟩,C⟩:=jXr B;obtain⟨j,m,p,r,s⟩:=(d.cons h g u).1 e;obtain⟨l,o,t,w,z⟩:=(d.cons i g u).1 f;obtain⟨n,A⟩:=E C j l m o r w s z;exact⟨n+1,(2,j,l),.inl ⟨rfl,k,g,p,t⟩,A⟩
theorem nXo {S T:Tab}(l:TabOf p L S ss)(f:TabOf q L T ts)(I:Of L v)(F:inL q v):∀w,Of L w->∀x y a b,ss[x]?=some a->ts[y]?=some b->inL a w->inL b (w++v)->∃n,Hit (hXr S T L.length) (kXr T) n (1,x,y):=by
 intro u;induction u with
 | nil=>
  intro _ x y a b i j d e;obtain⟨n,h⟩:=nXp f v I y 0 b q j f.first e F;exact⟨n+1,(2,y,0),.inr (.inr ⟨rfl,(l.nil i).2 d,rfl⟩),h⟩
 | cons c u J=>
  intro G x y a b i j d e;obtain⟨⟨k,g,rfl⟩,H⟩:=jXr G;obtain⟨m,r,t,z,A⟩:=(l.cons i g u).1 d;obtain⟨o,s,B,C,E⟩:=(f.cons j g (u++v)).1 e;obtain⟨n,h⟩:=J H m o r s z C A E;exact⟨n+1,(1,m,o),.inl ⟨rfl,k,g,t,B⟩,h⟩
theorem nXn {S T:Tab}(e:TabOf p L S ss)(A:TabOf q L T ts){w:Lu}(M:Of L w)(K:Of L v)(H:w≠[])(F:inL q (w++v))(G:inL q v):∀u,Of L u->∀x y a b,ss[x]?=some a->ss[y]?=some b->inL a u->inL b (u++w)->∃n,Hit (hXr S T L.length) (kXr T) n (0,x,y):=by
 intro u;induction u with
 | nil=>
  intro _ x y a b C E j m;cases w with
  | nil=>exact absurd rfl H
  | cons c w=>
   obtain⟨⟨k,d,rfl⟩,N⟩:=jXr M;obtain⟨f,h,o,r,s⟩:=(e.cons E d w).1 m;obtain⟨g,i,t,z,l⟩:=(A.cons A.first d (w++v)).1 F;obtain⟨n,B⟩:=nXo e A K G w N f g h i r z s l;exact⟨n+1,(1,f,g),.inr (.inl ⟨rfl,(e.nil C).2 j,rfl,k,d,o,t⟩),B⟩
 | cons c u O=>
  intro I x y a b C E j m;obtain⟨⟨k,d,rfl⟩,J⟩:=jXr I;obtain⟨f,h,o,r,s⟩:=(e.cons C d u).1 j;obtain⟨g,i,t,z,l⟩:=(e.cons E d (u++w)).1 m;obtain⟨n,B⟩:=O J f g h i r z s l;exact⟨n+1,(0,f,g),.inl ⟨rfl,k,d,o,t⟩,B⟩
theorem lXz (g:wf p)(h:wf q)(sp:fXx p)(j:fXx q)(e:iXh p q L){S T:Tab}(a:TabOf p L S ss)(b:TabOf q L T ts):(∃n,Hit (jXe S T L.length) (lXv S T) n (0,0,0))↔jX2 p q:=by
 rw[mX9 g h sp j e];constructor
 ·rintro ⟨n,f⟩;exact lX6 a b n 0 0 p q a.first b.first f
 ·rintro ⟨u,i,c,d⟩;exact mXo a b u i 0 0 p q a.first b.first c d
theorem mXu (j:wf p)(k:wf q)(sp:fXx p)(r:fXx q)(g:iXh p q L){S T:Tab}(a:TabOf p L S ss)(b:TabOf q L T ts):(∃n,Hit (hXr S T L.length) (kXr T) n (0,0,0))↔fXb p q:=by
 rw[mX1 j k sp r g];constructor
 ·rintro ⟨n,h⟩;exact nXs a b n 0 0 p p a.first a.first h
 ·rintro ⟨u,w,v,⟨l,o,m⟩,i,c,d,e,f⟩;exact nXn a b o m i e f u l 0 0 p p a.first a.first c d
variable {P:Lu->Rd}{a b:Pat}{d:D}{g r t:Lu}
theorem nXa {c:UInt8}:has g c=true↔c∈g:=by
 unfold has;rw[List.any_eq_true];constructor
 ·rintro ⟨x,b,e⟩
  have a:x=c:=by simpa using e
  rw[<-a];exact b
 ·intro h;exact⟨c,h,by simp⟩
theorem hXm (h:∀c,c∈g->gXu c=true):fXx (set g):=by
 intro s hs c a;rw[sets_set]at hs;simp only[List.mem_singleton]at hs;subst hs;exact h c (nXa.1 a)
theorem iXm:fXx nN:=by intro s hs;rw[sets_none]at hs;simp at hs
theorem jXa (c:fXx a)(d:fXx b):fXx (any a b):=by
 intro s hs;rw[hXv,List.mem_append]at hs;rcases hs with hs|hs
 ·exact c s hs
 ·exact d s hs
theorem iXn (b:fXx a):fXx (fXl a):=by intro s hs;exact b s hs
theorem jXb (c:fXx a)(d:fXx b):fXx (row a b):=by
 unfold row;split
 ·exact d
 ·split
  ·exact c
  ·intro s hs
   rw[gXt,List.mem_append]at hs;rcases hs with hs|hs
   ·exact c s hs
   ·exact d s hs
def Sg (P:Lu->Rd):Prop:=∀r d t,P r=some (d,t)->fXx (eX5 d)
theorem mXw (g:Sg P)(h:fXg P r=some (d,t)):fXx (eX5 d):=by
 cases r with
 | nil=>simp[fXg]at h
 | cons c r=>
  unfold fXg at h;dsimp only at h
  split at h
  ·split at h
   ·simp at h
   ·rename_i e u f
    have b:=g _ _ _ f;split at h
    ·simp at h;obtain⟨rfl,rfl⟩:=h
     exact b
    ·simp at h
  ·split at h
   ·split at h
    ·simp at h
    ·rename_i e u f
     have b:=lX2 _ _ _ _ _ (by simp) f;obtain⟨rfl,rfl⟩:=h;refine hXm (fun x a=>?_);have:=b.2.1 x a;simp[gXu];omega
   ·split at h
    ·simp at h;obtain⟨rfl,rfl⟩:=h;rw[fX7]
     exact hXm (by decide)
    ·split at h
     ·split at h
      ·simp at h
      ·split at h
       ·rename_i hs
        simp at h;obtain⟨rfl,rfl⟩:=h;exact hXm (fun x a=>by simp only[List.mem_singleton]at a;subst a;exact hs)
       ·simp at h
     ·split at h
      ·simp at h
      ·rename_i hs
       simp at h;obtain⟨rfl,rfl⟩:=h;refine hXm (fun x a=>?_);simp only[List.mem_singleton]at a;subst a;cases i:gXu x with
       | true=>rfl
       | false=>exact absurd (.inr i) hs
theorem mX0 (c:Sg P)(h:gXq P r=some (d,t)):fXx (eX5 d):=by
 rw[gXq]at h;split at h
 ·simp at h
 ·rename_i a u e
  have b:=mXw c e;split at h
  ·simp at h;obtain⟨rfl,rfl⟩:=h;exact iXn b
  ·split at h
   ·simp at h;obtain⟨rfl,rfl⟩:=h;exact jXb b (iXn b)
   ·split at h
    ·simp at h;obtain⟨rfl,rfl⟩:=h;exact jXa b iXm
    ·simp at h;obtain⟨rfl,rfl⟩:=h;exact b
theorem kX0 {P:Lu->Rd}(c:Sg P):(n:Nat)->(r:Lu)->(d:D)->(t:Lu)->things P n r=some (d,t)->fXx (eX5 d)
 | 0,_,_,_,h=>by simp[things]at h
 | n+1,r,d,t,h=>by
  rw[things]at h;split at h
  ·simp at h;obtain⟨rfl,rfl⟩:=h;rw[fXm];exact iXm
  ·split at h
   ·simp at h
   ·rename_i a j e
    have f:=mX0 c e;split at h
    ·simp at h
    ·rename_i b k g
     have i:=kX0 c n j b k g;simp at h;obtain⟨rfl,rfl⟩:=h;rw[hXe];exact jXb f i
theorem lXy {P:Lu->Rd}(e:Sg P):(n:Nat)->(r:Lu)->(d:D)->(t:Lu)->alts P n r=some (d,t)->fXx (eX5 d)
 | 0,_,_,_,h=>by simp[alts]at h
 | n+1,r,d,t,h=>by
  rw[alts]at h;split at h
  ·simp at h
  ·rename_i a k f
   have c:=kX0 e _ _ _ _ f;split at h
   ·split at h
    ·simp at h
    ·rename_i b j g
     have i:=lXy e n _ b j g;simp at h;obtain⟨rfl,rfl⟩:=h;rw[hXc];exact jXa c i
   ·simp at h;obtain⟨rfl,rfl⟩:=h;rw[hXd];exact c
theorem mX6:(d:Nat)->Sg (pat d)
 | 0=>fun r e t h=>by simp[pat]at h
 | d+1=>fun r e t h=>lXy (mX6 d) _ _ _ _ h
variable {A B T:Lu->Prop}{F F1 F2 L L1 L2:Nat->Bool}{b m n:Nat}{e e1 e2:Bool}
structure Rules where
 pl:Nat->UInt8->Bool
 E:Nat->Nat->Bool
def Acc (R:Rules)(L:Nat->Bool):Lu->Nat->Prop
 | [],p=>L p=true
 | c::u,p=>∃q,R.E p q=true/\R.pl q c=true/\Acc R L u q
def mX3 (R:Rules)(F L:Nat->Bool)(c:UInt8)(u:Lu):Prop:=∃q,F q=true/\R.pl q c=true/\Acc R L u q
structure Sem (R:Rules)(b m:Nat)(F L:Nat->Bool)(e:Bool)(T:Lu->Prop):Prop where
 closed:∀p q,b<=p->p<m->R.E p q=true->b<=q/\q<m
 fst:∀q,F q=true->b<=q/\q<m
 lst:∀q,L q=true->b<=q/\q<m
 nil:T []↔e=true
 cons:∀c u,T (c::u)↔mX3 R F L c u
theorem Acc.congr {R i:Rules}{L L':Nat->Bool}{b m:Nat}(g:∀p q,b<=p->p<m->R.E p q=true->b<=q/\q<m)(f:∀p q,b<=p->p<m->i.E p q=R.E p q)(h:∀q c,b<=q->q<m->i.pl q c=R.pl q c)(k:∀q,b<=q->q<m->L' q=L q) :
  ∀u p,b<=p->p<m->(Acc i L' u p↔Acc R L u p)
 | [],p,h1,h2=>by simp only[Acc];rw[k p h1 h2]
 | c::u,p,h1,h2=>by
  simp only[Acc];constructor
  ·rintro ⟨q,d,e,j⟩
   rw[f p q h1 h2]at d;have a:=g p q h1 h2 d;rw[h q c a.1 a.2]at e;exact⟨q,d,e,(Acc.congr g f h k u q a.1 a.2).1 j⟩
  ·rintro ⟨q,d,e,j⟩
   have a:=g p q h1 h2 d;exact⟨q,by rw[f p q h1 h2];exact d,by rw[h q c a.1 a.2];exact e,(Acc.congr g f h k u q a.1 a.2).2 j⟩
theorem Sem.keep {R i:Rules}(h:Sem R b m F L e T)(l:∀p q,b<=p->p<m->i.E p q=R.E p q)(j:∀q c,b<=q->q<m->i.pl q c=R.pl q c):Sem i b m F L e T:=by
 refine⟨fun p q d f g=>h.closed p q d f (by rw[<-l p q d f];exact g),h.fst,h.lst,h.nil,fun c u=>(h.cons c u).trans ?_⟩;have k:=Acc.congr (L':=L) (L:=L) h.closed l j (fun _ _ _=>rfl);constructor
 ·rintro ⟨q,d,f,g⟩
  have a:=h.fst q d;exact⟨q,d,by rw[j q c a.1 a.2];exact f,(k u q a.1 a.2).2 g⟩
 ·rintro ⟨q,d,f,g⟩
  have a:=h.fst q d;exact⟨q,d,by rw[<-j q c a.1 a.2];exact f,(k u q a.1 a.2).1 g⟩
theorem Sem.congr {R:Rules}{a L':Nat->Bool}{d:Lu->Prop}(h:Sem R b m F L e T)(f:∀u,d u↔T u)(g:∀q,a q=F q)(i:∀q,L' q=L q):Sem R b m a L' e d:=by
 obtain rfl:a=F:=funext g;obtain rfl:L'=L:=funext i;exact⟨h.closed,h.fst,h.lst,(f []).trans h.nil,fun c u=>(f _).trans (h.cons c u)⟩
theorem Sem.seq {R R':Rules}(H:b<=m)(I:m<=n)(k:Sem R b m F1 L1 e1 A)(g:Sem R m n F2 L2 e2 B)
  (t:∀q c,R'.pl q c=R.pl q c) (x:∀p q,R'.E p q=(R.E p q||(L1 p&&F2 q))) :
  Sem R' b n (fun q=>F1 q||(e1&&F2 q)) (fun q=>(e2&&L1 q)||L2 q) (e1&&e2) (fun u=>∃v w,u=v++w/\A v/\B w):=by
 have G:∀p q,m<=p->p<n->R'.E p q=R.E p q:=fun p q r s=>by
  rw[x];cases a:L1 p with
  | false=>simp
  | true=>have:=k.lst p a;omega
 have z:∀u p,m<=p->p<n->(Acc R' (fun q=>(e2&&L1 q)||L2 q) u p↔Acc R L2 u p):=
  Acc.congr g.closed G (fun q c _ _=>t q c) (fun q r s=>by
   cases a:L1 q with
   | false=>simp
   | true=>have:=k.lst q a;omega)
 have F:∀u p,b<=p->p<m->(Acc R' (fun q=>(e2&&L1 q)||L2 q) u p↔∃v w,u=v++w/\Acc R L1 v p/\B w):=by
  intro u;induction u with
  | nil=>
   intro p r s;simp only[Acc];have a:L2 p=false:=by
    cases a:L2 p with
    | false=>rfl
    | true=>have:=g.lst p a;omega
   constructor
   ·intro h
    simp only[a,Bool.or_false,Bool.and_eq_true]at h;exact⟨[],[],rfl,h.2,g.nil.2 h.1⟩
   ·rintro ⟨v,w,e,l,o⟩
    obtain⟨rfl,rfl⟩:=List.nil_eq_append_iff.1 e;simp only[Acc]at l;simp[l,g.nil.1 o]
  | cons c u C=>
   intro p r s;constructor
   ·rintro ⟨q,a,i,j⟩
    rw[x,Bool.or_eq_true,Bool.and_eq_true]at a;rw[t]at i;rcases a with a|⟨a,y⟩
    ·have f:=k.closed p q r s a
     obtain⟨v,w,rfl,l,o⟩:=(C q f.1 f.2).1 j;exact⟨c::v,w,rfl,⟨q,a,i,l⟩,o⟩
    ·have f:=g.fst q y
     exact⟨[],c::u,rfl,a,(g.cons c u).2 ⟨q,y,i,(z u q f.1 f.2).1 j⟩⟩
   ·rintro ⟨v,w,e,l,o⟩
    cases v with
    | nil=>
     simp only[List.nil_append]at e;subst e;obtain⟨q,a,i,j⟩:=(g.cons c u).1 o;have f:=g.fst q a;exact⟨q,by rw[x,l,a];simp,by rw[t];exact i,(z u q f.1 f.2).2 j⟩
    | cons d v=>
     simp only[List.cons_append,List.cons.injEq]at e;obtain⟨rfl,rfl⟩:=e;obtain⟨q,a,i,j⟩:=l;have f:=k.closed p q r s a;exact⟨q,by rw[x,a];simp,by rw[t];exact i,(C q f.1 f.2).2 ⟨v,w,rfl,j,o⟩⟩
 refine⟨?_,?_,?_,?_,?_⟩
 ·intro p q r s a
  rw[x,Bool.or_eq_true,Bool.and_eq_true]at a;rcases a with a|⟨a,i⟩
  ·rcases Nat.lt_or_ge p m with j|j
   ·have:=k.closed p q r j a;omega
   ·have:=g.closed p q j s a;omega
  ·have:=g.fst q i;omega
 ·intro q h
  simp only[Bool.or_eq_true,Bool.and_eq_true]at h;rcases h with h|⟨_,h⟩
  ·have:=k.fst q h;omega
  ·have:=g.fst q h;omega
 ·intro q h
  simp only[Bool.or_eq_true,Bool.and_eq_true]at h;rcases h with⟨_,h⟩|h
  ·have:=k.lst q h;omega
  ·have:=g.lst q h;omega
 ·constructor
  ·rintro ⟨v,w,e,l,o⟩
   obtain⟨rfl,rfl⟩:=List.nil_eq_append_iff.1 e;simp[k.nil.1 l,g.nil.1 o]
  ·intro h
   rw[Bool.and_eq_true]at h;exact⟨[],[],rfl,k.nil.2 h.1,g.nil.2 h.2⟩
 ·intro c u
  constructor
  ·rintro ⟨v,w,e,l,o⟩
   cases v with
   | nil=>
    simp only[List.nil_append]at e;subst e;obtain⟨q,a,i,j⟩:=(g.cons c u).1 o;have f:=g.fst q a;exact⟨q,by simp[a,k.nil.1 l],by rw[t];exact i,(z u q f.1 f.2).2 j⟩
   | cons d v=>
    simp only[List.cons_append,List.cons.injEq]at e;obtain⟨rfl,rfl⟩:=e;obtain⟨q,a,i,j⟩:=(k.cons c v).1 l;have f:=k.fst q a;exact⟨q,by simp[a],by rw[t];exact i,(F _ q f.1 f.2).2 ⟨v,w,rfl,j,o⟩⟩
  ·rintro ⟨q,a,i,j⟩
   rw[t]at i;rw[Bool.or_eq_true,Bool.and_eq_true]at a;rcases a with a|⟨y,a⟩
   ·have f:=k.fst q a
    obtain⟨v,w,rfl,l,o⟩:=(F u q f.1 f.2).1 j;exact⟨c::v,w,rfl,(k.cons c v).2 ⟨q,a,i,l⟩,o⟩
   ·have f:=g.fst q a
    exact⟨[],c::u,rfl,k.nil.2 y,(g.cons c u).2 ⟨q,a,i,(z u q f.1 f.2).1 j⟩⟩
theorem Sem.alt {R:Rules}(r:b<=m)(s:m<=n)(f:Sem R b m F1 L1 e1 A)(g:Sem R m n F2 L2 e2 B) :
  Sem R b n (fun q=>F1 q||F2 q) (fun q=>L1 q||L2 q) (e1||e2) (fun u=>A u\/B u):=by
 have l:∀u p,m<=p->p<n->(Acc R (fun q=>L1 q||L2 q) u p↔Acc R L2 u p):=
  Acc.congr g.closed (fun _ _ _ _=>rfl) (fun _ _ _ _=>rfl) (fun q j k=>by
   cases a:L1 q with
   | false=>simp
   | true=>have:=f.lst q a;omega)
 have o:∀u p,b<=p->p<m->(Acc R (fun q=>L1 q||L2 q) u p↔Acc R L1 u p):=
  Acc.congr f.closed (fun _ _ _ _=>rfl) (fun _ _ _ _=>rfl) (fun q j k=>by
   cases a:L2 q with
   | false=>simp
   | true=>have:=g.lst q a;omega)
 refine⟨?_,?_,?_,?_,?_⟩
 ·intro p q j k a
  rcases Nat.lt_or_ge p m with e|e
  ·have:=f.closed p q j e a;omega
  ·have:=g.closed p q e k a;omega
 ·intro q h
  rw[Bool.or_eq_true]at h;rcases h with h|h
  ·have:=f.fst q h;omega
  ·have:=g.fst q h;omega
 ·intro q h
  rw[Bool.or_eq_true]at h;rcases h with h|h
  ·have:=f.lst q h;omega
  ·have:=g.lst q h;omega
 ·rw[f.nil,g.nil,Bool.or_eq_true]
 ·intro c u
  rw[f.cons,g.cons];constructor
  ·rintro (⟨q,a,i,e⟩|⟨q,a,i,e⟩)
   ·have d:=f.fst q a
    exact⟨q,by simp[a],i,(o u q d.1 d.2).2 e⟩
   ·have d:=g.fst q a
    exact⟨q,by simp[a],i,(l u q d.1 d.2).2 e⟩
  ·rintro ⟨q,a,i,e⟩
   rw[Bool.or_eq_true]at a;rcases a with a|a
   ·have d:=f.fst q a
    exact .inl ⟨q,a,i,(o u q d.1 d.2).1 e⟩
   ·have d:=g.fst q a
    exact .inr ⟨q,a,i,(l u q d.1 d.2).1 e⟩
theorem iX8 (L:Lu->Prop):hXx L []:=⟨[],rfl,by simp⟩
theorem Sem.again {R R':Rules}(g:Sem R b m F L e A)(n:∀q c,R'.pl q c=R.pl q c)(s:∀p q,R'.E p q=(R.E p q||(L p&&F q))) :
  Sem R' b m F L e (fun u=>∃v w,u=v++w/\A v/\hXx A w):=by
 have key:∀u p,b<=p->p<m->(Acc R' L u p↔∃v w,u=v++w/\Acc R L v p/\hXx A w):=by
  intro u;induction u with
  | nil=>
   intro p o r;simp only[Acc];constructor
   ·intro h;exact⟨[],[],rfl,h,iX8 A⟩
   ·rintro ⟨v,w,e,i,k⟩
    obtain⟨rfl,rfl⟩:=List.nil_eq_append_iff.1 e;exact i
  | cons c u t=>
   intro p o r;constructor
   ·rintro ⟨q,a,j,l⟩
    rw[s,Bool.or_eq_true,Bool.and_eq_true]at a;rw[n]at j;rcases a with a|⟨a,C⟩
    ·have f:=g.closed p q o r a
     obtain⟨v,w,rfl,i,k⟩:=(t q f.1 f.2).1 l;exact⟨c::v,w,rfl,⟨q,a,j,i⟩,k⟩
    ·have f:=g.fst q C
     obtain⟨v,w,rfl,i,k⟩:=(t q f.1 f.2).1 l;exact⟨[],c::(v++w),rfl,a,gXy.2 ⟨v,w,rfl,(g.cons c v).2 ⟨q,C,j,i⟩,k⟩⟩
   ·rintro ⟨v,w,e,i,k⟩
    cases v with
    | nil=>
     simp only[List.nil_append]at e;subst e;obtain⟨x,y,rfl,z,B⟩:=gXy.1 k;obtain⟨q,a,j,l⟩:=(g.cons c x).1 z;have f:=g.fst q a;simp only[Acc]at i;exact⟨q,by rw[s,i,a];simp,by rw[n];exact j,(t q f.1 f.2).2 ⟨x,y,rfl,l,B⟩⟩
    | cons d v=>
     simp only[List.cons_append,List.cons.injEq]at e;obtain⟨rfl,rfl⟩:=e;obtain⟨q,a,j,l⟩:=i;have f:=g.closed p q o r a;exact⟨q,by rw[s,a];simp,by rw[n];exact j,(t q f.1 f.2).2 ⟨v,w,rfl,l,k⟩⟩
 refine⟨?_,g.fst,g.lst,?_,?_⟩
 ·intro p q o r a
  rw[s,Bool.or_eq_true,Bool.and_eq_true]at a;rcases a with a|⟨_,a⟩
  ·exact g.closed p q o r a
  ·exact g.fst q a
 ·constructor
  ·rintro ⟨v,w,e,i,k⟩
   obtain⟨rfl,rfl⟩:=List.nil_eq_append_iff.1 e;exact g.nil.1 i
  ·intro h;exact⟨[],[],rfl,g.nil.2 h,iX8 A⟩
 ·intro c u
  constructor
  ·rintro ⟨v,w,e,i,k⟩
   cases v with
   | nil=>
    simp only[List.nil_append]at e;subst e;obtain⟨x,y,rfl,z,B⟩:=gXy.1 k;obtain⟨q,a,j,l⟩:=(g.cons c x).1 z;have f:=g.fst q a;exact⟨q,a,by rw[n];exact j,(key _ q f.1 f.2).2 ⟨x,y,rfl,l,B⟩⟩
   | cons d v=>
    simp only[List.cons_append,List.cons.injEq]at e;obtain⟨rfl,rfl⟩:=e;obtain⟨q,a,j,l⟩:=(g.cons c v).1 i;have f:=g.fst q a;exact⟨q,a,by rw[n];exact j,(key _ q f.1 f.2).2 ⟨v,w,rfl,l,k⟩⟩
  ·rintro ⟨q,a,j,l⟩
   rw[n]at j;have f:=g.fst q a;obtain⟨v,w,rfl,i,k⟩:=(key u q f.1 f.2).1 l;exact⟨c::v,w,rfl,(g.cons c v).2 ⟨q,a,j,i⟩,k⟩
theorem Sem.missing {R:Rules}(a:Sem R b m F L e A):Sem R b m F L true (fun u=>u=[]\/A u):=
 ⟨a.closed,a.fst,a.lst,by simp,fun c u=>by simp[a.cons c u]⟩
variable {T:Lu->Prop}{a d:D}{b c r:Nat}(s:Lu)(x:D)(f t:Nat)
structure Net where
 places:List (Lu)
 behind:List Nat
structure Span where
 first:Nat
 last:Nat
 empty:Bool
def gXm (n:Net):Rules:=⟨fun q c=>has (n.places.getD q []) c,fun p q=>(n.behind.getD p 0).testBit q⟩
def gX0 (n:Net)(f t:Nat):Net:=⟨n.places,n.behind.mapIdx fun i x=>if f.testBit i=true then x ||| t else x⟩
def kX3 (a x:Span):Span:=⟨if a.empty=true then a.first ||| x.first else a.first,(if x.empty=true then a.last else 0) ||| x.last,a.empty&&x.empty⟩
def orS (a x:Span):Span:=⟨a.first ||| x.first,a.last ||| x.last,a.empty||x.empty⟩
def gXk (s:Lu)(n:Net):Net:=⟨n.places++[s],n.behind++[0]⟩
def hXj (k:Nat):Span:=⟨2 ^ k,2 ^ k,false⟩
def start (d:D):Span:=⟨0,0,decide (d.tag=1\/d.tag=2)⟩
def go:D->Net->Span->Net × Span
 | ⟨t,s,[]⟩,n,a=>if t=0 then (gXk s n,hXj n.places.length) else (n,a)
 | ⟨t,_,[x]⟩,n,a=>
  if t=3 then ((go x n (start x)).1,orS a (go x n (start x)).2)
  else if t=7 then ((go x n (start x)).1,⟨(go x n (start x)).2.first,(go x n (start x)).2.last,true⟩)
  else (gX0 (go x n (start x)).1 (go x n (start x)).2.last (go x n (start x)).2.first,⟨(go x n (start x)).2.first,(go x n (start x)).2.last,(go x n (start x)).2.empty||t != 6⟩)
 | ⟨t,_,[x,y]⟩,n,a=>
  if t=2 then go y (gX0 (go x n (start x)).1 a.last (go x n (start x)).2.first) (kX3 a (go x n (start x)).2)
  else go y (go x n (start x)).1 (orS a (go x n (start x)).2)
 | _,n,a=>(n,a)
def add (d:D)(n:Net):Net × Span:=go d n (start d)
theorem kXj (n:Net)(a:Span):go (place s) n a=(gXk s n,hXj n.places.length):=by simp[place,go]
theorem jXm (n:Net)(a:Span):go rnil n a=(n,a):=by simp[rnil,go]
theorem kXk (r:D)(n:Net)(a:Span):go (rcons x r) n a=go r (gX0 (add x n).1 a.last (add x n).2.first) (kX3 a (add x n).2):=by simp[rcons,go,add]
theorem kXi (n:Net)(a:Span):go (clast x) n a=((add x n).1,orS a (add x n).2):=by simp[clast,go,add]
theorem kXh (c:D)(n:Net)(a:Span):go (ccons x c) n a=go c (add x n).1 (orS a (add x n).2):=by simp[ccons,go,add]
theorem lX5 (n:Net)(a:Span):go (rep 7 x) n a=((add x n).1,⟨(add x n).2.first,(add x n).2.last,true⟩):=by simp[rep,go,add]
theorem kX9 (n:Net)(a:Span):go (rep 5 x) n a=(gX0 (add x n).1 (add x n).2.last (add x n).2.first,⟨(add x n).2.first,(add x n).2.last,true⟩):=by simp[rep,go,add]
theorem kX8 (n:Net)(a:Span):go (rep 6 x) n a=(gX0 (add x n).1 (add x n).2.last (add x n).2.first,⟨(add x n).2.first,(add x n).2.last,(add x n).2.empty⟩):=by simp[rep,go,add]
structure WdC (P:Nat->D->Prop):Prop where
 place:∀(s:Lu),P 0 (Ls.place s)
 rep:∀{t:Nat} {a:D},t=5\/t=6\/t=7->P 0 a->P 0 (Ls.rep t a)
 row:∀{d:D},P 1 d->P 0 d
 choice:∀{d:D},P 2 d->P 0 d
 rnil:P 1 Ls.rnil
 rcons:∀{a r:D},P 0 a->P 1 r->P 1 (Ls.rcons a r)
 clast:∀{r:D},P 0 r->P 2 (Ls.clast r)
 ccons:∀{r c:D},P 0 r->P 2 c->P 2 (Ls.ccons r c)
structure Wd (r:Nat)(d:D):Prop where
 all:∀P,WdC P->P r d
theorem Wd.place:Wd 0 (Ls.place s):=⟨fun _ c=>c.place s⟩
theorem Wd.rep {t:Nat}(b:t=5\/t=6\/t=7)(h:Wd 0 a):Wd 0 (Ls.rep t a):=⟨fun P c=>c.rep b (h.all P c)⟩
theorem Wd.row (h:Wd 1 d):Wd 0 d:=⟨fun P c=>c.row (h.all P c)⟩
theorem Wd.choice (h:Wd 2 d):Wd 0 d:=⟨fun P c=>c.choice (h.all P c)⟩
theorem Wd.rnil:Wd 1 Ls.rnil:=⟨fun _ c=>c.rnil⟩
theorem Wd.rcons {r:D}(b:Wd 0 a)(d:Wd 1 r):Wd 1 (Ls.rcons a r):=⟨fun P c=>c.rcons (b.all P c) (d.all P c)⟩
theorem Wd.clast {r:D}(h:Wd 0 r):Wd 2 (Ls.clast r):=⟨fun P c=>c.clast (h.all P c)⟩
theorem Wd.ccons {r:D}(a:Wd 0 r)(b:Wd 2 d):Wd 2 (Ls.ccons r d):=⟨fun P c=>c.ccons (a.all P c) (b.all P c)⟩
theorem Wd.ind {motive:(r:Nat)->(d:D)->Wd r d->Prop}
  (place:∀(s:Lu),motive 0 (Ls.place s) (.place s))
  (rep:∀{t:Nat} {a:D} (ht:t=5\/t=6\/t=7) (h:Wd 0 a),motive 0 a h->motive 0 (Ls.rep t a) (.rep ht h))
  (row:∀{d:D} (h:Wd 1 d),motive 1 d h->motive 0 d (.row h))
  (choice:∀{d:D} (h:Wd 2 d),motive 2 d h->motive 0 d (.choice h))
  (rnil:motive 1 Ls.rnil .rnil)
  (rcons:∀{a r:D} (h1:Wd 0 a) (h2:Wd 1 r),motive 0 a h1->motive 1 r h2->motive 1 (Ls.rcons a r) (.rcons h1 h2))
  (clast:∀{r:D} (h:Wd 0 r),motive 0 r h->motive 2 (Ls.clast r) (.clast h))
  (ccons:∀{r c:D} (h1:Wd 0 r) (h2:Wd 2 c),motive 0 r h1->motive 2 c h2->motive 2 (Ls.ccons r c) (.ccons h1 h2))
  {r:Nat} {d:D} (h:Wd r d):motive r d h:=
 (h.all (fun r d=>∃h:Wd r d,motive r d h)
  ⟨fun s=>⟨_,place s⟩,fun ht ⟨_,m⟩=>⟨_,rep ht _ m⟩,fun ⟨_,m⟩=>⟨_,row _ m⟩,fun ⟨_,m⟩=>⟨_,choice _ m⟩,⟨_,rnil⟩,
   fun ⟨_,m1⟩ ⟨_,m2⟩=>⟨_,rcons _ _ m1 m2⟩,fun ⟨_,m⟩=>⟨_,clast _ m⟩,fun ⟨_,m1⟩ ⟨_,m2⟩=>⟨_,ccons _ _ m1 m2⟩⟩).2
theorem mXn (h:Wd r d)(a:r=1):start d=⟨0,0,true⟩:=by
 induction h using Wd.ind with
 | rnil=>rfl
 | rcons=>rfl
 | _=>cases a
theorem kXb (h:Wd r d)(a:r=2):start d=⟨0,0,false⟩:=by
 induction h using Wd.ind with
 | clast=>rfl
 | ccons=>rfl
 | _=>cases a
theorem kXn:(d:D)->(eX5 d).kind=0->∀s,inL (eX5 d) s↔s=[]
 | ⟨t,g,[]⟩,h,s=>by
  unfold eX5 at h ⊢;split at h
  ·simp[set]at h
  ·rename_i e;rw[if_neg e];exact fXp s
 | ⟨t,g,[a]⟩,h,s=>by
  unfold eX5 at h ⊢;split at h
  ·rename_i e;rw[if_pos e];exact kXn a h s
  ·split at h
   ·simp[fXl]at h
   ·split at h
    ·unfold row at h
     split at h
     ·simp[fXl]at h
     ·split at h
      ·rename_i c _;exact absurd h c
      ·simp[gX4]at h
    ·simp[any]at h
 | ⟨t,g,[a,b]⟩,h,s=>by
  unfold eX5 at h ⊢;split at h
  ·rename_i e
   rw[if_pos e];unfold row at h ⊢;split at h
   ·rename_i c;rw[if_pos c];exact kXn b h s
   ·split at h
    ·rename_i c _;exact absurd h c
    ·simp[gX4]at h
  ·simp[any]at h
 | ⟨t,g,_::_::_::_⟩,h,s=>by
  unfold eX5;exact fXp s
theorem jXg (a b:Pat)(f:a.kind=0->∀s,inL a s↔s=[])(g:b.kind=0->∀s,inL b s↔s=[])(s:Lu):inL (row a b) s↔∃u v,s=u++v/\inL a u/\inL b v:=by
 unfold row;split
 ·rename_i h
  constructor
  ·intro e;exact⟨[],s,rfl,(f h _).2 rfl,e⟩
  ·rintro ⟨u,v,rfl,c,d⟩;rw[f h]at c;subst c;exact d
 ·split
  ·rename_i h
   constructor
   ·intro e;exact⟨s,[],by simp,e,(g h _).2 rfl⟩
   ·rintro ⟨u,v,rfl,c,d⟩;rw[g h]at d;subst d;simpa using c
  ·exact hXs a b s
def jX5 (n:Net):Prop:=n.behind.length=n.places.length
def Keep (n n':Net)(b:Nat):Prop:=n.places.length<=n'.places.length/\∀q,q<b->n'.places.getD q []=n.places.getD q []/\n'.behind.getD q 0=n.behind.getD q 0
theorem Keep.trans {n d e:Net}(h:Keep n d b)(k:Keep d e c)(f:b<=c):Keep n e b:=
 ⟨Nat.le_trans h.1 k.1,fun q a=>⟨((k.2 q (by omega)).1).trans (h.2 q a).1,((k.2 q (by omega)).2).trans (h.2 q a).2⟩⟩
theorem Keep.mono {n a:Net}(h:Keep n a c)(d:b<=c):Keep n a b:=⟨h.1,fun q e=>h.2 q (by omega)⟩
theorem Sem.kept {n d:Net}{m:Nat}{F L:Nat->Bool}{e:Bool}(h:Sem (gXm n) b m F L e T)(a:Keep n d m):Sem (gXm d) b m F L e T:=
 h.keep (fun p q _ f=>by simp only[gXm];rw[(a.2 p f).2]) (fun q c _ g=>by simp only[gXm];rw[(a.2 q g).1])
theorem jXl (l:List Nat)(f:Nat->Nat->Nat)(p:Nat):(l.mapIdx f).getD p 0=if p<l.length then f p (l.getD p 0) else 0:=by
 rw[List.getD_eq_getElem?_getD,List.getElem?_mapIdx,List.getD_eq_getElem?_getD];rcases Nat.lt_or_ge p l.length with h|h
 ·rw[if_pos h,List.getElem?_eq_getElem h];rfl
 ·rw[if_neg (by omega),List.getElem?_eq_none h];rfl
theorem mX4 (n:Net)(c:∀p,f.testBit p=true->p<n.behind.length)(p q:Nat):(gXm (gX0 n f t)).E p q=((gXm n).E p q||(f.testBit p&&t.testBit q)):=by
 simp only[gXm,gX0];rw[jXl];rcases Nat.lt_or_ge p n.behind.length with h|h
 ·rw[if_pos h]
  cases a:f.testBit p with
  | true=>simp[Nat.testBit_or]
  | false=>simp
 ·rw[if_neg (by omega)]
  have b:f.testBit p=false:=by
   cases a:f.testBit p with
   | true=>have:=c p a;omega
   | false=>rfl
  rw[b,List.getD_eq_getElem?_getD,List.getElem?_eq_none h];simp
theorem jXp {n:Net}(h:jX5 n):jX5 (gX0 n f t):=by
 unfold jX5 at h ⊢;unfold gX0;simpa using h
theorem kXv (n:Net)(b:Nat)(a:∀p,f.testBit p=true->b<=p):Keep n (gX0 n f t) b:=by
 refine⟨Nat.le_refl _,fun q c=>⟨rfl,?_⟩⟩;simp only[gX0];rw[jXl];split
 ·rw[if_neg (fun e=>by have:=a q e;omega)]
 ·rename_i h
  rw[List.getD_eq_getElem?_getD,List.getElem?_eq_none (by omega)];rfl
abbrev fb (x:Span):Nat->Bool:=fun q=>x.first.testBit q
abbrev lb (x:Span):Nat->Bool:=fun q=>x.last.testBit q
structure Added (n n':Net)(b:Nat)(x:Span)(T:Lu->Prop):Prop where
 good:jX5 n'
 sem:Sem (gXm n') b n'.places.length (fb x) (lb x) x.empty T
 keep:Keep n n' b
theorem mXx (n:Net)(h:jX5 n):Added n (gXk s n) n.places.length (hXj n.places.length) (inL (eX5 (place s))):=by
 have l:∀q,(gXk s n).places.getD q []=if q=n.places.length then s else n.places.getD q []:=fun q=>by
  simp only[gXk,List.getD_eq_getElem?_getD];rcases Nat.lt_or_ge q n.places.length with a|a
  ·rw[List.getElem?_append_left a,if_neg (by omega)]
  ·rw[List.getElem?_append_right a]
   by_cases b:q=n.places.length
   ·rw[if_pos b,b];simp
   ·rw[if_neg b,List.getElem?_eq_none (by simp;omega),List.getElem?_eq_none a]
 have k:∀q,(gXk s n).behind.getD q 0=n.behind.getD q 0:=fun q=>by
  simp only[gXk,List.getD_eq_getElem?_getD];rcases Nat.lt_or_ge q n.behind.length with a|a
  ·rw[List.getElem?_append_left a]
  ·rw[List.getElem?_append_right a,List.getElem?_eq_none a]
   rcases Nat.eq_zero_or_pos (q-n.behind.length) with b|b
   ·rw[b];rfl
   ·rw[List.getElem?_eq_none (by simp;omega)]
 have m:n.behind.getD n.places.length 0=0:=by rw[List.getD_eq_getElem?_getD,List.getElem?_eq_none (by unfold jX5 at h;omega)];rfl
 have j:∀q,(2 ^ n.places.length:Nat).testBit q=decide (q=n.places.length):=fun q=>by
  rw[Nat.testBit_two_pow]
  by_cases e:n.places.length=q
  ·simp[e]
  ·simp[e,Ne.symm e]
 have g:(gXk s n).places.length=n.places.length+1:=by simp[gXk]
 refine⟨by unfold jX5 at h ⊢;simp[gXk,h],⟨?_,?_,?_,?_,?_⟩,by rw[g];omega,fun q v=>⟨by rw[l,if_neg (by omega)],k q⟩⟩
 ·intro p q a b f
  rw[g]at b;obtain rfl:p=n.places.length:=by omega
  simp only[gXm]at f;rw[k,m]at f;simp at f
 ·intro q a
  simp only[fb,hXj,j,decide_eq_true_eq]at a;rw[g];omega
 ·intro q a
  simp only[lb,hXj,j,decide_eq_true_eq]at a;rw[g];omega
 ·rw[fX7,gXr];simp[hXj]
 ·intro c u
  rw[fX7,gXr];constructor
  ·rintro ⟨d,e,t⟩
   injection e with o r;subst o r;refine⟨n.places.length,by simp[fb,hXj],?_,by simp[Acc,lb,hXj]⟩;simp only[gXm];rw[l,if_pos rfl];exact t
  ·rintro ⟨q,a,b,f⟩
   simp only[fb,hXj,j,decide_eq_true_eq]at a;subst a;simp only[gXm]at b;rw[l,if_pos rfl]at b;cases u with
   | nil=>exact⟨c,rfl,b⟩
   | cons d u=>
    obtain⟨q,i,_⟩:=f;simp only[gXm]at i;rw[k,m]at i;simp at i
theorem mXk (R:Rules)(b:Nat):Sem R b b (fb ⟨0,0,true⟩) (lb ⟨0,0,true⟩) true (fun u=>u=[]):=
 ⟨fun _ _ a d=>by omega,fun q h=>by simp[fb]at h,fun q h=>by simp[lb]at h,by simp,fun c u=>by
  constructor
  ·intro h;cases h
  ·rintro ⟨q,h,_⟩;simp[fb]at h⟩
theorem kXs (R:Rules)(b:Nat):Sem R b b (fb ⟨0,0,false⟩) (lb ⟨0,0,false⟩) false (fun _=>False):=
 ⟨fun _ _ a d=>by omega,fun q h=>by simp[fb]at h,fun q h=>by simp[lb]at h,by simp,fun c u=>by
  constructor
  ·intro h;cases h
  ·rintro ⟨q,h,_⟩;simp[fb]at h⟩
def nXw:Nat->D->Prop
 | 0,d=>∀n,jX5 n->Added n (add d n).1 n.places.length (add d n).2 (inL (eX5 d))
 | 1,d=>∀n a b A,jX5 n->b<=n.places.length->Sem (gXm n) b n.places.length (fb a) (lb a) a.empty A->Added n (go d n a).1 b (go d n a).2 (fun u=>∃v w,u=v++w/\A v/\inL (eX5 d) w)
 | _,d=>∀n a b A,jX5 n->b<=n.places.length->Sem (gXm n) b n.places.length (fb a) (lb a) a.empty A->Added n (go d n a).1 b (go d n a).2 (fun u=>A u\/inL (eX5 d) u)
theorem Added.congr {n c:Net}{x:Span}{a:Lu->Prop}(h:Added n c b x T)(d:∀u,a u↔T u):Added n c b x a:=
 ⟨h.good,h.sem.congr d (fun _=>rfl) (fun _=>rfl),h.keep⟩
theorem nXh (h:Wd r d):nXw r d:=by
 induction h using Wd.ind with
 | place s=>
  intro n g;unfold add;rw[kXj];exact mXx s n g
 | @rep t a Q _ z=>
  intro n g;have f:=z n g;have I:=mX4 (add a n).2.last (add a n).2.first (add a n).1 (fun p k=>by have:=(f.sem.lst p k).2;have:=f.good;unfold jX5 at this;omega);have C:=kXv (add a n).2.last (add a n).2.first (add a n).1 n.places.length (fun p k=>(f.sem.lst p k).1);have N:=f.sem.again (R':=gXm (gX0 (add a n).1 (add a n).2.last (add a n).2.first)) (fun _ _=>rfl) I;rcases Q with rfl|rfl|rfl
  ·unfold add
   rw[kX9,hXo];refine⟨jXp _ _ f.good,N.missing.congr (fun u=>?_) (fun _=>rfl) (fun _=>rfl),f.keep.trans C (Nat.le_refl _)⟩;rw[fXq];cases u with
   | nil=>simp[iX8]
   | cons c u=>
    constructor
    ·intro k
     obtain⟨x,y,rfl,R,S⟩:=gXy.1 k;exact .inr ⟨c::x,y,rfl,R,S⟩
    ·rintro (e|⟨v,w,e,o,m⟩)
     ·cases e
     ·cases v with
      | nil=>rw[e];exact m
      | cons d v=>
       simp only[List.cons_append,List.cons.injEq]at e;obtain⟨rfl,rfl⟩:=e;exact gXy.2 ⟨v,w,rfl,o,m⟩
  ·unfold add
   rw[kX8,iXf];refine⟨jXp _ _ f.good,N.congr (fun u=>?_) (fun _=>rfl) (fun _=>rfl),f.keep.trans C (Nat.le_refl _)⟩;rw[jXg _ _ (kXn a) (fun e=>by simp[fXl]at e)];simp only[fXq]
  ·unfold add
   rw[lX5,iX2];refine⟨f.good,f.sem.missing.congr (fun u=>?_) (fun _=>rfl) (fun _=>rfl),f.keep⟩;rw[gX2,fXp];exact or_comm
 | @row d H z=>
  intro n g;unfold add;rw[mXn H rfl];refine(z n ⟨0,0,true⟩ n.places.length (fun u=>u=[]) g (Nat.le_refl _) (mXk _ _)).congr (fun u=>?_);constructor
  ·intro h;exact⟨[],u,rfl,rfl,h⟩
  ·rintro ⟨v,w,rfl,rfl,h⟩;exact h
 | @choice d H z=>
  intro n g;unfold add;rw[kXb H rfl];refine(z n ⟨0,0,false⟩ n.places.length (fun _=>False) g (Nat.le_refl _) (kXs _ _)).congr (fun u=>?_);simp
 | rnil=>
  intro n a b A g j i;rw[jXm];refine⟨g,i.congr (fun u=>?_) (fun _=>rfl) (fun _=>rfl),Nat.le_refl _,fun _ _=>⟨rfl,rfl⟩⟩;rw[fXm];constructor
  ·rintro ⟨v,w,rfl,o,m⟩;rw[fXp]at m;subst m;simpa using o
  ·intro h;exact⟨u,[],by simp,h,(fXp _).2 rfl⟩
 | @rcons x r _ _ J K=>
  intro n a b A g j i;rw[kXk];have f:=J n g;have P:=i.kept f.keep;have I:=mX4 a.last (add x n).2.first (add x n).1 (fun p k=>by have:=(i.lst p k).2;have:=f.good;have:=f.keep.1;unfold jX5 at *;omega);have C:=kXv a.last (add x n).2.first (add x n).1 b (fun p k=>(i.lst p k).1);have hs:=Sem.seq (R':=gXm (gX0 (add x n).1 a.last (add x n).2.first)) j f.keep.1 P f.sem (fun _ _=>rfl) I;have l:=K (gX0 (add x n).1 a.last (add x n).2.first) (kX3 a (add x n).2) b (fun u=>∃v w,u=v++w/\A v/\inL (eX5 x) w) (jXp _ _ f.good) (Nat.le_trans j f.keep.1) (hs.congr (fun _=>Iff.rfl) (fun q=>by
    simp only[fb,kX3];cases a.empty<;>simp[Nat.testBit_or]) (fun q=>by
    simp only[lb,kX3,Nat.testBit_or];cases (add x n).2.empty<;>simp))
  refine⟨l.good,l.sem.congr (fun u=>?_) (fun _=>rfl) (fun _=>rfl),((Keep.mono f.keep j).trans C (Nat.le_refl _)).trans l.keep (Nat.le_refl _)⟩
  ·rw[hXe]
   constructor
   ·rintro ⟨v,w,rfl,o,m⟩
    rw[jXg _ _ (kXn x) (kXn r)]at m;obtain⟨B,E,rfl,F,G⟩:=m;exact⟨v++B,E,by simp,⟨v,B,rfl,o,F⟩,G⟩
   ·rintro ⟨v,E,rfl,⟨T,B,rfl,o,F⟩,G⟩
    exact⟨T,B++E,by simp,o,(jXg _ _ (kXn x) (kXn r) _).2 ⟨B,E,rfl,F,G⟩⟩
 | @clast x _ z=>
  intro n a b A g j i;rw[kXi];have f:=z n g;have hs:=Sem.alt j f.keep.1 (i.kept f.keep) f.sem;refine⟨f.good,hs.congr (fun u=>by rw[hXd]) (fun q=>by simp[fb,orS,Nat.testBit_or]) (fun q=>by simp[lb,orS,Nat.testBit_or]),f.keep.1,fun q O=>f.keep.2 q (by omega)⟩
 | @ccons x c _ _ J K=>
  intro n a b A g j i;rw[kXh];have f:=J n g;have hs:=Sem.alt j f.keep.1 (i.kept f.keep) f.sem;have l:=K (add x n).1 (orS a (add x n).2) b (fun u=>A u\/inL (eX5 x) u) f.good (Nat.le_trans j f.keep.1) (hs.congr (fun _=>Iff.rfl) (fun q=>by simp[fb,orS,Nat.testBit_or]) (fun q=>by simp[lb,orS,Nat.testBit_or]));refine⟨l.good,l.sem.congr (fun u=>?_) (fun _=>rfl) (fun _=>rfl),Nat.le_trans f.keep.1 l.keep.1,fun q O=>?_⟩
  ·rw[hXc,gX2,or_assoc]
  ·have L:=f.keep.2 q (by omega)
   have M:=l.keep.2 q O;exact⟨M.1.trans L.1,M.2.trans L.2⟩
variable (d:D)(w:Lu)
structure Ln where
 kind:Nat
 p:D
 w:Lu
 ls:List Ln
def fXs (d:D):Ln:=⟨0,d,[],[]⟩
def fXf (d:D)(w:Lu):Ln:=⟨1,d,w,[]⟩
def iXp (w:Lu):Ln:=⟨2,rnil,w,[]⟩
def eX9 (a b:Ln):Ln:=⟨3,rnil,[],[a,b]⟩
def fXc (a b:Ln):Ln:=⟨4,rnil,[],[a,b]⟩
def fXn (a b:Ln):Ln:=⟨5,rnil,[],[a,b]⟩
def hXb (a:Ln):Ln:=⟨6,rnil,[],[a]⟩
def gXl (a:Ln):Ln:=⟨7,rnil,[],[a]⟩
abbrev Rl:=Option (Ln × Lu)
def fX4:Lu->Option (Lu × Lu)
 | []=>.none
 | c::t=>if c=34 then some ([],t) else if gXu c=false\/c=10 then .none else
  match fX4 t with
  | .none=>.none
  | some (w,u)=>some (c::w,u)
def fX1 (r:Lu):Option (Lu × Lu):=if r.head?=some 34 then fX4 r.tail else .none
def fXj (P:Lu->Rd)(r:Lu):Rd:=
 match P r with
 | .none=>.none
 | some (d,t)=>if t.head?=some 47 then some (d,t.tail) else .none
def fX9 (l:Ln)(t:Lu):Ln × Lu:=if t.head?=some 42 then (hXb l,t.tail) else (l,t)
def fXk (P:Lu->Rd)(Q:Lu->Rl):Lu->Rl
 | []=>.none
 | c::t=>
  if c=47 then
   match fXj P t with
   | .none=>.none
   | some (d,u)=>some (fX9 (fXs d) u)
  else if c=45 then
   if t.head?=some 47 then
    match fXj P t.tail with
    | .none=>.none
    | some (d,u)=>
     match fX1 u with
     | .none=>.none
     | some (w,v)=>some (fXf d w,v)
   else .none
  else if c=43 then
   match fX1 t with
   | .none=>.none
   | some (w,v)=>some (iXp w,v)
  else if c=60 then
   match Q t with
   | .none=>.none
   | some (a,u)=>if u.head?=some 62 then some (gXl a,u.tail) else .none
  else if c=40 then
   match Q t with
   | .none=>.none
   | some (a,u)=>
    if u.head?=some 126 then
     match Q u.tail with
     | .none=>.none
     | some (b,v)=>if v.head?=some 41 then some (fX9 (fXc a b) v.tail) else .none
    else if u.head?=some 41 then some (fX9 a u.tail) else .none
  else .none
def gX3:Lu->Bool
 | []=>true
 | c::_=>c==124||c==41||c==62||c==126
def fXe (P:Lu->Rd)(Q:Lu->Rl):Nat->Lu->Rl
 | 0,_=>.none
 | n+1,r=>
  match fXk P Q r with
  | .none=>.none
  | some (a,r1)=>
   if gX3 r1=true then some (a,r1) else
   match fXe P Q n r1 with
   | .none=>.none
   | some (b,r2)=>some (eX9 a b,r2)
def gXa (P:Lu->Rd)(Q:Lu->Rl):Nat->Lu->Rl
 | 0,_=>.none
 | n+1,r=>
  match fXe P Q (r.length+1) r with
  | .none=>.none
  | some (a,r1)=>
   if r1.head?=some 124 then
    match gXa P Q n r1.tail with
    | .none=>.none
    | some (b,r3)=>some (fXn a b,r3)
   else some (a,r1)
def fXa:Nat->Lu->Rl
 | 0,_=>.none
 | d+1,r=>gXa (pat (d+1)) (fXa d) (r.length+1) r
def eX7:Ln->Nat
 | ⟨_,p,w,[]⟩=>dsize p+w.length
 | ⟨k,_,_,[a]⟩=>if k=6\/k=7 then eX7 a+1 else 0
 | ⟨_,_,_,[a,b]⟩=>eX7 a+eX7 b
 | _=>0
theorem hX8:eX7 (fXs d)=dsize d:=by simp[fXs,eX7]
theorem hXt:eX7 (fXf d w)=dsize d+w.length:=by simp[fXf,eX7]
theorem iXv:eX7 (iXp w)=w.length:=by simp[iXp,eX7,gXh]
theorem hX1 (a b:Ln):eX7 (eX9 a b)=eX7 a+eX7 b:=by simp[eX9,eX7]
theorem hXh (a b:Ln):eX7 (fXc a b)=eX7 a+eX7 b:=by simp[fXc,eX7]
theorem iXk (a b:Ln):eX7 (fXn a b)=eX7 a+eX7 b:=by simp[fXn,eX7]
theorem hXi (a:Ln):eX7 (hXb a)=eX7 a+1:=by simp[hXb,eX7]
theorem hX9 (a:Ln):eX7 (gXl a)=eX7 a+1:=by simp[gXl,eX7]
variable {P:Lu->Rd}{r t:Lu}
def SzP (P:Lu->Rd):Prop:=∀r d t,P r=some (d,t)->t <:+ r/\dsize d+t.length<=r.length
def SzL (Q:Lu->Rl):Prop:=∀r l t,Q r=some (l,t)->t <:+ r/\eX7 l+t.length<=r.length
theorem hXl (n:Nat):SzP (pat n):=fun _ _ _ h=>⟨hXa _ _ _ _ h,hXk _ _ _ _ h⟩
theorem gX5 (t:Lu):t.tail <:+ t:=List.tail_suffix t
theorem fXo {c:UInt8}(h:t.head?=some c):t.tail.length+1=t.length:=by
 cases t with
 | nil=>simp at h
 | cons a r=>simp
theorem iXb (c:SzP P){d:D}(h:fXj P r=some (d,t)):t <:+ r/\dsize d+t.length+1<=r.length:=by
 unfold fXj at h;cases a:P r with
 | none=>rw[a]at h;cases h
 | some x=>
  obtain⟨f,u⟩:=x;rw[a]at h;dsimp only at h
  split at h
  ·rename_i e
   simp only[Option.some.injEq,Prod.mk.injEq]at h;obtain⟨rfl,rfl⟩:=h;obtain⟨b,g⟩:=c _ _ _ a;have:=fXo e;exact⟨(gX5 u).trans b,by omega⟩
  ·cases h
theorem kX2:∀(r w t:Lu),fX4 r=some (w,t)->t <:+ r/\w.length+t.length+1<=r.length
 | [],w,t,h=>by simp[fX4]at h
 | c::r,w,t,h=>by
  unfold fX4 at h;split at h
  ·simp only[Option.some.injEq,Prod.mk.injEq]at h
   obtain⟨rfl,rfl⟩:=h;exact⟨List.suffix_cons _ _,by simp⟩
  ·split at h
   ·cases h
   ·cases a:fX4 r with
    | none=>rw[a]at h;cases h
    | some x=>
     obtain⟨d,u⟩:=x;rw[a]at h;simp only[Option.some.injEq,Prod.mk.injEq]at h;obtain⟨rfl,rfl⟩:=h;obtain⟨b,e⟩:=kX2 r d u a;exact⟨b.trans (List.suffix_cons _ _),by simp;omega⟩
theorem iXo {w:Lu}(h:fX1 r=some (w,t)):t <:+ r/\w.length+t.length+2<=r.length:=by
 unfold fX1 at h;split at h
 ·rename_i b
  obtain⟨a,c⟩:=kX2 _ _ _ h;have:=fXo b;exact⟨a.trans (gX5 r),by omega⟩
 ·cases h
theorem kXc (l:Ln)(t:Lu):(fX9 l t).2 <:+ t/\eX7 (fX9 l t).1+(fX9 l t).2.length=eX7 l+t.length:=by
 unfold fX9;split
 ·rename_i a
  have:=fXo a;exact⟨gX5 t,by rw[hXi];dsimp only;omega⟩
 ·exact⟨List.suffix_refl _,rfl⟩
theorem jXu {Q:Lu->Rl}(A:SzP P)(s:SzL Q){l:Ln}(h:fXk P Q r=some (l,t)):t <:+ r/\eX7 l+t.length<=r.length/\t.length<r.length:=by
 cases r with
 | nil=>simp[fXk]at h
 | cons c r=>
  have m:∀u,u <:+ r->u <:+ c::r:=fun u E=>E.trans (List.suffix_cons _ _);simp only[fXk]at h;split at h
  ·cases i:fXj P r with
   | none=>rw[i]at h;cases h
   | some x=>
    obtain⟨d,u⟩:=x;rw[i]at h;simp only[Option.some.injEq]at h;obtain⟨g,q⟩:=iXb A i;obtain⟨e,n⟩:=kXc (fXs d) u;rw[h,hX8]at n;rw[h]at e;dsimp only at e n
    have:=e.length_le;exact⟨m _ (e.trans g),by simp;omega,by simp;omega⟩
  ·split at h
   ·split at h
    ·rename_i p
     have B:=fXo p;cases i:fXj P r.tail with
     | none=>rw[i]at h;cases h
     | some x=>
      obtain⟨d,u⟩:=x;rw[i]at h;dsimp only at h
      obtain⟨g,q⟩:=iXb A i;cases k:fX1 u with
      | none=>rw[k]at h;cases h
      | some x=>
       obtain⟨w,v⟩:=x;rw[k]at h;obtain⟨rfl,rfl⟩:=h;obtain⟨e,n⟩:=iXo k;rw[hXt];exact⟨m _ (e.trans (g.trans (gX5 r))),by simp;omega,by simp;omega⟩
    ·cases h
   ·split at h
    ·cases k:fX1 r with
     | none=>rw[k]at h;cases h
     | some x=>
      obtain⟨w,v⟩:=x;rw[k]at h;simp only[Option.some.injEq,Prod.mk.injEq]at h;obtain⟨rfl,rfl⟩:=h;obtain⟨e,n⟩:=iXo k;rw[iXv];exact⟨m _ e,by simp;omega,by simp;omega⟩
    ·split at h
     ·cases j:Q r with
      | none=>rw[j]at h;cases h
      | some x=>
       obtain⟨a,u⟩:=x;rw[j]at h;dsimp only at h
       obtain⟨g,q⟩:=s _ _ _ j;split at h
       ·rename_i p
        have B:=fXo p;simp only[Option.some.injEq,Prod.mk.injEq]at h;obtain⟨rfl,rfl⟩:=h;rw[hX9];exact⟨m _ ((gX5 u).trans g),by simp;omega,by simp;omega⟩
       ·cases h
     ·split at h
      ·cases j:Q r with
       | none=>rw[j]at h;cases h
       | some x=>
        obtain⟨a,u⟩:=x;rw[j]at h;dsimp only at h
        obtain⟨g,q⟩:=s _ _ _ j;split at h
        ·rename_i p
         have B:=fXo p;cases z:Q u.tail with
         | none=>rw[z]at h;cases h
         | some x=>
          obtain⟨b,v⟩:=x;rw[z]at h;dsimp only at h
          obtain⟨e,n⟩:=s _ _ _ z;split at h
          ·rename_i y
           have C:=fXo y;simp only[Option.some.injEq]at h;obtain⟨f,o⟩:=kXc (fXc a b) v.tail;rw[h,hXh]at o;rw[h]at f;dsimp only at f o
           have:=f.length_le;exact⟨m _ (f.trans ((gX5 v).trans (e.trans ((gX5 u).trans g)))),by simp;omega,by simp;omega⟩
          ·cases h
        ·split at h
         ·rename_i y
          have C:=fXo y;simp only[Option.some.injEq]at h;obtain⟨f,o⟩:=kXc a u.tail;rw[h]at f o;dsimp only at f o
          have:=f.length_le;exact⟨m _ (f.trans ((gX5 u).trans g)),by simp;omega,by simp;omega⟩
         ·cases h
      ·cases h
theorem iXx {P:Lu->Rd}{Q:Lu->Rl}(f:SzP P)(g:SzL Q):∀n,SzL (fXe P Q n)
 | 0,r,l,t,h=>by simp[fXe]at h
 | n+1,r,l,t,h=>by
  simp only[fXe]at h;cases c:fXk P Q r with
  | none=>rw[c]at h;cases h
  | some x=>
   obtain⟨a,k⟩:=x;rw[c]at h;dsimp only at h
   obtain⟨e,i,m⟩:=jXu f g c;split at h
   ·simp only[Option.some.injEq,Prod.mk.injEq]at h
    obtain⟨rfl,rfl⟩:=h;exact⟨e,i⟩
   ·cases d:fXe P Q n k with
    | none=>rw[d]at h;cases h
    | some x=>
     obtain⟨b,p⟩:=x;rw[d]at h;simp only[Option.some.injEq,Prod.mk.injEq]at h;obtain⟨rfl,rfl⟩:=h;obtain⟨j,o⟩:=iXx f g n _ _ _ d;rw[hX1];exact⟨j.trans e,by omega⟩
theorem kXd {P:Lu->Rd}{Q:Lu->Rl}(f:SzP P)(g:SzL Q):∀n,SzL (gXa P Q n)
 | 0,r,l,t,h=>by simp[gXa]at h
 | n+1,r,l,t,h=>by
  simp only[gXa]at h;cases c:fXe P Q (r.length+1) r with
  | none=>rw[c]at h;cases h
  | some x=>
   obtain⟨a,i⟩:=x;rw[c]at h;dsimp only at h
   obtain⟨e,j⟩:=iXx f g _ _ _ _ c;split at h
   ·rename_i m
    have p:=fXo m;cases d:gXa P Q n i.tail with
    | none=>rw[d]at h;cases h
    | some x=>
     obtain⟨b,q⟩:=x;rw[d]at h;simp only[Option.some.injEq,Prod.mk.injEq]at h;obtain⟨rfl,rfl⟩:=h;obtain⟨k,o⟩:=kXd f g n _ _ _ d;rw[iXk];exact⟨k.trans ((gX5 i).trans e),by omega⟩
   ·simp only[Option.some.injEq,Prod.mk.injEq]at h
    obtain⟨rfl,rfl⟩:=h;exact⟨e,j⟩
theorem gXx:∀n,SzL (fXa n)
 | 0,r,l,t,h=>by simp[fXa]at h
 | n+1,r,l,t,h=>kXd (hXl _) (gXx n) _ _ _ _ h
variable {a b c d k:Nat}{e:D}{l:Ln}{p q:Pat}{r t w:Lu}
def fX0:Lu->Pat
 | []=>nN
 | c::t=>row (set [c]) (fX0 t)
def eX8:Ln->Pat
 | ⟨k,p,_,[]⟩=>if k=0\/k=1 then eX5 p else nN
 | ⟨k,_,_,[a]⟩=>if k=6\/k=7 then fXl (eX8 a) else nN
 | ⟨k,_,_,[a,b]⟩=>if k=3\/k=4 then row (eX8 a) (eX8 b) else if k=5 then any (eX8 a) (eX8 b) else nN
 | _=>nN
def eX6:Ln->Pat
 | ⟨k,p,w,[]⟩=>if k=0 then eX5 p else if k=2 then fX0 w else nN
 | ⟨k,_,_,[a]⟩=>if k=6\/k=7 then fXl (eX6 a) else nN
 | ⟨k,_,_,[a,b]⟩=>if k=3 then row (eX6 a) (eX6 b) else if k=4 then row (eX6 b) (eX6 a) else if k=5 then any (eX6 a) (eX6 b) else nN
 | _=>nN
structure BdL (c:Nat)(p:Pat):Prop where
 ok:wf p
 nd:nd p<=c*8192
 ks:ks p+3<=c*1171456
 hs:hs p<=c
 sg:fXx p
theorem BdL.mono {b:Nat}(h:BdL c p)(a:c<=b):BdL b p:=by
 exact⟨h.ok,Nat.le_trans h.nd (Nat.mul_le_mul_right _ a),Nat.le_trans h.ks (Nat.mul_le_mul_right _ a),Nat.le_trans h.hs a,h.sg⟩
theorem jXj (h:BdL a p)(k:BdL b q):BdL (a+b) (row p q):=by
 have f:=h.nd;have g:=h.ks;have i:=h.hs;have j:=k.nd;have l:=k.ks;have m:=k.hs;have c:=mXc p q;have d:=iXu p q;have e:=lX7 p q;exact⟨fXy h.ok k.ok,by omega,by omega,by omega,jXb h.sg k.sg⟩
theorem lX0 (h:BdL a p)(k:BdL b q):BdL (a+b) (any p q):=by
 have c:=h.nd;have d:=h.ks;have e:=h.hs;have f:=k.nd;have g:=k.ks;have i:=k.hs;exact⟨mXp h.ok k.ok,by rw[iXw];omega,by rw[jXc];omega,by rw[jX9];omega,jXa h.sg k.sg⟩
theorem hXf (h:BdL a p):BdL (a+1) (fXl p):=by
 have e:=h.nd;have f:=h.ks;have g:=h.hs;have b:=gX9 p;have c:=gXw p;have d:=iX5 p;exact⟨fXw h.ok,by omega,by omega,by omega,iXn h.sg⟩
theorem kXg (hc:1<=c):BdL c nN:=⟨gXz,by rw[kXp];omega,by rw[iXj];omega,by simp[nN,Ls.hs];omega,iXm⟩
theorem lXe:(w:Lu)->(∀c,c∈w->gXu c=true)->BdL (w.length+1) (fX0 w)
 | [],_=>kXg (by simp)
 | c::t,h=>by
  have b:BdL 1 (set [c]):=⟨kX1 (.inl ⟨c,rfl⟩),by rw[lXh];omega,by rw[jXo];show 1+3+3<=1*1171456;omega,by simp[set,Ls.hs],hXm (fun d a=>by simp at a;subst a;exact h d (by simp))⟩;have e:=lXe t (fun d a=>h d (by simp[a]));have:=jXj b e;simp only[List.length_cons];rw[show t.length+1+1=1+(t.length+1) by omega];exact this
theorem mX8 (g:d<=13)(h:pat d r=some (e,t)):∃c,r.length=t.length+c/\BdL (c+1) (eX5 e):=by
 obtain⟨c,a,b,j,k,f⟩:=mX5 d r e t h;have i:2 ^ d<=8192:=by
  have:=Nat.pow_le_pow_right (n:=2) (by omega) g;exact this
 have l:(c+1)*2 ^ d<=(c+1)*8192:=Nat.mul_le_mul_left _ i;have m:(c+1)*(143*2 ^ d-12)<=(c+1)*(1171456-12):=Nat.mul_le_mul_left _ (by omega);have o:(c+1)*(1171456-12)+(c+1)*12=(c+1)*1171456:=by rw[<-Nat.mul_add]
 exact⟨c,a,b,by omega,by omega,f,mX6 d _ _ _ h⟩
def OkL (c:Nat):Ln->Prop
 | ⟨k,p,w,[]⟩=>(BdL c (eX8 ⟨k,p,w,[]⟩)/\BdL c (eX6 ⟨k,p,w,[]⟩))/\(k=0\/k=1\/k=2)
 | ⟨k,p,w,[a]⟩=>(BdL c (eX8 ⟨k,p,w,[a]⟩)/\BdL c (eX6 ⟨k,p,w,[a]⟩))/\(k=6\/k=7)/\OkL c a
 | ⟨k,p,w,[a,b]⟩=>(BdL c (eX8 ⟨k,p,w,[a,b]⟩)/\BdL c (eX6 ⟨k,p,w,[a,b]⟩))/\(k=3\/k=4\/k=5)/\OkL c a/\OkL c b
 | _=>False
theorem OkL.mono {c e:Nat}(d:c<=e):(l:Ln)->OkL c l->OkL e l
 | ⟨k,p,w,[]⟩,h=>by rw[OkL]at h ⊢;exact⟨⟨h.1.1.mono d,h.1.2.mono d⟩,h.2⟩
 | ⟨k,p,w,[a]⟩,h=>by rw[OkL]at h ⊢;exact⟨⟨h.1.1.mono d,h.1.2.mono d⟩,h.2.1,OkL.mono d a h.2.2⟩
 | ⟨k,p,w,[a,b]⟩,h=>by rw[OkL]at h ⊢;exact⟨⟨h.1.1.mono d,h.1.2.mono d⟩,h.2.1,OkL.mono d a h.2.2.1,OkL.mono d b h.2.2.2⟩
 | ⟨k,p,w,_::_::_::_⟩,h=>by simp[OkL]at h
theorem OkL.src {c:Nat}:(l:Ln)->OkL c l->BdL c (eX8 l)
 | ⟨k,p,w,[]⟩,h=>by rw[OkL]at h;exact h.1.1
 | ⟨k,p,w,[a]⟩,h=>by rw[OkL]at h;exact h.1.1
 | ⟨k,p,w,[a,b]⟩,h=>by rw[OkL]at h;exact h.1.1
 | ⟨k,p,w,_::_::_::_⟩,h=>by simp[OkL]at h
theorem OkL.view {c:Nat}:(l:Ln)->OkL c l->BdL c (eX6 l)
 | ⟨k,p,w,[]⟩,h=>by rw[OkL]at h;exact h.1.2
 | ⟨k,p,w,[a]⟩,h=>by rw[OkL]at h;exact h.1.2
 | ⟨k,p,w,[a,b]⟩,h=>by rw[OkL]at h;exact h.1.2
 | ⟨k,p,w,_::_::_::_⟩,h=>by simp[OkL]at h
theorem mXt {d:D}(h:BdL c (eX5 d)):OkL c (fXs d):=by
 unfold fXs;exact⟨⟨by simpa [eX8] using h,by simpa [eX6] using h⟩,.inl rfl⟩
theorem mXd {d:D}(h:BdL c (eX5 d))(a:1<=c):OkL c (fXf d w):=by
 unfold fXf;exact⟨⟨by simpa [eX8] using h,by simpa [eX6] using kXg a⟩,.inr (.inl rfl)⟩
theorem nXd (h:BdL c (fX0 w))(a:1<=c):OkL c (iXp w):=by
 unfold iXp;exact⟨⟨by simpa [eX8] using kXg a,by simpa [eX6] using h⟩,.inr (.inr rfl)⟩
theorem lXi {a:Ln}(b:k=6\/k=7)(h:OkL c a):OkL (c+1) ⟨k,rnil,[],[a]⟩:=by
 rw[OkL];refine⟨⟨?_,?_⟩,b,OkL.mono (by omega) a h⟩
 ·simp only[eX8];rw[if_pos b];exact hXf (h.src)
 ·simp only[eX6];rw[if_pos b];exact hXf (h.view)
theorem kXq {f g:Nat}{a b:Ln}(e:k=3\/k=4\/k=5)(c:OkL f a)(d:OkL g b):OkL (f+g) ⟨k,rnil,[],[a,b]⟩:=by
 rw[OkL];refine⟨⟨?_,?_⟩,e,OkL.mono (by omega) a c,OkL.mono (by omega) b d⟩
 ·simp only[eX8]
  rcases e with rfl|rfl|rfl
  ·rw[if_pos (.inl rfl)];exact jXj c.src d.src
  ·rw[if_pos (.inr rfl)];exact jXj c.src d.src
  ·rw[if_neg (by omega),if_pos rfl];exact lX0 c.src d.src
 ·simp only[eX6]
  rcases e with rfl|rfl|rfl
  ·rw[if_pos rfl];exact jXj c.view d.view
  ·rw[if_neg (by omega),if_pos rfl,Nat.add_comm];exact jXj d.view c.view
  ·rw[if_neg (by omega),if_neg (by omega),if_pos rfl];exact lX0 c.view d.view
def BnL (Q:Lu->Rl):Prop:=∀r l t,Q r=some (l,t)->∃c,r.length=t.length+c/\1<=c/\OkL c l
theorem jXs (h:OkL c l):∃a,t.length+c=(fX9 l t).2.length+a/\c<=a/\OkL a (fX9 l t).1:=by
 unfold fX9;split
 ·rename_i b
  have:=fXo b;exact⟨c+1,by dsimp only;omega,by omega,lXi (.inl rfl) h⟩
 ·exact⟨c,rfl,Nat.le_refl _,h⟩
theorem jX1:∀(r w t:Lu),fX4 r=some (w,t)->∀c,c∈w->gXu c=true
 | [],w,t,h=>by simp[fX4]at h
 | e::r,w,t,h=>by
  unfold fX4 at h;split at h
  ·simp only[Option.some.injEq,Prod.mk.injEq]at h
   obtain⟨rfl,rfl⟩:=h;intro c a;simp at a
  ·split at h
   ·cases h
   ·rename_i hs
    cases b:fX4 r with
    | none=>rw[b]at h;cases h
    | some x=>
     obtain⟨d,u⟩:=x;rw[b]at h;simp only[Option.some.injEq,Prod.mk.injEq]at h;obtain⟨rfl,rfl⟩:=h;intro c a;rcases List.mem_cons.1 a with rfl|a
     ·simp only[not_or,Bool.not_eq_false]at hs
      exact hs.1
     ·exact jX1 r d u b c a
theorem mXq (h:fX1 r=some (w,t)):∀c,c∈w->gXu c=true:=by
 unfold fX1 at h;split at h
 ·exact jX1 _ _ _ h
 ·cases h
theorem lXk (f:d<=13)(h:fXj (pat d) r=some (e,t)):∃c,r.length=t.length+c+1/\BdL (c+1) (eX5 e):=by
 unfold fXj at h;cases a:pat d r with
 | none=>rw[a]at h;cases h
 | some x=>
  obtain⟨i,u⟩:=x;rw[a]at h;dsimp only at h
  split at h
  ·rename_i g
   simp only[Option.some.injEq,Prod.mk.injEq]at h;obtain⟨rfl,rfl⟩:=h;obtain⟨c,j,b⟩:=mX8 f a;have:=fXo g;exact⟨c,by omega,b⟩
  ·cases h
theorem nXe (F:d<=13){Q:Lu->Rl}(z:BnL Q):BnL (fXk (pat d) Q):=by
 intro r l t h;cases r with
 | nil=>simp[fXk]at h
 | cons e r=>
  simp only[fXk]at h;simp only[List.length_cons];split at h
  ·cases n:fXj (pat d) r with
   | none=>rw[n]at h;cases h
   | some x=>
    obtain⟨g,u⟩:=x;rw[n]at h;simp only[Option.some.injEq]at h;obtain⟨c,y,q⟩:=lXk F n;obtain⟨p,f,E,i⟩:=jXs (t:=u) (mXt (q.mono (show c+1<=c+2 by omega)));rw[h]at f i;dsimp only at f i
    exact⟨p,by omega,by omega,i⟩
  ·split at h
   ·split at h
    ·rename_i s
     have G:=fXo s;cases n:fXj (pat d) r.tail with
     | none=>rw[n]at h;cases h
     | some x=>
      obtain⟨g,u⟩:=x;rw[n]at h;dsimp only at h
      obtain⟨c,y,q⟩:=lXk F n;cases j:fX1 u with
      | none=>rw[j]at h;cases h
      | some x=>
       obtain⟨w,v⟩:=x;rw[j]at h;simp only[Option.some.injEq,Prod.mk.injEq]at h;obtain⟨rfl,rfl⟩:=h;obtain⟨f,E⟩:=iXo j;have:=f.length_le;exact⟨r.length+1-v.length,by omega,by omega,mXd (q.mono (by omega)) (by omega)⟩
    ·cases h
   ·split at h
    ·cases j:fX1 r with
     | none=>rw[j]at h;cases h
     | some x=>
      obtain⟨w,v⟩:=x;rw[j]at h;simp only[Option.some.injEq,Prod.mk.injEq]at h;obtain⟨rfl,rfl⟩:=h;obtain⟨f,E⟩:=iXo j;exact⟨r.length+1-v.length,by omega,by omega,nXd ((lXe w (mXq j)).mono (by omega)) (by omega)⟩
    ·split at h
     ·cases o:Q r with
      | none=>rw[o]at h;cases h
      | some x=>
       obtain⟨a,u⟩:=x;rw[o]at h;dsimp only at h
       obtain⟨c,y,q,f⟩:=z _ _ _ o;split at h
       ·rename_i s
        have G:=fXo s;simp only[Option.some.injEq,Prod.mk.injEq]at h;obtain⟨rfl,rfl⟩:=h;exact⟨c+2,by omega,by omega,OkL.mono (by omega) _ (lXi (.inr rfl) f)⟩
       ·cases h
     ·split at h
      ·cases o:Q r with
       | none=>rw[o]at h;cases h
       | some x=>
        obtain⟨a,u⟩:=x;rw[o]at h;dsimp only at h
        obtain⟨c,y,q,f⟩:=z _ _ _ o;split at h
        ·rename_i s
         have G:=fXo s;cases B:Q u.tail with
         | none=>rw[B]at h;cases h
         | some x=>
          obtain⟨b,v⟩:=x;rw[B]at h;dsimp only at h
          obtain⟨C,L,M,H⟩:=z _ _ _ B;split at h
          ·rename_i A
           have K:=fXo A;simp only[Option.some.injEq]at h;obtain⟨p,i,J,m⟩:=jXs (t:=v.tail) (OkL.mono (show c+C<=c+C+3 by omega) _ (kXq (k:=4) (.inr (.inl rfl)) f H));have I:fX9 ⟨4,rnil,[],[a,b]⟩ v.tail=(l,t):=h;rw[I]at i m;dsimp only at i m
           exact⟨p,by omega,by omega,m⟩
          ·cases h
        ·split at h
         ·rename_i A
          have K:=fXo A;simp only[Option.some.injEq]at h;obtain⟨p,i,J,m⟩:=jXs (t:=u.tail) (OkL.mono (show c<=c+2 by omega) _ f);rw[h]at i m;dsimp only at i m
          exact⟨p,by omega,by omega,m⟩
         ·cases h
      ·cases h
theorem lXj {d:Nat}(j:d<=13){Q:Lu->Rl}(i:BnL Q):∀n,BnL (fXe (pat d) Q n)
 | 0,r,l,t,h=>by simp[fXe]at h
 | n+1,r,l,t,h=>by
  simp only[fXe]at h;cases e:fXk (pat d) Q r with
  | none=>rw[e]at h;cases h
  | some x=>
   obtain⟨a,s⟩:=x;rw[e]at h;dsimp only at h
   obtain⟨c,p,q,g⟩:=nXe j i _ _ _ e;split at h
   ·simp only[Option.some.injEq,Prod.mk.injEq]at h
    obtain⟨rfl,rfl⟩:=h;exact⟨c,p,q,g⟩
   ·cases f:fXe (pat d) Q n s with
    | none=>rw[f]at h;cases h
    | some x=>
     obtain⟨b,w⟩:=x;rw[f]at h;simp only[Option.some.injEq,Prod.mk.injEq]at h;obtain⟨rfl,rfl⟩:=h;obtain⟨m,u,v,o⟩:=lXj j i n _ _ _ f;exact⟨c+m,by omega,by omega,kXq (k:=3) (.inl rfl) g o⟩
theorem lXx {d:Nat}(j:d<=13){Q:Lu->Rl}(i:BnL Q):∀n,BnL (gXa (pat d) Q n)
 | 0,r,l,t,h=>by simp[gXa]at h
 | n+1,r,l,t,h=>by
  simp only[gXa]at h;cases e:fXe (pat d) Q (r.length+1) r with
  | none=>rw[e]at h;cases h
  | some x=>
   obtain⟨a,u⟩:=x;rw[e]at h;dsimp only at h
   obtain⟨c,p,q,g⟩:=lXj j i _ _ _ _ e;split at h
   ·rename_i s
    have y:=fXo s;cases f:gXa (pat d) Q n u.tail with
    | none=>rw[f]at h;cases h
    | some x=>
     obtain⟨b,z⟩:=x;rw[f]at h;simp only[Option.some.injEq,Prod.mk.injEq]at h;obtain⟨rfl,rfl⟩:=h;obtain⟨m,v,w,o⟩:=lXx j i n _ _ _ f;exact⟨c+m+1,by omega,by omega,OkL.mono (by omega) _ (kXq (k:=5) (.inr (.inr rfl)) g o)⟩
   ·simp only[Option.some.injEq,Prod.mk.injEq]at h
    obtain⟨rfl,rfl⟩:=h;exact⟨c,p,q,g⟩
theorem lX9:∀n,n<=13->BnL (fXa n)
 | 0,_,r,l,t,h=>by simp[fXa]at h
 | n+1,hn,r,l,t,h=>lXx hn (lX9 n (by omega)) _ _ _ _ h
theorem mXa (h:fXa 13 r=some (l,t))(d:r.length<=120):OkL 120 l:=by
 obtain⟨c,b,_,a⟩:=lX9 13 (Nat.le_refl _) _ _ _ h;exact OkL.mono (by omega) _ a
theorem BdL.room (h:BdL c p)(i:c<=121):Room (p::pds p)/\(p::pds p).length<=991233:=by
 have d:=h.nd;have e:=h.ks;have f:=h.hs;have a:Ls.nd p<=991232:=by omega
 have b:Ls.hs p<=121:=by omega
 have j:=Nat.mul_le_mul a b;have g:=kXa p h.ok;exact⟨Ls.room _ h.ok (by omega) (by omega) (nXi _ h.ok),by simp;omega⟩
end Ls
namespace Go.Proofs.YtfklinjaajafgaaGreatDoor
open Ls
def K2 (p:Pat):Prop:=Ls.empty p=false/\¬fXb p (fXl p)
def B5:Ln->Prop
 | ⟨k,p,w,[]⟩=>k=1->Ls.is (eX5 p) w=true
 | ⟨_,_,_,[a]⟩=>B5 a/\K2 (eX8 a)/\K2 (eX6 a)
 | ⟨k,_,_,[a,b]⟩=>B5 a/\B5 b/\(k=3->¬fXb (eX8 a) (eX8 b)/\¬fXb (eX6 a) (eX6 b))/\(k=4->¬fXb (eX8 a) (eX8 b)/\¬fXb (eX6 b) (eX6 a))/\(k=5->¬jX2 (eX8 a) (eX8 b))
 | _=>False
end Go.Proofs.YtfklinjaajafgaaGreatDoor
