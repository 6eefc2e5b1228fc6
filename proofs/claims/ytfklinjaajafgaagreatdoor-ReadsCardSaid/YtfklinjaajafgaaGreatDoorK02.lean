import Derived.Test.YtfklinjaajafgaaGreatDoorK01
set_option maxRecDepth 100000
set_option maxHeartbeats 4000000
namespace Ls
variable (d:D)(w:List UInt8)
structure Ln where
 kind:Nat
 p:D
 w:List UInt8
 ls:List Ln
def fXs (d:D):Ln:=⟨0,d,[],[]⟩
def fXf (d:D)(w:List UInt8):Ln:=⟨1,d,w,[]⟩
def iXp (w:List UInt8):Ln:=⟨2,rnil,w,[]⟩
def eX9 (a b:Ln):Ln:=⟨3,rnil,[],[a,b]⟩
def fXc (a b:Ln):Ln:=⟨4,rnil,[],[a,b]⟩
def fXn (a b:Ln):Ln:=⟨5,rnil,[],[a,b]⟩
def hXb (a:Ln):Ln:=⟨6,rnil,[],[a]⟩
def gXl (a:Ln):Ln:=⟨7,rnil,[],[a]⟩
abbrev Rl:=Option (Ln × List UInt8)
def fX4:List UInt8->Option (List UInt8 × List UInt8)
 | []=>.none
 | c::t=>if c=34 then some ([],t) else if gXu c=false\/c=10 then .none else
  match fX4 t with
  | .none=>.none
  | some (w,u)=>some (c::w,u)
def fX1 (r:List UInt8):Option (List UInt8 × List UInt8):=if r.head?=some 34 then fX4 r.tail else .none
def fXj (P:List UInt8->Rd)(r:List UInt8):Rd:=
 match P r with
 | .none=>.none
 | some (d,t)=>if t.head?=some 47 then some (d,t.tail) else .none
def fX9 (l:Ln)(t:List UInt8):Ln × List UInt8:=if t.head?=some 42 then (hXb l,t.tail) else (l,t)
def fXk (P:List UInt8->Rd)(Q:List UInt8->Rl):List UInt8->Rl
 | []=>.none
 | c::t=>
  if c=47 then
   match fXj P t with
   | .none=>.none
   | some (d,u)=>some (fX9 (fXs d) u)
  else if c=45 then
   if t.head?=some 47 then
    match fXj P t.tail with
    | .none=>.none
    | some (d,u)=>
     match fX1 u with
     | .none=>.none
     | some (w,v)=>some (fXf d w,v)
   else .none
  else if c=43 then
   match fX1 t with
   | .none=>.none
   | some (w,v)=>some (iXp w,v)
  else if c=60 then
   match Q t with
   | .none=>.none
   | some (a,u)=>if u.head?=some 62 then some (gXl a,u.tail) else .none
  else if c=40 then
   match Q t with
   | .none=>.none
   | some (a,u)=>
    if u.head?=some 126 then
     match Q u.tail with
     | .none=>.none
     | some (b,v)=>if v.head?=some 41 then some (fX9 (fXc a b) v.tail) else .none
    else if u.head?=some 41 then some (fX9 a u.tail) else .none
  else .none
def gX3:List UInt8->Bool
 | []=>true
 | c::_=>c==124||c==41||c==62||c==126
def fXe (P:List UInt8->Rd)(Q:List UInt8->Rl):Nat->List UInt8->Rl
 | 0,_=>.none
 | n+1,r=>
  match fXk P Q r with
  | .none=>.none
  | some (a,r1)=>
   if gX3 r1=true then some (a,r1) else
   match fXe P Q n r1 with
   | .none=>.none
   | some (b,r2)=>some (eX9 a b,r2)
def gXa (P:List UInt8->Rd)(Q:List UInt8->Rl):Nat->List UInt8->Rl
 | 0,_=>.none
 | n+1,r=>
  match fXe P Q (r.length+1) r with
  | .none=>.none
  | some (a,r1)=>
   if r1.head?=some 124 then
    match gXa P Q n r1.tail with
    | .none=>.none
    | some (b,r3)=>some (fXn a b,r3)
   else some (a,r1)
def fXa:Nat->List UInt8->Rl
 | 0,_=>.none
 | d+1,r=>gXa (pat (d+1)) (fXa d) (r.length+1) r
def eX7:Ln->Nat
 | ⟨_,p,w,[]⟩=>dsize p+w.length
 | ⟨k,_,_,[a]⟩=>if k=6\/k=7 then eX7 a+1 else 0
 | ⟨_,_,_,[a,b]⟩=>eX7 a+eX7 b
 | _=>0
theorem hX8:eX7 (fXs d)=dsize d:=by simp[fXs,eX7]
theorem hXt:eX7 (fXf d w)=dsize d+w.length:=by simp[fXf,eX7]
theorem iXv:eX7 (iXp w)=w.length:=by simp[iXp,eX7,gXh]
theorem hX1 (a b:Ln):eX7 (eX9 a b)=eX7 a+eX7 b:=by simp[eX9,eX7]
theorem hXh (a b:Ln):eX7 (fXc a b)=eX7 a+eX7 b:=by simp[fXc,eX7]
theorem iXk (a b:Ln):eX7 (fXn a b)=eX7 a+eX7 b:=by simp[fXn,eX7]
theorem hXi (a:Ln):eX7 (hXb a)=eX7 a+1:=by simp[hXb,eX7]
theorem hX9 (a:Ln):eX7 (gXl a)=eX7 a+1:=by simp[gXl,eX7]
end Ls
namespace Ls
variable {P:List UInt8->Rd}{r t:List UInt8}
def SzP (P:List UInt8->Rd):Prop:=∀r d t,P r=some (d,t)->t <:+ r/\dsize d+t.length<=r.length
def SzL (Q:List UInt8->Rl):Prop:=∀r l t,Q r=some (l,t)->t <:+ r/\eX7 l+t.length<=r.length
theorem hXl (n:Nat):SzP (pat n):=fun _ _ _ h=>⟨hXa _ _ _ _ h,hXk _ _ _ _ h⟩
theorem gX5 (t:List UInt8):t.tail <:+ t:=List.tail_suffix t
theorem fXo {c:UInt8}(h:t.head?=some c):t.tail.length+1=t.length:=by
 cases t with
 | nil=>simp at h
 | cons a r=>simp
theorem iXb (c:SzP P){d:D}(h:fXj P r=some (d,t)):t <:+ r/\dsize d+t.length+1<=r.length:=by
 unfold fXj at h;cases a:P r with
 | none=>rw[a]at h;cases h
 | some x=>
  obtain⟨f,u⟩:=x;rw[a]at h;dsimp only at h
  split at h
  ·rename_i e
   simp only[Option.some.injEq,Prod.mk.injEq]at h;obtain⟨rfl,rfl⟩:=h;obtain⟨b,g⟩:=c _ _ _ a;have:=fXo e;exact⟨(gX5 u).trans b,by omega⟩
  ·cases h
theorem kX2:∀(r w t:List UInt8),fX4 r=some (w,t)->t <:+ r/\w.length+t.length+1<=r.length
 | [],w,t,h=>by simp[fX4]at h
 | c::r,w,t,h=>by
  unfold fX4 at h;split at h
  ·simp only[Option.some.injEq,Prod.mk.injEq]at h
   obtain⟨rfl,rfl⟩:=h;exact⟨List.suffix_cons _ _,by simp⟩
  ·split at h
   ·cases h
   ·cases a:fX4 r with
    | none=>rw[a]at h;cases h
    | some x=>
     obtain⟨d,u⟩:=x;rw[a]at h;simp only[Option.some.injEq,Prod.mk.injEq]at h;obtain⟨rfl,rfl⟩:=h;obtain⟨b,e⟩:=kX2 r d u a;exact⟨b.trans (List.suffix_cons _ _),by simp;omega⟩
theorem iXo {w:List UInt8}(h:fX1 r=some (w,t)):t <:+ r/\w.length+t.length+2<=r.length:=by
 unfold fX1 at h;split at h
 ·rename_i b
  obtain⟨a,c⟩:=kX2 _ _ _ h;have:=fXo b;exact⟨a.trans (gX5 r),by omega⟩
 ·cases h
theorem kXc (l:Ln)(t:List UInt8):(fX9 l t).2 <:+ t/\eX7 (fX9 l t).1+(fX9 l t).2.length=eX7 l+t.length:=by
 unfold fX9;split
 ·rename_i a
  have:=fXo a;exact⟨gX5 t,by rw[hXi];dsimp only;omega⟩
 ·exact⟨List.suffix_refl _,rfl⟩
theorem jXu {Q:List UInt8->Rl}(A:SzP P)(s:SzL Q){l:Ln}(h:fXk P Q r=some (l,t)):t <:+ r/\eX7 l+t.length<=r.length/\t.length<r.length:=by
 cases r with
 | nil=>simp[fXk]at h
 | cons c r=>
  have m:∀u,u <:+ r->u <:+ c::r:=fun u E=>E.trans (List.suffix_cons _ _);simp only[fXk]at h;split at h
  ·cases i:fXj P r with
   | none=>rw[i]at h;cases h
   | some x=>
    obtain⟨d,u⟩:=x;rw[i]at h;simp only[Option.some.injEq]at h;obtain⟨g,q⟩:=iXb A i;obtain⟨e,n⟩:=kXc (fXs d) u;rw[h,hX8]at n;rw[h]at e;dsimp only at e n
    have:=e.length_le;exact⟨m _ (e.trans g),by simp;omega,by simp;omega⟩
  ·split at h
   ·split at h
    ·rename_i p
     have B:=fXo p;cases i:fXj P r.tail with
     | none=>rw[i]at h;cases h
     | some x=>
      obtain⟨d,u⟩:=x;rw[i]at h;dsimp only at h
      obtain⟨g,q⟩:=iXb A i;cases k:fX1 u with
      | none=>rw[k]at h;cases h
      | some x=>
       obtain⟨w,v⟩:=x;rw[k]at h;simp only[Option.some.injEq,Prod.mk.injEq]at h;obtain⟨rfl,rfl⟩:=h;obtain⟨e,n⟩:=iXo k;rw[hXt];exact⟨m _ (e.trans (g.trans (gX5 r))),by simp;omega,by simp;omega⟩
    ·cases h
   ·split at h
    ·cases k:fX1 r with
     | none=>rw[k]at h;cases h
     | some x=>
      obtain⟨w,v⟩:=x;rw[k]at h;simp only[Option.some.injEq,Prod.mk.injEq]at h;obtain⟨rfl,rfl⟩:=h;obtain⟨e,n⟩:=iXo k;rw[iXv];exact⟨m _ e,by simp;omega,by simp;omega⟩
    ·split at h
     ·cases j:Q r with
      | none=>rw[j]at h;cases h
      | some x=>
       obtain⟨a,u⟩:=x;rw[j]at h;dsimp only at h
       obtain⟨g,q⟩:=s _ _ _ j;split at h
       ·rename_i p
        have B:=fXo p;simp only[Option.some.injEq,Prod.mk.injEq]at h;obtain⟨rfl,rfl⟩:=h;rw[hX9];exact⟨m _ ((gX5 u).trans g),by simp;omega,by simp;omega⟩
       ·cases h
     ·split at h
      ·cases j:Q r with
       | none=>rw[j]at h;cases h
       | some x=>
        obtain⟨a,u⟩:=x;rw[j]at h;dsimp only at h
        obtain⟨g,q⟩:=s _ _ _ j;split at h
        ·rename_i p
         have B:=fXo p;cases z:Q u.tail with
         | none=>rw[z]at h;cases h
         | some x=>
          obtain⟨b,v⟩:=x;rw[z]at h;dsimp only at h
          obtain⟨e,n⟩:=s _ _ _ z;split at h
          ·rename_i y
           have C:=fXo y;simp only[Option.some.injEq]at h;obtain⟨f,o⟩:=kXc (fXc a b) v.tail;rw[h,hXh]at o;rw[h]at f;dsimp only at f o
           have:=f.length_le;exact⟨m _ (f.trans ((gX5 v).trans (e.trans ((gX5 u).trans g)))),by simp;omega,by simp;omega⟩
          ·cases h
        ·split at h
         ·rename_i y
          have C:=fXo y;simp only[Option.some.injEq]at h;obtain⟨f,o⟩:=kXc a u.tail;rw[h]at f o;dsimp only at f o
          have:=f.length_le;exact⟨m _ (f.trans ((gX5 u).trans g)),by simp;omega,by simp;omega⟩
         ·cases h
      ·cases h
theorem iXx {P:List UInt8->Rd}{Q:List UInt8->Rl}(f:SzP P)(g:SzL Q):∀n,SzL (fXe P Q n)
 | 0,r,l,t,h=>by simp[fXe]at h
 | n+1,r,l,t,h=>by
  simp only[fXe]at h;cases c:fXk P Q r with
  | none=>rw[c]at h;cases h
  | some x=>
   obtain⟨a,k⟩:=x;rw[c]at h;dsimp only at h
   obtain⟨e,i,m⟩:=jXu f g c;split at h
   ·simp only[Option.some.injEq,Prod.mk.injEq]at h
    obtain⟨rfl,rfl⟩:=h;exact⟨e,i⟩
   ·cases d:fXe P Q n k with
    | none=>rw[d]at h;cases h
    | some x=>
     obtain⟨b,p⟩:=x;rw[d]at h;simp only[Option.some.injEq,Prod.mk.injEq]at h;obtain⟨rfl,rfl⟩:=h;obtain⟨j,o⟩:=iXx f g n _ _ _ d;rw[hX1];exact⟨j.trans e,by omega⟩
theorem kXd {P:List UInt8->Rd}{Q:List UInt8->Rl}(f:SzP P)(g:SzL Q):∀n,SzL (gXa P Q n)
 | 0,r,l,t,h=>by simp[gXa]at h
 | n+1,r,l,t,h=>by
  simp only[gXa]at h;cases c:fXe P Q (r.length+1) r with
  | none=>rw[c]at h;cases h
  | some x=>
   obtain⟨a,i⟩:=x;rw[c]at h;dsimp only at h
   obtain⟨e,j⟩:=iXx f g _ _ _ _ c;split at h
   ·rename_i m
    have p:=fXo m;cases d:gXa P Q n i.tail with
    | none=>rw[d]at h;cases h
    | some x=>
     obtain⟨b,q⟩:=x;rw[d]at h;simp only[Option.some.injEq,Prod.mk.injEq]at h;obtain⟨rfl,rfl⟩:=h;obtain⟨k,o⟩:=kXd f g n _ _ _ d;rw[iXk];exact⟨k.trans ((gX5 i).trans e),by omega⟩
   ·simp only[Option.some.injEq,Prod.mk.injEq]at h
    obtain⟨rfl,rfl⟩:=h;exact⟨e,j⟩
theorem gXx:∀n,SzL (fXa n)
 | 0,r,l,t,h=>by simp[fXa]at h
 | n+1,r,l,t,h=>kXd (hXl _) (gXx n) _ _ _ _ h
end Ls
namespace Ls
variable {a b c d k:Nat}{e:D}{l:Ln}{p q:Pat}{r t w:List UInt8}
def fX0:List UInt8->Pat
 | []=>none
 | c::t=>row (set [c]) (fX0 t)
def eX8:Ln->Pat
 | ⟨k,p,_,[]⟩=>if k=0\/k=1 then eX5 p else none
 | ⟨k,_,_,[a]⟩=>if k=6\/k=7 then fXl (eX8 a) else none
 | ⟨k,_,_,[a,b]⟩=>if k=3\/k=4 then row (eX8 a) (eX8 b) else if k=5 then any (eX8 a) (eX8 b) else none
 | _=>none
def eX6:Ln->Pat
 | ⟨k,p,w,[]⟩=>if k=0 then eX5 p else if k=2 then fX0 w else none
 | ⟨k,_,_,[a]⟩=>if k=6\/k=7 then fXl (eX6 a) else none
 | ⟨k,_,_,[a,b]⟩=>if k=3 then row (eX6 a) (eX6 b) else if k=4 then row (eX6 b) (eX6 a) else if k=5 then any (eX6 a) (eX6 b) else none
 | _=>none
structure BdL (c:Nat)(p:Pat):Prop where
 ok:wf p
 nd:nd p<=c*8192
 ks:ks p+3<=c*1171456
 hs:hs p<=c
 sg:fXx p
theorem BdL.mono {b:Nat}(h:BdL c p)(a:c<=b):BdL b p:=by
 exact⟨h.ok,Nat.le_trans h.nd (Nat.mul_le_mul_right _ a),Nat.le_trans h.ks (Nat.mul_le_mul_right _ a),Nat.le_trans h.hs a,h.sg⟩
theorem jXj (h:BdL a p)(k:BdL b q):BdL (a+b) (row p q):=by
 have f:=h.nd;have g:=h.ks;have i:=h.hs;have j:=k.nd;have l:=k.ks;have m:=k.hs;have c:=mXc p q;have d:=iXu p q;have e:=lX7 p q;exact⟨fXy h.ok k.ok,by omega,by omega,by omega,jXb h.sg k.sg⟩
theorem lX0 (h:BdL a p)(k:BdL b q):BdL (a+b) (any p q):=by
 have c:=h.nd;have d:=h.ks;have e:=h.hs;have f:=k.nd;have g:=k.ks;have i:=k.hs;exact⟨mXp h.ok k.ok,by rw[iXw];omega,by rw[jXc];omega,by rw[jX9];omega,jXa h.sg k.sg⟩
theorem hXf (h:BdL a p):BdL (a+1) (fXl p):=by
 have e:=h.nd;have f:=h.ks;have g:=h.hs;have b:=gX9 p;have c:=gXw p;have d:=iX5 p;exact⟨fXw h.ok,by omega,by omega,by omega,iXn h.sg⟩
theorem kXg (hc:1<=c):BdL c none:=⟨gXz,by rw[kXp];omega,by rw[iXj];omega,by simp[none,Ls.hs];omega,iXm⟩
theorem lXe:(w:List UInt8)->(∀c,c∈w->gXu c=true)->BdL (w.length+1) (fX0 w)
 | [],_=>kXg (by simp)
 | c::t,h=>by
  have b:BdL 1 (set [c]):=⟨kX1 (.inl ⟨c,rfl⟩),by rw[lXh];omega,by rw[jXo];show 1+3+3<=1*1171456;omega,by simp[set,Ls.hs],hXm (fun d a=>by simp at a;subst a;exact h d (by simp))⟩;have e:=lXe t (fun d a=>h d (by simp[a]));have:=jXj b e;simp only[List.length_cons];rw[show t.length+1+1=1+(t.length+1) by omega];exact this
theorem mX8 (g:d<=13)(h:pat d r=some (e,t)):∃c,r.length=t.length+c/\BdL (c+1) (eX5 e):=by
 obtain⟨c,a,b,j,k,f⟩:=mX5 d r e t h;have i:2 ^ d<=8192:=by
  have:=Nat.pow_le_pow_right (n:=2) (by omega) g;exact this
 have l:(c+1)*2 ^ d<=(c+1)*8192:=Nat.mul_le_mul_left _ i;have m:(c+1)*(143*2 ^ d-12)<=(c+1)*(1171456-12):=Nat.mul_le_mul_left _ (by omega);have o:(c+1)*(1171456-12)+(c+1)*12=(c+1)*1171456:=by rw[<-Nat.mul_add]
 exact⟨c,a,b,by omega,by omega,f,mX6 d _ _ _ h⟩
def OkL (c:Nat):Ln->Prop
 | ⟨k,p,w,[]⟩=>(BdL c (eX8 ⟨k,p,w,[]⟩)/\BdL c (eX6 ⟨k,p,w,[]⟩))/\(k=0\/k=1\/k=2)
 | ⟨k,p,w,[a]⟩=>(BdL c (eX8 ⟨k,p,w,[a]⟩)/\BdL c (eX6 ⟨k,p,w,[a]⟩))/\(k=6\/k=7)/\OkL c a
 | ⟨k,p,w,[a,b]⟩=>(BdL c (eX8 ⟨k,p,w,[a,b]⟩)/\BdL c (eX6 ⟨k,p,w,[a,b]⟩))/\(k=3\/k=4\/k=5)/\OkL c a/\OkL c b
 | _=>False
theorem OkL.mono {c e:Nat}(d:c<=e):(l:Ln)->OkL c l->OkL e l
 | ⟨k,p,w,[]⟩,h=>by rw[OkL]at h ⊢;exact⟨⟨h.1.1.mono d,h.1.2.mono d⟩,h.2⟩
 | ⟨k,p,w,[a]⟩,h=>by rw[OkL]at h ⊢;exact⟨⟨h.1.1.mono d,h.1.2.mono d⟩,h.2.1,OkL.mono d a h.2.2⟩
 | ⟨k,p,w,[a,b]⟩,h=>by rw[OkL]at h ⊢;exact⟨⟨h.1.1.mono d,h.1.2.mono d⟩,h.2.1,OkL.mono d a h.2.2.1,OkL.mono d b h.2.2.2⟩
 | ⟨k,p,w,_::_::_::_⟩,h=>by simp[OkL]at h
theorem OkL.src {c:Nat}:(l:Ln)->OkL c l->BdL c (eX8 l)
 | ⟨k,p,w,[]⟩,h=>by rw[OkL]at h;exact h.1.1
 | ⟨k,p,w,[a]⟩,h=>by rw[OkL]at h;exact h.1.1
 | ⟨k,p,w,[a,b]⟩,h=>by rw[OkL]at h;exact h.1.1
 | ⟨k,p,w,_::_::_::_⟩,h=>by simp[OkL]at h
theorem OkL.view {c:Nat}:(l:Ln)->OkL c l->BdL c (eX6 l)
 | ⟨k,p,w,[]⟩,h=>by rw[OkL]at h;exact h.1.2
 | ⟨k,p,w,[a]⟩,h=>by rw[OkL]at h;exact h.1.2
 | ⟨k,p,w,[a,b]⟩,h=>by rw[OkL]at h;exact h.1.2
 | ⟨k,p,w,_::_::_::_⟩,h=>by simp[OkL]at h
theorem mXt {d:D}(h:BdL c (eX5 d)):OkL c (fXs d):=by
 unfold fXs;rw[OkL];exact⟨⟨by simpa [eX8] using h,by simpa [eX6] using h⟩,.inl rfl⟩
theorem mXd {d:D}(h:BdL c (eX5 d))(a:1<=c):OkL c (fXf d w):=by
 unfold fXf;rw[OkL];exact⟨⟨by simpa [eX8] using h,by simpa [eX6] using kXg a⟩,.inr (.inl rfl)⟩
theorem nXd (h:BdL c (fX0 w))(a:1<=c):OkL c (iXp w):=by
 unfold iXp;rw[OkL];exact⟨⟨by simpa [eX8] using kXg a,by simpa [eX6] using h⟩,.inr (.inr rfl)⟩
theorem lXi {a:Ln}(b:k=6\/k=7)(h:OkL c a):OkL (c+1) ⟨k,rnil,[],[a]⟩:=by
 rw[OkL];refine⟨⟨?_,?_⟩,b,OkL.mono (by omega) a h⟩
 ·simp only[eX8];rw[if_pos b];exact hXf (h.src)
 ·simp only[eX6];rw[if_pos b];exact hXf (h.view)
theorem kXq {f g:Nat}{a b:Ln}(e:k=3\/k=4\/k=5)(c:OkL f a)(d:OkL g b):OkL (f+g) ⟨k,rnil,[],[a,b]⟩:=by
 rw[OkL];refine⟨⟨?_,?_⟩,e,OkL.mono (by omega) a c,OkL.mono (by omega) b d⟩
 ·simp only[eX8]
  rcases e with rfl|rfl|rfl
  ·rw[if_pos (.inl rfl)];exact jXj c.src d.src
  ·rw[if_pos (.inr rfl)];exact jXj c.src d.src
  ·rw[if_neg (by omega),if_pos rfl];exact lX0 c.src d.src
 ·simp only[eX6]
  rcases e with rfl|rfl|rfl
  ·rw[if_pos rfl];exact jXj c.view d.view
  ·rw[if_neg (by omega),if_pos rfl,Nat.add_comm];exact jXj d.view c.view
  ·rw[if_neg (by omega),if_neg (by omega),if_pos rfl];exact lX0 c.view d.view
def BnL (Q:List UInt8->Rl):Prop:=∀r l t,Q r=some (l,t)->∃c,r.length=t.length+c/\1<=c/\OkL c l
theorem jXs (h:OkL c l):∃a,t.length+c=(fX9 l t).2.length+a/\c<=a/\OkL a (fX9 l t).1:=by
 unfold fX9;split
 ·rename_i b
  have:=fXo b;exact⟨c+1,by dsimp only;omega,by omega,lXi (.inl rfl) h⟩
 ·exact⟨c,rfl,Nat.le_refl _,h⟩
theorem jX1:∀(r w t:List UInt8),fX4 r=some (w,t)->∀c,c∈w->gXu c=true
 | [],w,t,h=>by simp[fX4]at h
 | e::r,w,t,h=>by
  unfold fX4 at h;split at h
  ·simp only[Option.some.injEq,Prod.mk.injEq]at h
   obtain⟨rfl,rfl⟩:=h;intro c a;simp at a
  ·split at h
   ·cases h
   ·rename_i hs
    cases b:fX4 r with
    | none=>rw[b]at h;cases h
    | some x=>
     obtain⟨d,u⟩:=x;rw[b]at h;simp only[Option.some.injEq,Prod.mk.injEq]at h;obtain⟨rfl,rfl⟩:=h;intro c a;rcases List.mem_cons.1 a with rfl|a
     ·simp only[not_or,Bool.not_eq_false]at hs
      exact hs.1
     ·exact jX1 r d u b c a
theorem mXq (h:fX1 r=some (w,t)):∀c,c∈w->gXu c=true:=by
 unfold fX1 at h;split at h
 ·exact jX1 _ _ _ h
 ·cases h
theorem lXk (f:d<=13)(h:fXj (pat d) r=some (e,t)):∃c,r.length=t.length+c+1/\BdL (c+1) (eX5 e):=by
 unfold fXj at h;cases a:pat d r with
 | none=>rw[a]at h;cases h
 | some x=>
  obtain⟨i,u⟩:=x;rw[a]at h;dsimp only at h
  split at h
  ·rename_i g
   simp only[Option.some.injEq,Prod.mk.injEq]at h;obtain⟨rfl,rfl⟩:=h;obtain⟨c,j,b⟩:=mX8 f a;have:=fXo g;exact⟨c,by omega,b⟩
  ·cases h
theorem nXe (F:d<=13){Q:List UInt8->Rl}(z:BnL Q):BnL (fXk (pat d) Q):=by
 intro r l t h;cases r with
 | nil=>simp[fXk]at h
 | cons e r=>
  simp only[fXk]at h;simp only[List.length_cons];split at h
  ·cases n:fXj (pat d) r with
   | none=>rw[n]at h;cases h
   | some x=>
    obtain⟨g,u⟩:=x;rw[n]at h;simp only[Option.some.injEq]at h;obtain⟨c,y,q⟩:=lXk F n;obtain⟨p,f,E,i⟩:=jXs (t:=u) (mXt (q.mono (show c+1<=c+2 by omega)));rw[h]at f i;dsimp only at f i
    exact⟨p,by omega,by omega,i⟩
  ·split at h
   ·split at h
    ·rename_i s
     have G:=fXo s;cases n:fXj (pat d) r.tail with
     | none=>rw[n]at h;cases h
     | some x=>
      obtain⟨g,u⟩:=x;rw[n]at h;dsimp only at h
      obtain⟨c,y,q⟩:=lXk F n;cases j:fX1 u with
      | none=>rw[j]at h;cases h
      | some x=>
       obtain⟨w,v⟩:=x;rw[j]at h;simp only[Option.some.injEq,Prod.mk.injEq]at h;obtain⟨rfl,rfl⟩:=h;obtain⟨f,E⟩:=iXo j;have:=f.length_le;exact⟨r.length+1-v.length,by omega,by omega,mXd (q.mono (by omega)) (by omega)⟩
    ·cases h
   ·split at h
    ·cases j:fX1 r with
     | none=>rw[j]at h;cases h
     | some x=>
      obtain⟨w,v⟩:=x;rw[j]at h;simp only[Option.some.injEq,Prod.mk.injEq]at h;obtain⟨rfl,rfl⟩:=h;obtain⟨f,E⟩:=iXo j;exact⟨r.length+1-v.length,by omega,by omega,nXd ((lXe w (mXq j)).mono (by omega)) (by omega)⟩
    ·split at h
     ·cases o:Q r with
      | none=>rw[o]at h;cases h
      | some x=>
       obtain⟨a,u⟩:=x;rw[o]at h;dsimp only at h
       obtain⟨c,y,q,f⟩:=z _ _ _ o;split at h
       ·rename_i s
        have G:=fXo s;simp only[Option.some.injEq,Prod.mk.injEq]at h;obtain⟨rfl,rfl⟩:=h;exact⟨c+2,by omega,by omega,OkL.mono (by omega) _ (lXi (.inr rfl) f)⟩
       ·cases h
     ·split at h
      ·cases o:Q r with
       | none=>rw[o]at h;cases h
       | some x=>
        obtain⟨a,u⟩:=x;rw[o]at h;dsimp only at h
        obtain⟨c,y,q,f⟩:=z _ _ _ o;split at h
        ·rename_i s
         have G:=fXo s;cases B:Q u.tail with
         | none=>rw[B]at h;cases h
         | some x=>
          obtain⟨b,v⟩:=x;rw[B]at h;dsimp only at h
          obtain⟨C,L,M,H⟩:=z _ _ _ B;split at h
          ·rename_i A
           have K:=fXo A;simp only[Option.some.injEq]at h;obtain⟨p,i,J,m⟩:=jXs (t:=v.tail) (OkL.mono (show c+C<=c+C+3 by omega) _ (kXq (k:=4) (.inr (.inl rfl)) f H));have I:fX9 ⟨4,rnil,[],[a,b]⟩ v.tail=(l,t):=h;rw[I]at i m;dsimp only at i m
           exact⟨p,by omega,by omega,m⟩
          ·cases h
        ·split at h
         ·rename_i A
          have K:=fXo A;simp only[Option.some.injEq]at h;obtain⟨p,i,J,m⟩:=jXs (t:=u.tail) (OkL.mono (show c<=c+2 by omega) _ f);rw[h]at i m;dsimp only at i m
          exact⟨p,by omega,by omega,m⟩
         ·cases h
      ·cases h
theorem lXj {d:Nat}(j:d<=13){Q:List UInt8->Rl}(i:BnL Q):∀n,BnL (fXe (pat d) Q n)
 | 0,r,l,t,h=>by simp[fXe]at h
 | n+1,r,l,t,h=>by
  simp only[fXe]at h;cases e:fXk (pat d) Q r with
  | none=>rw[e]at h;cases h
  | some x=>
   obtain⟨a,s⟩:=x;rw[e]at h;dsimp only at h
   obtain⟨c,p,q,g⟩:=nXe j i _ _ _ e;split at h
   ·simp only[Option.some.injEq,Prod.mk.injEq]at h
    obtain⟨rfl,rfl⟩:=h;exact⟨c,p,q,g⟩
   ·cases f:fXe (pat d) Q n s with
    | none=>rw[f]at h;cases h
    | some x=>
     obtain⟨b,w⟩:=x;rw[f]at h;simp only[Option.some.injEq,Prod.mk.injEq]at h;obtain⟨rfl,rfl⟩:=h;obtain⟨m,u,v,o⟩:=lXj j i n _ _ _ f;exact⟨c+m,by omega,by omega,kXq (k:=3) (.inl rfl) g o⟩
theorem lXx {d:Nat}(j:d<=13){Q:List UInt8->Rl}(i:BnL Q):∀n,BnL (gXa (pat d) Q n)
 | 0,r,l,t,h=>by simp[gXa]at h
 | n+1,r,l,t,h=>by
  simp only[gXa]at h;cases e:fXe (pat d) Q (r.length+1) r with
  | none=>rw[e]at h;cases h
  | some x=>
   obtain⟨a,u⟩:=x;rw[e]at h;dsimp only at h
   obtain⟨c,p,q,g⟩:=lXj j i _ _ _ _ e;split at h
   ·rename_i s
    have y:=fXo s;cases f:gXa (pat d) Q n u.tail with
    | none=>rw[f]at h;cases h
    | some x=>
     obtain⟨b,z⟩:=x;rw[f]at h;simp only[Option.some.injEq,Prod.mk.injEq]at h;obtain⟨rfl,rfl⟩:=h;obtain⟨m,v,w,o⟩:=lXx j i n _ _ _ f;exact⟨c+m+1,by omega,by omega,OkL.mono (by omega) _ (kXq (k:=5) (.inr (.inr rfl)) g o)⟩
   ·simp only[Option.some.injEq,Prod.mk.injEq]at h
    obtain⟨rfl,rfl⟩:=h;exact⟨c,p,q,g⟩
theorem lX9:∀n,n<=13->BnL (fXa n)
 | 0,_,r,l,t,h=>by simp[fXa]at h
 | n+1,hn,r,l,t,h=>lXx hn (lX9 n (by omega)) _ _ _ _ h
theorem mXa (h:fXa 13 r=some (l,t))(d:r.length<=120):OkL 120 l:=by
 obtain⟨c,b,_,a⟩:=lX9 13 (Nat.le_refl _) _ _ _ h;exact OkL.mono (by omega) _ a
theorem BdL.room (h:BdL c p)(i:c<=121):Room (p::pds p)/\(p::pds p).length<=991233:=by
 have d:=h.nd;have e:=h.ks;have f:=h.hs;have a:Ls.nd p<=991232:=by omega
 have b:Ls.hs p<=121:=by omega
 have j:=Nat.mul_le_mul a b;have g:=kXa p h.ok;exact⟨Ls.room _ h.ok (by omega) (by omega) (nXi _ h.ok),by simp;omega⟩
end Ls
namespace Go.Proofs.YtfklinjaajafgaaGreatDoor
def K2 (p:Ls.Pat):Prop:=Ls.empty p=false/\¬Ls.fXb p (Ls.fXl p)
def B5:Ls.Ln->Prop
 | ⟨k,p,w,[]⟩=>k=1->Ls.is (Ls.eX5 p) w=true
 | ⟨_,_,_,[a]⟩=>B5 a/\K2 (Ls.eX8 a)/\K2 (Ls.eX6 a)
 | ⟨k,_,_,[a,b]⟩=>B5 a/\B5 b/\(k=3->¬Ls.fXb (Ls.eX8 a) (Ls.eX8 b)/\¬Ls.fXb (Ls.eX6 a) (Ls.eX6 b))/\(k=4->¬Ls.fXb (Ls.eX8 a) (Ls.eX8 b)/\¬Ls.fXb (Ls.eX6 b) (Ls.eX6 a))/\(k=5->¬Ls.jX2 (Ls.eX8 a) (Ls.eX8 b))
 | _=>False
end Go.Proofs.YtfklinjaajafgaaGreatDoor
