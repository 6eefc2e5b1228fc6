import Derived.Test.YtfklinjaajafgaaGreatDoorK01
set_option maxRecDepth 100000
set_option maxHeartbeats 4000000
namespace Ls
structure Ln where
 kind:Nat
 p:D
 w:List UInt8
 ls:List Ln
def eXh (d:D):Ln:=⟨0,d,[],[]⟩
def dX4 (d:D)(w:List UInt8):Ln:=⟨1,d,w,[]⟩
def hXb (w:List UInt8):Ln:=⟨2,rnil,w,[]⟩
def dXy (a b:Ln):Ln:=⟨3,rnil,[],[a,b]⟩
def dX1 (a b:Ln):Ln:=⟨4,rnil,[],[a,b]⟩
def eXc (a b:Ln):Ln:=⟨5,rnil,[],[a,b]⟩
def fX0 (a:Ln):Ln:=⟨6,rnil,[],[a]⟩
def fXf (a:Ln):Ln:=⟨7,rnil,[],[a]⟩
abbrev Rl:=Option (Ln × List UInt8)
def eXt:List UInt8->Option (List UInt8 × List UInt8)
 | []=>.none
 | c::t=>if c=34 then some ([],t) else if fXi c=false\/c=10 then .none else
  match eXt t with
  | .none=>.none
  | some (w,u)=>some (c::w,u)
def eXq (r:List UInt8):Option (List UInt8 × List UInt8):=if r.head?=some 34 then eXt r.tail else .none
def dX8 (P:List UInt8->Rd)(r:List UInt8):Rd:=
 match P r with
 | .none=>.none
 | some (d,t)=>if t.head?=some 47 then some (d,t.tail) else .none
def eXy (l:Ln)(t:List UInt8):Ln × List UInt8:=if t.head?=some 42 then (fX0 l,t.tail) else (l,t)
def dX9 (P:List UInt8->Rd)(Q:List UInt8->Rl):List UInt8->Rl
 | []=>.none
 | c::t=>
  if c=47 then
   match dX8 P t with
   | .none=>.none
   | some (d,u)=>some (eXy (eXh d) u)
  else if c=45 then
   if t.head?=some 47 then
    match dX8 P t.tail with
    | .none=>.none
    | some (d,u)=>
     match eXq u with
     | .none=>.none
     | some (w,v)=>some (dX4 d w,v)
   else .none
  else if c=43 then
   match eXq t with
   | .none=>.none
   | some (w,v)=>some (hXb w,v)
  else if c=60 then
   match Q t with
   | .none=>.none
   | some (a,u)=>if u.head?=some 62 then some (fXf a,u.tail) else .none
  else if c=40 then
   match Q t with
   | .none=>.none
   | some (a,u)=>
    if u.head?=some 126 then
     match Q u.tail with
     | .none=>.none
     | some (b,v)=>if v.head?=some 41 then some (eXy (dX1 a b) v.tail) else .none
    else if u.head?=some 41 then some (eXy a u.tail) else .none
  else .none
def fXs:List UInt8->Bool
 | []=>true
 | c::_=>c==124||c==41||c==62||c==126
def dX3 (P:List UInt8->Rd)(Q:List UInt8->Rl):Nat->List UInt8->Rl
 | 0,_=>.none
 | n+1,r=>
  match dX9 P Q r with
  | .none=>.none
  | some (a,r1)=>
   if fXs r1=true then some (a,r1) else
   match dX3 P Q n r1 with
   | .none=>.none
   | some (b,r2)=>some (dXy a b,r2)
def eXz (P:List UInt8->Rd)(Q:List UInt8->Rl):Nat->List UInt8->Rl
 | 0,_=>.none
 | n+1,r=>
  match dX3 P Q (r.length+1) r with
  | .none=>.none
  | some (a,r1)=>
   if r1.head?=some 124 then
    match eXz P Q n r1.tail with
    | .none=>.none
    | some (b,r3)=>some (eXc a b,r3)
   else some (a,r1)
def dXz:Nat->List UInt8->Rl
 | 0,_=>.none
 | d+1,r=>eXz (pat (d+1)) (dXz d) (r.length+1) r
def dXw:Ln->Nat
 | ⟨_,p,w,[]⟩=>dsize p+w.length
 | ⟨k,_,_,[a]⟩=>if k=6\/k=7 then dXw a+1 else 0
 | ⟨_,_,_,[a,b]⟩=>dXw a+dXw b
 | _=>0
theorem gXu (d:D):dXw (eXh d)=dsize d:=by simp[eXh,dXw]
theorem gXi (d:D)(w:List UInt8):dXw (dX4 d w)=dsize d+w.length:=by simp[dX4,dXw]
theorem hXh (w:List UInt8):dXw (hXb w)=w.length:=by simp[hXb,dXw,eX6]
theorem gXq (a b:Ln):dXw (dXy a b)=dXw a+dXw b:=by simp[dXy,dXw]
theorem fX6 (a b:Ln):dXw (dX1 a b)=dXw a+dXw b:=by simp[dX1,dXw]
theorem gX6 (a b:Ln):dXw (eXc a b)=dXw a+dXw b:=by simp[eXc,dXw]
theorem fX7 (a:Ln):dXw (fX0 a)=dXw a+1:=by simp[fX0,dXw]
theorem gXv (a:Ln):dXw (fXf a)=dXw a+1:=by simp[fXf,dXw]
end Ls
namespace Ls
def SzP (P:List UInt8->Rd):Prop:=∀r d t,P r=some (d,t)->t <:+ r/\dsize d+t.length<=r.length
def SzL (Q:List UInt8->Rl):Prop:=∀r l t,Q r=some (l,t)->t <:+ r/\dXw l+t.length<=r.length
theorem gXa (n:Nat):SzP (pat n):=fun _ _ _ h=>⟨fXz _ _ _ _ h,fX9 _ _ _ _ h⟩
theorem fXu (t:List UInt8):t.tail <:+ t:=List.tail_suffix t
theorem eXd {t:List UInt8}{c:UInt8}(h:t.head?=some c):t.tail.length+1=t.length:=by
 cases t with
 | nil=>simp at h
 | cons a r=>simp
theorem gXx {P:List UInt8->Rd}(hP:SzP P){r:List UInt8}{d:D}{t:List UInt8}(h:dX8 P r=some (d,t)):t <:+ r/\dsize d+t.length+1<=r.length:=by
 unfold dX8 at h;cases hp:P r with
 | none=>rw[hp]at h;cases h
 | some x=>
  obtain⟨d',u⟩:=x;rw[hp]at h;dsimp only at h
  split at h
  ·rename_i hh
   simp only[Option.some.injEq,Prod.mk.injEq]at h;obtain⟨rfl,rfl⟩:=h;obtain⟨h1,h2⟩:=hP _ _ _ hp;have:=eXd hh;exact⟨(fXu u).trans h1,by omega⟩
  ·cases h
theorem jXr:∀(r w t:List UInt8),eXt r=some (w,t)->t <:+ r/\w.length+t.length+1<=r.length
 | [],w,t,h=>by simp[eXt]at h
 | c::r,w,t,h=>by
  unfold eXt at h;split at h
  ·simp only[Option.some.injEq,Prod.mk.injEq]at h
   obtain⟨rfl,rfl⟩:=h;exact⟨List.suffix_cons _ _,by simp⟩
  ·split at h
   ·cases h
   ·cases hw:eXt r with
    | none=>rw[hw]at h;cases h
    | some x=>
     obtain⟨w',u⟩:=x;rw[hw]at h;simp only[Option.some.injEq,Prod.mk.injEq]at h;obtain⟨rfl,rfl⟩:=h;obtain⟨h1,h2⟩:=jXr r w' u hw;exact⟨h1.trans (List.suffix_cons _ _),by simp;omega⟩
theorem hXa {r w t:List UInt8}(h:eXq r=some (w,t)):t <:+ r/\w.length+t.length+2<=r.length:=by
 unfold eXq at h;split at h
 ·rename_i hh
  obtain⟨h1,h2⟩:=jXr _ _ _ h;have:=eXd hh;exact⟨h1.trans (fXu r),by omega⟩
 ·cases h
theorem iX1 (l:Ln)(t:List UInt8):(eXy l t).2 <:+ t/\dXw (eXy l t).1+(eXy l t).2.length=dXw l+t.length:=by
 unfold eXy;split
 ·rename_i hh
  have:=eXd hh;exact⟨fXu t,by rw[fX7];dsimp only;omega⟩
 ·exact⟨List.suffix_refl _,rfl⟩
theorem iXj {P:List UInt8->Rd}{Q:List UInt8->Rl}(hP:SzP P)(hQ:SzL Q){r:List UInt8}{l:Ln}{t:List UInt8}(h:dX9 P Q r=some (l,t)):t <:+ r/\dXw l+t.length<=r.length/\t.length<r.length:=by
 cases r with
 | nil=>simp[dX9]at h
 | cons c r=>
  have hc:∀u,u <:+ r->u <:+ c::r:=fun u hu=>hu.trans (List.suffix_cons _ _);simp only[dX9]at h;split at h
  ·cases hp:dX8 P r with
   | none=>rw[hp]at h;cases h
   | some x=>
    obtain⟨d,u⟩:=x;rw[hp]at h;simp only[Option.some.injEq]at h;obtain⟨h1,h2⟩:=gXx hP hp;obtain⟨h3,h4⟩:=iX1 (eXh d) u;rw[h,gXu]at h4;rw[h]at h3;dsimp only at h3 h4
    have:=h3.length_le;exact⟨hc _ (h3.trans h1),by simp;omega,by simp;omega⟩
  ·split at h
   ·split at h
    ·rename_i hh
     have hl:=eXd hh;cases hp:dX8 P r.tail with
     | none=>rw[hp]at h;cases h
     | some x=>
      obtain⟨d,u⟩:=x;rw[hp]at h;dsimp only at h
      obtain⟨h1,h2⟩:=gXx hP hp;cases hw:eXq u with
      | none=>rw[hw]at h;cases h
      | some x=>
       obtain⟨w,v⟩:=x;rw[hw]at h;simp only[Option.some.injEq,Prod.mk.injEq]at h;obtain⟨rfl,rfl⟩:=h;obtain⟨h3,h4⟩:=hXa hw;rw[gXi];exact⟨hc _ (h3.trans (h1.trans (fXu r))),by simp;omega,by simp;omega⟩
    ·cases h
   ·split at h
    ·cases hw:eXq r with
     | none=>rw[hw]at h;cases h
     | some x=>
      obtain⟨w,v⟩:=x;rw[hw]at h;simp only[Option.some.injEq,Prod.mk.injEq]at h;obtain⟨rfl,rfl⟩:=h;obtain⟨h3,h4⟩:=hXa hw;rw[hXh];exact⟨hc _ h3,by simp;omega,by simp;omega⟩
    ·split at h
     ·cases hq:Q r with
      | none=>rw[hq]at h;cases h
      | some x=>
       obtain⟨a,u⟩:=x;rw[hq]at h;dsimp only at h
       obtain⟨h1,h2⟩:=hQ _ _ _ hq;split at h
       ·rename_i hh
        have hl:=eXd hh;simp only[Option.some.injEq,Prod.mk.injEq]at h;obtain⟨rfl,rfl⟩:=h;rw[gXv];exact⟨hc _ ((fXu u).trans h1),by simp;omega,by simp;omega⟩
       ·cases h
     ·split at h
      ·cases hq:Q r with
       | none=>rw[hq]at h;cases h
       | some x=>
        obtain⟨a,u⟩:=x;rw[hq]at h;dsimp only at h
        obtain⟨h1,h2⟩:=hQ _ _ _ hq;split at h
        ·rename_i hh
         have hl:=eXd hh;cases hq2:Q u.tail with
         | none=>rw[hq2]at h;cases h
         | some x=>
          obtain⟨b,v⟩:=x;rw[hq2]at h;dsimp only at h
          obtain⟨h3,h4⟩:=hQ _ _ _ hq2;split at h
          ·rename_i hh2
           have hl2:=eXd hh2;simp only[Option.some.injEq]at h;obtain⟨h5,h6⟩:=iX1 (dX1 a b) v.tail;rw[h,fX6]at h6;rw[h]at h5;dsimp only at h5 h6
           have:=h5.length_le;exact⟨hc _ (h5.trans ((fXu v).trans (h3.trans ((fXu u).trans h1)))),by simp;omega,by simp;omega⟩
          ·cases h
        ·split at h
         ·rename_i hh2
          have hl2:=eXd hh2;simp only[Option.some.injEq]at h;obtain⟨h5,h6⟩:=iX1 a u.tail;rw[h]at h5 h6;dsimp only at h5 h6
          have:=h5.length_le;exact⟨hc _ (h5.trans ((fXu u).trans h1)),by simp;omega,by simp;omega⟩
         ·cases h
      ·cases h
theorem hXj {P:List UInt8->Rd}{Q:List UInt8->Rl}(hP:SzP P)(hQ:SzL Q):∀n,SzL (dX3 P Q n)
 | 0,r,l,t,h=>by simp[dX3]at h
 | n+1,r,l,t,h=>by
  simp only[dX3]at h;cases hp:dX9 P Q r with
  | none=>rw[hp]at h;cases h
  | some x=>
   obtain⟨a,r1⟩:=x;rw[hp]at h;dsimp only at h
   obtain⟨h1,h2,h3⟩:=iXj hP hQ hp;split at h
   ·simp only[Option.some.injEq,Prod.mk.injEq]at h
    obtain⟨rfl,rfl⟩:=h;exact⟨h1,h2⟩
   ·cases hq:dX3 P Q n r1 with
    | none=>rw[hq]at h;cases h
    | some x=>
     obtain⟨b,r2⟩:=x;rw[hq]at h;simp only[Option.some.injEq,Prod.mk.injEq]at h;obtain⟨rfl,rfl⟩:=h;obtain⟨h4,h5⟩:=hXj hP hQ n _ _ _ hq;rw[gXq];exact⟨h4.trans h1,by omega⟩
theorem iX2 {P:List UInt8->Rd}{Q:List UInt8->Rl}(hP:SzP P)(hQ:SzL Q):∀n,SzL (eXz P Q n)
 | 0,r,l,t,h=>by simp[eXz]at h
 | n+1,r,l,t,h=>by
  simp only[eXz]at h;cases hp:dX3 P Q (r.length+1) r with
  | none=>rw[hp]at h;cases h
  | some x=>
   obtain⟨a,r1⟩:=x;rw[hp]at h;dsimp only at h
   obtain⟨h1,h2⟩:=hXj hP hQ _ _ _ _ hp;split at h
   ·rename_i hh
    have hl:=eXd hh;cases hq:eXz P Q n r1.tail with
    | none=>rw[hq]at h;cases h
    | some x=>
     obtain⟨b,r3⟩:=x;rw[hq]at h;simp only[Option.some.injEq,Prod.mk.injEq]at h;obtain⟨rfl,rfl⟩:=h;obtain⟨h4,h5⟩:=iX2 hP hQ n _ _ _ hq;rw[gX6];exact⟨h4.trans ((fXu r1).trans h1),by omega⟩
   ·simp only[Option.some.injEq,Prod.mk.injEq]at h
    obtain⟨rfl,rfl⟩:=h;exact⟨h1,h2⟩
theorem fXm:∀n,SzL (dXz n)
 | 0,r,l,t,h=>by simp[dXz]at h
 | n+1,r,l,t,h=>iX2 (gXa _) (fXm n) _ _ _ _ h
end Ls
namespace Ls
def eXp:List UInt8->Pat
 | []=>none
 | c::t=>row (set [c]) (eXp t)
def dXx:Ln->Pat
 | ⟨k,p,_,[]⟩=>if k=0\/k=1 then dXu p else none
 | ⟨k,_,_,[a]⟩=>if k=6\/k=7 then eXa (dXx a) else none
 | ⟨k,_,_,[a,b]⟩=>if k=3\/k=4 then row (dXx a) (dXx b) else if k=5 then any (dXx a) (dXx b) else none
 | _=>none
def dXv:Ln->Pat
 | ⟨k,p,w,[]⟩=>if k=0 then dXu p else if k=2 then eXp w else none
 | ⟨k,_,_,[a]⟩=>if k=6\/k=7 then eXa (dXv a) else none
 | ⟨k,_,_,[a,b]⟩=>if k=3 then row (dXv a) (dXv b) else if k=4 then row (dXv b) (dXv a) else if k=5 then any (dXv a) (dXv b) else none
 | _=>none
structure BdL (c:Nat)(p:Pat):Prop where
 ok:wf p
 nd:nd p<=c*8192
 ks:ks p+3<=c*1171456
 hs:hs p<=c
 sg:eXm p
theorem BdL.mono {c c':Nat}{p:Pat}(h:BdL c p)(hc:c<=c'):BdL c' p:=by
 exact⟨h.ok,Nat.le_trans h.nd (Nat.mul_le_mul_right _ hc),Nat.le_trans h.ks (Nat.mul_le_mul_right _ hc),Nat.le_trans h.hs hc,h.sg⟩
theorem hX8 {a b:Nat}{p q:Pat}(h:BdL a p)(k:BdL b q):BdL (a+b) (row p q):=by
 have h1:=h.nd;have h2:=h.ks;have h3:=h.hs;have k1:=k.nd;have k2:=k.ks;have k3:=k.hs;have e1:=kX1 p q;have e2:=hXg p q;have e3:=kXw p q;exact⟨eXn h.ok k.ok,by omega,by omega,by omega,hXx h.sg k.sg⟩
theorem kXp {a b:Nat}{p q:Pat}(h:BdL a p)(k:BdL b q):BdL (a+b) (any p q):=by
 have h1:=h.nd;have h2:=h.ks;have h3:=h.hs;have k1:=k.nd;have k2:=k.ks;have k3:=k.hs;exact⟨lXe h.ok k.ok,by rw[hXi];omega,by rw[hXy];omega,by rw[iXy];omega,hXw h.sg k.sg⟩
theorem fX4 {a:Nat}{p:Pat}(h:BdL a p):BdL (a+1) (eXa p):=by
 have h1:=h.nd;have h2:=h.ks;have h3:=h.hs;have e1:=fXy p;have e2:=fXl p;have e3:=hXr p;exact⟨eXl h.ok,by omega,by omega,by omega,gX9 h.sg⟩
theorem iX5 {c:Nat}(hc:1<=c):BdL c none:=⟨fXo,by rw[jXe];omega,by rw[gX5];omega,by simp[none,Ls.hs];omega,gX8⟩
theorem jX3:(w:List UInt8)->(∀c,c∈w->fXi c=true)->BdL (w.length+1) (eXp w)
 | [],_=>iX5 (by simp)
 | c::t,h=>by
  have h1:BdL 1 (set [c]):=⟨jXq (.inl ⟨c,rfl⟩),by rw[jX6];omega,by rw[iXd];show 1+3+3<=1*1171456;omega,by simp[set,Ls.hs],gXb (fun d hd=>by simp at hd;subst hd;exact h d (by simp))⟩;have h2:=jX3 t (fun d hd=>h d (by simp[hd]));have:=hX8 h1 h2;simp only[List.length_cons];rw[show t.length+1+1=1+(t.length+1) by omega];exact this
theorem lXx {d:Nat}(hd:d<=13){r:List UInt8}{e:D}{t:List UInt8}(h:pat d r=some (e,t)):∃c,r.length=t.length+c/\BdL (c+1) (dXu e):=by
 obtain⟨c,h1,h2,h3,h4,h5⟩:=lXu d r e t h;have hp:2 ^ d<=8192:=by
  have:=Nat.pow_le_pow_right (n:=2) (by omega) hd;exact this
 have n1:(c+1)*2 ^ d<=(c+1)*8192:=Nat.mul_le_mul_left _ hp;have n2:(c+1)*(143*2 ^ d-12)<=(c+1)*(1171456-12):=Nat.mul_le_mul_left _ (by omega);have n3:(c+1)*(1171456-12)+(c+1)*12=(c+1)*1171456:=by rw[<-Nat.mul_add]
 exact⟨c,h1,h2,by omega,by omega,h5,lXv d _ _ _ h⟩
def OkL (c:Nat):Ln->Prop
 | ⟨k,p,w,[]⟩=>(BdL c (dXx ⟨k,p,w,[]⟩)/\BdL c (dXv ⟨k,p,w,[]⟩))/\(k=0\/k=1\/k=2)
 | ⟨k,p,w,[a]⟩=>(BdL c (dXx ⟨k,p,w,[a]⟩)/\BdL c (dXv ⟨k,p,w,[a]⟩))/\(k=6\/k=7)/\OkL c a
 | ⟨k,p,w,[a,b]⟩=>(BdL c (dXx ⟨k,p,w,[a,b]⟩)/\BdL c (dXv ⟨k,p,w,[a,b]⟩))/\(k=3\/k=4\/k=5)/\OkL c a/\OkL c b
 | _=>False
theorem OkL.mono {c c':Nat}(hc:c<=c'):(l:Ln)->OkL c l->OkL c' l
 | ⟨k,p,w,[]⟩,h=>by rw[OkL]at h ⊢;exact⟨⟨h.1.1.mono hc,h.1.2.mono hc⟩,h.2⟩
 | ⟨k,p,w,[a]⟩,h=>by rw[OkL]at h ⊢;exact⟨⟨h.1.1.mono hc,h.1.2.mono hc⟩,h.2.1,OkL.mono hc a h.2.2⟩
 | ⟨k,p,w,[a,b]⟩,h=>by rw[OkL]at h ⊢;exact⟨⟨h.1.1.mono hc,h.1.2.mono hc⟩,h.2.1,OkL.mono hc a h.2.2.1,OkL.mono hc b h.2.2.2⟩
 | ⟨k,p,w,_::_::_::_⟩,h=>by simp[OkL]at h
theorem OkL.src {c:Nat}:(l:Ln)->OkL c l->BdL c (dXx l)
 | ⟨k,p,w,[]⟩,h=>by rw[OkL]at h;exact h.1.1
 | ⟨k,p,w,[a]⟩,h=>by rw[OkL]at h;exact h.1.1
 | ⟨k,p,w,[a,b]⟩,h=>by rw[OkL]at h;exact h.1.1
 | ⟨k,p,w,_::_::_::_⟩,h=>by simp[OkL]at h
theorem OkL.view {c:Nat}:(l:Ln)->OkL c l->BdL c (dXv l)
 | ⟨k,p,w,[]⟩,h=>by rw[OkL]at h;exact h.1.2
 | ⟨k,p,w,[a]⟩,h=>by rw[OkL]at h;exact h.1.2
 | ⟨k,p,w,[a,b]⟩,h=>by rw[OkL]at h;exact h.1.2
 | ⟨k,p,w,_::_::_::_⟩,h=>by simp[OkL]at h
theorem lXi {c:Nat}{d:D}(h:BdL c (dXu d)):OkL c (eXh d):=by
 unfold eXh;rw[OkL];exact⟨⟨by simpa [dXx] using h,by simpa [dXv] using h⟩,.inl rfl⟩
theorem kX2 {c:Nat}{d:D}{w:List UInt8}(h:BdL c (dXu d))(hc:1<=c):OkL c (dX4 d w):=by
 unfold dX4;rw[OkL];exact⟨⟨by simpa [dXx] using h,by simpa [dXv] using iX5 hc⟩,.inr (.inl rfl)⟩
theorem lX2 {c:Nat}{w:List UInt8}(h:BdL c (eXp w))(hc:1<=c):OkL c (hXb w):=by
 unfold hXb;rw[OkL];exact⟨⟨by simpa [dXx] using iX5 hc,by simpa [dXv] using h⟩,.inr (.inr rfl)⟩
theorem jX7 {c k:Nat}{a:Ln}(hk:k=6\/k=7)(h:OkL c a):OkL (c+1) ⟨k,rnil,[],[a]⟩:=by
 rw[OkL];refine⟨⟨?_,?_⟩,hk,OkL.mono (by omega) a h⟩
 ·simp only[dXx];rw[if_pos hk];exact fX4 (h.src)
 ·simp only[dXv];rw[if_pos hk];exact fX4 (h.view)
theorem jXf {c1 c2 k:Nat}{a b:Ln}(hk:k=3\/k=4\/k=5)(h1:OkL c1 a)(h2:OkL c2 b):OkL (c1+c2) ⟨k,rnil,[],[a,b]⟩:=by
 rw[OkL];refine⟨⟨?_,?_⟩,hk,OkL.mono (by omega) a h1,OkL.mono (by omega) b h2⟩
 ·simp only[dXx]
  rcases hk with rfl|rfl|rfl
  ·rw[if_pos (.inl rfl)];exact hX8 h1.src h2.src
  ·rw[if_pos (.inr rfl)];exact hX8 h1.src h2.src
  ·rw[if_neg (by omega),if_pos rfl];exact kXp h1.src h2.src
 ·simp only[dXv]
  rcases hk with rfl|rfl|rfl
  ·rw[if_pos rfl];exact hX8 h1.view h2.view
  ·rw[if_neg (by omega),if_pos rfl,Nat.add_comm];exact hX8 h2.view h1.view
  ·rw[if_neg (by omega),if_neg (by omega),if_pos rfl];exact kXp h1.view h2.view
def BnL (Q:List UInt8->Rl):Prop:=∀r l t,Q r=some (l,t)->∃c,r.length=t.length+c/\1<=c/\OkL c l
theorem iXh {c:Nat}{l:Ln}{t:List UInt8}(h:OkL c l):∃c',t.length+c=(eXy l t).2.length+c'/\c<=c'/\OkL c' (eXy l t).1:=by
 unfold eXy;split
 ·rename_i hh
  have:=eXd hh;exact⟨c+1,by dsimp only;omega,by omega,jX7 (.inl rfl) h⟩
 ·exact⟨c,rfl,Nat.le_refl _,h⟩
theorem iXq:∀(r w t:List UInt8),eXt r=some (w,t)->∀c,c∈w->fXi c=true
 | [],w,t,h=>by simp[eXt]at h
 | e::r,w,t,h=>by
  unfold eXt at h;split at h
  ·simp only[Option.some.injEq,Prod.mk.injEq]at h
   obtain⟨rfl,rfl⟩:=h;intro c hc;simp at hc
  ·split at h
   ·cases h
   ·rename_i hs
    cases hw:eXt r with
    | none=>rw[hw]at h;cases h
    | some x=>
     obtain⟨w',u⟩:=x;rw[hw]at h;simp only[Option.some.injEq,Prod.mk.injEq]at h;obtain⟨rfl,rfl⟩:=h;intro c hc;rcases List.mem_cons.1 hc with rfl|hc
     ·simp only[not_or,Bool.not_eq_false]at hs
      exact hs.1
     ·exact iXq r w' u hw c hc
theorem lXf {r w t:List UInt8}(h:eXq r=some (w,t)):∀c,c∈w->fXi c=true:=by
 unfold eXq at h;split at h
 ·exact iXq _ _ _ h
 ·cases h
theorem jX9 {d:Nat}(hd:d<=13){r:List UInt8}{e:D}{t:List UInt8}(h:dX8 (pat d) r=some (e,t)):∃c,r.length=t.length+c+1/\BdL (c+1) (dXu e):=by
 unfold dX8 at h;cases hp:pat d r with
 | none=>rw[hp]at h;cases h
 | some x=>
  obtain⟨d',u⟩:=x;rw[hp]at h;dsimp only at h
  split at h
  ·rename_i hh
   simp only[Option.some.injEq,Prod.mk.injEq]at h;obtain⟨rfl,rfl⟩:=h;obtain⟨c,h1,h2⟩:=lXx hd hp;have:=eXd hh;exact⟨c,by omega,h2⟩
  ·cases h
theorem lX3 {d:Nat}(hd:d<=13){Q:List UInt8->Rl}(hQ:BnL Q):BnL (dX9 (pat d) Q):=by
 intro r l t h;cases r with
 | nil=>simp[dX9]at h
 | cons e r=>
  simp only[dX9]at h;simp only[List.length_cons];split at h
  ·cases hp:dX8 (pat d) r with
   | none=>rw[hp]at h;cases h
   | some x=>
    obtain⟨g,u⟩:=x;rw[hp]at h;simp only[Option.some.injEq]at h;obtain⟨c,h1,h2⟩:=jX9 hd hp;obtain⟨c',h3,h4,h5⟩:=iXh (t:=u) (lXi (h2.mono (show c+1<=c+2 by omega)));rw[h]at h3 h5;dsimp only at h3 h5
    exact⟨c',by omega,by omega,h5⟩
  ·split at h
   ·split at h
    ·rename_i hh
     have hl:=eXd hh;cases hp:dX8 (pat d) r.tail with
     | none=>rw[hp]at h;cases h
     | some x=>
      obtain⟨g,u⟩:=x;rw[hp]at h;dsimp only at h
      obtain⟨c,h1,h2⟩:=jX9 hd hp;cases hw:eXq u with
      | none=>rw[hw]at h;cases h
      | some x=>
       obtain⟨w,v⟩:=x;rw[hw]at h;simp only[Option.some.injEq,Prod.mk.injEq]at h;obtain⟨rfl,rfl⟩:=h;obtain⟨h3,h4⟩:=hXa hw;have:=h3.length_le;exact⟨r.length+1-v.length,by omega,by omega,kX2 (h2.mono (by omega)) (by omega)⟩
    ·cases h
   ·split at h
    ·cases hw:eXq r with
     | none=>rw[hw]at h;cases h
     | some x=>
      obtain⟨w,v⟩:=x;rw[hw]at h;simp only[Option.some.injEq,Prod.mk.injEq]at h;obtain⟨rfl,rfl⟩:=h;obtain⟨h3,h4⟩:=hXa hw;exact⟨r.length+1-v.length,by omega,by omega,lX2 ((jX3 w (lXf hw)).mono (by omega)) (by omega)⟩
    ·split at h
     ·cases hq:Q r with
      | none=>rw[hq]at h;cases h
      | some x=>
       obtain⟨a,u⟩:=x;rw[hq]at h;dsimp only at h
       obtain⟨c,h1,h2,h3⟩:=hQ _ _ _ hq;split at h
       ·rename_i hh
        have hl:=eXd hh;simp only[Option.some.injEq,Prod.mk.injEq]at h;obtain⟨rfl,rfl⟩:=h;exact⟨c+2,by omega,by omega,OkL.mono (by omega) _ (jX7 (.inr rfl) h3)⟩
       ·cases h
     ·split at h
      ·cases hq:Q r with
       | none=>rw[hq]at h;cases h
       | some x=>
        obtain⟨a,u⟩:=x;rw[hq]at h;dsimp only at h
        obtain⟨c,h1,h2,h3⟩:=hQ _ _ _ hq;split at h
        ·rename_i hh
         have hl:=eXd hh;cases hq2:Q u.tail with
         | none=>rw[hq2]at h;cases h
         | some x=>
          obtain⟨b,v⟩:=x;rw[hq2]at h;dsimp only at h
          obtain⟨c2,g1,g2,g3⟩:=hQ _ _ _ hq2;split at h
          ·rename_i hh2
           have hl2:=eXd hh2;simp only[Option.some.injEq]at h;obtain⟨c',h5,h6,h7⟩:=iXh (t:=v.tail) (OkL.mono (show c+c2<=c+c2+3 by omega) _ (jXf (k:=4) (.inr (.inl rfl)) h3 g3));have h':eXy ⟨4,rnil,[],[a,b]⟩ v.tail=(l,t):=h;rw[h']at h5 h7;dsimp only at h5 h7
           exact⟨c',by omega,by omega,h7⟩
          ·cases h
        ·split at h
         ·rename_i hh2
          have hl2:=eXd hh2;simp only[Option.some.injEq]at h;obtain⟨c',h5,h6,h7⟩:=iXh (t:=u.tail) (OkL.mono (show c<=c+2 by omega) _ h3);rw[h]at h5 h7;dsimp only at h5 h7
          exact⟨c',by omega,by omega,h7⟩
         ·cases h
      ·cases h
theorem jX8 {d:Nat}(hd:d<=13){Q:List UInt8->Rl}(hQ:BnL Q):∀n,BnL (dX3 (pat d) Q n)
 | 0,r,l,t,h=>by simp[dX3]at h
 | n+1,r,l,t,h=>by
  simp only[dX3]at h;cases hp:dX9 (pat d) Q r with
  | none=>rw[hp]at h;cases h
  | some x=>
   obtain⟨a,r1⟩:=x;rw[hp]at h;dsimp only at h
   obtain⟨c,h1,h2,h3⟩:=lX3 hd hQ _ _ _ hp;split at h
   ·simp only[Option.some.injEq,Prod.mk.injEq]at h
    obtain⟨rfl,rfl⟩:=h;exact⟨c,h1,h2,h3⟩
   ·cases hq:dX3 (pat d) Q n r1 with
    | none=>rw[hq]at h;cases h
    | some x=>
     obtain⟨b,r2⟩:=x;rw[hq]at h;simp only[Option.some.injEq,Prod.mk.injEq]at h;obtain⟨rfl,rfl⟩:=h;obtain⟨c2,g1,g2,g3⟩:=jX8 hd hQ n _ _ _ hq;exact⟨c+c2,by omega,by omega,jXf (k:=3) (.inl rfl) h3 g3⟩
theorem kXm {d:Nat}(hd:d<=13){Q:List UInt8->Rl}(hQ:BnL Q):∀n,BnL (eXz (pat d) Q n)
 | 0,r,l,t,h=>by simp[eXz]at h
 | n+1,r,l,t,h=>by
  simp only[eXz]at h;cases hp:dX3 (pat d) Q (r.length+1) r with
  | none=>rw[hp]at h;cases h
  | some x=>
   obtain⟨a,r1⟩:=x;rw[hp]at h;dsimp only at h
   obtain⟨c,h1,h2,h3⟩:=jX8 hd hQ _ _ _ _ hp;split at h
   ·rename_i hh
    have hl:=eXd hh;cases hq:eXz (pat d) Q n r1.tail with
    | none=>rw[hq]at h;cases h
    | some x=>
     obtain⟨b,r3⟩:=x;rw[hq]at h;simp only[Option.some.injEq,Prod.mk.injEq]at h;obtain⟨rfl,rfl⟩:=h;obtain⟨c2,g1,g2,g3⟩:=kXm hd hQ n _ _ _ hq;exact⟨c+c2+1,by omega,by omega,OkL.mono (by omega) _ (jXf (k:=5) (.inr (.inr rfl)) h3 g3)⟩
   ·simp only[Option.some.injEq,Prod.mk.injEq]at h
    obtain⟨rfl,rfl⟩:=h;exact⟨c,h1,h2,h3⟩
theorem kXy:∀n,n<=13->BnL (dXz n)
 | 0,_,r,l,t,h=>by simp[dXz]at h
 | n+1,hn,r,l,t,h=>kXm hn (kXy n (by omega)) _ _ _ _ h
theorem kXz {r:List UInt8}{l:Ln}{t:List UInt8}(h:dXz 13 r=some (l,t))(hr:r.length<=120):OkL 120 l:=by
 obtain⟨c,h1,_,h3⟩:=kXy 13 (Nat.le_refl _) _ _ _ h;exact OkL.mono (by omega) _ h3
theorem BdL.room {c:Nat}{p:Pat}(h:BdL c p)(hc:c<=121):Room (p::pds p)/\(p::pds p).length<=991233:=by
 have h1:=h.nd;have h2:=h.ks;have h3:=h.hs;have m1:Ls.nd p<=991232:=by omega
 have m2:Ls.hs p<=121:=by omega
 have n3:=Nat.mul_le_mul m1 m2;have h4:=iXz p h.ok;exact⟨Ls.room _ h.ok (by omega) (by omega) (lX7 _ h.ok),by simp;omega⟩
end Ls
namespace Go.Proofs.YtfklinjaajafgaaGreatDoor
def J2 (p:Ls.Pat):Prop:=Ls.empty p=false/\¬Ls.dX0 p (Ls.eXa p)
def B6:Ls.Ln->Prop
 | ⟨k,p,w,[]⟩=>k=1->Ls.is (Ls.dXu p) w=true
 | ⟨_,_,_,[a]⟩=>B6 a/\J2 (Ls.dXx a)/\J2 (Ls.dXv a)
 | ⟨k,_,_,[a,b]⟩=>B6 a/\B6 b/\(k=3->¬Ls.dX0 (Ls.dXx a) (Ls.dXx b)/\¬Ls.dX0 (Ls.dXv a) (Ls.dXv b))/\(k=4->¬Ls.dX0 (Ls.dXx a) (Ls.dXx b)/\¬Ls.dX0 (Ls.dXv b) (Ls.dXv a))/\(k=5->¬Ls.iXr (Ls.dXx a) (Ls.dXx b))
 | _=>False
end Go.Proofs.YtfklinjaajafgaaGreatDoor
