import Derived.Test.YtcggfnlejalppaaGreatDoorK01
set_option maxRecDepth 100000
set_option maxHeartbeats 4000000
namespace Ls
structure Ln where
 kind:Nat
 p:D
 w:List UInt8
 ls:List Ln
def xQ7 (d:D):Ln:=⟨0,d,[],[]⟩
def xQk (d:D)(w:List UInt8):Ln:=⟨1,d,w,[]⟩
def zQ6 (w:List UInt8):Ln:=⟨2,rnil,w,[]⟩
def xQb (a b:Ln):Ln:=⟨3,rnil,[],[a,b]⟩
def wQ5 (a b:Ln):Ln:=⟨4,rnil,[],[a,b]⟩
def xQe (a b:Ln):Ln:=⟨5,rnil,[],[a,b]⟩
def yQp (a:Ln):Ln:=⟨6,rnil,[],[a]⟩
def bXf (a:Ln):Ln:=⟨7,rnil,[],[a]⟩
abbrev Rl:=Option (Ln × List UInt8)
def xQj:List UInt8->Option (List UInt8 × List UInt8)
 | []=>.none
 | c::t=>if c=34 then some ([],t) else if xQ6 c=false\/c=10 then .none else
  match xQj t with
  | .none=>.none
  | some (w,u)=>some (c::w,u)
def xQg (r:List UInt8):Option (List UInt8 × List UInt8):=if r.head?=some 34 then xQj r.tail else .none
def wQ4 (P:List UInt8->Rd)(r:List UInt8):Rd:=
 match P r with
 | .none=>.none
 | some (d,t)=>if t.head?=some 47 then some (d,t.tail) else .none
def xQp (l:Ln)(t:List UInt8):Ln × List UInt8:=if t.head?=some 42 then (yQp l,t.tail) else (l,t)
def wQ6 (P:List UInt8->Rd)(Q:List UInt8->Rl):List UInt8->Rl
 | []=>.none
 | c::t=>
  if c=47 then
   match wQ4 P t with
   | .none=>.none
   | some (d,u)=>some (xQp (xQ7 d) u)
  else if c=45 then
   if t.head?=some 47 then
    match wQ4 P t.tail with
    | .none=>.none
    | some (d,u)=>
     match xQg u with
     | .none=>.none
     | some (w,v)=>some (xQk d w,v)
   else .none
  else if c=43 then
   match xQg t with
   | .none=>.none
   | some (w,v)=>some (zQ6 w,v)
  else if c=60 then
   match Q t with
   | .none=>.none
   | some (a,u)=>if u.head?=some 62 then some (bXf a,u.tail) else .none
  else if c=40 then
   match Q t with
   | .none=>.none
   | some (a,u)=>
    if u.head?=some 126 then
     match Q u.tail with
     | .none=>.none
     | some (b,v)=>if v.head?=some 41 then some (xQp (wQ5 a b) v.tail) else .none
    else if u.head?=some 41 then some (xQp a u.tail) else .none
  else .none
def yQi:List UInt8->Bool
 | []=>true
 | c::_=>c==124||c==41||c==62||c==126
def wQ0 (P:List UInt8->Rd)(Q:List UInt8->Rl):Nat->List UInt8->Rl
 | 0,_=>.none
 | n+1,r=>
  match wQ6 P Q r with
  | .none=>.none
  | some (a,r1)=>
   if yQi r1=true then some (a,r1) else
   match wQ0 P Q n r1 with
   | .none=>.none
   | some (b,r2)=>some (xQb a b,r2)
def xQo (P:List UInt8->Rd)(Q:List UInt8->Rl):Nat->List UInt8->Rl
 | 0,_=>.none
 | n+1,r=>
  match wQ0 P Q (r.length+1) r with
  | .none=>.none
  | some (a,r1)=>
   if r1.head?=some 124 then
    match xQo P Q n r1.tail with
    | .none=>.none
    | some (b,r3)=>some (xQe a b,r3)
   else some (a,r1)
def wQy:Nat->List UInt8->Rl
 | 0,_=>.none
 | d+1,r=>xQo (pat (d+1)) (wQy d) (r.length+1) r
def wQv:Ln->Nat
 | ⟨_,p,w,[]⟩=>dsize p+w.length
 | ⟨k,_,_,[a]⟩=>if k=6\/k=7 then wQv a+1 else 0
 | ⟨_,_,_,[a,b]⟩=>wQv a+wQv b
 | _=>0
theorem zQr (d:D):wQv (xQ7 d)=dsize d:=by simp[xQ7,wQv]
theorem yQ8 (d:D)(w:List UInt8):wQv (xQk d w)=dsize d+w.length:=by simp[xQk,wQv]
theorem aXk (w:List UInt8):wQv (zQ6 w)=w.length:=by simp[zQ6,wQv,xQv]
theorem zQg (a b:Ln):wQv (xQb a b)=wQv a+wQv b:=by simp[xQb,wQv]
theorem yQx (a b:Ln):wQv (wQ5 a b)=wQv a+wQv b:=by simp[wQ5,wQv]
theorem zQ1 (a b:Ln):wQv (xQe a b)=wQv a+wQv b:=by simp[xQe,wQv]
theorem yQu (a:Ln):wQv (yQp a)=wQv a+1:=by simp[yQp,wQv]
theorem zQu (a:Ln):wQv (bXf a)=wQv a+1:=by simp[bXf,wQv]
end Ls
namespace Ls
def SzP (P:List UInt8->Rd):Prop:=∀r d t,P r=some (d,t)->t <:+ r/\dsize d+t.length<=r.length
def SzL (Q:List UInt8->Rl):Prop:=∀r l t,Q r=some (l,t)->t <:+ r/\wQv l+t.length<=r.length
theorem yQ0 (n:Nat):SzP (pat n):=fun _ _ _ h=>⟨yQm _ _ _ _ h,yQy _ _ _ _ h⟩
theorem yQg (t:List UInt8):t.tail <:+ t:=List.tail_suffix t
theorem xQa {t:List UInt8}{c:UInt8}(h:t.head?=some c):t.tail.length+1=t.length:=by
 cases t with
 | nil=>simp at h
 | cons a r=>simp
theorem zQm {P:List UInt8->Rd}(hP:SzP P){r:List UInt8}{d:D}{t:List UInt8}(h:wQ4 P r=some (d,t)):t <:+ r/\dsize d+t.length+1<=r.length:=by
 unfold wQ4 at h;cases hp:P r with
 | none=>rw[hp]at h;cases h
 | some x=>
  obtain⟨d',u⟩:=x;rw[hp]at h;dsimp only at h
  split at h
  ·rename_i hh
   simp only[Option.some.injEq,Prod.mk.injEq]at h;obtain⟨rfl,rfl⟩:=h;obtain⟨h1,h2⟩:=hP _ _ _ hp;have:=xQa hh;exact⟨(yQg u).trans h1,by omega⟩
  ·cases h
theorem cXh:∀(r w t:List UInt8),xQj r=some (w,t)->t <:+ r/\w.length+t.length+1<=r.length
 | [],w,t,h=>by simp[xQj]at h
 | c::r,w,t,h=>by
  unfold xQj at h;split at h
  ·simp only[Option.some.injEq,Prod.mk.injEq]at h
   obtain⟨rfl,rfl⟩:=h;exact⟨List.suffix_cons _ _,by simp⟩
  ·split at h
   ·cases h
   ·cases hw:xQj r with
    | none=>rw[hw]at h;cases h
    | some x=>
     obtain⟨w',u⟩:=x;rw[hw]at h;simp only[Option.some.injEq,Prod.mk.injEq]at h;obtain⟨rfl,rfl⟩:=h;obtain⟨h1,h2⟩:=cXh r w' u hw;exact⟨h1.trans (List.suffix_cons _ _),by simp;omega⟩
theorem zQ3 {r w t:List UInt8}(h:xQg r=some (w,t)):t <:+ r/\w.length+t.length+2<=r.length:=by
 unfold xQg at h;split at h
 ·rename_i hh
  obtain⟨h1,h2⟩:=cXh _ _ _ h;have:=xQa hh;exact⟨h1.trans (yQg r),by omega⟩
 ·cases h
theorem bX0 (l:Ln)(t:List UInt8):(xQp l t).2 <:+ t/\wQv (xQp l t).1+(xQp l t).2.length=wQv l+t.length:=by
 unfold xQp;split
 ·rename_i hh
  have:=xQa hh;exact⟨yQg t,by rw[yQu];dsimp only;omega⟩
 ·exact⟨List.suffix_refl _,rfl⟩
theorem bXg {P:List UInt8->Rd}{Q:List UInt8->Rl}(hP:SzP P)(hQ:SzL Q){r:List UInt8}{l:Ln}{t:List UInt8}(h:wQ6 P Q r=some (l,t)):t <:+ r/\wQv l+t.length<=r.length/\t.length<r.length:=by
 cases r with
 | nil=>simp[wQ6]at h
 | cons c r=>
  have hc:∀u,u <:+ r->u <:+ c::r:=fun u hu=>hu.trans (List.suffix_cons _ _);simp only[wQ6]at h;split at h
  ·cases hp:wQ4 P r with
   | none=>rw[hp]at h;cases h
   | some x=>
    obtain⟨d,u⟩:=x;rw[hp]at h;simp only[Option.some.injEq]at h;obtain⟨h1,h2⟩:=zQm hP hp;obtain⟨h3,h4⟩:=bX0 (xQ7 d) u;rw[h,zQr]at h4;rw[h]at h3;dsimp only at h3 h4
    have:=h3.length_le;exact⟨hc _ (h3.trans h1),by simp;omega,by simp;omega⟩
  ·split at h
   ·split at h
    ·rename_i hh
     have hl:=xQa hh;cases hp:wQ4 P r.tail with
     | none=>rw[hp]at h;cases h
     | some x=>
      obtain⟨d,u⟩:=x;rw[hp]at h;dsimp only at h
      obtain⟨h1,h2⟩:=zQm hP hp;cases hw:xQg u with
      | none=>rw[hw]at h;cases h
      | some x=>
       obtain⟨w,v⟩:=x;rw[hw]at h;simp only[Option.some.injEq,Prod.mk.injEq]at h;obtain⟨rfl,rfl⟩:=h;obtain⟨h3,h4⟩:=zQ3 hw;rw[yQ8];exact⟨hc _ (h3.trans (h1.trans (yQg r))),by simp;omega,by simp;omega⟩
    ·cases h
   ·split at h
    ·cases hw:xQg r with
     | none=>rw[hw]at h;cases h
     | some x=>
      obtain⟨w,v⟩:=x;rw[hw]at h;simp only[Option.some.injEq,Prod.mk.injEq]at h;obtain⟨rfl,rfl⟩:=h;obtain⟨h3,h4⟩:=zQ3 hw;rw[aXk];exact⟨hc _ h3,by simp;omega,by simp;omega⟩
    ·split at h
     ·cases hq:Q r with
      | none=>rw[hq]at h;cases h
      | some x=>
       obtain⟨a,u⟩:=x;rw[hq]at h;dsimp only at h
       obtain⟨h1,h2⟩:=hQ _ _ _ hq;split at h
       ·rename_i hh
        have hl:=xQa hh;simp only[Option.some.injEq,Prod.mk.injEq]at h;obtain⟨rfl,rfl⟩:=h;rw[zQu];exact⟨hc _ ((yQg u).trans h1),by simp;omega,by simp;omega⟩
       ·cases h
     ·split at h
      ·cases hq:Q r with
       | none=>rw[hq]at h;cases h
       | some x=>
        obtain⟨a,u⟩:=x;rw[hq]at h;dsimp only at h
        obtain⟨h1,h2⟩:=hQ _ _ _ hq;split at h
        ·rename_i hh
         have hl:=xQa hh;cases hq2:Q u.tail with
         | none=>rw[hq2]at h;cases h
         | some x=>
          obtain⟨b,v⟩:=x;rw[hq2]at h;dsimp only at h
          obtain⟨h3,h4⟩:=hQ _ _ _ hq2;split at h
          ·rename_i hh2
           have hl2:=xQa hh2;simp only[Option.some.injEq]at h;obtain⟨h5,h6⟩:=bX0 (wQ5 a b) v.tail;rw[h,yQx]at h6;rw[h]at h5;dsimp only at h5 h6
           have:=h5.length_le;exact⟨hc _ (h5.trans ((yQg v).trans (h3.trans ((yQg u).trans h1)))),by simp;omega,by simp;omega⟩
          ·cases h
        ·split at h
         ·rename_i hh2
          have hl2:=xQa hh2;simp only[Option.some.injEq]at h;obtain⟨h5,h6⟩:=bX0 a u.tail;rw[h]at h5 h6;dsimp only at h5 h6
          have:=h5.length_le;exact⟨hc _ (h5.trans ((yQg u).trans h1)),by simp;omega,by simp;omega⟩
         ·cases h
      ·cases h
theorem aXf {P:List UInt8->Rd}{Q:List UInt8->Rl}(hP:SzP P)(hQ:SzL Q):∀n,SzL (wQ0 P Q n)
 | 0,r,l,t,h=>by simp[wQ0]at h
 | n+1,r,l,t,h=>by
  simp only[wQ0]at h;cases hp:wQ6 P Q r with
  | none=>rw[hp]at h;cases h
  | some x=>
   obtain⟨a,r1⟩:=x;rw[hp]at h;dsimp only at h
   obtain⟨h1,h2,h3⟩:=bXg hP hQ hp;split at h
   ·simp only[Option.some.injEq,Prod.mk.injEq]at h
    obtain⟨rfl,rfl⟩:=h;exact⟨h1,h2⟩
   ·cases hq:wQ0 P Q n r1 with
    | none=>rw[hq]at h;cases h
    | some x=>
     obtain⟨b,r2⟩:=x;rw[hq]at h;simp only[Option.some.injEq,Prod.mk.injEq]at h;obtain⟨rfl,rfl⟩:=h;obtain⟨h4,h5⟩:=aXf hP hQ n _ _ _ hq;rw[zQg];exact⟨h4.trans h1,by omega⟩
theorem bX9 {P:List UInt8->Rd}{Q:List UInt8->Rl}(hP:SzP P)(hQ:SzL Q):∀n,SzL (xQo P Q n)
 | 0,r,l,t,h=>by simp[xQo]at h
 | n+1,r,l,t,h=>by
  simp only[xQo]at h;cases hp:wQ0 P Q (r.length+1) r with
  | none=>rw[hp]at h;cases h
  | some x=>
   obtain⟨a,r1⟩:=x;rw[hp]at h;dsimp only at h
   obtain⟨h1,h2⟩:=aXf hP hQ _ _ _ _ hp;split at h
   ·rename_i hh
    have hl:=xQa hh;cases hq:xQo P Q n r1.tail with
    | none=>rw[hq]at h;cases h
    | some x=>
     obtain⟨b,r3⟩:=x;rw[hq]at h;simp only[Option.some.injEq,Prod.mk.injEq]at h;obtain⟨rfl,rfl⟩:=h;obtain⟨h4,h5⟩:=bX9 hP hQ n _ _ _ hq;rw[zQ1];exact⟨h4.trans ((yQg r1).trans h1),by omega⟩
   ·simp only[Option.some.injEq,Prod.mk.injEq]at h
    obtain⟨rfl,rfl⟩:=h;exact⟨h1,h2⟩
theorem xQ9:∀n,SzL (wQy n)
 | 0,r,l,t,h=>by simp[wQy]at h
 | n+1,r,l,t,h=>bX9 (yQ0 _) (xQ9 n) _ _ _ _ h
end Ls
namespace Ls
def xQq:List UInt8->Pat
 | []=>none
 | c::t=>row (set [c]) (xQq t)
def wQx:Ln->Pat
 | ⟨k,p,_,[]⟩=>if k=0\/k=1 then wQu p else none
 | ⟨k,_,_,[a]⟩=>if k=6\/k=7 then wQ9 (wQx a) else none
 | ⟨k,_,_,[a,b]⟩=>if k=3\/k=4 then row (wQx a) (wQx b) else if k=5 then any (wQx a) (wQx b) else none
 | _=>none
def wQw:Ln->Pat
 | ⟨k,p,w,[]⟩=>if k=0 then wQu p else if k=2 then xQq w else none
 | ⟨k,_,_,[a]⟩=>if k=6\/k=7 then wQ9 (wQw a) else none
 | ⟨k,_,_,[a,b]⟩=>if k=3 then row (wQw a) (wQw b) else if k=4 then row (wQw b) (wQw a) else if k=5 then any (wQw a) (wQw b) else none
 | _=>none
structure BdL (c:Nat)(p:Pat):Prop where
 ok:wf p
 nd:nd p<=c*8192
 ks:ks p+3<=c*1171456
 hs:hs p<=c
 sg:xQf p
theorem BdL.mono {c c':Nat}{p:Pat}(h:BdL c p)(hc:c<=c'):BdL c' p:=by
 exact⟨h.ok,Nat.le_trans h.nd (Nat.mul_le_mul_right _ hc),Nat.le_trans h.ks (Nat.mul_le_mul_right _ hc),Nat.le_trans h.hs hc,h.sg⟩
theorem aX7 {a b:Nat}{p q:Pat}(h:BdL a p)(k:BdL b q):BdL (a+b) (row p q):=by
 have h1:=h.nd;have h2:=h.ks;have h3:=h.hs;have k1:=k.nd;have k2:=k.ks;have k3:=k.hs;have e1:=eXb p q;have e2:=aXc p q;have e3:=dX6 p q;exact⟨zQe h.ok k.ok,by omega,by omega,by omega,aXr h.sg k.sg⟩
theorem dX8 {a b:Nat}{p q:Pat}(h:BdL a p)(k:BdL b q):BdL (a+b) (any p q):=by
 have h1:=h.nd;have h2:=h.ks;have h3:=h.hs;have k1:=k.nd;have k2:=k.ks;have k3:=k.hs;exact⟨dXz h.ok k.ok,by rw[aXh];omega,by rw[aXy];omega,by rw[bXu];omega,aXt h.sg k.sg⟩
theorem zQo {a:Nat}{p:Pat}(h:BdL a p):BdL (a+1) (wQ9 p):=by
 have h1:=h.nd;have h2:=h.ks;have h3:=h.hs;have e1:=yQr p;have e2:=yQa p;have e3:=aXw p;exact⟨yQz h.ok,by omega,by omega,by omega,zQ5 h.sg⟩
theorem bX8 {c:Nat}(hc:1<=c):BdL c none:=⟨aXv,by rw[bX3];omega,by rw[zQy];omega,by simp[none,Ls.hs];omega,zQz⟩
theorem cX4:(w:List UInt8)->(∀c,c∈w->xQ6 c=true)->BdL (w.length+1) (xQq w)
 | [],_=>bX8 (by simp)
 | c::t,h=>by
  have h1:BdL 1 (set [c]):=⟨eXp (.inl ⟨c,rfl⟩),by rw[cX3];omega,by rw[bXm];show 1+3+3<=1*1171456;omega,by simp[set,Ls.hs],yQ2 (fun d hd=>by simp at hd;subst hd;exact h d (by simp))⟩;have h2:=cX4 t (fun d hd=>h d (by simp[hd]));have:=aX7 h1 h2;simp only[List.length_cons];rw[show t.length+1+1=1+(t.length+1) by omega];exact this
theorem eXx {d:Nat}(hd:d<=13){r:List UInt8}{e:D}{t:List UInt8}(h:pat d r=some (e,t)):∃c,r.length=t.length+c/\BdL (c+1) (wQu e):=by
 obtain⟨c,h1,h2,h3,h4,h5⟩:=eXt d r e t h;have hp:2 ^ d<=8192:=by
  have:=Nat.pow_le_pow_right (n:=2) (by omega) hd;exact this
 have n1:(c+1)*2 ^ d<=(c+1)*8192:=Nat.mul_le_mul_left _ hp;have n2:(c+1)*(143*2 ^ d-12)<=(c+1)*(1171456-12):=Nat.mul_le_mul_left _ (by omega);have n3:(c+1)*(1171456-12)+(c+1)*12=(c+1)*1171456:=by rw[<-Nat.mul_add]
 exact⟨c,h1,h2,by omega,by omega,h5,eXo d _ _ _ h⟩
def OkL (c:Nat):Ln->Prop
 | ⟨k,p,w,[]⟩=>(BdL c (wQx ⟨k,p,w,[]⟩)/\BdL c (wQw ⟨k,p,w,[]⟩))/\(k=0\/k=1\/k=2)
 | ⟨k,p,w,[a]⟩=>(BdL c (wQx ⟨k,p,w,[a]⟩)/\BdL c (wQw ⟨k,p,w,[a]⟩))/\(k=6\/k=7)/\OkL c a
 | ⟨k,p,w,[a,b]⟩=>(BdL c (wQx ⟨k,p,w,[a,b]⟩)/\BdL c (wQw ⟨k,p,w,[a,b]⟩))/\(k=3\/k=4\/k=5)/\OkL c a/\OkL c b
 | _=>False
theorem OkL.mono {c c':Nat}(hc:c<=c'):(l:Ln)->OkL c l->OkL c' l
 | ⟨k,p,w,[]⟩,h=>by rw[OkL]at h ⊢;exact⟨⟨h.1.1.mono hc,h.1.2.mono hc⟩,h.2⟩
 | ⟨k,p,w,[a]⟩,h=>by rw[OkL]at h ⊢;exact⟨⟨h.1.1.mono hc,h.1.2.mono hc⟩,h.2.1,OkL.mono hc a h.2.2⟩
 | ⟨k,p,w,[a,b]⟩,h=>by rw[OkL]at h ⊢;exact⟨⟨h.1.1.mono hc,h.1.2.mono hc⟩,h.2.1,OkL.mono hc a h.2.2.1,OkL.mono hc b h.2.2.2⟩
 | ⟨k,p,w,_::_::_::_⟩,h=>by simp[OkL]at h
theorem OkL.src {c:Nat}:(l:Ln)->OkL c l->BdL c (wQx l)
 | ⟨k,p,w,[]⟩,h=>by rw[OkL]at h;exact h.1.1
 | ⟨k,p,w,[a]⟩,h=>by rw[OkL]at h;exact h.1.1
 | ⟨k,p,w,[a,b]⟩,h=>by rw[OkL]at h;exact h.1.1
 | ⟨k,p,w,_::_::_::_⟩,h=>by simp[OkL]at h
theorem OkL.view {c:Nat}:(l:Ln)->OkL c l->BdL c (wQw l)
 | ⟨k,p,w,[]⟩,h=>by rw[OkL]at h;exact h.1.2
 | ⟨k,p,w,[a]⟩,h=>by rw[OkL]at h;exact h.1.2
 | ⟨k,p,w,[a,b]⟩,h=>by rw[OkL]at h;exact h.1.2
 | ⟨k,p,w,_::_::_::_⟩,h=>by simp[OkL]at h
theorem eXi {c:Nat}{d:D}(h:BdL c (wQu d)):OkL c (xQ7 d):=by
 unfold xQ7;rw[OkL];exact⟨⟨by simpa [wQx] using h,by simpa [wQw] using h⟩,.inl rfl⟩
theorem dX1 {c:Nat}{d:D}{w:List UInt8}(h:BdL c (wQu d))(hc:1<=c):OkL c (xQk d w):=by
 unfold xQk;rw[OkL];exact⟨⟨by simpa [wQx] using h,by simpa [wQw] using bX8 hc⟩,.inr (.inl rfl)⟩
theorem eXw {c:Nat}{w:List UInt8}(h:BdL c (xQq w))(hc:1<=c):OkL c (zQ6 w):=by
 unfold zQ6;rw[OkL];exact⟨⟨by simpa [wQx] using bX8 hc,by simpa [wQw] using h⟩,.inr (.inr rfl)⟩
theorem cX6 {c k:Nat}{a:Ln}(hk:k=6\/k=7)(h:OkL c a):OkL (c+1) ⟨k,rnil,[],[a]⟩:=by
 rw[OkL];refine⟨⟨?_,?_⟩,hk,OkL.mono (by omega) a h⟩
 ·simp only[wQx];rw[if_pos hk];exact zQo (h.src)
 ·simp only[wQw];rw[if_pos hk];exact zQo (h.view)
theorem bXz {c1 c2 k:Nat}{a b:Ln}(hk:k=3\/k=4\/k=5)(h1:OkL c1 a)(h2:OkL c2 b):OkL (c1+c2) ⟨k,rnil,[],[a,b]⟩:=by
 rw[OkL];refine⟨⟨?_,?_⟩,hk,OkL.mono (by omega) a h1,OkL.mono (by omega) b h2⟩
 ·simp only[wQx]
  rcases hk with rfl|rfl|rfl
  ·rw[if_pos (.inl rfl)];exact aX7 h1.src h2.src
  ·rw[if_pos (.inr rfl)];exact aX7 h1.src h2.src
  ·rw[if_neg (by omega),if_pos rfl];exact dX8 h1.src h2.src
 ·simp only[wQw]
  rcases hk with rfl|rfl|rfl
  ·rw[if_pos rfl];exact aX7 h1.view h2.view
  ·rw[if_neg (by omega),if_pos rfl,Nat.add_comm];exact aX7 h2.view h1.view
  ·rw[if_neg (by omega),if_neg (by omega),if_pos rfl];exact dX8 h1.view h2.view
def BnL (Q:List UInt8->Rl):Prop:=∀r l t,Q r=some (l,t)->∃c,r.length=t.length+c/\1<=c/\OkL c l
theorem aX6 {c:Nat}{l:Ln}{t:List UInt8}(h:OkL c l):∃c',t.length+c=(xQp l t).2.length+c'/\c<=c'/\OkL c' (xQp l t).1:=by
 unfold xQp;split
 ·rename_i hh
  have:=xQa hh;exact⟨c+1,by dsimp only;omega,by omega,cX6 (.inl rfl) h⟩
 ·exact⟨c,rfl,Nat.le_refl _,h⟩
theorem bXi:∀(r w t:List UInt8),xQj r=some (w,t)->∀c,c∈w->xQ6 c=true
 | [],w,t,h=>by simp[xQj]at h
 | e::r,w,t,h=>by
  unfold xQj at h;split at h
  ·simp only[Option.some.injEq,Prod.mk.injEq]at h
   obtain⟨rfl,rfl⟩:=h;intro c hc;simp at hc
  ·split at h
   ·cases h
   ·rename_i hs
    cases hw:xQj r with
    | none=>rw[hw]at h;cases h
    | some x=>
     obtain⟨w',u⟩:=x;rw[hw]at h;simp only[Option.some.injEq,Prod.mk.injEq]at h;obtain⟨rfl,rfl⟩:=h;intro c hc;rcases List.mem_cons.1 hc with rfl|hc
     ·simp only[not_or,Bool.not_eq_false]at hs
      exact hs.1
     ·exact bXi r w' u hw c hc
theorem dXv {r w t:List UInt8}(h:xQg r=some (w,t)):∀c,c∈w->xQ6 c=true:=by
 unfold xQg at h;split at h
 ·exact bXi _ _ _ h
 ·cases h
theorem cX2 {d:Nat}(hd:d<=13){r:List UInt8}{e:D}{t:List UInt8}(h:wQ4 (pat d) r=some (e,t)):∃c,r.length=t.length+c+1/\BdL (c+1) (wQu e):=by
 unfold wQ4 at h;cases hp:pat d r with
 | none=>rw[hp]at h;cases h
 | some x=>
  obtain⟨d',u⟩:=x;rw[hp]at h;dsimp only at h
  split at h
  ·rename_i hh
   simp only[Option.some.injEq,Prod.mk.injEq]at h;obtain⟨rfl,rfl⟩:=h;obtain⟨c,h1,h2⟩:=eXx hd hp;have:=xQa hh;exact⟨c,by omega,h2⟩
  ·cases h
theorem eXu {d:Nat}(hd:d<=13){Q:List UInt8->Rl}(hQ:BnL Q):BnL (wQ6 (pat d) Q):=by
 intro r l t h;cases r with
 | nil=>simp[wQ6]at h
 | cons e r=>
  simp only[wQ6]at h;simp only[List.length_cons];split at h
  ·cases hp:wQ4 (pat d) r with
   | none=>rw[hp]at h;cases h
   | some x=>
    obtain⟨g,u⟩:=x;rw[hp]at h;simp only[Option.some.injEq]at h;obtain⟨c,h1,h2⟩:=cX2 hd hp;obtain⟨c',h3,h4,h5⟩:=aX6 (t:=u) (eXi (h2.mono (show c+1<=c+2 by omega)));rw[h]at h3 h5;dsimp only at h3 h5
    exact⟨c',by omega,by omega,h5⟩
  ·split at h
   ·split at h
    ·rename_i hh
     have hl:=xQa hh;cases hp:wQ4 (pat d) r.tail with
     | none=>rw[hp]at h;cases h
     | some x=>
      obtain⟨g,u⟩:=x;rw[hp]at h;dsimp only at h
      obtain⟨c,h1,h2⟩:=cX2 hd hp;cases hw:xQg u with
      | none=>rw[hw]at h;cases h
      | some x=>
       obtain⟨w,v⟩:=x;rw[hw]at h;simp only[Option.some.injEq,Prod.mk.injEq]at h;obtain⟨rfl,rfl⟩:=h;obtain⟨h3,h4⟩:=zQ3 hw;have:=h3.length_le;exact⟨r.length+1-v.length,by omega,by omega,dX1 (h2.mono (by omega)) (by omega)⟩
    ·cases h
   ·split at h
    ·cases hw:xQg r with
     | none=>rw[hw]at h;cases h
     | some x=>
      obtain⟨w,v⟩:=x;rw[hw]at h;simp only[Option.some.injEq,Prod.mk.injEq]at h;obtain⟨rfl,rfl⟩:=h;obtain⟨h3,h4⟩:=zQ3 hw;exact⟨r.length+1-v.length,by omega,by omega,eXw ((cX4 w (dXv hw)).mono (by omega)) (by omega)⟩
    ·split at h
     ·cases hq:Q r with
      | none=>rw[hq]at h;cases h
      | some x=>
       obtain⟨a,u⟩:=x;rw[hq]at h;dsimp only at h
       obtain⟨c,h1,h2,h3⟩:=hQ _ _ _ hq;split at h
       ·rename_i hh
        have hl:=xQa hh;simp only[Option.some.injEq,Prod.mk.injEq]at h;obtain⟨rfl,rfl⟩:=h;exact⟨c+2,by omega,by omega,OkL.mono (by omega) _ (cX6 (.inr rfl) h3)⟩
       ·cases h
     ·split at h
      ·cases hq:Q r with
       | none=>rw[hq]at h;cases h
       | some x=>
        obtain⟨a,u⟩:=x;rw[hq]at h;dsimp only at h
        obtain⟨c,h1,h2,h3⟩:=hQ _ _ _ hq;split at h
        ·rename_i hh
         have hl:=xQa hh;cases hq2:Q u.tail with
         | none=>rw[hq2]at h;cases h
         | some x=>
          obtain⟨b,v⟩:=x;rw[hq2]at h;dsimp only at h
          obtain⟨c2,g1,g2,g3⟩:=hQ _ _ _ hq2;split at h
          ·rename_i hh2
           have hl2:=xQa hh2;simp only[Option.some.injEq]at h;obtain⟨c',h5,h6,h7⟩:=aX6 (t:=v.tail) (OkL.mono (show c+c2<=c+c2+3 by omega) _ (bXz (k:=4) (.inr (.inl rfl)) h3 g3));have h':xQp ⟨4,rnil,[],[a,b]⟩ v.tail=(l,t):=h;rw[h']at h5 h7;dsimp only at h5 h7
           exact⟨c',by omega,by omega,h7⟩
          ·cases h
        ·split at h
         ·rename_i hh2
          have hl2:=xQa hh2;simp only[Option.some.injEq]at h;obtain⟨c',h5,h6,h7⟩:=aX6 (t:=u.tail) (OkL.mono (show c<=c+2 by omega) _ h3);rw[h]at h5 h7;dsimp only at h5 h7
          exact⟨c',by omega,by omega,h7⟩
         ·cases h
      ·cases h
theorem cX1 {d:Nat}(hd:d<=13){Q:List UInt8->Rl}(hQ:BnL Q):∀n,BnL (wQ0 (pat d) Q n)
 | 0,r,l,t,h=>by simp[wQ0]at h
 | n+1,r,l,t,h=>by
  simp only[wQ0]at h;cases hp:wQ6 (pat d) Q r with
  | none=>rw[hp]at h;cases h
  | some x=>
   obtain⟨a,r1⟩:=x;rw[hp]at h;dsimp only at h
   obtain⟨c,h1,h2,h3⟩:=eXu hd hQ _ _ _ hp;split at h
   ·simp only[Option.some.injEq,Prod.mk.injEq]at h
    obtain⟨rfl,rfl⟩:=h;exact⟨c,h1,h2,h3⟩
   ·cases hq:wQ0 (pat d) Q n r1 with
    | none=>rw[hq]at h;cases h
    | some x=>
     obtain⟨b,r2⟩:=x;rw[hq]at h;simp only[Option.some.injEq,Prod.mk.injEq]at h;obtain⟨rfl,rfl⟩:=h;obtain⟨c2,g1,g2,g3⟩:=cX1 hd hQ n _ _ _ hq;exact⟨c+c2,by omega,by omega,bXz (k:=3) (.inl rfl) h3 g3⟩
theorem dX0 {d:Nat}(hd:d<=13){Q:List UInt8->Rl}(hQ:BnL Q):∀n,BnL (xQo (pat d) Q n)
 | 0,r,l,t,h=>by simp[xQo]at h
 | n+1,r,l,t,h=>by
  simp only[xQo]at h;cases hp:wQ0 (pat d) Q (r.length+1) r with
  | none=>rw[hp]at h;cases h
  | some x=>
   obtain⟨a,r1⟩:=x;rw[hp]at h;dsimp only at h
   obtain⟨c,h1,h2,h3⟩:=cX1 hd hQ _ _ _ _ hp;split at h
   ·rename_i hh
    have hl:=xQa hh;cases hq:xQo (pat d) Q n r1.tail with
    | none=>rw[hq]at h;cases h
    | some x=>
     obtain⟨b,r3⟩:=x;rw[hq]at h;simp only[Option.some.injEq,Prod.mk.injEq]at h;obtain⟨rfl,rfl⟩:=h;obtain⟨c2,g1,g2,g3⟩:=dX0 hd hQ n _ _ _ hq;exact⟨c+c2+1,by omega,by omega,OkL.mono (by omega) _ (bXz (k:=5) (.inr (.inr rfl)) h3 g3)⟩
   ·simp only[Option.some.injEq,Prod.mk.injEq]at h
    obtain⟨rfl,rfl⟩:=h;exact⟨c,h1,h2,h3⟩
theorem dXl:∀n,n<=13->BnL (wQy n)
 | 0,_,r,l,t,h=>by simp[wQy]at h
 | n+1,hn,r,l,t,h=>dX0 hn (dXl n (by omega)) _ _ _ _ h
theorem eXa {r:List UInt8}{l:Ln}{t:List UInt8}(h:wQy 13 r=some (l,t))(hr:r.length<=120):OkL 120 l:=by
 obtain⟨c,h1,_,h3⟩:=dXl 13 (Nat.le_refl _) _ _ _ h;exact OkL.mono (by omega) _ h3
theorem BdL.room {c:Nat}{p:Pat}(h:BdL c p)(hc:c<=121):Room (p::pds p)/\(p::pds p).length<=991233:=by
 have h1:=h.nd;have h2:=h.ks;have h3:=h.hs;have m1:Ls.nd p<=991232:=by omega
 have m2:Ls.hs p<=121:=by omega
 have n3:=Nat.mul_le_mul m1 m2;have h4:=bXs p h.ok;exact⟨Ls.room _ h.ok (by omega) (by omega) (eX8 _ h.ok),by simp;omega⟩
end Ls
namespace Go.Proofs.YtcggfnlejalppaaGreatDoor
def I7 (p:Ls.Pat):Prop:=Ls.empty p=false/\¬Ls.wQ1 p (Ls.wQ9 p)
def B4:Ls.Ln->Prop
 | ⟨k,p,w,[]⟩=>k=1->Ls.is (Ls.wQu p) w=true
 | ⟨_,_,_,[a]⟩=>B4 a/\I7 (Ls.wQx a)/\I7 (Ls.wQw a)
 | ⟨k,_,_,[a,b]⟩=>B4 a/\B4 b/\(k=3->¬Ls.wQ1 (Ls.wQx a) (Ls.wQx b)/\¬Ls.wQ1 (Ls.wQw a) (Ls.wQw b))/\(k=4->¬Ls.wQ1 (Ls.wQx a) (Ls.wQx b)/\¬Ls.wQ1 (Ls.wQw b) (Ls.wQw a))/\(k=5->¬Ls.bXt (Ls.wQx a) (Ls.wQx b))
 | _=>False
end Go.Proofs.YtcggfnlejalppaaGreatDoor
