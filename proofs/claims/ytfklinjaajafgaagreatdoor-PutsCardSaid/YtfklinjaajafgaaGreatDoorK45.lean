import Derived.Test.YtfklinjaajafgaaGreatDoorK43
set_option maxRecDepth 100000
set_option maxHeartbeats 4000000
namespace Go.Proofs.YtfklinjaajafgaaGreatDoor
open Ls hiding none
open Go.RowKit
variable (v:Value)(l:List Ls.D)(d:Ls.D)(w:World)(B nb:Nat)(P Q:Value)(n:Net)(x:Span)(G:Nat->Prop)(ty:TypeId)(y sl:Value)(vs:List Value)
structure Ad (w W:World)(nb:Nat)(P Q:Value):Prop where
 res:W.heap[w.heap.size]?=some (.cells #[.int .u32 (0:Nat),.int .u32 (0:Nat),.bool false] 150 (0,0))
 fr:Free W nb P Q w.heap.size
theorem Ad.next {w W d:World}{a:Nat}{P Q b c:Value}(h:Ad w W a P Q)(hs:NStep W a P Q d b c):Ad w d a b c:=⟨hs.own h.fr h.res,hs.free h.fr⟩
theorem Ad.start {w:World}{B a:Nat}{P Q:Value}{n:Net}{x:Span}(h:NetL w B a P Q n x)(o:Obj):Ad w ((w.alloc (.cells #[.int .u32 (0:Nat),.int .u32 (0:Nat),.bool false] 150)).alloc o) a P Q:=by
 refine⟨?_,?_⟩
 ·rw[Below.heap_alloc _ _ _ (by simp)];exact heap_alloc_new _ _
 ·have:=h.newFree (.cells #[.int .u32 (0:Nat),.int .u32 (0:Nat),.bool false] 150)
  exact⟨by simp;omega,this.2⟩
theorem rQg:(Instr.typeAssert (.iface 180 v) 89 180 true).run Tryz.prog w=.ok (.tuple #[v,.bool true]) w:=by kernel_rfl
theorem rQi:(Instr.typeAssert (.iface 184 v) 89 184 true).run Tryz.prog w=.ok (.tuple #[v,.bool true]) w:=by kernel_rfl
theorem rQh:(Instr.typeAssert (.iface 184 v) 89 180 true).run Tryz.prog w=.ok (.tuple #[.agg #[.int .u64 0,.int .u64 0],.bool false]) w:=by kernel_rfl
theorem rQc:(Instr.typeAssert (.iface 187 v) 89 187 true).run Tryz.prog w=.ok (.tuple #[v,.bool true]) w:=by kernel_rfl
theorem rQd:(Instr.typeAssert (.iface 187 v) 89 180 true).run Tryz.prog w=.ok (.tuple #[.agg #[.int .u64 0,.int .u64 0],.bool false]) w:=by kernel_rfl
theorem rQe:(Instr.typeAssert (.iface 187 v) 89 184 true).run Tryz.prog w=.ok (.tuple #[.agg #[.slice none 0 0],.bool false]) w:=by kernel_rfl
theorem rQm:(Instr.typeAssert (.iface 189 v) 89 189 true).run Tryz.prog w=.ok (.tuple #[v,.bool true]) w:=by kernel_rfl
theorem rQk:(Instr.typeAssert (.iface 189 v) 89 180 true).run Tryz.prog w=.ok (.tuple #[.agg #[.int .u64 0,.int .u64 0],.bool false]) w:=by kernel_rfl
theorem rQl:(Instr.typeAssert (.iface 189 v) 89 184 true).run Tryz.prog w=.ok (.tuple #[.agg #[.slice none 0 0],.bool false]) w:=by kernel_rfl
theorem rQj:(Instr.typeAssert (.iface 189 v) 89 187 true).run Tryz.prog w=.ok (.tuple #[.agg #[.slice none 0 0],.bool false]) w:=by kernel_rfl
theorem qQt (h:NetL w B nb P Q n x)(A:B<=w.heap.size)(g:Lu)(lo d:Nat)(C:SB g lo d)(E:n.places.length<32) :
  Calls Tryz.prog 95 #[Pt nb,K3 lo d] w (U3 w B nb P Q x (gXk g n,hXj n.places.length)):=by
 have H:=h.lt;have i:=C6 w (.cells #[.int .u32 (0:Nat),.int .u32 (0:Nat),.bool false] 150) (.cells #[.int .u64 lo,.int .u64 d] 180);have u:=NStep.of_below nb P Q i;have q:=Ad.start h (.cells #[.int .u64 lo,.int .u64 d] 180);have s:=qQm g lo d _ B nb P Q n x (h.below i) (Lq A i.size) C E;have o:Hid _:=q;have p:Hid _:=u;have M:=rQg;go_enter Tryz.func95,Tryz.ntmps95;go_wp2_with fail;refine s.mono ?_;rintro e y ⟨k,l,rfl,t,m⟩;generalize (gXk g n,hXj n.places.length)=r at *;obtain⟨F,nx⟩:=r;have f:=o.out.next m;obtain⟨G,s1,s2,j⟩:=O3 f.res;have J:=j 0;have K:=j 1;have L:=j 2;have I:=f.fr.1;have z:Hid (∀a b c,NetL (((y.setCell ⟨w.heap.size,0,none⟩ a).setCell ⟨w.heap.size,1,none⟩ b).setCell ⟨w.heap.size,2,none⟩ c) B nb k l F x/\NStep w nb P Q (((y.setCell ⟨w.heap.size,0,none⟩ a).setCell ⟨w.heap.size,1,none⟩ b).setCell ⟨w.heap.size,2,none⟩ c) k l):=fun a b c=>aQe t (p.out.trans m) f.fr (Nat.le_refl _) a b c;go_wp2;exact bodyPost_ret (v:=T9 nx) (by simp[results,Tryz.results95,go_sem,G,s1,s2]) rfl ⟨k,l,rfl,z.out _ _ _⟩
theorem qQv (hI:∀a,a∈l->R9 a)(hln:l.length<=1048576)(h:NetL w B nb P Q n x)(hB:B<=w.heap.size)(hG:∀k,G k->Free w nb P Q k)(hs:Shows w G sl vs)(he:Each w G l vs)(hsz:n.places.length+G0 l<=31) :
  Calls Tryz.prog 95 #[.pointer (some ⟨nb,0,none⟩),P5 sl] w (U3 w B nb P Q x (Ls.go (l.foldr rcons rnil) n ⟨0,0,true⟩)):=by
 have hnl:=h.lt;have hb0:=C6 w (.cells #[.int .u32 (0:Nat),.int .u32 (0:Nat),.bool false] 150) (.cells #[sl] 184);have hst0:=NStep.of_below nb P Q hb0;have hA0:=Ad.start h (.cells #[sl] 184);have hC:=qQp l B n x G sl vs hI hln _ nb P Q (h.below hb0) (Nat.le_trans hB hb0.size) (fun k hk=>hst0.free (hG k hk)) (hs.mono (fun _ h=>h) (fun k hk=>hst0.block k (hG k hk))) (he.mono (fun _ h=>h) (fun k hk=>hst0.block k (hG k hk))) hsz;have HA:Hid _:=hA0;have HS:Hid _:=hst0;obtain⟨x1,x2,x3,rfl⟩:∃a n c,sl=.slice a n c:=by
  rcases hs.shape with⟨e,_⟩|⟨_,_,e,_⟩<;>exact⟨_,_,_,e⟩
 have t1:=rQh;have t2:=rQi;go_enter Tryz.func95,Tryz.ntmps95;go_wp2_with fail;refine hC.mono ?_;rintro e w1 ⟨P1,Q1,rfl,hN1,hst1⟩;generalize Ls.go (l.foldr rcons rnil) n ⟨0,0,true⟩=r at *;obtain⟨m1,nx⟩:=r;have hA1:=HA.out.next hst1;obtain⟨s0,s1,s2,s3⟩:=O3 hA1.res;have s30:=s3 0;have s31:=s3 1;have s32:=s3 2;have hz:=hA1.fr.1;have Hfin:Hid (∀a b c,NetL (((w1.setCell ⟨w.heap.size,0,none⟩ a).setCell ⟨w.heap.size,1,none⟩ b).setCell ⟨w.heap.size,2,none⟩ c) B nb P1 Q1 m1 x/\NStep w nb P Q (((w1.setCell ⟨w.heap.size,0,none⟩ a).setCell ⟨w.heap.size,1,none⟩ b).setCell ⟨w.heap.size,2,none⟩ c) P1 Q1):=fun a b c=>aQe hN1 (HS.out.trans hst1) hA1.fr (Nat.le_refl _) a b c;go_wp2;exact bodyPost_ret (v:=T9 nx) (by simp[results,Tryz.results95,go_sem,s0,s1,s2]) rfl ⟨P1,Q1,rfl,Hfin.out _ _ _⟩
theorem qQr (hI:∀a,a∈l->R9 a)(hln:l.length<=1048576)(h:NetL w B nb P Q n x)(hB:B<=w.heap.size)(hG:∀k,G k->Free w nb P Q k)(hs:Shows w G sl vs)(he:Each w G l vs)(hsz:n.places.length+G0 l<=31) :
  Calls Tryz.prog 95 #[.pointer (some ⟨nb,0,none⟩),bQb sl] w (U3 w B nb P Q x (Ls.go (F7 l) n ⟨0,0,false⟩)):=by
 have hnl:=h.lt;have hb0:=C6 w (.cells #[.int .u32 (0:Nat),.int .u32 (0:Nat),.bool false] 150) (.cells #[sl] 187);have hst0:=NStep.of_below nb P Q hb0;have hA0:=Ad.start h (.cells #[sl] 187);have hC:=qQg l B n x G sl vs hI hln _ nb P Q (h.below hb0) (Nat.le_trans hB hb0.size) (fun k hk=>hst0.free (hG k hk)) (hs.mono (fun _ h=>h) (fun k hk=>hst0.block k (hG k hk))) (he.mono (fun _ h=>h) (fun k hk=>hst0.block k (hG k hk))) hsz;have HA:Hid _:=hA0;have HS:Hid _:=hst0;obtain⟨x1,x2,x3,rfl⟩:∃a n c,sl=.slice a n c:=by
  rcases hs.shape with⟨e,_⟩|⟨_,_,e,_⟩<;>exact⟨_,_,_,e⟩
 have t1:=rQd;have t2:=rQe;have t3:=rQc;go_enter Tryz.func95,Tryz.ntmps95;go_wp2_with fail;refine hC.mono ?_;rintro e w1 ⟨P1,Q1,rfl,hN1,hst1⟩;generalize Ls.go (F7 l) n ⟨0,0,false⟩=r at *;obtain⟨m1,nx⟩:=r;have hA1:=HA.out.next hst1;obtain⟨s0,s1,s2,s3⟩:=O3 hA1.res;have s30:=s3 0;have s31:=s3 1;have s32:=s3 2;have hz:=hA1.fr.1;have Hfin:Hid (∀a b c,NetL (((w1.setCell ⟨w.heap.size,0,none⟩ a).setCell ⟨w.heap.size,1,none⟩ b).setCell ⟨w.heap.size,2,none⟩ c) B nb P1 Q1 m1 x/\NStep w nb P Q (((w1.setCell ⟨w.heap.size,0,none⟩ a).setCell ⟨w.heap.size,1,none⟩ b).setCell ⟨w.heap.size,2,none⟩ c) P1 Q1):=fun a b c=>aQe hN1 (HS.out.trans hst1) hA1.fr (Nat.le_refl _) a b c;go_wp2;exact bodyPost_ret (v:=T9 nx) (by simp[results,Tryz.results95,go_sem,s0,s1,s2]) rfl ⟨P1,Q1,rfl,Hfin.out _ _ _⟩
theorem qQu (t:Nat)(F:t=5\/t=6\/t=7)(a:Ls.D)(A:R9 a)(h:NetL w B nb P Q n x)(J:B<=w.heap.size)(m:∀k,G k->Free w nb P Q k)(E:Rep w G 0 a [.iface ty y])(K:n.places.length+dsize a<=31) :
  Calls Tryz.prog 95 #[Pt nb,T8 (.iface ty y) (t != 6) (t != 7)] w (U3 w B nb P Q x (Ls.add (Ls.rep t a) n)):=by
 have R:=h.lt;have f:=C6 w (.cells #[.int .u32 (0:Nat),.int .u32 (0:Nat),.bool false] 150) (.cells #[.iface ty y,.bool (t != 6),.bool (t != 7)] 189);have g:=NStep.of_below nb P Q f;have u:=Ad.start h (.cells #[.iface ty y,.bool (t != 6),.bool (t != 7)] 189);have z:=qQn a B n x G ty y t F A _ nb P Q (h.below f) (Lq J f.size) (fun k o=>g.free (m k o)) (E.mono (fun _ h=>h) (fun k o=>g.block k (m k o))) K;have q:Hid _:=u;have s:Hid _:=g;have W:=rQk;have X:=rQl;have Y:=rQj;have Z:=rQm;generalize (t != 6)=N at *;generalize (t != 7)=O at *;go_enter Tryz.func95,Tryz.ntmps95;go_wp2_with fail;refine z.mono ?_;rintro e H ⟨j,l,rfl,C,p⟩;generalize Ls.add (Ls.rep t a) n=r at *;obtain⟨L,nx⟩:=r;have d:=q.out.next p;obtain⟨M,s1,s2,i⟩:=O3 d.res;have T:=i 0;have U:=i 1;have V:=i 2;have S:=d.fr.1;have I:Hid (∀a b c,NetL (((H.setCell ⟨w.heap.size,0,none⟩ a).setCell ⟨w.heap.size,1,none⟩ b).setCell ⟨w.heap.size,2,none⟩ c) B nb j l L x/\NStep w nb P Q (((H.setCell ⟨w.heap.size,0,none⟩ a).setCell ⟨w.heap.size,1,none⟩ b).setCell ⟨w.heap.size,2,none⟩ c) j l):=fun a b c=>aQe C (s.out.trans p) d.fr (Nat.le_refl _) a b c;go_wp2;exact bodyPost_ret (v:=T9 nx) (by simp[results,Tryz.results95,go_sem,M,s1,s2]) rfl ⟨j,l,rfl,I.out _ _ _⟩
theorem iQ2 (hI:∀a,dn a<dn d->R9 a)(hlen:dn d<=1048576):R9 d:=by
 intro w B nb P Q n x G ty y hN hB hG h hsz;rcases h.at0 with⟨s,lo,hi,hS,rfl,hv⟩|⟨t,a,v',ht,h1,rfl,hv⟩|⟨sl,vs',hs,h1,hv⟩|⟨sl,vs',hs,h1,hv⟩<;>rw[hv]<;>clear h
 ·unfold Ls.add
  rw[kXj];rw[gXe]at hsz;exact qQt w B nb P Q n x hN hB s lo hi hS (by omega)
 ·obtain⟨ty',y',rfl⟩:=h1.iface
  rw[fX5]at hsz;exact qQu w B nb P Q n x G ty' y' t ht a (hI a (by rw[aQw];omega)) hN hB hG h1 hsz
 ·obtain⟨l,rfl,he⟩:=h1.things rfl
  rw[nQi]at hsz;have hl:=nQh l;unfold Ls.add;rw[mXn h1.wd rfl];exact qQv l w B nb P Q n x G sl vs' (fun a ha=>hI a (jQ8 l a ha)) (by omega) hN hB hG hs he hsz
 ·obtain⟨l,hne,rfl,he⟩:=h1.sides rfl
  rw[nQf l hne]at hsz;have hl:=jQp l;unfold Ls.add;rw[kXb h1.wd rfl];exact qQr l w B nb P Q n x G sl vs' (fun a ha=>hI a (jQ7 l a ha)) (by omega) hN hB hG hs he hsz
theorem qQq (k:Nat):∀d,dn d<=k->dn d<=1048576->R9 d:=by
 induction k with
 | zero=>intro d b h;exact iQ2 d (fun a ha=>by omega) h
 | succ k c=>intro d b h;exact iQ2 d (fun a ha=>c a (by omega) (by omega)) h
def I7:Net:=⟨[],[]⟩
def dQo:Span:=⟨0,0,false⟩
theorem xQz:NetL (w.alloc (.cells #[.slice none 0 0,.slice none 0 0,.int .u32 ((0:Nat):Int),.int .u32 ((0:Nat):Int),.bool false] 152)) w.heap.size w.heap.size (.slice none 0 0) (.slice none 0 0) I7 dQo:=by
 refine⟨heap_alloc_new _ _,Nat.le_refl _,rfl,by simp[I7],⟨[],rfl,by simp,World.ownsRow_nil _ _ _ _⟩,World.ownsRow_nil _ _ _ _,by simp[I7],by simp[Value.ownBlock],by simp[Value.ownBlock],.inl rfl⟩
def oQ7 (w:World)(d:Ls.D):Ending->World->Prop:=fun e w'=>
 ∃nb P Q,e=.returned (.pointer (some ⟨nb,0,none⟩))/\NetL w' w.heap.size nb P Q (Ls.add d I7).1 (Ls.add d I7).2/\Bw w w'
theorem oQ8 (I:dn d<=1048576)(S:dsize d<=24)(l:Old w G)(h:Rep w G 0 d [.iface ty y]) :
  Calls Tryz.prog 61 #[.iface ty y] w (oQ7 w d):=by
 have m:=xQz w;have c:=A5 w (.cells #[.slice none 0 0,.slice none 0 0,.int .u32 ((0:Nat):Int),.int .u32 ((0:Nat):Int),.bool false] 152);have n:=qQq (dn d) d (Nat.le_refl _) I _ w.heap.size w.heap.size _ _ I7 dQo G ty y m c.size (fun k g=>⟨Nat.lt_of_lt_of_le (l k g) c.size,by have:=l k g;omega,by simp[Value.ownBlock],by simp[Value.ownBlock]⟩) (h.later l c) (by simp[I7];omega);have L:Hid _:=m;go_enter Tryz.func61,Tryz.ntmps61;go_wp2_with fail;refine n.mono ?_;rintro e j ⟨A,B,rfl,b,s⟩;generalize q:Ls.add d I7=r at *;obtain⟨K,nx⟩:=r;have x:Hid _:=q;have i:=b.lies;have P:=b.fr 2;have Q:=b.fr 3;have R:=b.fr 4;have M:j.cell? ⟨w.heap.size,2,none⟩=some (.int .u32 dQo.first):=by simp[World.cell?,i]
 have N:j.cell? ⟨w.heap.size,3,none⟩=some (.int .u32 dQo.last):=by simp[World.cell?,i]
 have O:j.cell? ⟨w.heap.size,4,none⟩=some (.bool dQo.empty):=by simp[World.cell?,i]
 have T:=b.lt;have t:Hid _:=b;have u:Hid _:=i;have z:Hid _:=s;go_wp2;go_ret;refine⟨w.heap.size,A,B,rfl,?_,?_⟩
 ·rw[x.out]
  have f:∀(o:Nat) (v:Value) (W:World),W.grownBy (W.setCell ⟨w.heap.size,o,none⟩ v) (some w.heap.size):=fun o v W=>V8 W _ o v;have a:=t.out;obtain⟨J,C,E,F⟩:=a.pls;refine⟨?_,a.base,a.good,a.few,⟨J,C,E,?_⟩,?_,a.small,a.apP,a.apQ,a.apPQ⟩
  ·have:=u.out
   simp[World.setCell,Array.getElem?_modify,this]
  ·exact((F.kept (f _ _ _) (.inr a.apP)).kept (f _ _ _) (.inr a.apP)).kept (f _ _ _) (.inr a.apP)
  ·exact((a.bhs.kept (f _ _ _) (.inr a.apQ)).kept (f _ _ _) (.inr a.apQ)).kept (f _ _ _) (.inr a.apQ)
 ·have H:Below w.heap.size w j:=by
   have hs:=z.out;refine⟨hs.os,hs.tape,hs.output,Nat.le_trans c.size hs.size,fun k g=>(hs.block k ⟨Nat.lt_of_lt_of_le g c.size,by omega,by simp[Value.ownBlock],by simp[Value.ownBlock]⟩).trans (c.block k g)⟩
  exact((H.setCell (p:=⟨w.heap.size,2,none⟩) (Nat.le_refl _) _).setCell (p:=⟨w.heap.size,3,none⟩) (Nat.le_refl _) _).setCell (p:=⟨w.heap.size,4,none⟩) (Nat.le_refl _) _
end Go.Proofs.YtfklinjaajafgaaGreatDoor
namespace Ls
theorem lX3 {R:Rules}{o a L:Nat->Bool}{c:UInt8}(ha:∀q,a q=(o q&&R.pl q c)):mX3 R o L c []↔∃q,a q=true/\L q=true:=by
 unfold mX3;constructor
 ·rintro ⟨q,b,d,e⟩;exact⟨q,by rw[ha,b,d];rfl,e⟩
 ·rintro ⟨q,b,d⟩
  rw[ha,Bool.and_eq_true]at b;exact⟨q,b.1,b.2,d⟩
theorem lX4 {R:Rules}{o a k L:Nat->Bool}{c d:UInt8}{u:Lu}(ha:∀q,a q=(o q&&R.pl q c))(j:∀b,k b=true↔∃q,a q=true/\R.E q b=true):mX3 R o L c (d::u)↔mX3 R k L d u:=by
 unfold mX3;constructor
 ·rintro ⟨q,f,g,b,h,e,i⟩
  exact⟨b,(j b).2 ⟨q,by rw[ha,f,g];rfl,h⟩,e,i⟩
 ·rintro ⟨b,f,g,h⟩
  obtain⟨q,e,i⟩:=(j b).1 f;rw[ha,Bool.and_eq_true]at e;exact⟨q,e.1,e.2,b,i,g,h⟩
end Ls
namespace Go.Proofs.YtfklinjaajafgaaGreatDoor
open Ls hiding none
open Go.RowKit
variable {k:Nat}(w:World)(B nb:Nat)(P:Value)(n:Net)(Q:Value)(a:Nat)(s:By)(x:Span)(c:UInt8)
theorem uQt (c:List (Nat × Nat))(k:Nat)(d:k<c.length):(c.flatMap fun a=>[Value.int .u64 a.1,Value.int .u64 a.2])[k*2]?=some (.int .u64 c[k].1)/\(c.flatMap fun a=>[Value.int .u64 a.1,Value.int .u64 a.2])[k*2+1]?=some (.int .u64 c[k].2):=by
 induction c generalizing k with
 | nil=>simp at d
 | cons b l e=>
  cases k with
  | zero=>exact⟨rfl,rfl⟩
  | succ k=>
   have:=e k (by simpa using d);rw[show (k+1)*2=k*2+2 from by omega];simpa using this
theorem NetL.placeAt {w:World}{B l g e:Nat}{Q:Value}{n:Net}{x:Span}(h:NetL w B l (Sl g n.places.length e) Q n x)(o:k<n.places.length) :
  ∃lo c:Nat,w.cell? ⟨g,k*2,none⟩=some (.int .u64 lo)/\w.cell? ⟨g,k*2+1,none⟩=some (.int .u64 c)/\SB (n.places.getD k []) lo c:=by
 obtain⟨a,m,j,b⟩:=h.pls;have d:k<a.length:=by omega
 obtain⟨f,i⟩:=uQt a k d;refine⟨a[k].1,a[k].2,?_,?_,j k a[k] (List.getElem?_eq_getElem d)⟩
 ·rw[b.cellAt (k*2) (by omega)];exact f
 ·rw[b.cellAt (k*2+1) (by omega)];exact i
theorem vQc:Ls.has [] c=false:=rfl
theorem dXa (h:NetL w B nb P Q n x)(o:Nat)(R:o<4294967296) :
  Calls Tryz.prog 109 #[Pt nb,.int .u32 o,.int .u8 c.toNat] w fun e U=>∃t:Nat,e=.returned (.int .u32 t)/\t<4294967296/\(∀q,t.testBit q=(o.testBit q&&(gXm n).pl q c))/\Bw w U:=by
 have a0:=h.few;have a2:=h.lt;have W:=h.c0;obtain⟨T,pc,rfl⟩:=h.shapeP;have A:Hid _:=h;go_enter Tryz.func109,Tryz.ntmps109;go_wp2;go_loopw [7,15] (fun v i wr=>∃k t:Nat,k<=n.places.length/\i=Iv k/\v=.int .u32 t/\t<4294967296/\(∀q,t.testBit q=(decide (q<k)&&(o.testBit q&&(gXm n).pl q c)))/\Bw w wr) (fun _ i _=>n.places.length-(intOf i).toNat)
 case atStart=>exact⟨0,0,Nat.zero_le _,rfl,rfl,by omega,by simp,Br⟩
 case round=>
  obtain⟨k,t,hk,rfl,rfl,m,C,l⟩:=hrel;have z:Hid _:=C
  by_cases O:k<n.places.length
  ·obtain⟨g,rfl⟩:∃g,T=some ⟨g,0,none⟩:=by
    obtain⟨a3,f,h2,M⟩:=A.out.pls;obtain⟨g,X,e,_⟩:=M.form (by omega);injection e with K;exact⟨g,K⟩
   obtain⟨lo,r,Y,Z,N⟩:=(A.out.below l).placeAt O;have j:=bQl o k R (by omega) (wr.alloc (.cells #[.int .u64 lo,.int .u64 r] 157));have F:(gXm n).pl k c=Ls.has (n.places.getD k []) c:=rfl;have step:∀y:Nat,(∀q,y.testBit q=(t.testBit q||(decide (q=k)&&(o.testBit k&&Ls.has (n.places.getD k []) c))))->∀q,y.testBit q=(decide (q<k+1)&&(o.testBit q&&(gXm n).pl q c)):=by
    intro y f q;rw[f,z.out q]
    by_cases e:q=k
    ·subst e;rw[F];simp
    ·have L:decide (q<k+1)=decide (q<k):=by rw[decide_eq_decide];omega
     rw[L];simp[e]
   have s:Hid _:=step;cases a:o.testBit k with
   | false=>
    rw[a]at j;have d:Hid _:=s.out t (fun q=>by rw[a];simp);go_wp2_with fail;refine j.mono ?_;rintro e H ⟨rfl,rfl⟩;go_wp2;go_roundw
    case rel=>exact⟨k+1,t,by omega,by go_num,rfl,m,d.out,Bj l (A5 _ _)⟩
    case measure=>simp[intOf];omega
   | true=>
    rw[a]at j;have p:=cXl (n.places.getD k []) lo r c N (wr.alloc (.cells #[.int .u64 lo,.int .u64 r] 157));have E:=heap_alloc_new wr (.cells #[.int .u64 lo,.int .u64 r] 157);cases b:Ls.has (n.places.getD k []) c with
    | false=>
     rw[b]at p;have d:Hid _:=s.out t (fun q=>by rw[a,b];simp);go_wp2_with fail;refine j.mono ?_;rintro e H ⟨rfl,rfl⟩;go_wp2_with fail;refine p.mono ?_;rintro e V ⟨rfl,u⟩;go_wp2_with fail;go_roundw
     case rel=>exact⟨k+1,t,by omega,by go_num,rfl,m,d.out,Bj l (Bj (A5 _ _) u)⟩
     case measure=>simp[intOf];omega
    | true=>
     rw[b]at p;have d:Hid _:=s.out (t ||| 2 ^ k) (fun q=>by
      rw[a,b,Nat.testBit_or,Nat.testBit_two_pow]
      by_cases e:k=q
      ·simp[e]
      ·simp[e,Ne.symm e])
     have G:=hQ3 k (by omega);have S:=aQ1 t (2 ^ k) m G;have I:Hid _:=u32_or_nat t (2 ^ k) m G;have J:Hid ((2:Int) ^ k % 4294967296=((2 ^ k:Nat):Int)):=by
      have:=oQm k (by omega);rw[IntKind.wrap_u32]at this;exact this
     clear a b E;go_wp2_with fail;refine j.mono ?_;rintro e H ⟨rfl,rfl⟩;go_wp2_with fail;refine p.mono ?_;rintro e V ⟨rfl,u⟩;go_wp2_with fail;rw[J.out,I.out];go_roundw
     case rel=>exact⟨k+1,t ||| 2 ^ k,by omega,by go_num,rfl,S,d.out,Bj l (Bj (A5 _ _) u)⟩
     case measure=>simp[intOf];omega
  ·have a1:k=n.places.length:=by omega
   go_wp2_with fail;go_ret;refine⟨t,rfl,m,fun q=>?_,l⟩;rw[z.out q];rcases Nat.lt_or_ge q k with f|f
   ·simp[f]
   ·have:(gXm n).pl q c=false:=by
     show Ls.has (n.places.getD q []) c=false;rw[List.getD_eq_getElem?_getD,List.getElem?_eq_none (by omega)];exact vQc c
    rw[this];simp
theorem rQp (h:NetL w B nb P Q n x)(ha:a<4294967296) :
  Calls Tryz.prog 110 #[Pt nb,.int .u32 a] w fun e M=>∃t:Nat,e=.returned (.int .u32 t)/\t<4294967296/\(∀b,t.testBit b=true↔∃q,a.testBit q=true/\(gXm n).E q b=true)/\Bw w M:=by
 have T:=h.few;have J:=h.good;unfold jX5 at J;have X:=h.lt;have O:=h.c1;obtain⟨L,Y,rfl⟩:=h.shapeQ';have u:Hid _:=h;go_enter Tryz.func110,Tryz.ntmps110;go_wp2;go_loopw [5,13] (fun v i wr=>∃k t:Nat,k<=n.places.length/\i=.int .i64 k/\v=.int .u32 t/\t<4294967296/\(∀b,t.testBit b=true↔∃q,q<k/\a.testBit q=true/\(gXm n).E q b=true)/\Below w.heap.size w wr) (fun _ i _=>n.places.length-(intOf i).toNat)
 case atStart=>exact⟨0,0,Nat.zero_le _,rfl,rfl,by omega,by simp,Below.refl _ _⟩
 case round=>
  obtain⟨k,t,U,rfl,rfl,p,A,o⟩:=hrel;have s:Hid _:=A
  by_cases W:k<n.places.length
  ·obtain⟨g,rfl⟩:∃g,L=some ⟨g,0,none⟩:=by
    obtain⟨g,R,e,_⟩:=u.out.bhs.form (by omega);injection e with I;exact⟨g,I⟩
   have C:k<n.behind.length:=by omega
   have S:wr.cell? ⟨g,k,none⟩=some (.int .u32 n.behind[k]):=by
    have f:=(u.out.below o).bhs.cellAt k (by show k<n.places.length*1;omega);rw[f,List.getElem?_map,List.getElem?_eq_getElem C];rfl
   have F:n.behind[k]<4294967296:=u.out.small _ (List.getElem_mem _);have m:=bQl a k ha (by omega) wr;have z:∀b,(gXm n).E k b=n.behind[k].testBit b:=fun b=>by
    show (n.behind.getD k 0).testBit b=_;rw[List.getD_eq_getElem?_getD,List.getElem?_eq_getElem C];rfl
   have G:Hid _:=z;cases l:a.testBit k with
   | false=>
    rw[l]at m;have r:Hid (∀b,t.testBit b=true↔∃q,q<k+1/\a.testBit q=true/\(gXm n).E q b=true):=by
     intro b;rw[s.out b];constructor
     ·rintro ⟨q,f,c⟩;exact⟨q,by omega,c⟩
     ·rintro ⟨q,f,c,j⟩
      refine⟨q,?_,c,j⟩;rcases Nat.lt_or_ge q k with d|d
      ·exact d
      ·obtain rfl:q=k:=by omega
       rw[l]at c;cases c
    go_wp2_with fail;refine m.mono ?_;rintro e N ⟨rfl,rfl⟩;go_wp2;go_roundw
    case rel=>exact⟨k+1,t,by omega,by go_num,rfl,p,r.out,o⟩
    case measure=>simp[intOf];omega
   | true=>
    rw[l]at m;have r:Hid (∀b,(t ||| n.behind[k]).testBit b=true↔∃q,q<k+1/\a.testBit q=true/\(gXm n).E q b=true):=by
     intro b;rw[Nat.testBit_or,Bool.or_eq_true,s.out b,<-G.out b];constructor
     ·rintro (⟨q,f,c⟩|f)
      ·exact⟨q,by omega,c⟩
      ·exact⟨k,by omega,l,f⟩
     ·rintro ⟨q,f,c,j⟩
      rcases Nat.lt_or_ge q k with d|d
      ·exact .inl ⟨q,d,c,j⟩
      ·obtain rfl:q=k:=by omega
       exact .inr j
    have H:Hid _:=u32_or_nat t n.behind[k] p F;have K:=aQ1 t n.behind[k] p F;go_wp2_with fail;refine m.mono ?_;rintro e N ⟨rfl,rfl⟩;go_wp2_with fail;rw[H.out];go_roundw
    case rel=>exact⟨k+1,t ||| n.behind[k],by omega,by go_num,rfl,K,r.out,o⟩
    case measure=>simp[intOf];omega
  ·have V:k=n.places.length:=by omega
   go_wp2_with fail;go_ret;refine⟨t,rfl,p,fun b=>?_,o⟩;rw[s.out b];constructor
   ·rintro ⟨q,_,c⟩;exact⟨q,c⟩
   ·rintro ⟨q,c,j⟩
    refine⟨q,?_,c,j⟩;rcases Nat.lt_or_ge q k with d|d
    ·exact d
    ·have y:(n.behind.getD q 0).testBit b=true:=j
     rw[List.getD_eq_getElem?_getD,List.getElem?_eq_none (by omega)]at y;simp at y
def cQ0 (n:Net)(x:Span):Lu->Prop
 | []=>x.empty=true
 | c::u=>mX3 (gXm n) (Ls.fb x) (lb x) c u
theorem qQ9 (b:Nat)(ha:a<4294967296)(i:b<4294967296):(bits .and .u32 (a:Int) (b:Int) != 0)=true↔∃q,a.testBit q=true/\b.testBit q=true:=by
 rw[u32_and_nat a b ha i];constructor
 ·intro h
  have c:a &&& b≠0:=by intro e;rw[e]at h;simp at h
  obtain⟨q,d⟩:=Nat.exists_testBit_of_ne_zero c;rw[Nat.testBit_and,Bool.and_eq_true]at d;exact⟨q,d⟩
 ·rintro ⟨q,c,g⟩
  rw[bne_iff_ne];intro e;have f:a &&& b=0:=by omega
  have:(a &&& b).testBit q=true:=by rw[Nat.testBit_and,c,g];rfl
  rw[f]at this;simp at this
def bQu (n:Net)(x:Span)(s:By)(k o a:Nat):Prop:=
 (k<s.size->(cQ0 n x s.data.toList↔mX3 (gXm n) (fun q=>o.testBit q) (lb x) (nx s k) (rest s (k+1))))/\
 (k=s.size->(cQ0 n x s.data.toList↔∃q,a.testBit q=true/\x.last.testBit q=true))
theorem cXv (h:0<s.size):bQu n x s 0 x.first 0:=by
 refine⟨fun _=>?_,fun e=>by omega⟩;have a:s.data.toList=nx s 0::rest s (0+1):=D4 (i:=0) h;rw[a];exact Iff.rfl
theorem cXu {n:Net}{x:Span}{s:By}{o a b e:Nat}(h:bQu n x s k o a)(d:k<s.size)(ha:∀q,b.testBit q=(o.testBit q&&(gXm n).pl q (nx s k)))(g:∀f,e.testBit f=true↔∃q,b.testBit q=true/\(gXm n).E q f=true):bQu n x s (k+1) e b:=by
 refine⟨fun c=>(h.1 d).trans ?_,fun c=>(h.1 d).trans ?_⟩
 ·rw[D4 c]
  exact lX4 (a:=fun q=>b.testBit q) ha g
 ·rw[P4 (by omega)]
  exact lX3 (a:=fun q=>b.testBit q) ha
theorem xQg:∀m i r,s.size-i<=m->r≠[]->ByteArray.toList.loop s i r≠[]:=by
 intro m;induction m with
 | zero=>
  intro i r h a;rw[ByteArray.toList.loop.eq_1,if_neg (by omega)];simpa using a
 | succ m b=>
  intro i r h a;rw[ByteArray.toList.loop.eq_1];split
  ·exact b _ _ (by omega) (by simp)
  ·simpa using a
theorem dXv {s:By}(h:0<s.size):s.toList.isEmpty=false:=by
 have:s.toList≠[]:=by
  unfold ByteArray.toList;rw[ByteArray.toList.loop.eq_1,if_pos h];exact xQg s _ _ _ (Nat.le_refl _) (by simp)
 cases b:s.toList with
 | nil=>exact absurd b this
 | cons a l=>rfl
theorem oQ6 (h:NetL w B nb P Q n x)(J:x.first<4294967296)(L:x.last<4294967296)(hs:s.size<=1048576) :
  Calls Tryz.prog 83 #[Pt nb,.string s] w fun e T=>∃b:Bool,e=.returned (.bool b)/\(b=true↔cQ0 n x s.data.toList)/\Bw w T:=by
 have a1:=h.lt;have c:=h.lies;have V:w.cell? ⟨nb,2,none⟩=some (.int .u32 x.first):=by simp[World.cell?,c]
 have W:w.cell? ⟨nb,3,none⟩=some (.int .u32 x.last):=by simp[World.cell?,c]
 have X:w.cell? ⟨nb,4,none⟩=some (.bool x.empty):=by simp[World.cell?,c]
 have F:Hid _:=h;rcases Nat.eq_zero_or_pos s.size with f|f
 ·have O:=ByteArray.ext (Array.eq_empty_of_size_eq_zero f)
  subst O;go_enter Tryz.func83,Tryz.ntmps83;go_wp2;go_ret;exact⟨x.empty,rfl,Iff.rfl,Below.refl _ _⟩
 ·have a0:=dXv f
  go_enter Tryz.func83,Tryz.ntmps83;go_wp2;go_loopw [5,6,22] (fun R S i wr=>∃k o a:Nat,k<=s.size/\i=.int .i64 k/\R=.int .u32 a/\S=.int .u32 o/\a<4294967296/\o<4294967296/\bQu n x s k o a/\Below w.heap.size w wr) (fun _ _ i _=>s.size-(intOf i).toNat)
  case atStart=>exact⟨0,x.first,0,Nat.zero_le _,rfl,rfl,rfl,by omega,J,cXv n s x f,Below.refl _ _⟩
  case round=>
   obtain⟨k,o,a,hk,rfl,rfl,rfl,ha,M,y,l⟩:=hrel;have p:Hid _:=y;have d:=F.out.below l
   by_cases v:k<s.size
   ·have Z:(k:Int)<(s.size:Int):=by omega
    have j:=dXa wr B nb P n Q x (nx s k) d o M;have m:=M6 v;rw[m]at j;have H:Hid _:=m;have C:Hid _:=d;go_wp2_with fail;refine j.mono ?_;rintro e U ⟨g,rfl,q,t,r⟩;have E:Hid _:=t;go_wp2_with fail;refine(rQp U B nb P n Q g x (C.out.below r) q).mono ?_;rintro e w2 ⟨z,rfl,N,u,I⟩;have G:Hid _:=cXu p.out v (by rw[H.out];exact E.out) u;go_wp2;go_roundw
    case rel=>exact⟨k+1,z,g,by omega,by go_num,rfl,rfl,q,N,G.out,Bj l (Bj r I)⟩
    case measure=>simp[intOf];omega
   ·have K:k=s.size:=by omega
    have c:=d.lies;have Y:wr.cell? ⟨nb,3,none⟩=some (.int .u32 x.last):=by simp[World.cell?,c]
    have A:Hid _:=qQ9 a x.last ha L;go_wp2;go_ret;exact⟨_,rfl,A.out.trans (p.out.2 K).symm,l⟩
theorem lQc {d:Ls.D}(h:Wd 0 d)(u:Lu):cQ0 (Ls.add d I7).1 (Ls.add d I7).2 u↔inL (eX5 d) u:=by
 have a:=(nXh h I7 rfl).sem;cases u with
 | nil=>exact a.nil.symm
 | cons c u=>exact(a.cons c u).symm
end Go.Proofs.YtfklinjaajafgaaGreatDoor
