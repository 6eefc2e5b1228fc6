import Derived.Test.YtfklinjaajafgaaGreatDoorK55
import Derived.Test.YtfklinjaajafgaaGreatDoorK56
import Derived.Test.YtfklinjaajafgaaGreatDoorK11
set_option maxRecDepth 100000
set_option maxHeartbeats 4000000
namespace Go.Proofs.YtfklinjaajafgaaGreatDoor
open Ls
open Go.RowKit
variable {G G1 G2:Nat->Prop}{T u1 u2:TypeId}{e:Ending}{g m1 m2:Nat}{ok:Prop}{w' w0 w2 w3:World}{z1 z2:Value}(s:By)(d:Ls.D)(l:Ln)(x:Value)(ws:Lu)(a:Ln)(k:Nat)(y:Value)(b:Ln)(a0:Addr)(u:Value)(a1:Addr)(w:World)(v:Value)(a2 a3:Addr)(p:Nat)(F:Prop)
abbrev kz:Array Value:=#[.nilIface,.pointer none,.nilIface,.pointer none]
abbrev aQ4 (w:World)(g:Nat)(x y u v:Value):World:=(((w.setCell ⟨g,0,none⟩ x).setCell ⟨g,1,none⟩ y).setCell ⟨g,2,none⟩ u).setCell ⟨g,3,none⟩ v
theorem iQf {w W:World}(h:Bw w W)(a:w.heap.size<=g):Bw w (aQ4 W g x y u v):=
 (((h.setCell (p:=⟨g,0,none⟩) a x).setCell (p:=⟨g,1,none⟩) a y).setCell (p:=⟨g,2,none⟩) a u).setCell (p:=⟨g,3,none⟩) a v
theorem mQ7 (g:Nat):(aQ4 w g x y u v).heap.size=w.heap.size:=by simp[World.setCell]
theorem mQ6 (g:Nat)(h:k≠g):(aQ4 w g x y u v).heap[k]?=w.heap[k]?:=by
 rw[Below.heap_setCell _ _ _ _ (by show k≠g;exact h),Below.heap_setCell _ _ _ _ (by show k≠g;exact h),Below.heap_setCell _ _ _ _ (by show k≠g;exact h),Below.heap_setCell _ _ _ _ (by show k≠g;exact h)]
theorem cXd {w:World}(h:Blk w g kz T):Blk (aQ4 w g x y u v) g #[x,y,u,v] T:=by
 unfold Blk at h ⊢;have a:=heap_setCell_same w g 0 _ T x h;have b:=heap_setCell_same _ g 1 _ T y a;have c:=heap_setCell_same _ g 2 _ T u b;exact heap_setCell_same _ g 3 _ T v c
theorem rQt {w:World}{a:Array Value}(h:Blk w g a T)(b:Below w.drew.heap.size w.drew w2)(c:g<w.heap.size):Blk w2 g a T:=Blk.below (w:=w.drew) h b c
def bQs (w0:World)(G:Nat->Prop)(a:Ln)(gv:Value)(W:World):Prop:=
 ∃g u1 z1 m1 u2 z2 m2,gv=.pointer (some ⟨g,0,none⟩)/\w0.heap.size<=g/\g<W.heap.size/\Blk W g #[.iface u1 z1,.pointer (some ⟨m1,0,none⟩),.iface u2 z2,.pointer (some ⟨m2,0,none⟩)] 94/\Bw w0 W/\
  ((¬inL (eX5 (dS a)) []/\¬fXb (eX5 (dS a)) (eX5 (Ls.rep 5 (dS a))))/\(¬inL (eX5 (dV a)) []/\¬fXb (eX5 (dV a)) (eX5 (Ls.rep 5 (dV a)))))/\
  Tx W (Gn w0 G W) (.iface u1 z1) m1 (Ls.rep 5 (dS a))/\Tx W (Gn w0 G W) (.iface u2 z2) m2 (Ls.rep 5 (dV a))
theorem bXj {a:Ln}(e:Bw w0 w3)(m:(¬inL (eX5 (dS a)) []/\¬fXb (eX5 (dS a)) (eX5 (Ls.rep 5 (dS a))))/\(¬inL (eX5 (dV a)) []/\¬fXb (eX5 (dV a)) (eX5 (Ls.rep 5 (dV a)))))(i:Tx w3 G1 (.iface u1 z1) m1 (Ls.rep 5 (dS a)))(j:Tx w3 G2 (.iface u2 z2) m2 (Ls.rep 5 (dV a)))(c:∀k,G1 k->Gn w0 G w3 k)(d:∀k,G2 k->Gn w0 G w3 k)(l:∀k,G k->k<w3.heap.size) :
  bQs w0 G a (Pt w3.heap.size) (w3.alloc (M5 u1 z1 m1 u2 z2 m2)):=by
 have n:=e.size;have g:∀k,Gn w0 G w3 k->Gn w0 G (w3.alloc (M5 u1 z1 m1 u2 z2 m2)) k:=fun k b=>b.imp id (fun h=>⟨h.1,by have:=h.2;simp;omega⟩);have f:∀k,Gn w0 G w3 k->k<w3.heap.size:=fun k b=>b.elim (l k) (fun h=>h.2);exact⟨_,u1,z1,m1,u2,z2,m2,rfl,n,by simp,Blk.new w3 _ _,Bj e (A5 _ _),m,i.mono (fun k b=>g k (c k b)) (fun k b=>Below.heap_alloc _ _ _ (f k (c k b))),j.mono (fun k b=>g k (d k b)) (fun k b=>Below.heap_alloc _ _ _ (f k (d k b)))⟩
theorem mQ0 {a:Ln}(m:Bw w0 w3)(c:Blk w3 g kz 94)(f:w0.heap.size<=g)(n:(¬inL (eX5 (dS a)) []/\¬fXb (eX5 (dS a)) (eX5 (Ls.rep 5 (dS a))))/\(¬inL (eX5 (dV a)) []/\¬fXb (eX5 (dV a)) (eX5 (Ls.rep 5 (dV a)))))(j:Tx w3 G1 (.iface u1 z1) m1 (Ls.rep 5 (dS a)))(l:Tx w3 G2 (.iface u2 z2) m2 (Ls.rep 5 (dV a)))(d:∀k,G1 k->k≠g/\Gn w0 G w3 k)(e:∀k,G2 k->k≠g/\Gn w0 G w3 k) :
  bQs w0 G a (Pt g) (aQ4 w3 g (.iface u1 z1) (Pt m1) (.iface u2 z2) (Pt m2)):=by
 have i:∀k,Gn w0 G w3 k->Gn w0 G (aQ4 w3 g (.iface u1 z1) (Pt m1) (.iface u2 z2) (Pt m2)) k:=fun k b=>b.imp id (fun h=>⟨h.1,by rw[mQ7];exact h.2⟩);exact⟨g,u1,z1,m1,u2,z2,m2,rfl,f,by rw[mQ7];exact c.lt,cXd _ _ _ _ c,iQf _ _ _ _ m f,n,j.mono (fun k b=>i k (d k b).2) (fun k b=>mQ6 _ _ _ _ _ _ _ (d k b).1),l.mono (fun k b=>i k (e k b).2) (fun k b=>mQ6 _ _ _ _ _ _ _ (e k b).1)⟩
theorem bXi {a:Ln}(c:∀k,G k->k<w0.heap.size)(d:Bw w0 w3)(hs:w0.heap.size<=w2.heap.size)(e:Bw w2 w3)(i:(¬inL (eX5 (dS a)) []/\¬fXb (eX5 (dS a)) (eX5 (Ls.rep 5 (dS a))))/\(¬inL (eX5 (dV a)) []/\¬fXb (eX5 (dV a)) (eX5 (Ls.rep 5 (dV a)))))(f:Tx w2 (Gn w0.drew G w2) (.iface u1 z1) m1 (Ls.rep 5 (dS a)))(g:Tx w3 (Gn w2 G w3) (.iface u2 z2) m2 (Ls.rep 5 (dV a))) :
  bQs w0 G a (Pt w3.heap.size) (w3.alloc (M5 u1 z1 m1 u2 z2 m2)):=by
 have j:=e.size;refine bXj (G1:=Gn w0.drew G w2) (G2:=Gn w2 G w3) d i (f.below (fun k b=>?_) e) g (fun k b=>?_) (fun k b=>?_) (fun k b=>Ll (c k b) d.size)
 ·rcases b with h|h
  ·exact Ll (c k h) hs
  ·exact h.2
 ·exact b.imp id (fun h=>⟨h.1,Ll h.2 j⟩)
 ·exact b.imp id (fun h=>⟨Lq hs h.1,h.2⟩)
theorem bXg {a:Ln}(d:∀k,G k->k<w0.heap.size)(j:Below (w0.alloc (.cells kz 94)).drew.heap.size (w0.alloc (.cells kz 94)).drew w2)(e:Bw w2 w3)(i:Bw w0 w3)(g:Blk w3 w0.heap.size kz 94)(l:(¬inL (eX5 (dS a)) []/\¬fXb (eX5 (dS a)) (eX5 (Ls.rep 5 (dS a))))/\(¬inL (eX5 (dV a)) []/\¬fXb (eX5 (dV a)) (eX5 (Ls.rep 5 (dV a)))))(c:Tx w2 (Gn (w0.alloc (.cells kz 94)).drew G w2) (.iface u1 z1) m1 (Ls.rep 5 (dS a)))(f:Tx w3 (Gn w2 G w3) (.iface u2 z2) m2 (Ls.rep 5 (dV a))) :
  bQs w0 G a (Pt w0.heap.size) (aQ4 w3 w0.heap.size (.iface u1 z1) (Pt m1) (.iface u2 z2) (Pt m2)):=by
 have m:=e.size;have s2:(w0.alloc (.cells kz 94)).heap.size<=w2.heap.size:=j.size;rw[World.size_alloc]at s2;refine mQ0 (G1:=Gn (w0.alloc (.cells kz 94)).drew G w2) (G2:=Gn w2 G w3) i g (Nat.le_refl _) l (c.below (fun k b=>?_) e) f (fun k b=>?_) (fun k b=>?_)
 ·rcases b with h|h
  ·exact Ll (d k h) (by omega)
  ·exact h.2
 ·rcases b with h|h
  ·have:=d k h;exact⟨by omega,.inl h⟩
  ·have c:(w0.alloc (.cells kz 94)).heap.size<=k:=h.1
   rw[World.size_alloc]at c;exact⟨by omega,.inr ⟨by omega,by have:=h.2;omega⟩⟩
 ·rcases b with h|h
  ·have:=d k h;exact⟨by omega,.inl h⟩
  ·have:=h.1;exact⟨by omega,.inr ⟨by omega,h.2⟩⟩
theorem bXh {a:Ln}(d:∀k,G k->k<w0.heap.size)(hs:w0.heap.size<=w2.heap.size)(_hb3d:Below (w2.alloc (.cells kz 94)).heap.size (w2.alloc (.cells kz 94)) w3)(e:Bw w2 w3)(i:Bw w0 w3)(g:Blk w3 w2.heap.size kz 94)(j:(¬inL (eX5 (dS a)) []/\¬fXb (eX5 (dS a)) (eX5 (Ls.rep 5 (dS a))))/\(¬inL (eX5 (dV a)) []/\¬fXb (eX5 (dV a)) (eX5 (Ls.rep 5 (dV a)))))(c:Tx w2 (Gn w0.drew G w2) (.iface u1 z1) m1 (Ls.rep 5 (dS a)))(f:Tx w3 (Gn (w2.alloc (.cells kz 94)) G w3) (.iface u2 z2) m2 (Ls.rep 5 (dV a))) :
  bQs w0 G a (Pt w2.heap.size) (aQ4 w3 w2.heap.size (.iface u1 z1) (Pt m1) (.iface u2 z2) (Pt m2)):=by
 have l:=e.size;refine mQ0 (G1:=Gn w0.drew G w2) (G2:=Gn (w2.alloc (.cells kz 94)) G w3) i g hs j (c.below (fun k b=>?_) e) f (fun k b=>?_) (fun k b=>?_)
 ·rcases b with h|h
  ·exact Ll (d k h) hs
  ·exact h.2
 ·rcases b with h|h
  ·have:=d k h;exact⟨by omega,.inl h⟩
  ·have c:w0.heap.size<=k:=h.1
   have:=h.2;exact⟨by omega,.inr ⟨by omega,by omega⟩⟩
 ·rcases b with h|h
  ·have:=d k h;exact⟨by omega,.inl h⟩
  ·have c:=h.1
   rw[World.size_alloc]at c;exact⟨by omega,.inr ⟨by omega,h.2⟩⟩
theorem kQp (e:Ls.D)(B:l=⟨k,e,ws,[a]⟩)(κ:Lu->Lu)(hκ:κ=if k=7 then C3 else fun _=>[])(E:OkL 120 a)(T:eX7 a<=24)(c5:gx l<=549755813888)(c7:dn (dS a)<=100000)(c8:dn (dV a)<=100000)
   (G:Nat->Prop) (r:Old w G)  (hc:EType w a3)  (ha:PartV w G p a) (kv:Value) (i:KeyV w G kv κ)  (hF:F↔((¬inL (eX5 (dS a)) []/\¬fXb (eX5 (dS a)) (eX5 (Ls.rep 5 (dS a))))/\(¬inL (eX5 (dV a)) []/\¬fXb (eX5 (dV a)) (eX5 (Ls.rep 5 (dV a)))))) :
  Calls Tryz.prog 173 #[Pt p,kv] w (PartPost w G a3 F l):=by
 obtain⟨c,b,rfl⟩:∃c b,kv=.func (.func c) #[] b:=by obtain⟨c3,c2,h,_⟩:=i;exact⟨c3,c2,h⟩
 have HA:Hid (PartV w G p a):=ha;obtain⟨K,N,I,L,O,J,g1,c1,d1,c9,a9,b8,b9,_,_,_⟩:=ha;have e6:=fX3 a E;have e7:=fXz a E;have a4:Bw w ((w.alloc (.cells #[Pt p] 78)).alloc (.cells #[.func (.func c) #[] b] 95)):=C6 w _ _;have b2:Hid (((w.alloc (.cells #[Pt p] 78)).alloc (.cells #[.func (.func c) #[] b] 95)).heap.size=w.heap.size+1+1):=by show _=_;simp
 have A:Blk ((w.alloc (.cells #[Pt p] 78)).alloc (.cells #[.func (.func c) #[] b] 95)) w.heap.size #[Pt p] 78:=(Blk.new w _ _).of (Below.heap_alloc _ _ _ (by simp));have U:Blk ((w.alloc (.cells #[Pt p] 78)).alloc (.cells #[.func (.func c) #[] b] 95)) (w.heap.size+1) #[.func (.func c) #[] b] 95:=by
  have:=Blk.new (w.alloc (.cells #[Pt p] 78)) #[.func (.func c) #[] b] 95;rw[World.size_alloc]at this;exact this
 have m:Hid (∀W:World,Below ((w.alloc (.cells #[Pt p] 78)).alloc (.cells #[.func (.func c) #[] b] 95)).heap.size ((w.alloc (.cells #[Pt p] 78)).alloc (.cells #[.func (.func c) #[] b] 95)) W->(Ce W p 0 (.iface K N)/\Ce W p 1 (Pt I)/\Ce W p 2 (.iface L O)/\Ce W p 3 (Pt J))/\Ce W w.heap.size 0 (Pt p)):=fun W f=>by
  obtain⟨e0,e1,e2,e3,_,_,_⟩:=(a9.below (Bj a4 f) a9.lt).seven;exact⟨⟨e0,e1,e2,e3⟩,(A.below f A.lt).cell 0⟩
 have H1:Hid (∀W,Bw w W->Ca 193 #[.agg #[.iface K N,Pt I]] W (aQp W G a3 (¬inL (eX5 (dS a)) []/\¬fXb (eX5 (dS a)) (eX5 (Ls.rep 5 (dS a)))) (Ls.rep 5 (dS a)))):=fun W f=>
  lQo _ a3 _ _ _ (by omega) c7 W G (fun k i=>Ll (r k i) f.size) (hc.below f) (b8.below r f)
 have H2:Hid (∀W,Bw w W->Ca 193 #[.agg #[.iface L O,Pt J]] W (aQp W G a3 (¬inL (eX5 (dV a)) []/\¬fXb (eX5 (dV a)) (eX5 (Ls.rep 5 (dV a)))) (Ls.rep 5 (dV a)))):=fun W f=>
  lQo _ a3 _ _ _ (by omega) c8 W G (fun k i=>Ll (r k i) f.size) (hc.below f) (b9.below r f)
 have b1:Hid (∀W,Below ((w.alloc (.cells #[Pt p] 78)).alloc (.cells #[.func (.func c) #[] b] 95)).heap.size ((w.alloc (.cells #[Pt p] 78)).alloc (.cells #[.func (.func c) #[] b] 95)) W->Blk W w.heap.size #[Pt p] 78/\Blk W (w.heap.size+1) #[.func (.func c) #[] b] 95):=fun W f=>⟨A.below f A.lt,U.below f U.lt⟩;have HK:Hid (KeyV w G (.func (.func c) #[] b) κ):=i;have j:Hid _:=a4;have P:Hid (F↔((¬inL (eX5 (dS a)) []/\¬fXb (eX5 (dS a)) (eX5 (Ls.rep 5 (dS a))))/\(¬inL (eX5 (dV a)) []/\¬fXb (eX5 (dV a)) (eX5 (Ls.rep 5 (dV a)))))):=hF;have e5:∀(fn:Fn) (first b3:Array Value) (w:World),(Instr.makeFunc fn first b3).run Tryz.prog w=.ok (.func fn first b3) w:=fun _ _ _ _=>rfl;clear c9 a9 b8 b9 hc hF A a4 U i;go_enter Tryz.func173,Tryz.ntmps173;go_upto_region 1 with (fail);go_cut [5] (fun gv wc=>bQs ((w.alloc (.cells #[Pt p] 78)).alloc (.cells #[.func (.func c) #[] b] 95)) G a gv wc)
 case first=>
  generalize ((w.alloc (.cells #[Pt p] 78)).alloc (.cells #[.func (.func c) #[] b] 95))=x at *;obtain⟨⟨e0,e1,e2,e3⟩,x0⟩:=m.out x Br;go_region_held (fun H=>(Ce H p 0 (.iface K N)/\Ce H p 1 (Pt I)/\Ce H p 2 (.iface L O)/\Ce H p 3 (Pt J))/\Ce H w.heap.size 0 (Pt p)) (first|with_reducible assumption|with_reducible exact m.out _ Br.drew|with_reducible exact m.out _ (A5 _ _)|with_reducible exact m.out _ (A5 _ _).drew|with_reducible exact m.out _ d|with_reducible exact m.out _ (Bj d (A5 _ _))|with_reducible exact m.out _ (iQf _ _ _ _ d (Nat.le_refl _))|with_reducible exact m.out _ (iQf _ _ _ _ d sc))
   (first
    | (go_at_call_of 193 (Value.agg #[.iface K N,Pt I]);refine(H1.out _ ?_).mono ?_;(first|with_reducible exact j.out.drew|with_reducible exact(Bj j.out (A5 _ _)).drew);rintro e y (⟨b6,u1,z1,m1,rfl,u,s⟩|⟨C,rfl,s⟩);rotate_left;(have Q:Hid _:=C;clear C;have n:Bw w y:=(by first|with_reducible exact Bj j.out.drew s|with_reducible exact Bj (Bj j.out (A5 _ _)).drew s);go_wp2_with fail;exact⟨rfl,.inr ⟨fun h=>Q.out (P.out.1 h).1,rfl,n⟩⟩);have R:Hid _:=b6;clear b6;have d:Bw x y:=(by first|with_reducible exact Bj Br.drew s|with_reducible exact Bj (A5 _ _).drew s);(try have b4:Blk y x.heap.size kz 94:=(by with_reducible exact rQt (Blk.new x kz 94) s (by simp)));have sc:=d.size)
    | (go_at_call_of 193 (Value.agg #[.iface L O,Pt J]);refine(H2.out _ ?_).mono ?_;(first|with_reducible exact Bj j.out d|with_reducible exact Bj (Bj j.out d) (A5 _ _));rintro e M (⟨b7,u2,z2,m2,rfl,Z,t⟩|⟨C,rfl,t⟩);rotate_left;(have Q:Hid _:=C;clear C;have n:Bw w M:=(by first|with_reducible exact Bj (Bj j.out d) t|with_reducible exact Bj (Bj (Bj j.out d) (A5 _ _)) t);go_wp2_with fail;exact⟨rfl,.inr ⟨fun h=>Q.out (P.out.1 h).2,rfl,n⟩⟩);have S:Hid _:=b7;clear b7;have v:Bw y M:=(by first|with_reducible exact t|with_reducible exact Bj (A5 _ _) t);have d:=Bj d v;(try have q:Blk M x.heap.size kz 94:=b4.below v b4.lt);(try have q:Blk M y.heap.size kz 94:=(by with_reducible exact(Blk.new y kz 94).below t (by simp)));(try obtain⟨d3,d4,d5,d6⟩:=q.four);(try have d7:=q.fr 0);(try have d8:=q.fr 1);(try have d9:=q.fr 2);(try have e4:=q.fr 3);have s3:=v.size))
  all_goals
   go_wp2_with fail;go_meet
   case rel=>
    have d0:=b2.out;have V:∀k,G k->k<x.heap.size:=fun k i=>Ll (r k i) (by omega);first
     | with_reducible exact bXi V d (by assumption) v ⟨R.out,S.out⟩ u Z
     | with_reducible exact bXg V s v d q ⟨R.out,S.out⟩ u Z
     | with_reducible exact bXh V sc t v d q ⟨R.out,S.out⟩ u Z
 case rest=>
  obtain⟨g,u1,z1,m1,u2,z2,m2,rfl,hg,a8,z,a6,o,b5,u⟩:=hcut;have n:=Bj j.out a6;have HP:Hid (PartPost w G a3 F l (.returned (Pt wc.heap.size)) (wc.alloc (W9 u1 z1 m1 u2 z2 m2 (.func (.func 194) #[] #[Pt w.heap.size,Pt g]) (.func (.func 197) #[] #[Pt w.heap.size,Pt g]) (.func (.func 198) #[] #[Pt w.heap.size,Pt g,.pointer (some ⟨(w.heap.size+1),0,none⟩)])))):=by
   have sb:=n.size;have d0:=b2.out;have sc:=a6.size;have c0:∀k,Gn ((w.alloc (.cells #[Pt p] 78)).alloc (.cells #[.func (.func c) #[] b] 95)) G wc k->Gn w G wc k:=fun k i=>i.imp id (fun h=>⟨by have:=h.1;omega,h.2⟩);have X:=b5.mono (G':=Gn w G wc) c0 (fun _ _=>rfl);have Y:=u.mono (G':=Gn w G wc) c0 (fun _ _=>rfl);have b0:=(HA.out.below r n).mono (G':=Gn w G wc) (fun _ h=>.inl h) (fun _ _=>rfl);obtain⟨a7,c4⟩:=b1.out wc a6;have c6:KeyV wc (Gn w G wc) (.func (.func c) #[] b) κ:=HK.out.mono (fun _ h=>.inl h) (fun k i=>n.block k (r k i));have d1:dS l=Ls.rep 5 (dS a):=by rw[B,dS]
   have d2:dV l=Ls.rep 5 (dV a):=by rw[B,dV]
   refine .inl ⟨P.out.2 o,wc.heap.size,rfl,bQj (G1:=Gn w G wc) (G2:=Gn w G wc) n r (by rw[d1];exact X) (by rw[d2];exact Y) (fun _ h=>h) (fun _ h=>h) ?_ ?_ ?_,Bj n (A5 _ _)⟩
   ·exact dX5 a ws k e l B E T (by omega) o.1.1 o.1.2 b0 X a7 z (.inr ⟨by omega,by omega⟩) (.inr ⟨by omega,a8⟩)
   ·exact dX1 a ws k e l B E T (by omega) o.2.1 o.2.2 b0 Y a7 z (.inr ⟨by omega,by omega⟩) (.inr ⟨by omega,a8⟩)
   ·exact dX9 κ a l k e ws B hκ E T c5 o.1.1 o.1.2 o.2.1 o.2.2 b0 X Y c6 a7 z c4 (.inr ⟨by omega,by omega⟩) (.inr ⟨by omega,a8⟩) (.inr ⟨by omega,by omega⟩)
  obtain⟨a0,a1,a2,a5⟩:=z.four;clear b5 u z HA b1 H1 H2 m HK;go_wp2_with fail;go_ret;exact HP.out
theorem vQ3 {w:World}(h:Blk w g #[A4 []] 9)(b:G g):KeyV w G (Z9 g) (fun _=>[]):=⟨_,_,rfl,fun _ _=>by kernel_rfl,fun W a x _=>jQc [] x W g (h.of (a g b))⟩
theorem bXc (b:k=6\/k=7)(e:Ls.D)(J:OkL 120 a)(C:eX7 a<=24)(E:gx ⟨k,e,ws,[a]⟩<=549755813888)(H:dn (dS a)<=100000)(I:dn (dV a)<=100000)
   (G:Nat->Prop) (y:Old w G)  (s:EType w a3)  (ha:PartV w G p a)  (o:F↔((¬inL (eX5 (dS a)) []/\¬fXb (eX5 (dS a)) (eX5 (Ls.rep 5 (dS a))))/\(¬inL (eX5 (dV a)) []/\¬fXb (eX5 (dV a)) (eX5 (Ls.rep 5 (dV a)))))) :
  Calls Tryz.prog (N7 k) #[Pt p] w (PartPost w G a3 F ⟨k,e,ws,[a]⟩):=by
 have u:∀(W d:World) (t:Nat->Prop) (f:Ending),Bw w W->(∀k,t k->G k\/(w.heap.size<=k/\k<W.heap.size))->PartPost W t a3 F ⟨k,e,ws,[a]⟩ f d->PartPost w G a3 F ⟨k,e,ws,[a]⟩ f d:=by
  intro W d t f j M h;have O:=j.size;rcases h with⟨x,p,rfl,N,r⟩|⟨x,rfl,r⟩
  ·have P:=r.size
   refine .inl ⟨x,p,rfl,N.mono (fun k b=>?_) (fun _ _=>rfl),Bj j r⟩;rcases b with b|b
   ·exact(M k b).imp id (fun h=>⟨h.1,by have:=h.2;omega⟩)
   ·exact .inr ⟨by have:=b.1;omega,b.2⟩
  ·exact .inr ⟨x,rfl,Bj j r⟩
 rcases b with rfl|rfl
 ·have K:Hid (∀(W:World) (g:Nat),Bw w W->w.heap.size<=g->g<W.heap.size->Blk W g #[A4 []] 9->Ca 173 #[Pt p,Z9 g] W (PartPost w G a3 F ⟨6,e,ws,[a]⟩)):=fun W g q z A n=>
   (kQp ⟨6,e,ws,[a]⟩ ws a 6 W a3 p F e rfl (fun _=>[]) (by simp) J C E H I (Gn w G W) (Gn.old y q.size) (s.below q) ((ha.below y q).mono (fun _ h=>.inl h) (fun _ _=>rfl)) (Z9 g) (vQ3 n (.inr ⟨z,A⟩)) o).mono (fun f d h=>u W d _ f q (fun _ h=>h) h)
  clear ha o u s;show Ca 165 _ _ _;go_enter Tryz.func165,Tryz.ntmps165;go_wp2_with fail;refine(cQn [] w).mono ?_;rintro f d ⟨g,rfl,z,A,n,j⟩;have i:=K.out d g j z A n;go_wp2_with fail;refine i.mono ?_;intro L m B;rcases B with⟨x,l,rfl,h⟩|⟨x,rfl,h⟩
  ·have c:Hid (PartPost w G a3 F ⟨6,e,ws,[a]⟩ (.returned (Pt l)) m):=.inl ⟨x,l,rfl,h⟩
   go_wp2;go_ret;exact c.out
  ·have c:Hid (PartPost w G a3 F ⟨6,e,ws,[a]⟩ (.panicked [{v:=C9 a3,recovered:=false}]) m):=.inr ⟨x,rfl,h⟩
   clear h x;go_wp2_with fail;exact⟨rfl,c.out⟩
 ·have i:=kQp ⟨7,e,ws,[a]⟩ ws a 7 w a3 p F e rfl C3 (by simp) J C E H I G y s ha (.func (.func 174) #[] #[]) (vQ4 w G) o
  clear ha o u s;show Ca 149 _ _ _;go_enter Tryz.func149,Tryz.ntmps149;go_wp2_with fail;refine i.mono ?_;clear i;intro L m B;rcases B with⟨x,l,rfl,h⟩|⟨x,rfl,h⟩
  ·have c:Hid (PartPost w G a3 F ⟨7,e,ws,[a]⟩ (.returned (Pt l)) m):=.inl ⟨x,l,rfl,h⟩
   clear h x;go_wp2_with fail;go_ret;exact c.out
  ·have c:Hid (PartPost w G a3 F ⟨7,e,ws,[a]⟩ (.panicked [{v:=C9 a3,recovered:=false}]) m):=.inr ⟨x,rfl,h⟩
   clear h x;go_wp2_with fail;exact⟨rfl,c.out⟩
theorem PartPost.congr {w:World}{d:Addr}{g:Prop}{l c:Ln}(h:PartPost w G d ok l e w')(i:dS l=dS c)(j:dV l=dV c)(k:A6 l=A6 c)(m:A8 l=A8 c)(n:A9 l=A9 c)(f:ok↔g):PartPost w G d g c e w':=by
 unfold PartPost PartV at h ⊢;rw[i,j,k,m,n]at h;rcases h with⟨a,b⟩|⟨a,b⟩
 ·exact .inl ⟨f.1 a,b⟩
 ·exact .inr ⟨fun h=>a (f.2 h),b⟩
theorem PartPost.up {w f:World}{g:Addr}{l:Ln}(h:PartPost f G1 g ok l e w')(d:Bw w f)(i:∀k,G1 k->G k\/(w.heap.size<=k/\k<f.heap.size)):PartPost w G g ok l e w':=by
 have m:=d.size;rcases h with⟨a,p,rfl,j,c⟩|⟨a,rfl,c⟩
 ·have n:=c.size
  refine .inl ⟨a,p,rfl,j.mono (fun k b=>?_) (fun _ _=>rfl),Bj d c⟩;rcases b with b|b
  ·exact(i k b).imp id (fun h=>⟨h.1,by have:=h.2;omega⟩)
  ·exact .inr ⟨by have:=b.1;omega,b.2⟩
 ·exact .inr ⟨a,rfl,Bj d c⟩
def O8 (l:Ln):Prop:=∀(w:World) (G:Nat->Prop) (f:Nat) (caps:Array Value) (a3:Addr),Old w G->PlanV w G l (.func (.func f) #[] caps)->EType w a3->
 (∀W,(callFunc f caps).run Tryz.prog W=.ok (.enter f caps) W)/\Ca f caps w (PartPost w G a3 (B5 l) l)
theorem bQe {f:Nat}{c d:Array Value}(h:Value.func (.func f) #[] c=.func (.func g) #[] d):f=g/\c=d:=by
 injection h with a _ b;injection a with a;exact⟨a,b⟩
theorem rQy (r:dsize d<=24)(t:dn d<=100000):O8 ⟨0,d,ws,[]⟩:=by
 intro w G f B a s k E;rw[PlanV]at k;rcases k with⟨_,g,v,C,h,i,c⟩|⟨b,_⟩|⟨b,_⟩;rotate_left
 ·cases b
 ·cases b
 obtain⟨rfl,rfl⟩:=bQe h;refine⟨fun W=>by kernel_rfl,?_⟩;obtain⟨u,y,rfl⟩:=c.iface;obtain⟨z,A⟩:=i.one;have j:=tQj d w G a u y r t s c;have q:Hid (True↔B5 ⟨0,d,ws,[]⟩):=by show _↔_;rw[B5];simp
 go_enter Tryz.func167,Tryz.ntmps167;go_wp2_with fail;refine j.mono ?_;intro e n l;have m:PartPost w G a (B5 ⟨0,d,ws,[]⟩) ⟨0,d,ws,[]⟩ e n:=l.congr (by simp[fXs,dS]) (by simp[fXs,dV]) (by funext x;simp[fXs,A6]) (by funext x;simp[fXs,A8]) (by funext x y;simp[fXs,A9]) q.out;rcases l with⟨_,p,rfl,_⟩|⟨ha,_⟩
 ·have o:Hid _:=m
  generalize B5 ⟨0,d,ws,[]⟩=F at *;go_wp2;go_ret;exact o.out
 ·exact absurd trivial ha
theorem rQ0 (s:ws.length<=24)(k:∀c∈ws,c.toNat<=126):O8 ⟨2,d,ws,[]⟩:=by
 intro w G f z a t l B;rw[PlanV]at l;rcases l with⟨b,_⟩|⟨b,_⟩|⟨_,g,A,h,i⟩
 ·cases b
 ·cases b
 obtain⟨rfl,rfl⟩:=bQe h;refine⟨fun W=>by kernel_rfl,?_⟩;obtain⟨u,v⟩:=i.one;have j:=aXk ws w G a s k t;have r:Hid (True↔B5 ⟨2,d,ws,[]⟩):=by show _↔_;rw[B5];simp
 go_enter Tryz.func179,Tryz.ntmps179;go_wp2_with fail;refine j.mono ?_;intro e o m;have n:PartPost w G a (B5 ⟨2,d,ws,[]⟩) ⟨2,d,ws,[]⟩ e o:=m.congr (by simp[iXp,dS]) (by simp[iXp,dV]) (by funext x;simp[iXp,A6]) (by funext x;simp[iXp,A8]) (by funext x y;simp[iXp,A9]) r.out;rcases m with⟨_,p,rfl,_⟩|⟨ha,_⟩
 ·have q:Hid _:=n
  generalize B5 ⟨2,d,ws,[]⟩=F at *;go_wp2;go_ret;exact q.out
 ·exact absurd trivial ha
theorem rQz (t:dsize d<=24)(A:dn d<=100000)(C:ws.length<=1048576)(B:wf (eX5 d)):O8 ⟨1,d,ws,[]⟩:=by
 intro w G f L a u r z;rw[PlanV]at r;rcases r with⟨j,_⟩|⟨_,g,h,v,M,N,n,o,k,q⟩|⟨j,_⟩
 ·cases j
 rotate_left
 ·cases j
 obtain⟨rfl,rfl⟩:=bQe n;refine⟨fun W=>by kernel_rfl,?_⟩;obtain⟨E,y,rfl⟩:=k.iface;obtain⟨J,K⟩:=o.one;obtain⟨H,I⟩:=q.one;have l:=wQ5 d ws w G a E y t A C u z k;have i:Hid (inL (eX5 d) ws↔B5 ⟨1,d,ws,[]⟩):=by
  show _↔_;rw[B5,gXb _ B];simp
 go_enter Tryz.func177,Tryz.ntmps177;go_wp2_with fail;refine l.mono ?_;intro e m s;have b:PartPost w G a (B5 ⟨1,d,ws,[]⟩) ⟨1,d,ws,[]⟩ e m:=s.congr (by simp[fXf,dS]) (by simp[fXf,dV]) (by funext x;simp[fXf,A6]) (by funext x;simp[fXf,A8]) (by funext x y;simp[fXf,A9]) i.out;rcases s with⟨_,p,rfl,_⟩|⟨_,rfl,_⟩
 ·have c:Hid _:=b
  generalize B5 ⟨1,d,ws,[]⟩=F at *;go_wp2;go_ret;exact c.out
 ·have c:Hid (PartPost w G a (B5 ⟨1,d,ws,[]⟩) ⟨1,d,ws,[]⟩ (.panicked [{v:=C9 a,recovered:=false}]) m):=b
  generalize B5 ⟨1,d,ws,[]⟩=F at *;go_wp2;exact⟨rfl,c.out⟩
theorem rQw (_hk:k=6\/k=7)(ha:O8 a)(n:OkL 120 a)(X:eX7 a<=24)(hn:cn a<=100000)(Y:gx ⟨k,d,ws,[a]⟩<=549755813888):O8 ⟨k,d,ws,[a]⟩:=by
 intro w G a0 Z c q t s;rw[PlanV]at t;obtain⟨_,E,g,a3,x,h0,h1,H,A,z,o⟩:=t;obtain⟨rfl,rfl⟩:=bQe H;refine⟨fun W=>by kernel_rfl,?_⟩;obtain⟨i,f,rfl⟩:=PlanV.func _ _ o;have a1:=(ha w G i f c q o s).1;have Q:Hid (∀W,Bw w W->Ca i f W (PartPost W G c (B5 a) a)):=fun W b=>(ha W G i f c (fun k l=>Ll (q k l) b.size) (o.later q b) (s.below b)).2;have v:Hid (∀W:World,Bw w W->Ce W E 0 (.func (.func (N7 k)) #[] #[])/\Ce W g 1 (.func (.func i) #[] f)):=fun W b=>⟨(A.below b A.lt).cell 0,(z.below b z.lt).cell 1⟩;obtain⟨j0,j1⟩:=v.out w Br;have a2:∀(x:Value) (W:World),(callFunc (N7 k) #[x]).run Tryz.prog W=.ok (.enter (N7 k) #[x]) W:=by
  rcases _hk with rfl|rfl<;>exact fun _ _=>by kernel_rfl
 have y:Hid (B5 ⟨k,d,ws,[a]⟩↔B5 a/\K2 (eX8 a)/\K2 (eX6 a)):=by show _↔_;rw[B5]
 have T:Hid (∀W p,Bw w W->PartV W (Gn w G W) p a->Ca (N7 k) #[Pt p] W (PartPost W (Gn w G W) c (K2 (eX8 a)/\K2 (eX6 a)) ⟨k,d,ws,[a]⟩)):=fun W p b t=>
  bXc ws a k W c p _ _hk d n X Y (by have:=Y6 a;omega) (by have:=Y7 a;omega) _ (Gn.old q b.size) (s.below b) t (by rw[mQi n.src.ok (fX6 a n),mQi n.view.ok (fX8 a n)])
 generalize B5 ⟨k,d,ws,[a]⟩=F at *;go_enter Tryz.func172,Tryz.ntmps172;generalize N7 k=V at *;go_wp2;go_region_held (fun O=>Ce O E 0 (.func (.func V) #[] #[])/\Ce O g 1 (.func (.func i) #[] f)) (first|assumption|exact v.out _ Br.drew|exact v.out _ I)
  (first
   | (refine(Q.out _ ?_).mono ?_;exact Br.drew;rintro e C (⟨M,p,rfl,K,B⟩|⟨m,rfl,B⟩);rotate_left;(have u:Hid _:=(fun h=>m (y.out.1 h).1);go_wp2;exact⟨rfl,.inr ⟨u.out,rfl,Bj Br.drew B⟩⟩);have U:Hid _:=M;have j:=Bj Br.drew B;have I:=j)
   | (refine(T.out _ p j ?_).mono ?_;exact K.mono (fun _ l=>l) (fun _ _=>rfl);rintro e P (⟨J,N,rfl,L,r⟩|⟨m,rfl,r⟩);rotate_left;(have u:Hid _:=(fun h=>m (y.out.1 h).2);go_wp2;exact⟨rfl,.inr ⟨u.out,rfl,Bj j r⟩⟩);have R:Hid _:=J;have I:=Bj j r))
 all_goals
  have S:Hid (PartPost w G c F ⟨k,d,ws,[a]⟩ (.returned (Pt N)) P):=PartPost.up (G1:=Gn w G C) (.inl ⟨y.out.2 ⟨U.out,R.out⟩,N,rfl,L,r⟩) j (fun k l=>l);go_wp2;go_ret;exact S.out
theorem rQ1 (ha:O8 a)(M:O8 b)(P:OkL 120 a)(Q:OkL 120 b)(a3:eX7 a+eX7 b<=24)(hn:cn a+cn b<=100000)(a5:gx a+gx b<=1099511627776):O8 ⟨3,d,ws,[a,b]⟩:=by
 intro w G a8 a7 f j E o;rw[PlanV]at E;obtain⟨_,T,g,h,b2,b1,x,a6,k0,k1,k2,U,L,J,K,m,n⟩:=E;obtain⟨rfl,rfl⟩:=bQe U;refine⟨fun W=>by kernel_rfl,?_⟩;obtain⟨v,t,rfl⟩:=PlanV.func _ _ m;obtain⟨y,u,rfl⟩:=PlanV.func _ _ n;have a9:=(ha w G v t f j m o).1;have b0:=(M w G y u f j n o).1;have H1:Hid (∀W,Bw w W->Ca v t W (PartPost W G f (B5 a) a)):=fun W c=>(ha W G v t f (fun k i=>Ll (j k i) c.size) (m.later j c) (o.below c)).2;have H2:Hid (∀W,Bw w W->Ca y u W (PartPost W G f (B5 b) b)):=fun W c=>(M W G y u f (fun k i=>Ll (j k i) c.size) (n.later j c) (o.below c)).2;have I:Hid (∀W:World,Bw w W->Ce W T 0 (.func (.func 132) #[] #[])/\Ce W g 1 (.func (.func v) #[] t)/\Ce W h 1 (.func (.func y) #[] u)):=fun W c=>⟨(L.below c L.lt).cell 0,(J.below c J.lt).cell 1,(K.below c K.lt).cell 1⟩;have B:Hid (B5 ⟨3,d,ws,[a,b]⟩↔B5 a/\B5 b/\(¬fXb (eX8 a) (eX8 b)/\¬fXb (eX6 a) (eX6 b))):=by show _↔_;rw[B5];simp
 have HJ:Hid (∀W p q,Bw w W->PartV W (Gn w G W) p a->PartV W (Gn w G W) q b->Ca 132 #[Pt p,Pt q] W (PartPost W (Gn w G W) f ((¬fXb (eX8 a) (eX8 b)/\¬fXb (eX6 a) (eX6 b))) ⟨3,d,ws,[a,b]⟩)):=fun W p q c E R=>
  (vQi a b W _ f P Q a3 a5 (by have:=Y6 a;have:=Y6 b;omega) (by have:=Y7 a;have:=Y7 b;omega) (Gn.old j c.size) (o.below c) p q E R _ (by rw[O6 (fX6 a P) (fX6 b Q),O6 (fX8 a P) (fX8 b Q)])).mono (fun e H R=>R.congr (by simp[eX9,dS]) (by simp[eX9,dV]) (by funext x;simp[eX9,A6]) (by funext x;simp[eX9,A8]) (by funext x a6;simp[eX9,A9]) Iff.rfl)
 obtain⟨e0,e1,e2⟩:=I.out w Br;generalize B5 ⟨3,d,ws,[a,b]⟩=F at *;generalize a4:((¬fXb (eX8 a) (eX8 b)/\¬fXb (eX6 a) (eX6 b)))=OK at *;go_enter Tryz.func133,Tryz.ntmps133;go_wp2;go_region_held (fun H=>Ce H T 0 (.func (.func 132) #[] #[])/\Ce H g 1 (.func (.func v) #[] t)/\Ce H h 1 (.func (.func y) #[] u)) (first|assumption|exact I.out _ Br.drew|exact I.out _ r)
  (first
   | (refine(H1.out _ ?_).mono ?_;exact Br.drew;rintro e w2 (⟨Y,p,rfl,m,O⟩|⟨l,rfl,O⟩);rotate_left;(have s:Hid _:=(fun h=>l (B.out.1 h).1);go_wp2;exact⟨rfl,.inr ⟨s.out,rfl,Bj Br.drew O⟩⟩);have a1:Hid _:=Y;have N:=Bj Br.drew O;have r:=N)
   | (refine(H2.out _ r).mono ?_;rintro e S (⟨Z,q,rfl,n,z⟩|⟨l,rfl,z⟩);rotate_left;(have s:Hid _:=(fun h=>l (B.out.1 h).2.1);go_wp2;exact⟨rfl,.inr ⟨s.out,rfl,Bj r z⟩⟩);have a2:Hid _:=Z;have A:=Bj r z;have r:=A)
   | (go_at_call 132;refine(HJ.out _ p q A ?_ ?_).mono ?_;exact(m.below (Gn.old j N.size) z).mono (fun k i=>i.imp id (fun h=>⟨h.1,Ll h.2 z.size⟩)) (fun _ _=>rfl);exact n.mono (fun k i=>i.imp id (fun h=>⟨Lq N.size h.1,h.2⟩)) (fun _ _=>rfl);rintro e w4 (⟨V,p4,rfl,X,C⟩|⟨l,rfl,C⟩);rotate_left;(have s:Hid _:=(fun h=>l (B.out.1 h).2.2);go_wp2;exact⟨rfl,.inr ⟨s.out,rfl,Bj A C⟩⟩);have a0:Hid _:=V;have r:=Bj A C))
 all_goals
  have HQ:Hid (PartPost w G f F ⟨3,d,ws,[a,b]⟩ (.returned (Pt p4)) w4):=PartPost.up (G1:=Gn w G S) (.inl ⟨B.out.2 ⟨a1.out,a2.out,a0.out⟩,p4,rfl,X,C⟩) A (fun k i=>i);go_wp2;go_ret;exact HQ.out
theorem rQx (ha:O8 a)(M:O8 b)(P:OkL 120 a)(Q:OkL 120 b)(a3:eX7 a+eX7 b<=24)(hn:cn a+cn b<=100000)(a5:gx a+gx b<=1099511627776):O8 ⟨4,d,ws,[a,b]⟩:=by
 intro w G a8 a7 f j E o;rw[PlanV]at E;obtain⟨_,T,g,h,b2,b1,x,a6,k0,k1,k2,U,L,J,K,m,n⟩:=E;obtain⟨rfl,rfl⟩:=bQe U;refine⟨fun W=>by kernel_rfl,?_⟩;obtain⟨v,t,rfl⟩:=PlanV.func _ _ m;obtain⟨y,u,rfl⟩:=PlanV.func _ _ n;have a9:=(ha w G v t f j m o).1;have b0:=(M w G y u f j n o).1;have H1:Hid (∀W,Bw w W->Ca v t W (PartPost W G f (B5 a) a)):=fun W c=>(ha W G v t f (fun k i=>Ll (j k i) c.size) (m.later j c) (o.below c)).2;have H2:Hid (∀W,Bw w W->Ca y u W (PartPost W G f (B5 b) b)):=fun W c=>(M W G y u f (fun k i=>Ll (j k i) c.size) (n.later j c) (o.below c)).2;have I:Hid (∀W:World,Bw w W->Ce W T 0 (.func (.func 170) #[] #[])/\Ce W g 1 (.func (.func v) #[] t)/\Ce W h 1 (.func (.func y) #[] u)):=fun W c=>⟨(L.below c L.lt).cell 0,(J.below c J.lt).cell 1,(K.below c K.lt).cell 1⟩;have B:Hid (B5 ⟨4,d,ws,[a,b]⟩↔B5 a/\B5 b/\(¬fXb (eX8 a) (eX8 b)/\¬fXb (eX6 b) (eX6 a))):=by show _↔_;rw[B5];simp
 have HJ:Hid (∀W p q,Bw w W->PartV W (Gn w G W) p a->PartV W (Gn w G W) q b->Ca 170 #[Pt p,Pt q] W (PartPost W (Gn w G W) f ((¬fXb (eX8 a) (eX8 b)/\¬fXb (eX6 b) (eX6 a))) ⟨4,d,ws,[a,b]⟩)):=fun W p q c E R=>
  (sQp a b W f _ p q _ P Q a3 a5 (by have:=Y6 a;have:=Y6 b;omega) (by have:=Y7 a;have:=Y7 b;omega) (Gn.old j c.size) (o.below c) E R (by rw[O6 (fX6 a P) (fX6 b Q),O6 (fX8 b Q) (fX8 a P)])).mono (fun e H R=>R.congr (by simp[fXc,dS]) (by simp[fXc,dV]) (by funext x;simp[fXc,A6]) (by funext x;simp[fXc,A8]) (by funext x a6;simp[fXc,A9]) Iff.rfl)
 obtain⟨e0,e1,e2⟩:=I.out w Br;generalize B5 ⟨4,d,ws,[a,b]⟩=F at *;generalize a4:((¬fXb (eX8 a) (eX8 b)/\¬fXb (eX6 b) (eX6 a)))=OK at *;go_enter Tryz.func133,Tryz.ntmps133;go_wp2;go_region_held (fun H=>Ce H T 0 (.func (.func 170) #[] #[])/\Ce H g 1 (.func (.func v) #[] t)/\Ce H h 1 (.func (.func y) #[] u)) (first|assumption|exact I.out _ Br.drew|exact I.out _ r)
  (first
   | (refine(H1.out _ ?_).mono ?_;exact Br.drew;rintro e w2 (⟨Y,p,rfl,m,O⟩|⟨l,rfl,O⟩);rotate_left;(have s:Hid _:=(fun h=>l (B.out.1 h).1);go_wp2;exact⟨rfl,.inr ⟨s.out,rfl,Bj Br.drew O⟩⟩);have a1:Hid _:=Y;have N:=Bj Br.drew O;have r:=N)
   | (refine(H2.out _ r).mono ?_;rintro e S (⟨Z,q,rfl,n,z⟩|⟨l,rfl,z⟩);rotate_left;(have s:Hid _:=(fun h=>l (B.out.1 h).2.1);go_wp2;exact⟨rfl,.inr ⟨s.out,rfl,Bj r z⟩⟩);have a2:Hid _:=Z;have A:=Bj r z;have r:=A)
   | (go_at_call 170;refine(HJ.out _ p q A ?_ ?_).mono ?_;exact(m.below (Gn.old j N.size) z).mono (fun k i=>i.imp id (fun h=>⟨h.1,Ll h.2 z.size⟩)) (fun _ _=>rfl);exact n.mono (fun k i=>i.imp id (fun h=>⟨Lq N.size h.1,h.2⟩)) (fun _ _=>rfl);rintro e w4 (⟨V,p4,rfl,X,C⟩|⟨l,rfl,C⟩);rotate_left;(have s:Hid _:=(fun h=>l (B.out.1 h).2.2);go_wp2;exact⟨rfl,.inr ⟨s.out,rfl,Bj A C⟩⟩);have a0:Hid _:=V;have r:=Bj A C))
 all_goals
  have HQ:Hid (PartPost w G f F ⟨4,d,ws,[a,b]⟩ (.returned (Pt p4)) w4):=PartPost.up (G1:=Gn w G S) (.inl ⟨B.out.2 ⟨a1.out,a2.out,a0.out⟩,p4,rfl,X,C⟩) A (fun k i=>i);go_wp2;go_ret;exact HQ.out
theorem rQ2 (ha:O8 a)(M:O8 b)(T:OkL 120 a)(U:OkL 120 b)(a3:eX7 a+eX7 b<=24)(hn:cn a+cn b<=100000):O8 ⟨5,d,ws,[a,b]⟩:=by
 intro w G a7 a6 f j E o;rw[PlanV]at E;obtain⟨_,R,g,h,b1,b0,x,a5,k0,k1,k2,S,L,J,K,m,n⟩:=E;obtain⟨rfl,rfl⟩:=bQe S;refine⟨fun W=>by kernel_rfl,?_⟩;obtain⟨v,t,rfl⟩:=PlanV.func _ _ m;obtain⟨y,u,rfl⟩:=PlanV.func _ _ n;have a8:=(ha w G v t f j m o).1;have a9:=(M w G y u f j n o).1;have H1:Hid (∀W,Bw w W->Ca v t W (PartPost W G f (B5 a) a)):=fun W c=>(ha W G v t f (fun k i=>Ll (j k i) c.size) (m.later j c) (o.below c)).2;have H2:Hid (∀W,Bw w W->Ca y u W (PartPost W G f (B5 b) b)):=fun W c=>(M W G y u f (fun k i=>Ll (j k i) c.size) (n.later j c) (o.below c)).2;have I:Hid (∀W:World,Bw w W->Ce W R 0 (.func (.func 122) #[] #[])/\Ce W g 1 (.func (.func v) #[] t)/\Ce W h 1 (.func (.func y) #[] u)):=fun W c=>⟨(L.below c L.lt).cell 0,(J.below c J.lt).cell 1,(K.below c K.lt).cell 1⟩;have B:Hid (B5 ⟨5,d,ws,[a,b]⟩↔B5 a/\B5 b/\(¬jX2 (eX8 a) (eX8 b))):=by show _↔_;rw[B5];simp
 have HJ:Hid (∀W p q,Bw w W->PartV W (Gn w G W) p a->PartV W (Gn w G W) q b->Ca 122 #[Pt p,Pt q] W (PartPost W (Gn w G W) f ((¬jX2 (eX8 a) (eX8 b))) ⟨5,d,ws,[a,b]⟩)):=fun W p q c E P=>
  (eXe a b W f _ p q _ T U a3 (by have:=Y6 a;have:=Y6 b;omega) (by have:=Y7 a;have:=Y7 b;omega) (Gn.old j c.size) (o.below c) E P (by rw[rQu (fX6 a T) (fX6 b U)])).mono (fun e H P=>P.congr (by simp[fXn,dS]) (by simp[fXn,dV]) (by funext x;simp[fXn,A6]) (by funext x;simp[fXn,A8]) (by funext x a5;simp[fXn,A9]) Iff.rfl)
 obtain⟨e0,e1,e2⟩:=I.out w Br;generalize B5 ⟨5,d,ws,[a,b]⟩=F at *;generalize a4:((¬jX2 (eX8 a) (eX8 b)))=OK at *;go_enter Tryz.func133,Tryz.ntmps133;go_wp2;go_region_held (fun H=>Ce H R 0 (.func (.func 122) #[] #[])/\Ce H g 1 (.func (.func v) #[] t)/\Ce H h 1 (.func (.func y) #[] u)) (first|assumption|exact I.out _ Br.drew|exact I.out _ r)
  (first
   | (refine(H1.out _ ?_).mono ?_;exact Br.drew;rintro e w2 (⟨Y,p,rfl,m,O⟩|⟨l,rfl,O⟩);rotate_left;(have s:Hid _:=(fun h=>l (B.out.1 h).1);go_wp2;exact⟨rfl,.inr ⟨s.out,rfl,Bj Br.drew O⟩⟩);have a1:Hid _:=Y;have N:=Bj Br.drew O;have r:=N)
   | (refine(H2.out _ r).mono ?_;rintro e Q (⟨Z,q,rfl,n,z⟩|⟨l,rfl,z⟩);rotate_left;(have s:Hid _:=(fun h=>l (B.out.1 h).2.1);go_wp2;exact⟨rfl,.inr ⟨s.out,rfl,Bj r z⟩⟩);have a2:Hid _:=Z;have A:=Bj r z;have r:=A)
   | (go_at_call 122;refine(HJ.out _ p q A ?_ ?_).mono ?_;exact(m.below (Gn.old j N.size) z).mono (fun k i=>i.imp id (fun h=>⟨h.1,Ll h.2 z.size⟩)) (fun _ _=>rfl);exact n.mono (fun k i=>i.imp id (fun h=>⟨Lq N.size h.1,h.2⟩)) (fun _ _=>rfl);rintro e w4 (⟨V,p4,rfl,X,C⟩|⟨l,rfl,C⟩);rotate_left;(have s:Hid _:=(fun h=>l (B.out.1 h).2.2);go_wp2;exact⟨rfl,.inr ⟨s.out,rfl,Bj A C⟩⟩);have a0:Hid _:=V;have r:=Bj A C))
 all_goals
  have HQ:Hid (PartPost w G f F ⟨5,d,ws,[a,b]⟩ (.returned (Pt p4)) w4):=PartPost.up (G1:=Gn w G Q) (.inl ⟨B.out.2 ⟨a1.out,a2.out,a0.out⟩,p4,rfl,X,C⟩) A (fun k i=>i);go_wp2;go_ret;exact HQ.out
theorem eQb:(l:Ln)->OkL 120 l->eX7 l<=24->cn l<=30000->O8 l
 | ⟨k,p,w,[]⟩,h,hs,hn=>by
  have g:=h;rw[OkL]at h;rw[eX7]at hs;rw[cn]at hn;rcases h.2 with rfl|rfl|rfl
  ·exact rQy p w (by omega) (by omega)
  ·exact rQz p w (by omega) (by omega) (by omega) (by have:=h.1.1.ok;simpa [eX8] using this)
  ·exact rQ0 p w (by omega) (xQ7 g)
 | ⟨k,p,w,[a]⟩,h,hs,hn=>by
  have c:=vQb h hs hn;rw[OkL]at h;rw[eX7,if_pos h.2.1]at hs;rw[cn]at hn;exact rQw p w a k h.2.1 (eQb a h.2.2 (by omega) (by omega)) h.2.2 (by omega) (by omega) c
 | ⟨k,p,w,[a,b]⟩,h,hs,hn=>by
  have c:gx a+gx b<=1099511627776:=by
   have:=j9 h hs (by omega);rw[gx]at this;exact this
  rw[OkL]at h;rw[eX7]at hs;rw[cn]at hn;obtain⟨_,i,d,e⟩:=h;have ha:=eQb a d (by omega) (by omega);have f:=eQb b e (by omega) (by omega);rcases i with rfl|rfl|rfl
  ·exact rQ1 p w a b ha f d e (by omega) (by omega) c
  ·exact rQx p w a b ha f d e (by omega) (by omega) c
  ·exact rQ2 p w a b ha f d e (by omega) (by omega)
 | ⟨k,p,w,_::_::_::_⟩,h,_,_=>by simp[OkL]at h
def fQ3 (w w0:World)(P:Nat)(a3:Addr)(l:Ln):Ending->World->Prop:=fun e w'=>
  (∀k,k<w0.heap.size->k≠P->w'.heap[k]?=w0.heap[k]?)/\Bw w w'/\w0.heap.size<=w'.heap.size/\
  ((B5 l/\∃p,e=.returned (.tuple #[])/\Blk w' P #[.pointer (some ⟨p,0,none⟩)] 78/\PartV w' (fun k=>w.heap.size<=k/\k<w'.heap.size/\k≠P/\k≠w0.heap.size-1) p l)\/
   (¬B5 l/\e=.panicked [{v:=C9 a3,recovered:=false}]/\Blk w' P #[.pointer none] 78))
theorem aX3 (t:O8 l)(n f:Nat)(m:Array Value)(a:World)(A:Nat)(O:w.heap.size<=A)(o:a.heap.size=A+1+1+1)(y:Bw w a)(r:Blk a A #[Iv n,.func (.func f) #[] m] 130)(s:Blk a (A+1) #[.pointer none] 78)
    (B:PlanV a (fun k=>w.heap.size<=k/\k<A) l (.func (.func f) #[] m)) (H:EType a a3) :
    Calls Tryz.prog 79 #[Pt A,.pointer (some ⟨A+1,0,none⟩)] a (fQ3 w a (A+1) a3 l):=by
  obtain⟨P,u⟩:=t a _ f m a3 (fun k c=>by have:=c.2;omega) B H;obtain⟨K,L,M,N⟩:=r.two;have G:Hid _:=o;have d:Hid (Blk a (A+1) #[.pointer none] 78):=s;generalize x:B5 l=F at *;have q:Hid _:=x.symm;go_enter Tryz.func79,Tryz.ntmps79;go_wp2;refine u.mono ?_;rintro e g (⟨E,p,rfl,C,b⟩|⟨z,rfl,b⟩)
  · have j:=d.out.below b d.out.lt
    obtain⟨Q,R⟩:=j.one;have J:=b.size;have i:Hid (fQ3 w a (A+1) a3 l (.returned (.tuple #[])) (g.setCell ⟨A+1,0,none⟩ (Pt p))):=by
      have o:=G.out;refine⟨fun k c I=>?_,(Bj y b).setCell (p:=⟨A+1,0,none⟩) (by show w.heap.size<=A+1;omega) _,by simp[World.setCell];exact J,.inl ⟨by rw[<-q.out];exact E,p,rfl,?_,C.mono (fun k c=>?_) (fun k c=>Below.heap_setCell _ _ _ _ ?_)⟩⟩
      · rw[Below.heap_setCell _ _ _ _ I];exact b.block k c
      · have:=j
        unfold Blk at this ⊢;simp[World.setCell,Array.getElem?_modify,this]
      · rw[show (g.setCell ⟨A+1,0,none⟩ (Pt p)).heap.size=g.heap.size from by simp[World.setCell]]
        rcases c with h|h
        · exact⟨h.1,by have:=h.2;omega,by have:=h.2;omega,by have:=h.2;omega⟩
        · exact⟨by have:=h.1;omega,h.2,by have:=h.1;omega,by have:=h.1;omega⟩
      · show k≠A+1
        rcases c with h|h
        · have:=h.2;omega
        · have:=h.1;omega
    go_wp2;go_end0;exact i.out
  · have i:Hid (fQ3 w a (A+1) a3 l (.panicked [{v:=C9 a3,recovered:=false}]) g):=⟨fun k c _=>b.block k c,Bj y b,b.size,.inr ⟨by rw[<-q.out];exact z,rfl,d.out.below b d.out.lt⟩⟩
    go_wp2;exact⟨rfl,i.out⟩
def dQz (s:By)(a0 a1 a2 a3:Addr)(w:World):Ending->World->Prop:=fun e w'=>Bw w w'/\
  ((∃l p,E6 s.data.toList=some l/\OkL 120 l/\cn l<=30000/\eX7 l<=24/\CompIs s.data.toList 0/\e=.returned (.tuple #[.pointer (some ⟨p,0,none⟩),.nilIface])/\PartV w' (B8 w w') p l)\/
   (∃r,(r=1\/r=2\/r=3\/r=4)/\CompIs s.data.toList r/\e=.returned (.tuple #[.pointer none,C9 (bQ6 a0 a1 a2 a3 r)])))
theorem yQy (hs:s.size<=1048576)(A:Sent w a0 a1 a2 a3) :
    Calls Tryz.prog 44 #[.string s] w (dQz s a0 a1 a2 a3 w):=by
  have a4:∀(G:Fn) (first F:Array Value) (w:World),(Instr.makeFunc G first F).run Tryz.prog w=.ok (.func G first F) w:=fun _ _ _ _=>rfl;have a5:∀(a:Addr) w,(binOp .neq 80 (C9 a) .nilIface).run Tryz.prog w=.ok (.bool true) w:=fun a w=>by kernel_rfl
  have a6:∀w,(binOp .neq 80 .nilIface .nilIface).run Tryz.prog w=.ok (.bool false) w:=fun w=>by kernel_rfl
  have I:=eXi s w a0 a1 a2 a3 hs A;have Y:Hid _:=A;go_enter Tryz.func44,Tryz.ntmps44;go_wp2_with fail;refine I.mono ?_;rintro e c ⟨t,⟨l,f,i,R,V,T,N,H,rfl,U⟩|⟨r,hr,O,rfl⟩⟩
  · have d:Hid (E6 s.data.toList=some l/\OkL 120 l/\cn l<=30000/\eX7 l<=24/\s.data.toList.length<=120):=⟨V,T,N,H,R⟩
    go_wp2_with fail;have J:=C6 c (.cells #[Iv (eX7 l),.func (.func f) #[] i] 130) (.cells #[.pointer none] 78);have v:((c.alloc (.cells #[Iv (eX7 l),.func (.func f) #[] i] 130)).alloc (.cells #[.pointer none] 78)).heap.size=c.heap.size+1+1:=by simp
    have y:Blk ((c.alloc (.cells #[Iv (eX7 l),.func (.func f) #[] i] 130)).alloc (.cells #[.pointer none] 78)) c.heap.size #[Iv (eX7 l),.func (.func f) #[] i] 130:=(Blk.new c _ _).of (Below.heap_alloc _ _ _ (by simp));have z:Blk ((c.alloc (.cells #[Iv (eX7 l),.func (.func f) #[] i] 130)).alloc (.cells #[.pointer none] 78)) (c.heap.size+1) #[.pointer none] 78:=by
      have:=Blk.new (c.alloc (.cells #[Iv (eX7 l),.func (.func f) #[] i] 130)) #[.pointer none] 78;rw[World.size_alloc]at this;exact this
    generalize ((c.alloc (.cells #[Iv (eX7 l),.func (.func f) #[] i] 130)).alloc (.cells #[.pointer none] 78))=b at *;have C:=A5 b (.cells #[.nilIface] 80);have Q:(b.alloc (.cells #[.nilIface] 80)).heap[b.heap.size]?=some (.cells #[.nilIface] 80 (0,0)):=heap_alloc_new _ _;have a8:(b.alloc (.cells #[.nilIface] 80)).heap.size=b.heap.size+1:=by simp
    have B:=Bj J C;have E:=Bj t B;have P:=aX3 l w a3 (eQb l d.out.2.1 d.out.2.2.2.1 (by have:=d.out.2.2.1;omega)) (eX7 l) f i (b.alloc (.cells #[.nilIface] 80)) c.heap.size t.size (by omega) E (y.below C y.lt) (z.below C z.lt) (PlanV.mono (fun k g=>g) (fun k g=>B.block k g.2) _ _ U) (Y.out.below E).c3;have L:=jQl 79 _ (fun w=>by kernel_rfl) b _ P (fun e w' u=>⟨by rw[u.1 _ (by omega) (by omega)];exact Q,by
      rcases u.2.2.2 with⟨_,p,h,_⟩|⟨_,h,_⟩
      · exact .inl h
      · exact .inr ⟨a3,h⟩⟩)
    have q:Hid (b.heap.size=c.heap.size+1+1):=v;clear P y z U J Q B E v;refine L.mono ?_;clear L;rintro e w5 ⟨e1,x,u,M⟩;obtain⟨g,K,a9,Z⟩:=u;have a7:=t.size;rcases Z with⟨X,p,rfl,n,W⟩|⟨S,rfl,n⟩
    · rcases M with⟨_,rfl,rfl⟩|⟨a,h,_⟩
      rotate_left
      · cases h
      have o:Blk (x.setCell ⟨b.heap.size,0,none⟩ .nilIface) (c.heap.size+1) #[Pt p] 78:=n.of (Below.heap_setCell _ _ _ _ (by show c.heap.size+1≠b.heap.size;have:=q.out;omega));obtain⟨q0,q1⟩:=o.one;have j:Hid (dQz s a0 a1 a2 a3 w (.returned (.tuple #[Pt p,.nilIface])) (x.setCell ⟨b.heap.size,0,none⟩ .nilIface)):=by
        have v:=q.out;refine⟨K.setCell (p:=⟨b.heap.size,0,none⟩) (by show w.heap.size<=b.heap.size;omega) _,.inl ⟨l,p,d.out.1,d.out.2.1,d.out.2.2.1,d.out.2.2.2.1,.inr ⟨d.out.2.2.2.2,.inr ⟨l,d.out.1,.inr ⟨d.out.2.2.2.1,.inr ⟨X,rfl⟩⟩⟩⟩,rfl,W.mono (fun k g=>⟨g.1,by have:=g.2.1;simp[World.setCell];exact this⟩) (fun k g=>Below.heap_setCell _ _ _ _ (by show k≠b.heap.size;have:=g.2.2.2;omega))⟩⟩
      clear g W n o X;go_wp2_with fail;go_ret2;exact j.out
    · rcases M with⟨h,_⟩|⟨a,h,rfl,rfl⟩
      · cases h
      injection h with h;injection h with h;injection h with h;injection h with h m;injection m with m;injection m with m;subst m;have o:Blk (x.setCell ⟨b.heap.size,0,none⟩ (C9 a3)) (c.heap.size+1) #[.pointer none] 78:=n.of (Below.heap_setCell _ _ _ _ (by show c.heap.size+1≠b.heap.size;have:=q.out;omega));obtain⟨q0,q1⟩:=o.one;have j:Hid (dQz s a0 a1 a2 a3 w (.returned (.tuple #[.pointer none,C9 a3])) (x.setCell ⟨b.heap.size,0,none⟩ (C9 a3))):=by
        have v:=q.out;exact⟨K.setCell (p:=⟨b.heap.size,0,none⟩) (by show w.heap.size<=b.heap.size;omega) _,.inr ⟨4,by omega,.inr ⟨d.out.2.2.2.2,.inr ⟨l,d.out.1,.inr ⟨d.out.2.2.2.1,.inl ⟨S,rfl⟩⟩⟩⟩,rfl⟩⟩
      clear g n o S;go_wp2_with fail;go_ret2;exact j.out
  · have j:Hid (dQz s a0 a1 a2 a3 w (.returned (.tuple #[.pointer none,C9 (bQ6 a0 a1 a2 a3 r)])) (c.alloc (.cells #[Iv 0,.nilFunc] 130))):=⟨Bj t (A5 _ _),.inr ⟨r,by omega,O,rfl⟩⟩
    clear hr O;generalize bQ6 a0 a1 a2 a3 r=ad at *;go_wp2_with fail;go_ret2;exact j.out
theorem j8 (hs:s.size<=1048576)(i:Sent w a0 a1 a2 a3) :
  Calls Tryz.prog 18 #[.string s] w (CompilePost s w):=by
 have B:∀(a:Addr) w,(binOp .neq 80 (C9 a) .nilIface).run Tryz.prog w=.ok (.bool true) w:=fun a w=>by kernel_rfl
 have C:∀w,(binOp .neq 80 .nilIface .nilIface).run Tryz.prog w=.ok (.bool false) w:=fun w=>by kernel_rfl
 have n:=yQy s a0 a1 w a2 a3 hs i;have x:Hid _:=i;go_enter Tryz.func18,Tryz.ntmps18;go_wp2_with fail;refine n.mono ?_;rintro e b ⟨d,⟨l,p,t,q,o,m,c,rfl,u⟩|⟨r,v,c,rfl⟩⟩
 ·have j:=A5 b (.cells #[Pt p] 85)
  have z:=d.size;have g:Hid (CompilePost s w (.returned (.tuple #[Pt b.heap.size,Iv 0])) (b.alloc (.cells #[Pt p] 85))):=by
   refine⟨some ⟨b.heap.size,0,none⟩,0,rfl,c,by omega,by simp,Bj d j,fun _=>⟨l,b.heap.size,p,rfl,t,q,o,m,z,Blk.new b _ _,u.mono (fun k f=>⟨f.1,by have:=f.2;simp;omega⟩) (fun k f=>j.block k f.2)⟩⟩
  go_wp2;go_ret2;exact g.out
 ·have y:=uQk a0 b a1 a2 a3 (x.out.below d) r v
  have g:Hid (CompilePost s w (.returned (.tuple #[.pointer none,Iv r])) b):=⟨none,r,rfl,c,by omega,by simp;omega,d,fun h=>by omega⟩;generalize bQ6 a0 a1 a2 a3 r=A at *;go_wp2_with fail;refine y.mono ?_;rintro e E ⟨rfl,rfl⟩;go_wp2_with fail;go_ret2;exact g.out
end Go.Proofs.YtfklinjaajafgaaGreatDoor
