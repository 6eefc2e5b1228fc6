import Derived.Test.YtfklinjaajafgaaGreatDoorK56
import Derived.Test.YtfklinjaajafgaaGreatDoorK55
import Derived.Test.YtfklinjaajafgaaGreatDoorK57
import Derived.Test.YtfklinjaajafgaaGreatDoorK08
import Derived.Test.YtfklinjaajafgaaGreatDoorK02
import Derived.Test.YtfklinjaajafgaaGreatDoorK40
import Derived.Test.YtfklinjaajafgaaGreatDoorK54
set_option maxRecDepth 100000
set_option maxHeartbeats 4000000
namespace Go.Proofs.YtfklinjaajafgaaGreatDoor
open Go.RowKit
abbrev kz:Array Value:=#[.nilIface,.pointer none,.nilIface,.pointer none]
abbrev aQn (w:World)(g:Nat)(x y u v:Value):World:=(((w.setCell ⟨g,0,none⟩ x).setCell ⟨g,1,none⟩ y).setCell ⟨g,2,none⟩ u).setCell ⟨g,3,none⟩ v
theorem hQj {w W:World}{g:Nat}(h:Below w.heap.size w W)(hg:w.heap.size<=g)(x y u v:Value):Below w.heap.size w (aQn W g x y u v):=
 (((h.setCell (p:=⟨g,0,none⟩) hg x).setCell (p:=⟨g,1,none⟩) hg y).setCell (p:=⟨g,2,none⟩) hg u).setCell (p:=⟨g,3,none⟩) hg v
theorem lQ7 (w:World)(g:Nat)(x y u v:Value):(aQn w g x y u v).heap.size=w.heap.size:=by simp[World.setCell]
theorem lQ6 (w:World)(g:Nat)(x y u v:Value)(k:Nat)(h:k≠g):(aQn w g x y u v).heap[k]?=w.heap[k]?:=by
 rw[Below.heap_setCell _ _ _ _ (by show k≠g;exact h),Below.heap_setCell _ _ _ _ (by show k≠g;exact h),Below.heap_setCell _ _ _ _ (by show k≠g;exact h),Below.heap_setCell _ _ _ _ (by show k≠g;exact h)]
theorem aX6 {w:World}{g:Nat}{T:TypeId}(h:Blk w g kz T)(x y u v:Value):Blk (aQn w g x y u v) g #[x,y,u,v] T:=by
 unfold Blk at h ⊢;have h1:=heap_setCell_same w g 0 _ T x h;have h2:=heap_setCell_same _ g 1 _ T y h1;have h3:=heap_setCell_same _ g 2 _ T u h2;exact heap_setCell_same _ g 3 _ T v h3
theorem qQk {w w2:World}{g:Nat}{cs:Array Value}{T:TypeId}(h:Blk w g cs T)(hb:Below w.drew.heap.size w.drew w2)(hg:g<w.heap.size):Blk w2 g cs T:=Blk.below (w:=w.drew) h hb hg
def bQa (w0:World)(G:Nat->Prop)(a:Ls.Ln)(gv:Value)(W:World):Prop:=
 ∃g u1 z1 m1 u2 z2 m2,gv=.pointer (some ⟨g,0,none⟩)/\w0.heap.size<=g/\g<W.heap.size/\Blk W g #[.iface u1 z1,.pointer (some ⟨m1,0,none⟩),.iface u2 z2,.pointer (some ⟨m2,0,none⟩)] 94/\Below w0.heap.size w0 W/\
  ((¬Ls.inL (Ls.dXu (Ls.dS a)) []/\¬Ls.dX0 (Ls.dXu (Ls.dS a)) (Ls.dXu (Ls.rep 5 (Ls.dS a))))/\(¬Ls.inL (Ls.dXu (Ls.dV a)) []/\¬Ls.dX0 (Ls.dXu (Ls.dV a)) (Ls.dXu (Ls.rep 5 (Ls.dV a)))))/\
  Tx W (Gn w0 G W) (.iface u1 z1) m1 (Ls.rep 5 (Ls.dS a))/\Tx W (Gn w0 G W) (.iface u2 z2) m2 (Ls.rep 5 (Ls.dV a))
theorem aXc {w0 w3:World}{G G1 G2:Nat->Prop}{a:Ls.Ln}{u1 u2:TypeId}{z1 z2:Value}{m1 m2:Nat}(hb:Below w0.heap.size w0 w3)(hok:(¬Ls.inL (Ls.dXu (Ls.dS a)) []/\¬Ls.dX0 (Ls.dXu (Ls.dS a)) (Ls.dXu (Ls.rep 5 (Ls.dS a))))/\(¬Ls.inL (Ls.dXu (Ls.dV a)) []/\¬Ls.dX0 (Ls.dXu (Ls.dV a)) (Ls.dXu (Ls.rep 5 (Ls.dV a)))))(h1:Tx w3 G1 (.iface u1 z1) m1 (Ls.rep 5 (Ls.dS a)))(h2:Tx w3 G2 (.iface u2 z2) m2 (Ls.rep 5 (Ls.dV a)))(hG1:∀k,G1 k->Gn w0 G w3 k)(hG2:∀k,G2 k->Gn w0 G w3 k)(hG:∀k,G k->k<w3.heap.size) :
  bQa w0 G a (.pointer (some ⟨w3.heap.size,0,none⟩)) (w3.alloc (L0 u1 z1 m1 u2 z2 m2)):=by
 have hz:=hb.size;have hu:∀k,Gn w0 G w3 k->Gn w0 G (w3.alloc (L0 u1 z1 m1 u2 z2 m2)) k:=fun k hk=>hk.imp id (fun h=>⟨h.1,by have:=h.2;simp;omega⟩);have hl:∀k,Gn w0 G w3 k->k<w3.heap.size:=fun k hk=>hk.elim (hG k) (fun h=>h.2);exact⟨_,u1,z1,m1,u2,z2,m2,rfl,hz,by simp,Blk.new w3 _ _,Below.join hb (A5 _ _),hok,h1.mono (fun k hk=>hu k (hG1 k hk)) (fun k hk=>Below.heap_alloc _ _ _ (hl k (hG1 k hk))),h2.mono (fun k hk=>hu k (hG2 k hk)) (fun k hk=>Below.heap_alloc _ _ _ (hl k (hG2 k hk)))⟩
theorem lQ0 {w0 w3:World}{G G1 G2:Nat->Prop}{a:Ls.Ln}{g:Nat}{u1 u2:TypeId}{z1 z2:Value}{m1 m2:Nat}(hb:Below w0.heap.size w0 w3)(hB:Blk w3 g kz 94)(hg:w0.heap.size<=g)(hok:(¬Ls.inL (Ls.dXu (Ls.dS a)) []/\¬Ls.dX0 (Ls.dXu (Ls.dS a)) (Ls.dXu (Ls.rep 5 (Ls.dS a))))/\(¬Ls.inL (Ls.dXu (Ls.dV a)) []/\¬Ls.dX0 (Ls.dXu (Ls.dV a)) (Ls.dXu (Ls.rep 5 (Ls.dV a)))))(h1:Tx w3 G1 (.iface u1 z1) m1 (Ls.rep 5 (Ls.dS a)))(h2:Tx w3 G2 (.iface u2 z2) m2 (Ls.rep 5 (Ls.dV a)))(hG1:∀k,G1 k->k≠g/\Gn w0 G w3 k)(hG2:∀k,G2 k->k≠g/\Gn w0 G w3 k) :
  bQa w0 G a (.pointer (some ⟨g,0,none⟩)) (aQn w3 g (.iface u1 z1) (.pointer (some ⟨m1,0,none⟩)) (.iface u2 z2) (.pointer (some ⟨m2,0,none⟩))):=by
 have hu:∀k,Gn w0 G w3 k->Gn w0 G (aQn w3 g (.iface u1 z1) (.pointer (some ⟨m1,0,none⟩)) (.iface u2 z2) (.pointer (some ⟨m2,0,none⟩))) k:=fun k hk=>hk.imp id (fun h=>⟨h.1,by rw[lQ7];exact h.2⟩);exact⟨g,u1,z1,m1,u2,z2,m2,rfl,hg,by rw[lQ7];exact hB.lt,aX6 hB _ _ _ _,hQj hb hg _ _ _ _,hok,h1.mono (fun k hk=>hu k (hG1 k hk).2) (fun k hk=>lQ6 _ _ _ _ _ _ _ (hG1 k hk).1),h2.mono (fun k hk=>hu k (hG2 k hk).2) (fun k hk=>lQ6 _ _ _ _ _ _ _ (hG2 k hk).1)⟩
theorem aXb {w0 w2 w3:World}{G:Nat->Prop}{a:Ls.Ln}{u1 u2:TypeId}{z1 z2:Value}{m1 m2:Nat}(hG:∀k,G k->k<w0.heap.size)(hb:Below w0.heap.size w0 w3)(hs:w0.heap.size<=w2.heap.size)(hb3:Below w2.heap.size w2 w3)(hok:(¬Ls.inL (Ls.dXu (Ls.dS a)) []/\¬Ls.dX0 (Ls.dXu (Ls.dS a)) (Ls.dXu (Ls.rep 5 (Ls.dS a))))/\(¬Ls.inL (Ls.dXu (Ls.dV a)) []/\¬Ls.dX0 (Ls.dXu (Ls.dV a)) (Ls.dXu (Ls.rep 5 (Ls.dV a)))))(h1:Tx w2 (Gn w0.drew G w2) (.iface u1 z1) m1 (Ls.rep 5 (Ls.dS a)))(h2:Tx w3 (Gn w2 G w3) (.iface u2 z2) m2 (Ls.rep 5 (Ls.dV a))) :
  bQa w0 G a (.pointer (some ⟨w3.heap.size,0,none⟩)) (w3.alloc (L0 u1 z1 m1 u2 z2 m2)):=by
 have s3:=hb3.size;refine aXc (G1:=Gn w0.drew G w2) (G2:=Gn w2 G w3) hb hok (h1.below (fun k hk=>?_) hb3) h2 (fun k hk=>?_) (fun k hk=>?_) (fun k hk=>Nat.lt_of_lt_of_le (hG k hk) hb.size)
 ·rcases hk with h|h
  ·exact Nat.lt_of_lt_of_le (hG k h) hs
  ·exact h.2
 ·exact hk.imp id (fun h=>⟨h.1,Nat.lt_of_lt_of_le h.2 s3⟩)
 ·exact hk.imp id (fun h=>⟨Nat.le_trans hs h.1,h.2⟩)
theorem zQ9 {w0 w2 w3:World}{G:Nat->Prop}{a:Ls.Ln}{u1 u2:TypeId}{z1 z2:Value}{m1 m2:Nat}(hG:∀k,G k->k<w0.heap.size)(hb2:Below (w0.alloc (.cells kz 94)).drew.heap.size (w0.alloc (.cells kz 94)).drew w2)(hb3:Below w2.heap.size w2 w3)(hb:Below w0.heap.size w0 w3)(hA:Blk w3 w0.heap.size kz 94)(hok:(¬Ls.inL (Ls.dXu (Ls.dS a)) []/\¬Ls.dX0 (Ls.dXu (Ls.dS a)) (Ls.dXu (Ls.rep 5 (Ls.dS a))))/\(¬Ls.inL (Ls.dXu (Ls.dV a)) []/\¬Ls.dX0 (Ls.dXu (Ls.dV a)) (Ls.dXu (Ls.rep 5 (Ls.dV a)))))(h1:Tx w2 (Gn (w0.alloc (.cells kz 94)).drew G w2) (.iface u1 z1) m1 (Ls.rep 5 (Ls.dS a)))(h2:Tx w3 (Gn w2 G w3) (.iface u2 z2) m2 (Ls.rep 5 (Ls.dV a))) :
  bQa w0 G a (.pointer (some ⟨w0.heap.size,0,none⟩)) (aQn w3 w0.heap.size (.iface u1 z1) (.pointer (some ⟨m1,0,none⟩)) (.iface u2 z2) (.pointer (some ⟨m2,0,none⟩))):=by
 have s3:=hb3.size;have s2:(w0.alloc (.cells kz 94)).heap.size<=w2.heap.size:=hb2.size;rw[World.size_alloc]at s2;refine lQ0 (G1:=Gn (w0.alloc (.cells kz 94)).drew G w2) (G2:=Gn w2 G w3) hb hA (Nat.le_refl _) hok (h1.below (fun k hk=>?_) hb3) h2 (fun k hk=>?_) (fun k hk=>?_)
 ·rcases hk with h|h
  ·exact Nat.lt_of_lt_of_le (hG k h) (by omega)
  ·exact h.2
 ·rcases hk with h|h
  ·have:=hG k h;exact⟨by omega,.inl h⟩
  ·have h1:(w0.alloc (.cells kz 94)).heap.size<=k:=h.1
   rw[World.size_alloc]at h1;exact⟨by omega,.inr ⟨by omega,by have:=h.2;omega⟩⟩
 ·rcases hk with h|h
  ·have:=hG k h;exact⟨by omega,.inl h⟩
  ·have:=h.1;exact⟨by omega,.inr ⟨by omega,h.2⟩⟩
theorem aXa {w0 w2 w3:World}{G:Nat->Prop}{a:Ls.Ln}{u1 u2:TypeId}{z1 z2:Value}{m1 m2:Nat}(hG:∀k,G k->k<w0.heap.size)(hs:w0.heap.size<=w2.heap.size)(_hb3d:Below (w2.alloc (.cells kz 94)).heap.size (w2.alloc (.cells kz 94)) w3)(hb3:Below w2.heap.size w2 w3)(hb:Below w0.heap.size w0 w3)(hA:Blk w3 w2.heap.size kz 94)(hok:(¬Ls.inL (Ls.dXu (Ls.dS a)) []/\¬Ls.dX0 (Ls.dXu (Ls.dS a)) (Ls.dXu (Ls.rep 5 (Ls.dS a))))/\(¬Ls.inL (Ls.dXu (Ls.dV a)) []/\¬Ls.dX0 (Ls.dXu (Ls.dV a)) (Ls.dXu (Ls.rep 5 (Ls.dV a)))))(h1:Tx w2 (Gn w0.drew G w2) (.iface u1 z1) m1 (Ls.rep 5 (Ls.dS a)))(h2:Tx w3 (Gn (w2.alloc (.cells kz 94)) G w3) (.iface u2 z2) m2 (Ls.rep 5 (Ls.dV a))) :
  bQa w0 G a (.pointer (some ⟨w2.heap.size,0,none⟩)) (aQn w3 w2.heap.size (.iface u1 z1) (.pointer (some ⟨m1,0,none⟩)) (.iface u2 z2) (.pointer (some ⟨m2,0,none⟩))):=by
 have s3:=hb3.size;refine lQ0 (G1:=Gn w0.drew G w2) (G2:=Gn (w2.alloc (.cells kz 94)) G w3) hb hA hs hok (h1.below (fun k hk=>?_) hb3) h2 (fun k hk=>?_) (fun k hk=>?_)
 ·rcases hk with h|h
  ·exact Nat.lt_of_lt_of_le (hG k h) hs
  ·exact h.2
 ·rcases hk with h|h
  ·have:=hG k h;exact⟨by omega,.inl h⟩
  ·have h1:w0.heap.size<=k:=h.1
   have:=h.2;exact⟨by omega,.inr ⟨by omega,by omega⟩⟩
 ·rcases hk with h|h
  ·have:=hG k h;exact⟨by omega,.inl h⟩
  ·have h1:(w2.alloc (.cells kz 94)).heap.size<=k:=h.1
   rw[World.size_alloc]at h1;exact⟨by omega,.inr ⟨by omega,h.2⟩⟩
theorem jQs (a l:Ls.Ln)(k:Nat)(e:Ls.D)(ws:List UInt8)(hl:l=⟨k,e,ws,[a]⟩)(κ:List UInt8->List UInt8)(hκ:κ=if k=7 then C3 else fun _=>[])(oa:Ls.OkL 120 a)(h24:Ls.dXw a<=24)(hgx:gx l<=549755813888)(hns:dn (Ls.dS a)<=100000)(hnv:dn (Ls.dV a)<=100000)
  (w:World) (G:Nat->Prop) (hG:Old w G) (a3:Addr) (hc:EType w a3) (p:Nat) (ha:PartV w G p a) (kv:Value) (hk:KeyV w G kv κ) (F:Prop) (hF:F↔((¬Ls.inL (Ls.dXu (Ls.dS a)) []/\¬Ls.dX0 (Ls.dXu (Ls.dS a)) (Ls.dXu (Ls.rep 5 (Ls.dS a))))/\(¬Ls.inL (Ls.dXu (Ls.dV a)) []/\¬Ls.dX0 (Ls.dXu (Ls.dV a)) (Ls.dXu (Ls.rep 5 (Ls.dV a)))))) :
  Calls Tryz.prog 173 #[.pointer (some ⟨p,0,none⟩),kv] w (PartPost w G a3 F l):=by
 obtain⟨fk,ck,rfl⟩:∃fk ck,kv=.func (.func fk) #[] ck:=by obtain⟨f,c,h,_⟩:=hk;exact⟨f,c,h⟩
 have HA:Hid (PartV w G p a):=ha;obtain⟨t1,y1,n1,t2,y2,n2,g1,c1,d1,hp1,hp2,hp3,hp4,_,_,_⟩:=ha;have hsa:=Ls.eXs a oa;have hva:=Ls.eXo a oa;have hb0:Below w.heap.size w ((w.alloc (.cells #[.pointer (some ⟨p,0,none⟩)] 78)).alloc (.cells #[.func (.func fk) #[] ck] 95)):=C6 w _ _;have HZ0:Hid (((w.alloc (.cells #[.pointer (some ⟨p,0,none⟩)] 78)).alloc (.cells #[.func (.func fk) #[] ck] 95)).heap.size=w.heap.size+1+1):=by show _=_;simp
 have hBf:Blk ((w.alloc (.cells #[.pointer (some ⟨p,0,none⟩)] 78)).alloc (.cells #[.func (.func fk) #[] ck] 95)) w.heap.size #[.pointer (some ⟨p,0,none⟩)] 78:=(Blk.new w _ _).of (Below.heap_alloc _ _ _ (by simp));have hBk:Blk ((w.alloc (.cells #[.pointer (some ⟨p,0,none⟩)] 78)).alloc (.cells #[.func (.func fk) #[] ck] 95)) (w.heap.size+1) #[.func (.func fk) #[] ck] 95:=by
  have:=Blk.new (w.alloc (.cells #[.pointer (some ⟨p,0,none⟩)] 78)) #[.func (.func fk) #[] ck] 95;rw[World.size_alloc]at this;exact this
 have HS:Hid (∀W:World,Below ((w.alloc (.cells #[.pointer (some ⟨p,0,none⟩)] 78)).alloc (.cells #[.func (.func fk) #[] ck] 95)).heap.size ((w.alloc (.cells #[.pointer (some ⟨p,0,none⟩)] 78)).alloc (.cells #[.func (.func fk) #[] ck] 95)) W->(W.cell? ⟨p,0,none⟩=some (.iface t1 y1)/\W.cell? ⟨p,1,none⟩=some (.pointer (some ⟨n1,0,none⟩))/\W.cell? ⟨p,2,none⟩=some (.iface t2 y2)/\W.cell? ⟨p,3,none⟩=some (.pointer (some ⟨n2,0,none⟩)))/\W.cell? ⟨w.heap.size,0,none⟩=some (.pointer (some ⟨p,0,none⟩))):=fun W hW=>by
  obtain⟨e0,e1,e2,e3,_,_,_⟩:=(hp2.below (Below.join hb0 hW) hp2.lt).seven;exact⟨⟨e0,e1,e2,e3⟩,(hBf.below hW hBf.lt).cell 0⟩
 have H1:Hid (∀W,Below w.heap.size w W->Calls Tryz.prog 193 #[.agg #[.iface t1 y1,.pointer (some ⟨n1,0,none⟩)]] W (aQa W G a3 (¬Ls.inL (Ls.dXu (Ls.dS a)) []/\¬Ls.dX0 (Ls.dXu (Ls.dS a)) (Ls.dXu (Ls.rep 5 (Ls.dS a)))) (Ls.rep 5 (Ls.dS a)))):=fun W hW=>
  kQp _ (by omega) hns W G (fun k hk=>Nat.lt_of_lt_of_le (hG k hk) hW.size) a3 (hc.below hW) _ _ _ (hp3.below hG hW)
 have H2:Hid (∀W,Below w.heap.size w W->Calls Tryz.prog 193 #[.agg #[.iface t2 y2,.pointer (some ⟨n2,0,none⟩)]] W (aQa W G a3 (¬Ls.inL (Ls.dXu (Ls.dV a)) []/\¬Ls.dX0 (Ls.dXu (Ls.dV a)) (Ls.dXu (Ls.rep 5 (Ls.dV a)))) (Ls.rep 5 (Ls.dV a)))):=fun W hW=>
  kQp _ (by omega) hnv W G (fun k hk=>Nat.lt_of_lt_of_le (hG k hk) hW.size) a3 (hc.below hW) _ _ _ (hp4.below hG hW)
 have HBX:Hid (∀W,Below ((w.alloc (.cells #[.pointer (some ⟨p,0,none⟩)] 78)).alloc (.cells #[.func (.func fk) #[] ck] 95)).heap.size ((w.alloc (.cells #[.pointer (some ⟨p,0,none⟩)] 78)).alloc (.cells #[.func (.func fk) #[] ck] 95)) W->Blk W w.heap.size #[.pointer (some ⟨p,0,none⟩)] 78/\Blk W (w.heap.size+1) #[.func (.func fk) #[] ck] 95):=fun W hW=>⟨hBf.below hW hBf.lt,hBk.below hW hBk.lt⟩;have HK:Hid (KeyV w G (.func (.func fk) #[] ck) κ):=hk;have HB0:Hid (Below w.heap.size w ((w.alloc (.cells #[.pointer (some ⟨p,0,none⟩)] 78)).alloc (.cells #[.func (.func fk) #[] ck] 95))):=hb0;have HF:Hid (F↔((¬Ls.inL (Ls.dXu (Ls.dS a)) []/\¬Ls.dX0 (Ls.dXu (Ls.dS a)) (Ls.dXu (Ls.rep 5 (Ls.dS a))))/\(¬Ls.inL (Ls.dXu (Ls.dV a)) []/\¬Ls.dX0 (Ls.dXu (Ls.dV a)) (Ls.dXu (Ls.rep 5 (Ls.dV a)))))):=hF;have hmf:∀(fn:Fn) (first cap:Array Value) (w:World),(Instr.makeFunc fn first cap).run Tryz.prog w=.ok (.func fn first cap) w:=fun _ _ _ _=>rfl;clear hp1 hp2 hp3 hp4 hc hF hBf hb0 hBk hk;go_enter Tryz.func173,Tryz.ntmps173;go_upto_region 1 with (fail);go_cut [5] (fun gv wc=>bQa ((w.alloc (.cells #[.pointer (some ⟨p,0,none⟩)] 78)).alloc (.cells #[.func (.func fk) #[] ck] 95)) G a gv wc)
 case first=>
  generalize ((w.alloc (.cells #[.pointer (some ⟨p,0,none⟩)] 78)).alloc (.cells #[.func (.func fk) #[] ck] 95))=w0 at *;obtain⟨⟨e0,e1,e2,e3⟩,x0⟩:=HS.out w0 (Below.refl _ _);go_region_held (fun w'=>(w'.cell? ⟨p,0,none⟩=some (.iface t1 y1)/\w'.cell? ⟨p,1,none⟩=some (.pointer (some ⟨n1,0,none⟩))/\w'.cell? ⟨p,2,none⟩=some (.iface t2 y2)/\w'.cell? ⟨p,3,none⟩=some (.pointer (some ⟨n2,0,none⟩)))/\w'.cell? ⟨w.heap.size,0,none⟩=some (.pointer (some ⟨p,0,none⟩))) (first|with_reducible assumption|with_reducible exact HS.out _ (Below.refl _ _).drew|with_reducible exact HS.out _ (A5 _ _)|with_reducible exact HS.out _ (A5 _ _).drew|with_reducible exact HS.out _ hcur|with_reducible exact HS.out _ (Below.join hcur (A5 _ _))|with_reducible exact HS.out _ (hQj hcur (Nat.le_refl _) _ _ _ _)|with_reducible exact HS.out _ (hQj hcur sc _ _ _ _))
   (first
    | (go_at_call_of 193 (Value.agg #[.iface t1 y1,.pointer (some ⟨n1,0,none⟩)]);refine(H1.out _ ?_).mono ?_;(first|with_reducible exact HB0.out.drew|with_reducible exact(Below.join HB0.out (A5 _ _)).drew);rintro e w2 (⟨hok1,u1,z1,m1,rfl,hT2,hb2d⟩|⟨hno,rfl,hb2d⟩);rotate_left;(have HNO:Hid _:=hno;clear hno;have hbw:Below w.heap.size w w2:=(by first|with_reducible exact Below.join HB0.out.drew hb2d|with_reducible exact Below.join (Below.join HB0.out (A5 _ _)).drew hb2d);go_wp2_with fail;exact⟨rfl,.inr ⟨fun h=>HNO.out (HF.out.1 h).1,rfl,hbw⟩⟩);have HOK1:Hid _:=hok1;clear hok1;have hcur:Below w0.heap.size w0 w2:=(by first|with_reducible exact Below.join (Below.refl _ _).drew hb2d|with_reducible exact Below.join (A5 _ _).drew hb2d);(try have hA2:Blk w2 w0.heap.size kz 94:=(by with_reducible exact qQk (Blk.new w0 kz 94) hb2d (by simp)));have sc:=hcur.size)
    | (go_at_call_of 193 (Value.agg #[.iface t2 y2,.pointer (some ⟨n2,0,none⟩)]);refine(H2.out _ ?_).mono ?_;(first|with_reducible exact Below.join HB0.out hcur|with_reducible exact Below.join (Below.join HB0.out hcur) (A5 _ _));rintro e w3 (⟨hok2,u2,z2,m2,rfl,hT3,hb3d⟩|⟨hno,rfl,hb3d⟩);rotate_left;(have HNO:Hid _:=hno;clear hno;have hbw:Below w.heap.size w w3:=(by first|with_reducible exact Below.join (Below.join HB0.out hcur) hb3d|with_reducible exact Below.join (Below.join (Below.join HB0.out hcur) (A5 _ _)) hb3d);go_wp2_with fail;exact⟨rfl,.inr ⟨fun h=>HNO.out (HF.out.1 h).2,rfl,hbw⟩⟩);have HOK2:Hid _:=hok2;clear hok2;have hb23:Below w2.heap.size w2 w3:=(by first|with_reducible exact hb3d|with_reducible exact Below.join (A5 _ _) hb3d);have hcur:=Below.join hcur hb23;(try have hA3:Blk w3 w0.heap.size kz 94:=hA2.below hb23 hA2.lt);(try have hA3:Blk w3 w2.heap.size kz 94:=(by with_reducible exact(Blk.new w2 kz 94).below hb3d (by simp)));(try obtain⟨cB0,cB1,cB2,cB3⟩:=hA3.four);(try have fB0:=hA3.fr 0);(try have fB1:=hA3.fr 1);(try have fB2:=hA3.fr 2);(try have fB3:=hA3.fr 3);have s3:=hb23.size))
  all_goals
   go_wp2_with fail;go_meet
   case rel=>
    have hz0:=HZ0.out;have hG0:∀k,G k->k<w0.heap.size:=fun k hk=>Nat.lt_of_lt_of_le (hG k hk) (by omega);first
     | with_reducible exact aXb hG0 hcur (by assumption) hb23 ⟨HOK1.out,HOK2.out⟩ hT2 hT3
     | with_reducible exact zQ9 hG0 hb2d hb23 hcur hA3 ⟨HOK1.out,HOK2.out⟩ hT2 hT3
     | with_reducible exact aXa hG0 sc hb3d hb23 hcur hA3 ⟨HOK1.out,HOK2.out⟩ hT2 hT3
 case rest=>
  obtain⟨g,u1,z1,m1,u2,z2,m2,rfl,hg,hgl,hB,hbc,hok,hT1,hT2⟩:=hcut;have hbw:=Below.join HB0.out hbc;have HP:Hid (PartPost w G a3 F l (.returned (.pointer (some ⟨wc.heap.size,0,none⟩))) (wc.alloc (U1 u1 z1 m1 u2 z2 m2 (.func (.func 194) #[] #[.pointer (some ⟨w.heap.size,0,none⟩),.pointer (some ⟨g,0,none⟩)]) (.func (.func 197) #[] #[.pointer (some ⟨w.heap.size,0,none⟩),.pointer (some ⟨g,0,none⟩)]) (.func (.func 198) #[] #[.pointer (some ⟨w.heap.size,0,none⟩),.pointer (some ⟨g,0,none⟩),.pointer (some ⟨(w.heap.size+1),0,none⟩)])))):=by
   have sb:=hbw.size;have hz0:=HZ0.out;have sc:=hbc.size;have hup:∀k,Gn ((w.alloc (.cells #[.pointer (some ⟨p,0,none⟩)] 78)).alloc (.cells #[.func (.func fk) #[] ck] 95)) G wc k->Gn w G wc k:=fun k hk=>hk.imp id (fun h=>⟨by have:=h.1;omega,h.2⟩);have hT1':=hT1.mono (G':=Gn w G wc) hup (fun _ _=>rfl);have hT2':=hT2.mono (G':=Gn w G wc) hup (fun _ _=>rfl);have hpa:=(HA.out.below hG hbw).mono (G':=Gn w G wc) (fun _ h=>.inl h) (fun _ _=>rfl);obtain⟨hbf,hbk⟩:=HBX.out wc hbc;have hkw:KeyV wc (Gn w G wc) (.func (.func fk) #[] ck) κ:=HK.out.mono (fun _ h=>.inl h) (fun k hk=>hbw.block k (hG k hk));have d1:Ls.dS l=Ls.rep 5 (Ls.dS a):=by rw[hl,Ls.dS]
   have d2:Ls.dV l=Ls.rep 5 (Ls.dV a):=by rw[hl,Ls.dV]
   refine .inl ⟨HF.out.2 hok,wc.heap.size,rfl,aQ1 (G1:=Gn w G wc) (G2:=Gn w G wc) hbw hG (by rw[d1];exact hT1') (by rw[d2];exact hT2') (fun _ h=>h) (fun _ h=>h) ?_ ?_ ?_,Below.join hbw (A5 _ _)⟩
   ·exact cXu a l k e ws hl oa h24 (by omega) hok.1.1 hok.1.2 hpa hT1' hbf hB (.inr ⟨by omega,by omega⟩) (.inr ⟨by omega,hgl⟩)
   ·exact cXq a l k e ws hl oa h24 (by omega) hok.2.1 hok.2.2 hpa hT2' hbf hB (.inr ⟨by omega,by omega⟩) (.inr ⟨by omega,hgl⟩)
   ·exact cXy a l k e ws hl κ hκ oa h24 hgx hok.1.1 hok.1.2 hok.2.1 hok.2.2 hpa hT1' hT2' hkw hbf hB hbk (.inr ⟨by omega,by omega⟩) (.inr ⟨by omega,hgl⟩) (.inr ⟨by omega,by omega⟩)
  obtain⟨a0,a1,a2,a5⟩:=hB.four;clear hT1 hT2 hB HA HBX H1 H2 HS HK;go_wp2_with fail;go_ret;exact HP.out
theorem uQw {w:World}{G:Nat->Prop}{g:Nat}(h:Blk w g #[A4 []] 9)(hg:G g):KeyV w G (Y5 g) (fun _=>[]):=⟨_,_,rfl,fun _ _=>by kernel_rfl,fun W hW x _=>iQd [] x W g (h.of (hW g hg))⟩
theorem zQ5 (k:Nat)(hk:k=6\/k=7)(a:Ls.Ln)(e:Ls.D)(ws:List UInt8)(oa:Ls.OkL 120 a)(h24:Ls.dXw a<=24)(hgx:gx ⟨k,e,ws,[a]⟩<=549755813888)(hns:dn (Ls.dS a)<=100000)(hnv:dn (Ls.dV a)<=100000)
  (w:World) (G:Nat->Prop) (hG:Old w G) (a3:Addr) (hc:EType w a3) (p:Nat) (ha:PartV w G p a) (F:Prop) (hF:F↔((¬Ls.inL (Ls.dXu (Ls.dS a)) []/\¬Ls.dX0 (Ls.dXu (Ls.dS a)) (Ls.dXu (Ls.rep 5 (Ls.dS a))))/\(¬Ls.inL (Ls.dXu (Ls.dV a)) []/\¬Ls.dX0 (Ls.dXu (Ls.dV a)) (Ls.dXu (Ls.rep 5 (Ls.dV a)))))) :
  Calls Tryz.prog (M3 k) #[.pointer (some ⟨p,0,none⟩)] w (PartPost w G a3 F ⟨k,e,ws,[a]⟩):=by
 have fin:∀(W w1:World) (G1:Nat->Prop) (e1:Ending),Below w.heap.size w W->(∀k,G1 k->G k\/(w.heap.size<=k/\k<W.heap.size))->PartPost W G1 a3 F ⟨k,e,ws,[a]⟩ e1 w1->PartPost w G a3 F ⟨k,e,ws,[a]⟩ e1 w1:=by
  intro W w1 G1 e1 hb hG1 h;have hz:=hb.size;rcases h with⟨x,p,rfl,hp,hb2⟩|⟨x,rfl,hb2⟩
  ·have hz2:=hb2.size
   refine .inl ⟨x,p,rfl,hp.mono (fun k hk=>?_) (fun _ _=>rfl),Below.join hb hb2⟩;rcases hk with hk|hk
   ·exact(hG1 k hk).imp id (fun h=>⟨h.1,by have:=h.2;omega⟩)
   ·exact .inr ⟨by have:=hk.1;omega,hk.2⟩
  ·exact .inr ⟨x,rfl,Below.join hb hb2⟩
 rcases hk with rfl|rfl
 ·have HI:Hid (∀(W:World) (g:Nat),Below w.heap.size w W->w.heap.size<=g->g<W.heap.size->Blk W g #[A4 []] 9->Calls Tryz.prog 173 #[.pointer (some ⟨p,0,none⟩),Y5 g] W (PartPost w G a3 F ⟨6,e,ws,[a]⟩)):=fun W g hW hg hl hB=>
   (jQs a ⟨6,e,ws,[a]⟩ 6 e ws rfl (fun _=>[]) (by simp) oa h24 hgx hns hnv W (Gn w G W) (Gn.old hG hW.size) a3 (hc.below hW) p ((ha.below hG hW).mono (fun _ h=>.inl h) (fun _ _=>rfl)) (Y5 g) (uQw hB (.inr ⟨hg,hl⟩)) F hF).mono (fun e1 w1 h=>fin W w1 _ e1 hW (fun _ h=>h) h)
  clear ha hF fin hc;show Calls Tryz.prog 165 _ _ _;go_enter Tryz.func165,Tryz.ntmps165;go_wp2_with fail;refine(bQ3 [] w).mono ?_;rintro e1 w1 ⟨g,rfl,hg,hl,hB,hb⟩;have hC:=HI.out w1 g hb hg hl hB;clear hB;go_wp2_with fail;refine hC.mono ?_;clear hC;intro e2 w2 hq;rcases hq with⟨x,p2,rfl,h⟩|⟨x,rfl,h⟩
  ·have HQ:Hid (PartPost w G a3 F ⟨6,e,ws,[a]⟩ (.returned (.pointer (some ⟨p2,0,none⟩))) w2):=.inl ⟨x,p2,rfl,h⟩
   clear h x;go_wp2_with fail;go_ret;exact HQ.out
  ·have HQ:Hid (PartPost w G a3 F ⟨6,e,ws,[a]⟩ (.panicked [{v:=D0 a3,recovered:=false}]) w2):=.inr ⟨x,rfl,h⟩
   clear h x;go_wp2_with fail;exact⟨rfl,HQ.out⟩
 ·have hC:=jQs a ⟨7,e,ws,[a]⟩ 7 e ws rfl C3 (by simp) oa h24 hgx hns hnv w G hG a3 hc p ha (.func (.func 174) #[] #[]) (uQx w G) F hF
  clear ha hF fin hc;show Calls Tryz.prog 149 _ _ _;go_enter Tryz.func149,Tryz.ntmps149;go_wp2_with fail;refine hC.mono ?_;clear hC;intro e2 w2 hq;rcases hq with⟨x,p2,rfl,h⟩|⟨x,rfl,h⟩
  ·have HQ:Hid (PartPost w G a3 F ⟨7,e,ws,[a]⟩ (.returned (.pointer (some ⟨p2,0,none⟩))) w2):=.inl ⟨x,p2,rfl,h⟩
   clear h x;go_wp2_with fail;go_ret;exact HQ.out
  ·have HQ:Hid (PartPost w G a3 F ⟨7,e,ws,[a]⟩ (.panicked [{v:=D0 a3,recovered:=false}]) w2):=.inr ⟨x,rfl,h⟩
   clear h x;go_wp2_with fail;exact⟨rfl,HQ.out⟩
theorem PartPost.congr {w:World}{G:Nat->Prop}{a3:Addr}{ok ok':Prop}{l l':Ls.Ln}{e:Ending}{w':World}(h:PartPost w G a3 ok l e w')(h1:Ls.dS l=Ls.dS l')(h2:Ls.dV l=Ls.dV l')(h4:A6 l=A6 l')(h5:A9 l=A9 l')(h6:B4 l=B4 l')(h3:ok↔ok'):PartPost w G a3 ok' l' e w':=by
 unfold PartPost PartV at h ⊢;rw[h1,h2,h4,h5,h6]at h;rcases h with⟨a,b⟩|⟨a,b⟩
 ·exact .inl ⟨h3.1 a,b⟩
 ·exact .inr ⟨fun h=>a (h3.2 h),b⟩
theorem PartPost.up {w w1:World}{G G1:Nat->Prop}{a3:Addr}{ok:Prop}{l:Ls.Ln}{e:Ending}{w':World}(h:PartPost w1 G1 a3 ok l e w')(hb:Below w.heap.size w w1)(hG:∀k,G1 k->G k\/(w.heap.size<=k/\k<w1.heap.size)):PartPost w G a3 ok l e w':=by
 have hz:=hb.size;rcases h with⟨a,p,rfl,hp,hb2⟩|⟨a,rfl,hb2⟩
 ·have hz2:=hb2.size
  refine .inl ⟨a,p,rfl,hp.mono (fun k hk=>?_) (fun _ _=>rfl),Below.join hb hb2⟩;rcases hk with hk|hk
  ·exact(hG k hk).imp id (fun h=>⟨h.1,by have:=h.2;omega⟩)
  ·exact .inr ⟨by have:=hk.1;omega,hk.2⟩
 ·exact .inr ⟨a,rfl,Below.join hb hb2⟩
def N5 (l:Ls.Ln):Prop:=∀(w:World) (G:Nat->Prop) (f:Nat) (caps:Array Value) (a3:Addr),Old w G->PlanV w G l (.func (.func f) #[] caps)->EType w a3->
 (∀W,(callFunc f caps).run Tryz.prog W=.ok (.enter f caps) W)/\Calls Tryz.prog f caps w (PartPost w G a3 (B6 l) l)
theorem aQy {f g:Nat}{c d:Array Value}(h:Value.func (.func f) #[] c=.func (.func g) #[] d):f=g/\c=d:=by
 injection h with h1 _ h2;injection h1 with h1;exact⟨h1,h2⟩
theorem qQp (d:Ls.D)(ws:List UInt8)(h24:Ls.dsize d<=24)(hn:dn d<=100000):N5 ⟨0,d,ws,[]⟩:=by
 intro w G f caps a3 hG hp hc;rw[PlanV]at hp;rcases hp with⟨_,g,v,h1,h2,h3,h4⟩|⟨h0,_⟩|⟨h0,_⟩;rotate_left
 ·cases h0
 ·cases h0
 obtain⟨rfl,rfl⟩:=aQy h2;refine⟨fun W=>by kernel_rfl,?_⟩;obtain⟨ty,y,rfl⟩:=h4.iface;obtain⟨c0,c1⟩:=h3.one;have hC:=sQd d h24 hn w G hG a3 ty y h4;have HT:Hid (True↔B6 ⟨0,d,ws,[]⟩):=by show _↔_;rw[B6];simp
 clear h2 h3 h4;go_enter Tryz.func167,Tryz.ntmps167;go_wp2_with fail;refine hC.mono ?_;intro e w1 hq;have hq2:PartPost w G a3 (B6 ⟨0,d,ws,[]⟩) ⟨0,d,ws,[]⟩ e w1:=hq.congr (by simp[Ls.eXh,Ls.dS]) (by simp[Ls.eXh,Ls.dV]) (by funext x;simp[Ls.eXh,A6]) (by funext x;simp[Ls.eXh,A9]) (by funext x y;simp[Ls.eXh,B4]) HT.out;rcases hq with⟨_,p,rfl,_⟩|⟨ha,_⟩
 ·have HQ:Hid (PartPost w G a3 (B6 ⟨0,d,ws,[]⟩) ⟨0,d,ws,[]⟩ (.returned (.pointer (some ⟨p,0,none⟩))) w1):=hq2
  clear hq2 hC;generalize B6 ⟨0,d,ws,[]⟩=F at *;go_wp2_with fail;go_ret;exact HQ.out
 ·exact absurd trivial ha
theorem qQr (d:Ls.D)(ws:List UInt8)(h24:ws.length<=24)(hok:∀c∈ws,c.toNat<=126):N5 ⟨2,d,ws,[]⟩:=by
 intro w G f caps a3 hG hp hc;rw[PlanV]at hp;rcases hp with⟨h0,_⟩|⟨h0,_⟩|⟨_,g,h1,h2,h3⟩
 ·cases h0
 ·cases h0
 obtain⟨rfl,rfl⟩:=aQy h2;refine⟨fun W=>by kernel_rfl,?_⟩;obtain⟨c0,c1⟩:=h3.one;have hC:=zQe ws h24 hok w G hG a3;have HT:Hid (True↔B6 ⟨2,d,ws,[]⟩):=by show _↔_;rw[B6];simp
 clear h2 h3 hok;go_enter Tryz.func179,Tryz.ntmps179;go_wp2_with fail;refine hC.mono ?_;intro e w1 hq;have hq2:PartPost w G a3 (B6 ⟨2,d,ws,[]⟩) ⟨2,d,ws,[]⟩ e w1:=hq.congr (by simp[Ls.hXb,Ls.dS]) (by simp[Ls.hXb,Ls.dV]) (by funext x;simp[Ls.hXb,A6]) (by funext x;simp[Ls.hXb,A9]) (by funext x y;simp[Ls.hXb,B4]) HT.out;rcases hq with⟨_,p,rfl,_⟩|⟨ha,_⟩
 ·have HQ:Hid (PartPost w G a3 (B6 ⟨2,d,ws,[]⟩) ⟨2,d,ws,[]⟩ (.returned (.pointer (some ⟨p,0,none⟩))) w1):=hq2
  clear hq2 hC;generalize B6 ⟨2,d,ws,[]⟩=F at *;go_wp2_with fail;go_ret;exact HQ.out
 ·exact absurd trivial ha
theorem qQq (d:Ls.D)(ws:List UInt8)(h24:Ls.dsize d<=24)(hn:dn d<=100000)(hws:ws.length<=1048576)(hwf:Ls.wf (Ls.dXu d)):N5 ⟨1,d,ws,[]⟩:=by
 intro w G f caps a3 hG hp hc;rw[PlanV]at hp;rcases hp with⟨h0,_⟩|⟨_,g,h,v,h1,h2,h3,h4,h5,h6⟩|⟨h0,_⟩
 ·cases h0
 rotate_left
 ·cases h0
 obtain⟨rfl,rfl⟩:=aQy h3;refine⟨fun W=>by kernel_rfl,?_⟩;obtain⟨ty,y,rfl⟩:=h5.iface;obtain⟨c0,c1⟩:=h4.one;obtain⟨b0,b1⟩:=h6.one;have hC:=vQy d h24 hn ws hws w G hG a3 hc ty y h5;have HT:Hid (Ls.inL (Ls.dXu d) ws↔B6 ⟨1,d,ws,[]⟩):=by
  show _↔_;rw[B6,Ls.eX0 _ hwf];simp
 clear h3 h4 h5 h6;go_enter Tryz.func177,Tryz.ntmps177;go_wp2_with fail;refine hC.mono ?_;intro e w1 hq;have hq2:PartPost w G a3 (B6 ⟨1,d,ws,[]⟩) ⟨1,d,ws,[]⟩ e w1:=hq.congr (by simp[Ls.dX4,Ls.dS]) (by simp[Ls.dX4,Ls.dV]) (by funext x;simp[Ls.dX4,A6]) (by funext x;simp[Ls.dX4,A9]) (by funext x y;simp[Ls.dX4,B4]) HT.out;rcases hq with⟨_,p,rfl,_⟩|⟨_,rfl,_⟩
 ·have HQ:Hid (PartPost w G a3 (B6 ⟨1,d,ws,[]⟩) ⟨1,d,ws,[]⟩ (.returned (.pointer (some ⟨p,0,none⟩))) w1):=hq2
  clear hq2 hC HT;generalize B6 ⟨1,d,ws,[]⟩=F at *;go_wp2_with fail;go_ret;exact HQ.out
 ·have HQ:Hid (PartPost w G a3 (B6 ⟨1,d,ws,[]⟩) ⟨1,d,ws,[]⟩ (.panicked [{v:=D0 a3,recovered:=false}]) w1):=hq2
  clear hq2 hC HT;generalize B6 ⟨1,d,ws,[]⟩=F at *;go_wp2_with fail;exact⟨rfl,HQ.out⟩
theorem qQn (k:Nat)(d:Ls.D)(ws:List UInt8)(a:Ls.Ln)(_hk:k=6\/k=7)(ha:N5 a)(hok:Ls.OkL 120 a)(h24:Ls.dXw a<=24)(hn:cn a<=100000)(hgx:gx ⟨k,d,ws,[a]⟩<=549755813888):N5 ⟨k,d,ws,[a]⟩:=by
 intro w G f caps a3 hG hp hc;rw[PlanV]at hp;obtain⟨_,gj,g,n,x,h0,h1,h2,h5,h3,h4⟩:=hp;obtain⟨rfl,rfl⟩:=aQy h2;refine⟨fun W=>by kernel_rfl,?_⟩;obtain⟨f1,caps1,rfl⟩:=PlanV.func _ _ h4;have hcf:=(ha w G f1 caps1 a3 hG h4 hc).1;have H1:Hid (∀W,Below w.heap.size w W->Calls Tryz.prog f1 caps1 W (PartPost W G a3 (B6 a) a)):=fun W hW=>(ha W G f1 caps1 a3 (fun k hk=>Nat.lt_of_lt_of_le (hG k hk) hW.size) (h4.later hG hW) (hc.below hW)).2;have HS:Hid (∀W:World,Below w.heap.size w W->W.cell? ⟨gj,0,none⟩=some (.func (.func (M3 k)) #[] #[])/\W.cell? ⟨g,1,none⟩=some (.func (.func f1) #[] caps1)):=fun W hW=>⟨(h5.below hW h5.lt).cell 0,(h3.below hW h3.lt).cell 1⟩;obtain⟨j0,j1⟩:=HS.out w (Below.refl _ _);have hcr:∀(x:Value) (W:World),(callFunc (M3 k) #[x]).run Tryz.prog W=.ok (.enter (M3 k) #[x]) W:=by
  rcases _hk with rfl|rfl<;>exact fun _ _=>by kernel_rfl
 have HT:Hid (B6 ⟨k,d,ws,[a]⟩↔B6 a/\J2 (Ls.dXx a)/\J2 (Ls.dXv a)):=by show _↔_;rw[B6]
 have HR:Hid (∀W p,Below w.heap.size w W->PartV W (Gn w G W) p a->Calls Tryz.prog (M3 k) #[.pointer (some ⟨p,0,none⟩)] W (PartPost W (Gn w G W) a3 (J2 (Ls.dXx a)/\J2 (Ls.dXv a)) ⟨k,d,ws,[a]⟩)):=fun W p hW hp=>
  zQ5 k _hk a d ws hok h24 hgx (by have:=X1 a;omega) (by have:=X2 a;omega) W _ (Gn.old hG hW.size) a3 (hc.below hW) p hp _ (by rw[lQj hok.src.ok (Ls.eXv a hok),lQj hok.view.ok (Ls.eXx a hok)])
 generalize B6 ⟨k,d,ws,[a]⟩=F at *;clear h2 h3 h4 h5 hc ha;go_enter Tryz.func172,Tryz.ntmps172;generalize M3 k=fr at *;go_wp2_with fail;go_region_held (fun w'=>w'.cell? ⟨gj,0,none⟩=some (.func (.func fr) #[] #[])/\w'.cell? ⟨g,1,none⟩=some (.func (.func f1) #[] caps1)) (first|assumption|exact HS.out _ (Below.refl _ _).drew|exact HS.out _ hcur)
  (first
   | (refine(H1.out _ ?_).mono ?_;exact(Below.refl _ _).drew;rintro e w1 (⟨hta,p,rfl,hpv,hb1d⟩|⟨hno,rfl,hb1d⟩);rotate_left;(have HN:Hid (¬F):=(fun h=>hno (HT.out.1 h).1);clear hno;go_wp2_with fail;exact⟨rfl,.inr ⟨HN.out,rfl,Below.join (Below.refl _ _).drew hb1d⟩⟩);have HTA:Hid (B6 a):=hta;clear hta;have hb1:Below w.heap.size w w1:=Below.join (Below.refl _ _).drew hb1d;have hcur:Below w.heap.size w w1:=hb1)
   | (refine(HR.out _ p hb1 ?_).mono ?_;exact hpv.mono (fun _ hk=>hk) (fun _ _=>rfl);rintro e w2 (⟨hok2,p2,rfl,hpv2,hb2⟩|⟨hno,rfl,hb2⟩);rotate_left;(have HN:Hid (¬F):=(fun h=>hno (HT.out.1 h).2);clear hno;go_wp2_with fail;exact⟨rfl,.inr ⟨HN.out,rfl,Below.join hb1 hb2⟩⟩);have HOK:Hid (J2 (Ls.dXx a)/\J2 (Ls.dXv a)):=hok2;clear hok2;have hcur:Below w.heap.size w w2:=Below.join hb1 hb2))
 all_goals
  have HQ:Hid (PartPost w G a3 F ⟨k,d,ws,[a]⟩ (.returned (.pointer (some ⟨p2,0,none⟩))) w2):=PartPost.up (G1:=Gn w G w1) (.inl ⟨HT.out.2 ⟨HTA.out,HOK.out⟩,p2,rfl,hpv2,hb2⟩) hb1 (fun k hk=>hk);clear hpv2 hpv;go_wp2_with fail;go_ret;exact HQ.out
theorem qQs (d:Ls.D)(ws:List UInt8)(a b:Ls.Ln)(ha:N5 a)(hb:N5 b)(hoa:Ls.OkL 120 a)(hob:Ls.OkL 120 b)(h24:Ls.dXw a+Ls.dXw b<=24)(hn:cn a+cn b<=100000)(hgx:gx a+gx b<=1099511627776):N5 ⟨3,d,ws,[a,b]⟩:=by
 intro w G f caps a3 hG hp hc;rw[PlanV]at hp;obtain⟨_,gj,g,h,n,m,x,y,k0,k1,k2,hf,bj,b1,b2,hpa,hpb⟩:=hp;obtain⟨rfl,rfl⟩:=aQy hf;refine⟨fun W=>by kernel_rfl,?_⟩;obtain⟨f1,caps1,rfl⟩:=PlanV.func _ _ hpa;obtain⟨f2,caps2,rfl⟩:=PlanV.func _ _ hpb;have hcf1:=(ha w G f1 caps1 a3 hG hpa hc).1;have hcf2:=(hb w G f2 caps2 a3 hG hpb hc).1;have H1:Hid (∀W,Below w.heap.size w W->Calls Tryz.prog f1 caps1 W (PartPost W G a3 (B6 a) a)):=fun W hW=>(ha W G f1 caps1 a3 (fun k hk=>Nat.lt_of_lt_of_le (hG k hk) hW.size) (hpa.later hG hW) (hc.below hW)).2;have H2:Hid (∀W,Below w.heap.size w W->Calls Tryz.prog f2 caps2 W (PartPost W G a3 (B6 b) b)):=fun W hW=>(hb W G f2 caps2 a3 (fun k hk=>Nat.lt_of_lt_of_le (hG k hk) hW.size) (hpb.later hG hW) (hc.below hW)).2;have HS:Hid (∀W:World,Below w.heap.size w W->W.cell? ⟨gj,0,none⟩=some (.func (.func 132) #[] #[])/\W.cell? ⟨g,1,none⟩=some (.func (.func f1) #[] caps1)/\W.cell? ⟨h,1,none⟩=some (.func (.func f2) #[] caps2)):=fun W hW=>⟨(bj.below hW bj.lt).cell 0,(b1.below hW b1.lt).cell 1,(b2.below hW b2.lt).cell 1⟩;have HT:Hid (B6 ⟨3,d,ws,[a,b]⟩↔B6 a/\B6 b/\(¬Ls.dX0 (Ls.dXx a) (Ls.dXx b)/\¬Ls.dX0 (Ls.dXv a) (Ls.dXv b))):=by show _↔_;rw[B6];simp
 have HJ:Hid (∀W p q,Below w.heap.size w W->PartV W (Gn w G W) p a->PartV W (Gn w G W) q b->Calls Tryz.prog 132 #[.pointer (some ⟨p,0,none⟩),.pointer (some ⟨q,0,none⟩)] W (PartPost W (Gn w G W) a3 ((¬Ls.dX0 (Ls.dXx a) (Ls.dXx b)/\¬Ls.dX0 (Ls.dXv a) (Ls.dXv b))) ⟨3,d,ws,[a,b]⟩)):=fun W p q hW hp hq=>
  (uQb a b hoa hob h24 hgx (by have:=X1 a;have:=X1 b;omega) (by have:=X2 a;have:=X2 b;omega) W _ (Gn.old hG hW.size) a3 (hc.below hW) p q hp hq _ (by rw[N3 (Ls.eXv a hoa) (Ls.eXv b hob),N3 (Ls.eXx a hoa) (Ls.eXx b hob)])).mono (fun e w' hq=>hq.congr (by simp[Ls.dXy,Ls.dS]) (by simp[Ls.dXy,Ls.dV]) (by funext x;simp[Ls.dXy,A6]) (by funext x;simp[Ls.dXy,A9]) (by funext x y;simp[Ls.dXy,B4]) Iff.rfl)
 obtain⟨e0,e1,e2⟩:=HS.out w (Below.refl _ _);generalize B6 ⟨3,d,ws,[a,b]⟩=F at *;generalize hOK:((¬Ls.dX0 (Ls.dXx a) (Ls.dXx b)/\¬Ls.dX0 (Ls.dXv a) (Ls.dXv b)))=OK at *;clear hf bj b1 b2 hpa hpb hc ha hb hOK;go_enter Tryz.func133,Tryz.ntmps133;go_wp2_with fail;go_region_held (fun w'=>w'.cell? ⟨gj,0,none⟩=some (.func (.func 132) #[] #[])/\w'.cell? ⟨g,1,none⟩=some (.func (.func f1) #[] caps1)/\w'.cell? ⟨h,1,none⟩=some (.func (.func f2) #[] caps2)) (first|assumption|exact HS.out _ (Below.refl _ _).drew|exact HS.out _ hcur)
  (first
   | (refine(H1.out _ ?_).mono ?_;exact(Below.refl _ _).drew;rintro e w2 (⟨hta,p,rfl,hpa,hb2d⟩|⟨hno,rfl,hb2d⟩);rotate_left;(have HN:Hid (¬F):=(fun h=>hno (HT.out.1 h).1);clear hno;go_wp2_with fail;exact⟨rfl,.inr ⟨HN.out,rfl,Below.join (Below.refl _ _).drew hb2d⟩⟩);have HTA:Hid (B6 a):=hta;clear hta;have hb2:Below w.heap.size w w2:=Below.join (Below.refl _ _).drew hb2d;have hcur:Below w.heap.size w w2:=hb2)
   | (refine(H2.out _ hcur).mono ?_;rintro e w3 (⟨htb,q,rfl,hpb,hb3⟩|⟨hno,rfl,hb3⟩);rotate_left;(have HN:Hid (¬F):=(fun h=>hno (HT.out.1 h).2.1);clear hno;go_wp2_with fail;exact⟨rfl,.inr ⟨HN.out,rfl,Below.join hcur hb3⟩⟩);have HTB:Hid (B6 b):=htb;clear htb;have hb3w:Below w.heap.size w w3:=Below.join hcur hb3;have hcur:Below w.heap.size w w3:=hb3w)
   | (go_at_call 132;refine(HJ.out _ p q hb3w ?_ ?_).mono ?_;exact(hpa.below (Gn.old hG hb2.size) hb3).mono (fun k hk=>hk.imp id (fun h=>⟨h.1,Nat.lt_of_lt_of_le h.2 hb3.size⟩)) (fun _ _=>rfl);exact hpb.mono (fun k hk=>hk.imp id (fun h=>⟨Nat.le_trans hb2.size h.1,h.2⟩)) (fun _ _=>rfl);rintro e w4 (⟨hok4,p4,rfl,hpv4,hb4⟩|⟨hno,rfl,hb4⟩);rotate_left;(have HN:Hid (¬F):=(fun h=>hno (HT.out.1 h).2.2);clear hno;go_wp2_with fail;exact⟨rfl,.inr ⟨HN.out,rfl,Below.join hb3w hb4⟩⟩);have HOK4:Hid OK:=hok4;clear hok4;have hcur:Below w.heap.size w w4:=Below.join hb3w hb4))
 all_goals
  have HQ:Hid (PartPost w G a3 F ⟨3,d,ws,[a,b]⟩ (.returned (.pointer (some ⟨p4,0,none⟩))) w4):=PartPost.up (G1:=Gn w G w3) (.inl ⟨HT.out.2 ⟨HTA.out,HTB.out,HOK4.out⟩,p4,rfl,hpv4,hb4⟩) hb3w (fun k hk=>hk);clear hpv4 hpa hpb;go_wp2_with fail;go_ret;exact HQ.out
theorem qQo (d:Ls.D)(ws:List UInt8)(a b:Ls.Ln)(ha:N5 a)(hb:N5 b)(hoa:Ls.OkL 120 a)(hob:Ls.OkL 120 b)(h24:Ls.dXw a+Ls.dXw b<=24)(hn:cn a+cn b<=100000)(hgx:gx a+gx b<=1099511627776):N5 ⟨4,d,ws,[a,b]⟩:=by
 intro w G f caps a3 hG hp hc;rw[PlanV]at hp;obtain⟨_,gj,g,h,n,m,x,y,k0,k1,k2,hf,bj,b1,b2,hpa,hpb⟩:=hp;obtain⟨rfl,rfl⟩:=aQy hf;refine⟨fun W=>by kernel_rfl,?_⟩;obtain⟨f1,caps1,rfl⟩:=PlanV.func _ _ hpa;obtain⟨f2,caps2,rfl⟩:=PlanV.func _ _ hpb;have hcf1:=(ha w G f1 caps1 a3 hG hpa hc).1;have hcf2:=(hb w G f2 caps2 a3 hG hpb hc).1;have H1:Hid (∀W,Below w.heap.size w W->Calls Tryz.prog f1 caps1 W (PartPost W G a3 (B6 a) a)):=fun W hW=>(ha W G f1 caps1 a3 (fun k hk=>Nat.lt_of_lt_of_le (hG k hk) hW.size) (hpa.later hG hW) (hc.below hW)).2;have H2:Hid (∀W,Below w.heap.size w W->Calls Tryz.prog f2 caps2 W (PartPost W G a3 (B6 b) b)):=fun W hW=>(hb W G f2 caps2 a3 (fun k hk=>Nat.lt_of_lt_of_le (hG k hk) hW.size) (hpb.later hG hW) (hc.below hW)).2;have HS:Hid (∀W:World,Below w.heap.size w W->W.cell? ⟨gj,0,none⟩=some (.func (.func 170) #[] #[])/\W.cell? ⟨g,1,none⟩=some (.func (.func f1) #[] caps1)/\W.cell? ⟨h,1,none⟩=some (.func (.func f2) #[] caps2)):=fun W hW=>⟨(bj.below hW bj.lt).cell 0,(b1.below hW b1.lt).cell 1,(b2.below hW b2.lt).cell 1⟩;have HT:Hid (B6 ⟨4,d,ws,[a,b]⟩↔B6 a/\B6 b/\(¬Ls.dX0 (Ls.dXx a) (Ls.dXx b)/\¬Ls.dX0 (Ls.dXv b) (Ls.dXv a))):=by show _↔_;rw[B6];simp
 have HJ:Hid (∀W p q,Below w.heap.size w W->PartV W (Gn w G W) p a->PartV W (Gn w G W) q b->Calls Tryz.prog 170 #[.pointer (some ⟨p,0,none⟩),.pointer (some ⟨q,0,none⟩)] W (PartPost W (Gn w G W) a3 ((¬Ls.dX0 (Ls.dXx a) (Ls.dXx b)/\¬Ls.dX0 (Ls.dXv b) (Ls.dXv a))) ⟨4,d,ws,[a,b]⟩)):=fun W p q hW hp hq=>
  (rQg a b hoa hob h24 hgx (by have:=X1 a;have:=X1 b;omega) (by have:=X2 a;have:=X2 b;omega) W _ (Gn.old hG hW.size) a3 (hc.below hW) p q hp hq _ (by rw[N3 (Ls.eXv a hoa) (Ls.eXv b hob),N3 (Ls.eXx b hob) (Ls.eXx a hoa)])).mono (fun e w' hq=>hq.congr (by simp[Ls.dX1,Ls.dS]) (by simp[Ls.dX1,Ls.dV]) (by funext x;simp[Ls.dX1,A6]) (by funext x;simp[Ls.dX1,A9]) (by funext x y;simp[Ls.dX1,B4]) Iff.rfl)
 obtain⟨e0,e1,e2⟩:=HS.out w (Below.refl _ _);generalize B6 ⟨4,d,ws,[a,b]⟩=F at *;generalize hOK:((¬Ls.dX0 (Ls.dXx a) (Ls.dXx b)/\¬Ls.dX0 (Ls.dXv b) (Ls.dXv a)))=OK at *;clear hf bj b1 b2 hpa hpb hc ha hb hOK;go_enter Tryz.func133,Tryz.ntmps133;go_wp2_with fail;go_region_held (fun w'=>w'.cell? ⟨gj,0,none⟩=some (.func (.func 170) #[] #[])/\w'.cell? ⟨g,1,none⟩=some (.func (.func f1) #[] caps1)/\w'.cell? ⟨h,1,none⟩=some (.func (.func f2) #[] caps2)) (first|assumption|exact HS.out _ (Below.refl _ _).drew|exact HS.out _ hcur)
  (first
   | (refine(H1.out _ ?_).mono ?_;exact(Below.refl _ _).drew;rintro e w2 (⟨hta,p,rfl,hpa,hb2d⟩|⟨hno,rfl,hb2d⟩);rotate_left;(have HN:Hid (¬F):=(fun h=>hno (HT.out.1 h).1);clear hno;go_wp2_with fail;exact⟨rfl,.inr ⟨HN.out,rfl,Below.join (Below.refl _ _).drew hb2d⟩⟩);have HTA:Hid (B6 a):=hta;clear hta;have hb2:Below w.heap.size w w2:=Below.join (Below.refl _ _).drew hb2d;have hcur:Below w.heap.size w w2:=hb2)
   | (refine(H2.out _ hcur).mono ?_;rintro e w3 (⟨htb,q,rfl,hpb,hb3⟩|⟨hno,rfl,hb3⟩);rotate_left;(have HN:Hid (¬F):=(fun h=>hno (HT.out.1 h).2.1);clear hno;go_wp2_with fail;exact⟨rfl,.inr ⟨HN.out,rfl,Below.join hcur hb3⟩⟩);have HTB:Hid (B6 b):=htb;clear htb;have hb3w:Below w.heap.size w w3:=Below.join hcur hb3;have hcur:Below w.heap.size w w3:=hb3w)
   | (go_at_call 170;refine(HJ.out _ p q hb3w ?_ ?_).mono ?_;exact(hpa.below (Gn.old hG hb2.size) hb3).mono (fun k hk=>hk.imp id (fun h=>⟨h.1,Nat.lt_of_lt_of_le h.2 hb3.size⟩)) (fun _ _=>rfl);exact hpb.mono (fun k hk=>hk.imp id (fun h=>⟨Nat.le_trans hb2.size h.1,h.2⟩)) (fun _ _=>rfl);rintro e w4 (⟨hok4,p4,rfl,hpv4,hb4⟩|⟨hno,rfl,hb4⟩);rotate_left;(have HN:Hid (¬F):=(fun h=>hno (HT.out.1 h).2.2);clear hno;go_wp2_with fail;exact⟨rfl,.inr ⟨HN.out,rfl,Below.join hb3w hb4⟩⟩);have HOK4:Hid OK:=hok4;clear hok4;have hcur:Below w.heap.size w w4:=Below.join hb3w hb4))
 all_goals
  have HQ:Hid (PartPost w G a3 F ⟨4,d,ws,[a,b]⟩ (.returned (.pointer (some ⟨p4,0,none⟩))) w4):=PartPost.up (G1:=Gn w G w3) (.inl ⟨HT.out.2 ⟨HTA.out,HTB.out,HOK4.out⟩,p4,rfl,hpv4,hb4⟩) hb3w (fun k hk=>hk);clear hpv4 hpa hpb;go_wp2_with fail;go_ret;exact HQ.out
theorem qQt (d:Ls.D)(ws:List UInt8)(a b:Ls.Ln)(ha:N5 a)(hb:N5 b)(hoa:Ls.OkL 120 a)(hob:Ls.OkL 120 b)(h24:Ls.dXw a+Ls.dXw b<=24)(hn:cn a+cn b<=100000):N5 ⟨5,d,ws,[a,b]⟩:=by
 intro w G f caps a3 hG hp hc;rw[PlanV]at hp;obtain⟨_,gj,g,h,n,m,x,y,k0,k1,k2,hf,bj,b1,b2,hpa,hpb⟩:=hp;obtain⟨rfl,rfl⟩:=aQy hf;refine⟨fun W=>by kernel_rfl,?_⟩;obtain⟨f1,caps1,rfl⟩:=PlanV.func _ _ hpa;obtain⟨f2,caps2,rfl⟩:=PlanV.func _ _ hpb;have hcf1:=(ha w G f1 caps1 a3 hG hpa hc).1;have hcf2:=(hb w G f2 caps2 a3 hG hpb hc).1;have H1:Hid (∀W,Below w.heap.size w W->Calls Tryz.prog f1 caps1 W (PartPost W G a3 (B6 a) a)):=fun W hW=>(ha W G f1 caps1 a3 (fun k hk=>Nat.lt_of_lt_of_le (hG k hk) hW.size) (hpa.later hG hW) (hc.below hW)).2;have H2:Hid (∀W,Below w.heap.size w W->Calls Tryz.prog f2 caps2 W (PartPost W G a3 (B6 b) b)):=fun W hW=>(hb W G f2 caps2 a3 (fun k hk=>Nat.lt_of_lt_of_le (hG k hk) hW.size) (hpb.later hG hW) (hc.below hW)).2;have HS:Hid (∀W:World,Below w.heap.size w W->W.cell? ⟨gj,0,none⟩=some (.func (.func 122) #[] #[])/\W.cell? ⟨g,1,none⟩=some (.func (.func f1) #[] caps1)/\W.cell? ⟨h,1,none⟩=some (.func (.func f2) #[] caps2)):=fun W hW=>⟨(bj.below hW bj.lt).cell 0,(b1.below hW b1.lt).cell 1,(b2.below hW b2.lt).cell 1⟩;have HT:Hid (B6 ⟨5,d,ws,[a,b]⟩↔B6 a/\B6 b/\(¬Ls.iXr (Ls.dXx a) (Ls.dXx b))):=by show _↔_;rw[B6];simp
 have HJ:Hid (∀W p q,Below w.heap.size w W->PartV W (Gn w G W) p a->PartV W (Gn w G W) q b->Calls Tryz.prog 122 #[.pointer (some ⟨p,0,none⟩),.pointer (some ⟨q,0,none⟩)] W (PartPost W (Gn w G W) a3 ((¬Ls.iXr (Ls.dXx a) (Ls.dXx b))) ⟨5,d,ws,[a,b]⟩)):=fun W p q hW hp hq=>
  (cX3 a b hoa hob h24 (by have:=X1 a;have:=X1 b;omega) (by have:=X2 a;have:=X2 b;omega) W _ (Gn.old hG hW.size) a3 (hc.below hW) p q hp hq _ (by rw[qQl (Ls.eXv a hoa) (Ls.eXv b hob)])).mono (fun e w' hq=>hq.congr (by simp[Ls.eXc,Ls.dS]) (by simp[Ls.eXc,Ls.dV]) (by funext x;simp[Ls.eXc,A6]) (by funext x;simp[Ls.eXc,A9]) (by funext x y;simp[Ls.eXc,B4]) Iff.rfl)
 obtain⟨e0,e1,e2⟩:=HS.out w (Below.refl _ _);generalize B6 ⟨5,d,ws,[a,b]⟩=F at *;generalize hOK:((¬Ls.iXr (Ls.dXx a) (Ls.dXx b)))=OK at *;clear hf bj b1 b2 hpa hpb hc ha hb hOK;go_enter Tryz.func133,Tryz.ntmps133;go_wp2_with fail;go_region_held (fun w'=>w'.cell? ⟨gj,0,none⟩=some (.func (.func 122) #[] #[])/\w'.cell? ⟨g,1,none⟩=some (.func (.func f1) #[] caps1)/\w'.cell? ⟨h,1,none⟩=some (.func (.func f2) #[] caps2)) (first|assumption|exact HS.out _ (Below.refl _ _).drew|exact HS.out _ hcur)
  (first
   | (refine(H1.out _ ?_).mono ?_;exact(Below.refl _ _).drew;rintro e w2 (⟨hta,p,rfl,hpa,hb2d⟩|⟨hno,rfl,hb2d⟩);rotate_left;(have HN:Hid (¬F):=(fun h=>hno (HT.out.1 h).1);clear hno;go_wp2_with fail;exact⟨rfl,.inr ⟨HN.out,rfl,Below.join (Below.refl _ _).drew hb2d⟩⟩);have HTA:Hid (B6 a):=hta;clear hta;have hb2:Below w.heap.size w w2:=Below.join (Below.refl _ _).drew hb2d;have hcur:Below w.heap.size w w2:=hb2)
   | (refine(H2.out _ hcur).mono ?_;rintro e w3 (⟨htb,q,rfl,hpb,hb3⟩|⟨hno,rfl,hb3⟩);rotate_left;(have HN:Hid (¬F):=(fun h=>hno (HT.out.1 h).2.1);clear hno;go_wp2_with fail;exact⟨rfl,.inr ⟨HN.out,rfl,Below.join hcur hb3⟩⟩);have HTB:Hid (B6 b):=htb;clear htb;have hb3w:Below w.heap.size w w3:=Below.join hcur hb3;have hcur:Below w.heap.size w w3:=hb3w)
   | (go_at_call 122;refine(HJ.out _ p q hb3w ?_ ?_).mono ?_;exact(hpa.below (Gn.old hG hb2.size) hb3).mono (fun k hk=>hk.imp id (fun h=>⟨h.1,Nat.lt_of_lt_of_le h.2 hb3.size⟩)) (fun _ _=>rfl);exact hpb.mono (fun k hk=>hk.imp id (fun h=>⟨Nat.le_trans hb2.size h.1,h.2⟩)) (fun _ _=>rfl);rintro e w4 (⟨hok4,p4,rfl,hpv4,hb4⟩|⟨hno,rfl,hb4⟩);rotate_left;(have HN:Hid (¬F):=(fun h=>hno (HT.out.1 h).2.2);clear hno;go_wp2_with fail;exact⟨rfl,.inr ⟨HN.out,rfl,Below.join hb3w hb4⟩⟩);have HOK4:Hid OK:=hok4;clear hok4;have hcur:Below w.heap.size w w4:=Below.join hb3w hb4))
 all_goals
  have HQ:Hid (PartPost w G a3 F ⟨5,d,ws,[a,b]⟩ (.returned (.pointer (some ⟨p4,0,none⟩))) w4):=PartPost.up (G1:=Gn w G w3) (.inl ⟨HT.out.2 ⟨HTA.out,HTB.out,HOK4.out⟩,p4,rfl,hpv4,hb4⟩) hb3w (fun k hk=>hk);clear hpv4 hpa hpb;go_wp2_with fail;go_ret;exact HQ.out
theorem dQo:(l:Ls.Ln)->Ls.OkL 120 l->Ls.dXw l<=24->cn l<=30000->N5 l
 | ⟨k,p,w,[]⟩,h,hs,hn=>by
  have h0:=h;rw[Ls.OkL]at h;rw[Ls.dXw]at hs;rw[cn]at hn;rcases h.2 with rfl|rfl|rfl
  ·exact qQp p w (by omega) (by omega)
  ·exact qQq p w (by omega) (by omega) (by omega) (by have:=h.1.1.ok;simpa [Ls.dXx] using this)
  ·exact qQr p w (by omega) (wQ2 h0)
 | ⟨k,p,w,[a]⟩,h,hs,hn=>by
  have hgx:=tQ4 h hs hn;rw[Ls.OkL]at h;rw[Ls.dXw,if_pos h.2.1]at hs;rw[cn]at hn;exact qQn k p w a h.2.1 (dQo a h.2.2 (by omega) (by omega)) h.2.2 (by omega) (by omega) hgx
 | ⟨k,p,w,[a,b]⟩,h,hs,hn=>by
  have hgx:gx a+gx b<=1099511627776:=by
   have:=Y8 h hs (by omega);rw[gx]at this;exact this
  rw[Ls.OkL]at h;rw[Ls.dXw]at hs;rw[cn]at hn;obtain⟨_,hk,oa,ob⟩:=h;have ha:=dQo a oa (by omega) (by omega);have hb:=dQo b ob (by omega) (by omega);rcases hk with rfl|rfl|rfl
  ·exact qQs p w a b ha hb oa ob (by omega) (by omega) hgx
  ·exact qQo p w a b ha hb oa ob (by omega) (by omega) hgx
  ·exact qQt p w a b ha hb oa ob (by omega) (by omega)
 | ⟨k,p,w,_::_::_::_⟩,h,_,_=>by simp[Ls.OkL]at h
def fQc (w w0:World)(P:Nat)(a3:Addr)(l:Ls.Ln):Ending->World->Prop:=fun e w'=>
  (∀k,k<w0.heap.size->k≠P->w'.heap[k]?=w0.heap[k]?)/\Below w.heap.size w w'/\w0.heap.size<=w'.heap.size/\
  ((B6 l/\∃p,e=.returned (.tuple #[])/\Blk w' P #[.pointer (some ⟨p,0,none⟩)] 78/\PartV w' (fun k=>w.heap.size<=k/\k<w'.heap.size/\k≠P/\k≠w0.heap.size-1) p l)\/
   (¬B6 l/\e=.panicked [{v:=D0 a3,recovered:=false}]/\Blk w' P #[.pointer none] 78))
theorem zQw (l:Ls.Ln)(hB:N5 l)(n f:Nat)(caps:Array Value)(a3:Addr)(w w0:World)(A:Nat)(hA:w.heap.size<=A)(hz:w0.heap.size=A+1+1+1)(hb0:Below w.heap.size w w0)(bA:Blk w0 A #[.int .i64 n,.func (.func f) #[] caps] 130)(bP:Blk w0 (A+1) #[.pointer none] 78)
    (hpl:PlanV w0 (fun k=>w.heap.size<=k/\k<A) l (.func (.func f) #[] caps)) (hc:EType w0 a3) :
    Calls Tryz.prog 79 #[.pointer (some ⟨A,0,none⟩),.pointer (some ⟨A+1,0,none⟩)] w0 (fQc w w0 (A+1) a3 l):=by
  obtain⟨hcf,hC⟩:=hB w0 _ f caps a3 (fun k hk=>by have:=hk.2;omega) hpl hc;obtain⟨c0,c1,c2,c3⟩:=bA.two;have HZ:Hid (w0.heap.size=A+1+1+1):=hz;have HBP:Hid (Blk w0 (A+1) #[.pointer none] 78):=bP;clear bA bP hpl hB hz;generalize hF:B6 l=F at *;have HF:Hid (F=B6 l):=hF.symm;clear hF;go_enter Tryz.func79,Tryz.ntmps79;go_wp2_with fail;refine hC.mono ?_;clear hC;rintro e w1 (⟨ht,p,rfl,hpv,hb1⟩|⟨hno,rfl,hb1⟩)
  · have bP1:=HBP.out.below hb1 HBP.out.lt
    obtain⟨q0,q1⟩:=bP1.one;have hz1:=hb1.size;have HQ:Hid (fQc w w0 (A+1) a3 l (.returned (.tuple #[])) (w1.setCell ⟨A+1,0,none⟩ (.pointer (some ⟨p,0,none⟩)))):=by
      have hz:=HZ.out;refine⟨fun k hk hn=>?_,(Below.join hb0 hb1).setCell (p:=⟨A+1,0,none⟩) (by show w.heap.size<=A+1;omega) _,by simp[World.setCell];exact hz1,.inl ⟨by rw[<-HF.out];exact ht,p,rfl,?_,hpv.mono (fun k hk=>?_) (fun k hk=>Below.heap_setCell _ _ _ _ ?_)⟩⟩
      · rw[Below.heap_setCell _ _ _ _ hn];exact hb1.block k hk
      · have:=bP1
        unfold Blk at this ⊢;simp[World.setCell,Array.getElem?_modify,this]
      · rw[show (w1.setCell ⟨A+1,0,none⟩ (.pointer (some ⟨p,0,none⟩))).heap.size=w1.heap.size from by simp[World.setCell]]
        rcases hk with h|h
        · exact⟨h.1,by have:=h.2;omega,by have:=h.2;omega,by have:=h.2;omega⟩
        · exact⟨by have:=h.1;omega,h.2,by have:=h.1;omega,by have:=h.1;omega⟩
      · show k≠A+1
        rcases hk with h|h
        · have:=h.2;omega
        · have:=h.1;omega
    clear hpv bP1 ht;go_wp2_with fail;go_end0;exact HQ.out
  · have HQ:Hid (fQc w w0 (A+1) a3 l (.panicked [{v:=D0 a3,recovered:=false}]) w1):=⟨fun k hk _=>hb1.block k hk,Below.join hb0 hb1,hb1.size,.inr ⟨by rw[<-HF.out];exact hno,rfl,HBP.out.below hb1 HBP.out.lt⟩⟩
    clear hno;go_wp2_with fail;exact⟨rfl,HQ.out⟩
def dQe (s:ByteArray)(a0 a1 a2 a3:Addr)(w:World):Ending->World->Prop:=fun e w'=>Below w.heap.size w w'/\
  ((∃l p,E2 s.data.toList=some l/\Ls.OkL 120 l/\cn l<=30000/\Ls.dXw l<=24/\CompIs s.data.toList 0/\e=.returned (.tuple #[.pointer (some ⟨p,0,none⟩),.nilIface])/\PartV w' (B8 w w') p l)\/
   (∃r,(r=1\/r=2\/r=3\/r=4)/\CompIs s.data.toList r/\e=.returned (.tuple #[.pointer none,D0 (bQn a0 a1 a2 a3 r)])))
theorem xQs (s:ByteArray)(hs:s.size<=1048576)(w:World)(a0 a1 a2 a3:Addr)(hS:Sent w a0 a1 a2 a3) :
    Calls Tryz.prog 44 #[.string s] w (dQe s a0 a1 a2 a3 w):=by
  have hmf:∀(fn:Fn) (first cap:Array Value) (w:World),(Instr.makeFunc fn first cap).run Tryz.prog w=.ok (.func fn first cap) w:=fun _ _ _ _=>rfl;have hne:∀(a:Addr) w,(binOp .neq 80 (D0 a) .nilIface).run Tryz.prog w=.ok (.bool true) w:=fun a w=>by kernel_rfl
  have hnn:∀w,(binOp .neq 80 .nilIface .nilIface).run Tryz.prog w=.ok (.bool false) w:=fun w=>by kernel_rfl
  have hW:=cX7 s hs w a0 a1 a2 a3 hS;have HS:Hid (Sent w a0 a1 a2 a3):=hS;clear hS;go_enter Tryz.func44,Tryz.ntmps44;go_wp2_with fail;refine hW.mono ?_;clear hW;rintro e w1 ⟨hb1,⟨l,f,caps,hlen,hpr,hok,hcn,h24,rfl,hpl⟩|⟨r,hr,hcp,rfl⟩⟩
  · have HP:Hid (E2 s.data.toList=some l/\Ls.OkL 120 l/\cn l<=30000/\Ls.dXw l<=24/\s.data.toList.length<=120):=⟨hpr,hok,hcn,h24,hlen⟩
    clear hlen hpr hok hcn h24;go_wp2_with fail;have hb3:=C6 w1 (.cells #[.int .i64 (Ls.dXw l),.func (.func f) #[] caps] 130) (.cells #[.pointer none] 78);have hz3:((w1.alloc (.cells #[.int .i64 (Ls.dXw l),.func (.func f) #[] caps] 130)).alloc (.cells #[.pointer none] 78)).heap.size=w1.heap.size+1+1:=by simp
    have bA:Blk ((w1.alloc (.cells #[.int .i64 (Ls.dXw l),.func (.func f) #[] caps] 130)).alloc (.cells #[.pointer none] 78)) w1.heap.size #[.int .i64 (Ls.dXw l),.func (.func f) #[] caps] 130:=(Blk.new w1 _ _).of (Below.heap_alloc _ _ _ (by simp));have bP:Blk ((w1.alloc (.cells #[.int .i64 (Ls.dXw l),.func (.func f) #[] caps] 130)).alloc (.cells #[.pointer none] 78)) (w1.heap.size+1) #[.pointer none] 78:=by
      have:=Blk.new (w1.alloc (.cells #[.int .i64 (Ls.dXw l),.func (.func f) #[] caps] 130)) #[.pointer none] 78;rw[World.size_alloc]at this;exact this
    generalize ((w1.alloc (.cells #[.int .i64 (Ls.dXw l),.func (.func f) #[] caps] 130)).alloc (.cells #[.pointer none] 78))=W3 at *;have hb4:=A5 W3 (.cells #[.nilIface] 80);have he4:(W3.alloc (.cells #[.nilIface] 80)).heap[W3.heap.size]?=some (.cells #[.nilIface] 80 (0,0)):=heap_alloc_new _ _;have hz4:(W3.alloc (.cells #[.nilIface] 80)).heap.size=W3.heap.size+1:=by simp
    have hb14:=Below.join hb3 hb4;have hbw4:=Below.join hb1 hb14;have hdo:=zQw l (dQo l HP.out.2.1 HP.out.2.2.2.1 (by have:=HP.out.2.2.1;omega)) (Ls.dXw l) f caps a3 w (W3.alloc (.cells #[.nilIface] 80)) w1.heap.size hb1.size (by omega) hbw4 (bA.below hb4 bA.lt) (bP.below hb4 bP.lt) (PlanV.mono (fun k hk=>hk) (fun k hk=>hb14.block k hk.2) _ _ hpl) (HS.out.below hbw4).c3;have hca:=iQm 79 _ (fun w=>by kernel_rfl) W3 _ hdo (fun e w' hq=>⟨by rw[hq.1 _ (by omega) (by omega)];exact he4,by
      rcases hq.2.2.2 with⟨_,p,h,_⟩|⟨_,h,_⟩
      · exact .inl h
      · exact .inr ⟨a3,h⟩⟩)
    have HZ3:Hid (W3.heap.size=w1.heap.size+1+1):=hz3;clear hdo bA bP hpl hb3 he4 hb14 hbw4 hz3;refine hca.mono ?_;clear hca;rintro e w5 ⟨e1,w4,hq,hcase⟩;obtain⟨hk,hb5,hz5,hq4⟩:=hq;have hz1:=hb1.size;rcases hq4 with⟨hty,p,rfl,hbp,hpv⟩|⟨hno,rfl,hbp⟩
    · rcases hcase with⟨_,rfl,rfl⟩|⟨a,h,_⟩
      rotate_left
      · cases h
      have hbp2:Blk (w4.setCell ⟨W3.heap.size,0,none⟩ .nilIface) (w1.heap.size+1) #[.pointer (some ⟨p,0,none⟩)] 78:=hbp.of (Below.heap_setCell _ _ _ _ (by show w1.heap.size+1≠W3.heap.size;have:=HZ3.out;omega));obtain⟨q0,q1⟩:=hbp2.one;have HQ:Hid (dQe s a0 a1 a2 a3 w (.returned (.tuple #[.pointer (some ⟨p,0,none⟩),.nilIface])) (w4.setCell ⟨W3.heap.size,0,none⟩ .nilIface)):=by
        have hz3:=HZ3.out;refine⟨hb5.setCell (p:=⟨W3.heap.size,0,none⟩) (by show w.heap.size<=W3.heap.size;omega) _,.inl ⟨l,p,HP.out.1,HP.out.2.1,HP.out.2.2.1,HP.out.2.2.2.1,.inr ⟨HP.out.2.2.2.2,.inr ⟨l,HP.out.1,.inr ⟨HP.out.2.2.2.1,.inr ⟨hty,rfl⟩⟩⟩⟩,rfl,hpv.mono (fun k hk=>⟨hk.1,by have:=hk.2.1;simp[World.setCell];exact this⟩) (fun k hk=>Below.heap_setCell _ _ _ _ (by show k≠W3.heap.size;have:=hk.2.2.2;omega))⟩⟩
      clear hk hpv hbp hbp2 hty;go_wp2_with fail;go_ret2;exact HQ.out
    · rcases hcase with⟨h,_⟩|⟨a,h,rfl,rfl⟩
      · cases h
      injection h with h;injection h with h;injection h with h;injection h with h h';injection h' with h';injection h' with h';subst h';have hbp2:Blk (w4.setCell ⟨W3.heap.size,0,none⟩ (D0 a3)) (w1.heap.size+1) #[.pointer none] 78:=hbp.of (Below.heap_setCell _ _ _ _ (by show w1.heap.size+1≠W3.heap.size;have:=HZ3.out;omega));obtain⟨q0,q1⟩:=hbp2.one;have HQ:Hid (dQe s a0 a1 a2 a3 w (.returned (.tuple #[.pointer none,D0 a3])) (w4.setCell ⟨W3.heap.size,0,none⟩ (D0 a3))):=by
        have hz3:=HZ3.out;exact⟨hb5.setCell (p:=⟨W3.heap.size,0,none⟩) (by show w.heap.size<=W3.heap.size;omega) _,.inr ⟨4,by omega,.inr ⟨HP.out.2.2.2.2,.inr ⟨l,HP.out.1,.inr ⟨HP.out.2.2.2.1,.inl ⟨hno,rfl⟩⟩⟩⟩,rfl⟩⟩
      clear hk hbp hbp2 hno;go_wp2_with fail;go_ret2;exact HQ.out
  · have HQ:Hid (dQe s a0 a1 a2 a3 w (.returned (.tuple #[.pointer none,D0 (bQn a0 a1 a2 a3 r)])) (w1.alloc (.cells #[.int .i64 0,.nilFunc] 130))):=⟨Below.join hb1 (A5 _ _),.inr ⟨r,by omega,hcp,rfl⟩⟩
    clear hr hcp;generalize bQn a0 a1 a2 a3 r=ad at *;go_wp2_with fail;go_ret2;exact HQ.out
theorem aQg (s:ByteArray)(hs:s.size<=1048576)(w:World)(a0 a1 a2 a3:Addr)(hS:Sent w a0 a1 a2 a3) :
  Calls Tryz.prog 18 #[.string s] w (CompilePost s w):=by
 have hne:∀(a:Addr) w,(binOp .neq 80 (D0 a) .nilIface).run Tryz.prog w=.ok (.bool true) w:=fun a w=>by kernel_rfl
 have hnn:∀w,(binOp .neq 80 .nilIface .nilIface).run Tryz.prog w=.ok (.bool false) w:=fun w=>by kernel_rfl
 have hR:=xQs s hs w a0 a1 a2 a3 hS;have HS:Hid (Sent w a0 a1 a2 a3):=hS;clear hS;go_enter Tryz.func18,Tryz.ntmps18;go_wp2_with fail;refine hR.mono ?_;clear hR;rintro e w1 ⟨hb1,⟨l,p,hpr,hok,hcn,h24,hcp,rfl,hpv⟩|⟨r,hr,hcp,rfl⟩⟩
 ·have hb2:=A5 w1 (.cells #[.pointer (some ⟨p,0,none⟩)] 85)
  have hz1:=hb1.size;have HQ:Hid (CompilePost s w (.returned (.tuple #[.pointer (some ⟨w1.heap.size,0,none⟩),.int .i64 0])) (w1.alloc (.cells #[.pointer (some ⟨p,0,none⟩)] 85))):=by
   refine⟨some ⟨w1.heap.size,0,none⟩,0,rfl,hcp,by omega,by simp,Below.join hb1 hb2,fun _=>⟨l,w1.heap.size,p,rfl,hpr,hok,hcn,h24,hz1,Blk.new w1 _ _,hpv.mono (fun k hk=>⟨hk.1,by have:=hk.2;simp;omega⟩) (fun k hk=>hb2.block k hk.2)⟩⟩
  clear hpr hok hcn h24 hcp hpv hb2;go_wp2_with fail;go_ret2;exact HQ.out
 ·have hE:=tQe w1 a0 a1 a2 a3 (HS.out.below hb1) r hr
  have HQ:Hid (CompilePost s w (.returned (.tuple #[.pointer none,.int .i64 r])) w1):=⟨none,r,rfl,hcp,by omega,by simp;omega,hb1,fun h=>by omega⟩;clear hr hcp;generalize bQn a0 a1 a2 a3 r=ad at *;go_wp2_with fail;refine hE.mono ?_;rintro e w2 ⟨rfl,rfl⟩;go_wp2_with fail;go_ret2;exact HQ.out
end Go.Proofs.YtfklinjaajafgaaGreatDoor
