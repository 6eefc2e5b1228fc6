import Derived.Test.YtcggfnlejalppaaGreatDoorK57
import Derived.Test.YtcggfnlejalppaaGreatDoorK59
import Derived.Test.YtcggfnlejalppaaGreatDoorK58
import Derived.Test.YtcggfnlejalppaaGreatDoorK08
import Derived.Test.YtcggfnlejalppaaGreatDoorK02
import Derived.Test.YtcggfnlejalppaaGreatDoorK40
import Derived.Test.YtcggfnlejalppaaGreatDoorK54
set_option maxRecDepth 100000
set_option maxHeartbeats 4000000
namespace Go.Proofs.YtcggfnlejalppaaGreatDoor
open Go.RowKit
abbrev kz:Array Value:=#[.nilIface,.pointer none,.nilIface,.pointer none]
abbrev T8 (w:World)(g:Nat)(x y u v:Value):World:=(((w.setCell ⟨g,0,none⟩ x).setCell ⟨g,1,none⟩ y).setCell ⟨g,2,none⟩ u).setCell ⟨g,3,none⟩ v
theorem dQ2 {w W:World}{g:Nat}(h:Below w.heap.size w W)(hg:w.heap.size<=g)(x y u v:Value):Below w.heap.size w (T8 W g x y u v):=
 (((h.setCell (p:=⟨g,0,none⟩) hg x).setCell (p:=⟨g,1,none⟩) hg y).setCell (p:=⟨g,2,none⟩) hg u).setCell (p:=⟨g,3,none⟩) hg v
theorem hQ5 (w:World)(g:Nat)(x y u v:Value):(T8 w g x y u v).heap.size=w.heap.size:=by simp[World.setCell]
theorem iQt (w:World)(g:Nat)(x y u v:Value)(k:Nat)(h:k≠g):(T8 w g x y u v).heap[k]?=w.heap[k]?:=by
 rw[Below.heap_setCell _ _ _ _ (by show k≠g;exact h),Below.heap_setCell _ _ _ _ (by show k≠g;exact h),Below.heap_setCell _ _ _ _ (by show k≠g;exact h),Below.heap_setCell _ _ _ _ (by show k≠g;exact h)]
theorem lQ5 {w:World}{g:Nat}{T:TypeId}(h:Blk w g kz T)(x y u v:Value):Blk (T8 w g x y u v) g #[x,y,u,v] T:=by
 unfold Blk at h ⊢;have h1:=heap_setCell_same w g 0 _ T x h;have h2:=heap_setCell_same _ g 1 _ T y h1;have h3:=heap_setCell_same _ g 2 _ T u h2;exact heap_setCell_same _ g 3 _ T v h3
theorem sQp {w w2:World}{g:Nat}{cs:Array Value}{T:TypeId}(h:Blk w g cs T)(hb:Below w.drew.heap.size w.drew w2)(hg:g<w.heap.size):Blk w2 g cs T:=Blk.below (w:=w.drew) h hb hg
def Y1 (w0:World)(G:Nat->Prop)(a:Ls.Ln)(gv:Value)(W:World):Prop:=
 ∃g u1 z1 m1 u2 z2 m2,gv=.pointer (some ⟨g,0,none⟩)/\w0.heap.size<=g/\g<W.heap.size/\Blk W g #[.iface u1 z1,.pointer (some ⟨m1,0,none⟩),.iface u2 z2,.pointer (some ⟨m2,0,none⟩)] 88/\Below w0.heap.size w0 W/\
  ((¬Ls.inL (Ls.wQu (Ls.dS a)) []/\¬Ls.wQ1 (Ls.wQu (Ls.dS a)) (Ls.wQu (Ls.rep 5 (Ls.dS a))))/\(¬Ls.inL (Ls.wQu (Ls.dV a)) []/\¬Ls.wQ1 (Ls.wQu (Ls.dV a)) (Ls.wQu (Ls.rep 5 (Ls.dV a)))))/\
  Tx W (Gn w0 G W) (.iface u1 z1) m1 (Ls.rep 5 (Ls.dS a))/\Tx W (Gn w0 G W) (.iface u2 z2) m2 (Ls.rep 5 (Ls.dV a))
theorem uQ5 {w0 w3:World}{G G1 G2:Nat->Prop}{a:Ls.Ln}{u1 u2:TypeId}{z1 z2:Value}{m1 m2:Nat}(hb:Below w0.heap.size w0 w3)(hok:(¬Ls.inL (Ls.wQu (Ls.dS a)) []/\¬Ls.wQ1 (Ls.wQu (Ls.dS a)) (Ls.wQu (Ls.rep 5 (Ls.dS a))))/\(¬Ls.inL (Ls.wQu (Ls.dV a)) []/\¬Ls.wQ1 (Ls.wQu (Ls.dV a)) (Ls.wQu (Ls.rep 5 (Ls.dV a)))))(h1:Tx w3 G1 (.iface u1 z1) m1 (Ls.rep 5 (Ls.dS a)))(h2:Tx w3 G2 (.iface u2 z2) m2 (Ls.rep 5 (Ls.dV a)))(hG1:∀k,G1 k->Gn w0 G w3 k)(hG2:∀k,G2 k->Gn w0 G w3 k)(hG:∀k,G k->k<w3.heap.size) :
  Y1 w0 G a (.pointer (some ⟨w3.heap.size,0,none⟩)) (w3.alloc (H9 u1 z1 m1 u2 z2 m2)):=by
 have hz:=hb.size;have hu:∀k,Gn w0 G w3 k->Gn w0 G (w3.alloc (H9 u1 z1 m1 u2 z2 m2)) k:=fun k hk=>hk.imp id (fun h=>⟨h.1,by have:=h.2;simp;omega⟩);have hl:∀k,Gn w0 G w3 k->k<w3.heap.size:=fun k hk=>hk.elim (hG k) (fun h=>h.2);exact⟨_,u1,z1,m1,u2,z2,m2,rfl,hz,by simp,Blk.new w3 _ _,Below.join hb (A4 _ _),hok,h1.mono (fun k hk=>hu k (hG1 k hk)) (fun k hk=>Below.heap_alloc _ _ _ (hl k (hG1 k hk))),h2.mono (fun k hk=>hu k (hG2 k hk)) (fun k hk=>Below.heap_alloc _ _ _ (hl k (hG2 k hk)))⟩
theorem hQh {w0 w3:World}{G G1 G2:Nat->Prop}{a:Ls.Ln}{g:Nat}{u1 u2:TypeId}{z1 z2:Value}{m1 m2:Nat}(hb:Below w0.heap.size w0 w3)(hB:Blk w3 g kz 88)(hg:w0.heap.size<=g)(hok:(¬Ls.inL (Ls.wQu (Ls.dS a)) []/\¬Ls.wQ1 (Ls.wQu (Ls.dS a)) (Ls.wQu (Ls.rep 5 (Ls.dS a))))/\(¬Ls.inL (Ls.wQu (Ls.dV a)) []/\¬Ls.wQ1 (Ls.wQu (Ls.dV a)) (Ls.wQu (Ls.rep 5 (Ls.dV a)))))(h1:Tx w3 G1 (.iface u1 z1) m1 (Ls.rep 5 (Ls.dS a)))(h2:Tx w3 G2 (.iface u2 z2) m2 (Ls.rep 5 (Ls.dV a)))(hG1:∀k,G1 k->k≠g/\Gn w0 G w3 k)(hG2:∀k,G2 k->k≠g/\Gn w0 G w3 k) :
  Y1 w0 G a (.pointer (some ⟨g,0,none⟩)) (T8 w3 g (.iface u1 z1) (.pointer (some ⟨m1,0,none⟩)) (.iface u2 z2) (.pointer (some ⟨m2,0,none⟩))):=by
 have hu:∀k,Gn w0 G w3 k->Gn w0 G (T8 w3 g (.iface u1 z1) (.pointer (some ⟨m1,0,none⟩)) (.iface u2 z2) (.pointer (some ⟨m2,0,none⟩))) k:=fun k hk=>hk.imp id (fun h=>⟨h.1,by rw[hQ5];exact h.2⟩);exact⟨g,u1,z1,m1,u2,z2,m2,rfl,hg,by rw[hQ5];exact hB.lt,lQ5 hB _ _ _ _,dQ2 hb hg _ _ _ _,hok,h1.mono (fun k hk=>hu k (hG1 k hk).2) (fun k hk=>iQt _ _ _ _ _ _ _ (hG1 k hk).1),h2.mono (fun k hk=>hu k (hG2 k hk).2) (fun k hk=>iQt _ _ _ _ _ _ _ (hG2 k hk).1)⟩
theorem qQb {w0 w2 w3:World}{G:Nat->Prop}{a:Ls.Ln}{u1 u2:TypeId}{z1 z2:Value}{m1 m2:Nat}(hG:∀k,G k->k<w0.heap.size)(hb:Below w0.heap.size w0 w3)(hs:w0.heap.size<=w2.heap.size)(hb3:Below w2.heap.size w2 w3)(hok:(¬Ls.inL (Ls.wQu (Ls.dS a)) []/\¬Ls.wQ1 (Ls.wQu (Ls.dS a)) (Ls.wQu (Ls.rep 5 (Ls.dS a))))/\(¬Ls.inL (Ls.wQu (Ls.dV a)) []/\¬Ls.wQ1 (Ls.wQu (Ls.dV a)) (Ls.wQu (Ls.rep 5 (Ls.dV a)))))(h1:Tx w2 (Gn w0.drew G w2) (.iface u1 z1) m1 (Ls.rep 5 (Ls.dS a)))(h2:Tx w3 (Gn w2 G w3) (.iface u2 z2) m2 (Ls.rep 5 (Ls.dV a))) :
  Y1 w0 G a (.pointer (some ⟨w3.heap.size,0,none⟩)) (w3.alloc (H9 u1 z1 m1 u2 z2 m2)):=by
 have s3:=hb3.size;refine uQ5 (G1:=Gn w0.drew G w2) (G2:=Gn w2 G w3) hb hok (h1.below (fun k hk=>?_) hb3) h2 (fun k hk=>?_) (fun k hk=>?_) (fun k hk=>Nat.lt_of_lt_of_le (hG k hk) hb.size)
 ·rcases hk with h|h
  ·exact Nat.lt_of_lt_of_le (hG k h) hs
  ·exact h.2
 ·exact hk.imp id (fun h=>⟨h.1,Nat.lt_of_lt_of_le h.2 s3⟩)
 ·exact hk.imp id (fun h=>⟨Nat.le_trans hs h.1,h.2⟩)
theorem vQq {w0 w2 w3:World}{G:Nat->Prop}{a:Ls.Ln}{u1 u2:TypeId}{z1 z2:Value}{m1 m2:Nat}(hG:∀k,G k->k<w0.heap.size)(hb2:Below (w0.alloc (.cells kz 88)).drew.heap.size (w0.alloc (.cells kz 88)).drew w2)(hb3:Below w2.heap.size w2 w3)(hb:Below w0.heap.size w0 w3)(hA:Blk w3 w0.heap.size kz 88)(hok:(¬Ls.inL (Ls.wQu (Ls.dS a)) []/\¬Ls.wQ1 (Ls.wQu (Ls.dS a)) (Ls.wQu (Ls.rep 5 (Ls.dS a))))/\(¬Ls.inL (Ls.wQu (Ls.dV a)) []/\¬Ls.wQ1 (Ls.wQu (Ls.dV a)) (Ls.wQu (Ls.rep 5 (Ls.dV a)))))(h1:Tx w2 (Gn (w0.alloc (.cells kz 88)).drew G w2) (.iface u1 z1) m1 (Ls.rep 5 (Ls.dS a)))(h2:Tx w3 (Gn w2 G w3) (.iface u2 z2) m2 (Ls.rep 5 (Ls.dV a))) :
  Y1 w0 G a (.pointer (some ⟨w0.heap.size,0,none⟩)) (T8 w3 w0.heap.size (.iface u1 z1) (.pointer (some ⟨m1,0,none⟩)) (.iface u2 z2) (.pointer (some ⟨m2,0,none⟩))):=by
 have s3:=hb3.size;have s2:(w0.alloc (.cells kz 88)).heap.size<=w2.heap.size:=hb2.size;rw[World.size_alloc]at s2;refine hQh (G1:=Gn (w0.alloc (.cells kz 88)).drew G w2) (G2:=Gn w2 G w3) hb hA (Nat.le_refl _) hok (h1.below (fun k hk=>?_) hb3) h2 (fun k hk=>?_) (fun k hk=>?_)
 ·rcases hk with h|h
  ·exact Nat.lt_of_lt_of_le (hG k h) (by omega)
  ·exact h.2
 ·rcases hk with h|h
  ·have:=hG k h;exact⟨by omega,.inl h⟩
  ·have h1:(w0.alloc (.cells kz 88)).heap.size<=k:=h.1
   rw[World.size_alloc]at h1;exact⟨by omega,.inr ⟨by omega,by have:=h.2;omega⟩⟩
 ·rcases hk with h|h
  ·have:=hG k h;exact⟨by omega,.inl h⟩
  ·have:=h.1;exact⟨by omega,.inr ⟨by omega,h.2⟩⟩
theorem rQf {w0 w2 w3:World}{G:Nat->Prop}{a:Ls.Ln}{u1 u2:TypeId}{z1 z2:Value}{m1 m2:Nat}(hG:∀k,G k->k<w0.heap.size)(hs:w0.heap.size<=w2.heap.size)(_hb3d:Below (w2.alloc (.cells kz 88)).heap.size (w2.alloc (.cells kz 88)) w3)(hb3:Below w2.heap.size w2 w3)(hb:Below w0.heap.size w0 w3)(hA:Blk w3 w2.heap.size kz 88)(hok:(¬Ls.inL (Ls.wQu (Ls.dS a)) []/\¬Ls.wQ1 (Ls.wQu (Ls.dS a)) (Ls.wQu (Ls.rep 5 (Ls.dS a))))/\(¬Ls.inL (Ls.wQu (Ls.dV a)) []/\¬Ls.wQ1 (Ls.wQu (Ls.dV a)) (Ls.wQu (Ls.rep 5 (Ls.dV a)))))(h1:Tx w2 (Gn w0.drew G w2) (.iface u1 z1) m1 (Ls.rep 5 (Ls.dS a)))(h2:Tx w3 (Gn (w2.alloc (.cells kz 88)) G w3) (.iface u2 z2) m2 (Ls.rep 5 (Ls.dV a))) :
  Y1 w0 G a (.pointer (some ⟨w2.heap.size,0,none⟩)) (T8 w3 w2.heap.size (.iface u1 z1) (.pointer (some ⟨m1,0,none⟩)) (.iface u2 z2) (.pointer (some ⟨m2,0,none⟩))):=by
 have s3:=hb3.size;refine hQh (G1:=Gn w0.drew G w2) (G2:=Gn (w2.alloc (.cells kz 88)) G w3) hb hA hs hok (h1.below (fun k hk=>?_) hb3) h2 (fun k hk=>?_) (fun k hk=>?_)
 ·rcases hk with h|h
  ·exact Nat.lt_of_lt_of_le (hG k h) hs
  ·exact h.2
 ·rcases hk with h|h
  ·have:=hG k h;exact⟨by omega,.inl h⟩
  ·have h1:w0.heap.size<=k:=h.1
   have:=h.2;exact⟨by omega,.inr ⟨by omega,by omega⟩⟩
 ·rcases hk with h|h
  ·have:=hG k h;exact⟨by omega,.inl h⟩
  ·have h1:(w2.alloc (.cells kz 88)).heap.size<=k:=h.1
   rw[World.size_alloc]at h1;exact⟨by omega,.inr ⟨by omega,h.2⟩⟩
theorem kQv (a l:Ls.Ln)(k:Nat)(e:Ls.D)(ws:List UInt8)(hl:l=⟨k,e,ws,[a]⟩)(oa:Ls.OkL 120 a)(h24:Ls.wQv a<=24)(hgx:gx l<=1099511627776)(hns:dn (Ls.dS a)<=100000)(hnv:dn (Ls.dV a)<=100000)
  (w:World) (G:Nat->Prop) (hG:Old w G) (a3:Addr) (hc:EType w a3) (p:Nat) (ha:PartV w G p a) (F:Prop) (hF:F↔((¬Ls.inL (Ls.wQu (Ls.dS a)) []/\¬Ls.wQ1 (Ls.wQu (Ls.dS a)) (Ls.wQu (Ls.rep 5 (Ls.dS a))))/\(¬Ls.inL (Ls.wQu (Ls.dV a)) []/\¬Ls.wQ1 (Ls.wQu (Ls.dV a)) (Ls.wQu (Ls.rep 5 (Ls.dV a)))))) :
  Calls Tryz.prog 161 #[.pointer (some ⟨p,0,none⟩)] w (PartPost w G a3 F l):=by
 have HA:Hid (PartV w G p a):=ha;obtain⟨t1,y1,n1,t2,y2,n2,g1,c1,hp1,hp2,hp3,hp4,_,_⟩:=ha;have hsa:=Ls.xQz a oa;have hva:=Ls.xQy a oa;have hb0:Below w.heap.size w (w.alloc (.cells #[.pointer (some ⟨p,0,none⟩)] 72)):=A4 w _;have HZ0:Hid ((w.alloc (.cells #[.pointer (some ⟨p,0,none⟩)] 72)).heap.size=w.heap.size+1):=by show _=_;simp
 have hBf:Blk (w.alloc (.cells #[.pointer (some ⟨p,0,none⟩)] 72)) w.heap.size #[.pointer (some ⟨p,0,none⟩)] 72:=Blk.new w _ _;have HS:Hid (∀W:World,Below (w.alloc (.cells #[.pointer (some ⟨p,0,none⟩)] 72)).heap.size (w.alloc (.cells #[.pointer (some ⟨p,0,none⟩)] 72)) W->(W.cell? ⟨p,0,none⟩=some (.iface t1 y1)/\W.cell? ⟨p,1,none⟩=some (.pointer (some ⟨n1,0,none⟩))/\W.cell? ⟨p,2,none⟩=some (.iface t2 y2)/\W.cell? ⟨p,3,none⟩=some (.pointer (some ⟨n2,0,none⟩)))/\W.cell? ⟨w.heap.size,0,none⟩=some (.pointer (some ⟨p,0,none⟩))):=fun W hW=>by
  obtain⟨e0,e1,e2,e3,_,_⟩:=(hp2.below (Below.join hb0 hW) hp2.lt).six;exact⟨⟨e0,e1,e2,e3⟩,(hBf.below hW hBf.lt).cell 0⟩
 have H1:Hid (∀W,Below w.heap.size w W->Calls Tryz.prog 177 #[.agg #[.iface t1 y1,.pointer (some ⟨n1,0,none⟩)]] W (T1 W G a3 (¬Ls.inL (Ls.wQu (Ls.dS a)) []/\¬Ls.wQ1 (Ls.wQu (Ls.dS a)) (Ls.wQu (Ls.rep 5 (Ls.dS a)))) (Ls.rep 5 (Ls.dS a)))):=fun W hW=>
  hQj _ (by omega) hns W G (fun k hk=>Nat.lt_of_lt_of_le (hG k hk) hW.size) a3 (hc.below hW) _ _ _ (hp3.below hG hW)
 have H2:Hid (∀W,Below w.heap.size w W->Calls Tryz.prog 177 #[.agg #[.iface t2 y2,.pointer (some ⟨n2,0,none⟩)]] W (T1 W G a3 (¬Ls.inL (Ls.wQu (Ls.dV a)) []/\¬Ls.wQ1 (Ls.wQu (Ls.dV a)) (Ls.wQu (Ls.rep 5 (Ls.dV a)))) (Ls.rep 5 (Ls.dV a)))):=fun W hW=>
  hQj _ (by omega) hnv W G (fun k hk=>Nat.lt_of_lt_of_le (hG k hk) hW.size) a3 (hc.below hW) _ _ _ (hp4.below hG hW)
 have HBX:Hid (∀W,Below (w.alloc (.cells #[.pointer (some ⟨p,0,none⟩)] 72)).heap.size (w.alloc (.cells #[.pointer (some ⟨p,0,none⟩)] 72)) W->Blk W w.heap.size #[.pointer (some ⟨p,0,none⟩)] 72):=fun W hW=>hBf.below hW hBf.lt;have HB0:Hid (Below w.heap.size w (w.alloc (.cells #[.pointer (some ⟨p,0,none⟩)] 72))):=hb0;have HF:Hid (F↔((¬Ls.inL (Ls.wQu (Ls.dS a)) []/\¬Ls.wQ1 (Ls.wQu (Ls.dS a)) (Ls.wQu (Ls.rep 5 (Ls.dS a))))/\(¬Ls.inL (Ls.wQu (Ls.dV a)) []/\¬Ls.wQ1 (Ls.wQu (Ls.dV a)) (Ls.wQu (Ls.rep 5 (Ls.dV a)))))):=hF;have hmf:∀(fn:Fn) (first cap:Array Value) (w:World),(Instr.makeFunc fn first cap).run Tryz.prog w=.ok (.func fn first cap) w:=fun _ _ _ _=>rfl;clear hp1 hp2 hp3 hp4 hc hF hBf hb0;go_enter Tryz.func161,Tryz.ntmps161;go_upto_region 1 with (fail);go_cut [3] (fun gv wc=>Y1 (w.alloc (.cells #[.pointer (some ⟨p,0,none⟩)] 72)) G a gv wc)
 case first=>
  generalize (w.alloc (.cells #[.pointer (some ⟨p,0,none⟩)] 72))=w0 at *;obtain⟨⟨e0,e1,e2,e3⟩,x0⟩:=HS.out w0 (Below.refl _ _);go_region_held (fun w'=>(w'.cell? ⟨p,0,none⟩=some (.iface t1 y1)/\w'.cell? ⟨p,1,none⟩=some (.pointer (some ⟨n1,0,none⟩))/\w'.cell? ⟨p,2,none⟩=some (.iface t2 y2)/\w'.cell? ⟨p,3,none⟩=some (.pointer (some ⟨n2,0,none⟩)))/\w'.cell? ⟨w.heap.size,0,none⟩=some (.pointer (some ⟨p,0,none⟩))) (first|with_reducible assumption|with_reducible exact HS.out _ (Below.refl _ _).drew|with_reducible exact HS.out _ (A4 _ _)|with_reducible exact HS.out _ (A4 _ _).drew|with_reducible exact HS.out _ hcur|with_reducible exact HS.out _ (Below.join hcur (A4 _ _))|with_reducible exact HS.out _ (dQ2 hcur (Nat.le_refl _) _ _ _ _)|with_reducible exact HS.out _ (dQ2 hcur sc _ _ _ _))
   (first
    | (go_at_call_of 177 (Value.agg #[.iface t1 y1,.pointer (some ⟨n1,0,none⟩)]);refine(H1.out _ ?_).mono ?_;(first|with_reducible exact HB0.out.drew|with_reducible exact(Below.join HB0.out (A4 _ _)).drew);rintro e w2 (⟨hok1,u1,z1,m1,rfl,hT2,hb2d⟩|⟨hno,rfl,hb2d⟩);rotate_left;(have HNO:Hid _:=hno;clear hno;have hbw:Below w.heap.size w w2:=(by first|with_reducible exact Below.join HB0.out.drew hb2d|with_reducible exact Below.join (Below.join HB0.out (A4 _ _)).drew hb2d);go_wp2_with fail;exact⟨rfl,.inr ⟨fun h=>HNO.out (HF.out.1 h).1,rfl,hbw⟩⟩);have HOK1:Hid _:=hok1;clear hok1;have hcur:Below w0.heap.size w0 w2:=(by first|with_reducible exact Below.join (Below.refl _ _).drew hb2d|with_reducible exact Below.join (A4 _ _).drew hb2d);(try have hA2:Blk w2 w0.heap.size kz 88:=(by with_reducible exact sQp (Blk.new w0 kz 88) hb2d (by simp)));have sc:=hcur.size)
    | (go_at_call_of 177 (Value.agg #[.iface t2 y2,.pointer (some ⟨n2,0,none⟩)]);refine(H2.out _ ?_).mono ?_;(first|with_reducible exact Below.join HB0.out hcur|with_reducible exact Below.join (Below.join HB0.out hcur) (A4 _ _));rintro e w3 (⟨hok2,u2,z2,m2,rfl,hT3,hb3d⟩|⟨hno,rfl,hb3d⟩);rotate_left;(have HNO:Hid _:=hno;clear hno;have hbw:Below w.heap.size w w3:=(by first|with_reducible exact Below.join (Below.join HB0.out hcur) hb3d|with_reducible exact Below.join (Below.join (Below.join HB0.out hcur) (A4 _ _)) hb3d);go_wp2_with fail;exact⟨rfl,.inr ⟨fun h=>HNO.out (HF.out.1 h).2,rfl,hbw⟩⟩);have HOK2:Hid _:=hok2;clear hok2;have hb23:Below w2.heap.size w2 w3:=(by first|with_reducible exact hb3d|with_reducible exact Below.join (A4 _ _) hb3d);have hcur:=Below.join hcur hb23;(try have hA3:Blk w3 w0.heap.size kz 88:=hA2.below hb23 hA2.lt);(try have hA3:Blk w3 w2.heap.size kz 88:=(by with_reducible exact(Blk.new w2 kz 88).below hb3d (by simp)));(try obtain⟨cB0,cB1,cB2,cB3⟩:=hA3.four);(try have fB0:=hA3.fr 0);(try have fB1:=hA3.fr 1);(try have fB2:=hA3.fr 2);(try have fB3:=hA3.fr 3);have s3:=hb23.size))
  all_goals
   go_wp2_with fail;go_meet
   case rel=>
    have hz0:=HZ0.out;have hG0:∀k,G k->k<w0.heap.size:=fun k hk=>Nat.lt_of_lt_of_le (hG k hk) (by omega);first
     | with_reducible exact qQb hG0 hcur (by assumption) hb23 ⟨HOK1.out,HOK2.out⟩ hT2 hT3
     | with_reducible exact vQq hG0 hb2d hb23 hcur hA3 ⟨HOK1.out,HOK2.out⟩ hT2 hT3
     | with_reducible exact rQf hG0 sc hb3d hb23 hcur hA3 ⟨HOK1.out,HOK2.out⟩ hT2 hT3
 case rest=>
  obtain⟨g,u1,z1,m1,u2,z2,m2,rfl,hg,hgl,hB,hbc,hok,hT1,hT2⟩:=hcut;have hbw:=Below.join HB0.out hbc;have HP:Hid (PartPost w G a3 F l (.returned (.pointer (some ⟨wc.heap.size,0,none⟩))) (wc.alloc (O3 u1 z1 m1 u2 z2 m2 (.func (.func 178) #[] #[.pointer (some ⟨w.heap.size,0,none⟩),.pointer (some ⟨g,0,none⟩)]) (.func (.func 181) #[] #[.pointer (some ⟨w.heap.size,0,none⟩),.pointer (some ⟨g,0,none⟩)])))):=by
   have sb:=hbw.size;have hz0:=HZ0.out;have sc:=hbc.size;have hup:∀k,Gn (w.alloc (.cells #[.pointer (some ⟨p,0,none⟩)] 72)) G wc k->Gn w G wc k:=fun k hk=>hk.imp id (fun h=>⟨by have:=h.1;omega,h.2⟩);have hT1':=hT1.mono (G':=Gn w G wc) hup (fun _ _=>rfl);have hT2':=hT2.mono (G':=Gn w G wc) hup (fun _ _=>rfl);have hpa:=(HA.out.below hG hbw).mono (G':=Gn w G wc) (fun _ h=>.inl h) (fun _ _=>rfl);have hbf:=HBX.out wc hbc;have d1:Ls.dS l=Ls.rep 5 (Ls.dS a):=by rw[hl,Ls.dS]
   have d2:Ls.dV l=Ls.rep 5 (Ls.dV a):=by rw[hl,Ls.dV]
   refine .inl ⟨HF.out.2 hok,wc.heap.size,rfl,V5 (G1:=Gn w G wc) (G2:=Gn w G wc) hbw hG (by rw[d1];exact hT1') (by rw[d2];exact hT2') (fun _ h=>h) (fun _ h=>h) ?_ ?_,Below.join hbw (A4 _ _)⟩
   ·exact sQ4 a l k e ws hl oa h24 hgx hok.1.1 hok.1.2 hpa hT1' hbf hB (.inr ⟨by omega,by omega⟩) (.inr ⟨by omega,hgl⟩)
   ·exact wQj a l k e ws hl oa h24 hgx hok.2.1 hok.2.2 hpa hT2' hbf hB (.inr ⟨by omega,by omega⟩) (.inr ⟨by omega,hgl⟩)
  obtain⟨a0,a1,a2,a5⟩:=hB.four;clear hT1 hT2 hB HA HBX H1 H2 HS;go_wp2_with fail;go_ret;exact HP.out
theorem PartPost.congr {w:World}{G:Nat->Prop}{a3:Addr}{ok ok':Prop}{l l':Ls.Ln}{e:Ending}{w':World}(h:PartPost w G a3 ok l e w')(h1:Ls.dS l=Ls.dS l')(h2:Ls.dV l=Ls.dV l')(h4:A9 l=A9 l')(h5:C5 l=C5 l')(h3:ok↔ok'):PartPost w G a3 ok' l' e w':=by
 unfold PartPost PartV at h ⊢;rw[h1,h2,h4,h5]at h;rcases h with⟨a,b⟩|⟨a,b⟩
 ·exact .inl ⟨h3.1 a,b⟩
 ·exact .inr ⟨fun h=>a (h3.2 h),b⟩
theorem PartPost.up {w w1:World}{G G1:Nat->Prop}{a3:Addr}{ok:Prop}{l:Ls.Ln}{e:Ending}{w':World}(h:PartPost w1 G1 a3 ok l e w')(hb:Below w.heap.size w w1)(hG:∀k,G1 k->G k\/(w.heap.size<=k/\k<w1.heap.size)):PartPost w G a3 ok l e w':=by
 have hz:=hb.size;rcases h with⟨a,p,rfl,hp,hb2⟩|⟨a,rfl,hb2⟩
 ·have hz2:=hb2.size
  refine .inl ⟨a,p,rfl,hp.mono (fun k hk=>?_) (fun _ _=>rfl),Below.join hb hb2⟩;rcases hk with hk|hk
  ·exact(hG k hk).imp id (fun h=>⟨h.1,by have:=h.2;omega⟩)
  ·exact .inr ⟨by have:=hk.1;omega,hk.2⟩
 ·exact .inr ⟨a,rfl,Below.join hb hb2⟩
def K2 (l:Ls.Ln):Prop:=∀(w:World) (G:Nat->Prop) (f:Nat) (caps:Array Value) (a3:Addr),Old w G->PlanV w G l (.func (.func f) #[] caps)->EType w a3->
 (∀W,(callFunc f caps).run Tryz.prog W=.ok (.enter f caps) W)/\Calls Tryz.prog f caps w (PartPost w G a3 (B4 l) l)
theorem V7 {f g:Nat}{c d:Array Value}(h:Value.func (.func f) #[] c=.func (.func g) #[] d):f=g/\c=d:=by
 injection h with h1 _ h2;injection h1 with h1;exact⟨h1,h2⟩
theorem pQy (d:Ls.D)(ws:List UInt8)(h24:Ls.dsize d<=24)(hn:dn d<=100000):K2 ⟨0,d,ws,[]⟩:=by
 intro w G f caps a3 hG hp hc;rw[PlanV]at hp;rcases hp with⟨_,g,v,h1,h2,h3,h4⟩|⟨h0,_⟩|⟨h0,_⟩;rotate_left
 ·cases h0
 ·cases h0
 obtain⟨rfl,rfl⟩:=V7 h2;refine⟨fun W=>by kernel_rfl,?_⟩;obtain⟨ty,y,rfl⟩:=h4.iface;obtain⟨c0,c1⟩:=h3.one;have hC:=uQn d h24 hn w G hG a3 ty y h4;have HT:Hid (True↔B4 ⟨0,d,ws,[]⟩):=by show _↔_;rw[B4];simp
 clear h2 h3 h4;go_enter Tryz.func155,Tryz.ntmps155;go_wp2_with fail;refine hC.mono ?_;intro e w1 hq;have hq2:PartPost w G a3 (B4 ⟨0,d,ws,[]⟩) ⟨0,d,ws,[]⟩ e w1:=hq.congr (by simp[Ls.xQ7,Ls.dS]) (by simp[Ls.xQ7,Ls.dV]) (by funext x;simp[Ls.xQ7,A9]) (by funext x;simp[Ls.xQ7,C5]) HT.out;rcases hq with⟨_,p,rfl,_⟩|⟨ha,_⟩
 ·have HQ:Hid (PartPost w G a3 (B4 ⟨0,d,ws,[]⟩) ⟨0,d,ws,[]⟩ (.returned (.pointer (some ⟨p,0,none⟩))) w1):=hq2
  clear hq2 hC;generalize B4 ⟨0,d,ws,[]⟩=F at *;go_wp2_with fail;go_ret;exact HQ.out
 ·exact absurd trivial ha
theorem oQ2 (d:Ls.D)(ws:List UInt8)(h24:ws.length<=24)(hok:∀c∈ws,c.toNat<=126):K2 ⟨2,d,ws,[]⟩:=by
 intro w G f caps a3 hG hp hc;rw[PlanV]at hp;rcases hp with⟨h0,_⟩|⟨h0,_⟩|⟨_,g,h1,h2,h3⟩
 ·cases h0
 ·cases h0
 obtain⟨rfl,rfl⟩:=V7 h2;refine⟨fun W=>by kernel_rfl,?_⟩;obtain⟨c0,c1⟩:=h3.one;have hC:=lQa ws h24 hok w G hG a3;have HT:Hid (True↔B4 ⟨2,d,ws,[]⟩):=by show _↔_;rw[B4];simp
 clear h2 h3 hok;go_enter Tryz.func166,Tryz.ntmps166;go_wp2_with fail;refine hC.mono ?_;intro e w1 hq;have hq2:PartPost w G a3 (B4 ⟨2,d,ws,[]⟩) ⟨2,d,ws,[]⟩ e w1:=hq.congr (by simp[Ls.zQ6,Ls.dS]) (by simp[Ls.zQ6,Ls.dV]) (by funext x;simp[Ls.zQ6,A9]) (by funext x;simp[Ls.zQ6,C5]) HT.out;rcases hq with⟨_,p,rfl,_⟩|⟨ha,_⟩
 ·have HQ:Hid (PartPost w G a3 (B4 ⟨2,d,ws,[]⟩) ⟨2,d,ws,[]⟩ (.returned (.pointer (some ⟨p,0,none⟩))) w1):=hq2
  clear hq2 hC;generalize B4 ⟨2,d,ws,[]⟩=F at *;go_wp2_with fail;go_ret;exact HQ.out
 ·exact absurd trivial ha
theorem lQc (d:Ls.D)(ws:List UInt8)(h24:Ls.dsize d<=24)(hn:dn d<=100000)(hws:ws.length<=1048576)(hwf:Ls.wf (Ls.wQu d)):K2 ⟨1,d,ws,[]⟩:=by
 intro w G f caps a3 hG hp hc;rw[PlanV]at hp;rcases hp with⟨h0,_⟩|⟨_,g,h,v,h1,h2,h3,h4,h5,h6⟩|⟨h0,_⟩
 ·cases h0
 rotate_left
 ·cases h0
 obtain⟨rfl,rfl⟩:=V7 h3;refine⟨fun W=>by kernel_rfl,?_⟩;obtain⟨ty,y,rfl⟩:=h5.iface;obtain⟨c0,c1⟩:=h4.one;obtain⟨b0,b1⟩:=h6.one;have hC:=rQt d h24 hn ws hws w G hG a3 hc ty y h5;have HT:Hid (Ls.inL (Ls.wQu d) ws↔B4 ⟨1,d,ws,[]⟩):=by
  show _↔_;rw[B4,Ls.zQx _ hwf];simp
 clear h3 h4 h5 h6;go_enter Tryz.func164,Tryz.ntmps164;go_wp2_with fail;refine hC.mono ?_;intro e w1 hq;have hq2:PartPost w G a3 (B4 ⟨1,d,ws,[]⟩) ⟨1,d,ws,[]⟩ e w1:=hq.congr (by simp[Ls.xQk,Ls.dS]) (by simp[Ls.xQk,Ls.dV]) (by funext x;simp[Ls.xQk,A9]) (by funext x;simp[Ls.xQk,C5]) HT.out;rcases hq with⟨_,p,rfl,_⟩|⟨_,rfl,_⟩
 ·have HQ:Hid (PartPost w G a3 (B4 ⟨1,d,ws,[]⟩) ⟨1,d,ws,[]⟩ (.returned (.pointer (some ⟨p,0,none⟩))) w1):=hq2
  clear hq2 hC HT;generalize B4 ⟨1,d,ws,[]⟩=F at *;go_wp2_with fail;go_ret;exact HQ.out
 ·have HQ:Hid (PartPost w G a3 (B4 ⟨1,d,ws,[]⟩) ⟨1,d,ws,[]⟩ (.panicked [{v:=C2 a3,recovered:=false}]) w1):=hq2
  clear hq2 hC HT;generalize B4 ⟨1,d,ws,[]⟩=F at *;go_wp2_with fail;exact⟨rfl,HQ.out⟩
theorem jQ6 (k:Nat)(d:Ls.D)(ws:List UInt8)(a:Ls.Ln)(_hk:k=6\/k=7)(ha:K2 a)(hok:Ls.OkL 120 a)(h24:Ls.wQv a<=24)(hn:cn a<=100000)(hgx:gx ⟨k,d,ws,[a]⟩<=1099511627776):K2 ⟨k,d,ws,[a]⟩:=by
 intro w G f caps a3 hG hp hc;rw[PlanV]at hp;obtain⟨_,g,n,x,h1,h2,h3,h4⟩:=hp;obtain⟨rfl,rfl⟩:=V7 h2;refine⟨fun W=>by kernel_rfl,?_⟩;obtain⟨f1,caps1,rfl⟩:=PlanV.func _ _ h4;obtain⟨hcf,hC⟩:=ha w G f1 caps1 a3 hG h4 hc;obtain⟨c0,c1,c2,c3⟩:=h3.two;have HT:Hid (B4 ⟨k,d,ws,[a]⟩↔B4 a/\I7 (Ls.wQx a)/\I7 (Ls.wQw a)):=by show _↔_;rw[B4]
 have HR:Hid (∀W p,Below w.heap.size w W->PartV W (Gn w G W) p a->Calls Tryz.prog 161 #[.pointer (some ⟨p,0,none⟩)] W (PartPost W (Gn w G W) a3 (I7 (Ls.wQx a)/\I7 (Ls.wQw a)) ⟨k,d,ws,[a]⟩)):=fun W p hW hp=>
  kQv a ⟨k,d,ws,[a]⟩ k d ws rfl hok h24 hgx (by have:=R0 a;omega) (by have:=P8 a;omega) W _ (Gn.old hG hW.size) a3 (hc.below hW) p hp _ (by rw[iQy hok.src.ok (Ls.xQ5 a hok),iQy hok.view.ok (Ls.yQb a hok)])
 generalize B4 ⟨k,d,ws,[a]⟩=F at *;clear h2 h3 h4 hc ha;go_enter Tryz.func160,Tryz.ntmps160;go_wp2_with fail;refine hC.mono ?_;rintro e w1 (⟨hta,p,rfl,hpv,hb1⟩|⟨hno,rfl,hb1⟩)
 ·have HTA:Hid (B4 a):=hta
  have hC2:=HR.out w1 p hb1 hpv;clear hta hpv hC;go_wp2_with fail;refine hC2.mono ?_;rintro e w2 (⟨hok2,p2,rfl,hpv2,hb2⟩|⟨hno,rfl,hb2⟩)
  ·have HQ:Hid (PartPost w G a3 F ⟨k,d,ws,[a]⟩ (.returned (.pointer (some ⟨p2,0,none⟩))) w2):=PartPost.up (G1:=Gn w G w1) (.inl ⟨HT.out.2 ⟨HTA.out,hok2⟩,p2,rfl,hpv2,hb2⟩) hb1 (fun k hk=>hk)
   clear hok2 hpv2 hC2;go_wp2_with fail;go_ret;exact HQ.out
  ·have HN:Hid (¬F):=fun h=>hno (HT.out.1 h).2
   clear hno hC2;go_wp2_with fail;exact⟨rfl,.inr ⟨HN.out,rfl,Below.join hb1 hb2⟩⟩
 ·have HN:Hid (¬F):=fun h=>hno (HT.out.1 h).1
  clear hno hC;go_wp2_with fail;exact⟨rfl,.inr ⟨HN.out,rfl,hb1⟩⟩
theorem mQe (d:Ls.D)(ws:List UInt8)(a b:Ls.Ln)(ha:K2 a)(hb:K2 b)(hoa:Ls.OkL 120 a)(hob:Ls.OkL 120 b)(h24:Ls.wQv a+Ls.wQv b<=24)(hn:cn a+cn b<=100000)(hgx:gx a+gx b<=1099511627776):K2 ⟨3,d,ws,[a,b]⟩:=by
 intro w G f caps a3 hG hp hc;rw[PlanV]at hp;obtain⟨_,gj,g,h,n,m,x,y,k0,k1,k2,hf,bj,b1,b2,hpa,hpb⟩:=hp;obtain⟨rfl,rfl⟩:=V7 hf;refine⟨fun W=>by kernel_rfl,?_⟩;obtain⟨f1,caps1,rfl⟩:=PlanV.func _ _ hpa;obtain⟨f2,caps2,rfl⟩:=PlanV.func _ _ hpb;have hcf1:=(ha w G f1 caps1 a3 hG hpa hc).1;have hcf2:=(hb w G f2 caps2 a3 hG hpb hc).1;have H1:Hid (∀W,Below w.heap.size w W->Calls Tryz.prog f1 caps1 W (PartPost W G a3 (B4 a) a)):=fun W hW=>(ha W G f1 caps1 a3 (fun k hk=>Nat.lt_of_lt_of_le (hG k hk) hW.size) (hpa.later hG hW) (hc.below hW)).2;have H2:Hid (∀W,Below w.heap.size w W->Calls Tryz.prog f2 caps2 W (PartPost W G a3 (B4 b) b)):=fun W hW=>(hb W G f2 caps2 a3 (fun k hk=>Nat.lt_of_lt_of_le (hG k hk) hW.size) (hpb.later hG hW) (hc.below hW)).2;have HS:Hid (∀W:World,Below w.heap.size w W->W.cell? ⟨gj,0,none⟩=some (.func (.func 125) #[] #[])/\W.cell? ⟨g,1,none⟩=some (.func (.func f1) #[] caps1)/\W.cell? ⟨h,1,none⟩=some (.func (.func f2) #[] caps2)):=fun W hW=>⟨(bj.below hW bj.lt).cell 0,(b1.below hW b1.lt).cell 1,(b2.below hW b2.lt).cell 1⟩;have HT:Hid (B4 ⟨3,d,ws,[a,b]⟩↔B4 a/\B4 b/\(¬Ls.wQ1 (Ls.wQx a) (Ls.wQx b)/\¬Ls.wQ1 (Ls.wQw a) (Ls.wQw b))):=by show _↔_;rw[B4];simp
 have HJ:Hid (∀W p q,Below w.heap.size w W->PartV W (Gn w G W) p a->PartV W (Gn w G W) q b->Calls Tryz.prog 125 #[.pointer (some ⟨p,0,none⟩),.pointer (some ⟨q,0,none⟩)] W (PartPost W (Gn w G W) a3 ((¬Ls.wQ1 (Ls.wQx a) (Ls.wQx b)/\¬Ls.wQ1 (Ls.wQw a) (Ls.wQw b))) ⟨3,d,ws,[a,b]⟩)):=fun W p q hW hp hq=>
  (qQn a b hoa hob h24 hgx (by have:=R0 a;have:=R0 b;omega) (by have:=P8 a;have:=P8 b;omega) W _ (Gn.old hG hW.size) a3 (hc.below hW) p q hp hq _ (by rw[O1 (Ls.xQ5 a hoa) (Ls.xQ5 b hob),O1 (Ls.yQb a hoa) (Ls.yQb b hob)])).mono (fun e w' hq=>hq.congr (by simp[Ls.xQb,Ls.dS]) (by simp[Ls.xQb,Ls.dV]) (by funext x;simp[Ls.xQb,A9]) (by funext x;simp[Ls.xQb,C5]) Iff.rfl)
 obtain⟨e0,e1,e2⟩:=HS.out w (Below.refl _ _);generalize B4 ⟨3,d,ws,[a,b]⟩=F at *;generalize hOK:((¬Ls.wQ1 (Ls.wQx a) (Ls.wQx b)/\¬Ls.wQ1 (Ls.wQw a) (Ls.wQw b)))=OK at *;clear hf bj b1 b2 hpa hpb hc ha hb hOK;go_enter Tryz.func126,Tryz.ntmps126;go_wp2_with fail;go_region_held (fun w'=>w'.cell? ⟨gj,0,none⟩=some (.func (.func 125) #[] #[])/\w'.cell? ⟨g,1,none⟩=some (.func (.func f1) #[] caps1)/\w'.cell? ⟨h,1,none⟩=some (.func (.func f2) #[] caps2)) (first|assumption|exact HS.out _ (Below.refl _ _).drew|exact HS.out _ hcur)
  (first
   | (refine(H1.out _ ?_).mono ?_;exact(Below.refl _ _).drew;rintro e w2 (⟨hta,p,rfl,hpa,hb2d⟩|⟨hno,rfl,hb2d⟩);rotate_left;(have HN:Hid (¬F):=(fun h=>hno (HT.out.1 h).1);clear hno;go_wp2_with fail;exact⟨rfl,.inr ⟨HN.out,rfl,Below.join (Below.refl _ _).drew hb2d⟩⟩);have HTA:Hid (B4 a):=hta;clear hta;have hb2:Below w.heap.size w w2:=Below.join (Below.refl _ _).drew hb2d;have hcur:Below w.heap.size w w2:=hb2)
   | (refine(H2.out _ hcur).mono ?_;rintro e w3 (⟨htb,q,rfl,hpb,hb3⟩|⟨hno,rfl,hb3⟩);rotate_left;(have HN:Hid (¬F):=(fun h=>hno (HT.out.1 h).2.1);clear hno;go_wp2_with fail;exact⟨rfl,.inr ⟨HN.out,rfl,Below.join hcur hb3⟩⟩);have HTB:Hid (B4 b):=htb;clear htb;have hb3w:Below w.heap.size w w3:=Below.join hcur hb3;have hcur:Below w.heap.size w w3:=hb3w)
   | (go_at_call 125;refine(HJ.out _ p q hb3w ?_ ?_).mono ?_;exact(hpa.below (Gn.old hG hb2.size) hb3).mono (fun k hk=>hk.imp id (fun h=>⟨h.1,Nat.lt_of_lt_of_le h.2 hb3.size⟩)) (fun _ _=>rfl);exact hpb.mono (fun k hk=>hk.imp id (fun h=>⟨Nat.le_trans hb2.size h.1,h.2⟩)) (fun _ _=>rfl);rintro e w4 (⟨hok4,p4,rfl,hpv4,hb4⟩|⟨hno,rfl,hb4⟩);rotate_left;(have HN:Hid (¬F):=(fun h=>hno (HT.out.1 h).2.2);clear hno;go_wp2_with fail;exact⟨rfl,.inr ⟨HN.out,rfl,Below.join hb3w hb4⟩⟩);have HOK4:Hid OK:=hok4;clear hok4;have hcur:Below w.heap.size w w4:=Below.join hb3w hb4))
 all_goals
  have HQ:Hid (PartPost w G a3 F ⟨3,d,ws,[a,b]⟩ (.returned (.pointer (some ⟨p4,0,none⟩))) w4):=PartPost.up (G1:=Gn w G w3) (.inl ⟨HT.out.2 ⟨HTA.out,HTB.out,HOK4.out⟩,p4,rfl,hpv4,hb4⟩) hb3w (fun k hk=>hk);clear hpv4 hpa hpb;go_wp2_with fail;go_ret;exact HQ.out
theorem sQ9 (d:Ls.D)(ws:List UInt8)(a b:Ls.Ln)(ha:K2 a)(hb:K2 b)(hoa:Ls.OkL 120 a)(hob:Ls.OkL 120 b)(h24:Ls.wQv a+Ls.wQv b<=24)(hn:cn a+cn b<=100000)(hgx:gx a+gx b<=1099511627776):K2 ⟨4,d,ws,[a,b]⟩:=by
 intro w G f caps a3 hG hp hc;rw[PlanV]at hp;obtain⟨_,gj,g,h,n,m,x,y,k0,k1,k2,hf,bj,b1,b2,hpa,hpb⟩:=hp;obtain⟨rfl,rfl⟩:=V7 hf;refine⟨fun W=>by kernel_rfl,?_⟩;obtain⟨f1,caps1,rfl⟩:=PlanV.func _ _ hpa;obtain⟨f2,caps2,rfl⟩:=PlanV.func _ _ hpb;have hcf1:=(ha w G f1 caps1 a3 hG hpa hc).1;have hcf2:=(hb w G f2 caps2 a3 hG hpb hc).1;have H1:Hid (∀W,Below w.heap.size w W->Calls Tryz.prog f1 caps1 W (PartPost W G a3 (B4 a) a)):=fun W hW=>(ha W G f1 caps1 a3 (fun k hk=>Nat.lt_of_lt_of_le (hG k hk) hW.size) (hpa.later hG hW) (hc.below hW)).2;have H2:Hid (∀W,Below w.heap.size w W->Calls Tryz.prog f2 caps2 W (PartPost W G a3 (B4 b) b)):=fun W hW=>(hb W G f2 caps2 a3 (fun k hk=>Nat.lt_of_lt_of_le (hG k hk) hW.size) (hpb.later hG hW) (hc.below hW)).2;have HS:Hid (∀W:World,Below w.heap.size w W->W.cell? ⟨gj,0,none⟩=some (.func (.func 158) #[] #[])/\W.cell? ⟨g,1,none⟩=some (.func (.func f1) #[] caps1)/\W.cell? ⟨h,1,none⟩=some (.func (.func f2) #[] caps2)):=fun W hW=>⟨(bj.below hW bj.lt).cell 0,(b1.below hW b1.lt).cell 1,(b2.below hW b2.lt).cell 1⟩;have HT:Hid (B4 ⟨4,d,ws,[a,b]⟩↔B4 a/\B4 b/\(¬Ls.wQ1 (Ls.wQx a) (Ls.wQx b)/\¬Ls.wQ1 (Ls.wQw b) (Ls.wQw a))):=by show _↔_;rw[B4];simp
 have HJ:Hid (∀W p q,Below w.heap.size w W->PartV W (Gn w G W) p a->PartV W (Gn w G W) q b->Calls Tryz.prog 158 #[.pointer (some ⟨p,0,none⟩),.pointer (some ⟨q,0,none⟩)] W (PartPost W (Gn w G W) a3 ((¬Ls.wQ1 (Ls.wQx a) (Ls.wQx b)/\¬Ls.wQ1 (Ls.wQw b) (Ls.wQw a))) ⟨4,d,ws,[a,b]⟩)):=fun W p q hW hp hq=>
  (uQm a b hoa hob h24 hgx (by have:=R0 a;have:=R0 b;omega) (by have:=P8 a;have:=P8 b;omega) W _ (Gn.old hG hW.size) a3 (hc.below hW) p q hp hq _ (by rw[O1 (Ls.xQ5 a hoa) (Ls.xQ5 b hob),O1 (Ls.yQb b hob) (Ls.yQb a hoa)])).mono (fun e w' hq=>hq.congr (by simp[Ls.wQ5,Ls.dS]) (by simp[Ls.wQ5,Ls.dV]) (by funext x;simp[Ls.wQ5,A9]) (by funext x;simp[Ls.wQ5,C5]) Iff.rfl)
 obtain⟨e0,e1,e2⟩:=HS.out w (Below.refl _ _);generalize B4 ⟨4,d,ws,[a,b]⟩=F at *;generalize hOK:((¬Ls.wQ1 (Ls.wQx a) (Ls.wQx b)/\¬Ls.wQ1 (Ls.wQw b) (Ls.wQw a)))=OK at *;clear hf bj b1 b2 hpa hpb hc ha hb hOK;go_enter Tryz.func126,Tryz.ntmps126;go_wp2_with fail;go_region_held (fun w'=>w'.cell? ⟨gj,0,none⟩=some (.func (.func 158) #[] #[])/\w'.cell? ⟨g,1,none⟩=some (.func (.func f1) #[] caps1)/\w'.cell? ⟨h,1,none⟩=some (.func (.func f2) #[] caps2)) (first|assumption|exact HS.out _ (Below.refl _ _).drew|exact HS.out _ hcur)
  (first
   | (refine(H1.out _ ?_).mono ?_;exact(Below.refl _ _).drew;rintro e w2 (⟨hta,p,rfl,hpa,hb2d⟩|⟨hno,rfl,hb2d⟩);rotate_left;(have HN:Hid (¬F):=(fun h=>hno (HT.out.1 h).1);clear hno;go_wp2_with fail;exact⟨rfl,.inr ⟨HN.out,rfl,Below.join (Below.refl _ _).drew hb2d⟩⟩);have HTA:Hid (B4 a):=hta;clear hta;have hb2:Below w.heap.size w w2:=Below.join (Below.refl _ _).drew hb2d;have hcur:Below w.heap.size w w2:=hb2)
   | (refine(H2.out _ hcur).mono ?_;rintro e w3 (⟨htb,q,rfl,hpb,hb3⟩|⟨hno,rfl,hb3⟩);rotate_left;(have HN:Hid (¬F):=(fun h=>hno (HT.out.1 h).2.1);clear hno;go_wp2_with fail;exact⟨rfl,.inr ⟨HN.out,rfl,Below.join hcur hb3⟩⟩);have HTB:Hid (B4 b):=htb;clear htb;have hb3w:Below w.heap.size w w3:=Below.join hcur hb3;have hcur:Below w.heap.size w w3:=hb3w)
   | (go_at_call 158;refine(HJ.out _ p q hb3w ?_ ?_).mono ?_;exact(hpa.below (Gn.old hG hb2.size) hb3).mono (fun k hk=>hk.imp id (fun h=>⟨h.1,Nat.lt_of_lt_of_le h.2 hb3.size⟩)) (fun _ _=>rfl);exact hpb.mono (fun k hk=>hk.imp id (fun h=>⟨Nat.le_trans hb2.size h.1,h.2⟩)) (fun _ _=>rfl);rintro e w4 (⟨hok4,p4,rfl,hpv4,hb4⟩|⟨hno,rfl,hb4⟩);rotate_left;(have HN:Hid (¬F):=(fun h=>hno (HT.out.1 h).2.2);clear hno;go_wp2_with fail;exact⟨rfl,.inr ⟨HN.out,rfl,Below.join hb3w hb4⟩⟩);have HOK4:Hid OK:=hok4;clear hok4;have hcur:Below w.heap.size w w4:=Below.join hb3w hb4))
 all_goals
  have HQ:Hid (PartPost w G a3 F ⟨4,d,ws,[a,b]⟩ (.returned (.pointer (some ⟨p4,0,none⟩))) w4):=PartPost.up (G1:=Gn w G w3) (.inl ⟨HT.out.2 ⟨HTA.out,HTB.out,HOK4.out⟩,p4,rfl,hpv4,hb4⟩) hb3w (fun k hk=>hk);clear hpv4 hpa hpb;go_wp2_with fail;go_ret;exact HQ.out
theorem tQt (d:Ls.D)(ws:List UInt8)(a b:Ls.Ln)(ha:K2 a)(hb:K2 b)(hoa:Ls.OkL 120 a)(hob:Ls.OkL 120 b)(h24:Ls.wQv a+Ls.wQv b<=24)(hn:cn a+cn b<=100000):K2 ⟨5,d,ws,[a,b]⟩:=by
 intro w G f caps a3 hG hp hc;rw[PlanV]at hp;obtain⟨_,gj,g,h,n,m,x,y,k0,k1,k2,hf,bj,b1,b2,hpa,hpb⟩:=hp;obtain⟨rfl,rfl⟩:=V7 hf;refine⟨fun W=>by kernel_rfl,?_⟩;obtain⟨f1,caps1,rfl⟩:=PlanV.func _ _ hpa;obtain⟨f2,caps2,rfl⟩:=PlanV.func _ _ hpb;have hcf1:=(ha w G f1 caps1 a3 hG hpa hc).1;have hcf2:=(hb w G f2 caps2 a3 hG hpb hc).1;have H1:Hid (∀W,Below w.heap.size w W->Calls Tryz.prog f1 caps1 W (PartPost W G a3 (B4 a) a)):=fun W hW=>(ha W G f1 caps1 a3 (fun k hk=>Nat.lt_of_lt_of_le (hG k hk) hW.size) (hpa.later hG hW) (hc.below hW)).2;have H2:Hid (∀W,Below w.heap.size w W->Calls Tryz.prog f2 caps2 W (PartPost W G a3 (B4 b) b)):=fun W hW=>(hb W G f2 caps2 a3 (fun k hk=>Nat.lt_of_lt_of_le (hG k hk) hW.size) (hpb.later hG hW) (hc.below hW)).2;have HS:Hid (∀W:World,Below w.heap.size w W->W.cell? ⟨gj,0,none⟩=some (.func (.func 115) #[] #[])/\W.cell? ⟨g,1,none⟩=some (.func (.func f1) #[] caps1)/\W.cell? ⟨h,1,none⟩=some (.func (.func f2) #[] caps2)):=fun W hW=>⟨(bj.below hW bj.lt).cell 0,(b1.below hW b1.lt).cell 1,(b2.below hW b2.lt).cell 1⟩;have HT:Hid (B4 ⟨5,d,ws,[a,b]⟩↔B4 a/\B4 b/\(¬Ls.bXt (Ls.wQx a) (Ls.wQx b))):=by show _↔_;rw[B4];simp
 have HJ:Hid (∀W p q,Below w.heap.size w W->PartV W (Gn w G W) p a->PartV W (Gn w G W) q b->Calls Tryz.prog 115 #[.pointer (some ⟨p,0,none⟩),.pointer (some ⟨q,0,none⟩)] W (PartPost W (Gn w G W) a3 ((¬Ls.bXt (Ls.wQx a) (Ls.wQx b))) ⟨5,d,ws,[a,b]⟩)):=fun W p q hW hp hq=>
  (oQ3 a b hoa hob h24 (by have:=R0 a;have:=R0 b;omega) (by have:=P8 a;have:=P8 b;omega) W _ (Gn.old hG hW.size) a3 (hc.below hW) p q hp hq _ (by rw[vQv (Ls.xQ5 a hoa) (Ls.xQ5 b hob)])).mono (fun e w' hq=>hq.congr (by simp[Ls.xQe,Ls.dS]) (by simp[Ls.xQe,Ls.dV]) (by funext x;simp[Ls.xQe,A9]) (by funext x;simp[Ls.xQe,C5]) Iff.rfl)
 obtain⟨e0,e1,e2⟩:=HS.out w (Below.refl _ _);generalize B4 ⟨5,d,ws,[a,b]⟩=F at *;generalize hOK:((¬Ls.bXt (Ls.wQx a) (Ls.wQx b)))=OK at *;clear hf bj b1 b2 hpa hpb hc ha hb hOK;go_enter Tryz.func126,Tryz.ntmps126;go_wp2_with fail;go_region_held (fun w'=>w'.cell? ⟨gj,0,none⟩=some (.func (.func 115) #[] #[])/\w'.cell? ⟨g,1,none⟩=some (.func (.func f1) #[] caps1)/\w'.cell? ⟨h,1,none⟩=some (.func (.func f2) #[] caps2)) (first|assumption|exact HS.out _ (Below.refl _ _).drew|exact HS.out _ hcur)
  (first
   | (refine(H1.out _ ?_).mono ?_;exact(Below.refl _ _).drew;rintro e w2 (⟨hta,p,rfl,hpa,hb2d⟩|⟨hno,rfl,hb2d⟩);rotate_left;(have HN:Hid (¬F):=(fun h=>hno (HT.out.1 h).1);clear hno;go_wp2_with fail;exact⟨rfl,.inr ⟨HN.out,rfl,Below.join (Below.refl _ _).drew hb2d⟩⟩);have HTA:Hid (B4 a):=hta;clear hta;have hb2:Below w.heap.size w w2:=Below.join (Below.refl _ _).drew hb2d;have hcur:Below w.heap.size w w2:=hb2)
   | (refine(H2.out _ hcur).mono ?_;rintro e w3 (⟨htb,q,rfl,hpb,hb3⟩|⟨hno,rfl,hb3⟩);rotate_left;(have HN:Hid (¬F):=(fun h=>hno (HT.out.1 h).2.1);clear hno;go_wp2_with fail;exact⟨rfl,.inr ⟨HN.out,rfl,Below.join hcur hb3⟩⟩);have HTB:Hid (B4 b):=htb;clear htb;have hb3w:Below w.heap.size w w3:=Below.join hcur hb3;have hcur:Below w.heap.size w w3:=hb3w)
   | (go_at_call 115;refine(HJ.out _ p q hb3w ?_ ?_).mono ?_;exact(hpa.below (Gn.old hG hb2.size) hb3).mono (fun k hk=>hk.imp id (fun h=>⟨h.1,Nat.lt_of_lt_of_le h.2 hb3.size⟩)) (fun _ _=>rfl);exact hpb.mono (fun k hk=>hk.imp id (fun h=>⟨Nat.le_trans hb2.size h.1,h.2⟩)) (fun _ _=>rfl);rintro e w4 (⟨hok4,p4,rfl,hpv4,hb4⟩|⟨hno,rfl,hb4⟩);rotate_left;(have HN:Hid (¬F):=(fun h=>hno (HT.out.1 h).2.2);clear hno;go_wp2_with fail;exact⟨rfl,.inr ⟨HN.out,rfl,Below.join hb3w hb4⟩⟩);have HOK4:Hid OK:=hok4;clear hok4;have hcur:Below w.heap.size w w4:=Below.join hb3w hb4))
 all_goals
  have HQ:Hid (PartPost w G a3 F ⟨5,d,ws,[a,b]⟩ (.returned (.pointer (some ⟨p4,0,none⟩))) w4):=PartPost.up (G1:=Gn w G w3) (.inl ⟨HT.out.2 ⟨HTA.out,HTB.out,HOK4.out⟩,p4,rfl,hpv4,hb4⟩) hb3w (fun k hk=>hk);clear hpv4 hpa hpb;go_wp2_with fail;go_ret;exact HQ.out
theorem bQd:(l:Ls.Ln)->Ls.OkL 120 l->Ls.wQv l<=24->cn l<=60000->K2 l
 | ⟨k,p,w,[]⟩,h,hs,hn=>by
  have h0:=h;rw[Ls.OkL]at h;rw[Ls.wQv]at hs;rw[cn]at hn;rcases h.2 with rfl|rfl|rfl
  ·exact pQy p w (by omega) (by omega)
  ·exact lQc p w (by omega) (by omega) (by omega) (by have:=h.1.1.ok;simpa [Ls.wQx] using this)
  ·exact oQ2 p w (by omega) (lQ9 h0)
 | ⟨k,p,w,[a]⟩,h,hs,hn=>by
  have hgx:=cQa h hs hn;rw[Ls.OkL]at h;rw[Ls.wQv,if_pos h.2.1]at hs;rw[cn]at hn;exact jQ6 k p w a h.2.1 (bQd a h.2.2 (by omega) (by omega)) h.2.2 (by omega) (by omega) hgx
 | ⟨k,p,w,[a,b]⟩,h,hs,hn=>by
  have hgx:gx a+gx b<=1099511627776:=by
   have:=cQa h hs hn;rw[gx]at this;exact this
  rw[Ls.OkL]at h;rw[Ls.wQv]at hs;rw[cn]at hn;obtain⟨_,hk,oa,ob⟩:=h;have ha:=bQd a oa (by omega) (by omega);have hb:=bQd b ob (by omega) (by omega);rcases hk with rfl|rfl|rfl
  ·exact mQe p w a b ha hb oa ob (by omega) (by omega) hgx
  ·exact sQ9 p w a b ha hb oa ob (by omega) (by omega) hgx
  ·exact tQt p w a b ha hb oa ob (by omega) (by omega)
 | ⟨k,p,w,_::_::_::_⟩,h,_,_=>by simp[Ls.OkL]at h
def cQw (w w0:World)(P:Nat)(a3:Addr)(l:Ls.Ln):Ending->World->Prop:=fun e w'=>
  (∀k,k<w0.heap.size->k≠P->w'.heap[k]?=w0.heap[k]?)/\Below w.heap.size w w'/\w0.heap.size<=w'.heap.size/\
  ((B4 l/\∃p,e=.returned (.tuple #[])/\Blk w' P #[.pointer (some ⟨p,0,none⟩)] 72/\PartV w' (fun k=>w.heap.size<=k/\k<w'.heap.size/\k≠P/\k≠w0.heap.size-1) p l)\/
   (¬B4 l/\e=.panicked [{v:=C2 a3,recovered:=false}]/\Blk w' P #[.pointer none] 72))
theorem lQ7 (l:Ls.Ln)(hB:K2 l)(n f:Nat)(caps:Array Value)(a3:Addr)(w w0:World)(A:Nat)(hA:w.heap.size<=A)(hz:w0.heap.size=A+1+1+1)(hb0:Below w.heap.size w w0)(bA:Blk w0 A #[.int .i64 n,.func (.func f) #[] caps] 121)(bP:Blk w0 (A+1) #[.pointer none] 72)
    (hpl:PlanV w0 (fun k=>w.heap.size<=k/\k<A) l (.func (.func f) #[] caps)) (hc:EType w0 a3) :
    Calls Tryz.prog 71 #[.pointer (some ⟨A,0,none⟩),.pointer (some ⟨A+1,0,none⟩)] w0 (cQw w w0 (A+1) a3 l):=by
  obtain⟨hcf,hC⟩:=hB w0 _ f caps a3 (fun k hk=>by have:=hk.2;omega) hpl hc;obtain⟨c0,c1,c2,c3⟩:=bA.two;have HZ:Hid (w0.heap.size=A+1+1+1):=hz;have HBP:Hid (Blk w0 (A+1) #[.pointer none] 72):=bP;clear bA bP hpl hB hz;generalize hF:B4 l=F at *;have HF:Hid (F=B4 l):=hF.symm;clear hF;go_enter Tryz.func71,Tryz.ntmps71;go_wp2_with fail;refine hC.mono ?_;clear hC;rintro e w1 (⟨ht,p,rfl,hpv,hb1⟩|⟨hno,rfl,hb1⟩)
  · have bP1:=HBP.out.below hb1 HBP.out.lt
    obtain⟨q0,q1⟩:=bP1.one;have hz1:=hb1.size;have HQ:Hid (cQw w w0 (A+1) a3 l (.returned (.tuple #[])) (w1.setCell ⟨A+1,0,none⟩ (.pointer (some ⟨p,0,none⟩)))):=by
      have hz:=HZ.out;refine⟨fun k hk hn=>?_,(Below.join hb0 hb1).setCell (p:=⟨A+1,0,none⟩) (by show w.heap.size<=A+1;omega) _,by simp[World.setCell];exact hz1,.inl ⟨by rw[<-HF.out];exact ht,p,rfl,?_,hpv.mono (fun k hk=>?_) (fun k hk=>Below.heap_setCell _ _ _ _ ?_)⟩⟩
      · rw[Below.heap_setCell _ _ _ _ hn];exact hb1.block k hk
      · have:=bP1
        unfold Blk at this ⊢;simp[World.setCell,Array.getElem?_modify,this]
      · rw[show (w1.setCell ⟨A+1,0,none⟩ (.pointer (some ⟨p,0,none⟩))).heap.size=w1.heap.size from by simp[World.setCell]]
        rcases hk with h|h
        · exact⟨h.1,by have:=h.2;omega,by have:=h.2;omega,by have:=h.2;omega⟩
        · exact⟨by have:=h.1;omega,h.2,by have:=h.1;omega,by have:=h.1;omega⟩
      · show k≠A+1
        rcases hk with h|h
        · have:=h.2;omega
        · have:=h.1;omega
    clear hpv bP1 ht;go_wp2_with fail;go_end0;exact HQ.out
  · have HQ:Hid (cQw w w0 (A+1) a3 l (.panicked [{v:=C2 a3,recovered:=false}]) w1):=⟨fun k hk _=>hb1.block k hk,Below.join hb0 hb1,hb1.size,.inr ⟨by rw[<-HF.out];exact hno,rfl,HBP.out.below hb1 HBP.out.lt⟩⟩
    clear hno;go_wp2_with fail;exact⟨rfl,HQ.out⟩
def bQz (s:ByteArray)(a0 a1 a2 a3:Addr)(w:World):Ending->World->Prop:=fun e w'=>Below w.heap.size w w'/\
  ((∃l p,F9 s.data.toList=some l/\Ls.OkL 120 l/\cn l<=30000/\Ls.wQv l<=24/\CompIs s.data.toList 0/\e=.returned (.tuple #[.pointer (some ⟨p,0,none⟩),.nilIface])/\PartV w' (B6 w w') p l)\/
   (∃r,(r=1\/r=2\/r=3\/r=4)/\CompIs s.data.toList r/\e=.returned (.tuple #[.pointer none,C2 (Z2 a0 a1 a2 a3 r)])))
theorem mQa (s:ByteArray)(hs:s.size<=1048576)(w:World)(a0 a1 a2 a3:Addr)(hS:Sent w a0 a1 a2 a3) :
    Calls Tryz.prog 38 #[.string s] w (bQz s a0 a1 a2 a3 w):=by
  have hmf:∀(fn:Fn) (first cap:Array Value) (w:World),(Instr.makeFunc fn first cap).run Tryz.prog w=.ok (.func fn first cap) w:=fun _ _ _ _=>rfl;have hne:∀(a:Addr) w,(binOp .neq 74 (C2 a) .nilIface).run Tryz.prog w=.ok (.bool true) w:=fun a w=>by kernel_rfl
  have hnn:∀w,(binOp .neq 74 .nilIface .nilIface).run Tryz.prog w=.ok (.bool false) w:=fun w=>by kernel_rfl
  have hW:=jQp s hs w a0 a1 a2 a3 hS;have HS:Hid (Sent w a0 a1 a2 a3):=hS;clear hS;go_enter Tryz.func38,Tryz.ntmps38;go_wp2_with fail;refine hW.mono ?_;clear hW;rintro e w1 ⟨hb1,⟨l,f,caps,hlen,hpr,hok,hcn,h24,rfl,hpl⟩|⟨r,hr,hcp,rfl⟩⟩
  · have HP:Hid (F9 s.data.toList=some l/\Ls.OkL 120 l/\cn l<=30000/\Ls.wQv l<=24/\s.data.toList.length<=120):=⟨hpr,hok,hcn,h24,hlen⟩
    clear hlen hpr hok hcn h24;go_wp2_with fail;have hb3:=C0 w1 (.cells #[.int .i64 (Ls.wQv l),.func (.func f) #[] caps] 121) (.cells #[.pointer none] 72);have hz3:((w1.alloc (.cells #[.int .i64 (Ls.wQv l),.func (.func f) #[] caps] 121)).alloc (.cells #[.pointer none] 72)).heap.size=w1.heap.size+1+1:=by simp
    have bA:Blk ((w1.alloc (.cells #[.int .i64 (Ls.wQv l),.func (.func f) #[] caps] 121)).alloc (.cells #[.pointer none] 72)) w1.heap.size #[.int .i64 (Ls.wQv l),.func (.func f) #[] caps] 121:=(Blk.new w1 _ _).of (Below.heap_alloc _ _ _ (by simp));have bP:Blk ((w1.alloc (.cells #[.int .i64 (Ls.wQv l),.func (.func f) #[] caps] 121)).alloc (.cells #[.pointer none] 72)) (w1.heap.size+1) #[.pointer none] 72:=by
      have:=Blk.new (w1.alloc (.cells #[.int .i64 (Ls.wQv l),.func (.func f) #[] caps] 121)) #[.pointer none] 72;rw[World.size_alloc]at this;exact this
    generalize ((w1.alloc (.cells #[.int .i64 (Ls.wQv l),.func (.func f) #[] caps] 121)).alloc (.cells #[.pointer none] 72))=W3 at *;have hb4:=A4 W3 (.cells #[.nilIface] 74);have he4:(W3.alloc (.cells #[.nilIface] 74)).heap[W3.heap.size]?=some (.cells #[.nilIface] 74 (0,0)):=heap_alloc_new _ _;have hz4:(W3.alloc (.cells #[.nilIface] 74)).heap.size=W3.heap.size+1:=by simp
    have hb14:=Below.join hb3 hb4;have hbw4:=Below.join hb1 hb14;have hdo:=lQ7 l (bQd l HP.out.2.1 HP.out.2.2.2.1 (by have:=HP.out.2.2.1;omega)) (Ls.wQv l) f caps a3 w (W3.alloc (.cells #[.nilIface] 74)) w1.heap.size hb1.size (by omega) hbw4 (bA.below hb4 bA.lt) (bP.below hb4 bP.lt) (PlanV.mono (fun k hk=>hk) (fun k hk=>hb14.block k hk.2) _ _ hpl) (HS.out.below hbw4).c3;have hca:=hQp 71 _ (fun w=>by kernel_rfl) W3 _ hdo (fun e w' hq=>⟨by rw[hq.1 _ (by omega) (by omega)];exact he4,by
      rcases hq.2.2.2 with⟨_,p,h,_⟩|⟨_,h,_⟩
      · exact .inl h
      · exact .inr ⟨a3,h⟩⟩)
    have HZ3:Hid (W3.heap.size=w1.heap.size+1+1):=hz3;clear hdo bA bP hpl hb3 he4 hb14 hbw4 hz3;refine hca.mono ?_;clear hca;rintro e w5 ⟨e1,w4,hq,hcase⟩;obtain⟨hk,hb5,hz5,hq4⟩:=hq;have hz1:=hb1.size;rcases hq4 with⟨hty,p,rfl,hbp,hpv⟩|⟨hno,rfl,hbp⟩
    · rcases hcase with⟨_,rfl,rfl⟩|⟨a,h,_⟩
      rotate_left
      · cases h
      have hbp2:Blk (w4.setCell ⟨W3.heap.size,0,none⟩ .nilIface) (w1.heap.size+1) #[.pointer (some ⟨p,0,none⟩)] 72:=hbp.of (Below.heap_setCell _ _ _ _ (by show w1.heap.size+1≠W3.heap.size;have:=HZ3.out;omega));obtain⟨q0,q1⟩:=hbp2.one;have HQ:Hid (bQz s a0 a1 a2 a3 w (.returned (.tuple #[.pointer (some ⟨p,0,none⟩),.nilIface])) (w4.setCell ⟨W3.heap.size,0,none⟩ .nilIface)):=by
        have hz3:=HZ3.out;refine⟨hb5.setCell (p:=⟨W3.heap.size,0,none⟩) (by show w.heap.size<=W3.heap.size;omega) _,.inl ⟨l,p,HP.out.1,HP.out.2.1,HP.out.2.2.1,HP.out.2.2.2.1,.inr ⟨HP.out.2.2.2.2,.inr ⟨l,HP.out.1,.inr ⟨HP.out.2.2.2.1,.inr ⟨hty,rfl⟩⟩⟩⟩,rfl,hpv.mono (fun k hk=>⟨hk.1,by have:=hk.2.1;simp[World.setCell];exact this⟩) (fun k hk=>Below.heap_setCell _ _ _ _ (by show k≠W3.heap.size;have:=hk.2.2.2;omega))⟩⟩
      clear hk hpv hbp hbp2 hty;go_wp2_with fail;go_ret2;exact HQ.out
    · rcases hcase with⟨h,_⟩|⟨a,h,rfl,rfl⟩
      · cases h
      injection h with h;injection h with h;injection h with h;injection h with h h';injection h' with h';injection h' with h';subst h';have hbp2:Blk (w4.setCell ⟨W3.heap.size,0,none⟩ (C2 a3)) (w1.heap.size+1) #[.pointer none] 72:=hbp.of (Below.heap_setCell _ _ _ _ (by show w1.heap.size+1≠W3.heap.size;have:=HZ3.out;omega));obtain⟨q0,q1⟩:=hbp2.one;have HQ:Hid (bQz s a0 a1 a2 a3 w (.returned (.tuple #[.pointer none,C2 a3])) (w4.setCell ⟨W3.heap.size,0,none⟩ (C2 a3))):=by
        have hz3:=HZ3.out;exact⟨hb5.setCell (p:=⟨W3.heap.size,0,none⟩) (by show w.heap.size<=W3.heap.size;omega) _,.inr ⟨4,by omega,.inr ⟨HP.out.2.2.2.2,.inr ⟨l,HP.out.1,.inr ⟨HP.out.2.2.2.1,.inl ⟨hno,rfl⟩⟩⟩⟩,rfl⟩⟩
      clear hk hbp hbp2 hno;go_wp2_with fail;go_ret2;exact HQ.out
  · have HQ:Hid (bQz s a0 a1 a2 a3 w (.returned (.tuple #[.pointer none,C2 (Z2 a0 a1 a2 a3 r)])) (w1.alloc (.cells #[.int .i64 0,.nilFunc] 121))):=⟨Below.join hb1 (A4 _ _),.inr ⟨r,by omega,hcp,rfl⟩⟩
    clear hr hcp;generalize Z2 a0 a1 a2 a3 r=ad at *;go_wp2_with fail;go_ret2;exact HQ.out
theorem oQ9 (s:ByteArray)(hs:s.size<=1048576)(w:World)(a0 a1 a2 a3:Addr)(hS:Sent w a0 a1 a2 a3) :
  Calls Tryz.prog 15 #[.string s] w (aQ1 s w):=by
 have hne:∀(a:Addr) w,(binOp .neq 74 (C2 a) .nilIface).run Tryz.prog w=.ok (.bool true) w:=fun a w=>by kernel_rfl
 have hnn:∀w,(binOp .neq 74 .nilIface .nilIface).run Tryz.prog w=.ok (.bool false) w:=fun w=>by kernel_rfl
 have hR:=mQa s hs w a0 a1 a2 a3 hS;have HS:Hid (Sent w a0 a1 a2 a3):=hS;clear hS;go_enter Tryz.func15,Tryz.ntmps15;go_wp2_with fail;refine hR.mono ?_;clear hR;rintro e w1 ⟨hb1,⟨l,p,hpr,hok,hcn,h24,hcp,rfl,hpv⟩|⟨r,hr,hcp,rfl⟩⟩
 ·have hb2:=A4 w1 (.cells #[.pointer (some ⟨p,0,none⟩)] 79)
  have hz1:=hb1.size;have HQ:Hid (aQ1 s w (.returned (.tuple #[.pointer (some ⟨w1.heap.size,0,none⟩),.int .i64 0])) (w1.alloc (.cells #[.pointer (some ⟨p,0,none⟩)] 79))):=by
   refine⟨some ⟨w1.heap.size,0,none⟩,0,rfl,hcp,by omega,by simp,Below.join hb1 hb2,fun _=>⟨l,w1.heap.size,p,rfl,hpr,hok,hcn,h24,hz1,Blk.new w1 _ _,hpv.mono (fun k hk=>⟨hk.1,by have:=hk.2;simp;omega⟩) (fun k hk=>hb2.block k hk.2)⟩⟩
  clear hpr hok hcn h24 hcp hpv hb2;go_wp2_with fail;go_ret2;exact HQ.out
 ·have hE:=vQk w1 a0 a1 a2 a3 (HS.out.below hb1) r hr
  have HQ:Hid (aQ1 s w (.returned (.tuple #[.pointer none,.int .i64 r])) w1):=⟨none,r,rfl,hcp,by omega,by simp;omega,hb1,fun h=>by omega⟩;clear hr hcp;generalize Z2 a0 a1 a2 a3 r=ad at *;go_wp2_with fail;refine hE.mono ?_;rintro e w2 ⟨rfl,rfl⟩;go_wp2_with fail;go_ret2;exact HQ.out
end Go.Proofs.YtcggfnlejalppaaGreatDoor
