import Derived.Test.YtfklinjaajafgaaGreatDoorK09
import Derived.Test.YtfklinjaajafgaaGreatDoorK49
set_option maxRecDepth 100000
set_option maxHeartbeats 4000000
namespace Go.Proofs.YtfklinjaajafgaaGreatDoor
open Go.RowKit
theorem eQm (w:World):Calls Tryz.prog 134 #[.bool true] w fun e w'=>e=.returned (.tuple #[])/\w'=w:=by
 go_enter Tryz.func134,Tryz.ntmps134;go_wp2_with fail;go_end0;exact⟨rfl,rfl⟩
theorem cQm (a3:Addr)(w:World)(hc:w.cell? ⟨2,0,none⟩=some (D0 a3)) :
  Calls Tryz.prog 134 #[.bool false] w fun e w'=>e=.panicked [{v:=D0 a3,recovered:=false}]/\w'=w:=by
 go_enter Tryz.func134,Tryz.ntmps134;go_wp2_with fail;exact⟨rfl,rfl,rfl⟩
abbrev Gn (w:World)(G:Nat->Prop)(w':World):Nat->Prop:=fun k=>G k\/(w.heap.size<=k/\k<w'.heap.size)
structure Tx (w:World)(G:Nat->Prop)(v:Value)(nb:Nat)(d:Ls.D):Prop where
 rep:Rep w G 0 d [v]
 net:∃B P Q,NetL w B nb P Q (Ls.add d H8).1 (Ls.add d H8).2/\G nb/\(∀k,P.ownBlock=some k->G k)/\(∀k,Q.ownBlock=some k->G k)
theorem Tx.mono {w w':World}{G G':Nat->Prop}(hG:∀k,G k->G' k)(hw:∀k,G k->w'.heap[k]?=w.heap[k]?){v:Value}{nb:Nat}{d:Ls.D}(h:Tx w G v nb d):Tx w' G' v nb d:=by
 obtain⟨B,P,Q,h1,h2,h3,h4⟩:=h.net;exact⟨h.rep.mono hG hw,B,P,Q,h1.same (hw _ h2) (fun k hk=>hw k (h3 k hk)) (fun k hk=>hw k (h4 k hk)),hG _ h2,fun k hk=>hG k (h3 k hk),fun k hk=>hG k (h4 k hk)⟩
theorem Tx.below {w w':World}{G:Nat->Prop}{v:Value}{nb:Nat}{d:Ls.D}(h:Tx w G v nb d)(hG:Old w G)(hb:Below w.heap.size w w'):Tx w' G v nb d:=h.mono (fun _ h=>h) (fun k hk=>hb.block k (hG k hk))
theorem Tx.wd {w:World}{G:Nat->Prop}{v:Value}{nb:Nat}{d:Ls.D}(h:Tx w G v nb d):Ls.Wd 0 d:=h.rep.wd
theorem Tx.nt {w:World}{G:Nat->Prop}{v:Value}{nb:Nat}{d:Ls.D}(h:Tx w G v nb d)(_hG:Old w G)(h24:Ls.dsize d<=24):∃P Q,Nt w w.heap.size nb P Q (Ls.add d H8).1 (Ls.add d H8).2:=by
 obtain⟨B,P,Q,h1,h2,h3,h4⟩:=h.net;obtain⟨q1,q2,_,_⟩:=bQe h.wd (n:=H8) rfl (by simp[H8];omega);exact⟨P,Q,h1.nt q1 q2⟩
theorem Gn.old {w w':World}{G:Nat->Prop}(hG:Old w G)(hb:w.heap.size<=w'.heap.size):Old w' (Gn w G w'):=fun k hk=>by
 rcases hk with h|h
 ·exact Nat.lt_of_lt_of_le (hG k h) hb
 ·exact h.2
abbrev C8 (v:Value)(nb:Nat):Value:=.agg #[v,.pointer (some ⟨nb,0,none⟩)]
def TxPost (w:World)(G:Nat->Prop)(d:Ls.D):Ending->World->Prop:=fun e w'=>
 ∃ty y nb,e=.returned (C8 (.iface ty y) nb)/\Tx w' (Gn w G w') (.iface ty y) nb d/\Below w.heap.size w w'
theorem aQp (d:Ls.D)(hd:dn d<=1048576)(h24:Ls.dsize d<=24)(w:World)(G:Nat->Prop)(hG:Old w G)(ty:TypeId)(y:Value)(h:Rep w G 0 d [.iface ty y]) :
  Calls Tryz.prog 157 #[.iface ty y] w (TxPost w G d):=by
 have hb0:=A5 w (.cells #[.nilIface,.pointer none] 92);have hx:=Blk.new w #[.nilIface,.pointer none] 92;have hz0:(w.alloc (.cells #[.nilIface,.pointer none] 92)).heap.size=w.heap.size+1:=by simp
 have hN:=nQ0 d hd h24 _ G (fun k hk=>Nat.lt_of_lt_of_le (hG k hk) hb0.size) ty y (h.later hG hb0);have HR:Hid (Rep w G 0 d [.iface ty y]):=h;have HX:Hid (Blk (w.alloc (.cells #[.nilIface,.pointer none] 92)) w.heap.size #[.nilIface,.pointer none] 92):=hx;have HB0:Hid _:=hb0;clear h hx hb0;go_enter Tryz.func157,Tryz.ntmps157;go_wp2_with fail;refine hN.mono ?_;clear hN;generalize w.alloc (.cells #[.nilIface,.pointer none] 92)=W0 at *;rintro e w1 ⟨nb,P,Q,rfl,hnet,hb1⟩;have hz1:=hb1.size;have hx1:=HX.out.below hb1 (by omega);obtain⟨r0,r1,s0,s1⟩:=hx1.two;have HT:Hid (Tx ((w1.setCell ⟨w.heap.size,0,none⟩ (.iface ty y)).setCell ⟨w.heap.size,1,none⟩ (.pointer (some ⟨nb,0,none⟩))) (Gn w G ((w1.setCell ⟨w.heap.size,0,none⟩ (.iface ty y)).setCell ⟨w.heap.size,1,none⟩ (.pointer (some ⟨nb,0,none⟩)))) (.iface ty y) nb d):=by
  refine Tx.mono (w:=w1) (G:=fun k=>G k\/(w.heap.size<k/\k<w1.heap.size)) (fun k hk=>?_) (fun k hk=>K6 _ _ _ _ _ ?_) ⟨?_,W0.heap.size,P,Q,hnet,?_,fun k hk=>?_,fun k hk=>?_⟩
  ·rcases hk with h|h
   ·exact .inl h
   ·exact .inr ⟨by omega,by rw[U5];exact h.2⟩
  ·rcases hk with h|h
   ·have:=hG k h;omega
   ·omega
  ·exact HR.out.mono (fun k hk=>.inl hk) (fun k hk=>by
    have:=hG k hk;rw[hb1.block k (by omega)];exact HB0.out.block k this)
  ·exact .inr ⟨by have:=hnet.base;omega,hnet.lt⟩
  ·obtain⟨los,_,_,hP⟩:=hnet.pls
   have:=hP.lt k hk;exact .inr ⟨by omega,this.2⟩
  ·have:=hnet.bhs.lt k hk
   exact .inr ⟨by omega,this.2⟩
 have HB:Hid (Below w.heap.size w ((w1.setCell ⟨w.heap.size,0,none⟩ (.iface ty y)).setCell ⟨w.heap.size,1,none⟩ (.pointer (some ⟨nb,0,none⟩)))):=Z7 (Below.join HB0.out hb1) (Nat.le_refl _) _ _;clear hx1 hnet;go_wp2_with fail;exact bodyPost_ret (v:=C8 (.iface ty y) nb) (by simp[results,Tryz.results157,go_sem,r0,r1]) rfl ⟨ty,y,nb,rfl,HT.out,HB.out⟩
theorem yQo (t1 t2:TypeId)(y1 y2:Value)(w:World) :
  Calls Tryz.prog 181 #[.iface t1 y1,.iface t2 y2] w fun e w'=>e=.returned (N9 (.slice (some ⟨w.heap.size,0,none⟩) 2 2))/\w'=w.alloc (.cells #[.iface t1 y1,.iface t2 y2] 89):=by
 go_enter Tryz.func181,Tryz.ntmps181;go_wp2_with fail;go_ret;exact⟨rfl,rfl⟩
theorem yQq (t1 t2:TypeId)(y1 y2:Value)(w:World) :
  Calls Tryz.prog 158 #[.iface t1 y1,.iface t2 y2] w fun e w'=>e=.returned (aQu (.slice (some ⟨w.heap.size,0,none⟩) 2 2))/\w'=w.alloc (.cells #[.iface t1 y1,.iface t2 y2] 89):=by
 go_enter Tryz.func158,Tryz.ntmps158;go_wp2_with fail;go_ret;exact⟨rfl,rfl⟩
theorem mQb (w:World)(x y:Value)(G:Nat->Prop)(hG:G w.heap.size):Shows (w.alloc (.cells #[x,y] 89)) G (.slice (some ⟨w.heap.size,0,none⟩) 2 2) [x,y]:=⟨World.ownsRow_lit (e:=89) (size:=1) w #[x,y] 2 (Nat.zero_le _) (by unfold maxLen;omega) rfl,fun k hk=>by
  simp[Value.ownBlock]at hk;subst hk;exact hG⟩
theorem zQ3 {w:World}{G:Nat->Prop}(hG:Old w G){a b:Ls.D}{x y:Value}(ha:Rep w G 0 a [x])(hb:Rep w G 0 b [y]) :
  Rep (w.alloc (.cells #[x,y] 89)) (Gn w G (w.alloc (.cells #[x,y] 89))) 0 (Ls.dX7 a b) [N9 (.slice (some ⟨w.heap.size,0,none⟩) 2 2)]:=by
 have hbl:=A5 w (.cells #[x,y] 89);have ha':=(ha.later hG hbl).mono (G':=Gn w G (w.alloc (.cells #[x,y] 89))) (fun _ h=>.inl h) (fun _ _=>rfl);have hb':=(hb.later hG hbl).mono (G':=Gn w G (w.alloc (.cells #[x,y] 89))) (fun _ h=>.inl h) (fun _ _=>rfl);exact .row (mQb w x y _ (.inr ⟨Nat.le_refl _,by simp⟩)) (.rcons ha' (.rcons hb' .rnil))
theorem zQ4 {w:World}{G:Nat->Prop}(hG:Old w G){a b:Ls.D}{x y:Value}(ha:Rep w G 0 a [x])(hb:Rep w G 0 b [y]) :
  Rep (w.alloc (.cells #[x,y] 89)) (Gn w G (w.alloc (.cells #[x,y] 89))) 0 (Ls.eXk a b) [aQu (.slice (some ⟨w.heap.size,0,none⟩) 2 2)]:=by
 have hbl:=A5 w (.cells #[x,y] 89);have ha':=(ha.later hG hbl).mono (G':=Gn w G (w.alloc (.cells #[x,y] 89))) (fun _ h=>.inl h) (fun _ _=>rfl);have hb':=(hb.later hG hbl).mono (G':=Gn w G (w.alloc (.cells #[x,y] 89))) (fun _ h=>.inl h) (fun _ _=>rfl);exact .choice (mQb w x y _ (.inr ⟨Nat.le_refl _,by simp⟩)) (.ccons ha' (.clast hb'))
def aQa (w:World)(G:Nat->Prop)(a3:Addr)(ok:Prop)(d:Ls.D):Ending->World->Prop:=fun e w'=>
 (ok/\TxPost w G d e w')\/(¬ok/\e=.panicked [{v:=D0 a3,recovered:=false}]/\Below w.heap.size w w')
abbrev D9 (v:Value)(nb:Nat):Obj:=.cells #[v,.pointer (some ⟨nb,0,none⟩)] 92
abbrev N4:Obj:=.cells #[.nilIface,.pointer none] 92
abbrev EType (w:World)(a3:Addr):Prop:=w.cell? ⟨2,0,none⟩=some (D0 a3)
theorem EType.below {w w':World}{a3:Addr}(h:EType w a3)(hb:Below w.heap.size w w'):EType w' a3:=
 (hb.cell (p:=⟨2,0,none⟩) (World.block_lt_of_cell? w _ h)).trans h
theorem TxPost.up {w W w1:World}{G G':Nat->Prop}{d:Ls.D}{ty:TypeId}{y:Value}{nb g:Nat}(ht:Tx w1 G' (.iface ty y) nb d)(hG':∀k,G' k->k≠g/\(G k\/(w.heap.size<=k/\k<w1.heap.size)))(hb:Below w.heap.size w w1)(hg:w.heap.size<=g)(hW:W=(w1.setCell ⟨g,0,none⟩ (.iface ty y)).setCell ⟨g,1,none⟩ (.pointer (some ⟨nb,0,none⟩))) :
  TxPost w G d (.returned (C8 (.iface ty y) nb)) W:=by
 subst hW;refine⟨ty,y,nb,rfl,ht.mono (fun k hk=>?_) (fun k hk=>K6 _ _ _ _ _ (hG' k hk).1),Z7 hb hg _ _⟩;exact(hG' k hk).2.imp id (fun h=>⟨h.1,by rw[U5];exact h.2⟩)
structure Vars3 (w W:World)(x1 x2:Value)(n1 n2:Nat):Prop where
 v1:Blk W w.heap.size #[x1,.pointer (some ⟨n1,0,none⟩)] 92
 v2:Blk W (w.heap.size+1) #[x2,.pointer (some ⟨n2,0,none⟩)] 92
 r:Blk W (w.heap.size+1+1) #[.nilIface,.pointer none] 92
theorem Vars3.start (w:World)(x1 x2:Value)(n1 n2:Nat):Vars3 w (((w.alloc (D9 x1 n1)).alloc (D9 x2 n2)).alloc N4) x1 x2 n1 n2:=by
 refine⟨((Blk.new w _ _).of (Below.heap_alloc _ _ _ (by simp))).of (Below.heap_alloc _ _ _ (by simp;omega)),?_,?_⟩
 ·have:=Blk.new (w.alloc (D9 x1 n1)) #[x2,.pointer (some ⟨n2,0,none⟩)] 92
  rw[World.size_alloc]at this;exact this.of (Below.heap_alloc _ _ _ (by simp))
 ·have:=Blk.new ((w.alloc (D9 x1 n1)).alloc (D9 x2 n2)) #[.nilIface,.pointer none] 92
  rw[World.size_alloc,World.size_alloc]at this;exact this
theorem Vars3.below {w W W':World}{x1 x2:Value}{n1 n2:Nat}(h:Vars3 w W x1 x2 n1 n2)(hb:Below W.heap.size W W'):Vars3 w W' x1 x2 n1 n2:=⟨h.v1.below hb h.v1.lt,h.v2.below hb h.v2.lt,h.r.below hb h.r.lt⟩
theorem dQn (a b:Ls.D)(h24:Ls.dsize a+Ls.dsize b<=24)(hn:dn a+dn b<=100000)(w:World)(G:Nat->Prop)(hG:Old w G)(a3:Addr)(hc:EType w a3)(t1 t2:TypeId)(y1 y2:Value)(n1 n2:Nat)(h1:Tx w G (.iface t1 y1) n1 a)(h2:Tx w G (.iface t2 y2) n2 b) :
  Calls Tryz.prog 152 #[C8 (.iface t1 y1) n1,C8 (.iface t2 y2) n2] w (aQa w G a3 (¬Ls.dX0 (Ls.dXu a) (Ls.dXu b)) (Ls.dX7 a b)):=by
 have hb0:Below w.heap.size w (((w.alloc (D9 (.iface t1 y1) n1)).alloc (D9 (.iface t2 y2) n2)).alloc N4):=O5 w _ _ _;have hz0:(((w.alloc (D9 (.iface t1 y1) n1)).alloc (D9 (.iface t2 y2) n2)).alloc N4).heap.size=w.heap.size+1+1+1:=by simp
 have hv0:=Vars3.start w (.iface t1 y1) (.iface t2 y2) n1 n2;have hO:Old (((w.alloc (D9 (.iface t1 y1) n1)).alloc (D9 (.iface t2 y2) n2)).alloc N4) G:=fun k hk=>Nat.lt_of_lt_of_le (hG k hk) hb0.size;obtain⟨P,Q,hN⟩:=(h1.below hG hb0).nt hO (by omega);obtain⟨P',Q',hN'⟩:=(h2.below hG hb0).nt hO (by omega);have hK:=iQe _ n1 n2 P Q P' Q' a b h1.wd h2.wd hN hN';obtain⟨a0,a1,a2,a4⟩:=hv0.v1.two;obtain⟨b0,b1,b2,b4⟩:=hv0.v2.two;have HT:Hid (∀W,Below w.heap.size w W->Tx W G (.iface t1 y1) n1 a/\Tx W G (.iface t2 y2) n2 b):=fun W hW=>⟨h1.below hG hW,h2.below hG hW⟩;have HV0:Hid _:=hv0;have HB0:Hid _:=hb0;clear h1 h2 hN hN' hv0 hb0 hO;go_enter Tryz.func152,Tryz.ntmps152;go_wp2_with fail;refine hK.mono ?_;clear hK;generalize ((w.alloc (D9 (.iface t1 y1) n1)).alloc (D9 (.iface t2 y2) n2)).alloc N4=W0 at *;rintro e w1 ⟨z,rfl,hz,hb1⟩;have hbw1:=Below.join HB0.out hb1;have HZ:Hid (z=true↔¬Ls.dX0 (Ls.dXu a) (Ls.dXu b)):=hz;have hz1:=hb1.size;clear hz;cases z with
 | false=>
  have hNo:=cQm a3 w1 (hc.below hbw1);go_wp2_with fail;refine hNo.mono ?_;rintro e w2 ⟨rfl,rfl⟩;go_wp2_with fail;exact⟨rfl,.inr ⟨fun h=>(by have:=HZ.out.2 h;cases this),rfl,hbw1⟩⟩
 | true=>
  have hv1:=HV0.out.below hb1;clear a0 a1 a2 a4 b0 b1 b2 b4;obtain⟨a0,a1,a2,a4⟩:=hv1.v1.two;obtain⟨b0,b1,b2,b4⟩:=hv1.v2.two;have HV1:Hid _:=hv1;clear hv1;go_wp2_with fail;refine(eQm w1).mono ?_;rintro e w2 ⟨rfl,rfl⟩;go_wp2_with fail;refine(yQo t1 t2 y1 y2 w2).mono ?_;rintro e w3 ⟨rfl,rfl⟩;have hO2:Old w2 G:=fun k hk=>Nat.lt_of_lt_of_le (hG k hk) hbw1.size;have hb3:=A5 w2 (.cells #[.iface t1 y1,.iface t2 y2] 89);have hT3:=aQp (Ls.dX7 a b) (by rw[Ls.dX7,X3,X3,T6];omega) (by rw[Ls.gXe];exact h24) (w2.alloc (.cells #[.iface t1 y1,.iface t2 y2] 89)) _ (Gn.old hO2 hb3.size) _ _ (zQ3 hO2 (HT.out w2 hbw1).1.rep (HT.out w2 hbw1).2.rep);have hz3:(w2.alloc (.cells #[.iface t1 y1,.iface t2 y2] 89)).heap.size=w2.heap.size+1:=by simp
  have HB3:Hid _:=hb3;clear hb3 hO2;go_wp2_with fail;refine hT3.mono ?_;clear hT3;generalize w2.alloc (.cells #[.iface t1 y1,.iface t2 y2] 89)=w3 at *;rintro e w4 ⟨ty,y,nb,rfl,ht,hb4⟩;have hbx:=Below.join HB3.out hb4;have hv4:=HV1.out.below hbx;obtain⟨r0,r1,s0,s1⟩:=hv4.r.two;have HP:Hid (TxPost w G (Ls.dX7 a b) (.returned (C8 (.iface ty y) nb)) ((w4.setCell ⟨w.heap.size+1+1,0,none⟩ (.iface ty y)).setCell ⟨w.heap.size+1+1,1,none⟩ (.pointer (some ⟨nb,0,none⟩)))):=by
   have hzz:=hb4.size;refine TxPost.up ht (fun k hk=>?_) (Below.join hbw1 hbx) (by omega) rfl;rcases hk with (hk|hk)|hk
   ·have:=hG k hk;exact⟨by omega,.inl hk⟩
   ·exact⟨by omega,.inr ⟨by omega,by omega⟩⟩
   ·exact⟨by omega,.inr ⟨by omega,by omega⟩⟩
  clear hv4 ht a0 a1 a2 a4 b0 b1 b2 b4;go_wp2_with fail;exact bodyPost_ret (v:=C8 (.iface ty y) nb) (by simp[results,Tryz.results152,go_sem,r0,r1]) rfl (.inl ⟨HZ.out.1 (by simp),HP.out⟩)
theorem jQb (a b:Ls.D)(h24:Ls.dsize a+Ls.dsize b<=24)(hn:dn a+dn b<=100000)(w:World)(G:Nat->Prop)(hG:Old w G)(t1 t2:TypeId)(y1 y2:Value)(n1 n2:Nat)(h1:Tx w G (.iface t1 y1) n1 a)(h2:Tx w G (.iface t2 y2) n2 b) :
  Calls Tryz.prog 135 #[C8 (.iface t1 y1) n1,C8 (.iface t2 y2) n2] w (TxPost w G (Ls.eXk a b)):=by
 have hb0:Below w.heap.size w (((w.alloc (D9 (.iface t1 y1) n1)).alloc (D9 (.iface t2 y2) n2)).alloc N4):=O5 w _ _ _;have hz0:(((w.alloc (D9 (.iface t1 y1) n1)).alloc (D9 (.iface t2 y2) n2)).alloc N4).heap.size=w.heap.size+1+1+1:=by simp
 have hv0:=Vars3.start w (.iface t1 y1) (.iface t2 y2) n1 n2;obtain⟨a0,a1,a2,a4⟩:=hv0.v1.two;obtain⟨b0,b1,b2,b4⟩:=hv0.v2.two;have HT:Hid (∀W,Below w.heap.size w W->Tx W G (.iface t1 y1) n1 a/\Tx W G (.iface t2 y2) n2 b):=fun W hW=>⟨h1.below hG hW,h2.below hG hW⟩;have HZ0:Hid ((((w.alloc (D9 (.iface t1 y1) n1)).alloc (D9 (.iface t2 y2) n2)).alloc N4).heap.size=w.heap.size+1+1+1):=hz0;have HV0:Hid _:=hv0;have HB0:Hid _:=hb0;clear h1 h2 hv0 hb0 hz0;go_enter Tryz.func135,Tryz.ntmps135;go_wp2_with fail;generalize ((w.alloc (D9 (.iface t1 y1) n1)).alloc (D9 (.iface t2 y2) n2)).alloc N4=W0 at *;refine(yQq t1 t2 y1 y2 W0).mono ?_;rintro e w3 ⟨rfl,rfl⟩;have hO2:Old W0 G:=fun k hk=>Nat.lt_of_lt_of_le (hG k hk) HB0.out.size;have hb3:=A5 W0 (.cells #[.iface t1 y1,.iface t2 y2] 89);have hT3:=aQp (Ls.eXk a b) (by rw[Ls.eXk,bQj,bQk];omega) (by rw[Ls.gXf];exact h24) (W0.alloc (.cells #[.iface t1 y1,.iface t2 y2] 89)) _ (Gn.old hO2 hb3.size) _ _ (zQ4 hO2 (HT.out W0 HB0.out).1.rep (HT.out W0 HB0.out).2.rep);have hz3:(W0.alloc (.cells #[.iface t1 y1,.iface t2 y2] 89)).heap.size=W0.heap.size+1:=by simp
 have HB3:Hid _:=hb3;clear hb3 hO2;go_wp2_with fail;refine hT3.mono ?_;clear hT3;generalize W0.alloc (.cells #[.iface t1 y1,.iface t2 y2] 89)=w3 at *;rintro e w4 ⟨ty,y,nb,rfl,ht,hb4⟩;have hbx:=Below.join HB3.out hb4;have hv4:=HV0.out.below hbx;obtain⟨r0,r1,s0,s1⟩:=hv4.r.two;have HP:Hid (TxPost w G (Ls.eXk a b) (.returned (C8 (.iface ty y) nb)) ((w4.setCell ⟨w.heap.size+1+1,0,none⟩ (.iface ty y)).setCell ⟨w.heap.size+1+1,1,none⟩ (.pointer (some ⟨nb,0,none⟩)))):=by
  have hzz:=hb4.size;have hz0:=HZ0.out;refine TxPost.up ht (fun k hk=>?_) (Below.join HB0.out hbx) (by omega) rfl;rcases hk with (hk|hk)|hk
  ·have:=hG k hk;exact⟨by omega,.inl hk⟩
  ·exact⟨by omega,.inr ⟨by omega,by omega⟩⟩
  ·exact⟨by omega,.inr ⟨by omega,by omega⟩⟩
 clear hv4 ht a0 a1 a2 a4 b0 b1 b2 b4;go_wp2_with fail;exact bodyPost_ret (v:=C8 (.iface ty y) nb) (by simp[results,Tryz.results135,go_sem,r0,r1]) rfl HP.out
theorem cQk {w:World}{G:Nat->Prop}{v:Value}{nb:Nat}{d:Ls.D}(h:Tx w G v nb d)(h24:Ls.dsize d<=24)(s:ByteArray)(hs:s.size<=1048576) :
  Calls Tryz.prog 83 #[.pointer (some ⟨nb,0,none⟩),.string s] w fun e w'=>∃b:Bool,e=.returned (.bool b)/\(b=true↔Ls.inL (Ls.dXu d) s.data.toList)/\Below w.heap.size w w':=by
 obtain⟨B,P,Q,h1,_⟩:=h.net;obtain⟨q1,q2,_,_⟩:=bQe h.wd (n:=H8) rfl (by simp[H8];omega);refine(nQy w B nb P Q _ _ h1 q1 q2 s hs).mono ?_;rintro e w' ⟨b,rfl,hb,hbl⟩;exact⟨b,rfl,hb.trans (kQd h.wd _),hbl⟩
theorem kQp (a:Ls.D)(h24:Ls.dsize a<=24)(hn:dn a<=100000)(w:World)(G:Nat->Prop)(hG:Old w G)(a3:Addr)(hc:EType w a3)(t1:TypeId)(y1:Value)(n1:Nat)(h1:Tx w G (.iface t1 y1) n1 a) :
  Calls Tryz.prog 193 #[C8 (.iface t1 y1) n1] w (aQa w G a3 (¬Ls.inL (Ls.dXu a) []/\¬Ls.dX0 (Ls.dXu a) (Ls.dXu (Ls.rep 5 a))) (Ls.rep 5 a)):=by
 have hb0:Below w.heap.size w ((w.alloc (D9 (.iface t1 y1) n1)).alloc N4):=C6 w _ _;have hz0:((w.alloc (D9 (.iface t1 y1) n1)).alloc N4).heap.size=w.heap.size+1+1:=by simp
 have hv:Blk ((w.alloc (D9 (.iface t1 y1) n1)).alloc N4) w.heap.size #[.iface t1 y1,.pointer (some ⟨n1,0,none⟩)] 92:=(Blk.new w _ _).of (Below.heap_alloc _ _ _ (by simp));have hr:Blk ((w.alloc (D9 (.iface t1 y1) n1)).alloc N4) (w.heap.size+1) #[.nilIface,.pointer none] 92:=by
  have:=Blk.new (w.alloc (D9 (.iface t1 y1) n1)) #[.nilIface,.pointer none] 92;rw[World.size_alloc]at this;exact this
 have hO:Old ((w.alloc (D9 (.iface t1 y1) n1)).alloc N4) G:=fun k hk=>Nat.lt_of_lt_of_le (hG k hk) hb0.size;have HT:Hid (∀W,Below w.heap.size w W->Tx W G (.iface t1 y1) n1 a):=fun W hW=>h1.below hG hW;have hT1:=aQp (Ls.rep 5 a) (by rw[aQi];omega) (by rw[Ls.eXu];exact h24) _ G hO _ _ (Rep.rep (.inl rfl) (HT.out _ hb0).rep);obtain⟨a0,a1,a2,a4⟩:=hv.two;have HV:Hid (Blk ((w.alloc (D9 (.iface t1 y1) n1)).alloc N4) w.heap.size #[.iface t1 y1,.pointer (some ⟨n1,0,none⟩)] 92):=hv;have HRs:Hid (Blk ((w.alloc (D9 (.iface t1 y1) n1)).alloc N4) (w.heap.size+1) #[.nilIface,.pointer none] 92):=hr;have HB0:Hid _:=hb0;clear h1 hv hr hb0 hO;go_enter Tryz.func193,Tryz.ntmps193;go_wp2_with fail;refine(kQo t1 y1 _).mono ?_;rintro e w0 ⟨rfl,rfl⟩;go_wp2_with fail;refine hT1.mono ?_;clear hT1;generalize (w.alloc (D9 (.iface t1 y1) n1)).alloc N4=W0 at *;rintro e w1 ⟨ty,y,nb,rfl,ht,hb1⟩;have hbw1:=Below.join HB0.out hb1;have hb2:=A5 w1 (D9 (.iface ty y) nb);have hx2:Blk (w1.alloc (D9 (.iface ty y) nb)) w1.heap.size #[.iface ty y,.pointer (some ⟨nb,0,none⟩)] 92:=Blk.new w1 _ _;have hz1:=hb1.size;have hz2:(w1.alloc (D9 (.iface ty y) nb)).heap.size=w1.heap.size+1:=by simp
 have hbw2:=Below.join hbw1 hb2;have hv2:=HV.out.below (Below.join hb1 hb2) (by omega);have hr2:=HRs.out.below (Below.join hb1 hb2) (by omega);have ht2:=ht.below (Gn.old (fun k hk=>Nat.lt_of_lt_of_le (hG k hk) HB0.out.size) hz1) hb2;clear a0 a1 a2 a4 ht hb2;go_upto_region 2 with (fail);generalize w1.alloc (D9 (.iface ty y) nb)=w2 at *;obtain⟨a0,a1,a2,a4⟩:=hv2.two;obtain⟨b0,b1,b2,b4⟩:=hx2.two;have HV2:Hid (Blk w2 w.heap.size #[.iface t1 y1,.pointer (some ⟨n1,0,none⟩)] 92):=hv2;have HX2:Hid (Blk w2 w1.heap.size #[.iface ty y,.pointer (some ⟨nb,0,none⟩)] 92):=hx2;have HR2:Hid (Blk w2 (w.heap.size+1) #[.nilIface,.pointer none] 92):=hr2;have HT2:Hid (Tx w2 (Gn W0 G w1) (.iface ty y) nb (Ls.rep 5 a)):=ht2;have HO2:Hid (Old w2 (Gn W0 G w1)):=fun k hk=>by
  rcases hk with h|h
  ·exact Nat.lt_of_lt_of_le (hG k h) hbw2.size
  ·have:=h.2;omega
 have hM:=cQk (HT.out w2 hbw2) h24 ⟨#[]⟩ (by decide);clear hv2 hx2 hr2 ht2;go_wp2_with fail;refine hM.mono ?_;clear hM;rintro e w3 ⟨b,rfl,hbe,hb3⟩;have HBE:Hid (b=true↔Ls.inL (Ls.dXu a) []):=hbe;have hbw3:=Below.join hbw2 hb3;have hz3:=hb3.size;have hv3:=HV2.out.below hb3 HV2.out.lt;have hx3:=HX2.out.below hb3 HX2.out.lt;clear hbe a0 a1 a2 a4 b0 b1 b2 b4;cases b with
 | true=>
  have HN:Hid (¬(¬Ls.inL (Ls.dXu a) []/\¬Ls.dX0 (Ls.dXu a) (Ls.dXu (Ls.rep 5 a)))):=fun h=>h.1 (HBE.out.1 (by simp));have hNo:=cQm a3 w3 (hc.below hbw3);clear HBE;go_wp2_with fail;refine hNo.mono ?_;rintro e w4 ⟨rfl,rfl⟩;go_wp2_with fail;exact⟨rfl,.inr ⟨HN.out,rfl,hbw3⟩⟩
 | false=>
  have HN:Hid (¬Ls.inL (Ls.dXu a) []):=fun h=>(by have:=HBE.out.2 h;cases this);obtain⟨a0,a1,a2,a4⟩:=hv3.two;obtain⟨b0,b1,b2,b4⟩:=hx3.two;obtain⟨P,Q,hNt⟩:=(HT.out w3 hbw3).nt (fun k hk=>Nat.lt_of_lt_of_le (hG k hk) hbw3.size) h24;obtain⟨P',Q',hNt'⟩:=(HT2.out.below HO2.out hb3).nt (fun k hk=>Nat.lt_of_lt_of_le (HO2.out k hk) hz3) (by rw[Ls.eXu];exact h24);have hK:=iQe w3 n1 nb P Q P' Q' a (Ls.rep 5 a) (HT.out w3 hbw3).wd HT2.out.wd hNt hNt';clear HBE hNt hNt' hv3 hx3;go_wp2_with fail;refine hK.mono ?_;clear hK;rintro e w4 ⟨z,rfl,hz,hb4⟩;have HZ:Hid (z=true↔¬Ls.dX0 (Ls.dXu a) (Ls.dXu (Ls.rep 5 a))):=hz;have hbw4:=Below.join hbw3 hb4;clear hz;cases z with
  | false=>
   have HN2:Hid (¬(¬Ls.inL (Ls.dXu a) []/\¬Ls.dX0 (Ls.dXu a) (Ls.dXu (Ls.rep 5 a)))):=fun h=>(by have:=HZ.out.2 h.2;cases this);have hNo:=cQm a3 w4 (hc.below hbw4);clear HZ;go_wp2_with fail;refine hNo.mono ?_;rintro e w5 ⟨rfl,rfl⟩;go_wp2_with fail;exact⟨rfl,.inr ⟨HN2.out,rfl,hbw4⟩⟩
  | true=>
   have HOK:Hid (¬Ls.inL (Ls.dXu a) []/\¬Ls.dX0 (Ls.dXu a) (Ls.dXu (Ls.rep 5 a))):=⟨HN.out,HZ.out.1 (by simp)⟩;have hb34:=Below.join hb3 hb4;have hx4:=HX2.out.below hb34 HX2.out.lt;have hr4:=HR2.out.below hb34 HR2.out.lt;clear a0 a1 a2 a4 b0 b1 b2 b4 HZ;obtain⟨b0,b1,b2,b4⟩:=hx4.two;obtain⟨r0,r1,s0,s1⟩:=hr4.two;have HP:Hid (TxPost w G (Ls.rep 5 a) (.returned (C8 (.iface ty y) nb)) ((w4.setCell ⟨w.heap.size+1,0,none⟩ (.iface ty y)).setCell ⟨w.heap.size+1,1,none⟩ (.pointer (some ⟨nb,0,none⟩)))):=by
    have hzz:=hb4.size;refine TxPost.up (HT2.out.below HO2.out hb34) (fun k hk=>?_) hbw4 (by omega) rfl;rcases hk with hk|hk
    ·have:=hG k hk;exact⟨by omega,.inl hk⟩
    ·exact⟨by omega,.inr ⟨by omega,by omega⟩⟩
   clear hx4 hr4;go_wp2_with fail;refine(eQm w4).mono ?_;rintro e w5 ⟨rfl,rfl⟩;go_wp2_with fail;exact bodyPost_ret (v:=C8 (.iface ty y) nb) (by simp[results,Tryz.results193,go_sem,r0,r1]) rfl (.inl ⟨HOK.out,HP.out⟩)
theorem Parts.below {w0 w w':World}{v:Value}{l:List Ls.D}{vs:List Value}(h:Parts w0 w v l vs)(hb:Below w.heap.size w w'):Parts w0 w' v l vs:=by
 refine⟨h.own.kept (K3 hb none) ?_,h.each.mono (fun k hk=>⟨hk.1,Nat.lt_of_lt_of_le hk.2.1 hb.size,hk.2.2⟩) (fun k hk=>hb.block k hk.2.1)⟩;cases hv:v.ownBlock with
 | none=>exact .inl rfl
 | some k=>exact .inr (by simp)
theorem dXb (l:List UInt8):Ls.gX2 l=(l.map fun c=>Ls.place [c]).foldr Ls.rcons Ls.rnil:=by
 induction l with
 | nil=>rfl
 | cons c l ih=>rw[Ls.gX2,ih];rfl
theorem kQ6 (s:ByteArray)(hs:s.size<=120)(hok:∀c∈s.data.toList,c.toNat<=126)(w:World) :
  Calls Tryz.prog 203 #[.string s] w fun e w'=>∃sl,e=.returned (N9 sl)/\Rep w' (B8 w w') 0 (Ls.gX2 s.data.toList) [N9 sl]/\Below w.heap.size w w':=by
 have HOK:Hid (∀c∈s.data.toList,c.toNat<=126):=hok;have HX:Hid (∀k (h:k<s.size),s.data.toList.take (k+1)=s.data.toList.take k++[s[k]]):=fun k h=>by
  have:=List.take_succ_eq_append_getElem (l:=s.data.toList) (i:=k) (by simpa using h);rw[this];rfl
 have HM:Hid (∀k (h:k<s.size),s[k].toNat<=126):=fun k h=>hok _ (by
  have:s[k]=s.data.toList[k]'(by simpa using h):=rfl;rw[this];exact List.getElem_mem _)
 have HL:Hid (s.data.toList.length=s.size):=by show _=_;simp
 obtain⟨q,hq,hq0,hq1,hqb⟩:=info_parts gQe;clear hok;go_enter Tryz.func203,Tryz.ntmps203;go_wp2_with fail;go_loopw [3,7] (fun v t wr=>∃(k:Nat) (vs:List Value),k<=s.size/\t=.int .i64 k/\Below w.heap.size w wr/\vs.length=k/\Parts w wr v ((s.data.toList.take k).map fun c=>Ls.place [c]) vs) (fun _ t _=>s.size-(intOf t).toNat)
 case atStart=>exact⟨0,[],Nat.zero_le _,rfl,Below.refl _ _,rfl,Parts.nil _ _⟩
 case round=>
  obtain⟨k,vs,hk,rfl,hbw,hlen,hp⟩:=hrel;obtain⟨x1,x2,x3,rfl⟩:=hp.slice;have HP:Hid (Parts w wr (.slice x1 x2 x3) ((s.data.toList.take k).map fun c=>Ls.place [c]) vs):=hp;clear hp
  by_cases hlt:k<s.size
  ·have hz1:(0:Int)<=(k:Int):=by omega
   have hz2:(k:Int)<(s.size:Int):=by omega
   have hC:=kQ1 s[k] wr (HM.out k hlt);have HX1:Hid (s.data.toList.take (k+1)=s.data.toList.take k++[s[k]]):=HX.out k hlt;go_wp2_with fail;refine hC.mono ?_;generalize s[k]=c at *;rintro e w3 ⟨⟨lo,hi,rfl,hSB⟩,hb3⟩;have hbw3:=Below.join hbw hb3;have hz3:=hbw3.size;have hpa:=(HP.out.below hb3).alloc (.cells #[J3 lo hi] 89);have hfa:Rep (w3.alloc (.cells #[J3 lo hi] 89)) (R4 w (w3.alloc (.cells #[J3 lo hi] 89)) (.slice x1 x2 x3)) 0 (Ls.place [c]) [J3 lo hi]:=.place hSB;have hoa:=hpa.own;have hcn:=aQt w3 (J3 lo hi) 89;have Hpa:Hid (Parts w (w3.alloc (.cells #[J3 lo hi] 89)) (.slice x1 x2 x3) ((s.data.toList.take k).map fun c=>Ls.place [c]) vs):=hpa;have Hfa:Hid (Rep (w3.alloc (.cells #[J3 lo hi] 89)) (R4 w (w3.alloc (.cells #[J3 lo hi] 89)) (.slice x1 x2 x3)) 0 (Ls.place [c]) [J3 lo hi]):=hfa;clear hpa hfa hC hSB;go_wp2_with (at_builtin;refine O3 _ rfl _ _ 182 rfl w.heap.size 89 q _ 1 16 Tryz.underlying182 hq hq0 hq1 hqb rfl (by omega) (.slice x1 x2 x3) vs.length vs rfl hoa ⟨w3.heap.size,0,none⟩ 1 1 [J3 lo hi] rfl ?l1 hcn ?l0 ?l2 ?l3 ?l4 ?l5 ?_)
   case l1=>rfl
   case l0=>intro u hu;simp at hu;subst hu;rfl
   case l2=>unfold maxLen;omega
   case l3=>omega
   case l4=>simp;omega
   case l5=>omega
   intro v' w' ho hg hvv;have hbw':Below w.heap.size w w':=(hbw3.alloc hz3 (.cells #[J3 lo hi] 89)).grown hg (by simp;omega) (fun m e=>(hoa.lt m e).1);have HP7:Hid (Parts w w' v' ((s.data.toList.take (k+1)).map fun c=>Ls.place [c]) (vs++[J3 lo hi])):=by
    show Parts _ _ _ _ _;rw[HX1.out,List.map_append];exact Hpa.out.push Hfa.out hg (by rw[hlen];exact ho) (by simpa using hvv)
   clear hg ho hvv hoa hcn;go_wp2_with fail;go_roundw
   case rel=>exact⟨k+1,vs++[J3 lo hi],by omega,by go_num,hbw',by simp[hlen],HP7.out⟩
   case measure=>simp[intOf];omega
  ·have hz2:¬(k:Int)<(s.size:Int):=by omega
   have hkk:k=s.size:=by omega
   have HR:Hid (Rep wr (B8 w wr) 0 (Ls.gX2 s.data.toList) [N9 (.slice x1 x2 x3)]):=by
    have hsh:=HP.out.shows;show Rep _ _ _ _ _;rw[dXb];have h2:=hsh.2.row;rw[List.take_of_length_le (by rw[HL.out];omega)]at h2;exact .row hsh.1 h2
   clear hkk;go_wp2_with fail;go_ret;exact⟨_,rfl,HR.out,hbw⟩
end Go.Proofs.YtfklinjaajafgaaGreatDoor
