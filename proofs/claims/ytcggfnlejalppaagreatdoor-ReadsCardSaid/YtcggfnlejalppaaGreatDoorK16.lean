import Derived.Test.YtcggfnlejalppaaGreatDoorK03
import Derived.Test.YtcggfnlejalppaaGreatDoorK01
import Derived.Deep.RegionHeld
import Derived.Deep.DeepCutAuto
set_option maxRecDepth 100000
set_option maxHeartbeats 4000000
namespace Go.Proofs.YtcggfnlejalppaaGreatDoor
open Go.RowKit
def dQz (p:Ls.Pat)(c:UInt8)(w:World)(G:Nat->Prop):Ending->World->Prop:=fun e w'=>
 ∃v qs,e=.returned v/\qs.map (·.1)=Ls.behind p c/\LW G w.heap.size w' w.heap.size v qs/\Below w.heap.size w w'
def O2 (p:Ls.Pat):Prop:=Ls.ks p<=4611686018427387904->Ls.nd p<=1000000000->Ls.md p<=4611686018427387904->∀(c:UInt8) (y:Value) (w:World) (G:Nat->Prop),Old w G->PV w G p y->
  Calls Tryz.prog 67 #[A7 p y,.int .u8 c.toNat] w (dQz p c w G)
theorem behind_none:O2 Ls.none:=by
 intro _ _ _ c y w G hG hp;have hy:y=.slice none 0 0:=hp;subst hy;clear hp;show Calls _ _ #[.agg #[.int .i64 0,.string ⟨#[]⟩,.slice none 0 0],_] w _;go_enter Tryz.func67,Tryz.ntmps67;go_wp2_with fail;go_ret;exact⟨_,[],rfl,(Ls.behind_none c).symm,LW.nil _ _ _ _,A4 _ _⟩
theorem fQi (w:World)(o:Obj)(p:Ls.Pat)(y:Value):((w.alloc o).alloc (.cells #[.int .i64 p.kind,.string ⟨p.signs.toArray⟩,y] 27)).ownsRow w.heap.size 27 3 (.slice (some ⟨w.heap.size+1,0,none⟩) 1 1) 1 (I9 [(p,y)]):=by
 have h:=World.ownsRow_lit (e:=27) (size:=3) (w.alloc o) (I9 [(p,y)]).toArray 1 (A4 w o).size (by unfold maxLen;omega) rfl;rw[show (w.alloc o).heap.size=w.heap.size+1 by simp]at h;exact h
theorem behind_set (s:List UInt8):O2 (Ls.set s):=by
 intro hs _ _ c y w G hG hp;rw[Ls.bXm]at hs;have hy:y=.slice none 0 0:=hp;subst hy;clear hp;show Calls _ _ #[.agg #[.int .i64 1,.string ⟨s.toArray⟩,.slice none 0 0],_] w _;cases hh:Ls.has s c with
 | false=>
  have Hh:Hid (Ls.has s c=false):=hh;go_enter Tryz.func67,Tryz.ntmps67;go_wp2_with fail;refine(dQe ⟨s.toArray⟩ c _ (by unfold maxLen;simp[ByteArray.size];omega)).mono ?_;rintro e w1 ⟨rfl,rfl⟩;go_wp2_with fail;go_ret;exact⟨_,[],rfl,by rw[Ls.behind_set,Hh.out];rfl,LW.nil _ _ _ _,A4 _ _⟩
 | true=>
  have Hh:Hid (Ls.has s c=true):=hh;go_enter Tryz.func67,Tryz.ntmps67;go_wp2_with fail;refine(dQe ⟨s.toArray⟩ c _ (by unfold maxLen;simp[ByteArray.size];omega)).mono ?_;rintro e w1 ⟨rfl,rfl⟩;go_wp2_with fail;go_ret;refine⟨.slice (some ⟨w.heap.size+1,0,none⟩) 1 1,[(Ls.none,.slice none 0 0)],rfl,by rw[Ls.behind_set,Hh.out];rfl,LW.of (H:=fun _=>False) ⟨?_,?_,fun _ h=>h.elim,fun _ h=>h.elim⟩ (fun _ h=>h.elim),C0 _ _ _⟩
  ·exact fQi w _ Ls.none (.slice none 0 0)
  ·intro q hq;simp only[List.mem_singleton]at hq;subst hq;rfl
theorem Q6 {w:World}{base g cap n:Nat}{qs:List (Ls.Pat × Value)}(h:w.ownsRow base 27 3 (.slice (some ⟨g,0,none⟩) n cap) n (I9 qs))(hn:n=qs.length)(i:Nat)(hi:i<qs.length) :
  w.cell? ⟨g,i*3,none⟩=some (.int .i64 qs[i].1.kind)/\w.cell? ⟨g,i*3+1,none⟩=some (.string ⟨qs[i].1.signs.toArray⟩)/\w.cell? ⟨g,i*3+2,none⟩=some qs[i].2:=by
 subst hn;refine⟨?_,?_,?_⟩
 ·rw[h.cellAt (i*3) (by omega)];have:=Z3 qs i 0 (by omega) hi;simpa using this
 ·rw[h.cellAt (i*3+1) (by omega),Z3 qs i 1 (by omega) hi];rfl
 ·rw[h.cellAt (i*3+2) (by omega),Z3 qs i 2 (by omega) hi];rfl
theorem LW.weak {G:Nat->Prop}{B0 B1:Nat}{w:World}{base base':Nat}{v:Value}{qs:List (Ls.Pat × Value)}(h:LW G B1 w base' v qs)(h0:B0<=B1)(hb:base<=base'):LW G B0 w base v qs:=by
 refine LW.of (H:=GG G B1 w v) ⟨?_,h.each,h.apart,h.old⟩ fun k hk=>hk.1.imp id fun h=>Nat.le_trans h0 h;refine⟨h.own.1,h.own.2.imp id ?_⟩;rintro ⟨g,cap,cur,hv,hg,r⟩;exact⟨g,cap,cur,hv,Nat.le_trans hb hg,r⟩
theorem LW.shape {G:Nat->Prop}{B0:Nat}{w:World}{base:Nat}{v:Value}{qs:List (Ls.Pat × Value)}(h:LW G B0 w base v qs):∃ao cap,v=.slice ao qs.length cap/\(0<qs.length->∃g,ao=some ⟨g,0,none⟩):=by
 rcases h.own.2 with⟨rfl,h0⟩|⟨g,cap,cur,rfl,_⟩
 ·exact⟨_,_,by rw[h0],by omega⟩
 ·exact⟨_,_,rfl,fun _=>⟨g,rfl⟩⟩
abbrev Ok (x:Ls.Pat):Prop:=Ls.wf x/\(Ls.key x).length<=4611686018427387904
theorem Y8 {l m:List Ls.Pat}{qs:List (Ls.Pat × Value)}{k:Nat}(h:qs.map (·.1)=Ls.wQ3 l (m.take k))(hl:∀x,x∈l->Ok x)(hm:∀x,x∈m->Ok x):(∀q,q∈qs->Ok q.1)/\qs.length<=l.length+m.length:=by
 constructor
 ·intro q hq
  have hx:q.1∈qs.map (·.1):=List.mem_map.2 ⟨q,hq,rfl⟩;rw[h]at hx;rcases Ls.xQd hx with h|h
  ·exact hl _ h
  ·exact hm _ (List.mem_of_mem_take h)
 ·have h1:=congrArg List.length h
  have h2:=Ls.xQ4 l (m.take k);have h3:(m.take k).length<=m.length:=List.length_take_le' _ _;simp only[List.length_map]at h1;omega
theorem aQg {l m:List Ls.Pat}{qs qs':List (Ls.Pat × Value)}{k:Nat}(h:qs.map (·.1)=Ls.wQ3 l (m.take k))(hk:k<m.length)(h':qs'.map (·.1)=Ls.put (qs.map (·.1)) m[k]):qs'.map (·.1)=Ls.wQ3 l (m.take (k+1)):=by
 rw[h',h,List.take_succ_eq_append_getElem hk,Ls.cXr]
theorem nQi (a b:Ls.Pat)(wa:Ls.wf a)(wb:Ls.wf b)(ha:O2 a)(hb:O2 b):O2 (Ls.any a b):=by
 intro hs hn hm c sl w G hG hp;rw[Ls.aXy]at hs;rw[Ls.aXh]at hn;rw[Ls.cXz]at hm;obtain⟨g,y,z,hg,rfl,hl,h1,h2⟩:=hp;have hgl:=hl.lt;obtain⟨c0,c1,c2,c3,c4,c5⟩:=hl.six;clear hg;show Calls _ _ #[.agg #[.int .i64 3,.string ⟨#[]⟩,.slice (some ⟨g,0,none⟩) 2 2],_] w _;go_enter Tryz.func67,Tryz.ntmps67;go_wp2_with fail;refine(ha (by omega) (by omega) (by omega) c y _ G (Old.alloc hG _) (h1.below (A4 _ _) hG fun _ h=>h)).mono ?_;rintro e w1 ⟨v1,q1,rfl,hq1,lw1,hb1⟩;obtain⟨d1,d2⟩:=K4 hb1;have Hq1:Hid (q1.map (·.1)=Ls.behind a c):=hq1;clear hq1;go_wp2_with fail;refine(hb (by omega) (by omega) (by omega) c z _ G (Old.below (Old.alloc hG _) hb1) ((h2.below (A4 _ _) hG fun _ h=>h).below hb1 (Old.alloc hG _) fun _ h=>h)).mono ?_;rintro e w2 ⟨v2,q2,rfl,hq2,lw2,hb2⟩;have Hq2:Hid (q2.map (·.1)=Ls.behind b c):=hq2;clear hq2 d1 d2;go_wp2_with fail;have hz1:=hb1.size;have hz2:=hb2.size;simp at hz1;have lw1':LW G w.heap.size w2 w.heap.size v1 q1:=(lw1.below hb2).weak (by simp) (by simp);obtain⟨ao,cap,rfl,hao⟩:=lw2.shape;have HO1:Hid (∀x,x∈q1.map (·.1)->Ok x):=fun x hx=>by rw[Hq1.out]at hx;have:=Ls.xQi a wa c x hx;exact⟨this.1,by have:=this.2;unfold Ls.ks at this;omega⟩
 have HO2:Hid (∀x,x∈q2.map (·.1)->Ok x):=fun x hx=>by rw[Hq2.out]at hx;have:=Ls.xQi b wb c x hx;exact⟨this.1,by have:=this.2;unfold Ls.ks at this;omega⟩
 have hlen1:q1.length<=Ls.nd a:=by have:=Ls.xQu a wa c;rw[<-Hq1.out]at this;simpa using this
 have hlen2:q2.length<=Ls.nd b:=by have:=Ls.xQu b wb c;rw[<-Hq2.out]at this;simpa using this
 have HH:Hid (∀k,GG G w1.heap.size w2 (.slice ao q2.length cap) k->(G k\/w.heap.size<=k)/\k<w2.heap.size/\some k≠v1.ownBlock):=by
  intro k hk;refine⟨hk.1.imp id (by omega),hk.2.1,fun e=>?_⟩;have h3:=lw1.own.lt k e.symm;simp at h3;rcases hk.1 with h|h
  ·have:=hG k h;omega
  ·omega
 have HN:Hid ((Value.slice ao q2.length cap).ownBlock=none\/(Value.slice ao q2.length cap).ownBlock≠v1.ownBlock):=by
  cases hv:(Value.slice ao q2.length cap).ownBlock with
  | none=>exact .inl rfl
  | some k=>
   refine .inr fun e=>?_;have h3:=lw1.own.lt k e.symm;have h4:=lw2.own.lt k hv;omega
 go_loopw [6,8] (fun l i wr=>∃(k:Nat) (qs:List (Ls.Pat × Value)),k<=q2.length/\i=.int .i64 k/\Grows G w.heap.size w2 w.heap.size v1 wr l qs/\qs.map (·.1)=Ls.wQ3 (q1.map (·.1)) ((q2.map (·.1)).take k)) (fun _ i _=>q2.length-(intOf i).toNat)
 case atStart=>exact⟨0,q1,Nat.zero_le _,rfl,Grows.start lw1',by simp[Ls.wQ3]⟩
 case round=>
  rename_i l wr
  obtain⟨k,qs,hk,rfl,gr,hqs⟩:=hrel;have Hqs:Hid (qs.map (·.1)=Ls.wQ3 (q1.map (·.1)) ((q2.map (·.1)).take k)):=hqs;clear hqs
  by_cases hlt:k<q2.length
  ·obtain⟨g2,rfl⟩:=hao (by omega)
   obtain⟨e0,e1,e2⟩:=Q6 (gr.other lw2.own HN.out) rfl k hlt;go_wp2_with fail;obtain⟨hok,hln⟩:=Y8 Hqs.out HO1.out HO2.out;simp only[List.length_map]at hln;have hok2:=HO2.out q2[k].1 (List.mem_map.2 ⟨q2[k],List.getElem_mem hlt,rfl⟩);refine(aQd wr w.heap.size (by have:=gr.grown.size;omega) (GG G w.heap.size wr u6) u6 qs gr.lw (by omega) hok q2[k].1 q2[k].2 (gr.fits HH.out (lw2.each _ (List.getElem_mem hlt))) hok2.1 hok2.2).mono ?_;rintro e w3 hpost;obtain⟨v3,qs3,rfl,hm3,gr3⟩:=gr.put hpost;clear hpost;have Hm3:Hid (qs3.map (·.1)=Ls.put (qs.map (·.1)) q2[k].1):=hm3;clear hm3;go_wp2_with fail;go_roundw
   case rel=>exact⟨k+1,qs3,by omega,by go_num,gr3,aQg Hqs.out (by simpa using hlt) (by simpa using Hm3.out)⟩
   case measure=>simp[intOf];omega
  ·go_wp2_with fail
   go_ret;have hk1:k=q2.length:=by omega
   have hq:=Hqs.out;rw[List.take_of_length_le (by simp;omega),Hq1.out,Hq2.out]at hq;refine⟨_,qs,rfl,by rw[Ls.behind_any,hq],gr.lw,?_⟩;exact(Below.join (Below.join (A4 w _) hb1) hb2).grown gr.grown (by omega) fun k e=>(lw1'.own.lt k e).1
def bQ9 (G:Nat->Prop)(B0:Nat)(wr:World)(u:Value)(p:Ls.Pat)(s:Value)(wx:World):Prop:=
 ∃b yr,s=.pointer (some ⟨b,0,none⟩)/\Lies wx b (B7 p yr)/\PV wx (GG G B0 wx u) p yr/\Below wr.heap.size wr wx
theorem hQi {G:Nat->Prop}{B0:Nat}{wr W w3 wx:World}{u:Value}(hW:Below wr.heap.size wr W)(hb3:Below W.heap.size W w3)(hrow:∀m,u.ownBlock=some m->m<wr.heap.size)(hB:B0<=wr.heap.size)(hx:w3.heap.size<=wx.heap.size) :
  ∀k,E1 (GG G B0 wr u) W w3 k->GG G B0 wx u k:=by
 intro k hk;have h1:=hW.size;have h2:=hb3.size;rcases hk with⟨h3,h4,h5⟩|⟨h3,h4⟩
 ·exact⟨h3,by omega,h5⟩
 ·refine⟨.inr (by omega),by omega,fun e=>?_⟩
  have:=hrow k e.symm;omega
theorem fQj {G:Nat->Prop}{B0:Nat}{wr W w3:World}{u:Value}{p:Ls.Pat}{yr:Value}(hW:Below wr.heap.size wr W)(hb3:Below W.heap.size W w3)(hpv:PV w3 (E1 (GG G B0 wr u) W w3) p yr)(hrow:∀m,u.ownBlock=some m->m<wr.heap.size)(hB:B0<=wr.heap.size) :
  bQ9 G B0 wr u p (.pointer (some ⟨w3.heap.size,0,none⟩)) (w3.alloc (.cells #[.int .i64 p.kind,.string ⟨p.signs.toArray⟩,yr] 27)):=by
 have h1:=hW.size;have h2:=hb3.size;refine⟨_,yr,rfl,C1 w3 (B7 p yr),PV.mono (hQi hW hb3 hrow hB (by simp)) (fun k hk=>?_) _ _ hpv,Below.join (Below.join hW hb3) (A4 _ _)⟩;have:k<w3.heap.size:=by
  rcases hk with hk|hk
  ·have:=hk.2.1;omega
  ·exact hk.2
 exact Below.heap_alloc _ _ _ this
theorem wQr {w:World}{g:Nat}{a b c:Value}(h:Lies w g [a,b,c])(x y z:Value):Lies (((w.setCell ⟨g,0,none⟩ x).setCell ⟨g,1,none⟩ y).setCell ⟨g,2,none⟩ z) g [x,y,z]:=by
 unfold Lies at h ⊢;simp[World.setCell,Array.getElem?_modify,h]
theorem aQk (w:World)(g:Nat)(x y z:Value)(k:Nat)(hk:k≠g):(((w.setCell ⟨g,0,none⟩ x).setCell ⟨g,1,none⟩ y).setCell ⟨g,2,none⟩ z).heap[k]?=w.heap[k]?:=by
 rw[Below.heap_setCell _ _ _ _ hk,Below.heap_setCell _ _ _ _ hk,Below.heap_setCell _ _ _ _ hk]
theorem fQw {G:Nat->Prop}{B0:Nat}{wr w3:World}{u:Value}{p:Ls.Pat}{yr a b c:Value}(hb3:Below (wr.alloc (.cells #[a,b,c] 27)).heap.size (wr.alloc (.cells #[a,b,c] 27)).drew w3)(hpv:PV w3 (E1 (GG G B0 wr u) (wr.alloc (.cells #[a,b,c] 27)).drew w3) p yr)(hrow:∀m,u.ownBlock=some m->m<wr.heap.size)(hB:B0<=wr.heap.size) :
  bQ9 G B0 wr u p (.pointer (some ⟨wr.heap.size,0,none⟩)) (((w3.setCell ⟨wr.heap.size,0,none⟩ (.int .i64 p.kind)).setCell ⟨wr.heap.size,1,none⟩ (.string ⟨p.signs.toArray⟩)).setCell ⟨wr.heap.size,2,none⟩ yr):=by
 have hW:Below wr.heap.size wr (wr.alloc (.cells #[a,b,c] 27)).drew:=(A4 _ _).drew;have hl:Lies w3 wr.heap.size [a,b,c]:=by
  have h0:=C1 wr [a,b,c];unfold Lies at h0 ⊢;rw[hb3.block wr.heap.size (by simp)];exact h0
 have hbb:=Below.join hW hb3;refine⟨_,yr,rfl,wQr hl _ _ _,PV.mono (hQi hW hb3 hrow hB (by simp[World.setCell])) (fun k hk=>?_) _ _ hpv,((hbb.setCell (Nat.le_refl _) _).setCell (Nat.le_refl _) _).setCell (Nat.le_refl _) _⟩;refine aQk _ _ _ _ _ _ ?_;rcases hk with hk|hk
 ·have:=hk.2.1;omega
 ·have:=hk.1;simp at this;omega
theorem behind_star (a:Ls.Pat)(wa:Ls.wf a)(ha:O2 a):O2 (Ls.wQ9 a):=by
 intro hs hn hm c sl w G hG hp;have hp0:=hp;rw[Ls.yQa]at hs;rw[Ls.yQr]at hn;rw[Ls.bXd]at hm;obtain⟨g,y,hg,rfl,hl,h1⟩:=hp;have hgl:=hl.lt;obtain⟨c0,c1,c2⟩:=hl.three;clear hg;show Calls _ _ #[.agg #[.int .i64 4,.string ⟨#[]⟩,.slice (some ⟨g,0,none⟩) 1 1],_] w _;go_enter Tryz.func67,Tryz.ntmps67;go_wp2_with fail;refine(ha (by omega) (by omega) (by omega) c y _ G (Old.alloc hG _) (h1.below (A4 _ _) hG fun _ h=>h)).mono ?_;rintro e w1 ⟨v1,q1,rfl,hq1,lw1,hb1⟩;have Hq1:Hid (q1.map (·.1)=Ls.behind a c):=hq1;clear hq1;go_wp2_with fail;have hz1:=hb1.size;simp at hz1;have b0:w1.cell? ⟨w.heap.size,0,none⟩=some (.int .i64 4):=(hb1.cell (p:=⟨w.heap.size,0,none⟩) (by simp)).trans ((C1 w (B7 (Ls.wQ9 a) (.slice (some ⟨g,0,none⟩) 1 1))).cell 0);have b1:w1.cell? ⟨w.heap.size,1,none⟩=some (.string ⟨#[]⟩):=(hb1.cell (p:=⟨w.heap.size,1,none⟩) (by simp)).trans ((C1 w (B7 (Ls.wQ9 a) (.slice (some ⟨g,0,none⟩) 1 1))).cell 1);have b2:w1.cell? ⟨w.heap.size,2,none⟩=some (.slice (some ⟨g,0,none⟩) 1 1):=(hb1.cell (p:=⟨w.heap.size,2,none⟩) (by simp)).trans ((C1 w (B7 (Ls.wQ9 a) (.slice (some ⟨g,0,none⟩) 1 1))).cell 2);obtain⟨ao,cap,rfl,hao⟩:=lw1.shape;have HO1:Hid (∀x,x∈q1.map (fun q=>Ls.row q.1 (Ls.wQ9 a))->Ok x):=fun x hx=>by
  obtain⟨q,hq,rfl⟩:=List.mem_map.1 hx;have h3:q.1∈q1.map (·.1):=List.mem_map.2 ⟨q,hq,rfl⟩;rw[Hq1.out]at h3;have h4:=Ls.xQi a wa c _ h3;have h5:=Ls.aXc q.1 (Ls.wQ9 a);rw[Ls.yQa]at h5;exact⟨Ls.zQe h4.1 (Ls.yQz wa),by have:=h4.2;unfold Ls.ks at *;omega⟩
 have hlen1:q1.length<=Ls.nd a:=by have:=Ls.xQu a wa c;rw[<-Hq1.out]at this;simpa using this
 go_loopw [16,18] (fun l i wr=>∃(k:Nat) (qs:List (Ls.Pat × Value)),k<=q1.length/\i=.int .i64 k/\Grows G w.heap.size w1 w.heap.size (.slice none 0 0) wr l qs/\qs.map (·.1)=Ls.wQ3 [] ((q1.map (fun q=>Ls.row q.1 (Ls.wQ9 a))).take k)) (fun _ i _=>q1.length-(intOf i).toNat)
 case atStart=>exact⟨0,[],Nat.zero_le _,rfl,Grows.start (LW.nil _ _ _ _),by simp[Ls.wQ3]⟩
 case round=>
  obtain⟨k,qs,hk,rfl,gr,hqs⟩:=hrel;have Hqs:Hid (qs.map (·.1)=Ls.wQ3 [] ((q1.map (fun q=>Ls.row q.1 (Ls.wQ9 a))).take k)):=hqs;clear hqs
  by_cases hlt:k<q1.length
  ·obtain⟨g2,rfl⟩:=hao (by omega)
   obtain⟨e0,e1,e2⟩:=Q6 (gr.other lw1.own (.inr (by simp[Value.ownBlock]))) rfl k hlt;have hzr:=gr.grown.size;have hrow:∀m,u16.ownBlock=some m->m<wr.heap.size:=fun m e=>(gr.lw.own.lt m e).2;have hbr:Below w1.heap.size w1 wr:=(Below.refl _ _).grown gr.grown (Nat.le_refl _) (by simp[Value.ownBlock]);have f0:=(hbr.cell (p:=⟨w.heap.size,0,none⟩) (by show w.heap.size<_;omega)).trans b0;have f1:=(hbr.cell (p:=⟨w.heap.size,1,none⟩) (by show w.heap.size<_;omega)).trans b1;have f2:=(hbr.cell (p:=⟨w.heap.size,2,none⟩) (by show w.heap.size<_;omega)).trans b2;have hg2:g2<wr.heap.size:=World.block_lt_of_cell? _ _ e0;have HX:Hid (∀W,Below wr.heap.size wr W->PV W (GG G w.heap.size wr u16) q1[k].1 q1[k].2):=fun W hW=>
    (gr.fits (H:=GG G (w.heap.size+1) w1 (.slice (some ⟨g2,0,none⟩) q1.length cap)) (fun j hj=>⟨hj.1.imp id (by omega),hj.2.1,by simp[Value.ownBlock]⟩) (by have:=lw1.each _ (List.getElem_mem hlt);simpa using this)).below hW (fun j hj=>hj.2.1) (fun _ h=>h)
   have HS:Hid (∀W,Below wr.heap.size wr W->PV W (GG G w.heap.size wr u16) (Ls.wQ9 a) (.slice (some ⟨g,0,none⟩) 1 1)):=fun W hW=>
    (gr.fits (H:=G) (fun j hj=>⟨.inl hj,by have:=hG j hj;omega,by simp[Value.ownBlock]⟩) ((hp0.below (A4 w _) hG fun _ h=>h).below hb1 (Old.alloc hG _) fun _ h=>h)).below hW (fun j hj=>hj.2.1) (fun _ h=>h)
   have HO:Hid (∀W,Below wr.heap.size wr W->Old W (GG G w.heap.size wr u16)):=fun W hW j hj=>Nat.lt_of_lt_of_le hj.2.1 hW.size;have HR:Hid (∀W,Below wr.heap.size wr W->Calls Tryz.prog 77 #[.agg #[.int .i64 q1[k].1.kind,.string ⟨q1[k].1.signs.toArray⟩,q1[k].2],.agg #[.int .i64 4,.string ⟨#[]⟩,.slice (some ⟨g,0,none⟩) 1 1]] W fun e w'=>∃y1 y2 y3,e=.returned (.agg #[.int .i64 (Ls.row q1[k].1 (Ls.wQ9 a)).kind,.string ⟨(Ls.row q1[k].1 (Ls.wQ9 a)).signs.toArray⟩,.slice y1 y2 y3])/\PV w' (E1 (GG G w.heap.size wr u16) W w') (Ls.row q1[k].1 (Ls.wQ9 a)) (.slice y1 y2 y3)/\Below W.heap.size W w'):=by
    intro W hW;refine(R8 q1[k].1 (Ls.wQ9 a) q1[k].2 (.slice (some ⟨g,0,none⟩) 1 1) W _ (HO.out W hW) (HX.out W hW) (HS.out W hW)).mono ?_;rintro e w' ⟨x,rfl,hx,hb⟩;obtain⟨y1,y2,y3,rfl⟩:=PV.slice _ _ hx;exact⟨y1,y2,y3,rfl,hx,hb⟩
   have hw0:w.heap.size<wr.heap.size:=by omega
   have HSS:Hid (∀W:World,Below wr.heap.size wr W->W.cell? ⟨g2,k*3,none⟩=some (.int .i64 q1[k].1.kind)/\W.cell? ⟨g2,k*3+1,none⟩=some (.string ⟨q1[k].1.signs.toArray⟩)/\W.cell? ⟨g2,k*3+2,none⟩=some q1[k].2/\W.cell? ⟨w.heap.size,0,none⟩=some (.int .i64 4)/\W.cell? ⟨w.heap.size,1,none⟩=some (.string ⟨#[]⟩)/\W.cell? ⟨w.heap.size,2,none⟩=some (.slice (some ⟨g,0,none⟩) 1 1)):=fun W hW=>
    ⟨(hW.cell (p:=⟨g2,_,none⟩) hg2).trans e0,(hW.cell (p:=⟨g2,_,none⟩) hg2).trans e1,(hW.cell (p:=⟨g2,_,none⟩) hg2).trans e2,(hW.cell (p:=⟨w.heap.size,_,none⟩) hw0).trans f0,(hW.cell (p:=⟨w.heap.size,_,none⟩) hw0).trans f1,(hW.cell (p:=⟨w.heap.size,_,none⟩) hw0).trans f2⟩
   go_upto_region 36 with fail;go_cut [19] (fun s wx=>bQ9 G w.heap.size wr u16 (Ls.row q1[k].1 (Ls.wQ9 a)) s wx)
   case first=>
    go_region_held (fun w'=>w'.cell? ⟨g2,k*3,none⟩=some (.int .i64 q1[k].1.kind)/\w'.cell? ⟨g2,k*3+1,none⟩=some (.string ⟨q1[k].1.signs.toArray⟩)/\w'.cell? ⟨g2,k*3+2,none⟩=some q1[k].2/\w'.cell? ⟨w.heap.size,0,none⟩=some (.int .i64 4)/\w'.cell? ⟨w.heap.size,1,none⟩=some (.string ⟨#[]⟩)/\w'.cell? ⟨w.heap.size,2,none⟩=some (.slice (some ⟨g,0,none⟩) 1 1)) (first|assumption|exact HSS.out _ (((hbb.setCell (Nat.le_refl _) _).setCell (Nat.le_refl _) _).setCell (Nat.le_refl _) _)|exact HSS.out _ (Below.alloc hbb (by have:=hbb.size;omega) _)|go_keep) ((go_at_call 77;refine(HR.out _ ?_).mono ?_;(first|exact(Below.refl _ _).drew|exact((Below.refl _ _).alloc (Nat.le_refl _) _).drew);rintro e w3 ⟨y1,y2,y3,rfl,hpv,hb3⟩;obtain⟨d1,d2⟩:=K4 hb3;have hz3:=hb3.size;have hbb:Below wr.heap.size wr w3:=(by first|exact Below.join (Below.refl _ _).drew hb3|exact Below.join (A4 _ _).drew hb3);have hs3:=HSS.out w3 hbb))
    all_goals
     go_wp2_with fail;go_meet
     case rel=>first|exact fQj (Below.refl _ _).drew hb3 hpv hrow (by omega)|exact fQw hb3 hpv hrow (by omega)
   case rest=>
    obtain⟨b,yr,rfl,hlb,hpr,hbx⟩:=hcut;obtain⟨r0,r1,r2⟩:=hlb.three;have grx:=gr.below hbx;clear gr HX HS HR HSS HO e0 e1 e2 f0 f1 f2 b0 b1 b2;go_wp2_with fail;obtain⟨hok,hln⟩:=Y8 Hqs.out (by simp) HO1.out;simp only[List.length_map,List.length_nil]at hln;have hokr:=HO1.out (Ls.row q1[k].1 (Ls.wQ9 a)) (List.mem_map.2 ⟨q1[k],List.getElem_mem hlt,rfl⟩);refine(aQd wc w.heap.size (by have:=grx.grown.size;omega) (GG G w.heap.size wc u16) u16 qs grx.lw (by omega) hok _ yr hpr hokr.1 hokr.2).mono ?_;rintro e w3 hpost;obtain⟨v3,qs3,rfl,hm3,gr3⟩:=grx.put hpost;clear hpost;have Hm3:Hid (qs3.map (·.1)=Ls.put (qs.map (·.1)) (Ls.row q1[k].1 (Ls.wQ9 a))):=hm3;clear hm3;go_wp2_with fail;go_roundw
    case rel=>exact⟨k+1,qs3,by omega,by go_num,gr3,aQg Hqs.out (by simpa using hlt) (by simpa using Hm3.out)⟩
    case measure=>simp[intOf];omega
  ·go_wp2_with fail
   go_ret;have hk1:k=q1.length:=by omega
   have hq:=Hqs.out;rw[List.take_of_length_le (by simp;omega)]at hq;refine⟨_,qs,rfl,?_,gr.lw,?_⟩
   ·rw[Ls.behind_star,hq,<-Hq1.out,List.map_map];rfl
   ·exact(Below.join (A4 w _) hb1).grown gr.grown (by omega) (by simp[Value.ownBlock])
theorem behind_rowB (a b:Ls.Pat)(wa:Ls.wf a)(wb:Ls.wf b)(ha:O2 a)(hb:O2 b):O2 (Ls.yQn a b):=by
 intro hs hn hm c sl w G hG hp;rw[Ls.aXn]at hs;rw[Ls.yQ4]at hn;rw[Ls.aXm]at hm;obtain⟨g,y,z,hg,rfl,hl,h1,h2⟩:=hp;have hgl:=hl.lt;obtain⟨c0,c1,c2,c3,c4,c5⟩:=hl.six;clear hg;show Calls _ _ #[.agg #[.int .i64 2,.string ⟨#[]⟩,.slice (some ⟨g,0,none⟩) 2 2],_] w _;go_enter Tryz.func67,Tryz.ntmps67;go_wp2_with fail;refine(ha (by omega) (by omega) (by omega) c y _ G (Old.alloc hG _) (h1.below (A4 _ _) hG fun _ h=>h)).mono ?_;rintro e w1 ⟨v1,q1,rfl,hq1,lw1,hb1⟩;have Hq1:Hid (q1.map (·.1)=Ls.behind a c):=hq1;clear hq1;go_wp2_with fail;have hz1:=hb1.size;simp at hz1;have b2:w1.cell? ⟨w.heap.size,2,none⟩=some (.slice (some ⟨g,0,none⟩) 2 2):=(hb1.cell (p:=⟨w.heap.size,2,none⟩) (by simp)).trans ((C1 w (B7 (Ls.yQn a b) (.slice (some ⟨g,0,none⟩) 2 2))).cell 2);have dd:=aQq (A4 w _) hb1 hgl;obtain⟨ao,cap,rfl,hao⟩:=lw1.shape;have HO1:Hid (∀x,x∈q1.map (fun q=>Ls.row q.1 b)->Ok x):=fun x hx=>by
  obtain⟨q,hq,rfl⟩:=List.mem_map.1 hx;have h3:q.1∈q1.map (·.1):=List.mem_map.2 ⟨q,hq,rfl⟩;rw[Hq1.out]at h3;have h4:=Ls.xQi a wa c _ h3;have h5:=Ls.aXc q.1 b;exact⟨Ls.zQe h4.1 wb,by have:=h4.2;unfold Ls.ks at *;omega⟩
 have hlen1:q1.length<=Ls.nd a:=by have:=Ls.xQu a wa c;rw[<-Hq1.out]at this;simpa using this
 go_loopw [9,11] (fun l i wr=>∃(k:Nat) (qs:List (Ls.Pat × Value)),k<=q1.length/\i=.int .i64 k/\Grows G w.heap.size w1 w.heap.size (.slice none 0 0) wr l qs/\qs.map (·.1)=Ls.wQ3 [] ((q1.map (fun q=>Ls.row q.1 b)).take k)) (fun _ i _=>q1.length-(intOf i).toNat)
 case atStart=>exact⟨0,[],Nat.zero_le _,rfl,Grows.start (LW.nil _ _ _ _),by simp[Ls.wQ3]⟩
 case round=>
  obtain⟨k,qs,hk,rfl,gr,hqs⟩:=hrel;have Hqs:Hid (qs.map (·.1)=Ls.wQ3 [] ((q1.map (fun q=>Ls.row q.1 b)).take k)):=hqs;clear hqs
  by_cases hlt:k<q1.length
  ·obtain⟨g2,rfl⟩:=hao (by omega)
   obtain⟨e0,e1,e2⟩:=Q6 (gr.other lw1.own (.inr (by simp[Value.ownBlock]))) rfl k hlt;have hzr:=gr.grown.size;have hrow:∀m,u9.ownBlock=some m->m<wr.heap.size:=fun m e=>(gr.lw.own.lt m e).2;have hbr:Below w1.heap.size w1 wr:=(Below.refl _ _).grown gr.grown (Nat.le_refl _) (by simp[Value.ownBlock]);have f2:=(hbr.cell (p:=⟨w.heap.size,2,none⟩) (by show w.heap.size<_;omega)).trans b2;have hgr:∀o,wr.cell? ⟨g,o,none⟩=w.cell? ⟨g,o,none⟩:=fun o=>(hbr.cell (p:=⟨g,o,none⟩) (by show g<_;omega)).trans (dd o);have hg0:g<wr.heap.size:=by omega
   have f3:=(hgr 3).trans c3;have f4:=(hgr 4).trans c4;have f5:=(hgr 5).trans c5;clear hgr;have hg2:g2<wr.heap.size:=World.block_lt_of_cell? _ _ e0;have HX:Hid (∀W,Below wr.heap.size wr W->PV W (GG G w.heap.size wr u9) q1[k].1 q1[k].2):=fun W hW=>
    (gr.fits (H:=GG G (w.heap.size+1) w1 (.slice (some ⟨g2,0,none⟩) q1.length cap)) (fun j hj=>⟨hj.1.imp id (by omega),hj.2.1,by simp[Value.ownBlock]⟩) (by have:=lw1.each _ (List.getElem_mem hlt);simpa using this)).below hW (fun j hj=>hj.2.1) (fun _ h=>h)
   have HS:Hid (∀W,Below wr.heap.size wr W->PV W (GG G w.heap.size wr u9) b z):=fun W hW=>
    (gr.fits (H:=G) (fun j hj=>⟨.inl hj,by have:=hG j hj;omega,by simp[Value.ownBlock]⟩) ((h2.below (A4 w _) hG fun _ h=>h).below hb1 (Old.alloc hG _) fun _ h=>h)).below hW (fun j hj=>hj.2.1) (fun _ h=>h)
   have HO:Hid (∀W,Below wr.heap.size wr W->Old W (GG G w.heap.size wr u9)):=fun W hW j hj=>Nat.lt_of_lt_of_le hj.2.1 hW.size;have HR:Hid (∀W,Below wr.heap.size wr W->Calls Tryz.prog 77 #[.agg #[.int .i64 q1[k].1.kind,.string ⟨q1[k].1.signs.toArray⟩,q1[k].2],.agg #[.int .i64 b.kind,.string ⟨b.signs.toArray⟩,z]] W fun e w'=>∃y1 y2 y3,e=.returned (.agg #[.int .i64 (Ls.row q1[k].1 b).kind,.string ⟨(Ls.row q1[k].1 b).signs.toArray⟩,.slice y1 y2 y3])/\PV w' (E1 (GG G w.heap.size wr u9) W w') (Ls.row q1[k].1 b) (.slice y1 y2 y3)/\Below W.heap.size W w'):=by
    intro W hW;refine(R8 q1[k].1 b q1[k].2 z W _ (HO.out W hW) (HX.out W hW) (HS.out W hW)).mono ?_;rintro e w' ⟨x,rfl,hx,hb⟩;obtain⟨y1,y2,y3,rfl⟩:=PV.slice _ _ hx;exact⟨y1,y2,y3,rfl,hx,hb⟩
   have hw0:w.heap.size<wr.heap.size:=by omega
   have HSS:Hid (∀W:World,Below wr.heap.size wr W->W.cell? ⟨g2,k*3,none⟩=some (.int .i64 q1[k].1.kind)/\W.cell? ⟨g2,k*3+1,none⟩=some (.string ⟨q1[k].1.signs.toArray⟩)/\W.cell? ⟨g2,k*3+2,none⟩=some q1[k].2/\W.cell? ⟨w.heap.size,2,none⟩=some (.slice (some ⟨g,0,none⟩) 2 2)/\W.cell? ⟨g,3,none⟩=some (.int .i64 b.kind)/\W.cell? ⟨g,4,none⟩=some (.string ⟨b.signs.toArray⟩)/\W.cell? ⟨g,5,none⟩=some z):=fun W hW=>
    ⟨(hW.cell (p:=⟨g2,_,none⟩) hg2).trans e0,(hW.cell (p:=⟨g2,_,none⟩) hg2).trans e1,(hW.cell (p:=⟨g2,_,none⟩) hg2).trans e2,(hW.cell (p:=⟨w.heap.size,_,none⟩) hw0).trans f2,(hW.cell (p:=⟨g,_,none⟩) hg0).trans f3,(hW.cell (p:=⟨g,_,none⟩) hg0).trans f4,(hW.cell (p:=⟨g,_,none⟩) hg0).trans f5⟩
   go_upto_region 20 with fail;go_cut [12] (fun s wx=>bQ9 G w.heap.size wr u9 (Ls.row q1[k].1 b) s wx)
   case first=>
    go_region_held (fun w'=>w'.cell? ⟨g2,k*3,none⟩=some (.int .i64 q1[k].1.kind)/\w'.cell? ⟨g2,k*3+1,none⟩=some (.string ⟨q1[k].1.signs.toArray⟩)/\w'.cell? ⟨g2,k*3+2,none⟩=some q1[k].2/\w'.cell? ⟨w.heap.size,2,none⟩=some (.slice (some ⟨g,0,none⟩) 2 2)/\w'.cell? ⟨g,3,none⟩=some (.int .i64 b.kind)/\w'.cell? ⟨g,4,none⟩=some (.string ⟨b.signs.toArray⟩)/\w'.cell? ⟨g,5,none⟩=some z) (first|assumption|exact HSS.out _ (((hbb.setCell (Nat.le_refl _) _).setCell (Nat.le_refl _) _).setCell (Nat.le_refl _) _)|exact HSS.out _ (Below.alloc hbb (by have:=hbb.size;omega) _)|go_keep) ((go_at_call 77;refine(HR.out _ ?_).mono ?_;(first|exact(Below.refl _ _).drew|exact((Below.refl _ _).alloc (Nat.le_refl _) _).drew);rintro e w3 ⟨y1,y2,y3,rfl,hpv,hb3⟩;obtain⟨d1,d2⟩:=K4 hb3;have hz3:=hb3.size;have hbb:Below wr.heap.size wr w3:=(by first|exact Below.join (Below.refl _ _).drew hb3|exact Below.join (A4 _ _).drew hb3);have hs3:=HSS.out w3 hbb))
    all_goals
     go_wp2_with fail;go_meet
     case rel=>first|exact fQj (Below.refl _ _).drew hb3 hpv hrow (by omega)|exact fQw hb3 hpv hrow (by omega)
   case rest=>
    obtain⟨nb,yr,rfl,hlb,hpr,hbx⟩:=hcut;obtain⟨r0,r1,r2⟩:=hlb.three;have grx:=gr.below hbx;clear gr HX HS HR HSS HO e0 e1 e2 f2 f3 f4 f5 b2 dd c0 c1 c2 c3 c4 c5;go_wp2_with fail;obtain⟨hok,hln⟩:=Y8 Hqs.out (by simp) HO1.out;simp only[List.length_map,List.length_nil]at hln;have hokr:=HO1.out (Ls.row q1[k].1 b) (List.mem_map.2 ⟨q1[k],List.getElem_mem hlt,rfl⟩);refine(aQd wc w.heap.size (by have:=grx.grown.size;omega) (GG G w.heap.size wc u9) u9 qs grx.lw (by omega) hok _ yr hpr hokr.1 hokr.2).mono ?_;rintro e w3 hpost;obtain⟨v3,qs3,rfl,hm3,gr3⟩:=grx.put hpost;clear hpost;have Hm3:Hid (qs3.map (·.1)=Ls.put (qs.map (·.1)) (Ls.row q1[k].1 b)):=hm3;clear hm3;go_wp2_with fail;go_roundw
    case rel=>exact⟨k+1,qs3,by omega,by go_num,gr3,aQg Hqs.out (by simpa using hlt) (by simpa using Hm3.out)⟩
    case measure=>simp[intOf];omega
  ·have hk1:k=q1.length:=by omega
   have HQ:Hid (qs.map (·.1)=Ls.wQ3 [] ((Ls.behind a c).map (fun x=>Ls.row x b))):=by
    have hq:=Hqs.out;rw[List.take_of_length_le (by simp;omega)]at hq;show _=_;rw[hq,<-Hq1.out,List.map_map];rfl
   have hbr:Below w1.heap.size w1 wr:=(Below.refl _ _).grown gr.grown (Nat.le_refl _) (by simp[Value.ownBlock]);have hzr:=hbr.size;have hb01:=Below.join (A4 w (.cells #[.int .i64 2,.string ⟨#[]⟩,.slice (some ⟨g,0,none⟩) 2 2] 27)) hb1;have hb0r:=Below.join hb01 hbr;have f2:=(hbr.cell (p:=⟨w.heap.size,2,none⟩) (by show w.heap.size<_;omega)).trans b2;have hgr:∀o,wr.cell? ⟨g,o,none⟩=w.cell? ⟨g,o,none⟩:=fun o=>hb0r.cell (p:=⟨g,o,none⟩) hgl;have f0:=(hgr 0).trans c0;have f1:=(hgr 1).trans c1;have fy:=(hgr 2).trans c2;have f3:=(hgr 3).trans c3;have f4:=(hgr 4).trans c4;have f5:=(hgr 5).trans c5;clear hgr dd b2 c0 c1 c2 c3 c4 c5;go_wp2_with fail;refine(cQb a wa y _ G (hG.below hb0r) (h1.below hb0r hG fun _ h=>h)).mono ?_;rintro e w4 ⟨rfl,hb4⟩;have gr4:=gr.below hb4;have hz4:=hb4.size;obtain⟨d1,d2⟩:=K4 hb4;have hw0:w.heap.size<wr.heap.size:=by omega
   have hg0:g<wr.heap.size:=by omega
   have hb04:=Below.join hb0r hb4;cases hE:Ls.empty a with
   | false=>
    have HE:Hid (Ls.empty a=false):=hE;clear hE;go_wp2_with fail;go_ret;exact⟨_,qs,rfl,by rw[Ls.behind_rowB,HE.out,HQ.out];rfl,gr4.lw,hb04⟩
   | true=>
    have HE:Hid (Ls.empty a=true):=hE;clear hE;go_wp2_with fail;refine(hb (by omega) (by omega) (by omega) c z _ G (hG.below hb04) (h2.below hb04 hG fun _ h=>h)).mono ?_;rintro e w5 ⟨v2,q2,rfl,hq2,lw2,hb5⟩;have Hq2:Hid (q2.map (·.1)=Ls.behind b c):=hq2;clear hq2 d1 d2 f0 f1 fy f2 f3 f4 f5;have hz5:=hb5.size;have lw1':LW G w.heap.size w5 w.heap.size u9 qs:=gr4.lw.below hb5;obtain⟨ao2,cap2,rfl,hao2⟩:=lw2.shape;have HP1:Hid (∀x,x∈qs.map (·.1)->Ok x):=fun x hx=>by
     obtain⟨q,hq,rfl⟩:=List.mem_map.1 hx;exact(Y8 Hqs.out (by simp) HO1.out).1 q hq
    have HP2:Hid (∀x,x∈q2.map (·.1)->Ok x):=fun x hx=>by rw[Hq2.out]at hx;have:=Ls.xQi b wb c x hx;exact⟨this.1,by have:=this.2;unfold Ls.ks at *;omega⟩
    have hlenq:qs.length<=Ls.nd a:=by
     have:=(Y8 Hqs.out (by simp) HO1.out).2;simp at this;omega
    have hlen2:q2.length<=Ls.nd b:=by have:=Ls.xQu b wb c;rw[<-Hq2.out]at this;simpa using this
    have hrow:∀m,u9.ownBlock=some m->w.heap.size<=m/\m<w4.heap.size:=fun m e=>gr4.lw.own.lt m e;have HH:Hid (∀k,GG G w4.heap.size w5 (.slice ao2 q2.length cap2) k->(G k\/w.heap.size<=k)/\k<w5.heap.size/\some k≠u9.ownBlock):=by
     intro k hk;refine⟨hk.1.imp id (by omega),hk.2.1,fun e=>?_⟩;have h3:=hrow k e.symm;rcases hk.1 with h|h
     ·have:=hG k h;omega
     ·omega
    have HN:Hid ((Value.slice ao2 q2.length cap2).ownBlock=none\/(Value.slice ao2 q2.length cap2).ownBlock≠u9.ownBlock):=by
     cases hv:(Value.slice ao2 q2.length cap2).ownBlock with
     | none=>exact .inl rfl
     | some k=>
      refine .inr fun e=>?_;have h3:=hrow k e.symm;have h4:=lw2.own.lt k hv;omega
    clear hrow gr gr4 Hqs HO1;go_wp2_with fail;go_loopw [9,15] (fun l i wx=>∃(k:Nat) (qx:List (Ls.Pat × Value)),k<=q2.length/\i=.int .i64 k/\Grows G w.heap.size w5 w.heap.size u9 wx l qx/\qx.map (·.1)=Ls.wQ3 (qs.map (·.1)) ((q2.map (·.1)).take k)) (fun _ i _=>q2.length-(intOf i).toNat)
    case atStart=>exact⟨0,qs,Nat.zero_le _,rfl,Grows.start lw1',by simp[Ls.wQ3]⟩
    case round=>
     obtain⟨k2,qx,hk2,rfl,gx,hqx⟩:=hrel;have Hqx:Hid (qx.map (·.1)=Ls.wQ3 (qs.map (·.1)) ((q2.map (·.1)).take k2)):=hqx;clear hqx
     by_cases hlt2:k2<q2.length
     ·obtain⟨g2,rfl⟩:=hao2 (by omega)
      obtain⟨e0,e1,e2⟩:=Q6 (gx.other lw2.own HN.out) rfl k2 hlt2;go_wp2_with fail;obtain⟨hok,hln⟩:=Y8 Hqx.out HP1.out HP2.out;simp only[List.length_map]at hln;have hok2:=HP2.out q2[k2].1 (List.mem_map.2 ⟨q2[k2],List.getElem_mem hlt2,rfl⟩);refine(aQd wr w.heap.size (by have:=gx.grown.size;omega) (GG G w.heap.size wr u9) u9 qx gx.lw (by omega) hok q2[k2].1 q2[k2].2 (gx.fits HH.out (lw2.each _ (List.getElem_mem hlt2))) hok2.1 hok2.2).mono ?_;rintro e w6 hpost;obtain⟨v6,qs6,rfl,hm6,gr6⟩:=gx.put hpost;clear hpost;have Hm6:Hid (qs6.map (·.1)=Ls.put (qx.map (·.1)) q2[k2].1):=hm6;clear hm6;go_wp2_with fail;go_roundw
      case rel=>exact⟨k2+1,qs6,by omega,by go_num,gr6,aQg Hqx.out (by simpa using hlt2) (by simpa using Hm6.out)⟩
      case measure=>simp[intOf];omega
     ·go_wp2_with fail
      go_ret;have hq:=Hqx.out;rw[List.take_of_length_le (by simp;omega),HQ.out,Hq2.out]at hq;refine⟨_,qx,rfl,by rw[Ls.behind_rowB,HE.out,if_pos rfl,hq],gx.lw,?_⟩;exact(Below.join hb04 hb5).grown gx.grown (by omega) fun j e=>(lw1'.own.lt j e).1
theorem behind_any (p:Ls.Pat)(h:Ls.wf p):O2 p:=
 Ls.ind behind_none (fun s _=>behind_set s) (fun a b wa wb _ _=>behind_rowB a b wa wb) (fun a b wa wb=>nQi a b wa wb) (fun a wa=>behind_star a wa) p h
theorem Grows.back {G:Nat->Prop}{B0:Nat}{w2 wx w3 wy:World}{base:Nat}{v00 v0 v:Value}{q0 q:List (Ls.Pat × Value)}(h0:Grows G B0 w2 base v00 wx v0 q0)(hb:Below wx.heap.size wx w3)(h:Grows G B0 w3 base v0 wy v q):Grows G B0 w2 base v00 wy v q:=by
 have h1:=h0.below hb;refine⟨h.lw,?_,?_⟩
 ·refine⟨h.grown.os.trans h1.grown.os,h.grown.tape.trans h1.grown.tape,h.grown.output.trans h1.grown.output,Nat.le_trans h1.grown.size h.grown.size,fun k hk hne=>?_⟩
  obtain⟨e1,e2⟩:=h1.block hk hne;exact(h.grown.block k (Nat.lt_of_lt_of_le hk h1.grown.size) e2).trans e1
 ·rcases h.row with e|⟨m,e,hm⟩
  ·rw[e];exact h1.row
  ·exact .inr ⟨m,e,Nat.le_trans h1.grown.size hm⟩
theorem iQs {L:List Ls.Pat}(hL:Ls.Room L){x:Ls.Pat}(hx:x∈L):Ok x:=⟨(hL.ok x hx).1,(hL.ok x hx).2.1⟩
theorem rQn (s:ByteArray)(i:Nat)(h:i<s.size):s.data.toList.take (i+1)=s.data.toList.take i++[s[i]]:=hQ6 s i h
theorem fQk (p:Ls.Pat)(L:List Ls.Pat)(hL:Ls.Room L)(hpL:p∈L)(s:ByteArray)(hs:s.size<=maxLen)(y:Value)(w:World)(G:Nat->Prop)(hG:Old w G)(hp:PV w G p y) :
  Calls Tryz.prog 74 #[A7 p y,.string s] w fun e w'=>e=.returned (.bool (Ls.is p s.data.toList))/\Below w.heap.size w w':=by
 unfold maxLen at hs;have lw0:LW G w.heap.size ((w.alloc (.cells #[.int .i64 p.kind,.string ⟨p.signs.toArray⟩,y] 27)).alloc (.cells #[.int .i64 p.kind,.string ⟨p.signs.toArray⟩,y] 27)) w.heap.size (.slice (some ⟨w.heap.size+1,0,none⟩) 1 1) [(p,y)]:=
  LW.of (H:=G) ⟨fQi w _ p y,fun q hq=>by simp only[List.mem_singleton]at hq;subst hq;exact hp.below (C0 _ _ _) hG fun _ h=>h,fun k hk=>by simp[Value.ownBlock];have:=hG k hk;omega,(hG.alloc _).alloc _⟩ (fun _ h=>.inl h)
 go_enter Tryz.func74,Tryz.ntmps74;go_wp2_with fail;go_loopw [5,6] (fun l i wr=>∃(n:Nat) (qs:List (Ls.Pat × Value)),n<=s.size/\i=.int .i64 n/\LW G w.heap.size wr w.heap.size l qs/\qs.map (·.1)=Ls.after p (s.data.toList.take n)/\Below w.heap.size w wr) (fun _ i _=>s.size-(intOf i).toNat)
 case atStart=>exact⟨0,[(p,y)],Nat.zero_le _,rfl,lw0,by simp[Ls.after],C0 _ _ _⟩
 case round=>
  obtain⟨n,qs,hn,rfl,lw,hqs,hb0⟩:=hrel;have Hqs:Hid (qs.map (·.1)=Ls.after p (s.data.toList.take n)):=hqs;clear hqs lw0;obtain⟨wo,hwo⟩:∃wo,wo=wr:=⟨_,rfl⟩;subst hwo;have HA:Hid (Ls.KD (qs.map (·.1))/\∀x,x∈qs.map (·.1)->x∈L):=by show _/\_;rw[Hqs.out];exact Ls.eXh hL hpL _
  have hlen:qs.length<=500000000:=by have:=Ls.zQ9 HA.out.1 HA.out.2;have:=hL.small;simp at *;omega
  obtain⟨ao,cap,hv5,hao⟩:=lw.shape
  by_cases hlt:n<s.size
  ·have HT:Hid (s.data.toList.take (n+1)=s.data.toList.take n++[s[n]]):=rQn s n hlt
   subst hv5;go_wp2_with fail;go_loopw [7,8] (fun l i wx=>∃(k:Nat) (qn:List (Ls.Pat × Value)),k<=qs.length/\i=.int .i64 k/\Grows G w.heap.size wo w.heap.size (.slice none 0 0) wx l qn/\qn.map (·.1)=Ls.aXx ((qs.map (·.1)).take k) s[n]) (fun _ i _=>qs.length-(intOf i).toNat)
   case atStart=>exact⟨0,[],Nat.zero_le _,rfl,Grows.start (LW.nil _ _ _ _),by simp[Ls.aXx]⟩
   case round=>
    obtain⟨k,qn,hk,rfl,gr,hqn⟩:=hrel;have Hqn:Hid (qn.map (·.1)=Ls.aXx ((qs.map (·.1)).take k) s[n]):=hqn;clear hqn;obtain⟨wx,hwx⟩:∃wx,wx=wr:=⟨_,rfl⟩;subst hwx;obtain⟨v7,hv7⟩:∃v,v=u7:=⟨_,rfl⟩;subst hv7;have hbx:Below wo.heap.size wo wx:=(Below.refl _ _).grown gr.grown (Nat.le_refl _) (by simp[Value.ownBlock]);have hzx:=hbx.size
    by_cases hlk:k<qs.length
    ·obtain⟨g2,rfl⟩:=hao (by omega)
     obtain⟨e0,e1,e2⟩:=Q6 (gr.other lw.own (.inr (by simp[Value.ownBlock]))) rfl k hlk;have hg2:g2<wx.heap.size:=World.block_lt_of_cell? _ _ e0;have hmem:qs[k].1∈L:=HA.out.2 _ (List.mem_map.2 ⟨qs[k],List.getElem_mem hlk,rfl⟩);have hokk:=hL.ok _ hmem;have HC:Hid (∀W,Below wx.heap.size wx W->Calls Tryz.prog 67 #[.agg #[.int .i64 qs[k].1.kind,.string ⟨qs[k].1.signs.toArray⟩,qs[k].2],.int .u8 s[n].toNat] W (dQz qs[k].1 s[n] W (GG G w.heap.size wo (.slice (some ⟨g2,0,none⟩) qs.length cap)))):=fun W hW=>
      behind_any qs[k].1 hokk.1 hokk.2.1 hokk.2.2.1 hokk.2.2.2 s[n] qs[k].2 W _ (fun j hj=>by have:=hj.2.1;have:=hW.size;omega) (PV.mono (fun _ h=>h) (fun j hj=>((Below.join hbx hW).block j hj.2.1)) _ _ (lw.each _ (List.getElem_mem hlk)))
     go_wp2_with fail;go_region_held (fun w'=>w'.cell? ⟨g2,k*3,none⟩=some (.int .i64 qs[k].1.kind)/\w'.cell? ⟨g2,k*3+1,none⟩=some (.string ⟨qs[k].1.signs.toArray⟩)/\w'.cell? ⟨g2,k*3+2,none⟩=some qs[k].2) (first|assumption|go_keep) ((go_at_call 67;refine(HC.out _ ?_).mono ?_;exact(Below.refl _ _).drew;rintro e w3 ⟨v9,qm,rfl,hqm,lwm,hb3⟩;have hs3:w3.cell? ⟨g2,k*3,none⟩=some (.int .i64 qs[k].1.kind)/\w3.cell? ⟨g2,k*3+1,none⟩=some (.string ⟨qs[k].1.signs.toArray⟩)/\w3.cell? ⟨g2,k*3+2,none⟩=some qs[k].2:=⟨(hb3.cell (p:=⟨g2,_,none⟩) hg2).trans e0,(hb3.cell (p:=⟨g2,_,none⟩) hg2).trans e1,(hb3.cell (p:=⟨g2,_,none⟩) hg2).trans e2⟩))
     have hb3':Below wx.heap.size wx w3:=⟨hb3.os,hb3.tape,hb3.output,hb3.size,hb3.block⟩;have gr3:=gr.below hb3';have hz3:=hb3'.size;have lwm':LW (GG G w.heap.size wo (.slice (some ⟨g2,0,none⟩) qs.length cap)) wx.heap.size w3 wx.heap.size v9 qm:=lwm;have Hqm:Hid (qm.map (·.1)=Ls.behind qs[k].1 s[n]):=hqm;have HM:Hid (∀x,x∈qm.map (·.1)->x∈L):=fun x hx=>by rw[Hqm.out]at hx;exact hL.closed _ hmem _ _ hx
     have hlm:qm.length<=1000000000:=by have:=Ls.xQu qs[k].1 hokk.1 s[n];rw[<-Hqm.out]at this;simp at this;omega
     obtain⟨ao9,cap9,rfl,hao9⟩:=lwm'.shape;have hrow:∀m,v7.ownBlock=some m->wo.heap.size<=m/\m<wx.heap.size:=fun m e=>by
      have h1:=(gr.lw.own.lt m e).2;rcases gr.row with e2|⟨m2,e2,hm2⟩
      ·rw[e2]at e;simp[Value.ownBlock]at e
      ·rw[e]at e2;injection e2 with e2;omega
     have HH:Hid (∀j,GG (GG G w.heap.size wo (.slice (some ⟨g2,0,none⟩) qs.length cap)) wx.heap.size w3 (.slice ao9 qm.length cap9) j->(G j\/w.heap.size<=j)/\j<w3.heap.size/\some j≠v7.ownBlock):=by
      intro j hj;have hzo:=hb0.size;refine⟨?_,hj.2.1,fun e=>?_⟩
      ·rcases hj.1 with h|h
       ·exact h.1
       ·exact .inr (by omega)
      ·have h3:=hrow j e.symm
       rcases hj.1 with h|h
       ·have:=h.2.1;omega
       ·omega
     have HN:Hid ((Value.slice ao9 qm.length cap9).ownBlock=none\/(Value.slice ao9 qm.length cap9).ownBlock≠v7.ownBlock):=by
      cases hv:(Value.slice ao9 qm.length cap9).ownBlock with
      | none=>exact .inl rfl
      | some j=>
       refine .inr fun e=>?_;have h3:=hrow j e.symm;have h4:=lwm'.own.lt j hv;omega
     have HQN:Hid (∀x,x∈qn.map (·.1)->x∈L):=by
      show ∀x,_;rw[Hqn.out];exact Ls.bXb hL (fun x hx=>HA.out.2 x (List.mem_of_mem_take hx)) _
     have HKD:Hid (Ls.KD (qn.map (·.1))):=by show Ls.KD _;rw[Hqn.out];exact Ls.cXj _ _
     clear hrow lwm hqm HC e0 e1 e2 hs3;go_wp2_with fail;go_loopw [7,10] (fun l i wy=>∃(j:Nat) (qx:List (Ls.Pat × Value)),j<=qm.length/\i=.int .i64 j/\Grows G w.heap.size w3 w.heap.size v7 wy l qx/\qx.map (·.1)=Ls.wQ3 (qn.map (·.1)) ((qm.map (·.1)).take j)) (fun _ i _=>qm.length-(intOf i).toNat)
     case atStart=>exact⟨0,qn,Nat.zero_le _,rfl,Grows.start gr3.lw,by simp[Ls.wQ3]⟩
     case round=>
      obtain⟨j,qx,hj,rfl,gx,hqx⟩:=hrel;have Hqx:Hid (qx.map (·.1)=Ls.wQ3 (qn.map (·.1)) ((qm.map (·.1)).take j)):=hqx;clear hqx
      by_cases hlj:j<qm.length
      ·obtain⟨g9,rfl⟩:=hao9 (by omega)
       obtain⟨e0,e1,e2⟩:=Q6 (gx.other lwm'.own HN.out) rfl j hlj;have HXL:Hid (∀x,x∈qx.map (·.1)->x∈L):=fun x hx=>by
        rw[Hqx.out]at hx;rcases Ls.xQd hx with h|h
        ·exact HQN.out x h
        ·exact HM.out x (List.mem_of_mem_take h)
       have hlx:qx.length<=500000000:=by
        have hkd:Ls.KD (qx.map (·.1)):=by rw[Hqx.out];exact Ls.yQj HKD.out _
        have h1:=Ls.zQ9 hkd HXL.out;have h2:=hL.small;simp at h1;omega
       have hokj:=iQs hL (HM.out qm[j].1 (List.mem_map.2 ⟨qm[j],List.getElem_mem hlj,rfl⟩));go_wp2_with fail;refine(aQd wr w.heap.size (by have:=gx.grown.size;have:=hb0.size;omega) (GG G w.heap.size wr u7) u7 qx gx.lw (by omega) (fun q hq=>iQs hL (HXL.out q.1 (List.mem_map.2 ⟨q,hq,rfl⟩))) qm[j].1 qm[j].2 (gx.fits HH.out (lwm'.each _ (List.getElem_mem hlj))) hokj.1 hokj.2).mono ?_;rintro e w6 hpost;obtain⟨v6,qs6,rfl,hm6,gr6⟩:=gx.put hpost;clear hpost;have Hm6:Hid (qs6.map (·.1)=Ls.put (qx.map (·.1)) qm[j].1):=hm6;clear hm6;go_wp2_with fail;go_roundw
       case rel=>exact⟨j+1,qs6,by omega,by go_num,gr6,aQg Hqx.out (by simpa using hlj) (by simpa using Hm6.out)⟩
       case measure=>simp[intOf];omega
      ·go_wp2_with fail
       go_roundw
       case rel=>
        refine⟨k+1,qx,by omega,by go_num,gr.back hb3' gx,?_⟩;rw[Hqx.out,List.take_of_length_le (by simp;omega),Hqm.out,List.take_succ_eq_append_getElem (by simpa using hlk),Ls.cXp,<-Hqn.out];simp
       case measure=>simp[intOf];omega
    ·go_wp2_with fail
     go_roundw
     case rel=>
      refine⟨n+1,qn,by omega,by go_num,gr.lw,?_,Below.join hb0 hbx⟩;rw[Hqn.out,List.take_of_length_le (by simp;omega),Hqs.out,HT.out,Ls.cX7];rfl
     case measure=>simp[intOf];omega
  ·subst hv5
   have hn1:n=s.size:=by omega
   have HF:Hid (qs.map (·.1)=Ls.after p s.data.toList):=by
    have:=Hqs.out;rw[List.take_of_length_le (by simp;omega)]at this;exact this
   go_wp2_with fail;go_loopw [11] (fun i wx=>∃k:Nat,k<=qs.length/\i=.int .i64 k/\Below wo.heap.size wo wx/\∀q,q∈qs.take k->Ls.empty q.1=false) (fun i _=>qs.length-(intOf i).toNat)
   case atStart=>exact⟨0,Nat.zero_le _,rfl,Below.refl _ _,by simp⟩
   case round=>
    obtain⟨k,hk,rfl,hbx,hno⟩:=hrel;have Hno:Hid (∀q,q∈qs.take k->Ls.empty q.1=false):=hno;clear hno
    by_cases hlk:k<qs.length
    ·obtain⟨g2,rfl⟩:=hao (by omega)
     have lwx:=lw.below hbx;obtain⟨e0,e1,e2⟩:=Q6 lwx.own rfl k hlk;have hmem:qs[k].1∈L:=HA.out.2 _ (List.mem_map.2 ⟨qs[k],List.getElem_mem hlk,rfl⟩);go_wp2_with fail;refine(cQb qs[k].1 (hL.ok _ hmem).1 qs[k].2 _ _ lwx.old (lwx.each _ (List.getElem_mem hlk))).mono ?_;rintro e w6 ⟨rfl,hb6⟩;cases hE:Ls.empty qs[k].1 with
     | true=>
      have HE:Hid (Ls.empty qs[k].1=true):=hE;clear hE;go_wp2_with fail;go_ret;refine⟨L7 ?_,Below.join (Below.join hb0 hbx) hb6⟩;symm
      rw[Ls.eX3,<-HF.out,List.any_eq_true];exact⟨qs[k].1,List.mem_map.2 ⟨qs[k],List.getElem_mem hlk,rfl⟩,HE.out⟩
     | false=>
      have HE:Hid (Ls.empty qs[k].1=false):=hE;clear hE;go_wp2_with fail;go_roundw
      case rel=>
       refine⟨k+1,by omega,by go_num,Below.join hbx hb6,fun q hq=>?_⟩;rw[List.take_succ_eq_append_getElem hlk]at hq;rcases List.mem_append.1 hq with hq|hq
       ·exact Hno.out q hq
       ·simp only[List.mem_singleton]at hq
        rw[hq];exact HE.out
      case measure=>simp[intOf];omega
    ·go_wp2_with fail
     go_ret;refine⟨L7 ?_,Below.join hb0 hbx⟩;symm
     rw[Ls.eX3,<-HF.out,Bool.eq_false_iff];intro h;rw[List.any_eq_true]at h;obtain⟨x,hx,hxe⟩:=h;obtain⟨q,hq,rfl⟩:=List.mem_map.1 hx;have:=Hno.out q (by rw[List.take_of_length_le (by omega)];exact hq);rw[this]at hxe;cases hxe
end Go.Proofs.YtcggfnlejalppaaGreatDoor
