import Derived.Test.YtfklinjaajafgaaGreatDoorK03
import Derived.Deep.RegionHeld
import Derived.Deep.DeepCutAuto
set_option maxRecDepth 100000
set_option maxHeartbeats 4000000
namespace Go.Proofs.YtfklinjaajafgaaGreatDoor
open Ls hiding none
open Go.RowKit
variable {B0 base g k:Nat}{G:Nat->Prop}{W w w3 wr wx:World}{a b c u v yr:Value}{l m:List Pat}{qs:List (Pat × Value)}(p:Pat)(i:Nat)(x:Value)(s:By)(y z:Value)
def fQ2 (p:Pat)(c:UInt8)(w:World)(G:Nat->Prop):Ending->World->Prop:=fun e w'=>
 ∃v qs,e=.returned v/\qs.map (·.1)=Ls.behind p c/\LW G w.heap.size w' w.heap.size v qs/\Bw w w'
def U4 (p:Pat):Prop:=Ls.ks p<=4611686018427387904->nd p<=1000000000->Ls.md p<=4611686018427387904->∀(c:UInt8) (y:Value) (w:World) (G:Nat->Prop),Old w G->PV w G p y->
  Ca 75 #[B4 p y,.int .u8 c.toNat] w (fQ2 p c w G)
theorem behind_none:U4 Ls.none:=by
 intro _ _ _ c y w G d a;have b:=a;subst b;show Calls _ _ #[.agg #[Iv 0,.string ⟨#[]⟩,.slice none 0 0],_] w _;go_enter Tryz.func75,Tryz.ntmps75;go_wp2;go_ret;exact⟨_,[],rfl,(Ls.behind_none c).symm,LW.nil _ _ _ _,A5 _ _⟩
theorem lQ3 (w:World)(o:Obj):((w.alloc o).alloc (.cells #[Iv p.kind,Sv p.signs,y] 27)).ownsRow w.heap.size 27 3 (.slice (some ⟨w.heap.size+1,0,none⟩) 1 1) 1 (N9 [(p,y)]):=by
 have h:=World.ownsRow_lit (e:=27) (size:=3) (w.alloc o) (N9 [(p,y)]).toArray 1 (A5 w o).size (by unfold maxLen;omega) rfl;rw[show (w.alloc o).heap.size=w.heap.size+1 by simp]at h;exact h
theorem behind_set (s:Lu):U4 (Ls.set s):=by
 intro hs _ _ c y w G j d;rw[jXo]at hs;have g:=d;subst g;show Calls _ _ #[.agg #[Iv 1,Sv s,.slice none 0 0],_] w _;cases b:Ls.has s c with
 | false=>
  have a:Hid _:=b;go_enter Tryz.func75,Tryz.ntmps75;go_wp2_with fail;refine(gQ6 c ⟨s.toArray⟩ _ (by unfold maxLen;simp[ByteArray.size];omega)).mono ?_;rintro e i ⟨rfl,rfl⟩;go_wp2;go_ret;exact⟨_,[],rfl,by rw[Ls.behind_set,a.out];rfl,LW.nil _ _ _ _,A5 _ _⟩
 | true=>
  have a:Hid _:=b;go_enter Tryz.func75,Tryz.ntmps75;go_wp2_with fail;refine(gQ6 c ⟨s.toArray⟩ _ (by unfold maxLen;simp[ByteArray.size];omega)).mono ?_;rintro e i ⟨rfl,rfl⟩;go_wp2;go_ret;refine⟨.slice (some ⟨w.heap.size+1,0,none⟩) 1 1,[(Ls.none,.slice none 0 0)],rfl,by rw[Ls.behind_set,a.out];rfl,LW.of (H:=fun _=>False) ⟨?_,?_,fun _ h=>h.elim,fun _ h=>h.elim⟩ (fun _ h=>h.elim),C6 _ _ _⟩
  ·exact lQ3 Ls.none (.slice none 0 0) w _
  ·intro q f;simp only[List.mem_singleton]at f;subst f;rfl
theorem Y4 {b n:Nat}(h:w.ownsRow base 27 3 (Sl g n b) n (N9 qs))(c:n=qs.length)(a:i<qs.length) :
  w.cell? ⟨g,i*3,none⟩=some (Iv qs[i].1.kind)/\w.cell? ⟨g,i*3+1,none⟩=some (.string ⟨qs[i].1.signs.toArray⟩)/\w.cell? ⟨g,i*3+2,none⟩=some qs[i].2:=by
 subst c;refine⟨?_,?_,?_⟩
 ·rw[h.cellAt (i*3) (by omega)];have:=bQ8 0 qs i (by omega) a;simpa using this
 ·rw[h.cellAt (i*3+1) (by omega),bQ8 1 qs i (by omega) a];rfl
 ·rw[h.cellAt (i*3+2) (by omega),bQ8 2 qs i (by omega) a];rfl
theorem LW.weak {a:Nat}{b:Nat}(h:LW G a w b v qs)(e:B0<=a)(f:base<=b):LW G B0 w base v qs:=by
 refine LW.of (H:=GG G a w v) ⟨?_,h.each,h.apart,h.old⟩ fun k j=>j.1.imp id fun h=>Lq e h;refine⟨h.own.1,h.own.2.imp id ?_⟩;rintro ⟨g,c,d,l,i,r⟩;exact⟨g,c,d,l,Lq f i,r⟩
theorem LW.shape (h:LW G B0 w base v qs):∃a b,v=.slice a qs.length b/\(0<qs.length->∃g,a=some ⟨g,0,none⟩):=by
 rcases h.own.2 with⟨rfl,c⟩|⟨g,b,d,rfl,_⟩
 ·exact⟨_,_,by rw[c],by omega⟩
 ·exact⟨_,_,rfl,fun _=>⟨g,rfl⟩⟩
abbrev Ok (x:Pat):Prop:=wf x/\(Ls.key x).length<=4611686018427387904
theorem cQg (h:qs.map (·.1)=fXh l (m.take k))(c:∀x,x∈l->Ok x)(d:∀x,x∈m->Ok x):(∀q,q∈qs->Ok q.1)/\qs.length<=l.length+m.length:=by
 constructor
 ·intro q e
  have a:q.1∈qs.map (·.1):=List.mem_map.2 ⟨q,e,rfl⟩;rw[h]at a;rcases fXu a with h|h
  ·exact c _ h
  ·exact d _ (List.mem_of_mem_take h)
 ·have b:=congrArg List.length h
  have f:=gXs l (m.take k);have g:(m.take k).length<=m.length:=List.length_take_le' _ _;simp only[List.length_map]at b;omega
theorem dQe {a:List (Pat × Value)}(h:qs.map (·.1)=fXh l (m.take k))(c:k<m.length)(b:a.map (·.1)=Ls.put (qs.map (·.1)) m[k]):a.map (·.1)=fXh l (m.take (k+1)):=by
 rw[b,h,List.take_succ_eq_append_getElem c,lXa]
theorem rQr (a b:Pat)(S:wf a)(T:wf b)(ha:U4 a)(hb:U4 b):U4 (Ls.any a b):=by
 intro hs hn hm c sl w G n hp;rw[jXc]at hs;rw[iXw]at hn;rw[lXg]at hm;obtain⟨g,a5,a6,hg,rfl,I,h1,h2⟩:=hp;have a7:=I.lt;obtain⟨c0,c1,c2,c3,c4,c5⟩:=I.six;show Calls _ _ #[.agg #[Iv 3,.string ⟨#[]⟩,Sl g 2 2],_] w _;go_enter Tryz.func75,Tryz.ntmps75;go_wp2_with fail;refine(ha (by omega) (by omega) (by omega) c a5 _ G (Old.alloc n _) (h1.below (A5 _ _) n fun _ h=>h)).mono ?_;rintro e w1 ⟨v,j,rfl,N,E,o⟩;obtain⟨Y,Z⟩:=O9 o;have z:Hid _:=N;go_wp2_with fail;refine(hb (by omega) (by omega) (by omega) c a6 _ G (Old.below (Old.alloc n _) o) ((h2.below (A5 _ _) n fun _ h=>h).below o (Old.alloc n _) fun _ h=>h)).mono ?_;rintro e y ⟨v2,d,rfl,O,u,C⟩;have A:Hid _:=O;go_wp2;have a4:=o.size;have b1:=C.size;simp at a4;have Q:LW G w.heap.size y w.heap.size v j:=(E.below C).weak (by simp) (by simp);obtain⟨q,r,rfl,a1⟩:=u.shape;have W:Hid (∀x,x∈j.map (·.1)->Ok x):=fun x p=>by rw[z.out]at p;have:=fX2 a c S x p;exact⟨this.1,by have:=this.2;unfold Ls.ks at this;omega⟩
 have F:Hid (∀x,x∈d.map (·.1)->Ok x):=fun x p=>by rw[A.out]at p;have:=fX2 b c T x p;exact⟨this.1,by have:=this.2;unfold Ls.ks at this;omega⟩
 have a9:j.length<=nd a:=by have:=gXd a S c;rw[<-z.out]at this;simpa using this
 have b0:d.length<=nd b:=by have:=gXd b T c;rw[<-A.out]at this;simpa using this
 have U:Hid (∀k,GG G w1.heap.size y (.slice q d.length r) k->(G k\/w.heap.size<=k)/\k<y.heap.size/\some k≠v.ownBlock):=by
  intro k s;refine⟨s.1.imp id (by omega),s.2.1,fun e=>?_⟩;have H:=E.own.lt k e.symm;simp at H;rcases s.1 with h|h
  ·have:=n k h;omega
  ·omega
 have V:Hid ((Value.slice q d.length r).ownBlock=none\/(Value.slice q d.length r).ownBlock≠v.ownBlock):=by
  cases hv:(Value.slice q d.length r).ownBlock with
  | none=>exact .inl rfl
  | some k=>
   refine .inr fun e=>?_;have H:=E.own.lt k e.symm;have h4:=u.own.lt k hv;omega
 go_loopw [6,8] (fun l i wr=>∃(k:Nat) (m:List (Pat × Value)),k<=d.length/\i=Iv k/\Grows G w.heap.size y w.heap.size v wr l m/\m.map (·.1)=fXh (j.map (·.1)) ((d.map (·.1)).take k)) (fun _ i _=>d.length-(intOf i).toNat)
 case atStart=>exact⟨0,j,Nat.zero_le _,rfl,Grows.start Q,by simp[fXh]⟩
 case round=>
  rename_i l wr
  obtain⟨k,m,s,rfl,f,P⟩:=hrel;have B:Hid _:=P
  by_cases t:k<d.length
  ·obtain⟨g2,rfl⟩:=a1 (by omega)
   obtain⟨e0,e1,e2⟩:=Y4 k (f.other u.own V.out) rfl t;go_wp2_with fail;obtain⟨a3,a2⟩:=cQg B.out W.out F.out;simp only[List.length_map]at a2;have K:=F.out d[k].1 (List.mem_map.2 ⟨d[k],List.getElem_mem t,rfl⟩);refine(dQd wr w.heap.size (by have:=f.grown.size;omega) (GG G w.heap.size wr u6) u6 m f.lw (by omega) a3 d[k].1 d[k].2 (f.fits U.out (u.each _ (List.getElem_mem t))) K.1 K.2).mono ?_;rintro e w3 L;obtain⟨v3,R,rfl,J,a0⟩:=f.put L;clear L;have X:Hid (R.map (·.1)=Ls.put (m.map (·.1)) d[k].1):=J;clear J;go_wp2_with fail;go_roundw
   case rel=>exact⟨k+1,R,by omega,by go_num,a0,dQe B.out (by simpa using t) (by simpa using X.out)⟩
   case measure=>simp[intOf];omega
  ·go_wp2_with fail
   go_ret;have a8:k=d.length:=by omega
   have M:=B.out;rw[List.take_of_length_le (by simp;omega),z.out,A.out]at M;refine⟨_,m,rfl,by rw[Ls.behind_any,M],f.lw,?_⟩;exact(Bj (Bj (A5 w _) o) C).grown f.grown (by omega) fun k e=>(Q.own.lt k e).1
def dQx (G:Nat->Prop)(B0:Nat)(wr:World)(u:Value)(p:Pat)(s:Value)(wx:World):Prop:=
 ∃b yr,s=.pointer (some ⟨b,0,none⟩)/\Lies wx b (C2 p yr)/\PV wx (GG G B0 wx u) p yr/\Bw wr wx
theorem kQk (d:Bw wr W)(f:Bw W w3)(h:∀m,u.ownBlock=some m->m<wr.heap.size)(l:B0<=wr.heap.size)(n:w3.heap.size<=wx.heap.size) :
  ∀k,F5 (GG G B0 wr u) W w3 k->GG G B0 wx u k:=by
 intro k g;have i:=d.size;have j:=f.size;rcases g with⟨a,b,c⟩|⟨a,b⟩
 ·exact⟨a,by omega,c⟩
 ·refine⟨.inr (by omega),by omega,fun e=>?_⟩
  have:=h k e.symm;omega
theorem lQt {p:Pat}(b:Bw wr W)(c:Bw W w3)(e:PV w3 (F5 (GG G B0 wr u) W w3) p yr)(f:∀m,u.ownBlock=some m->m<wr.heap.size)(d:B0<=wr.heap.size) :
  dQx G B0 wr u p (Pt w3.heap.size) (w3.alloc (.cells #[Iv p.kind,Sv p.signs,yr] 27)):=by
 have g:=b.size;have h:=c.size;refine⟨_,yr,rfl,C7 w3 (C2 p yr),PV.mono (kQk b c f d (by simp)) (fun k a=>?_) _ _ e,Bj (Bj b c) (A5 _ _)⟩;have:k<w3.heap.size:=by
  rcases a with a|a
  ·have:=a.2.1;omega
  ·exact a.2
 exact Below.heap_alloc _ _ _ this
theorem xQc (h:Lies w g [a,b,c]):Lies (((w.setCell ⟨g,0,none⟩ x).setCell ⟨g,1,none⟩ y).setCell ⟨g,2,none⟩ z) g [x,y,z]:=by
 unfold Lies at h ⊢;simp[World.setCell,Array.getElem?_modify,h]
theorem dQl (w:World)(g:Nat)(k:Nat)(a:k≠g):(((w.setCell ⟨g,0,none⟩ x).setCell ⟨g,1,none⟩ y).setCell ⟨g,2,none⟩ z).heap[k]?=w.heap[k]?:=by
 rw[Below.heap_setCell _ _ _ _ a,Below.heap_setCell _ _ _ _ a,Below.heap_setCell _ _ _ _ a]
theorem lQu {p:Pat}(e:Below (wr.alloc (.cells #[a,b,c] 27)).heap.size (wr.alloc (.cells #[a,b,c] 27)).drew w3)(l:PV w3 (F5 (GG G B0 wr u) (wr.alloc (.cells #[a,b,c] 27)).drew w3) p yr)(n:∀m,u.ownBlock=some m->m<wr.heap.size)(h:B0<=wr.heap.size) :
  dQx G B0 wr u p (Pt wr.heap.size) (((w3.setCell ⟨wr.heap.size,0,none⟩ (Iv p.kind)).setCell ⟨wr.heap.size,1,none⟩ (Sv p.signs)).setCell ⟨wr.heap.size,2,none⟩ yr):=by
 have g:Bw wr (wr.alloc (.cells #[a,b,c] 27)).drew:=(A5 _ _).drew;have j:Lies w3 wr.heap.size [a,b,c]:=by
  have f:=C7 wr [a,b,c];unfold Lies at f ⊢;rw[e.block wr.heap.size (by simp)];exact f
 have i:=Bj g e;refine⟨_,yr,rfl,xQc _ _ _ j,PV.mono (kQk g e n h (by simp[World.setCell])) (fun k d=>?_) _ _ l,((i.setCell (Nat.le_refl _) _).setCell (Nat.le_refl _) _).setCell (Nat.le_refl _) _⟩;refine dQl _ _ _ _ _ _ ?_;rcases d with d|d
 ·have:=d.2.1;omega
 ·have:=d.1;simp at this;omega
theorem behind_star (a:Pat)(S:wf a)(ha:U4 a):U4 (fXl a):=by
 intro hs hn hm c sl w G v hp;have b8:=hp;rw[gXw]at hs;rw[gX9]at hn;rw[jXq]at hm;obtain⟨g,c6,hg,rfl,hl,h1⟩:=hp;have c8:=hl.lt;obtain⟨c0,c1,c2⟩:=hl.three;show Calls _ _ #[.agg #[.int .i64 4,.string ⟨#[]⟩,.slice (some ⟨g,0,none⟩) 1 1],_] w _;go_enter Tryz.func75,Tryz.ntmps75;go_wp2_with fail;refine(ha (by omega) (by omega) (by omega) c c6 _ G (Old.alloc v _) (h1.below (A5 _ _) v fun _ h=>h)).mono ?_;rintro e s ⟨v1,b,rfl,a4,Q,t⟩;have J:Hid _:=a4;go_wp2;have c3:=t.size;simp at c3;have Z:s.cell? ⟨w.heap.size,0,none⟩=some (.int .i64 4):=(t.cell (p:=⟨w.heap.size,0,none⟩) (by simp)).trans ((C7 w (C2 (fXl a) (.slice (some ⟨g,0,none⟩) 1 1))).cell 0);have b1:s.cell? ⟨w.heap.size,1,none⟩=some (.string ⟨#[]⟩):=(t.cell (p:=⟨w.heap.size,1,none⟩) (by simp)).trans ((C7 w (C2 (fXl a) (.slice (some ⟨g,0,none⟩) 1 1))).cell 1);have b2:=(t.cell (p:=⟨w.heap.size,2,none⟩) (by simp)).trans ((C7 w (C2 (fXl a) (.slice (some ⟨g,0,none⟩) 1 1))).cell 2);obtain⟨ao,a9,rfl,b3⟩:=Q.shape;have U:Hid (∀x,x∈b.map (fun q=>Ls.row q.1 (fXl a))->Ok x):=fun x I=>by
  obtain⟨q,F,rfl⟩:=List.mem_map.1 I;have h3:q.1∈b.map (·.1):=List.mem_map.2 ⟨q,F,rfl⟩;rw[J.out]at h3;have h4:=fX2 a c S _ h3;have h5:=iXu q.1 (fXl a);rw[gXw]at h5;exact⟨fXy h4.1 (fXw S),by have:=h4.2;unfold Ls.ks at *;omega⟩
 have d0:b.length<=nd a:=by have:=gXd a S c;rw[<-J.out]at this;simpa using this
 go_loopw [16,18] (fun c4 i wr=>∃(k:Nat) (r:List (Pat × Value)),k<=b.length/\i=.int .i64 k/\Grows G w.heap.size s w.heap.size (.slice none 0 0) wr c4 r/\r.map (·.1)=fXh [] ((b.map (fun q=>Ls.row q.1 (fXl a))).take k)) (fun _ i _=>b.length-(intOf i).toNat)
 case atStart=>exact⟨0,[],Nat.zero_le _,rfl,Grows.start (LW.nil _ _ _ _),by simp[fXh]⟩
 case round=>
  obtain⟨k,r,hk,rfl,o,a5⟩:=hrel;have K:Hid _:=a5
  by_cases E:k<b.length
  ·obtain⟨f,rfl⟩:=b3 (by omega)
   obtain⟨L,e1,e2⟩:=Y4 k (o.other Q.own (.inr (by simp[Value.ownBlock]))) rfl E;have d5:=o.grown.size;have a6:∀m,u16.ownBlock=some m->m<wr.heap.size:=fun m e=>(o.lw.own.lt m e).2;have N:Below s.heap.size s wr:=(Below.refl _ _).grown o.grown (Nat.le_refl _) (by simp[Value.ownBlock]);have f0:=(N.cell (p:=⟨w.heap.size,0,none⟩) (by show w.heap.size<_;omega)).trans Z;have f1:=(N.cell (p:=⟨w.heap.size,1,none⟩) (by show w.heap.size<_;omega)).trans b1;have f2:=(N.cell (p:=⟨w.heap.size,2,none⟩) (by show w.heap.size<_;omega)).trans b2;have O:f<wr.heap.size:=World.block_lt_of_cell? _ _ L;have Y:Hid (∀W,Below wr.heap.size wr W->PV W (GG G w.heap.size wr u16) b[k].1 b[k].2):=fun W d=>
    (o.fits (H:=GG G (w.heap.size+1) s (.slice (some ⟨f,0,none⟩) b.length a9)) (fun j l=>⟨l.1.imp id (by omega),l.2.1,by simp[Value.ownBlock]⟩) (by have:=Q.each _ (List.getElem_mem E);simpa using this)).below d (fun j l=>l.2.1) (fun _ h=>h)
   have X:Hid (∀W,Below wr.heap.size wr W->PV W (GG G w.heap.size wr u16) (fXl a) (.slice (some ⟨g,0,none⟩) 1 1)):=fun W d=>
    (o.fits (H:=G) (fun j l=>⟨.inl l,by have:=v j l;omega,by simp[Value.ownBlock]⟩) ((b8.below (A5 w _) v fun _ h=>h).below t (Old.alloc v _) fun _ h=>h)).below d (fun j l=>l.2.1) (fun _ h=>h)
   have T:Hid (∀W,Below wr.heap.size wr W->Old W (GG G w.heap.size wr u16)):=fun W d j l=>Nat.lt_of_lt_of_le l.2.1 d.size;have V:Hid (∀W,Below wr.heap.size wr W->Calls Tryz.prog 84 #[.agg #[.int .i64 b[k].1.kind,.string ⟨b[k].1.signs.toArray⟩,b[k].2],.agg #[.int .i64 4,.string ⟨#[]⟩,.slice (some ⟨g,0,none⟩) 1 1]] W fun e n=>∃y z A,e=.returned (.agg #[.int .i64 (Ls.row b[k].1 (fXl a)).kind,.string ⟨(Ls.row b[k].1 (fXl a)).signs.toArray⟩,.slice y z A])/\PV n (F5 (GG G w.heap.size wr u16) W n) (Ls.row b[k].1 (fXl a)) (.slice y z A)/\Below W.heap.size W n):=by
    intro W d;refine(aQc b[k].1 (fXl a) b[k].2 (.slice (some ⟨g,0,none⟩) 1 1) W _ (T.out W d) (Y.out W d) (X.out W d)).mono ?_;rintro e n ⟨x,rfl,I,hb⟩;obtain⟨y,z,A,rfl⟩:=PV.slice _ _ I;exact⟨y,z,A,rfl,I,hb⟩
   have P:w.heap.size<wr.heap.size:=by omega
   have B:Hid (∀W:World,Below wr.heap.size wr W->W.cell? ⟨f,k*3,none⟩=some (.int .i64 b[k].1.kind)/\W.cell? ⟨f,k*3+1,none⟩=some (.string ⟨b[k].1.signs.toArray⟩)/\W.cell? ⟨f,k*3+2,none⟩=some b[k].2/\W.cell? ⟨w.heap.size,0,none⟩=some (.int .i64 4)/\W.cell? ⟨w.heap.size,1,none⟩=some (.string ⟨#[]⟩)/\W.cell? ⟨w.heap.size,2,none⟩=some (.slice (some ⟨g,0,none⟩) 1 1)):=fun W d=>
    ⟨(d.cell (p:=⟨f,_,none⟩) O).trans L,(d.cell (p:=⟨f,_,none⟩) O).trans e1,(d.cell (p:=⟨f,_,none⟩) O).trans e2,(d.cell (p:=⟨w.heap.size,_,none⟩) P).trans f0,(d.cell (p:=⟨w.heap.size,_,none⟩) P).trans f1,(d.cell (p:=⟨w.heap.size,_,none⟩) P).trans f2⟩
   go_upto_region 36 with fail;go_cut [19] (fun c5 wx=>dQx G w.heap.size wr u16 (Ls.row b[k].1 (fXl a)) c5 wx)
   case first=>
    go_region_held (fun n=>n.cell? ⟨f,k*3,none⟩=some (.int .i64 b[k].1.kind)/\n.cell? ⟨f,k*3+1,none⟩=some (.string ⟨b[k].1.signs.toArray⟩)/\n.cell? ⟨f,k*3+2,none⟩=some b[k].2/\n.cell? ⟨w.heap.size,0,none⟩=some (.int .i64 4)/\n.cell? ⟨w.heap.size,1,none⟩=some (.string ⟨#[]⟩)/\n.cell? ⟨w.heap.size,2,none⟩=some (.slice (some ⟨g,0,none⟩) 1 1)) (first|assumption|exact B.out _ (((C.setCell (Nat.le_refl _) _).setCell (Nat.le_refl _) _).setCell (Nat.le_refl _) _)|exact B.out _ (Below.alloc C (by have:=C.size;omega) _)|go_keep) ((go_at_call 84;refine(V.out _ ?_).mono ?_;(first|exact(Below.refl _ _).drew|exact((Below.refl _ _).alloc (Nat.le_refl _) _).drew);rintro e R ⟨y,z,A,rfl,a3,u⟩;obtain⟨d1,d2⟩:=O9 u;have d4:=u.size;have C:Below wr.heap.size wr R:=(by first|exact Bj (Below.refl _ _).drew u|exact Bj (A5 _ _).drew u);have d3:=B.out R C))
    all_goals
     go_wp2_with fail;go_meet
     case rel=>first|exact lQt (Below.refl _ _).drew u a3 a6 (by omega)|exact lQu u a3 a6 (by omega)
   case rest=>
    obtain⟨c7,yr,rfl,b5,b9,b4⟩:=hcut;obtain⟨r0,r1,r2⟩:=b5.three;have M:=o.below b4;clear o Y X V B T L e1 e2 f0 f1 f2 Z b1 b2;go_wp2_with fail;obtain⟨b7,b6⟩:=cQg K.out (by simp) U.out;simp only[List.length_map,List.length_nil]at b6;have a1:=U.out (Ls.row b[k].1 (fXl a)) (List.mem_map.2 ⟨b[k],List.getElem_mem E,rfl⟩);refine(dQd wc w.heap.size (by have:=M.grown.size;omega) (GG G w.heap.size wc u16) u16 r M.lw (by omega) b7 _ yr b9 a1.1 a1.2).mono ?_;rintro e R a2;obtain⟨v3,a7,rfl,a0,b0⟩:=M.put a2;clear a2;have a8:Hid (a7.map (·.1)=Ls.put (r.map (·.1)) (Ls.row b[k].1 (fXl a))):=a0;clear a0;go_wp2_with fail;go_roundw
    case rel=>exact⟨k+1,a7,by omega,by go_num,b0,dQe K.out (by simpa using E) (by simpa using a8.out)⟩
    case measure=>simp[intOf];omega
  ·go_wp2_with fail
   go_ret;have c9:k=b.length:=by omega
   have F:=K.out;rw[List.take_of_length_le (by simp;omega)]at F;refine⟨_,r,rfl,?_,o.lw,?_⟩
   ·rw[Ls.behind_star,F,<-J.out,List.map_map];rfl
   ·exact(Bj (A5 w _) t).grown o.grown (by omega) (by simp[Value.ownBlock])
theorem behind_rowB (a b:Pat)(wa:wf a)(wb:wf b)(ha:U4 a)(hb:U4 b):U4 (gX4 a b):=by
 intro hs hn hm c sl w G y hp;rw[iX6]at hs;rw[hXu]at hn;rw[iX7]at hm;obtain⟨g,d9,z,hg,rfl,hl,h1,h2⟩:=hp;have c3:=hl.lt;obtain⟨c0,c1,c2,V,X,Y⟩:=hl.six;show Calls _ _ #[.agg #[.int .i64 2,.string ⟨#[]⟩,.slice (some ⟨g,0,none⟩) 2 2],_] w _;go_enter Tryz.func75,Tryz.ntmps75;go_wp2_with fail;refine(ha (by omega) (by omega) (by omega) c d9 _ G (Old.alloc y _) (h1.below (A5 _ _) y fun _ h=>h)).mono ?_;rintro e F ⟨v1,d,rfl,c9,b8,N⟩;have a9:Hid _:=c9;go_wp2;have g1:=N.size;simp at g1;have U:=(N.cell (p:=⟨w.heap.size,2,none⟩) (by simp)).trans ((C7 w (C2 (gX4 a b) (.slice (some ⟨g,0,none⟩) 2 2))).cell 2);have dd:=cQq (A5 w _) N c3;obtain⟨ao,e6,rfl,e9⟩:=b8.shape;have M:Hid (∀x,x∈d.map (fun q=>Ls.row q.1 b)->Ok x):=fun x B=>by
  obtain⟨q,A,rfl⟩:=List.mem_map.1 B;have h3:q.1∈d.map (·.1):=List.mem_map.2 ⟨q,A,rfl⟩;rw[a9.out]at h3;have h4:=fX2 a c wa _ h3;have h5:=iXu q.1 b;exact⟨fXy h4.1 wb,by have:=h4.2;unfold Ls.ks at *;omega⟩
 have g6:d.length<=nd a:=by have:=gXd a wa c;rw[<-a9.out]at this;simpa using this
 go_loopw [9,11] (fun b7 i wr=>∃(k:Nat) (n:List (Pat × Value)),k<=d.length/\i=.int .i64 k/\Grows G w.heap.size F w.heap.size (.slice none 0 0) wr b7 n/\n.map (·.1)=fXh [] ((d.map (fun q=>Ls.row q.1 b)).take k)) (fun _ i _=>d.length-(intOf i).toNat)
 case atStart=>exact⟨0,[],Nat.zero_le _,rfl,Grows.start (LW.nil _ _ _ _),by simp[fXh]⟩
 case round=>
  obtain⟨k,n,hk,rfl,u,d3⟩:=hrel;have I:Hid _:=d3
  by_cases a6:k<d.length
  ·obtain⟨r,rfl⟩:=e9 (by omega)
   obtain⟨e0,e1,e2⟩:=Y4 k (u.other b8.own (.inr (by simp[Value.ownBlock]))) rfl a6;have g2:=u.grown.size;have L:∀m,u9.ownBlock=some m->m<wr.heap.size:=fun m e=>(u.lw.own.lt m e).2;have K:=(Below.refl _ _).grown u.grown (Nat.le_refl _) (by simp[Value.ownBlock]);have f2:=(K.cell (p:=⟨w.heap.size,2,none⟩) (by show w.heap.size<_;omega)).trans U;have s:∀o,wr.cell? ⟨g,o,none⟩=w.cell? ⟨g,o,none⟩:=fun o=>(K.cell (p:=⟨g,o,none⟩) (by show g<_;omega)).trans (dd o);have a5:g<wr.heap.size:=by omega
   have f3:=(s 3).trans V;have f4:=(s 4).trans X;have f5:=(s 5).trans Y;have b4:r<wr.heap.size:=World.block_lt_of_cell? _ _ e0;have HX:Hid (∀W,Below wr.heap.size wr W->PV W (GG G w.heap.size wr u9) d[k].1 d[k].2):=fun W f=>
    (u.fits (H:=GG G (w.heap.size+1) F (.slice (some ⟨r,0,none⟩) d.length e6)) (fun j v=>⟨v.1.imp id (by omega),v.2.1,by simp[Value.ownBlock]⟩) (by have:=b8.each _ (List.getElem_mem a6);simpa using this)).below f (fun j v=>v.2.1) (fun _ h=>h)
   have HS:Hid (∀W,Below wr.heap.size wr W->PV W (GG G w.heap.size wr u9) b z):=fun W f=>
    (u.fits (H:=G) (fun j v=>⟨.inl v,by have:=y j v;omega,by simp[Value.ownBlock]⟩) ((h2.below (A5 w _) y fun _ h=>h).below N (Old.alloc y _) fun _ h=>h)).below f (fun j v=>v.2.1) (fun _ h=>h)
   have HO:Hid (∀W,Below wr.heap.size wr W->Old W (GG G w.heap.size wr u9)):=fun W f j v=>Nat.lt_of_lt_of_le v.2.1 f.size;have HR:Hid (∀W,Below wr.heap.size wr W->Calls Tryz.prog 84 #[.agg #[.int .i64 d[k].1.kind,.string ⟨d[k].1.signs.toArray⟩,d[k].2],.agg #[.int .i64 b.kind,.string ⟨b.signs.toArray⟩,z]] W fun e t=>∃P Q R,e=.returned (.agg #[.int .i64 (Ls.row d[k].1 b).kind,.string ⟨(Ls.row d[k].1 b).signs.toArray⟩,.slice P Q R])/\PV t (F5 (GG G w.heap.size wr u9) W t) (Ls.row d[k].1 b) (.slice P Q R)/\Below W.heap.size W t):=by
    intro W f;refine(aQc d[k].1 b d[k].2 z W _ (HO.out W f) (HX.out W f) (HS.out W f)).mono ?_;rintro e t ⟨x,rfl,B,hb⟩;obtain⟨P,Q,R,rfl⟩:=PV.slice _ _ B;exact⟨P,Q,R,rfl,B,hb⟩
   have d5:w.heap.size<wr.heap.size:=by omega
   have S:Hid (∀W:World,Below wr.heap.size wr W->W.cell? ⟨r,k*3,none⟩=some (.int .i64 d[k].1.kind)/\W.cell? ⟨r,k*3+1,none⟩=some (.string ⟨d[k].1.signs.toArray⟩)/\W.cell? ⟨r,k*3+2,none⟩=some d[k].2/\W.cell? ⟨w.heap.size,2,none⟩=some (.slice (some ⟨g,0,none⟩) 2 2)/\W.cell? ⟨g,3,none⟩=some (.int .i64 b.kind)/\W.cell? ⟨g,4,none⟩=some (.string ⟨b.signs.toArray⟩)/\W.cell? ⟨g,5,none⟩=some z):=fun W f=>
    ⟨(f.cell (p:=⟨r,_,none⟩) b4).trans e0,(f.cell (p:=⟨r,_,none⟩) b4).trans e1,(f.cell (p:=⟨r,_,none⟩) b4).trans e2,(f.cell (p:=⟨w.heap.size,_,none⟩) d5).trans f2,(f.cell (p:=⟨g,_,none⟩) a5).trans f3,(f.cell (p:=⟨g,_,none⟩) a5).trans f4,(f.cell (p:=⟨g,_,none⟩) a5).trans f5⟩
   go_upto_region 20 with fail;go_cut [12] (fun g3 wx=>dQx G w.heap.size wr u9 (Ls.row d[k].1 b) g3 wx)
   case first=>
    go_region_held (fun t=>t.cell? ⟨r,k*3,none⟩=some (.int .i64 d[k].1.kind)/\t.cell? ⟨r,k*3+1,none⟩=some (.string ⟨d[k].1.signs.toArray⟩)/\t.cell? ⟨r,k*3+2,none⟩=some d[k].2/\t.cell? ⟨w.heap.size,2,none⟩=some (.slice (some ⟨g,0,none⟩) 2 2)/\t.cell? ⟨g,3,none⟩=some (.int .i64 b.kind)/\t.cell? ⟨g,4,none⟩=some (.string ⟨b.signs.toArray⟩)/\t.cell? ⟨g,5,none⟩=some z) (first|assumption|exact S.out _ (((a4.setCell (Nat.le_refl _) _).setCell (Nat.le_refl _) _).setCell (Nat.le_refl _) _)|exact S.out _ (Below.alloc a4 (by have:=a4.size;omega) _)|go_keep) ((go_at_call 84;refine(HR.out _ ?_).mono ?_;(first|exact(Below.refl _ _).drew|exact((Below.refl _ _).alloc (Nat.le_refl _) _).drew);rintro e w3 ⟨P,Q,R,rfl,c8,J⟩;obtain⟨d1,d2⟩:=O9 J;have h0:=J.size;have a4:Below wr.heap.size wr w3:=(by first|exact Bj (Below.refl _ _).drew J|exact Bj (A5 _ _).drew J);have g9:=S.out w3 a4))
    all_goals
     go_wp2_with fail;go_meet
     case rel=>first|exact lQt (Below.refl _ _).drew J c8 L (by omega)|exact lQu J c8 L (by omega)
   case rest=>
    obtain⟨nb,yr,rfl,f9,g0,f8⟩:=hcut;obtain⟨r0,r1,r2⟩:=f9.three;have b2:=u.below f8;clear u HX HS HR S HO e0 e1 e2 f2 f3 f4 f5 U dd c0 c1 c2 V X Y;go_wp2_with fail;obtain⟨b6,b5⟩:=cQg I.out (by simp) M.out;simp only[List.length_map,List.length_nil]at b5;have c7:=M.out (Ls.row d[k].1 b) (List.mem_map.2 ⟨d[k],List.getElem_mem a6,rfl⟩);refine(dQd wc w.heap.size (by have:=b2.grown.size;omega) (GG G w.heap.size wc u9) u9 n b2.lw (by omega) b6 _ yr g0 c7.1 c7.2).mono ?_;rintro e w3 O;obtain⟨v3,d7,rfl,c4,e7⟩:=b2.put O;clear O;have e4:Hid (d7.map (·.1)=Ls.put (n.map (·.1)) (Ls.row d[k].1 b)):=c4;clear c4;go_wp2_with fail;go_roundw
    case rel=>exact⟨k+1,d7,by omega,by go_num,e7,dQe I.out (by simpa using a6) (by simpa using e4.out)⟩
    case measure=>simp[intOf];omega
  ·have g4:k=d.length:=by omega
   have HQ:Hid (n.map (·.1)=fXh [] ((Ls.behind a c).map (fun x=>Ls.row x b))):=by
    have A:=I.out;rw[List.take_of_length_le (by simp;omega)]at A;show _=_;rw[A,<-a9.out,List.map_map];rfl
   have K:Below F.heap.size F wr:=(Below.refl _ _).grown u.grown (Nat.le_refl _) (by simp[Value.ownBlock]);have g2:=K.size;have f7:=Bj (A5 w (.cells #[.int .i64 2,.string ⟨#[]⟩,.slice (some ⟨g,0,none⟩) 2 2] 27)) N;have a2:=Bj f7 K;have f2:=(K.cell (p:=⟨w.heap.size,2,none⟩) (by show w.heap.size<_;omega)).trans U;have s:∀o,wr.cell? ⟨g,o,none⟩=w.cell? ⟨g,o,none⟩:=fun o=>a2.cell (p:=⟨g,o,none⟩) c3;have f0:=(s 0).trans c0;have f1:=(s 1).trans c1;have fy:=(s 2).trans c2;have f3:=(s 3).trans V;have f4:=(s 4).trans X;have f5:=(s 5).trans Y;clear s dd U c0 c1 c2 V X Y;go_wp2_with fail;refine(eQm a wa d9 _ G (y.below a2) (h1.below a2 y fun _ h=>h)).mono ?_;rintro e w4 ⟨rfl,a3⟩;have a0:=u.below a3;have h6:=a3.size;obtain⟨d1,d2⟩:=O9 a3;have d5:w.heap.size<wr.heap.size:=by omega
   have a5:g<wr.heap.size:=by omega
   have a1:=Bj a2 a3;cases hE:Ls.empty a with
   | false=>
    have HE:Hid (Ls.empty a=false):=hE;clear hE;go_wp2_with fail;go_ret;exact⟨_,n,rfl,by rw[Ls.behind_rowB,HE.out,HQ.out];rfl,a0.lw,a1⟩
   | true=>
    have HE:Hid (Ls.empty a=true):=hE;clear hE;go_wp2_with fail;refine(hb (by omega) (by omega) (by omega) c z _ G (y.below a1) (h2.below a1 y fun _ h=>h)).mono ?_;rintro e w5 ⟨v2,l,rfl,d0,a8,b3⟩;have b0:Hid (l.map (·.1)=Ls.behind b c):=d0;clear d0 d1 d2 f0 f1 fy f2 f3 f4 f5;have h7:=b3.size;have d6:LW G w.heap.size w5 w.heap.size u9 n:=a0.lw.below b3;obtain⟨T,Z,rfl,f6⟩:=a8.shape;have e3:Hid (∀x,x∈n.map (·.1)->Ok x):=fun x B=>by
     obtain⟨q,A,rfl⟩:=List.mem_map.1 B;exact(cQg I.out (by simp) M.out).1 q A
    have b9:Hid (∀x,x∈l.map (·.1)->Ok x):=fun x B=>by rw[b0.out]at B;have:=fX2 b c wb x B;exact⟨this.1,by have:=this.2;unfold Ls.ks at *;omega⟩
    have g8:n.length<=nd a:=by
     have:=(cQg I.out (by simp) M.out).2;simp at this;omega
    have g7:l.length<=nd b:=by have:=gXd b wb c;rw[<-b0.out]at this;simpa using this
    have L:∀m,u9.ownBlock=some m->w.heap.size<=m/\m<w4.heap.size:=fun m e=>a0.lw.own.lt m e;have HH:Hid (∀k,GG G w4.heap.size w5 (.slice T l.length Z) k->(G k\/w.heap.size<=k)/\k<w5.heap.size/\some k≠u9.ownBlock):=by
     intro k hk;refine⟨hk.1.imp id (by omega),hk.2.1,fun e=>?_⟩;have h3:=L k e.symm;rcases hk.1 with h|h
     ·have:=y k h;omega
     ·omega
    have HN:Hid ((Value.slice T l.length Z).ownBlock=none\/(Value.slice T l.length Z).ownBlock≠u9.ownBlock):=by
     cases hv:(Value.slice T l.length Z).ownBlock with
     | none=>exact .inl rfl
     | some k=>
      refine .inr fun e=>?_;have h3:=L k e.symm;have h4:=a8.own.lt k hv;omega
    clear L u a0 I M;go_wp2_with fail;go_loopw [9,15] (fun b7 i wx=>∃(k:Nat) (E:List (Pat × Value)),k<=l.length/\i=.int .i64 k/\Grows G w.heap.size w5 w.heap.size u9 wx b7 E/\E.map (·.1)=fXh (n.map (·.1)) ((l.map (·.1)).take k)) (fun _ i _=>l.length-(intOf i).toNat)
    case atStart=>exact⟨0,n,Nat.zero_le _,rfl,Grows.start d6,by simp[fXh]⟩
    case round=>
     obtain⟨C,E,g5,rfl,gx,d4⟩:=hrel;have b1:Hid (E.map (·.1)=fXh (n.map (·.1)) ((l.map (·.1)).take C)):=d4;clear d4
     by_cases a7:C<l.length
     ·obtain⟨r,rfl⟩:=f6 (by omega)
      obtain⟨e0,e1,e2⟩:=Y4 C (gx.other a8.own HN.out) rfl a7;go_wp2_with fail;obtain⟨b6,b5⟩:=cQg b1.out e3.out b9.out;simp only[List.length_map]at b5;have c6:=b9.out l[C].1 (List.mem_map.2 ⟨l[C],List.getElem_mem a7,rfl⟩);refine(dQd wr w.heap.size (by have:=gx.grown.size;omega) (GG G w.heap.size wr u9) u9 E gx.lw (by omega) b6 l[C].1 l[C].2 (gx.fits HH.out (a8.each _ (List.getElem_mem a7))) c6.1 c6.2).mono ?_;rintro e w6 O;obtain⟨v6,d8,rfl,c5,e8⟩:=gx.put O;clear O;have e5:Hid (d8.map (·.1)=Ls.put (E.map (·.1)) l[C].1):=c5;clear c5;go_wp2_with fail;go_roundw
      case rel=>exact⟨C+1,d8,by omega,by go_num,e8,dQe b1.out (by simpa using a7) (by simpa using e5.out)⟩
      case measure=>simp[intOf];omega
     ·go_wp2_with fail
      go_ret;have A:=b1.out;rw[List.take_of_length_le (by simp;omega),HQ.out,b0.out]at A;refine⟨_,E,rfl,by rw[Ls.behind_rowB,HE.out,if_pos rfl,A],gx.lw,?_⟩;exact(Bj a1 b3).grown gx.grown (by omega) fun j e=>(d6.own.lt j e).1
theorem behind_any (p:Pat)(h:wf p):U4 p:=
 Ls.ind behind_none (fun s _=>behind_set s) (fun a b c d _ _=>behind_rowB a b c d) (fun a b c d=>rQr a b c d) (fun a c=>behind_star a c) p h
theorem Grows.back {f g:World}{d c:Value}{r q:List (Pat × Value)}(l:Grows G B0 f base d wx c r)(n:Bw wx w3)(h:Grows G B0 w3 base c g v q):Grows G B0 f base d g v q:=by
 have a:=l.below n;refine⟨h.lw,?_,?_⟩
 ·refine⟨h.grown.os.trans a.grown.os,h.grown.tape.trans a.grown.tape,h.grown.output.trans a.grown.output,Lq a.grown.size h.grown.size,fun k b p=>?_⟩
  obtain⟨i,j⟩:=a.block b p;exact(h.grown.block k (Ll b a.grown.size) j).trans i
 ·rcases h.row with e|⟨m,e,o⟩
  ·rw[e];exact a.row
  ·exact .inr ⟨m,e,Lq a.grown.size o⟩
theorem iQz {L:List Pat}(a:Room L){x:Pat}(b:x∈L):Ok x:=⟨(a.ok x b).1,(a.ok x b).2.1⟩
theorem rQ4 (h:i<s.size):s.data.toList.take (i+1)=s.data.toList.take i++[s[i]]:=nQ4 i s h
theorem kQy (L:List Pat)(u:Room L)(d2:p∈L)(hs:s.size<=maxLen)(w:World)(G:Nat->Prop)(hG:Old w G)(hp:PV w G p y) :
  Calls Tryz.prog 59 #[B4 p y,.string s] w fun e N=>e=.returned (.bool (Ls.is p s.data.toList))/\Bw w N:=by
 unfold maxLen at hs;have c1:LW G w.heap.size ((w.alloc (.cells #[Iv p.kind,Sv p.signs,y] 27)).alloc (.cells #[Iv p.kind,Sv p.signs,y] 27)) w.heap.size (.slice (some ⟨w.heap.size+1,0,none⟩) 1 1) [(p,y)]:=
  LW.of (H:=G) ⟨lQ3 p y w _,fun q d=>by simp only[List.mem_singleton]at d;subst d;exact hp.below (C6 _ _ _) hG fun _ h=>h,fun k hk=>by simp[Value.ownBlock];have:=hG k hk;omega,(hG.alloc _).alloc _⟩ (fun _ h=>.inl h)
 go_enter Tryz.func59,Tryz.ntmps59;go_wp2;go_loopw [5,6] (fun l i wr=>∃(n:Nat) (a:List (Pat × Value)),n<=s.size/\i=Iv n/\LW G w.heap.size wr w.heap.size l a/\a.map (·.1)=Ls.after p (s.data.toList.take n)/\Bw w wr) (fun _ i _=>s.size-(intOf i).toNat)
 case atStart=>exact⟨0,[(p,y)],Nat.zero_le _,rfl,c1,by simp[Ls.after],C6 _ _ _⟩
 case round=>
  obtain⟨n,a,hn,rfl,X,b7,K⟩:=hrel;have a1:Hid _:=b7;obtain⟨z,d5⟩:∃z,z=wr:=⟨_,rfl⟩;subst d5;have I:Hid (KD (a.map (·.1))/\∀x,x∈a.map (·.1)->x∈L):=by show _/\_;rw[a1.out];exact mXr _ u d2
  have d8:a.length<=500000000:=by have:=iXq I.out.1 I.out.2;have:=u.small;simp at *;omega
  obtain⟨ao,a2,b9,a9⟩:=X.shape
  by_cases d1:n<s.size
  ·have HT:Hid _:=rQ4 n s d1
   subst b9;go_wp2;go_loopw [7,8] (fun l i f=>∃(k:Nat) (r:List (Pat × Value)),k<=a.length/\i=Iv k/\Grows G w.heap.size z w.heap.size (.slice none 0 0) f l r/\r.map (·.1)=jXd ((a.map (·.1)).take k) s[n]) (fun _ i _=>a.length-(intOf i).toNat)
   case atStart=>exact⟨0,[],Nat.zero_le _,rfl,Grows.start (LW.nil _ _ _ _),by simp[jXd]⟩
   case round=>
    obtain⟨k,r,hk,rfl,F,b6⟩:=hrel;have O:Hid _:=b6;obtain⟨f,d6⟩:∃f,f=wr:=⟨_,rfl⟩;subst d6;obtain⟨Z,d4⟩:∃d7,d7=u7:=⟨_,rfl⟩;subst d4;have B:=Br.grown F.grown (Nat.le_refl _) (by simp[Value.ownBlock]);have e5:=B.size
    by_cases o:k<a.length
    ·obtain⟨c,rfl⟩:=a9 (by omega)
     obtain⟨J,S,g⟩:=Y4 k (F.other X.own (.inr (by simp[Value.ownBlock]))) rfl o;have a4:=World.block_lt_of_cell? _ _ J;have V:=I.out.2 _ (List.mem_map.2 ⟨a[k],List.getElem_mem o,rfl⟩);have M:=u.ok _ V;have HC:Hid (∀W,Bw f W->Ca 75 #[.agg #[Iv a[k].1.kind,.string ⟨a[k].1.signs.toArray⟩,a[k].2],.int .u8 s[n].toNat] W (fQ2 a[k].1 s[n] W (GG G w.heap.size z (Sl c a.length a2)))):=fun W hW=>
      behind_any a[k].1 M.1 M.2.1 M.2.2.1 M.2.2.2 s[n] a[k].2 W _ (fun j C=>by have:=C.2.1;have:=hW.size;omega) (PV.mono (fun _ h=>h) (fun j C=>((Bj B hW).block j C.2.1)) _ _ (X.each _ (List.getElem_mem o)))
     go_wp2;go_region_held (fun N=>N.cell? ⟨c,k*3,none⟩=some (Iv a[k].1.kind)/\N.cell? ⟨c,k*3+1,none⟩=some (.string ⟨a[k].1.signs.toArray⟩)/\N.cell? ⟨c,k*3+2,none⟩=some a[k].2) (first|assumption|go_keep) ((go_at_call 75;refine(HC.out _ ?_).mono ?_;exact Br.drew;rintro e E ⟨v9,b,rfl,b5,c2,A⟩;have d3:E.cell? ⟨c,k*3,none⟩=some (Iv a[k].1.kind)/\E.cell? ⟨c,k*3+1,none⟩=some (.string ⟨a[k].1.signs.toArray⟩)/\E.cell? ⟨c,k*3+2,none⟩=some a[k].2:=⟨(A.cell (p:=⟨c,_,none⟩) a4).trans J,(A.cell (p:=⟨c,_,none⟩) a4).trans S,(A.cell (p:=⟨c,_,none⟩) a4).trans g⟩))
     have a3:Bw f E:=⟨A.os,A.tape,A.output,A.size,A.block⟩;have c7:=F.below a3;have e3:=a3.size;have Y:LW (GG G w.heap.size z (Sl c a.length a2)) f.heap.size E f.heap.size v9 b:=c2;have a0:Hid _:=b5;have HM:Hid (∀x,x∈b.map (·.1)->x∈L):=fun x v=>by rw[a0.out]at v;exact u.closed _ V _ _ v
     have d9:b.length<=1000000000:=by have:=gXd a[k].1 M.1 s[n];rw[<-a0.out]at this;simp at this;omega
     obtain⟨Q,R,rfl,c9⟩:=Y.shape;have a5:∀m,Z.ownBlock=some m->z.heap.size<=m/\m<f.heap.size:=fun m e=>by
      have h1:=(F.lw.own.lt m e).2;rcases F.row with g|⟨m2,g,e1⟩
      ·rw[g]at e;simp[Value.ownBlock]at e
      ·rw[e]at g;injection g with g;omega
     have HH:Hid (∀j,GG (GG G w.heap.size z (Sl c a.length a2)) f.heap.size E (.slice Q b.length R) j->(G j\/w.heap.size<=j)/\j<E.heap.size/\some j≠Z.ownBlock):=by
      intro j C;have e4:=K.size;refine⟨?_,C.2.1,fun e=>?_⟩
      ·rcases C.1 with h|h
       ·exact h.1
       ·exact .inr (by omega)
      ·have h3:=a5 j e.symm
       rcases C.1 with h|h
       ·have:=h.2.1;omega
       ·omega
     have HN:Hid ((Value.slice Q b.length R).ownBlock=none\/(Value.slice Q b.length R).ownBlock≠Z.ownBlock):=by
      cases hv:(Value.slice Q b.length R).ownBlock with
      | none=>exact .inl rfl
      | some j=>
       refine .inr fun e=>?_;have h3:=a5 j e.symm;have h4:=Y.own.lt j hv;omega
     have c5:Hid (∀x,x∈r.map (·.1)->x∈L):=by
      show ∀x,_;rw[O.out];exact jXy _ u (fun x v=>I.out.2 x (List.mem_of_mem_take v))
     have c4:Hid (KD (r.map (·.1))):=by show KD _;rw[O.out];exact kXx _ _
     clear a5 c2 b5 HC J S g d3;go_wp2_with fail;go_loopw [7,10] (fun l i wy=>∃(j:Nat) (t:List (Pat × Value)),j<=b.length/\i=Iv j/\Grows G w.heap.size E w.heap.size Z wy l t/\t.map (·.1)=fXh (r.map (·.1)) ((b.map (·.1)).take j)) (fun _ i _=>b.length-(intOf i).toNat)
     case atStart=>exact⟨0,r,Nat.zero_le _,rfl,Grows.start c7.lw,by simp[fXh]⟩
     case round=>
      obtain⟨j,t,C,rfl,gx,b8⟩:=hrel;have P:Hid (t.map (·.1)=fXh (r.map (·.1)) ((b.map (·.1)).take j)):=b8;clear b8
      by_cases U:j<b.length
      ·obtain⟨g9,rfl⟩:=c9 (by omega)
       obtain⟨J,S,g⟩:=Y4 j (gx.other Y.own HN.out) rfl U;have a7:Hid (∀x,x∈t.map (·.1)->x∈L):=fun x v=>by
        rw[P.out]at v;rcases fXu v with h|h
        ·exact c5.out x h
        ·exact HM.out x (List.mem_of_mem_take h)
       have e0:t.length<=500000000:=by
        have d0:KD (t.map (·.1)):=by rw[P.out];exact gX6 c4.out _
        have h1:=iXq d0 a7.out;have h2:=u.small;simp at h1;omega
       have b3:=iQz u (HM.out b[j].1 (List.mem_map.2 ⟨b[j],List.getElem_mem U,rfl⟩));go_wp2_with fail;refine(dQd wr w.heap.size (by have:=gx.grown.size;have:=K.size;omega) (GG G w.heap.size wr u7) u7 t gx.lw (by omega) (fun q d=>iQz u (a7.out q.1 (List.mem_map.2 ⟨q,d,rfl⟩))) b[j].1 b[j].2 (gx.fits HH.out (Y.each _ (List.getElem_mem U))) b3.1 b3.2).mono ?_;rintro e w6 b4;obtain⟨v6,c3,rfl,b1,c8⟩:=gx.put b4;clear b4;have c6:Hid (c3.map (·.1)=Ls.put (t.map (·.1)) b[j].1):=b1;clear b1;go_wp2_with fail;go_roundw
       case rel=>exact⟨j+1,c3,by omega,by go_num,c8,dQe P.out (by simpa using U) (by simpa using c6.out)⟩
       case measure=>simp[intOf];omega
      ·go_wp2_with fail
       go_roundw
       case rel=>
        refine⟨k+1,t,by omega,by go_num,F.back a3 gx,?_⟩;rw[P.out,List.take_of_length_le (by simp;omega),a0.out,List.take_succ_eq_append_getElem (by simpa using o),lXb,<-O.out];simp
       case measure=>simp[intOf];omega
    ·go_wp2_with fail
     go_roundw
     case rel=>
      refine⟨n+1,r,by omega,by go_num,F.lw,?_,Bj K B⟩;rw[O.out,List.take_of_length_le (by simp;omega),a1.out,HT.out,lXm];rfl
     case measure=>simp[intOf];omega
  ·subst b9
   have e2:n=s.size:=by omega
   have HF:Hid (a.map (·.1)=Ls.after p s.data.toList):=by
    have:=a1.out;rw[List.take_of_length_le (by simp;omega)]at this;exact this
   go_wp2_with fail;go_loopw [11] (fun i f=>∃k:Nat,k<=a.length/\i=Iv k/\Bw z f/\∀q,q∈a.take k->Ls.empty q.1=false) (fun i _=>a.length-(intOf i).toNat)
   case atStart=>exact⟨0,Nat.zero_le _,rfl,Br,by simp⟩
   case round=>
    obtain⟨k,hk,rfl,B,b2⟩:=hrel;have a8:Hid (∀q,q∈a.take k->Ls.empty q.1=false):=b2;clear b2
    by_cases o:k<a.length
    ·obtain⟨c,rfl⟩:=a9 (by omega)
     have a6:=X.below B;obtain⟨J,S,g⟩:=Y4 k a6.own rfl o;have V:a[k].1∈L:=I.out.2 _ (List.mem_map.2 ⟨a[k],List.getElem_mem o,rfl⟩);go_wp2_with fail;refine(eQm a[k].1 (u.ok _ V).1 a[k].2 _ _ a6.old (a6.each _ (List.getElem_mem o))).mono ?_;rintro e w6 ⟨rfl,b0⟩;cases T:Ls.empty a[k].1 with
     | true=>
      have HE:Hid (Ls.empty a[k].1=true):=T;clear T;go_wp2_with fail;go_ret;refine⟨R5 ?_,Bj (Bj K B) b0⟩;symm
      rw[nXj,<-HF.out,List.any_eq_true];exact⟨a[k].1,List.mem_map.2 ⟨a[k],List.getElem_mem o,rfl⟩,HE.out⟩
     | false=>
      have HE:Hid (Ls.empty a[k].1=false):=T;clear T;go_wp2_with fail;go_roundw
      case rel=>
       refine⟨k+1,by omega,by go_num,Bj B b0,fun q d=>?_⟩;rw[List.take_succ_eq_append_getElem o]at d;rcases List.mem_append.1 d with d|d
       ·exact a8.out q d
       ·simp only[List.mem_singleton]at d
        rw[d];exact HE.out
      case measure=>simp[intOf];omega
    ·go_wp2_with fail
     go_ret;refine⟨R5 ?_,Bj K B⟩;symm
     rw[nXj,<-HF.out,Bool.eq_false_iff];intro h;rw[List.any_eq_true]at h;obtain⟨x,v,c0⟩:=h;obtain⟨q,d,rfl⟩:=List.mem_map.1 v;have:=a8.out q (by rw[List.take_of_length_le (by omega)];exact d);rw[this]at c0;cases c0
end Go.Proofs.YtfklinjaajafgaaGreatDoor
