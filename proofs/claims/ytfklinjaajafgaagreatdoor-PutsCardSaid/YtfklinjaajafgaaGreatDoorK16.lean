import Derived.Test.YtfklinjaajafgaaGreatDoorK03
import Derived.Deep.RegionHeld
import Derived.Deep.DeepCutAuto
set_option maxRecDepth 100000
set_option maxHeartbeats 40000000
namespace Go.Proofs.YtfklinjaajafgaaGreatDoor
open Ls
open Go.RowKit
variable {B0 base g k:Nat}{G:Nat->Prop}{W w w3 wr wx:World}{a b c u v yr:Value}{l m:List Pat}{qs:List (Pat × Value)}(p:Pat)(i:Nat)(x:Value)(s:By)(y z:Value)
def fQ2 (p:Pat)(c:UInt8)(w:World)(G:Nat->Prop):Ending->World->Prop:=fun e w'=>
 ∃v qs,e=.returned v/\qs.map (·.1)=Ls.behind p c/\LW G w.heap.size w' w.heap.size v qs/\Bw w w'
def U4 (p:Pat):Prop:=Ls.ks p<=4611686018427387904->nd p<=1000000000->Ls.md p<=4611686018427387904->∀(c:UInt8) (y:Value) (w:World) (G:Nat->Prop),Old w G->PV w G p y->
  Ca 75 #[B4 p y,.int .u8 c.toNat] w (fQ2 p c w G)
theorem behind_none:U4 nN:=by
 intro _ _ _ c y w G d a;have b:=a;subst b;show Calls _ _ #[.agg #[Iv 0,Ez,Zl],_] w _;go_enter Tryz.func75,Tryz.ntmps75;go_wp2;go_ret;exact⟨_,[],rfl,(Ls.behind_none c).symm,LW.nil _ _ _ _,A5 _ _⟩
theorem lQ3 (w:World)(o:Obj):((w.alloc o).alloc (.cells #[Iv p.kind,Sv p.signs,y] 27)).ownsRow w.heap.size 27 3 (.slice (some ⟨w.heap.size+1,0,none⟩) 1 1) 1 (N9 [(p,y)]):=by
 have h:=World.ownsRow_lit (e:=27) (size:=3) (w.alloc o) (N9 [(p,y)]).toArray 1 (A5 w o).size (by unfold maxLen;omega) rfl;rw[show (w.alloc o).heap.size=Hz w+1 by simp]at h;exact h
theorem behind_set (s:Lu):U4 (Ls.set s):=by
 intro hs _ _ c y w G j d;rw[jXo]at hs;have g:=d;subst g;show Calls _ _ #[.agg #[Iv 1,Sv s,Zl],_] w _;cases b:Ls.has s c with
 | false=>
  have a:Hid _:=b;go_enter Tryz.func75,Tryz.ntmps75;go_wp2_with fail;refine(gQ6 c ⟨s.toArray⟩ _ (by unfold maxLen;simp[ByteArray.size];omega)).mono ?_;rintro e i ⟨rfl,rfl⟩;go_wp2;go_ret;exact⟨_,[],rfl,by rw[Ls.behind_set,a.out];rfl,LW.nil _ _ _ _,A5 _ _⟩
 | true=>
  have a:Hid _:=b;go_enter Tryz.func75,Tryz.ntmps75;go_wp2_with fail;refine(gQ6 c ⟨s.toArray⟩ _ (by unfold maxLen;simp[ByteArray.size];omega)).mono ?_;rintro e i ⟨rfl,rfl⟩;go_wp2;go_ret;refine⟨.slice (some ⟨Hz w+1,0,none⟩) 1 1,[(nN,.slice none 0 0)],rfl,by rw[Ls.behind_set,a.out];rfl,LW.of (H:=fun _=>False) ⟨?_,?_,fun _ h=>h.elim,fun _ h=>h.elim⟩ (fun _ h=>h.elim),C6 _ _ _⟩
  ·exact lQ3 nN Zl w _
  ·intro q f;simp only[List.mem_singleton]at f;subst f;rfl
theorem Y4 {b n:Nat}(h:w.ownsRow base 27 3 (Sl g n b) n (N9 qs))(c:n=qs.length)(a:i<qs.length) :
  w.cell? ⟨g,i*3,none⟩=some (Iv qs[i].1.kind)/\w.cell? ⟨g,i*3+1,none⟩=some (.string ⟨qs[i].1.signs.toArray⟩)/\w.cell? ⟨g,i*3+2,none⟩=some qs[i].2:=by
 subst c;refine⟨?_,?_,?_⟩
 ·rw[h.cellAt (i*3) (by omega)];have:=bQ8 0 qs i (by omega) a;simpa using this
 ·rw[h.cellAt (i*3+1) (by omega),bQ8 1 qs i (by omega) a];rfl
 ·rw[h.cellAt (i*3+2) (by omega),bQ8 2 qs i (by omega) a];rfl
theorem LW.weak {a:Nat}{b:Nat}(h:LW G a w b v qs)(e:B0<=a)(f:base<=b):LW G B0 w base v qs:=by
 refine LW.of (H:=GG G a w v) ⟨?_,h.each,h.apart,h.old⟩ fun k j=>j.1.imp id fun h=>Lq e h;refine⟨h.own.1,h.own.2.imp id ?_⟩;rintro ⟨g,c,d,l,i,r⟩;exact⟨g,c,d,l,Lq f i,r⟩
theorem LW.shape (h:LW G B0 w base v qs):∃a b,v=.slice a qs.length b/\(0<qs.length->∃g,a=some ⟨g,0,none⟩):=by
 rcases h.own.2 with⟨rfl,c⟩|⟨g,b,d,rfl,_⟩
 ·exact⟨_,_,by rw[c],by omega⟩
 ·exact⟨_,_,rfl,fun _=>⟨g,rfl⟩⟩
abbrev Ok (x:Pat):Prop:=wf x/\(Ls.key x).length<=4611686018427387904
theorem cQg (h:qs.map (·.1)=fXh l (m.take k))(c:∀x,x∈l->Ok x)(d:∀x,x∈m->Ok x):(∀q,q∈qs->Ok q.1)/\qs.length<=l.length+m.length:=by
 constructor
 ·intro q e
  have a:q.1∈qs.map (·.1):=List.mem_map.2 ⟨q,e,rfl⟩;rw[h]at a;rcases fXu a with h|h
  ·exact c _ h
  ·exact d _ (List.mem_of_mem_take h)
 ·have b:=congrArg List.length h
  have f:=gXs l (m.take k);have g:(m.take k).length<=m.length:=List.length_take_le' _ _;simp only[List.length_map]at b;omega
theorem dQe {a:List (Pat × Value)}(h:qs.map (·.1)=fXh l (m.take k))(c:k<m.length)(b:a.map (·.1)=Ls.put (qs.map (·.1)) m[k]):a.map (·.1)=fXh l (m.take (k+1)):=by
 rw[b,h,List.take_succ_eq_append_getElem c,lXa]
theorem rQr (a b:Pat)(S:wf a)(T:wf b)(ha:U4 a)(hb:U4 b):U4 (Ls.any a b):=by
 intro hs hn hm c sl w G n hp;rw[jXc]at hs;rw[iXw]at hn;rw[lXg]at hm;obtain⟨g,a5,a6,hg,rfl,I,h1,h2⟩:=hp;have a7:=I.lt;have⟨c0,c1,c2,c3,c4,c5⟩:=I.six;show Calls _ _ #[.agg #[Iv 3,Ez,Sl g 2 2],_] w _;go_enter Tryz.func75,Tryz.ntmps75;go_wp2_with fail;refine(ha (by omega) (by omega) (by omega) c a5 _ G (Old.alloc n _) (h1.below (A5 _ _) n fun _ h=>h)).mono ?_;rintro e w1 ⟨v,j,rfl,N,E,o⟩;have⟨Y,Z⟩:=O9 o;have z:Hid _:=N;go_wp2_with fail;refine(hb (by omega) (by omega) (by omega) c a6 _ G (Old.below (Old.alloc n _) o) ((h2.below (A5 _ _) n fun _ h=>h).below o (Old.alloc n _) fun _ h=>h)).mono ?_;rintro e y ⟨v2,d,rfl,O,u,C⟩;have A:Hid _:=O;go_wp2;have a4:=o.size;have b1:=C.size;simp at a4;have Q:LW G (Hz w) y (Hz w) v j:=(E.below C).weak (by simp) (by simp);obtain⟨q,r,rfl,a1⟩:=u.shape;have W:Hid (∀x,x∈j.map (·.1)->Ok x):=fun x p=>by rw[z.out]at p;have:=fX2 a c S x p;exact⟨this.1,by have:=this.2;unfold Ls.ks at this;omega⟩
 have F:Hid (∀x,x∈d.map (·.1)->Ok x):=fun x p=>by rw[A.out]at p;have:=fX2 b c T x p;exact⟨this.1,by have:=this.2;unfold Ls.ks at this;omega⟩
 have a9:j.length<=nd a:=by have:=gXd a S c;rw[<-z.out]at this;simpa using this
 have b0:d.length<=nd b:=by have:=gXd b T c;rw[<-A.out]at this;simpa using this
 have U:Hid (∀k,GG G w1.heap.size y (.slice q d.length r) k->(G k\/w.heap.size<=k)/\k<y.heap.size/\some k≠v.ownBlock):=by
  intro k s;refine⟨s.1.imp id (by omega),s.2.1,fun e=>?_⟩;have H:=E.own.lt k e.symm;simp at H;rcases s.1 with h|h
  ·have:=n k h;omega
  ·omega
 have V:Hid ((Value.slice q d.length r).ownBlock=none\/(Value.slice q d.length r).ownBlock≠v.ownBlock):=by
  cases hv:(Value.slice q d.length r).ownBlock with
  | none=>exact .inl rfl
  | some k=>
   refine .inr fun e=>?_;have H:=E.own.lt k e.symm;have h4:=u.own.lt k hv;omega
 go_loopw [6,8] (fun l i wr=>∃(k:Nat) (m:List (Pat × Value)),k<=d.length/\i=Iv k/\Grows G (Hz w) y (Hz w) v wr l m/\m.map (·.1)=fXh (j.map (·.1)) ((d.map (·.1)).take k)) (fun _ i _=>d.length-(intOf i).toNat)
 ·exact⟨0,j,Nat.zero_le _,rfl,Grows.start Q,by simp[fXh]⟩
 case round=>
  rename_i l wr
  obtain⟨k,m,s,rfl,f,P⟩:=hrel;have B:Hid _:=P
  by_cases t:k<d.length
  ·obtain⟨g2,rfl⟩:=a1 (by omega)
   obtain⟨e0,e1,e2⟩:=Y4 k (f.other u.own V.out) rfl t;go_wp2_with fail;obtain⟨a3,a2⟩:=cQg B.out W.out F.out;simp only[List.length_map]at a2;have K:=F.out d[k].1 (List.mem_map.2 ⟨d[k],List.getElem_mem t,rfl⟩);refine(dQd wr w.heap.size (by have:=f.grown.size;omega) (GG G w.heap.size wr u6) u6 m f.lw (by omega) a3 d[k].1 d[k].2 (f.fits U.out (u.each _ (List.getElem_mem t))) K.1 K.2).mono ?_;rintro e w3 L;obtain⟨v3,R,rfl,J,a0⟩:=f.put L;clear L;have X:Hid (R.map (·.1)=Ls.put (m.map (·.1)) d[k].1):=J;clear J;go_wp2_with fail;go_roundw
   case rel=>exact⟨k+1,R,by omega,by go_num,a0,dQe B.out (by simpa using t) (by simpa using X.out)⟩
   case measure=>simp[intOf];omega
  ·go_wp2_with fail
   go_ret;have a8:k=d.length:=by omega
   have M:=B.out;rw[List.take_of_length_le (by simp;omega),z.out,A.out]at M;refine⟨_,m,rfl,by rw[Ls.behind_any,M],f.lw,?_⟩;exact(Bj (Bj (A5 w _) o) C).grown f.grown (by omega) fun k e=>(Q.own.lt k e).1
def dQx (G:Nat->Prop)(B0:Nat)(wr:World)(u:Value)(p:Pat)(s:Value)(wx:World):Prop:=
 ∃b yr,s=.pointer (some ⟨b,0,none⟩)/\Lies wx b (C2 p yr)/\PV wx (GG G B0 wx u) p yr/\Bw wr wx
theorem kQk (d:Bw wr W)(f:Bw W w3)(h:∀m,u.ownBlock=some m->m<wr.heap.size)(l:B0<=wr.heap.size)(n:w3.heap.size<=wx.heap.size) :
  ∀k,F5 (GG G B0 wr u) W w3 k->GG G B0 wx u k:=by
 intro k g;have i:=d.size;have j:=f.size;rcases g with⟨a,b,c⟩|⟨a,b⟩
 ·exact⟨a,by omega,c⟩
 ·refine⟨.inr (by omega),by omega,fun e=>?_⟩
  have:=h k e.symm;omega
theorem lQt {p:Pat}(b:Bw wr W)(c:Bw W w3)(e:PV w3 (F5 (GG G B0 wr u) W w3) p yr)(f:∀m,u.ownBlock=some m->m<wr.heap.size)(d:B0<=wr.heap.size) :
  dQx G B0 wr u p (Pt w3.heap.size) (w3.alloc (.cells #[Iv p.kind,Sv p.signs,yr] 27)):=by
 have g:=b.size;have h:=c.size;refine⟨_,yr,rfl,C7 w3 (C2 p yr),PV.mono (kQk b c f d (by simp)) (fun k a=>?_) _ _ e,Bj (Bj b c) (A5 _ _)⟩;have:k<w3.heap.size:=by
  rcases a with a|a
  ·have:=a.2.1;omega
  ·exact a.2
 exact Below.heap_alloc _ _ _ this
theorem xQc (h:Lies w g [a,b,c]):Lies (((w.setCell ⟨g,0,none⟩ x).setCell ⟨g,1,none⟩ y).setCell ⟨g,2,none⟩ z) g [x,y,z]:=by
 unfold Lies at h ⊢;simp[World.setCell,Array.getElem?_modify,h]
theorem dQl (w:World)(g:Nat)(k:Nat)(a:k≠g):(((w.setCell ⟨g,0,none⟩ x).setCell ⟨g,1,none⟩ y).setCell ⟨g,2,none⟩ z).heap[k]?=w.heap[k]?:=by
 rw[Below.heap_setCell _ _ _ _ a,Below.heap_setCell _ _ _ _ a,Below.heap_setCell _ _ _ _ a]
theorem lQu {p:Pat}(e:Below (wr.alloc (.cells #[a,b,c] 27)).heap.size (wr.alloc (.cells #[a,b,c] 27)).drew w3)(l:PV w3 (F5 (GG G B0 wr u) (wr.alloc (.cells #[a,b,c] 27)).drew w3) p yr)(n:∀m,u.ownBlock=some m->m<wr.heap.size)(h:B0<=wr.heap.size) :
  dQx G B0 wr u p (Pt wr.heap.size) (((w3.setCell ⟨wr.heap.size,0,none⟩ (Iv p.kind)).setCell ⟨wr.heap.size,1,none⟩ (Sv p.signs)).setCell ⟨wr.heap.size,2,none⟩ yr):=by
 have g:Bw wr (wr.alloc (.cells #[a,b,c] 27)).drew:=(A5 _ _).drew;have j:Lies w3 (Hz wr) [a,b,c]:=by
  have f:=C7 wr [a,b,c];unfold Lies at f ⊢;rw[e.block (Hz wr) (by simp)];exact f
 have i:=Bj g e;refine⟨_,yr,rfl,xQc _ _ _ j,PV.mono (kQk g e n h (by simp[World.setCell])) (fun k d=>?_) _ _ l,((i.setCell Nr _).setCell Nr _).setCell Nr _⟩;refine dQl _ _ _ _ _ _ ?_;rcases d with d|d
 ·have:=d.2.1;omega
 ·have:=d.1;simp at this;omega
theorem behind_star (a:Pat)(S:wf a)(ha:U4 a):U4 (fXl a):=by
 intro hs hn hm c sl w G v hp;have b8:=hp;rw[gXw]at hs;rw[gX9]at hn;rw[jXq]at hm;obtain⟨g,c6,hg,rfl,hl,h1⟩:=hp;have c8:=hl.lt;have⟨c0,c1,c2⟩:=hl.three;show Calls _ _ #[.agg #[.int .i64 4,Ez,.slice (some ⟨g,0,none⟩) 1 1],_] w _;go_enter Tryz.func75,Tryz.ntmps75;go_wp2_with fail;refine(ha (by omega) (by omega) (by omega) c c6 _ G (Old.alloc v _) (h1.below (A5 _ _) v fun _ h=>h)).mono ?_;rintro e s ⟨v1,b,rfl,a4,Q,t⟩;have J:Hid _:=a4;go_wp2;have c3:=t.size;simp at c3;have Z:s.cell? ⟨Hz w,0,none⟩=some (.int .i64 4):=(t.cell (p:=⟨Hz w,0,none⟩) (by simp)).trans ((C7 w (C2 (fXl a) (.slice (some ⟨g,0,none⟩) 1 1))).cell 0);have b1:s.cell? ⟨Hz w,1,none⟩=some Ez:=(t.cell (p:=⟨Hz w,1,none⟩) (by simp)).trans ((C7 w (C2 (fXl a) (.slice (some ⟨g,0,none⟩) 1 1))).cell 1);have b2:=(t.cell (p:=⟨Hz w,2,none⟩) (by simp)).trans ((C7 w (C2 (fXl a) (.slice (some ⟨g,0,none⟩) 1 1))).cell 2);obtain⟨ao,a9,rfl,b3⟩:=Q.shape;have U:Hid (∀x,x∈b.map (fun q=>Ls.row q.1 (fXl a))->Ok x):=fun x I=>by
  obtain⟨q,F,rfl⟩:=List.mem_map.1 I;have h3:q.1∈b.map (·.1):=List.mem_map.2 ⟨q,F,rfl⟩;rw[J.out]at h3;have h4:=fX2 a c S _ h3;have h5:=iXu q.1 (fXl a);rw[gXw]at h5;exact⟨fXy h4.1 (fXw S),by have:=h4.2;unfold Ls.ks at *;omega⟩
 have d0:b.length<=nd a:=by have:=gXd a S c;rw[<-J.out]at this;simpa using this
 go_loopw [16,18] (fun c4 i wr=>∃(k:Nat) (r:List (Pat × Value)),k<=b.length/\i=.int .i64 k/\Grows G w.heap.size s (Hz w) Zl wr c4 r/\r.map (·.1)=fXh [] ((b.map (fun q=>Ls.row q.1 (fXl a))).take k)) (fun _ i _=>b.length-(intOf i).toNat)
 ·exact⟨0,[],Nat.zero_le _,rfl,Grows.start (LW.nil _ _ _ _),by simp[fXh]⟩
 ·
  obtain⟨k,r,hk,rfl,o,a5⟩:=hrel;have K:Hid _:=a5
  by_cases E:k<b.length
  ·obtain⟨f,rfl⟩:=b3 (by omega)
   have⟨L,e1,e2⟩:=Y4 k (o.other Q.own (.inr (by simp[Value.ownBlock]))) rfl E;have d5:=o.grown.size;have a6:∀m,u16.ownBlock=some m->m<wr.heap.size:=fun m e=>(o.lw.own.lt m e).2;have N:Below s.heap.size s wr:=(Below.refl _ _).grown o.grown (Nat.le_refl _) (by simp[Value.ownBlock]);have f0:=(N.cell (p:=⟨w.heap.size,0,none⟩) (by show w.heap.size<_;omega)).trans Z;have f1:=(N.cell (p:=⟨w.heap.size,1,none⟩) (by show w.heap.size<_;omega)).trans b1;have f2:=(N.cell (p:=⟨w.heap.size,2,none⟩) (by show w.heap.size<_;omega)).trans b2;have O:f<wr.heap.size:=World.block_lt_of_cell? _ _ L;have Y:Hid (∀W,Below wr.heap.size wr W->PV W (GG G w.heap.size wr u16) b[k].1 b[k].2):=fun W d=>
    (o.fits (H:=GG G (w.heap.size+1) s (.slice (some ⟨f,0,none⟩) b.length a9)) (fun j l=>⟨l.1.imp id (by omega),l.2.1,by simp[Value.ownBlock]⟩) (by have:=Q.each _ (List.getElem_mem E);simpa using this)).below d (fun j l=>l.2.1) (fun _ h=>h)
   have X:Hid (∀W,Below wr.heap.size wr W->PV W (GG G w.heap.size wr u16) (fXl a) (.slice (some ⟨g,0,none⟩) 1 1)):=fun W d=>
    (o.fits (H:=G) (fun j l=>⟨.inl l,by have:=v j l;omega,by simp[Value.ownBlock]⟩) ((b8.below (A5 w _) v fun _ h=>h).below t (Old.alloc v _) fun _ h=>h)).below d (fun j l=>l.2.1) (fun _ h=>h)
   have T:Hid (∀W,Below wr.heap.size wr W->Old W (GG G w.heap.size wr u16)):=fun W d j l=>Nat.lt_of_lt_of_le l.2.1 d.size;have V:Hid (∀W,Below wr.heap.size wr W->Calls Tryz.prog 84 #[.agg #[.int .i64 b[k].1.kind,.string ⟨b[k].1.signs.toArray⟩,b[k].2],.agg #[.int .i64 4,.string ⟨#[]⟩,.slice (some ⟨g,0,none⟩) 1 1]] W fun e n=>∃y z A,e=.returned (.agg #[.int .i64 (Ls.row b[k].1 (fXl a)).kind,.string ⟨(Ls.row b[k].1 (fXl a)).signs.toArray⟩,.slice y z A])/\PV n (F5 (GG G w.heap.size wr u16) W n) (Ls.row b[k].1 (fXl a)) (.slice y z A)/\Below W.heap.size W n):=by
    intro W d;refine(aQc b[k].1 (fXl a) b[k].2 (.slice (some ⟨g,0,none⟩) 1 1) W _ (T.out W d) (Y.out W d) (X.out W d)).mono ?_;rintro e n ⟨x,rfl,I,hb⟩;obtain⟨y,z,A,rfl⟩:=PV.slice _ _ I;exact⟨y,z,A,rfl,I,hb⟩
   have P:w.heap.size<wr.heap.size:=by omega
   have B:Hid (∀W:World,Below wr.heap.size wr W->W.cell? ⟨f,k*3,none⟩=some (.int .i64 b[k].1.kind)/\W.cell? ⟨f,k*3+1,none⟩=some (.string ⟨b[k].1.signs.toArray⟩)/\W.cell? ⟨f,k*3+2,none⟩=some b[k].2/\W.cell? ⟨w.heap.size,0,none⟩=some (.int .i64 4)/\W.cell? ⟨w.heap.size,1,none⟩=some (.string ⟨#[]⟩)/\W.cell? ⟨w.heap.size,2,none⟩=some (.slice (some ⟨g,0,none⟩) 1 1)):=fun W d=>
    ⟨(d.cell (p:=⟨f,_,none⟩) O).trans L,(d.cell (p:=⟨f,_,none⟩) O).trans e1,(d.cell (p:=⟨f,_,none⟩) O).trans e2,(d.cell (p:=⟨w.heap.size,_,none⟩) P).trans f0,(d.cell (p:=⟨w.heap.size,_,none⟩) P).trans f1,(d.cell (p:=⟨w.heap.size,_,none⟩) P).trans f2⟩
   go_upto_region 36 with fail;go_cut [19] (fun c5 wx=>dQx G w.heap.size wr u16 (Ls.row b[k].1 (fXl a)) c5 wx)
   case first=>
    go_region_held (fun n=>n.cell? ⟨f,k*3,none⟩=some (.int .i64 b[k].1.kind)/\n.cell? ⟨f,k*3+1,none⟩=some (.string ⟨b[k].1.signs.toArray⟩)/\n.cell? ⟨f,k*3+2,none⟩=some b[k].2/\n.cell? ⟨w.heap.size,0,none⟩=some (.int .i64 4)/\n.cell? ⟨w.heap.size,1,none⟩=some (.string ⟨#[]⟩)/\n.cell? ⟨w.heap.size,2,none⟩=some (.slice (some ⟨g,0,none⟩) 1 1)) (first|assumption|exact B.out _ (((C.setCell (Nat.le_refl _) _).setCell (Nat.le_refl _) _).setCell (Nat.le_refl _) _)|exact B.out _ (Below.alloc C (by have:=C.size;omega) _)|go_keep) ((go_at_call 84;refine(V.out _ ?_).mono ?_;(first|exact(Below.refl _ _).drew|exact((Below.refl _ _).alloc (Nat.le_refl _) _).drew);rintro e R ⟨y,z,A,rfl,a3,u⟩;obtain⟨d1,d2⟩:=O9 u;have d4:=u.size;have C:Below wr.heap.size wr R:=(by first|exact Bj (Below.refl _ _).drew u|exact Bj (A5 _ _).drew u);have d3:=B.out R C))
    all_goals
     go_wp2_with fail;go_meet
     case rel=>first|exact lQt (Below.refl _ _).drew u a3 a6 (by omega)|exact lQu u a3 a6 (by omega)
   case rest=>
    obtain⟨c7,yr,rfl,b5,b9,b4⟩:=hcut;obtain⟨r0,r1,r2⟩:=b5.three;have M:=o.below b4;clear o Y X V B T L e1 e2 f0 f1 f2 Z b1 b2;go_wp2_with fail;obtain⟨b7,b6⟩:=cQg K.out (by simp) U.out;simp only[List.length_map,List.length_nil]at b6;have a1:=U.out (Ls.row b[k].1 (fXl a)) (List.mem_map.2 ⟨b[k],List.getElem_mem E,rfl⟩);refine(dQd wc w.heap.size (by have:=M.grown.size;omega) (GG G w.heap.size wc u16) u16 r M.lw (by omega) b7 _ yr b9 a1.1 a1.2).mono ?_;rintro e R a2;obtain⟨v3,a7,rfl,a0,b0⟩:=M.put a2;clear a2;have a8:Hid (a7.map (·.1)=Ls.put (r.map (·.1)) (Ls.row b[k].1 (fXl a))):=a0;clear a0;go_wp2_with fail;go_roundw
    case rel=>exact⟨k+1,a7,by omega,by go_num,b0,dQe K.out (by simpa using E) (by simpa using a8.out)⟩
    case measure=>simp[intOf];omega
  ·go_wp2_with fail
   go_ret;have c9:k=b.length:=by omega
   have F:=K.out;rw[List.take_of_length_le (by simp;omega)]at F;refine⟨_,r,rfl,?_,o.lw,?_⟩
   ·rw[Ls.behind_star,F,<-J.out,List.map_map];rfl
   ·exact(Bj (A5 w _) t).grown o.grown (by omega) (by simp[Value.ownBlock])
theorem behind_rowB (a b:Pat)(wa:wf a)(wb:wf b)(ha:U4 a)(hb:U4 b):U4 (gX4 a b):=by
 intro hs hn hm c sl w G y hp;rw[iX6]at hs;rw[hXu]at hn;rw[iX7]at hm;obtain⟨g,d9,z,hg,rfl,hl,h1,h2⟩:=hp;have c3:=hl.lt;have⟨c0,c1,c2,V,X,Y⟩:=hl.six;show Calls _ _ #[.agg #[.int .i64 2,Ez,.slice (some ⟨g,0,none⟩) 2 2],_] w _;go_enter Tryz.func75,Tryz.ntmps75;go_wp2_with fail;refine(ha (by omega) (by omega) (by omega) c d9 _ G (Old.alloc y _) (h1.below (A5 _ _) y fun _ h=>h)).mono ?_;rintro e F ⟨v1,d,rfl,c9,b8,N⟩;have a9:Hid _:=c9;go_wp2;have g1:=N.size;simp at g1;have U:=(N.cell (p:=⟨Hz w,2,none⟩) (by simp)).trans ((C7 w (C2 (gX4 a b) (.slice (some ⟨g,0,none⟩) 2 2))).cell 2);have dd:=cQq (A5 w _) N c3;obtain⟨ao,e6,rfl,e9⟩:=b8.shape;have M:Hid (∀x,x∈d.map (fun q=>Ls.row q.1 b)->Ok x):=fun x B=>by
  obtain⟨q,A,rfl⟩:=List.mem_map.1 B;have h3:q.1∈d.map (·.1):=List.mem_map.2 ⟨q,A,rfl⟩;rw[a9.out]at h3;have h4:=fX2 a c wa _ h3;have h5:=iXu q.1 b;exact⟨fXy h4.1 wb,by have:=h4.2;unfold Ls.ks at *;omega⟩
 have g6:d.length<=nd a:=by have:=gXd a wa c;rw[<-a9.out]at this;simpa using this
 go_loopw [9,11] (fun b7 i wr=>∃(k:Nat) (n:List (Pat × Value)),k<=d.length/\i=.int .i64 k/\Grows G (Hz w) F (Hz w) Zl wr b7 n/\n.map (·.1)=fXh [] ((d.map (fun q=>Ls.row q.1 b)).take k)) (fun _ i _=>d.length-(intOf i).toNat)
 ·exact⟨0,[],Nat.zero_le _,rfl,Grows.start (LW.nil _ _ _ _),by simp[fXh]⟩
 ·
  obtain⟨k,n,hk,rfl,u,d3⟩:=hrel;have I:Hid _:=d3
  by_cases a6:k<d.length
  ·obtain⟨r,rfl⟩:=e9 (by omega)
   have⟨e0,e1,e2⟩:=Y4 k (u.other b8.own (.inr (by simp[Value.ownBlock]))) rfl a6;have g2:=u.grown.size;have L:∀m,u9.ownBlock=some m->m<wr.heap.size:=fun m e=>(u.lw.own.lt m e).2;have K:=(Below.refl _ _).grown u.grown Nr (by simp[Value.ownBlock]);have f2:=(K.cell (p:=⟨Hz w,2,none⟩) (by show w.heap.size<_;omega)).trans U;have s:∀o,wr.cell? ⟨g,o,none⟩=w.cell? ⟨g,o,none⟩:=fun o=>(K.cell (p:=⟨g,o,none⟩) (by show g<_;omega)).trans (dd o);have a5:g<wr.heap.size:=by omega
   have f3:=(s 3).trans V;have f4:=(s 4).trans X;have f5:=(s 5).trans Y;have b4:r<wr.heap.size:=World.block_lt_of_cell? _ _ e0;have HX:Hid (∀W,Below (Hz wr) wr W->PV W (GG G (Hz w) wr u9) d[k].1 d[k].2):=fun W f=>
    (u.fits (H:=GG G (Hz w+1) F (.slice (some ⟨r,0,none⟩) d.length e6)) (fun j v=>⟨v.1.imp id (by omega),v.2.1,by simp[Value.ownBlock]⟩) (by have:=b8.each _ (List.getElem_mem a6);simpa using this)).below f (fun j v=>v.2.1) (fun _ h=>h)
   have HS:Hid (∀W,Below (Hz wr) wr W->PV W (GG G (Hz w) wr u9) b z):=fun W f=>
    (u.fits (H:=G) (fun j v=>⟨.inl v,by have:=y j v;omega,by simp[Value.ownBlock]⟩) ((h2.below (A5 w _) y fun _ h=>h).below N (Old.alloc y _) fun _ h=>h)).below f (fun j v=>v.2.1) (fun _ h=>h)
   have HO:Hid (∀W,Below (Hz wr) wr W->Old W (GG G (Hz w) wr u9)):=fun W f j v=>Nat.lt_of_lt_of_le v.2.1 f.size;have HR:Hid (∀W,Below (Hz wr) wr W->Calls Tryz.prog 84 #[.agg #[.int .i64 d[k].1.kind,.string ⟨d[k].1.signs.toArray⟩,d[k].2],.agg #[.int .i64 b.kind,.string ⟨b.signs.toArray⟩,z]] W fun e t=>∃P Q R,e=.returned (.agg #[.int .i64 (Ls.row d[k].1 b).kind,.string ⟨(Ls.row d[k].1 b).signs.toArray⟩,.slice P Q R])/\PV t (F5 (GG G (Hz w) wr u9) W t) (Ls.row d[k].1 b) (.slice P Q R)/\Below (Hz W) W t):=by
    intro W f;refine(aQc d[k].1 b d[k].2 z W _ (HO.out W f) (HX.out W f) (HS.out W f)).mono ?_;rintro e t ⟨x,rfl,B,hb⟩;obtain⟨P,Q,R,rfl⟩:=PV.slice _ _ B;exact⟨P,Q,R,rfl,B,hb⟩
   have d5:w.heap.size<wr.heap.size:=by omega
   have S:Hid (∀W:World,Below (Hz wr) wr W->W.cell? ⟨r,k*3,none⟩=some (.int .i64 d[k].1.kind)/\W.cell? ⟨r,k*3+1,none⟩=some (.string ⟨d[k].1.signs.toArray⟩)/\W.cell? ⟨r,k*3+2,none⟩=some d[k].2/\W.cell? ⟨Hz w,2,none⟩=some (.slice (some ⟨g,0,none⟩) 2 2)/\W.cell? ⟨g,3,none⟩=some (.int .i64 b.kind)/\W.cell? ⟨g,4,none⟩=some (.string ⟨b.signs.toArray⟩)/\W.cell? ⟨g,5,none⟩=some z):=fun W f=>
    ⟨(f.cell (p:=⟨r,_,none⟩) b4).trans e0,(f.cell (p:=⟨r,_,none⟩) b4).trans e1,(f.cell (p:=⟨r,_,none⟩) b4).trans e2,(f.cell (p:=⟨Hz w,_,none⟩) d5).trans f2,(f.cell (p:=⟨g,_,none⟩) a5).trans f3,(f.cell (p:=⟨g,_,none⟩) a5).trans f4,(f.cell (p:=⟨g,_,none⟩) a5).trans f5⟩
   go_upto_region 20 with fail;go_cut [12] (fun g3 wx=>dQx G w.heap.size wr u9 (Ls.row d[k].1 b) g3 wx)
   case first=>
    go_region_held (fun t=>t.cell? ⟨r,k*3,none⟩=some (.int .i64 d[k].1.kind)/\t.cell? ⟨r,k*3+1,none⟩=some (.string ⟨d[k].1.signs.toArray⟩)/\t.cell? ⟨r,k*3+2,none⟩=some d[k].2/\t.cell? ⟨w.heap.size,2,none⟩=some (.slice (some ⟨g,0,none⟩) 2 2)/\t.cell? ⟨g,3,none⟩=some (.int .i64 b.kind)/\t.cell? ⟨g,4,none⟩=some (.string ⟨b.signs.toArray⟩)/\t.cell? ⟨g,5,none⟩=some z) (first|assumption|exact S.out _ (((a4.setCell (Nat.le_refl _) _).setCell (Nat.le_refl _) _).setCell (Nat.le_refl _) _)|exact S.out _ (Below.alloc a4 (by have:=a4.size;omega) _)|go_keep) ((go_at_call 84;refine(HR.out _ ?_).mono ?_;(first|exact(Below.refl _ _).drew|exact((Below.refl _ _).alloc (Nat.le_refl _) _).drew);rintro e w3 ⟨P,Q,R,rfl,c8,J⟩;obtain⟨d1,d2⟩:=O9 J;have h0:=J.size;have a4:Below wr.heap.size wr w3:=(by first|exact Bj (Below.refl _ _).drew J|exact Bj (A5 _ _).drew J);have g9:=S.out w3 a4))
    all_goals
     go_wp2_with fail;go_meet
     case rel=>first|exact lQt (Below.refl _ _).drew J c8 L (by omega)|exact lQu J c8 L (by omega)
   case rest=>
    obtain⟨nb,yr,rfl,f9,g0,f8⟩:=hcut;obtain⟨r0,r1,r2⟩:=f9.three;have b2:=u.below f8;clear u HX HS HR S HO e0 e1 e2 f2 f3 f4 f5 U dd c0 c1 c2 V X Y;go_wp2_with fail;obtain⟨b6,b5⟩:=cQg I.out (by simp) M.out;simp only[List.length_map,List.length_nil]at b5;have c7:=M.out (Ls.row d[k].1 b) (List.mem_map.2 ⟨d[k],List.getElem_mem a6,rfl⟩);refine(dQd wc w.heap.size (by have:=b2.grown.size;omega) (GG G w.heap.size wc u9) u9 n b2.lw (by omega) b6 _ yr g0 c7.1 c7.2).mono ?_;rintro e w3 O;obtain⟨v3,d7,rfl,c4,e7⟩:=b2.put O;clear O;have e4:Hid (d7.map (·.1)=Ls.put (n.map (·.1)) (Ls.row d[k].1 b)):=c4;clear c4;go_wp2_with fail;go_roundw
    case rel=>exact⟨k+1,d7,by omega,by go_num,e7,dQe I.out (by simpa using a6) (by simpa using e4.out)⟩
    case measure=>simp[intOf];omega
  ·have g4:k=d.length:=by omega
   have HQ:Hid (n.map (·.1)=fXh [] ((Ls.behind a c).map (fun x=>Ls.row x b))):=by
    have A:=I.out;rw[List.take_of_length_le (by simp;omega)]at A;show _=_;rw[A,<-a9.out,List.map_map];rfl
   have K:Below F.heap.size F wr:=(Below.refl _ _).grown u.grown (Nat.le_refl _) (by simp[Value.ownBlock]);have g2:=K.size;have f7:=Bj (A5 w (.cells #[.int .i64 2,.string ⟨#[]⟩,.slice (some ⟨g,0,none⟩) 2 2] 27)) N;have a2:=Bj f7 K;have f2:=(K.cell (p:=⟨w.heap.size,2,none⟩) (by show w.heap.size<_;omega)).trans U;have s:∀o,wr.cell? ⟨g,o,none⟩=w.cell? ⟨g,o,none⟩:=fun o=>a2.cell (p:=⟨g,o,none⟩) c3;have f0:=(s 0).trans c0;have f1:=(s 1).trans c1;have fy:=(s 2).trans c2;have f3:=(s 3).trans V;have f4:=(s 4).trans X;have f5:=(s 5).trans Y;clear s dd U c0 c1 c2 V X Y;go_wp2_with fail;refine(eQm a wa d9 _ G (y.below a2) (h1.below a2 y fun _ h=>h)).mono ?_;rintro e w4 ⟨rfl,a3⟩;have a0:=u.below a3;have h6:=a3.size;obtain⟨d1,d2⟩:=O9 a3;have d5:w.heap.size<wr.heap.size:=by omega
   have a5:g<wr.heap.size:=by omega
   have a1:=Bj a2 a3;cases hE:Ls.empty a with
   | false=>
    have HE:Hid (Ls.empty a=false):=hE;clear hE;go_wp2_with fail;go_ret;exact⟨_,n,rfl,by rw[Ls.behind_rowB,HE.out,HQ.out];rfl,a0.lw,a1⟩
   | true=>
    have HE:Hid (Ls.empty a=true):=hE;clear hE;go_wp2_with fail;refine(hb (by omega) (by omega) (by omega) c z _ G (y.below a1) (h2.below a1 y fun _ h=>h)).mono ?_;rintro e w5 ⟨v2,l,rfl,d0,a8,b3⟩;have b0:Hid (l.map (·.1)=Ls.behind b c):=d0;clear d0 d1 d2 f0 f1 fy f2 f3 f4 f5;have h7:=b3.size;have d6:LW G w.heap.size w5 w.heap.size u9 n:=a0.lw.below b3;obtain⟨T,Z,rfl,f6⟩:=a8.shape;have e3:Hid (∀x,x∈n.map (·.1)->Ok x):=fun x B=>by
     obtain⟨q,A,rfl⟩:=List.mem_map.1 B;exact(cQg I.out (by simp) M.out).1 q A
    have b9:Hid (∀x,x∈l.map (·.1)->Ok x):=fun x B=>by rw[b0.out]at B;have:=fX2 b c wb x B;exact⟨this.1,by have:=this.2;unfold Ls.ks at *;omega⟩
    have g8:n.length<=nd a:=by
     have:=(cQg I.out (by simp) M.out).2;simp at this;omega
    have g7:l.length<=nd b:=by have:=gXd b wb c;rw[<-b0.out]at this;simpa using this
    have L:∀m,u9.ownBlock=some m->w.heap.size<=m/\m<w4.heap.size:=fun m e=>a0.lw.own.lt m e;have HH:Hid (∀k,GG G w4.heap.size w5 (.slice T l.length Z) k->(G k\/w.heap.size<=k)/\k<w5.heap.size/\some k≠u9.ownBlock):=by
     intro k hk;refine⟨hk.1.imp id (by omega),hk.2.1,fun e=>?_⟩;have h3:=L k e.symm;rcases hk.1 with h|h
     ·have:=y k h;omega
     ·omega
    have HN:Hid ((Value.slice T l.length Z).ownBlock=none\/(Value.slice T l.length Z).ownBlock≠u9.ownBlock):=by
     cases hv:(Value.slice T l.length Z).ownBlock with
     | none=>exact .inl rfl
     | some k=>
      refine .inr fun e=>?_;have h3:=L k e.symm;have h4:=a8.own.lt k hv;omega
    clear L u a0 I M;go_wp2_with fail;go_loopw [9,15] (fun b7 i wx=>∃(k:Nat) (E:List (Pat × Value)),k<=l.length/\i=.int .i64 k/\Grows G w.heap.size w5 w.heap.size u9 wx b7 E/\E.map (·.1)=fXh (n.map (·.1)) ((l.map (·.1)).take k)) (fun _ i _=>l.length-(intOf i).toNat)
    case atStart=>exact⟨0,n,Nat.zero_le _,rfl,Grows.start d6,by simp[fXh]⟩
    case round=>
     obtain⟨C,E,g5,rfl,gx,d4⟩:=hrel;have b1:Hid (E.map (·.1)=fXh (n.map (·.1)) ((l.map (·.1)).take C)):=d4;clear d4
     by_cases a7:C<l.length
     ·obtain⟨r,rfl⟩:=f6 (by omega)
      obtain⟨e0,e1,e2⟩:=Y4 C (gx.other a8.own HN.out) rfl a7;go_wp2_with fail;obtain⟨b6,b5⟩:=cQg b1.out e3.out b9.out;simp only[List.length_map]at b5;have c6:=b9.out l[C].1 (List.mem_map.2 ⟨l[C],List.getElem_mem a7,rfl⟩);refine(dQd wr w.heap.size (by have:=gx.grown.size;omega) (GG G w.heap.size wr u9) u9 E gx.lw (by omega) b6 l[C].1 l[C].2 (gx.fits HH.out (a8.each _ (List.getElem_mem a7))) c6.1 c6.2).mono ?_;rintro e w6 O;obtain⟨v6,d8,rfl,c5,e8⟩:=gx.put O;clear O;have e5:Hid (d8.map (·.1)=Ls.put (E.map (·.1)) l[C].1):=c5;clear c5;go_wp2_with fail;go_roundw
      case rel=>exact⟨C+1,d8,by omega,by go_num,e8,dQe b1.out (by simpa using a7) (by simpa using e5.out)⟩
      case measure=>simp[intOf];omega
     ·go_wp2_with fail
      go_ret;have A:=b1.out;rw[List.take_of_length_le (by simp;omega),HQ.out,b0.out]at A;refine⟨_,E,rfl,by rw[Ls.behind_rowB,HE.out,if_pos rfl,A],gx.lw,?_⟩;exact(Bj a1 b3).grown gx.grown (by omega) fun j e=>(d6.own.lt j e).1
theorem behind_any (p:Pat)(h:wf p):U4 p:=
 Ls.ind behind_none (fun s _=>behind_set s) (fun a b c d _ _=>behind_rowB a b c d) (fun a b c d=>rQr a b c d) (fun a c=>behind_star a c) p h
theorem Grows.back {f g:World}{d c:Value}{r q:List (Pat × Value)}(l:Grows G B0 f base d wx c r)(n:Bw wx w3)(h:Grows G B0 w3 base c g v q):Grows G B0 f base d g v q:=by
 have a:=l.below n;refine⟨h.lw,?_,?_⟩
 ·refine⟨h.grown.os.trans a.grown.os,h.grown.tape.trans a.grown.tape,h.grown.output.trans a.grown.output,Lq a.grown.size h.grown.size,fun k b p=>?_⟩
  have⟨i,j⟩:=a.block b p;exact(h.grown.block k (Ll b a.grown.size) j).trans i
 ·rcases h.row with e|⟨m,e,o⟩
  ·rw[e];exact a.row
  ·exact .inr ⟨m,e,Lq a.grown.size o⟩
theorem iQz {L:List Pat}(a:Room L){x:Pat}(b:x∈L):Ok x:=⟨(a.ok x b).1,(a.ok x b).2.1⟩
theorem rQ4 (h:i<s.size):s.data.toList.take (i+1)=s.data.toList.take i++[s[i]]:=nQ4 i s h
theorem kQy (L:List Pat)(u:Room L)(d2:p∈L)(hs:s.size<=maxLen)(w:World)(G:Nat->Prop)(hG:Old w G)(hp:PV w G p y) :
  Calls Tryz.prog 59 #[B4 p y,.string s] w fun e N=>e=.returned (.bool (Ls.is p s.data.toList))/\Bw w N:=by
 unfold maxLen at hs;have c1:LW G (Hz w) ((w.alloc (.cells #[Iv p.kind,Sv p.signs,y] 27)).alloc (.cells #[Iv p.kind,Sv p.signs,y] 27)) (Hz w) (.slice (some ⟨w.heap.size+1,0,none⟩) 1 1) [(p,y)]:=
  LW.of (H:=G) ⟨lQ3 p y w _,fun q d=>by simp only[List.mem_singleton]at d;subst d;exact hp.below (C6 _ _ _) hG fun _ h=>h,fun k hk=>by simp[Value.ownBlock];have:=hG k hk;omega,(hG.alloc _).alloc _⟩ (fun _ h=>.inl h)
 go_enter Tryz.func59,Tryz.ntmps59;go_wp2;go_loopw [5,6] (fun l i wr=>∃(n:Nat) (a:List (Pat × Value)),n<=s.size/\i=Iv n/\LW G (Hz w) wr (Hz w) l a/\a.map (·.1)=Ls.after p ((Dl s).take n)/\Bw w wr) (fun _ i _=>s.size-(intOf i).toNat)
 ·exact⟨0,[(p,y)],Nat.zero_le _,rfl,c1,by simp[Ls.after],C6 _ _ _⟩
 ·
  obtain⟨n,a,hn,rfl,X,b7,K⟩:=hrel;have a1:Hid _:=b7;obtain⟨z,d5⟩:∃z,z=wr:=⟨_,rfl⟩;subst d5;have I:Hid (KD (a.map (·.1))/\∀x,x∈a.map (·.1)->x∈L):=by show _/\_;rw[a1.out];exact mXr _ u d2
  have d8:a.length<=500000000:=by have:=iXq I.out.1 I.out.2;have:=u.small;simp at *;omega
  have⟨ao,a2,b9,a9⟩:=X.shape
  by_cases d1:n<s.size
  ·have HT:Hid _:=rQ4 n s d1
   subst b9;go_wp2;go_loopw [7,8] (fun l i f=>∃(k:Nat) (r:List (Pat × Value)),k<=a.length/\i=Iv k/\Grows G (Hz w) z (Hz w) Zl f l r/\r.map (·.1)=jXd ((a.map (·.1)).take k) s[n]) (fun _ i _=>a.length-(intOf i).toNat)
   ·exact⟨0,[],Nat.zero_le _,rfl,Grows.start (LW.nil _ _ _ _),by simp[jXd]⟩
   ·
    obtain⟨k,r,hk,rfl,F,b6⟩:=hrel;have O:Hid _:=b6;obtain⟨f,d6⟩:∃f,f=wr:=⟨_,rfl⟩;subst d6;obtain⟨Z,d4⟩:∃d7,d7=u7:=⟨_,rfl⟩;subst d4;have B:=Br.grown F.grown Nr (by simp[Value.ownBlock]);have e5:=B.size
    by_cases o:k<a.length
    ·obtain⟨c,rfl⟩:=a9 (by omega)
     have⟨J,S,g⟩:=Y4 k (F.other X.own (.inr (by simp[Value.ownBlock]))) rfl o;have a4:=World.block_lt_of_cell? _ _ J;have V:=I.out.2 _ (List.mem_map.2 ⟨a[k],List.getElem_mem o,rfl⟩);have M:=u.ok _ V;have HC:Hid (∀W,Bw f W->Ca 75 #[.agg #[Iv a[k].1.kind,.string ⟨a[k].1.signs.toArray⟩,a[k].2],.int .u8 s[n].toNat] W (fQ2 a[k].1 s[n] W (GG G (Hz w) z (Sl c a.length a2)))):=fun W hW=>
      behind_any a[k].1 M.1 M.2.1 M.2.2.1 M.2.2.2 s[n] a[k].2 W _ (fun j C=>by have:=C.2.1;have:=hW.size;omega) (PV.mono (fun _ h=>h) (fun j C=>((Bj B hW).block j C.2.1)) _ _ (X.each _ (List.getElem_mem o)))
     go_wp2;go_region_held (fun N=>N.cell? ⟨c,k*3,none⟩=some (Iv a[k].1.kind)/\N.cell? ⟨c,k*3+1,none⟩=some (.string ⟨a[k].1.signs.toArray⟩)/\N.cell? ⟨c,k*3+2,none⟩=some a[k].2) (first|assumption|go_keep) ((go_at_call 75;refine(HC.out _ ?_).mono ?_;exact Br.drew;rintro e E ⟨v9,b,rfl,b5,c2,A⟩;have d3:E.cell? ⟨c,k*3,none⟩=some (Iv a[k].1.kind)/\E.cell? ⟨c,k*3+1,none⟩=some (.string ⟨a[k].1.signs.toArray⟩)/\E.cell? ⟨c,k*3+2,none⟩=some a[k].2:=⟨(A.cell (p:=⟨c,_,none⟩) a4).trans J,(A.cell (p:=⟨c,_,none⟩) a4).trans S,(A.cell (p:=⟨c,_,none⟩) a4).trans g⟩))
     have a3:Bw f E:=⟨A.os,A.tape,A.output,A.size,A.block⟩;have c7:=F.below a3;have e3:=a3.size;have Y:LW (GG G w.heap.size z (Sl c a.length a2)) f.heap.size E f.heap.size v9 b:=c2;have a0:Hid _:=b5;have HM:Hid (∀x,x∈b.map (·.1)->x∈L):=fun x v=>by rw[a0.out]at v;exact u.closed _ V _ _ v
     have d9:b.length<=1000000000:=by have:=gXd a[k].1 M.1 s[n];rw[<-a0.out]at this;simp at this;omega
     obtain⟨Q,R,rfl,c9⟩:=Y.shape;have a5:∀m,Z.ownBlock=some m->z.heap.size<=m/\m<f.heap.size:=fun m e=>by
      have h1:=(F.lw.own.lt m e).2;rcases F.row with g|⟨m2,g,e1⟩
      ·rw[g]at e;simp[Value.ownBlock]at e
      ·rw[e]at g;injection g with g;omega
     have HH:Hid (∀j,GG (GG G w.heap.size z (Sl c a.length a2)) f.heap.size E (.slice Q b.length R) j->(G j\/w.heap.size<=j)/\j<E.heap.size/\some j≠Z.ownBlock):=by
      intro j C;have e4:=K.size;refine⟨?_,C.2.1,fun e=>?_⟩
      ·rcases C.1 with h|h
       ·exact h.1
       ·exact .inr (by omega)
      ·have h3:=a5 j e.symm
       rcases C.1 with h|h
       ·have:=h.2.1;omega
       ·omega
     have HN:Hid ((Value.slice Q b.length R).ownBlock=none\/(Value.slice Q b.length R).ownBlock≠Z.ownBlock):=by
      cases hv:(Value.slice Q b.length R).ownBlock with
      | none=>exact .inl rfl
      | some j=>
       refine .inr fun e=>?_;have h3:=a5 j e.symm;have h4:=Y.own.lt j hv;omega
     have c5:Hid (∀x,x∈r.map (·.1)->x∈L):=by
      show ∀x,_;rw[O.out];exact jXy _ u (fun x v=>I.out.2 x (List.mem_of_mem_take v))
     have c4:Hid (KD (r.map (·.1))):=by show KD _;rw[O.out];exact kXx _ _
     clear a5 c2 b5 HC J S g d3;go_wp2_with fail;go_loopw [7,10] (fun l i wy=>∃(j:Nat) (t:List (Pat × Value)),j<=b.length/\i=Iv j/\Grows G w.heap.size E w.heap.size Z wy l t/\t.map (·.1)=fXh (r.map (·.1)) ((b.map (·.1)).take j)) (fun _ i _=>b.length-(intOf i).toNat)
     case atStart=>exact⟨0,r,Nat.zero_le _,rfl,Grows.start c7.lw,by simp[fXh]⟩
     case round=>
      obtain⟨j,t,C,rfl,gx,b8⟩:=hrel;have P:Hid (t.map (·.1)=fXh (r.map (·.1)) ((b.map (·.1)).take j)):=b8;clear b8
      by_cases U:j<b.length
      ·obtain⟨g9,rfl⟩:=c9 (by omega)
       obtain⟨J,S,g⟩:=Y4 j (gx.other Y.own HN.out) rfl U;have a7:Hid (∀x,x∈t.map (·.1)->x∈L):=fun x v=>by
        rw[P.out]at v;rcases fXu v with h|h
        ·exact c5.out x h
        ·exact HM.out x (List.mem_of_mem_take h)
       have e0:t.length<=500000000:=by
        have d0:KD (t.map (·.1)):=by rw[P.out];exact gX6 c4.out _
        have h1:=iXq d0 a7.out;have h2:=u.small;simp at h1;omega
       have b3:=iQz u (HM.out b[j].1 (List.mem_map.2 ⟨b[j],List.getElem_mem U,rfl⟩));go_wp2_with fail;refine(dQd wr w.heap.size (by have:=gx.grown.size;have:=K.size;omega) (GG G w.heap.size wr u7) u7 t gx.lw (by omega) (fun q d=>iQz u (a7.out q.1 (List.mem_map.2 ⟨q,d,rfl⟩))) b[j].1 b[j].2 (gx.fits HH.out (Y.each _ (List.getElem_mem U))) b3.1 b3.2).mono ?_;rintro e w6 b4;obtain⟨v6,c3,rfl,b1,c8⟩:=gx.put b4;clear b4;have c6:Hid (c3.map (·.1)=Ls.put (t.map (·.1)) b[j].1):=b1;clear b1;go_wp2_with fail;go_roundw
       case rel=>exact⟨j+1,c3,by omega,by go_num,c8,dQe P.out (by simpa using U) (by simpa using c6.out)⟩
       case measure=>simp[intOf];omega
      ·go_wp2_with fail
       go_roundw
       case rel=>
        refine⟨k+1,t,by omega,by go_num,F.back a3 gx,?_⟩;rw[P.out,List.take_of_length_le (by simp;omega),a0.out,List.take_succ_eq_append_getElem (by simpa using o),lXb,<-O.out];simp
       case measure=>simp[intOf];omega
    ·go_wp2_with fail
     go_roundw
     case rel=>
      refine⟨n+1,r,by omega,by go_num,F.lw,?_,Bj K B⟩;rw[O.out,List.take_of_length_le (by simp;omega),a1.out,HT.out,lXm];rfl
     case measure=>simp[intOf];omega
  ·subst b9
   have e2:n=s.size:=by omega
   have HF:Hid (a.map (·.1)=Ls.after p s.data.toList):=by
    have:=a1.out;rw[List.take_of_length_le (by simp;omega)]at this;exact this
   go_wp2_with fail;go_loopw [11] (fun i f=>∃k:Nat,k<=a.length/\i=Iv k/\Bw z f/\∀q,q∈a.take k->Ls.empty q.1=false) (fun i _=>a.length-(intOf i).toNat)
   case atStart=>exact⟨0,Nat.zero_le _,rfl,Br,by simp⟩
   case round=>
    obtain⟨k,hk,rfl,B,b2⟩:=hrel;have a8:Hid (∀q,q∈a.take k->Ls.empty q.1=false):=b2;clear b2
    by_cases o:k<a.length
    ·obtain⟨c,rfl⟩:=a9 (by omega)
     have a6:=X.below B;obtain⟨J,S,g⟩:=Y4 k a6.own rfl o;have V:a[k].1∈L:=I.out.2 _ (List.mem_map.2 ⟨a[k],List.getElem_mem o,rfl⟩);go_wp2_with fail;refine(eQm a[k].1 (u.ok _ V).1 a[k].2 _ _ a6.old (a6.each _ (List.getElem_mem o))).mono ?_;rintro e w6 ⟨rfl,b0⟩;cases T:Ls.empty a[k].1 with
     | true=>
      have HE:Hid (Ls.empty a[k].1=true):=T;clear T;go_wp2_with fail;go_ret;refine⟨R5 ?_,Bj (Bj K B) b0⟩;symm
      rw[nXj,<-HF.out,List.any_eq_true];exact⟨a[k].1,List.mem_map.2 ⟨a[k],List.getElem_mem o,rfl⟩,HE.out⟩
     | false=>
      have HE:Hid (Ls.empty a[k].1=false):=T;clear T;go_wp2_with fail;go_roundw
      case rel=>
       refine⟨k+1,by omega,by go_num,Bj B b0,fun q d=>?_⟩;rw[List.take_succ_eq_append_getElem o]at d;rcases List.mem_append.1 d with d|d
       ·exact a8.out q d
       ·simp only[List.mem_singleton]at d
        rw[d];exact HE.out
      case measure=>simp[intOf];omega
    ·go_wp2_with fail
     go_ret;refine⟨R5 ?_,Bj K B⟩;symm
     rw[nXj,<-HF.out,Bool.eq_false_iff];intro h;rw[List.any_eq_true]at h;obtain⟨x,v,c0⟩:=h;obtain⟨q,d,rfl⟩:=List.mem_map.1 v;have:=a8.out q (by rw[List.take_of_length_le (by omega)];exact d);rw[this]at c0;cases c0
variable {a g pb z:Nat}{b:Bool}{s:By}{w w' w1 w2:World}{x:List Value}(l:Lu)(k i:Nat)(c:UInt8)
def PB (w:World)(pb:Nat)(s:By)(at_ size:Nat)(bad:Bool):Prop:=w.heap[pb]?=some (.cells #[.string s,.int .i64 at_,.int .i64 size,.bool bad] 62 (0,0))
theorem PB.lt (h:PB w pb s a z b):pb<w.heap.size:=(Array.getElem?_eq_some_iff.1 h).1
theorem PB.c0 (h:PB w pb s a z b):w.cell? ⟨pb,0,none⟩=some (.string s):=by unfold PB at h;simp[World.cell?,h]
theorem PB.c1 (h:PB w pb s a z b):w.cell? ⟨pb,1,none⟩=some (.int .i64 a):=by unfold PB at h;simp[World.cell?,h]
theorem PB.c2 (h:PB w pb s a z b):w.cell? ⟨pb,2,none⟩=some (.int .i64 z):=by unfold PB at h;simp[World.cell?,h]
theorem PB.c3 (h:PB w pb s a z b):w.cell? ⟨pb,3,none⟩=some (.bool b):=by unfold PB at h;simp[World.cell?,h]
theorem PB.fr (h:PB w pb s a z b)(o:Nat):w.frozen? ⟨pb,o,none⟩=false:=by unfold PB at h;simp[World.frozen?,h]
theorem PB.set1 (h:PB w pb s a z b)(c:Nat):PB (w.setCell ⟨pb,1,none⟩ (Iv c)) pb s c z b:=by unfold PB at h ⊢;simp[World.setCell,Array.getElem?_modify,h]
theorem PB.set2 (h:PB w pb s a z b)(c:Nat):PB (w.setCell ⟨pb,2,none⟩ (Iv c)) pb s a c b:=by unfold PB at h ⊢;simp[World.setCell,Array.getElem?_modify,h]
theorem PB.set3 (h:PB w pb s a z b)(c:Bool):PB (w.setCell ⟨pb,3,none⟩ (.bool c)) pb s a z c:=by unfold PB at h ⊢;simp[World.setCell,Array.getElem?_modify,h]
theorem PB.below (h:PB w pb s a z b)(c:Bw w w'):PB w' pb s a z b:=by have:=h.lt;unfold PB at h ⊢;rw[c.block pb this];exact h
theorem G5 (c:Nat)(s:By)(z:Nat)(b:Bool)(w:World)(h:PB w c s i z b)(_hs:s.size<=4611686018427387904)(_hi:i<=4611686018427387904) :
  Calls Tryz.prog 100 #[Pt c] w fun e g=>e=.returned (.int .u8 (nx s i).toNat)/\Bw w g:=by
 have j:=h.c0;have k:=h.c1
 by_cases f:i<s.size
 ·have d:decide ((s.size:Int)<=(i:Int))=false:=by simp;omega
  have a:Hid _:=M6 f;go_enter Tryz.func100,Tryz.ntmps100;go_wp2;go_quiet (fail)
  go_wp2;go_quiet (fail)
  go_wp2;go_ret;exact⟨by rw[a.out];rfl,⟨rfl,rfl,rfl,Nat.le_refl _,fun _ _=>rfl⟩⟩
 ·have d:decide ((s.size:Int)<=(i:Int))=true:=by simp;omega
  have a:Hid (nx s i=0):=dQa (by omega);go_enter Tryz.func100,Tryz.ntmps100;go_wp2;go_quiet (fail)
  go_wp2;go_ret;exact⟨by rw[a.out];rfl,⟨rfl,rfl,rfl,Nat.le_refl _,fun _ _=>rfl⟩⟩
structure Left (w:World)(pb:Nat)(s:By)(at_ size:Nat)(bad:Bool)(w':World):Prop where
 lies:PB w' pb s at_ size bad
 grown:w.grownBy w' (some pb)
theorem Left.of_below (h:PB w pb s a z b)(c:Bw w w'):Left w pb s a z b w':=⟨h.below c,L5 c _⟩
theorem Left.trans {c e:Nat}{d:Bool}(h:Left w pb s a z b w1)(k:Left w1 pb s c e d w2):Left w pb s c e d w2:=⟨k.lies,J8 h.grown k.grown⟩
theorem Left.below (h:Left w pb s a z b w1)(c:Bw w1 w2):Left w pb s a z b w2:=⟨h.lies.below c,J8 h.grown (L5 c _)⟩
theorem Left.set1 (h:Left w pb s a z b w1)(c:Nat):Left w pb s c z b (w1.setCell ⟨pb,1,none⟩ (Iv c)):=⟨h.lies.set1 c,J8 h.grown (V8 _ _ _ _)⟩
theorem Left.set2 (h:Left w pb s a z b w1)(c:Nat):Left w pb s a c b (w1.setCell ⟨pb,2,none⟩ (Iv c)):=⟨h.lies.set2 c,J8 h.grown (V8 _ _ _ _)⟩
theorem Left.set3 (h:Left w pb s a z b w1)(c:Bool):Left w pb s a z c (w1.setCell ⟨pb,3,none⟩ (.bool c)):=⟨h.lies.set3 c,J8 h.grown (V8 _ _ _ _)⟩
theorem cX9 (pb:Nat)(s:By)(z:Nat)(b:Bool)(w:World)(h:PB w pb s i z b)(hs:s.size<=4611686018427387904)(ht:A7 s i c=true) :
  Calls Tryz.prog 68 #[Pt pb,.int .u8 c.toNat] w fun e w'=>e=.returned (.bool true)/\Left w pb s (i+1) z b w':=by
 have c0:=h.c0;have c1:=h.c1;have hpl:=h.lt;have hfr:=h.fr 1;obtain⟨hlt,hc⟩:i<s.size/\nx s i=c:=by simpa [A7] using ht
 subst hc;have hd:decide ((i:Int)<(s.size:Int))=true:=by simp;omega
 go_enter Tryz.func68,Tryz.ntmps68;go_wp2_with fail;refine(G5 i pb s z b _ h hs (by omega)).mono ?_;rintro e w1 ⟨rfl,hb1⟩;obtain⟨d1,d2⟩:=O9 hb1;have hz1:=hb1.size;go_wp2;go_quiet (fail)
 go_wp2;go_ret;refine⟨rfl,?_⟩;have hl:=((Left.of_below h hb1).below (E5 (w:=w1) nq)).set1 (i+1);exact hl
theorem cX8 (pb:Nat)(s:By)(z:Nat)(b:Bool)(w:World)(h:PB w pb s i z b)(hs:s.size<=4611686018427387904)(hi:i<=4611686018427387904)(ht:A7 s i c=false) :
  Calls Tryz.prog 68 #[Pt pb,.int .u8 c.toNat] w fun e w'=>e=.returned (.bool false)/\Left w pb s i z b w':=by
 have c0:=h.c0;have c1:=h.c1;have hpl:=h.lt
 by_cases hlt:i<s.size
 ·have hc:¬nx s i=c:=by simpa [A7,hlt] using ht
  have hcb:(((nx s i).toNat:Int)==(c.toNat:Int))=false:=by
   rw[beq_eq_false_iff_ne];intro e;exact hc (UInt8.toNat_inj.1 (by omega))
  have hd:decide ((i:Int)<(s.size:Int))=true:=by simp;omega
  go_enter Tryz.func68,Tryz.ntmps68;go_wp2_with fail;refine(G5 i pb s z b _ h hs (by omega)).mono ?_;rintro e w1 ⟨rfl,hb1⟩;obtain⟨d1,d2⟩:=O9 hb1;go_wp2;go_quiet (fail)
  go_wp2;go_ret;exact⟨rfl,(Left.of_below h hb1).below (E5 (w:=w1) nq)⟩
 ·clear ht
  have hd:decide ((i:Int)<(s.size:Int))=false:=by simp;omega
  go_enter Tryz.func68,Tryz.ntmps68;go_wp2_with fail;refine(G5 i pb s z b _ h hs (by omega)).mono ?_;rintro e w1 ⟨rfl,hb1⟩;obtain⟨d1,d2⟩:=O9 hb1;go_wp2;go_quiet (fail)
  go_wp2;go_ret;exact⟨rfl,(Left.of_below h hb1).below (E5 (w:=w1) nq)⟩
theorem O5 (a:Nat)(s:By)(z:Nat)(b:Bool)(w:World)(h:PB w a s i z b)(hs:s.size<=4611686018427387904)(f:i<=4611686018427387904) :
  Calls Tryz.prog 68 #[Pt a,.int .u8 c.toNat] w fun e g=>e=.returned (.bool (A7 s i c))/\Left w a s (if A7 s i c=true then i+1 else i) z b g:=by
 cases d:A7 s i c with
 | true=>simpa using cX9 i c a s z b w h hs d
 | false=>simpa using cX8 i c a s z b w h hs f d
theorem Lies.fr (h:Lies w g x)(o:Nat):w.frozen? ⟨g,o,none⟩=false:=by
 unfold Lies at h;simp[World.frozen?,h]
theorem Lies.below {B:Nat}(h:Lies w g x)(a:Below B w w')(b:g<B):Lies w' g x:=by
 unfold Lies at h ⊢;rw[a.block g b];exact h
theorem Lies.grown {r:Option Nat}(h:Lies w g x)(a:w.grownBy w' r)(b:some g≠r):Lies w' g x:=by
 have:=h.lt;unfold Lies at h ⊢;rw[a.block g this b];exact h
theorem Lies.set_other (h:Lies w g x)(k o:Nat)(v:Value)(a:g≠k):Lies (w.setCell ⟨k,o,none⟩ v) g x:=by
 unfold Lies at h ⊢;rw[Below.heap_setCell _ _ _ _ a];exact h
theorem Left.res {W:World}(h:Left w pb s a z b W)(e:w.heap.size<=g)(f:pb<w.heap.size)(x y v:Value):Left w pb s a z b (((W.setCell ⟨g,0,none⟩ x).setCell ⟨g,1,none⟩ y).setCell ⟨g,2,none⟩ v):=by
 refine⟨?_,?_⟩
 ·have:=h.lies
  unfold PB at this ⊢;rw[dQl _ _ _ _ _ _ (by omega)];exact this
 ·refine⟨h.grown.os,h.grown.tape,h.grown.output,by simpa [World.setCell] using h.grown.size,fun k c d=>?_⟩
  rw[dQl _ _ _ _ _ _ (by omega)];exact h.grown.block k c d
theorem kQo (w:World)(b:k<256)(c:l.length<=4611686018427387904) :
  Calls Tryz.prog 72 #[Sv l,.int .u8 (k:Int)] w fun e a=>e=.returned (.bool (Ls.has l (UInt8.ofNat k)))/\a=w:=by
 have h:=gQ6 (UInt8.ofNat k) ⟨l.toArray⟩ w (by unfold maxLen;simp[ByteArray.size];omega);rw[show ((UInt8.ofNat k).toNat:Int)=(k:Int) from by simp;omega]at h;simpa using h
theorem fQs:Value.string (⟨l.toArray⟩++⟨#[c]⟩)=Sv (l++[c]):=by
 rw[show (⟨#[c]⟩:By)=⟨[c].toArray⟩ from rfl,ByteArray.mk_append_mk]
def oQw (w:World)(pb:Nat)(s:By)(i z:Nat):Ending->World->Prop:=fun e w'=>
 (∃sg t,cls ((rest s i).length+1) [] (rest s i)=some (sg,t)/\e=.returned (B4 (Ls.set sg) (.slice none 0 0))/\Left w pb s (s.size-t.length) z false w')\/
 (cls ((rest s i).length+1) [] (rest s i)=.none/\∃i',i<=i'/\i'<=s.size/\e=.returned (B4 nN (.slice none 0 0))/\Left w pb s i' z true w')
theorem sQw (g:Nat)(s:By)(z:Nat)(w:World)(h:PB w g s i z false)(hs:s.size<=1048576)(hi:i<=s.size) :
  Calls Tryz.prog 129 #[Pt g] w (oQw w g s i z):=by
 have Hh:Hid _:=h;have M:=h.lt;have L:¬w.heap.size=g:=by omega
 have d2:¬g=w.heap.size:=by omega
 go_enter Tryz.func129,Tryz.ntmps129;go_wp2;go_loopw [3] (fun o wr=>∃(d:Lu) (j n:Nat),o=Sv d/\d.length<=128*j/\i<=j/\j<=s.size/\(rest s j).length<n/\cls n d (rest s j)=cls ((rest s i).length+1) [] (rest s i)/\Left w g s j z false wr/\Lies wr w.heap.size [Iv 0,.string ⟨#[]⟩,.slice none 0 0]) (fun _ wr=>s.size+1-(intOf ((wr.cell? ⟨g,1,none⟩).getD (Iv 0))).toNat)
 case atStart=>exact⟨[],i,_,rfl,by simp,Nat.le_refl _,hi,Nat.lt_succ_self _,rfl,Left.of_below Hh.out (A5 _ _),C7 w _⟩
 case round=>
  obtain⟨d,j,n,rfl,c4,b0,b1,hn,Y,A,a2⟩:=hrel;have I:Hid _:=Y;have c0:=A.lies.c0;have c1:=A.lies.c1;have hw:=a2.lt;go_wp2_with fail;refine(G5 j g s z false _ A.lies (by omega) (by omega)).mono ?_;rintro e w1 ⟨rfl,S⟩;go_wp2_with fail;refine(lQp (nx s j) _).mono ?_;rintro e w2 ⟨rfl,rfl⟩;have t:=A.below S;have d3:=S.size;have B:=a2.below S hw;obtain⟨q0,q1,q2⟩:=B.three (a:=nN);have g0:=B.fr 0;have g1:=B.fr 1;have g2:=B.fr 2;cases F:iXl (nx s j) with
  | false=>
   have y:Hid _:=F;have f3:=t.lies.fr 3;have k3:=t.lies.c3;go_wp2;refine bodyPost_ret (v:=B4 nN (.slice none 0 0)) (by simp[results,Tryz.results129,go_sem,q0,q1,q2,nN]) rfl (Or.inr ⟨?_,j,b0,b1,rfl,(t.set3 true).res (Nat.le_refl _) M _ _ _⟩);rw[<-I.out];cases n with
   | zero=>rfl
   | succ n=>rw[cls,mQw y.out]
  | true=>
   have y:Hid _:=F;have c8:=q9 F;have f1:=t.lies.fr 1;have k1:=t.lies.c1;go_wp2_with fail;have Z:=t.set1 (j+1);have b3:=B.set_other g 1 (Iv ((j+1:Nat):Int)) L;refine(O5 (j+1) 45 g s z false _ Z.lies (by omega) (by omega)).mono ?_;rintro e w3 ⟨rfl,a0⟩;have u:=Z.trans a0;have T:=b3.grown a0.grown (by simp[L]);go_upto_if 32 with fail
   go_cut [6,7] (fun s6 _ wx=>∃(b:UInt8) (m:Nat),s6=.int .u8 b.toNat/\gXc (rest s j)=some (nx s j,b,rest s m)/\j<m/\m<=s.size/\Left w g s m z false wx/\Lies wx w.heap.size [Iv 0,.string ⟨#[]⟩,.slice none 0 0])
   case first=>
    cases f:A7 s (j+1) 45 with
    | false=>
     have J:Hid (A7 s (j+1) 45=false):=f;rw[f]at u;clear f;go_wp2_with fail;go_meet
     case rel=>exact⟨nx s j,j+1,rfl,mQx y.out J.out,by omega,by omega,by simpa using u,T⟩
    | true=>
     have J:Hid (A7 s (j+1) 45=true):=f;rw[f]at u;simp only[if_true]at u;have c6:=(D9 f).1;clear f;go_wp2_with fail;refine(G5 (j+1+1) g s z false _ u.lies (by omega) (by omega)).mono ?_;rintro e w4 ⟨rfl,W⟩;go_wp2_with fail;refine(lQp (nx s (j+1+1)) _).mono ?_;rintro e w5 ⟨rfl,rfl⟩;have p:=u.below W;have C:=T.below W T.lt;obtain⟨N,O,P⟩:=C.three (a:=nN);have p0:=C.fr 0;have p1:=C.fr 1;have p2:=C.fr 2;have b9:=p.lies.fr 1;have c2:=p.lies.fr 3;have d4:=p.lies.c1;have d5:=p.lies.c3;have V:(iXl (nx s (j+1+1))=false\/(nx s (j+1+1)).toNat<(nx s j).toNat)->cls ((rest s i).length+1) [] (rest s i)=.none:=by
      intro hb;rw[<-I.out];cases n with
      | zero=>rfl
      | succ n=>rw[cls,hQ8 y.out J.out hb]
     have x:=V;clear V;cases G:iXl (nx s (j+1+1)) with
     | false=>
      have a6:=x (.inl G);have R:Hid (cls ((rest s i).length+1) [] (rest s i)=.none):=a6;clear a6 x G;go_wp2_with fail;refine bodyPost_ret (v:=B4 nN (.slice none 0 0)) (by simp[results,Tryz.results129,go_sem,N,O,P,nN]) rfl (Or.inr ⟨R.out,j+1+1,by omega,by omega,rfl,(p.set3 true).res (Nat.le_refl _) M _ _ _⟩)
     | true=>
      have a8:Hid (iXl (nx s (j+1+1))=true):=G;have c7:=q9 G;clear G
      by_cases a4:(nx s (j+1+1)).toNat<(nx s j).toNat
      ·have R:Hid (cls ((rest s i).length+1) [] (rest s i)=.none):=x (.inr a4)
       clear x;go_wp2_with fail;refine bodyPost_ret (v:=B4 nN (.slice none 0 0)) (by simp[results,Tryz.results129,go_sem,N,O,P,nN]) rfl (Or.inr ⟨R.out,j+1+1,by omega,by omega,rfl,(p.set3 true).res (Nat.le_refl _) M _ _ _⟩)
      ·clear x
       go_wp2_with fail;go_meet
       case rel=>exact⟨nx s (j+1+1),j+1+1+1,rfl,mQy y.out J.out a8.out (by omega),by omega,by omega,p.set1 (j+1+1+1),C.set_other g 1 _ L⟩
   case rest=>
    obtain⟨b,m,rfl,a7,c9,b6,b5,a3⟩:=hcut;have a9:Hid (gXc (rest s j)=some (nx s j,b,rest s m)):=a7;clear a7;have c5:=K5;go_wp2_with fail;go_loopw [3,9] (fun o c wy=>∃k:Nat,k<=128/\c=Iv k/\o=Sv (gXo d (nx s j) b k)/\Bw wc wy) (fun _ c _=>128-(intOf c).toNat)
    case atStart=>exact⟨0,by omega,rfl,by simp[gXo],Br⟩
    case round=>
     obtain⟨k,hk,rfl,rfl,r⟩:=hrel;have d0:=bXl d k (nx s j) b
     by_cases a4:k<128
     ·go_wp2_with fail
      refine(kQo (gXo d (nx s j) b k) k _ (by omega) (by omega)).mono ?_;rintro e w6 ⟨rfl,rfl⟩
      by_cases h1:(nx s j).toNat<=k
      ·by_cases h2:k<=b.toNat
       ·cases K:Ls.has (gXo d (nx s j) b k) (UInt8.ofNat k) with
        | true=>
         have H:Hid (gXo d (nx s j) b (k+1)=gXo d (nx s j) b k):=by show _=_;rw[cQh,if_neg (by simp[K])]
         clear K;go_wp2_with fail;go_roundw
         case rel=>exact⟨k+1,by omega,by go_num,by rw[H.out],r⟩
         case measure=>simp[intOf];omega
        | false=>
         have H:Hid (gXo d (nx s j) b (k+1)=gXo d (nx s j) b k++[UInt8.ofNat k]):=by show _=_;rw[cQh,if_pos ⟨h1,h2,K⟩]
         clear K;go_wp2_with fail;go_roundw
         case rel=>exact⟨k+1,by omega,by go_num,by rw[H.out];exact fQs _ _,Bj r (A5 _ _)⟩
         case measure=>simp[intOf];omega
       ·have H:Hid (gXo d (nx s j) b (k+1)=gXo d (nx s j) b k):=by show _=_;rw[cQh,if_neg (by omega)]
        go_wp2_with fail;go_roundw
        case rel=>exact⟨k+1,by omega,by go_num,by rw[H.out],r⟩
        case measure=>simp[intOf];omega
      ·have H:Hid (gXo d (nx s j) b (k+1)=gXo d (nx s j) b k):=by show _=_;rw[cQh,if_neg (by omega)]
       go_wp2_with fail;go_roundw
       case rel=>exact⟨k+1,by omega,by go_num,by rw[H.out],r⟩
       case measure=>simp[intOf];omega
     ·have b2:k=128:=by omega
      subst b2;have a5:=b5.below r
      have b4:=a3.below r a3.lt;go_wp2_with fail;refine(O5 m 93 g s z false _ a5.lies (by omega) (by omega)).mono ?_;rintro e w7 ⟨rfl,a1⟩;have q:=a5.trans a1;have E:=b4.grown a1.grown (by simp[L]);obtain⟨N,O,P⟩:=E.three (a:=nN);have p0:=E.fr 0;have p1:=E.fr 1;have p2:=E.fr 2;have X:∀l,n=l+1->cls n d (rest s j)=if (rest s m).head?=some 93 then some (rng d (nx s j) b,(rest s m).tail) else cls l (rng d (nx s j) b) (rest s m):=by
       intro l e;rw[e,cls,a9.out]
      obtain⟨l,b7⟩:∃l,n=l+1:=⟨n-1,by omega⟩;have U:Hid (cls n d (rest s j)=if (rest s m).head?=some 93 then some (rng d (nx s j) b,(rest s m).tail) else cls l (rng d (nx s j) b) (rest s m)):=X l b7;clear X;have b8:(rest s m).length<l:=by simp at hn ⊢;omega
      cases f:A7 s m 93 with
      | true=>
       have Q:Hid (cls ((rest s i).length+1) [] (rest s i)=some (rng d (nx s j) b,rest s (m+1))):=by
        show _=_;rw[<-I.out,U.out,if_pos (C4.2 f),E7]
       have d1:=(D9 f).1;rw[f]at q;simp only[if_true]at q;clear f;go_wp2_with fail;refine bodyPost_ret (v:=B4 (Ls.set (rng d (nx s j) b)) (.slice none 0 0)) (by simp[results,Tryz.results129,go_sem,N,O,P,Ls.set,rng]) rfl (Or.inl ⟨_,_,Q.out,rfl,?_⟩);rw[F4,show s.size-(s.size-(m+1))=m+1 from by omega];exact q.res (Nat.le_refl _) M _ _ _
      | false=>
       have Q:Hid (cls l (rng d (nx s j) b) (rest s m)=cls ((rest s i).length+1) [] (rest s i)):=by
        show _=_;rw[<-I.out,U.out,if_neg (by rw[C4,f];simp)]
       rw[f]at q;simp only[Bool.false_eq_true,if_false]at q;clear f;go_wp2_with fail;go_roundw
       case rel=>exact⟨_,m,l,rfl,by unfold rng at *;omega,by omega,b6,b8,Q.out,q,E⟩
       case measure=>
        rw[q.lies.c1,A.lies.c1];simp[intOf];omega
variable {W:World}{res:Rd}(s:By)(D:Nat)(c:UInt8)(pb i z:Nat)(w:World)
def PPost (w:World)(pb:Nat)(s:By)(i z:Nat)(res:Rd):Ending->World->Prop:=fun e w'=>
 (∃d t y,res=some (d,t)/\e=.returned (B4 (eX5 d) y)/\PV w' (B8 w w') (eX5 d) y/\Left w pb s (s.size-t.length) (z+dsize d) false w')\/
 (res=.none/\∃p y i' z',e=.returned (B4 p y)/\PV w' (B8 w w') p y/\i<=i'/\i'<=s.size+1/\z'<=z+(i'-i)/\Left w pb s i' z' true w')
def Y1 (s:By)(D:Nat):Prop:=∀(pb i z:Nat) (w:World),PB w pb s i z false->i<=s.size->z<=1048576+i->
 Ca 39 #[.pointer (some ⟨pb,0,none⟩),.int .i64 (D:Int)] w (PPost w pb s i z (pat (13-D) (rest s i)))
def iQy (s:By)(D:Nat):Prop:=∀(pb i z:Nat) (w:World),PB w pb s i z false->i<s.size->z<=1048576+i->
 Ca 118 #[.pointer (some ⟨pb,0,none⟩),.int .i64 (D:Int)] w (PPost w pb s i z (fXg (pat (12-D)) (rest s i)))
theorem R4 (G:Nat->Prop)(k:Nat)(s:Lu):PV w G ⟨k,s,[]⟩ (.slice none 0 0):=by simp[PV]
theorem fQj {w:World}{a:Nat}{s:By}{i z j:Nat}{b:Lu}(d:res=some (Ls.place b,rest s j))(e:j<=s.size)(c:Left w a s j (z+1) false W) :
  PPost w a s i z res (.returned (B4 (Ls.set b) (.slice none 0 0))) W:=by
 refine .inl ⟨_,_,_,d,by rw[fX7],by rw[fX7];exact R4 _ _ _ _,?_⟩;rw[F4,gXe,show s.size-(s.size-j)=j from by omega];exact c
theorem T6 {w:World}{c:Nat}{s:By}{i z a b:Nat}(h:res=.none)(g:Left w c s a b true W)(d:i<=a)(e:a<=s.size+1)(f:b<=z+(a-i)) :
  PPost w c s i z res (.returned (B4 nN (.slice none 0 0))) W:=
 .inr ⟨h,_,_,a,b,rfl,R4 _ _ _ _,d,e,f,g⟩
theorem yQk (hs:s.size<=1048576)(h:PB w pb s i z false)(k:i<s.size)(C:z<=1048576+i)(d:nx s i=46) :
  Calls Tryz.prog 118 #[Pt pb,Iv (D:Int)] w (PPost w pb s i z (fXg (pat (12-D)) (rest s i))):=by
 have l:=h.lt;have A:¬w.heap.size=pb:=by omega
 have B:¬pb=w.heap.size:=by omega
 have g:Hid (fXg (pat (12-D)) (rest s i)=some (Ls.place az,rest s (i+1))):=by
  show _=_;rw[D4 k,d];rfl
 have j:Hid (nx s i=46):=d;clear d;have y:=K5;go_enter Tryz.func118,Tryz.ntmps118;go_wp2_with fail;refine(G5 i pb s z false _ (h.below (A5 _ _)) (by omega) (by omega)).mono ?_;rw[j.out];rintro e I ⟨rfl,f⟩;go_wp2_with fail;refine(M7 46 _).mono ?_;rintro e J ⟨rfl,rfl⟩;have b:=(Left.of_below h (A5 w (.cells #[Iv 0,.string ⟨#[]⟩,.slice none 0 0] 27))).below f;have c:=(C7 w [Iv 0,.string ⟨#[]⟩,.slice none 0 0]).below f (by simp);have E:=c.lt;obtain⟨m,n,o⟩:=c.three (a:=nN);have t:=c.fr 0;have u:=c.fr 1;have x:=c.fr 2;have p:=b.lies.fr 1;have F:=b.lies.c1;have q:=b.lies.fr 2;have G:=b.lies.c2;have r:=b.lies.fr 3;have H:=b.lies.c3;go_wp2_with fail;exact bodyPost_ret (v:=B4 (Ls.set az) (.slice none 0 0)) (by simp[results,Tryz.results118,go_sem,m,n,o,Ls.set,az]) rfl (fQj g.out (by omega) (((b.set1 (i+1)).set2 (z+1)).res (Nat.le_refl _) l _ _ _))
theorem yQp (hs:s.size<=1048576)(h:PB w pb s i z false)(n:i<s.size)(J:z<=1048576+i)(b:∀x,x∈([40,91,46,92,41,93,42,43,63,124,47,34]:Lu)->c≠x)(p:gXu c=true)(j:nx s i=c) :
  Calls Tryz.prog 118 #[Pt pb,Iv (D:Int)] w (PPost w pb s i z (fXg (pat (12-D)) (rest s i))):=by
 have o:=h.lt;have H:¬w.heap.size=pb:=by omega
 have I:¬pb=w.heap.size:=by omega
 have l:Hid (fXg (pat (12-D)) (rest s i)=some (Ls.place [c],rest s (i+1))):=by
  show _=_;rw[D4 n,j];unfold fXg;dsimp only;rw[if_neg (b 40 (by decide)),if_neg (b 91 (by decide)),if_neg (b 46 (by decide)),if_neg (b 92 (by decide)),if_neg];rintro (d|d)
  ·simp only[jX8,Bool.or_eq_true,beq_iff_eq]at d
   rcases d with ((((((d|d)|d)|d)|d)|d)|d)|d<;>exact b _ (by decide) d
  ·rw[p]at d;cases d
 have P:((c.toNat:Int)==40)=false:=by rw[beq_eq_false_iff_ne];intro e;exact b 40 (by decide) (UInt8.toNat_inj.1 (by simp;omega))
 have W:((c.toNat:Int)==91)=false:=by rw[beq_eq_false_iff_ne];intro e;exact b 91 (by decide) (UInt8.toNat_inj.1 (by simp;omega))
 have T:((c.toNat:Int)==46)=false:=by rw[beq_eq_false_iff_ne];intro e;exact b 46 (by decide) (UInt8.toNat_inj.1 (by simp;omega))
 have X:((c.toNat:Int)==92)=false:=by rw[beq_eq_false_iff_ne];intro e;exact b 92 (by decide) (UInt8.toNat_inj.1 (by simp;omega))
 have Q:((c.toNat:Int)==41)=false:=by rw[beq_eq_false_iff_ne];intro e;exact b 41 (by decide) (UInt8.toNat_inj.1 (by simp;omega))
 have Y:((c.toNat:Int)==93)=false:=by rw[beq_eq_false_iff_ne];intro e;exact b 93 (by decide) (UInt8.toNat_inj.1 (by simp;omega))
 have R:((c.toNat:Int)==42)=false:=by rw[beq_eq_false_iff_ne];intro e;exact b 42 (by decide) (UInt8.toNat_inj.1 (by simp;omega))
 have S:((c.toNat:Int)==43)=false:=by rw[beq_eq_false_iff_ne];intro e;exact b 43 (by decide) (UInt8.toNat_inj.1 (by simp;omega))
 have V:((c.toNat:Int)==63)=false:=by rw[beq_eq_false_iff_ne];intro e;exact b 63 (by decide) (UInt8.toNat_inj.1 (by simp;omega))
 have N:((c.toNat:Int)==124)=false:=by rw[beq_eq_false_iff_ne];intro e;exact b 124 (by decide) (UInt8.toNat_inj.1 (by simp;omega))
 have U:((c.toNat:Int)==47)=false:=by rw[beq_eq_false_iff_ne];intro e;exact b 47 (by decide) (UInt8.toNat_inj.1 (by simp;omega))
 have O:((c.toNat:Int)==34)=false:=by rw[beq_eq_false_iff_ne];intro e;exact b 34 (by decide) (UInt8.toNat_inj.1 (by simp;omega))
 clear b;have m:Hid (nx s i=c):=j;clear j;have G:=K5;go_enter Tryz.func118,Tryz.ntmps118;go_wp2_with fail;refine(G5 i pb s z false _ (h.below (A5 _ _)) (by omega) (by omega)).mono ?_;rw[m.out];rintro e Z ⟨rfl,k⟩;go_wp2_with fail;refine(M7 c _).mono ?_;rintro e w2 ⟨rfl,rfl⟩;have f:=(Left.of_below h (A5 w (.cells #[Iv 0,.string ⟨#[]⟩,.slice none 0 0] 27))).below k;have g:=(C7 w [Iv 0,.string ⟨#[]⟩,.slice none 0 0]).below k (by simp);have q:=g.lt;obtain⟨r,t,u⟩:=g.three (a:=nN);have C:=g.fr 0;have E:=g.fr 1;have F:=g.fr 2;have y:=f.lies.fr 1;have K:=f.lies.c1;have A:=f.lies.fr 2;have L:=f.lies.c2;have B:=f.lies.fr 3;have M:=f.lies.c3;go_wp2_with fail;exact bodyPost_ret (v:=B4 (Ls.set [c]) (.slice none 0 0)) (by simp[results,Tryz.results118,go_sem,r,t,u,q,Ls.set]) rfl (fQj l.out (by omega) ((((f.set1 (i+1)).set2 (z+1)).res (Nat.le_refl _) o _ _ _).below (A5 _ _)))
theorem yQn (hs:s.size<=1048576)(h:PB w pb s i z false)(m:i<s.size)(H:z<=1048576+i)(b:∀x,x∈([40,91,46,92,41,93,42,43,63,124,47,34]:Lu)->c≠x)(o:gXu c=false)(g:nx s i=c) :
  Calls Tryz.prog 118 #[Pt pb,Iv (D:Int)] w (PPost w pb s i z (fXg (pat (12-D)) (rest s i))):=by
 have n:=h.lt;have F:¬w.heap.size=pb:=by omega
 have G:¬pb=w.heap.size:=by omega
 have k:Hid (fXg (pat (12-D)) (rest s i)=.none):=by
  show _=_;rw[D4 m,g];unfold fXg;dsimp only;rw[if_neg (b 40 (by decide)),if_neg (b 91 (by decide)),if_neg (b 46 (by decide)),if_neg (b 92 (by decide)),if_pos (Or.inr o)]
 have O:((c.toNat:Int)==40)=false:=by rw[beq_eq_false_iff_ne];intro e;exact b 40 (by decide) (UInt8.toNat_inj.1 (by simp;omega))
 have V:((c.toNat:Int)==91)=false:=by rw[beq_eq_false_iff_ne];intro e;exact b 91 (by decide) (UInt8.toNat_inj.1 (by simp;omega))
 have S:((c.toNat:Int)==46)=false:=by rw[beq_eq_false_iff_ne];intro e;exact b 46 (by decide) (UInt8.toNat_inj.1 (by simp;omega))
 have W:((c.toNat:Int)==92)=false:=by rw[beq_eq_false_iff_ne];intro e;exact b 92 (by decide) (UInt8.toNat_inj.1 (by simp;omega))
 have P:((c.toNat:Int)==41)=false:=by rw[beq_eq_false_iff_ne];intro e;exact b 41 (by decide) (UInt8.toNat_inj.1 (by simp;omega))
 have X:((c.toNat:Int)==93)=false:=by rw[beq_eq_false_iff_ne];intro e;exact b 93 (by decide) (UInt8.toNat_inj.1 (by simp;omega))
 have Q:((c.toNat:Int)==42)=false:=by rw[beq_eq_false_iff_ne];intro e;exact b 42 (by decide) (UInt8.toNat_inj.1 (by simp;omega))
 have R:((c.toNat:Int)==43)=false:=by rw[beq_eq_false_iff_ne];intro e;exact b 43 (by decide) (UInt8.toNat_inj.1 (by simp;omega))
 have U:((c.toNat:Int)==63)=false:=by rw[beq_eq_false_iff_ne];intro e;exact b 63 (by decide) (UInt8.toNat_inj.1 (by simp;omega))
 have M:((c.toNat:Int)==124)=false:=by rw[beq_eq_false_iff_ne];intro e;exact b 124 (by decide) (UInt8.toNat_inj.1 (by simp;omega))
 have T:((c.toNat:Int)==47)=false:=by rw[beq_eq_false_iff_ne];intro e;exact b 47 (by decide) (UInt8.toNat_inj.1 (by simp;omega))
 have N:((c.toNat:Int)==34)=false:=by rw[beq_eq_false_iff_ne];intro e;exact b 34 (by decide) (UInt8.toNat_inj.1 (by simp;omega))
 clear b;have l:Hid (nx s i=c):=g;clear g;have E:=K5;go_enter Tryz.func118,Tryz.ntmps118;go_wp2_with fail;refine(G5 i pb s z false _ (h.below (A5 _ _)) (by omega) (by omega)).mono ?_;rw[l.out];rintro e Y ⟨rfl,j⟩;go_wp2_with fail;refine(M7 c _).mono ?_;rintro e Z ⟨rfl,rfl⟩;have d:=(Left.of_below h (A5 w (.cells #[Iv 0,.string ⟨#[]⟩,.slice none 0 0] 27))).below j;have f:=(C7 w [Iv 0,.string ⟨#[]⟩,.slice none 0 0]).below j (by simp);have I:=f.lt;obtain⟨p,q,r⟩:=f.three (a:=nN);have A:=f.fr 0;have B:=f.fr 1;have C:=f.fr 2;have t:=d.lies.fr 1;have J:=d.lies.c1;have u:=d.lies.fr 2;have K:=d.lies.c2;have y:=d.lies.fr 3;have L:=d.lies.c3;go_wp2_with fail;exact bodyPost_ret (v:=B4 nN (.slice none 0 0)) (by simp[results,Tryz.results118,go_sem,p,q,r,nN]) rfl (T6 k.out ((((d.set1 (i+1)).set2 (z+1)).set3 true).res (Nat.le_refl _) n _ _ _) (by omega) (by omega) (by omega))
theorem yQd (hs:s.size<=1048576)(h:PB w pb s i z false)(k:i<s.size)(C:z<=1048576+i){c0:UInt8}(hc:c0=41\/c0=93\/c0=42\/c0=43\/c0=63\/c0=124\/c0=47\/c0=34)(d:nx s i=c0) :
  Calls Tryz.prog 118 #[Pt pb,Iv (D:Int)] w (PPost w pb s i z (fXg (pat (12-D)) (rest s i))):=by
 have l:=h.lt;have A:¬w.heap.size=pb:=by omega
 have B:¬pb=w.heap.size:=by omega
 have g:Hid (fXg (pat (12-D)) (rest s i)=.none):=by
  show _=_;rw[D4 k,d];rcases hc with rfl|rfl|rfl|rfl|rfl|rfl|rfl|rfl<;>rfl
 have j:Hid _:=d;have X:Hid _:=hc;have Y:Hid _:=M7 c0;clear d hc;have y:=K5;go_enter Tryz.func118,Tryz.ntmps118;go_wp2_with fail;refine(G5 i pb s z false _ (h.below (A5 _ _)) (by omega) (by omega)).mono ?_;rw[j.out];rintro e I ⟨rfl,f⟩;rcases X.out with rfl|rfl|rfl|rfl|rfl|rfl|rfl|rfl<;>(go_wp2_with fail;refine(Y.out _).mono ?_;rintro e J ⟨rfl,rfl⟩;have b:=(Left.of_below h (A5 w (.cells #[Iv 0,.string ⟨#[]⟩,.slice none 0 0] 27))).below f;have c:=(C7 w [Iv 0,.string ⟨#[]⟩,.slice none 0 0]).below f (by simp);have E:=c.lt;obtain⟨m,n,o⟩:=c.three (a:=nN);have t:=c.fr 0;have u:=c.fr 1;have x:=c.fr 2;have p:=b.lies.fr 1;have F:=b.lies.c1;have q:=b.lies.fr 2;have G:=b.lies.c2;have r:=b.lies.fr 3;have H:=b.lies.c3;go_wp2_with fail;exact bodyPost_ret (v:=B4 nN (.slice none 0 0)) (by simp[results,Tryz.results118,go_sem,m,n,o,nN]) rfl (T6 g.out ((((b.set1 (i+1)).set2 (z+1)).set3 true).res (Nat.le_refl _) l _ _ _) (by omega) (by omega) (by omega)))
end Go.Proofs.YtfklinjaajafgaaGreatDoor
