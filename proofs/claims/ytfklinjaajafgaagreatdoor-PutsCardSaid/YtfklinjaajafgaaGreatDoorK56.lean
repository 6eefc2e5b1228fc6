import Derived.Test.YtfklinjaajafgaaGreatDoorK53
set_option maxRecDepth 100000
set_option maxHeartbeats 4000000
namespace Go.Proofs.YtfklinjaajafgaaGreatDoor
open Ls
open Go.RowKit
variable {u:Value}(d:Ls.D)(a:Ln)(ws:Lu)(b:Ln)(w:World)(G:Nat->Prop)(a3:Addr)(ty:TypeId)(y:Value)
def PartPost (w:World)(G:Nat->Prop)(a3:Addr)(ok:Prop)(l:Ln):Ending->World->Prop:=fun e w'=>
 (ok/\∃p,e=.returned (.pointer (some ⟨p,0,none⟩))/\PartV w' (Gn w G w') p l/\Bw w w')\/(¬ok/\e=.panicked [{v:=C9 a3,recovered:=false}]/\Bw w w')
abbrev W9 (t1:TypeId)(y1:Value)(n1:Nat)(t2:TypeId)(y2:Value)(n2:Nat)(g c u:Value):Obj:=.cells (J2 t1 y1 n1 t2 y2 n2 g c u) 98
abbrev M5 (t1:TypeId)(y1:Value)(n1:Nat)(t2:TypeId)(y2:Value)(n2:Nat):Obj:=.cells #[.iface t1 y1,.pointer (some ⟨n1,0,none⟩),.iface t2 y2,.pointer (some ⟨n2,0,none⟩)] 94
theorem bQj {w W:World}{G G1 G2:Nat->Prop}{l:Ln}{e f:TypeId}{i j g c:Value}{b d:Nat}(v:Bw w W)(t:Old w G)(r:Tx W G1 (.iface e i) b (dS l))(s:Tx W G2 (.iface f j) d (dV l))(o:∀k,G1 k->Gn w G W k)(p:∀k,G2 k->Gn w G W k)
  (y:Turns W (Gn w G W) g (inL (eX5 (dS l))) (A6 l)) (x:Turns W (Gn w G W) c (inL (eX5 (dV l))) (A8 l)) (A:Turns2 W (Gn w G W) u (inL (eX5 (dV l))) (inL (eX5 (dS l))) (A9 l)) :
  PartV (W.alloc (W9 e i b f j d g c u)) (Gn w G (W.alloc (W9 e i b f j d g c u))) W.heap.size l:=by
 have q:=v.size;have m:∀k,Gn w G W k->Gn w G (W.alloc (W9 e i b f j d g c u)) k:=fun k a=>a.imp id (fun h=>⟨h.1,by have:=h.2;simp;omega⟩);have z:∀k,Gn w G W k->k<W.heap.size:=Gn.old t q;have n:∀k,Gn w G W k->(W.alloc (W9 e i b f j d g c u)).heap[k]?=W.heap[k]?:=fun k a=>Below.heap_alloc _ _ _ (z k a);exact⟨e,i,b,f,j,d,g,c,u,.inr ⟨q,by simp⟩,Blk.new W _ _,r.mono (fun k a=>m k (o k a)) (fun k a=>n k (o k a)),s.mono (fun k a=>m k (p k a)) (fun k a=>n k (p k a)),y.mono m n,x.mono m n,A.mono m n⟩
theorem Blk.four {w:World}{g:Nat}{x y v:Value}{T:TypeId}(h:Blk w g #[x,y,u,v] T):Ce w g 0 x/\Ce w g 1 y/\Ce w g 2 u/\Ce w g 3 v:=⟨h.cell 0,h.cell 1,h.cell 2,h.cell 3⟩
theorem tQy:dS (fXs d)=d:=by simp[fXs,dS]
theorem tQ3:dV (fXs d)=d:=by simp[fXs,dV]
theorem gQy:dS (fXf d ws)=d:=by simp[fXf,dS]
theorem tQ4:dV (fXf d ws)=rnil:=by simp[fXf,dV]
theorem tQz:dS (iXp ws)=rnil:=by simp[iXp,dS]
theorem tQ5:dV (iXp ws)=iXg ws:=by simp[iXp,dV]
theorem tQj (u:dsize d<=24)(F:dn d<=100000)(c:Old w G)(h:Rep w G 0 d [.iface ty y]) :
  Calls Tryz.prog 168 #[.iface ty y] w (PartPost w G a3 True (fXs d)):=by
 have E:∀(l:Fn) (first j:Array Value) (w:World),(Instr.makeFunc l first j).run Tryz.prog w=.ok (.func l first j) w:=fun _ _ _ _=>rfl;have m:=aQ6 d (by omega) u w G c ty y h;clear h;go_enter Tryz.func168,Tryz.ntmps168;go_wp2_with fail;refine m.mono ?_;clear m;rintro e a ⟨ty,y,b,rfl,p,n⟩;have f:=A5 a (E2 (.iface ty y) b);have q:Blk (a.alloc (E2 (.iface ty y) b)) a.heap.size #[.iface ty y,Pt b] 92:=Blk.new a _ _;have o:=Bj n f;have v:=n.size;have r:(a.alloc (E2 (.iface ty y) b)).heap.size=a.heap.size+1:=by simp
 have i:=p.below (Gn.old c v) f;clear p f;go_upto_region 1 with (fail);generalize a.alloc (E2 (.iface ty y) b)=s at *;obtain⟨z,A,B,C⟩:=q.two;have t:Hid (PartPost w G a3 True (fXs d) (.returned (.pointer (some ⟨a.heap.size+1,0,none⟩))) (s.alloc (W9 ty y b ty y b (.func (.func 188) #[] #[]) (.func (.func 188) #[] #[]) (.func (.func 189) #[] #[])))):=by
  rw[<-r];refine .inl ⟨trivial,s.heap.size,rfl,bQj o c (by rw[tQy];exact i) (by rw[tQ3];exact i) (fun k g=>?_) (fun k g=>?_) (nQ9 _ _ _ _ (fun x=>by simp[fXs,A6])) (nQ9 _ _ _ _ (fun x=>by simp[fXs,A8])) (dXx _ _ _ _ _ (fun x y=>by simp[fXs,A9])),Bj o (A5 _ _)⟩
  ·exact g.imp id (fun h=>⟨h.1,by have:=h.2;omega⟩)
  ·exact g.imp id (fun h=>⟨h.1,by have:=h.2;omega⟩)
 clear i q r;go_wp2_with fail;go_ret;exact t.out
theorem oQd:Calls Tryz.prog 203 #[.string ⟨#[]⟩] w fun e a=>∃b,e=.returned (P5 b)/\Rep a (B8 w a) 0 rnil [P5 b]/\Bw w a:=
 lQ5 ⟨#[]⟩ (by decide) (fun c d=>by cases d) w
theorem fQl:dsize rnil<=24/\dn rnil<=1048576:=by rw[gXh,V5];omega
theorem aXk (hs:ws.length<=24)(T:∀c∈ws,c.toNat<=126)(hG:Old w G) :
  Calls Tryz.prog 180 #[A4 ws] w (PartPost w G a3 True (iXp ws)):=by
 have b3:∀(H:Fn) (first F:Array Value) (w:World),(Instr.makeFunc H first F).run Tryz.prog w=.ok (.func H first F) w:=fun _ _ _ _=>rfl;have B:Hid (∀c∈(⟨ws.toArray⟩:By).data.toList,c.toNat<=126):=T;have b4:(⟨ws.toArray⟩:By).size=ws.length:=by simp[ByteArray.size]
 clear T;go_enter Tryz.func180,Tryz.ntmps180;go_wp2_with fail;refine(oQd w).mono ?_;rintro e z ⟨sl,rfl,U,N⟩;have L:=aQ6 rnil fQl.2 fQl.1 z _ (fun k b=>b.2) _ _ U;clear U;go_wp2_with fail;refine L.mono ?_;clear L;rintro e A ⟨f,y,d,rfl,X,O⟩;have a6:=Bj N O;have C:Hid (Tx A (Gn z (B8 w z) A) (.iface f y) d rnil):=X;clear X;go_wp2_with fail;refine(lQ5 ⟨ws.toArray⟩ (by omega) B.out A).mono ?_;rintro e w3 ⟨b5,rfl,V,Q⟩;have M:=aQ6 (iXg ws) (by rw[gQz];omega) (by rw[iXi];omega) w3 _ (fun k b=>b.2) _ _ V;clear V;go_wp2_with fail;refine M.mono ?_;clear M;rintro e a ⟨i,j,g,rfl,Y,R⟩;have P:=Bj Q R;have a7:=Bj a6 P;have z1:=N.size;have z2:=O.size;have z3:=Q.size;have z4:=R.size;have p:=A5 a (M5 f y d i j g);have v:Blk (a.alloc (M5 f y d i j g)) a.heap.size #[.iface f y,.pointer (some ⟨d,0,none⟩),.iface i j,.pointer (some ⟨g,0,none⟩)] 94:=Blk.new a _ _;have u:=Bj a7 p;have E:Hid (∀W,Below (a.alloc (M5 f y d i j g)).heap.size (a.alloc (M5 f y d i j g)) W->Tx W (Gn w G (a.alloc (M5 f y d i j g))) (.iface f y) d (dS (iXp ws))/\Tx W (Gn w G (a.alloc (M5 f y d i j g))) (.iface i j) g (dV (iXp ws))):=fun W r=>by
  have z5:=p.size;rw[tQz,tQ5];have S:=Bj p r;refine⟨(C.out.below (Gn.old (fun k b=>b.2) z2) (Bj P S)).mono (fun k b=>?_) (fun _ _=>rfl),(Y.below (Gn.old (fun k b=>b.2) z4) S).mono (fun k b=>?_) (fun _ _=>rfl)⟩
  ·rcases b with h|h
   ·exact .inr ⟨h.1,by have:=h.2;omega⟩
   ·exact .inr ⟨by omega,by omega⟩
  ·rcases b with h|h
   ·exact .inr ⟨by have:=h.1;omega,by have:=h.2;omega⟩
   ·exact .inr ⟨by omega,by omega⟩
 clear B Y C p;go_upto_region 1 with (fail);generalize a.alloc (M5 f y d i j g)=l at *;have o:Hid (∀W:World,Below l.heap.size l W->W.cell? ⟨a.heap.size,0,none⟩=some (.iface f y)/\W.cell? ⟨a.heap.size,1,none⟩=some (.pointer (some ⟨d,0,none⟩))/\W.cell? ⟨a.heap.size,2,none⟩=some (.iface i j)/\W.cell? ⟨a.heap.size,3,none⟩=some (.pointer (some ⟨g,0,none⟩))):=fun W r=>(v.below r v.lt).four;obtain⟨a0,a1,a2,a5⟩:=o.out l (Below.refl _ _);clear v;go_region_held (fun q=>q.cell? ⟨a.heap.size,0,none⟩=some (.iface f y)/\q.cell? ⟨a.heap.size,1,none⟩=some (.pointer (some ⟨d,0,none⟩))/\q.cell? ⟨a.heap.size,2,none⟩=some (.iface i j)/\q.cell? ⟨a.heap.size,3,none⟩=some (.pointer (some ⟨g,0,none⟩))) (first|assumption|(refine⟨?_,?_,?_,?_⟩<;>assumption)|exact o.out _ (Below.refl _ _).drew|exact o.out _ m|exact o.out _ (Bj m (A5 _ _)))
  (first
   | (go_at_call_of 187 (A4 ws);refine(cQn ws _).mono ?_;rintro e Z ⟨I,rfl,a8,a9,J,a4⟩;have s:Below l.heap.size l Z:=Bj (Below.refl _ _).drew a4;have m:Below l.heap.size l Z:=s)
   | (go_at_call_of 187 (Value.string ⟨#[]⟩);refine(cQn [] _).mono ?_;rintro e n ⟨g2,rfl,b1,b2,K,t⟩;have m:Below l.heap.size l n:=Bj s t))
 all_goals
  have HP:Hid (PartPost w G a3 True (iXp ws) (.returned (.pointer (some ⟨n.heap.size,0,none⟩))) (n.alloc (W9 f y d i j g (Z9 I) (Z9 g2) (.func (.func 205) #[] #[])))):=by
   have z5:=u.size;have z6:=s.size;have z7:=t.size;have b0:l.heap.size<=I:=a8;refine .inl ⟨trivial,n.heap.size,rfl,bQj (Bj u m) hG ((E.out n m).1) ((E.out n m).2) (fun k b=>b.imp id (fun h=>⟨h.1,Nat.lt_of_lt_of_le h.2 m.size⟩)) (fun k b=>b.imp id (fun h=>⟨h.1,Nat.lt_of_lt_of_le h.2 m.size⟩)) (fQx _ (J.below t a9) (.inr ⟨by omega,by omega⟩) _ (fun x=>by simp[iXp,A6])) (fQx _ K (.inr ⟨by omega,by omega⟩) _ (fun x=>by simp[iXp,A8])) (dXz _ _ _ _ _ (fun x y=>by simp[iXp,A9])),Bj (Bj u m) (A5 _ _)⟩
  clear o J K;go_wp2_with fail;go_ret;exact HP.out
theorem wQ5 (T:dsize d<=24)(hn:dn d<=100000)(hs:ws.length<=1048576)(v:Old w G)(hc:EType w a3)(h:Rep w G 0 d [.iface ty y]) :
  Calls Tryz.prog 178 #[.iface ty y,A4 ws] w (PartPost w G a3 (inL (eX5 d) ws) (fXf d ws)):=by
 have c1:∀(R:Fn) (first Q:Array Value) (w:World),(Instr.makeFunc R first Q).run Tryz.prog w=.ok (.func R first Q) w:=fun _ _ _ _=>rfl;have b6:(Ba ws).size<=1048576:=by simpa [ByteArray.size] using hs
 have Y:=aQ6 d (by omega) T w G v ty y h;clear h hs;go_enter Tryz.func178,Tryz.ntmps178;go_wp2_with fail;refine Y.mono ?_;clear Y;rintro e J ⟨g,j,c,rfl,a7,a0⟩;have L:Hid (Tx J (Gn w G J) (.iface g j) c d):=a7;clear a7;go_wp2_with fail;refine(oQd J).mono ?_;rintro e w2 ⟨sl,rfl,a6,a2⟩;have Z:=aQ6 rnil fQl.2 fQl.1 w2 _ (fun k m=>m.2) _ _ a6;clear a6;go_wp2_with fail;refine Z.mono ?_;clear Z;rintro e a ⟨i,l,f,rfl,a8,a4⟩;have a1:=Bj a2 a4;have b3:=Bj a0 a1;have z1:=a0.size;have z2:=a2.size;have z3:=a4.size;have x:=A5 a (M5 g j c i l f);have I:Blk (a.alloc (M5 g j c i l f)) a.heap.size #[.iface g j,Pt c,.iface i l,Pt f] 94:=Blk.new a _ _;have a5:=Bj b3 x;have C:Hid (∀W,Below (a.alloc (M5 g j c i l f)).heap.size (a.alloc (M5 g j c i l f)) W->Tx W (Gn w G (a.alloc (M5 g j c i l f))) (.iface g j) c (dS (fXf d ws))/\Tx W (Gn w G (a.alloc (M5 g j c i l f))) (.iface i l) f (dV (fXf d ws))):=fun W s=>by
  have z4:=x.size;rw[gQy,tQ4];have hj:=Bj x s;refine⟨(L.out.below (Gn.old v z1) (Bj a1 hj)).mono (fun k m=>?_) (fun _ _=>rfl),(a8.below (Gn.old (fun k m=>m.2) z3) hj).mono (fun k m=>?_) (fun _ _=>rfl)⟩
  ·exact m.imp id (fun h=>⟨h.1,by have:=h.2;omega⟩)
  ·rcases m with h|h
   ·exact .inr ⟨by have:=h.1;omega,by have:=h.2;omega⟩
   ·exact .inr ⟨by omega,by omega⟩
 have HO:Hid (Old (a.alloc (M5 g j c i l f)) (Gn w G (a.alloc (M5 g j c i l f)))):=Gn.old v a5.size;clear a8 L x;go_upto_region 1 with (fail);generalize a.alloc (M5 g j c i l f)=K at *;have B:Hid (∀W:World,Bw K W->Ce W a.heap.size 0 (.iface g j)/\Ce W a.heap.size 1 (Pt c)/\Ce W a.heap.size 2 (.iface i l)/\Ce W a.heap.size 3 (Pt f)):=fun W s=>(I.below s I.lt).four;obtain⟨M,N,O,P⟩:=B.out K Br;have X:=eQx (t2:=i) (y2:=l) (n2:=f) ⟨ws.toArray⟩ HO.out (C.out K Br).1 (by rw[gQy];exact T) b6;clear I;go_wp2_with fail;refine X.mono ?_;clear X;rintro e o ⟨b,rfl,H,p⟩;have u:Hid (b=true↔inL (eX5 d) ws):=by rw[gQy]at H;exact H
 have t:=Bj a5 p;clear H;cases b with
 | false=>
  have HN:Hid (¬inL (eX5 d) ws):=fun h=>(by have:=u.out.2 h;cases this);have b1:=cQ8 a3 o (hc.below t);clear u;go_wp2_with fail;refine b1.mono ?_;rintro e A ⟨rfl,rfl⟩;go_wp2_with fail;exact⟨rfl,.inr ⟨HN.out,rfl,t⟩⟩
 | true=>
  have b0:Hid (inL (eX5 d) ws):=u.out.1 rfl;have r:Hid (∀W:World,Bw o W->Ce W a.heap.size 0 (.iface g j)/\Ce W a.heap.size 1 (Pt c)/\Ce W a.heap.size 2 (.iface i l)/\Ce W a.heap.size 3 (Pt f)):=fun W s=>B.out W (Bj p s);clear u B M N O P;go_wp2_with fail;refine(fQb o).mono ?_;rintro e A ⟨rfl,hw⟩;have b7:=hw.symm;clear hw;subst b7;obtain⟨M,N,O,P⟩:=r.out o Br;go_wp2_with fail;go_region_held (fun z=>Ce z a.heap.size 0 (.iface g j)/\Ce z a.heap.size 1 (Pt c)/\Ce z a.heap.size 2 (.iface i l)/\Ce z a.heap.size 3 (Pt f)) (first|assumption|(refine⟨?_,?_,?_,?_⟩<;>assumption)|exact r.out _ Br.drew|exact r.out _ n|exact r.out _ (Bj n (A5 _ _)))
   (first
    | (go_at_call_of 187 (Value.string ⟨#[]⟩);refine(cQn [] _).mono ?_;rintro e A ⟨S,rfl,b4,b5,U,b2⟩;have E:Bw o A:=Bj Br.drew b2;have n:Bw o A:=E)
    | (go_at_call_of 187 (A4 ws);refine(cQn ws _).mono ?_;rintro e q ⟨g2,rfl,b9,c0,V,F⟩;have n:Bw o q:=Bj E F))
  all_goals
   have HP:Hid (PartPost w G a3 (inL (eX5 d) ws) (fXf d ws) (.returned (Pt q.heap.size)) (q.alloc (W9 g j c i l f (Z9 S) (Z9 g2) (.func (.func 204) #[] #[])))):=by
    have z5:=t.size;have z6:=E.size;have z7:=F.size;have b8:o.heap.size<=S:=b4;refine .inl ⟨b0.out,q.heap.size,rfl,bQj (Bj t n) v ((C.out q (Bj p n)).1) ((C.out q (Bj p n)).2) (fun k m=>m.imp id (fun h=>⟨h.1,Ll h.2 (Bj p n).size⟩)) (fun k m=>m.imp id (fun h=>⟨h.1,Ll h.2 (Bj p n).size⟩)) (fQx _ (U.below F b5) (.inr ⟨by omega,by omega⟩) _ (fun a9=>by simp[fXf,A6])) (fQx _ V (.inr ⟨by omega,by omega⟩) _ (fun a9=>by simp[fXf,A8])) (dXy _ _ _ _ _ (fun a9 y=>by simp[fXf,A9])),Bj (Bj t n) (A5 _ _)⟩
   clear r U V;go_wp2_with fail;go_ret;exact HP.out
theorem tQw:dS (eX9 a b)=fXi (dS a) (dS b):=by simp[eX9,dS]
theorem tQ1:dV (eX9 a b)=fXi (dV a) (dV b):=by simp[eX9,dV]
theorem tQx:dS (fXc a b)=fXi (dS a) (dS b):=by simp[fXc,dS]
theorem tQ2:dV (fXc a b)=fXi (dV b) (dV a):=by simp[fXc,dV]
theorem tQ0:dS (fXn a b)=fXv (dS a) (dS b):=by simp[fXn,dS]
theorem tQ6:dV (fXn a b)=fXv (dV a) (dV b):=by simp[fXn,dV]
theorem vQi (v:OkL 120 a)(x:OkL 120 b)(M:eX7 a+eX7 b<=24)(R:gx a+gx b<=1099511627776)(a8:dn (dS a)+dn (dS b)<=100000)(b7:dn (dV a)+dn (dV b)<=100000)
    (j:Old w G)  (hc:EType w a3) (p q:Nat) (ha:PartV w G p a) (hb:PartV w G q b) (F:Prop) (hF:F↔(¬fXb (eX5 (dS a)) (eX5 (dS b))/\¬fXb (eX5 (dV a)) (eX5 (dV b)))) :
  Calls Tryz.prog 132 #[Pt p,Pt q] w (PartPost w G a3 F (eX9 a b)):=by
 have T:Hid (PartV w G p a/\PartV w G q b):=⟨ha,hb⟩;obtain⟨t1,y1,n1,t2,y2,n2,g1,c1,d1,b8,a0,a9,b0,_,_,_⟩:=ha;obtain⟨t3,y3,n3,t4,y4,n4,g2,c2,d2,b9,a4,b1,b2,_,_,_⟩:=hb;have c0:=fX3 a v;have c3:=fX3 b x;have c4:=fXz a v;have c5:=fXz b x;have P:Bw w ((w.alloc (.cells #[Pt p] 78)).alloc (.cells #[Pt q] 78)):=C6 w _ _;have c7:((w.alloc (.cells #[Pt p] 78)).alloc (.cells #[Pt q] 78)).heap.size=w.heap.size+1+1:=by simp
 have B:Blk ((w.alloc (.cells #[Pt p] 78)).alloc (.cells #[Pt q] 78)) w.heap.size #[Pt p] 78:=(Blk.new w _ _).of (Below.heap_alloc _ _ _ (by simp));have C:Blk ((w.alloc (.cells #[Pt p] 78)).alloc (.cells #[Pt q] 78)) (w.heap.size+1) #[Pt q] 78:=by
  have:=Blk.new (w.alloc (.cells #[Pt p] 78)) #[Pt q] 78;rw[World.size_alloc]at this;exact this
 have r:Hid (∀W:World,Below ((w.alloc (.cells #[Pt p] 78)).alloc (.cells #[Pt q] 78)).heap.size ((w.alloc (.cells #[Pt p] 78)).alloc (.cells #[Pt q] 78)) W->(Ce W p 0 (.iface t1 y1)/\Ce W p 1 (Pt n1)/\Ce W p 2 (.iface t2 y2)/\Ce W p 3 (Pt n2))/\(Ce W q 0 (.iface t3 y3)/\Ce W q 1 (Pt n3)/\Ce W q 2 (.iface t4 y4)/\Ce W q 3 (Pt n4))/\Ce W w.heap.size 0 (Pt p)/\W.cell? ⟨w.heap.size+1,0,none⟩=some (Pt q)):=fun W d=>by
  obtain⟨e0,e1,e2,e3,_,_,_⟩:=(a0.below (Bj P d) a0.lt).seven;obtain⟨f0,f1,f2,f3,_,_,_⟩:=(a4.below (Bj P d) a4.lt).seven;exact⟨⟨e0,e1,e2,e3⟩,⟨f0,f1,f2,f3⟩,(B.below d B.lt).cell 0,(C.below d C.lt).cell 0⟩
 have H1:Hid (∀W,Bw w W->Ca 152 #[.agg #[.iface t1 y1,Pt n1],.agg #[.iface t3 y3,Pt n3]] W (aQp W G a3 (¬fXb (eX5 (dS a)) (eX5 (dS b))) (fXi (dS a) (dS b)))):=fun W d=>
  eQa _ a3 _ _ _ _ _ _ _ (by omega) a8 W G (fun k m=>Ll (j k m) d.size) (hc.below d) (a9.below j d) (b1.below j d)
 have H2:Hid (∀W,Bw w W->Ca 152 #[.agg #[.iface t2 y2,Pt n2],.agg #[.iface t4 y4,Pt n4]] W (aQp W G a3 (¬fXb (eX5 (dV a)) (eX5 (dV b))) (fXi (dV a) (dV b)))):=fun W d=>
  eQa _ a3 _ _ _ _ _ _ _ (by omega) (by omega) W G (fun k m=>Ll (j k m) d.size) (hc.below d) (b0.below j d) (b2.below j d)
 have a5:Hid (∀W,Below ((w.alloc (.cells #[Pt p] 78)).alloc (.cells #[Pt q] 78)).heap.size ((w.alloc (.cells #[Pt p] 78)).alloc (.cells #[Pt q] 78)) W->Blk W w.heap.size #[Pt p] 78/\Blk W (w.heap.size+1) #[Pt q] 78):=fun W d=>⟨B.below d B.lt,C.below d C.lt⟩;have A:Hid (Bw w ((w.alloc (.cells #[Pt p] 78)).alloc (.cells #[Pt q] 78))):=P;have U:Hid (F↔(¬fXb (eX5 (dS a)) (eX5 (dS b))/\¬fXb (eX5 (dV a)) (eX5 (dV b)))):=hF;have c6:∀(fn:Fn) (first a7:Array Value) (w:World),(Instr.makeFunc fn first a7).run Tryz.prog w=.ok (.func fn first a7) w:=fun _ _ _ _=>rfl;clear b8 a0 a9 b0 b9 a4 b1 b2 hc hF B C P;go_enter Tryz.func132,Tryz.ntmps132;go_upto_region 1 with (fail);generalize ((w.alloc (.cells #[Pt p] 78)).alloc (.cells #[Pt q] 78))=o at *;have a6:Hid (∀e f y J z L u I,Bw o e->Bw e f->¬fXb (eX5 (dS a)) (eX5 (dS b))->¬fXb (eX5 (dV a)) (eX5 (dV b))->Tx e (Gn o G e) (.iface y z) u (fXi (dS a) (dS b))->Tx f (Gn e G f) (.iface J L) I (fXi (dV a) (dV b))->
   Hid (PartPost w G a3 F (eX9 a b) (.returned (Pt f.heap.size)) (f.alloc (W9 y z u J L I (.func (.func 153) #[] #[Pt w.heap.size,.pointer (some ⟨(w.heap.size+1),0,none⟩)]) (.func (.func 155) #[] #[Pt w.heap.size,.pointer (some ⟨(w.heap.size+1),0,none⟩)]) (.func (.func 156) #[] #[Pt w.heap.size,.pointer (some ⟨(w.heap.size+1),0,none⟩)]))))):=by
  intro e f y J z L u I E n s t N O;have i:=Bj E n;have Q:=Bj A.out i;have s2:=E.size;have s3:=n.size;have b6:Tx e (Gn w G e) (.iface y z) u (fXi (dS a) (dS b)):=N.mono (fun k m=>m.imp id (fun h=>⟨by have h1:o.heap.size<=k:=h.1;omega,h.2⟩)) (fun _ _=>rfl);have a1:=(T.out.1.below j Q).mono (G':=Gn w G f) (fun _ h=>.inl h) (fun _ _=>rfl);have a2:=(T.out.2.below j Q).mono (G':=Gn w G f) (fun _ h=>.inl h) (fun _ _=>rfl);obtain⟨Y,Z⟩:=a5.out f i;refine .inl ⟨U.out.2 ⟨s,t⟩,f.heap.size,rfl,bQj (G1:=Gn w G e) (G2:=Gn e G f) Q j (by rw[tQw];exact b6.below (Gn.old j (by omega)) n) (by rw[tQ1];exact O) (fun k m=>m.imp id (fun h=>⟨h.1,by have:=h.2;omega⟩)) (fun k m=>m.imp id (fun h=>⟨by have:=h.1;omega,h.2⟩)) ?_ ?_ ?_,Bj Q (A5 _ _)⟩
  ·exact dX6 a b v x M R s a1 a2 Y Z (.inr ⟨by omega,by omega⟩) (.inr ⟨by omega,by omega⟩)
  ·exact dX2 a b v x M R t a1 a2 Y Z (.inr ⟨by omega,by omega⟩) (.inr ⟨by omega,by omega⟩)
  ·exact eXa a b v x M R s t a1 a2 Y Z (.inr ⟨by omega,by omega⟩) (.inr ⟨by omega,by omega⟩)
 clear T a5 c0 c3 c4 c5 a8 b7 R v x M;obtain⟨⟨e0,e1,e2,e3⟩,⟨f0,f1,f2,f3⟩,x0,x1⟩:=r.out o Br;refine wp_region_held_drew (S:=(fun l=>(Ce l p 0 (.iface t1 y1)/\Ce l p 1 (Pt n1)/\Ce l p 2 (.iface t2 y2)/\Ce l p 3 (Pt n2))/\(Ce l q 0 (.iface t3 y3)/\Ce l q 1 (Pt n3)/\Ce l q 2 (.iface t4 y4)/\Ce l q 3 (Pt n4))/\Ce l w.heap.size 0 (Pt p)/\l.cell? ⟨w.heap.size+1,0,none⟩=some (Pt q))) (by kernel_rfl) ?_ (fun hHeld=>?_)
 ·exact r.out _ Br.drew
 refine tk 0 ?_;refine tk 1 ?_;refine tk 2 ?_;refine tk 3 ?_;refine tk 4 ?_;refine tk 5 ?_;refine tk 6 ?_;refine tk 7 ?_;refine tk 8 ?_;refine tk 9 ?_;refine tk 11 ?_;refine tk 12 ?_;refine tk 13 ?_;refine tk 14 ?_;refine tk 15 ?_;refine tk 16 ?_;refine tk 17 ?_;refine tk 18 ?_;refine tk 19 ?_;refine tk 20 ?_;refine tk 23 ?_;refine tk 24 ?_;refine tk 25 ?_;refine sp 10 (by kernel_rfl) rfl (fun K g=>?_);go_simp
 (refine(H1.out _ ?_).mono ?_;exact A.out.drew;rintro b5 e (⟨s,y,z,u,rfl,N,X⟩|⟨H,rfl,X⟩);rotate_left;(have V:Hid _:=H;clear H a6;go_wp2_with fail;exact⟨rfl,.inr ⟨fun h=>V.out (U.out.1 h).1,rfl,Bj A.out.drew X⟩⟩);have b3:Hid _:=s;clear s;have E:Bw o e:=Bj Br.drew X;have i:Bw o e:=E)
 go_wp2_with fail;refine g.out _ _ ?_ (fun hHeld=>?_)
 ·exact r.out _ i
 clear g K;refine sp 21 (by kernel_rfl) rfl (fun K g=>?_);go_simp
 (refine(H2.out _ (Bj A.out i)).mono ?_;rintro b5 f (⟨t,J,L,I,rfl,O,n⟩|⟨H,rfl,n⟩);rotate_left;(have V:Hid _:=H;clear H;go_wp2_with fail;exact⟨rfl,.inr ⟨fun h=>V.out (U.out.1 h).2,rfl,Bj (Bj A.out i) n⟩⟩);have b4:Hid _:=t;clear t;have i:Bw o f:=Bj i n)
 go_wp2_with fail;refine g.out _ _ ?_ (fun hHeld=>?_)
 ·exact r.out _ i
 clear g K;refine tk 22 ?_;refine tk 26 ?_;refine sp 27 (by kernel_rfl) rfl (fun K g=>?_);go_simp
 refine g.out _ _ ?_ (fun hHeld=>?_)
 ·exact r.out _ (Bj i (A5 _ _))
 clear g K;refine sp 28 (by kernel_rfl) rfl (fun K g=>?_);go_simp
 refine g.out _ _ ?_ (fun hHeld=>?_)
 ·exact r.out _ (Bj i (A5 _ _))
 clear g K;refine wpAnyH_done (by kernel_rfl) ?_ _;have HP:=a6.out e f y J z L u I E n b3.out b4.out N O;clear N O;go_wp2_with fail;go_ret;exact HP.out
variable (a b:Ln)(w:World)(a3:Addr)(G:Nat->Prop)(p q:Nat)(F:Prop)
theorem sQp (v:OkL 120 a)(x:OkL 120 b)(M:eX7 a+eX7 b<=24)(R:gx a+gx b<=1099511627776)(a8:dn (dS a)+dn (dS b)<=100000)(b7:dn (dV a)+dn (dV b)<=100000)
    (j:Old w G)  (hc:EType w a3)  (ha:PartV w G p a) (hb:PartV w G q b)  (hF:F↔(¬fXb (eX5 (dS a)) (eX5 (dS b))/\¬fXb (eX5 (dV b)) (eX5 (dV a)))) :
  Calls Tryz.prog 170 #[Pt p,Pt q] w (PartPost w G a3 F (fXc a b)):=by
 have T:Hid (PartV w G p a/\PartV w G q b):=⟨ha,hb⟩;obtain⟨t1,y1,n1,t2,y2,n2,g1,c1,d1,b8,a0,a9,b0,_,_,_⟩:=ha;obtain⟨t3,y3,n3,t4,y4,n4,g2,c2,d2,b9,a4,b1,b2,_,_,_⟩:=hb;have c0:=fX3 a v;have c3:=fX3 b x;have c4:=fXz a v;have c5:=fXz b x;have P:Bw w ((w.alloc (.cells #[Pt p] 78)).alloc (.cells #[Pt q] 78)):=C6 w _ _;have c7:((w.alloc (.cells #[Pt p] 78)).alloc (.cells #[Pt q] 78)).heap.size=w.heap.size+1+1:=by simp
 have B:Blk ((w.alloc (.cells #[Pt p] 78)).alloc (.cells #[Pt q] 78)) w.heap.size #[Pt p] 78:=(Blk.new w _ _).of (Below.heap_alloc _ _ _ (by simp));have C:Blk ((w.alloc (.cells #[Pt p] 78)).alloc (.cells #[Pt q] 78)) (w.heap.size+1) #[Pt q] 78:=by
  have:=Blk.new (w.alloc (.cells #[Pt p] 78)) #[Pt q] 78;rw[World.size_alloc]at this;exact this
 have r:Hid (∀W:World,Below ((w.alloc (.cells #[Pt p] 78)).alloc (.cells #[Pt q] 78)).heap.size ((w.alloc (.cells #[Pt p] 78)).alloc (.cells #[Pt q] 78)) W->(Ce W p 0 (.iface t1 y1)/\Ce W p 1 (Pt n1)/\Ce W p 2 (.iface t2 y2)/\Ce W p 3 (Pt n2))/\(Ce W q 0 (.iface t3 y3)/\Ce W q 1 (Pt n3)/\Ce W q 2 (.iface t4 y4)/\Ce W q 3 (Pt n4))/\Ce W w.heap.size 0 (Pt p)/\W.cell? ⟨w.heap.size+1,0,none⟩=some (Pt q)):=fun W d=>by
  obtain⟨e0,e1,e2,e3,_,_,_⟩:=(a0.below (Bj P d) a0.lt).seven;obtain⟨f0,f1,f2,f3,_,_,_⟩:=(a4.below (Bj P d) a4.lt).seven;exact⟨⟨e0,e1,e2,e3⟩,⟨f0,f1,f2,f3⟩,(B.below d B.lt).cell 0,(C.below d C.lt).cell 0⟩
 have H1:Hid (∀W,Bw w W->Ca 152 #[.agg #[.iface t1 y1,Pt n1],.agg #[.iface t3 y3,Pt n3]] W (aQp W G a3 (¬fXb (eX5 (dS a)) (eX5 (dS b))) (fXi (dS a) (dS b)))):=fun W d=>
  eQa _ a3 _ _ _ _ _ _ _ (by omega) a8 W G (fun k m=>Ll (j k m) d.size) (hc.below d) (a9.below j d) (b1.below j d)
 have H2:Hid (∀W,Bw w W->Ca 152 #[.agg #[.iface t4 y4,Pt n4],.agg #[.iface t2 y2,Pt n2]] W (aQp W G a3 (¬fXb (eX5 (dV b)) (eX5 (dV a))) (fXi (dV b) (dV a)))):=fun W d=>
  eQa _ a3 _ _ _ _ _ _ _ (by omega) (by omega) W G (fun k m=>Ll (j k m) d.size) (hc.below d) (b2.below j d) (b0.below j d)
 have a5:Hid (∀W,Below ((w.alloc (.cells #[Pt p] 78)).alloc (.cells #[Pt q] 78)).heap.size ((w.alloc (.cells #[Pt p] 78)).alloc (.cells #[Pt q] 78)) W->Blk W w.heap.size #[Pt p] 78/\Blk W (w.heap.size+1) #[Pt q] 78):=fun W d=>⟨B.below d B.lt,C.below d C.lt⟩;have A:Hid (Bw w ((w.alloc (.cells #[Pt p] 78)).alloc (.cells #[Pt q] 78))):=P;have U:Hid (F↔(¬fXb (eX5 (dS a)) (eX5 (dS b))/\¬fXb (eX5 (dV b)) (eX5 (dV a)))):=hF;have c6:∀(fn:Fn) (first a7:Array Value) (w:World),(Instr.makeFunc fn first a7).run Tryz.prog w=.ok (.func fn first a7) w:=fun _ _ _ _=>rfl;clear b8 a0 a9 b0 b9 a4 b1 b2 hc hF B C P;go_enter Tryz.func170,Tryz.ntmps170;go_upto_region 1 with (fail);generalize ((w.alloc (.cells #[Pt p] 78)).alloc (.cells #[Pt q] 78))=o at *;have a6:Hid (∀e f y J z L u I,Bw o e->Bw e f->¬fXb (eX5 (dS a)) (eX5 (dS b))->¬fXb (eX5 (dV b)) (eX5 (dV a))->Tx e (Gn o G e) (.iface y z) u (fXi (dS a) (dS b))->Tx f (Gn e G f) (.iface J L) I (fXi (dV b) (dV a))->
   Hid (PartPost w G a3 F (fXc a b) (.returned (Pt f.heap.size)) (f.alloc (W9 y z u J L I (.func (.func 190) #[] #[Pt w.heap.size,.pointer (some ⟨(w.heap.size+1),0,none⟩)]) (.func (.func 191) #[] #[.pointer (some ⟨(w.heap.size+1),0,none⟩),Pt w.heap.size]) (.func (.func 192) #[] #[.pointer (some ⟨(w.heap.size+1),0,none⟩),Pt w.heap.size]))))):=by
  intro e f y J z L u I E n s t N O;have i:=Bj E n;have Q:=Bj A.out i;have s2:=E.size;have s3:=n.size;have b6:Tx e (Gn w G e) (.iface y z) u (fXi (dS a) (dS b)):=N.mono (fun k m=>m.imp id (fun h=>⟨by have h1:o.heap.size<=k:=h.1;omega,h.2⟩)) (fun _ _=>rfl);have a1:=(T.out.1.below j Q).mono (G':=Gn w G f) (fun _ h=>.inl h) (fun _ _=>rfl);have a2:=(T.out.2.below j Q).mono (G':=Gn w G f) (fun _ h=>.inl h) (fun _ _=>rfl);obtain⟨Y,Z⟩:=a5.out f i;refine .inl ⟨U.out.2 ⟨s,t⟩,f.heap.size,rfl,bQj (G1:=Gn w G e) (G2:=Gn e G f) Q j (by rw[tQx];exact b6.below (Gn.old j (by omega)) n) (by rw[tQ2];exact O) (fun k m=>m.imp id (fun h=>⟨h.1,by have:=h.2;omega⟩)) (fun k m=>m.imp id (fun h=>⟨by have:=h.1;omega,h.2⟩)) ?_ ?_ ?_,Bj Q (A5 _ _)⟩
  ·exact dX4 a b v x M R s a1 a2 Y Z (.inr ⟨by omega,by omega⟩) (.inr ⟨by omega,by omega⟩)
  ·exact dX0 a b v x M R t a1 a2 Y Z (.inr ⟨by omega,by omega⟩) (.inr ⟨by omega,by omega⟩)
  ·exact dX8 a b v x M R s t a1 a2 Y Z (.inr ⟨by omega,by omega⟩) (.inr ⟨by omega,by omega⟩)
 clear T a5 c0 c3 c4 c5 a8 b7 R v x M;obtain⟨⟨e0,e1,e2,e3⟩,⟨f0,f1,f2,f3⟩,x0,x1⟩:=r.out o Br;refine wp_region_held_drew (S:=(fun l=>(Ce l p 0 (.iface t1 y1)/\Ce l p 1 (Pt n1)/\Ce l p 2 (.iface t2 y2)/\Ce l p 3 (Pt n2))/\(Ce l q 0 (.iface t3 y3)/\Ce l q 1 (Pt n3)/\Ce l q 2 (.iface t4 y4)/\Ce l q 3 (Pt n4))/\Ce l w.heap.size 0 (Pt p)/\l.cell? ⟨w.heap.size+1,0,none⟩=some (Pt q))) (by kernel_rfl) ?_ (fun hHeld=>?_)
 ·exact r.out _ Br.drew
 refine tk 0 ?_;refine tk 1 ?_;refine tk 2 ?_;refine tk 3 ?_;refine tk 4 ?_;refine tk 5 ?_;refine tk 6 ?_;refine tk 7 ?_;refine tk 8 ?_;refine tk 9 ?_;refine tk 11 ?_;refine tk 12 ?_;refine tk 13 ?_;refine tk 14 ?_;refine tk 15 ?_;refine tk 16 ?_;refine tk 17 ?_;refine tk 18 ?_;refine tk 19 ?_;refine tk 20 ?_;refine tk 23 ?_;refine tk 24 ?_;refine tk 25 ?_;refine sp 10 (by kernel_rfl) rfl (fun K g=>?_);go_simp
 (refine(H1.out _ ?_).mono ?_;exact A.out.drew;rintro b5 e (⟨s,y,z,u,rfl,N,X⟩|⟨H,rfl,X⟩);rotate_left;(have V:Hid _:=H;clear H a6;go_wp2_with fail;exact⟨rfl,.inr ⟨fun h=>V.out (U.out.1 h).1,rfl,Bj A.out.drew X⟩⟩);have b3:Hid _:=s;clear s;have E:Bw o e:=Bj Br.drew X;have i:Bw o e:=E)
 go_wp2_with fail;refine g.out _ _ ?_ (fun hHeld=>?_)
 ·exact r.out _ i
 clear g K;refine sp 21 (by kernel_rfl) rfl (fun K g=>?_);go_simp
 (refine(H2.out _ (Bj A.out i)).mono ?_;rintro b5 f (⟨t,J,L,I,rfl,O,n⟩|⟨H,rfl,n⟩);rotate_left;(have V:Hid _:=H;clear H;go_wp2_with fail;exact⟨rfl,.inr ⟨fun h=>V.out (U.out.1 h).2,rfl,Bj (Bj A.out i) n⟩⟩);have b4:Hid _:=t;clear t;have i:Bw o f:=Bj i n)
 go_wp2_with fail;refine g.out _ _ ?_ (fun hHeld=>?_)
 ·exact r.out _ i
 clear g K;refine tk 22 ?_;refine tk 26 ?_;refine sp 27 (by kernel_rfl) rfl (fun K g=>?_);go_simp
 refine g.out _ _ ?_ (fun hHeld=>?_)
 ·exact r.out _ (Bj i (A5 _ _))
 clear g K;refine sp 28 (by kernel_rfl) rfl (fun K g=>?_);go_simp
 refine g.out _ _ ?_ (fun hHeld=>?_)
 ·exact r.out _ (Bj i (A5 _ _))
 clear g K;refine wpAnyH_done (by kernel_rfl) ?_ _;have HP:=a6.out e f y J z L u I E n b3.out b4.out N O;clear N O;go_wp2_with fail;go_ret;exact HP.out
theorem xQy (z:Bool)(b:EType w a3) :
  Calls Tryz.prog 134 #[.bool z] w fun e a=>a=w/\((z=true/\e=.returned (.tuple #[]))\/(z=false/\e=.panicked [{v:=C9 a3,recovered:=false}])):=by
 cases z with
 | true=>exact(fQb w).mono (fun e a h=>⟨h.2,.inl ⟨rfl,h.1⟩⟩)
 | false=>exact(cQ8 a3 w b).mono (fun e a h=>⟨h.2,.inr ⟨rfl,h.1⟩⟩)
theorem eXe (x:OkL 120 a)(X:OkL 120 b)(N:eX7 a+eX7 b<=24)(b4:dn (dS a)+dn (dS b)<=100000)(b5:dn (dV a)+dn (dV b)<=100000)
    (g:Old w G)  (hc:EType w a3)  (ha:PartV w G p a) (hb:PartV w G q b)  (hF:F↔¬jX2 (eX5 (dS a)) (eX5 (dS b))) :
  Calls Tryz.prog 122 #[Pt p,Pt q] w (PartPost w G a3 F (fXn a b)):=by
 have HA:Hid (PartV w G p a/\PartV w G q b):=⟨ha,hb⟩;obtain⟨Y,y1,u,Z,y2,U,g1,c1,d1,d3,a4,R,b6,_,_,_⟩:=ha;obtain⟨t3,y3,v,t4,y4,V,g2,c2,d2,d4,a7,T,b7,_,_,_⟩:=hb;have d5:=fX3 a x;have d6:=fX3 b X;have d7:=fXz a x;have d8:=fXz b X;have P:Bw w ((w.alloc (.cells #[Pt p] 78)).alloc (.cells #[Pt q] 78)):=C6 w _ _;have a8:((w.alloc (.cells #[Pt p] 78)).alloc (.cells #[Pt q] 78)).heap.size=w.heap.size+1+1:=by simp
 have z:Blk ((w.alloc (.cells #[Pt p] 78)).alloc (.cells #[Pt q] 78)) w.heap.size #[Pt p] 78:=(Blk.new w _ _).of (Below.heap_alloc _ _ _ (by simp));have A:Blk ((w.alloc (.cells #[Pt p] 78)).alloc (.cells #[Pt q] 78)) (w.heap.size+1) #[Pt q] 78:=by
  have:=Blk.new (w.alloc (.cells #[Pt p] 78)) #[Pt q] 78;rw[World.size_alloc]at this;exact this
 have n:Hid (∀W:World,Below ((w.alloc (.cells #[Pt p] 78)).alloc (.cells #[Pt q] 78)).heap.size ((w.alloc (.cells #[Pt p] 78)).alloc (.cells #[Pt q] 78)) W->(Ce W p 0 (.iface Y y1)/\Ce W p 1 (Pt u)/\Ce W p 2 (.iface Z y2)/\Ce W p 3 (Pt U))/\(Ce W q 0 (.iface t3 y3)/\Ce W q 1 (Pt v)/\Ce W q 2 (.iface t4 y4)/\Ce W q 3 (Pt V))/\Ce W w.heap.size 0 (Pt p)/\W.cell? ⟨w.heap.size+1,0,none⟩=some (Pt q)):=fun W e=>by
  obtain⟨e0,e1,e2,e3,_,_,_⟩:=(a4.below (Bj P e) a4.lt).seven;obtain⟨f0,f1,f2,f3,_,_,_⟩:=(a7.below (Bj P e) a7.lt).seven;exact⟨⟨e0,e1,e2,e3⟩,⟨f0,f1,f2,f3⟩,(z.below e z.lt).cell 0,(A.below e A.lt).cell 0⟩
 have c0:Hid (∀W,Bw w W->Ca 38 #[Pt u,Pt v] W (dQs W (jX2 (eX5 (dS a)) (eX5 (dS b))))):=fun W e=>by
  have hO:Old W G:=fun k m=>Ll (g k m) e.size;obtain⟨c4,c5,hN⟩:=(R.below g e).nt hO (by omega);obtain⟨P',Q',c6⟩:=(T.below g e).nt hO (by omega);exact rQn W u v c4 c5 P' Q' _ _ R.wd T.wd hN c6
 have H1:Hid (∀W,Bw w W->Ca 135 #[.agg #[.iface Y y1,Pt u],.agg #[.iface t3 y3,Pt v]] W (TxPost W G (fXv (dS a) (dS b)))):=fun W e=>
  kQa _ _ _ _ _ _ _ _ (by omega) b4 W G (fun k m=>Ll (g k m) e.size) (R.below g e) (T.below g e)
 have H2:Hid (∀W,Bw w W->Ca 135 #[.agg #[.iface Z y2,Pt U],.agg #[.iface t4 y4,Pt V]] W (TxPost W G (fXv (dV a) (dV b)))):=fun W e=>
  kQa _ _ _ _ _ _ _ _ (by omega) b5 W G (fun k m=>Ll (g k m) e.size) (b6.below g e) (b7.below g e)
 have a9:Hid (∀W,Below ((w.alloc (.cells #[Pt p] 78)).alloc (.cells #[Pt q] 78)).heap.size ((w.alloc (.cells #[Pt p] 78)).alloc (.cells #[Pt q] 78)) W->Blk W w.heap.size #[Pt p] 78/\Blk W (w.heap.size+1) #[Pt q] 78):=fun W e=>⟨z.below e z.lt,A.below e A.lt⟩;have s:Hid (Bw w ((w.alloc (.cells #[Pt p] 78)).alloc (.cells #[Pt q] 78))):=P;have HF:Hid (F↔¬jX2 (eX5 (dS a)) (eX5 (dS b))):=hF;have HC:Hid (EType w a3):=hc;have d9:∀(fn:Fn) (first b1:Array Value) (w:World),(Instr.makeFunc fn first b1).run Tryz.prog w=.ok (.func fn first b1) w:=fun _ _ _ _=>rfl;clear d3 a4 R b6 d4 a7 T b7 hc hF z A P;go_enter Tryz.func122,Tryz.ntmps122;go_upto_region 1 with (fail);generalize ((w.alloc (.cells #[Pt p] 78)).alloc (.cells #[Pt q] 78))=y at *;have b0:Hid (∀o j f H I J L C E,Bw y o->Bw o j->Bw j f->F->Tx j (Gn o G j) (.iface H J) C (fXv (dS a) (dS b))->Tx f (Gn j G f) (.iface I L) E (fXv (dV a) (dV b))->
   Hid (PartPost w G a3 F (fXn a b) (.returned (Pt f.heap.size)) (f.alloc (W9 H J C I L E (.func (.func 136) #[] #[Pt w.heap.size,.pointer (some ⟨(w.heap.size+1),0,none⟩)]) (.func (.func 137) #[] #[Pt w.heap.size,.pointer (some ⟨(w.heap.size+1),0,none⟩)]) (.func (.func 138) #[] #[Pt w.heap.size,.pointer (some ⟨(w.heap.size+1),0,none⟩)]))))):=by
  intro o j f H I J L C E b3 B t d0 c7 O;have i:=Bj b3 (Bj B t);have Q:=Bj s.out i;have s2:=b3.size;have s3:=B.size;have s4:=t.size;have a5:=(HA.out.1.below g Q).mono (G':=Gn w G f) (fun _ h=>.inl h) (fun _ _=>rfl);have a6:=(HA.out.2.below g Q).mono (G':=Gn w G f) (fun _ h=>.inl h) (fun _ _=>rfl);obtain⟨a1,a2⟩:=a9.out f i;refine .inl ⟨d0,f.heap.size,rfl,bQj (G1:=Gn o G j) (G2:=Gn j G f) Q g (by rw[tQ0];exact c7.below (Gn.old (fun k m=>Ll (g k m) (by omega)) s3) t) (by rw[tQ6];exact O) (fun k m=>m.imp id (fun h=>⟨by have:=h.1;omega,by have:=h.2;omega⟩)) (fun k m=>m.imp id (fun h=>⟨by have:=h.1;omega,h.2⟩)) ?_ ?_ ?_,Bj Q (A5 _ _)⟩
  ·exact dX7 a b x N a5 a6 a1 a2 (.inr ⟨by omega,by omega⟩) (.inr ⟨by omega,by omega⟩)
  ·exact dX3 a b x N a5 a6 a1 a2 (.inr ⟨by omega,by omega⟩) (.inr ⟨by omega,by omega⟩)
  ·exact eXb a b x X N a5 a6 a1 a2 (.inr ⟨by omega,by omega⟩) (.inr ⟨by omega,by omega⟩)
 clear HA a9 d5 d6 d7 d8 b4 b5 x X N;obtain⟨⟨e0,e1,e2,e3⟩,⟨f0,f1,f2,f3⟩,x0,x1⟩:=n.out y Br;go_region_held (fun d=>(Ce d p 0 (.iface Y y1)/\Ce d p 1 (Pt u)/\Ce d p 2 (.iface Z y2)/\Ce d p 3 (Pt U))/\(Ce d q 0 (.iface t3 y3)/\Ce d q 1 (Pt v)/\Ce d q 2 (.iface t4 y4)/\Ce d q 3 (Pt V))/\Ce d w.heap.size 0 (Pt p)/\d.cell? ⟨w.heap.size+1,0,none⟩=some (Pt q)) (first|with_reducible assumption|with_reducible exact n.out _ Br.drew|with_reducible exact n.out _ i)
  (first
   | (go_at_call 38;refine(c0.out _ ?_).mono ?_;exact s.out.drew;rintro a0 w1 ⟨b9,rfl,hz,c8⟩;have M:Hid (b9=true↔¬jX2 (eX5 (dS a)) (eX5 (dS b))):=hz;clear hz;have r:Bw y w1:=Bj Br.drew c8;have i:Bw y w1:=r)
   | (go_at_call 134;refine(xQy _ a3 b9 (HC.out.below (Bj s.out r))).mono ?_;rintro a0 o ⟨rfl,⟨b8,rfl⟩|⟨a8,rfl⟩⟩;rotate_left;(have HN:Hid (¬F):=(fun h=>by have:=M.out.2 (HF.out.1 h);rw[a8]at this;cases this);clear M a8 b0;go_wp2_with fail;exact⟨rfl,.inr ⟨HN.out,rfl,Bj s.out r⟩⟩);have c3:Hid F:=HF.out.2 (M.out.1 b8);clear M b8))
 all_goals
  obtain⟨⟨e0,e1,e2,e3⟩,⟨f0,f1,f2,f3⟩,x0,x1⟩:=n.out o r;go_wp2_with fail;refine wp_region_held_drew (S:=(fun d=>(Ce d p 0 (.iface Y y1)/\Ce d p 1 (Pt u)/\Ce d p 2 (.iface Z y2)/\Ce d p 3 (Pt U))/\(Ce d q 0 (.iface t3 y3)/\Ce d q 1 (Pt v)/\Ce d q 2 (.iface t4 y4)/\Ce d q 3 (Pt V))/\Ce d w.heap.size 0 (Pt p)/\d.cell? ⟨w.heap.size+1,0,none⟩=some (Pt q))) (by kernel_rfl) ?_ (fun hHeld=>?_)
  ·exact n.out _ r.drew
  refine tk 0 ?_;refine tk 1 ?_;refine tk 2 ?_;refine tk 3 ?_;refine tk 4 ?_;refine tk 5 ?_;refine tk 6 ?_;refine tk 7 ?_;refine tk 8 ?_;refine tk 9 ?_;refine tk 11 ?_;refine tk 12 ?_;refine tk 13 ?_;refine tk 14 ?_;refine tk 15 ?_;refine tk 16 ?_;refine tk 17 ?_;refine tk 18 ?_;refine tk 19 ?_;refine tk 20 ?_;refine tk 23 ?_;refine tk 24 ?_;refine tk 25 ?_;refine sp 10 (by kernel_rfl) rfl (fun K l=>?_);go_simp
  (refine(H1.out _ ?_).mono ?_;exact(Bj s.out r).drew;rintro a0 j ⟨H,J,C,rfl,O,c9⟩;have B:Bw o j:=Bj Br.drew c9;have i:Bw y j:=Bj r B)
  go_wp2_with fail;refine l.out _ _ ?_ (fun hHeld=>?_)
  ·exact n.out _ i
  clear l K;refine sp 21 (by kernel_rfl) rfl (fun K l=>?_);go_simp
  (refine(H2.out _ (Bj s.out i)).mono ?_;rintro a0 f ⟨I,L,E,rfl,b2,t⟩;have i:Bw y f:=Bj i t)
  go_wp2_with fail;refine l.out _ _ ?_ (fun hHeld=>?_)
  ·exact n.out _ i
  clear l K;refine tk 22 ?_;refine tk 26 ?_;refine sp 27 (by kernel_rfl) rfl (fun K l=>?_);go_simp
  refine l.out _ _ ?_ (fun hHeld=>?_)
  ·exact n.out _ (Bj i (A5 _ _))
  clear l K;refine sp 28 (by kernel_rfl) rfl (fun K l=>?_);go_simp
  refine l.out _ _ ?_ (fun hHeld=>?_)
  ·exact n.out _ (Bj i (A5 _ _))
  clear l K;refine wpAnyH_done (by kernel_rfl) ?_ _;have HP:=b0.out o j f H I J L C E r B t c3.out O b2;clear O b2;go_wp2_with fail;go_ret;exact HP.out
end Go.Proofs.YtfklinjaajafgaaGreatDoor
