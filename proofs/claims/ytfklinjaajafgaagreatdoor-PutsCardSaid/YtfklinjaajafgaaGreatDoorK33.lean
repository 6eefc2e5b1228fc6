import Derived.Test.YtfklinjaajafgaaGreatDoorK32
set_option maxRecDepth 100000
set_option maxHeartbeats 4000000
namespace Go.Proofs.YtfklinjaajafgaaGreatDoor
open Ls hiding none
open Go.RowKit
variable {G:Nat->Prop}{S T t:Tab}{a b:Pr}{base k n ph tb x:Nat}{ps:List Pr}{v v0:Value}{w w0:World}
theorem TV.at' (h:TV w G tb t){r:List (List Nat)}(g:t.to[x]?=some r)(H:k<r.length) :
  ∃a e b q f c d,w.cell? ⟨tb,0,none⟩=some (.slice (some ⟨a,0,none⟩) t.to.length e)/\w.cell? ⟨a,x,none⟩=some (.slice (some ⟨b,0,none⟩) q f)/\w.cell? ⟨b,k,none⟩=some (.slice c (t.row x k).length d)/\G tb/\G a/\G b/\q=r.length/\IV w G (.slice c (t.row x k).length d) (t.row x k):=by
 obtain⟨E,O,N,F,⟨s,K,o,y⟩,_⟩:=h;have M:=(List.getElem?_eq_some_iff.1 g).1;rcases K with⟨_,rfl⟩|⟨a,e,B,rfl,u⟩
 ·simp at o;omega
 ·have J:s[x]?=some s[x]:=List.getElem?_eq_getElem (by omega)
  obtain⟨i,L,p,z⟩:=y x _ r J g;rcases L with⟨_,rfl⟩|⟨b,f,C,A,v⟩
  ·simp at p;omega
  ·have I:i[k]?=some i[k]:=List.getElem?_eq_getElem (by omega)
   have m:=List.getElem?_eq_getElem H;have j:=z k _ _ I m;have n:t.row x k=r[k]:=by unfold Tab.row;rw[g];dsimp only;rw[m]
   obtain⟨c,d,l,_⟩:=j.shape;refine⟨a,e,b,i.length,f,c,d,?_,?_,?_,E,B,C,p,?_⟩
   ·simp only[World.cell?,F];simp[o]
   ·rw[u x (by omega),A]
   ·rw[v k (by omega),l,n]
   ·rw[n,<-l];exact j
theorem TV.end' (h:TV w G tb t){b:Bool}(f:t.ends[x]?=some b) :
  ∃a d,w.cell? ⟨tb,1,none⟩=some (.slice (some ⟨a,0,none⟩) t.ends.length d)/\w.cell? ⟨a,x,none⟩=some (.bool b)/\G tb/\G a:=by
 obtain⟨j,n,m,k,_,l⟩:=h;have c:=(List.getElem?_eq_some_iff.1 f).1;rcases l with⟨_,e⟩|⟨a,d,i,rfl,g⟩
 ·simp at e;rw[e]at c;simp at c
 ·refine⟨a,d,?_,?_,j,i⟩
  ·simp only[World.cell?,k];simp
  ·rw[g x (by simpa using c)]
   rw[List.getElem?_eq_getElem c]at f;simp[Option.some.inj f]
def X7 (S T:Tab)(a:Pr)(k:Nat):List Pr:=(List.range k).flatMap fun k=>F9 0 (S.row a.2.1 k) (T.row a.2.2 k)
theorem cQ7 {a b:List Nat}{x:Pr}:x∈F9 ph a b↔x.1=ph/\x.2.1∈a/\x.2.2∈b:=by
 obtain⟨p,y,z⟩:=x;unfold F9;simp only[List.mem_flatMap,List.mem_map,Prod.mk.injEq];constructor
 ·rintro ⟨c,g,d,h,rfl,rfl,rfl⟩;exact⟨rfl,g,h⟩
 ·rintro ⟨rfl,e,f⟩;exact⟨y,e,z,f,rfl,rfl,rfl⟩
theorem hQp:b∈X7 S T a k↔jXe S T k a b:=by
 unfold X7 jXe;simp only[List.mem_flatMap,List.mem_range,cQ7,Tab.mem_row];constructor
 ·rintro ⟨g,c,d,e,f⟩;exact⟨d,g,c,e,f⟩
 ·rintro ⟨d,g,c,e,f⟩;exact⟨g,c,d,e,f⟩
theorem nQx (S T:Tab)(a:Pr)(k:Nat):X7 S T a (k+1)=X7 S T a k++F9 0 (S.row a.2.1 k) (T.row a.2.2 k):=by
 unfold X7;rw[List.range_succ,List.flatMap_append];simp
theorem jQ9 (h:jXe S T k a b)(g:k<=n):jXe S T n a b:=by
 obtain⟨c,e,f,d⟩:=h;exact⟨c,e,by omega,d⟩
theorem xQw {a b:List Nat}{m:Nat}(c:m<a.length)(d:x=a[m]){y:Pr}(h:y∈F9 ph (a.take m) b++(b.take n).map fun z=>(ph,x,z)):y∈F9 ph a b:=by
 rw[cQ7];rw[List.mem_append]at h;rcases h with h|h
 ·rw[cQ7]at h
  exact⟨h.1,List.mem_of_mem_take h.2.1,h.2.2⟩
 ·obtain⟨z,e,rfl⟩:=List.mem_map.1 h
  exact⟨rfl,by rw[d];exact List.getElem_mem c,List.mem_of_mem_take e⟩
theorem nQq {N:Nat}(h:N<=991233):3*(N*N)<=2947628580867:=by
 have:=Nat.mul_le_mul h h;omega
def Ge (w:World)(v:Value):Nat->Prop:=fun k=>k<w.heap.size/\some k≠v.ownBlock
theorem GrowsP.ge (h:GrowsP w0 base v0 w v ps):∀k,Ge w0 v0 k->Ge w v k/\w.heap[k]?=w0.heap[k]?:=fun k a=>by
 obtain⟨b,c⟩:=h.block a.1 a.2;exact⟨⟨Ll a.1 h.grown.size,c⟩,b⟩
theorem GrowsP.cell (h:GrowsP w0 base v0 w v ps)(a:Ge w0 v0 k)(o:Nat):w.cell? ⟨k,o,none⟩=w0.cell? ⟨k,o,none⟩:=Y3 (h.ge k a).2 o
theorem rQa (p q:Pat)(a2 a5:List Pat)(hP:Room a2)(hQ:Room a5)(g4:p∈a2)(h0:q∈a5)(nP:a2.length<=991233)(nQ:a5.length<=991233)(sp:fXx p)(sq:fXx q)(y e5:Value)(w:World)(G:Nat->Prop)(E:Old w G)(hp:PV w G p y)(hq:PV w G q e5) :
  Calls Tryz.prog 17 #[B4 p y,B4 q e5] w fun e w'=>∃b:Bool,e=.returned (.bool b)/\(b=true↔¬jX2 p q)/\Bw w w':=by
 have Hp:Hid _:=hp;have Hq:Hid _:=hq;obtain⟨y1,y2,y3,rfl⟩:=PV.slice _ _ hp;obtain⟨z1,z2,z3,rfl⟩:=PV.slice _ _ hq;have b8:=hP.ok p g4;have b9:=hQ.ok q h0;have a7:=C6 w (.cells #[.int .i64 p.kind,.string ⟨p.signs.toArray⟩,.slice y1 y2 y3] 27) (.cells #[.int .i64 q.kind,.string ⟨q.signs.toArray⟩,.slice z1 z2 z3] 27);have d7:=C7 (w.alloc (.cells #[.int .i64 p.kind,.string ⟨p.signs.toArray⟩,.slice y1 y2 y3] 27)) (C2 q (.slice z1 z2 z3));rw[World.size_alloc]at d7;have f7:Lies ((w.alloc (.cells #[.int .i64 p.kind,.string ⟨p.signs.toArray⟩,.slice y1 y2 y3] 27)).alloc (.cells #[.int .i64 q.kind,.string ⟨q.signs.toArray⟩,.slice z1 z2 z3] 27)) w.heap.size (C2 p (.slice y1 y2 y3)):=by
  unfold Lies;rw[Below.heap_alloc _ _ _ (by simp)];exact C7 w (C2 p (.slice y1 y2 y3))
 go_enter Tryz.func17,Tryz.ntmps17;go_wp2_with fail;refine(lQd p q b8.1 b9.1 b8.2.2.1 b9.2.2.1 b8.2.1 b9.2.1 _ _ _ G (E.below a7) (Hp.out.below a7 E fun _ h=>h) (Hq.out.below a7 E fun _ h=>h)).mono ?_;rintro e w1 ⟨L,rfl,hL,l8,a9⟩;have d3:=Bj a7 a9;have f8:=f7.below a9 (by simp;omega);have f9:=d7.below a9 (by simp);obtain⟨c0,c1,c2⟩:=f8.three;go_wp2_with fail;refine(fQu p a2 hP g4 L (by omega) _ _ G (E.below d3) (Hp.out.below d3 E fun _ h=>h)).mono ?_;rintro e w2 ⟨sb,S,u,rfl,h2,X,m2,k8,b4⟩;have d4:=Bj d3 b4;have l3:=a9.size;simp at l3;have g0:=f9.below b4 (by omega);obtain⟨d0,d1,d2⟩:=g0.three;go_wp2_with fail;refine(fQu q a5 hQ h0 L (by omega) _ _ G (E.below d4) (Hq.out.below d4 E fun _ h=>h)).mono ?_;rintro e f ⟨tb,T,v,rfl,h4,Y,m3,k9,d5⟩;have f2:=Bj d4 d5;clear d0 d1 d2 g0;have a0:=A5 f (.cells #[.int .i64 0,.int .i64 0,.int .i64 0] 68);have g9:PL (f.alloc (.cells #[.int .i64 0,.int .i64 0,.int .i64 0] 68)) f.heap.size (.slice (some ⟨f.heap.size,0,none⟩) 1 1) [(0,0,0)]:=
  World.ownsRow_lit (e:=68) (size:=3) f (Y9 [(0,0,0)]).toArray 1 (Nat.le_refl _) (by unfold maxLen;omega) rfl
 have i0:TV (f.alloc (.cells #[.int .i64 0,.int .i64 0,.int .i64 0] 68)) (Ge (f.alloc (.cells #[.int .i64 0,.int .i64 0,.int .i64 0] 68)) (.slice (some ⟨f.heap.size,0,none⟩) 1 1)) sb S:=
  h2.mono (fun k A=>by
   have h3:=d5.size;exact⟨⟨by simp;omega,by simp[Value.ownBlock];omega⟩,(Bj d5 a0).block k A.2⟩)
 have i1:TV (f.alloc (.cells #[.int .i64 0,.int .i64 0,.int .i64 0] 68)) (Ge (f.alloc (.cells #[.int .i64 0,.int .i64 0,.int .i64 0] 68)) (.slice (some ⟨f.heap.size,0,none⟩) 1 1)) tb T:=
  h4.mono (fun k A=>⟨⟨by simp;omega,by simp[Value.ownBlock];omega⟩,a0.block k A.2⟩)
 have gp:=GrowsP.start g9;have j4:0<u.length:=(List.getElem?_eq_some_iff.1 X.first).1;have j7:0<v.length:=(List.getElem?_eq_some_iff.1 Y.first).1;have i7:=BF.start (jXe S T L.length) (lXv S T) (I:=fun a=>a.1=0/\a.2.1<u.length/\a.2.2<v.length) ⟨rfl,j4,j7⟩;have HI:Hid (∀a:Pr,(a.1=0/\a.2.1<u.length/\a.2.2<v.length)->(a.1=0\/a.1=1\/a.1=2)/\a.2.1<max u.length v.length/\a.2.2<max u.length v.length):=fun a ha=>⟨.inl ha.1,by omega,by omega⟩;have HE:Hid (∀a b:Pr,(a.1=0/\a.2.1<u.length/\a.2.2<v.length)->jXe S T L.length a b->(b.1=0/\b.2.1<u.length/\b.2.2<v.length)):=by
  rintro a b ha ⟨h1,k,A,C,h3⟩;exact⟨h1,X.row_lt ha.2.1 A _ ((S.mem_row _ _ _).2 C),Y.row_lt ha.2.2 A _ ((T.mem_row _ _ _).2 h3)⟩
 have hN:=nQq (N:=max u.length v.length) (by omega);have f0:=lXz b8.1 b9.1 sp sq hL X Y;have a8:=Bj f2 a0;have l0:f.heap.size<=(f.alloc (.cells #[.int .i64 0,.int .i64 0,.int .i64 0] 68)).heap.size:=a0.size;have h5:∀k,(Value.slice (some ⟨f.heap.size,0,none⟩) 1 1).ownBlock=some k->w.heap.size<=k:=fun k e=>by
  have:=f2.size;have e2:f.heap.size=k:=by simpa [Value.ownBlock] using e
  omega
 clear g9 h2 h4 a0 Hp Hq;go_wp2_with fail;generalize f.alloc (.cells #[.int .i64 0,.int .i64 0,.int .i64 0] 68)=wl at *;generalize (Value.slice (some ⟨f.heap.size,0,none⟩) 1 1)=v0 at *;go_loopw [8,9] (fun l iv wr=>∃(i:Nat) (c:List Pr),iv=.int .i64 i/\GrowsP wl f.heap.size v0 wr l c/\BF (jXe S T L.length) (lXv S T) (fun a=>a.1=0/\a.2.1<u.length/\a.2.2<v.length) c i) (fun _ iv _=>2947628580868-(intOf iv).toNat)
 case atStart=>exact⟨0,[(0,0,0)],rfl,gp,i7⟩
 case round=>
  obtain⟨i,c,rfl,gr,x⟩:=hrel;have l9:=x.length HI.out;have g1:c≠[]:=fun e=>by have:=x.first;rw[e]at this;simp at this
  obtain⟨g,o,rfl⟩:=gr.pl.some g1
  by_cases a1:i<c.length
  ·obtain⟨c0,c1,c2⟩:=gr.pl.cells i a1
   obtain⟨g8,hx,hy⟩:=x.inR _ (List.getElem_mem a1);have e9:Hid (c[i].1=0):=g8;clear g8;have k3:=World.ownsRow.lt gr.pl g rfl;have p0:=T4 wr c[i] 0;have p1:=T4 wr c[i] 1;have p2:=T4 wr c[i] 2;simp only[T7,List.getElem?_cons_zero,List.getElem?_cons_succ]at p0 p1 p2;have a6:=gr.below (A5 wr (.cells #[.int .i64 c[i].1,.int .i64 c[i].2.1,.int .i64 c[i].2.2] 68));have g6:Ge (wr.alloc (.cells #[.int .i64 c[i].1,.int .i64 c[i].2.1,.int .i64 c[i].2.2] 68)) (.slice (some ⟨g,0,none⟩) c.length o) wr.heap.size:=⟨by simp,by simp[Value.ownBlock];omega⟩;have tS:=i0.mono a6.ge;have tT:=i1.mono a6.ge;have l1:c[i].2.1<S.ends.length:=by rw[X.lenE];exact hx
   have l2:c[i].2.2<T.ends.length:=by rw[Y.lenE];exact hy
   have c8:S.ends[c[i].2.1]?=some S.ends[c[i].2.1]:=List.getElem?_eq_getElem l1;have c9:T.ends[c[i].2.2]?=some T.ends[c[i].2.2]:=List.getElem?_eq_getElem l2;obtain⟨gS,cS,e0,e1,_,_⟩:=tS.end' c8;obtain⟨gT,cT,e2,e3,_,_⟩:=tT.end' c9;have e7:Hid (S.ends[c[i].2.1]?=some S.ends[c[i].2.1]):=c8;have e8:Hid (T.ends[c[i].2.2]?=some T.ends[c[i].2.2]):=c9;clear c8 c9;go_upto_if 52 with fail
   go_cut [52] (fun l6 d=>∃b:Bool,l6=.bool b/\(b=true↔lXv S T c[i])/\Below (wr.heap.size+1) (wr.alloc (.cells #[.int .i64 c[i].1,.int .i64 c[i].2.1,.int .i64 c[i].2.2] 68)) d)
   case first=>
    cases F:S.ends[c[i].2.1] with
    | true=>
     rw[F]at e1;cases V:T.ends[c[i].2.2] with
     | true=>
      rw[V]at e3;have t:Hid (lXv S T c[i]):=⟨by rw[e7.out,F],by rw[e8.out,V]⟩;clear F V;go_wp2_with fail;go_quiet (fail)
      go_wp2_with fail;go_meet
      case rel=>exact⟨true,rfl,by simp[t.out],J6 _ nq _⟩
     | false=>
      rw[V]at e3;have t:Hid (¬lXv S T c[i]):=fun h=>by have C:=h.2;rw[e8.out,V]at C;cases C
      clear F V;go_wp2_with fail;go_quiet (fail)
      go_wp2_with fail;go_meet
      case rel=>exact⟨false,rfl,by simp[t.out],J6 _ nq _⟩
    | false=>
     rw[F]at e1;have t:Hid (¬lXv S T c[i]):=fun h=>by have C:=h.1;rw[e7.out,F]at C;cases C
     clear F;go_wp2_with fail;go_quiet (fail)
     go_wp2_with fail;go_meet
     case rel=>exact⟨false,rfl,by simp[t.out],J6 _ nq _⟩
   case rest=>
    obtain⟨b,rfl,b5,U⟩:=hcut;have R:=a6.below (w':=wc) (by simpa[Bw] using U);cases b with
    | true=>
     have t:Hid (∃n,Hit (jXe S T L.length) (lXv S T) n (0,0,0)):=x.found a1 (b5.1 rfl);clear b5;go_wp2_with fail;go_ret;exact⟨false,rfl,by rw[<-f0];simp[t.out],a8.grown R.grown (by have:=a8.size;omega) h5⟩
    | false=>
     have t:Hid (¬lXv S T c[i]):=fun h=>by have:=b5.2 h;cases this
     clear b5 e0 e1 e2 e3;have q0:wc.cell? ⟨wr.heap.size,0,none⟩=some (.int .i64 c[i].1):=(U.cell (p:=⟨wr.heap.size,0,none⟩) (by show wr.heap.size<_;omega)).trans p0;have q1:wc.cell? ⟨wr.heap.size,1,none⟩=some (.int .i64 c[i].2.1):=(U.cell (p:=⟨wr.heap.size,1,none⟩) (by show wr.heap.size<_;omega)).trans p1;have q2:wc.cell? ⟨wr.heap.size,2,none⟩=some (.int .i64 c[i].2.2):=(U.cell (p:=⟨wr.heap.size,2,none⟩) (by show wr.heap.size<_;omega)).trans p2;have l4:=i0.mono R.ge;have l5:=i1.mono R.ge;have g7:Ge wc (.slice (some ⟨g,0,none⟩) c.length o) wr.heap.size:=⟨by have:=U.size;simp at this;omega,g6.2⟩;have HB:Hid (∀m:List Pr,(∀b,b∈m->jXe S T L.length c[i] b)->(E3 c m).length<=2947628580867):=fun m hm=>
      Nat.le_trans (x.part a1 hm (fun b s=>HE.out _ b ⟨e9.out,hx,hy⟩ s) HI.out) hN
     clear p0 p1 p2 tS tT g6;have gc:=GrowsP.start R.pl;obtain⟨rS,d9,h8,_⟩:=X.row c[i].2.1 _ (List.getElem?_eq_getElem hx);obtain⟨rT,e4,h9,_⟩:=Y.row c[i].2.2 _ (List.getElem?_eq_getElem hy);have m6:c[i].2.1<S.to.length:=(List.getElem?_eq_some_iff.1 d9).1;have m7:c[i].2.2<T.to.length:=(List.getElem?_eq_some_iff.1 e4).1;have c4:Hid (S.to[c[i].2.1]?=some rS/\rS.length=L.length):=⟨d9,h8⟩;have c5:Hid (T.to[c[i].2.2]?=some rT/\rT.length=L.length):=⟨e4,h9⟩;clear d9 e4 h8 h9;go_wp2_with fail;clear U a6 k3;generalize wr.heap.size=Z at *;go_loopw [8,11] (fun l kv d=>∃k:Nat,k<=L.length/\kv=.int .i64 k/\GrowsP wc f.heap.size (.slice (some ⟨g,0,none⟩) c.length o) d l (E3 c (X7 S T c[i] k))) (fun _ kv _=>L.length-(intOf kv).toNat)
     case atStart=>exact⟨0,Nat.zero_le _,rfl,gc⟩
     case round=>
      obtain⟨k,A,rfl,gk⟩:=hrel
      by_cases d6:k<L.length
      ·obtain⟨M,cA,P,b6,c6,la,lc,H,J,K,A0,A1,A2,k5,h6⟩:=l4.at' c4.out.1 (k:=k) (by have:=c4.out.2;omega)
       obtain⟨O,cB,Q,b7,c7,ma,mc,b0,b1,b2,B0,B1,B2,k6,h7⟩:=l5.at' c5.out.1 (k:=k) (by have:=c5.out.2;omega);have m0:k<b6:=by have:=c4.out.2;omega
       have m1:k<b7:=by have:=c5.out.2;omega
       have lS:=X.row_length hP k8 hx d6;have lT:=Y.row_length hQ k9 hy d6;have c3:Hid (∀d l r,GrowsP wc f.heap.size (.slice (some ⟨g,0,none⟩) c.length o) d l r->d.cell? ⟨sb,0,none⟩=some (.slice (some ⟨M,0,none⟩) S.to.length cA)/\d.cell? ⟨M,c[i].2.1,none⟩=some (.slice (some ⟨P,0,none⟩) b6 c6)/\d.cell? ⟨P,k,none⟩=some (.slice la (S.row c[i].2.1 k).length lc)/\d.cell? ⟨Z,1,none⟩=some (.int .i64 c[i].2.1)):=
        fun d l r h=>⟨(h.cell A0 _).trans H,(h.cell A1 _).trans J,(h.cell A2 _).trans K,(h.cell g7 _).trans q1⟩
       have e6:Hid (∀d l r,GrowsP wc f.heap.size (.slice (some ⟨g,0,none⟩) c.length o) d l r->d.cell? ⟨tb,0,none⟩=some (.slice (some ⟨O,0,none⟩) T.to.length cB)/\d.cell? ⟨O,c[i].2.2,none⟩=some (.slice (some ⟨Q,0,none⟩) b7 c7)/\d.cell? ⟨Q,k,none⟩=some (.slice ma (T.row c[i].2.2 k).length mc)/\d.cell? ⟨Z,2,none⟩=some (.int .i64 c[i].2.2)):=
        fun d l r h=>⟨(h.cell B0 _).trans b0,(h.cell B1 _).trans b1,(h.cell B2 _).trans b2,(h.cell g7 _).trans q2⟩
       obtain⟨ao,ac,ea,f1⟩:=h6.shape;injection ea with i8 i9 j0;subst i8 j0;obtain⟨bo,bc,eb,f3⟩:=h7.shape;injection eb with j1 j2 j3;subst j1 j3;clear H J K b0 b1 b2 i9 j2 k5 k6 h6 h7;have i3:Hid (0<(S.row c[i].2.1 k).length->∃z,la=some ⟨z,0,none⟩/\Ge wc (.slice (some ⟨g,0,none⟩) c.length o) z/\∀j (h:j<(S.row c[i].2.1 k).length),wc.cell? ⟨z,j,none⟩=some (.int .i64 (S.row c[i].2.1 k)[j])):=f1;have i4:Hid (0<(T.row c[i].2.2 k).length->∃z,ma=some ⟨z,0,none⟩/\Ge wc (.slice (some ⟨g,0,none⟩) c.length o) z/\∀j (h:j<(T.row c[i].2.2 k).length),wc.cell? ⟨z,j,none⟩=some (.int .i64 (T.row c[i].2.2 k)[j])):=f3;clear f1 f3;go_wp2_with fail;go_loopw [8,12] (fun l mv wy=>∃m:Nat,m<=(S.row c[i].2.1 k).length/\mv=.int .i64 m/\GrowsP wc f.heap.size (.slice (some ⟨g,0,none⟩) c.length o) wy l (E3 c (X7 S T c[i] k++F9 0 ((S.row c[i].2.1 k).take m) (T.row c[i].2.2 k)))) (fun _ mv _=>(S.row c[i].2.1 k).length-(intOf mv).toNat)
       case atStart=>exact⟨0,Nat.zero_le _,rfl,by simpa [F9] using gk⟩
       case round=>
        obtain⟨m,hm,rfl,gm⟩:=hrel;obtain⟨H,J,K,a3⟩:=c3.out _ _ _ gm
        by_cases d8:m<(S.row c[i].2.1 k).length
        ·go_wp2_with fail
         go_quiet (fail)
         go_wp2_with fail;have gq:=gm.below (J6 wr nq wr.heap.size);clear gm H J K a3;generalize wr.drewN nq=wq at *;obtain⟨gl,rfl,k0,f4⟩:=i3.out (by omega);have a4:=f4 m d8;have i5:Hid (∀d l r,GrowsP wc f.heap.size (.slice (some ⟨g,0,none⟩) c.length o) d l r->d.cell? ⟨gl,m,none⟩=some (.int .i64 (S.row c[i].2.1 k)[m])):=fun d l r h=>(h.cell k0 _).trans a4;clear f4 a4;go_loopw [8,13] (fun l nv wz=>∃n:Nat,n<=(T.row c[i].2.2 k).length/\nv=.int .i64 n/\GrowsP wc f.heap.size (.slice (some ⟨g,0,none⟩) c.length o) wz l (E3 c (X7 S T c[i] k++(F9 0 ((S.row c[i].2.1 k).take m) (T.row c[i].2.2 k)++((T.row c[i].2.2 k).take n).map fun y=>(0,(S.row c[i].2.1 k)[m],y))))) (fun _ nv _=>(T.row c[i].2.2 k).length-(intOf nv).toNat)
         case atStart=>exact⟨0,Nat.zero_le _,rfl,by simpa using gq⟩
         case round=>
          obtain⟨n,hn,rfl,B⟩:=hrel;obtain⟨H,J,K,a3⟩:=c3.out _ _ _ B;obtain⟨b0,b1,b2,b3⟩:=e6.out _ _ _ B
          by_cases g2:n<(T.row c[i].2.2 k).length
          ·obtain⟨gu,rfl,k1,f5⟩:=i4.out (by omega)
           have f6:=f5 n g2;have HS:Hid (∀d l r,GrowsP wc f.heap.size (.slice (some ⟨g,0,none⟩) c.length o) d l r->(d.cell? ⟨sb,0,none⟩=some (.slice (some ⟨M,0,none⟩) S.to.length cA)/\d.cell? ⟨M,c[i].2.1,none⟩=some (.slice (some ⟨P,0,none⟩) b6 c6)/\d.cell? ⟨P,k,none⟩=some (.slice (some ⟨gl,0,none⟩) (S.row c[i].2.1 k).length lc)/\d.cell? ⟨Z,1,none⟩=some (.int .i64 c[i].2.1))/\(d.cell? ⟨tb,0,none⟩=some (.slice (some ⟨O,0,none⟩) T.to.length cB)/\d.cell? ⟨O,c[i].2.2,none⟩=some (.slice (some ⟨Q,0,none⟩) b7 c7)/\d.cell? ⟨Q,k,none⟩=some (.slice (some ⟨gu,0,none⟩) (T.row c[i].2.2 k).length mc)/\d.cell? ⟨Z,2,none⟩=some (.int .i64 c[i].2.2))/\d.cell? ⟨gl,m,none⟩=some (.int .i64 (S.row c[i].2.1 k)[m])/\d.cell? ⟨gu,n,none⟩=some (.int .i64 (T.row c[i].2.2 k)[n])):=fun d l r h=>⟨c3.out _ _ _ h,e6.out _ _ _ h,i5.out _ _ _ h,(h.cell k1 n).trans f6⟩;clear f5 f6;have HC:Hid (∀W,Below wr.heap.size wr W->Calls Tryz.prog 43 #[u8,.agg #[.int .i64 0,.int .i64 (S.row c[i].2.1 k)[m],.int .i64 (T.row c[i].2.2 k)[n]]] W fun e w5=>∃x1 x2 x3,e=.returned (.slice x1 x2 x3)/\GrowsP wc f.heap.size (.slice (some ⟨g,0,none⟩) c.length o) w5 (.slice x1 x2 x3) (E3 c (X7 S T c[i] k++(F9 0 ((S.row c[i].2.1 k).take m) (T.row c[i].2.2 k)++((T.row c[i].2.2 k).take (n+1)).map fun y=>(0,(S.row c[i].2.1 k)[m],y))))):=by
            intro W hW;have gW:=B.below hW;refine(gQg W f.heap.size ?_ u8 _ gW.pl (dQ4 g1 _) ?_ (0,(S.row c[i].2.1 k)[m],(T.row c[i].2.2 k)[n])).mono ?_
            ·have:=R.grown.size;have:=gW.grown.size;have:=l0;omega
            ·refine Nat.le_trans (HB.out _ (fun b s=>?_)) (by omega)
             rw[List.mem_append]at s;rcases s with s|s
             ·exact jQ9 (hQp.1 s) A
             ·have b4:=xQw d8 rfl s
              have:b∈X7 S T c[i] (k+1):=by rw[nQx,List.mem_append];exact .inr b4
              exact jQ9 (hQp.1 this) d6
            ·rintro e w5 ⟨v5,rfl,g3,k2,k7⟩
             have g5:GrowsP W f.heap.size u8 w5 v5 _:=⟨g3,k2,k7⟩;have key:=gW.next g5;rw[<-gQf,List.append_assoc,<-mQq g2]at key;rcases O0 g3 with⟨rfl,_⟩|⟨z,l7,rfl⟩
             ·exact⟨_,_,_,rfl,key⟩
             ·exact⟨_,_,_,rfl,key⟩
           go_wp2_with fail;go_quiet (fail)
           go_wp2_with fail;have gz:=B.below (J6 wr nq wr.heap.size);have m5:=HS.out _ _ _ gz;have i2:Hid (∀W,Below (wr.drewN nq).heap.size (wr.drewN nq) W->Below wr.heap.size wr W):=fun W h=>(J6 wr nq wr.heap.size).trans h;clear B H J K a3 b0 b1 b2 b3;generalize wr.drewN nq=wz at *;go_region_held (fun w'=>(w'.cell? ⟨sb,0,none⟩=some (.slice (some ⟨M,0,none⟩) S.to.length cA)/\w'.cell? ⟨M,c[i].2.1,none⟩=some (.slice (some ⟨P,0,none⟩) b6 c6)/\w'.cell? ⟨P,k,none⟩=some (.slice (some ⟨gl,0,none⟩) (S.row c[i].2.1 k).length lc)/\w'.cell? ⟨Z,1,none⟩=some (.int .i64 c[i].2.1))/\(w'.cell? ⟨tb,0,none⟩=some (.slice (some ⟨O,0,none⟩) T.to.length cB)/\w'.cell? ⟨O,c[i].2.2,none⟩=some (.slice (some ⟨Q,0,none⟩) b7 c7)/\w'.cell? ⟨Q,k,none⟩=some (.slice (some ⟨gu,0,none⟩) (T.row c[i].2.2 k).length mc)/\w'.cell? ⟨Z,2,none⟩=some (.int .i64 c[i].2.2))/\w'.cell? ⟨gl,m,none⟩=some (.int .i64 (S.row c[i].2.1 k)[m])/\w'.cell? ⟨gu,n,none⟩=some (.int .i64 (T.row c[i].2.2 k)[n])) (first|assumption|go_keep) ((go_at_call 43;refine(HC.out _ (i2.out _ ?_)).mono ?_;exact(Below.refl _ _).drew;rintro e w5 ⟨x1,x2,x3,rfl,g5⟩;have m4:=HS.out _ _ _ g5))
           go_wp2_with fail;exact⟨⟨n+1,by omega,by go_num,g5⟩,by simp[intOf];omega⟩
          ·go_wp2_with fail
           go_quiet (fail)
           go_wp2_with fail;refine⟨⟨m+1,by omega,by go_num,?_⟩,by simp[intOf];omega⟩;rw[mQr d8];rw[show (T.row c[i].2.2 k).take n=T.row c[i].2.2 k from List.take_of_length_le (by omega)]at B;exact B.below (J6 wr _ wr.heap.size)
        ·go_wp2_with fail
         go_quiet (fail)
         go_wp2_with fail;refine⟨⟨k+1,by omega,by go_num,?_⟩,by simp[intOf];omega⟩;rw[nQx];rw[show (S.row c[i].2.1 k).take m=S.row c[i].2.1 k from List.take_of_length_le (by omega)]at gm;exact gm.below (J6 wr _ wr.heap.size)
      ·have k4:k=L.length:=by omega
       subst k4;have i6:=x.next a1 (m:=X7 S T c[i] L.length) (fun b=>hQp) (fun b s=>HE.out _ b ⟨e9.out,hx,hy⟩ s) t.out;go_wp2_with fail;refine⟨⟨i+1,_,by go_num,R.next gk,i6⟩,by simp[intOf];omega⟩
  ·go_wp2_with fail
   go_ret;have:i=c.length:=by have:=x.le;omega
   subst this;exact⟨true,rfl,by rw[<-f0];simp[x.done],a8.grown gr.grown (by have:=a8.size;omega) h5⟩
def Q4 (S T:Tab)(a:Pr)(k:Nat):List Pr:=if a.1=0/\S.ends[a.2.1]?=some true then F9 1 (S.row a.2.2 k) (T.row 0 k) else []
def fQq (S T:Tab)(a:Pr)(k:Nat):List Pr:=F9 a.1 ((jX3 S T a.1).row a.2.1 k) ((jX4 S T a.1).row a.2.2 k)
def M8 (S T:Tab)(a:Pr)(k:Nat):List Pr:=(List.range k).flatMap fun k=>Q4 S T a k++fQq S T a k
def V9 (S:Tab)(a:Pr):List Pr:=if a.1=1/\S.ends[a.2.1]?=some true then [(2,a.2.2,0)] else []
theorem nQy (S T:Tab)(a:Pr)(k:Nat):M8 S T a (k+1)=M8 S T a k++(Q4 S T a k++fQq S T a k):=by
 unfold M8;rw[List.range_succ,List.flatMap_append];simp
theorem xQv:b∈Q4 S T a k↔(a.1=0/\S.ends[a.2.1]?=some true/\b.1=1/\S.go a.2.2 k b.2.1/\T.go 0 k b.2.2):=by
 unfold Q4;split
 ·rename_i h
  rw[cQ7];simp only[Tab.mem_row];constructor
  ·rintro ⟨c,d,e⟩;exact⟨h.1,h.2,c,d,e⟩
  ·rintro ⟨_,_,c,d,e⟩;exact⟨c,d,e⟩
 ·rename_i h
  simp only[List.not_mem_nil,false_iff];rintro ⟨c,d,_⟩;exact h ⟨c,d⟩
theorem xQx:b∈fQq S T a k↔(b.1=a.1/\(jX3 S T a.1).go a.2.1 k b.2.1/\(jX4 S T a.1).go a.2.2 k b.2.2):=by
 unfold fQq;rw[cQ7];simp only[Tab.mem_row]
theorem lQq:b∈M8 S T a n++V9 S a↔hXr S T n a b:=by
 unfold M8 V9 hXr;simp only[List.mem_append,List.mem_flatMap,List.mem_range,xQv,xQx];constructor
 ·rintro (⟨k,d,h|h⟩|h)
  ·exact .inr (.inl ⟨h.1,h.2.1,h.2.2.1,k,d,h.2.2.2⟩)
  ·exact .inl ⟨h.1,k,d,h.2⟩
  ·split at h
   ·rename_i c
    simp only[List.mem_singleton]at h;exact .inr (.inr ⟨c.1,c.2,h⟩)
   ·simp at h
 ·rintro (⟨c,k,d,e⟩|⟨c,e,f,k,d,g⟩|⟨c,e,f⟩)
  ·exact .inl ⟨k,d,.inr ⟨c,e⟩⟩
  ·exact .inl ⟨k,d,.inl ⟨c,e,f,g⟩⟩
  ·refine .inr ?_
   rw[if_pos ⟨c,e⟩];simp[f]
theorem uQa (h:hXr S T k a b)(j:k<=n):hXr S T n a b:=by
 rcases h with⟨c,e,f,d⟩|⟨c,f,d,e,i,g⟩|h
 ·exact .inl ⟨c,e,by omega,d⟩
 ·exact .inr (.inl ⟨c,f,d,e,by omega,g⟩)
 ·exact .inr (.inr h)
theorem eQ9 (h:b∈M8 S T a k)(c:k<=n):hXr S T n a b:=
 uQa (lQq.1 (List.mem_append.2 (.inl h))) c
def IO3 (ns nt:Nat)(a:Pr):Prop:=(a.1=0/\a.2.1<ns/\a.2.2<ns)\/(a.1=1/\a.2.1<ns/\a.2.2<nt)\/(a.1=2/\a.2.1<nt/\a.2.2<nt)
theorem IO3.inR {c d:Nat}(h:IO3 c d a):(a.1=0\/a.1=1\/a.1=2)/\a.2.1<max c d/\a.2.2<max c d:=by
 rcases h with⟨b,e,f⟩|⟨b,e,f⟩|⟨b,e,f⟩
 ·exact⟨.inl b,by omega,by omega⟩
 ·exact⟨.inr (.inl b),by omega,by omega⟩
 ·exact⟨.inr (.inr b),by omega,by omega⟩
theorem IO3.step {p q:Pat}{L:Lu}{o n:List Pat}(A:TabOf p L S o)(z:TabOf q L T n)(h:IO3 o.length n.length a)(B:hXr S T L.length a b):IO3 o.length n.length b:=by
 have w:=(List.getElem?_eq_some_iff.1 z.first).1;have r:∀{i k j:Nat},i<o.length->k<L.length->S.go i k j->j<o.length:=fun u c v=>A.row_lt u c _ ((S.mem_row _ _ _).2 v);have s:∀{i k j:Nat},i<n.length->k<L.length->T.go i k j->j<n.length:=fun u c v=>z.row_lt u c _ ((T.mem_row _ _ _).2 v);obtain⟨C,x,y⟩:=a;obtain⟨E,F,G⟩:=b;rcases B with⟨g,k,c,d,l⟩|⟨g,_,d,k,c,l,f⟩|⟨g,_,d⟩
 ·simp only at g d l
  subst g;rcases h with⟨e,f,m⟩|⟨e,f,m⟩|⟨e,f,m⟩<;>simp only at e f m<;>subst e
  ·exact .inl ⟨rfl,r f c d,r m c l⟩
  ·exact .inr (.inl ⟨rfl,r f c d,s m c l⟩)
  ·exact .inr (.inr ⟨rfl,s f c d,s m c l⟩)
 ·simp only at g d l f
  subst g;subst d;rcases h with⟨_,_,t⟩|⟨e,_⟩|⟨e,_⟩
  ·exact .inr (.inl ⟨rfl,r t c l,s w c f⟩)
  ·cases e
  ·cases e
 ·simp only at g
  subst g;cases d;rcases h with⟨e,_⟩|⟨_,_,t⟩|⟨e,_⟩
  ·cases e
  ·exact .inr (.inr ⟨rfl,t,w⟩)
  ·cases e
end Go.Proofs.YtfklinjaajafgaaGreatDoor
