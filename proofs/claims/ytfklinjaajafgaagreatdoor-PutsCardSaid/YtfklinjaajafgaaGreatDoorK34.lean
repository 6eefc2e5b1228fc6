import Derived.Test.YtfklinjaajafgaaGreatDoorK33
import Derived.Deep.CutBlock
set_option maxRecDepth 100000
set_option maxHeartbeats 4000000
namespace Go.Proofs.YtfklinjaajafgaaGreatDoor
open Ls hiding none
open Go.RowKit
variable {S T:Tab}{a:Pr}(k:Nat)
theorem jQ2 (h:¬(a.1=0/\S.ends[a.2.1]?=some true)):Q4 S T a k=[]:=by unfold Q4;rw[if_neg h]
theorem tQt (h:a.1=0/\S.ends[a.2.1]?=some true):Q4 S T a k=F9 1 (S.row a.2.2 k) (T.row 0 k):=by unfold Q4;rw[if_pos h]
theorem sides {p q:Pat}{P Q:List Pat}(u:Room P)(v:Room Q){L:Lu}{f g:List Pat}(n:TabOf p L S f)(o:TabOf q L T g)(z:∀x,x∈f->x∈P)(A:∀x,x∈g->x∈Q)(w:P.length<=991233)(y:Q.length<=991233)(h:IO3 f.length g.length a){k:Nat}(s:k<L.length) :
  (∃r,(jX3 S T a.1).to[a.2.1]?=some r/\k<r.length/\((jX3 S T a.1).row a.2.1 k).length<=991233)/\(∃r,(jX4 S T a.1).to[a.2.2]?=some r/\k<r.length/\((jX4 S T a.1).row a.2.2 k).length<=991233):=by
 have j:∀i,i<f.length->∃r,S.to[i]?=some r/\k<r.length/\(S.row i k).length<=991233:=fun i d=>by
  obtain⟨r,m,t,_⟩:=n.row i _ (List.getElem?_eq_getElem d);exact⟨r,m,by omega,Lq (n.row_length u z d s) w⟩
 have l:∀i,i<g.length->∃r,T.to[i]?=some r/\k<r.length/\(T.row i k).length<=991233:=fun i d=>by
  obtain⟨r,m,t,_⟩:=o.row i _ (List.getElem?_eq_getElem d);exact⟨r,m,by omega,Lq (o.row_length v A d s) y⟩
 rcases h with⟨e,b,c⟩|⟨e,b,c⟩|⟨e,b,c⟩<;>rw[e]<;>simp only[jX3,jX4]
 ·exact⟨j _ b,j _ c⟩
 ·exact⟨j _ b,l _ c⟩
 ·exact⟨l _ b,l _ c⟩
theorem nQu {c W:World}{f:Nat}{v:Value}{i:List Pr}(E:f<=c.heap.size)(y:i≠[]){q:World}{g:Value}{l:List Pr}(gx:GrowsP c f v q g (E3 i l))(A:Bw q W){m n:Value}{a b:List Nat}(ha:IV c (Ge c v) m a)(u:IV c (Ge c v) n b)(w:a.length<=991233)(x:b.length<=991233)(G:(E3 i l).length<=2947628580867)(h:Nat) :
  Calls Tryz.prog 42 #[g,m,n,Iv h] W fun e p=>∃r s t,e=.returned (.slice r s t)/\GrowsP c f v p (.slice r s t) (E3 i (l++F9 h a b)):=by
 have d:=gx.below A;have z:=hQ6 h a b;have F:=Nat.mul_le_mul w x;refine(cXy W f (by have:=d.grown.size;omega) g _ d.pl (dQ4 y _) (Ge W g) (fun k j=>j.1) (fun k j=>j.2) m n a b (ha.mono2 d.ge) (u.mono2 d.ge) (by omega) (by omega) h (by rw[z];omega)).mono ?_;rintro e p ⟨H,rfl,o⟩;have key:=d.next o;rw[<-qQd]at key;rcases O0 o.pl with⟨rfl,_⟩|⟨C,B,rfl⟩
 ·exact⟨_,_,_,rfl,key⟩
 ·exact⟨_,_,_,rfl,key⟩
theorem xQ8 (p q:Pat)(d4 d5:List Pat)(hP:Room d4)(hQ:Room d5)(i8:p∈d4)(j2:q∈d5)(nP:d4.length<=991233)(nQ:d5.length<=991233)(sp:fXx p)(sq:fXx q)(g7 g8:Value)(w:World)(G:Nat->Prop)(hG:Old w G)(hp:PV w G p g7)(hq:PV w G q g8) :
  Calls Tryz.prog 16 #[B4 p g7,B4 q g8] w fun e w'=>∃b:Bool,e=.returned (.bool b)/\(b=true↔¬fXb p q)/\Bw w w':=by
 have Hp:Hid (PV w G p g7):=hp;have Hq:Hid (PV w G q g8):=hq;obtain⟨y1,y2,y3,rfl⟩:=PV.slice _ _ hp;obtain⟨z1,z2,z3,rfl⟩:=PV.slice _ _ hq;clear hp hq;have e5:=hP.ok p i8;have e6:=hQ.ok q j2;have d6:=C6 w (.cells #[.int .i64 p.kind,.string ⟨p.signs.toArray⟩,.slice y1 y2 y3] 27) (.cells #[.int .i64 q.kind,.string ⟨q.signs.toArray⟩,.slice z1 z2 z3] 27);have f8:=C7 (w.alloc (.cells #[.int .i64 p.kind,.string ⟨p.signs.toArray⟩,.slice y1 y2 y3] 27)) (C2 q (.slice z1 z2 z3));rw[World.size_alloc]at f8;have i3:Lies ((w.alloc (.cells #[.int .i64 p.kind,.string ⟨p.signs.toArray⟩,.slice y1 y2 y3] 27)).alloc (.cells #[.int .i64 q.kind,.string ⟨q.signs.toArray⟩,.slice z1 z2 z3] 27)) w.heap.size (C2 p (.slice y1 y2 y3)):=by
  unfold Lies;rw[Below.heap_alloc _ _ _ (by simp)];exact C7 w (C2 p (.slice y1 y2 y3))
 go_enter Tryz.func16,Tryz.ntmps16;go_wp2_with fail;refine(lQd p q e5.1 e6.1 e5.2.2.1 e6.2.2.1 e5.2.1 e6.2.1 _ _ _ G (hG.below d6) (Hp.out.below d6 hG fun _ h=>h) (Hq.out.below d6 hG fun _ h=>h)).mono ?_;rintro e w1 ⟨L,rfl,hL,o2,d8⟩;have f5:=Bj d6 d8;have i4:=i3.below d8 (by simp;omega);have i5:=f8.below d8 (by simp);obtain⟨c0,c1,c2⟩:=i4.three;clear i3 f8;go_wp2_with fail;refine(fQu p d4 hP i8 L (by omega) _ _ G (hG.below f5) (Hp.out.below f5 hG fun _ h=>h)).mono ?_;rintro e w2 ⟨Q,S,x,rfl,j7,Z,o4,j3,i0⟩;have f6:=Bj f5 i0;have m9:=d8.size;simp at m9;have i6:=i5.below i0 (by omega);obtain⟨d0,d1,d2⟩:=i6.three;clear c0 c1 c2 i4 i5;go_wp2_with fail;refine(fQu q d5 hQ j2 L (by omega) _ _ G (hG.below f6) (Hq.out.below f6 hG fun _ h=>h)).mono ?_;rintro e c ⟨R,T,y,rfl,k3,a3,o5,j4,f7⟩;have h9:=Bj f6 f7;clear d0 d1 d2 i6;have c4:=A5 c (.cells #[.int .i64 0,.int .i64 0,.int .i64 0] 68);have j0:PL (c.alloc (.cells #[.int .i64 0,.int .i64 0,.int .i64 0] 68)) c.heap.size (.slice (some ⟨c.heap.size,0,none⟩) 1 1) [(0,0,0)]:=
  World.ownsRow_lit (e:=68) (size:=3) c (Y9 [(0,0,0)]).toArray 1 (Nat.le_refl _) (by unfold maxLen;omega) rfl
 have n8:TV (c.alloc (.cells #[.int .i64 0,.int .i64 0,.int .i64 0] 68)) (Ge (c.alloc (.cells #[.int .i64 0,.int .i64 0,.int .i64 0] 68)) (.slice (some ⟨c.heap.size,0,none⟩) 1 1)) Q S:=
  j7.mono (fun k hk=>by
   have h3:=f7.size;exact⟨⟨by simp;omega,by simp[Value.ownBlock];omega⟩,(Bj f7 c4).block k hk.2⟩)
 have k6:TV (c.alloc (.cells #[.int .i64 0,.int .i64 0,.int .i64 0] 68)) (Ge (c.alloc (.cells #[.int .i64 0,.int .i64 0,.int .i64 0] 68)) (.slice (some ⟨c.heap.size,0,none⟩) 1 1)) R T:=
  k3.mono (fun k hk=>⟨⟨by simp;omega,by simp[Value.ownBlock];omega⟩,c4.block k hk.2⟩)
 have gp:=GrowsP.start j0;have h7:0<x.length:=(List.getElem?_eq_some_iff.1 Z.first).1;have h8:0<y.length:=(List.getElem?_eq_some_iff.1 a3.first).1;have l0:=BF.start (hXr S T L.length) (kXr T) (I:=IO3 x.length y.length) (.inl ⟨rfl,h7,h7⟩);have HE:Hid (∀b6 b:Pr,IO3 x.length y.length b6->hXr S T L.length b6 b->IO3 x.length y.length b):=fun b6 b h he=>h.step Z a3 he;have hN:=nQq (N:=max x.length y.length) (by omega);have h4:=mXu e5.1 e6.1 sp sq hL Z a3;have d7:=Bj h9 c4;have o7:c.heap.size<=(c.alloc (.cells #[.int .i64 0,.int .i64 0,.int .i64 0] 68)).heap.size:=c4.size;have k4:∀k,(Value.slice (some ⟨c.heap.size,0,none⟩) 1 1).ownBlock=some k->w.heap.size<=k:=fun k e=>by
  have:=h9.size;have e2:c.heap.size=k:=by simpa [Value.ownBlock] using e
  omega
 clear j0 j7 k3 c4 Hp Hq;go_wp2_with fail;generalize c.alloc (.cells #[.int .i64 0,.int .i64 0,.int .i64 0] 68)=wl at *;generalize (Value.slice (some ⟨c.heap.size,0,none⟩) 1 1)=v0 at *;go_loopw [8,9] (fun v iv wr=>∃(i:Nat) (a:List Pr),iv=.int .i64 i/\GrowsP wl c.heap.size v0 wr v a/\BF (hXr S T L.length) (kXr T) (IO3 x.length y.length) a i) (fun _ iv _=>2947628580868-(intOf iv).toNat)
 case atStart=>exact⟨0,[(0,0,0)],rfl,gp,l0⟩
 case round=>
  obtain⟨i,a,rfl,gr,X⟩:=hrel;have o3:=X.length (fun b6 ha=>ha.inR);have e4:a≠[]:=fun e=>by have:=X.first;rw[e]at this;simp at this
  obtain⟨a9,b7,rfl⟩:=gr.pl.some e4
  by_cases c5:i<a.length
  ·obtain⟨c0,c1,c2⟩:=gr.pl.cells i c5
   have a6:Hid (IO3 x.length y.length a[i]):=X.inR _ (List.getElem_mem c5);have l5:=World.ownsRow.lt gr.pl a9 rfl;have p0:=T4 wr a[i] 0;have p1:=T4 wr a[i] 1;have p2:=T4 wr a[i] 2;simp only[T7,List.getElem?_cons_zero,List.getElem?_cons_succ]at p0 p1 p2;have f4:=gr.below (A5 wr (.cells #[.int .i64 a[i].1,.int .i64 a[i].2.1,.int .i64 a[i].2.2] 68));have i9:Ge (wr.alloc (.cells #[.int .i64 a[i].1,.int .i64 a[i].2.1,.int .i64 a[i].2.2] 68)) (.slice (some ⟨a9,0,none⟩) a.length b7) wr.heap.size:=⟨by simp,by simp[Value.ownBlock];omega⟩;have tT:=k6.mono f4.ge;go_upto_if 58 with fail
   go_cut [58] (fun n9 d=>∃b:Bool,n9=.bool b/\(b=true↔kXr T a[i])/\Below (wr.heap.size+1) (wr.alloc (.cells #[.int .i64 a[i].1,.int .i64 a[i].2.1,.int .i64 a[i].2.2] 68)) d)
   case first=>
    by_cases u:a[i].1=2
    ·have m2:((a[i].1:Int)==2)=true:=by simp[u]
     obtain⟨hx,hy⟩:a[i].2.1<y.length/\a[i].2.2<y.length:=by
      rcases a6.out with h|h|h
      ·omega
      ·omega
      ·exact h.2
     have c7:a[i].2.1<T.ends.length:=by rw[a3.lenE];exact hx
     have m7:a[i].2.2<T.ends.length:=by rw[a3.lenE];exact hy
     have t:T.ends[a[i].2.1]?=some T.ends[a[i].2.1]:=List.getElem?_eq_getElem c7;have f3:T.ends[a[i].2.2]?=some T.ends[a[i].2.2]:=List.getElem?_eq_getElem m7;obtain⟨gS,cS,e0,C,_,_⟩:=tT.end' t;obtain⟨gT,cT,e2,e3,_,_⟩:=tT.end' f3;have ee:=e0.symm.trans e2;injection ee with ee;injection ee with c3 _ l1;injection c3 with c3;injection c3 with c3;subst c3 l1;have U:Hid (T.ends[a[i].2.1]?=some T.ends[a[i].2.1]):=t;have g9:Hid (T.ends[a[i].2.2]?=some T.ends[a[i].2.2]):=f3;have f0:Hid (a[i].1=2):=u;clear t f3 u e2;cases f:T.ends[a[i].2.1] with
     | true=>
      rw[f]at C;cases b4:T.ends[a[i].2.2] with
      | true=>
       rw[b4]at e3;have s:Hid (kXr T a[i]):=⟨f0.out,by rw[U.out,f],by rw[g9.out,b4]⟩;clear f b4;go_wp2_with fail;go_quiet (fail)
       go_wp2_with fail;go_meet
       case rel=>exact⟨true,rfl,by simp[s.out],J6 _ nq _⟩
      | false=>
       rw[b4]at e3;have s:Hid (¬kXr T a[i]):=fun h=>by have n:=h.2.2;rw[g9.out,b4]at n;cases n
       clear f b4;go_wp2_with fail;go_quiet (fail)
       go_wp2_with fail;go_meet
       case rel=>exact⟨false,rfl,by simp[s.out],J6 _ nq _⟩
     | false=>
      rw[f]at C;have s:Hid (¬kXr T a[i]):=fun h=>by have n:=h.2.1;rw[U.out,f]at n;cases n
      clear f;go_wp2_with fail;go_quiet (fail)
      go_wp2_with fail;go_meet
      case rel=>exact⟨false,rfl,by simp[s.out],J6 _ nq _⟩
    ·have m2:((a[i].1:Int)==2)=false:=by simp;omega
     have s:Hid (¬kXr T a[i]):=fun h=>u h.1;clear u;go_wp2_with fail;go_quiet (fail)
     go_wp2_with fail;go_meet
     case rel=>exact⟨false,rfl,by simp[s.out],J6 _ nq _⟩
   case rest=>
    obtain⟨b,rfl,d9,b3⟩:=hcut;have P:=f4.below (w':=wc) (by simpa[Bw] using b3);cases b with
    | true=>
     have s:Hid (∃n5,Hit (hXr S T L.length) (kXr T) n5 (0,0,0)):=X.found c5 (d9.1 rfl);clear d9;go_wp2_with fail;go_ret;exact⟨false,rfl,by rw[<-h4];simp[s.out],d7.grown P.grown (by have:=d7.size;omega) k4⟩
    | false=>
     have s:Hid (¬kXr T a[i]):=fun h=>by have:=d9.2 h;cases this
     clear d9;have q0:wc.cell? ⟨wr.heap.size,0,none⟩=some (.int .i64 a[i].1):=(b3.cell (p:=⟨wr.heap.size,0,none⟩) (by show wr.heap.size<_;omega)).trans p0;have q1:wc.cell? ⟨wr.heap.size,1,none⟩=some (.int .i64 a[i].2.1):=(b3.cell (p:=⟨wr.heap.size,1,none⟩) (by show wr.heap.size<_;omega)).trans p1;have q2:wc.cell? ⟨wr.heap.size,2,none⟩=some (.int .i64 a[i].2.2):=(b3.cell (p:=⟨wr.heap.size,2,none⟩) (by show wr.heap.size<_;omega)).trans p2;have k5:=n8.mono P.ge;have n7:=k6.mono P.ge;have Y:Ge wc (.slice (some ⟨a9,0,none⟩) a.length b7) wr.heap.size:=⟨by have:=b3.size;simp at this;omega,i9.2⟩;have HB:Hid (∀m:List Pr,(∀b,b∈m->hXr S T L.length a[i] b)->(E3 a m).length<=2947628580867):=fun m hm=>
      Nat.le_trans (X.part c5 hm (fun b l=>HE.out _ b a6.out l) (fun b6 ha=>ha.inR)) hN
     clear p0 p1 p2 tT i9;have gc:=GrowsP.start P.pl;go_wp2_with fail;clear b3 f4 l5;generalize wr.heap.size=o at *;go_loopw [8,11] (fun v kv d=>∃k:Nat,k<=L.length/\kv=.int .i64 k/\GrowsP wc c.heap.size (.slice (some ⟨a9,0,none⟩) a.length b7) d v (E3 a (M8 S T a[i] k))) (fun _ kv _=>L.length-(intOf kv).toNat)
     case atStart=>exact⟨0,Nat.zero_le _,rfl,gc⟩
     case round=>
      obtain⟨k,hk,rfl,gk⟩:=hrel;obtain⟨j,l9⟩:∃j,j=u8:=⟨_,rfl⟩;subst l9;obtain⟨k0,k1,k2⟩:wr.cell? ⟨o,0,none⟩=some (.int .i64 a[i].1)/\wr.cell? ⟨o,1,none⟩=some (.int .i64 a[i].2.1)/\wr.cell? ⟨o,2,none⟩=some (.int .i64 a[i].2.2):=⟨(gk.cell Y _).trans q0,(gk.cell Y _).trans q1,(gk.cell Y _).trans q2⟩
      by_cases e1:k<L.length
      ·have o6:o<wr.heap.size:=(gk.ge o Y).1.1
       have K:=gk.below (A5 wr (.cells #[.int .i64 a[i].1,.int .i64 a[i].2.1,.int .i64 a[i].2.2] 68));have j1:=(K.ge o Y).1;have i2:Ge (wr.alloc (.cells #[.int .i64 a[i].1,.int .i64 a[i].2.1,.int .i64 a[i].2.2] 68)) j wr.heap.size:=⟨by simp,fun e=>by have:=World.ownsRow.lt gk.pl _ e.symm;omega⟩;have n0:(wr.alloc (.cells #[.int .i64 a[i].1,.int .i64 a[i].2.1,.int .i64 a[i].2.2] 68)).cell? ⟨o,0,none⟩=some (.int .i64 a[i].1):=(K.cell Y _).trans q0;have n1:(wr.alloc (.cells #[.int .i64 a[i].1,.int .i64 a[i].2.1,.int .i64 a[i].2.2] 68)).cell? ⟨o,1,none⟩=some (.int .i64 a[i].2.1):=(K.cell Y _).trans q1;have n2:(wr.alloc (.cells #[.int .i64 a[i].1,.int .i64 a[i].2.1,.int .i64 a[i].2.2] 68)).cell? ⟨o,2,none⟩=some (.int .i64 a[i].2.2):=(K.cell Y _).trans q2;have f1:=T4 wr a[i] 1;have f2:=T4 wr a[i] 2;simp only[T7,List.getElem?_cons_zero,List.getElem?_cons_succ]at f1 f2;have e7:=k5.mono K.ge;have g5:=n7.mono K.ge;have gK:=GrowsP.start K.pl;have h2:Hid (GrowsP wc c.heap.size (.slice (some ⟨a9,0,none⟩) a.length b7) (wr.alloc (.cells #[.int .i64 a[i].1,.int .i64 a[i].2.1,.int .i64 a[i].2.2] 68)) j (E3 a (M8 S T a[i] k))):=K;clear K;go_upto_block 4 with fail
       generalize m6:(wr.alloc (.cells #[.int .i64 a[i].1,.int .i64 a[i].2.1,.int .i64 a[i].2.2] 68))=g at *;generalize l3:wr.heap.size=fb at *;clear m6 l3;have i1:c.heap.size<=g.heap.size:=by have:=h2.out.grown.size;have:=P.grown.size;omega
       have k7:Hid ((E3 a (M8 S T a[i] k)).length<=2947628580867):=HB.out _ (fun b l=>eQ9 l (by omega));have k8:Hid ((E3 a (M8 S T a[i] k++Q4 S T a[i] k)).length<=2947628580867):=HB.out _ (fun b l=>by
        rw[List.mem_append]at l;rcases l with l|l
        ·exact eQ9 l (by omega)
        ·have:b∈M8 S T a[i] (k+1):=by rw[nQy];simp[l]
         exact eQ9 this e1)
       go_cut [8,12,13] (fun v xv yv d=>xv=.pointer (some ⟨if a[i].1=2 then R else Q,0,none⟩)/\yv=.pointer (some ⟨if a[i].1=0 then Q else R,0,none⟩)/\GrowsP g c.heap.size j d v (E3 a (M8 S T a[i] k++Q4 S T a[i] k)))
       case first=>
        by_cases b5:a[i].1=0
        ·have h0:((a[i].1:Int)==0)=true:=by simp[b5]
         obtain⟨hx,hy⟩:a[i].2.1<x.length/\a[i].2.2<x.length:=by
          rcases a6.out with h|h|h
          ·exact h.2
          ·omega
          ·omega
         have c7:a[i].2.1<S.ends.length:=by rw[Z.lenE];exact hx
         have t:S.ends[a[i].2.1]?=some S.ends[a[i].2.1]:=List.getElem?_eq_getElem c7;obtain⟨gE,cE,e0,C,_,_⟩:=e7.end' t;have U:Hid (S.ends[a[i].2.1]?=some S.ends[a[i].2.1]):=t;have V:Hid (a[i].1=0):=b5;clear t b5;cases f:S.ends[a[i].2.1] with
         | false=>
          rw[f]at C;have r:Hid (Q4 S T a[i] k=[]):=jQ2 k (fun h=>by have n:=h.2;rw[U.out,f]at n;cases n);clear f;go_wp2_with fail;go_quiet (fail)
          go_wp2_with fail;go_meet
          case rel=>
           refine⟨by rw[if_neg (by rw[V.out];omega)],by rw[if_pos V.out],?_⟩;rw[r.out,List.append_nil];exact gK.below (J6 _ nq _)
         | true=>
          rw[f]at C;have r:Hid (Q4 S T a[i] k=F9 1 (S.row a[i].2.2 k) (T.row 0 k)):=tQt k ⟨V.out,by rw[U.out,f]⟩;clear f;go_wp2_with fail;go_quiet (fail)
          go_wp2_with fail;obtain⟨rS,g1,n3,_⟩:=Z.row a[i].2.2 _ (List.getElem?_eq_getElem hy);obtain⟨rT,g2,n4,_⟩:=a3.row 0 _ (List.getElem?_eq_getElem h8);obtain⟨H,cA,M,a4,b8,la,lc,a0,a1,a2,A0,A1,A2,f9,c8⟩:=e7.at' g1 (k:=k) (by omega);obtain⟨J,cB,O,a5,b9,ma,mc,b0,b1,b2,B0,B1,B2,g0,c9⟩:=g5.at' g2 (k:=k) (by omega);have m0:k<a4:=by omega
          have m1:k<a5:=by omega
          have m8:a[i].2.2<S.to.length:=(List.getElem?_eq_some_iff.1 g1).1;have o1:0<T.to.length:=(List.getElem?_eq_some_iff.1 g2).1;have lS:=Z.row_length hP j3 hy e1;have lT:=a3.row_length hQ j4 h8 e1;have HS:Hid (∀d v d3,GrowsP g c.heap.size j d v d3->(d.cell? ⟨Q,0,none⟩=some (.slice (some ⟨H,0,none⟩) S.to.length cA)/\d.cell? ⟨H,a[i].2.2,none⟩=some (.slice (some ⟨M,0,none⟩) a4 b8)/\d.cell? ⟨M,k,none⟩=some (.slice la (S.row a[i].2.2 k).length lc))/\(d.cell? ⟨R,0,none⟩=some (.slice (some ⟨J,0,none⟩) T.to.length cB)/\d.cell? ⟨J,0,none⟩=some (.slice (some ⟨O,0,none⟩) a5 b9)/\d.cell? ⟨O,k,none⟩=some (.slice ma (T.row 0 k).length mc))/\d.cell? ⟨o,2,none⟩=some (.int .i64 a[i].2.2)):=fun d v d3 h=>⟨⟨(h.cell A0 _).trans a0,(h.cell A1 _).trans a1,(h.cell A2 _).trans a2⟩,⟨(h.cell B0 _).trans b0,(h.cell B1 _).trans b1,(h.cell B2 _).trans b2⟩,(h.cell j1 _).trans n2⟩;have HC:Hid (∀W,Below (g.drewN nq).heap.size (g.drewN nq) W->Calls Tryz.prog 42 #[j,.slice la (S.row a[i].2.2 k).length lc,.slice ma (T.row 0 k).length mc,.int .i64 1] W fun e E=>∃z A B,e=.returned (.slice z A B)/\GrowsP g c.heap.size j E (.slice z A B) (E3 a (M8 S T a[i] k++Q4 S T a[i] k))):=fun W hW=>by
           have l2:=(J6 g nq g.heap.size).trans hW;rw[r.out];exact nQu i1 e4 gK l2 c8 c9 (by omega) (by omega) k7.out 1
          have m5:=HS.out _ _ _ (gK.below (J6 g nq g.heap.size));clear e0 C a0 a1 a2 b0 b1 b2 g1 g2 n3 n4 f9 g0 c8 c9;generalize g.drewN nq=wz at *;go_region_held (fun w'=>(w'.cell? ⟨Q,0,none⟩=some (.slice (some ⟨H,0,none⟩) S.to.length cA)/\w'.cell? ⟨H,a[i].2.2,none⟩=some (.slice (some ⟨M,0,none⟩) a4 b8)/\w'.cell? ⟨M,k,none⟩=some (.slice la (S.row a[i].2.2 k).length lc))/\(w'.cell? ⟨R,0,none⟩=some (.slice (some ⟨J,0,none⟩) T.to.length cB)/\w'.cell? ⟨J,0,none⟩=some (.slice (some ⟨O,0,none⟩) a5 b9)/\w'.cell? ⟨O,k,none⟩=some (.slice ma (T.row 0 k).length mc))/\w'.cell? ⟨o,2,none⟩=some (.int .i64 a[i].2.2)) (first|assumption|go_keep) ((go_at_call 42;refine(HC.out _ ?_).mono ?_;exact(Below.refl _ _).drew;rintro e E ⟨z,A,B,rfl,F⟩;have m4:=HS.out _ _ _ F))
          go_wp2_with fail;go_meet
          case rel=>exact⟨by rw[if_neg (by rw[V.out];omega)],by rw[if_pos V.out],F⟩
        ·have r:Hid (Q4 S T a[i] k=[]):=jQ2 k (fun h=>b5 h.1)
         have h0:((a[i].1:Int)==0)=false:=by simp;omega
         have V:Hid (¬a[i].1=0):=b5;clear b5
         by_cases c6:a[i].1=2
         ·have n:((a[i].1:Int)==2)=true:=by simp[c6]
          have e9:Hid (a[i].1=2):=c6;clear c6;go_wp2_with fail;go_meet
          case rel=>
           refine⟨by rw[if_pos e9.out],by rw[if_neg V.out],?_⟩;rw[r.out,List.append_nil];exact gK
         ·have n:((a[i].1:Int)==2)=false:=by simp;omega
          have e9:Hid (¬a[i].1=2):=c6;clear c6;go_wp2_with fail;go_meet
          case rel=>
           refine⟨by rw[if_neg e9.out],by rw[if_neg V.out],?_⟩;rw[r.out,List.append_nil];exact gK
       case rest=>
        obtain⟨rfl,rfl,gx⟩:=hcut;obtain⟨⟨rX,g3,l6,lX⟩,⟨rY,g4,l7,lY⟩⟩:=sides hP hQ Z a3 j3 j4 nP nQ a6.out e1;have tX:TV g (Ge g j) (if a[i].1=2 then R else Q) (jX3 S T a[i].1):=by unfold jX3;split;exact g5;exact e7
        have tY:TV g (Ge g j) (if a[i].1=0 then Q else R) (jX4 S T a[i].1):=by unfold jX4;split;exact e7;exact g5
        have k9:Hid (M8 S T a[i] (k+1)=(M8 S T a[i] k++Q4 S T a[i] k)++F9 a[i].1 ((jX3 S T a[i].1).row a[i].2.1 k) ((jX4 S T a[i].1).row a[i].2.2 k)):=by rw[nQy,<-List.append_assoc];rfl
        generalize (if a[i].1=2 then R else Q)=xb at *;generalize (if a[i].1=0 then Q else R)=yb at *;generalize jX3 S T a[i].1=a7 at *;generalize jX4 S T a[i].1=a8 at *;obtain⟨H,cA,M,a4,b8,la,lc,a0,a1,a2,A0,A1,A2,f9,c8⟩:=tX.at' g3 (k:=k) l6;obtain⟨J,cB,O,a5,b9,ma,mc,b0,b1,b2,B0,B1,B2,g0,c9⟩:=tY.at' g4 (k:=k) l7;have m0:k<a4:=by omega
        have m1:k<a5:=by omega
        have o8:a[i].2.1<a7.to.length:=(List.getElem?_eq_some_iff.1 g3).1;have m8:a[i].2.2<a8.to.length:=(List.getElem?_eq_some_iff.1 g4).1;have HS:Hid (∀d v d3,GrowsP g c.heap.size j d v d3->(d.cell? ⟨xb,0,none⟩=some (.slice (some ⟨H,0,none⟩) a7.to.length cA)/\d.cell? ⟨H,a[i].2.1,none⟩=some (.slice (some ⟨M,0,none⟩) a4 b8)/\d.cell? ⟨M,k,none⟩=some (.slice la (a7.row a[i].2.1 k).length lc))/\(d.cell? ⟨yb,0,none⟩=some (.slice (some ⟨J,0,none⟩) a8.to.length cB)/\d.cell? ⟨J,a[i].2.2,none⟩=some (.slice (some ⟨O,0,none⟩) a5 b9)/\d.cell? ⟨O,k,none⟩=some (.slice ma (a8.row a[i].2.2 k).length mc))/\d.cell? ⟨fb,1,none⟩=some (.int .i64 a[i].2.1)/\d.cell? ⟨fb,2,none⟩=some (.int .i64 a[i].2.2)/\d.cell? ⟨o,0,none⟩=some (.int .i64 a[i].1)):=fun d v d3 h=>⟨⟨(h.cell A0 _).trans a0,(h.cell A1 _).trans a1,(h.cell A2 _).trans a2⟩,⟨(h.cell B0 _).trans b0,(h.cell B1 _).trans b1,(h.cell B2 _).trans b2⟩,(h.cell i2 _).trans f1,(h.cell i2 _).trans f2,(h.cell j1 _).trans n0⟩;have HC:Hid (∀W,Below wc.heap.size wc W->Calls Tryz.prog 42 #[u8,.slice la (a7.row a[i].2.1 k).length lc,.slice ma (a8.row a[i].2.2 k).length mc,.int .i64 a[i].1] W fun e E=>∃z A B,e=.returned (.slice z A B)/\GrowsP g c.heap.size j E (.slice z A B) (E3 a (M8 S T a[i] (k+1)))):=fun W hW=>by
         rw[k9.out];exact nQu i1 e4 gx hW c8 c9 lX lY k8.out a[i].1
        have m5:=HS.out _ _ _ gx;clear a0 a1 a2 b0 b1 b2 g3 g4 f9 g0 c8 c9;go_wp2_with fail;go_region_held (fun w'=>(w'.cell? ⟨xb,0,none⟩=some (.slice (some ⟨H,0,none⟩) a7.to.length cA)/\w'.cell? ⟨H,a[i].2.1,none⟩=some (.slice (some ⟨M,0,none⟩) a4 b8)/\w'.cell? ⟨M,k,none⟩=some (.slice la (a7.row a[i].2.1 k).length lc))/\(w'.cell? ⟨yb,0,none⟩=some (.slice (some ⟨J,0,none⟩) a8.to.length cB)/\w'.cell? ⟨J,a[i].2.2,none⟩=some (.slice (some ⟨O,0,none⟩) a5 b9)/\w'.cell? ⟨O,k,none⟩=some (.slice ma (a8.row a[i].2.2 k).length mc))/\w'.cell? ⟨fb,1,none⟩=some (.int .i64 a[i].2.1)/\w'.cell? ⟨fb,2,none⟩=some (.int .i64 a[i].2.2)/\w'.cell? ⟨o,0,none⟩=some (.int .i64 a[i].1)) (first|assumption|go_keep) ((go_at_call 42;refine(HC.out _ ?_).mono ?_;exact(Below.refl _ _).drew;rintro e E ⟨z,A,B,rfl,F⟩;have m4:=HS.out _ _ _ F))
        go_wp2_with fail;exact⟨⟨k+1,by omega,by go_num,h2.out.next F⟩,by simp[intOf];omega⟩
      ·have l8:k=L.length:=by omega
       subst l8;have h6:=fun (h:¬kXr T a[i])=>X.next c5 (m:=M8 S T a[i] L.length++V9 S a[i]) (fun b=>lQq) (fun b l=>HE.out _ b a6.out l) h;have h5:=h6 s.out;clear h6;have e8:Hid (BF (hXr S T L.length) (kXr T) (IO3 x.length y.length) (E3 a (M8 S T a[i] L.length++V9 S a[i])) (i+1)):=h5;clear h5;have n6:=k5.mono gk.ge
       by_cases u:a[i].1=1
       ·have h1:((a[i].1:Int)==1)=true:=by simp[u]
        obtain⟨hx,hy⟩:a[i].2.1<x.length/\a[i].2.2<y.length:=by
         rcases a6.out with h|h|h
         ·omega
         ·exact h.2
         ·omega
        have c7:a[i].2.1<S.ends.length:=by rw[Z.lenE];exact hx
        have t:S.ends[a[i].2.1]?=some S.ends[a[i].2.1]:=List.getElem?_eq_getElem c7;obtain⟨gE,cE,e0,C,_,_⟩:=n6.end' t;have U:Hid (S.ends[a[i].2.1]?=some S.ends[a[i].2.1]):=t;have f0:Hid (a[i].1=1):=u;clear t u;cases f:S.ends[a[i].2.1] with
        | false=>
         rw[f]at C;have r:Hid (V9 S a[i]=[]):=by
          show _=_;unfold V9;rw[if_neg (fun h=>by have n:=h.2;rw[U.out,f]at n;cases n)]
         clear f;go_wp2_with fail;go_quiet (fail)
         go_wp2_with fail;have g6:=P.next (gk.below (J6 wr nq wr.heap.size));refine⟨⟨i+1,_,by go_num,?_,e8.out⟩,by simp[intOf];omega⟩;rw[r.out,List.append_nil];exact g6
        | true=>
         rw[f]at C;have r:Hid (V9 S a[i]=[(2,a[i].2.2,0)]):=by
          show _=_;unfold V9;rw[if_pos ⟨f0.out,by rw[U.out,f]⟩]
         clear f;go_wp2_with fail;go_quiet (fail)
         go_wp2_with fail;have g6:=gk.below (J6 wr nq wr.heap.size);have HC:Hid (∀W,Below (wr.drewN nq).heap.size (wr.drewN nq) W->Calls Tryz.prog 43 #[j,.agg #[.int .i64 2,.int .i64 a[i].2.2,.int .i64 0]] W fun e E=>∃z A B,e=.returned (.slice z A B)/\GrowsP wc c.heap.size (.slice (some ⟨a9,0,none⟩) a.length b7) E (.slice z A B) (E3 a (M8 S T a[i] L.length++V9 S a[i]))):=fun W hW=>by
          have gW:=g6.below hW;refine(gQg W c.heap.size ?_ j _ gW.pl (dQ4 e4 _) ?_ (2,a[i].2.2,0)).mono ?_
          ·have:=P.grown.size;have:=gW.grown.size;omega
          ·exact Nat.le_trans (HB.out _ (fun b l=>eQ9 l (Nat.le_refl _))) (by omega)
          ·rintro e E ⟨v5,rfl,i7,l4,m3⟩
           have F:GrowsP W c.heap.size j E v5 _:=⟨i7,l4,m3⟩;have key:=gW.next F;rw[<-gQf,<-r.out]at key;rcases O0 i7 with⟨rfl,_⟩|⟨g',o0,rfl⟩
           ·exact⟨_,_,_,rfl,key⟩
           ·exact⟨_,_,_,rfl,key⟩
         clear e0 C k0 k1 k2;generalize wr.drewN nq=wz at *;refine(HC.out _ (Below.refl _ _)).mono ?_;rintro e E ⟨z,A,B,rfl,F⟩;go_wp2_with fail;exact⟨⟨i+1,_,by go_num,P.next F,e8.out⟩,by simp[intOf];omega⟩
       ·have h1:((a[i].1:Int)==1)=false:=by simp;omega
        have r:Hid (V9 S a[i]=[]):=by
         show _=_;unfold V9;rw[if_neg (fun h=>u h.1)]
        clear u;go_wp2_with fail;go_quiet (fail)
        go_wp2_with fail;have g6:=P.next (gk.below (J6 wr nq wr.heap.size));refine⟨⟨i+1,_,by go_num,?_,e8.out⟩,by simp[intOf];omega⟩;rw[r.out,List.append_nil];exact g6
  ·go_wp2_with fail
   go_ret;have:i=a.length:=by have:=X.le;omega
   subst this;exact⟨true,rfl,by rw[<-h4];simp[X.done],d7.grown gr.grown (by have:=d7.size;omega) k4⟩
end Go.Proofs.YtfklinjaajafgaaGreatDoor
