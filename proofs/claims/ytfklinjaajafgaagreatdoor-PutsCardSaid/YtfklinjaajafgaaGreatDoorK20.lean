import Derived.Test.YtfklinjaajafgaaGreatDoorK24
import Derived.Deep.CutBlock
set_option maxRecDepth 100000
set_option maxHeartbeats 4000000
namespace Go.Proofs.YtfklinjaajafgaaGreatDoor
open Ls
open Go.RowKit
variable {P:Lu->Rd}{bad:Bool}{c:UInt8}{i i' z z':Nat}{p:Pat}{r:Lu}{res:Rd}{s:By}(D pb:Nat)(w:World)
theorem dQq {t:Lu}(h:t <:+ rest s i):t=rest s (s.size-t.length):=by
 have a:=h.trans (List.drop_suffix i s.data.toList);have b:=List.suffix_iff_eq_drop.1 a;simpa using b
theorem yQj (s:By)(hs:s.size<=1048576)(i z:Nat)(h:PB w pb s i z false)(M:i<s.size)(Y:z<=1048576+i)(y:nx s i=91) :
  Calls Tryz.prog 118 #[Pt pb,Iv (D:Int)] w (PPost w pb s i z (fXg (pat (12-D)) (rest s i))):=by
 have I:=h.lt;have B:¬w.heap.size=pb:=by omega
 have W:¬pb=w.heap.size:=by omega
 have l:Hid (fXg (pat (12-D)) (rest s i)=match cls ((rest s (i+1)).length+1) [] (rest s (i+1)) with|.none=>.none|some (s,u)=>some (Ls.place s,u)):=by
  show _=_;rw[D4 M,y];rfl
 have K:Hid _:=y;have V:=K5;go_enter Tryz.func118,Tryz.ntmps118;go_wp2_with fail;refine(G5 i pb s z false _ (h.below (A5 _ _)) (by omega) (by omega)).mono ?_;rw[K.out];rintro e w1 ⟨rfl,H⟩;go_wp2_with fail;refine(M7 91 _).mono ?_;rintro e P ⟨rfl,rfl⟩;have d:=(Left.of_below h (A5 w (.cells #[Iv 0,.string ⟨#[]⟩,.slice none 0 0] 27))).below H;have g:=(C7 w [Iv 0,.string ⟨#[]⟩,.slice none 0 0]).below H (by simp);have Z:=g.lt;obtain⟨o,p,q⟩:=g.three (a:=nN);have E:=g.fr 0;have F:=g.fr 1;have G:=g.fr 2;have Q:=d.lies.fr 1;have k1:=d.lies.c1;have R:=d.lies.fr 2;have k2:=d.lies.c2;have S:=d.lies.fr 3;have k3:=d.lies.c3;go_wp2_with fail;have k:=(d.set1 (i+1)).set2 (z+1);have N:=(g.set_other pb 1 (Iv ((i+1:Nat):Int)) B).set_other pb 2 (Iv ((z+1:Nat):Int)) B;refine(sQw (i+1) pb s (z+1) _ k.lies hs (by omega)).mono ?_;rintro e J A;have L:∃b j ,Left w pb s j (z+1) b J:=by
  rcases A with⟨r,t,_,_,c⟩|⟨_,j,_,_,_,c⟩
  ·exact⟨_,_,k.trans c⟩
  ·exact⟨_,_,k.trans c⟩
 have m:∃b j,Left ((P.setCell ⟨pb,1,none⟩ (Iv ((i+1:Nat):Int))).setCell ⟨pb,2,none⟩ (Iv ((z+1:Nat):Int))) pb s j (z+1) b J:=by
  rcases A with⟨r,t,_,_,c⟩|⟨_,j,_,_,_,c⟩
  ·exact⟨_,_,c⟩
  ·exact⟨_,_,c⟩
 obtain⟨_,_,m⟩:=m;have n:=N.grown m.grown (by simp[B]);obtain⟨o,p,q⟩:=n.three (a:=nN);have E:=n.fr 0;have F:=n.fr 1;have G:=n.fr 2;rcases A with⟨r,t,f,rfl,c⟩|⟨f,j,T,U,rfl,c⟩
 ·have C:=iX4 _ _ _ _ _ f
  have O:Hid _:=dQq C.1;have X:t.length<=s.size:=by have:=C.2;simp at this;omega
  have x:Hid (fXg (pat (12-D)) (rest s i)=some (Ls.place r,rest s (s.size-t.length))):=by
   show _=_;rw[l.out,f,<-O.out]
  go_wp2;exact bodyPost_ret (v:=B4 (Ls.set r) (.slice none 0 0)) (by simp[results,Tryz.results118,go_sem,o,p,q,Ls.set]) rfl (fQj x.out (by omega) ((k.trans c).res (Nat.le_refl _) I _ _ _))
 ·have x:Hid (fXg (pat (12-D)) (rest s i)=.none):=by
   show _=_;rw[l.out,f]
  go_wp2;exact bodyPost_ret (v:=B4 nN (.slice none 0 0)) (by simp[results,Tryz.results118,go_sem,o,p,q,nN]) rfl (T6 x.out ((k.trans c).res (Nat.le_refl _) I _ _ _) (by omega) (by omega) (by omega))
theorem yQl (s:By)(hs:s.size<=1048576)(i z:Nat)(h:PB w pb s i z false)(K:i<s.size)(R:z<=1048576+i)(f:gXu (nx s (i+1))=false)(B:nx s i=92) :
  Calls Tryz.prog 118 #[Pt pb,Iv (D:Int)] w (PPost w pb s i z (fXg (pat (12-D)) (rest s i))):=by
 have M:=h.lt;have o:Hid _:=f;have L:¬w.heap.size=pb:=by omega
 have Q:¬pb=w.heap.size:=by omega
 have n:Hid _:=B;have P:=K5;go_enter Tryz.func118,Tryz.ntmps118;go_wp2_with fail;refine(G5 i pb s z false _ (h.below (A5 _ _)) (by omega) (by omega)).mono ?_;rw[n.out];rintro e V ⟨rfl,y⟩;go_wp2_with fail;refine(M7 92 _).mono ?_;rintro e X ⟨rfl,rfl⟩;have c:=(Left.of_below h (A5 w (.cells #[Iv 0,.string ⟨#[]⟩,.slice none 0 0] 27))).below y;have d:=(C7 w [Iv 0,.string ⟨#[]⟩,.slice none 0 0]).below y (by simp);have S:=d.lt;obtain⟨k,l,m⟩:=d.three (a:=nN);have t:=d.fr 0;have u:=d.fr 1;have x:=d.fr 2;have p:=c.lies.fr 1;have F:=c.lies.c1;have q:=c.lies.fr 2;have G:=c.lies.c2;have r:=c.lies.fr 3;have H:=c.lies.c3;go_wp2_with fail;have C:=c.set1 (i+1);have E:=d.set_other pb 1 (Iv ((i+1:Nat):Int)) L;refine(G5 (i+1) pb s z false _ C.lies (by omega) (by omega)).mono ?_;rintro e O ⟨rfl,A⟩;have b:=C.below A;have g:=E.below A E.lt;have T:=g.lt;obtain⟨k,l,m⟩:=g.three (a:=nN);have t:=g.fr 0;have u:=g.fr 1;have x:=g.fr 2;have p:=b.lies.fr 1;have U:=b.lies.c0;have F:=b.lies.c1;have q:=b.lies.fr 2;have G:=b.lies.c2;have r:=b.lies.fr 3;have H:=b.lies.c3;have f:=o.out;have I:Hid (fXg (pat (12-D)) (rest s i)=.none):=by
  show _=_;rw[D4 K,n.out];rcases Nat.lt_or_ge (i+1) s.size with j|j
  ·rw[D4 j];simp[fXg,f]
  ·rw[P4 j];rfl
 have J:Hid (∀W,Ca 71 #[.int .u8 (nx s (i+1)).toNat] W fun e N=>e=.returned (.bool false)/\N=W):=fun W=>by have:=M7 (nx s (i+1)) W;rw[f]at this;exact this
 go_wp2;go_quiet ((go_at_call 71;exact Calls.quiet_of_same (J.out _)))
 go_wp2;exact bodyPost_ret (v:=B4 nN (.slice none 0 0)) (by simp[results,Tryz.results118,go_sem,k,l,m,nN]) rfl (T6 I.out (((((b.below (E5 (w:=O) nq)).set1 (i+1+1)).set2 (z+1)).set3 true).res (Nat.le_refl _) M _ _ _) (by omega) (by omega) (by omega))
theorem yQm (s:By)(hs:s.size<=1048576)(i z:Nat)(h:PB w pb s i z false)(P:i<s.size)(Z:z<=1048576+i)(f:gXu (nx s (i+1))=true)(L:nx s i=92) :
  Calls Tryz.prog 118 #[Pt pb,Iv (D:Int)] w (PPost w pb s i z (fXg (pat (12-D)) (rest s i))):=by
 have S:=h.lt;have K:Hid _:=f;have R:¬w.heap.size=pb:=by omega
 have Y:¬pb=w.heap.size:=by omega
 have J:Hid _:=L;have X:=K5;go_enter Tryz.func118,Tryz.ntmps118;go_wp2_with fail;refine(G5 i pb s z false _ (h.below (A5 _ _)) (by omega) (by omega)).mono ?_;rw[J.out];rintro e w1 ⟨rfl,C⟩;go_wp2_with fail;refine(M7 92 _).mono ?_;rintro e w2 ⟨rfl,rfl⟩;have c:=(Left.of_below h (A5 w (.cells #[Iv 0,.string ⟨#[]⟩,.slice none 0 0] 27))).below C;have g:=(C7 w [Iv 0,.string ⟨#[]⟩,.slice none 0 0]).below C (by simp);have a0:=g.lt;obtain⟨l,m,n⟩:=g.three (a:=nN);have q:=g.fr 0;have r:=g.fr 1;have t:=g.fr 2;have o:=c.lies.fr 1;have u:=c.lies.c1;have p:=c.lies.fr 2;have x:=c.lies.c2;have A:=c.lies.fr 3;have H:=c.lies.c3;go_wp2_with fail;have F:=c.set1 (i+1);have G:=g.set_other pb 1 (Iv ((i+1:Nat):Int)) R;refine(G5 (i+1) pb s z false _ F.lies (by omega) (by omega)).mono ?_;rintro e y ⟨rfl,E⟩;have b:=F.below E;have d:=G.below E G.lt;have a1:=d.lt;obtain⟨l,m,n⟩:=d.three (a:=nN);have q:=d.fr 0;have r:=d.fr 1;have t:=d.fr 2;have o:=b.lies.fr 1;have U:=b.lies.c0;have u:Ce y pb 1 (Iv ((i:Int)+1)):=by have:=b.lies.c1;simpa using this
 have p:=b.lies.fr 2;have x:=b.lies.c2;have A:=b.lies.fr 3;have H:=b.lies.c3;have f:=K.out;have Q:i+1<s.size:=by
  rcases Nat.lt_or_ge (i+1) s.size with B|B
  ·exact B
  ·rw[dQa B]at f;exact absurd f (by decide)
 have M:Hid (fXg (pat (12-D)) (rest s i)=some (Ls.place [nx s (i+1)],rest s (i+1+1))):=by
  show _=_;rw[D4 P,J.out,D4 Q];simp[fXg,f]
 have I:Hid (∀W,Ca 71 #[.int .u8 (nx s (i+1)).toNat] W fun e V=>e=.returned (.bool true)/\V=W):=fun W=>by have:=M7 (nx s (i+1)) W;rw[f]at this;exact this
 have N:decide (((i:Int)+1)<(s.size:Int))=true:=by simp;omega
 have O:((i:Int)+1)<(s.size:Int):=by omega
 go_wp2;go_quiet ((go_at_call 71;exact Calls.quiet_of_same (I.out _)))
 have j:=b.below (E5 (w:=y) nq);have k:=d.below (E5 (w:=y) nq) d.lt;generalize y.drewN nq=w4 at *;have T:=k.lt;obtain⟨l,m,n⟩:=k.three (a:=nN);have q:=k.fr 0;have r:=k.fr 1;have t:=k.fr 2;have o:=j.lies.fr 1;have u:=j.lies.c1;have p:=j.lies.fr 2;have x:=j.lies.c2;go_wp2;exact bodyPost_ret (v:=B4 (Ls.set [nx s (i+1)]) (.slice none 0 0)) (by simp[results,Tryz.results118,go_sem,l,m,n,T,Ls.set]) rfl (fQj M.out (by omega) ((((j.set1 (i+1+1)).set2 (z+1)).res (Nat.le_refl _) S _ _ _).below (A5 _ _)))
theorem yQo (s:By)(hs:s.size<=1048576)(hD:D<=12)(hP:Y1 s (D+1))(i z:Nat)(h:PB w pb s i z false)(hi:i<s.size)(hz:z<=1048576+i)(T:nx s i=40) :
  Calls Tryz.prog 118 #[Pt pb,Iv (D:Int)] w (PPost w pb s i z (fXg (pat (12-D)) (rest s i))):=by
 have b0:=h.lt;have Z:¬w.heap.size=pb:=by omega
 have c4:¬pb=w.heap.size:=by omega
 have P:Hid (fXg (pat (12-D)) (rest s i)=match pat (12-D) (rest s (i+1)) with|.none=>.none|some (d,u)=>if u.head?=some 41 then some (d,u.tail) else .none):=by
  show _=_;rw[D4 hi,T];rfl
 have Hc:Hid _:=T;have b6:=K5;go_enter Tryz.func118,Tryz.ntmps118;go_wp2_with fail;refine(G5 i pb s z false _ (h.below (A5 _ _)) (by omega) (by omega)).mono ?_;rw[Hc.out];rintro e w1 ⟨rfl,a0⟩;go_wp2_with fail;refine(M7 40 _).mono ?_;rintro e w2 ⟨rfl,rfl⟩;have q:=(Left.of_below h (A5 w (.cells #[Iv 0,.string ⟨#[]⟩,.slice none 0 0] 27))).below a0;have x:=(C7 w [Iv 0,.string ⟨#[]⟩,.slice none 0 0]).below a0 (by simp);have c8:=x.lt;obtain⟨H,I,J⟩:=x.three (a:=nN);have g0:=x.fr 0;have g1:=x.fr 1;have g2:=x.fr 2;have f1:=q.lies.fr 1;have k1:=q.lies.c1;have f2:=q.lies.fr 2;have k2:=q.lies.c2;have f3:=q.lies.fr 3;have k3:=q.lies.c3;go_wp2_with fail;have a1:=q.set1 (i+1);have a6:=x.set_other pb 1 (Iv ((i+1:Nat):Int)) Z;have S:=hP pb (i+1) z _ a1.lies (by omega) (by omega);rw[show ((D+1:Nat):Int)=(D:Int)+1 from by omega,show 13-(D+1)=12-D from by omega]at S;refine S.mono ?_;rintro e c a4;have a8:∃(p:Pat) (y:Value) (b n:Nat) (t:Bool),e=.returned (B4 p y)/\PV c (B8 (w2.setCell ⟨pb,1,none⟩ (Iv ((i+1:Nat):Int))) c) p y/\b<=s.size+1/\i+1<=b/\n<=z+(b-(i+1))/\Left (w2.setCell ⟨pb,1,none⟩ (Iv ((i+1:Nat):Int))) pb s b n t c/\
   ((t=true/\pat (12-D) (rest s (i+1))=.none)\/(t=false/\∃d,pat (12-D) (rest s (i+1))=some (d,rest s b)/\p=eX5 d/\n=z+dsize d/\b<=s.size)):=by
  rcases a4 with⟨d,b5,y,m,U,A,V⟩|⟨m,p,y,b,n,U,A,F,L,h3,V⟩
  ·have a5:=hXa _ _ _ _ m
   have b2:=hXk _ _ _ _ m;rw[F4]at b2;have b3:=dQq a5;have a7:=a5.length_le;rw[F4]at a7;exact⟨_,y,s.size-b5.length,z+dsize d,false,U,A,by omega,by omega,by omega,V,.inr ⟨rfl,d,by rw[m,<-b3],rfl,rfl,by omega⟩⟩
  ·exact⟨p,y,b,n,true,U,A,L,F,h3,V,.inl ⟨rfl,m⟩⟩
 obtain⟨p,y,b,n,t,rfl,A,b7,b8,c9,W,M⟩:=a8;clear a4;have Y:=a6.grown W.grown (by simp[Z]);have a2:=a1.trans W;obtain⟨g,j,l,rfl⟩:=PV.slice _ _ A;have b4:=W.grown.size;simp[World.setCell]at b4;go_wp2_with fail;refine(O5 b 41 pb s n t _ (a2.lies.below (A5 _ _)) (by omega) (by omega)).mono ?_;rintro e K ⟨rfl,N⟩;have X:=(a2.below (A5 c (.cells #[Iv p.kind,Sv p.signs,.slice g j l] 27))).trans N;have O:=(Y.below (A5 c (.cells #[Iv p.kind,Sv p.signs,.slice g j l] 27)) Y.lt).grown N.grown (by simp[Z]);have a9:¬c.heap.size=pb:=by omega
 have a3:=(C7 c (C2 p (.slice g j l))).grown N.grown (by simp[a9]);obtain⟨H,I,J⟩:=O.three (a:=nN);have g0:=O.fr 0;have g1:=O.fr 1;have g2:=O.fr 2;obtain⟨m0,m1,m2⟩:=a3.three;have k3:=X.lies.c3;have f3:=X.lies.fr 3;have d1:c.heap.size<K.heap.size:=a3.lt;have d0:w.heap.size<c.heap.size:=Y.lt;have c5:¬pb=c.heap.size:=by omega
 have c6:¬w.heap.size=c.heap.size:=by omega
 have c7:¬c.heap.size=w.heap.size:=by omega
 have HB:Hid (∀f k,B8 (w2.setCell ⟨pb,1,none⟩ (Iv ((i+1:Nat):Int))) c k->((((K.setCell ⟨pb,3,none⟩ (.bool f)).setCell ⟨w.heap.size,0,none⟩ (Iv p.kind)).setCell ⟨w.heap.size,1,none⟩ (Sv p.signs)).setCell ⟨w.heap.size,2,none⟩ (.slice g j l)).heap[k]?=c.heap[k]?):=by
  intro f k G;have F:=G.1;have L:=G.2;simp[World.setCell]at F;rw[dQl _ _ _ _ _ _ (by omega),Below.heap_setCell _ _ _ _ (by show k≠pb;omega),N.grown.block k (by simp;omega) (by simp;omega)];exact Below.heap_alloc _ _ _ L
 have Q:Hid (∀f,PV ((((K.setCell ⟨pb,3,none⟩ (.bool f)).setCell ⟨w.heap.size,0,none⟩ (Iv p.kind)).setCell ⟨w.heap.size,1,none⟩ (Sv p.signs)).setCell ⟨w.heap.size,2,none⟩ (.slice g j l)) (B8 w ((((K.setCell ⟨pb,3,none⟩ (.bool f)).setCell ⟨w.heap.size,0,none⟩ (Iv p.kind)).setCell ⟨w.heap.size,1,none⟩ (Sv p.signs)).setCell ⟨w.heap.size,2,none⟩ (.slice g j l))) p (.slice g j l)):=by
  intro f;refine PV.mono (fun k G=>?_) (HB.out f) _ _ A;have F:=G.1;have L:=G.2;simp[World.setCell]at F;exact⟨by omega,by simp[World.setCell];omega⟩
 have B:Hid (∀f,Left w pb s (if A7 s b 41=true then b+1 else b) n f ((((K.setCell ⟨pb,3,none⟩ (.bool f)).setCell ⟨w.heap.size,0,none⟩ (Iv p.kind)).setCell ⟨w.heap.size,1,none⟩ (Sv p.signs)).setCell ⟨w.heap.size,2,none⟩ (.slice g j l))):=fun f=>(X.set3 f).res (Nat.le_refl _) b0 _ _ _;clear HB;cases t with
 | true=>
  have C:Hid (fXg (pat (12-D)) (rest s i)=.none):=by
   rcases M with⟨_,m⟩|⟨E,_⟩
   ·show _=_;rw[P.out,m]
   ·cases E
  clear M;go_wp2_with fail;have b1:A7 s b 41=true->b<s.size:=fun h=>(D9 h).1;refine bodyPost_ret (v:=B4 p (.slice g j l)) (by simp[results,Tryz.results118,go_sem,H,I,J]) rfl (.inr ⟨C.out,p,_,_,n,rfl,Q.out true,?_,?_,?_,B.out true⟩)<;>(split<;>first|omega|(have:=b1 (by assumption);omega))
 | false=>
  obtain⟨d,m,rfl,rfl,b9⟩:∃d,pat (12-D) (rest s (i+1))=some (d,rest s b)/\p=eX5 d/\n=z+dsize d/\b<=s.size:=by
   rcases M with⟨E,_⟩|⟨_,E⟩
   ·cases E
   ·exact E
  clear M;have Hr:Hid (pat (12-D) (rest s (i+1))=some (d,rest s b)):=m;clear m;cases r:A7 s b 41 with
  | true=>
   have C:Hid (fXg (pat (12-D)) (rest s i)=some (d,rest s (b+1))):=by
    show _=_;rw[P.out,Hr.out];dsimp only
    rw[if_pos (C4.2 r),E7]
   have c0:=(D9 r).1;have o:=B.out false;rw[r]at o;simp only[if_true]at o;have R:Hid _:=o;clear o B r;go_wp2_with fail;refine bodyPost_ret (v:=B4 (eX5 d) (.slice g j l)) (by simp[results,Tryz.results118,go_sem,H,I,J]) rfl (.inl ⟨d,_,_,C.out,rfl,Q.out false,?_⟩);rw[F4,show s.size-(s.size-(b+1))=b+1 from by omega];exact R.out
  | false=>
   have C:Hid (fXg (pat (12-D)) (rest s i)=.none):=by
    show _=_;rw[P.out,Hr.out];dsimp only
    rw[if_neg (by rw[C4,r];simp)]
   have o:=B.out true;rw[r]at o;simp only[Bool.false_eq_true,if_false]at o;have R:Hid _:=o;clear o B r;go_wp2_with fail;exact bodyPost_ret (v:=B4 (eX5 d) (.slice g j l)) (by simp[results,Tryz.results118,go_sem,H,I,J]) rfl (.inr ⟨C.out,_,_,_,_,rfl,Q.out true,by omega,by omega,by omega,R.out⟩)
theorem yQa (s:By)(hs:s.size<=1048576)(k:D<=12)(l:Y1 s (D+1)):iQy s D:=by
 intro c i z w h a b
 by_cases j:∀x,x∈([40,91,46,92,41,93,42,43,63,124,47,34]:Lu)->nx s i≠x
 ·cases f:gXu (nx s i) with
  | true=>exact yQp s D (nx s i) c i z w hs h a b j f rfl
  | false=>exact yQn s D (nx s i) c i z w hs h a b j f rfl
 ·have n:∃x,x∈([40,91,46,92,41,93,42,43,63,124,47,34]:Lu)/\nx s i=x:=by
   apply Classical.byContradiction
   intro m;exact j fun x g e=>m ⟨x,g,e⟩
  obtain⟨x,g,d⟩:=n;simp only[List.mem_cons,List.not_mem_nil,or_false]at g;rcases g with rfl|rfl|rfl|rfl|rfl|rfl|rfl|rfl|rfl|rfl|rfl|rfl
  ·exact yQo D c w s hs k l i z h a b d
  ·exact yQj D c w s hs i z h a b d
  ·exact yQk s D c i z w hs h a b d
  ·cases f:gXu (nx s (i+1)) with
   | true=>exact yQm D c w s hs i z h a b f d
   | false=>exact yQl D c w s hs i z h a b f d
  ·exact yQd s D c i z w hs h a b (by decide) d
  ·exact yQd s D c i z w hs h a b (by decide) d
  ·exact yQd s D c i z w hs h a b (by decide) d
  ·exact yQd s D c i z w hs h a b (by decide) d
  ·exact yQd s D c i z w hs h a b (by decide) d
  ·exact yQd s D c i z w hs h a b (by decide) d
  ·exact yQd s D c i z w hs h a b (by decide) d
  ·exact yQd s D c i z w hs h a b (by decide) d
def F8 (res:Rd)(s:By)(z i' z':Nat)(bad:Bool)(p:Pat):Prop:=
 (bad=true/\res=.none)\/(bad=false/\∃d,res=some (d,rest s i')/\p=eX5 d/\z'=z+dsize d/\i'<=s.size)
theorem PPost.mid {w m:World}{u:Nat}{e:Ending}(h:PPost w u s i z res e m)(A:∀d t,res=some (d,t)->t <:+ rest s i/\dsize d+t.length<=(rest s i).length)(C:i<=s.size) :
  ∃p b c f a j r,e=.returned (B4 p (.slice b c f))/\PV m (B8 w m) p (.slice b c f)/\i<=a/\a<=s.size+1/\j<=z+(a-i)/\Left w u s a j r m/\F8 res s z a j r p:=by
 rcases h with⟨d,t,y,l,o,g,q⟩|⟨l,p,y,a,j,o,g,k,n,v,q⟩
 ·obtain⟨k,n⟩:=A d t l
  have B:=dQq k;have x:=k.length_le;rw[F4]at x n;obtain⟨b,c,f,rfl⟩:=PV.slice _ _ g;exact⟨_,b,c,f,s.size-t.length,z+dsize d,false,o,g,by omega,by omega,by omega,q,.inr ⟨rfl,d,by rw[l,<-B],rfl,rfl,by omega⟩⟩
 ·obtain⟨b,c,f,rfl⟩:=PV.slice _ _ g
  exact⟨p,b,c,f,a,j,true,o,g,k,n,v,q,.inl ⟨rfl,l⟩⟩
theorem aQa {w W:World}{e:Nat}{x:Value}{H:Nat->Prop}(m:F8 res s z i' z' bad p)(q:e<w.heap.size)(h:i<=i')(j:i'<=s.size+1)(l:z'<=z+(i'-i))
  (n:Left w e s i' z' bad W) (o:PV W H p x) (b:∀k,H k->w.heap.size<k/\k<W.heap.size) :
  PPost w e s i z res (.returned (B4 p x)) (((W.setCell ⟨w.heap.size,0,none⟩ (Iv p.kind)).setCell ⟨w.heap.size,1,none⟩ (Sv p.signs)).setCell ⟨w.heap.size,2,none⟩ x):=by
 have g:PV (((W.setCell ⟨w.heap.size,0,none⟩ (Iv p.kind)).setCell ⟨w.heap.size,1,none⟩ (Sv p.signs)).setCell ⟨w.heap.size,2,none⟩ x) (B8 w (((W.setCell ⟨w.heap.size,0,none⟩ (Iv p.kind)).setCell ⟨w.heap.size,1,none⟩ (Sv p.signs)).setCell ⟨w.heap.size,2,none⟩ x)) p x:=
  PV.mono (fun k a=>⟨Nat.le_of_lt (b k a).1,by simp[World.setCell];exact(b k a).2⟩) (fun k a=>dQl _ _ _ _ _ _ (by have:=(b k a).1;omega)) _ _ o
 have f:=n.res (Nat.le_refl _) q (Iv p.kind) (Sv p.signs) x;rcases m with⟨rfl,c⟩|⟨rfl,d,c,rfl,rfl,r⟩
 ·exact .inr ⟨c,_,_,i',z',rfl,g,h,j,l,f⟩
 ·refine .inl ⟨d,_,_,c,rfl,g,?_⟩
  rw[F4,show s.size-(s.size-i')=i' from by omega];exact f
theorem dXm (h:F8 (fXg P r) s z i' z' bad p)(b:A7 s i' 42=true):F8 (gXq P r) s z (i'+1) z' bad (fXl p):=by
 rcases h with⟨rfl,a⟩|⟨rfl,d,a,rfl,rfl,c⟩
 ·exact .inl ⟨rfl,by rw[gXq,a]⟩
 ·refine .inr ⟨rfl,Ls.rep 5 d,?_,by rw[hXo],by rw[fX5],(D9 b).1⟩
  rw[gXq,a];dsimp only;rw[if_pos (C4.2 b),E7]
theorem iQe {a b:UInt8}(h:A7 s i a=true)(e:a≠b):A7 s i b=false:=by
 obtain⟨c,d⟩:=D9 h;simp[A7,c,d,e]
theorem dXl (h:F8 (fXg P r) s z i' z' bad p)(b:A7 s i' 43=true):F8 (gXq P r) s z (i'+1) z' bad (Ls.row p (fXl p)):=by
 rcases h with⟨rfl,a⟩|⟨rfl,d,a,rfl,rfl,c⟩
 ·exact .inl ⟨rfl,by rw[gXq,a]⟩
 ·refine .inr ⟨rfl,Ls.rep 6 d,?_,by rw[iXf],by rw[fX5],(D9 b).1⟩
  rw[gXq,a];dsimp only;rw[if_neg (by rw[C4,iQe b (by decide)];simp),if_pos (C4.2 b),E7]
theorem dXi (h:F8 (fXg P r) s z i' z' bad p)(a:A7 s i' 63=true):F8 (gXq P r) s z (i'+1) z' bad (Ls.any p nN):=by
 rcases h with⟨rfl,b⟩|⟨rfl,d,b,rfl,rfl,c⟩
 ·exact .inl ⟨rfl,by rw[gXq,b]⟩
 ·refine .inr ⟨rfl,Ls.rep 7 d,?_,by rw[iX2],by rw[fX5],(D9 a).1⟩
  rw[gXq,b];dsimp only;rw[if_neg (by rw[C4,iQe a (by decide)];simp),if_neg (by rw[C4,iQe a (by decide)];simp),if_pos (C4.2 a),E7]
theorem dXc (h:F8 (fXg P r) s z i' z' bad p)(b:A7 s i' 42=false)(c:A7 s i' 43=false)(e:A7 s i' 63=false):F8 (gXq P r) s z i' z' bad p:=by
 rcases h with⟨rfl,a⟩|⟨rfl,d,a,rfl,rfl,f⟩
 ·exact .inl ⟨rfl,by rw[gXq,a]⟩
 ·refine .inr ⟨rfl,d,?_,rfl,rfl,f⟩
  rw[gXq,a];dsimp only;rw[if_neg (by rw[C4,b];simp),if_neg (by rw[C4,c];simp),if_neg (by rw[C4,e];simp)]
theorem hQu (h:A7 s i c=true):nx s i=c:=(D9 h).2
theorem hQv (b:c≠0)(h:A7 s i c=false):nx s i≠c:=by
 intro e;rcases Nat.lt_or_ge i s.size with a|a
 ·simp[A7,a,e]at h
 ·rw[dQa a]at e;exact b e.symm
def gQe (s:By)(D:Nat):Prop:=∀(pb i z:Nat) (w:World),PB w pb s i z false->i<s.size->z<=1048576+i->
 Ca 99 #[.pointer (some ⟨pb,0,none⟩),.int .i64 (D:Int)] w (PPost w pb s i z (gXq (pat (12-D)) (rest s i)))
theorem dXb (s:By)(hs:s.size<=1048576)(hO:iQy s D):gQe s D:=by
 intro g b7 b8 w h hi hz;have W:=h.lt;have V:¬w.heap.size=g:=by omega
 have c3:¬g=w.heap.size:=by omega
 go_enter Tryz.func99,Tryz.ntmps99;go_wp2_with fail;refine(hO g b7 b8 _ (h.below (A5 _ _)) hi hz).mono ?_;rintro e i a8;obtain⟨p,r,t,u,d,z',a5,rfl,hv,c0,c2,c7,a2,z⟩:=a8.mid (fun b9 d3 hr=>⟨(jXt (hXa _) hr).1,kXw (hXk _) hr⟩) (by omega);have a1:=(Left.of_below h (A5 w (.cells #[Iv 0,.string ⟨#[]⟩,.slice none 0 0] 27))).trans a2;have a3:=(C7 w [Iv 0,.string ⟨#[]⟩,.slice none 0 0]).grown a2.grown (by simp[V]);have b6:=a3.lt;go_wp2_with fail;have F:=G5 d g s z' a5 _ (a1.lies.below (A5 i (.cells #[Iv p.kind,Sv p.signs,.slice r t u] 27))) (by omega) (by omega);have j:Hid (∀k,B8 (w.alloc (.cells #[Iv 0,.string ⟨#[]⟩,.slice none 0 0] 27)) i k->w.heap.size<k/\k<i.heap.size):=fun k b=>by have h1:=b.1;simp at h1;exact⟨by omega,b.2⟩
 have b3:¬i.heap.size=g:=by omega
 have c4:¬g=i.heap.size:=by omega
 have c5:¬w.heap.size=i.heap.size:=by omega
 have c6:¬i.heap.size=w.heap.size:=by omega
 have a6:∀f,Below (i.alloc (.cells #[Iv p.kind,Sv p.signs,.slice r t u] 27)).heap.size (i.alloc (.cells #[Iv p.kind,Sv p.signs,.slice r t u] 27)) f->
   Left w g s d z' a5 f/\Lies f i.heap.size (C2 p (.slice r t u))/\Lies f w.heap.size [Iv 0,.string ⟨#[]⟩,.slice none 0 0]/\i.heap.size<f.heap.size/\PV f (B8 (w.alloc (.cells #[Iv 0,.string ⟨#[]⟩,.slice none 0 0] 27)) i) p (.slice r t u):=fun f l=>
  ⟨(a1.below (A5 _ _)).below l,(C7 i _).below l (by simp),(a3.below (A5 _ _) b6).below l (by simp;omega),by have:=l.size;simp at this;omega,(hv.below (A5 _ _) (fun _ h=>h.2) (fun _ h=>h)).below l (fun k b=>by have:=b.2;simp;omega) (fun _ h=>h)⟩
 have T:Hid _:=a6;cases x:A7 s d 42 with
 | true=>
  have C:=dXm z x;rw[hQu x]at F;have a7:=(D9 x).1;refine F.mono ?_;rintro e f ⟨rfl,l⟩;obtain⟨n,A,q,a4,G⟩:=T.out f l;obtain⟨M,N,O⟩:=A.three;have k1:=n.lies.c1;have X:=n.lies.fr 1;go_wp2_with fail;refine(aQ5 (.slice r t u) p _ _ (fun k b=>by have:=j.out k b;simp[World.setCell];omega) (PV.mono (fun _ h=>h) (fun k b=>Below.heap_setCell _ _ _ _ (by have:=j.out k b;show k≠g;omega)) _ _ G)).mono ?_;rintro e P ⟨b0,rfl,B,m⟩;obtain⟨Q,R,S,rfl⟩:=PV.slice _ _ B;have K:=(n.set1 (d+1)).below m;have o:=(q.set_other g 1 (Iv ((d+1:Nat):Int)) V).below m (by simp[World.setCell];omega);have L:=m.size;simp[World.setCell]at L;obtain⟨H,I,J⟩:=o.three (a:=nN);have Y:=o.fr 0;have Z:=o.fr 1;have g2:=o.fr 2;go_wp2;exact bodyPost_ret (v:=B4 (fXl p) (.slice Q R S)) (by simp[results,Tryz.results99,go_sem,H,I,J]) rfl (aQa C W (by omega) (by omega) (by omega) K B (fun k b=>by
   rcases b with b|b
   ·have:=j.out k b;omega
   ·have:=b.1;simp[World.setCell]at this;have:=b.2;omega))
 | false=>
  cases y:A7 s d 43 with
  | true=>
   have C:=dXl z y;rw[hQu y]at F;have a7:=(D9 y).1;clear x y z;refine F.mono ?_;rintro e f ⟨rfl,l⟩;obtain⟨n,A,q,a4,G⟩:=T.out f l;obtain⟨M,N,O⟩:=A.three;have k1:=n.lies.c1;have X:=n.lies.fr 1;go_wp2_with fail;have a9:=PV.mono (fun _ h=>h) (fun k b=>Below.heap_setCell f ⟨g,1,none⟩ (Iv ((d+1:Nat):Int)) _ (by have:=j.out k b;show k≠g;omega)) _ _ G;refine(aQ5 (.slice r t u) p _ _ (fun k b=>by have:=j.out k b;simp[World.setCell];omega) a9).mono ?_;rintro e P ⟨b0,rfl,B,m⟩;obtain⟨Q,R,S,rfl⟩:=PV.slice _ _ B;have K:=(n.set1 (d+1)).below m;have o:=(q.set_other g 1 (Iv ((d+1:Nat):Int)) V).below m (by simp[World.setCell];omega);have b2:=(A.set_other g 1 (Iv ((d+1:Nat):Int)) b3).below m (by simp[World.setCell];omega);have b5:=a9.below (G':=F5 (B8 (w.alloc (.cells #[Iv 0,.string ⟨#[]⟩,.slice none 0 0] 27)) i) (f.setCell ⟨g,1,none⟩ (Iv ((d+1:Nat):Int))) P) m (fun k b=>by have:=j.out k b;simp[World.setCell];omega) (fun _ h=>Or.inl h);have L:=m.size;simp[World.setCell]at L;clear M N O k1 X;have c8:i.heap.size<P.heap.size:=by omega
   have c9:w.heap.size<P.heap.size:=by omega
   obtain⟨M,N,O⟩:=b2.three;go_wp2_with fail;refine(aQc p (fXl p) (.slice r t u) (.slice Q R S) _ _ (fun k b=>?_) (b5.below (A5 _ _) (fun k b=>?_) (fun _ h=>h)) (B.below (A5 _ _) (fun k b=>?_) (fun _ h=>h))).mono ?_
   ·rcases b with b|b
    ·have:=j.out k b;simp;omega
    ·have:=b.2;simp;omega
   ·rcases b with b|b
    ·have:=j.out k b;omega
    ·exact b.2
   ·rcases b with b|b
    ·have:=j.out k b;omega
    ·exact b.2
   rintro e w4 ⟨d4,rfl,hu,a0⟩;obtain⟨u1,u2,u3,rfl⟩:=PV.slice _ _ hu;have b1:=(K.below (A5 _ _)).below a0;have U:=(o.below (A5 _ _) o.lt).below a0 (by simp;omega);have b4:=a0.size;simp at b4;obtain⟨H,I,J⟩:=U.three (a:=nN);have Y:=U.fr 0;have Z:=U.fr 1;have g2:=U.fr 2;go_wp2_with fail;exact bodyPost_ret (v:=B4 (Ls.row p (fXl p)) (.slice u1 u2 u3)) (by simp[results,Tryz.results99,go_sem,H,I,J]) rfl (aQa C W (by omega) (by omega) (by omega) b1 hu (fun k b=>by
    rcases b with (b|b)|b
    ·have:=j.out k b;omega
    ·have:=b.1;simp[World.setCell]at this;have:=b.2;omega
    ·have:=b.1;simp at this;have:=b.2;omega))
  | false=>
   cases E:A7 s d 63 with
   | true=>
    have C:=dXi z E;rw[hQu E]at F;have a7:=(D9 E).1;clear x y E z;refine F.mono ?_;rintro e f ⟨rfl,l⟩;obtain⟨n,A,q,a4,G⟩:=T.out f l;obtain⟨M,N,O⟩:=A.three;have k1:=n.lies.c1;have X:=n.lies.fr 1;go_wp2_with fail;refine(eQl nN (.slice r t u) (.slice none 0 0) p _ _ (fun k b=>by have:=j.out k b;simp[World.setCell];omega) (PV.mono (fun _ h=>h) (fun k b=>Below.heap_setCell _ _ _ _ (by have:=j.out k b;show k≠g;omega)) _ _ G) (R4 _ _ _ _)).mono ?_;rintro e P ⟨b0,rfl,B,m⟩;obtain⟨Q,R,S,rfl⟩:=PV.slice _ _ B;have K:=(n.set1 (d+1)).below m;have o:=(q.set_other g 1 (Iv ((d+1:Nat):Int)) V).below m (by simp[World.setCell];omega);have L:=m.size;simp[World.setCell]at L;obtain⟨H,I,J⟩:=o.three (a:=nN);have Y:=o.fr 0;have Z:=o.fr 1;have g2:=o.fr 2;go_wp2_with fail;exact bodyPost_ret (v:=B4 (Ls.any p nN) (.slice Q R S)) (by simp[results,Tryz.results99,go_sem,H,I,J]) rfl (aQa C W (by omega) (by omega) (by omega) K B (fun k b=>by
     rcases b with b|b
     ·have:=j.out k b;omega
     ·have:=b.1;simp[World.setCell]at this;have:=b.2;omega))
   | false=>
    have C:=dXc z x y E;have d0:(((nx s d).toNat:Int)==42)=false:=by rw[beq_eq_false_iff_ne];intro e;exact hQv (c:=42) (by decide) x (UInt8.toNat_inj.1 (by simp;omega))
    have d1:(((nx s d).toNat:Int)==43)=false:=by rw[beq_eq_false_iff_ne];intro e;exact hQv (c:=43) (by decide) y (UInt8.toNat_inj.1 (by simp;omega))
    have d2:(((nx s d).toNat:Int)==63)=false:=by rw[beq_eq_false_iff_ne];intro e;exact hQv (c:=63) (by decide) E (UInt8.toNat_inj.1 (by simp;omega))
    clear x y E z;refine F.mono ?_;rintro e f ⟨rfl,l⟩;obtain⟨n,A,q,a4,G⟩:=T.out f l;obtain⟨M,N,O⟩:=A.three;obtain⟨H,I,J⟩:=q.three (a:=nN);have Y:=q.fr 0;have Z:=q.fr 1;have g2:=q.fr 2;go_wp2_with fail;exact bodyPost_ret (v:=B4 p (.slice r t u)) (by simp[results,Tryz.results99,go_sem,H,I,J]) rfl (aQa C W (by omega) (by omega) (by omega) n G (fun k b=>by
     have:=j.out k b;omega))
variable {P:Lu->Rd}{a i1 i2 k n z z1 z2:Nat}{b bad:Bool}{c:UInt8}{p q:Pat}(s:By)(t:Lu)(D pb i:Nat)(w:World)
def bQv (w:World)(pb:Nat)(s:By)(i z:Nat)(b:Bool):Ending->World->Prop:=fun e w'=>e=.returned (B4 nN (.slice none 0 0))/\Left w pb s i z b w'
theorem dXo (z:Nat)(h:PB w pb s i z true) :
  Calls Tryz.prog 67 #[Pt pb,Iv (D:Int)] w (bQv w pb s i z true):=by
 have f:=h.lt;have o:=h.c0;have p:=h.c1;have q:=h.c3;have d:=Left.of_below h (A5 w Zp);have c:=C7 w [Iv 0,Ez,Zl];go_enter Tryz.func67,Tryz.ntmps67;go_wp2;go_quiet (fail)
 have e:=d.below (E5 (w:=w.alloc Zp) nq);have b:=c.below (E5 (w:=w.alloc Zp) nq) c.lt;generalize (w.alloc Zp).drewN nq=r at *;have⟨g,j,k⟩:=b.three (a:=nN);have l:=b.fr 0;have m:=b.fr 1;have n:=b.fr 2;go_wp2;exact bodyPost_ret (v:=B4 nN Zl) (by simp[results,Tryz.results67,go_sem,g,j,k,nN]) rfl ⟨rfl,e.res Nr f _ _ _⟩
theorem dXs (z:Nat)(h:PB w pb s i z false)(_hs:s.size<=1048576)(p:s.size<=i)(_hi2:i<=4611686018427387904) :
  Calls Tryz.prog 67 #[Pt pb,Iv (D:Int)] w (bQv w pb s i z false):=by
 have f:=h.lt;have q:=h.c0;have r:=h.c1;have t:=h.c3;have o:decide ((s.size:Int)<=(i:Int))=true:=by simp;omega
 have d:=Left.of_below h (A5 w Zp);have c:=C7 w [Iv 0,Ez,Zl];go_enter Tryz.func67,Tryz.ntmps67;go_wp2;go_quiet (fail)
 have e:=d.below (E5 (w:=w.alloc Zp) nq);have b:=c.below (E5 (w:=w.alloc Zp) nq) c.lt;generalize (w.alloc Zp).drewN nq=u at *;have⟨g,j,k⟩:=b.three (a:=nN);have l:=b.fr 0;have m:=b.fr 1;have n:=b.fr 2;go_wp2;exact bodyPost_ret (v:=B4 nN Zl) (by simp[results,Tryz.results67,go_sem,g,j,k,nN]) rfl ⟨rfl,e.res Nr f _ _ _⟩
theorem dXp (z:Nat)(h:PB w pb s i z false)(_hs:s.size<=1048576)(f:i<s.size)(d:nx s i=124) :
  Calls Tryz.prog 67 #[Pt pb,Iv (D:Int)] w (bQv w pb s i z false):=by
 have j:=h.lt;have u:=h.c0;have x:=h.c1;have y:=h.c3;have q:decide ((s.size:Int)<=(i:Int))=false:=by simp;omega
 have r:(i:Int)<(s.size:Int):=by omega
 have t:decide (s.size<=i)=false:=by simp;omega
 have A:((s[i].toNat:Int)==124)=true:=by rw[<-M6 f,d];rfl
 have e:=Left.of_below h (A5 w Zp);have c:=C7 w [Iv 0,Ez,Zl];go_enter Tryz.func67,Tryz.ntmps67;go_wp2;go_quiet (fail)
 have g:=e.below (E5 (w:=w.alloc Zp) nq);have b:=c.below (E5 (w:=w.alloc Zp) nq) c.lt;generalize (w.alloc Zp).drewN nq=B at *;have⟨k,l,m⟩:=b.three (a:=nN);have n:=b.fr 0;have o:=b.fr 1;have p:=b.fr 2;go_wp2;exact bodyPost_ret (v:=B4 nN Zl) (by simp[results,Tryz.results67,go_sem,k,l,m,nN]) rfl ⟨rfl,g.res Nr j _ _ _⟩
theorem dXq (z:Nat)(h:PB w pb s i z false)(_hs:s.size<=1048576)(e:i<s.size)(c:nx s i=41) :
  Calls Tryz.prog 67 #[Pt pb,Iv (D:Int)] w (bQv w pb s i z false):=by
 have j:=h.lt;have u:=h.c0;have x:=h.c1;have y:=h.c3;have q:decide ((s.size:Int)<=(i:Int))=false:=by simp;omega
 have r:(i:Int)<(s.size:Int):=by omega
 have t:decide (s.size<=i)=false:=by simp;omega
 have A:((s[i].toNat:Int)==124)=false:=by rw[<-M6 e,c];rfl
 have B:((s[i].toNat:Int)==41)=true:=by rw[<-M6 e,c];rfl
 have f:=Left.of_below h (A5 w Zp);have d:=C7 w [Iv 0,Ez,Zl];go_enter Tryz.func67,Tryz.ntmps67;go_wp2;go_quiet (fail)
 have g:=f.below (E5 (w:=w.alloc Zp) nq);have b:=d.below (E5 (w:=w.alloc Zp) nq) d.lt;generalize (w.alloc Zp).drewN nq=C at *;have⟨k,l,m⟩:=b.three (a:=nN);have n:=b.fr 0;have o:=b.fr 1;have p:=b.fr 2;go_wp2;exact bodyPost_ret (v:=B4 nN Zl) (by simp[results,Tryz.results67,go_sem,k,l,m,nN]) rfl ⟨rfl,g.res Nr j _ _ _⟩
theorem dXr (z:Nat)(h:PB w pb s i z false)(_hs:s.size<=1048576)(d:i<s.size)(b:nx s i=47) :
  Calls Tryz.prog 67 #[Pt pb,Iv (D:Int)] w (bQv w pb s i z false):=by
 have j:=h.lt;have u:=h.c0;have x:=h.c1;have y:=h.c3;have q:decide ((s.size:Int)<=(i:Int))=false:=by simp;omega
 have r:(i:Int)<(s.size:Int):=by omega
 have t:decide (s.size<=i)=false:=by simp;omega
 have A:((s[i].toNat:Int)==124)=false:=by rw[<-M6 d,b];rfl
 have B:((s[i].toNat:Int)==41)=false:=by rw[<-M6 d,b];rfl
 have C:((s[i].toNat:Int)==47)=true:=by rw[<-M6 d,b];rfl
 have f:=Left.of_below h (A5 w Zp);have e:=C7 w [Iv 0,Ez,Zl];go_enter Tryz.func67,Tryz.ntmps67;go_wp2;go_quiet (fail)
 have g:=f.below (E5 (w:=w.alloc Zp) nq);have c:=e.below (E5 (w:=w.alloc Zp) nq) e.lt;generalize (w.alloc Zp).drewN nq=E at *;have⟨k,l,m⟩:=c.three (a:=nN);have n:=c.fr 0;have o:=c.fr 1;have p:=c.fr 2;go_wp2;exact bodyPost_ret (v:=B4 nN Zl) (by simp[results,Tryz.results67,go_sem,k,l,m,nN]) rfl ⟨rfl,g.res Nr j _ _ _⟩
theorem dXu (hs:s.size<=1048576)(z:Nat)(h:PB w pb s i z false)(d:i<=s.size)(c:hXn (rest s i)=true) :
  Calls Tryz.prog 67 #[Pt pb,Iv (D:Int)] w (bQv w pb s i z false):=by
 rcases Nat.lt_or_ge i s.size with a|a
 ·rw[D4 a]at c
  simp only[hXn,Bool.or_eq_true,beq_iff_eq]at c;rcases c with (b|b)|b
  ·exact dXp s D pb i w z h hs a b
  ·exact dXq s D pb i w z h hs a b
  ·exact dXr s D pb i w z h hs a b
 ·exact dXs s D pb i w z h hs a (by omega)
def dQ3 (s:By)(D n:Nat):Prop:=∀(pb i z:Nat) (w:World),PB w pb s i z false->i<=s.size->z<=1048576+i->(rest s i).length<n->
 Ca 67 #[.pointer (some ⟨pb,0,none⟩),.int .i64 (D:Int)] w (PPost w pb s i z (things (pat (12-D)) n (rest s i)))
theorem sQi {s:By}{i:Nat}(c:hXn (rest s i)=false)(g:F8 (gXq P (rest s i)) s z i1 z1 false p)(h:F8 (things P n (rest s i1)) s z1 i2 z2 bad q):F8 (things P (n+1) (rest s i)) s z i2 z2 bad (Ls.row p q):=by
 rcases g with⟨f,_⟩|⟨_,d,b,rfl,rfl,k⟩
 ·cases f
 rcases h with⟨rfl,a⟩|⟨rfl,e,a,rfl,rfl,j⟩
 ·exact .inl ⟨rfl,by rw[things,if_neg (by simp[c]),b];dsimp only;rw[a]⟩
 ·exact .inr ⟨rfl,rcons d e,by rw[things,if_neg (by simp[c]),b];dsimp only;rw[a],by rw[hXe],by rw[gXp];omega,j⟩
theorem sQj {s:By}{i:Nat}(d:hXn (rest s i)=false)(b:F8 (gXq P (rest s i)) s z i1 z1 true p):F8 (things P (n+1) (rest s i)) s z i2 z2 true q:=by
 rcases b with⟨_,c⟩|⟨a,_⟩
 ·exact .inl ⟨rfl,by rw[things,if_neg (by simp[d]),c]⟩
 ·cases a
theorem cX1 {s:By}{i:Nat}(a:hXn (rest s i)=false):∃_h:i<s.size,nx s i≠124/\nx s i≠41/\nx s i≠47:=by
 rcases Nat.lt_or_ge i s.size with b|b
 ·rw[D4 b]at a
  simp only[hXn,Bool.or_eq_false_iff,beq_eq_false_iff_ne]at a;exact⟨b,a.1.1,a.1.2,a.2⟩
 ·rw[P4 b]at a;cases a
theorem dXt (_hs:s.size<=1048576)(n:Nat)(hT:gQe s D)(hN:dQ3 s D n)(z:Nat)(h:PB w pb s i z false)(hz:z<=1048576+i)(hn:(rest s i).length<n+1)(U:hXn (rest s i)=false) :
  Calls Tryz.prog 67 #[Pt pb,Iv (D:Int)] w (PPost w pb s i z (things (pat (12-D)) (n+1) (rest s i))):=by
 have⟨G,K,L,M⟩:=cX1 U;have b2:=h.lt;have a2:¬w.heap.size=pb:=by omega
 have c2:¬pb=w.heap.size:=by omega
 have k0:=h.c0;have k1:=h.c1;have k3:=h.c3;have hd:decide ((s.size:Int)<=(i:Int))=false:=by simp;omega
 have b7:(i:Int)<(s.size:Int):=by omega
 have b8:decide (s.size<=i)=false:=by simp;omega
 have c8:((s[i].toNat:Int)==124)=false:=by rw[beq_eq_false_iff_ne,<-M6 G];intro e;exact K (UInt8.toNat_inj.1 (by simp;omega))
 have c9:((s[i].toNat:Int)==41)=false:=by rw[beq_eq_false_iff_ne,<-M6 G];intro e;exact L (UInt8.toNat_inj.1 (by simp;omega))
 have d0:((s[i].toNat:Int)==47)=false:=by rw[beq_eq_false_iff_ne,<-M6 G];intro e;exact M (UInt8.toNat_inj.1 (by simp;omega))
 have X:=Left.of_below h (A5 w Zp);have S:=C7 w [Iv 0,Ez,Zl];go_enter Tryz.func67,Tryz.ntmps67;go_wp2;go_quiet (fail)
 have Y:=X.below (E5 (w:=w.alloc Zp) nq);have a0:=S.below (E5 (w:=w.alloc Zp) nq) S.lt;generalize (w.alloc Zp).drewN nq=w2 at *;go_wp2_with fail;refine(hT pb i z _ Y.lies G hz).mono ?_;rintro e x J;obtain⟨p,g,j,l,o,N,a4,rfl,hv,b9,a7,c4,Q,y⟩:=J.mid (fun d b6 m=>⟨(jXz (hXa _) m).1,kXy (hXk _) m⟩) (by omega);have a8:=Y.trans Q;have a1:=a0.grown Q.grown (by simp[a2]);have c5:=Q.grown.size;have c7:=a0.lt;go_wp2_with fail;have R:=a8.below (A5 x (.cells #[Iv p.kind,Sv p.signs,.slice g j l] 27));have b0:=a1.below (A5 x (.cells #[Iv p.kind,Sv p.signs,.slice g j l] 27)) a1.lt;have a3:Ca 67 #[Pt pb,Iv (D:Int)] (x.alloc (.cells #[Iv p.kind,Sv p.signs,.slice g j l] 27)) fun e c=>
   ∃q r t u f A B,e=.returned (B4 q (.slice r t u))/\PV c (B8 (x.alloc (.cells #[Iv p.kind,Sv p.signs,.slice g j l] 27)) c) q (.slice r t u)/\o<=f/\f<=s.size+1/\A<=N+(f-o)/\Left (x.alloc (.cells #[Iv p.kind,Sv p.signs,.slice g j l] 27)) pb s f A B c/\F8 (things (pat (12-D)) (n+1) (rest s i)) s z f A B (Ls.row p q):=by
  cases a4 with
  | true=>
   refine(dXo s D pb o _ N R.lies).mono ?_;rintro e c ⟨rfl,E⟩;exact⟨nN,none,0,0,o,N,true,rfl,R4 _ _ _ _,Nr,a7,by omega,E,sQj U y⟩
  | false=>
   have P:o<=s.size/\(rest s o).length<n:=by
    rcases y with⟨h0,_⟩|⟨_,d,m,_,_,a6⟩
    ·cases h0
    ·have:=(jXz (hXa _) m).2
     exact⟨a6,by omega⟩
   refine(hN pb o N _ R.lies P.1 (by omega) P.2).mono ?_;rintro e c J;obtain⟨q,r,t,u,f,A,B,rfl,V,C,F,W,E,a5⟩:=J.mid (fun d b6 m=>⟨iXe (hXa _) _ _ _ _ m,iXd (hXk _) _ _ _ _ m⟩) P.1;exact⟨q,r,t,u,f,A,B,rfl,V,C,F,W,E,sQi U y a5⟩
 refine a3.mono ?_;rintro e c ⟨q,r,t,u,f,A,B,rfl,V,C,F,W,H,y⟩;have b1:¬x.heap.size=pb:=by omega
 have E:=R.trans H;have T:=b0.grown H.grown (by simp[a2]);have Z:=(C7 x (C2 p (.slice g j l))).grown H.grown (by simp[b1]);have c6:=Z.lt;have b4:PV c (B8 w2 c) p (.slice g j l):=PV.mono (fun k b=>⟨b.1,by have:=b.2;omega⟩) (fun k b=>by
  rw[H.grown.block k (by have:=b.2;simp;omega) (by have:=b.1;simp;omega)];exact Below.heap_alloc _ _ _ b.2) _ _ hv
 have b5:PV c (B8 w2 c) q (.slice r t u):=PV.mono (fun k b=>⟨by have:=b.1;simp at this;omega,b.2⟩) (fun _ _=>rfl) _ _ V;have⟨m0,m1,m2⟩:=Z.three;go_wp2_with fail;refine(aQc p q (.slice g j l) (.slice r t u) _ _ (fun k b=>by have:=b.2;simp;omega) (b4.below (A5 _ _) (fun k b=>b.2) (fun _ h=>h)) (b5.below (A5 _ _) (fun k b=>b.2) (fun _ h=>h))).mono ?_;rintro e w5 ⟨d1,rfl,hx,O⟩;obtain⟨K,L,M,rfl⟩:=PV.slice _ _ hx;have a9:=(E.below (A5 _ _)).below O;have I:=(T.below (A5 _ _) T.lt).below O (by have:=T.lt;simp;omega);have b3:=O.size;simp at b3;have⟨q0,q1,q2⟩:=I.three (a:=nN);have g0:=I.fr 0;have g1:=I.fr 1;have g2:=I.fr 2;go_wp2_with fail;exact bodyPost_ret (v:=B4 (Ls.row p q) (.slice K L M)) (by simp[results,Tryz.results67,go_sem,q0,q1,q2]) rfl (aQa y b2 (by omega) (by omega) (by omega) a9 hx (fun k b=>by
  rcases b with b|b
  ·have C:=b.1;have F:=b.2;omega
  ·have C:=b.1;have F:=b.2;simp at C;omega))
theorem nQ6 (s:By)(hs:s.size<=1048576)(D:Nat)(d:gQe s D):(n:Nat)->dQ3 s D n
 | 0=>fun c i z w _ _ _ a=>absurd a (Nat.not_lt_zero _)
 | n+1=>fun c i z w h f j a=>by
  cases b:hXn (rest s i) with
  | true=>
   refine(dXu s D c i w hs z h f b).mono ?_;rintro e k ⟨rfl,g⟩;refine .inl ⟨rnil,rest s i,_,by rw[things,if_pos b],by rw[fXm],by rw[fXm];exact R4 _ _ _ _,?_⟩;rw[F4,gXh,show s.size-(s.size-i)=i from by omega];exact g
  | false=>exact dXt s D c i w hs n d (nQ6 s hs D d n) z h j a b
def fQ9 (s:By)(D n:Nat):Prop:=∀(pb i z:Nat) (w:World),PB w pb s i z false->i<=s.size->z<=1048576+i->(rest s i).length<n->
 Ca 39 #[.pointer (some ⟨pb,0,none⟩),.int .i64 (D:Int)] w (PPost w pb s i z (alts (pat (12-D)) n (rest s i)))
theorem rQ9 {s:By}{i:Nat}(b:F8 (things P ((rest s i).length+1) (rest s i)) s z i1 z1 false p)(f:A7 s i1 124=false):F8 (alts P (n+1) (rest s i)) s z i1 z1 false p:=by
 rcases b with⟨a,_⟩|⟨_,d,e,rfl,rfl,c⟩
 ·cases a
 ·exact .inr ⟨rfl,clast d,by rw[alts,e];dsimp only;rw[if_neg (by rw[C4,f];simp)],by rw[hXd],by rw[gX8],c⟩
theorem jQj {s:By}{i:Nat}(b:F8 (things P ((rest s i).length+1) (rest s i)) s z i1 z1 true p):F8 (alts P (n+1) (rest s i)) s z i2 z2 true q:=by
 rcases b with⟨_,c⟩|⟨a,_⟩
 ·exact .inl ⟨rfl,by rw[alts,c]⟩
 ·cases a
theorem sQa {s:By}{i:Nat}(g:F8 (things P ((rest s i).length+1) (rest s i)) s z i1 z1 false p)(c:A7 s i1 124=true)(h:F8 (alts P n (rest s (i1+1))) s z1 i2 z2 bad q):F8 (alts P (n+1) (rest s i)) s z i2 z2 bad (Ls.any p q):=by
 rcases g with⟨f,_⟩|⟨_,d,b,rfl,rfl,k⟩
 ·cases f
 rcases h with⟨rfl,a⟩|⟨rfl,e,a,rfl,rfl,j⟩
 ·exact .inl ⟨rfl,by rw[alts,b];dsimp only;rw[if_pos (C4.2 c),E7,a]⟩
 ·exact .inr ⟨rfl,ccons d e,by rw[alts,b];dsimp only;rw[if_pos (C4.2 c),E7,a],by rw[hXc],by rw[gX7];omega,j⟩
theorem zQr:Y1 s 13:=by
 intro a i z w h c k;have j:=h.lt;have f:¬w.heap.size=a:=by omega
 have g:¬a=w.heap.size:=by omega
 have d:=Left.of_below h (A5 w Zp);have l:=h.c3;have b:=h.fr 3;have e:=C7 w [Iv 0,Ez,Zl];go_enter Tryz.func39,Tryz.ntmps39;go_wp2;exact bodyPost_ret (v:=B4 nN Zl) (by simp[results,Tryz.results39,go_sem,nN]) rfl (T6 rfl (((Left.of_below h Br).set3 true).below (A5 _ _)) Nr (by omega) (by omega))
theorem zQs (hs:s.size<=1048576)(n:Nat)(hD:D<=12)(hT:∀b7,dQ3 s D b7)(hN:fQ9 s D n):fQ9 s D (n+1):=by
 intro x i z w h hi hz hn;have T:=h.lt;have S:¬w.heap.size=x:=by omega
 have c4:¬x=w.heap.size:=by omega
 have hl:=Left.of_below h (A5 w Zp);have b1:=C7 w [Iv 0,Ez,Zl];have b9:¬(12:Int)<(D:Int):=by omega
 go_enter Tryz.func39,Tryz.ntmps39;go_wp2_with fail;refine(hT ((rest s i).length+1) x i z _ hl.lies hi hz (Nat.lt_succ_self _)).mono ?_;rintro e d C;obtain⟨p,f,g,j,u,M,I,rfl,hv,c0,c1,c7,O,r⟩:=C.mid (fun a7 b8 E=>⟨iXe (hXa _) _ _ _ _ E,iXd (hXk _) _ _ _ _ E⟩) hi;have a1:=hl.trans O;have a2:=b1.grown O.grown (by simp[S]);have b6:=a2.lt;have b5:=O.grown.size;simp at b5;go_wp2_with fail;refine(O5 u 124 x s M I _ (a1.lies.below (A5 d (.cells #[Iv p.kind,Sv p.signs,.slice f g j] 27))) (by omega) (by omega)).mono ?_;rintro e w2 ⟨rfl,J⟩;have P:=(a1.below (A5 d (.cells #[Iv p.kind,Sv p.signs,.slice f g j] 27))).trans J;have a3:¬d.heap.size=x:=by omega
 have B:=(a2.below (A5 d (.cells #[Iv p.kind,Sv p.signs,.slice f g j] 27)) b6).grown J.grown (by simp[S]);have Q:=(C7 d (C2 p (.slice f g j))).grown J.grown (by simp[a3]);have c8:=Q.lt;have L:=PV.mono (fun k b=>b) (fun k b=>by
  rw[J.grown.block k (by have:=b.2;simp;omega) (by have:=b.1;simp at this;simp;omega)];exact Below.heap_alloc _ _ _ b.2) _ _ hv
 have c:Hid (∀k,B8 (w.alloc Zp) d k->w.heap.size<k/\k<d.heap.size):=fun k b=>by have A:=b.1;simp at A;exact⟨by omega,b.2⟩
 have⟨F,G,H⟩:=B.three (a:=nN);have X:=B.fr 0;have Y:=B.fr 1;have Z:=B.fr 2;have⟨m0,m1,m2⟩:=Q.three;have k3:=P.lies.c3;cases o:A7 s u 124 with
 | false=>
  have l:=P;rw[o]at l;simp only[Bool.false_eq_true,if_false]at l;have y:Hid (F8 (alts (pat (12-D)) (n+1) (rest s i)) s z u M I p):=by
   cases I with
   | true=>exact jQj r
   | false=>exact rQ9 r o
  go_wp2;exact bodyPost_ret (v:=B4 p (.slice f g j)) (by simp[results,Tryz.results39,go_sem,F,G,H]) rfl (aQa y.out T (by omega) (by omega) (by omega) l L (fun k b=>by have:=c.out k b;omega))
 | true=>
  have c2:=(D9 o).1;have l:=P;rw[o]at l;simp only[if_true]at l;cases I with
  | true=>
   have y:Hid (F8 (alts (pat (12-D)) (n+1) (rest s i)) s z (u+1) M true p):=jQj r;go_wp2;exact bodyPost_ret (v:=B4 p (.slice f g j)) (by simp[results,Tryz.results39,go_sem,F,G,H]) rfl (aQa y.out T (by omega) (by omega) (by omega) l L (fun k b=>by have:=c.out k b;omega))
  | false=>
   have a5:Hid (A7 s u 124=true):=o;clear o;go_wp2_with fail;refine(hN x (u+1) M _ l.lies (by omega) (by omega) (by simp at hn ⊢;omega)).mono ?_;rintro e m C;obtain⟨q,U,V,W,i2,z2,a6,rfl,a4,A,h2,h3,t,a0⟩:=C.mid (fun a7 b8 E=>⟨kXf (hXa _) _ _ _ _ E,kXe (hXk _) _ _ _ _ E⟩) (by omega);clear C;have y:Hid (F8 (alts (pat (12-D)) (n+1) (rest s i)) s z i2 z2 a6 (Ls.any p q)):=sQa r a5.out a0;clear r a0;have a8:=l.trans t;have R:=B.grown t.grown (by simp[S]);have b0:=Q.grown t.grown (by simp[a3]);have c9:=t.grown.size;clear F G H X Y Z m0 m1 m2 k3;have⟨m0,m1,m2⟩:=b0.three;have d0:d.heap.size<m.heap.size:=by omega
   have c5:PV m (B8 w m) p (.slice f g j):=PV.mono (fun k b=>⟨by have:=c.out k b;omega,by have:=c.out k b;omega⟩) (fun k b=>t.grown.block k (by have:=c.out k b;omega) (by have:=c.out k b;simp;omega)) _ _ L;have c6:PV m (B8 d m) q (.slice U V W):=PV.mono (fun k b=>⟨by have:=b.1;omega,b.2⟩) (fun _ _=>rfl) _ _ a4;have b3:PV m (fun k=>w.heap.size<k/\k<m.heap.size) p (.slice f g j):=PV.mono (fun k b=>⟨by have:=c.out k b;omega,by have:=c.out k b;omega⟩) (fun k b=>t.grown.block k (by have:=c.out k b;omega) (by have:=c.out k b;simp;omega)) _ _ L;have b4:PV m (fun k=>w.heap.size<k/\k<Hz m) q (.slice U V W):=PV.mono (fun k b=>⟨by have:=b.1;omega,b.2⟩) (fun _ _=>rfl) _ _ a4;go_wp2_with fail;refine(eQl q (.slice f g j) (.slice U V W) p _ _ (fun k b=>by have:=b.2;simp;omega) (b3.below (A5 _ _) (fun k b=>b.2) (fun _ h=>h)) (b4.below (A5 _ _) (fun k b=>b.2) (fun _ h=>h))).mono ?_;rintro e w5 ⟨d1,rfl,hx,N⟩;obtain⟨x1,x2,x3,rfl⟩:=PV.slice _ _ hx;have a9:=(a8.below (A5 _ _)).below N;have K:=(R.below (A5 _ _) R.lt).below N (by have:=R.lt;simp;omega);have b2:=N.size;simp at b2;have⟨F,G,H⟩:=K.three (a:=nN);have X:=K.fr 0;have Y:=K.fr 1;have Z:=K.fr 2;go_wp2_with fail;exact bodyPost_ret (v:=B4 (Ls.any p q) (.slice x1 x2 x3)) (by simp[results,Tryz.results39,go_sem,F,G,H]) rfl (aQa y.out T (by omega) (by omega) (by omega) a9 hx (fun k b=>by
    rcases b with b|b
    ·have A:=b.1;have h2:=b.2;omega
    ·have A:=b.1;have h2:=b.2;simp at A;omega))
theorem mQe (s:By)(hs:s.size<=1048576)(D:Nat)(a:D<=12)(b:∀m,dQ3 s D m):(n:Nat)->fQ9 s D n
 | 0=>fun _ _ _ _ _ _ _ c=>absurd c (Nat.not_lt_zero _)
 | n+1=>zQs s D hs n a b (mQe s hs D a b n)
theorem zQt (hs:s.size<=1048576)(a:D<=12)(b:Y1 s (D+1)):Y1 s D:=by
 intro f i z w h d e;have c:=nQ6 s hs D (dXb D s hs (yQa D s hs a b));have:=mQe s hs D a c ((rest s i).length+1) f i z w h d e (Nat.lt_succ_self _);rw[show 13-D=(12-D)+1 from by omega,pat];exact this
theorem mQf (s:By)(hs:s.size<=1048576):(k:Nat)->k<=13->Y1 s (13-k)
 | 0,_=>zQr s
 | k+1,hk=>by
  have h:=mQf s hs k (by omega);refine zQt s (13-(k+1)) hs (by omega) ?_;rw[show 13-(k+1)+1=13-k from by omega];exact h
def bQh (c:UInt8):Bool:=gXu c&&c != 10
theorem eXo:fX4 (34::t)=some ([],t):=by simp[fX4]
theorem eXn (h:c≠34)(a:bQh c=false):fX4 (c::t)=.none:=by
  rw[fX4,if_neg h,if_pos];unfold bQh at a;cases hs:gXu c with
  | false=>exact .inl rfl
  | true=>rw[hs]at a;simp at a;exact .inr a
theorem eXp (h:c≠34)(b:bQh c=true):fX4 (c::t)=match fX4 t with|.none=>.none|some (w,u)=>some (c::w,u):=by
  unfold bQh at b;simp at b;have d:¬(gXu c=false\/c=10):=by
    rintro (a|a)
    · rw[b.1]at a;cases a
    · exact b.2 a
  rw[fX4,if_neg h,if_neg d];cases fX4 t with
  | none=>rfl
  | some x=>have⟨w,u⟩:=x;rfl
structure Scan (s:By)(i k:Nat)(bad:Bool):Prop where
  le:i<=k
  lt:k<=s.size
  ok:bad=false->fX4 (rest s i)=match fX4 (rest s k) with|.none=>.none|some (w,u)=>some ((rest s i).take (k-i)++w,u)
  no:bad=true->fX4 (rest s i)=.none
theorem Scan.start (a:i<=s.size):Scan s i i false:=by
  refine⟨Nr,a,fun _=>?_,by simp⟩;cases fX4 (rest s i) with
  | none=>rfl
  | some x=>have⟨w,u⟩:=x;simp
theorem cX7 {s:By}{i:Nat}(c:i<=k)(a:k<s.size):(rest s i).take (k+1-i)=(rest s i).take (k-i)++[nx s k]:=by
  have b:k-i<(rest s i).length:=by rw[F4];omega
  rw[show k+1-i=(k-i)+1 by omega,List.take_succ_eq_append_getElem b];congr 2
  rw[List.getElem_drop,M6 a,ByteArray.getElem_eq_getElem_data];simp[show i+(k-i)=k by omega]
theorem Scan.next {s:By}{i:Nat}(h:Scan s i k bad)(b:k<s.size)(c:nx s k≠34):Scan s i (k+1) (bad||!bQh (nx s k)):=by
  have d:=h.le;refine⟨by omega,by omega,fun a=>?_,fun a=>?_⟩
  · simp at a
    rw[h.ok a.1,D4 b,eXp _ c a.2,cX7 h.le b];cases fX4 (rest s (k+1)) with
    | none=>rfl
    | some x=>have⟨w,u⟩:=x;simp
  · simp at a
    rcases a with a|a
    · exact h.no a
    · cases bad with
      | true=>exact h.no rfl
      | false=>rw[h.ok rfl,D4 b,eXn _ c a]
def cQo (w:World)(pb:Nat):Nat:=match w.cell? ⟨pb,1,none⟩ with
  | some (.int _ a)=>a.toNat
  | _=>0
theorem jQe {w:World}{c:Nat}{s:By}(h:PB w c s a z b):cQo w c=a:=by unfold cQo;rw[h.c1];simp
theorem Left.drew' {w d:World}{c:Nat}{s:By}(h:Left w c s a z b d):Left w c s a z b d.drew:=h.below ⟨rfl,rfl,rfl,Nr,fun _ _=>rfl⟩
theorem fQ1 {w d:World}{a:Nat}{s:By}{c:Bool}(l:Scan s i1 k bad)(i:k<s.size)(h:nx s k≠34)(g:c=(bad||!bQh (nx s k)))(j:Left w a s k z bad d) :
    (∃(f:Nat) (b:Bool),Scan s i1 f b/\Left w a s f z b ((d.setCell ⟨a,3,none⟩ (.bool c)).setCell ⟨a,1,none⟩ (Iv (((k+1:Nat)):Int))).drew)/\
    s.size-cQo ((d.setCell ⟨a,3,none⟩ (.bool c)).setCell ⟨a,1,none⟩ (Iv (((k+1:Nat)):Int))).drew a<s.size-k:=by
  have e:=((j.set3 c).set1 (k+1)).drew';exact⟨⟨k+1,c,by rw[g];exact l.next i h,e⟩,by rw[jQe e.lies];omega⟩
theorem cQu (k:Nat):s.extract i k=⟨((rest s i).take (k-i)).toArray⟩:=by
  apply ByteArray.ext
  apply Array.toList_inj.1
  simp[ByteArray.data_extract,List.take_drop]
theorem uQr {s:By}{i:Nat}(a:i<=k)(b:k<=s.size):(s.extract i k).size=k-i:=by
  rw[ByteArray.size_extract];omega
def WPost (w:World)(pb:Nat)(s:By)(i z:Nat):Ending->World->Prop:=fun e w'=>
  (∃x t,fX1 (rest s i)=some (x,t)/\e=.returned (I5 x)/\Left w pb s (s.size-t.length) (z+x.length) false w')\/
  (fX1 (rest s i)=.none/\∃x i' z',e=.returned (I5 x)/\i<=i'/\i'<=s.size+1/\z'<=z+(i'-i)/\Left w pb s i' z' true w')
theorem eXz {w o:World}{e:Nat}{s:By}{i:Nat}(f:Scan s i1 k bad)(p:s.size<=k\/nx s k=34)(m:i1=(if A7 s i 34=true then i+1 else i))(q:Left w e s (if A7 s k 34=true then k+1 else k) z bad o) :
    WPost w e s i z (.returned (.string (s.extract i1 k))) ((o.setCell ⟨e,3,none⟩ (.bool (bad||!A7 s i 34||!A7 s k 34))).setCell ⟨e,2,none⟩ (Iv ((z+(k-i1):Nat):Int))):=by
  have v:=f.le;have x:=f.lt;have a:=(q.set3 (bad||!A7 s i 34||!A7 s k 34)).set2 (z+(k-i1));have j:(if A7 s k 34=true then k+1 else k)<=s.size+1/\k<=(if A7 s k 34=true then k+1 else k):=by split<;>omega
  have u:i<=i1:=by rw[m];split<;>omega
  rw[cQu];cases c:A7 s i 34 with
  | false=>
    have t:fX1 (rest s i)=.none:=by unfold fX1;rw[if_neg (by rw[C4,c];simp)]
    rw[c]at a;exact .inr ⟨t,_,_,z+(k-i1),rfl,by omega,j.1,by omega,by simpa using a⟩
  | true=>
    have l:fX1 (rest s i)=fX4 (rest s i1):=by unfold fX1;rw[if_pos (C4.2 c),E7,m,if_pos c]
    rw[c]at a;cases bad with
    | true=>
      exact .inr ⟨by rw[l];exact f.no rfl,_,_,z+(k-i1),rfl,by omega,j.1,by omega,by simpa using a⟩
    | false=>
      have d:=f.ok rfl;cases b:A7 s k 34 with
      | false=>
        have n:s.size<=k:=by
          rcases p with h|h
          · exact h
          · rcases Nat.lt_or_ge k s.size with g|g
            · unfold A7 at b;simp[g,h]at b
            · exact g
        rw[P4 n]at d;rw[b]at a j;exact .inr ⟨by rw[l];exact d,_,k,z+(k-i1),rfl,by omega,by omega,by omega,by simpa using a⟩
      | true=>
        have n:=(D9 b).1;rw[mQ5 b,eXo]at d;rw[b]at a;refine .inl ⟨_,_,by rw[l];exact d,by simp,?_⟩;rw[F4,show s.size-(s.size-(k+1))=k+1 by omega];have r:((rest s i1).take (k-i1)++[]).length=k-i1:=by simp;omega
        rw[r];simpa using a
theorem oQc (hs:s.size<=1048576)(z:Nat)(h:PB w pb s i z false)(S:i<=s.size)(hz:z<=1048576+i) :
    Calls Tryz.prog 125 #[Pt pb] w (WPost w pb s i z):=by
  go_enter Tryz.func125,Tryz.ntmps125;go_wp2_with fail;refine(O5 i 34 pb s z false _ h (by omega) (by omega)).mono ?_;rintro e w1 ⟨rfl,B⟩;have Y:=B.lies.c1;obtain⟨f,A,a0,T⟩:∃f,f=(if A7 s i 34=true then i+1 else i)/\i<=f/\f<=s.size:=by
    refine⟨_,rfl,?_,?_⟩
    · split<;>omega
    · split
      · rename_i V;have:=(D9 V).1;omega
      · exact S
  rw[<-A]at B Y;have M:Hid _:=A;clear A;go_upto_block 0 with fail
  go_cut [5] (fun _ wx=>∃(k:Nat) (d:Bool),Scan s f k d/\(s.size<=k\/nx s k=34)/\Left w pb s k z d wx)
  ·
   go_wp2;go_loopw [5] (fun _ wr=>∃(k:Nat) (d:Bool),Scan s f k d/\Left w pb s k z d wr) (fun _ wr=>s.size-cQo wr pb)
   ·exact⟨f,false,Scan.start s f T,B⟩
   ·
     have⟨k,d,c,b⟩:=hrel;have I:=c.le;have J:=c.lt;have n:=b.lies.c0;have o:=b.lies.c1;have y:=b.lies.c3
     by_cases l:k<s.size
     · have U:decide ((k:Int)<(s.size:Int))=true:=by simp;omega
       by_cases g:nx s k=34
       · have Q:((s[k].toNat:Int) != 34)=false:=by
           rw[M6 l]at g;simp[g]
         have m:Hid _:=g;go_wp2;go_quiet (fail)
         go_wp2;go_meet
         ·exact⟨k,d,c,.inr m.out,b.below (E5 (w:=wr) nq)⟩
       · have Q:((s[k].toNat:Int) != 34)=true:=by
           rw[M6 l]at g;simp;intro e;exact g (UInt8.toNat_inj.1 (by simpa using Int.ofNat.inj (by simpa using e)))
         have m:Hid _:=g;have E:Hid (∀W,Ca 71 #[.int .u8 s[k].toNat] W fun e Z=>e=.returned (.bool (gXu s[k]))/\Z=W):=fun W=>M7 s[k] W;go_wp2;go_quiet (fail)
         go_wp2;have j:=b.below (E5 (w:=wr) nq);have F:=jQe b.lies;generalize wr.drewN nq=C at *;have n:=j.lies.c0;have o:=j.lies.c1;go_quiet ((go_at_call 71;exact Calls.quiet_of_same (E.out _)))
         go_wp2;have a:=j.below (E5 (w:=C) nq);generalize C.drewN nq=w4 at *;have n:=a.lies.c0;have o:=a.lies.c1;have y:=a.lies.c3;have f1:=a.lies.fr 1;have O:=a.lies.fr 3;have q:Hid _:=F;have x:Hid (bQh (nx s k)=(gXu s[k]&&s[k] != 10)):=by show _=_;rw[M6 l];rfl
         cases d with
         | true=>
           go_region;go_wp2;rw[q.out];exact fQ1 c l m.out (by simp) a
         | false=>
           cases u:gXu s[k] with
           | false=>
             have r:Hid _:=u;go_region;go_wp2;rw[q.out];exact fQ1 c l m.out (by rw[x.out,r.out];rfl) a
           | true=>
             have r:Hid _:=u;clear u
             by_cases p:s[k]=10
             · have P:((s[k].toNat:Int)==10)=true:=by simp[p]
               have v:Hid (s[k]=10):=p;clear p;go_region;go_wp2_with fail;rw[q.out];exact fQ1 c l m.out (by rw[x.out,r.out,v.out];rfl) a
             · have P:((s[k].toNat:Int)==10)=false:=by
                 simp;intro e;exact p (UInt8.toNat_inj.1 (by simpa using Int.ofNat.inj (by simpa using e)))
               have v:Hid (s[k]≠10):=p;clear p;go_region;go_wp2_with fail;rw[q.out];exact fQ1 c l m.out (by rw[x.out,r.out];simp[v.out]) a
     · have U:decide ((k:Int)<(s.size:Int))=false:=by simp;omega
       go_wp2_with fail;go_quiet (fail)
       go_wp2_with fail;go_meet
       ·exact⟨k,d,c,.inl (by omega),b.below (E5 (w:=wr) nq)⟩
  ·
    have⟨k,d,c,H,b⟩:=hcut;have I:=c.le;have J:=c.lt;have n:=b.lies.c0;have o:=b.lies.c1;go_wp2_with fail;go_quiet (fail)
    go_wp2_with fail;have j:=b.below (E5 (w:=wc) nq);clear n o b;generalize wc.drewN nq=C at *;refine(O5 k 34 pb s z d _ j.lies (by omega) (by omega)).mono ?_;rintro e w3 ⟨rfl,K⟩;have a:=j.trans K;have a1:=uQr I J;have c2:=a.lies.c2;have y:=a.lies.c3;have f2:=a.lies.fr 2;have O:=a.lies.fr 3;clear K j;have G:=eXz c H M.out a;have L:Hid _:=G;clear G a c H;generalize X:A7 s i 34=t at *;generalize R:A7 s k 34=N at *;clear X R;cases d<;>cases t<;>cases N<;>
      (go_wp2_with fail
       go_ret;exact L.out)
end Go.Proofs.YtfklinjaajafgaaGreatDoor
