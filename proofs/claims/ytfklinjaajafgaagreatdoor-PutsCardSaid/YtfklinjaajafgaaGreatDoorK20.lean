import Derived.Test.YtfklinjaajafgaaGreatDoorK19
set_option maxRecDepth 100000
set_option maxHeartbeats 4000000
namespace Go.Proofs.YtfklinjaajafgaaGreatDoor
open Ls hiding none
open Go.RowKit
variable {P:Lu->Rd}{bad:Bool}{c:UInt8}{i i' z z':Nat}{p:Pat}{r:Lu}{res:Rd}{s:By}(D pb:Nat)(w:World)
theorem dQq {t:Lu}(h:t <:+ rest s i):t=rest s (s.size-t.length):=by
 have a:=h.trans (List.drop_suffix i s.data.toList);have b:=List.suffix_iff_eq_drop.1 a;simpa using b
theorem yQj (s:By)(hs:s.size<=1048576)(i z:Nat)(h:PB w pb s i z false)(M:i<s.size)(Y:z<=1048576+i)(y:nx s i=91) :
  Calls Tryz.prog 118 #[Pt pb,Iv (D:Int)] w (PPost w pb s i z (fXg (pat (12-D)) (rest s i))):=by
 have I:=h.lt;have B:¬w.heap.size=pb:=by omega
 have W:¬pb=w.heap.size:=by omega
 have l:Hid (fXg (pat (12-D)) (rest s i)=match cls ((rest s (i+1)).length+1) [] (rest s (i+1)) with|.none=>.none|some (s,u)=>some (Ls.place s,u)):=by
  show _=_;rw[D4 M,y];rfl
 have K:Hid _:=y;have V:=K5;go_enter Tryz.func118,Tryz.ntmps118;go_wp2_with fail;refine(G5 i pb s z false _ (h.below (A5 _ _)) (by omega) (by omega)).mono ?_;rw[K.out];rintro e w1 ⟨rfl,H⟩;go_wp2_with fail;refine(M7 91 _).mono ?_;rintro e P ⟨rfl,rfl⟩;have d:=(Left.of_below h (A5 w (.cells #[Iv 0,.string ⟨#[]⟩,.slice none 0 0] 27))).below H;have g:=(C7 w [Iv 0,.string ⟨#[]⟩,.slice none 0 0]).below H (by simp);have Z:=g.lt;obtain⟨o,p,q⟩:=g.three (a:=Ls.none);have E:=g.fr 0;have F:=g.fr 1;have G:=g.fr 2;have Q:=d.lies.fr 1;have k1:=d.lies.c1;have R:=d.lies.fr 2;have k2:=d.lies.c2;have S:=d.lies.fr 3;have k3:=d.lies.c3;go_wp2_with fail;have k:=(d.set1 (i+1)).set2 (z+1);have N:=(g.set_other pb 1 (Iv ((i+1:Nat):Int)) B).set_other pb 2 (Iv ((z+1:Nat):Int)) B;refine(sQw (i+1) pb s (z+1) _ k.lies hs (by omega)).mono ?_;rintro e J A;have L:∃b j ,Left w pb s j (z+1) b J:=by
  rcases A with⟨r,t,_,_,c⟩|⟨_,j,_,_,_,c⟩
  ·exact⟨_,_,k.trans c⟩
  ·exact⟨_,_,k.trans c⟩
 have m:∃b j,Left ((P.setCell ⟨pb,1,none⟩ (Iv ((i+1:Nat):Int))).setCell ⟨pb,2,none⟩ (Iv ((z+1:Nat):Int))) pb s j (z+1) b J:=by
  rcases A with⟨r,t,_,_,c⟩|⟨_,j,_,_,_,c⟩
  ·exact⟨_,_,c⟩
  ·exact⟨_,_,c⟩
 obtain⟨_,_,m⟩:=m;have n:=N.grown m.grown (by simp[B]);obtain⟨o,p,q⟩:=n.three (a:=Ls.none);have E:=n.fr 0;have F:=n.fr 1;have G:=n.fr 2;rcases A with⟨r,t,f,rfl,c⟩|⟨f,j,T,U,rfl,c⟩
 ·have C:=iX4 _ _ _ _ _ f
  have O:Hid _:=dQq C.1;have X:t.length<=s.size:=by have:=C.2;simp at this;omega
  have x:Hid (fXg (pat (12-D)) (rest s i)=some (Ls.place r,rest s (s.size-t.length))):=by
   show _=_;rw[l.out,f,<-O.out]
  go_wp2;exact bodyPost_ret (v:=B4 (Ls.set r) (.slice none 0 0)) (by simp[results,Tryz.results118,go_sem,o,p,q,Ls.set]) rfl (fQj x.out (by omega) ((k.trans c).res (Nat.le_refl _) I _ _ _))
 ·have x:Hid (fXg (pat (12-D)) (rest s i)=.none):=by
   show _=_;rw[l.out,f]
  go_wp2;exact bodyPost_ret (v:=B4 Ls.none (.slice none 0 0)) (by simp[results,Tryz.results118,go_sem,o,p,q,Ls.none]) rfl (T6 x.out ((k.trans c).res (Nat.le_refl _) I _ _ _) (by omega) (by omega) (by omega))
theorem yQl (s:By)(hs:s.size<=1048576)(i z:Nat)(h:PB w pb s i z false)(K:i<s.size)(R:z<=1048576+i)(f:gXu (nx s (i+1))=false)(B:nx s i=92) :
  Calls Tryz.prog 118 #[Pt pb,Iv (D:Int)] w (PPost w pb s i z (fXg (pat (12-D)) (rest s i))):=by
 have M:=h.lt;have o:Hid _:=f;have L:¬w.heap.size=pb:=by omega
 have Q:¬pb=w.heap.size:=by omega
 have n:Hid _:=B;have P:=K5;go_enter Tryz.func118,Tryz.ntmps118;go_wp2_with fail;refine(G5 i pb s z false _ (h.below (A5 _ _)) (by omega) (by omega)).mono ?_;rw[n.out];rintro e V ⟨rfl,y⟩;go_wp2_with fail;refine(M7 92 _).mono ?_;rintro e X ⟨rfl,rfl⟩;have c:=(Left.of_below h (A5 w (.cells #[Iv 0,.string ⟨#[]⟩,.slice none 0 0] 27))).below y;have d:=(C7 w [Iv 0,.string ⟨#[]⟩,.slice none 0 0]).below y (by simp);have S:=d.lt;obtain⟨k,l,m⟩:=d.three (a:=Ls.none);have t:=d.fr 0;have u:=d.fr 1;have x:=d.fr 2;have p:=c.lies.fr 1;have F:=c.lies.c1;have q:=c.lies.fr 2;have G:=c.lies.c2;have r:=c.lies.fr 3;have H:=c.lies.c3;go_wp2_with fail;have C:=c.set1 (i+1);have E:=d.set_other pb 1 (Iv ((i+1:Nat):Int)) L;refine(G5 (i+1) pb s z false _ C.lies (by omega) (by omega)).mono ?_;rintro e O ⟨rfl,A⟩;have b:=C.below A;have g:=E.below A E.lt;have T:=g.lt;obtain⟨k,l,m⟩:=g.three (a:=Ls.none);have t:=g.fr 0;have u:=g.fr 1;have x:=g.fr 2;have p:=b.lies.fr 1;have U:=b.lies.c0;have F:=b.lies.c1;have q:=b.lies.fr 2;have G:=b.lies.c2;have r:=b.lies.fr 3;have H:=b.lies.c3;have f:=o.out;have I:Hid (fXg (pat (12-D)) (rest s i)=.none):=by
  show _=_;rw[D4 K,n.out];rcases Nat.lt_or_ge (i+1) s.size with j|j
  ·rw[D4 j];simp[fXg,f]
  ·rw[P4 j];rfl
 have J:Hid (∀W,Ca 71 #[.int .u8 (nx s (i+1)).toNat] W fun e N=>e=.returned (.bool false)/\N=W):=fun W=>by have:=M7 (nx s (i+1)) W;rw[f]at this;exact this
 go_wp2;go_quiet ((go_at_call 71;exact Calls.quiet_of_same (J.out _)))
 go_wp2;exact bodyPost_ret (v:=B4 Ls.none (.slice none 0 0)) (by simp[results,Tryz.results118,go_sem,k,l,m,Ls.none]) rfl (T6 I.out (((((b.below (E5 (w:=O) nq)).set1 (i+1+1)).set2 (z+1)).set3 true).res (Nat.le_refl _) M _ _ _) (by omega) (by omega) (by omega))
theorem yQm (s:By)(hs:s.size<=1048576)(i z:Nat)(h:PB w pb s i z false)(P:i<s.size)(Z:z<=1048576+i)(f:gXu (nx s (i+1))=true)(L:nx s i=92) :
  Calls Tryz.prog 118 #[Pt pb,Iv (D:Int)] w (PPost w pb s i z (fXg (pat (12-D)) (rest s i))):=by
 have S:=h.lt;have K:Hid _:=f;have R:¬w.heap.size=pb:=by omega
 have Y:¬pb=w.heap.size:=by omega
 have J:Hid _:=L;have X:=K5;go_enter Tryz.func118,Tryz.ntmps118;go_wp2_with fail;refine(G5 i pb s z false _ (h.below (A5 _ _)) (by omega) (by omega)).mono ?_;rw[J.out];rintro e w1 ⟨rfl,C⟩;go_wp2_with fail;refine(M7 92 _).mono ?_;rintro e w2 ⟨rfl,rfl⟩;have c:=(Left.of_below h (A5 w (.cells #[Iv 0,.string ⟨#[]⟩,.slice none 0 0] 27))).below C;have g:=(C7 w [Iv 0,.string ⟨#[]⟩,.slice none 0 0]).below C (by simp);have a0:=g.lt;obtain⟨l,m,n⟩:=g.three (a:=Ls.none);have q:=g.fr 0;have r:=g.fr 1;have t:=g.fr 2;have o:=c.lies.fr 1;have u:=c.lies.c1;have p:=c.lies.fr 2;have x:=c.lies.c2;have A:=c.lies.fr 3;have H:=c.lies.c3;go_wp2_with fail;have F:=c.set1 (i+1);have G:=g.set_other pb 1 (Iv ((i+1:Nat):Int)) R;refine(G5 (i+1) pb s z false _ F.lies (by omega) (by omega)).mono ?_;rintro e y ⟨rfl,E⟩;have b:=F.below E;have d:=G.below E G.lt;have a1:=d.lt;obtain⟨l,m,n⟩:=d.three (a:=Ls.none);have q:=d.fr 0;have r:=d.fr 1;have t:=d.fr 2;have o:=b.lies.fr 1;have U:=b.lies.c0;have u:Ce y pb 1 (Iv ((i:Int)+1)):=by have:=b.lies.c1;simpa using this
 have p:=b.lies.fr 2;have x:=b.lies.c2;have A:=b.lies.fr 3;have H:=b.lies.c3;have f:=K.out;have Q:i+1<s.size:=by
  rcases Nat.lt_or_ge (i+1) s.size with B|B
  ·exact B
  ·rw[dQa B]at f;exact absurd f (by decide)
 have M:Hid (fXg (pat (12-D)) (rest s i)=some (Ls.place [nx s (i+1)],rest s (i+1+1))):=by
  show _=_;rw[D4 P,J.out,D4 Q];simp[fXg,f]
 have I:Hid (∀W,Ca 71 #[.int .u8 (nx s (i+1)).toNat] W fun e V=>e=.returned (.bool true)/\V=W):=fun W=>by have:=M7 (nx s (i+1)) W;rw[f]at this;exact this
 have N:decide (((i:Int)+1)<(s.size:Int))=true:=by simp;omega
 have O:((i:Int)+1)<(s.size:Int):=by omega
 go_wp2;go_quiet ((go_at_call 71;exact Calls.quiet_of_same (I.out _)))
 have j:=b.below (E5 (w:=y) nq);have k:=d.below (E5 (w:=y) nq) d.lt;generalize y.drewN nq=w4 at *;have T:=k.lt;obtain⟨l,m,n⟩:=k.three (a:=Ls.none);have q:=k.fr 0;have r:=k.fr 1;have t:=k.fr 2;have o:=j.lies.fr 1;have u:=j.lies.c1;have p:=j.lies.fr 2;have x:=j.lies.c2;go_wp2;exact bodyPost_ret (v:=B4 (Ls.set [nx s (i+1)]) (.slice none 0 0)) (by simp[results,Tryz.results118,go_sem,l,m,n,T,Ls.set]) rfl (fQj M.out (by omega) ((((j.set1 (i+1+1)).set2 (z+1)).res (Nat.le_refl _) S _ _ _).below (A5 _ _)))
theorem yQo (s:By)(hs:s.size<=1048576)(hD:D<=12)(hP:Y1 s (D+1))(i z:Nat)(h:PB w pb s i z false)(hi:i<s.size)(hz:z<=1048576+i)(T:nx s i=40) :
  Calls Tryz.prog 118 #[Pt pb,Iv (D:Int)] w (PPost w pb s i z (fXg (pat (12-D)) (rest s i))):=by
 have b0:=h.lt;have Z:¬w.heap.size=pb:=by omega
 have c4:¬pb=w.heap.size:=by omega
 have P:Hid (fXg (pat (12-D)) (rest s i)=match pat (12-D) (rest s (i+1)) with|.none=>.none|some (d,u)=>if u.head?=some 41 then some (d,u.tail) else .none):=by
  show _=_;rw[D4 hi,T];rfl
 have Hc:Hid _:=T;have b6:=K5;go_enter Tryz.func118,Tryz.ntmps118;go_wp2_with fail;refine(G5 i pb s z false _ (h.below (A5 _ _)) (by omega) (by omega)).mono ?_;rw[Hc.out];rintro e w1 ⟨rfl,a0⟩;go_wp2_with fail;refine(M7 40 _).mono ?_;rintro e w2 ⟨rfl,rfl⟩;have q:=(Left.of_below h (A5 w (.cells #[Iv 0,.string ⟨#[]⟩,.slice none 0 0] 27))).below a0;have x:=(C7 w [Iv 0,.string ⟨#[]⟩,.slice none 0 0]).below a0 (by simp);have c8:=x.lt;obtain⟨H,I,J⟩:=x.three (a:=Ls.none);have g0:=x.fr 0;have g1:=x.fr 1;have g2:=x.fr 2;have f1:=q.lies.fr 1;have k1:=q.lies.c1;have f2:=q.lies.fr 2;have k2:=q.lies.c2;have f3:=q.lies.fr 3;have k3:=q.lies.c3;go_wp2_with fail;have a1:=q.set1 (i+1);have a6:=x.set_other pb 1 (Iv ((i+1:Nat):Int)) Z;have S:=hP pb (i+1) z _ a1.lies (by omega) (by omega);rw[show ((D+1:Nat):Int)=(D:Int)+1 from by omega,show 13-(D+1)=12-D from by omega]at S;refine S.mono ?_;rintro e c a4;have a8:∃(p:Pat) (y:Value) (b n:Nat) (t:Bool),e=.returned (B4 p y)/\PV c (B8 (w2.setCell ⟨pb,1,none⟩ (Iv ((i+1:Nat):Int))) c) p y/\b<=s.size+1/\i+1<=b/\n<=z+(b-(i+1))/\Left (w2.setCell ⟨pb,1,none⟩ (Iv ((i+1:Nat):Int))) pb s b n t c/\
   ((t=true/\pat (12-D) (rest s (i+1))=.none)\/(t=false/\∃d,pat (12-D) (rest s (i+1))=some (d,rest s b)/\p=eX5 d/\n=z+dsize d/\b<=s.size)):=by
  rcases a4 with⟨d,b5,y,m,U,A,V⟩|⟨m,p,y,b,n,U,A,F,L,h3,V⟩
  ·have a5:=hXa _ _ _ _ m
   have b2:=hXk _ _ _ _ m;rw[F4]at b2;have b3:=dQq a5;have a7:=a5.length_le;rw[F4]at a7;exact⟨_,y,s.size-b5.length,z+dsize d,false,U,A,by omega,by omega,by omega,V,.inr ⟨rfl,d,by rw[m,<-b3],rfl,rfl,by omega⟩⟩
  ·exact⟨p,y,b,n,true,U,A,L,F,h3,V,.inl ⟨rfl,m⟩⟩
 obtain⟨p,y,b,n,t,rfl,A,b7,b8,c9,W,M⟩:=a8;clear a4;have Y:=a6.grown W.grown (by simp[Z]);have a2:=a1.trans W;obtain⟨g,j,l,rfl⟩:=PV.slice _ _ A;have b4:=W.grown.size;simp[World.setCell]at b4;go_wp2_with fail;refine(O5 b 41 pb s n t _ (a2.lies.below (A5 _ _)) (by omega) (by omega)).mono ?_;rintro e K ⟨rfl,N⟩;have X:=(a2.below (A5 c (.cells #[Iv p.kind,Sv p.signs,.slice g j l] 27))).trans N;have O:=(Y.below (A5 c (.cells #[Iv p.kind,Sv p.signs,.slice g j l] 27)) Y.lt).grown N.grown (by simp[Z]);have a9:¬c.heap.size=pb:=by omega
 have a3:=(C7 c (C2 p (.slice g j l))).grown N.grown (by simp[a9]);obtain⟨H,I,J⟩:=O.three (a:=Ls.none);have g0:=O.fr 0;have g1:=O.fr 1;have g2:=O.fr 2;obtain⟨m0,m1,m2⟩:=a3.three;have k3:=X.lies.c3;have f3:=X.lies.fr 3;have d1:c.heap.size<K.heap.size:=a3.lt;have d0:w.heap.size<c.heap.size:=Y.lt;have c5:¬pb=c.heap.size:=by omega
 have c6:¬w.heap.size=c.heap.size:=by omega
 have c7:¬c.heap.size=w.heap.size:=by omega
 have HB:Hid (∀f k,B8 (w2.setCell ⟨pb,1,none⟩ (Iv ((i+1:Nat):Int))) c k->((((K.setCell ⟨pb,3,none⟩ (.bool f)).setCell ⟨w.heap.size,0,none⟩ (Iv p.kind)).setCell ⟨w.heap.size,1,none⟩ (Sv p.signs)).setCell ⟨w.heap.size,2,none⟩ (.slice g j l)).heap[k]?=c.heap[k]?):=by
  intro f k G;have F:=G.1;have L:=G.2;simp[World.setCell]at F;rw[dQl _ _ _ _ _ _ (by omega),Below.heap_setCell _ _ _ _ (by show k≠pb;omega),N.grown.block k (by simp;omega) (by simp;omega)];exact Below.heap_alloc _ _ _ L
 have Q:Hid (∀f,PV ((((K.setCell ⟨pb,3,none⟩ (.bool f)).setCell ⟨w.heap.size,0,none⟩ (Iv p.kind)).setCell ⟨w.heap.size,1,none⟩ (Sv p.signs)).setCell ⟨w.heap.size,2,none⟩ (.slice g j l)) (B8 w ((((K.setCell ⟨pb,3,none⟩ (.bool f)).setCell ⟨w.heap.size,0,none⟩ (Iv p.kind)).setCell ⟨w.heap.size,1,none⟩ (Sv p.signs)).setCell ⟨w.heap.size,2,none⟩ (.slice g j l))) p (.slice g j l)):=by
  intro f;refine PV.mono (fun k G=>?_) (HB.out f) _ _ A;have F:=G.1;have L:=G.2;simp[World.setCell]at F;exact⟨by omega,by simp[World.setCell];omega⟩
 have B:Hid (∀f,Left w pb s (if A7 s b 41=true then b+1 else b) n f ((((K.setCell ⟨pb,3,none⟩ (.bool f)).setCell ⟨w.heap.size,0,none⟩ (Iv p.kind)).setCell ⟨w.heap.size,1,none⟩ (Sv p.signs)).setCell ⟨w.heap.size,2,none⟩ (.slice g j l))):=fun f=>(X.set3 f).res (Nat.le_refl _) b0 _ _ _;clear HB;cases t with
 | true=>
  have C:Hid (fXg (pat (12-D)) (rest s i)=.none):=by
   rcases M with⟨_,m⟩|⟨E,_⟩
   ·show _=_;rw[P.out,m]
   ·cases E
  clear M;go_wp2_with fail;have b1:A7 s b 41=true->b<s.size:=fun h=>(D9 h).1;refine bodyPost_ret (v:=B4 p (.slice g j l)) (by simp[results,Tryz.results118,go_sem,H,I,J]) rfl (.inr ⟨C.out,p,_,_,n,rfl,Q.out true,?_,?_,?_,B.out true⟩)<;>(split<;>first|omega|(have:=b1 (by assumption);omega))
 | false=>
  obtain⟨d,m,rfl,rfl,b9⟩:∃d,pat (12-D) (rest s (i+1))=some (d,rest s b)/\p=eX5 d/\n=z+dsize d/\b<=s.size:=by
   rcases M with⟨E,_⟩|⟨_,E⟩
   ·cases E
   ·exact E
  clear M;have Hr:Hid (pat (12-D) (rest s (i+1))=some (d,rest s b)):=m;clear m;cases r:A7 s b 41 with
  | true=>
   have C:Hid (fXg (pat (12-D)) (rest s i)=some (d,rest s (b+1))):=by
    show _=_;rw[P.out,Hr.out];dsimp only
    rw[if_pos (C4.2 r),E7]
   have c0:=(D9 r).1;have o:=B.out false;rw[r]at o;simp only[if_true]at o;have R:Hid _:=o;clear o B r;go_wp2_with fail;refine bodyPost_ret (v:=B4 (eX5 d) (.slice g j l)) (by simp[results,Tryz.results118,go_sem,H,I,J]) rfl (.inl ⟨d,_,_,C.out,rfl,Q.out false,?_⟩);rw[F4,show s.size-(s.size-(b+1))=b+1 from by omega];exact R.out
  | false=>
   have C:Hid (fXg (pat (12-D)) (rest s i)=.none):=by
    show _=_;rw[P.out,Hr.out];dsimp only
    rw[if_neg (by rw[C4,r];simp)]
   have o:=B.out true;rw[r]at o;simp only[Bool.false_eq_true,if_false]at o;have R:Hid _:=o;clear o B r;go_wp2_with fail;exact bodyPost_ret (v:=B4 (eX5 d) (.slice g j l)) (by simp[results,Tryz.results118,go_sem,H,I,J]) rfl (.inr ⟨C.out,_,_,_,_,rfl,Q.out true,by omega,by omega,by omega,R.out⟩)
theorem yQa (s:By)(hs:s.size<=1048576)(k:D<=12)(l:Y1 s (D+1)):iQy s D:=by
 intro c i z w h a b
 by_cases j:∀x,x∈([40,91,46,92,41,93,42,43,63,124,47,34]:Lu)->nx s i≠x
 ·cases f:gXu (nx s i) with
  | true=>exact yQp s D (nx s i) c i z w hs h a b j f rfl
  | false=>exact yQn s D (nx s i) c i z w hs h a b j f rfl
 ·have n:∃x,x∈([40,91,46,92,41,93,42,43,63,124,47,34]:Lu)/\nx s i=x:=by
   apply Classical.byContradiction
   intro m;exact j fun x g e=>m ⟨x,g,e⟩
  obtain⟨x,g,d⟩:=n;simp only[List.mem_cons,List.not_mem_nil,or_false]at g;rcases g with rfl|rfl|rfl|rfl|rfl|rfl|rfl|rfl|rfl|rfl|rfl|rfl
  ·exact yQo D c w s hs k l i z h a b d
  ·exact yQj D c w s hs i z h a b d
  ·exact yQk s D c i z w hs h a b d
  ·cases f:gXu (nx s (i+1)) with
   | true=>exact yQm D c w s hs i z h a b f d
   | false=>exact yQl D c w s hs i z h a b f d
  ·exact yQd s D c i z w hs h a b d
  ·exact yQi s D c i z w hs h a b d
  ·exact yQe s D c i z w hs h a b d
  ·exact yQf s D c i z w hs h a b d
  ·exact yQh s D c i z w hs h a b d
  ·exact yQb s D c i z w hs h a b d
  ·exact yQg s D c i z w hs h a b d
  ·exact yQc s D c i z w hs h a b d
def F8 (res:Rd)(s:By)(z i' z':Nat)(bad:Bool)(p:Pat):Prop:=
 (bad=true/\res=.none)\/(bad=false/\∃d,res=some (d,rest s i')/\p=eX5 d/\z'=z+dsize d/\i'<=s.size)
theorem PPost.mid {w m:World}{u:Nat}{e:Ending}(h:PPost w u s i z res e m)(A:∀d t,res=some (d,t)->t <:+ rest s i/\dsize d+t.length<=(rest s i).length)(C:i<=s.size) :
  ∃p b c f a j r,e=.returned (B4 p (.slice b c f))/\PV m (B8 w m) p (.slice b c f)/\i<=a/\a<=s.size+1/\j<=z+(a-i)/\Left w u s a j r m/\F8 res s z a j r p:=by
 rcases h with⟨d,t,y,l,o,g,q⟩|⟨l,p,y,a,j,o,g,k,n,v,q⟩
 ·obtain⟨k,n⟩:=A d t l
  have B:=dQq k;have x:=k.length_le;rw[F4]at x n;obtain⟨b,c,f,rfl⟩:=PV.slice _ _ g;exact⟨_,b,c,f,s.size-t.length,z+dsize d,false,o,g,by omega,by omega,by omega,q,.inr ⟨rfl,d,by rw[l,<-B],rfl,rfl,by omega⟩⟩
 ·obtain⟨b,c,f,rfl⟩:=PV.slice _ _ g
  exact⟨p,b,c,f,a,j,true,o,g,k,n,v,q,.inl ⟨rfl,l⟩⟩
theorem aQa {w W:World}{e:Nat}{x:Value}{H:Nat->Prop}(m:F8 res s z i' z' bad p)(q:e<w.heap.size)(h:i<=i')(j:i'<=s.size+1)(l:z'<=z+(i'-i))
  (n:Left w e s i' z' bad W) (o:PV W H p x) (b:∀k,H k->w.heap.size<k/\k<W.heap.size) :
  PPost w e s i z res (.returned (B4 p x)) (((W.setCell ⟨w.heap.size,0,none⟩ (Iv p.kind)).setCell ⟨w.heap.size,1,none⟩ (Sv p.signs)).setCell ⟨w.heap.size,2,none⟩ x):=by
 have g:PV (((W.setCell ⟨w.heap.size,0,none⟩ (Iv p.kind)).setCell ⟨w.heap.size,1,none⟩ (Sv p.signs)).setCell ⟨w.heap.size,2,none⟩ x) (B8 w (((W.setCell ⟨w.heap.size,0,none⟩ (Iv p.kind)).setCell ⟨w.heap.size,1,none⟩ (Sv p.signs)).setCell ⟨w.heap.size,2,none⟩ x)) p x:=
  PV.mono (fun k a=>⟨Nat.le_of_lt (b k a).1,by simp[World.setCell];exact(b k a).2⟩) (fun k a=>dQl _ _ _ _ _ _ (by have:=(b k a).1;omega)) _ _ o
 have f:=n.res (Nat.le_refl _) q (Iv p.kind) (Sv p.signs) x;rcases m with⟨rfl,c⟩|⟨rfl,d,c,rfl,rfl,r⟩
 ·exact .inr ⟨c,_,_,i',z',rfl,g,h,j,l,f⟩
 ·refine .inl ⟨d,_,_,c,rfl,g,?_⟩
  rw[F4,show s.size-(s.size-i')=i' from by omega];exact f
theorem dXm (h:F8 (fXg P r) s z i' z' bad p)(b:A7 s i' 42=true):F8 (gXq P r) s z (i'+1) z' bad (fXl p):=by
 rcases h with⟨rfl,a⟩|⟨rfl,d,a,rfl,rfl,c⟩
 ·exact .inl ⟨rfl,by rw[gXq,a]⟩
 ·refine .inr ⟨rfl,Ls.rep 5 d,?_,by rw[hXo],by rw[fX5],(D9 b).1⟩
  rw[gXq,a];dsimp only;rw[if_pos (C4.2 b),E7]
theorem iQe {a b:UInt8}(h:A7 s i a=true)(e:a≠b):A7 s i b=false:=by
 obtain⟨c,d⟩:=D9 h;simp[A7,c,d,e]
theorem dXl (h:F8 (fXg P r) s z i' z' bad p)(b:A7 s i' 43=true):F8 (gXq P r) s z (i'+1) z' bad (Ls.row p (fXl p)):=by
 rcases h with⟨rfl,a⟩|⟨rfl,d,a,rfl,rfl,c⟩
 ·exact .inl ⟨rfl,by rw[gXq,a]⟩
 ·refine .inr ⟨rfl,Ls.rep 6 d,?_,by rw[iXf],by rw[fX5],(D9 b).1⟩
  rw[gXq,a];dsimp only;rw[if_neg (by rw[C4,iQe b (by decide)];simp),if_pos (C4.2 b),E7]
theorem dXi (h:F8 (fXg P r) s z i' z' bad p)(a:A7 s i' 63=true):F8 (gXq P r) s z (i'+1) z' bad (Ls.any p Ls.none):=by
 rcases h with⟨rfl,b⟩|⟨rfl,d,b,rfl,rfl,c⟩
 ·exact .inl ⟨rfl,by rw[gXq,b]⟩
 ·refine .inr ⟨rfl,Ls.rep 7 d,?_,by rw[iX2],by rw[fX5],(D9 a).1⟩
  rw[gXq,b];dsimp only;rw[if_neg (by rw[C4,iQe a (by decide)];simp),if_neg (by rw[C4,iQe a (by decide)];simp),if_pos (C4.2 a),E7]
theorem dXc (h:F8 (fXg P r) s z i' z' bad p)(b:A7 s i' 42=false)(c:A7 s i' 43=false)(e:A7 s i' 63=false):F8 (gXq P r) s z i' z' bad p:=by
 rcases h with⟨rfl,a⟩|⟨rfl,d,a,rfl,rfl,f⟩
 ·exact .inl ⟨rfl,by rw[gXq,a]⟩
 ·refine .inr ⟨rfl,d,?_,rfl,rfl,f⟩
  rw[gXq,a];dsimp only;rw[if_neg (by rw[C4,b];simp),if_neg (by rw[C4,c];simp),if_neg (by rw[C4,e];simp)]
theorem hQu (h:A7 s i c=true):nx s i=c:=(D9 h).2
theorem hQv (b:c≠0)(h:A7 s i c=false):nx s i≠c:=by
 intro e;rcases Nat.lt_or_ge i s.size with a|a
 ·simp[A7,a,e]at h
 ·rw[dQa a]at e;exact b e.symm
def gQe (s:By)(D:Nat):Prop:=∀(pb i z:Nat) (w:World),PB w pb s i z false->i<s.size->z<=1048576+i->
 Ca 99 #[.pointer (some ⟨pb,0,none⟩),.int .i64 (D:Int)] w (PPost w pb s i z (gXq (pat (12-D)) (rest s i)))
theorem dXb (s:By)(hs:s.size<=1048576)(hO:iQy s D):gQe s D:=by
 intro g b7 b8 w h hi hz;have W:=h.lt;have V:¬w.heap.size=g:=by omega
 have c3:¬g=w.heap.size:=by omega
 go_enter Tryz.func99,Tryz.ntmps99;go_wp2_with fail;refine(hO g b7 b8 _ (h.below (A5 _ _)) hi hz).mono ?_;rintro e i a8;obtain⟨p,r,t,u,d,z',a5,rfl,hv,c0,c2,c7,a2,z⟩:=a8.mid (fun b9 d3 hr=>⟨(jXt (hXa _) hr).1,kXw (hXk _) hr⟩) (by omega);have a1:=(Left.of_below h (A5 w (.cells #[Iv 0,.string ⟨#[]⟩,.slice none 0 0] 27))).trans a2;have a3:=(C7 w [Iv 0,.string ⟨#[]⟩,.slice none 0 0]).grown a2.grown (by simp[V]);have b6:=a3.lt;go_wp2_with fail;have F:=G5 d g s z' a5 _ (a1.lies.below (A5 i (.cells #[Iv p.kind,Sv p.signs,.slice r t u] 27))) (by omega) (by omega);have j:Hid (∀k,B8 (w.alloc (.cells #[Iv 0,.string ⟨#[]⟩,.slice none 0 0] 27)) i k->w.heap.size<k/\k<i.heap.size):=fun k b=>by have h1:=b.1;simp at h1;exact⟨by omega,b.2⟩
 have b3:¬i.heap.size=g:=by omega
 have c4:¬g=i.heap.size:=by omega
 have c5:¬w.heap.size=i.heap.size:=by omega
 have c6:¬i.heap.size=w.heap.size:=by omega
 have a6:∀f,Below (i.alloc (.cells #[Iv p.kind,Sv p.signs,.slice r t u] 27)).heap.size (i.alloc (.cells #[Iv p.kind,Sv p.signs,.slice r t u] 27)) f->
   Left w g s d z' a5 f/\Lies f i.heap.size (C2 p (.slice r t u))/\Lies f w.heap.size [Iv 0,.string ⟨#[]⟩,.slice none 0 0]/\i.heap.size<f.heap.size/\PV f (B8 (w.alloc (.cells #[Iv 0,.string ⟨#[]⟩,.slice none 0 0] 27)) i) p (.slice r t u):=fun f l=>
  ⟨(a1.below (A5 _ _)).below l,(C7 i _).below l (by simp),(a3.below (A5 _ _) b6).below l (by simp;omega),by have:=l.size;simp at this;omega,(hv.below (A5 _ _) (fun _ h=>h.2) (fun _ h=>h)).below l (fun k b=>by have:=b.2;simp;omega) (fun _ h=>h)⟩
 have T:Hid _:=a6;cases x:A7 s d 42 with
 | true=>
  have C:=dXm z x;rw[hQu x]at F;have a7:=(D9 x).1;refine F.mono ?_;rintro e f ⟨rfl,l⟩;obtain⟨n,A,q,a4,G⟩:=T.out f l;obtain⟨M,N,O⟩:=A.three;have k1:=n.lies.c1;have X:=n.lies.fr 1;go_wp2_with fail;refine(aQ5 (.slice r t u) p _ _ (fun k b=>by have:=j.out k b;simp[World.setCell];omega) (PV.mono (fun _ h=>h) (fun k b=>Below.heap_setCell _ _ _ _ (by have:=j.out k b;show k≠g;omega)) _ _ G)).mono ?_;rintro e P ⟨b0,rfl,B,m⟩;obtain⟨Q,R,S,rfl⟩:=PV.slice _ _ B;have K:=(n.set1 (d+1)).below m;have o:=(q.set_other g 1 (Iv ((d+1:Nat):Int)) V).below m (by simp[World.setCell];omega);have L:=m.size;simp[World.setCell]at L;obtain⟨H,I,J⟩:=o.three (a:=Ls.none);have Y:=o.fr 0;have Z:=o.fr 1;have g2:=o.fr 2;go_wp2;exact bodyPost_ret (v:=B4 (fXl p) (.slice Q R S)) (by simp[results,Tryz.results99,go_sem,H,I,J]) rfl (aQa C W (by omega) (by omega) (by omega) K B (fun k b=>by
   rcases b with b|b
   ·have:=j.out k b;omega
   ·have:=b.1;simp[World.setCell]at this;have:=b.2;omega))
 | false=>
  cases y:A7 s d 43 with
  | true=>
   have C:=dXl z y;rw[hQu y]at F;have a7:=(D9 y).1;clear x y z;refine F.mono ?_;rintro e f ⟨rfl,l⟩;obtain⟨n,A,q,a4,G⟩:=T.out f l;obtain⟨M,N,O⟩:=A.three;have k1:=n.lies.c1;have X:=n.lies.fr 1;go_wp2_with fail;have a9:=PV.mono (fun _ h=>h) (fun k b=>Below.heap_setCell f ⟨g,1,none⟩ (Iv ((d+1:Nat):Int)) _ (by have:=j.out k b;show k≠g;omega)) _ _ G;refine(aQ5 (.slice r t u) p _ _ (fun k b=>by have:=j.out k b;simp[World.setCell];omega) a9).mono ?_;rintro e P ⟨b0,rfl,B,m⟩;obtain⟨Q,R,S,rfl⟩:=PV.slice _ _ B;have K:=(n.set1 (d+1)).below m;have o:=(q.set_other g 1 (Iv ((d+1:Nat):Int)) V).below m (by simp[World.setCell];omega);have b2:=(A.set_other g 1 (Iv ((d+1:Nat):Int)) b3).below m (by simp[World.setCell];omega);have b5:=a9.below (G':=F5 (B8 (w.alloc (.cells #[Iv 0,.string ⟨#[]⟩,.slice none 0 0] 27)) i) (f.setCell ⟨g,1,none⟩ (Iv ((d+1:Nat):Int))) P) m (fun k b=>by have:=j.out k b;simp[World.setCell];omega) (fun _ h=>Or.inl h);have L:=m.size;simp[World.setCell]at L;clear M N O k1 X;have c8:i.heap.size<P.heap.size:=by omega
   have c9:w.heap.size<P.heap.size:=by omega
   obtain⟨M,N,O⟩:=b2.three;go_wp2_with fail;refine(aQc p (fXl p) (.slice r t u) (.slice Q R S) _ _ (fun k b=>?_) (b5.below (A5 _ _) (fun k b=>?_) (fun _ h=>h)) (B.below (A5 _ _) (fun k b=>?_) (fun _ h=>h))).mono ?_
   ·rcases b with b|b
    ·have:=j.out k b;simp;omega
    ·have:=b.2;simp;omega
   ·rcases b with b|b
    ·have:=j.out k b;omega
    ·exact b.2
   ·rcases b with b|b
    ·have:=j.out k b;omega
    ·exact b.2
   rintro e w4 ⟨d4,rfl,hu,a0⟩;obtain⟨u1,u2,u3,rfl⟩:=PV.slice _ _ hu;have b1:=(K.below (A5 _ _)).below a0;have U:=(o.below (A5 _ _) o.lt).below a0 (by simp;omega);have b4:=a0.size;simp at b4;obtain⟨H,I,J⟩:=U.three (a:=Ls.none);have Y:=U.fr 0;have Z:=U.fr 1;have g2:=U.fr 2;go_wp2_with fail;exact bodyPost_ret (v:=B4 (Ls.row p (fXl p)) (.slice u1 u2 u3)) (by simp[results,Tryz.results99,go_sem,H,I,J]) rfl (aQa C W (by omega) (by omega) (by omega) b1 hu (fun k b=>by
    rcases b with (b|b)|b
    ·have:=j.out k b;omega
    ·have:=b.1;simp[World.setCell]at this;have:=b.2;omega
    ·have:=b.1;simp at this;have:=b.2;omega))
  | false=>
   cases E:A7 s d 63 with
   | true=>
    have C:=dXi z E;rw[hQu E]at F;have a7:=(D9 E).1;clear x y E z;refine F.mono ?_;rintro e f ⟨rfl,l⟩;obtain⟨n,A,q,a4,G⟩:=T.out f l;obtain⟨M,N,O⟩:=A.three;have k1:=n.lies.c1;have X:=n.lies.fr 1;go_wp2_with fail;refine(eQl Ls.none (.slice r t u) (.slice none 0 0) p _ _ (fun k b=>by have:=j.out k b;simp[World.setCell];omega) (PV.mono (fun _ h=>h) (fun k b=>Below.heap_setCell _ _ _ _ (by have:=j.out k b;show k≠g;omega)) _ _ G) (R4 _ _ _ _)).mono ?_;rintro e P ⟨b0,rfl,B,m⟩;obtain⟨Q,R,S,rfl⟩:=PV.slice _ _ B;have K:=(n.set1 (d+1)).below m;have o:=(q.set_other g 1 (Iv ((d+1:Nat):Int)) V).below m (by simp[World.setCell];omega);have L:=m.size;simp[World.setCell]at L;obtain⟨H,I,J⟩:=o.three (a:=Ls.none);have Y:=o.fr 0;have Z:=o.fr 1;have g2:=o.fr 2;go_wp2_with fail;exact bodyPost_ret (v:=B4 (Ls.any p Ls.none) (.slice Q R S)) (by simp[results,Tryz.results99,go_sem,H,I,J]) rfl (aQa C W (by omega) (by omega) (by omega) K B (fun k b=>by
     rcases b with b|b
     ·have:=j.out k b;omega
     ·have:=b.1;simp[World.setCell]at this;have:=b.2;omega))
   | false=>
    have C:=dXc z x y E;have d0:(((nx s d).toNat:Int)==42)=false:=by rw[beq_eq_false_iff_ne];intro e;exact hQv (c:=42) (by decide) x (UInt8.toNat_inj.1 (by simp;omega))
    have d1:(((nx s d).toNat:Int)==43)=false:=by rw[beq_eq_false_iff_ne];intro e;exact hQv (c:=43) (by decide) y (UInt8.toNat_inj.1 (by simp;omega))
    have d2:(((nx s d).toNat:Int)==63)=false:=by rw[beq_eq_false_iff_ne];intro e;exact hQv (c:=63) (by decide) E (UInt8.toNat_inj.1 (by simp;omega))
    clear x y E z;refine F.mono ?_;rintro e f ⟨rfl,l⟩;obtain⟨n,A,q,a4,G⟩:=T.out f l;obtain⟨M,N,O⟩:=A.three;obtain⟨H,I,J⟩:=q.three (a:=Ls.none);have Y:=q.fr 0;have Z:=q.fr 1;have g2:=q.fr 2;go_wp2_with fail;exact bodyPost_ret (v:=B4 p (.slice r t u)) (by simp[results,Tryz.results99,go_sem,H,I,J]) rfl (aQa C W (by omega) (by omega) (by omega) n G (fun k b=>by
     have:=j.out k b;omega))
end Go.Proofs.YtfklinjaajafgaaGreatDoor
