import Derived.Test.YtfklinjaajafgaaGreatDoorK48
import Derived.Test.YtfklinjaajafgaaGreatDoorK45
import Derived.Test.YtfklinjaajafgaaGreatDoorK47
set_option maxRecDepth 100000
set_option maxHeartbeats 4000000
namespace Go.Proofs.YtfklinjaajafgaaGreatDoor
open Go.RowKit
variable {A C:Ls.Au}{t y:Ls.Pr}
theorem aX1 {n d:Ls.Net}{x g:Ls.Span}{s:Ls.Pr}(h:Ls.Reach (Ls.NxO (Ls.au n x) (Ls.au d g)) (0,0,0) s) :
  (s.1=0/\s.2.1<=n.places.length/\s.2.2<=n.places.length)\/(s.1=1/\s.2.1<=d.places.length/\s.2.2<=n.places.length)\/(s.1=2/\s.2.1<=d.places.length/\s.2.2<=d.places.length):=by
 refine h (fun s=>(s.1=0/\s.2.1<=n.places.length/\s.2.2<=n.places.length)\/(s.1=1/\s.2.1<=d.places.length/\s.2.2<=n.places.length)\/(s.1=2/\s.2.1<=d.places.length/\s.2.2<=d.places.length)) (.inl ⟨rfl,Nat.zero_le _,Nat.zero_le _⟩) ?_;rintro a b f (⟨e,c|⟨_,c⟩⟩|⟨e,c|⟨_,rfl⟩⟩|⟨e,c⟩)
 ·have:=aQg c
  exact .inl ⟨c.1.trans e,by omega,by omega⟩
 ·have:=aQg c
  exact .inr (.inl ⟨c.1,by omega,by omega⟩)
 ·have:=aQg c
  exact .inr (.inl ⟨c.1.trans e,by omega,by omega⟩)
 ·rcases f with f|f|f
  ·omega
  ·exact .inr (.inr ⟨rfl,f.2.1,Nat.zero_le _⟩)
  ·omega
 ·have:=aQg c
  exact .inr (.inr ⟨c.1.trans e,by omega,by omega⟩)
theorem hQs (h:y.1=0):Ls.NxO A C y t↔Ls.Stp A A y t\/(A.en y.2.1=true/\Ls.Stp C A (1,0,y.2.2) t):=by
 unfold Ls.NxO;simp[h]
theorem hQt (h:y.1=1):Ls.NxO A C y t↔Ls.Stp C A y t\/(A.en y.2.2=true/\t=(2,y.2.1,0)):=by
 unfold Ls.NxO;simp[h]
theorem fQd (h:y.1=2):Ls.NxO A C y t↔Ls.Stp C C y t:=by
 unfold Ls.NxO;simp[h]
theorem lQr {S S' N:Ls.Pr->Prop}{M T a:List Ls.Pr}(b:∀t,N t↔S t\/S' t)(d:∀t,t∈T->S t)(e:∀t,S t->t∈M++T)(f:∀t,t∈a->S' t)(g:∀t,S' t->t∈(M++T)++a):(∀t,t∈T++a->N t)/\∀t,N t->t∈M++(T++a):=by
 refine⟨fun t c=>?_,fun t c=>?_⟩
 ·rcases List.mem_append.1 c with h|h
  ·exact(b t).2 (.inl (d t h))
  ·exact(b t).2 (.inr (f t h))
 ·rw[<-List.append_assoc]
  rcases (b t).1 c with h|h
  ·exact List.mem_append_left _ (e t h)
  ·exact g t h
theorem nQ8 {W:World}{g:Nat}{a b c:Value}{t:TypeId}(h:W.heap[g]?=some (.cells #[a,b,c] t (0,0))):W.cell? ⟨g,0,none⟩=some a/\W.cell? ⟨g,1,none⟩=some b/\W.cell? ⟨g,2,none⟩=some c:=by
 refine⟨?_,?_,?_⟩<;>simp[World.cell?,h]
theorem yQx (w:World)(U V:Nat)(P Q X Y:Value)(n a:Ls.Net)(x b:Ls.Span)(hN:Nt w w.heap.size U P Q n x)(c8:Nt w w.heap.size V X Y a b)
  (b6:Prop) (hF:(∃s,Ls.Reach (Ls.NxO (Ls.au n x) (Ls.au a b)) (0,0,0) s/\Ls.lXd (Ls.au a b) s)↔b6) :
  Calls Tryz.prog 37 #[Pt U,Pt V] w (dQs w b6):=by
 have hC:=lQs (0,0,0) w ⟨.inl rfl,by show 0<33;omega,by show 0<33;omega⟩;unfold G3 at hC;rw[show ((((0,0,0):Ls.Pr).1:Nat):Int)=0 from rfl,show (0:Int)-1=-1 from rfl]at hC;have HF:Hid ((∃s,Ls.Reach (Ls.NxO (Ls.au n x) (Ls.au a b)) (0,0,0) s/\Ls.lXd (Ls.au a b) s)↔b6):=hF;have HN:Hid _:=hN;have b9:Hid _:=c8;clear hN c8 hF;go_enter Tryz.func37,Tryz.ntmps37;go_wp2_with fail;refine hC.mono ?_;rintro e w1 ⟨v,C,c0,rfl,K,d3⟩;have d8:Hid _:=K;have d6:Hid _:=d3;clear K d3 hC;go_wp2_with fail;go_loopg [6] (J9 [(0,0,0)] [(0,0,0)]) (fun e3 _ wr=>∃c0 M O,Srch wr w.heap.size v C c0 M O/\Below w.heap.size w wr/\Ls.Sch (Ls.NxO (Ls.au n x) (Ls.au a b)) (Ls.lXd (Ls.au a b)) (0,0,0) M O/\e3=J9 M O)
 case atStart=>exact⟨c0,_,_,d8.out,d6.out,Ls.Sch.start _ _ _,rfl⟩
 case round=>
  obtain⟨V1,M,O,K,hb,b5,rfl⟩:=hrel;obtain⟨va,vc,rfl⟩:=K.shape;have d4:=K.lies;have c1:wr.cell? ⟨v,1,none⟩=some (.slice va O.length vc):=by simp[World.cell?,d4]
  clear d4;rcases Nat.eq_zero_or_pos O.length with h0|h0
  ·have hO:O=[]:=List.eq_nil_of_length_eq_zero h0
   have HE:Hid (¬∃s,Ls.Reach (Ls.NxO (Ls.au n x) (Ls.au a b)) (0,0,0) s/\Ls.lXd (Ls.au a b) s):=by
    subst hO;exact b5.none
   have hd:¬(0:Int)<(O.length:Int):=by omega
   clear hO b5 K;go_wp2_with fail;go_ret;exact⟨true,rfl,⟨fun _ h=>HE.out (HF.out.2 h),fun _=>rfl⟩,hb⟩
  ·have hd:(0:Int)<(O.length:Int):=by omega
   obtain⟨c,y,hO⟩:=nQo h0;have a8:Hid (Ls.Sch (Ls.NxO (Ls.au n x) (Ls.au a b)) (Ls.lXd (Ls.au a b)) (0,0,0) M (c++[y])):=by rw[<-hO];exact b5
   have hD:=nQn wr w.heap.size v C (.slice va O.length vc) M c y (by rw[<-hO];exact K);have e0:=hb.size;have HB:Hid _:=hb;have HK:Hid (J9 M O=J9 M (c++[y])):=by rw[hO];rfl
   have d9:Hid (Srch wr w.heap.size v C (.slice va O.length vc) M O):=K;clear b5 K hO hb;unfold G3 at hD;go_wp2_with fail;refine hD.mono ?_;rintro e w2 ⟨rfl,V2,c2,d5⟩;have e2:=aX1 (a8.out.came y (a8.out.sub y (by simp)));have c3:=HB.out.trans (d5.below d9.out e0);have c4:=A5 w2 (.cells #[.int .i64 (y.1:Nat),.int .i64 ((y.2.1:Int)-1),.int .i64 ((y.2.2:Int)-1)] 112);have e1:w.heap.size<=w2.heap.size:=c3.size;have b4:=c3.trans (c4.mono e1);have c9:=HN.out.keep b4;have d0:=b9.out.keep b4;have d2:=c2.below c4;have c7:=c2.free (.cells #[.int .i64 (y.1:Nat),.int .i64 ((y.2.1:Int)-1),.int .i64 ((y.2.2:Int)-1)] 112);have c5:=heap_alloc_new w2 (.cells #[.int .i64 (y.1:Nat),.int .i64 ((y.2.1:Int)-1),.int .i64 ((y.2.2:Int)-1)] 112);have G:Hid _:=d2;have j:Hid _:=b4;have a6:Hid _:=c7;have a2:Hid _:=c5;have a4:Hid _:=c9;have F:Hid _:=d0;clear c2 d5 c3 c4 b4 d2 hD c7 c5 c9 d0;have c6:∀(w':World) (i:Value) (T:List Ls.Pr),¬Ls.lXd (Ls.au a b) y->Srch w' w.heap.size v C i (M++T) (c++T)->(∀t,t∈T->Ls.NxO (Ls.au n x) (Ls.au a b) y t)->(∀t,Ls.NxO (Ls.au n x) (Ls.au a b) y t->t∈M++T)->
     Ls.Sch (Ls.NxO (Ls.au n x) (Ls.au a b)) (Ls.lXd (Ls.au a b)) (0,0,0) (M++T) (c++T)/\J9 (M++T) (c++T)<J9 M O:=
    fun w' i T f r h3 h4=>⟨a8.out.next f h3 h4,by rw[HK.out];exact nQv r⟩
   have a3:Hid _:=c6;clear c6 HK;rcases e2 with⟨o,a0,S⟩|⟨o,a0,S⟩|⟨o,a0,S⟩
   ·have L:((y.1:Nat):Int)=0:=by rw[o];rfl
    rw[L]at G a6 a2 a4 F j;have I:Hid (¬Ls.lXd (Ls.au a b) y):=fun h=>by have:=h.1;omega
    have p:=dQf U U P Q P Q _ w.heap.size v C V2 M c G.out j.out.size y (.inl o) n n x x a4.out a4.out a0 S;unfold G3 at p;rw[L]at p;have q:Hid (y.1=0):=o;clear o;go_wp2_with fail;refine p.mono ?_;rintro e E ⟨rfl,i,T,l,f,r,u⟩;have H:=j.out.trans (u.below G.out j.out.size);have R:=HN.out.keep H;have d1:=b9.out.keep H;have b2:=(u.block _ a6.out).trans a2.out;obtain⟨_,k1,k2⟩:=nQ8 b2;have J:=R.net.elim fun W h=>bQ4 E W U P n Q x y.2.1 h R.lst a0;have B:=dQf V U X Y P Q E w.heap.size v C i (M++T) (c++T) l H.size (1,0,y.2.2) (.inr (.inl rfl)) a n b x d1 R (Nat.zero_le _) S;unfold G3 at B;rw[show ((((1,0,y.2.2):Ls.Pr).1:Nat):Int)=1 from rfl,show ((((1,0,y.2.2):Ls.Pr).2.1:Nat):Int)-1=-1 from rfl,show (((1,0,y.2.2):Ls.Pr).2.2:Nat)=y.2.2 from rfl]at B;have H1:Hid (∀t,t∈T->Ls.Stp (Ls.au n x) (Ls.au n x) y t):=f;have H2:Hid (∀t,Ls.Stp (Ls.au n x) (Ls.au n x) y t->t∈M++T):=r;have A:Hid _:=l;have z:Hid _:=H;clear f r l H u b2 R d1 p;cases d:(Ls.au n x).en y.2.1 with
    | false=>
     rw[d]at J;have g:Hid _:=a3.out E i T I.out A.out (fun t m=>(hQs q.out).2 (.inl (H1.out t m))) (fun t m=>by
      rcases (hQs q.out).1 m with h|⟨h,_⟩
      ·exact H2.out t h
      ·rw[d]at h;cases h)
     clear d B;go_wp2_with fail;refine J.mono ?_;rintro e w5 ⟨rfl,rfl⟩;go_wp2_with fail;go_roundg (J9 (M++T) (c++T))
     case rel=>exact⟨i,M++T,c++T,A.out,z.out,g.out.1,rfl⟩
     case measure=>exact g.out.2
    | true=>
     rw[d]at J;have b8:Hid ((Ls.au n x).en y.2.1=true):=d;clear d;go_wp2_with fail;refine J.mono ?_;rintro e w5 ⟨rfl,rfl⟩;go_wp2_with fail;refine B.mono ?_;rintro e w6 ⟨rfl,Z,k,b1,h3,h4,b3⟩;have a7:Hid (Srch w6 w.heap.size v C Z (M++(T++k)) (c++(T++k))):=by rw[<-List.append_assoc,<-List.append_assoc];exact b1
     have a1:=lQr (N:=fun t=>Ls.NxO (Ls.au n x) (Ls.au a b) y t) (S':=fun t=>Ls.Stp (Ls.au a b) (Ls.au n x) (1,0,y.2.2) t) (fun t=>(hQs q.out).trans (by rw[b8.out];simp)) H1.out H2.out h3 h4;have g:Hid _:=a3.out w6 Z (T++k) I.out a7.out a1.1 a1.2;have b7:Hid _:=z.out.trans (b3.below A.out z.out.size);clear h3 h4 b1 b3 a1 B;go_wp2_with fail;go_roundg (J9 (M++(T++k)) (c++(T++k)))
     case rel=>exact⟨Z,M++(T++k),c++(T++k),a7.out,b7.out,g.out.1,rfl⟩
     case measure=>exact g.out.2
   ·have L:((y.1:Nat):Int)=1:=by rw[o];rfl
    rw[L]at G a6 a2 a4 F j;have I:Hid (¬Ls.lXd (Ls.au a b) y):=fun h=>by have:=h.1;omega
    have p:=dQf V U X Y P Q _ w.heap.size v C V2 M c G.out j.out.size y (.inr (.inl o)) a n b x F.out a4.out a0 S;unfold G3 at p;rw[L]at p;have q:Hid (y.1=1):=o;clear o;go_wp2_with fail;refine p.mono ?_;rintro e E ⟨rfl,i,T,l,f,r,u⟩;have H:=j.out.trans (u.below G.out j.out.size);have R:=HN.out.keep H;have e4:=b9.out.net.elim fun _ h=>h.few;have b2:=(u.block _ a6.out).trans a2.out;obtain⟨_,k1,k2⟩:=nQ8 b2;have J:=R.net.elim fun W h=>bQ4 E W U P n Q x y.2.2 h R.lst S;have B:=hQo (2,y.2.1,0) E w.heap.size v C i (M++T) (c++T) l H.size ⟨.inr (.inr rfl),by show y.2.1<33;omega,by show 0<33;omega⟩;unfold G3 at B;rw[show ((((2,y.2.1,0):Ls.Pr).1:Nat):Int)=2 from rfl,show ((((2,y.2.1,0):Ls.Pr).2.2:Nat):Int)-1=-1 from rfl,show (((2,y.2.1,0):Ls.Pr).2.1:Nat)=y.2.1 from rfl]at B;have H1:Hid (∀t,t∈T->Ls.Stp (Ls.au a b) (Ls.au n x) y t):=f;have H2:Hid (∀t,Ls.Stp (Ls.au a b) (Ls.au n x) y t->t∈M++T):=r;have A:Hid _:=l;have z:Hid _:=H;clear f r l H u b2 R p;cases d:(Ls.au n x).en y.2.2 with
    | false=>
     rw[d]at J;have g:Hid _:=a3.out E i T I.out A.out (fun t m=>(hQt q.out).2 (.inl (H1.out t m))) (fun t m=>by
      rcases (hQt q.out).1 m with h|⟨h,_⟩
      ·exact H2.out t h
      ·rw[d]at h;cases h)
     clear d B;go_wp2_with fail;refine J.mono ?_;rintro e w5 ⟨rfl,rfl⟩;go_wp2_with fail;go_roundg (J9 (M++T) (c++T))
     case rel=>exact⟨i,M++T,c++T,A.out,z.out,g.out.1,rfl⟩
     case measure=>exact g.out.2
    | true=>
     rw[d]at J;have b8:Hid ((Ls.au n x).en y.2.2=true):=d;clear d;go_wp2_with fail;refine J.mono ?_;rintro e w5 ⟨rfl,rfl⟩;go_wp2_with fail;refine B.mono ?_;rintro e w6 ⟨rfl,Z,k,b1,h3,h4,b3⟩;have a7:Hid (Srch w6 w.heap.size v C Z (M++(T++k)) (c++(T++k))):=by rw[<-List.append_assoc,<-List.append_assoc];exact b1
     have a1:=lQr (N:=fun t=>Ls.NxO (Ls.au n x) (Ls.au a b) y t) (S':=fun t=>t=(2,y.2.1,0)) (fun t=>(hQt q.out).trans (by rw[b8.out];simp)) H1.out H2.out h3 h4;have g:Hid _:=a3.out w6 Z (T++k) I.out a7.out a1.1 a1.2;have b7:Hid _:=z.out.trans (b3.below A.out z.out.size);clear h3 h4 b1 b3 a1 B;go_wp2_with fail;go_roundg (J9 (M++(T++k)) (c++(T++k)))
     case rel=>exact⟨Z,M++(T++k),c++(T++k),a7.out,b7.out,g.out.1,rfl⟩
     case measure=>exact g.out.2
   ·have L:((y.1:Nat):Int)=2:=by rw[o];rfl
    rw[L]at G a6 a2 a4 F j;have p:=dQf V V X Y X Y _ w.heap.size v C V2 M c G.out j.out.size y (.inr (.inr o)) a a b b F.out F.out a0 S;unfold G3 at p;rw[L]at p;have q:Hid (y.1=2):=o;clear o;have a9:=F.out.net.elim fun W h=>bQ4 _ W V X a Y b y.2.1 h F.out.lst a0;have b0:=F.out.net.elim fun W h=>bQ4 _ W V X a Y b y.2.2 h F.out.lst S;have c5:=a2.out;cases d:(Ls.au a b).en y.2.1 with
    | false=>
     rw[d]at a9;have I:Hid (¬Ls.lXd (Ls.au a b) y):=fun h=>by have f:=h.2.1;rw[d]at f;cases f
     clear d b0;go_wp2_with fail;refine a9.mono ?_;rintro e w3 ⟨rfl,rfl⟩;go_wp2_with fail;refine p.mono ?_;rintro e E ⟨rfl,i,T,l,f,r,u⟩;have g:Hid _:=a3.out E i T I.out l (fun t m=>(fQd q.out).2 (f t m)) (fun t m=>r t ((fQd q.out).1 m));have A:Hid _:=l;have z:Hid _:=j.out.trans (u.below G.out j.out.size);clear f r l u;go_wp2_with fail;go_roundg (J9 (M++T) (c++T))
     case rel=>exact⟨i,M++T,c++T,A.out,z.out,g.out.1,rfl⟩
     case measure=>exact g.out.2
    | true=>
     rw[d]at a9;cases a5:(Ls.au a b).en y.2.2 with
     | false=>
      rw[a5]at b0;have I:Hid (¬Ls.lXd (Ls.au a b) y):=fun h=>by have f:=h.2.2;rw[a5]at f;cases f
      clear d a5;go_wp2_with fail;refine a9.mono ?_;rintro e w3 ⟨rfl,rfl⟩;go_wp2_with fail;refine b0.mono ?_;rintro e w3 ⟨rfl,rfl⟩;go_wp2_with fail;refine p.mono ?_;rintro e E ⟨rfl,i,T,l,f,r,u⟩;have g:Hid _:=a3.out E i T I.out l (fun t m=>(fQd q.out).2 (f t m)) (fun t m=>r t ((fQd q.out).1 m));have A:Hid _:=l;have z:Hid _:=j.out.trans (u.below G.out j.out.size);clear f r l u;go_wp2_with fail;go_roundg (J9 (M++T) (c++T))
      case rel=>exact⟨i,M++T,c++T,A.out,z.out,g.out.1,rfl⟩
      case measure=>exact g.out.2
     | true=>
      rw[a5]at b0;have d7:Hid (∃s,Ls.Reach (Ls.NxO (Ls.au n x) (Ls.au a b)) (0,0,0) s/\Ls.lXd (Ls.au a b) s):=⟨y,a8.out.came y (a8.out.sub y (by simp)),q.out,d,a5⟩;clear d a5;go_wp2_with fail;refine a9.mono ?_;rintro e w3 ⟨rfl,rfl⟩;go_wp2_with fail;refine b0.mono ?_;rintro e w3 ⟨rfl,rfl⟩;go_wp2_with fail;go_ret;exact⟨false,rfl,⟨fun h=>(by cases h),fun h=>absurd (HF.out.1 d7.out) h⟩,j.out⟩
end Go.Proofs.YtfklinjaajafgaaGreatDoor
namespace Go.Proofs.YtfklinjaajafgaaGreatDoor
variable {d e:Ls.D}(u:List UInt8)
theorem xQa (n:Ls.Net)(x:Ls.Span):Ls.Lg (Ls.au n x) u↔cQ0 n x u:=by
 cases u with
 | nil=>
  constructor
  ·rintro ⟨q,a,b⟩
   simp only[Ls.Wk]at a;subst a;exact b
  ·intro h;exact⟨0,rfl,h⟩
 | cons c u=>
  constructor
  ·rintro ⟨r,⟨q,a,b,d⟩,e⟩
   cases q with
   | zero=>rw[Ls.jX7]at a;cases a
   | succ q=>exact⟨q,a,b,(Ls.lXc n x u q).2 ⟨r,d,e⟩⟩
  ·rintro ⟨q,a,b,f⟩
   obtain⟨r,d,e⟩:=(Ls.lXc n x u q).1 f;exact⟨r,⟨q+1,a,b,d⟩,e⟩
abbrev aQt (d:Ls.D):Ls.Au:=Ls.au (Ls.add d I7).1 (Ls.add d I7).2
theorem eQ5 (h:Ls.Wd 0 d)(u:List UInt8):Ls.Lg (aQt d) u↔Ls.inL (Ls.eX5 d) u:=(xQa u _ _).trans (lQc h u)
theorem rQv (a:Ls.Wd 0 d)(b:Ls.Wd 0 e):(∃s,Ls.Reach (Ls.Stp (aQt d) (aQt e)) (0,0,0) s/\Ls.lXu (aQt d) (aQt e) s)↔Ls.jX2 (Ls.eX5 d) (Ls.eX5 e):=by
 rw[Ls.kX4];unfold Ls.jX2;simp only[eQ5 a,eQ5 b]
theorem eXc (a:Ls.Wd 0 d)(b:Ls.Wd 0 e):(∃s,Ls.Reach (Ls.NxO (aQt d) (aQt e)) (0,0,0) s/\Ls.lXd (aQt e) s)↔Ls.fXb (Ls.eX5 d) (Ls.eX5 e):=by
 rw[Ls.lXq];unfold Ls.fXb;simp only[eQ5 a,eQ5 b]
end Go.Proofs.YtfklinjaajafgaaGreatDoor
namespace Go.Proofs.YtfklinjaajafgaaGreatDoor
open Go.RowKit
theorem NetL.nt {w:World}{B b:Nat}{P Q:Value}{n:Ls.Net}{x:Ls.Span}(h:NetL w B b P Q n x)(d:x.first<4294967296)(e:x.last<4294967296):Nt w w.heap.size b P Q n x:=by
 obtain⟨f,_,_,c⟩:=h.pls;exact⟨⟨B,h⟩,h.lt,fun k a=>(c.lt k a).2,fun k a=>(h.bhs.lt k a).2,d,e⟩
def iQw (f:FuncId)(F:Ls.Pat->Ls.Pat->Prop):Prop:=∀(w:World) (nb nb':Nat) (P Q P' Q':Value) (d d':Ls.D),Ls.Wd 0 d->Ls.Wd 0 d'->Nt w w.heap.size nb P Q (Ls.add d I7).1 (Ls.add d I7).2->Nt w w.heap.size nb' P' Q' (Ls.add d' I7).1 (Ls.add d' I7).2->
 Ca f #[.pointer (some ⟨nb,0,none⟩),.pointer (some ⟨nb',0,none⟩)] w (dQs w (F (Ls.eX5 d) (Ls.eX5 d')))
theorem rQn:iQw 38 Ls.jX2:=fun w f g P Q a b _ _ d e h c=>yQw f g P Q a b w _ _ _ _ h c _ (rQv d e)
theorem jQd:iQw 37 Ls.fXb:=fun w f g P Q a b _ _ d e h c=>yQx w f g P Q a b _ _ _ _ h c _ (eXc d e)
end Go.Proofs.YtfklinjaajafgaaGreatDoor
