import Derived.Test.YtfklinjaajafgaaGreatDoorL1
import Derived.Test.YtfklinjaajafgaaGreatDoorK63
import Derived.Test.YtfklinjaajafgaaGreatDoorK60
import Derived.Test.YtfklinjaajafgaaGreatDoorK04
import Derived.SliceStrings
import Derived.Carry
set_option maxRecDepth 100000
set_option maxHeartbeats 4000000
namespace Go.Proofs.YtfklinjaajafgaaGreatDoor
open Go.RowKit
variable (s:ByteArray)(a:Option Addr)(n c:Nat)(w:World)
theorem aX6 (h:1048576<s.size\/4096<n) :
  Calls Tryz.prog 5 #[.string s,.slice a n c] w fun e d=>e=.returned (.bool true)/\Bw w d:=by
 by_cases f:1048576<s.size
 ·have b:(1048576:Int)<(s.size:Int):=by omega
  go_enter Tryz.func5,Tryz.ntmps5;go_wp2_with fail;go_ret;exact⟨rfl,Br⟩
 ·have b:¬(1048576:Int)<(s.size:Int):=by omega
  have g:(4096:Int)<(n:Int):=by omega
  go_enter Tryz.func5,Tryz.ntmps5;go_wp2_with fail;go_ret;exact⟨rfl,Br⟩
theorem aX8 (hs:s.size<=1048576)(hn:n<=4096)(f:Nat->ByteArray)(hX:∀W,Bw w W->∀i,i<n->∃d,a=some d/\W.cell? (d.add i)=some (.string (f i)))(x:Calls Tryz.prog 18 #[.string s] w (CompilePost s w)) :
  Calls Tryz.prog 5 #[.string s,.slice a n c] w fun e h=>e=.returned (.bool true)/\Bw w h:=by
 have hd:¬(1048576:Int)<(s.size:Int):=by omega
 have c8:¬(4096:Int)<(n:Int):=by omega
 have V:Hid (∀W,Bw w W->∀i,i<n->∃d,a=some d/\W.cell? (d.add i)=some (.string (f i))):=hX;clear hX;go_enter Tryz.func5,Tryz.ntmps5;go_wp2_with fail;refine x.mono ?_;rintro e R ⟨v0,a2,rfl,hr,c9,b7,a7,b4⟩;have HR:Hid (CompIs s.data.toList a2):=hr;have HV:Hid (v0.isSome=true↔a2=0):=b7;have HP:Hid (a2=0->∃l L a1,v0=some ⟨L,0,none⟩/\E6 s.data.toList=some l/\Ls.OkL 120 l/\cn l<=30000/\Ls.eX7 l<=24/\w.heap.size<=L/\Blk R L #[Pt a1] 85/\PartV R (B8 w R) a1 l):=b4;clear hr b7 x b4;go_wp2_with fail;refine(bQz s R).mono ?_;rintro e g ⟨a9,a1,ws,p,q,r,k,m,o,r2,rfl,b5,a8,Q⟩;have c4:r2=a2:=b5.one HR.out;subst c4;have HN:Hid (r2=0->∃l,E6 s.data.toList=some l/\l.kind=a9/\Ls.eX5 l.p=a1/\l.w=ws/\NV g (B8 R g) l (.slice p q r) (.slice k m o)):=Q;clear b5 HR Q
 by_cases h0:r2=0
 ·subst h0
  obtain⟨l,L,p0,rfl,h1,H,h3,h4,h5,h6,h7⟩:=HP.out rfl;obtain⟨b,k1,rfl,rfl,rfl,k5⟩:=HN.out rfl;obtain⟨rfl,X⟩:=gQv a7 h1 k1 H h3 h4 h6 h7 a8;have b2:=A5 g (B7 b.kind (Ls.eX5 b.p) b.w (.slice p q r) (.slice k m o));have a6:Blk (g.alloc (B7 b.kind (Ls.eX5 b.p) b.w (.slice p q r) (.slice k m o))) g.heap.size #[Iv b.kind,Iv (Ls.eX5 b.p).kind,.string ⟨(Ls.eX5 b.p).signs.toArray⟩,.slice p q r,Sv b.w,.slice k m o] 37:=Blk.new g _ _;have b8:=aQk b 120 H (by omega);have HD:Hid (∀W (t:ByteArray),t.size<=1048576->Bw g W->
    (Ca 20 #[Pt L,.string t] W (Rt (.bool (B6 (Ls.eX8 b) t.data.toList)) W))/\
    (Ca 22 #[Pt L,.string t] W (Rt (.bool (B6 (Ls.eX6 b) t.data.toList)) W))/\
    (Ca 24 #[Pt L,.string t] W (Rt (if B6 (Ls.eX8 b) t.data.toList=true then .tuple #[Sv (A6 b t.data.toList),Iv 0] else .tuple #[.string ⟨#[]⟩,Iv 5]) W))):=fun W t I v=>⟨eQv t W L b I _ p0 (X.below v),eQy t W L b I _ p0 (X.below v),bQf t W L b I _ p0 (X.below v)⟩
  have HE:Hid (∀W (t:ByteArray),t.size<=1048576->Bw g W->
    (Ca 21 #[F0 b (.slice p q r) (.slice k m o),.string t] W (Rt (.bool (B6 (Ls.eX8 b) t.data.toList)) W))/\
    (Ca 23 #[F0 b (.slice p q r) (.slice k m o),.string t] W (Rt (.bool (B6 (Ls.eX6 b) t.data.toList)) W))/\
    (Ca 25 #[F0 b (.slice p q r) (.slice k m o),.string t] W (Rt (if B6 (Ls.eX8 b) t.data.toList=true then .tuple #[Sv (A6 b t.data.toList),Iv 0] else .tuple #[.string ⟨#[]⟩,Iv 5]) W))):=fun W t I v=>by
   have hO:Old W (B8 R g):=fun a9 hk=>Ll hk.2 v.size;have Q:=k5.below v (fun a9 hk=>hk.2) (fun _ c0=>c0);exact⟨gQ9 b H (G6 b H) t I _ _ W _ hO Q,hQa b H (G9 b H b8) t I _ _ W _ hO Q,kQj b H (G6 b H) (bQo b H (j9 H h4 (by omega))) t I _ _ W _ hO Q⟩
  have a3:Hid (Bw g (g.alloc (B7 b.kind (Ls.eX5 b.p) b.w (.slice p q r) (.slice k m o)))):=b2;have a5:Hid (∀W,Below (g.alloc (B7 b.kind (Ls.eX5 b.p) b.w (.slice p q r) (.slice k m o))).heap.size (g.alloc (B7 b.kind (Ls.eX5 b.p) b.w (.slice p q r) (.slice k m o))) W->Blk W g.heap.size #[Iv b.kind,Iv (Ls.eX5 b.p).kind,.string ⟨(Ls.eX5 b.p).signs.toArray⟩,.slice p q r,Sv b.w,.slice k m o] 37):=fun W v=>a6.below v a6.lt;have b9:Hid (Bw w g):=Bj a7 a8;clear HP HN HV k1 k5 h1 H h3 h4 h5 h6 h7 X b8 b2 a6;go_wp2_with fail;generalize g.alloc (B7 b.kind (Ls.eX5 b.p) b.w (.slice p q r) (.slice k m o))=y at *;go_loopw [9] (fun t wr=>∃i:Nat,i<=n/\t=Iv i/\Bw y wr) (fun t _=>n-(intOf t).toNat)
  case atStart=>exact⟨0,Nat.zero_le _,rfl,Br⟩
  case round=>
   obtain⟨i,hi,rfl,P⟩:=hrel;have a4:Hid (∀W,Bw y W->Bw w W):=fun W v=>Bj (Bj b9.out a3.out) v
   by_cases b3:i<n
   ·have d0:(0:Int)<=(i:Int):=by omega
    have c5:(i:Int)<(n:Int):=by omega
    obtain⟨d,rfl,z⟩:=V.out wr (a4.out wr P) i b3;have u:Hid (∀W:World,Bw y W->(Ce W g.heap.size 0 (Iv b.kind)/\Ce W g.heap.size 1 (Iv (Ls.eX5 b.p).kind)/\Ce W g.heap.size 2 (.string ⟨(Ls.eX5 b.p).signs.toArray⟩)/\Ce W g.heap.size 3 (.slice p q r)/\Ce W g.heap.size 4 (Sv b.w)/\Ce W g.heap.size 5 (.slice k m o))/\W.cell? (d.add i)=some (.string (f i))):=fun W v=>by
     obtain⟨d',c3,c2⟩:=V.out W (a4.out W v) i b3;cases c3;exact⟨(a5.out W v).six,c2⟩
    have K:Hid ((f i).size<=1048576->∀W,Bw y W->
      (Ca 20 #[Pt L,.string (f i)] W (Rt (.bool (B6 (Ls.eX8 b) (f i).data.toList)) W))/\
      (Ca 22 #[Pt L,.string (f i)] W (Rt (.bool (B6 (Ls.eX6 b) (f i).data.toList)) W))/\
      (Ca 24 #[Pt L,.string (f i)] W (Rt (if B6 (Ls.eX8 b) (f i).data.toList=true then .tuple #[Sv (A6 b (f i).data.toList),Iv 0] else .tuple #[.string ⟨#[]⟩,Iv 5]) W))):=fun I W v=>HD.out W (f i) I (Bj a3.out v)
    have M:Hid ((f i).size<=1048576->∀W,Bw y W->
      (Ca 21 #[F0 b (.slice p q r) (.slice k m o),.string (f i)] W (Rt (.bool (B6 (Ls.eX8 b) (f i).data.toList)) W))/\
      (Ca 23 #[F0 b (.slice p q r) (.slice k m o),.string (f i)] W (Rt (.bool (B6 (Ls.eX6 b) (f i).data.toList)) W))/\
      (Ca 25 #[F0 b (.slice p q r) (.slice k m o),.string (f i)] W (Rt (if B6 (Ls.eX8 b) (f i).data.toList=true then .tuple #[Sv (A6 b (f i).data.toList),Iv 0] else .tuple #[.string ⟨#[]⟩,Iv 5]) W))):=fun I W v=>HE.out W (f i) I (Bj a3.out v)
    generalize A6 b (f i).data.toList=gv at *;generalize B6 (Ls.eX8 b) (f i).data.toList=zs at *;generalize B6 (Ls.eX6 b) (f i).data.toList=zv at *;generalize f i=t at *;clear HD HE V a5
    by_cases c7:1048576<t.size
    ·have c1:(1048576:Int)<(t.size:Int):=by omega
     clear K M u;go_wp2_with fail;go_roundw
     case rel=>exact⟨i+1,by omega,by go_num,P⟩
     case measure=>simp[intOf];omega
    ·have c1:¬(1048576:Int)<(t.size:Int):=by omega
     have b6:t.size<=1048576:=by omega
     have b0:=K.out b6;have b1:=M.out b6;clear K M;have K:Hid _:=b0;have M:Hid _:=b1;clear b0 b1 z;obtain⟨⟨A,B,C,E,F,G⟩,z⟩:=u.out wr P;have x:=(K.out wr P).1;go_wp2_with fail;refine x.mono ?_;clear x A B C E F G z;rintro e w4 ⟨rfl,j⟩;have Y:Bw y w4:=Bj P j;clear j;obtain⟨⟨A,B,C,E,F,G⟩,z⟩:=u.out w4 Y;go_wp2_with fail;go_region_held (fun h=>(Ce h g.heap.size 0 (Iv b.kind)/\Ce h g.heap.size 1 (Iv (Ls.eX5 b.p).kind)/\Ce h g.heap.size 2 (.string ⟨(Ls.eX5 b.p).signs.toArray⟩)/\Ce h g.heap.size 3 (.slice p q r)/\Ce h g.heap.size 4 (Sv b.w)/\Ce h g.heap.size 5 (.slice k m o))/\h.cell? (d.add i)=some (.string t)) (first|with_reducible assumption|with_reducible exact u.out _ Y.drew|with_reducible exact u.out _ O)
      (first
       | (go_at_call 21;refine(M.out _ ?_).1.mono ?_;exact Y.drew;rintro e w5 ⟨rfl,j⟩;have Z:Bw y w5:=Bj Y.drew j;have O:=Z;clear j))
     all_goals
      obtain⟨⟨A,B,C,E,F,G⟩,z⟩:=u.out w5 Z;have x:=(K.out w5 Z).2.1;go_wp2_with fail;refine x.mono ?_;clear x A B C E F G z;rintro e w6 ⟨rfl,j⟩;have a0:Bw y w6:=Bj Z j;clear j;obtain⟨⟨A,B,C,E,F,G⟩,z⟩:=u.out w6 a0;go_wp2_with fail;go_region_held (fun h=>(Ce h g.heap.size 0 (Iv b.kind)/\Ce h g.heap.size 1 (Iv (Ls.eX5 b.p).kind)/\Ce h g.heap.size 2 (.string ⟨(Ls.eX5 b.p).signs.toArray⟩)/\Ce h g.heap.size 3 (.slice p q r)/\Ce h g.heap.size 4 (Sv b.w)/\Ce h g.heap.size 5 (.slice k m o))/\h.cell? (d.add i)=some (.string t)) (first|with_reducible assumption|with_reducible exact u.out _ a0.drew|with_reducible exact u.out _ O)
       (first
        | (go_at_call 23;refine(M.out _ ?_).2.1.mono ?_;exact a0.drew;rintro e T ⟨rfl,j⟩;have N:Bw y T:=Bj a0.drew j;have O:=N;clear j))
      all_goals
       cases zs with
       | true=>
        obtain⟨⟨A,B,C,E,F,G⟩,z⟩:=u.out T N;have x:=(K.out T N).2.2;go_wp2_with fail;refine x.mono ?_;clear x A B C E F G z;rintro e U ⟨rfl,j⟩;have J:Bw y U:=Bj N j;clear j;obtain⟨⟨A,B,C,E,F,G⟩,z⟩:=u.out U J;go_wp2_with fail;go_region_held (fun h=>(Ce h g.heap.size 0 (Iv b.kind)/\Ce h g.heap.size 1 (Iv (Ls.eX5 b.p).kind)/\Ce h g.heap.size 2 (.string ⟨(Ls.eX5 b.p).signs.toArray⟩)/\Ce h g.heap.size 3 (.slice p q r)/\Ce h g.heap.size 4 (Sv b.w)/\Ce h g.heap.size 5 (.slice k m o))/\h.cell? (d.add i)=some (.string t)) (first|with_reducible assumption|with_reducible exact u.out _ J.drew|with_reducible exact u.out _ O)
         (first
          | (go_at_call 25;refine(M.out _ ?_).2.2.mono ?_;exact J.drew;rintro e w9 ⟨rfl,j⟩;have S:Bw y w9:=Bj J.drew j;have O:=S;clear j))
        all_goals
         go_wp2_with fail;go_roundw
         case rel=>exact⟨i+1,by omega,by go_num,S⟩
         case measure=>simp[intOf];omega
       | false=>
        obtain⟨⟨A,B,C,E,F,G⟩,z⟩:=u.out T N;have x:=(K.out T N).2.2;go_wp2_with fail;refine x.mono ?_;clear x A B C E F G z;rintro e U ⟨rfl,j⟩;have J:Bw y U:=Bj N j;clear j;obtain⟨⟨A,B,C,E,F,G⟩,z⟩:=u.out U J;go_wp2_with fail;go_region_held (fun h=>(Ce h g.heap.size 0 (Iv b.kind)/\Ce h g.heap.size 1 (Iv (Ls.eX5 b.p).kind)/\Ce h g.heap.size 2 (.string ⟨(Ls.eX5 b.p).signs.toArray⟩)/\Ce h g.heap.size 3 (.slice p q r)/\Ce h g.heap.size 4 (Sv b.w)/\Ce h g.heap.size 5 (.slice k m o))/\h.cell? (d.add i)=some (.string t)) (first|with_reducible assumption|with_reducible exact u.out _ J.drew|with_reducible exact u.out _ O)
         (first
          | (go_at_call 25;refine(M.out _ ?_).2.2.mono ?_;exact J.drew;rintro e w9 ⟨rfl,j⟩;have S:Bw y w9:=Bj J.drew j;have O:=S;clear j))
        all_goals
         go_wp2_with fail;go_roundw
         case rel=>exact⟨i+1,by omega,by go_num,S⟩
         case measure=>simp[intOf];omega
   ·have c5:¬(i:Int)<(n:Int):=by omega
    clear HD HE V a5;go_wp2_with fail;go_ret;exact⟨rfl,a4.out wr P⟩
 ·have c6:¬((r2:Int)=0):=by omega
  cases v0 with
  | some ad=>exact absurd (HV.out.1 rfl) h0
  | none=>
   clear HP HN HV;go_wp2_with fail;go_ret;exact⟨by simp,Bj (Bj a7 a8) (A5 _ _)⟩
end Go.Proofs.YtfklinjaajafgaaGreatDoor
namespace Go.Proofs.YtfklinjaajafgaaGreatDoor
open Go.ChangeShapes Go.WideShapes Go.ChangeAt Go.RowKit
open Go.ChangeMaps (open_string shut_string)
theorem aX4 (b:ByteArray)(a:Option Addr)(n c:Nat)(w:World)(f:Nat->ByteArray)(m:∀W,Bw w W->∀i,i<n->∃d,a=some d/\W.cell? (d.add i)=some (.string (f i))){g j k l:Addr}(hs:Sent w g j k l) :
  Calls Tryz.prog 5 #[.string b,.slice a n c] w fun e o=>e=.returned (.bool true)/\Bw w o:=by
 by_cases h:1048576<b.size\/4096<n
 ·exact aX6 b a n c w h
 ·exact aX8 b a n c w (by omega) (by omega) f m (j8 b g j w k l (by omega) hs)
theorem yQs {H:Type}{k:TypeId × Value->H}{W:World}{a:Option Addr}{g j l:Nat}{x:DataW H × List MemPlace}(o:DataW.trod k Tryz.prog W 0 (fun _=>true) true l 41 [.slice a g j]=some x) :
  ∃f:Nat->ByteArray,∀c,Bw W c->∀i,i<g->∃d,a=some d/\c.cell? (d.add i)=some (.string (f i)):=by
 rcases open_strings Tryz.underlying41 Tryz.underlying9 (by kernel_rfl) o with⟨b,_⟩|⟨d,u,s,r,b,_,t,_,q,_,n,_⟩
 ·simp at b
  obtain⟨rfl,rfl,rfl⟩:=b;exact⟨fun _=>ByteArray.empty,fun _ _ i e=>absurd e (by omega)⟩
 ·simp at b
  obtain⟨rfl,rfl,rfl⟩:=b;simp only[if_true]at q;refine⟨fun i=>r.getD i ByteArray.empty,fun c m i e=>⟨d,rfl,?_⟩⟩;have h:=n i (by omega);rw[m.cell (p:=d.add i) (World.block_lt_of_cell? W _ h)];exact h
theorem aX5 (os:Os)(Q:os.Started)(H:Type)(enc:TypeId × Value->H) :
  ReturnsInHanded {} Tryz.checked os 5 .any (fun w a=>(Rows.readsSpec.pre enc Tryz.prog Tryz.f5 [] false w a/\laidMetH Tryz.prog laid4 w)/\sizedMet enc Tryz.prog Tryz.f5 (OpenSpec.ofChange Rows.readsSpec) false w a)
   (Rows.readsSpec.post enc Tryz.prog Tryz.f5 false true false false):=by
 refine returnsInHanded_of_change_and (C:=Tryz.checked) (X:=fun w _=>laidMetH Tryz.prog laid4 w) (fun _ _ _ K h=>h.of_heap K) own Q (by kernel_rfl) Tryz.func5
  (ChangeSpec.witness_shaped (enc:=enc) (C:=Tryz.checked) (os:=os) (X:=fun w _=>laidMetH Tryz.prog laid4 w) false (World.doorLaid Tryz.prog 400 os) #[.string ByteArray.empty,.slice none 0 0] 8 rfl (World.shaped_of_RefB (by kernel_rfl) (by kernel_rfl)) (by kernel_rfl) (by kernel_rfl) (by kernel_rfl) (aQx os _)) ?_
 intro W u a z gs T m k _ _ E _;have c:∀(j:Nat) t v,Tryz.f5.params[j]?=some t->a[j]?=some v->Value.okWide Tryz.prog W .any u t v:=m;have b:=k;obtain⟨p,a4,i,F,rfl,a2,a3⟩:=k;have g:DataW.TrodAll enc Tryz.prog W 0 (fun _=>true) true Tryz.f5.params.toList a.toList z p:=i;rw[Tryz.params5]at g c;obtain⟨o,a5,U,Y,p0,q0,a1,rfl,rfl,A,O⟩:=trodAll_cons g;obtain⟨q,a6,V,Z,n,q1,rfl,rfl,rfl,d,P⟩:=trodAll_cons O;obtain⟨rfl,rfl,rfl⟩:=trodAll_nil P;obtain rfl:a=#[o,q]:=by cases a;simp_all
 obtain⟨rfl,rfl⟩:=trodVars_none F;obtain⟨r,rfl,rfl,rfl,R⟩:=open_string Tryz.underlying9 (c 0 9 o rfl rfl) A;have B:=d;obtain⟨s,N,y,rfl⟩:=okWide_slice Tryz.underlying41 (c 1 41 q rfl rfl);obtain⟨a0,J⟩:=d;obtain⟨f,G⟩:=yQs J;obtain⟨x0,x1,x2,x3,hs⟩:=aQ3 E;clear i m;simp only[List.append_nil]at b;have L:∀x∈n,x.block<W.heap.size:=fun x M=>by simpa using b.lt x (by simp[M])
 refine(aX4 r s N y W f G hs).mono fun e S ⟨I,l⟩=>?_;subst I;refine⟨_,rfl,_,_,_,[],[]++(n++[]),[],b,?_,?_,?_,l.frame _,fun h=>by cases h⟩
 ·exact trodAll_cons_mk (shut_bool Tryz.underlying4 _) trodAll_mk0
 ·exact trodAll_cons_mk (shut_string Tryz.underlying9 R) (trodAll_cons_mk (Below.trod (by kernel_rfl) (by kernel_rfl) (of_decide_eq_true (by kernel_rfl)) B l L) trodAll_mk0)
 ·rfl
theorem aX7:Rows.ReadsSaid:=
 OpenClaim.holds_of_wide 5 Tryz.f5 rfl rfl rfl rfl rfl rfl rfl ⟨rfl,rfl,rfl,rfl,rfl⟩ rfl rfl rfl rfl rfl (by kernel_rfl) Tryz.func5 (by kernel_rfl)
  (of_decide_eq_true (by kernel_rfl)) (by unfold Func.isWrapper;first|(rw[if_pos (by decide +kernel)];kernel_rfl)|(rw[if_neg (by decide +kernel)];exact⟨rfl,rfl⟩))
  (fun b c H a _=>aX5 b c H a)
theorem reads_holds:Rows.ReadsCardSaid:=
 Claim7.holds_tied_plain_at .later [] [.sentinel,.sentinel,.sentinel,.sentinel] true Rows.readsCard.stood.harness true
  aX7 (fun _ h=>by cases h) (by kernel_rfl) (fun _ h=>by cases h) reads_row_tie rfl ⟨rfl,rfl⟩ (by kernel_rfl) rfl
  (fun f fn hf hfn=>by
   obtain rfl : f = 5 := Option.some.inj ((show Tryz.prog.funcNamed "lenses/lenseslaw.Reads" = some 5 by kernel_rfl).symm.trans hf) |>.symm
   obtain rfl:fn=Tryz.f5:=(Option.some.inj (Tryz.func5.symm.trans hfn)).symm;exact⟨by kernel_rfl,fun j t ht=>by
    rw[Tryz.params5]at ht;have hm:t∈[9,41]:=by simpa using Array.mem_of_getElem? ht
    have hall:([9,41].all fun u=>!Tryz.prog.wantsStandIn u)=true:=by kernel_rfl
    exact(show Tryz.prog.wantsStandIn t=false by simpa using List.all_eq_true.1 hall t hm)⟩) (by kernel_rfl)
end Go.Proofs.YtfklinjaajafgaaGreatDoor
