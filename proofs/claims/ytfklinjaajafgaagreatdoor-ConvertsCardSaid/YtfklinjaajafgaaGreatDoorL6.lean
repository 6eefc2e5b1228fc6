import Derived.Test.YtfklinjaajafgaaGreatDoorL1
import Derived.Test.YtfklinjaajafgaaGreatDoorK54
import Derived.Test.YtfklinjaajafgaaGreatDoorK63
import Derived.Test.YtfklinjaajafgaaGreatDoorK64
import Derived.Test.YtfklinjaajafgaaGreatDoorK60
import Derived.Test.YtfklinjaajafgaaGreatDoorK04
set_option maxRecDepth 100000
set_option maxHeartbeats 4000000
namespace Go.Proofs.YtfklinjaajafgaaGreatDoor
open Go.RowKit
theorem tQg (s v u:ByteArray)(w:World)(h:1048576<s.size\/1048576<v.size\/1048576<u.size) :
  Calls Tryz.prog 8 #[.string s,.string v,.string u] w fun e c=>e=.returned (.bool true)/\Bw w c:=by
 by_cases d:1048576<s.size
 ·have a:(1048576:Int)<(s.size:Int):=by omega
  go_enter Tryz.func8,Tryz.ntmps8;go_wp2_with fail;go_ret;exact⟨rfl,Br⟩
 ·have a:¬(1048576:Int)<(s.size:Int):=by omega
  by_cases f:1048576<v.size
  ·have b:(1048576:Int)<(v.size:Int):=by omega
   go_enter Tryz.func8,Tryz.ntmps8;go_wp2_with fail;go_ret;exact⟨rfl,Br⟩
  ·have b:¬(1048576:Int)<(v.size:Int):=by omega
   have g:(1048576:Int)<(u.size:Int):=by omega
   go_enter Tryz.func8,Tryz.ntmps8;go_wp2_with fail;go_ret;exact⟨rfl,Br⟩
theorem CompilePost.lens {s:ByteArray}{w:World}{e:Ending}{a:World}(h:CompilePost s w e a):∃(v:Option Addr) (r:Nat),e=.returned (.tuple #[.pointer v,Iv r])/\CompIs s.data.toList r/\r<=4/\(v.isSome=true↔r=0)/\Bw w a/\(r=0->∃l L p,v=some ⟨L,0,none⟩/\E6 s.data.toList=some l/\LensV a (B8 w a) L p l):=by
 obtain⟨v,r,b,c,d,f,g,i⟩:=h;refine⟨v,r,b,c,d,f,g,fun h=>?_⟩;obtain⟨l,L,p,rfl,k,m,n,o,u,q,t⟩:=i h;exact⟨l,L,p,rfl,k,q,t,fun _ j=>j.2,m,o,n⟩
theorem tQi (s t u:ByteArray)(w:World)(hs:s.size<=1048576)(ht:t.size<=1048576)(hu:u.size<=1048576)(hC:∀W,Bw w W->∀b8:ByteArray,b8.size<=1048576->Calls Tryz.prog 18 #[.string b8] W (CompilePost b8 W)) :
  Calls Tryz.prog 8 #[.string s,.string t,.string u] w fun e w'=>e=.returned (.bool true)/\Bw w w':=by
 have hd:¬(1048576:Int)<(s.size:Int):=by omega
 have g3:¬(1048576:Int)<(t.size:Int):=by omega
 have g4:¬(1048576:Int)<(u.size:Int):=by omega
 have HC:Hid (∀W,Bw w W->Ca 18 #[.string t] W (CompilePost t W)):=fun W r=>hC W r t ht;have d0:=hC w Br s hs;clear hC;go_enter Tryz.func8,Tryz.ntmps8;go_wp2_with fail;refine d0.mono ?_;clear d0;intro e w1 d2;obtain⟨v0,a9,rfl,hr,g5,e5,d4,e0⟩:=d2.lens;have HR:Hid (CompIs s.data.toList a9):=hr;have H:Hid (v0.isSome=true↔a9=0):=e5;have R:Hid (a9=0->∃l L p,v0=some ⟨L,0,none⟩/\E6 s.data.toList=some l/\LensV w1 (B8 w w1) L p l):=e0;have d1:=HC.out w1 d4;clear hr e5 e0 d2 HC;go_wp2_with fail;refine d1.mono ?_;clear d1;intro e N d3;obtain⟨Z,r',rfl,e2,g6,e6,d5,e1⟩:=d3.lens;have c8:Hid (CompIs t.data.toList r'):=e2;have F:Hid (Z.isSome=true↔r'=0):=e6;have S:Hid (r'=0->∃l L p,Z=some ⟨L,0,none⟩/\E6 t.data.toList=some l/\LensV N (B8 w1 N) L p l):=e1;clear e2 e6 e1 d3;have f3:=Bj d4 d5;go_wp2_with fail;refine(bQz s N).mono ?_;rintro e f ⟨k,p,O,z,A,B,v,x,y,r2,rfl,e3,d7,d8⟩;have f6:r2=a9:=e3.one HR.out;subst f6;have P:Hid (r2=0->∃l,E6 s.data.toList=some l/\l.kind=k/\Ls.eX5 l.p=p/\l.w=O/\NV f (B8 N f) l (.slice z A B) (.slice v x y)):=d8;clear e3 HR d8;have f2:Bw w (f.alloc (B7 k (p) O (.slice z A B) (.slice v x y))):=Bj (Bj f3 d7) (A5 _ _);have C:Hid (Blk (f.alloc (B7 k (p) O (.slice z A B) (.slice v x y))) f.heap.size #[Iv k,Iv p.kind,Sv p.signs,.slice z A B,Sv O,.slice v x y] 37):=Blk.new f _ _;have b9:Hid (Bw f (f.alloc (B7 k (p) O (.slice z A B) (.slice v x y)))):=A5 _ _;go_wp2_with fail;refine(bQz t _).mono ?_;generalize f.alloc (B7 k (p) O (.slice z A B) (.slice v x y))=e9 at *;rintro e c ⟨Y,K,a6,n,o,q,i,j,m,M,rfl,e4,V,d9⟩;have f7:M=r':=e4.one c8.out;subst f7;have Q:Hid (M=0->∃l,E6 t.data.toList=some l/\l.kind=Y/\Ls.eX5 l.p=K/\l.w=a6/\NV c (B8 e9 c) l (.slice n o q) (.slice i j m)):=d9;clear e4 c8 d9;have f4:Bw w c:=Bj f2 V;have X:Bw w (c.alloc (B7 Y K a6 (.slice n o q) (.slice i j m))):=Bj f4 (A5 _ _);have c6:Hid (Bw c (c.alloc (B7 Y K a6 (.slice n o q) (.slice i j m)))):=A5 _ _;have E:Hid (Blk (c.alloc (B7 Y K a6 (.slice n o q) (.slice i j m))) c.heap.size #[Iv Y,Iv K.kind,Sv K.signs,.slice n o q,Sv a6,.slice i j m] 37):=Blk.new c _ _
 by_cases T:r2=0
 ·by_cases I:M=0
  ·subst T
   subst I;obtain⟨l,L,g0,rfl,h1,d⟩:=R.out rfl;obtain⟨a,k1,rfl,rfl,rfl,k5⟩:=P.out rfl;obtain rfl:a=l:=Option.some.inj (k1.symm.trans h1);obtain⟨f9,L',q',rfl,c9,g⟩:=S.out rfl;obtain⟨b,e7,rfl,rfl,rfl,e8⟩:=Q.out rfl;obtain rfl:b=f9:=Option.some.inj (e7.symm.trans c9);have d6:Bw N c:=Bj (Bj d7 b9.out) V;have b2:=Bj d6 c6.out;have b1:=jQz u _ L a hu _ _ g0 L' q' b ((d.below d5).below b2) (g.below b2);have f8:=aQk a 120 d.ok (by have:=d.size;omega);have b7:=aQk b 120 g.ok (by have:=g.size;omega);have HG:Hid (∀W,Bw c W->Ca 25 #[F0 a (.slice z A B) (.slice v x y),.string u] W (Rt (if B6 (Ls.eX8 a) u.data.toList=true then .tuple #[Sv (A6 a u.data.toList),Iv 0] else .tuple #[.string ⟨#[]⟩,Iv 5]) W)):=fun W r=>by
    have hj:=Bj (Bj b9.out V) r;exact kQj a d.ok (G6 a d.ok) (bQo a d.ok (j9 d.ok d.size (by have:=d.few;omega))) u hu _ _ W (B8 N f) (fun k G=>Ll G.2 hj.size) (k5.below hj (fun k G=>G.2) (fun _ b0=>b0))
   have HK:Hid (B6 (Ls.eX8 a) u.data.toList=true->∀W,Bw c W->Ca 27 #[F0 b (.slice n o q) (.slice i j m),Sv (A6 a u.data.toList)] W (Rt (if B6 (Ls.eX6 b) (A6 a u.data.toList)=true then .tuple #[Sv (A8 b (A6 a u.data.toList)),Iv 0] else .tuple #[.string ⟨#[]⟩,Iv 6]) W)):=fun ho W r=>by
    have f5:=kQi d.few (s:=u.data.toList) (by unfold B6 at ho;rw[Bool.and_eq_true,decide_eq_true_eq]at ho;exact ho.2);exact jQ1 ⟨(A6 a u.data.toList).toArray⟩ _ W _ (B8 e9 c) b g.ok (G9 b g.ok b7) (aQm b g.ok b7 (j9 g.ok g.size (by have:=g.few;omega))) (by simpa [ByteArray.size] using f5) (fun k G=>Ll G.2 r.size) (e8.below r (fun k G=>G.2) (fun _ b0=>b0))
   have f0:Hid (∀W,Bw c W->Blk W f.heap.size #[Iv a.kind,Iv (Ls.eX5 a.p).kind,.string ⟨(Ls.eX5 a.p).signs.toArray⟩,.slice z A B,Sv a.w,.slice v x y] 37):=fun W r=>(C.out.below V C.out.lt).below r (Ll C.out.lt V.size);have HE:Hid (Bw w (c.alloc (B7 b.kind (Ls.eX5 b.p) b.w (.slice n o q) (.slice i j m)))):=X;clear R P H S Q F h1 c9 k1 e7 k5 e8 d g f8 b7 C d6 b2 X;unfold eQi at b1;generalize A8 b (A6 a u.data.toList)=cr at *;generalize B6 (Ls.eX6 b) (A6 a u.data.toList)=zv at *;generalize A6 a u.data.toList=gv at *;generalize B6 (Ls.eX8 a) u.data.toList=zs at *;go_wp2_with fail;refine b1.mono ?_;clear b1;generalize c.alloc (B7 b.kind (Ls.eX5 b.p) b.w (.slice n o q) (.slice i j m))=W4 at *;rintro e w5 ⟨rfl,a8⟩;have a7:=Bj c6.out a8;obtain⟨a0,a1,a2,a3,a4,a5⟩:=(f0.out w5 a7).six;have J:=HG.out w5 a7;have b5:=Bj HE.out a8;cases zs with
   | false=>
    clear HG HK;go_wp2_with fail
    all_goals
     refine J.mono ?_;clear J;rintro e w6 ⟨rfl,h⟩;go_wp2_with fail;go_ret;exact⟨by simp,Bj b5 h⟩
   | true=>
    have c7:Hid (∀W,Bw c W->Ca 27 #[F0 b (.slice n o q) (.slice i j m),Sv gv] W (Rt (if zv=true then .tuple #[Sv cr,Iv 0] else .tuple #[.string ⟨#[]⟩,Iv 6]) W)):=HK.out rfl;clear HG HK;cases zv with
    | true=>
     go_wp2_with fail;refine J.mono ?_;clear J a0 a1 a2 a3 a4 a5;rintro e w6 ⟨rfl,h⟩;have b3:=Bj a7 h;obtain⟨c0,c1,c2,c3,c4,c5⟩:=(E.out.below (Bj a8 h) E.out.lt).six;have U:=c7.out w6 b3;have b6:=Bj b5 h;go_wp2_with fail;refine U.mono ?_;clear U;rintro e w7 ⟨rfl,b4⟩;go_wp2_with fail;go_ret;exact⟨by simp,Bj b6 b4⟩
    | false=>
     go_wp2_with fail;refine J.mono ?_;clear J a0 a1 a2 a3 a4 a5;rintro e w6 ⟨rfl,h⟩;have b3:=Bj a7 h;obtain⟨c0,c1,c2,c3,c4,c5⟩:=(E.out.below (Bj a8 h) E.out.lt).six;have U:=c7.out w6 b3;have b6:=Bj b5 h;go_wp2_with fail;refine U.mono ?_;clear U;rintro e w7 ⟨rfl,b4⟩;go_wp2_with fail;go_ret;exact⟨by simp,Bj b6 b4⟩
  ·have f1:¬((M:Int)=0):=by omega
   subst T;cases v0 with
   | none=>exact absurd (H.out.2 rfl) (by simp)
   | some ad=>
    cases Z with
    | some g1=>exact absurd (F.out.1 rfl) I
    | none=>
     clear R P H S Q F C E;go_wp2_with fail;go_ret;exact⟨by simp,X⟩
 ·have f1:¬((r2:Int)=0):=by omega
  cases v0 with
  | some ad=>exact absurd (H.out.1 rfl) T
  | none=>
   by_cases I:M=0
   ·subst I
    cases Z with
    | none=>exact absurd (F.out.2 rfl) (by simp)
    | some ad=>
     clear R P H S Q F C E;go_wp2_with fail;go_ret;exact⟨by simp[T],X⟩
   ·have g2:¬((M:Int)=0):=by omega
    cases Z with
    | some ad=>exact absurd (F.out.1 rfl) I
    | none=>
     clear R P H S Q F C E;go_wp2_with fail;go_ret;exact⟨by simp[T,I],X⟩
end Go.Proofs.YtfklinjaajafgaaGreatDoor
namespace Go.Proofs.YtfklinjaajafgaaGreatDoor
open Go.ChangeShapes Go.WideShapes Go.ChangeAt Go.RowKit
open Go.ChangeMaps (open_string shut_string)
theorem tQe (a b d:ByteArray)(w:World){c f g i:Addr}(hs:Sent w c f g i) :
  Calls Tryz.prog 8 #[.string a,.string b,.string d] w fun e k=>e=.returned (.bool true)/\Bw w k:=by
 by_cases h:1048576<a.size\/1048576<b.size\/1048576<d.size
 ·exact tQg a b d w h
 ·exact tQi a b d w (by omega) (by omega) (by omega) (fun W j z l=>j8 z c f W g i (by omega) (hs.below j))
theorem tQf (os:Os)(K:os.Started)(H:Type)(enc:TypeId × Value->H) :
  ReturnsInHanded {} Tryz.checked os 8 .any (fun w a=>(Rows.convertsSpec.pre enc Tryz.prog Tryz.f8 [] false w a/\laidMetH Tryz.prog laid4 w)/\sizedMet enc Tryz.prog Tryz.f8 (OpenSpec.ofChange Rows.convertsSpec) false w a)
   (Rows.convertsSpec.post enc Tryz.prog Tryz.f8 false true false false):=by
 refine returnsInHanded_of_change_and (C:=Tryz.checked) (X:=fun w _=>laidMetH Tryz.prog laid4 w) (fun _ _ _ F h=>h.of_heap F) own K (by kernel_rfl) Tryz.func8
  (ChangeSpec.witness_shaped (enc:=enc) (C:=Tryz.checked) (os:=os) (X:=fun w _=>laidMetH Tryz.prog laid4 w) false (World.doorLaid Tryz.prog 400 os) #[.string ByteArray.empty,.string ByteArray.empty,.string ByteArray.empty] 8 rfl (World.shaped_of_RefB (by kernel_rfl) (by kernel_rfl)) (by kernel_rfl) (by kernel_rfl) (by kernel_rfl) (aQx os _)) ?_
 intro W r a s Y P i f _ _ z _;have b:∀(j:Nat) t v,Tryz.f8.params[j]?=some t->a[j]?=some v->Value.okWide Tryz.prog W .any r t v:=i;have g:=f;obtain⟨p,a2,d,A,rfl,a0,a1⟩:=f;have c:DataW.TrodAll enc Tryz.prog W 0 (fun _=>true) true Tryz.f8.params.toList a.toList s p:=d;rw[Tryz.params8]at c b;obtain⟨k,a3,Q,T,p0,q0,Z,rfl,rfl,u,G⟩:=trodAll_cons c;obtain⟨l,a4,R,U,p1,q1,rfl,rfl,rfl,x,I⟩:=trodAll_cons G;obtain⟨m,a5,S,V,p2,q2,rfl,rfl,rfl,y,J⟩:=trodAll_cons I;obtain⟨rfl,rfl,rfl⟩:=trodAll_nil J;obtain rfl:a=#[k,l,m]:=by cases a;simp_all
 obtain⟨rfl,rfl⟩:=trodVars_none A;obtain⟨n,rfl,rfl,rfl,L⟩:=open_string Tryz.underlying9 (b 0 9 k rfl rfl) u;obtain⟨o,rfl,rfl,rfl,M⟩:=open_string Tryz.underlying9 (b 1 9 l rfl rfl) x;obtain⟨q,rfl,rfl,rfl,N⟩:=open_string Tryz.underlying9 (b 2 9 m rfl rfl) y;obtain⟨x0,x1,x2,x3,hs⟩:=aQ3 z;clear d i;simp only[List.append_nil]at g;refine(tQe n o q W hs).mono fun e O ⟨B,E⟩=>?_;subst B;refine⟨_,rfl,_,_,_,[],[],[],g,?_,?_,?_,E.frame _,fun h=>by cases h⟩
 ·exact trodAll_cons_mk (shut_bool Tryz.underlying4 _) trodAll_mk0
 ·exact trodAll_cons_mk (shut_string Tryz.underlying9 L) (trodAll_cons_mk (shut_string Tryz.underlying9 M) (trodAll_cons_mk (shut_string Tryz.underlying9 N) trodAll_mk0))
 ·rfl
theorem tQh:Rows.ConvertsSaid:=
 OpenClaim.holds_of_wide 8 Tryz.f8 rfl rfl rfl rfl rfl rfl rfl ⟨rfl,rfl,rfl,rfl,rfl⟩ rfl rfl rfl rfl rfl (by kernel_rfl) Tryz.func8 (by kernel_rfl)
  (of_decide_eq_true (by kernel_rfl)) (by unfold Func.isWrapper;first|(rw[if_pos (by decide +kernel)];kernel_rfl)|(rw[if_neg (by decide +kernel)];exact⟨rfl,rfl⟩))
  (fun b c H a _=>tQf b c H a)
theorem converts_holds:Rows.ConvertsCardSaid:=
 Claim7.holds_tied_plain_at .later [] [.sentinel,.sentinel,.sentinel,.sentinel] true Rows.convertsCard.stood.harness true
  tQh (fun _ h=>by cases h) (by kernel_rfl) (fun _ h=>by cases h) converts_row_tie rfl ⟨rfl,rfl⟩ (by kernel_rfl) rfl
  (fun f fn hf hfn=>by
   obtain rfl : f = 8 := Option.some.inj ((show Tryz.prog.funcNamed "lenses/lenseslaw.Converts" = some 8 by kernel_rfl).symm.trans hf) |>.symm
   obtain rfl:fn=Tryz.f8:=(Option.some.inj (Tryz.func8.symm.trans hfn)).symm;exact⟨by kernel_rfl,fun j t ht=>by
    rw[Tryz.params8]at ht;have hm:t∈[9,9,9]:=by simpa using Array.mem_of_getElem? ht
    have hall:([9,9,9].all fun u=>!Tryz.prog.wantsStandIn u)=true:=by kernel_rfl
    exact(show Tryz.prog.wantsStandIn t=false by simpa using List.all_eq_true.1 hall t hm)⟩) (by kernel_rfl)
end Go.Proofs.YtfklinjaajafgaaGreatDoor
