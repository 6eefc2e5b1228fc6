import Derived.Test.YtfklinjaajafgaaGreatDoorK65
import Derived.Test.YtfklinjaajafgaaGreatDoorK60
set_option maxRecDepth 100000
set_option maxHeartbeats 4000000
namespace Go.Proofs.YtfklinjaajafgaaGreatDoor
open Ls
open Go.RowKit
variable (s v u:By)(w:World)
theorem aXv (h:1048576<s.size\/1048576<v.size\/1048576<u.size) :
  Calls Tryz.prog 7 #[.string s,.string v,.string u] w fun e c=>e=.returned (.bool true)/\Bw w c:=by
 by_cases d:1048576<s.size
 ·have a:(1048576:Int)<(s.size:Int):=by omega
  go_enter Tryz.func7,Tryz.ntmps7;go_wp2_with fail;go_ret;exact⟨rfl,Br⟩
 ·have a:¬(1048576:Int)<(s.size:Int):=by omega
  by_cases f:1048576<v.size
  ·have b:(1048576:Int)<(v.size:Int):=by omega
   go_enter Tryz.func7,Tryz.ntmps7;go_wp2_with fail;go_ret;exact⟨rfl,Br⟩
  ·have b:¬(1048576:Int)<(v.size:Int):=by omega
   have g:(1048576:Int)<(u.size:Int):=by omega
   go_enter Tryz.func7,Tryz.ntmps7;go_wp2_with fail;go_ret;exact⟨rfl,Br⟩
theorem aXy (hs:s.size<=1048576)(hv:v.size<=1048576)(hu:u.size<=1048576)(T:Calls Tryz.prog 18 #[.string s] w (CompilePost s w)) :
  Calls Tryz.prog 7 #[.string s,.string v,.string u] w fun e w'=>e=.returned (.bool true)/\Bw w w':=by
 have hd:¬(1048576:Int)<(s.size:Int):=by omega
 have b5:¬(1048576:Int)<(v.size:Int):=by omega
 have b6:¬(1048576:Int)<(u.size:Int):=by omega
 go_enter Tryz.func7,Tryz.ntmps7;go_wp2_with fail;refine T.mono ?_;rintro e n ⟨J,r,rfl,hr,b7,a9,B,a7⟩;have M:Hid (CompIs s.data.toList r):=hr;have y:Hid (J.isSome=true↔r=0):=a9;have x:Hid (r=0->∃l L p,J=some ⟨L,0,none⟩/\E6 s.data.toList=some l/\OkL 120 l/\cn l<=30000/\eX7 l<=24/\w.heap.size<=L/\Blk n L #[Pt p] 85/\PartV n (B8 w n) p l):=a7;clear hr a9 T a7;go_wp2_with fail;refine(bQz s n).mono ?_;rintro e b ⟨k,p,ws,g,h,i,c,d,f,q,rfl,a8,C,a6⟩;have b2:q=r:=a8.one M.out;subst b2;have t:Hid (q=0->∃l,E6 s.data.toList=some l/\l.kind=k/\eX5 l.p=p/\l.w=ws/\NV b (B8 n b) l (.slice g h i) (.slice c d f)):=a6;clear a8 M a6
 by_cases O:q=0
 ·subst O
  obtain⟨l,L,p0,rfl,P,j,Q,z,h5,R,S⟩:=x.out rfl;obtain⟨a,k1,rfl,rfl,rfl,k5⟩:=t.out rfl;obtain⟨rfl,U⟩:=gQv B P k1 j Q z R S C;have b1:a.kind=a.kind:=rfl;have E:=A5 b (B7 a.kind (eX5 a.p) a.w (.slice g h i) (.slice c d f));have Y:Blk (b.alloc (B7 a.kind (eX5 a.p) a.w (.slice g h i) (.slice c d f))) b.heap.size #[Iv a.kind,Iv (eX5 a.p).kind,.string ⟨(eX5 a.p).signs.toArray⟩,.slice g h i,Sv a.w,.slice c d f] 37:=Blk.new b _ _;have A:=cQf u _ L a v hv hu _ p0 (U.below E);have I:=aQk a 120 j (by omega);have V:Hid (∀W,Bw b W->Ca 29 #[F0 a (.slice g h i) (.slice c d f),.string v,.string u] W (Rt (if B6 (eX6 a) v.data.toList=true then (if B6 (eX8 a) u.data.toList=true then .tuple #[Sv (A9 a v.data.toList u.data.toList),Iv 0] else .tuple #[.string ⟨#[]⟩,Iv 5]) else .tuple #[.string ⟨#[]⟩,Iv 6]) W)):=fun W X=>
   aXw v u _ _ W (B8 n b) a j (G6 a j) (G9 a j I) (dQ1 a j I (j9 j z (by omega))) hv hu (fun k H=>Ll H.2 X.size) (k5.below X (fun k H=>H.2) (fun _ b0=>b0))
  have K:Hid (Bw b (b.alloc (B7 a.kind (eX5 a.p) a.w (.slice g h i) (.slice c d f)))):=E;have N:Hid (Blk (b.alloc (B7 a.kind (eX5 a.p) a.w (.slice g h i) (.slice c d f))) b.heap.size #[Iv a.kind,Iv (eX5 a.p).kind,.string ⟨(eX5 a.p).signs.toArray⟩,.slice g h i,Sv a.w,.slice c d f] 37):=Y;clear x t y k1 k5 P j Q z h5 R S U I E Y b1;unfold bQk at A;generalize A9 a v.data.toList u.data.toList=cr at *;generalize B6 (eX6 a) v.data.toList=b3 at *;generalize B6 (eX8 a) u.data.toList=zs at *;go_wp2_with fail;refine A.mono ?_;clear A;generalize b.alloc (B7 a.kind (eX5 a.p) a.w (.slice g h i) (.slice c d f))=W3 at *;rintro e w4 ⟨rfl,F⟩;have Z:=N.out.below F N.out.lt;obtain⟨a0,a1,a2,a3,a4,a5⟩:=Z.six;have G:=Bj (Bj B C) (Bj K.out F);have m:=V.out w4 (Bj K.out F);clear Z V;cases b3 with
  | true=>
   cases zs with
   | true=>
    go_wp2_with fail;refine m.mono ?_;clear m;rintro e w5 ⟨rfl,o⟩;go_wp2_with fail;go_ret;exact⟨by simp,Bj G o⟩
   | false=>
    go_wp2_with fail;refine m.mono ?_;clear m;rintro e w5 ⟨rfl,o⟩;go_wp2_with fail;go_ret;exact⟨by simp,Bj G o⟩
  | false=>
   go_wp2_with fail;refine m.mono ?_;clear m;rintro e w5 ⟨rfl,o⟩;go_wp2_with fail;go_ret;exact⟨by simp,Bj G o⟩
 ·have b4:¬((q:Int)=0):=by omega
  cases J with
  | some ad=>exact absurd (y.out.1 rfl) O
  | none=>
   clear x t y;go_wp2_with fail;go_ret;exact⟨by simp,Bj (Bj B C) (A5 _ _)⟩
end Go.Proofs.YtfklinjaajafgaaGreatDoor
namespace Go.Proofs.YtfklinjaajafgaaGreatDoor
open Ls
open Go.ChangeShapes Go.WideShapes Go.ChangeAt Go.RowKit
open Go.ChangeMaps (open_string shut_string)
theorem aXt (a b d:By)(w:World){c f g i:Addr}(hs:Sent w c f g i) :
  Calls Tryz.prog 7 #[.string a,.string b,.string d] w fun e j=>e=.returned (.bool true)/\Bw w j:=by
 by_cases h:1048576<a.size\/1048576<b.size\/1048576<d.size
 ·exact aXv a b d w h
 ·exact aXy a b d w (by omega) (by omega) (by omega) (j8 a c f w g i (by omega) hs)
theorem aXu (os:Os)(K:os.Started)(H:Type)(enc:TypeId × Value->H) :
  ReturnsInHanded {} Tryz.checked os 7 .any (fun w a=>(Rows.putsSpec.pre enc Tryz.prog Tryz.f7 [] false w a/\laidMetH Tryz.prog laid4 w)/\sizedMet enc Tryz.prog Tryz.f7 (OpenSpec.ofChange Rows.putsSpec) false w a)
   (Rows.putsSpec.post enc Tryz.prog Tryz.f7 false true false false):=by
 refine returnsInHanded_of_change_and (C:=Tryz.checked) (X:=fun w _=>laidMetH Tryz.prog laid4 w) (fun _ _ _ F h=>h.of_heap F) own K (by kernel_rfl) Tryz.func7
  (ChangeSpec.witness_shaped (enc:=enc) (C:=Tryz.checked) (os:=os) (X:=fun w _=>laidMetH Tryz.prog laid4 w) false (World.doorLaid Tryz.prog 400 os) #[.string ByteArray.empty,.string ByteArray.empty,.string ByteArray.empty] 8 rfl (World.shaped_of_RefB (by kernel_rfl) (by kernel_rfl)) (by kernel_rfl) (by kernel_rfl) (by kernel_rfl) (aQx os _)) ?_
 intro W r a s Y P i f _ _ z _;have b:∀(j:Nat) t v,Tryz.f7.params[j]?=some t->a[j]?=some v->Value.okWide Tryz.prog W .any r t v:=i;have g:=f;obtain⟨p,a2,d,A,rfl,a0,a1⟩:=f;have c:DataW.TrodAll enc Tryz.prog W 0 (fun _=>true) true Tryz.f7.params.toList a.toList s p:=d;rw[Tryz.params7]at c b;obtain⟨k,a3,Q,T,p0,q0,Z,rfl,rfl,u,G⟩:=trodAll_cons c;obtain⟨l,a4,R,U,p1,q1,rfl,rfl,rfl,x,I⟩:=trodAll_cons G;obtain⟨m,a5,S,V,p2,q2,rfl,rfl,rfl,y,J⟩:=trodAll_cons I;obtain⟨rfl,rfl,rfl⟩:=trodAll_nil J;obtain rfl:a=#[k,l,m]:=by cases a;simp_all
 obtain⟨rfl,rfl⟩:=trodVars_none A;obtain⟨n,rfl,rfl,rfl,L⟩:=open_string Tryz.underlying9 (b 0 9 k rfl rfl) u;obtain⟨o,rfl,rfl,rfl,M⟩:=open_string Tryz.underlying9 (b 1 9 l rfl rfl) x;obtain⟨q,rfl,rfl,rfl,N⟩:=open_string Tryz.underlying9 (b 2 9 m rfl rfl) y;obtain⟨x0,x1,x2,x3,hs⟩:=aQ3 z;clear d i;simp only[List.append_nil]at g;refine(aXt n o q W hs).mono fun e O ⟨B,E⟩=>?_;subst B;refine⟨_,rfl,_,_,_,[],[],[],g,?_,?_,?_,E.frame _,fun h=>by cases h⟩
 ·exact trodAll_cons_mk (shut_bool Tryz.underlying4 _) trodAll_mk0
 ·exact trodAll_cons_mk (shut_string Tryz.underlying9 L) (trodAll_cons_mk (shut_string Tryz.underlying9 M) (trodAll_cons_mk (shut_string Tryz.underlying9 N) trodAll_mk0))
 ·rfl
theorem aXx:Rows.PutsSaid:=
 OpenClaim.holds_of_wide 7 Tryz.f7 rfl rfl rfl rfl rfl rfl rfl ⟨rfl,rfl,rfl,rfl,rfl⟩ rfl rfl rfl rfl rfl (by kernel_rfl) Tryz.func7 (by kernel_rfl)
  (of_decide_eq_true (by kernel_rfl)) (by unfold Func.isWrapper;first|(rw[if_pos (by decide +kernel)];kernel_rfl)|(rw[if_neg (by decide +kernel)];exact⟨rfl,rfl⟩))
  (fun b c H a _=>aXu b c H a)
theorem puts_holds:Rows.PutsCardSaid:=
 Claim7.holds_tied_plain_at .later [] [.sentinel,.sentinel,.sentinel,.sentinel] true Rows.putsCard.stood.harness true
  aXx (fun _ h=>by cases h) (by kernel_rfl) (fun _ h=>by cases h) puts_row_tie rfl ⟨rfl,rfl⟩ (by kernel_rfl) rfl
  (fun f fn hf hfn=>by
   obtain rfl : f = 7 := Option.some.inj ((show Tryz.prog.funcNamed "lenses/lenseslaw.Puts" = some 7 by kernel_rfl).symm.trans hf) |>.symm
   obtain rfl:fn=Tryz.f7:=(Option.some.inj (Tryz.func7.symm.trans hfn)).symm;exact⟨by kernel_rfl,fun j t ht=>by
    rw[Tryz.params7]at ht;have hm:t∈[9,9,9]:=by simpa using Array.mem_of_getElem? ht
    have hall:([9,9,9].all fun u=>!Tryz.prog.wantsStandIn u)=true:=by kernel_rfl
    exact(show Tryz.prog.wantsStandIn t=false by simpa using List.all_eq_true.1 hall t hm)⟩) (by kernel_rfl)
end Go.Proofs.YtfklinjaajafgaaGreatDoor
