import Derived.Test.YtfklinjaajafgaaGreatDoorL1
import Derived.Test.YtfklinjaajafgaaGreatDoorK64
import Derived.Test.YtfklinjaajafgaaGreatDoorK60
import Derived.Test.YtfklinjaajafgaaGreatDoorK04
set_option maxRecDepth 100000
set_option maxHeartbeats 4000000
namespace Go.Proofs.YtfklinjaajafgaaGreatDoor
open Go.RowKit
variable (s v:ByteArray)(w:World)
theorem tQq (h:1048576<s.size\/1048576<v.size) :
  Calls Tryz.prog 6 #[.string s,.string v] w fun e b=>e=.returned (.bool true)/\Bw w b:=by
 by_cases c:1048576<s.size
 ·have a:(1048576:Int)<(s.size:Int):=by omega
  go_enter Tryz.func6,Tryz.ntmps6;go_wp2_with fail;go_ret;exact⟨rfl,Br⟩
 ·have a:¬(1048576:Int)<(s.size:Int):=by omega
  have d:(1048576:Int)<(v.size:Int):=by omega
  go_enter Tryz.func6,Tryz.ntmps6;go_wp2_with fail;go_ret;exact⟨rfl,Br⟩
theorem tQs (hs:s.size<=1048576)(hv:v.size<=1048576)(Q:Calls Tryz.prog 18 #[.string s] w (CompilePost s w)) :
  Calls Tryz.prog 6 #[.string s,.string v] w fun e w'=>e=.returned (.bool true)/\Bw w w':=by
 have hd:¬(1048576:Int)<(s.size:Int):=by omega
 have b4:¬(1048576:Int)<(v.size:Int):=by omega
 go_enter Tryz.func6,Tryz.ntmps6;go_wp2_with fail;refine Q.mono ?_;rintro e m ⟨G,r,rfl,hr,b5,a8,y,a6⟩;have I:Hid (CompIs s.data.toList r):=hr;have u:Hid (G.isSome=true↔r=0):=a8;have t:Hid (r=0->∃l L p,G=some ⟨L,0,none⟩/\E6 s.data.toList=some l/\Ls.OkL 120 l/\cn l<=30000/\Ls.eX7 l<=24/\w.heap.size<=L/\Blk m L #[Pt p] 85/\PartV m (B8 w m) p l):=a6;clear hr a8 Q a6;go_wp2_with fail;refine(bQz s m).mono ?_;rintro e b ⟨k,p,ws,g,h,i,c,d,f,o,rfl,a7,z,Z⟩;have b1:o=r:=a7.one I.out;subst b1;have q:Hid (o=0->∃l,E6 s.data.toList=some l/\l.kind=k/\Ls.eX5 l.p=p/\l.w=ws/\NV b (B8 m b) l (.slice g h i) (.slice c d f)):=Z;clear a7 I Z
 by_cases K:o=0
 ·subst K
  obtain⟨l,L,p0,rfl,M,j,N,x,h5,O,P⟩:=t.out rfl;obtain⟨a,k1,rfl,rfl,rfl,k5⟩:=q.out rfl;obtain⟨rfl,S⟩:=gQv y M k1 j N x O P z;have b0:a.kind=a.kind:=rfl;have A:=A5 b (B7 a.kind (Ls.eX5 a.p) a.w (.slice g h i) (.slice c d f));have V:Blk (b.alloc (B7 a.kind (Ls.eX5 a.p) a.w (.slice g h i) (.slice c d f))) b.heap.size #[Iv a.kind,Iv (Ls.eX5 a.p).kind,.string ⟨(Ls.eX5 a.p).signs.toArray⟩,.slice g h i,Sv a.w,.slice c d f] 37:=Blk.new b _ _;have R:=eQj v _ L a hv _ p0 (S.below A);have F:=aQk a 120 j (by omega);have T:Hid (∀W,Bw b W->Ca 27 #[F0 a (.slice g h i) (.slice c d f),.string v] W (Rt (if B6 (Ls.eX6 a) v.data.toList=true then .tuple #[Sv (A8 a v.data.toList),Iv 0] else .tuple #[.string ⟨#[]⟩,Iv 6]) W)):=fun W U=>
   jQ1 v _ W _ (B8 m b) a j (G9 a j F) (aQm a j F (j9 j x (by omega))) hv (fun k E=>Ll E.2 U.size) (k5.below U (fun k E=>E.2) (fun _ a9=>a9))
  have H:Hid (Bw b (b.alloc (B7 a.kind (Ls.eX5 a.p) a.w (.slice g h i) (.slice c d f)))):=A;have J:Hid (Blk (b.alloc (B7 a.kind (Ls.eX5 a.p) a.w (.slice g h i) (.slice c d f))) b.heap.size #[Iv a.kind,Iv (Ls.eX5 a.p).kind,.string ⟨(Ls.eX5 a.p).signs.toArray⟩,.slice g h i,Sv a.w,.slice c d f] 37):=V;clear t q u k1 k5 M j N x h5 O P S F A V b0;generalize A8 a v.data.toList=cr at *;generalize B6 (Ls.eX6 a) v.data.toList=b2 at *;go_wp2_with fail;refine R.mono ?_;clear R;generalize b.alloc (B7 a.kind (Ls.eX5 a.p) a.w (.slice g h i) (.slice c d f))=W3 at *;rintro e w4 ⟨rfl,B⟩;have X:=J.out.below B J.out.lt;obtain⟨a0,a1,a2,a3,a4,a5⟩:=X.six;have Y:=Bj (Bj y z) (Bj H.out B);have n:=T.out w4 (Bj H.out B);clear X T;cases b2 with
  | true=>
   go_wp2_with fail;refine n.mono ?_;clear n;rintro e w5 ⟨rfl,C⟩;go_wp2_with fail;go_ret;exact⟨by simp,Bj Y C⟩
  | false=>
   go_wp2_with fail;refine n.mono ?_;clear n;rintro e w5 ⟨rfl,C⟩;go_wp2_with fail;go_ret;exact⟨by simp,Bj Y C⟩
 ·have b3:¬((o:Int)=0):=by omega
  cases G with
  | some ad=>exact absurd (u.out.1 rfl) K
  | none=>
   clear t q u;go_wp2_with fail;go_ret;exact⟨by simp,Bj (Bj y z) (A5 _ _)⟩
end Go.Proofs.YtfklinjaajafgaaGreatDoor
namespace Go.Proofs.YtfklinjaajafgaaGreatDoor
open Go.ChangeShapes Go.WideShapes Go.ChangeAt Go.RowKit
open Go.ChangeMaps (open_string shut_string)
theorem tQo (a b:ByteArray)(w:World){c d f g:Addr}(hs:Sent w c d f g) :
  Calls Tryz.prog 6 #[.string a,.string b] w fun e i=>e=.returned (.bool true)/\Bw w i:=by
 by_cases h:1048576<a.size\/1048576<b.size
 ·exact tQq a b w h
 ·exact tQs a b w (by omega) (by omega) (j8 a c d w f g (by omega) hs)
theorem tQp (os:Os)(G:os.Started)(H:Type)(enc:TypeId × Value->H) :
  ReturnsInHanded {} Tryz.checked os 6 .any (fun w a=>(Rows.createsSpec.pre enc Tryz.prog Tryz.f6 [] false w a/\laidMetH Tryz.prog laid4 w)/\sizedMet enc Tryz.prog Tryz.f6 (OpenSpec.ofChange Rows.createsSpec) false w a)
   (Rows.createsSpec.post enc Tryz.prog Tryz.f6 false true false false):=by
 refine returnsInHanded_of_change_and (C:=Tryz.checked) (X:=fun w _=>laidMetH Tryz.prog laid4 w) (fun _ _ _ B h=>h.of_heap B) own G (by kernel_rfl) Tryz.func6
  (ChangeSpec.witness_shaped (enc:=enc) (C:=Tryz.checked) (os:=os) (X:=fun w _=>laidMetH Tryz.prog laid4 w) false (World.doorLaid Tryz.prog 400 os) #[.string ByteArray.empty,.string ByteArray.empty] 8 rfl (World.shaped_of_RefB (by kernel_rfl) (by kernel_rfl)) (by kernel_rfl) (by kernel_rfl) (by kernel_rfl) (aQx os _)) ?_
 intro W o a r Q L i f _ _ x _;have b:∀(j:Nat) t v,Tryz.f6.params[j]?=some t->a[j]?=some v->Value.okWide Tryz.prog W .any o t v:=i;have g:=f;obtain⟨p,q,d,y,rfl,S,T⟩:=f;have c:DataW.TrodAll enc Tryz.prog W 0 (fun _=>true) true Tryz.f6.params.toList a.toList r p:=d;rw[Tryz.params6]at c b;obtain⟨k,a0,M,O,U,Y,R,rfl,rfl,s,E⟩:=trodAll_cons c;obtain⟨l,a1,N,P,V,Z,rfl,rfl,rfl,u,F⟩:=trodAll_cons E;obtain⟨rfl,rfl,rfl⟩:=trodAll_nil F;obtain rfl:a=#[k,l]:=by cases a;simp_all
 obtain⟨rfl,rfl⟩:=trodVars_none y;obtain⟨m,rfl,rfl,rfl,I⟩:=open_string Tryz.underlying9 (b 0 9 k rfl rfl) s;obtain⟨n,rfl,rfl,rfl,J⟩:=open_string Tryz.underlying9 (b 1 9 l rfl rfl) u;obtain⟨x0,x1,x2,x3,hs⟩:=aQ3 x;clear d i;simp only[List.append_nil]at g;refine(tQo m n W hs).mono fun e K ⟨z,A⟩=>?_;subst z;refine⟨_,rfl,_,_,_,[],[],[],g,?_,?_,?_,A.frame _,fun h=>by cases h⟩
 ·exact trodAll_cons_mk (shut_bool Tryz.underlying4 _) trodAll_mk0
 ·exact trodAll_cons_mk (shut_string Tryz.underlying9 I) (trodAll_cons_mk (shut_string Tryz.underlying9 J) trodAll_mk0)
 ·rfl
theorem tQr:Rows.CreatesSaid:=
 OpenClaim.holds_of_wide 6 Tryz.f6 rfl rfl rfl rfl rfl rfl rfl ⟨rfl,rfl,rfl,rfl,rfl⟩ rfl rfl rfl rfl rfl (by kernel_rfl) Tryz.func6 (by kernel_rfl)
  (of_decide_eq_true (by kernel_rfl)) (by unfold Func.isWrapper;first|(rw[if_pos (by decide +kernel)];kernel_rfl)|(rw[if_neg (by decide +kernel)];exact⟨rfl,rfl⟩))
  (fun b c H a _=>tQp b c H a)
theorem creates_holds:Rows.CreatesCardSaid:=
 Claim7.holds_tied_plain_at .later [] [.sentinel,.sentinel,.sentinel,.sentinel] true Rows.createsCard.stood.harness true
  tQr (fun _ h=>by cases h) (by kernel_rfl) (fun _ h=>by cases h) creates_row_tie rfl ⟨rfl,rfl⟩ (by kernel_rfl) rfl
  (fun f fn hf hfn=>by
   obtain rfl : f = 6 := Option.some.inj ((show Tryz.prog.funcNamed "lenses/lenseslaw.Creates" = some 6 by kernel_rfl).symm.trans hf) |>.symm
   obtain rfl:fn=Tryz.f6:=(Option.some.inj (Tryz.func6.symm.trans hfn)).symm;exact⟨by kernel_rfl,fun j t ht=>by
    rw[Tryz.params6]at ht;have hm:t∈[9,9]:=by simpa using Array.mem_of_getElem? ht
    have hall:([9,9].all fun u=>!Tryz.prog.wantsStandIn u)=true:=by kernel_rfl
    exact(show Tryz.prog.wantsStandIn t=false by simpa using List.all_eq_true.1 hall t hm)⟩) (by kernel_rfl)
end Go.Proofs.YtfklinjaajafgaaGreatDoor
