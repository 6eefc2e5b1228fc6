import Derived.Test.YtfklinjaajafgaaGreatDoorK60
import Derived.Test.YtfklinjaajafgaaGreatDoorK39
import Derived.Test.YtfklinjaajafgaaGreatDoorK04
set_option maxRecDepth 100000
set_option maxHeartbeats 4000000
namespace Go.Proofs.YtfklinjaajafgaaGreatDoor
open Go.ChangeShapes Go.WideShapes Go.ChangeAt Go.RowKit
open Go.ChangeMaps (open_string shut_string)
variable (s:ByteArray)(w:World)
theorem tQb (_hs:s.size<=maxLen)(h:1048576<s.size) :
  Calls Tryz.prog 4 #[.string s] w fun e a=>e=.returned (.bool true)/\Bw w a:=by
 have b:(1048576:Int)<(s.size:Int):=by omega
 go_enter Tryz.func4,Tryz.ntmps4;go_wp2_with fail;go_ret;exact⟨rfl,Br⟩
theorem tQd (hs:s.size<=1048576)(d:Calls Tryz.prog 18 #[.string s] w (CompilePost s w)) :
  Calls Tryz.prog 4 #[.string s] w fun e n=>e=.returned (.bool true)/\Bw w n:=by
 have q:¬(1048576:Int)<(s.size:Int):=by omega
 go_enter Tryz.func4,Tryz.ntmps4;go_wp2_with fail;refine d.mono ?_;rintro e o ⟨v,r,rfl,f,t,h,j,_⟩;have b:Hid (CompIs s.data.toList r):=f;have c:Hid (v.isSome=true↔r=0):=h;clear f h d;go_wp2_with fail;refine(bQz s o).mono ?_;rintro e u ⟨k,p,x,B,C,E,y,z,A,a,rfl,g,l,_⟩;have m:a=r:=g.one b.out;subst m;have i:Hid ((v.isSome==((a:Int)==0))=true):=by
  show _=true;rw[beq_iff_eq,Bool.eq_iff_iff,c.out,beq_iff_eq];omega
 clear g b c;go_wp2_with fail;go_ret;refine⟨?_,Bj (Bj j l) (A5 _ _)⟩;show Ending.returned (.bool (v.isSome==((a:Int)==0)))=_;rw[i.out]
theorem sQ9 (a:ByteArray)(ha:a.size<=maxLen){b c d f:Addr}(hs:Sent w b c d f) :
  Calls Tryz.prog 4 #[.string a] w fun e h=>e=.returned (.bool true)/\Bw w h:=by
 by_cases g:1048576<a.size
 ·exact tQb a w ha g
 ·exact tQd a w (by omega) (j8 a b c w d f (by omega) hs)
theorem tQa (os:Os)(B:os.Started)(H:Type)(enc:TypeId × Value->H) :
  ReturnsInHanded {} Tryz.checked os 4 .any (fun w a=>(Rows.compilesSpec.pre enc Tryz.prog Tryz.f4 [] false w a/\laidMetH Tryz.prog laid4 w)/\sizedMet enc Tryz.prog Tryz.f4 (OpenSpec.ofChange Rows.compilesSpec) false w a)
   (Rows.compilesSpec.post enc Tryz.prog Tryz.f4 false true false false):=by
 refine returnsInHanded_of_change_and (C:=Tryz.checked) (X:=fun w _=>laidMetH Tryz.prog laid4 w) (fun _ _ _ z h=>h.of_heap z) own B (by kernel_rfl) Tryz.func4
  (ChangeSpec.witness_shaped (enc:=enc) (C:=Tryz.checked) (os:=os) (X:=fun w _=>laidMetH Tryz.prog laid4 w) false (World.doorLaid Tryz.prog 400 os) #[.string ByteArray.empty] 8 rfl (World.shaped_of_RefB (by kernel_rfl) (by kernel_rfl)) (by kernel_rfl) (by kernel_rfl) (by kernel_rfl) (aQx os _)) ?_
 intro W n a o J F i d _ _ s _;have g:∀(j:Nat) t v,Tryz.f4.params[j]?=some t->a[j]?=some v->Value.okWide Tryz.prog W .any n t v:=i;have f:=d;obtain⟨p,q,c,u,rfl,L,M⟩:=d;have b:DataW.TrodAll enc Tryz.prog W 0 (fun _=>true) true Tryz.f4.params.toList a.toList o p:=c;rw[Tryz.params4]at b g;obtain⟨k,P,G,I,N,O,K,rfl,rfl,r,A⟩:=trodAll_cons b;obtain⟨rfl,rfl,rfl⟩:=trodAll_nil A;obtain rfl:a=#[k]:=by cases a;simp_all
 obtain⟨rfl,rfl⟩:=trodVars_none u;obtain⟨m,rfl,rfl,rfl,l⟩:=open_string Tryz.underlying9 (g 0 9 k rfl rfl) r;obtain⟨Q,R,S,T,hs⟩:=aQ3 s;clear c i;simp only[List.append_nil]at f;refine(sQ9 W m l hs).mono fun e E ⟨x,y⟩=>?_;subst x;refine⟨_,rfl,_,_,_,[],[],[],f,?_,?_,?_,y.frame _,fun h=>by cases h⟩
 ·exact trodAll_cons_mk (shut_bool Tryz.underlying4 _) trodAll_mk0
 ·exact trodAll_cons_mk (shut_string Tryz.underlying9 l) trodAll_mk0
 ·rfl
theorem tQc:Rows.CompilesSaid:=
 OpenClaim.holds_of_wide 4 Tryz.f4 rfl rfl rfl rfl rfl rfl rfl ⟨rfl,rfl,rfl,rfl,rfl⟩ rfl rfl rfl rfl rfl (by kernel_rfl) Tryz.func4 (by kernel_rfl)
  (of_decide_eq_true (by kernel_rfl)) (by unfold Func.isWrapper;first|(rw[if_pos (by decide +kernel)];kernel_rfl)|(rw[if_neg (by decide +kernel)];exact⟨rfl,rfl⟩))
  (fun b c H a _=>tQa b c H a)
theorem compiles_holds:Rows.CompilesCardSaid:=
 Claim7.holds_tied_plain_at .later [] [.sentinel,.sentinel,.sentinel,.sentinel] true Rows.compilesCard.stood.harness true
  tQc (fun _ h=>by cases h) (by kernel_rfl) (fun _ h=>by cases h) compiles_row_tie rfl ⟨rfl,rfl⟩ (by kernel_rfl) rfl
  (fun f fn hf hfn=>by
   obtain rfl : f = 4 := Option.some.inj ((show Tryz.prog.funcNamed "lenses/lenseslaw.Compiles" = some 4 by kernel_rfl).symm.trans hf) |>.symm
   obtain rfl:fn=Tryz.f4:=(Option.some.inj (Tryz.func4.symm.trans hfn)).symm;exact⟨by kernel_rfl,fun j t ht=>by
    rw[Tryz.params4]at ht;have hm:t∈[9]:=by simpa using Array.mem_of_getElem? ht
    have hall:([9].all fun u=>!Tryz.prog.wantsStandIn u)=true:=by kernel_rfl
    exact(show Tryz.prog.wantsStandIn t=false by simpa using List.all_eq_true.1 hall t hm)⟩) (by kernel_rfl)
end Go.Proofs.YtfklinjaajafgaaGreatDoor
