import Derived.Test.YtcggfnlejalppaaGreatDoorK60
import Derived.Test.YtcggfnlejalppaaGreatDoorK39
import Derived.Test.YtcggfnlejalppaaGreatDoorK04
set_option maxRecDepth 100000
set_option maxHeartbeats 4000000
namespace Go.Proofs.YtcggfnlejalppaaGreatDoor
open Go.ChangeShapes Go.WideShapes Go.ChangeAt Go.RowKit
open Go.ChangeMaps (open_string shut_string)
theorem compiles_long (s:ByteArray)(w:World)(_hs:s.size<=maxLen)(h:1048576<s.size) :
  Calls Tryz.prog 4 #[.string s] w fun e w'=>e=.returned (.bool true)/\Below w.heap.size w w':=by
 have hd:(1048576:Int)<(s.size:Int):=by omega
 go_enter Tryz.func4,Tryz.ntmps4;go_wp2_with fail;go_ret;exact⟨rfl,Below.refl _ _⟩
theorem compiles_short (s:ByteArray)(w:World)(hs:s.size<=1048576)(hC:Calls Tryz.prog 15 #[.string s] w (aQ1 s w)) :
  Calls Tryz.prog 4 #[.string s] w fun e w'=>e=.returned (.bool true)/\Below w.heap.size w w':=by
 have hd:¬(1048576:Int)<(s.size:Int):=by omega
 go_enter Tryz.func4,Tryz.ntmps4;go_wp2_with fail;refine hC.mono ?_;rintro e w1 ⟨v,r,rfl,hr,hr4,hv,hb1,_⟩;have HR:Hid (CompIs s.data.toList r):=hr;have HV:Hid (v.isSome=true↔r=0):=hv;clear hr hv hC;go_wp2_with fail;refine(mQj s w1).mono ?_;rintro e w2 ⟨k,p,ws,y1,y2,y3,x1,x2,x3,r2,rfl,hr2,hb2,_⟩;have hrr:r2=r:=hr2.one HR.out;subst hrr;have HE:Hid ((v.isSome==((r2:Int)==0))=true):=by
  show _=true;rw[beq_iff_eq,Bool.eq_iff_iff,HV.out,beq_iff_eq];omega
 clear hr2 HR HV;go_wp2_with fail;go_ret;refine⟨?_,Below.join (Below.join hb1 hb2) (A4 _ _)⟩;show Ending.returned (.bool (v.isSome==((r2:Int)==0)))=_;rw[HE.out]
theorem compiles_law (a:ByteArray)(w:World)(ha:a.size<=maxLen){a0 a1 a2 a3:Addr}(hs:Sent w a0 a1 a2 a3) :
  Calls Tryz.prog 4 #[.string a] w fun e w'=>e=.returned (.bool true)/\Below w.heap.size w w':=by
 by_cases h1:1048576<a.size
 ·exact compiles_long a w ha h1
 ·exact compiles_short a w (by omega) (oQ9 a (by omega) w a0 a1 a2 a3 hs)
theorem compiles_lifted (os:Os)(started:os.Started)(H:Type)(enc:TypeId × Value->H) :
  ReturnsInHanded {} Tryz.checked os 4 .any (fun w args=>(Rows.compilesSpec.pre enc Tryz.prog Tryz.f4 [] false w args/\laidMetH Tryz.prog laid4 w)/\sizedMet enc Tryz.prog Tryz.f4 (OpenSpec.ofChange Rows.compilesSpec) false w args)
   (Rows.compilesSpec.post enc Tryz.prog Tryz.f4 false true false false):=by
 refine returnsInHanded_of_change_and (C:=Tryz.checked) (X:=fun w _=>laidMetH Tryz.prog laid4 w) (fun _ _ _ hh h=>h.of_heap hh) own started (by kernel_rfl) Tryz.func4
  (ChangeSpec.witness_shaped (enc:=enc) (C:=Tryz.checked) (os:=os) (X:=fun w _=>laidMetH Tryz.prog laid4 w) false (World.doorLaid Tryz.prog 400 os) #[.string ByteArray.empty] 8 rfl (World.shaped_of_RefB (by kernel_rfl) (by kernel_rfl)) (by kernel_rfl) (by kernel_rfl) (by kernel_rfl) (uQq os _)) ?_
 intro W base args ds gs before hval0 hW _ _ hL _;have hval:∀(j:Nat) t v,Tryz.f4.params[j]?=some t->args[j]?=some v->Value.okWide Tryz.prog W .any base t v:=hval0;have hW':=hW;obtain⟨p,q,hA0,hV,rfl,hfz,hnd⟩:=hW;have hA:DataW.TrodAll enc Tryz.prog W 0 (fun _=>true) true Tryz.f4.params.toList args.toList ds p:=hA0;rw[Tryz.params4]at hA hval;obtain⟨v0,vs0,d0,ds0,p0,q0,hargs,rfl,rfl,h0,r0⟩:=trodAll_cons hA;obtain⟨rfl,rfl,rfl⟩:=trodAll_nil r0;obtain rfl:args=#[v0]:=by cases args;simp_all
 obtain⟨rfl,rfl⟩:=trodVars_none hV;obtain⟨a0,rfl,rfl,rfl,w0⟩:=open_string Tryz.underlying9 (hval 0 9 v0 rfl rfl) h0;obtain⟨x0,x1,x2,x3,hs⟩:=pQi hL;clear hA0 hval0;simp only[List.append_nil]at hW';refine(compiles_law a0 W w0 hs).mono fun e W' ⟨he,hg⟩=>?_;subst he;refine⟨_,rfl,_,_,_,[],[],[],hW',?_,?_,?_,hg.frame _,fun h=>by cases h⟩
 ·exact trodAll_cons_mk (shut_bool Tryz.underlying4 _) trodAll_mk0
 ·exact trodAll_cons_mk (shut_string Tryz.underlying9 w0) trodAll_mk0
 ·rfl
theorem compiles_saidof:Rows.CompilesSaid:=
 OpenClaim.holds_of_wide 4 Tryz.f4 rfl rfl rfl rfl rfl rfl rfl ⟨rfl,rfl,rfl,rfl,rfl⟩ rfl rfl rfl rfl rfl (by kernel_rfl) Tryz.func4 (by kernel_rfl)
  (of_decide_eq_true (by kernel_rfl)) (by unfold Func.isWrapper;first|(rw[if_pos (by decide +kernel)];kernel_rfl)|(rw[if_neg (by decide +kernel)];exact⟨rfl,rfl⟩))
  (fun os started H enc _=>compiles_lifted os started H enc)
theorem compiles_holds:Rows.CompilesCardSaid:=
 Claim7.holds_tied_plain_at .later [] [.sentinel,.sentinel,.sentinel,.sentinel] true Rows.compilesCard.stood.harness true
  compiles_saidof (fun _ h=>by cases h) (by kernel_rfl) (fun _ h=>by cases h) compiles_row_tie rfl ⟨rfl,rfl⟩ (by kernel_rfl) rfl
  (fun f fn hf hfn=>by
   obtain rfl : f = 4 := Option.some.inj ((show Tryz.prog.funcNamed "lenses/lenseslaw.Compiles" = some 4 by kernel_rfl).symm.trans hf) |>.symm
   obtain rfl:fn=Tryz.f4:=(Option.some.inj (Tryz.func4.symm.trans hfn)).symm;exact⟨by kernel_rfl,fun j t ht=>by
    rw[Tryz.params4]at ht;have hm:t∈[9]:=by simpa using Array.mem_of_getElem? ht
    have hall:([9].all fun u=>!Tryz.prog.wantsStandIn u)=true:=by kernel_rfl
    exact(show Tryz.prog.wantsStandIn t=false by simpa using List.all_eq_true.1 hall t hm)⟩) (by kernel_rfl)
end Go.Proofs.YtcggfnlejalppaaGreatDoor
