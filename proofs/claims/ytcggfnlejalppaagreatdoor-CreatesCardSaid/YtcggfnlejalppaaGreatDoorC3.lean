import Derived.Test.YtcggfnlejalppaaGreatDoorK54
import Derived.Test.YtcggfnlejalppaaGreatDoorK39
import Derived.Test.YtcggfnlejalppaaGreatDoorC2
import Derived.Test.YtcggfnlejalppaaGreatDoorK60
import Derived.Test.YtcggfnlejalppaaGreatDoorK04
set_option maxRecDepth 100000
set_option maxHeartbeats 4000000
namespace Go.Proofs.YtcggfnlejalppaaGreatDoor
open Go.RowKit
theorem create_said (s:ByteArray)(hs:s.size<=1048576)(w:World)(G:Nat->Prop)(L p:Nat)(l:Ls.Ln)(h:LensV w G L p l) :
  Calls Tryz.prog 23 #[.pointer (some ⟨L,0,none⟩),.string s] w fun e w'=>e=.returned (if C9 (Ls.wQw l) s.data.toList=true then .tuple #[A6 (C5 l s.data.toList),.int .i64 0] else .tuple #[.string ⟨#[]⟩,.int .i64 6])/\Below w.heap.size w w':=by
 have hI:=jQj s hs w G L p l h;have hlen:s.data.toList.length=s.size:=by simp
 obtain⟨t1,y1,n1,t2,y2,n2,g,c,_,h2,h3,h4,h5,h6⟩:=h.part;have HIN:Hid (C9 (Ls.wQw l) s.data.toList=true->s.data.toList.length<=60/\Ls.inL (Ls.wQu (Ls.dV l)) s.data.toList):=fun ho=>by
  unfold C9 at ho;rw[Bool.and_eq_true,decide_eq_true_eq]at ho;exact⟨ho.2,(Ls.yQb l h.ok _).2 ((Ls.zQx _ (Ls.OkL.view _ h.ok).ok _).1 ho.1)⟩
 have hgx:=cQa h.ok h.size (by have:=h.few;omega);obtain⟨f,caps,rfl,hcf,hF⟩:=Turns.at h.old h6;have HF:Hid (∀W,Below w.heap.size w W->C9 (Ls.wQw l) s.data.toList=true->Calls Tryz.prog f (#[.string s]++caps) W fun e w'=>e=.returned (A6 (C5 l s.data.toList))/\Below W.heap.size W w'):=fun W hW ho=>by
  have:=hF W hW s.data.toList (HIN.out ho).1 (HIN.out ho).2;unfold A6 at this;rw[rQ1]at this;exact this
 have HL:Hid (C9 (Ls.wQw l) s.data.toList=true->(C5 l s.data.toList).length<=140737488355328):=fun ho=>by
  have h1:=N0 l s.data.toList;have h2:(s.data.toList.length+1)*gx l<=61*gx l:=Nat.mul_le_mul_right _ (by have:=(HIN.out ho).1;omega);omega
 have HS:Hid (∀W:World,Below w.heap.size w W->W.cell? ⟨L,0,none⟩=some (.pointer (some ⟨p,0,none⟩))/\W.cell? ⟨p,5,none⟩=some (.func (.func f) #[] caps)):=fun W hW=>⟨(h.blk.below hW h.blk.lt).cell 0,(h2.below hW h2.lt).cell 5⟩;clear h h2 h3 h4 h5 h6 hF hgx;generalize C5 l s.data.toList=r at *;generalize C9 (Ls.wQw l) s.data.toList=v at *;cases v with
 | false=>
  go_enter Tryz.func23,Tryz.ntmps23;go_wp2_with fail;refine hI.mono ?_;clear hI;rintro e w1 ⟨rfl,hb1⟩;go_wp2_with fail;go_ret2;exact⟨rfl,hb1⟩
 | true=>
  have HC:=HL.out rfl;have HF2:Hid (∀W,Below w.heap.size w W->Calls Tryz.prog f (#[.string s]++caps) W fun e w'=>e=.returned (A6 r)/\Below W.heap.size W w'):=fun W hW=>HF.out W hW rfl;clear HF HL HIN;go_enter Tryz.func23,Tryz.ntmps23;go_wp2_with fail;refine hI.mono ?_;clear hI;rintro e w1 ⟨rfl,hb1⟩;obtain⟨c0,c1⟩:=HS.out w1 hb1;have hG:=HF2.out w1 hb1;go_wp2_with fail;refine hG.mono ?_;clear hG;rintro e w2 ⟨rfl,hb2⟩;go_wp2_with fail;refine(jQi r HC w2).mono ?_;rintro e w3 ⟨rfl,hb3⟩;go_wp2_with fail;go_ret2;exact⟨rfl,Below.join hb1 (Below.join hb2 hb3)⟩
theorem qQq {s:ByteArray}{w w1 w2:World}{l l':Ls.Ln}{L p:Nat}(_hb1:Below w.heap.size w w1)(h1:F9 s.data.toList=some l)(h2:F9 s.data.toList=some l')(ok:Ls.OkL 120 l)(hcn:cn l<=30000)(h24:Ls.wQv l<=24)
  (hB:Blk w1 L #[.pointer (some ⟨p,0,none⟩)] 79) (hp:PartV w1 (B6 w w1) p l) (hb2:Below w1.heap.size w1 w2):l'=l/\LensV w2 (B6 w w1) L p l:=⟨(Option.some.inj (h1.symm.trans h2)).symm,LensV.below ⟨hB,hp,fun _ hk=>hk.2,ok,h24,hcn⟩ hb2⟩
theorem creates_long (s v:ByteArray)(w:World)(h:1048576<s.size\/1048576<v.size) :
  Calls Tryz.prog 6 #[.string s,.string v] w fun e w'=>e=.returned (.bool true)/\Below w.heap.size w w':=by
 by_cases h1:1048576<s.size
 ·have hd:(1048576:Int)<(s.size:Int):=by omega
  go_enter Tryz.func6,Tryz.ntmps6;go_wp2_with fail;go_ret;exact⟨rfl,Below.refl _ _⟩
 ·have hd:¬(1048576:Int)<(s.size:Int):=by omega
  have hd2:(1048576:Int)<(v.size:Int):=by omega
  go_enter Tryz.func6,Tryz.ntmps6;go_wp2_with fail;go_ret;exact⟨rfl,Below.refl _ _⟩
theorem creates_short (s v:ByteArray)(w:World)(hs:s.size<=1048576)(hv:v.size<=1048576)(hC:Calls Tryz.prog 15 #[.string s] w (aQ1 s w)) :
  Calls Tryz.prog 6 #[.string s,.string v] w fun e w'=>e=.returned (.bool true)/\Below w.heap.size w w':=by
 have hd:¬(1048576:Int)<(s.size:Int):=by omega
 have hd2:¬(1048576:Int)<(v.size:Int):=by omega
 go_enter Tryz.func6,Tryz.ntmps6;go_wp2_with fail;refine hC.mono ?_;rintro e w1 ⟨v0,r,rfl,hr,hr4,hv0,hb1,hpr⟩;have HR:Hid (CompIs s.data.toList r):=hr;have HV:Hid (v0.isSome=true↔r=0):=hv0;have HP:Hid (r=0->∃l L p,v0=some ⟨L,0,none⟩/\F9 s.data.toList=some l/\Ls.OkL 120 l/\cn l<=30000/\Ls.wQv l<=24/\w.heap.size<=L/\Blk w1 L #[.pointer (some ⟨p,0,none⟩)] 79/\PartV w1 (B6 w w1) p l):=hpr;clear hr hv0 hC hpr;go_wp2_with fail;refine(mQj s w1).mono ?_;rintro e w2 ⟨k,p,ws,y1,y2,y3,x1,x2,x3,r2,rfl,hr2,hb2,hnv⟩;have hrr:r2=r:=hr2.one HR.out;subst hrr;have HN:Hid (r2=0->∃l,F9 s.data.toList=some l/\l.kind=k/\Ls.wQu l.p=p/\l.w=ws/\NV w2 (B6 w1 w2) l (.slice y1 y2 y3) (.slice x1 x2 x3)):=hnv;clear hr2 HR hnv
 by_cases h0:r2=0
 ·subst h0
  obtain⟨l,L,p0,rfl,h1,h2,h3,h4,h5,h6,h7⟩:=HP.out rfl;obtain⟨l',k1,rfl,rfl,rfl,k5⟩:=HN.out rfl;obtain⟨rfl,hLV⟩:=qQq hb1 h1 k1 h2 h3 h4 h6 h7 hb2;have hLC:l'.kind=l'.kind:=rfl;have hb3:=A4 w2 (A8 l'.kind (Ls.wQu l'.p) l'.w (.slice y1 y2 y3) (.slice x1 x2 x3));have hX3:Blk (w2.alloc (A8 l'.kind (Ls.wQu l'.p) l'.w (.slice y1 y2 y3) (.slice x1 x2 x3))) w2.heap.size #[.int .i64 l'.kind,.int .i64 (Ls.wQu l'.p).kind,.string ⟨(Ls.wQu l'.p).signs.toArray⟩,.slice y1 y2 y3,.string ⟨l'.w.toArray⟩,.slice x1 x2 x3] 37:=Blk.new w2 _ _;have hCr:=create_said v hv _ _ L p0 l' (hLV.below hb3);have hwd:=j6 l' 120 h2 (by omega);have hRf:Hid (∀W,Below w2.heap.size w2 W->Calls Tryz.prog 24 #[J8 l' (.slice y1 y2 y3) (.slice x1 x2 x3),.string v] W fun e w'=>e=.returned (if C9 (Ls.wQw l') v.data.toList=true then .tuple #[.string ⟨(C5 l' v.data.toList).toArray⟩,.int .i64 0] else .tuple #[.string ⟨#[]⟩,.int .i64 6])/\Below W.heap.size W w'):=fun W hW=>
   creates_ref l' h2 (Q9 l' h2 hwd) (Create_any l' h2 hwd (cQa h2 h4 (by omega))) v hv _ _ W (B6 w1 w2) (fun k hk=>Nat.lt_of_lt_of_le hk.2 hW.size) (k5.below hW (fun k hk=>hk.2) (fun _ h=>h))
  have HB3:Hid (Below w2.heap.size w2 (w2.alloc (A8 l'.kind (Ls.wQu l'.p) l'.w (.slice y1 y2 y3) (.slice x1 x2 x3)))):=hb3;have HX3:Hid (Blk (w2.alloc (A8 l'.kind (Ls.wQu l'.p) l'.w (.slice y1 y2 y3) (.slice x1 x2 x3))) w2.heap.size #[.int .i64 l'.kind,.int .i64 (Ls.wQu l'.p).kind,.string ⟨(Ls.wQu l'.p).signs.toArray⟩,.slice y1 y2 y3,.string ⟨l'.w.toArray⟩,.slice x1 x2 x3] 37):=hX3;clear HP HN HV k1 k5 h1 h2 h3 h4 h5 h6 h7 hLV hwd hb3 hX3 hLC;generalize C5 l' v.data.toList=cr at *;generalize C9 (Ls.wQw l') v.data.toList=z at *;go_wp2_with fail;refine hCr.mono ?_;clear hCr;generalize w2.alloc (A8 l'.kind (Ls.wQu l'.p) l'.w (.slice y1 y2 y3) (.slice x1 x2 x3))=W3 at *;rintro e w4 ⟨rfl,hb4⟩;have hX4:=HX3.out.below hb4 HX3.out.lt;obtain⟨a0,a1,a2,a3,a4,a5⟩:=hX4.six;have hbw4:=Below.join (Below.join hb1 hb2) (Below.join HB3.out hb4);have hR:=hRf.out w4 (Below.join HB3.out hb4);clear hX4 hRf;cases z with
  | true=>
   go_wp2_with fail;refine hR.mono ?_;clear hR;rintro e w5 ⟨rfl,hb5⟩;go_wp2_with fail;go_ret;exact⟨by simp,Below.join hbw4 hb5⟩
  | false=>
   go_wp2_with fail;refine hR.mono ?_;clear hR;rintro e w5 ⟨rfl,hb5⟩;go_wp2_with fail;go_ret;exact⟨by simp,Below.join hbw4 hb5⟩
 ·have h0':¬((r2:Int)=0):=by omega
  cases v0 with
  | some ad=>exact absurd (HV.out.1 rfl) h0
  | none=>
   clear HP HN HV;go_wp2_with fail;go_ret;exact⟨by simp,Below.join (Below.join hb1 hb2) (A4 _ _)⟩
end Go.Proofs.YtcggfnlejalppaaGreatDoor
namespace Go.Proofs.YtcggfnlejalppaaGreatDoor
open Go.ChangeShapes Go.WideShapes Go.ChangeAt Go.RowKit
open Go.ChangeMaps (open_string shut_string)
theorem creates_law (a b:ByteArray)(w:World){a0 a1 a2 a3:Addr}(hs:Sent w a0 a1 a2 a3) :
  Calls Tryz.prog 6 #[.string a,.string b] w fun e w'=>e=.returned (.bool true)/\Below w.heap.size w w':=by
 by_cases h:1048576<a.size\/1048576<b.size
 ·exact creates_long a b w h
 ·exact creates_short a b w (by omega) (by omega) (oQ9 a (by omega) w a0 a1 a2 a3 hs)
theorem creates_lifted (os:Os)(started:os.Started)(H:Type)(enc:TypeId × Value->H) :
  ReturnsInHanded {} Tryz.checked os 6 .any (fun w args=>(Rows.createsSpec.pre enc Tryz.prog Tryz.f6 [] false w args/\laidMetH Tryz.prog laid4 w)/\sizedMet enc Tryz.prog Tryz.f6 (OpenSpec.ofChange Rows.createsSpec) false w args)
   (Rows.createsSpec.post enc Tryz.prog Tryz.f6 false true false false):=by
 refine returnsInHanded_of_change_and (C:=Tryz.checked) (X:=fun w _=>laidMetH Tryz.prog laid4 w) (fun _ _ _ hh h=>h.of_heap hh) own started (by kernel_rfl) Tryz.func6
  (ChangeSpec.witness_shaped (enc:=enc) (C:=Tryz.checked) (os:=os) (X:=fun w _=>laidMetH Tryz.prog laid4 w) false (World.doorLaid Tryz.prog 400 os) #[.string ByteArray.empty,.string ByteArray.empty] 8 rfl (World.shaped_of_RefB (by kernel_rfl) (by kernel_rfl)) (by kernel_rfl) (by kernel_rfl) (by kernel_rfl) (uQq os _)) ?_
 intro W base args ds gs before hval0 hW _ _ hL _;have hval:∀(j:Nat) t v,Tryz.f6.params[j]?=some t->args[j]?=some v->Value.okWide Tryz.prog W .any base t v:=hval0;have hW':=hW;obtain⟨p,q,hA0,hV,rfl,hfz,hnd⟩:=hW;have hA:DataW.TrodAll enc Tryz.prog W 0 (fun _=>true) true Tryz.f6.params.toList args.toList ds p:=hA0;rw[Tryz.params6]at hA hval;obtain⟨v0,vs0,d0,ds0,p0,q0,hargs,rfl,rfl,h0,r0⟩:=trodAll_cons hA;obtain⟨v1,vs1,d1,ds1,p1,q1,rfl,rfl,rfl,h1,r1⟩:=trodAll_cons r0;obtain⟨rfl,rfl,rfl⟩:=trodAll_nil r1;obtain rfl:args=#[v0,v1]:=by cases args;simp_all
 obtain⟨rfl,rfl⟩:=trodVars_none hV;obtain⟨a0,rfl,rfl,rfl,w0⟩:=open_string Tryz.underlying9 (hval 0 9 v0 rfl rfl) h0;obtain⟨a1,rfl,rfl,rfl,w1⟩:=open_string Tryz.underlying9 (hval 1 9 v1 rfl rfl) h1;obtain⟨x0,x1,x2,x3,hs⟩:=pQi hL;clear hA0 hval0;simp only[List.append_nil]at hW';refine(creates_law a0 a1 W hs).mono fun e W' ⟨he,hg⟩=>?_;subst he;refine⟨_,rfl,_,_,_,[],[],[],hW',?_,?_,?_,hg.frame _,fun h=>by cases h⟩
 ·exact trodAll_cons_mk (shut_bool Tryz.underlying4 _) trodAll_mk0
 ·exact trodAll_cons_mk (shut_string Tryz.underlying9 w0) (trodAll_cons_mk (shut_string Tryz.underlying9 w1) trodAll_mk0)
 ·rfl
theorem creates_saidof:Rows.CreatesSaid:=
 OpenClaim.holds_of_wide 6 Tryz.f6 rfl rfl rfl rfl rfl rfl rfl ⟨rfl,rfl,rfl,rfl,rfl⟩ rfl rfl rfl rfl rfl (by kernel_rfl) Tryz.func6 (by kernel_rfl)
  (of_decide_eq_true (by kernel_rfl)) (by unfold Func.isWrapper;first|(rw[if_pos (by decide +kernel)];kernel_rfl)|(rw[if_neg (by decide +kernel)];exact⟨rfl,rfl⟩))
  (fun os started H enc _=>creates_lifted os started H enc)
theorem creates_holds:Rows.CreatesCardSaid:=
 Claim7.holds_tied_plain_at .later [] [.sentinel,.sentinel,.sentinel,.sentinel] true Rows.createsCard.stood.harness true
  creates_saidof (fun _ h=>by cases h) (by kernel_rfl) (fun _ h=>by cases h) creates_row_tie rfl ⟨rfl,rfl⟩ (by kernel_rfl) rfl
  (fun f fn hf hfn=>by
   obtain rfl : f = 6 := Option.some.inj ((show Tryz.prog.funcNamed "lenses/lenseslaw.Creates" = some 6 by kernel_rfl).symm.trans hf) |>.symm
   obtain rfl:fn=Tryz.f6:=(Option.some.inj (Tryz.func6.symm.trans hfn)).symm;exact⟨by kernel_rfl,fun j t ht=>by
    rw[Tryz.params6]at ht;have hm:t∈[9,9]:=by simpa using Array.mem_of_getElem? ht
    have hall:([9,9].all fun u=>!Tryz.prog.wantsStandIn u)=true:=by kernel_rfl
    exact(show Tryz.prog.wantsStandIn t=false by simpa using List.all_eq_true.1 hall t hm)⟩) (by kernel_rfl)
end Go.Proofs.YtcggfnlejalppaaGreatDoor
