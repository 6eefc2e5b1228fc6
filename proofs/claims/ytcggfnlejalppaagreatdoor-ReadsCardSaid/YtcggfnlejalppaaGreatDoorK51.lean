import Derived.Test.YtcggfnlejalppaaGreatDoorK03
import Derived.Test.YtcggfnlejalppaaGreatDoorK07
import Derived.Shelf.Strings.BuilderK
import Derived.Shelf.LaysM
import Derived.Shelf.Strconv.Clone
import Derived.Test.YtcggfnlejalppaaGreatDoorProg
import Derived.Test.YtcggfnlejalppaaGreatDoorK50
import Derived.Test.YtcggfnlejalppaaGreatDoorK08
import Derived.Deep.RegionHeld
set_option maxRecDepth 100000
set_option maxHeartbeats 4000000
namespace Go.Proofs.YtcggfnlejalppaaGreatDoor
open Go.RowKit
theorem wQo (s:ByteArray):s.extract 0 s.size=s:=by
 apply ByteArray.ext
 rw[ByteArray.data_extract];exact Array.extract_size
theorem uQt (s:ByteArray):s.extract s.size s.size=⟨#[]⟩:=by
 apply ByteArray.ext
 rw[ByteArray.data_extract];simp
theorem mQp (n1 n2:Nat)(s:ByteArray)(hs:s.size<=1048576)(w:World)(A B:Nat->Prop)(i:Nat)(hi:i<=s.size)(hlo:∀k,k<i->A k->B k->False)(hat:i<s.size->A i/\B i)
  (HM1:∀W k,k<=s.size->Below w.heap.size w W->Calls Tryz.prog 76 #[.pointer (some ⟨n1,0,none⟩),.string (s.extract 0 k)] W fun e w'=>∃b:Bool,e=.returned (.bool b)/\(b=true↔A k)/\Below W.heap.size W w')
  (HM2:∀W k,k<=s.size->Below w.heap.size w W->Calls Tryz.prog 76 #[.pointer (some ⟨n2,0,none⟩),.string (s.extract k s.size)] W fun e w'=>∃b:Bool,e=.returned (.bool b)/\(b=true↔B k)/\Below W.heap.size W w') :
  Calls Tryz.prog 169 #[.pointer (some ⟨n1,0,none⟩),.pointer (some ⟨n2,0,none⟩),.string s] w fun e w'=>e=.returned (.tuple #[.string (s.extract 0 i),.string (s.extract i s.size)])/\Below w.heap.size w w':=by
 have H1:Hid (∀W k,k<=s.size->Below w.heap.size w W->Calls Tryz.prog 76 #[.pointer (some ⟨n1,0,none⟩),.string (s.extract 0 k)] W fun e w'=>∃b:Bool,e=.returned (.bool b)/\(b=true↔A k)/\Below W.heap.size W w'):=HM1;have H2:Hid (∀W k,k<=s.size->Below w.heap.size w W->Calls Tryz.prog 76 #[.pointer (some ⟨n2,0,none⟩),.string (s.extract k s.size)] W fun e w'=>∃b:Bool,e=.returned (.bool b)/\(b=true↔B k)/\Below W.heap.size W w'):=HM2;have HLO:Hid (∀k,k<i->A k->B k->False):=hlo;have HAT:Hid (i<s.size->A i/\B i):=hat;clear HM1 HM2 hlo hat;go_enter Tryz.func169,Tryz.ntmps169;go_wp2_with fail;go_loopw [11] (fun t wr=>∃k:Nat,k<=i/\t=.int .i64 k/\Below w.heap.size w wr) (fun t _=>s.size-(intOf t).toNat)
 case atStart=>exact⟨0,Nat.zero_le _,rfl,Below.refl _ _⟩
 case round=>
  obtain⟨k,hk,rfl,hbw⟩:=hrel
  by_cases hlt:k<s.size
  ·have hz2:(k:Int)<(s.size:Int):=by omega
   have hz0:(0:Int)<=(k:Int):=by omega
   have hz3:(k:Int)<=(s.size:Int):=by omega
   have hC:=H1.out wr k (by omega) hbw;go_wp2_with fail;refine hC.mono ?_;clear hC;rintro e w2 ⟨b,rfl,hb,hb2⟩;have HE:Hid (b=true↔A k):=hb;have hbw2:=Below.join hbw hb2;clear hb;cases b with
   | false=>
    have HN:Hid (¬A k):=fun h=>(by have:=HE.out.2 h;cases this);have HKI:Hid (k≠i):=fun e=>HN.out (by subst e;exact(HAT.out hlt).1);clear HE;go_wp2_with fail;go_roundw
    case rel=>exact⟨k+1,by have:=HKI.out;omega,by go_num,hbw2⟩
    case measure=>simp[intOf];omega
   | true=>
    have HA:Hid (A k):=HE.out.1 rfl;have hC:=H2.out w2 k (by omega) hbw2;clear HE;go_wp2_with fail;refine hC.mono ?_;clear hC;rintro e w3 ⟨b,rfl,hb,hb3⟩;have HE:Hid (b=true↔B k):=hb;have hbw3:=Below.join hbw2 hb3;clear hb;cases b with
    | false=>
     have HN:Hid (¬B k):=fun h=>(by have:=HE.out.2 h;cases this);have HKI:Hid (k≠i):=fun e=>HN.out (by subst e;exact(HAT.out hlt).2);clear HE;go_wp2_with fail;go_roundw
     case rel=>exact⟨k+1,by have:=HKI.out;omega,by go_num,hbw3⟩
     case measure=>simp[intOf];omega
    | true=>
     have HKI:Hid (k=i):=by
      show k=i;rcases Nat.lt_or_ge k i with h|h
      ·exact absurd (HLO.out k h HA.out (HE.out.1 rfl)) (by simp)
      ·omega
     clear HE;go_wp2_with fail;go_region
     all_goals
      go_wp2_with fail;go_ret2;exact⟨by rw[HKI.out];rfl,Below.join hbw3 (Below.refl _ _).drew⟩
  ·have hz2:¬(k:Int)<(s.size:Int):=by omega
   have HKI:Hid (i=s.size):=by show i=s.size;omega
   go_wp2_with fail;go_ret2;exact⟨by rw[HKI.out,wQo,uQt];rfl,hbw⟩
theorem oQ1:(Tryz.prog.info? 9).map (fun i=>(i.zero,i.size,i.bytes))=some (some (.string ⟨#[]⟩),1,16):=by kernel_rfl
theorem dQa {w:World}{base:Nat}{e:TypeId}{size:Nat}{v:Value}{n:Nat}{xs:List Value}(h:w.ownsRow base e size v n xs):∃a k c,v=.slice a k c:=by
 rcases h.2 with⟨rfl,_⟩|⟨g,cap,cur,rfl,_⟩
 ·exact⟨_,_,_,rfl⟩
 ·exact⟨_,_,_,rfl⟩
abbrev A6 (x:List UInt8):Value:=.string ⟨x.toArray⟩
def aQm:Value->Nat
 | .string t=>t.size
 | _=>0
theorem gQu (x:List UInt8):aQm (A6 x)=x.length:=by simp[aQm,ByteArray.size]
theorem iQz (n1 n2:Nat)(ps:List (List UInt8))(hne:∀x,x∈ps->x≠[])(hlen:ps.length<=1048576)(w:World)
  (HC:∀W j (hj:j<ps.length),Below w.heap.size w W->Calls Tryz.prog 169 #[.pointer (some ⟨n1,0,none⟩),.pointer (some ⟨n2,0,none⟩),A6 (ps.drop j).flatten] W fun e w'=>e=.returned (.tuple #[A6 ps[j],A6 (ps.drop (j+1)).flatten])/\Below W.heap.size W w') :
  Calls Tryz.prog 189 #[.pointer (some ⟨n1,0,none⟩),.pointer (some ⟨n2,0,none⟩),A6 ps.flatten] w fun e w'=>∃v,e=.returned v/\w'.ownsRow w.heap.size 9 1 v ps.length (ps.map A6)/\Below w.heap.size w w':=by
 have H1:Hid (∀W j (hj:j<ps.length),Below w.heap.size w W->Calls Tryz.prog 169 #[.pointer (some ⟨n1,0,none⟩),.pointer (some ⟨n2,0,none⟩),A6 (ps.drop j).flatten] W fun e w'=>e=.returned (.tuple #[A6 ps[j],A6 (ps.drop (j+1)).flatten])/\Below W.heap.size W w'):=HC;have HNE:Hid (∀x,x∈ps->x≠[]):=hne;obtain⟨q,hq,hq0,hq1,hqb⟩:=info_parts oQ1;clear HC hne;go_enter Tryz.func189,Tryz.ntmps189;go_wp2_with fail;go_loopw [7,8] (fun pv rv wr=>∃j:Nat,j<=ps.length/\rv=A6 (ps.drop j).flatten/\wr.ownsRow w.heap.size 9 1 pv j ((ps.take j).map A6)/\Below w.heap.size w wr) (fun _ rv _=>(aQm rv))
 case atStart=>exact⟨0,Nat.zero_le _,rfl,World.ownsRow_nil _ _ _ _,Below.refl _ _⟩
 case round=>
  obtain⟨j,hj,rfl,hown,hbw⟩:=hrel;obtain⟨v1,v2,v3,rfl⟩:=dQa hown;have HO:Hid (wr.ownsRow w.heap.size 9 1 (.slice v1 v2 v3) j ((ps.take j).map A6)):=hown;clear hown
  by_cases hlt:j<ps.length
  ·have hC:=H1.out wr j hlt hbw
   have HS:Hid ((ps.drop j).flatten=ps[j]++(ps.drop (j+1)).flatten):=by
    show _=_;rw[List.drop_eq_getElem_cons hlt,List.flatten_cons]
   have HT:Hid (ps.take (j+1)=ps.take j++[ps[j]]):=List.take_succ_eq_append_getElem hlt;have HX:Hid (ps[j]≠[]):=HNE.out _ (List.getElem_mem _);have HSN:Hid ((ps.drop j).flatten≠[]):=by
    intro e;rw[HS.out]at e;exact HX.out (List.append_eq_nil_iff.1 e).1
   have HME:Hid (aQm (A6 (ps.drop (j+1)).flatten)<aQm (A6 (ps.drop j).flatten)):=by
    show _<_;rw[gQu,gQu,HS.out,List.length_append];have:=List.length_pos_iff.2 HX.out;omega
   have hnq:(ps.drop j).flatten.isEmpty=false:=by rw[List.isEmpty_eq_false_iff];exact HSN.out
   generalize ps[j]=x at *;generalize (ps.drop j).flatten=r1 at *;generalize hr2:(ps.drop (j+1)).flatten=r2 at *;have HR2:Hid (r2=(ps.drop (j+1)).flatten):=hr2.symm;clear hr2;go_wp2_with fail;refine hC.mono ?_;clear hC;rintro e w2 ⟨rfl,hb2⟩;have hbw2:=Below.join hbw hb2;have hz2:=hbw2.size;have hoa:=(HO.out.kept (G9 hb2 none) (by
    cases hv:(Value.slice v1 v2 v3).ownBlock with
    | none=>exact .inl rfl
    | some m=>exact .inr (by simp))).alloc (.cells #[A6 x] 9)
   have hcn:=W7 w2 (A6 x) 9;go_wp2_with (at_builtin;refine K3 _ rfl _ _ 41 rfl w.heap.size 9 q _ 1 16 Tryz.underlying41 hq hq0 hq1 hqb rfl (by omega) (.slice v1 v2 v3) j ((ps.take j).map A6) rfl hoa ⟨w2.heap.size,0,none⟩ 1 1 [A6 x] rfl ?l1 hcn ?l0 ?l2 ?l3 ?l4 ?l5 ?_)
   case l1=>rfl
   case l0=>intro u hu;simp at hu;subst hu;rfl
   case l2=>unfold maxLen;omega
   case l3=>omega
   case l4=>simp;omega
   case l5=>omega
   intro v' w' ho hg hvv;have hbw':Below w.heap.size w w':=(hbw2.alloc hz2 (.cells #[A6 x] 9)).grown hg (by simp;omega) (fun m e=>(hoa.lt m e).1);have HO7:Hid (w'.ownsRow w.heap.size 9 1 v' (j+1) ((ps.take (j+1)).map A6)):=by
    show World.ownsRow _ _ _ _ _ _ _;rw[HT.out,List.map_append,List.map_take];exact ho
   clear hg ho hvv hoa hcn HO;go_wp2_with fail;go_roundw
   case rel=>exact⟨j+1,by omega,by rw[HR2.out],HO7.out,hbw'⟩
   case measure=>exact HME.out
  ·have hjj:j=ps.length:=by omega
   subst hjj;have HD:Hid ((ps.drop ps.length).flatten=[]):=by show _=_;simp
   have HO7:Hid (wr.ownsRow w.heap.size 9 1 (.slice v1 v2 v3) ps.length (ps.map A6)):=by
    have:=HO.out;rw[List.take_of_length_le (Nat.le_refl _)]at this;exact this
   have hnq:(ps.drop ps.length).flatten.isEmpty=true:=by rw[HD.out];rfl
   generalize (ps.drop ps.length).flatten=r1 at *;go_wp2_with fail;go_ret;exact⟨_,rfl,HO7.out,hbw⟩
end Go.Proofs.YtcggfnlejalppaaGreatDoor
namespace Go.Proofs
open Go.Shelf
def Tryz.lays169_ren:Go.Shelf.Ren:=⟨fun|169=>188|n=>n,fun|70=>222|9=>9|0=>0|72=>224|37=>115|127=>167|3=>3|5=>5|n=>n,fun|n=>n⟩
theorem Tryz.lays169:Go.Proofs.Lays.n169 Tryz.prog Tryz.lays169_ren:={
 mixed:=by kernel_rfl
 f169:=Tryz.func188.trans (congrArg some (by kernel_rfl))
 t0:=Tryz.underlying0
 a0:=Tryz.isAgg0
 z0:=Tryz.sizeOf0
 v0:=Tryz.zeroValue0
 t3:=Tryz.underlying3
 a3:=Tryz.isAgg3
 z3:=Tryz.sizeOf3
 v3:=Tryz.zeroValue3
 t9:=Tryz.underlying9
 a9:=Tryz.isAgg9
 z9:=Tryz.sizeOf9
 v9:=Tryz.zeroValue9
 t37:=Tryz.underlying115
 a37:=Tryz.isAgg115
 z37:=Tryz.sizeOf115
 v37:=Tryz.zeroValue115
 t70:=Tryz.underlying222
 a70:=Tryz.isAgg222
 z70:=Tryz.sizeOf222
 v70:=Tryz.zeroValue222
 t72:=Tryz.underlying224
 a72:=Tryz.isAgg224
 z72:=Tryz.sizeOf224
 v72:=Tryz.zeroValue224
 t127:=Tryz.underlying167
 a127:=Tryz.isAgg167
 z127:=Tryz.sizeOf167
 v127:=Tryz.zeroValue167}
theorem Tryz.Builder_Extra_169:Builder.Extra Tryz.prog Tryz.lays169_ren:={
 sizeBuilder:=by kernel_rfl
 liesBuilder:=by kernel_rfl
 t5:=Tryz.underlying5
 a5:=Tryz.isAgg5
 z5:=Tryz.sizeOf5
 v5:=Tryz.zeroValue5
 infoByte:=by kernel_rfl
 cellsByte:=by kernel_rfl
 sizeByte:=by kernel_rfl
 neB5:=by decide}
open Go.RowKit in
theorem Tryz.Builder_String_any_k (B b:Nat)(l:List UInt8)(w:World)(h:Lib.IsBuilderF 224 5 B b (Lib.byteCells l) w)(hBw:B<=w.heap.size) :
  Calls Tryz.prog 188 #[.pointer (some ⟨b,0,none⟩)] w fun e w'=>e=.returned (.string ⟨l.toArray⟩)/\(Lib.IsBuilderF 224 5 B b (Lib.byteCells l) w'/\Below B w w'/\Lib.OthersKept 5 (some b) w w'):=Any.Builder_String_any_k Tryz.lays169 Tryz.Builder_Extra_169 B b l w h hBw
def Tryz.laysM316_ren:Go.Shelf.Ren:=⟨fun|316=>80|n=>n,fun|9=>9|3=>3|4=>4|37=>115|0=>0|127=>167|5=>5|n=>n,fun|n=>n⟩
theorem Tryz.laysM316:Go.Proofs.LaysM.n316 Tryz.prog Tryz.laysM316_ren:={
 mixed:=by kernel_rfl
 f316:=Tryz.func80.trans (congrArg some (by kernel_rfl))
 t0:=Tryz.underlying0
 a0:=Tryz.isAgg0
 z0:=Tryz.sizeOf0
 v0:=Tryz.zeroValue0
 t3:=Tryz.underlying3
 a3:=Tryz.isAgg3
 z3:=Tryz.sizeOf3
 v3:=Tryz.zeroValue3
 t4:=Tryz.underlying4
 a4:=Tryz.isAgg4
 z4:=Tryz.sizeOf4
 v4:=Tryz.zeroValue4
 t9:=Tryz.underlying9
 a9:=Tryz.isAgg9
 z9:=Tryz.sizeOf9
 v9:=Tryz.zeroValue9
 t37:=Tryz.underlying115
 a37:=Tryz.isAgg115
 z37:=Tryz.sizeOf115
 v37:=Tryz.zeroValue115
 t127:=Tryz.underlying167
 a127:=Tryz.isAgg167
 z127:=Tryz.sizeOf167
 v127:=Tryz.zeroValue167
 t5:=Tryz.underlying5
 a5:=Tryz.isAgg5
 z5:=Tryz.sizeOf5
 v5:=Tryz.zeroValue5
 i0:=by kernel_rfl
 i3:=by kernel_rfl
 i4:=by kernel_rfl
 i5:=by kernel_rfl
 i9:=by kernel_rfl
 i37:=by kernel_rfl
 i127:=by kernel_rfl}
open Go.RowKit in
theorem Tryz.stringslite_Clone (s:ByteArray)(w:World)(hlim:s.size<=281474976710656) :
  Calls Tryz.prog 80 #[.string s] w fun e w'=>e=.returned (.string s)/\Below w.heap.size w w':=Any.stringslite_Clone Tryz.laysM316 s w hlim
def Tryz.lays166_ren:Go.Shelf.Ren:=⟨fun|166=>187|240=>192|276=>194|n=>n,fun|0=>0|3=>3|4=>4|9=>9|20=>20|37=>115|70=>222|72=>224|75=>74|164=>228|5=>5|80=>196|n=>n,fun|n=>n⟩
theorem Tryz.lays166:Go.Proofs.Lays.n166 Tryz.prog Tryz.lays166_ren:={
 mixed:=by kernel_rfl
 f166:=Tryz.func187.trans (congrArg some (by kernel_rfl))
 f240:=Tryz.func192.trans (congrArg some (by kernel_rfl))
 f276:=Tryz.func194.trans (congrArg some (by kernel_rfl))
 t0:=Tryz.underlying0
 a0:=Tryz.isAgg0
 z0:=Tryz.sizeOf0
 v0:=Tryz.zeroValue0
 t3:=Tryz.underlying3
 a3:=Tryz.isAgg3
 z3:=Tryz.sizeOf3
 v3:=Tryz.zeroValue3
 t4:=Tryz.underlying4
 a4:=Tryz.isAgg4
 z4:=Tryz.sizeOf4
 v4:=Tryz.zeroValue4
 t9:=Tryz.underlying9
 a9:=Tryz.isAgg9
 z9:=Tryz.sizeOf9
 v9:=Tryz.zeroValue9
 t20:=Tryz.underlying20
 a20:=Tryz.isAgg20
 z20:=Tryz.sizeOf20
 v20:=Tryz.zeroValue20
 t37:=Tryz.underlying115
 a37:=Tryz.isAgg115
 z37:=Tryz.sizeOf115
 v37:=Tryz.zeroValue115
 t70:=Tryz.underlying222
 a70:=Tryz.isAgg222
 z70:=Tryz.sizeOf222
 v70:=Tryz.zeroValue222
 t72:=Tryz.underlying224
 a72:=Tryz.isAgg224
 z72:=Tryz.sizeOf224
 v72:=Tryz.zeroValue224
 t75:=Tryz.underlying74
 a75:=Tryz.isAgg74
 z75:=Tryz.sizeOf74
 v75:=Tryz.zeroValue74
 t164:=Tryz.underlying228
 a164:=Tryz.isAgg228
 z164:=Tryz.sizeOf228
 v164:=Tryz.zeroValue228}
theorem Tryz.Builder_Extra_166:Builder.Extra Tryz.prog Tryz.lays166_ren:={
 sizeBuilder:=by kernel_rfl
 liesBuilder:=by kernel_rfl
 t5:=Tryz.underlying5
 a5:=Tryz.isAgg5
 z5:=Tryz.sizeOf5
 v5:=Tryz.zeroValue5
 infoByte:=by kernel_rfl
 cellsByte:=by kernel_rfl
 sizeByte:=by kernel_rfl
 neB5:=by decide}
open Go.RowKit in
theorem Tryz.Builder_WriteString_k (B b:Nat)(bs:List Value)(s:ByteArray)(w:World)(h:Lib.IsBuilderF 224 5 B b bs w)(hlen:bs.length+s.size<=140737488355328)(hBw:B<=w.heap.size) :
  Calls Tryz.prog 187 #[.pointer (some ⟨b,0,none⟩),.string s] w fun e w'=>e=.returned (.tuple #[.int .i64 s.size,.nilIface])/\(Lib.BuilderAtF 224 5 B b (.pointer (some ⟨b,0,none⟩)) (bs++Lib.strCells s) w'/\Below B w w'/\Lib.OthersKept 5 (some b) w w'):=
 Any.Builder_WriteString_k Tryz.lays166 Tryz.Builder_Extra_166 B b bs s w h hlen hBw
end Go.Proofs
namespace Go.Proofs.YtcggfnlejalppaaGreatDoor
open Go.RowKit
theorem nQp {T e:TypeId}{B b:Nat}{bs:List Value}{w w':World}(h:Lib.IsBuilderF T e B b bs w)(hb:Below w.heap.size w w'):Lib.IsBuilderF T e B b bs w':=by
 have key:∀p,Lib.BuilderAtF T e B b p bs w->Lib.BuilderAtF T e B b p bs w':=by
  rintro p ⟨h1,v,h2,h3,h4⟩;refine⟨h1,v,?_,h3.kept (G9 hb none) ?_,h4⟩
  ·rw[hb.block b (Array.getElem?_eq_some_iff.1 h2).1];exact h2
  ·cases hv:v.ownBlock with
   | none=>exact .inl rfl
   | some m=>exact .inr (by simp)
 exact h.imp (key _) (key _)
theorem gQf (ps:List (List UInt8))(hps:ps.length<=1048576)(val:List UInt8->List UInt8)(hlen:((ps.map val).flatten).length<=70368744177664)(f:Nat)(caps:Array Value)(v:Value)(w:World)(base:Nat)(hown:w.ownsRow base 9 1 v ps.length (ps.map A6))
  (hcf:∀(x:Value) (W:World),(callFunc f (#[x]++caps)).run Tryz.prog W=.ok (.enter f (#[x]++caps)) W)
  (HT:∀W j (hj:j<ps.length),Below w.heap.size w W->Calls Tryz.prog f (#[A6 ps[j]]++caps) W fun e w'=>e=.returned (A6 (val ps[j]))/\Below W.heap.size W w') :
  Calls Tryz.prog 179 #[v,.func (.func f) #[] caps] w fun e w'=>e=.returned (A6 (ps.map val).flatten)/\Below w.heap.size w w':=by
 have H1:Hid (∀W j (hj:j<ps.length),Below w.heap.size w W->Calls Tryz.prog f (#[A6 ps[j]]++caps) W fun e w'=>e=.returned (A6 (val ps[j]))/\Below W.heap.size W w'):=HT;obtain⟨v1,v2,v3,rfl⟩:=dQa hown;have hv2:v2=ps.length:=by
  rcases hown.2 with⟨e,h0⟩|⟨g,cap,cur,e,_⟩
  ·injection e with e1 e2 e3;omega
  ·injection e with e1 e2 e3
 subst hv2;have HX:Hid (∀W,Below w.heap.size w W->∀j (hj:j<ps.length),∃g,v1=some ⟨g,0,none⟩/\W.cell? ⟨g,j,none⟩=some (A6 ps[j])):=fun W hW j hj=>by
  rcases hown.2 with⟨e,h0⟩|⟨g,cap,cur,e,_⟩
  ·omega
  ·injection e with e1 e2 e3
   subst e1;subst e3;refine⟨g,rfl,?_⟩;have hlt:g<w.heap.size:=(hown.lt g rfl).2;rw[hW.cell (p:=⟨g,j,none⟩) hlt,hown.cellAt j (by omega),List.getElem?_map,List.getElem?_eq_getElem hj];rfl
 have hBI:Lib.IsBuilderF 224 5 w.heap.size w.heap.size (Lib.byteCells ((ps.take 0).map val).flatten) (w.alloc (.cells #[.pointer none,.slice none 0 0] 224)):=Lib.IsBuilderF.of (Lib.fresh_isBuilder _ _ w);have HBI:Hid _:=hBI;have hb0:=A4 w (.cells #[.pointer none,.slice none 0 0] 224);have HL:Hid (∀j (hj:j<ps.length),((ps.take j).map val).flatten.length+(val ps[j]).length<=70368744177664):=fun j hj=>by
  have h1:((ps.take (j+1)).map val).flatten=((ps.take j).map val).flatten++val ps[j]:=by
   rw[List.take_succ_eq_append_getElem hj,List.map_append,List.flatten_append];simp
  have h2:((ps.map val).flatten)=((ps.take (j+1)).map val).flatten++((ps.drop (j+1)).map val).flatten:=by
   rw[<-List.flatten_append,<-List.map_append,List.take_append_drop]
  rw[h2,h1,List.length_append,List.length_append]at hlen;omega
 clear HT hown hBI hlen;go_enter Tryz.func179,Tryz.ntmps179;go_wp2_with fail;generalize w.alloc (.cells #[.pointer none,.slice none 0 0] 224)=W0 at *;go_loopw [10] (fun t wr=>∃j:Nat,j<=ps.length/\t=.int .i64 j/\Lib.IsBuilderF 224 5 w.heap.size w.heap.size (Lib.byteCells ((ps.take j).map val).flatten) wr/\Below w.heap.size w wr) (fun t _=>ps.length-(intOf t).toNat)
 case atStart=>exact⟨0,Nat.zero_le _,rfl,HBI.out,hb0⟩
 case round=>
  obtain⟨j,hj,rfl,hbi,hbw⟩:=hrel;have HB:Hid (Lib.IsBuilderF 224 5 w.heap.size w.heap.size (Lib.byteCells ((ps.take j).map val).flatten) wr):=hbi;clear hbi
  by_cases hlt:j<ps.length
  ·have hz2:(j:Int)<(ps.length:Int):=by omega
   have hz0:(0:Int)<=(j:Int):=by omega
   obtain⟨g,rfl,hcell⟩:=HX.out wr hbw j hlt;have hC:=H1.out wr j hlt hbw;have HT:Hid (((ps.take (j+1)).map val).flatten=((ps.take j).map val).flatten++val ps[j]):=by
    show _=_;rw[List.take_succ_eq_append_getElem hlt,List.map_append,List.flatten_append];simp
   have HLj:=HL.out j hlt;generalize ps[j]=x at *;go_wp2_with fail;refine hC.mono ?_;clear hC;rintro e w2 ⟨rfl,hb2⟩;have hbw2:=Below.join hbw hb2;have hW:=Tryz.Builder_WriteString_k w.heap.size w.heap.size _ ⟨(val x).toArray⟩ w2 (nQp HB.out hb2) (by rw[Lib.byteCells_length];show _+(val x).toArray.size<=_;rw[List.size_toArray];omega) hbw2.size;have HS:Hid (Lib.byteCells ((ps.take j).map val).flatten++Lib.strCells ⟨(val x).toArray⟩=Lib.byteCells ((ps.take (j+1)).map val).flatten):=by
    show _=_;rw[HT.out,Lib.strCells_eq,Lib.byteCells_append]
   go_wp2_with fail;refine hW.mono ?_;clear hW;rintro e w3 ⟨rfl,h3,hb3,_⟩;have hbw3:=hbw2.trans hb3;have HB3:Hid (Lib.IsBuilderF 224 5 w.heap.size w.heap.size (Lib.byteCells ((ps.take (j+1)).map val).flatten) w3):=by
    show Lib.IsBuilderF _ _ _ _ _ _;rw[<-HS.out];exact .inr h3
   clear h3 HB;go_wp2_with fail;go_roundw
   case rel=>exact⟨j+1,by omega,by go_num,HB3.out,hbw3⟩
   case measure=>simp[intOf];omega
  ·have hz2:¬(j:Int)<(ps.length:Int):=by omega
   have hjj:j=ps.length:=by omega
   subst hjj;have HB3:Hid (Lib.IsBuilderF 224 5 w.heap.size w.heap.size (Lib.byteCells (ps.map val).flatten) wr):=by
    have:=HB.out;rw[List.take_of_length_le (Nat.le_refl _)]at this;exact this
   have hS:=Tryz.Builder_String_any_k w.heap.size w.heap.size _ wr HB3.out hbw.size;go_wp2_with fail;refine hS.mono ?_;rintro e w4 ⟨rfl,_,hb4,_⟩;have hbw4:=hbw.trans hb4;clear hS;go_wp2_with fail;go_ret;exact⟨rfl,hbw4⟩
theorem fQ6 (l:List UInt8)(k:Nat):(⟨l.toArray⟩:ByteArray).extract 0 k=⟨(l.take k).toArray⟩:=by
 apply ByteArray.ext
 rw[ByteArray.data_extract];simp
theorem fQ8 (l:List UInt8)(k:Nat):(⟨l.toArray⟩:ByteArray).extract k (⟨l.toArray⟩:ByteArray).size=⟨(l.drop k).toArray⟩:=by
 have:(⟨l.toArray⟩:ByteArray).size=l.length:=by simp[ByteArray.size]
 rw[this];apply ByteArray.ext
 rw[ByteArray.data_extract];simp;exact List.take_of_length_le (by rw[List.length_drop];omega)
theorem lQm {w:World}{b b':Nat}{e:TypeId}{size:Nat}{v:Value}{n:Nat}{xs:List Value}(h:w.ownsRow b e size v n xs)(hb:b'<=b):w.ownsRow b' e size v n xs:=by
 refine⟨h.1,?_⟩;rcases h.2 with h2|⟨g,cap,cur,hv,hbg,h3⟩
 ·exact .inl h2
 ·exact .inr ⟨g,cap,cur,hv,Nat.le_trans hb hbg,h3⟩
theorem rQd {p q:Ls.Pat}(ht:¬Ls.wQ1 p q){u v:List UInt8}(hu:Ls.inL p u)(hv:Ls.inL q v){i:Nat}(hi:i<u.length)(h1:Ls.inL p ((u++v).take i))(h2:Ls.inL q ((u++v).drop i)):False:=by
 rw[List.take_append_of_le_length (by omega)]at h1;rw[List.drop_append_of_le_length (by omega)]at h2;refine ht ⟨u.take i,u.drop i,v,?_,h1,by rw[List.take_append_drop];exact hu,h2,hv⟩;intro e;have:=congrArg List.length e;rw[List.length_drop,List.length_nil]at this;omega
theorem hQ3 {w:World}{G:Nat->Prop}(hG:Old w G){a b:Ls.D}(ha:Ls.dsize a<=24)(hb:Ls.dsize b<=24)(ht:¬Ls.wQ1 (Ls.wQu a) (Ls.wQu b)){u v:List UInt8}(hu:Ls.inL (Ls.wQu a) u)(hv:Ls.inL (Ls.wQu b) v)(hl:u.length+v.length<=1048576){x1 x2:Value}{n1 n2:Nat}(h1:Tx w G x1 n1 a)(h2:Tx w G x2 n2 b) :
  Calls Tryz.prog 169 #[.pointer (some ⟨n1,0,none⟩),.pointer (some ⟨n2,0,none⟩),A6 (u++v)] w fun e w'=>e=.returned (.tuple #[A6 u,A6 v])/\Below w.heap.size w w':=by
 have hsz:(⟨(u++v).toArray⟩:ByteArray).size=u.length+v.length:=by simp[ByteArray.size]
 refine(mQp n1 n2 ⟨(u++v).toArray⟩ (by omega) w (fun k=>Ls.inL (Ls.wQu a) ((u++v).take k)) (fun k=>Ls.inL (Ls.wQu b) ((u++v).drop k)) u.length (by omega) (fun k hk x y=>rQd ht hu hv hk x y) (fun _=>⟨by rw[List.take_left];exact hu,by rw[List.drop_left];exact hv⟩) (fun W k hk hW=>?_) (fun W k hk hW=>?_)).mono ?_
 ·rw[fQ6]
  exact q7 (h1.below hG hW) ha ⟨((u++v).take k).toArray⟩ (by simp[ByteArray.size];omega)
 ·rw[fQ8]
  exact q7 (h2.below hG hW) hb ⟨((u++v).drop k).toArray⟩ (by simp[ByteArray.size];omega)
 ·rintro e w' ⟨rfl,hbl⟩
  rw[fQ6,fQ8,List.take_left,List.drop_left];exact⟨rfl,hbl⟩
theorem wQs {w:World}{G:Nat->Prop}(hG:Old w G){a:Ls.D}(ha:Ls.dsize a<=24)(h0:¬Ls.inL (Ls.wQu a) [])(ht:¬Ls.wQ1 (Ls.wQu a) (Ls.wQu (Ls.rep 5 a))){ps:List (List UInt8)}(hps:∀x,x∈ps->Ls.inL (Ls.wQu a) x)(hl:ps.flatten.length<=1048576){x1 x2:Value}{n1 n2:Nat}(h1:Tx w G x1 n1 a)(h2:Tx w G x2 n2 (Ls.rep 5 a)) :
  Calls Tryz.prog 189 #[.pointer (some ⟨n1,0,none⟩),.pointer (some ⟨n2,0,none⟩),A6 ps.flatten] w fun e w'=>∃v,e=.returned v/\w'.ownsRow w.heap.size 9 1 v ps.length (ps.map A6)/\Below w.heap.size w w':=by
 have hne:∀x,x∈ps->x≠[]:=fun x hx e=>h0 (by have:=hps x hx;rw[e]at this;exact this);have hlen:∀qs:List (List UInt8),(∀x,x∈qs->x≠[])->qs.length<=qs.flatten.length:=by
  intro qs;induction qs with
  | nil=>simp
  | cons q qs ih=>
   intro h;have h1:=List.length_pos_iff.2 (h q (List.mem_cons_self ..));have h2:=ih (fun x hx=>h x (List.mem_cons_of_mem _ hx));rw[List.flatten_cons,List.length_append,List.length_cons];omega
 refine iQz n1 n2 ps hne (Nat.le_trans (hlen ps hne) hl) w (fun W j hj hW=>?_);have he:(ps.drop j).flatten=ps[j]++(ps.drop (j+1)).flatten:=by rw[List.drop_eq_getElem_cons hj,List.flatten_cons]
 have hle:(ps.drop j).flatten.length<=ps.flatten.length:=by
  have:ps.flatten=(ps.take j).flatten++(ps.drop j).flatten:=by rw[<-List.flatten_append,List.take_append_drop]
  rw[this,List.length_append];omega
 have hle2:=congrArg List.length he;rw[List.length_append]at hle2;rw[he];refine hQ3 (G:=G) (fun k hk=>Nat.lt_of_lt_of_le (hG k hk) hW.size) ha (by rw[Ls.xQl];exact ha) ht (hps _ (List.getElem_mem _)) ?_ (by omega) (h1.below hG hW) (h2.below hG hW);rw[Ls.yQf];exact⟨ps.drop (j+1),rfl,fun y hy=>hps y (List.mem_of_mem_drop hy)⟩
theorem bQo {w:World}{G:Nat->Prop}(hG:Old w G){a b:Ls.D}(ha:Ls.dsize a<=24)(hb:Ls.dsize b<=24)(ht:¬Ls.wQ1 (Ls.wQu a) (Ls.wQu b)){u v:List UInt8}(hu:Ls.inL (Ls.wQu a) u)(hv:Ls.inL (Ls.wQu b) v)(hl:u.length+v.length<=1048576){t1 t2:TypeId}{y1 y2:Value}{n1 n2:Nat}(h1:Tx w G (.iface t1 y1) n1 a)(h2:Tx w G (.iface t2 y2) n2 b) :
  Calls Tryz.prog 144 #[D5 (.iface t1 y1) n1,D5 (.iface t2 y2) n2,A6 (u++v)] w fun e w'=>e=.returned (.tuple #[A6 u,A6 v])/\Below w.heap.size w w':=by
 have hb0:=C0 w (C8 (.iface t1 y1) n1) (C8 (.iface t2 y2) n2);have hC:=hQ3 (w:=(w.alloc (C8 (.iface t1 y1) n1)).alloc (C8 (.iface t2 y2) n2)) (G:=G) (fun k hk=>Nat.lt_of_lt_of_le (hG k hk) hb0.size) ha hb ht hu hv hl (h1.below hG hb0) (h2.below hG hb0);have HB:Hid _:=hb0;clear h1 h2 hb0 ht hu hv hl;go_enter Tryz.func144,Tryz.ntmps144;go_wp2_with fail;refine hC.mono ?_;clear hC;rintro e w1 ⟨rfl,hb1⟩;go_wp2_with fail;go_ret2;exact⟨rfl,Below.join HB.out hb1⟩
theorem gQl {w:World}{G:Nat->Prop}(hG:Old w G){a:Ls.D}(ha:Ls.dsize a<=24)(h0:¬Ls.inL (Ls.wQu a) [])(ht:¬Ls.wQ1 (Ls.wQu a) (Ls.wQu (Ls.rep 5 a))){ps:List (List UInt8)}(hps:∀x,x∈ps->Ls.inL (Ls.wQu a) x)(hl:ps.flatten.length<=1048576){t1 t2:TypeId}{y1 y2:Value}{n1 n2:Nat}(h1:Tx w G (.iface t1 y1) n1 a)(h2:Tx w G (.iface t2 y2) n2 (Ls.rep 5 a)) :
  Calls Tryz.prog 180 #[D5 (.iface t1 y1) n1,D5 (.iface t2 y2) n2,A6 ps.flatten] w fun e w'=>∃v1 v2 v3,e=.returned (.slice v1 v2 v3)/\w'.ownsRow w.heap.size 9 1 (.slice v1 v2 v3) ps.length (ps.map A6)/\Below w.heap.size w w':=by
 have hb0:=C0 w (C8 (.iface t1 y1) n1) (C8 (.iface t2 y2) n2);have hC:=wQs (w:=(w.alloc (C8 (.iface t1 y1) n1)).alloc (C8 (.iface t2 y2) n2)) (G:=G) (fun k hk=>Nat.lt_of_lt_of_le (hG k hk) hb0.size) ha h0 ht hps hl (h1.below hG hb0) (h2.below hG hb0);have HB:Hid _:=hb0;clear h1 h2 hb0 ht hps hl h0;generalize ps.flatten=s at *;go_enter Tryz.func180,Tryz.ntmps180;go_wp2_with fail;refine hC.mono ?_;clear hC;rintro e w1 ⟨v,rfl,ho,hb1⟩;obtain⟨v1,v2,v3,rfl⟩:=dQa ho;have HO:Hid (w1.ownsRow w.heap.size 9 1 (.slice v1 v2 v3) ps.length (ps.map A6)):=lQm ho HB.out.size;clear ho;go_wp2_with fail;go_ret;exact⟨v1,v2,v3,rfl,HO.out,Below.join HB.out hb1⟩
def Turns (w:World)(G:Nat->Prop)(b:Value)(p:List UInt8->Prop)(val:List UInt8->List UInt8):Prop:=
 ∃(f:Nat) (caps:Array Value),b=.func (.func f) #[] caps/\(∀(x:Value) (W:World),(callFunc f (#[x]++caps)).run Tryz.prog W=.ok (.enter f (#[x]++caps)) W)/\
  ∀W,(∀k,G k->W.heap[k]?=w.heap[k]?)->Old W G->∀x:List UInt8,x.length<=60->p x->Calls Tryz.prog f (#[A6 x]++caps) W fun e w'=>e=.returned (A6 (val x))/\Below W.heap.size W w'
theorem Turns.mono {w w':World}{G G':Nat->Prop}(hG:∀k,G k->G' k)(hw:∀k,G k->w'.heap[k]?=w.heap[k]?){b:Value}{p:List UInt8->Prop}{val:List UInt8->List UInt8}(h:Turns w G b p val):Turns w' G' b p val:=by
 obtain⟨f,caps,h1,h2,h3⟩:=h;exact⟨f,caps,h1,h2,fun W hW hO=>h3 W (fun k hk=>(hW k (hG k hk)).trans (hw k hk)) (fun k hk=>hO k (hG k hk))⟩
abbrev J9 (t1:TypeId)(y1:Value)(n1:Nat)(t2:TypeId)(y2:Value)(n2:Nat)(g c:Value):Array Value:=#[.iface t1 y1,.pointer (some ⟨n1,0,none⟩),.iface t2 y2,.pointer (some ⟨n2,0,none⟩),g,c]
def PartV (w:World)(G:Nat->Prop)(p:Nat)(l:Ls.Ln):Prop:=
 ∃t1 y1 n1 t2 y2 n2 g c,G p/\Blk w p (J9 t1 y1 n1 t2 y2 n2 g c) 91/\Tx w G (.iface t1 y1) n1 (Ls.dS l)/\Tx w G (.iface t2 y2) n2 (Ls.dV l)/\
  Turns w G g (Ls.inL (Ls.wQu (Ls.dS l))) (A9 l)/\Turns w G c (Ls.inL (Ls.wQu (Ls.dV l))) (C5 l)
theorem PartV.mono {w w':World}{G G':Nat->Prop}(hG:∀k,G k->G' k)(hw:∀k,G k->w'.heap[k]?=w.heap[k]?){p:Nat}{l:Ls.Ln}(h:PartV w G p l):PartV w' G' p l:=by
 obtain⟨t1,y1,n1,t2,y2,n2,g,c,h1,h2,h3,h4,h5,h6⟩:=h;exact⟨t1,y1,n1,t2,y2,n2,g,c,hG _ h1,h2.of (hw _ h1),h3.mono hG hw,h4.mono hG hw,h5.mono hG hw,h6.mono hG hw⟩
theorem PartV.below {w w':World}{G:Nat->Prop}{p:Nat}{l:Ls.Ln}(h:PartV w G p l)(hG:Old w G)(hb:Below w.heap.size w w'):PartV w' G p l:=h.mono (fun _ h=>h) (fun k hk=>hb.block k (hG k hk))
theorem Turns.at {w:World}{G:Nat->Prop}(hG:Old w G){b:Value}{p:List UInt8->Prop}{val:List UInt8->List UInt8}(h:Turns w G b p val):∃(f:Nat) (caps:Array Value),b=.func (.func f) #[] caps/\(∀(x:Value) (W:World),(callFunc f (#[x]++caps)).run Tryz.prog W=.ok (.enter f (#[x]++caps)) W)/\
  ∀W,Below w.heap.size w W->∀x:List UInt8,x.length<=60->p x->Calls Tryz.prog f (#[A6 x]++caps) W fun e w'=>e=.returned (A6 (val x))/\Below W.heap.size W w':=by
 obtain⟨f,caps,h1,h2,h3⟩:=h;exact⟨f,caps,h1,h2,fun W hW=>h3 W (fun k hk=>hW.block k (hG k hk)) (fun k hk=>Nat.lt_of_lt_of_le (hG k hk) hW.size)⟩
theorem Blk.six {w:World}{g:Nat}{x y u v s t:Value}{T:TypeId}(h:Blk w g #[x,y,u,v,s,t] T):w.cell? ⟨g,0,none⟩=some x/\w.cell? ⟨g,1,none⟩=some y/\w.cell? ⟨g,2,none⟩=some u/\w.cell? ⟨g,3,none⟩=some v/\w.cell? ⟨g,4,none⟩=some s/\w.cell? ⟨g,5,none⟩=some t:=⟨h.cell 0,h.cell 1,h.cell 2,h.cell 3,h.cell 4,h.cell 5⟩
theorem aQ7 (X Y:List UInt8):(⟨X.toArray⟩:ByteArray)++⟨Y.toArray⟩=⟨(X++Y).toArray⟩:=by
 apply ByteArray.ext
 rw[ByteArray.data_append];simp
end Go.Proofs.YtcggfnlejalppaaGreatDoor
