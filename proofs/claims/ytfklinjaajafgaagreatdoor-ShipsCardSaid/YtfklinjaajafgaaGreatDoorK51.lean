import Derived.Test.YtfklinjaajafgaaGreatDoorK03
import Derived.Test.YtfklinjaajafgaaGreatDoorK07
import Derived.Shelf.Strings.BuilderK
import Derived.Shelf.LaysM
import Derived.Shelf.Strconv.Clone
import Derived.Test.YtfklinjaajafgaaGreatDoorProg
import Derived.Test.YtfklinjaajafgaaGreatDoorK50
import Derived.Test.YtfklinjaajafgaaGreatDoorK08
import Derived.Deep.RegionHeld
set_option maxRecDepth 100000
set_option maxHeartbeats 4000000
namespace Go.Proofs.YtfklinjaajafgaaGreatDoor
open Go.RowKit
theorem tQk (s:ByteArray):s.extract 0 s.size=s:=by
 apply ByteArray.ext
 rw[ByteArray.data_extract];exact Array.extract_size
theorem tQm (s:ByteArray):s.extract s.size s.size=⟨#[]⟩:=by
 apply ByteArray.ext
 rw[ByteArray.data_extract];simp
theorem sQo (n1 n2:Nat)(s:ByteArray)(hs:s.size<=1048576)(w:World)(A B:Nat->Prop)(i:Nat)(hi:i<=s.size)(hlo:∀k,k<i->A k->B k->False)(hat:i<s.size->A i/\B i)
  (HM1:∀W k,k<=s.size->Below w.heap.size w W->Calls Tryz.prog 83 #[.pointer (some ⟨n1,0,none⟩),.string (s.extract 0 k)] W fun e w'=>∃b:Bool,e=.returned (.bool b)/\(b=true↔A k)/\Below W.heap.size W w')
  (HM2:∀W k,k<=s.size->Below w.heap.size w W->Calls Tryz.prog 83 #[.pointer (some ⟨n2,0,none⟩),.string (s.extract k s.size)] W fun e w'=>∃b:Bool,e=.returned (.bool b)/\(b=true↔B k)/\Below W.heap.size W w') :
  Calls Tryz.prog 182 #[.pointer (some ⟨n1,0,none⟩),.pointer (some ⟨n2,0,none⟩),.string s] w fun e w'=>e=.returned (.tuple #[.string (s.extract 0 i),.string (s.extract i s.size)])/\Below w.heap.size w w':=by
 have H1:Hid (∀W k,k<=s.size->Below w.heap.size w W->Calls Tryz.prog 83 #[.pointer (some ⟨n1,0,none⟩),.string (s.extract 0 k)] W fun e w'=>∃b:Bool,e=.returned (.bool b)/\(b=true↔A k)/\Below W.heap.size W w'):=HM1;have H2:Hid (∀W k,k<=s.size->Below w.heap.size w W->Calls Tryz.prog 83 #[.pointer (some ⟨n2,0,none⟩),.string (s.extract k s.size)] W fun e w'=>∃b:Bool,e=.returned (.bool b)/\(b=true↔B k)/\Below W.heap.size W w'):=HM2;have HLO:Hid (∀k,k<i->A k->B k->False):=hlo;have HAT:Hid (i<s.size->A i/\B i):=hat;clear HM1 HM2 hlo hat;go_enter Tryz.func182,Tryz.ntmps182;go_wp2_with fail;go_loopw [11] (fun t wr=>∃k:Nat,k<=i/\t=.int .i64 k/\Below w.heap.size w wr) (fun t _=>s.size-(intOf t).toNat)
 case atStart=>exact⟨0,Nat.zero_le _,rfl,Below.refl _ _⟩
 case round=>
  obtain⟨k,hk,rfl,hbw⟩:=hrel
  by_cases hlt:k<s.size
  ·have hz2:(k:Int)<(s.size:Int):=by omega
   have hz0:(0:Int)<=(k:Int):=by omega
   have hz3:(k:Int)<=(s.size:Int):=by omega
   have hC:=H1.out wr k (by omega) hbw;go_wp2_with fail;refine hC.mono ?_;clear hC;rintro e w2 ⟨b,rfl,hb,hb2⟩;have HE:Hid (b=true↔A k):=hb;have hbw2:=Below.join hbw hb2;clear hb;cases b with
   | false=>
    have HN:Hid (¬A k):=fun h=>(by have:=HE.out.2 h;cases this);have HKI:Hid (k≠i):=fun e=>HN.out (by subst e;exact(HAT.out hlt).1);clear HE;go_wp2_with fail;go_roundw
    case rel=>exact⟨k+1,by have:=HKI.out;omega,by go_num,hbw2⟩
    case measure=>simp[intOf];omega
   | true=>
    have HA:Hid (A k):=HE.out.1 rfl;have hC:=H2.out w2 k (by omega) hbw2;clear HE;go_wp2_with fail;refine hC.mono ?_;clear hC;rintro e w3 ⟨b,rfl,hb,hb3⟩;have HE:Hid (b=true↔B k):=hb;have hbw3:=Below.join hbw2 hb3;clear hb;cases b with
    | false=>
     have HN:Hid (¬B k):=fun h=>(by have:=HE.out.2 h;cases this);have HKI:Hid (k≠i):=fun e=>HN.out (by subst e;exact(HAT.out hlt).2);clear HE;go_wp2_with fail;go_roundw
     case rel=>exact⟨k+1,by have:=HKI.out;omega,by go_num,hbw3⟩
     case measure=>simp[intOf];omega
    | true=>
     have HKI:Hid (k=i):=by
      show k=i;rcases Nat.lt_or_ge k i with h|h
      ·exact absurd (HLO.out k h HA.out (HE.out.1 rfl)) (by simp)
      ·omega
     clear HE;go_wp2_with fail;go_region
     all_goals
      go_wp2_with fail;go_ret2;exact⟨by rw[HKI.out];rfl,Below.join hbw3 (Below.refl _ _).drew⟩
  ·have hz2:¬(k:Int)<(s.size:Int):=by omega
   have HKI:Hid (i=s.size):=by show i=s.size;omega
   go_wp2_with fail;go_ret2;exact⟨by rw[HKI.out,tQk,tQm];rfl,hbw⟩
theorem uQl:(Tryz.prog.info? 9).map (fun i=>(i.zero,i.size,i.bytes))=some (some (.string ⟨#[]⟩),1,16):=by kernel_rfl
theorem cQy {w:World}{base:Nat}{e:TypeId}{size:Nat}{v:Value}{n:Nat}{xs:List Value}(h:w.ownsRow base e size v n xs):∃a k c,v=.slice a k c:=by
 rcases h.2 with⟨rfl,_⟩|⟨g,cap,cur,rfl,_⟩
 ·exact⟨_,_,_,rfl⟩
 ·exact⟨_,_,_,rfl⟩
abbrev A4 (x:List UInt8):Value:=.string ⟨x.toArray⟩
def cQ4:Value->Nat
 | .string t=>t.size
 | _=>0
theorem mQw (x:List UInt8):cQ4 (A4 x)=x.length:=by simp[cQ4,ByteArray.size]
theorem yQr (n1 n2:Nat)(ps:List (List UInt8))(hne:∀x,x∈ps->x≠[])(hlen:ps.length<=1048576)(w:World)
  (HC:∀W j (hj:j<ps.length),Below w.heap.size w W->Calls Tryz.prog 182 #[.pointer (some ⟨n1,0,none⟩),.pointer (some ⟨n2,0,none⟩),A4 (ps.drop j).flatten] W fun e w'=>e=.returned (.tuple #[A4 ps[j],A4 (ps.drop (j+1)).flatten])/\Below W.heap.size W w') :
  Calls Tryz.prog 211 #[.pointer (some ⟨n1,0,none⟩),.pointer (some ⟨n2,0,none⟩),A4 ps.flatten] w fun e w'=>∃v,e=.returned v/\w'.ownsRow w.heap.size 9 1 v ps.length (ps.map A4)/\Below w.heap.size w w':=by
 have H1:Hid (∀W j (hj:j<ps.length),Below w.heap.size w W->Calls Tryz.prog 182 #[.pointer (some ⟨n1,0,none⟩),.pointer (some ⟨n2,0,none⟩),A4 (ps.drop j).flatten] W fun e w'=>e=.returned (.tuple #[A4 ps[j],A4 (ps.drop (j+1)).flatten])/\Below W.heap.size W w'):=HC;have HNE:Hid (∀x,x∈ps->x≠[]):=hne;obtain⟨q,hq,hq0,hq1,hqb⟩:=info_parts uQl;clear HC hne;go_enter Tryz.func211,Tryz.ntmps211;go_wp2_with fail;go_loopw [7,8] (fun pv rv wr=>∃j:Nat,j<=ps.length/\rv=A4 (ps.drop j).flatten/\wr.ownsRow w.heap.size 9 1 pv j ((ps.take j).map A4)/\Below w.heap.size w wr) (fun _ rv _=>(cQ4 rv))
 case atStart=>exact⟨0,Nat.zero_le _,rfl,World.ownsRow_nil _ _ _ _,Below.refl _ _⟩
 case round=>
  obtain⟨j,hj,rfl,hown,hbw⟩:=hrel;obtain⟨v1,v2,v3,rfl⟩:=cQy hown;have HO:Hid (wr.ownsRow w.heap.size 9 1 (.slice v1 v2 v3) j ((ps.take j).map A4)):=hown;clear hown
  by_cases hlt:j<ps.length
  ·have hC:=H1.out wr j hlt hbw
   have HS:Hid ((ps.drop j).flatten=ps[j]++(ps.drop (j+1)).flatten):=by
    show _=_;rw[List.drop_eq_getElem_cons hlt,List.flatten_cons]
   have HT:Hid (ps.take (j+1)=ps.take j++[ps[j]]):=List.take_succ_eq_append_getElem hlt;have HX:Hid (ps[j]≠[]):=HNE.out _ (List.getElem_mem _);have HSN:Hid ((ps.drop j).flatten≠[]):=by
    intro e;rw[HS.out]at e;exact HX.out (List.append_eq_nil_iff.1 e).1
   have HME:Hid (cQ4 (A4 (ps.drop (j+1)).flatten)<cQ4 (A4 (ps.drop j).flatten)):=by
    show _<_;rw[mQw,mQw,HS.out,List.length_append];have:=List.length_pos_iff.2 HX.out;omega
   have hnq:(ps.drop j).flatten.isEmpty=false:=by rw[List.isEmpty_eq_false_iff];exact HSN.out
   generalize ps[j]=x at *;generalize (ps.drop j).flatten=r1 at *;generalize hr2:(ps.drop (j+1)).flatten=r2 at *;have HR2:Hid (r2=(ps.drop (j+1)).flatten):=hr2.symm;clear hr2;go_wp2_with fail;refine hC.mono ?_;clear hC;rintro e w2 ⟨rfl,hb2⟩;have hbw2:=Below.join hbw hb2;have hz2:=hbw2.size;have hoa:=(HO.out.kept (K3 hb2 none) (by
    cases hv:(Value.slice v1 v2 v3).ownBlock with
    | none=>exact .inl rfl
    | some m=>exact .inr (by simp))).alloc (.cells #[A4 x] 9)
   have hcn:=aQt w2 (A4 x) 9;go_wp2_with (at_builtin;refine O3 _ rfl _ _ 41 rfl w.heap.size 9 q _ 1 16 Tryz.underlying41 hq hq0 hq1 hqb rfl (by omega) (.slice v1 v2 v3) j ((ps.take j).map A4) rfl hoa ⟨w2.heap.size,0,none⟩ 1 1 [A4 x] rfl ?l1 hcn ?l0 ?l2 ?l3 ?l4 ?l5 ?_)
   case l1=>rfl
   case l0=>intro u hu;simp at hu;subst hu;rfl
   case l2=>unfold maxLen;omega
   case l3=>omega
   case l4=>simp;omega
   case l5=>omega
   intro v' w' ho hg hvv;have hbw':Below w.heap.size w w':=(hbw2.alloc hz2 (.cells #[A4 x] 9)).grown hg (by simp;omega) (fun m e=>(hoa.lt m e).1);have HO7:Hid (w'.ownsRow w.heap.size 9 1 v' (j+1) ((ps.take (j+1)).map A4)):=by
    show World.ownsRow _ _ _ _ _ _ _;rw[HT.out,List.map_append,List.map_take];exact ho
   clear hg ho hvv hoa hcn HO;go_wp2_with fail;go_roundw
   case rel=>exact⟨j+1,by omega,by rw[HR2.out],HO7.out,hbw'⟩
   case measure=>exact HME.out
  ·have hjj:j=ps.length:=by omega
   subst hjj;have HD:Hid ((ps.drop ps.length).flatten=[]):=by show _=_;simp
   have HO7:Hid (wr.ownsRow w.heap.size 9 1 (.slice v1 v2 v3) ps.length (ps.map A4)):=by
    have:=HO.out;rw[List.take_of_length_le (Nat.le_refl _)]at this;exact this
   have hnq:(ps.drop ps.length).flatten.isEmpty=true:=by rw[HD.out];rfl
   generalize (ps.drop ps.length).flatten=r1 at *;go_wp2_with fail;go_ret;exact⟨_,rfl,HO7.out,hbw⟩
end Go.Proofs.YtfklinjaajafgaaGreatDoor
namespace Go.Proofs
open Go.Shelf
def Tryz.lays169_ren:Go.Shelf.Ren:=⟨fun|169=>210|n=>n,fun|70=>241|9=>9|0=>0|72=>243|37=>105|127=>176|3=>3|5=>5|n=>n,fun|n=>n⟩
theorem Tryz.lays169:Go.Proofs.Lays.n169 Tryz.prog Tryz.lays169_ren:={
 mixed:=by kernel_rfl
 f169:=Tryz.func210.trans (congrArg some (by kernel_rfl))
 t0:=Tryz.underlying0
 a0:=Tryz.isAgg0
 z0:=Tryz.sizeOf0
 v0:=Tryz.zeroValue0
 t3:=Tryz.underlying3
 a3:=Tryz.isAgg3
 z3:=Tryz.sizeOf3
 v3:=Tryz.zeroValue3
 t9:=Tryz.underlying9
 a9:=Tryz.isAgg9
 z9:=Tryz.sizeOf9
 v9:=Tryz.zeroValue9
 t37:=Tryz.underlying105
 a37:=Tryz.isAgg105
 z37:=Tryz.sizeOf105
 v37:=Tryz.zeroValue105
 t70:=Tryz.underlying241
 a70:=Tryz.isAgg241
 z70:=Tryz.sizeOf241
 v70:=Tryz.zeroValue241
 t72:=Tryz.underlying243
 a72:=Tryz.isAgg243
 z72:=Tryz.sizeOf243
 v72:=Tryz.zeroValue243
 t127:=Tryz.underlying176
 a127:=Tryz.isAgg176
 z127:=Tryz.sizeOf176
 v127:=Tryz.zeroValue176}
theorem Tryz.Builder_Extra_169:Builder.Extra Tryz.prog Tryz.lays169_ren:={
 sizeBuilder:=by kernel_rfl
 liesBuilder:=by kernel_rfl
 t5:=Tryz.underlying5
 a5:=Tryz.isAgg5
 z5:=Tryz.sizeOf5
 v5:=Tryz.zeroValue5
 infoByte:=by kernel_rfl
 cellsByte:=by kernel_rfl
 sizeByte:=by kernel_rfl
 neB5:=by decide}
open Go.RowKit in
theorem Tryz.Builder_String_any_k (B b:Nat)(l:List UInt8)(w:World)(h:Lib.IsBuilderF 243 5 B b (Lib.byteCells l) w)(hBw:B<=w.heap.size) :
  Calls Tryz.prog 210 #[.pointer (some ⟨b,0,none⟩)] w fun e w'=>e=.returned (.string ⟨l.toArray⟩)/\(Lib.IsBuilderF 243 5 B b (Lib.byteCells l) w'/\Below B w w'/\Lib.OthersKept 5 (some b) w w'):=Any.Builder_String_any_k Tryz.lays169 Tryz.Builder_Extra_169 B b l w h hBw
def Tryz.laysM316_ren:Go.Shelf.Ren:=⟨fun|316=>87|n=>n,fun|9=>9|3=>3|4=>4|37=>105|0=>0|127=>176|5=>5|n=>n,fun|n=>n⟩
theorem Tryz.laysM316:Go.Proofs.LaysM.n316 Tryz.prog Tryz.laysM316_ren:={
 mixed:=by kernel_rfl
 f316:=Tryz.func87.trans (congrArg some (by kernel_rfl))
 t0:=Tryz.underlying0
 a0:=Tryz.isAgg0
 z0:=Tryz.sizeOf0
 v0:=Tryz.zeroValue0
 t3:=Tryz.underlying3
 a3:=Tryz.isAgg3
 z3:=Tryz.sizeOf3
 v3:=Tryz.zeroValue3
 t4:=Tryz.underlying4
 a4:=Tryz.isAgg4
 z4:=Tryz.sizeOf4
 v4:=Tryz.zeroValue4
 t9:=Tryz.underlying9
 a9:=Tryz.isAgg9
 z9:=Tryz.sizeOf9
 v9:=Tryz.zeroValue9
 t37:=Tryz.underlying105
 a37:=Tryz.isAgg105
 z37:=Tryz.sizeOf105
 v37:=Tryz.zeroValue105
 t127:=Tryz.underlying176
 a127:=Tryz.isAgg176
 z127:=Tryz.sizeOf176
 v127:=Tryz.zeroValue176
 t5:=Tryz.underlying5
 a5:=Tryz.isAgg5
 z5:=Tryz.sizeOf5
 v5:=Tryz.zeroValue5
 i0:=by kernel_rfl
 i3:=by kernel_rfl
 i4:=by kernel_rfl
 i5:=by kernel_rfl
 i9:=by kernel_rfl
 i37:=by kernel_rfl
 i127:=by kernel_rfl}
open Go.RowKit in
theorem Tryz.stringslite_Clone (s:ByteArray)(w:World)(hlim:s.size<=281474976710656) :
  Calls Tryz.prog 87 #[.string s] w fun e w'=>e=.returned (.string s)/\Below w.heap.size w w':=Any.stringslite_Clone Tryz.laysM316 s w hlim
def Tryz.lays166_ren:Go.Shelf.Ren:=⟨fun|166=>209|240=>214|276=>215|n=>n,fun|0=>0|3=>3|4=>4|9=>9|20=>20|37=>105|70=>241|72=>243|75=>80|164=>249|5=>5|80=>205|n=>n,fun|n=>n⟩
theorem Tryz.lays166:Go.Proofs.Lays.n166 Tryz.prog Tryz.lays166_ren:={
 mixed:=by kernel_rfl
 f166:=Tryz.func209.trans (congrArg some (by kernel_rfl))
 f240:=Tryz.func214.trans (congrArg some (by kernel_rfl))
 f276:=Tryz.func215.trans (congrArg some (by kernel_rfl))
 t0:=Tryz.underlying0
 a0:=Tryz.isAgg0
 z0:=Tryz.sizeOf0
 v0:=Tryz.zeroValue0
 t3:=Tryz.underlying3
 a3:=Tryz.isAgg3
 z3:=Tryz.sizeOf3
 v3:=Tryz.zeroValue3
 t4:=Tryz.underlying4
 a4:=Tryz.isAgg4
 z4:=Tryz.sizeOf4
 v4:=Tryz.zeroValue4
 t9:=Tryz.underlying9
 a9:=Tryz.isAgg9
 z9:=Tryz.sizeOf9
 v9:=Tryz.zeroValue9
 t20:=Tryz.underlying20
 a20:=Tryz.isAgg20
 z20:=Tryz.sizeOf20
 v20:=Tryz.zeroValue20
 t37:=Tryz.underlying105
 a37:=Tryz.isAgg105
 z37:=Tryz.sizeOf105
 v37:=Tryz.zeroValue105
 t70:=Tryz.underlying241
 a70:=Tryz.isAgg241
 z70:=Tryz.sizeOf241
 v70:=Tryz.zeroValue241
 t72:=Tryz.underlying243
 a72:=Tryz.isAgg243
 z72:=Tryz.sizeOf243
 v72:=Tryz.zeroValue243
 t75:=Tryz.underlying80
 a75:=Tryz.isAgg80
 z75:=Tryz.sizeOf80
 v75:=Tryz.zeroValue80
 t164:=Tryz.underlying249
 a164:=Tryz.isAgg249
 z164:=Tryz.sizeOf249
 v164:=Tryz.zeroValue249}
theorem Tryz.Builder_Extra_166:Builder.Extra Tryz.prog Tryz.lays166_ren:={
 sizeBuilder:=by kernel_rfl
 liesBuilder:=by kernel_rfl
 t5:=Tryz.underlying5
 a5:=Tryz.isAgg5
 z5:=Tryz.sizeOf5
 v5:=Tryz.zeroValue5
 infoByte:=by kernel_rfl
 cellsByte:=by kernel_rfl
 sizeByte:=by kernel_rfl
 neB5:=by decide}
open Go.RowKit in
theorem Tryz.Builder_WriteString_k (B b:Nat)(bs:List Value)(s:ByteArray)(w:World)(h:Lib.IsBuilderF 243 5 B b bs w)(hlen:bs.length+s.size<=140737488355328)(hBw:B<=w.heap.size) :
  Calls Tryz.prog 209 #[.pointer (some ⟨b,0,none⟩),.string s] w fun e w'=>e=.returned (.tuple #[.int .i64 s.size,.nilIface])/\(Lib.BuilderAtF 243 5 B b (.pointer (some ⟨b,0,none⟩)) (bs++Lib.strCells s) w'/\Below B w w'/\Lib.OthersKept 5 (some b) w w'):=
 Any.Builder_WriteString_k Tryz.lays166 Tryz.Builder_Extra_166 B b bs s w h hlen hBw
end Go.Proofs
namespace Go.Proofs.YtfklinjaajafgaaGreatDoor
open Go.RowKit
theorem gQa {l:List (List UInt8)}{j:Nat}(h:j<l.length):l.getD j []=l[j]:=by simp[List.getD,h]
structure Kept (S:Nat->Prop)(w w':World):Prop where
 os:w'.os=w.os
 tape:w'.tape=w.tape
 output:w'.output=w.output
 size:w.heap.size<=w'.heap.size
 block:∀k,k<w.heap.size->¬S k->w'.heap[k]?=w.heap[k]?
theorem Kept.refl (S:Nat->Prop)(w:World):Kept S w w:=⟨rfl,rfl,rfl,Nat.le_refl _,fun _ _ _=>rfl⟩
theorem Kept.trans {S:Nat->Prop}{a b c:World}(h:Kept S a b)(k:Kept S b c):Kept S a c:=⟨k.os.trans h.os,k.tape.trans h.tape,k.output.trans h.output,Nat.le_trans h.size k.size,fun i hi hS=>(k.block i (Nat.lt_of_lt_of_le hi h.size) hS).trans (h.block i hi hS)⟩
theorem Kept.of {S:Nat->Prop}{w w':World}(h:Below w.heap.size w w'):Kept S w w':=⟨h.os,h.tape,h.output,h.size,fun k hk _=>h.block k hk⟩
theorem Kept.mono {S S':Nat->Prop}{w w':World}(h:Kept S w w')(hS:∀k,S k->S' k):Kept S' w w':=⟨h.os,h.tape,h.output,h.size,fun k hk hn=>h.block k hk (fun hs=>hn (hS k hs))⟩
theorem Kept.below {S:Nat->Prop}{w w':World}(h:Kept S w w'){B:Nat}(hB:B<=w.heap.size)(hS:∀k,S k->B<=k):Below B w w':=⟨h.os,h.tape,h.output,h.size,fun k hk=>h.block k (by omega) (fun hs=>by have:=hS k hs;omega)⟩
theorem Kept.none {w w':World}(h:Kept (fun _=>False) w w'):Below w.heap.size w w':=h.below (Nat.le_refl _) (fun _ h=>h.elim)
theorem qQu {T e:TypeId}{B b:Nat}{bs:List Value}{w w':World}{S:Nat->Prop}(h:Lib.IsBuilderF T e B b bs w)(hb:Kept S w w')(hS:∀k,S k->k<B):Lib.IsBuilderF T e B b bs w':=by
 have hk:∀k,B<=k->k<w.heap.size->w'.heap[k]?=w.heap[k]?:=fun k h1 h2=>hb.block k h2 (fun hs=>by have:=hS k hs;omega);have key:∀p,Lib.BuilderAtF T e B b p bs w->Lib.BuilderAtF T e B b p bs w':=by
  rintro p ⟨h1,v,h2,⟨h3,h5⟩,h4⟩;refine⟨h1,v,?_,⟨h3,?_⟩,h4⟩
  ·rw[hk b h1 (Array.getElem?_eq_some_iff.1 h2).1];exact h2
  ·rcases h5 with h5|⟨g,cap,cur,fz,e1,e2,e3,e4⟩
   ·exact .inl h5
   ·exact .inr ⟨g,cap,cur,fz,e1,e2,by rw[hk g e2 (Array.getElem?_eq_some_iff.1 e3).1];exact e3,e4⟩
 exact h.imp (key _) (key _)
theorem kQx (ps outs:List (List UInt8))(hps:ps.length<=1048576)(ho:outs.length=ps.length)(hlen:outs.flatten.length<=70368744177664)(f:Nat)(caps:Array Value)(v:Value)(w:World)(base:Nat)(hown:w.ownsRow base 9 1 v ps.length (ps.map A4))
  (S:Nat->Prop) (hS:∀k,S k->k<w.heap.size) (hv:∀k,v.ownBlock=some k->¬S k) (I:Nat->World->Prop) (hI0:I 0 w) (hIk:∀j W W',I j W->(∀k,k<w.heap.size->W'.heap[k]?=W.heap[k]?)->I j W')
  (hcf:∀(x:Value) (W:World),(callFunc f (#[x]++caps)).run Tryz.prog W=.ok (.enter f (#[x]++caps)) W)
  (HT:∀W j (hj:j<ps.length),Kept S w W->I j W->Calls Tryz.prog f (#[A4 ps[j]]++caps) W fun e w'=>e=.returned (A4 (outs.getD j []))/\Kept S W w'/\I (j+1) w') :
  Calls Tryz.prog 195 #[v,.func (.func f) #[] caps] w fun e w'=>e=.returned (A4 outs.flatten)/\Kept S w w':=by
 have H1:Hid (∀W j (hj:j<ps.length),Kept S w W->I j W->Calls Tryz.prog f (#[A4 ps[j]]++caps) W fun e w'=>e=.returned (A4 (outs.getD j []))/\Kept S W w'/\I (j+1) w'):=HT;have HIk:Hid (∀j W W',I j W->(∀k,k<w.heap.size->W'.heap[k]?=W.heap[k]?)->I j W'):=hIk;have HSl:Hid (∀k,S k->k<w.heap.size):=hS;obtain⟨v1,v2,v3,rfl⟩:=cQy hown;have hv2:v2=ps.length:=by
  rcases hown.2 with⟨e,h0⟩|⟨g,cap,cur,e,_⟩
  ·injection e with e1 e2 e3;omega
  ·injection e with e1 e2 e3
 subst hv2;have HX:Hid (∀W,Kept S w W->∀j (hj:j<ps.length),∃g,v1=some ⟨g,0,none⟩/\W.cell? ⟨g,j,none⟩=some (A4 ps[j])):=fun W hW j hj=>by
  rcases hown.2 with⟨e,h0⟩|⟨g,cap,cur,e,_⟩
  ·omega
  ·injection e with e1 e2 e3
   subst e1;subst e3;refine⟨g,rfl,?_⟩;have hlt:g<w.heap.size:=(hown.lt g rfl).2;rw[World.cell?_of_block (w:=w) (a:=⟨g,j,none⟩) (hW.block g hlt (hv g rfl)),hown.cellAt j (by omega),List.getElem?_map,List.getElem?_eq_getElem hj];rfl
 have hBI:Lib.IsBuilderF 243 5 w.heap.size w.heap.size (Lib.byteCells (outs.take 0).flatten) (w.alloc (.cells #[.pointer none,.slice none 0 0] 243)):=Lib.IsBuilderF.of (Lib.fresh_isBuilder _ _ w);have HBI:Hid _:=hBI;have hb0:Kept S w (w.alloc (.cells #[.pointer none,.slice none 0 0] 243)):=Kept.of (A5 w _);have HI0:Hid (I 0 (w.alloc (.cells #[.pointer none,.slice none 0 0] 243))):=hIk 0 w _ hI0 (fun k hk=>Below.heap_alloc _ _ _ hk);have HL:Hid (∀j (hj:j<ps.length),(outs.take j).flatten.length+(outs.getD j []).length<=70368744177664):=fun j hj=>by
  have h1:(outs.take (j+1)).flatten=(outs.take j).flatten++outs.getD j []:=by
   rw[List.take_succ_eq_append_getElem (by omega),List.flatten_append,gQa (by omega)];simp
  have h2:outs.flatten=(outs.take (j+1)).flatten++(outs.drop (j+1)).flatten:=by
   rw[<-List.flatten_append,List.take_append_drop]
  rw[h2,h1,List.length_append,List.length_append]at hlen;omega
 have HLe:Hid (outs.length=ps.length):=ho;clear HT hown hBI hlen hIk hI0 hS hv ho;go_enter Tryz.func195,Tryz.ntmps195;go_wp2_with fail;generalize w.alloc (.cells #[.pointer none,.slice none 0 0] 243)=W0 at *;go_loopw [10] (fun t wr=>∃j:Nat,j<=ps.length/\t=.int .i64 j/\Lib.IsBuilderF 243 5 w.heap.size w.heap.size (Lib.byteCells (outs.take j).flatten) wr/\Kept S w wr/\I j wr) (fun t _=>ps.length-(intOf t).toNat)
 case atStart=>exact⟨0,Nat.zero_le _,rfl,HBI.out,hb0,HI0.out⟩
 case round=>
  obtain⟨j,hj,rfl,hbi,hbw,hIj⟩:=hrel;have HIj:Hid (I j wr):=hIj;have HB:Hid (Lib.IsBuilderF 243 5 w.heap.size w.heap.size (Lib.byteCells (outs.take j).flatten) wr):=hbi;clear hbi hIj
  by_cases hlt:j<ps.length
  ·have hz2:(j:Int)<(ps.length:Int):=by omega
   have hz0:(0:Int)<=(j:Int):=by omega
   obtain⟨g,rfl,hcell⟩:=HX.out wr hbw j hlt;have hC:=H1.out wr j hlt hbw HIj.out;have HT:Hid ((outs.take (j+1)).flatten=(outs.take j).flatten++outs.getD j []):=by
    show _=_;rw[List.take_succ_eq_append_getElem (by have:=HLe.out;omega),List.flatten_append,gQa (by have:=HLe.out;omega)];simp
   have HLj:=HL.out j hlt;generalize ps[j]=x at *;generalize outs.getD j []=y at *;go_wp2_with fail;refine hC.mono ?_;clear hC;rintro e w2 ⟨rfl,hb2,hI2⟩;have hbw2:=hbw.trans hb2;have hW:=Tryz.Builder_WriteString_k w.heap.size w.heap.size _ ⟨y.toArray⟩ w2 (qQu HB.out hb2 HSl.out) (by rw[Lib.byteCells_length];show _+y.toArray.size<=_;rw[List.size_toArray];omega) hbw2.size;have HS:Hid (Lib.byteCells (outs.take j).flatten++Lib.strCells ⟨y.toArray⟩=Lib.byteCells (outs.take (j+1)).flatten):=by
    show _=_;rw[HT.out,Lib.strCells_eq,Lib.byteCells_append]
   go_wp2_with fail;refine hW.mono ?_;clear hW;rintro e w3 ⟨rfl,h3,hb3,_⟩;have hbw3:Kept S w w3:=⟨hb3.os.trans hbw2.os,hb3.tape.trans hbw2.tape,hb3.output.trans hbw2.output,Nat.le_trans hbw2.size hb3.size,fun k hk hn=>(hb3.block k hk).trans (hbw2.block k hk hn)⟩;have HI3:Hid (I (j+1) w3):=HIk.out _ _ _ hI2 hb3.block;clear hI2;have HB3:Hid (Lib.IsBuilderF 243 5 w.heap.size w.heap.size (Lib.byteCells (outs.take (j+1)).flatten) w3):=by
    show Lib.IsBuilderF _ _ _ _ _ _;rw[<-HS.out];exact .inr h3
   clear h3 HB;go_wp2_with fail;go_roundw
   case rel=>exact⟨j+1,by omega,by go_num,HB3.out,hbw3,HI3.out⟩
   case measure=>simp[intOf];omega
  ·have hz2:¬(j:Int)<(ps.length:Int):=by omega
   have hjj:j=ps.length:=by omega
   subst hjj;have HB3:Hid (Lib.IsBuilderF 243 5 w.heap.size w.heap.size (Lib.byteCells outs.flatten) wr):=by
    have:=HB.out;rw[List.take_of_length_le (Nat.le_of_eq HLe.out)]at this;exact this
   have hS:=Tryz.Builder_String_any_k w.heap.size w.heap.size _ wr HB3.out hbw.size;go_wp2_with fail;refine hS.mono ?_;rintro e w4 ⟨rfl,_,hb4,_⟩;have hbw4:Kept S w w4:=⟨hb4.os.trans hbw.os,hb4.tape.trans hbw.tape,hb4.output.trans hbw.output,Nat.le_trans hbw.size hb4.size,fun k hk hn=>(hb4.block k hk).trans (hbw.block k hk hn)⟩;clear hS;go_wp2_with fail;go_ret;exact⟨rfl,hbw4⟩
theorem kQy (ps:List (List UInt8))(hps:ps.length<=1048576)(val:List UInt8->List UInt8)(hlen:((ps.map val).flatten).length<=70368744177664)(f:Nat)(caps:Array Value)(v:Value)(w:World)(base:Nat)(hown:w.ownsRow base 9 1 v ps.length (ps.map A4))
  (hcf:∀(x:Value) (W:World),(callFunc f (#[x]++caps)).run Tryz.prog W=.ok (.enter f (#[x]++caps)) W)
  (HT:∀W j (hj:j<ps.length),Below w.heap.size w W->Calls Tryz.prog f (#[A4 ps[j]]++caps) W fun e w'=>e=.returned (A4 (val ps[j]))/\Below W.heap.size W w') :
  Calls Tryz.prog 195 #[v,.func (.func f) #[] caps] w fun e w'=>e=.returned (A4 (ps.map val).flatten)/\Below w.heap.size w w':=by
 refine(kQx ps (ps.map val) hps (by simp) hlen f caps v w base hown (fun _=>False) (fun _ h=>h.elim) (fun _ _ h=>h) (fun _ _=>True) trivial (fun _ _ _ _ _=>trivial) hcf (fun W j hj hW _=>?_)).mono (fun e w' h=>⟨h.1,h.2.none⟩);refine(HT W j hj hW.none).mono (fun e w' h=>⟨?_,Kept.of h.2,trivial⟩);rw[gQa (by simpa using hj),List.getElem_map];exact h.1
theorem fQ7 (l:List UInt8)(k:Nat):(⟨l.toArray⟩:ByteArray).extract 0 k=⟨(l.take k).toArray⟩:=by
 apply ByteArray.ext
 rw[ByteArray.data_extract];simp
theorem jQe (l:List UInt8)(k:Nat):(⟨l.toArray⟩:ByteArray).extract k (⟨l.toArray⟩:ByteArray).size=⟨(l.drop k).toArray⟩:=by
 have:(⟨l.toArray⟩:ByteArray).size=l.length:=by simp[ByteArray.size]
 rw[this];apply ByteArray.ext
 rw[ByteArray.data_extract];simp;exact List.take_of_length_le (by rw[List.length_drop];omega)
theorem qQf {w:World}{b b':Nat}{e:TypeId}{size:Nat}{v:Value}{n:Nat}{xs:List Value}(h:w.ownsRow b e size v n xs)(hb:b'<=b):w.ownsRow b' e size v n xs:=by
 refine⟨h.1,?_⟩;rcases h.2 with h2|⟨g,cap,cur,hv,hbg,h3⟩
 ·exact .inl h2
 ·exact .inr ⟨g,cap,cur,hv,Nat.le_trans hb hbg,h3⟩
theorem wQz {p q:Ls.Pat}(ht:¬Ls.dX0 p q){u v:List UInt8}(hu:Ls.inL p u)(hv:Ls.inL q v){i:Nat}(hi:i<u.length)(h1:Ls.inL p ((u++v).take i))(h2:Ls.inL q ((u++v).drop i)):False:=by
 rw[List.take_append_of_le_length (by omega)]at h1;rw[List.drop_append_of_le_length (by omega)]at h2;refine ht ⟨u.take i,u.drop i,v,?_,h1,by rw[List.take_append_drop];exact hu,h2,hv⟩;intro e;have:=congrArg List.length e;rw[List.length_drop,List.length_nil]at this;omega
theorem hQy {w:World}{G:Nat->Prop}(hG:Old w G){a b:Ls.D}(ha:Ls.dsize a<=24)(hb:Ls.dsize b<=24)(ht:¬Ls.dX0 (Ls.dXu a) (Ls.dXu b)){u v:List UInt8}(hu:Ls.inL (Ls.dXu a) u)(hv:Ls.inL (Ls.dXu b) v)(hl:u.length+v.length<=1048576){x1 x2:Value}{n1 n2:Nat}(h1:Tx w G x1 n1 a)(h2:Tx w G x2 n2 b) :
  Calls Tryz.prog 182 #[.pointer (some ⟨n1,0,none⟩),.pointer (some ⟨n2,0,none⟩),A4 (u++v)] w fun e w'=>e=.returned (.tuple #[A4 u,A4 v])/\Below w.heap.size w w':=by
 have hsz:(⟨(u++v).toArray⟩:ByteArray).size=u.length+v.length:=by simp[ByteArray.size]
 refine(sQo n1 n2 ⟨(u++v).toArray⟩ (by omega) w (fun k=>Ls.inL (Ls.dXu a) ((u++v).take k)) (fun k=>Ls.inL (Ls.dXu b) ((u++v).drop k)) u.length (by omega) (fun k hk x y=>wQz ht hu hv hk x y) (fun _=>⟨by rw[List.take_left];exact hu,by rw[List.drop_left];exact hv⟩) (fun W k hk hW=>?_) (fun W k hk hW=>?_)).mono ?_
 ·rw[fQ7]
  exact cQk (h1.below hG hW) ha ⟨((u++v).take k).toArray⟩ (by simp[ByteArray.size];omega)
 ·rw[jQe]
  exact cQk (h2.below hG hW) hb ⟨((u++v).drop k).toArray⟩ (by simp[ByteArray.size];omega)
 ·rintro e w' ⟨rfl,hbl⟩
  rw[fQ7,jQe,List.take_left,List.drop_left];exact⟨rfl,hbl⟩
theorem nQ1 {w:World}{G:Nat->Prop}(hG:Old w G){a:Ls.D}(ha:Ls.dsize a<=24)(h0:¬Ls.inL (Ls.dXu a) [])(ht:¬Ls.dX0 (Ls.dXu a) (Ls.dXu (Ls.rep 5 a))){ps:List (List UInt8)}(hps:∀x,x∈ps->Ls.inL (Ls.dXu a) x)(hl:ps.flatten.length<=1048576){x1 x2:Value}{n1 n2:Nat}(h1:Tx w G x1 n1 a)(h2:Tx w G x2 n2 (Ls.rep 5 a)) :
  Calls Tryz.prog 211 #[.pointer (some ⟨n1,0,none⟩),.pointer (some ⟨n2,0,none⟩),A4 ps.flatten] w fun e w'=>∃v,e=.returned v/\w'.ownsRow w.heap.size 9 1 v ps.length (ps.map A4)/\Below w.heap.size w w':=by
 have hne:∀x,x∈ps->x≠[]:=fun x hx e=>h0 (by have:=hps x hx;rw[e]at this;exact this);have hlen:∀qs:List (List UInt8),(∀x,x∈qs->x≠[])->qs.length<=qs.flatten.length:=by
  intro qs;induction qs with
  | nil=>simp
  | cons q qs ih=>
   intro h;have h1:=List.length_pos_iff.2 (h q (List.mem_cons_self ..));have h2:=ih (fun x hx=>h x (List.mem_cons_of_mem _ hx));rw[List.flatten_cons,List.length_append,List.length_cons];omega
 refine yQr n1 n2 ps hne (Nat.le_trans (hlen ps hne) hl) w (fun W j hj hW=>?_);have he:(ps.drop j).flatten=ps[j]++(ps.drop (j+1)).flatten:=by rw[List.drop_eq_getElem_cons hj,List.flatten_cons]
 have hle:(ps.drop j).flatten.length<=ps.flatten.length:=by
  have:ps.flatten=(ps.take j).flatten++(ps.drop j).flatten:=by rw[<-List.flatten_append,List.take_append_drop]
  rw[this,List.length_append];omega
 have hle2:=congrArg List.length he;rw[List.length_append]at hle2;rw[he];refine hQy (G:=G) (fun k hk=>Nat.lt_of_lt_of_le (hG k hk) hW.size) ha (by rw[Ls.eXu];exact ha) ht (hps _ (List.getElem_mem _)) ?_ (by omega) (h1.below hG hW) (h2.below hG hW);rw[Ls.eX5];exact⟨ps.drop (j+1),rfl,fun y hy=>hps y (List.mem_of_mem_drop hy)⟩
theorem aQh {w:World}{G:Nat->Prop}(hG:Old w G){a b:Ls.D}(ha:Ls.dsize a<=24)(hb:Ls.dsize b<=24)(ht:¬Ls.dX0 (Ls.dXu a) (Ls.dXu b)){u v:List UInt8}(hu:Ls.inL (Ls.dXu a) u)(hv:Ls.inL (Ls.dXu b) v)(hl:u.length+v.length<=1048576){t1 t2:TypeId}{y1 y2:Value}{n1 n2:Nat}(h1:Tx w G (.iface t1 y1) n1 a)(h2:Tx w G (.iface t2 y2) n2 b) :
  Calls Tryz.prog 154 #[C8 (.iface t1 y1) n1,C8 (.iface t2 y2) n2,A4 (u++v)] w fun e w'=>e=.returned (.tuple #[A4 u,A4 v])/\Below w.heap.size w w':=by
 have hb0:=C6 w (D9 (.iface t1 y1) n1) (D9 (.iface t2 y2) n2);have hC:=hQy (w:=(w.alloc (D9 (.iface t1 y1) n1)).alloc (D9 (.iface t2 y2) n2)) (G:=G) (fun k hk=>Nat.lt_of_lt_of_le (hG k hk) hb0.size) ha hb ht hu hv hl (h1.below hG hb0) (h2.below hG hb0);have HB:Hid _:=hb0;clear h1 h2 hb0 ht hu hv hl;go_enter Tryz.func154,Tryz.ntmps154;go_wp2_with fail;refine hC.mono ?_;clear hC;rintro e w1 ⟨rfl,hb1⟩;go_wp2_with fail;go_ret2;exact⟨rfl,Below.join HB.out hb1⟩
theorem eQr {w:World}{G:Nat->Prop}(hG:Old w G){a:Ls.D}(ha:Ls.dsize a<=24)(h0:¬Ls.inL (Ls.dXu a) [])(ht:¬Ls.dX0 (Ls.dXu a) (Ls.dXu (Ls.rep 5 a))){ps:List (List UInt8)}(hps:∀x,x∈ps->Ls.inL (Ls.dXu a) x)(hl:ps.flatten.length<=1048576){t1 t2:TypeId}{y1 y2:Value}{n1 n2:Nat}(h1:Tx w G (.iface t1 y1) n1 a)(h2:Tx w G (.iface t2 y2) n2 (Ls.rep 5 a)) :
  Calls Tryz.prog 196 #[C8 (.iface t1 y1) n1,C8 (.iface t2 y2) n2,A4 ps.flatten] w fun e w'=>∃v1 v2 v3,e=.returned (.slice v1 v2 v3)/\w'.ownsRow w.heap.size 9 1 (.slice v1 v2 v3) ps.length (ps.map A4)/\Below w.heap.size w w':=by
 have hb0:=C6 w (D9 (.iface t1 y1) n1) (D9 (.iface t2 y2) n2);have hC:=nQ1 (w:=(w.alloc (D9 (.iface t1 y1) n1)).alloc (D9 (.iface t2 y2) n2)) (G:=G) (fun k hk=>Nat.lt_of_lt_of_le (hG k hk) hb0.size) ha h0 ht hps hl (h1.below hG hb0) (h2.below hG hb0);have HB:Hid _:=hb0;clear h1 h2 hb0 ht hps hl h0;generalize ps.flatten=s at *;go_enter Tryz.func196,Tryz.ntmps196;go_wp2_with fail;refine hC.mono ?_;clear hC;rintro e w1 ⟨v,rfl,ho,hb1⟩;obtain⟨v1,v2,v3,rfl⟩:=cQy ho;have HO:Hid (w1.ownsRow w.heap.size 9 1 (.slice v1 v2 v3) ps.length (ps.map A4)):=qQf ho HB.out.size;clear ho;go_wp2_with fail;go_ret;exact⟨v1,v2,v3,rfl,HO.out,Below.join HB.out hb1⟩
def Turns (w:World)(G:Nat->Prop)(b:Value)(p:List UInt8->Prop)(val:List UInt8->List UInt8):Prop:=
 ∃(f:Nat) (caps:Array Value),b=.func (.func f) #[] caps/\(∀(x:Value) (W:World),(callFunc f (#[x]++caps)).run Tryz.prog W=.ok (.enter f (#[x]++caps)) W)/\
  ∀W,(∀k,G k->W.heap[k]?=w.heap[k]?)->Old W G->∀x:List UInt8,x.length<=60->p x->Calls Tryz.prog f (#[A4 x]++caps) W fun e w'=>e=.returned (A4 (val x))/\Below W.heap.size W w'
theorem Turns.mono {w w':World}{G G':Nat->Prop}(hG:∀k,G k->G' k)(hw:∀k,G k->w'.heap[k]?=w.heap[k]?){b:Value}{p:List UInt8->Prop}{val:List UInt8->List UInt8}(h:Turns w G b p val):Turns w' G' b p val:=by
 obtain⟨f,caps,h1,h2,h3⟩:=h;exact⟨f,caps,h1,h2,fun W hW hO=>h3 W (fun k hk=>(hW k (hG k hk)).trans (hw k hk)) (fun k hk=>hO k (hG k hk))⟩
def Turns2 (w:World)(G:Nat->Prop)(b:Value)(p q:List UInt8->Prop)(val:List UInt8->List UInt8->List UInt8):Prop:=
 ∃(f:Nat) (caps:Array Value),b=.func (.func f) #[] caps/\(∀(x y:Value) (W:World),(callFunc f (#[x,y]++caps)).run Tryz.prog W=.ok (.enter f (#[x,y]++caps)) W)/\
  ∀W,(∀k,G k->W.heap[k]?=w.heap[k]?)->Old W G->∀x y:List UInt8,x.length<=60->y.length<=60->p x->q y->Calls Tryz.prog f (#[A4 x,A4 y]++caps) W fun e w'=>e=.returned (A4 (val x y))/\Below W.heap.size W w'
theorem Turns2.mono {w w':World}{G G':Nat->Prop}(hG:∀k,G k->G' k)(hw:∀k,G k->w'.heap[k]?=w.heap[k]?){b:Value}{p q:List UInt8->Prop}{val:List UInt8->List UInt8->List UInt8}(h:Turns2 w G b p q val):Turns2 w' G' b p q val:=by
 obtain⟨f,caps,h1,h2,h3⟩:=h;exact⟨f,caps,h1,h2,fun W hW hO=>h3 W (fun k hk=>(hW k (hG k hk)).trans (hw k hk)) (fun k hk=>hO k (hG k hk))⟩
def KeyV (w:World)(G:Nat->Prop)(b:Value)(κ:List UInt8->List UInt8):Prop:=
 ∃(f:Nat) (caps:Array Value),b=.func (.func f) #[] caps/\(∀(x:Value) (W:World),(callFunc f (#[x]++caps)).run Tryz.prog W=.ok (.enter f (#[x]++caps)) W)/\
  ∀W,(∀k,G k->W.heap[k]?=w.heap[k]?)->∀x:List UInt8,x.length<=70368744177664->Calls Tryz.prog f (#[A4 x]++caps) W fun e w'=>e=.returned (A4 (κ x))/\Below W.heap.size W w'
theorem KeyV.mono {w w':World}{G G':Nat->Prop}(hG:∀k,G k->G' k)(hw:∀k,G k->w'.heap[k]?=w.heap[k]?){b:Value}{κ:List UInt8->List UInt8}(h:KeyV w G b κ):KeyV w' G' b κ:=by
 obtain⟨f,caps,h1,h2,h3⟩:=h;exact⟨f,caps,h1,h2,fun W hW=>h3 W (fun k hk=>(hW k (hG k hk)).trans (hw k hk))⟩
abbrev I3 (t1:TypeId)(y1:Value)(n1:Nat)(t2:TypeId)(y2:Value)(n2:Nat)(g c u:Value):Array Value:=#[.iface t1 y1,.pointer (some ⟨n1,0,none⟩),.iface t2 y2,.pointer (some ⟨n2,0,none⟩),g,c,u]
def PartV (w:World)(G:Nat->Prop)(p:Nat)(l:Ls.Ln):Prop:=
 ∃t1 y1 n1 t2 y2 n2 g c u,G p/\Blk w p (I3 t1 y1 n1 t2 y2 n2 g c u) 98/\Tx w G (.iface t1 y1) n1 (Ls.dS l)/\Tx w G (.iface t2 y2) n2 (Ls.dV l)/\
  Turns w G g (Ls.inL (Ls.dXu (Ls.dS l))) (A6 l)/\Turns w G c (Ls.inL (Ls.dXu (Ls.dV l))) (A9 l)/\Turns2 w G u (Ls.inL (Ls.dXu (Ls.dV l))) (Ls.inL (Ls.dXu (Ls.dS l))) (B4 l)
theorem PartV.mono {w w':World}{G G':Nat->Prop}(hG:∀k,G k->G' k)(hw:∀k,G k->w'.heap[k]?=w.heap[k]?){p:Nat}{l:Ls.Ln}(h:PartV w G p l):PartV w' G' p l:=by
 obtain⟨t1,y1,n1,t2,y2,n2,g,c,u,h1,h2,h3,h4,h5,h6,h7⟩:=h;exact⟨t1,y1,n1,t2,y2,n2,g,c,u,hG _ h1,h2.of (hw _ h1),h3.mono hG hw,h4.mono hG hw,h5.mono hG hw,h6.mono hG hw,h7.mono hG hw⟩
theorem PartV.below {w w':World}{G:Nat->Prop}{p:Nat}{l:Ls.Ln}(h:PartV w G p l)(hG:Old w G)(hb:Below w.heap.size w w'):PartV w' G p l:=h.mono (fun _ h=>h) (fun k hk=>hb.block k (hG k hk))
theorem Turns.at {w:World}{G:Nat->Prop}(hG:Old w G){b:Value}{p:List UInt8->Prop}{val:List UInt8->List UInt8}(h:Turns w G b p val):∃(f:Nat) (caps:Array Value),b=.func (.func f) #[] caps/\(∀(x:Value) (W:World),(callFunc f (#[x]++caps)).run Tryz.prog W=.ok (.enter f (#[x]++caps)) W)/\
  ∀W,Below w.heap.size w W->∀x:List UInt8,x.length<=60->p x->Calls Tryz.prog f (#[A4 x]++caps) W fun e w'=>e=.returned (A4 (val x))/\Below W.heap.size W w':=by
 obtain⟨f,caps,h1,h2,h3⟩:=h;exact⟨f,caps,h1,h2,fun W hW=>h3 W (fun k hk=>hW.block k (hG k hk)) (fun k hk=>Nat.lt_of_lt_of_le (hG k hk) hW.size)⟩
theorem Turns2.at {w:World}{G:Nat->Prop}(hG:Old w G){b:Value}{p q:List UInt8->Prop}{val:List UInt8->List UInt8->List UInt8}(h:Turns2 w G b p q val):∃(f:Nat) (caps:Array Value),b=.func (.func f) #[] caps/\(∀(x y:Value) (W:World),(callFunc f (#[x,y]++caps)).run Tryz.prog W=.ok (.enter f (#[x,y]++caps)) W)/\
  ∀W,Below w.heap.size w W->∀x y:List UInt8,x.length<=60->y.length<=60->p x->q y->Calls Tryz.prog f (#[A4 x,A4 y]++caps) W fun e w'=>e=.returned (A4 (val x y))/\Below W.heap.size W w':=by
 obtain⟨f,caps,h1,h2,h3⟩:=h;exact⟨f,caps,h1,h2,fun W hW=>h3 W (fun k hk=>hW.block k (hG k hk)) (fun k hk=>Nat.lt_of_lt_of_le (hG k hk) hW.size)⟩
theorem Blk.seven {w:World}{g:Nat}{x y u v s t r:Value}{T:TypeId}(h:Blk w g #[x,y,u,v,s,t,r] T):w.cell? ⟨g,0,none⟩=some x/\w.cell? ⟨g,1,none⟩=some y/\w.cell? ⟨g,2,none⟩=some u/\w.cell? ⟨g,3,none⟩=some v/\w.cell? ⟨g,4,none⟩=some s/\w.cell? ⟨g,5,none⟩=some t/\w.cell? ⟨g,6,none⟩=some r:=⟨h.cell 0,h.cell 1,h.cell 2,h.cell 3,h.cell 4,h.cell 5,h.cell 6⟩
theorem O1 (X Y:List UInt8):(⟨X.toArray⟩:ByteArray)++⟨Y.toArray⟩=⟨(X++Y).toArray⟩:=by
 apply ByteArray.ext
 rw[ByteArray.data_append];simp
end Go.Proofs.YtfklinjaajafgaaGreatDoor
namespace Go.Proofs.YtfklinjaajafgaaGreatDoor
section
variable {P:Program} {md:Region.Mode} {ops:Array Oper} {Q:Exit->Act->World->Prop} {S:World->Prop}
theorem tk (i:Nat)(v:Value){oi:Oper}{fuel:Nat}{listed:Array Bool}{a:Act}{w:World}(hi:ops[i]?=some oi)(hb:(Region.noSelect ops&&(Region.free md ops listed i&&(Region.ready md ops listed).contains i))=true)
  (hQ:∀c a w,Q (.panic c) (a.put oi.dst v) w->Q (.panic c) a w) (hw:Region.wanted oi (yielded ops a.tmps)=true) (hy:∀w,S w->(execOp a.eval oi).run P w=.ok (.value v) w) (hS:S w)
  (h:wpAnyH P md ops Q S fuel (listed.setIfInBounds i true) (a.put oi.dst v) w):wpAnyH P md ops Q S (fuel+1) listed a w:=by
 simp only[Bool.and_eq_true]at hb;exact wpAnyH_take hi hb.1 hb.2.1 hb.2.2 hQ (Or.inl ⟨hw,hy⟩) hS h
theorem sp (i:Nat){o:Oper}{fuel:Nat}{listed:Array Bool}{a:Act}{w:World}(hr:Region.ready md ops listed=[i])(ho:ops[i]?=some o)
  (h:∀K':Act->World->Prop,Shut (∀a w,S w->(S w->wpAnyH P md ops Q S fuel (listed.setIfInBounds i true) a w)->K' a w)->if Region.wanted o (yielded ops a.tmps)=true then Oper.wp P o a w K' Q else K' (a.put o.dst undef) w):wpAnyH P md ops Q S (fuel+1) listed a w:=
 wpAnyH_ready hr (by simp) (AllReadyH.cons ho h AllReadyH.nil)
theorem hQp (i j:Nat){o o':Oper}{fuel:Nat}{listed:Array Bool}{a:Act}{w:World}(hr:Region.ready md ops listed=[i,j])(ho:ops[i]?=some o)(ho':ops[j]?=some o')
  (h:∀K':Act->World->Prop,Shut (∀a w,S w->(S w->wpAnyH P md ops Q S fuel (listed.setIfInBounds i true) a w)->K' a w)->if Region.wanted o (yielded ops a.tmps)=true then Oper.wp P o a w K' Q else K' (a.put o.dst undef) w)
  (h':∀K':Act->World->Prop,Shut (∀a w,S w->(S w->wpAnyH P md ops Q S fuel (listed.setIfInBounds j true) a w)->K' a w)->if Region.wanted o' (yielded ops a.tmps)=true then Oper.wp P o' a w K' Q else K' (a.put o'.dst undef) w):wpAnyH P md ops Q S (fuel+1) listed a w:=
 wpAnyH_ready hr (by simp) (AllReadyH.cons ho h (AllReadyH.cons ho' h' AllReadyH.nil))
end
end Go.Proofs.YtfklinjaajafgaaGreatDoor
