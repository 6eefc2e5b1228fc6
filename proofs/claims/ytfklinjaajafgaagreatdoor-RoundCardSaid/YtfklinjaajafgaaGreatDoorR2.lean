import Derived.Test.YtfklinjaajafgaaGreatDoorR1
import Derived.Test.YtfklinjaajafgaaGreatDoorK60
import Derived.Test.YtfklinjaajafgaaGreatDoorK04
set_option maxRecDepth 100000
set_option maxHeartbeats 4000000
namespace Go.Proofs.YtfklinjaajafgaaGreatDoor
open Go.RowKit
theorem aXl (s u v:ByteArray)(w:World)(h:1048576<s.size\/1048576<u.size\/1048576<v.size)(hA:Calls Tryz.prog 32 #[] w fun e w'=>e=.returned (.bool true)/\Below w.heap.size w w') :
  Calls Tryz.prog 10 #[.string s,.string u,.string v] w fun e w'=>e=.returned (.bool true)/\Below w.heap.size w w':=by
 by_cases h1:1048576<s.size
 ·have hd:(1048576:Int)<(s.size:Int):=by omega
  go_enter Tryz.func10,Tryz.ntmps10;go_wp2_with fail;refine hA.mono ?_;rintro e w1 ⟨rfl,hb1⟩;clear hA;go_wp2_with fail;go_ret;exact⟨rfl,hb1⟩
 ·have hd:¬(1048576:Int)<(s.size:Int):=by omega
  by_cases h2:1048576<u.size
  ·have hd2:(1048576:Int)<(u.size:Int):=by omega
   go_enter Tryz.func10,Tryz.ntmps10;go_wp2_with fail;refine hA.mono ?_;rintro e w1 ⟨rfl,hb1⟩;clear hA;go_wp2_with fail;go_ret;exact⟨rfl,hb1⟩
  ·have hd2:¬(1048576:Int)<(u.size:Int):=by omega
   have hd3:(1048576:Int)<(v.size:Int):=by omega
   go_enter Tryz.func10,Tryz.ntmps10;go_wp2_with fail;refine hA.mono ?_;rintro e w1 ⟨rfl,hb1⟩;clear hA;go_wp2_with fail;go_ret;exact⟨rfl,hb1⟩
theorem rQz (s:List UInt8):∃r,CompIs s r:=by
 by_cases h1:120<s.length
 ·exact⟨1,.inl ⟨h1,rfl⟩⟩
 ·cases hp:E2 s with
  | none=>exact⟨2,.inr ⟨by omega,.inl ⟨hp,rfl⟩⟩⟩
  | some l=>
   by_cases h2:24<Ls.dXw l
   ·exact⟨3,.inr ⟨by omega,.inr ⟨l,hp,.inl ⟨h2,rfl⟩⟩⟩⟩
   ·by_cases h3:B6 l
    ·exact⟨0,.inr ⟨by omega,.inr ⟨l,hp,.inr ⟨by omega,.inr ⟨h3,rfl⟩⟩⟩⟩⟩
    ·exact⟨4,.inr ⟨by omega,.inr ⟨l,hp,.inr ⟨by omega,.inl ⟨h3,rfl⟩⟩⟩⟩⟩
structure RoundSaid (w:World)(L:Nat)(u v gv cr pt:ByteArray)(zA zB:Bool):Prop where
 his:∀W,Below w.heap.size w W->Calls Tryz.prog 20 #[.pointer (some ⟨L,0,none⟩),.string u] W fun e w'=>e=.returned (.bool zA)/\Below W.heap.size W w'
 hiv:∀W,Below w.heap.size w W->Calls Tryz.prog 22 #[.pointer (some ⟨L,0,none⟩),.string v] W fun e w'=>e=.returned (.bool zB)/\Below W.heap.size W w'
 hgt:∀W,Below w.heap.size w W->Calls Tryz.prog 24 #[.pointer (some ⟨L,0,none⟩),.string u] W fun e w'=>e=.returned (if zA=true then .tuple #[.string gv,.int .i64 0] else .tuple #[.string ⟨#[]⟩,.int .i64 5])/\Below W.heap.size W w'
 hcr:∀W,Below w.heap.size w W->Calls Tryz.prog 26 #[.pointer (some ⟨L,0,none⟩),.string v] W fun e w'=>e=.returned (if zB=true then .tuple #[.string cr,.int .i64 0] else .tuple #[.string ⟨#[]⟩,.int .i64 6])/\Below W.heap.size W w'
 hpt:∀W,Below w.heap.size w W->Calls Tryz.prog 28 #[.pointer (some ⟨L,0,none⟩),.string v,.string u] W fun e w'=>e=.returned (if zB=true then (if zA=true then .tuple #[.string pt,.int .i64 0] else .tuple #[.string ⟨#[]⟩,.int .i64 5]) else .tuple #[.string ⟨#[]⟩,.int .i64 6])/\Below W.heap.size W w'
 hp1:zA=true->gv.size<=60->∀W,Below w.heap.size w W->Calls Tryz.prog 28 #[.pointer (some ⟨L,0,none⟩),.string gv,.string u] W fun e w'=>e=.returned (.tuple #[.string u,.int .i64 0])/\Below W.heap.size W w'
 hg1:zB=true->cr.size<=60->∀W,Below w.heap.size w W->Calls Tryz.prog 24 #[.pointer (some ⟨L,0,none⟩),.string cr] W fun e w'=>e=.returned (.tuple #[.string v,.int .i64 0])/\Below W.heap.size W w'
 hg2:zA=true->zB=true->pt.size<=60->∀W,Below w.heap.size w W->Calls Tryz.prog 24 #[.pointer (some ⟨L,0,none⟩),.string pt] W fun e w'=>e=.returned (.tuple #[.string v,.int .i64 0])/\Below W.heap.size W w'
 hp2:zA=true->zB=true->pt.size<=60->∀W,Below w.heap.size w W->Calls Tryz.prog 28 #[.pointer (some ⟨L,0,none⟩),.string v,.string pt] W fun e w'=>e=.returned (.tuple #[.string pt,.int .i64 0])/\Below W.heap.size W w'
theorem aXt (s u v gv cr pt:ByteArray)(w:World)(hs:s.size<=1048576)(hu:u.size<=1048576)(hv:v.size<=1048576)(hA:Calls Tryz.prog 32 #[] w fun e w'=>e=.returned (.bool true)/\Below w.heap.size w w')
  (hC:∀W,Below w.heap.size w W->Calls Tryz.prog 18 #[.string s] W fun e w'=>∃L,e=.returned (.tuple #[.pointer (some ⟨L,0,none⟩),.int .i64 ((0:Nat):Int)])/\Below W.heap.size W w'/\RoundSaid w' L u v gv cr pt true true) :
  Calls Tryz.prog 10 #[.string s,.string u,.string v] w fun e w'=>e=.returned (.bool true)/\Below w.heap.size w w':=by
 have hd:¬(1048576:Int)<(s.size:Int):=by omega
 have hd2:¬(1048576:Int)<(u.size:Int):=by omega
 have hd3:¬(1048576:Int)<(v.size:Int):=by omega
 have HC:Hid (∀W,Below w.heap.size w W->Calls Tryz.prog 18 #[.string s] W fun e w'=>∃L,e=.returned (.tuple #[.pointer (some ⟨L,0,none⟩),.int .i64 ((0:Nat):Int)])/\Below W.heap.size W w'/\RoundSaid w' L u v gv cr pt true true):=hC;clear hC;go_enter Tryz.func10,Tryz.ntmps10;go_wp2_with fail;refine hA.mono ?_;clear hA;rintro e w0 ⟨rfl,hb0⟩;have hC:=HC.out w0 hb0;clear HC;go_wp2_with fail;refine hC.mono ?_;clear hC;rintro e w1 ⟨L,rfl,hb1d,hR⟩;have hb1:Below w.heap.size w w1:=Below.join hb0 hb1d;have hq1:Below w1.heap.size w1 w1:=Below.refl _ _;have HIS:Hid (∀W,Below w1.heap.size w1 W->Calls Tryz.prog 20 #[.pointer (some ⟨L,0,none⟩),.string u] W fun e w'=>e=.returned (.bool true)/\Below W.heap.size W w'):=hR.his;have HIV:Hid (∀W,Below w1.heap.size w1 W->Calls Tryz.prog 22 #[.pointer (some ⟨L,0,none⟩),.string v] W fun e w'=>e=.returned (.bool true)/\Below W.heap.size W w'):=hR.hiv;have HGT:Hid (∀W,Below w1.heap.size w1 W->Calls Tryz.prog 24 #[.pointer (some ⟨L,0,none⟩),.string u] W fun e w'=>e=.returned (if true=true then .tuple #[.string gv,.int .i64 0] else .tuple #[.string ⟨#[]⟩,.int .i64 5])/\Below W.heap.size W w'):=hR.hgt;have HCR:Hid (∀W,Below w1.heap.size w1 W->Calls Tryz.prog 26 #[.pointer (some ⟨L,0,none⟩),.string v] W fun e w'=>e=.returned (if true=true then .tuple #[.string cr,.int .i64 0] else .tuple #[.string ⟨#[]⟩,.int .i64 6])/\Below W.heap.size W w'):=hR.hcr;have HPT:Hid (∀W,Below w1.heap.size w1 W->Calls Tryz.prog 28 #[.pointer (some ⟨L,0,none⟩),.string v,.string u] W fun e w'=>e=.returned (if true=true then (if true=true then .tuple #[.string pt,.int .i64 0] else .tuple #[.string ⟨#[]⟩,.int .i64 5]) else .tuple #[.string ⟨#[]⟩,.int .i64 6])/\Below W.heap.size W w'):=hR.hpt;have HP1:Hid (true=true->gv.size<=60->∀W,Below w1.heap.size w1 W->Calls Tryz.prog 28 #[.pointer (some ⟨L,0,none⟩),.string gv,.string u] W fun e w'=>e=.returned (.tuple #[.string u,.int .i64 0])/\Below W.heap.size W w'):=hR.hp1;have HG1:Hid (true=true->cr.size<=60->∀W,Below w1.heap.size w1 W->Calls Tryz.prog 24 #[.pointer (some ⟨L,0,none⟩),.string cr] W fun e w'=>e=.returned (.tuple #[.string v,.int .i64 0])/\Below W.heap.size W w'):=hR.hg1;have HG2:Hid (true=true->true=true->pt.size<=60->∀W,Below w1.heap.size w1 W->Calls Tryz.prog 24 #[.pointer (some ⟨L,0,none⟩),.string pt] W fun e w'=>e=.returned (.tuple #[.string v,.int .i64 0])/\Below W.heap.size W w'):=hR.hg2;have HP2:Hid (true=true->true=true->pt.size<=60->∀W,Below w1.heap.size w1 W->Calls Tryz.prog 28 #[.pointer (some ⟨L,0,none⟩),.string v,.string pt] W fun e w'=>e=.returned (.tuple #[.string pt,.int .i64 0])/\Below W.heap.size W w'):=hR.hp2;clear hR hb1d hb0 hs hu hv;have hC3:=HIS.out w1 hq1;go_wp2_with fail;refine hC3.mono ?_;clear hC3;rintro e w3 ⟨rfl,hd3⟩;have hb3:Below w1.heap.size w1 w3:=Below.join hq1 hd3;clear hd3;have hC4:=HIV.out w3 hb3;go_wp2_with fail;refine hC4.mono ?_;clear hC4;rintro e w4 ⟨rfl,hd4⟩;have hb4:Below w1.heap.size w1 w4:=Below.join hb3 hd4;clear hd4;have hC5:=HGT.out w4 hb4;go_wp2_with fail;refine hC5.mono ?_;clear hC5;rintro e w5 ⟨rfl,hd5⟩;have hb5:Below w1.heap.size w1 w5:=Below.join hb4 hd5;clear hd5;have hC6:=Z8 gv w5
 by_cases hs6:gv.size<=60
 ·rw[decide_eq_true hs6]at hC6
  go_wp2_with fail;refine hC6.mono ?_;clear hC6;rintro e w6 ⟨rfl,hd6⟩;have hb6:Below w1.heap.size w1 w6:=Below.join hb5 hd6;clear hd6;have hC7:=HP1.out (by first|trivial|rfl) hs6 w6 hb6;go_wp2_with fail;refine hC7.mono ?_;clear hC7;rintro e w7 ⟨rfl,hd7⟩;have hb7:Below w1.heap.size w1 w7:=Below.join hb6 hd7;clear hd7;have hC8:=HCR.out w7 hb7;go_wp2_with fail;refine hC8.mono ?_;clear hC8;rintro e w8 ⟨rfl,hd8⟩;have hb8:Below w1.heap.size w1 w8:=Below.join hb7 hd8;clear hd8;have hC9:=Z8 cr w8
  by_cases hs9:cr.size<=60
  ·rw[decide_eq_true hs9]at hC9
   go_wp2_with fail;refine hC9.mono ?_;clear hC9;rintro e w9 ⟨rfl,hd9⟩;have hb9:Below w1.heap.size w1 w9:=Below.join hb8 hd9;clear hd9;have hC10:=HG1.out (by first|trivial|rfl) hs9 w9 hb9;go_wp2_with fail;refine hC10.mono ?_;clear hC10;rintro e w10 ⟨rfl,hd10⟩;have hb10:Below w1.heap.size w1 w10:=Below.join hb9 hd10;clear hd10;have hC11:=HPT.out w10 hb10;go_wp2_with fail;refine hC11.mono ?_;clear hC11;rintro e w11 ⟨rfl,hd11⟩;have hb11:Below w1.heap.size w1 w11:=Below.join hb10 hd11;clear hd11;have hC12:=Z8 pt w11
   by_cases hs12:pt.size<=60
   ·rw[decide_eq_true hs12]at hC12
    go_wp2_with fail;refine hC12.mono ?_;clear hC12;rintro e w12 ⟨rfl,hd12⟩;have hb12:Below w1.heap.size w1 w12:=Below.join hb11 hd12;clear hd12;have hC13:=HG2.out (by first|trivial|rfl) (by first|trivial|rfl) hs12 w12 hb12;go_wp2_with fail;refine hC13.mono ?_;clear hC13;rintro e w13 ⟨rfl,hd13⟩;have hb13:Below w1.heap.size w1 w13:=Below.join hb12 hd13;clear hd13;have hC14:=HP2.out (by first|trivial|rfl) (by first|trivial|rfl) hs12 w13 hb13;go_wp2_with fail;refine hC14.mono ?_;clear hC14;rintro e w14 ⟨rfl,hd14⟩;have hb14:Below w1.heap.size w1 w14:=Below.join hb13 hd14;clear hd14;go_wp2_with fail;go_ret;exact⟨rfl,Below.join hb1 hb14⟩
   ·rw[decide_eq_false hs12]at hC12
    go_wp2_with fail;refine hC12.mono ?_;clear hC12;rintro e w12 ⟨rfl,hd12⟩;have hb12:Below w1.heap.size w1 w12:=Below.join hb11 hd12;clear hd12;go_wp2_with fail;go_ret;exact⟨rfl,Below.join hb1 hb12⟩
  ·rw[decide_eq_false hs9]at hC9
   go_wp2_with fail;refine hC9.mono ?_;clear hC9;rintro e w9 ⟨rfl,hd9⟩;have hb9:Below w1.heap.size w1 w9:=Below.join hb8 hd9;clear hd9;have hC15:=HPT.out w9 hb9;go_wp2_with fail;refine hC15.mono ?_;clear hC15;rintro e w15 ⟨rfl,hd15⟩;have hb15:Below w1.heap.size w1 w15:=Below.join hb9 hd15;clear hd15;have hC16:=Z8 pt w15
   by_cases hs16:pt.size<=60
   ·rw[decide_eq_true hs16]at hC16
    go_wp2_with fail;refine hC16.mono ?_;clear hC16;rintro e w16 ⟨rfl,hd16⟩;have hb16:Below w1.heap.size w1 w16:=Below.join hb15 hd16;clear hd16;have hC17:=HG2.out (by first|trivial|rfl) (by first|trivial|rfl) hs16 w16 hb16;go_wp2_with fail;refine hC17.mono ?_;clear hC17;rintro e w17 ⟨rfl,hd17⟩;have hb17:Below w1.heap.size w1 w17:=Below.join hb16 hd17;clear hd17;have hC18:=HP2.out (by first|trivial|rfl) (by first|trivial|rfl) hs16 w17 hb17;go_wp2_with fail;refine hC18.mono ?_;clear hC18;rintro e w18 ⟨rfl,hd18⟩;have hb18:Below w1.heap.size w1 w18:=Below.join hb17 hd18;clear hd18;go_wp2_with fail;go_ret;exact⟨rfl,Below.join hb1 hb18⟩
   ·rw[decide_eq_false hs16]at hC16
    go_wp2_with fail;refine hC16.mono ?_;clear hC16;rintro e w16 ⟨rfl,hd16⟩;have hb16:Below w1.heap.size w1 w16:=Below.join hb15 hd16;clear hd16;go_wp2_with fail;go_ret;exact⟨rfl,Below.join hb1 hb16⟩
 ·rw[decide_eq_false hs6]at hC6
  go_wp2_with fail;refine hC6.mono ?_;clear hC6;rintro e w6 ⟨rfl,hd6⟩;have hb6:Below w1.heap.size w1 w6:=Below.join hb5 hd6;clear hd6;have hC19:=HCR.out w6 hb6;go_wp2_with fail;refine hC19.mono ?_;clear hC19;rintro e w19 ⟨rfl,hd19⟩;have hb19:Below w1.heap.size w1 w19:=Below.join hb6 hd19;clear hd19;have hC20:=Z8 cr w19
  by_cases hs20:cr.size<=60
  ·rw[decide_eq_true hs20]at hC20
   go_wp2_with fail;refine hC20.mono ?_;clear hC20;rintro e w20 ⟨rfl,hd20⟩;have hb20:Below w1.heap.size w1 w20:=Below.join hb19 hd20;clear hd20;have hC21:=HG1.out (by first|trivial|rfl) hs20 w20 hb20;go_wp2_with fail;refine hC21.mono ?_;clear hC21;rintro e w21 ⟨rfl,hd21⟩;have hb21:Below w1.heap.size w1 w21:=Below.join hb20 hd21;clear hd21;have hC22:=HPT.out w21 hb21;go_wp2_with fail;refine hC22.mono ?_;clear hC22;rintro e w22 ⟨rfl,hd22⟩;have hb22:Below w1.heap.size w1 w22:=Below.join hb21 hd22;clear hd22;have hC23:=Z8 pt w22
   by_cases hs23:pt.size<=60
   ·rw[decide_eq_true hs23]at hC23
    go_wp2_with fail;refine hC23.mono ?_;clear hC23;rintro e w23 ⟨rfl,hd23⟩;have hb23:Below w1.heap.size w1 w23:=Below.join hb22 hd23;clear hd23;have hC24:=HG2.out (by first|trivial|rfl) (by first|trivial|rfl) hs23 w23 hb23;go_wp2_with fail;refine hC24.mono ?_;clear hC24;rintro e w24 ⟨rfl,hd24⟩;have hb24:Below w1.heap.size w1 w24:=Below.join hb23 hd24;clear hd24;have hC25:=HP2.out (by first|trivial|rfl) (by first|trivial|rfl) hs23 w24 hb24;go_wp2_with fail;refine hC25.mono ?_;clear hC25;rintro e w25 ⟨rfl,hd25⟩;have hb25:Below w1.heap.size w1 w25:=Below.join hb24 hd25;clear hd25;go_wp2_with fail;go_ret;exact⟨rfl,Below.join hb1 hb25⟩
   ·rw[decide_eq_false hs23]at hC23
    go_wp2_with fail;refine hC23.mono ?_;clear hC23;rintro e w23 ⟨rfl,hd23⟩;have hb23:Below w1.heap.size w1 w23:=Below.join hb22 hd23;clear hd23;go_wp2_with fail;go_ret;exact⟨rfl,Below.join hb1 hb23⟩
  ·rw[decide_eq_false hs20]at hC20
   go_wp2_with fail;refine hC20.mono ?_;clear hC20;rintro e w20 ⟨rfl,hd20⟩;have hb20:Below w1.heap.size w1 w20:=Below.join hb19 hd20;clear hd20;have hC26:=HPT.out w20 hb20;go_wp2_with fail;refine hC26.mono ?_;clear hC26;rintro e w26 ⟨rfl,hd26⟩;have hb26:Below w1.heap.size w1 w26:=Below.join hb20 hd26;clear hd26;have hC27:=Z8 pt w26
   by_cases hs27:pt.size<=60
   ·rw[decide_eq_true hs27]at hC27
    go_wp2_with fail;refine hC27.mono ?_;clear hC27;rintro e w27 ⟨rfl,hd27⟩;have hb27:Below w1.heap.size w1 w27:=Below.join hb26 hd27;clear hd27;have hC28:=HG2.out (by first|trivial|rfl) (by first|trivial|rfl) hs27 w27 hb27;go_wp2_with fail;refine hC28.mono ?_;clear hC28;rintro e w28 ⟨rfl,hd28⟩;have hb28:Below w1.heap.size w1 w28:=Below.join hb27 hd28;clear hd28;have hC29:=HP2.out (by first|trivial|rfl) (by first|trivial|rfl) hs27 w28 hb28;go_wp2_with fail;refine hC29.mono ?_;clear hC29;rintro e w29 ⟨rfl,hd29⟩;have hb29:Below w1.heap.size w1 w29:=Below.join hb28 hd29;clear hd29;go_wp2_with fail;go_ret;exact⟨rfl,Below.join hb1 hb29⟩
   ·rw[decide_eq_false hs27]at hC27
    go_wp2_with fail;refine hC27.mono ?_;clear hC27;rintro e w27 ⟨rfl,hd27⟩;have hb27:Below w1.heap.size w1 w27:=Below.join hb26 hd27;clear hd27;go_wp2_with fail;go_ret;exact⟨rfl,Below.join hb1 hb27⟩
theorem aXs (s u v gv cr pt:ByteArray)(w:World)(hs:s.size<=1048576)(hu:u.size<=1048576)(hv:v.size<=1048576)(hA:Calls Tryz.prog 32 #[] w fun e w'=>e=.returned (.bool true)/\Below w.heap.size w w')
  (hC:∀W,Below w.heap.size w W->Calls Tryz.prog 18 #[.string s] W fun e w'=>∃L,e=.returned (.tuple #[.pointer (some ⟨L,0,none⟩),.int .i64 ((0:Nat):Int)])/\Below W.heap.size W w'/\RoundSaid w' L u v gv cr pt true false) :
  Calls Tryz.prog 10 #[.string s,.string u,.string v] w fun e w'=>e=.returned (.bool true)/\Below w.heap.size w w':=by
 have hd:¬(1048576:Int)<(s.size:Int):=by omega
 have hd2:¬(1048576:Int)<(u.size:Int):=by omega
 have hd3:¬(1048576:Int)<(v.size:Int):=by omega
 have HC:Hid (∀W,Below w.heap.size w W->Calls Tryz.prog 18 #[.string s] W fun e w'=>∃L,e=.returned (.tuple #[.pointer (some ⟨L,0,none⟩),.int .i64 ((0:Nat):Int)])/\Below W.heap.size W w'/\RoundSaid w' L u v gv cr pt true false):=hC;clear hC;go_enter Tryz.func10,Tryz.ntmps10;go_wp2_with fail;refine hA.mono ?_;clear hA;rintro e w0 ⟨rfl,hb0⟩;have hC:=HC.out w0 hb0;clear HC;go_wp2_with fail;refine hC.mono ?_;clear hC;rintro e w1 ⟨L,rfl,hb1d,hR⟩;have hb1:Below w.heap.size w w1:=Below.join hb0 hb1d;have hq1:Below w1.heap.size w1 w1:=Below.refl _ _;have HIS:Hid (∀W,Below w1.heap.size w1 W->Calls Tryz.prog 20 #[.pointer (some ⟨L,0,none⟩),.string u] W fun e w'=>e=.returned (.bool true)/\Below W.heap.size W w'):=hR.his;have HIV:Hid (∀W,Below w1.heap.size w1 W->Calls Tryz.prog 22 #[.pointer (some ⟨L,0,none⟩),.string v] W fun e w'=>e=.returned (.bool false)/\Below W.heap.size W w'):=hR.hiv;have HGT:Hid (∀W,Below w1.heap.size w1 W->Calls Tryz.prog 24 #[.pointer (some ⟨L,0,none⟩),.string u] W fun e w'=>e=.returned (if true=true then .tuple #[.string gv,.int .i64 0] else .tuple #[.string ⟨#[]⟩,.int .i64 5])/\Below W.heap.size W w'):=hR.hgt;have HCR:Hid (∀W,Below w1.heap.size w1 W->Calls Tryz.prog 26 #[.pointer (some ⟨L,0,none⟩),.string v] W fun e w'=>e=.returned (if false=true then .tuple #[.string cr,.int .i64 0] else .tuple #[.string ⟨#[]⟩,.int .i64 6])/\Below W.heap.size W w'):=hR.hcr;have HPT:Hid (∀W,Below w1.heap.size w1 W->Calls Tryz.prog 28 #[.pointer (some ⟨L,0,none⟩),.string v,.string u] W fun e w'=>e=.returned (if false=true then (if true=true then .tuple #[.string pt,.int .i64 0] else .tuple #[.string ⟨#[]⟩,.int .i64 5]) else .tuple #[.string ⟨#[]⟩,.int .i64 6])/\Below W.heap.size W w'):=hR.hpt;have HP1:Hid (true=true->gv.size<=60->∀W,Below w1.heap.size w1 W->Calls Tryz.prog 28 #[.pointer (some ⟨L,0,none⟩),.string gv,.string u] W fun e w'=>e=.returned (.tuple #[.string u,.int .i64 0])/\Below W.heap.size W w'):=hR.hp1;clear hR hb1d hb0 hs hu hv;have hC3:=HIS.out w1 hq1;go_wp2_with fail;refine hC3.mono ?_;clear hC3;rintro e w3 ⟨rfl,hd3⟩;have hb3:Below w1.heap.size w1 w3:=Below.join hq1 hd3;clear hd3;have hC4:=HIV.out w3 hb3;go_wp2_with fail;refine hC4.mono ?_;clear hC4;rintro e w4 ⟨rfl,hd4⟩;have hb4:Below w1.heap.size w1 w4:=Below.join hb3 hd4;clear hd4;have hC5:=HGT.out w4 hb4;go_wp2_with fail;refine hC5.mono ?_;clear hC5;rintro e w5 ⟨rfl,hd5⟩;have hb5:Below w1.heap.size w1 w5:=Below.join hb4 hd5;clear hd5;have hC6:=Z8 gv w5
 by_cases hs6:gv.size<=60
 ·rw[decide_eq_true hs6]at hC6
  go_wp2_with fail;refine hC6.mono ?_;clear hC6;rintro e w6 ⟨rfl,hd6⟩;have hb6:Below w1.heap.size w1 w6:=Below.join hb5 hd6;clear hd6;have hC7:=HP1.out (by first|trivial|rfl) hs6 w6 hb6;go_wp2_with fail;refine hC7.mono ?_;clear hC7;rintro e w7 ⟨rfl,hd7⟩;have hb7:Below w1.heap.size w1 w7:=Below.join hb6 hd7;clear hd7;have hC8:=HCR.out w7 hb7;go_wp2_with fail;refine hC8.mono ?_;clear hC8;rintro e w8 ⟨rfl,hd8⟩;have hb8:Below w1.heap.size w1 w8:=Below.join hb7 hd8;clear hd8;have hC9:=HPT.out w8 hb8;go_wp2_with fail;refine hC9.mono ?_;clear hC9;rintro e w9 ⟨rfl,hd9⟩;have hb9:Below w1.heap.size w1 w9:=Below.join hb8 hd9;clear hd9;go_wp2_with fail;go_ret;exact⟨rfl,Below.join hb1 hb9⟩
 ·rw[decide_eq_false hs6]at hC6
  go_wp2_with fail;refine hC6.mono ?_;clear hC6;rintro e w6 ⟨rfl,hd6⟩;have hb6:Below w1.heap.size w1 w6:=Below.join hb5 hd6;clear hd6;have hC10:=HCR.out w6 hb6;go_wp2_with fail;refine hC10.mono ?_;clear hC10;rintro e w10 ⟨rfl,hd10⟩;have hb10:Below w1.heap.size w1 w10:=Below.join hb6 hd10;clear hd10;have hC11:=HPT.out w10 hb10;go_wp2_with fail;refine hC11.mono ?_;clear hC11;rintro e w11 ⟨rfl,hd11⟩;have hb11:Below w1.heap.size w1 w11:=Below.join hb10 hd11;clear hd11;go_wp2_with fail;go_ret;exact⟨rfl,Below.join hb1 hb11⟩
theorem aXi (s u v gv cr pt:ByteArray)(w:World)(hs:s.size<=1048576)(hu:u.size<=1048576)(hv:v.size<=1048576)(hA:Calls Tryz.prog 32 #[] w fun e w'=>e=.returned (.bool true)/\Below w.heap.size w w')
  (hC:∀W,Below w.heap.size w W->Calls Tryz.prog 18 #[.string s] W fun e w'=>∃L,e=.returned (.tuple #[.pointer (some ⟨L,0,none⟩),.int .i64 ((0:Nat):Int)])/\Below W.heap.size W w'/\RoundSaid w' L u v gv cr pt false true) :
  Calls Tryz.prog 10 #[.string s,.string u,.string v] w fun e w'=>e=.returned (.bool true)/\Below w.heap.size w w':=by
 have hd:¬(1048576:Int)<(s.size:Int):=by omega
 have hd2:¬(1048576:Int)<(u.size:Int):=by omega
 have hd3:¬(1048576:Int)<(v.size:Int):=by omega
 have HC:Hid (∀W,Below w.heap.size w W->Calls Tryz.prog 18 #[.string s] W fun e w'=>∃L,e=.returned (.tuple #[.pointer (some ⟨L,0,none⟩),.int .i64 ((0:Nat):Int)])/\Below W.heap.size W w'/\RoundSaid w' L u v gv cr pt false true):=hC;clear hC;go_enter Tryz.func10,Tryz.ntmps10;go_wp2_with fail;refine hA.mono ?_;clear hA;rintro e w0 ⟨rfl,hb0⟩;have hC:=HC.out w0 hb0;clear HC;go_wp2_with fail;refine hC.mono ?_;clear hC;rintro e w1 ⟨L,rfl,hb1d,hR⟩;have hb1:Below w.heap.size w w1:=Below.join hb0 hb1d;have hq1:Below w1.heap.size w1 w1:=Below.refl _ _;have HIS:Hid (∀W,Below w1.heap.size w1 W->Calls Tryz.prog 20 #[.pointer (some ⟨L,0,none⟩),.string u] W fun e w'=>e=.returned (.bool false)/\Below W.heap.size W w'):=hR.his;have HIV:Hid (∀W,Below w1.heap.size w1 W->Calls Tryz.prog 22 #[.pointer (some ⟨L,0,none⟩),.string v] W fun e w'=>e=.returned (.bool true)/\Below W.heap.size W w'):=hR.hiv;have HGT:Hid (∀W,Below w1.heap.size w1 W->Calls Tryz.prog 24 #[.pointer (some ⟨L,0,none⟩),.string u] W fun e w'=>e=.returned (if false=true then .tuple #[.string gv,.int .i64 0] else .tuple #[.string ⟨#[]⟩,.int .i64 5])/\Below W.heap.size W w'):=hR.hgt;have HCR:Hid (∀W,Below w1.heap.size w1 W->Calls Tryz.prog 26 #[.pointer (some ⟨L,0,none⟩),.string v] W fun e w'=>e=.returned (if true=true then .tuple #[.string cr,.int .i64 0] else .tuple #[.string ⟨#[]⟩,.int .i64 6])/\Below W.heap.size W w'):=hR.hcr;have HPT:Hid (∀W,Below w1.heap.size w1 W->Calls Tryz.prog 28 #[.pointer (some ⟨L,0,none⟩),.string v,.string u] W fun e w'=>e=.returned (if true=true then (if false=true then .tuple #[.string pt,.int .i64 0] else .tuple #[.string ⟨#[]⟩,.int .i64 5]) else .tuple #[.string ⟨#[]⟩,.int .i64 6])/\Below W.heap.size W w'):=hR.hpt;have HG1:Hid (true=true->cr.size<=60->∀W,Below w1.heap.size w1 W->Calls Tryz.prog 24 #[.pointer (some ⟨L,0,none⟩),.string cr] W fun e w'=>e=.returned (.tuple #[.string v,.int .i64 0])/\Below W.heap.size W w'):=hR.hg1;clear hR hb1d hb0 hs hu hv;have hC3:=HIS.out w1 hq1;go_wp2_with fail;refine hC3.mono ?_;clear hC3;rintro e w3 ⟨rfl,hd3⟩;have hb3:Below w1.heap.size w1 w3:=Below.join hq1 hd3;clear hd3;have hC4:=HIV.out w3 hb3;go_wp2_with fail;refine hC4.mono ?_;clear hC4;rintro e w4 ⟨rfl,hd4⟩;have hb4:Below w1.heap.size w1 w4:=Below.join hb3 hd4;clear hd4;have hC5:=HGT.out w4 hb4;go_wp2_with fail;refine hC5.mono ?_;clear hC5;rintro e w5 ⟨rfl,hd5⟩;have hb5:Below w1.heap.size w1 w5:=Below.join hb4 hd5;clear hd5;have hC6:=HCR.out w5 hb5;go_wp2_with fail;refine hC6.mono ?_;clear hC6;rintro e w6 ⟨rfl,hd6⟩;have hb6:Below w1.heap.size w1 w6:=Below.join hb5 hd6;clear hd6;have hC7:=Z8 cr w6
 by_cases hs7:cr.size<=60
 ·rw[decide_eq_true hs7]at hC7
  go_wp2_with fail;refine hC7.mono ?_;clear hC7;rintro e w7 ⟨rfl,hd7⟩;have hb7:Below w1.heap.size w1 w7:=Below.join hb6 hd7;clear hd7;have hC8:=HG1.out (by first|trivial|rfl) hs7 w7 hb7;go_wp2_with fail;refine hC8.mono ?_;clear hC8;rintro e w8 ⟨rfl,hd8⟩;have hb8:Below w1.heap.size w1 w8:=Below.join hb7 hd8;clear hd8;have hC9:=HPT.out w8 hb8;go_wp2_with fail;refine hC9.mono ?_;clear hC9;rintro e w9 ⟨rfl,hd9⟩;have hb9:Below w1.heap.size w1 w9:=Below.join hb8 hd9;clear hd9;go_wp2_with fail;go_ret;exact⟨rfl,Below.join hb1 hb9⟩
 ·rw[decide_eq_false hs7]at hC7
  go_wp2_with fail;refine hC7.mono ?_;clear hC7;rintro e w7 ⟨rfl,hd7⟩;have hb7:Below w1.heap.size w1 w7:=Below.join hb6 hd7;clear hd7;have hC10:=HPT.out w7 hb7;go_wp2_with fail;refine hC10.mono ?_;clear hC10;rintro e w10 ⟨rfl,hd10⟩;have hb10:Below w1.heap.size w1 w10:=Below.join hb7 hd10;clear hd10;go_wp2_with fail;go_ret;exact⟨rfl,Below.join hb1 hb10⟩
theorem aXh (s u v gv cr pt:ByteArray)(w:World)(hs:s.size<=1048576)(hu:u.size<=1048576)(hv:v.size<=1048576)(hA:Calls Tryz.prog 32 #[] w fun e w'=>e=.returned (.bool true)/\Below w.heap.size w w')
  (hC:∀W,Below w.heap.size w W->Calls Tryz.prog 18 #[.string s] W fun e w'=>∃L,e=.returned (.tuple #[.pointer (some ⟨L,0,none⟩),.int .i64 ((0:Nat):Int)])/\Below W.heap.size W w'/\RoundSaid w' L u v gv cr pt false false) :
  Calls Tryz.prog 10 #[.string s,.string u,.string v] w fun e w'=>e=.returned (.bool true)/\Below w.heap.size w w':=by
 have hd:¬(1048576:Int)<(s.size:Int):=by omega
 have hd2:¬(1048576:Int)<(u.size:Int):=by omega
 have hd3:¬(1048576:Int)<(v.size:Int):=by omega
 have HC:Hid (∀W,Below w.heap.size w W->Calls Tryz.prog 18 #[.string s] W fun e w'=>∃L,e=.returned (.tuple #[.pointer (some ⟨L,0,none⟩),.int .i64 ((0:Nat):Int)])/\Below W.heap.size W w'/\RoundSaid w' L u v gv cr pt false false):=hC;clear hC;go_enter Tryz.func10,Tryz.ntmps10;go_wp2_with fail;refine hA.mono ?_;clear hA;rintro e w0 ⟨rfl,hb0⟩;have hC:=HC.out w0 hb0;clear HC;go_wp2_with fail;refine hC.mono ?_;clear hC;rintro e w1 ⟨L,rfl,hb1d,hR⟩;have hb1:Below w.heap.size w w1:=Below.join hb0 hb1d;have hq1:Below w1.heap.size w1 w1:=Below.refl _ _;have HIS:Hid (∀W,Below w1.heap.size w1 W->Calls Tryz.prog 20 #[.pointer (some ⟨L,0,none⟩),.string u] W fun e w'=>e=.returned (.bool false)/\Below W.heap.size W w'):=hR.his;have HIV:Hid (∀W,Below w1.heap.size w1 W->Calls Tryz.prog 22 #[.pointer (some ⟨L,0,none⟩),.string v] W fun e w'=>e=.returned (.bool false)/\Below W.heap.size W w'):=hR.hiv;have HGT:Hid (∀W,Below w1.heap.size w1 W->Calls Tryz.prog 24 #[.pointer (some ⟨L,0,none⟩),.string u] W fun e w'=>e=.returned (if false=true then .tuple #[.string gv,.int .i64 0] else .tuple #[.string ⟨#[]⟩,.int .i64 5])/\Below W.heap.size W w'):=hR.hgt;have HCR:Hid (∀W,Below w1.heap.size w1 W->Calls Tryz.prog 26 #[.pointer (some ⟨L,0,none⟩),.string v] W fun e w'=>e=.returned (if false=true then .tuple #[.string cr,.int .i64 0] else .tuple #[.string ⟨#[]⟩,.int .i64 6])/\Below W.heap.size W w'):=hR.hcr;have HPT:Hid (∀W,Below w1.heap.size w1 W->Calls Tryz.prog 28 #[.pointer (some ⟨L,0,none⟩),.string v,.string u] W fun e w'=>e=.returned (if false=true then (if false=true then .tuple #[.string pt,.int .i64 0] else .tuple #[.string ⟨#[]⟩,.int .i64 5]) else .tuple #[.string ⟨#[]⟩,.int .i64 6])/\Below W.heap.size W w'):=hR.hpt;clear hR hb1d hb0 hs hu hv;have hC3:=HIS.out w1 hq1;go_wp2_with fail;refine hC3.mono ?_;clear hC3;rintro e w3 ⟨rfl,hd3⟩;have hb3:Below w1.heap.size w1 w3:=Below.join hq1 hd3;clear hd3;have hC4:=HIV.out w3 hb3;go_wp2_with fail;refine hC4.mono ?_;clear hC4;rintro e w4 ⟨rfl,hd4⟩;have hb4:Below w1.heap.size w1 w4:=Below.join hb3 hd4;clear hd4;have hC5:=HGT.out w4 hb4;go_wp2_with fail;refine hC5.mono ?_;clear hC5;rintro e w5 ⟨rfl,hd5⟩;have hb5:Below w1.heap.size w1 w5:=Below.join hb4 hd5;clear hd5;have hC6:=HCR.out w5 hb5;go_wp2_with fail;refine hC6.mono ?_;clear hC6;rintro e w6 ⟨rfl,hd6⟩;have hb6:Below w1.heap.size w1 w6:=Below.join hb5 hd6;clear hd6;have hC7:=HPT.out w6 hb6;go_wp2_with fail;refine hC7.mono ?_;clear hC7;rintro e w7 ⟨rfl,hd7⟩;have hb7:Below w1.heap.size w1 w7:=Below.join hb6 hd7;clear hd7;go_wp2_with fail;go_ret;exact⟨rfl,Below.join hb1 hb7⟩
theorem aXp {w:World}{G:Nat->Prop}{L p:Nat}{l:Ls.Ln}(h:LensV w G L p l)(hl:Lawful l)(u v:ByteArray)(hu:u.size<=1048576)(hv:v.size<=1048576) :
  RoundSaid w L u v ⟨(A6 l u.data.toList).toArray⟩ ⟨(A9 l v.data.toList).toArray⟩ ⟨(B4 l v.data.toList u.data.toList).toArray⟩ (B7 (Ls.dXx l) u.data.toList) (B7 (Ls.dXv l) v.data.toList):=by
 have wfS:=(Ls.OkL.src _ h.ok).ok;have wfV:=(Ls.OkL.view _ h.ok).ok;have ofS:∀x:List UInt8,B7 (Ls.dXx l) x=true↔Ls.inL (Ls.dXx l) x/\x.length<=60:=fun x=>by
  unfold B7;rw[Bool.and_eq_true,decide_eq_true_eq,Ls.eX0 _ wfS]
 have ofV:∀x:List UInt8,B7 (Ls.dXv l) x=true↔Ls.inL (Ls.dXv l) x/\x.length<=60:=fun x=>by
  unfold B7;rw[Bool.and_eq_true,decide_eq_true_eq,Ls.eX0 _ wfV]
 have sz:∀x:List UInt8,(⟨x.toArray⟩:ByteArray).size=x.length:=fun x=>by simp[ByteArray.size]
 have dt:∀x:List UInt8,(⟨x.toArray⟩:ByteArray).data.toList=x:=fun x=>rfl;refine⟨fun W hW=>dQ4 u hu W G L p l (h.below hW),fun W hW=>dQ7 v hv W G L p l (h.below hW),fun W hW=>bQq u hu W G L p l (h.below hW),fun W hW=>dQu v hv W G L p l (h.below hW),fun W hW=>cQs v u hv hu W G L p l (h.below hW),?_,?_,?_,?_⟩
 ·intro hA h60 W hW
  rw[sz]at h60;have hs:=((ofS _).1 hA).1;have hv2:B7 (Ls.dXv l) (A6 l u.data.toList)=true:=(ofV _).2 ⟨hl.get _ hs,h60⟩;have:=cQs ⟨(A6 l u.data.toList).toArray⟩ u (by rw[sz];omega) hu W G L p l (h.below hW);unfold bQv A4 at this;rw[dt,hv2,hA,hl.back _ hs,aQ5]at this;exact this
 ·intro hB h60 W hW
  rw[sz]at h60;have hx:=hl.cre _ ((ofV _).1 hB).1;have hs2:B7 (Ls.dXx l) (A9 l v.data.toList)=true:=(ofS _).2 ⟨hx.1,h60⟩;have:=bQq ⟨(A9 l v.data.toList).toArray⟩ (by rw[sz];omega) W G L p l (h.below hW);unfold A4 at this;rw[dt,hs2,hx.2,aQ5]at this;exact this
 ·intro hA hB h60 W hW
  rw[sz]at h60;have hx:=hl.put _ _ ((ofV _).1 hB).1 ((ofS _).1 hA).1;have hs2:B7 (Ls.dXx l) (B4 l v.data.toList u.data.toList)=true:=(ofS _).2 ⟨hx.1,h60⟩;have:=bQq ⟨(B4 l v.data.toList u.data.toList).toArray⟩ (by rw[sz];omega) W G L p l (h.below hW);unfold A4 at this;rw[dt,hs2,hx.2,aQ5]at this;exact this
 ·intro hA hB h60 W hW
  rw[sz]at h60;have hx:=hl.put _ _ ((ofV _).1 hB).1 ((ofS _).1 hA).1;have hs2:B7 (Ls.dXx l) (B4 l v.data.toList u.data.toList)=true:=(ofS _).2 ⟨hx.1,h60⟩;have hbk:=hl.back _ hx.1;rw[hx.2]at hbk;have:=cQs v ⟨(B4 l v.data.toList u.data.toList).toArray⟩ hv (by rw[sz];omega) W G L p l (h.below hW);unfold bQv A4 at this;rw[dt,hB,hs2,hbk]at this;exact this
theorem aXd (s u v:ByteArray)(w:World)(r:Nat)(hr:r≠0)(hs:s.size<=1048576)(hu:u.size<=1048576)(hv:v.size<=1048576)(hA:Calls Tryz.prog 32 #[] w fun e w'=>e=.returned (.bool true)/\Below w.heap.size w w')
  (hC:∀W,Below w.heap.size w W->Calls Tryz.prog 18 #[.string s] W fun e w'=>e=.returned (.tuple #[.pointer none,.int .i64 r])/\Below W.heap.size W w') :
  Calls Tryz.prog 10 #[.string s,.string u,.string v] w fun e w'=>e=.returned (.bool true)/\Below w.heap.size w w':=by
 have hd:¬(1048576:Int)<(s.size:Int):=by omega
 have hd2:¬(1048576:Int)<(u.size:Int):=by omega
 have hd3:¬(1048576:Int)<(v.size:Int):=by omega
 have hr2:¬((r:Int)=0):=by omega
 have HC:Hid (∀W,Below w.heap.size w W->Calls Tryz.prog 18 #[.string s] W fun e w'=>e=.returned (.tuple #[.pointer none,.int .i64 r])/\Below W.heap.size W w'):=hC;clear hC;go_enter Tryz.func10,Tryz.ntmps10;go_wp2_with fail;refine hA.mono ?_;clear hA;rintro e w0 ⟨rfl,hb0⟩;have hC:=HC.out w0 hb0;go_wp2_with fail;refine hC.mono ?_;clear hC;rintro e w1 ⟨rfl,hb1⟩;go_wp2_with fail;go_ret;exact⟨rfl,Below.join hb0 hb1⟩
theorem aXr (s u v:ByteArray)(w:World)(hs:s.size<=1048576)(hu:u.size<=1048576)(hv:v.size<=1048576)(hC:∀W,Below w.heap.size w W->∀z:ByteArray,z.size<=1048576->Calls Tryz.prog 18 #[.string z] W (CompilePost z W)) :
  Calls Tryz.prog 10 #[.string s,.string u,.string v] w fun e w'=>e=.returned (.bool true)/\Below w.heap.size w w':=by
 have hA:=hQ7 w (hC w (Below.refl _ _) _ (by decide))
 by_cases h0:CompIs s.data.toList 0
 ·obtain⟨l,hp,ht⟩:∃l,E2 s.data.toList=some l/\B6 l:=by
   rcases h0 with⟨_,h⟩|⟨_,⟨_,h⟩|⟨l,hp,⟨_,h⟩|⟨_,⟨_,h⟩|⟨ht,_⟩⟩⟩⟩
   ·cases h
   ·cases h
   ·cases h
   ·cases h
   ·exact⟨l,hp,ht⟩
  have hC2:∀W,Below w.heap.size w W->Calls Tryz.prog 18 #[.string s] W fun e w'=>∃L,e=.returned (.tuple #[.pointer (some ⟨L,0,none⟩),.int .i64 ((0:Nat):Int)])/\Below W.heap.size W w'/\RoundSaid w' L u v ⟨(A6 l u.data.toList).toArray⟩ ⟨(A9 l v.data.toList).toArray⟩ ⟨(B4 l v.data.toList u.data.toList).toArray⟩ (B7 (Ls.dXx l) u.data.toList) (B7 (Ls.dXv l) v.data.toList):=fun W hW=>
   (hC W hW s hs).mono (fun e w' h=>by
    obtain⟨L,p,h1,h2,h3⟩:=h.known hp h0;exact⟨L,h1,h2,aXp h3 (eQc l h3.ok ht) u v hu hv⟩)
  cases hzA:B7 (Ls.dXx l) u.data.toList with
  | true=>
   cases hzB:B7 (Ls.dXv l) v.data.toList with
   | true=>rw[hzA,hzB]at hC2;exact aXt s u v _ _ _ w hs hu hv hA hC2
   | false=>rw[hzA,hzB]at hC2;exact aXs s u v _ _ _ w hs hu hv hA hC2
  | false=>
   cases hzB:B7 (Ls.dXv l) v.data.toList with
   | true=>rw[hzA,hzB]at hC2;exact aXi s u v _ _ _ w hs hu hv hA hC2
   | false=>rw[hzA,hzB]at hC2;exact aXh s u v _ _ _ w hs hu hv hA hC2
 ·by_cases hx:∃r,CompIs s.data.toList r
  ·obtain⟨r,hr⟩:=hx
   have hr0:r≠0:=fun e=>h0 (by rw[<-e];exact hr);refine aXd s u v w r hr0 hs hu hv hA (fun W hW=>(hC W hW s hs).mono (fun e w' h=>?_));obtain⟨x,r',h1,h2,_,h4,h5,_⟩:=h;obtain rfl:r'=r:=h2.one hr;cases x with
   | none=>exact⟨h1,h5⟩
   | some ad=>exact absurd (h4.1 rfl) hr0
  ·exact absurd (rQz s.data.toList) hx
end Go.Proofs.YtfklinjaajafgaaGreatDoor
namespace Go.Proofs.YtfklinjaajafgaaGreatDoor
open Go.ChangeShapes Go.WideShapes Go.ChangeAt Go.RowKit
open Go.ChangeMaps (open_string shut_string)
theorem aXj (a b d:ByteArray)(w:World){a0 a1 a2 a3:Addr}(hs:Sent w a0 a1 a2 a3) :
  Calls Tryz.prog 10 #[.string a,.string b,.string d] w fun e w'=>e=.returned (.bool true)/\Below w.heap.size w w':=by
 by_cases h:1048576<a.size\/1048576<b.size\/1048576<d.size
 ·exact aXl a b d w h (hQ7 w (aQg _ (by decide) w a0 a1 a2 a3 hs))
 ·exact aXr a b d w (by omega) (by omega) (by omega) (fun W hW z hz=>aQg z (by omega) W a0 a1 a2 a3 (hs.below hW))
theorem aXk (os:Os)(started:os.Started)(H:Type)(enc:TypeId × Value->H) :
  ReturnsInHanded {} Tryz.checked os 10 .any (fun w args=>(Rows.roundSpec.pre enc Tryz.prog Tryz.f10 [] false w args/\laidMetH Tryz.prog laid4 w)/\sizedMet enc Tryz.prog Tryz.f10 (OpenSpec.ofChange Rows.roundSpec) false w args)
   (Rows.roundSpec.post enc Tryz.prog Tryz.f10 false true false false):=by
 refine returnsInHanded_of_change_and (C:=Tryz.checked) (X:=fun w _=>laidMetH Tryz.prog laid4 w) (fun _ _ _ hh h=>h.of_heap hh) own started (by kernel_rfl) Tryz.func10
  (ChangeSpec.witness_shaped (enc:=enc) (C:=Tryz.checked) (os:=os) (X:=fun w _=>laidMetH Tryz.prog laid4 w) false (World.doorLaid Tryz.prog 400 os) #[.string ByteArray.empty,.string ByteArray.empty,.string ByteArray.empty] 8 rfl (World.shaped_of_RefB (by kernel_rfl) (by kernel_rfl)) (by kernel_rfl) (by kernel_rfl) (by kernel_rfl) (aQx os _)) ?_
 intro W base args ds gs before hval0 hW _ _ hL _;have hval:∀(j:Nat) t v,Tryz.f10.params[j]?=some t->args[j]?=some v->Value.okWide Tryz.prog W .any base t v:=hval0;have hW':=hW;obtain⟨p,q,hA0,hV,rfl,hfz,hnd⟩:=hW;have hA:DataW.TrodAll enc Tryz.prog W 0 (fun _=>true) true Tryz.f10.params.toList args.toList ds p:=hA0;rw[Tryz.params10]at hA hval;obtain⟨v0,vs0,d0,ds0,p0,q0,hargs,rfl,rfl,h0,r0⟩:=trodAll_cons hA;obtain⟨v1,vs1,d1,ds1,p1,q1,rfl,rfl,rfl,h1,r1⟩:=trodAll_cons r0;obtain⟨v2,vs2,d2,ds2,p2,q2,rfl,rfl,rfl,h2,r2⟩:=trodAll_cons r1;obtain⟨rfl,rfl,rfl⟩:=trodAll_nil r2;obtain rfl:args=#[v0,v1,v2]:=by cases args;simp_all
 obtain⟨rfl,rfl⟩:=trodVars_none hV;obtain⟨a0,rfl,rfl,rfl,w0⟩:=open_string Tryz.underlying9 (hval 0 9 v0 rfl rfl) h0;obtain⟨a1,rfl,rfl,rfl,w1⟩:=open_string Tryz.underlying9 (hval 1 9 v1 rfl rfl) h1;obtain⟨a2,rfl,rfl,rfl,w2⟩:=open_string Tryz.underlying9 (hval 2 9 v2 rfl rfl) h2;obtain⟨x0,x1,x2,x3,hs⟩:=aQ2 hL;clear hA0 hval0;simp only[List.append_nil]at hW';refine(aXj a0 a1 a2 W hs).mono fun e W' ⟨he,hg⟩=>?_;subst he;refine⟨_,rfl,_,_,_,[],[],[],hW',?_,?_,?_,hg.frame _,fun h=>by cases h⟩
 ·exact trodAll_cons_mk (shut_bool Tryz.underlying4 _) trodAll_mk0
 ·exact trodAll_cons_mk (shut_string Tryz.underlying9 w0) (trodAll_cons_mk (shut_string Tryz.underlying9 w1) (trodAll_cons_mk (shut_string Tryz.underlying9 w2) trodAll_mk0))
 ·rfl
theorem aXq:Rows.RoundSaid:=
 OpenClaim.holds_of_wide 10 Tryz.f10 rfl rfl rfl rfl rfl rfl rfl ⟨rfl,rfl,rfl,rfl,rfl⟩ rfl rfl rfl rfl rfl (by kernel_rfl) Tryz.func10 (by kernel_rfl)
  (of_decide_eq_true (by kernel_rfl)) (by unfold Func.isWrapper;first|(rw[if_pos (by decide +kernel)];kernel_rfl)|(rw[if_neg (by decide +kernel)];exact⟨rfl,rfl⟩))
  (fun os started H enc _=>aXk os started H enc)
theorem round_holds:Rows.RoundCardSaid:=
 Claim7.holds_tied_plain_at .later [] [.sentinel,.sentinel,.sentinel,.sentinel] true Rows.roundCard.stood.harness true
  aXq (fun _ h=>by cases h) (by kernel_rfl) (fun _ h=>by cases h) round_row_tie rfl ⟨rfl,rfl⟩ (by kernel_rfl) rfl
  (fun f fn hf hfn=>by
   obtain rfl : f = 10 := Option.some.inj ((show Tryz.prog.funcNamed "lenses/lenseskeep.Round" = some 10 by kernel_rfl).symm.trans hf) |>.symm
   obtain rfl:fn=Tryz.f10:=(Option.some.inj (Tryz.func10.symm.trans hfn)).symm;exact⟨by kernel_rfl,fun j t ht=>by
    rw[Tryz.params10]at ht;have hm:t∈[9,9,9]:=by simpa using Array.mem_of_getElem? ht
    have hall:([9,9,9].all fun u=>!Tryz.prog.wantsStandIn u)=true:=by kernel_rfl
    exact(show Tryz.prog.wantsStandIn t=false by simpa using List.all_eq_true.1 hall t hm)⟩) (by kernel_rfl)
end Go.Proofs.YtfklinjaajafgaaGreatDoor
