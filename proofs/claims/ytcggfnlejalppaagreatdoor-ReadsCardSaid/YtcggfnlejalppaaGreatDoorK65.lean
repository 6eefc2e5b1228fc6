import Derived.Test.YtcggfnlejalppaaGreatDoorK54
import Derived.Test.YtcggfnlejalppaaGreatDoorK39
import Derived.Test.YtcggfnlejalppaaGreatDoorK64
import Derived.Test.YtcggfnlejalppaaGreatDoorK60
import Derived.Test.YtcggfnlejalppaaGreatDoorK04
import Derived.SliceStrings
import Derived.Carry
set_option maxRecDepth 100000
set_option maxHeartbeats 4000000
namespace Go.Proofs.YtcggfnlejalppaaGreatDoor
open Go.RowKit
theorem qQq {s:ByteArray}{w w1 w2:World}{l l':Ls.Ln}{L p:Nat}(_hb1:Below w.heap.size w w1)(h1:F9 s.data.toList=some l)(h2:F9 s.data.toList=some l')(ok:Ls.OkL 120 l)(hcn:cn l<=30000)(h24:Ls.wQv l<=24)
  (hB:Blk w1 L #[.pointer (some ⟨p,0,none⟩)] 79) (hp:PartV w1 (B6 w w1) p l) (hb2:Below w1.heap.size w1 w2):l'=l/\LensV w2 (B6 w w1) L p l:=⟨(Option.some.inj (h1.symm.trans h2)).symm,LensV.below ⟨hB,hp,fun _ hk=>hk.2,ok,h24,hcn⟩ hb2⟩
theorem rQe (s:ByteArray)(a:Option Addr)(n c:Nat)(w:World)(h:1048576<s.size\/4096<n) :
  Calls Tryz.prog 5 #[.string s,.slice a n c] w fun e w'=>e=.returned (.bool true)/\Below w.heap.size w w':=by
 by_cases h1:1048576<s.size
 ·have hd:(1048576:Int)<(s.size:Int):=by omega
  go_enter Tryz.func5,Tryz.ntmps5;go_wp2_with fail;go_ret;exact⟨rfl,Below.refl _ _⟩
 ·have hd:¬(1048576:Int)<(s.size:Int):=by omega
  have hd2:(4096:Int)<(n:Int):=by omega
  go_enter Tryz.func5,Tryz.ntmps5;go_wp2_with fail;go_ret;exact⟨rfl,Below.refl _ _⟩
theorem uQ0 (s:ByteArray)(a:Option Addr)(n c:Nat)(w:World)(hs:s.size<=1048576)(hn:n<=4096)(f:Nat->ByteArray)(hX:∀W,Below w.heap.size w W->∀i,i<n->∃d,a=some d/\W.cell? (d.add i)=some (.string (f i)))(hC:Calls Tryz.prog 15 #[.string s] w (aQ1 s w)) :
  Calls Tryz.prog 5 #[.string s,.slice a n c] w fun e w'=>e=.returned (.bool true)/\Below w.heap.size w w':=by
 have hd:¬(1048576:Int)<(s.size:Int):=by omega
 have hd2:¬(4096:Int)<(n:Int):=by omega
 have HX:Hid (∀W,Below w.heap.size w W->∀i,i<n->∃d,a=some d/\W.cell? (d.add i)=some (.string (f i))):=hX;clear hX;go_enter Tryz.func5,Tryz.ntmps5;go_wp2_with fail;refine hC.mono ?_;rintro e w1 ⟨v0,r,rfl,hr,hr4,hv0,hb1,hpr⟩;have HR:Hid (CompIs s.data.toList r):=hr;have HV:Hid (v0.isSome=true↔r=0):=hv0;have HP:Hid (r=0->∃l L p,v0=some ⟨L,0,none⟩/\F9 s.data.toList=some l/\Ls.OkL 120 l/\cn l<=30000/\Ls.wQv l<=24/\w.heap.size<=L/\Blk w1 L #[.pointer (some ⟨p,0,none⟩)] 79/\PartV w1 (B6 w w1) p l):=hpr;clear hr hv0 hC hpr;go_wp2_with fail;refine(mQj s w1).mono ?_;rintro e w2 ⟨k,p,ws,y1,y2,y3,x1,x2,x3,r2,rfl,hr2,hb2,hnv⟩;have hrr:r2=r:=hr2.one HR.out;subst hrr;have HN:Hid (r2=0->∃l,F9 s.data.toList=some l/\l.kind=k/\Ls.wQu l.p=p/\l.w=ws/\NV w2 (B6 w1 w2) l (.slice y1 y2 y3) (.slice x1 x2 x3)):=hnv;clear hr2 HR hnv
 by_cases h0:r2=0
 ·subst h0
  obtain⟨l,L,p0,rfl,h1,h2,h3,h4,h5,h6,h7⟩:=HP.out rfl;obtain⟨l',k1,rfl,rfl,rfl,k5⟩:=HN.out rfl;obtain⟨rfl,hLV⟩:=qQq hb1 h1 k1 h2 h3 h4 h6 h7 hb2;have hb3:=A4 w2 (A8 l'.kind (Ls.wQu l'.p) l'.w (.slice y1 y2 y3) (.slice x1 x2 x3));have hX3:Blk (w2.alloc (A8 l'.kind (Ls.wQu l'.p) l'.w (.slice y1 y2 y3) (.slice x1 x2 x3))) w2.heap.size #[.int .i64 l'.kind,.int .i64 (Ls.wQu l'.p).kind,.string ⟨(Ls.wQu l'.p).signs.toArray⟩,.slice y1 y2 y3,.string ⟨l'.w.toArray⟩,.slice x1 x2 x3] 37:=Blk.new w2 _ _;have hwd:=j6 l' 120 h2 (by omega);have HD:Hid (∀W (t:ByteArray),t.size<=1048576->Below w2.heap.size w2 W->
    (Calls Tryz.prog 17 #[.pointer (some ⟨L,0,none⟩),.string t] W fun e w'=>e=.returned (.bool (C9 (Ls.wQx l') t.data.toList))/\Below W.heap.size W w')/\
    (Calls Tryz.prog 19 #[.pointer (some ⟨L,0,none⟩),.string t] W fun e w'=>e=.returned (.bool (C9 (Ls.wQw l') t.data.toList))/\Below W.heap.size W w')/\
    (Calls Tryz.prog 21 #[.pointer (some ⟨L,0,none⟩),.string t] W fun e w'=>e=.returned (if C9 (Ls.wQx l') t.data.toList=true then .tuple #[.string ⟨(A9 l' t.data.toList).toArray⟩,.int .i64 0] else .tuple #[.string ⟨#[]⟩,.int .i64 5])/\Below W.heap.size W w')):=fun W t ht hW=>⟨fQc t ht W _ L p0 l' (hLV.below hW),jQj t ht W _ L p0 l' (hLV.below hW),sQq t ht W _ L p0 l' (hLV.below hW)⟩
  have HE:Hid (∀W (t:ByteArray),t.size<=1048576->Below w2.heap.size w2 W->
    (Calls Tryz.prog 18 #[J8 l' (.slice y1 y2 y3) (.slice x1 x2 x3),.string t] W fun e w'=>e=.returned (.bool (C9 (Ls.wQx l') t.data.toList))/\Below W.heap.size W w')/\
    (Calls Tryz.prog 20 #[J8 l' (.slice y1 y2 y3) (.slice x1 x2 x3),.string t] W fun e w'=>e=.returned (.bool (C9 (Ls.wQw l') t.data.toList))/\Below W.heap.size W w')/\
    (Calls Tryz.prog 22 #[J8 l' (.slice y1 y2 y3) (.slice x1 x2 x3),.string t] W fun e w'=>e=.returned (if C9 (Ls.wQx l') t.data.toList=true then .tuple #[.string ⟨(A9 l' t.data.toList).toArray⟩,.int .i64 0] else .tuple #[.string ⟨#[]⟩,.int .i64 5])/\Below W.heap.size W w')):=fun W t ht hW=>by
   have hO:Old W (B6 w1 w2):=fun k hk=>Nat.lt_of_lt_of_le hk.2 hW.size;have hnv:=k5.below hW (fun k hk=>hk.2) (fun _ h=>h);exact⟨gQp l' h2 (H6 l' h2) t ht _ _ W _ hO hnv,jQ1 l' h2 (Q9 l' h2 hwd) t ht _ _ W _ hO hnv,qQp l' h2 (H6 l' h2) (cQf l' h2 (cQa h2 h4 (by omega))) t ht _ _ W _ hO hnv⟩
  have HB3:Hid (Below w2.heap.size w2 (w2.alloc (A8 l'.kind (Ls.wQu l'.p) l'.w (.slice y1 y2 y3) (.slice x1 x2 x3)))):=hb3;have HX3:Hid (∀W,Below (w2.alloc (A8 l'.kind (Ls.wQu l'.p) l'.w (.slice y1 y2 y3) (.slice x1 x2 x3))).heap.size (w2.alloc (A8 l'.kind (Ls.wQu l'.p) l'.w (.slice y1 y2 y3) (.slice x1 x2 x3))) W->Blk W w2.heap.size #[.int .i64 l'.kind,.int .i64 (Ls.wQu l'.p).kind,.string ⟨(Ls.wQu l'.p).signs.toArray⟩,.slice y1 y2 y3,.string ⟨l'.w.toArray⟩,.slice x1 x2 x3] 37):=fun W hW=>hX3.below hW hX3.lt;have HB12:Hid (Below w.heap.size w w2):=Below.join hb1 hb2;clear HP HN HV k1 k5 h1 h2 h3 h4 h5 h6 h7 hLV hwd hb3 hX3;go_wp2_with fail;generalize w2.alloc (A8 l'.kind (Ls.wQu l'.p) l'.w (.slice y1 y2 y3) (.slice x1 x2 x3))=W3 at *;go_loopw [9] (fun t wr=>∃i:Nat,i<=n/\t=.int .i64 i/\Below W3.heap.size W3 wr) (fun t _=>n-(intOf t).toNat)
  case atStart=>exact⟨0,Nat.zero_le _,rfl,Below.refl _ _⟩
  case round=>
   obtain⟨i,hi,rfl,hbwr⟩:=hrel;have HBW:Hid (∀W,Below W3.heap.size W3 W->Below w.heap.size w W):=fun W hW=>Below.join (Below.join HB12.out HB3.out) hW
   by_cases hlt:i<n
   ·have hz1:(0:Int)<=(i:Int):=by omega
    have hz2:(i:Int)<(n:Int):=by omega
    obtain⟨d,rfl,hcell⟩:=HX.out wr (HBW.out wr hbwr) i hlt;have HS:Hid (∀W:World,Below W3.heap.size W3 W->(W.cell? ⟨w2.heap.size,0,none⟩=some (.int .i64 l'.kind)/\W.cell? ⟨w2.heap.size,1,none⟩=some (.int .i64 (Ls.wQu l'.p).kind)/\W.cell? ⟨w2.heap.size,2,none⟩=some (.string ⟨(Ls.wQu l'.p).signs.toArray⟩)/\W.cell? ⟨w2.heap.size,3,none⟩=some (.slice y1 y2 y3)/\W.cell? ⟨w2.heap.size,4,none⟩=some (.string ⟨l'.w.toArray⟩)/\W.cell? ⟨w2.heap.size,5,none⟩=some (.slice x1 x2 x3))/\W.cell? (d.add i)=some (.string (f i))):=fun W hW=>by
     obtain⟨d',hd',hc'⟩:=HX.out W (HBW.out W hW) i hlt;cases hd';exact⟨(HX3.out W hW).six,hc'⟩
    have HD0:=fun (ht:(f i).size<=1048576) W (hW:Below W3.heap.size W3 W)=>HD.out W (f i) ht (Below.join HB3.out hW);have HD':Hid _:=HD0;clear HD0
    have HE0:=fun (ht:(f i).size<=1048576) W (hW:Below W3.heap.size W3 W)=>HE.out W (f i) ht (Below.join HB3.out hW);have HE':Hid _:=HE0;clear HE0
    generalize A9 l' (f i).data.toList=gv at *;generalize C9 (Ls.wQx l') (f i).data.toList=zs at *;generalize C9 (Ls.wQw l') (f i).data.toList=zv at *;generalize f i=t at *;clear HD HE HX HX3
    by_cases hbig:1048576<t.size
    ·have hbi:(1048576:Int)<(t.size:Int):=by omega
     clear HD' HE' HS;go_wp2_with fail;go_roundw
     case rel=>exact⟨i+1,by omega,by go_num,hbwr⟩
     case measure=>simp[intOf];omega
    ·have hbi:¬(1048576:Int)<(t.size:Int):=by omega
     have hts:t.size<=1048576:=by omega
     have HD2:=HD'.out hts;have HE2:=HE'.out hts;clear HD' HE';have HD':Hid _:=HD2;have HE':Hid _:=HE2;clear HD2 HE2 hcell;obtain⟨⟨a0,a1,a2,a3,a4,a5⟩,hcell⟩:=HS.out wr hbwr;have hC:=(HD'.out wr hbwr).1;go_wp2_with fail;refine hC.mono ?_;clear hC a0 a1 a2 a3 a4 a5 hcell;rintro e w4 ⟨rfl,hbd⟩;have hbw4:Below W3.heap.size W3 w4:=Below.join hbwr hbd;clear hbd;obtain⟨⟨a0,a1,a2,a3,a4,a5⟩,hcell⟩:=HS.out w4 hbw4;go_wp2_with fail;go_region_held (fun w'=>(w'.cell? ⟨w2.heap.size,0,none⟩=some (.int .i64 l'.kind)/\w'.cell? ⟨w2.heap.size,1,none⟩=some (.int .i64 (Ls.wQu l'.p).kind)/\w'.cell? ⟨w2.heap.size,2,none⟩=some (.string ⟨(Ls.wQu l'.p).signs.toArray⟩)/\w'.cell? ⟨w2.heap.size,3,none⟩=some (.slice y1 y2 y3)/\w'.cell? ⟨w2.heap.size,4,none⟩=some (.string ⟨l'.w.toArray⟩)/\w'.cell? ⟨w2.heap.size,5,none⟩=some (.slice x1 x2 x3))/\w'.cell? (d.add i)=some (.string t)) (first|with_reducible assumption|with_reducible exact HS.out _ hbw4.drew|with_reducible exact HS.out _ hcur)
      (first
       | (go_at_call 18;refine(HE'.out _ ?_).1.mono ?_;exact hbw4.drew;rintro e w5 ⟨rfl,hbd⟩;have hbw5:Below W3.heap.size W3 w5:=Below.join hbw4.drew hbd;have hcur:=hbw5;clear hbd))
     all_goals
      obtain⟨⟨a0,a1,a2,a3,a4,a5⟩,hcell⟩:=HS.out w5 hbw5;have hC:=(HD'.out w5 hbw5).2.1;go_wp2_with fail;refine hC.mono ?_;clear hC a0 a1 a2 a3 a4 a5 hcell;rintro e w6 ⟨rfl,hbd⟩;have hbw6:Below W3.heap.size W3 w6:=Below.join hbw5 hbd;clear hbd;obtain⟨⟨a0,a1,a2,a3,a4,a5⟩,hcell⟩:=HS.out w6 hbw6;go_wp2_with fail;go_region_held (fun w'=>(w'.cell? ⟨w2.heap.size,0,none⟩=some (.int .i64 l'.kind)/\w'.cell? ⟨w2.heap.size,1,none⟩=some (.int .i64 (Ls.wQu l'.p).kind)/\w'.cell? ⟨w2.heap.size,2,none⟩=some (.string ⟨(Ls.wQu l'.p).signs.toArray⟩)/\w'.cell? ⟨w2.heap.size,3,none⟩=some (.slice y1 y2 y3)/\w'.cell? ⟨w2.heap.size,4,none⟩=some (.string ⟨l'.w.toArray⟩)/\w'.cell? ⟨w2.heap.size,5,none⟩=some (.slice x1 x2 x3))/\w'.cell? (d.add i)=some (.string t)) (first|with_reducible assumption|with_reducible exact HS.out _ hbw6.drew|with_reducible exact HS.out _ hcur)
       (first
        | (go_at_call 20;refine(HE'.out _ ?_).2.1.mono ?_;exact hbw6.drew;rintro e w7 ⟨rfl,hbd⟩;have hbw7:Below W3.heap.size W3 w7:=Below.join hbw6.drew hbd;have hcur:=hbw7;clear hbd))
      all_goals
       cases zs with
       | true=>
        obtain⟨⟨a0,a1,a2,a3,a4,a5⟩,hcell⟩:=HS.out w7 hbw7;have hC:=(HD'.out w7 hbw7).2.2;go_wp2_with fail;refine hC.mono ?_;clear hC a0 a1 a2 a3 a4 a5 hcell;rintro e w8 ⟨rfl,hbd⟩;have hbw8:Below W3.heap.size W3 w8:=Below.join hbw7 hbd;clear hbd;obtain⟨⟨a0,a1,a2,a3,a4,a5⟩,hcell⟩:=HS.out w8 hbw8;go_wp2_with fail;go_region_held (fun w'=>(w'.cell? ⟨w2.heap.size,0,none⟩=some (.int .i64 l'.kind)/\w'.cell? ⟨w2.heap.size,1,none⟩=some (.int .i64 (Ls.wQu l'.p).kind)/\w'.cell? ⟨w2.heap.size,2,none⟩=some (.string ⟨(Ls.wQu l'.p).signs.toArray⟩)/\w'.cell? ⟨w2.heap.size,3,none⟩=some (.slice y1 y2 y3)/\w'.cell? ⟨w2.heap.size,4,none⟩=some (.string ⟨l'.w.toArray⟩)/\w'.cell? ⟨w2.heap.size,5,none⟩=some (.slice x1 x2 x3))/\w'.cell? (d.add i)=some (.string t)) (first|with_reducible assumption|with_reducible exact HS.out _ hbw8.drew|with_reducible exact HS.out _ hcur)
         (first
          | (go_at_call 22;refine(HE'.out _ ?_).2.2.mono ?_;exact hbw8.drew;rintro e w9 ⟨rfl,hbd⟩;have hbw9:Below W3.heap.size W3 w9:=Below.join hbw8.drew hbd;have hcur:=hbw9;clear hbd))
        all_goals
         go_wp2_with fail;go_roundw
         case rel=>exact⟨i+1,by omega,by go_num,hbw9⟩
         case measure=>simp[intOf];omega
       | false=>
        obtain⟨⟨a0,a1,a2,a3,a4,a5⟩,hcell⟩:=HS.out w7 hbw7;have hC:=(HD'.out w7 hbw7).2.2;go_wp2_with fail;refine hC.mono ?_;clear hC a0 a1 a2 a3 a4 a5 hcell;rintro e w8 ⟨rfl,hbd⟩;have hbw8:Below W3.heap.size W3 w8:=Below.join hbw7 hbd;clear hbd;obtain⟨⟨a0,a1,a2,a3,a4,a5⟩,hcell⟩:=HS.out w8 hbw8;go_wp2_with fail;go_region_held (fun w'=>(w'.cell? ⟨w2.heap.size,0,none⟩=some (.int .i64 l'.kind)/\w'.cell? ⟨w2.heap.size,1,none⟩=some (.int .i64 (Ls.wQu l'.p).kind)/\w'.cell? ⟨w2.heap.size,2,none⟩=some (.string ⟨(Ls.wQu l'.p).signs.toArray⟩)/\w'.cell? ⟨w2.heap.size,3,none⟩=some (.slice y1 y2 y3)/\w'.cell? ⟨w2.heap.size,4,none⟩=some (.string ⟨l'.w.toArray⟩)/\w'.cell? ⟨w2.heap.size,5,none⟩=some (.slice x1 x2 x3))/\w'.cell? (d.add i)=some (.string t)) (first|with_reducible assumption|with_reducible exact HS.out _ hbw8.drew|with_reducible exact HS.out _ hcur)
         (first
          | (go_at_call 22;refine(HE'.out _ ?_).2.2.mono ?_;exact hbw8.drew;rintro e w9 ⟨rfl,hbd⟩;have hbw9:Below W3.heap.size W3 w9:=Below.join hbw8.drew hbd;have hcur:=hbw9;clear hbd))
        all_goals
         go_wp2_with fail;go_roundw
         case rel=>exact⟨i+1,by omega,by go_num,hbw9⟩
         case measure=>simp[intOf];omega
   ·have hz2:¬(i:Int)<(n:Int):=by omega
    clear HD HE HX HX3;go_wp2_with fail;go_ret;exact⟨rfl,HBW.out wr hbwr⟩
 ·have h0':¬((r2:Int)=0):=by omega
  cases v0 with
  | some ad=>exact absurd (HV.out.1 rfl) h0
  | none=>
   clear HP HN HV;go_wp2_with fail;go_ret;exact⟨by simp,Below.join (Below.join hb1 hb2) (A4 _ _)⟩
end Go.Proofs.YtcggfnlejalppaaGreatDoor
namespace Go.Proofs.YtcggfnlejalppaaGreatDoor
open Go.ChangeShapes Go.WideShapes Go.ChangeAt Go.RowKit
open Go.ChangeMaps (open_string shut_string)
theorem jQr (b:ByteArray)(a:Option Addr)(n c:Nat)(w:World)(f:Nat->ByteArray)(hX:∀W,Below w.heap.size w W->∀i,i<n->∃d,a=some d/\W.cell? (d.add i)=some (.string (f i))){a0 a1 a2 a3:Addr}(hs:Sent w a0 a1 a2 a3) :
  Calls Tryz.prog 5 #[.string b,.slice a n c] w fun e w'=>e=.returned (.bool true)/\Below w.heap.size w w':=by
 by_cases h:1048576<b.size\/4096<n
 ·exact rQe b a n c w h
 ·exact uQ0 b a n c w (by omega) (by omega) f hX (oQ9 b (by omega) w a0 a1 a2 a3 hs)
theorem lQl {H:Type}{enc:TypeId × Value->H}{W:World}{a:Option Addr}{len cap fuel:Nat}{x:DataW H × List MemPlace}(hf:DataW.trod enc Tryz.prog W 0 (fun _=>true) true fuel 41 [.slice a len cap]=some x) :
  ∃f:Nat->ByteArray,∀W',Below W.heap.size W W'->∀i,i<len->∃d,a=some d/\W'.cell? (d.add i)=some (.string (f i)):=by
 rcases open_strings Tryz.underlying41 Tryz.underlying9 (by kernel_rfl) hf with⟨hcs,_⟩|⟨d,len',cap',ss,hcs,_,hl,_,hz,_,hcell,_⟩
 ·simp at hcs
  obtain⟨rfl,rfl,rfl⟩:=hcs;exact⟨fun _=>ByteArray.empty,fun _ _ i hi=>absurd hi (by omega)⟩
 ·simp at hcs
  obtain⟨rfl,rfl,rfl⟩:=hcs;simp only[if_true]at hz;refine⟨fun i=>ss.getD i ByteArray.empty,fun W' hb i hi=>⟨d,rfl,?_⟩⟩;have h:=hcell i (by omega);rw[hb.cell (p:=d.add i) (World.block_lt_of_cell? W _ h)];exact h
theorem kQ7 (os:Os)(started:os.Started)(H:Type)(enc:TypeId × Value->H) :
  ReturnsInHanded {} Tryz.checked os 5 .any (fun w args=>(Rows.readsSpec.pre enc Tryz.prog Tryz.f5 [] false w args/\laidMetH Tryz.prog laid4 w)/\sizedMet enc Tryz.prog Tryz.f5 (OpenSpec.ofChange Rows.readsSpec) false w args)
   (Rows.readsSpec.post enc Tryz.prog Tryz.f5 false true false false):=by
 refine returnsInHanded_of_change_and (C:=Tryz.checked) (X:=fun w _=>laidMetH Tryz.prog laid4 w) (fun _ _ _ hh h=>h.of_heap hh) own started (by kernel_rfl) Tryz.func5
  (ChangeSpec.witness_shaped (enc:=enc) (C:=Tryz.checked) (os:=os) (X:=fun w _=>laidMetH Tryz.prog laid4 w) false (World.doorLaid Tryz.prog 400 os) #[.string ByteArray.empty,.slice none 0 0] 8 rfl (World.shaped_of_RefB (by kernel_rfl) (by kernel_rfl)) (by kernel_rfl) (by kernel_rfl) (by kernel_rfl) (uQq os _)) ?_
 intro W base args ds gs before hval0 hW _ _ hL _;have hval:∀(j:Nat) t v,Tryz.f5.params[j]?=some t->args[j]?=some v->Value.okWide Tryz.prog W .any base t v:=hval0;have hW':=hW;obtain⟨p,q,hA0,hV,rfl,hfz,hnd⟩:=hW;have hA:DataW.TrodAll enc Tryz.prog W 0 (fun _=>true) true Tryz.f5.params.toList args.toList ds p:=hA0;rw[Tryz.params5]at hA hval;obtain⟨v0,vs0,d0,ds0,p0,q0,hargs,rfl,rfl,h0,r0⟩:=trodAll_cons hA;obtain⟨v1,vs1,d1,ds1,p1,q1,rfl,rfl,rfl,h1,r1⟩:=trodAll_cons r0;obtain⟨rfl,rfl,rfl⟩:=trodAll_nil r1;obtain rfl:args=#[v0,v1]:=by cases args;simp_all
 obtain⟨rfl,rfl⟩:=trodVars_none hV;obtain⟨a0,rfl,rfl,rfl,w0⟩:=open_string Tryz.underlying9 (hval 0 9 v0 rfl rfl) h0;have h1k:=h1;obtain⟨a1,len,cap,rfl⟩:=okWide_slice Tryz.underlying41 (hval 1 41 v1 rfl rfl);obtain⟨fuel,hf⟩:=h1;obtain⟨f,hX⟩:=lQl hf;obtain⟨x0,x1,x2,x3,hs⟩:=pQi hL;clear hA0 hval0;simp only[List.append_nil]at hW';have hlt:∀x∈p1,x.block<W.heap.size:=fun x hx=>by simpa using hW'.lt x (by simp[hx])
 refine(jQr a0 a1 len cap W f hX hs).mono fun e W' ⟨he,hg⟩=>?_;subst he;refine⟨_,rfl,_,_,_,[],[]++(p1++[]),[],hW',?_,?_,?_,hg.frame _,fun h=>by cases h⟩
 ·exact trodAll_cons_mk (shut_bool Tryz.underlying4 _) trodAll_mk0
 ·exact trodAll_cons_mk (shut_string Tryz.underlying9 w0) (trodAll_cons_mk (Below.trod (by kernel_rfl) (by kernel_rfl) (of_decide_eq_true (by kernel_rfl)) h1k hg hlt) trodAll_mk0)
 ·rfl
theorem sQe:Rows.ReadsSaid:=
 OpenClaim.holds_of_wide 5 Tryz.f5 rfl rfl rfl rfl rfl rfl rfl ⟨rfl,rfl,rfl,rfl,rfl⟩ rfl rfl rfl rfl rfl (by kernel_rfl) Tryz.func5 (by kernel_rfl)
  (of_decide_eq_true (by kernel_rfl)) (by unfold Func.isWrapper;first|(rw[if_pos (by decide +kernel)];kernel_rfl)|(rw[if_neg (by decide +kernel)];exact⟨rfl,rfl⟩))
  (fun os started H enc _=>kQ7 os started H enc)
theorem reads_holds:Rows.ReadsCardSaid:=
 Claim7.holds_tied_plain_at .later [] [.sentinel,.sentinel,.sentinel,.sentinel] true Rows.readsCard.stood.harness true
  sQe (fun _ h=>by cases h) (by kernel_rfl) (fun _ h=>by cases h) reads_row_tie rfl ⟨rfl,rfl⟩ (by kernel_rfl) rfl
  (fun f fn hf hfn=>by
   obtain rfl : f = 5 := Option.some.inj ((show Tryz.prog.funcNamed "lenses/lenseslaw.Reads" = some 5 by kernel_rfl).symm.trans hf) |>.symm
   obtain rfl:fn=Tryz.f5:=(Option.some.inj (Tryz.func5.symm.trans hfn)).symm;exact⟨by kernel_rfl,fun j t ht=>by
    rw[Tryz.params5]at ht;have hm:t∈[9,41]:=by simpa using Array.mem_of_getElem? ht
    have hall:([9,41].all fun u=>!Tryz.prog.wantsStandIn u)=true:=by kernel_rfl
    exact(show Tryz.prog.wantsStandIn t=false by simpa using List.all_eq_true.1 hall t hm)⟩) (by kernel_rfl)
end Go.Proofs.YtcggfnlejalppaaGreatDoor
