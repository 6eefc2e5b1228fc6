import Derived.Test.YtcggfnlejalppaaGreatDoorK39
import Derived.Test.YtcggfnlejalppaaGreatDoorK08
import Derived.Test.YtcggfnlejalppaaGreatDoorK09
set_option maxRecDepth 100000
set_option maxHeartbeats 4000000
namespace Go.Proofs.YtcggfnlejalppaaGreatDoor
open Go.RowKit
theorem Y2 {c:Nat}(p:Ls.Pat)(hp:Ls.BdL c p)(hc:c<=121)(s:ByteArray)(hs:s.size<=1048576)(y:Value)(w:World)(G:Nat->Prop)(hG:Old w G)(hv:PV w G p y) :
  Calls Tryz.prog 74 #[A7 p y,.string s] w fun e w'=>e=.returned (.bool (Ls.is p s.data.toList))/\Below w.heap.size w w':=
 fQk p _ (hp.room hc).1 (by simp) s (by unfold maxLen;omega) y w G hG hv
theorem hQg {c:Nat}(p:Ls.Pat)(hp:Ls.BdL c p)(hc:c<=121)(s:ByteArray)(hs:s.size<=1048576)(y:Value)(w:World)(G:Nat->Prop)(hG:Old w G)(hv:PV w G p y) :
  Calls Tryz.prog 44 #[A7 p y,.string s] w fun e w'=>e=.returned (.bool (C9 p s.data.toList))/\Below w.heap.size w w':=by
 obtain⟨y1,y2,y3,rfl⟩:=PV.slice _ _ hv;have hb1:=A4 w (B5 p (.slice y1 y2 y3));have hC:=Y2 p hp hc s hs (.slice y1 y2 y3) _ G (fun j hj=>Nat.lt_of_lt_of_le (hG j hj) hb1.size) (hv.below hb1 (fun j hj=>hG j hj) (fun _ h=>h));have HB:Hid _:=hb1;have HO:Hid (C9 p s.data.toList=(Ls.is p s.data.toList&&decide (s.size<=60))):=by show _=_;unfold C9;rw[Array.length_toList];rfl
 generalize Ls.is p s.data.toList=b at *;generalize C9 p s.data.toList=r at *;clear hv hb1;go_enter Tryz.func44,Tryz.ntmps44;go_wp2_with fail;refine hC.mono ?_;rintro e w2 ⟨rfl,hb2⟩;clear hC;cases b with
 | false=>
  have HR:Hid (r=false):=by rw[HO.out];rfl
  clear HO;go_wp2_with fail;go_ret;exact⟨by rw[HR.out];rfl,Below.join HB.out hb2⟩
 | true=>
  have HR:Hid (r=decide ((s.size:Int)<=60)):=by
   show _=_;rw[HO.out,Bool.true_and]
   by_cases h:s.size<=60
   ·rw[decide_eq_true h,decide_eq_true (by omega)]
   ·rw[decide_eq_false h,decide_eq_false (by omega)]
  clear HO;go_wp2_with fail;go_ret;exact⟨by rw[HR.out];rfl,Below.join HB.out hb2⟩
theorem gQp (l:Ls.Ln)(hok:Ls.OkL 120 l)(hS:D4 l)(s:ByteArray)(hs:s.size<=1048576)(y x:Value)(w:World)(G:Nat->Prop)(hG:Old w G)(hn:NV w G l y x) :
  Calls Tryz.prog 18 #[J8 l y x,.string s] w fun e w'=>e=.returned (.bool (C9 (Ls.wQx l) s.data.toList))/\Below w.heap.size w w':=by
 obtain⟨⟨y1,y2,y3,rfl⟩,x1,x2,x3,rfl⟩:=NV.slices _ _ _ hn;have hb1:=A4 w (A8 l.kind (Ls.wQu l.p) l.w (.slice y1 y2 y3) (.slice x1 x2 x3));have hG1:Old (w.alloc (A8 l.kind (Ls.wQu l.p) l.w (.slice y1 y2 y3) (.slice x1 x2 x3))) G:=fun j hj=>Nat.lt_of_lt_of_le (hG j hj) hb1.size;have hC:=hS (.slice y1 y2 y3) (.slice x1 x2 x3) _ G hG1 (hn.below hb1 (fun j hj=>hG j hj) (fun _ h=>h));have HB:Hid _:=hb1;have hbd:=hok.src;generalize hr:C9 (Ls.wQx l) s.data.toList=r;have HR:Hid (C9 (Ls.wQx l) s.data.toList=r):=hr;clear hn hb1 hS hr;go_enter Tryz.func18,Tryz.ntmps18;go_wp2_with fail;refine hC.mono ?_;clear hC;rintro e w2 ⟨v,rfl,hv,hb2⟩;have hC2:=hQg (Ls.wQx l) hbd (by omega) s hs v w2 _ (fun j hj=>by
  rcases hj with hj|hj
  ·exact Nat.lt_of_lt_of_le (hG1 j hj) hb2.size
  ·exact hj.2) hv
 obtain⟨v1,v2,v3,rfl⟩:=PV.slice _ _ hv;clear hv;rw[HR.out]at hC2;go_wp2_with fail;refine hC2.mono ?_;rintro e w3 ⟨rfl,hb3⟩;go_wp2_with fail;go_ret;exact⟨rfl,Below.join (Below.join HB.out hb2) hb3⟩
theorem jQ1 (l:Ls.Ln)(hok:Ls.OkL 120 l)(hS:E9 l)(s:ByteArray)(hs:s.size<=1048576)(y x:Value)(w:World)(G:Nat->Prop)(hG:Old w G)(hn:NV w G l y x) :
  Calls Tryz.prog 20 #[J8 l y x,.string s] w fun e w'=>e=.returned (.bool (C9 (Ls.wQw l) s.data.toList))/\Below w.heap.size w w':=by
 obtain⟨⟨y1,y2,y3,rfl⟩,x1,x2,x3,rfl⟩:=NV.slices _ _ _ hn;have hb1:=A4 w (A8 l.kind (Ls.wQu l.p) l.w (.slice y1 y2 y3) (.slice x1 x2 x3));have hG1:Old (w.alloc (A8 l.kind (Ls.wQu l.p) l.w (.slice y1 y2 y3) (.slice x1 x2 x3))) G:=fun j hj=>Nat.lt_of_lt_of_le (hG j hj) hb1.size;have hC:=hS (.slice y1 y2 y3) (.slice x1 x2 x3) _ G hG1 (hn.below hb1 (fun j hj=>hG j hj) (fun _ h=>h));have HB:Hid _:=hb1;have hbd:=hok.view;generalize hr:C9 (Ls.wQw l) s.data.toList=r;have HR:Hid (C9 (Ls.wQw l) s.data.toList=r):=hr;clear hn hb1 hS hr;go_enter Tryz.func20,Tryz.ntmps20;go_wp2_with fail;refine hC.mono ?_;clear hC;rintro e w2 ⟨v,rfl,hv,hb2⟩;have hC2:=hQg (Ls.wQw l) hbd (by omega) s hs v w2 _ (fun j hj=>by
  rcases hj with hj|hj
  ·exact Nat.lt_of_lt_of_le (hG1 j hj) hb2.size
  ·exact hj.2) hv
 obtain⟨v1,v2,v3,rfl⟩:=PV.slice _ _ hv;clear hv;rw[HR.out]at hC2;go_wp2_with fail;refine hC2.mono ?_;rintro e w3 ⟨rfl,hb3⟩;go_wp2_with fail;go_ret;exact⟨rfl,Below.join (Below.join HB.out hb2) hb3⟩
theorem bQg (s:ByteArray)(i:Nat):(s.extract 0 i).data.toList=s.data.toList.take i:=by
 rw[q9];simp
theorem Z6 (s:ByteArray)(i:Nat):(s.extract i s.size).data.toList=s.data.toList.drop i:=by
 rw[q9];show List.take (s.size-i) (rest s i)=_;exact List.take_of_length_le (by rw[D9];omega)
theorem gQc {c:Nat}(p q:Ls.Pat)(hp:Ls.BdL c p)(hq:Ls.BdL c q)(hc:c<=121)(s:ByteArray)(hs:s.size<=1048576)(y z:Value)(w:World)(G:Nat->Prop)(hG:Old w G)(hy:PV w G p y)(hz:PV w G q z) :
  Calls Tryz.prog 81 #[.string s,A7 p y,A7 q z] w fun e w'=>e=.returned (.int .i64 (D3 p q s.data.toList))/\Below w.heap.size w w':=by
 obtain⟨y1,y2,y3,rfl⟩:=PV.slice _ _ hy;obtain⟨z1,z2,z3,rfl⟩:=PV.slice _ _ hz;have hb1:=C0 w (B5 p (.slice y1 y2 y3)) (B5 q (.slice z1 z2 z3));have HI:Hid (∀W k,k<=s.size->Below w.heap.size w W->Calls Tryz.prog 74 #[A7 p (.slice y1 y2 y3),.string (s.extract 0 k)] W fun e w'=>e=.returned (.bool (Ls.is p (s.data.toList.take k)))/\Below W.heap.size W w'):=fun W k hk hW=>by
  have:=Y2 p hp hc (s.extract 0 k) (by rw[ByteArray.size_extract];omega) _ W G (fun j hj=>Nat.lt_of_lt_of_le (hG j hj) hW.size) (hy.below hW (fun j hj=>hG j hj) (fun _ h=>h));rw[bQg]at this;exact this
 have HJ:Hid (∀W k,k<=s.size->Below w.heap.size w W->Calls Tryz.prog 74 #[A7 q (.slice z1 z2 z3),.string (s.extract k s.size)] W fun e w'=>e=.returned (.bool (Ls.is q (s.data.toList.drop k)))/\Below W.heap.size W w'):=fun W k hk hW=>by
  have:=Y2 q hq hc (s.extract k s.size) (by rw[ByteArray.size_extract];omega) _ W G (fun j hj=>Nat.lt_of_lt_of_le (hG j hj) hW.size) (hz.below hW (fun j hj=>hG j hj) (fun _ h=>h));rw[Z6]at this;exact this
 have HB:Hid _:=hb1;have HL:Hid (s.data.toList.length=s.size):=by show _=_;simp
 have HA:Hid (∀W:World,Below ((w.alloc (B5 p (.slice y1 y2 y3))).alloc (B5 q (.slice z1 z2 z3))).heap.size ((w.alloc (B5 p (.slice y1 y2 y3))).alloc (B5 q (.slice z1 z2 z3))) W->
   (W.cell? ⟨w.heap.size,0,none⟩=some (.int .i64 p.kind)/\W.cell? ⟨w.heap.size,1,none⟩=some (.string ⟨p.signs.toArray⟩)/\W.cell? ⟨w.heap.size,2,none⟩=some (.slice y1 y2 y3))/\
   (W.cell? ⟨w.heap.size+1,0,none⟩=some (.int .i64 q.kind)/\W.cell? ⟨w.heap.size+1,1,none⟩=some (.string ⟨q.signs.toArray⟩)/\W.cell? ⟨w.heap.size+1,2,none⟩=some (.slice z1 z2 z3))):=fun W hW=>by
  have h1:(w.alloc (B5 p (.slice y1 y2 y3))).heap[w.heap.size]?=some (.cells #[.int .i64 p.kind,.string ⟨p.signs.toArray⟩,.slice y1 y2 y3] 27 (0,0)):=heap_alloc_new _ _;have h2:((w.alloc (B5 p (.slice y1 y2 y3))).alloc (B5 q (.slice z1 z2 z3))).heap[w.heap.size+1]?=some (.cells #[.int .i64 q.kind,.string ⟨q.signs.toArray⟩,.slice z1 z2 z3] 27 (0,0)):=by
   have:=heap_alloc_new (w.alloc (B5 p (.slice y1 y2 y3))) (B5 q (.slice z1 z2 z3));rw[World.size_alloc]at this;exact this
  rw[<-Below.heap_alloc _ (B5 q (.slice z1 z2 z3)) _ (by simp),<-hW.block _ (by simp;omega)]at h1;rw[<-hW.block _ (by simp)]at h2;exact⟨⟨by simp[World.cell?,h1],by simp[World.cell?,h1],by simp[World.cell?,h1]⟩,by simp[World.cell?,h2],by simp[World.cell?,h2],by simp[World.cell?,h2]⟩
 clear hy hz hb1;have hz0:((w.alloc (B5 p (.slice y1 y2 y3))).alloc (B5 q (.slice z1 z2 z3))).heap.size=w.heap.size+1+1:=by simp
 go_enter Tryz.func81,Tryz.ntmps81;go_wp2_with fail;generalize (w.alloc (B5 p (.slice y1 y2 y3))).alloc (B5 q (.slice z1 z2 z3))=W0 at *;go_loopw [7] (fun t wr=>∃k:Nat,k<=s.size+1/\t=.int .i64 k/\Below W0.heap.size W0 wr/\D3 p q s.data.toList=L9 p q s.data.toList (s.size+1-k) k) (fun t _=>s.size+1-(intOf t).toNat)
 case atStart=>exact⟨0,Nat.zero_le _,rfl,Below.refl _ _,by unfold D3;rw[HL.out];rfl⟩
 case round=>
  obtain⟨k,hk,rfl,hbw,hcut⟩:=hrel;have HC:Hid (D3 p q s.data.toList=L9 p q s.data.toList (s.size+1-k) k):=hcut;have hbw0:=Below.join HB.out hbw;obtain⟨⟨c0,c1,c2⟩,d0,d1,d2⟩:=HA.out wr hbw;clear hcut
  by_cases hle:k<=s.size
  ·have hle2:(k:Int)<=(s.size:Int):=by omega
   have h0:(0:Int)<=(k:Int):=by omega
   have HS1:Hid (L9 p q s.data.toList (s.size+1-k) k=if (Ls.is p (s.data.toList.take k)&&Ls.is q (s.data.toList.drop k))=true then k else L9 p q s.data.toList (s.size-k) (k+1)):=by
    show _=_;rw[show s.size+1-k=(s.size-k)+1 from by omega,L9]
   generalize hx:Ls.is p (s.data.toList.take k)=bx at *;generalize hy:Ls.is q (s.data.toList.drop k)=by_ at *;have HX:=HI.out;have HP1:Hid (∀W,Below w.heap.size w W->Calls Tryz.prog 74 #[A7 p (.slice y1 y2 y3),.string (s.extract 0 k)] W fun e w'=>e=.returned (.bool bx)/\Below W.heap.size W w'):=fun W hW=>by have:=HI.out W k hle hW;rw[hx]at this;exact this
   have HP2:Hid (∀W,Below w.heap.size w W->Calls Tryz.prog 74 #[A7 q (.slice z1 z2 z3),.string (s.extract k s.size)] W fun e w'=>e=.returned (.bool by_)/\Below W.heap.size W w'):=fun W hW=>by have:=HJ.out W k hle hW;rw[hy]at this;exact this
   clear hx hy HX;go_wp2_with fail;go_region_held (fun w'=>w'.cell? ⟨w.heap.size,0,none⟩=some (.int .i64 p.kind)/\w'.cell? ⟨w.heap.size,1,none⟩=some (.string ⟨p.signs.toArray⟩)/\w'.cell? ⟨w.heap.size,2,none⟩=some (.slice y1 y2 y3)) (first|assumption|(go_keep;done)|exact(HA.out _ hcur).1)
    (first
     | (go_at_call 74;refine(HP1.out _ ?_).mono ?_;exact hbw0.drew;rintro e w2 ⟨rfl,hb2d⟩;have hb2:Below wr.heap.size wr w2:=Below.join (Below.refl _ _).drew hb2d;have hcur:Below W0.heap.size W0 w2:=Below.join hbw hb2))
   all_goals
    have hbw2:=Below.join HB.out hcur;cases bx with
    | false=>
     have HN:Hid (D3 p q s.data.toList=L9 p q s.data.toList (s.size+1-(k+1)) (k+1)):=by
      show _=_;rw[HC.out,HS1.out,show s.size+1-(k+1)=s.size-k from by omega];simp
     clear c0 c1 c2 d0 d1 d2;go_wp2_with fail;go_roundw
     case rel=>exact⟨k+1,by omega,by go_num,hcur,HN.out⟩
     case measure=>simp[intOf];omega
    | true=>
     obtain⟨_,d0,d1,d2⟩:=HA.out w2 hcur;go_wp2_with fail;go_region_held (fun w'=>w'.cell? ⟨w.heap.size+1,0,none⟩=some (.int .i64 q.kind)/\w'.cell? ⟨w.heap.size+1,1,none⟩=some (.string ⟨q.signs.toArray⟩)/\w'.cell? ⟨w.heap.size+1,2,none⟩=some (.slice z1 z2 z3)) (first|assumption|(go_keep;done)|exact(HA.out _ hcur3).2)
      (first
       | (go_at_call 74;refine(HP2.out _ ?_).mono ?_;exact hbw2.drew;rintro e w3 ⟨rfl,hb3d⟩;have hb3:Below w2.heap.size w2 w3:=Below.join (Below.refl _ _).drew hb3d;have hcur3:Below W0.heap.size W0 w3:=Below.join hcur hb3))
     all_goals
      have hbw3:=Below.join HB.out hcur3;cases by_ with
      | false=>
       have HN:Hid (D3 p q s.data.toList=L9 p q s.data.toList (s.size+1-(k+1)) (k+1)):=by
        show _=_;rw[HC.out,HS1.out,show s.size+1-(k+1)=s.size-k from by omega];simp
       go_wp2_with fail;go_roundw
       case rel=>exact⟨k+1,by omega,by go_num,hcur3,HN.out⟩
       case measure=>simp[intOf];omega
      | true=>
       have HN:Hid (D3 p q s.data.toList=k):=by
        show _=_;rw[HC.out,HS1.out];simp
       go_wp2_with fail;go_ret;exact⟨by rw[HN.out];rfl,hbw3⟩
  ·have hle2:¬(k:Int)<=(s.size:Int):=by omega
   have HR:Hid (D3 p q s.data.toList=0):=by
    show _=_;rw[HC.out,show s.size+1-k=0 from by omega,L9]
   go_wp2_with fail;go_ret;exact⟨by rw[HR.out];rfl,hbw0⟩
theorem tQs {w:World}{b b':Nat}{e:TypeId}{size:Nat}{v:Value}{n:Nat}{xs:List Value}(h:w.ownsRow b e size v n xs)(hb:b'<=b):w.ownsRow b' e size v n xs:=by
 refine⟨h.1,?_⟩;rcases h.2 with h2|⟨g,cap,cur,hv,hbg,h3⟩
 ·exact .inl h2
 ·exact .inr ⟨g,cap,cur,hv,Nat.le_trans hb hbg,h3⟩
def bQc:Value->ByteArray
 | .string t=>t
 | _=>⟨#[]⟩
theorem iQi {c:Nat}(p:Ls.Pat)(hp:Ls.BdL c p)(hc:c<=120)(s:ByteArray)(hs:s.size<=1048576)(y:Value)(w:World)(G:Nat->Prop)(hG:Old w G)(hy:PV w G p y) :
  Calls Tryz.prog 82 #[.string s,A7 p y] w fun e w'=>∃v,e=.returned v/\w'.ownsRow w.heap.size 9 1 v (D0 p s.size s.data.toList).length ((D0 p s.size s.data.toList).map fun x=>Value.string ⟨x.toArray⟩)/\Below w.heap.size w w':=by
 obtain⟨y1,y2,y3,rfl⟩:=PV.slice _ _ hy;have hb1:=A4 w (B5 p (.slice y1 y2 y3));have hbd5:Ls.BdL 121 (Ls.wQ9 p):=(Ls.zQo hp).mono (by omega);have HI:Hid (∀W (t:ByteArray) k,t.size<=1048576->k<=t.size->Below w.heap.size w W->Calls Tryz.prog 74 #[A7 p (.slice y1 y2 y3),.string (t.extract 0 k)] W fun e w'=>e=.returned (.bool (Ls.is p (t.data.toList.take k)))/\Below W.heap.size W w'):=fun W t k ht hk hW=>by
  have:=Y2 p hp (by omega) (t.extract 0 k) (by rw[ByteArray.size_extract];omega) _ W G (fun j hj=>Nat.lt_of_lt_of_le (hG j hj) hW.size) (hy.below hW (fun j hj=>hG j hj) (fun _ h=>h));rw[bQg]at this;exact this
 have HSt:Hid (∀W,Below w.heap.size w W->Calls Tryz.prog 78 #[A7 p (.slice y1 y2 y3)] W fun e w'=>∃x1 x2 x3,e=.returned (A7 (Ls.wQ9 p) (.slice x1 x2 x3))/\Below W.heap.size W w'/\
   ∀(t:ByteArray) k,t.size<=1048576->k<=t.size->Calls Tryz.prog 74 #[A7 (Ls.wQ9 p) (.slice x1 x2 x3),.string (t.extract k t.size)] w' fun e w2=>e=.returned (.bool (Ls.is (Ls.wQ9 p) (t.data.toList.drop k)))/\Below w'.heap.size w' w2):=fun W hW=>by
  have hO:Old W G:=fun j hj=>Nat.lt_of_lt_of_le (hG j hj) hW.size;refine(U8 p _ W G hO (hy.below hW (fun j hj=>hG j hj) (fun _ h=>h))).mono ?_;rintro e w' ⟨x,rfl,hx,hb⟩;obtain⟨x1,x2,x3,rfl⟩:=PV.slice _ _ hx;refine⟨x1,x2,x3,rfl,hb,fun t k ht hk=>?_⟩;have:=Y2 (Ls.wQ9 p) hbd5 (by omega) (t.extract k t.size) (by rw[ByteArray.size_extract];omega) _ w' _ (fun j hj=>by
   rcases hj with hj|hj
   ·exact Nat.lt_of_lt_of_le (hO j hj) hb.size
   ·exact hj.2) hx
  rw[Z6]at this;exact this
 have HA:Hid (∀W:World,Below (w.alloc (B5 p (.slice y1 y2 y3))).heap.size (w.alloc (B5 p (.slice y1 y2 y3))) W->
   W.cell? ⟨w.heap.size,0,none⟩=some (.int .i64 p.kind)/\W.cell? ⟨w.heap.size,1,none⟩=some (.string ⟨p.signs.toArray⟩)/\W.cell? ⟨w.heap.size,2,none⟩=some (.slice y1 y2 y3)):=fun W hW=>by
  have h1:(w.alloc (B5 p (.slice y1 y2 y3))).heap[w.heap.size]?=some (.cells #[.int .i64 p.kind,.string ⟨p.signs.toArray⟩,.slice y1 y2 y3] 27 (0,0)):=heap_alloc_new _ _;rw[<-hW.block _ (by simp)]at h1;exact⟨by simp[World.cell?,h1],by simp[World.cell?,h1],by simp[World.cell?,h1]⟩
 have HB:Hid _:=hb1;obtain⟨q,hq,hq0,hq1,hqb⟩:=info_parts iQv;clear hy hb1;go_enter Tryz.func82,Tryz.ntmps82;go_wp2_with fail;have hz0:(w.alloc (B5 p (.slice y1 y2 y3))).heap.size=w.heap.size+1:=by simp
 have HZ0:Hid ((w.alloc (B5 p (.slice y1 y2 y3))).heap.size=w.heap.size+1):=hz0;clear hz0;generalize w.alloc (B5 p (.slice y1 y2 y3))=W0 at *;go_loopw [0,5] (fun sv ov wr=>∃(t:ByteArray) (l:List (List UInt8)),sv=.string t/\l.length+t.size<=s.size/\D0 p s.size s.data.toList=l++D0 p t.size t.data.toList/\wr.ownsRow W0.heap.size 9 1 ov l.length (l.map fun x=>Value.string ⟨x.toArray⟩)/\Below W0.heap.size W0 wr) (fun sv _ _=>(bQc sv).size)
 case atStart=>exact⟨s,[],rfl,by simp,rfl,World.ownsRow_nil _ _ _ _,Below.refl _ _⟩
 case round=>
  obtain⟨t,l,rfl,hlt,hpt,hown,hbw⟩:=hrel;obtain⟨wo,ewo⟩:∃wo,wo=wr:=⟨wr,rfl⟩;subst ewo;obtain⟨v1,v2,v3,rfl⟩:=bQ6 hown;have HPT:Hid (D0 p s.size s.data.toList=l++D0 p t.size t.data.toList):=hpt;have HO:Hid (wo.ownsRow W0.heap.size 9 1 (.slice v1 v2 v3) l.length (l.map fun x=>Value.string ⟨x.toArray⟩)):=hown;have HTL:Hid (t.data.toList.length=t.size):=by show _=_;simp
  clear hpt hown
  by_cases h0:0<t.size
  ·have h0':(0:Int)<(t.size:Int):=by omega
   have HNE:Hid (t.data.toList≠[]):=by
    intro e;have:=HTL.out;rw[e]at this;simp at this;omega
   go_upto_block 2 with fail
   go_cut [6] (fun iv wx=>∃k:Nat,iv=.int .i64 k/\k=I8 p t.data.toList/\Below wo.heap.size wo wx)
   case first=>
    go_wp2_with fail;go_loopw [6] (fun iv wi=>∃k:Nat,1<=k/\k<=t.size/\iv=.int .i64 k/\I8 p t.data.toList=J5 p t.data.toList (t.size-k) k/\Below wo.heap.size wo wi) (fun iv _=>t.size-(intOf iv).toNat)
    case atStart=>exact⟨1,Nat.le_refl _,by omega,rfl,by unfold I8;rw[HTL.out],Below.refl _ _⟩
    case round=>
     obtain⟨k,hk1,hk2,rfl,hpl,hbi⟩:=hrel;have HPL:Hid (I8 p t.data.toList=J5 p t.data.toList (t.size-k) k):=hpl;have hbwi:=Below.join hbw hbi;have hbwi0:=Below.join HB.out hbwi;clear hpl
     by_cases hlt:k<t.size
     ·have hlt2:(k:Int)<(t.size:Int):=by omega
      have hle2:(k:Int)<=(t.size:Int):=by omega
      have hk0:(0:Int)<=(k:Int):=by omega
      have HS1:Hid (J5 p t.data.toList (t.size-k) k=if (Ls.is p (t.data.toList.take k)&&Ls.is (Ls.wQ9 p) (t.data.toList.drop k))=true then k else J5 p t.data.toList (t.size-(k+1)) (k+1)):=by
       show _=_;rw[show t.size-k=(t.size-(k+1))+1 from by omega,J5]
      generalize hx:Ls.is p (t.data.toList.take k)=bx at *;generalize hy:Ls.is (Ls.wQ9 p) (t.data.toList.drop k)=bz at *;have HP1:Hid (∀W,Below w.heap.size w W->Calls Tryz.prog 74 #[A7 p (.slice y1 y2 y3),.string (t.extract 0 k)] W fun e w'=>e=.returned (.bool bx)/\Below W.heap.size W w'):=fun W hW=>by have:=HI.out W t k (by omega) (by omega) hW;rw[hx]at this;exact this
      have HP2:Hid (∀W,Below w.heap.size w W->Calls Tryz.prog 78 #[A7 p (.slice y1 y2 y3)] W fun e w'=>∃x1 x2 x3,e=.returned (A7 (Ls.wQ9 p) (.slice x1 x2 x3))/\Below W.heap.size W w'/\
        Calls Tryz.prog 74 #[A7 (Ls.wQ9 p) (.slice x1 x2 x3),.string (t.extract k t.size)] w' fun e w2=>e=.returned (.bool bz)/\Below w'.heap.size w' w2):=fun W hW=>by
       refine(HSt.out W hW).mono ?_;rintro e w' ⟨x1,x2,x3,rfl,hb,hh⟩;have:=hh t k (by omega) (by omega);rw[hy]at this;exact⟨x1,x2,x3,rfl,hb,this⟩
      obtain⟨c0,c1,c2⟩:=HA.out wr hbwi;clear hx hy;go_wp2_with fail;go_region_held (fun w'=>w'.cell? ⟨w.heap.size,0,none⟩=some (.int .i64 p.kind)/\w'.cell? ⟨w.heap.size,1,none⟩=some (.string ⟨p.signs.toArray⟩)/\w'.cell? ⟨w.heap.size,2,none⟩=some (.slice y1 y2 y3)) (first|assumption|(go_keep;done)|exact HA.out _ hcur)
       (first
        | (go_at_call 74;refine(HP1.out _ ?_).mono ?_;exact hbwi0.drew;rintro e w2 ⟨rfl,hb2d⟩;have hb2:Below wr.heap.size wr w2:=Below.join (Below.refl _ _).drew hb2d;have hcur:Below W0.heap.size W0 w2:=Below.join hbwi hb2))
      all_goals
       have hbi2:=Below.join hbi hb2;have hcw2:=Below.join HB.out hcur;clear c0 c1 c2;cases bx with
       | false=>
        have HN:Hid (I8 p t.data.toList=J5 p t.data.toList (t.size-(k+1)) (k+1)):=by
         show _=_;rw[HPL.out,HS1.out];simp
        go_wp2_with fail;go_roundw
        case rel=>exact⟨k+1,by omega,by omega,by go_num,HN.out,hbi2⟩
        case measure=>simp[intOf];omega
       | true=>
        obtain⟨c0,c1,c2⟩:=HA.out w2 hcur;go_wp2_with fail;go_region_held (fun w'=>w'.cell? ⟨w.heap.size,0,none⟩=some (.int .i64 p.kind)/\w'.cell? ⟨w.heap.size,1,none⟩=some (.string ⟨p.signs.toArray⟩)/\w'.cell? ⟨w.heap.size,2,none⟩=some (.slice y1 y2 y3)) (first|assumption|(go_keep;done)|exact HA.out _ hcur3)
         (first
          | (go_at_call 78;refine(HP2.out _ ?_).mono ?_;exact hcw2.drew;rintro e w3 ⟨x1,x2,x3,rfl,hb3d,hIs⟩;have HIs:Hid (Calls Tryz.prog 74 #[A7 (Ls.wQ9 p) (.slice x1 x2 x3),.string (t.extract k t.size)] w3 fun e w2=>e=.returned (.bool bz)/\Below w3.heap.size w3 w2):=hIs;clear hIs;have hb3:Below w2.heap.size w2 w3:=Below.join (Below.refl _ _).drew hb3d;have hcur3:Below W0.heap.size W0 w3:=Below.join hcur hb3)
          | (go_at_call 74;refine HIs.out.mono ?_;rintro e w4 ⟨rfl,hb4⟩;have hcur2:=hcur3;have hcur3:Below W0.heap.size W0 w4:=Below.join hcur3 hb4))
        all_goals
         have hbi4:=Below.join hbi2 (Below.join hb3 hb4);cases bz with
         | false=>
          have HN:Hid (I8 p t.data.toList=J5 p t.data.toList (t.size-(k+1)) (k+1)):=by
           show _=_;rw[HPL.out,HS1.out];simp
          go_wp2_with fail;go_roundw
          case rel=>exact⟨k+1,by omega,by omega,by go_num,HN.out,hbi4⟩
          case measure=>simp[intOf];omega
         | true=>
          have HN:Hid (k=I8 p t.data.toList):=by
           show _=_;rw[HPL.out,HS1.out];simp
          go_wp2_with fail;go_meet
          case rel=>exact⟨k,rfl,HN.out,hbi4⟩
     ·have hlt2:¬(k:Int)<(t.size:Int):=by omega
      have HN:Hid (k=I8 p t.data.toList):=by
       show _=_;rw[HPL.out,show t.size-k=0 from by omega,J5]
      go_wp2_with fail;go_meet
      case rel=>exact⟨k,rfl,HN.out,hbi⟩
   case rest=>
    obtain⟨k,rfl,hkp,hbc⟩:=hcut;have hbd:=cQt p HNE.out;rw[<-hkp,HTL.out]at hbd;have HKP:Hid (k=I8 p t.data.toList):=hkp;have hk1:=hbd.1;have hk2:=hbd.2;have hle2:(k:Int)<=(t.size:Int):=by omega
    have hk0:(0:Int)<=(k:Int):=by omega
    have hbwc:=Below.join hbw hbc;have hoc:=HO.out.kept (G9 hbc none) (by
     cases hv:(Value.slice v1 v2 v3).ownBlock with
     | none=>exact .inl rfl
     | some m=>exact .inr (by simp))
    have hoa:=hoc.alloc (.cells #[.string (t.extract 0 k)] 9);have hcn:=W7 wc (.string (t.extract 0 k)) 9;have hzc:=hbwc.size;have hmes:(bQc (.string t)).size=t.size:=rfl;clear hbd hkp hoc;go_wp2_with (at_builtin;refine K3 _ rfl _ _ 41 rfl W0.heap.size 9 q _ 1 16 Tryz.underlying41 hq hq0 hq1 hqb rfl (by omega) (.slice v1 v2 v3) l.length (l.map fun x=>Value.string ⟨x.toArray⟩) rfl hoa ⟨wc.heap.size,0,none⟩ 1 1 [.string (t.extract 0 k)] rfl ?l1 hcn ?l0 ?l2 ?l3 ?l4 ?l5 ?_)
    case l1=>rfl
    case l0=>intro u hu;simp at hu;subst hu;rfl
    case l2=>unfold maxLen;omega
    case l3=>omega
    case l4=>simp;omega
    case l5=>omega
    intro v' w' ho hg hvv;have hbw':Below W0.heap.size W0 w':=(hbwc.alloc hzc (.cells #[.string (t.extract 0 k)] 9)).grown hg (by simp;omega) (fun m e=>(hoa.lt m e).1);have hdl:(t.extract k t.size).data.toList=t.data.toList.drop k:=Z6 t k;have hds:(t.extract k t.size).size=t.size-k:=by rw[ByteArray.size_extract];omega
    have HN:Hid (D0 p s.size s.data.toList=(l++[t.data.toList.take k])++D0 p (t.extract k t.size).size (t.extract k t.size).data.toList):=by
     show _=_;rw[HPT.out,hdl,hds,show t.size=(t.size-1)+1 from by omega,D0,if_neg HNE.out,<-HKP.out,List.append_assoc];rw[show t.size-1+1-k=t.size-k from by omega,eQd p (t.size-k) (t.size-1) _ (by rw[List.length_drop,HTL.out];omega) (by omega)];rfl
    have HO7:Hid (w'.ownsRow W0.heap.size 9 1 v' (l++[t.data.toList.take k]).length ((l++[t.data.toList.take k]).map fun x=>Value.string ⟨x.toArray⟩)):=by
     show World.ownsRow _ _ _ _ _ _ _;rw[List.length_append,List.map_append];have he:(⟨(t.data.toList.take k).toArray⟩:ByteArray)=t.extract 0 k:=by
      rw[q9];simp
     show World.ownsRow _ _ _ _ _ (l.length+1) (_++[Value.string ⟨(t.data.toList.take k).toArray⟩]);rw[he];exact ho
    clear ho hg hvv hoa hcn hdl;go_wp2_with fail;go_roundw
    case rel=>exact⟨t.extract k t.size,l++[t.data.toList.take k],rfl,by simp;omega,HN.out,HO7.out,hbw'⟩
    case measure=>
     show (bQc (.string (t.extract k t.size))).size<(bQc (.string t)).size;show (t.extract k t.size).size<t.size;omega
  ·have h0':¬(0:Int)<(t.size:Int):=by omega
   have HR:Hid (D0 p s.size s.data.toList=l):=by
    show _=_;rw[HPT.out,show t.size=0 from by omega];simp[D0]
   go_wp2_with fail;go_ret;refine⟨_,rfl,?_,Below.join HB.out hbw⟩;rw[HR.out];exact tQs HO.out (by have:=HZ0.out;omega)
end Go.Proofs.YtcggfnlejalppaaGreatDoor
