import Derived.Test.YtcggfnlejalppaaGreatDoorK22
import Derived.Test.YtcggfnlejalppaaGreatDoorK02
import Derived.Test.YtcggfnlejalppaaGreatDoorK24
import Derived.Deep.CutBlock
import Derived.Deep.DeepCutAuto
set_option maxRecDepth 100000
set_option maxHeartbeats 4000000
namespace Go.Proofs.YtcggfnlejalppaaGreatDoor
open Go.RowKit
def dQk (s:ByteArray)(D n:Nat):Prop:=∀(pb i z:Nat) (w:World),PB w pb s i z false->i<=s.size->z<=1048576+i->(rest s i).length<n->
 Calls Tryz.prog 33 #[.pointer (some ⟨pb,0,none⟩),.int .i64 (D:Int)] w (PPost w pb s i z (Ls.alts (Ls.pat (12-D)) n (rest s i)))
theorem vQa {P:List UInt8->Ls.Rd}{n:Nat}{s:ByteArray}{i z i1 z1:Nat}{p:Ls.Pat}(h1:E3 (Ls.things P ((rest s i).length+1) (rest s i)) s z i1 z1 false p)(hse:A5 s i1 124=false):E3 (Ls.alts P (n+1) (rest s i)) s z i1 z1 false p:=by
 rcases h1 with⟨h0,_⟩|⟨_,d,hr,rfl,rfl,hi'⟩
 ·cases h0
 ·exact .inr ⟨rfl,Ls.clast d,by rw[Ls.alts,hr];dsimp only;rw[if_neg (by rw[B8,hse];simp)],by rw[Ls.yQs],by rw[Ls.yQo],hi'⟩
theorem fQ5 {P:List UInt8->Ls.Rd}{n:Nat}{s:ByteArray}{i z i1 z1 i2 z2:Nat}{p q:Ls.Pat}(h1:E3 (Ls.things P ((rest s i).length+1) (rest s i)) s z i1 z1 true p):E3 (Ls.alts P (n+1) (rest s i)) s z i2 z2 true q:=by
 rcases h1 with⟨_,hr⟩|⟨h0,_⟩
 ·exact .inl ⟨rfl,by rw[Ls.alts,hr]⟩
 ·cases h0
theorem vQy {P:List UInt8->Ls.Rd}{n:Nat}{s:ByteArray}{i z i1 z1 i2 z2:Nat}{p q:Ls.Pat}{bad:Bool}(h1:E3 (Ls.things P ((rest s i).length+1) (rest s i)) s z i1 z1 false p)(hse:A5 s i1 124=true)(h2:E3 (Ls.alts P n (rest s (i1+1))) s z1 i2 z2 bad q):E3 (Ls.alts P (n+1) (rest s i)) s z i2 z2 bad (Ls.any p q):=by
 rcases h1 with⟨h0,_⟩|⟨_,d,hr,rfl,rfl,hi'⟩
 ·cases h0
 rcases h2 with⟨rfl,hr2⟩|⟨rfl,d2,hr2,rfl,rfl,hi2⟩
 ·exact .inl ⟨rfl,by rw[Ls.alts,hr];dsimp only;rw[if_pos (B8.2 hse),D7,hr2]⟩
 ·exact .inr ⟨rfl,Ls.ccons d d2,by rw[Ls.alts,hr];dsimp only;rw[if_pos (B8.2 hse),D7,hr2],by rw[Ls.yQk],by rw[Ls.yQq];omega,hi2⟩
theorem sQd (s:ByteArray):Q4 s 13:=by
 intro pb i z w h hi hz;have hpl:=h.lt;have hne:¬w.heap.size=pb:=by omega
 have hne':¬pb=w.heap.size:=by omega
 have hl:=Left.of_below h (A4 w (.cells #[.int .i64 0,.string ⟨#[]⟩,.slice none 0 0] 27));have k3:=h.c3;have f3:=h.fr 3;have hlie:=C1 w [.int .i64 0,.string ⟨#[]⟩,.slice none 0 0];go_enter Tryz.func33,Tryz.ntmps33;go_wp2_with fail;exact bodyPost_ret (v:=A7 Ls.none (.slice none 0 0)) (by simp[results,Tryz.results33,go_sem,Ls.none]) rfl (M9 rfl (((Left.of_below h (Below.refl _ _)).set3 true).below (A4 _ _)) (Nat.le_refl _) (by omega) (by omega))
theorem kQz (s:ByteArray)(hs:s.size<=1048576)(D n:Nat)(hD:D<=12)(hT:∀m,bQ3 s D m)(hN:dQk s D n):dQk s D (n+1):=by
 intro pb i z w h hi hz hn;have hpl:=h.lt;have hne:¬w.heap.size=pb:=by omega
 have hne':¬pb=w.heap.size:=by omega
 have hl:=Left.of_below h (A4 w (.cells #[.int .i64 0,.string ⟨#[]⟩,.slice none 0 0] 27));have hlie:=C1 w [.int .i64 0,.string ⟨#[]⟩,.slice none 0 0];have hD':¬(12:Int)<(D:Int):=by omega
 go_enter Tryz.func33,Tryz.ntmps33;go_wp2_with fail;refine(hT ((rest s i).length+1) pb i z _ hl.lies hi hz (Nat.lt_succ_self _)).mono ?_;rintro e w1 hpp;obtain⟨p,y1,y2,y3,i1,z1,bad,rfl,hv,hi1,hi2,hz2,hl1',hcase⟩:=hpp.mid (fun d t hr=>⟨Ls.zQv (Ls.yQm _) _ _ _ _ hr,Ls.zQs (Ls.yQy _) _ _ _ _ hr⟩) hi;clear hpp;have hl1:=hl.trans hl1';have hlie1:=hlie.grown hl1'.grown (by simp[hne]);have hz1:=hlie1.lt;have hz01:=hl1'.grown.size;simp at hz01;go_wp2_with fail;refine(J0 pb s i1 z1 bad 124 _ (hl1.lies.below (A4 w1 (.cells #[.int .i64 p.kind,.string ⟨p.signs.toArray⟩,.slice y1 y2 y3] 27))) (by omega) (by omega)).mono ?_;rintro e w2 ⟨rfl,hl2'⟩;have hl2:=(hl1.below (A4 w1 (.cells #[.int .i64 p.kind,.string ⟨p.signs.toArray⟩,.slice y1 y2 y3] 27))).trans hl2';have hne1:¬w1.heap.size=pb:=by omega
 have hlie2:=(hlie1.below (A4 w1 (.cells #[.int .i64 p.kind,.string ⟨p.signs.toArray⟩,.slice y1 y2 y3] 27)) hz1).grown hl2'.grown (by simp[hne]);have hlia2:=(C1 w1 (B7 p (.slice y1 y2 y3))).grown hl2'.grown (by simp[hne1]);have hz2':=hlia2.lt;have hv2:PV w2 (B6 (w.alloc (.cells #[.int .i64 0,.string ⟨#[]⟩,.slice none 0 0] 27)) w1) p (.slice y1 y2 y3):=PV.mono (fun k hk=>hk) (fun k hk=>by
  rw[hl2'.grown.block k (by have:=hk.2;simp;omega) (by have:=hk.1;simp at this;simp;omega)];exact Below.heap_alloc _ _ _ hk.2) _ _ hv
 have HB:Hid (∀k,B6 (w.alloc (.cells #[.int .i64 0,.string ⟨#[]⟩,.slice none 0 0] 27)) w1 k->w.heap.size<k/\k<w1.heap.size):=fun k hk=>by have h1:=hk.1;simp at h1;exact⟨by omega,hk.2⟩
 obtain⟨q0,q1,q2⟩:=hlie2.three (a:=Ls.none);have g0:=hlie2.fr 0;have g1:=hlie2.fr 1;have g2:=hlie2.fr 2;obtain⟨m0,m1,m2⟩:=hlia2.three;have k3:=hl2.lies.c3;cases hse:A5 s i1 124 with
 | false=>
  have hl3:=hl2;rw[hse]at hl3;simp only[Bool.false_eq_true,if_false]at hl3;have HC:Hid (E3 (Ls.alts (Ls.pat (12-D)) (n+1) (rest s i)) s z i1 z1 bad p):=by
   cases bad with
   | true=>exact fQ5 hcase
   | false=>exact vQa hcase hse
  clear hse hcase;go_wp2_with fail;exact bodyPost_ret (v:=A7 p (.slice y1 y2 y3)) (by simp[results,Tryz.results33,go_sem,q0,q1,q2]) rfl (S5 HC.out hpl (by omega) (by omega) (by omega) hl3 hv2 (fun k hk=>by have:=HB.out k hk;omega))
 | true=>
  have hi3:=(C6 hse).1;have hl3:=hl2;rw[hse]at hl3;simp only[if_true]at hl3;cases bad with
  | true=>
   have HC:Hid (E3 (Ls.alts (Ls.pat (12-D)) (n+1) (rest s i)) s z (i1+1) z1 true p):=fQ5 hcase;clear hse hcase;go_wp2_with fail;exact bodyPost_ret (v:=A7 p (.slice y1 y2 y3)) (by simp[results,Tryz.results33,go_sem,q0,q1,q2]) rfl (S5 HC.out hpl (by omega) (by omega) (by omega) hl3 hv2 (fun k hk=>by have:=HB.out k hk;omega))
  | false=>
   have Hse:Hid (A5 s i1 124=true):=hse;clear hse;go_wp2_with fail;refine(hN pb (i1+1) z1 _ hl3.lies (by omega) (by omega) (by simp at hn ⊢;omega)).mono ?_;rintro e w3 hpp;obtain⟨q,u1,u2,u3,i2,z2,bad2,rfl,hv3,h1,h2,h3,hl4',hcase2⟩:=hpp.mid (fun d t hr=>⟨Ls.bX2 (Ls.yQm _) _ _ _ _ hr,Ls.bX4 (Ls.yQy _) _ _ _ _ hr⟩) (by omega);clear hpp;have HC:Hid (E3 (Ls.alts (Ls.pat (12-D)) (n+1) (rest s i)) s z i2 z2 bad2 (Ls.any p q)):=vQy hcase Hse.out hcase2;clear hcase hcase2;have hl4:=hl3.trans hl4';have hlie3:=hlie2.grown hl4'.grown (by simp[hne]);have hlia3:=hlia2.grown hl4'.grown (by simp[hne1]);have hz3:=hl4'.grown.size;clear q0 q1 q2 g0 g1 g2 m0 m1 m2 k3;obtain⟨m0,m1,m2⟩:=hlia3.three;have hz4:w1.heap.size<w3.heap.size:=by omega
   have hvp:PV w3 (B6 w w3) p (.slice y1 y2 y3):=PV.mono (fun k hk=>⟨by have:=HB.out k hk;omega,by have:=HB.out k hk;omega⟩) (fun k hk=>hl4'.grown.block k (by have:=HB.out k hk;omega) (by have:=HB.out k hk;simp;omega)) _ _ hv2;have hvq:PV w3 (B6 w1 w3) q (.slice u1 u2 u3):=PV.mono (fun k hk=>⟨by have:=hk.1;omega,hk.2⟩) (fun _ _=>rfl) _ _ hv3;have hvp':PV w3 (fun k=>w.heap.size<k/\k<w3.heap.size) p (.slice y1 y2 y3):=PV.mono (fun k hk=>⟨by have:=HB.out k hk;omega,by have:=HB.out k hk;omega⟩) (fun k hk=>hl4'.grown.block k (by have:=HB.out k hk;omega) (by have:=HB.out k hk;simp;omega)) _ _ hv2;have hvq':PV w3 (fun k=>w.heap.size<k/\k<w3.heap.size) q (.slice u1 u2 u3):=PV.mono (fun k hk=>⟨by have:=hk.1;omega,hk.2⟩) (fun _ _=>rfl) _ _ hv3;go_wp2_with fail;refine(bQs p q (.slice y1 y2 y3) (.slice u1 u2 u3) _ _ (fun k hk=>by have:=hk.2;simp;omega) (hvp'.below (A4 _ _) (fun k hk=>hk.2) (fun _ h=>h)) (hvq'.below (A4 _ _) (fun k hk=>hk.2) (fun _ h=>h))).mono ?_;rintro e w5 ⟨x,rfl,hx,hb5⟩;obtain⟨x1,x2,x3,rfl⟩:=PV.slice _ _ hx;have hl5:=(hl4.below (A4 _ _)).below hb5;have hlie5:=(hlie3.below (A4 _ _) hlie3.lt).below hb5 (by have:=hlie3.lt;simp;omega);have hs5:=hb5.size;simp at hs5;obtain⟨q0,q1,q2⟩:=hlie5.three (a:=Ls.none);have g0:=hlie5.fr 0;have g1:=hlie5.fr 1;have g2:=hlie5.fr 2;go_wp2_with fail;exact bodyPost_ret (v:=A7 (Ls.any p q) (.slice x1 x2 x3)) (by simp[results,Tryz.results33,go_sem,q0,q1,q2]) rfl (S5 HC.out hpl (by omega) (by omega) (by omega) hl5 hx (fun k hk=>by
    rcases hk with hk|hk
    ·have h1:=hk.1;have h2:=hk.2;omega
    ·have h1:=hk.1;have h2:=hk.2;simp at h1;omega))
theorem eQ6 (s:ByteArray)(hs:s.size<=1048576)(D:Nat)(hD:D<=12)(hT:∀m,bQ3 s D m):(n:Nat)->dQk s D n
 | 0=>fun _ _ _ _ _ _ _ hn=>absurd hn (Nat.not_lt_zero _)
 | n+1=>kQz s hs D n hD hT (eQ6 s hs D hD hT n)
theorem pQ9 (s:ByteArray)(hs:s.size<=1048576)(D:Nat)(hD:D<=12)(hP:Q4 s (D+1)):Q4 s D:=by
 intro pb i z w h hi hz;have hT:=fQ1 s hs D (qQs s hs D (vQn s hs D hD hP));have:=eQ6 s hs D hD hT ((rest s i).length+1) pb i z w h hi hz (Nat.lt_succ_self _);rw[show 13-D=(12-D)+1 from by omega,Ls.pat];exact this
theorem eQ9 (s:ByteArray)(hs:s.size<=1048576):(k:Nat)->k<=13->Q4 s (13-k)
 | 0,_=>sQd s
 | k+1,hk=>by
  have h:=eQ9 s hs k (by omega);refine pQ9 s hs (13-(k+1)) (by omega) ?_;rw[show 13-(k+1)+1=13-k from by omega];exact h
def aQe (c:UInt8):Bool:=Ls.xQ6 c&&c != 10
theorem wQg (t:List UInt8):Ls.xQj (34::t)=some ([],t):=by simp[Ls.xQj]
theorem uQk {c:UInt8}(t:List UInt8)(h:c≠34)(hb:aQe c=false):Ls.xQj (c::t)=.none:=by
  rw[Ls.xQj,if_neg h,if_pos];unfold aQe at hb;cases hs:Ls.xQ6 c with
  | false=>exact .inl rfl
  | true=>rw[hs]at hb;simp at hb;exact .inr hb
theorem lQv {c:UInt8}(t:List UInt8)(h:c≠34)(hb:aQe c=true):Ls.xQj (c::t)=match Ls.xQj t with|.none=>.none|some (w,u)=>some (c::w,u):=by
  unfold aQe at hb;simp at hb;have h2:¬(Ls.xQ6 c=false\/c=10):=by
    rintro (h1|h1)
    · rw[hb.1]at h1;cases h1
    · exact hb.2 h1
  rw[Ls.xQj,if_neg h,if_neg h2];cases Ls.xQj t with
  | none=>rfl
  | some x=>obtain⟨w,u⟩:=x;rfl
structure Scan (s:ByteArray)(i k:Nat)(bad:Bool):Prop where
  le:i<=k
  lt:k<=s.size
  ok:bad=false->Ls.xQj (rest s i)=match Ls.xQj (rest s k) with|.none=>.none|some (w,u)=>some ((rest s i).take (k-i)++w,u)
  no:bad=true->Ls.xQj (rest s i)=.none
theorem Scan.start (s:ByteArray)(i:Nat)(hi:i<=s.size):Scan s i i false:=by
  refine⟨Nat.le_refl _,hi,fun _=>?_,by simp⟩;cases Ls.xQj (rest s i) with
  | none=>rfl
  | some x=>obtain⟨w,u⟩:=x;simp
theorem jQ5 {s:ByteArray}{i k:Nat}(h1:i<=k)(hk:k<s.size):(rest s i).take (k+1-i)=(rest s i).take (k-i)++[nx s k]:=by
  have hl:k-i<(rest s i).length:=by rw[D9];omega
  rw[show k+1-i=(k-i)+1 by omega,List.take_succ_eq_append_getElem hl];congr 2
  rw[List.getElem_drop,H8 hk,ByteArray.getElem_eq_getElem_data];simp[show i+(k-i)=k by omega]
theorem Scan.next {s:ByteArray}{i k:Nat}{bad:Bool}(h:Scan s i k bad)(hk:k<s.size)(hc:nx s k≠34):Scan s i (k+1) (bad||!aQe (nx s k)):=by
  have hle:=h.le;refine⟨by omega,by omega,fun hb=>?_,fun hb=>?_⟩
  · simp at hb
    rw[h.ok hb.1,C4 hk,lQv _ hc hb.2,jQ5 h.le hk];cases Ls.xQj (rest s (k+1)) with
    | none=>rfl
    | some x=>obtain⟨w,u⟩:=x;simp
  · simp at hb
    rcases hb with hb|hb
    · exact h.no hb
    · cases bad with
      | true=>exact h.no rfl
      | false=>rw[h.ok rfl,C4 hk,uQk _ hc hb]
def j5 (w:World)(pb:Nat):Nat:=match w.cell? ⟨pb,1,none⟩ with
  | some (.int _ a)=>a.toNat
  | _=>0
theorem iQb {w:World}{pb:Nat}{s:ByteArray}{a z:Nat}{b:Bool}(h:PB w pb s a z b):j5 w pb=a:=by unfold j5;rw[h.c1];simp
theorem Left.drew' {w w1:World}{pb:Nat}{s:ByteArray}{a z:Nat}{b:Bool}(h:Left w pb s a z b w1):Left w pb s a z b w1.drew:=h.below ⟨rfl,rfl,rfl,Nat.le_refl _,fun _ _=>rfl⟩
theorem bQ7 {w w4:World}{pb:Nat}{s:ByteArray}{i1 k z:Nat}{bad bad':Bool}(sc:Scan s i1 k bad)(hk:k<s.size)(hc:nx s k≠34)(hb:bad'=(bad||!aQe (nx s k)))(hl:Left w pb s k z bad w4) :
    (∃(k':Nat) (b:Bool),Scan s i1 k' b/\Left w pb s k' z b ((w4.setCell ⟨pb,3,none⟩ (.bool bad')).setCell ⟨pb,1,none⟩ (.int .i64 (((k+1:Nat)):Int))).drew)/\
    s.size-j5 ((w4.setCell ⟨pb,3,none⟩ (.bool bad')).setCell ⟨pb,1,none⟩ (.int .i64 (((k+1:Nat)):Int))).drew pb<s.size-k:=by
  have h1:=((hl.set3 bad').set1 (k+1)).drew';exact⟨⟨k+1,bad',by rw[hb];exact sc.next hk hc,h1⟩,by rw[iQb h1.lies];omega⟩
theorem q9 (s:ByteArray)(i k:Nat):s.extract i k=⟨((rest s i).take (k-i)).toArray⟩:=by
  apply ByteArray.ext
  apply Array.toList_inj.1
  simp[ByteArray.data_extract,List.take_drop]
theorem wQa {s:ByteArray}{i k:Nat}(h1:i<=k)(h2:k<=s.size):(s.extract i k).size=k-i:=by
  rw[ByteArray.size_extract];omega
def WPost (w:World)(pb:Nat)(s:ByteArray)(i z:Nat):Ending->World->Prop:=fun e w'=>
  (∃x t,Ls.xQg (rest s i)=some (x,t)/\e=.returned (F4 x)/\Left w pb s (s.size-t.length) (z+x.length) false w')\/
  (Ls.xQg (rest s i)=.none/\∃x i' z',e=.returned (F4 x)/\i<=i'/\i'<=s.size+1/\z'<=z+(i'-i)/\Left w pb s i' z' true w')
theorem sQw {w w3:World}{pb:Nat}{s:ByteArray}{i i1 k z:Nat}{bad:Bool}(sc:Scan s i1 k bad)(hend:s.size<=k\/nx s k=34)(hi:i1=(if A5 s i 34=true then i+1 else i))(hl:Left w pb s (if A5 s k 34=true then k+1 else k) z bad w3) :
    WPost w pb s i z (.returned (.string (s.extract i1 k))) ((w3.setCell ⟨pb,3,none⟩ (.bool (bad||!A5 s i 34||!A5 s k 34))).setCell ⟨pb,2,none⟩ (.int .i64 ((z+(k-i1):Nat):Int))):=by
  have hkb:=sc.le;have hks:=sc.lt;have hl2:=(hl.set3 (bad||!A5 s i 34||!A5 s k 34)).set2 (z+(k-i1));have hi':(if A5 s k 34=true then k+1 else k)<=s.size+1/\k<=(if A5 s k 34=true then k+1 else k):=by split<;>omega
  have hii:i<=i1:=by rw[hi];split<;>omega
  rw[q9];cases ht:A5 s i 34 with
  | false=>
    have hn:Ls.xQg (rest s i)=.none:=by unfold Ls.xQg;rw[if_neg (by rw[B8,ht];simp)]
    rw[ht]at hl2;exact .inr ⟨hn,_,_,z+(k-i1),rfl,by omega,hi'.1,by omega,by simpa using hl2⟩
  | true=>
    have hr:Ls.xQg (rest s i)=Ls.xQj (rest s i1):=by unfold Ls.xQg;rw[if_pos (B8.2 ht),D7,hi,if_pos ht]
    rw[ht]at hl2;cases bad with
    | true=>
      exact .inr ⟨by rw[hr];exact sc.no rfl,_,_,z+(k-i1),rfl,by omega,hi'.1,by omega,by simpa using hl2⟩
    | false=>
      have hok:=sc.ok rfl;cases he:A5 s k 34 with
      | false=>
        have hk:s.size<=k:=by
          rcases hend with h|h
          · exact h
          · rcases Nat.lt_or_ge k s.size with h1|h1
            · unfold A5 at he;simp[h1,h]at he
            · exact h1
        rw[K1 hk]at hok;rw[he]at hl2 hi';exact .inr ⟨by rw[hr];exact hok,_,k,z+(k-i1),rfl,by omega,by omega,by omega,by simpa using hl2⟩
      | true=>
        have hk:=(C6 he).1;rw[fQh he,wQg]at hok;rw[he]at hl2;refine .inl ⟨_,_,by rw[hr];exact hok,by simp,?_⟩;rw[D9,show s.size-(s.size-(k+1))=k+1 by omega];have hlen:((rest s i1).take (k-i1)++[]).length=k-i1:=by simp;omega
        rw[hlen];simpa using hl2
theorem fQp (s:ByteArray)(hs:s.size<=1048576)(pb i z:Nat)(w:World)(h:PB w pb s i z false)(hi:i<=s.size)(hz:z<=1048576+i) :
    Calls Tryz.prog 118 #[.pointer (some ⟨pb,0,none⟩)] w (WPost w pb s i z):=by
  go_enter Tryz.func118,Tryz.ntmps118;go_wp2_with fail;refine(J0 pb s i z false 34 _ h (by omega) (by omega)).mono ?_;rintro e w1 ⟨rfl,hl1⟩;have k1:=hl1.lies.c1;obtain⟨i1,hi1,hi1a,hi1b⟩:∃i1,i1=(if A5 s i 34=true then i+1 else i)/\i<=i1/\i1<=s.size:=by
    refine⟨_,rfl,?_,?_⟩
    · split<;>omega
    · split
      · rename_i hse;have:=(C6 hse).1;omega
      · exact hi
  rw[<-hi1]at hl1 k1;have Hi1:Hid (i1=(if A5 s i 34=true then i+1 else i)):=hi1;clear hi1;go_upto_block 0 with fail
  go_cut [5] (fun _ wx=>∃(k:Nat) (bad:Bool),Scan s i1 k bad/\(s.size<=k\/nx s k=34)/\Left w pb s k z bad wx)
  case first=>
   go_wp2_with fail;go_loopw [5] (fun _ wr=>∃(k:Nat) (bad:Bool),Scan s i1 k bad/\Left w pb s k z bad wr) (fun _ wr=>s.size-j5 wr pb)
   case atStart=>exact⟨i1,false,Scan.start s i1 hi1b,hl1⟩
   case round=>
     obtain⟨k,bad,sc,hl⟩:=hrel;have hkb:=sc.le;have hks:=sc.lt;have c0:=hl.lies.c0;have c1:=hl.lies.c1;have c3:=hl.lies.c3
     by_cases hlt:k<s.size
     · have hkn:decide ((k:Int)<(s.size:Int))=true:=by simp;omega
       by_cases hc:nx s k=34
       · have hcb:((s[k].toNat:Int) != 34)=false:=by
           rw[H8 hlt]at hc;simp[hc]
         have HN:Hid (nx s k=34):=hc;clear hc;go_wp2_with fail;go_quiet (fail)
         go_wp2_with fail;go_meet
         case rel=>exact⟨k,bad,sc,.inr HN.out,hl.below (D6 (w:=wr) nq)⟩
       · have hcb:((s[k].toNat:Int) != 34)=true:=by
           rw[H8 hlt]at hc;simp;intro e;exact hc (UInt8.toNat_inj.1 (by simpa using Int.ofNat.inj (by simpa using e)))
         have HN:Hid (nx s k≠34):=hc;have HS:Hid (∀W,Calls Tryz.prog 63 #[.int .u8 s[k].toNat] W fun e w'=>e=.returned (.bool (Ls.xQ6 s[k]))/\w'=W):=fun W=>I1 s[k] W;clear hc;go_wp2_with fail;go_quiet (fail)
         go_wp2_with fail;have hl2:=hl.below (D6 (w:=wr) nq);have hat:=iQb hl.lies;clear c0 c1 c3 hl;generalize wr.drewN nq=w2 at *;have c0:=hl2.lies.c0;have c1:=hl2.lies.c1;go_quiet ((go_at_call 63;exact Calls.quiet_of_same (HS.out _)))
         go_wp2_with fail;have hl3:=hl2.below (D6 (w:=w2) nq);clear c0 c1 hl2 HS;generalize w2.drewN nq=w4 at *;have c0:=hl3.lies.c0;have c1:=hl3.lies.c1;have c3:=hl3.lies.c3;have f1:=hl3.lies.fr 1;have f3:=hl3.lies.fr 3;have Hat:Hid (j5 wr pb=k):=hat;clear hat;have HO:Hid (aQe (nx s k)=(Ls.xQ6 s[k]&&s[k] != 10)):=by show _=_;rw[H8 hlt];rfl
         cases bad with
         | true=>
           go_region;go_wp2_with fail;rw[Hat.out];exact bQ7 sc hlt HN.out (by simp) hl3
         | false=>
           cases hsg:Ls.xQ6 s[k] with
           | false=>
             have Hsg:Hid (Ls.xQ6 s[k]=false):=hsg;clear hsg;go_region;go_wp2_with fail;rw[Hat.out];exact bQ7 sc hlt HN.out (by rw[HO.out,Hsg.out];rfl) hl3
           | true=>
             have Hsg:Hid (Ls.xQ6 s[k]=true):=hsg;clear hsg
             by_cases h10:s[k]=10
             · have h10b:((s[k].toNat:Int)==10)=true:=by simp[h10]
               have H10:Hid (s[k]=10):=h10;clear h10;go_region;go_wp2_with fail;rw[Hat.out];exact bQ7 sc hlt HN.out (by rw[HO.out,Hsg.out,H10.out];rfl) hl3
             · have h10b:((s[k].toNat:Int)==10)=false:=by
                 simp;intro e;exact h10 (UInt8.toNat_inj.1 (by simpa using Int.ofNat.inj (by simpa using e)))
               have H10:Hid (s[k]≠10):=h10;clear h10;go_region;go_wp2_with fail;rw[Hat.out];exact bQ7 sc hlt HN.out (by rw[HO.out,Hsg.out];simp[H10.out]) hl3
     · have hkn:decide ((k:Int)<(s.size:Int))=false:=by simp;omega
       go_wp2_with fail;go_quiet (fail)
       go_wp2_with fail;go_meet
       case rel=>exact⟨k,bad,sc,.inl (by omega),hl.below (D6 (w:=wr) nq)⟩
  case rest=>
    obtain⟨k,bad,sc,hend,hl⟩:=hcut;have hkb:=sc.le;have hks:=sc.lt;have c0:=hl.lies.c0;have c1:=hl.lies.c1;go_wp2_with fail;go_quiet (fail)
    go_wp2_with fail;have hl2:=hl.below (D6 (w:=wc) nq);clear c0 c1 hl;generalize wc.drewN nq=w2 at *;refine(J0 pb s k z bad 34 _ hl2.lies (by omega) (by omega)).mono ?_;rintro e w3 ⟨rfl,hl3'⟩;have hl3:=hl2.trans hl3';have hxl:=wQa hkb hks;have c2:=hl3.lies.c2;have c3:=hl3.lies.c3;have f2:=hl3.lies.fr 2;have f3:=hl3.lies.fr 3;clear hl3' hl2;have hd:=sQw sc hend Hi1.out hl3;have HD:Hid _:=hd;clear hd hl3 sc hend;generalize ht:A5 s i 34=t at *;generalize he:A5 s k 34=e' at *;clear ht he;cases bad<;>cases t<;>cases e'<;>
      (go_wp2_with fail
       go_ret;exact HD.out)
end Go.Proofs.YtcggfnlejalppaaGreatDoor
