import Derived.Test.YtcggfnlejalppaaGreatDoorK16
import Derived.Test.YtcggfnlejalppaaGreatDoorK01
import Derived.Test.YtcggfnlejalppaaGreatDoorK03
set_option maxRecDepth 100000
set_option maxHeartbeats 4000000
namespace Go.Proofs.YtcggfnlejalppaaGreatDoor
open Go.RowKit
def PB (w:World)(pb:Nat)(s:ByteArray)(at_ size:Nat)(bad:Bool):Prop:=w.heap[pb]?=some (.cells #[.string s,.int .i64 at_,.int .i64 size,.bool bad] 56 (0,0))
theorem PB.lt {w:World}{pb:Nat}{s:ByteArray}{a z:Nat}{b:Bool}(h:PB w pb s a z b):pb<w.heap.size:=(Array.getElem?_eq_some_iff.1 h).1
theorem PB.c0 {w:World}{pb:Nat}{s:ByteArray}{a z:Nat}{b:Bool}(h:PB w pb s a z b):w.cell? ⟨pb,0,none⟩=some (.string s):=by unfold PB at h;simp[World.cell?,h]
theorem PB.c1 {w:World}{pb:Nat}{s:ByteArray}{a z:Nat}{b:Bool}(h:PB w pb s a z b):w.cell? ⟨pb,1,none⟩=some (.int .i64 a):=by unfold PB at h;simp[World.cell?,h]
theorem PB.c2 {w:World}{pb:Nat}{s:ByteArray}{a z:Nat}{b:Bool}(h:PB w pb s a z b):w.cell? ⟨pb,2,none⟩=some (.int .i64 z):=by unfold PB at h;simp[World.cell?,h]
theorem PB.c3 {w:World}{pb:Nat}{s:ByteArray}{a z:Nat}{b:Bool}(h:PB w pb s a z b):w.cell? ⟨pb,3,none⟩=some (.bool b):=by unfold PB at h;simp[World.cell?,h]
theorem PB.fr {w:World}{pb:Nat}{s:ByteArray}{a z:Nat}{b:Bool}(h:PB w pb s a z b)(o:Nat):w.frozen? ⟨pb,o,none⟩=false:=by unfold PB at h;simp[World.frozen?,h]
theorem PB.set1 {w:World}{pb:Nat}{s:ByteArray}{a z:Nat}{b:Bool}(h:PB w pb s a z b)(a':Nat):PB (w.setCell ⟨pb,1,none⟩ (.int .i64 a')) pb s a' z b:=by unfold PB at h ⊢;simp[World.setCell,Array.getElem?_modify,h]
theorem PB.set2 {w:World}{pb:Nat}{s:ByteArray}{a z:Nat}{b:Bool}(h:PB w pb s a z b)(z':Nat):PB (w.setCell ⟨pb,2,none⟩ (.int .i64 z')) pb s a z' b:=by unfold PB at h ⊢;simp[World.setCell,Array.getElem?_modify,h]
theorem PB.set3 {w:World}{pb:Nat}{s:ByteArray}{a z:Nat}{b:Bool}(h:PB w pb s a z b)(b':Bool):PB (w.setCell ⟨pb,3,none⟩ (.bool b')) pb s a z b':=by unfold PB at h ⊢;simp[World.setCell,Array.getElem?_modify,h]
theorem PB.below {w w':World}{pb:Nat}{s:ByteArray}{a z:Nat}{b:Bool}(h:PB w pb s a z b)(hb:Below w.heap.size w w'):PB w' pb s a z b:=by have:=h.lt;unfold PB at h ⊢;rw[hb.block pb this];exact h
theorem E8 (pb:Nat)(s:ByteArray)(i z:Nat)(b:Bool)(w:World)(h:PB w pb s i z b)(_hs:s.size<=4611686018427387904)(_hi:i<=4611686018427387904) :
  Calls Tryz.prog 92 #[.pointer (some ⟨pb,0,none⟩)] w fun e w'=>e=.returned (.int .u8 (nx s i).toNat)/\Below w.heap.size w w':=by
 have c0:=h.c0;have c1:=h.c1
 by_cases hlt:i<s.size
 ·have hd:decide ((s.size:Int)<=(i:Int))=false:=by simp;omega
  have hx:Hid (nx s i=s[i]):=H8 hlt;go_enter Tryz.func92,Tryz.ntmps92;go_wp2_with fail;go_quiet (fail)
  go_wp2_with fail;go_quiet (fail)
  go_wp2_with fail;go_ret;exact⟨by rw[hx.out];rfl,⟨rfl,rfl,rfl,Nat.le_refl _,fun _ _=>rfl⟩⟩
 ·have hd:decide ((s.size:Int)<=(i:Int))=true:=by simp;omega
  have hx:Hid (nx s i=0):=aQw (by omega);go_enter Tryz.func92,Tryz.ntmps92;go_wp2_with fail;go_quiet (fail)
  go_wp2_with fail;go_ret;exact⟨by rw[hx.out];rfl,⟨rfl,rfl,rfl,Nat.le_refl _,fun _ _=>rfl⟩⟩
structure Left (w:World)(pb:Nat)(s:ByteArray)(at_ size:Nat)(bad:Bool)(w':World):Prop where
 lies:PB w' pb s at_ size bad
 grown:w.grownBy w' (some pb)
theorem Left.of_below {w w':World}{pb:Nat}{s:ByteArray}{a z:Nat}{b:Bool}(h:PB w pb s a z b)(hb:Below w.heap.size w w'):Left w pb s a z b w':=⟨h.below hb,G9 hb _⟩
theorem Left.trans {w w1 w2:World}{pb:Nat}{s:ByteArray}{a z:Nat}{b:Bool}{a' z':Nat}{b':Bool}(h:Left w pb s a z b w1)(k:Left w1 pb s a' z' b' w2):Left w pb s a' z' b' w2:=⟨k.lies,G3 h.grown k.grown⟩
theorem Left.below {w w1 w2:World}{pb:Nat}{s:ByteArray}{a z:Nat}{b:Bool}(h:Left w pb s a z b w1)(hb:Below w1.heap.size w1 w2):Left w pb s a z b w2:=⟨h.lies.below hb,G3 h.grown (G9 hb _)⟩
theorem Left.set1 {w w1:World}{pb:Nat}{s:ByteArray}{a z:Nat}{b:Bool}(h:Left w pb s a z b w1)(a':Nat):Left w pb s a' z b (w1.setCell ⟨pb,1,none⟩ (.int .i64 a')):=⟨h.lies.set1 a',G3 h.grown (O9 _ _ _ _)⟩
theorem Left.set2 {w w1:World}{pb:Nat}{s:ByteArray}{a z:Nat}{b:Bool}(h:Left w pb s a z b w1)(z':Nat):Left w pb s a z' b (w1.setCell ⟨pb,2,none⟩ (.int .i64 z')):=⟨h.lies.set2 z',G3 h.grown (O9 _ _ _ _)⟩
theorem Left.set3 {w w1:World}{pb:Nat}{s:ByteArray}{a z:Nat}{b:Bool}(h:Left w pb s a z b w1)(b':Bool):Left w pb s a z b' (w1.setCell ⟨pb,3,none⟩ (.bool b')):=⟨h.lies.set3 b',G3 h.grown (O9 _ _ _ _)⟩
theorem pQq (pb:Nat)(s:ByteArray)(i z:Nat)(b:Bool)(c:UInt8)(w:World)(h:PB w pb s i z b)(hs:s.size<=4611686018427387904)(ht:A5 s i c=true) :
  Calls Tryz.prog 60 #[.pointer (some ⟨pb,0,none⟩),.int .u8 c.toNat] w fun e w'=>e=.returned (.bool true)/\Left w pb s (i+1) z b w':=by
 have c0:=h.c0;have c1:=h.c1;have hpl:=h.lt;have hfr:=h.fr 1;obtain⟨hlt,hc⟩:i<s.size/\nx s i=c:=by simpa [A5] using ht
 clear ht;subst hc;have hd:decide ((i:Int)<(s.size:Int))=true:=by simp;omega
 go_enter Tryz.func60,Tryz.ntmps60;go_wp2_with fail;refine(E8 pb s i z b _ h hs (by omega)).mono ?_;rintro e w1 ⟨rfl,hb1⟩;obtain⟨d1,d2⟩:=K4 hb1;have hz1:=hb1.size;go_wp2_with fail;go_quiet (fail)
 go_wp2_with fail;go_ret;refine⟨rfl,?_⟩;have hl:=((Left.of_below h hb1).below (D6 (w:=w1) nq)).set1 (i+1);exact hl
theorem oQk (pb:Nat)(s:ByteArray)(i z:Nat)(b:Bool)(c:UInt8)(w:World)(h:PB w pb s i z b)(hs:s.size<=4611686018427387904)(hi:i<=4611686018427387904)(ht:A5 s i c=false) :
  Calls Tryz.prog 60 #[.pointer (some ⟨pb,0,none⟩),.int .u8 c.toNat] w fun e w'=>e=.returned (.bool false)/\Left w pb s i z b w':=by
 have c0:=h.c0;have c1:=h.c1;have hpl:=h.lt
 by_cases hlt:i<s.size
 ·have hc:¬nx s i=c:=by simpa [A5,hlt] using ht
  have hcb:(((nx s i).toNat:Int)==(c.toNat:Int))=false:=by
   rw[beq_eq_false_iff_ne];intro e;exact hc (UInt8.toNat_inj.1 (by omega))
  clear ht hc;have hd:decide ((i:Int)<(s.size:Int))=true:=by simp;omega
  go_enter Tryz.func60,Tryz.ntmps60;go_wp2_with fail;refine(E8 pb s i z b _ h hs (by omega)).mono ?_;rintro e w1 ⟨rfl,hb1⟩;obtain⟨d1,d2⟩:=K4 hb1;go_wp2_with fail;go_quiet (fail)
  go_wp2_with fail;go_ret;exact⟨rfl,(Left.of_below h hb1).below (D6 (w:=w1) nq)⟩
 ·clear ht
  have hd:decide ((i:Int)<(s.size:Int))=false:=by simp;omega
  go_enter Tryz.func60,Tryz.ntmps60;go_wp2_with fail;refine(E8 pb s i z b _ h hs (by omega)).mono ?_;rintro e w1 ⟨rfl,hb1⟩;obtain⟨d1,d2⟩:=K4 hb1;go_wp2_with fail;go_quiet (fail)
  go_wp2_with fail;go_ret;exact⟨rfl,(Left.of_below h hb1).below (D6 (w:=w1) nq)⟩
theorem J0 (pb:Nat)(s:ByteArray)(i z:Nat)(b:Bool)(c:UInt8)(w:World)(h:PB w pb s i z b)(hs:s.size<=4611686018427387904)(hi:i<=4611686018427387904) :
  Calls Tryz.prog 60 #[.pointer (some ⟨pb,0,none⟩),.int .u8 c.toNat] w fun e w'=>e=.returned (.bool (A5 s i c))/\Left w pb s (if A5 s i c=true then i+1 else i) z b w':=by
 cases ht:A5 s i c with
 | true=>simpa using pQq pb s i z b c w h hs ht
 | false=>simpa using oQk pb s i z b c w h hs hi ht
theorem Lies.fr {w:World}{g:Nat}{x:List Value}(h:Lies w g x)(o:Nat):w.frozen? ⟨g,o,none⟩=false:=by
 unfold Lies at h;simp[World.frozen?,h]
theorem Lies.below {w w':World}{g:Nat}{x:List Value}{B:Nat}(h:Lies w g x)(hb:Below B w w')(hg:g<B):Lies w' g x:=by
 unfold Lies at h ⊢;rw[hb.block g hg];exact h
theorem Lies.grown {w w':World}{g:Nat}{x:List Value}{r:Option Nat}(h:Lies w g x)(hb:w.grownBy w' r)(hg:some g≠r):Lies w' g x:=by
 have:=h.lt;unfold Lies at h ⊢;rw[hb.block g this hg];exact h
theorem Lies.set_other {w:World}{g:Nat}{x:List Value}(h:Lies w g x)(k o:Nat)(v:Value)(hk:g≠k):Lies (w.setCell ⟨k,o,none⟩ v) g x:=by
 unfold Lies at h ⊢;rw[Below.heap_setCell _ _ _ _ hk];exact h
theorem Left.res {w W:World}{pb:Nat}{s:ByteArray}{a z:Nat}{b:Bool}(h:Left w pb s a z b W){g:Nat}(hg:w.heap.size<=g)(hp:pb<w.heap.size)(x y v:Value):Left w pb s a z b (((W.setCell ⟨g,0,none⟩ x).setCell ⟨g,1,none⟩ y).setCell ⟨g,2,none⟩ v):=by
 refine⟨?_,?_⟩
 ·have:=h.lies
  unfold PB at this ⊢;rw[aQk _ _ _ _ _ _ (by omega)];exact this
 ·refine⟨h.grown.os,h.grown.tape,h.grown.output,by simpa [World.setCell] using h.grown.size,fun k hk hr=>?_⟩
  rw[aQk _ _ _ _ _ _ (by omega)];exact h.grown.block k hk hr
theorem eQi (l:List UInt8)(k:Nat)(w:World)(hk:k<256)(hl:l.length<=4611686018427387904) :
  Calls Tryz.prog 64 #[.string ⟨l.toArray⟩,.int .u8 (k:Int)] w fun e w'=>e=.returned (.bool (Ls.has l (UInt8.ofNat k)))/\w'=w:=by
 have h:=dQe ⟨l.toArray⟩ (UInt8.ofNat k) w (by unfold maxLen;simp[ByteArray.size];omega);rw[show ((UInt8.ofNat k).toNat:Int)=(k:Int) from by simp;omega]at h;simpa using h
theorem bQb (l:List UInt8)(c:UInt8):Value.string (⟨l.toArray⟩++⟨#[c]⟩)=.string ⟨(l++[c]).toArray⟩:=by
 rw[show (⟨#[c]⟩:ByteArray)=⟨[c].toArray⟩ from rfl,ByteArray.mk_append_mk]
def tQb (w:World)(pb:Nat)(s:ByteArray)(i z:Nat):Ending->World->Prop:=fun e w'=>
 (∃sg t,Ls.cls ((rest s i).length+1) [] (rest s i)=some (sg,t)/\e=.returned (A7 (Ls.set sg) (.slice none 0 0))/\Left w pb s (s.size-t.length) z false w')\/
 (Ls.cls ((rest s i).length+1) [] (rest s i)=.none/\∃i',i<=i'/\i'<=s.size/\e=.returned (A7 Ls.none (.slice none 0 0))/\Left w pb s i' z true w')
theorem pQ8 (pb:Nat)(s:ByteArray)(i z:Nat)(w:World)(h:PB w pb s i z false)(hs:s.size<=1048576)(hi:i<=s.size) :
  Calls Tryz.prog 122 #[.pointer (some ⟨pb,0,none⟩)] w (tQb w pb s i z):=by
 have Hh:Hid (PB w pb s i z false):=h;have hpl:=h.lt;have hne:¬w.heap.size=pb:=by omega
 have hne':¬pb=w.heap.size:=by omega
 go_enter Tryz.func122,Tryz.ntmps122;go_wp2_with fail;go_loopw [3] (fun o wr=>∃(acc:List UInt8) (j n:Nat),o=.string ⟨acc.toArray⟩/\acc.length<=128*j/\i<=j/\j<=s.size/\(rest s j).length<n/\Ls.cls n acc (rest s j)=Ls.cls ((rest s i).length+1) [] (rest s i)/\Left w pb s j z false wr/\Lies wr w.heap.size [.int .i64 0,.string ⟨#[]⟩,.slice none 0 0]) (fun _ wr=>s.size+1-(intOf ((wr.cell? ⟨pb,1,none⟩).getD (.int .i64 0))).toNat)
 case atStart=>exact⟨[],i,_,rfl,by simp,Nat.le_refl _,hi,Nat.lt_succ_self _,rfl,Left.of_below Hh.out (A4 _ _),C1 w _⟩
 case round=>
  obtain⟨acc,j,n,rfl,hacc,hij,hjs,hn,hcls,hl,hlie⟩:=hrel;have Hcls:Hid (Ls.cls n acc (rest s j)=Ls.cls ((rest s i).length+1) [] (rest s i)):=hcls;clear hcls;have c0:=hl.lies.c0;have c1:=hl.lies.c1;have hw:=hlie.lt;go_wp2_with fail;refine(E8 pb s j z false _ hl.lies (by omega) (by omega)).mono ?_;rintro e w1 ⟨rfl,hb1⟩;go_wp2_with fail;refine(fQ9 (nx s j) _).mono ?_;rintro e w2 ⟨rfl,rfl⟩;have hl1:=hl.below hb1;have hz1:=hb1.size;have hlie1:=hlie.below hb1 hw;obtain⟨q0,q1,q2⟩:=hlie1.three (a:=Ls.none);have g0:=hlie1.fr 0;have g1:=hlie1.fr 1;have g2:=hlie1.fr 2;cases hm:Ls.zQ2 (nx s j) with
  | false=>
   have Hm:Hid (Ls.zQ2 (nx s j)=false):=hm;have f3:=hl1.lies.fr 3;have k3:=hl1.lies.c3;clear hm;go_wp2_with fail;refine bodyPost_ret (v:=A7 Ls.none (.slice none 0 0)) (by simp[results,Tryz.results122,go_sem,q0,q1,q2,Ls.none]) rfl (Or.inr ⟨?_,j,hij,hjs,rfl,(hl1.set3 true).res (Nat.le_refl _) hpl _ _ _⟩);rw[<-Hcls.out];cases n with
   | zero=>rfl
   | succ n=>rw[Ls.cls,hQl Hm.out]
  | true=>
   have Hm:Hid (Ls.zQ2 (nx s j)=true):=hm;have hjl:=S8 hm;have f1:=hl1.lies.fr 1;have k1:=hl1.lies.c1;clear hm;go_wp2_with fail;have hl2:=hl1.set1 (j+1);have hlie2:=hlie1.set_other pb 1 (.int .i64 ((j+1:Nat):Int)) hne;refine(J0 pb s (j+1) z false 45 _ hl2.lies (by omega) (by omega)).mono ?_;rintro e w3 ⟨rfl,hl3'⟩;have hl3:=hl2.trans hl3';have hlie3:=hlie2.grown hl3'.grown (by simp[hne]);go_upto_if 32 with fail
   go_cut [6,7] (fun s6 _ wx=>∃(b:UInt8) (m:Nat),s6=.int .u8 b.toNat/\Ls.xQr (rest s j)=some (nx s j,b,rest s m)/\j<m/\m<=s.size/\Left w pb s m z false wx/\Lies wx w.heap.size [.int .i64 0,.string ⟨#[]⟩,.slice none 0 0])
   case first=>
    cases hse:A5 s (j+1) 45 with
    | false=>
     have Hse:Hid (A5 s (j+1) 45=false):=hse;rw[hse]at hl3;clear hse;go_wp2_with fail;go_meet
     case rel=>exact⟨nx s j,j+1,rfl,hQq Hm.out Hse.out,by omega,by omega,by simpa using hl3,hlie3⟩
    | true=>
     have Hse:Hid (A5 s (j+1) 45=true):=hse;rw[hse]at hl3;simp only[if_true]at hl3;have hj1:=(C6 hse).1;clear hse;go_wp2_with fail;refine(E8 pb s (j+1+1) z false _ hl3.lies (by omega) (by omega)).mono ?_;rintro e w4 ⟨rfl,hb4⟩;go_wp2_with fail;refine(fQ9 (nx s (j+1+1)) _).mono ?_;rintro e w5 ⟨rfl,rfl⟩;have hl4:=hl3.below hb4;have hlie4:=hlie3.below hb4 hlie3.lt;obtain⟨r0,r1,r2⟩:=hlie4.three (a:=Ls.none);have p0:=hlie4.fr 0;have p1:=hlie4.fr 1;have p2:=hlie4.fr 2;have f31:=hl4.lies.fr 1;have f33:=hl4.lies.fr 3;have k31:=hl4.lies.c1;have k33:=hl4.lies.c3;have bad:(Ls.zQ2 (nx s (j+1+1))=false\/(nx s (j+1+1)).toNat<(nx s j).toNat)->Ls.cls ((rest s i).length+1) [] (rest s i)=.none:=by
      intro hb;rw[<-Hcls.out];cases n with
      | zero=>rfl
      | succ n=>rw[Ls.cls,dQ4 Hm.out Hse.out hb]
     have Hbad:=bad;clear bad;cases hm2:Ls.zQ2 (nx s (j+1+1)) with
     | false=>
      have hnone:=Hbad (.inl hm2);have Hnone:Hid (Ls.cls ((rest s i).length+1) [] (rest s i)=.none):=hnone;clear hnone Hbad hm2;go_wp2_with fail;refine bodyPost_ret (v:=A7 Ls.none (.slice none 0 0)) (by simp[results,Tryz.results122,go_sem,r0,r1,r2,Ls.none]) rfl (Or.inr ⟨Hnone.out,j+1+1,by omega,by omega,rfl,(hl4.set3 true).res (Nat.le_refl _) hpl _ _ _⟩)
     | true=>
      have Hm2:Hid (Ls.zQ2 (nx s (j+1+1))=true):=hm2;have hj2:=S8 hm2;clear hm2
      by_cases hlt:(nx s (j+1+1)).toNat<(nx s j).toNat
      ·have Hnone:Hid (Ls.cls ((rest s i).length+1) [] (rest s i)=.none):=Hbad (.inr hlt)
       clear Hbad;go_wp2_with fail;refine bodyPost_ret (v:=A7 Ls.none (.slice none 0 0)) (by simp[results,Tryz.results122,go_sem,r0,r1,r2,Ls.none]) rfl (Or.inr ⟨Hnone.out,j+1+1,by omega,by omega,rfl,(hl4.set3 true).res (Nat.le_refl _) hpl _ _ _⟩)
      ·clear Hbad
       go_wp2_with fail;go_meet
       case rel=>exact⟨nx s (j+1+1),j+1+1+1,rfl,hQ1 Hm.out Hse.out Hm2.out (by omega),by omega,by omega,hl4.set1 (j+1+1+1),hlie4.set_other pb 1 _ hne⟩
   case rest=>
    obtain⟨b,m,rfl,hr1,hjm,hms,hlm,hliem⟩:=hcut;have Hr1:Hid (Ls.xQr (rest s j)=some (nx s j,b,rest s m)):=hr1;clear hr1;have hcv:=G5;go_wp2_with fail;go_loopw [3,9] (fun o c wy=>∃k:Nat,k<=128/\c=.int .i64 k/\o=.string ⟨(Ls.xQ1 acc (nx s j) b k).toArray⟩/\Below wc.heap.size wc wy) (fun _ c _=>128-(intOf c).toNat)
    case atStart=>exact⟨0,by omega,rfl,by simp[Ls.xQ1],Below.refl _ _⟩
    case round=>
     obtain⟨k,hk,rfl,rfl,hby⟩:=hrel;have hlen:=nQo acc (nx s j) b k
     by_cases hlt:k<128
     ·go_wp2_with fail
      refine(eQi (Ls.xQ1 acc (nx s j) b k) k _ (by omega) (by omega)).mono ?_;rintro e w6 ⟨rfl,rfl⟩
      by_cases h1:(nx s j).toNat<=k
      ·by_cases h2:k<=b.toNat
       ·cases h3:Ls.has (Ls.xQ1 acc (nx s j) b k) (UInt8.ofNat k) with
        | true=>
         have H:Hid (Ls.xQ1 acc (nx s j) b (k+1)=Ls.xQ1 acc (nx s j) b k):=by show _=_;rw[X2,if_neg (by simp[h3])]
         clear h3;go_wp2_with fail;go_roundw
         case rel=>exact⟨k+1,by omega,by go_num,by rw[H.out],hby⟩
         case measure=>simp[intOf];omega
        | false=>
         have H:Hid (Ls.xQ1 acc (nx s j) b (k+1)=Ls.xQ1 acc (nx s j) b k++[UInt8.ofNat k]):=by show _=_;rw[X2,if_pos ⟨h1,h2,h3⟩]
         clear h3;go_wp2_with fail;go_roundw
         case rel=>exact⟨k+1,by omega,by go_num,by rw[H.out];exact bQb _ _,Below.join hby (A4 _ _)⟩
         case measure=>simp[intOf];omega
       ·have H:Hid (Ls.xQ1 acc (nx s j) b (k+1)=Ls.xQ1 acc (nx s j) b k):=by show _=_;rw[X2,if_neg (by omega)]
        go_wp2_with fail;go_roundw
        case rel=>exact⟨k+1,by omega,by go_num,by rw[H.out],hby⟩
        case measure=>simp[intOf];omega
      ·have H:Hid (Ls.xQ1 acc (nx s j) b (k+1)=Ls.xQ1 acc (nx s j) b k):=by show _=_;rw[X2,if_neg (by omega)]
       go_wp2_with fail;go_roundw
       case rel=>exact⟨k+1,by omega,by go_num,by rw[H.out],hby⟩
       case measure=>simp[intOf];omega
     ·have hk1:k=128:=by omega
      subst hk1;have hly:=hlm.below hby
      have hliey:=hliem.below hby hliem.lt;go_wp2_with fail;refine(J0 pb s m z false 93 _ hly.lies (by omega) (by omega)).mono ?_;rintro e w7 ⟨rfl,hl7'⟩;have hl7:=hly.trans hl7';have hlie7:=hliey.grown hl7'.grown (by simp[hne]);obtain⟨r0,r1,r2⟩:=hlie7.three (a:=Ls.none);have p0:=hlie7.fr 0;have p1:=hlie7.fr 1;have p2:=hlie7.fr 2;have hc1:∀n',n=n'+1->Ls.cls n acc (rest s j)=if (rest s m).head?=some 93 then some (Ls.rng acc (nx s j) b,(rest s m).tail) else Ls.cls n' (Ls.rng acc (nx s j) b) (rest s m):=by
       intro n' e;rw[e,Ls.cls,Hr1.out]
      obtain⟨n',hn'⟩:∃n',n=n'+1:=⟨n-1,by omega⟩;have Hc1:Hid (Ls.cls n acc (rest s j)=if (rest s m).head?=some 93 then some (Ls.rng acc (nx s j) b,(rest s m).tail) else Ls.cls n' (Ls.rng acc (nx s j) b) (rest s m)):=hc1 n' hn';clear hc1;have hn2:(rest s m).length<n':=by simp at hn ⊢;omega
      cases hse:A5 s m 93 with
      | true=>
       have Hc2:Hid (Ls.cls ((rest s i).length+1) [] (rest s i)=some (Ls.rng acc (nx s j) b,rest s (m+1))):=by
        show _=_;rw[<-Hcls.out,Hc1.out,if_pos (B8.2 hse),D7]
       have hm1:=(C6 hse).1;rw[hse]at hl7;simp only[if_true]at hl7;clear hse;go_wp2_with fail;refine bodyPost_ret (v:=A7 (Ls.set (Ls.rng acc (nx s j) b)) (.slice none 0 0)) (by simp[results,Tryz.results122,go_sem,r0,r1,r2,Ls.set,Ls.rng]) rfl (Or.inl ⟨_,_,Hc2.out,rfl,?_⟩);rw[D9,show s.size-(s.size-(m+1))=m+1 from by omega];exact hl7.res (Nat.le_refl _) hpl _ _ _
      | false=>
       have Hc2:Hid (Ls.cls n' (Ls.rng acc (nx s j) b) (rest s m)=Ls.cls ((rest s i).length+1) [] (rest s i)):=by
        show _=_;rw[<-Hcls.out,Hc1.out,if_neg (by rw[B8,hse];simp)]
       rw[hse]at hl7;simp only[Bool.false_eq_true,if_false]at hl7;clear hse;go_wp2_with fail;go_roundw
       case rel=>exact⟨_,m,n',rfl,by unfold Ls.rng at *;omega,by omega,hms,hn2,Hc2.out,hl7,hlie7⟩
       case measure=>
        rw[hl7.lies.c1,hl.lies.c1];simp[intOf];omega
end Go.Proofs.YtcggfnlejalppaaGreatDoor
