import Derived.Test.YtfklinjaajafgaaGreatDoorK16
set_option maxRecDepth 100000
set_option maxHeartbeats 4000000
namespace Go.Proofs.YtfklinjaajafgaaGreatDoor
open Ls hiding none
open Go.RowKit
variable {a g pb z:Nat}{b:Bool}{s:By}{w w' w1 w2:World}{x:List Value}(l:Lu)(k i:Nat)(c:UInt8)
def PB (w:World)(pb:Nat)(s:By)(at_ size:Nat)(bad:Bool):Prop:=w.heap[pb]?=some (.cells #[.string s,.int .i64 at_,.int .i64 size,.bool bad] 62 (0,0))
theorem PB.lt (h:PB w pb s a z b):pb<w.heap.size:=(Array.getElem?_eq_some_iff.1 h).1
theorem PB.c0 (h:PB w pb s a z b):w.cell? ⟨pb,0,none⟩=some (.string s):=by unfold PB at h;simp[World.cell?,h]
theorem PB.c1 (h:PB w pb s a z b):w.cell? ⟨pb,1,none⟩=some (.int .i64 a):=by unfold PB at h;simp[World.cell?,h]
theorem PB.c2 (h:PB w pb s a z b):w.cell? ⟨pb,2,none⟩=some (.int .i64 z):=by unfold PB at h;simp[World.cell?,h]
theorem PB.c3 (h:PB w pb s a z b):w.cell? ⟨pb,3,none⟩=some (.bool b):=by unfold PB at h;simp[World.cell?,h]
theorem PB.fr (h:PB w pb s a z b)(o:Nat):w.frozen? ⟨pb,o,none⟩=false:=by unfold PB at h;simp[World.frozen?,h]
theorem PB.set1 (h:PB w pb s a z b)(c:Nat):PB (w.setCell ⟨pb,1,none⟩ (Iv c)) pb s c z b:=by unfold PB at h ⊢;simp[World.setCell,Array.getElem?_modify,h]
theorem PB.set2 (h:PB w pb s a z b)(c:Nat):PB (w.setCell ⟨pb,2,none⟩ (Iv c)) pb s a c b:=by unfold PB at h ⊢;simp[World.setCell,Array.getElem?_modify,h]
theorem PB.set3 (h:PB w pb s a z b)(c:Bool):PB (w.setCell ⟨pb,3,none⟩ (.bool c)) pb s a z c:=by unfold PB at h ⊢;simp[World.setCell,Array.getElem?_modify,h]
theorem PB.below (h:PB w pb s a z b)(c:Bw w w'):PB w' pb s a z b:=by have:=h.lt;unfold PB at h ⊢;rw[c.block pb this];exact h
theorem G5 (c:Nat)(s:By)(z:Nat)(b:Bool)(w:World)(h:PB w c s i z b)(_hs:s.size<=4611686018427387904)(_hi:i<=4611686018427387904) :
  Calls Tryz.prog 100 #[Pt c] w fun e g=>e=.returned (.int .u8 (nx s i).toNat)/\Bw w g:=by
 have j:=h.c0;have k:=h.c1
 by_cases f:i<s.size
 ·have d:decide ((s.size:Int)<=(i:Int))=false:=by simp;omega
  have a:Hid _:=M6 f;go_enter Tryz.func100,Tryz.ntmps100;go_wp2;go_quiet (fail)
  go_wp2;go_quiet (fail)
  go_wp2;go_ret;exact⟨by rw[a.out];rfl,⟨rfl,rfl,rfl,Nat.le_refl _,fun _ _=>rfl⟩⟩
 ·have d:decide ((s.size:Int)<=(i:Int))=true:=by simp;omega
  have a:Hid (nx s i=0):=dQa (by omega);go_enter Tryz.func100,Tryz.ntmps100;go_wp2;go_quiet (fail)
  go_wp2;go_ret;exact⟨by rw[a.out];rfl,⟨rfl,rfl,rfl,Nat.le_refl _,fun _ _=>rfl⟩⟩
structure Left (w:World)(pb:Nat)(s:By)(at_ size:Nat)(bad:Bool)(w':World):Prop where
 lies:PB w' pb s at_ size bad
 grown:w.grownBy w' (some pb)
theorem Left.of_below (h:PB w pb s a z b)(c:Bw w w'):Left w pb s a z b w':=⟨h.below c,L5 c _⟩
theorem Left.trans {c e:Nat}{d:Bool}(h:Left w pb s a z b w1)(k:Left w1 pb s c e d w2):Left w pb s c e d w2:=⟨k.lies,J8 h.grown k.grown⟩
theorem Left.below (h:Left w pb s a z b w1)(c:Bw w1 w2):Left w pb s a z b w2:=⟨h.lies.below c,J8 h.grown (L5 c _)⟩
theorem Left.set1 (h:Left w pb s a z b w1)(c:Nat):Left w pb s c z b (w1.setCell ⟨pb,1,none⟩ (Iv c)):=⟨h.lies.set1 c,J8 h.grown (V8 _ _ _ _)⟩
theorem Left.set2 (h:Left w pb s a z b w1)(c:Nat):Left w pb s a c b (w1.setCell ⟨pb,2,none⟩ (Iv c)):=⟨h.lies.set2 c,J8 h.grown (V8 _ _ _ _)⟩
theorem Left.set3 (h:Left w pb s a z b w1)(c:Bool):Left w pb s a z c (w1.setCell ⟨pb,3,none⟩ (.bool c)):=⟨h.lies.set3 c,J8 h.grown (V8 _ _ _ _)⟩
theorem cX9 (pb:Nat)(s:By)(z:Nat)(b:Bool)(w:World)(h:PB w pb s i z b)(hs:s.size<=4611686018427387904)(ht:A7 s i c=true) :
  Calls Tryz.prog 68 #[Pt pb,.int .u8 c.toNat] w fun e w'=>e=.returned (.bool true)/\Left w pb s (i+1) z b w':=by
 have c0:=h.c0;have c1:=h.c1;have hpl:=h.lt;have hfr:=h.fr 1;obtain⟨hlt,hc⟩:i<s.size/\nx s i=c:=by simpa [A7] using ht
 subst hc;have hd:decide ((i:Int)<(s.size:Int))=true:=by simp;omega
 go_enter Tryz.func68,Tryz.ntmps68;go_wp2_with fail;refine(G5 i pb s z b _ h hs (by omega)).mono ?_;rintro e w1 ⟨rfl,hb1⟩;obtain⟨d1,d2⟩:=O9 hb1;have hz1:=hb1.size;go_wp2;go_quiet (fail)
 go_wp2;go_ret;refine⟨rfl,?_⟩;have hl:=((Left.of_below h hb1).below (E5 (w:=w1) nq)).set1 (i+1);exact hl
theorem cX8 (pb:Nat)(s:By)(z:Nat)(b:Bool)(w:World)(h:PB w pb s i z b)(hs:s.size<=4611686018427387904)(hi:i<=4611686018427387904)(ht:A7 s i c=false) :
  Calls Tryz.prog 68 #[Pt pb,.int .u8 c.toNat] w fun e w'=>e=.returned (.bool false)/\Left w pb s i z b w':=by
 have c0:=h.c0;have c1:=h.c1;have hpl:=h.lt
 by_cases hlt:i<s.size
 ·have hc:¬nx s i=c:=by simpa [A7,hlt] using ht
  have hcb:(((nx s i).toNat:Int)==(c.toNat:Int))=false:=by
   rw[beq_eq_false_iff_ne];intro e;exact hc (UInt8.toNat_inj.1 (by omega))
  have hd:decide ((i:Int)<(s.size:Int))=true:=by simp;omega
  go_enter Tryz.func68,Tryz.ntmps68;go_wp2_with fail;refine(G5 i pb s z b _ h hs (by omega)).mono ?_;rintro e w1 ⟨rfl,hb1⟩;obtain⟨d1,d2⟩:=O9 hb1;go_wp2;go_quiet (fail)
  go_wp2;go_ret;exact⟨rfl,(Left.of_below h hb1).below (E5 (w:=w1) nq)⟩
 ·clear ht
  have hd:decide ((i:Int)<(s.size:Int))=false:=by simp;omega
  go_enter Tryz.func68,Tryz.ntmps68;go_wp2_with fail;refine(G5 i pb s z b _ h hs (by omega)).mono ?_;rintro e w1 ⟨rfl,hb1⟩;obtain⟨d1,d2⟩:=O9 hb1;go_wp2;go_quiet (fail)
  go_wp2;go_ret;exact⟨rfl,(Left.of_below h hb1).below (E5 (w:=w1) nq)⟩
theorem O5 (a:Nat)(s:By)(z:Nat)(b:Bool)(w:World)(h:PB w a s i z b)(hs:s.size<=4611686018427387904)(f:i<=4611686018427387904) :
  Calls Tryz.prog 68 #[Pt a,.int .u8 c.toNat] w fun e g=>e=.returned (.bool (A7 s i c))/\Left w a s (if A7 s i c=true then i+1 else i) z b g:=by
 cases d:A7 s i c with
 | true=>simpa using cX9 i c a s z b w h hs d
 | false=>simpa using cX8 i c a s z b w h hs f d
theorem Lies.fr (h:Lies w g x)(o:Nat):w.frozen? ⟨g,o,none⟩=false:=by
 unfold Lies at h;simp[World.frozen?,h]
theorem Lies.below {B:Nat}(h:Lies w g x)(a:Below B w w')(b:g<B):Lies w' g x:=by
 unfold Lies at h ⊢;rw[a.block g b];exact h
theorem Lies.grown {r:Option Nat}(h:Lies w g x)(a:w.grownBy w' r)(b:some g≠r):Lies w' g x:=by
 have:=h.lt;unfold Lies at h ⊢;rw[a.block g this b];exact h
theorem Lies.set_other (h:Lies w g x)(k o:Nat)(v:Value)(a:g≠k):Lies (w.setCell ⟨k,o,none⟩ v) g x:=by
 unfold Lies at h ⊢;rw[Below.heap_setCell _ _ _ _ a];exact h
theorem Left.res {W:World}(h:Left w pb s a z b W)(e:w.heap.size<=g)(f:pb<w.heap.size)(x y v:Value):Left w pb s a z b (((W.setCell ⟨g,0,none⟩ x).setCell ⟨g,1,none⟩ y).setCell ⟨g,2,none⟩ v):=by
 refine⟨?_,?_⟩
 ·have:=h.lies
  unfold PB at this ⊢;rw[dQl _ _ _ _ _ _ (by omega)];exact this
 ·refine⟨h.grown.os,h.grown.tape,h.grown.output,by simpa [World.setCell] using h.grown.size,fun k c d=>?_⟩
  rw[dQl _ _ _ _ _ _ (by omega)];exact h.grown.block k c d
theorem kQo (w:World)(b:k<256)(c:l.length<=4611686018427387904) :
  Calls Tryz.prog 72 #[Sv l,.int .u8 (k:Int)] w fun e a=>e=.returned (.bool (Ls.has l (UInt8.ofNat k)))/\a=w:=by
 have h:=gQ6 (UInt8.ofNat k) ⟨l.toArray⟩ w (by unfold maxLen;simp[ByteArray.size];omega);rw[show ((UInt8.ofNat k).toNat:Int)=(k:Int) from by simp;omega]at h;simpa using h
theorem fQs:Value.string (⟨l.toArray⟩++⟨#[c]⟩)=Sv (l++[c]):=by
 rw[show (⟨#[c]⟩:By)=⟨[c].toArray⟩ from rfl,ByteArray.mk_append_mk]
def oQw (w:World)(pb:Nat)(s:By)(i z:Nat):Ending->World->Prop:=fun e w'=>
 (∃sg t,cls ((rest s i).length+1) [] (rest s i)=some (sg,t)/\e=.returned (B4 (Ls.set sg) (.slice none 0 0))/\Left w pb s (s.size-t.length) z false w')\/
 (cls ((rest s i).length+1) [] (rest s i)=.none/\∃i',i<=i'/\i'<=s.size/\e=.returned (B4 Ls.none (.slice none 0 0))/\Left w pb s i' z true w')
theorem sQw (g:Nat)(s:By)(z:Nat)(w:World)(h:PB w g s i z false)(hs:s.size<=1048576)(hi:i<=s.size) :
  Calls Tryz.prog 129 #[Pt g] w (oQw w g s i z):=by
 have Hh:Hid _:=h;have M:=h.lt;have L:¬w.heap.size=g:=by omega
 have d2:¬g=w.heap.size:=by omega
 go_enter Tryz.func129,Tryz.ntmps129;go_wp2;go_loopw [3] (fun o wr=>∃(d:Lu) (j n:Nat),o=Sv d/\d.length<=128*j/\i<=j/\j<=s.size/\(rest s j).length<n/\cls n d (rest s j)=cls ((rest s i).length+1) [] (rest s i)/\Left w g s j z false wr/\Lies wr w.heap.size [Iv 0,.string ⟨#[]⟩,.slice none 0 0]) (fun _ wr=>s.size+1-(intOf ((wr.cell? ⟨g,1,none⟩).getD (Iv 0))).toNat)
 case atStart=>exact⟨[],i,_,rfl,by simp,Nat.le_refl _,hi,Nat.lt_succ_self _,rfl,Left.of_below Hh.out (A5 _ _),C7 w _⟩
 case round=>
  obtain⟨d,j,n,rfl,c4,b0,b1,hn,Y,A,a2⟩:=hrel;have I:Hid _:=Y;have c0:=A.lies.c0;have c1:=A.lies.c1;have hw:=a2.lt;go_wp2_with fail;refine(G5 j g s z false _ A.lies (by omega) (by omega)).mono ?_;rintro e w1 ⟨rfl,S⟩;go_wp2_with fail;refine(lQp (nx s j) _).mono ?_;rintro e w2 ⟨rfl,rfl⟩;have t:=A.below S;have d3:=S.size;have B:=a2.below S hw;obtain⟨q0,q1,q2⟩:=B.three (a:=Ls.none);have g0:=B.fr 0;have g1:=B.fr 1;have g2:=B.fr 2;cases F:iXl (nx s j) with
  | false=>
   have y:Hid _:=F;have f3:=t.lies.fr 3;have k3:=t.lies.c3;go_wp2;refine bodyPost_ret (v:=B4 Ls.none (.slice none 0 0)) (by simp[results,Tryz.results129,go_sem,q0,q1,q2,Ls.none]) rfl (Or.inr ⟨?_,j,b0,b1,rfl,(t.set3 true).res (Nat.le_refl _) M _ _ _⟩);rw[<-I.out];cases n with
   | zero=>rfl
   | succ n=>rw[cls,mQw y.out]
  | true=>
   have y:Hid _:=F;have c8:=q9 F;have f1:=t.lies.fr 1;have k1:=t.lies.c1;go_wp2_with fail;have Z:=t.set1 (j+1);have b3:=B.set_other g 1 (Iv ((j+1:Nat):Int)) L;refine(O5 (j+1) 45 g s z false _ Z.lies (by omega) (by omega)).mono ?_;rintro e w3 ⟨rfl,a0⟩;have u:=Z.trans a0;have T:=b3.grown a0.grown (by simp[L]);go_upto_if 32 with fail
   go_cut [6,7] (fun s6 _ wx=>∃(b:UInt8) (m:Nat),s6=.int .u8 b.toNat/\gXc (rest s j)=some (nx s j,b,rest s m)/\j<m/\m<=s.size/\Left w g s m z false wx/\Lies wx w.heap.size [Iv 0,.string ⟨#[]⟩,.slice none 0 0])
   case first=>
    cases f:A7 s (j+1) 45 with
    | false=>
     have J:Hid (A7 s (j+1) 45=false):=f;rw[f]at u;clear f;go_wp2_with fail;go_meet
     case rel=>exact⟨nx s j,j+1,rfl,mQx y.out J.out,by omega,by omega,by simpa using u,T⟩
    | true=>
     have J:Hid (A7 s (j+1) 45=true):=f;rw[f]at u;simp only[if_true]at u;have c6:=(D9 f).1;clear f;go_wp2_with fail;refine(G5 (j+1+1) g s z false _ u.lies (by omega) (by omega)).mono ?_;rintro e w4 ⟨rfl,W⟩;go_wp2_with fail;refine(lQp (nx s (j+1+1)) _).mono ?_;rintro e w5 ⟨rfl,rfl⟩;have p:=u.below W;have C:=T.below W T.lt;obtain⟨N,O,P⟩:=C.three (a:=Ls.none);have p0:=C.fr 0;have p1:=C.fr 1;have p2:=C.fr 2;have b9:=p.lies.fr 1;have c2:=p.lies.fr 3;have d4:=p.lies.c1;have d5:=p.lies.c3;have V:(iXl (nx s (j+1+1))=false\/(nx s (j+1+1)).toNat<(nx s j).toNat)->cls ((rest s i).length+1) [] (rest s i)=.none:=by
      intro hb;rw[<-I.out];cases n with
      | zero=>rfl
      | succ n=>rw[cls,hQ8 y.out J.out hb]
     have x:=V;clear V;cases G:iXl (nx s (j+1+1)) with
     | false=>
      have a6:=x (.inl G);have R:Hid (cls ((rest s i).length+1) [] (rest s i)=.none):=a6;clear a6 x G;go_wp2_with fail;refine bodyPost_ret (v:=B4 Ls.none (.slice none 0 0)) (by simp[results,Tryz.results129,go_sem,N,O,P,Ls.none]) rfl (Or.inr ⟨R.out,j+1+1,by omega,by omega,rfl,(p.set3 true).res (Nat.le_refl _) M _ _ _⟩)
     | true=>
      have a8:Hid (iXl (nx s (j+1+1))=true):=G;have c7:=q9 G;clear G
      by_cases a4:(nx s (j+1+1)).toNat<(nx s j).toNat
      ·have R:Hid (cls ((rest s i).length+1) [] (rest s i)=.none):=x (.inr a4)
       clear x;go_wp2_with fail;refine bodyPost_ret (v:=B4 Ls.none (.slice none 0 0)) (by simp[results,Tryz.results129,go_sem,N,O,P,Ls.none]) rfl (Or.inr ⟨R.out,j+1+1,by omega,by omega,rfl,(p.set3 true).res (Nat.le_refl _) M _ _ _⟩)
      ·clear x
       go_wp2_with fail;go_meet
       case rel=>exact⟨nx s (j+1+1),j+1+1+1,rfl,mQy y.out J.out a8.out (by omega),by omega,by omega,p.set1 (j+1+1+1),C.set_other g 1 _ L⟩
   case rest=>
    obtain⟨b,m,rfl,a7,c9,b6,b5,a3⟩:=hcut;have a9:Hid (gXc (rest s j)=some (nx s j,b,rest s m)):=a7;clear a7;have c5:=K5;go_wp2_with fail;go_loopw [3,9] (fun o c wy=>∃k:Nat,k<=128/\c=Iv k/\o=Sv (gXo d (nx s j) b k)/\Bw wc wy) (fun _ c _=>128-(intOf c).toNat)
    case atStart=>exact⟨0,by omega,rfl,by simp[gXo],Br⟩
    case round=>
     obtain⟨k,hk,rfl,rfl,r⟩:=hrel;have d0:=bXl d k (nx s j) b
     by_cases a4:k<128
     ·go_wp2_with fail
      refine(kQo (gXo d (nx s j) b k) k _ (by omega) (by omega)).mono ?_;rintro e w6 ⟨rfl,rfl⟩
      by_cases h1:(nx s j).toNat<=k
      ·by_cases h2:k<=b.toNat
       ·cases K:Ls.has (gXo d (nx s j) b k) (UInt8.ofNat k) with
        | true=>
         have H:Hid (gXo d (nx s j) b (k+1)=gXo d (nx s j) b k):=by show _=_;rw[cQh,if_neg (by simp[K])]
         clear K;go_wp2_with fail;go_roundw
         case rel=>exact⟨k+1,by omega,by go_num,by rw[H.out],r⟩
         case measure=>simp[intOf];omega
        | false=>
         have H:Hid (gXo d (nx s j) b (k+1)=gXo d (nx s j) b k++[UInt8.ofNat k]):=by show _=_;rw[cQh,if_pos ⟨h1,h2,K⟩]
         clear K;go_wp2_with fail;go_roundw
         case rel=>exact⟨k+1,by omega,by go_num,by rw[H.out];exact fQs _ _,Bj r (A5 _ _)⟩
         case measure=>simp[intOf];omega
       ·have H:Hid (gXo d (nx s j) b (k+1)=gXo d (nx s j) b k):=by show _=_;rw[cQh,if_neg (by omega)]
        go_wp2_with fail;go_roundw
        case rel=>exact⟨k+1,by omega,by go_num,by rw[H.out],r⟩
        case measure=>simp[intOf];omega
      ·have H:Hid (gXo d (nx s j) b (k+1)=gXo d (nx s j) b k):=by show _=_;rw[cQh,if_neg (by omega)]
       go_wp2_with fail;go_roundw
       case rel=>exact⟨k+1,by omega,by go_num,by rw[H.out],r⟩
       case measure=>simp[intOf];omega
     ·have b2:k=128:=by omega
      subst b2;have a5:=b5.below r
      have b4:=a3.below r a3.lt;go_wp2_with fail;refine(O5 m 93 g s z false _ a5.lies (by omega) (by omega)).mono ?_;rintro e w7 ⟨rfl,a1⟩;have q:=a5.trans a1;have E:=b4.grown a1.grown (by simp[L]);obtain⟨N,O,P⟩:=E.three (a:=Ls.none);have p0:=E.fr 0;have p1:=E.fr 1;have p2:=E.fr 2;have X:∀l,n=l+1->cls n d (rest s j)=if (rest s m).head?=some 93 then some (rng d (nx s j) b,(rest s m).tail) else cls l (rng d (nx s j) b) (rest s m):=by
       intro l e;rw[e,cls,a9.out]
      obtain⟨l,b7⟩:∃l,n=l+1:=⟨n-1,by omega⟩;have U:Hid (cls n d (rest s j)=if (rest s m).head?=some 93 then some (rng d (nx s j) b,(rest s m).tail) else cls l (rng d (nx s j) b) (rest s m)):=X l b7;clear X;have b8:(rest s m).length<l:=by simp at hn ⊢;omega
      cases f:A7 s m 93 with
      | true=>
       have Q:Hid (cls ((rest s i).length+1) [] (rest s i)=some (rng d (nx s j) b,rest s (m+1))):=by
        show _=_;rw[<-I.out,U.out,if_pos (C4.2 f),E7]
       have d1:=(D9 f).1;rw[f]at q;simp only[if_true]at q;clear f;go_wp2_with fail;refine bodyPost_ret (v:=B4 (Ls.set (rng d (nx s j) b)) (.slice none 0 0)) (by simp[results,Tryz.results129,go_sem,N,O,P,Ls.set,rng]) rfl (Or.inl ⟨_,_,Q.out,rfl,?_⟩);rw[F4,show s.size-(s.size-(m+1))=m+1 from by omega];exact q.res (Nat.le_refl _) M _ _ _
      | false=>
       have Q:Hid (cls l (rng d (nx s j) b) (rest s m)=cls ((rest s i).length+1) [] (rest s i)):=by
        show _=_;rw[<-I.out,U.out,if_neg (by rw[C4,f];simp)]
       rw[f]at q;simp only[Bool.false_eq_true,if_false]at q;clear f;go_wp2_with fail;go_roundw
       case rel=>exact⟨_,m,l,rfl,by unfold rng at *;omega,by omega,b6,b8,Q.out,q,E⟩
       case measure=>
        rw[q.lies.c1,A.lies.c1];simp[intOf];omega
end Go.Proofs.YtfklinjaajafgaaGreatDoor
