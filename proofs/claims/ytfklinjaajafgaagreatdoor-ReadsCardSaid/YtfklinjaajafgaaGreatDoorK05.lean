import Derived.Test.YtfklinjaajafgaaGreatDoorK04
set_option maxRecDepth 100000
set_option maxHeartbeats 4000000
namespace Go.Proofs.YtfklinjaajafgaaGreatDoor
open Go.RowKit
theorem eQw (c:UInt8)(w:World) :
  Calls Tryz.prog 184 #[.int .u8 c.toNat] w fun e a=>e=.returned (.bool (Ls.gXu c))/\a=w:=by
 go_enter Tryz.func184,Tryz.ntmps184;go_wp2
 all_goals
  go_ret;refine⟨R5 ?_,rfl⟩;rw[Bool.eq_iff_iff];simp[Ls.gXu];omega
theorem kQx (c:UInt8)(w:World) :
  Calls Tryz.prog 201 #[.int .u8 c.toNat] w fun e a=>e=.returned (.bool (decide (97<=c.toNat/\c.toNat<=122)))/\a=w:=by
 go_enter Tryz.func201,Tryz.ntmps201;go_wp2
 all_goals
  go_ret;refine⟨R5 ?_,rfl⟩;rw[Bool.eq_iff_iff];simp;omega
theorem kQu (c:UInt8)(w:World) :
  Calls Tryz.prog 213 #[.int .u8 c.toNat] w fun e f=>e=.returned (.bool (Ls.iXl c))/\f=w:=by
 have b:=kQx c w;cases a:decide (97<=c.toNat/\c.toNat<=122) with
 | true=>
  rw[a]at b;have d:Hid (Ls.iXl c=true):=by show _=_;simp at a;simp[Ls.iXl];omega
  clear a;go_enter Tryz.func213,Tryz.ntmps213;go_wp2_with fail;refine b.mono ?_;rintro e g ⟨rfl,rfl⟩;go_wp2_with fail;go_ret;exact⟨by rw[d.out];rfl,rfl⟩
 | false=>
  rw[a]at b;have d:Hid (¬(97<=c.toNat/\c.toNat<=122)):=of_decide_eq_false a;clear a;go_enter Tryz.func213,Tryz.ntmps213;go_wp2_with fail;refine b.mono ?_;rintro e g ⟨rfl,rfl⟩;go_wp2_with fail
  all_goals
   go_ret;refine⟨R5 ?_,rfl⟩;have:=d.out;rw[Bool.eq_iff_iff];simp[Ls.iXl];omega
abbrev D3 (rb:Nat):Value:=.agg #[.pointer (some ⟨rb,0,none⟩)]
theorem lQl (a:Nat)(s:ByteArray)(i z:Nat)(w:World)(h:RB w a s i z)(hs:s.size<=1048576)(c:Ls.iXl (nx s i)=true) :
  Calls Tryz.prog 206 #[D3 a] w fun e l=>e=.returned (.int .u8 (nx s i).toNat)/\RLeft w a s (i+1) z l:=by
 have j:=q9 c;have b:=fun W=>kQu (nx s i) W;rw[c]at b;clear c;have g:Hid _:=b;clear b;have f:=RLeft.of_below h (A5 w (.cells #[Pt a] 177));have d:Hid _:=f;clear f;go_enter Tryz.func206,Tryz.ntmps206;go_wp2_with fail;refine(O2 a s i z _ d.out.lies hs j).mono ?_;rintro e m ⟨rfl,k⟩;go_wp2_with fail;refine(g.out _).mono ?_;rintro e n ⟨rfl,rfl⟩;go_wp2_with fail;go_ret;exact⟨rfl,d.out.trans k⟩
theorem lQk (a:Nat)(s:ByteArray)(i z:Nat)(c:Addr)(w:World)(h:RB w a s i z)(p:Env w a c)(hs:s.size<=1048576)(r:i<=1048577)(l:Ls.iXl (nx s i)=false) :
  Calls Tryz.prog 206 #[D3 a] w (K6 w a c):=by
 have d:=fun W=>kQu (nx s i) W;rw[l]at d;clear l;have n:Hid _:=d;clear d;have v:=h.lt;have f:=A5 w (.cells #[Pt a] 177);have b:Hid _:=RLeft.of_below h f;have k:Hid _:=p.below f;have m:=Bx.new w 177 a;have o:Hid _:=m;clear f m;rcases Nat.lt_or_ge i s.size with g|g
 ·go_enter Tryz.func206,Tryz.ntmps206
  go_wp2_with fail;refine(O2 a s i z _ b.out.lies hs g).mono ?_;rintro e t ⟨rfl,j⟩;have u:=(o.out.grown j.grown (by omega)).cell;go_wp2_with fail;refine(n.out _).mono ?_;rintro e x ⟨rfl,rfl⟩;go_wp2_with fail;refine(V7 _ c _ (k.out.grown j.grown).sc).mono ?_;rintro e y ⟨rfl,rfl⟩;go_wp2_with fail;exact⟨rfl,rfl,(b.out.trans j).grown⟩
 ·go_enter Tryz.func206,Tryz.ntmps206
  go_wp2_with fail;refine(dQi a s i z c _ b.out.lies k.out hs g r).mono ?_;rintro e t ⟨rfl,q⟩;go_wp2_with fail;exact⟨rfl,rfl,J8 b.out.grown q⟩
def G4 (lo hi c:Nat):Bool:=if c<64 then lo.testBit c else hi.testBit (c-64)
theorem lQ1 (x k:Nat)(e:x<18446744073709551616)(d:k<64):bits .or .u64 (x:Int) (IntKind.u64.wrap (2 ^ k))=((x ||| 2 ^ k:Nat):Int):=by
 have b:(2:Nat) ^ k<18446744073709551616:=by
  have:=Nat.pow_lt_pow_right (a:=2) (by omega) d;simpa using this
 have c:IntKind.u64.wrap (2 ^ k)=((2 ^ k:Nat):Int):=by
  rw[IntKind.wrap_u64,show ((2:Int) ^ k)=((2 ^ k:Nat):Int) from by simp];generalize 2 ^ k=y at *;omega
 rw[c,u64_or_nat x (2 ^ k) e b]
theorem lQ2 (x k:Nat)(c:x<18446744073709551616)(b:k<64):x ||| 2 ^ k<18446744073709551616:=by
 have a:(2:Nat) ^ k<2 ^ 64:=Nat.pow_lt_pow_right (by omega) b;have:=Nat.or_lt_two_pow (n:=64) (by simpa using c) a;simpa using this
theorem cXc (lo a k:Nat)(b:k<64)(c:Nat):G4 (lo ||| 2 ^ k) a c=(G4 lo a c||c==k):=by
 unfold G4;split
 ·rw[Nat.testBit_or,Nat.testBit_two_pow]
  by_cases h:k=c
  ·simp[h]
  ·simp[h,Ne.symm h]
 ·have:(c==k)=false:=by simp;omega
  simp[this]
theorem cXb (lo a k:Nat)(d:64<=k)(c:Nat):G4 lo (a ||| 2 ^ (k-64)) c=(G4 lo a c||c==k):=by
 unfold G4;split
 ·have:(c==k)=false:=by simp;omega
  simp[this]
 ·rw[Nat.testBit_or,Nat.testBit_two_pow]
  by_cases h:k=c
  ·simp[h]
  ·have b:¬k-64=c-64:=by omega
   simp[b,Ne.symm h]
theorem aQi {w:World}{g lo a:Nat}{t:TypeId}(h:w.heap[g]?=some (.cells #[.int .u64 lo,.int .u64 a] t (0,0))):w.cell? ⟨g,0,none⟩=some (.int .u64 lo)/\w.cell? ⟨g,1,none⟩=some (.int .u64 a)/\w.frozen? ⟨g,0,none⟩=false/\w.frozen? ⟨g,1,none⟩=false:=by
 refine⟨?_,?_,?_,?_⟩
 ·simp[World.cell?,h]
 ·simp[World.cell?,h]
 ·simp[World.frozen?,h]
 ·simp[World.frozen?,h]
def qQb (lo hi:Nat)(a b:UInt8)(w:World):Ending->World->Prop:=fun e w'=>
 ∃lo' hi':Nat,e=.returned (.agg #[.int .u64 lo',.int .u64 hi'])/\lo'<18446744073709551616/\hi'<18446744073709551616/\(∀c,G4 lo' hi' c=(G4 lo hi c||decide (a.toNat<=c/\c<=b.toNat)))/\Bw w w'
theorem fQz (lo f:Nat)(a b:UInt8)(w:World)(N:a.toNat<=b.toNat)(O:b.toNat<=126)(E:lo<18446744073709551616)(B:f<18446744073709551616) :
  Calls Tryz.prog 162 #[.agg #[.int .u64 lo,.int .u64 f],.int .u8 a.toNat,.int .u8 b.toNat] w (qQb lo f a b w):=by
 go_enter Tryz.func162,Tryz.ntmps162;go_wp2_with fail;go_loopw [7] (fun c wr=>∃(k e d:Nat),c=.int .u8 k/\a.toNat<=k/\k<=b.toNat+1/\Bw w wr/\e<18446744073709551616/\d<18446744073709551616/\wr.heap[w.heap.size]?=some (.cells #[.int .u64 e,.int .u64 d] 157 (0,0))/\wr.heap[w.heap.size+1]?=some (.cells #[.int .u64 (0:Nat),.int .u64 (0:Nat)] 157 (0,0))/\∀c,G4 e d c=(G4 lo f c||decide (a.toNat<=c/\c<k))) (fun c _=>128-(intOf c).toNat)
 case atStart=>
  refine⟨a.toNat,lo,f,rfl,Nat.le_refl _,by omega,C6 _ _ _,E,B,?_,?_,fun c=>?_⟩
  ·rw[Below.heap_alloc _ _ _ (by simp)];exact heap_alloc_new _ _
  ·have:=heap_alloc_new (w.alloc (.cells #[.int .u64 lo,.int .u64 f] 157)) (.cells #[.int .u64 (0:Nat),.int .u64 (0:Nat)] 157)
   simpa using this
  ·have:¬(a.toNat<=c/\c<a.toNat):=by omega
   simp[this]
 case round=>
  obtain⟨k,e,d,rfl,A,P,n,g,i,o,q,u⟩:=hrel;have l:Hid (∀c,G4 e d c=(G4 lo f c||decide (a.toNat<=c/\c<k))):=u;obtain⟨J,K,L,M⟩:=aQi o;obtain⟨H,I,R,s1⟩:=aQi q;have r:Hid _:=o;have s:Hid _:=q;clear o q u;have x:∀c,(G4 lo f c||decide (a.toNat<=c/\c<k)||c==k)=(G4 lo f c||decide (a.toNat<=c/\c<k+1)):=fun c=>by
   by_cases h:c=k
   ·subst h;simp[A]
   ·have y:(c==k)=false:=by simp[h]
    have z:decide (a.toNat<=c/\c<k+1)=decide (a.toNat<=c/\c<k):=by
     rw[decide_eq_decide];omega
    rw[y,z];simp
  have t:Hid _:=x;clear x
  by_cases Q:k<=b.toNat
  ·by_cases m:k<64
   ·have F:(k:Int) / 64=0:=by omega
    have G:(k:Int) % 64=k:=by omega
    have j:Hid _:=lQ1 e k g m;go_wp2_with fail;go_roundw
    case rel=>
     rw[j.out];refine⟨k+1,e ||| 2 ^ k,d,by go_num,by omega,by omega,n.setCell (Nat.le_refl _) _,lQ2 _ _ g m,i,?_,?_,fun c=>?_⟩
     ·have:=r.out;simp[World.setCell,Array.getElem?_modify,this]
     ·rw[Below.heap_setCell _ _ _ _ (by show _≠_;simp)];exact s.out
     ·rw[cXc _ _ _ m,l.out c,t.out c]
    case measure=>simp[intOf];omega
   ·have F:(k:Int) / 64=1:=by omega
    have G:(k:Int) % 64=((k-64:Nat):Int):=by omega
    have j:Hid _:=lQ1 d (k-64) i (by omega);go_wp2_with fail;go_roundw
    case rel=>
     rw[j.out];refine⟨k+1,e,d ||| 2 ^ (k-64),by go_num,by omega,by omega,n.setCell (Nat.le_refl _) _,g,lQ2 _ _ i (by omega),?_,?_,fun c=>?_⟩
     ·have:=r.out;simp[World.setCell,Array.getElem?_modify,this]
     ·rw[Below.heap_setCell _ _ _ _ (by show _≠_;simp)];exact s.out
     ·rw[cXb _ _ _ (by omega),l.out c,t.out c]
    case measure=>simp[intOf];omega
  ·have C:k=b.toNat+1:=by omega
   go_wp2_with fail;refine bodyPost_ret (v:=.agg #[.int .u64 e,.int .u64 d]) (by simp[results,Tryz.results162,go_sem,H,I]) rfl ⟨e,d,rfl,g,i,fun c=>?_,?_⟩
   ·rw[l.out c,C]
    congr 1
    rw[decide_eq_decide];omega
   ·exact(n.setCell (p:=⟨w.heap.size+1,0,none⟩) (by show _<=w.heap.size+1;omega) _).setCell (p:=⟨w.heap.size+1,1,none⟩) (by show _<=w.heap.size+1;omega) _
structure SB (g:List UInt8)(lo hi:Nat):Prop where
 loLt:lo<18446744073709551616
 hiLt:hi<18446744073709551616
 bit:∀c:UInt8,c.toNat<128->G4 lo hi c.toNat=Ls.has g c
 none:∀c:UInt8,128<=c.toNat->Ls.has g c=false
theorem kQn (g h:List UInt8)(c:UInt8):Ls.has (g++h) c=(Ls.has g c||Ls.has h c):=by simp[Ls.has]
theorem cQx (d c:UInt8):Ls.has [d] c=(d==c):=by simp[Ls.has]
theorem SB.empty:SB [] 0 0:=⟨by omega,by omega,fun c _=>by simp[G4,Ls.has],fun c _=>by simp[Ls.has]⟩
theorem eQt (d:List UInt8)(a b c:UInt8):(n:Nat)->n<=128->Ls.has (Ls.gXo d a b n) c=(Ls.has d c||decide (a.toNat<=c.toNat/\c.toNat<=b.toNat/\c.toNat<n))
 | 0,_=>by simp[Ls.gXo]
 | n+1,hn=>by
  have g:=eQt d a b c n (by omega);have p:(UInt8.ofNat n).toNat=n:=by simp;omega
  rw[cQh]
  by_cases o:c.toNat=n
  ·have i:c=UInt8.ofNat n:=UInt8.toNat_inj.1 (by omega)
   split
   ·rename_i h
    rw[kQn,cQx,<-i];have e:decide (a.toNat<=c.toNat/\c.toNat<=b.toNat/\c.toNat<n+1)=true:=by simp;omega
    rw[e];simp
   ·rename_i h
    rw[g]
    by_cases e:a.toNat<=n/\n<=b.toNat
    ·have f:Ls.has (Ls.gXo d a b n) (UInt8.ofNat n)=true:=by
      cases j:Ls.has (Ls.gXo d a b n) (UInt8.ofNat n) with
      | true=>rfl
      | false=>exact absurd ⟨e.1,e.2,j⟩ h
     rw[<-i,g]at f;have k:decide (a.toNat<=c.toNat/\c.toNat<=b.toNat/\c.toNat<n)=false:=by simp;omega
     rw[k]at f ⊢;simp at f;simp[f]
    ·congr 1
     rw[decide_eq_decide];omega
  ·have l:decide (a.toNat<=c.toNat/\c.toNat<=b.toNat/\c.toNat<n+1)=decide (a.toNat<=c.toNat/\c.toNat<=b.toNat/\c.toNat<n):=by
    rw[decide_eq_decide];omega
   rw[l];split
   ·rw[kQn,cQx,g]
    have m:(UInt8.ofNat n==c)=false:=by
     rw[beq_eq_false_iff_ne];rintro rfl;exact o p
    rw[m];simp
   ·exact g
theorem SB.with {g:List UInt8}{lo i f e:Nat}{a b:UInt8}(h:SB g lo i)(l:f<18446744073709551616)(k:e<18446744073709551616)(_hb:b.toNat<=127)(j:∀c,G4 f e c=(G4 lo i c||decide (a.toNat<=c/\c<=b.toNat))):SB (Ls.rng g a b) f e:=by
 refine⟨l,k,fun c d=>?_,fun c d=>?_⟩
 ·rw[j,h.bit c d]
  unfold Ls.rng;rw[eQt g a b c 128 (Nat.le_refl _)];congr 1
  rw[decide_eq_decide];omega
 ·unfold Ls.rng
  rw[eQt g a b c 128 (Nat.le_refl _),h.none c d];have:decide (a.toNat<=c.toNat/\c.toNat<=b.toNat/\c.toNat<128)=false:=by simp;omega
  rw[this];rfl
theorem SB.congr {g b:List UInt8}{lo e:Nat}(h:SB g lo e)(d:∀c,Ls.has b c=Ls.has g c):SB b lo e:=
 ⟨h.loLt,h.hiLt,fun c a=>by rw[d];exact h.bit c a,fun c a=>by rw[d];exact h.none c a⟩
theorem vQe (c d:UInt8)(h:c.toNat<128):Ls.has (Ls.rng [] c c) d=Ls.has [c] d:=by
 unfold Ls.rng;rw[eQt [] c c d 128 (Nat.le_refl _),cQx]
 by_cases e:c=d
 ·subst e;simp[Ls.has,h]
 ·have a:(c==d)=false:=by simp[e]
  have b:decide (c.toNat<=d.toNat/\d.toNat<=c.toNat/\d.toNat<128)=false:=by
   simp only[decide_eq_false_iff_not];intro f;exact e (UInt8.toNat_inj.1 (by omega))
  rw[a,b];rfl
theorem vQd (d:UInt8):Ls.has (Ls.rng [] 97 122) d=Ls.has Ls.az d:=by
 have a:Ls.rng [] 97 122=Ls.az:=by decide +kernel
 rw[a]
abbrev K3 (lo hi:Nat):Value:=.iface 180 (.agg #[.int .u64 lo,.int .u64 hi])
theorem cXk {c:UInt8}(h:Ls.gXu c=true):c.toNat<=126:=by simp[Ls.gXu]at h;omega
theorem lQ0 (c:UInt8)(w:World)(k:c.toNat<=126) :
  Calls Tryz.prog 185 #[.int .u8 c.toNat] w fun e j=>(∃lo a,e=.returned (K3 lo a)/\SB [c] lo a)/\Bw w j:=by
 go_enter Tryz.func185,Tryz.ntmps185;go_wp2_with fail;refine(fQz 0 0 c c _ (Nat.le_refl _) (by omega) (by omega) (by omega)).mono ?_;rintro e l ⟨lo,a,rfl,f,g,b,i⟩;have h:SB [c] lo a:=(SB.with SB.empty f g (by omega) b).congr (fun d=>(vQe c d (by omega)).symm);clear b;go_wp2_with fail;go_ret;exact⟨⟨lo,a,rfl,h⟩,i⟩
theorem mQ2 (f:Nat)(c:UInt8)(w:World)(d:Ls.gXu c=true) :
  Calls Tryz.prog 163 #[D3 f,.int .u8 c.toNat] w fun e l=>(∃lo a,e=.returned (K3 lo a)/\SB [c] lo a)/\Bw w l:=by
 have k:=cXk d;have b:=fun W=>eQw c W;rw[d]at b;have h:Hid _:=b;clear b d;have g:Hid _:=A5 w (.cells #[Pt f] 177);go_enter Tryz.func163,Tryz.ntmps163;go_wp2_with fail;refine(h.out _).mono ?_;rintro e m ⟨rfl,rfl⟩;go_wp2_with fail;refine(lQ0 c _ k).mono ?_;rintro e n ⟨⟨lo,a,rfl,i⟩,j⟩;go_wp2_with fail;go_ret;exact⟨⟨lo,a,rfl,i⟩,Bj g.out j⟩
theorem mQ1 (a:Nat)(c:UInt8)(d:Addr)(w:World)(k:Env w a d)(g:Ls.gXu c=false) :
  Calls Tryz.prog 163 #[D3 a,.int .u8 c.toNat] w (K6 w a d):=by
 have b:=fun W=>eQw c W;rw[g]at b;have j:Hid _:=b;clear b g;have f:=A5 w (.cells #[Pt a] 177);have i:Hid _:=k.below f;have h:Hid _:=f;clear f;go_enter Tryz.func163,Tryz.ntmps163;go_wp2_with fail;refine(j.out _).mono ?_;rintro e l ⟨rfl,rfl⟩;go_wp2_with fail;refine(V7 _ d _ i.out.sc).mono ?_;rintro e m ⟨rfl,rfl⟩;go_wp2_with fail;exact⟨rfl,rfl,L5 h.out _⟩
theorem RLeft.res2 {w W:World}{b:Nat}{s:ByteArray}{a z:Nat}(h:RLeft w b s a z W){g:Nat}(e:w.heap.size<=g)(f:b<w.heap.size)(x y:Value):RLeft w b s a z ((W.setCell ⟨g,0,none⟩ x).setCell ⟨g,1,none⟩ y):=by
 refine⟨?_,?_⟩
 ·have:=h.lies
  unfold RB at this ⊢;rw[Below.heap_setCell _ _ _ _ (by show b≠g;omega),Below.heap_setCell _ _ _ _ (by show b≠g;omega)];exact this
 ·refine⟨h.grown.os,h.grown.tape,h.grown.output,by simpa [World.setCell] using h.grown.size,fun k c d=>?_⟩
  rw[Below.heap_setCell _ _ _ _ (by show k≠g;omega),Below.heap_setCell _ _ _ _ (by show k≠g;omega)];exact h.grown.block k c d
def pQb (w:World)(rb:Nat)(s:ByteArray)(i z:Nat)(a1:Addr)(g:List UInt8):Ending->World->Prop:=fun e w'=>
 (∃a b j lo hi,Ls.gXc (rest s i)=some (a,b,rest s j)/\j<=s.size/\i<j/\e=.returned (.agg #[.int .u64 (lo:Nat),.int .u64 (hi:Nat)])/\SB (Ls.rng g a b) lo hi/\RLeft w rb s j z w')\/
 (Ls.gXc (rest s i)=.none/\K6 w rb a1 e w')
abbrev U9 (w:World)(rb lo hi:Nat):World:=((w.alloc (.cells #[.pointer (some ⟨rb,0,none⟩)] 177)).alloc (.cells #[.int .u64 lo,.int .u64 hi] 157)).alloc (.cells #[.int .u64 (0:Nat),.int .u64 (0:Nat)] 157)
theorem jQt (a:Nat)(s:ByteArray)(i z:Nat)(h:Addr)(a0:List UInt8)(lo b:Nat)(w:World)(a1:RB w a s i z)(hE:Env w a h)(hs:s.size<=1048576)(c9:i<=s.size)(n:SB a0 lo b) :
  Calls Tryz.prog 183 #[D3 a,.agg #[.int .u64 lo,.int .u64 b]] w (pQb w a s i z h a0):=by
 have b0:=a1.lt;have d2:¬a=w.heap.size:=by omega
 have O:¬w.heap.size=a:=by omega
 have a9:¬w.heap.size+1=a:=by omega
 have J:=Q0 w (.cells #[Pt a] 177) (.cells #[.int .u64 lo,.int .u64 b] 157) (.cells #[.int .u64 (0:Nat),.int .u64 (0:Nat)] 157);have a7:RLeft w a s i z (U9 w a lo b):=RLeft.of_below a1 J;have a3:Env (U9 w a lo b) a h:=hE.below J;have b1:Bx 177 (U9 w a lo b) w.heap.size a:=((Bx.new w 177 a).below (A5 _ _)).below (A5 _ _);have b4:(U9 w a lo b).heap[w.heap.size+1]?=some (.cells #[.int .u64 lo,.int .u64 b] 157 (0,0)):=by
  rw[Below.heap_alloc _ _ _ (by simp)];have:=heap_alloc_new (w.alloc (.cells #[Pt a] 177)) (.cells #[.int .u64 lo,.int .u64 b] 157);simpa using this
 have b5:(U9 w a lo b).heap[w.heap.size+1+1]?=some (.cells #[.int .u64 (0:Nat),.int .u64 (0:Nat)] 157 (0,0)):=by
  have:=heap_alloc_new ((w.alloc (.cells #[Pt a] 177)).alloc (.cells #[.int .u64 lo,.int .u64 b] 157)) (.cells #[.int .u64 (0:Nat),.int .u64 (0:Nat)] 157);rw[World.size_alloc,World.size_alloc]at this;exact this
 have c6:(U9 w a lo b).heap.size=w.heap.size+1+1+1:=by simp
 have t:Hid (RLeft w a s i z (U9 w a lo b)):=a7;have W:Hid (Env (U9 w a lo b) a h):=a3;have b6:Hid (Bx 177 (U9 w a lo b) w.heap.size a):=b1;have b7:Hid ((U9 w a lo b).heap[w.heap.size+1]?=some (.cells #[.int .u64 lo,.int .u64 b] 157 (0,0))):=b4;have b9:Hid ((U9 w a lo b).heap[w.heap.size+1+1]?=some (.cells #[.int .u64 (0:Nat),.int .u64 (0:Nat)] 157 (0,0))):=b5;clear b4 b5 a7 a3 b1 J;cases k:Ls.iXl (nx s i) with
 | false=>
  have c:Hid (Ls.gXc (rest s i)=.none):=mQw k;have u:=lQk a s i z h _ t.out.lies W.out hs (by omega) k;clear k;go_enter Tryz.func183,Tryz.ntmps183;go_wp2_with fail;refine u.mono ?_;rintro e w1 ⟨rfl,M⟩;go_wp2_with fail;exact⟨rfl,.inr ⟨c.out,rfl,J8 t.out.grown M⟩⟩
 | true=>
  have d0:=q9 k;have p:Hid (Ls.iXl (nx s i)=true):=k;have u:=lQl a s i z _ t.out.lies hs k;clear k;go_enter Tryz.func183,Tryz.ntmps183;go_wp2_with fail;refine u.mono ?_;rintro e w1 ⟨rfl,j⟩;clear u;have c1:=W.out.grown j.grown;have b2:=b6.out.grown j.grown O;have k1:=b2.cell;have a2:=nQk a s (i+1) z 45 w1 j.lies hs (by omega);go_wp2_with fail;refine a2.mono ?_;rintro e w2 ⟨rfl,f⟩;clear a2 k1;have a4:=c1.grown f.grown;have b3:=b2.grown f.grown O;have k2:=b3.cell;have d:=t.out.trans (j.trans f);have Q:=b7.out;rw[<-(j.trans f).grown.block _ (by omega) (by simpa using a9)]at Q;have S:=b9.out;rw[<-(j.trans f).grown.block _ (by omega) (by simp;omega)]at S;have c7:=(j.trans f).grown.size;rw[c6]at c7;have Y:Hid (w2.heap[w.heap.size+1]?=some (.cells #[.int .u64 lo,.int .u64 b] 157 (0,0))):=Q;have Z:Hid (w2.heap[w.heap.size+1+1]?=some (.cells #[.int .u64 (0:Nat),.int .u64 (0:Nat)] 157 (0,0))):=S;clear Q S;cases o:A7 s (i+1) 45 with
  | false=>
   have c:Hid (Ls.gXc (rest s i)=some (nx s i,nx s i,rest s (i+1))):=mQx p.out o;rw[o]at d;simp only[Bool.false_eq_true,if_false]at d;obtain⟨B,C,E,F⟩:=aQi Y.out;have c4:=Ls.kXo p.out;clear o;go_wp2_with fail;refine(fQz lo b (nx s i) (nx s i) _ (Nat.le_refl _) (by omega) n.loLt n.hiLt).mono ?_;rintro e y ⟨r,N,rfl,G,H,q,K⟩;have I:=SB.with n G H (by omega) q;clear q;have g:=d.below K;have c8:=K.size;have m:=Z.out;rw[<-K.block _ (by omega)]at m;obtain⟨U,V,s0,s1⟩:=aQi m;clear m B C E F;go_wp2_with fail;refine bodyPost_ret (v:=.agg #[.int .u64 r,.int .u64 N]) (by simp[results,Tryz.results183,go_sem,U,V]) rfl (.inl ⟨nx s i,nx s i,i+1,r,N,c.out,by omega,by omega,rfl,I,g.res2 (by omega) b0 _ _⟩)
  | true=>
   have P:=o;rw[o]at d f;simp only[if_true]at d f;have d1:=(D9 P).1;have A:Hid (A7 s (i+1) 45=true):=P;clear o P;cases l:Ls.iXl (nx s (i+1+1)) with
   | false=>
    have c:Hid (Ls.gXc (rest s i)=.none):=hQ8 p.out A.out (.inl l);have x:=lQk a s (i+1+1) z h _ d.lies a4 hs (by omega) l;clear l;go_wp2_with fail;refine x.mono ?_;rintro e y ⟨rfl,M⟩;go_wp2_with fail;exact⟨rfl,.inr ⟨c.out,rfl,J8 d.grown M⟩⟩
   | true=>
    have N:=q9 l;have X:Hid (Ls.iXl (nx s (i+1+1))=true):=l;have x:=lQl a s (i+1+1) z _ d.lies hs l;clear l;go_wp2_with fail;refine x.mono ?_;rintro e y ⟨rfl,g⟩;clear x k2;have a8:=d.trans g;have c2:=a4.grown g.grown;have c5:=b3.grown g.grown O;have k3:=c5.cell;have c8:=g.grown.size;have R:=Y.out;rw[<-g.grown.block _ (by omega) (by simpa using a9)]at R;have m:=Z.out;rw[<-g.grown.block _ (by omega) (by simp;omega)]at m;have b8:Hid (y.heap[w.heap.size+1]?=some (.cells #[.int .u64 lo,.int .u64 b] 157 (0,0))):=R;have c0:Hid (y.heap[w.heap.size+1+1]?=some (.cells #[.int .u64 (0:Nat),.int .u64 (0:Nat)] 157 (0,0))):=m;clear R m
    by_cases a5:(nx s (i+1+1)).toNat<(nx s i).toNat
    ·have c:Hid (Ls.gXc (rest s i)=.none):=hQ8 p.out A.out (.inr a5)
     go_wp2_with fail;refine(V7 _ h _ c2.sc).mono ?_;rintro e w4 ⟨rfl,rfl⟩;go_wp2_with fail;exact⟨rfl,.inr ⟨c.out,rfl,a8.grown⟩⟩
    ·have c:Hid (Ls.gXc (rest s i)=some (nx s i,nx s (i+1+1),rest s (i+1+1+1))):=mQy p.out A.out X.out a5
     obtain⟨B,C,E,F⟩:=aQi b8.out;have c4:=Ls.kXo X.out;go_wp2_with fail;refine(fQz lo b (nx s i) (nx s (i+1+1)) _ (by omega) (by omega) n.loLt n.hiLt).mono ?_;rintro e w4 ⟨r,a6,rfl,G,H,q,L⟩;have I:=SB.with n G H (by omega) q;clear q;have c3:=a8.below L;have d3:=L.size;have T:=c0.out;rw[<-L.block _ (by omega)]at T;obtain⟨U,V,s0,s1⟩:=aQi T;clear T B C E F;go_wp2_with fail;refine bodyPost_ret (v:=.agg #[.int .u64 r,.int .u64 a6]) (by simp[results,Tryz.results183,go_sem,U,V]) rfl (.inl ⟨nx s i,nx s (i+1+1),i+1+1+1,r,a6,c.out,by omega,by omega,rfl,I,c3.res2 (by omega) b0 _ _⟩)
theorem vQg (c:UInt8)(s:ByteArray)(w:World):(callFunc 207 #[.string s,.int .u8 c.toNat]).run Tryz.prog w=.ok (.value (.int .i64 (firstIdx s c))) w:=by
 rw[run_callFunc_indexByte Tryz.func207 (by kernel_rfl) (by kernel_rfl) (by kernel_rfl) (by kernel_rfl),run_indexByte_string];simp[Result.andThen]
theorem vQj (c:UInt8)(s:ByteArray)(w:World) :
  Calls Tryz.prog 164 #[.string s,.int .u8 c.toNat] w fun e a=>e=.returned (Iv (firstIdx s c))/\a=w:=by
 have b:=vQg;go_enter Tryz.func164,Tryz.ntmps164;go_wp2
 go_ret;exact⟨rfl,rfl⟩
abbrev P5 (sl:Value):Value:=.iface 184 (.agg #[sl])
abbrev bQb (sl:Value):Value:=.iface 187 (.agg #[sl])
abbrev T8 (v:Value)(m a:Bool):Value:=.iface 189 (.agg #[v,.bool m,.bool a])
structure Shows (w:World)(G:Nat->Prop)(sl:Value)(vs:List Value):Prop where
 own:w.ownsRow 0 89 1 sl vs.length vs
 inG:∀k,sl.ownBlock=some k->G k
structure RepC (w:World)(G:Nat->Prop)(P:Nat->Ls.D->List Value->Prop):Prop where
 place:∀{s:List UInt8} {lo hi:Nat},SB s lo hi->P 0 (Ls.place s) [K3 lo hi]
 rep:∀{t:Nat} {a:Ls.D} {v:Value},t=5\/t=6\/t=7->P 0 a [v]->P 0 (Ls.rep t a) [T8 v (t != 6) (t != 7)]
 row:∀{d:Ls.D} {sl:Value} {vs:List Value},Shows w G sl vs->P 1 d vs->P 0 d [P5 sl]
 choice:∀{d:Ls.D} {sl:Value} {vs:List Value},Shows w G sl vs->P 2 d vs->P 0 d [bQb sl]
 rnil:P 1 Ls.rnil []
 rcons:∀{a r:Ls.D} {v:Value} {vs:List Value},P 0 a [v]->P 1 r vs->P 1 (Ls.rcons a r) (v::vs)
 clast:∀{r:Ls.D} {v:Value},P 0 r [v]->P 2 (Ls.clast r) [v]
 ccons:∀{r c:Ls.D} {v:Value} {vs:List Value},P 0 r [v]->P 2 c vs->P 2 (Ls.ccons r c) (v::vs)
structure Rep (w:World)(G:Nat->Prop)(r:Nat)(d:Ls.D)(vs:List Value):Prop where
 all:∀P,RepC w G P->P r d vs
section
variable {w:World} {G:Nat->Prop}
theorem Rep.place {s:List UInt8}{lo a:Nat}(h:SB s lo a):Rep w G 0 (Ls.place s) [K3 lo a]:=⟨fun _ c=>c.place h⟩
theorem Rep.rep {t:Nat}{a:Ls.D}{v:Value}(b:t=5\/t=6\/t=7)(h:Rep w G 0 a [v]):Rep w G 0 (Ls.rep t a) [T8 v (t != 6) (t != 7)]:=⟨fun P c=>c.rep b (h.all P c)⟩
theorem Rep.row {d:Ls.D}{a:Value}{b:List Value}(hs:Shows w G a b)(h:Rep w G 1 d b):Rep w G 0 d [P5 a]:=⟨fun P c=>c.row hs (h.all P c)⟩
theorem Rep.choice {d:Ls.D}{a:Value}{b:List Value}(hs:Shows w G a b)(h:Rep w G 2 d b):Rep w G 0 d [bQb a]:=⟨fun P c=>c.choice hs (h.all P c)⟩
theorem Rep.rnil:Rep w G 1 Ls.rnil []:=⟨fun _ c=>c.rnil⟩
theorem Rep.rcons {a r:Ls.D}{v:Value}{b:List Value}(d:Rep w G 0 a [v])(e:Rep w G 1 r b):Rep w G 1 (Ls.rcons a r) (v::b):=⟨fun P c=>c.rcons (d.all P c) (e.all P c)⟩
theorem Rep.clast {r:Ls.D}{v:Value}(h:Rep w G 0 r [v]):Rep w G 2 (Ls.clast r) [v]:=⟨fun P c=>c.clast (h.all P c)⟩
theorem Rep.ccons {r d:Ls.D}{v:Value}{a:List Value}(b:Rep w G 0 r [v])(e:Rep w G 2 d a):Rep w G 2 (Ls.ccons r d) (v::a):=⟨fun P c=>c.ccons (b.all P c) (e.all P c)⟩
theorem Rep.ind {motive:(r:Nat)->(d:Ls.D)->(vs:List Value)->Rep w G r d vs->Prop}
  (place:∀{s:List UInt8} {lo hi:Nat} (h:SB s lo hi),motive 0 (Ls.place s) [K3 lo hi] (.place h))
  (rep:∀{t:Nat} {a:Ls.D} {v:Value} (ht:t=5\/t=6\/t=7) (h:Rep w G 0 a [v]),motive 0 a [v] h->motive 0 (Ls.rep t a) [T8 v (t != 6) (t != 7)] (.rep ht h))
  (row:∀{d:Ls.D} {sl:Value} {vs:List Value} (hs:Shows w G sl vs) (h:Rep w G 1 d vs),motive 1 d vs h->motive 0 d [P5 sl] (.row hs h))
  (choice:∀{d:Ls.D} {sl:Value} {vs:List Value} (hs:Shows w G sl vs) (h:Rep w G 2 d vs),motive 2 d vs h->motive 0 d [bQb sl] (.choice hs h))
  (rnil:motive 1 Ls.rnil [] .rnil)
  (rcons:∀{a r:Ls.D} {v:Value} {vs:List Value} (h1:Rep w G 0 a [v]) (h2:Rep w G 1 r vs),motive 0 a [v] h1->motive 1 r vs h2->motive 1 (Ls.rcons a r) (v::vs) (.rcons h1 h2))
  (clast:∀{r:Ls.D} {v:Value} (h:Rep w G 0 r [v]),motive 0 r [v] h->motive 2 (Ls.clast r) [v] (.clast h))
  (ccons:∀{r c:Ls.D} {v:Value} {vs:List Value} (h1:Rep w G 0 r [v]) (h2:Rep w G 2 c vs),motive 0 r [v] h1->motive 2 c vs h2->motive 2 (Ls.ccons r c) (v::vs) (.ccons h1 h2))
  {r:Nat} {d:Ls.D} {vs:List Value} (h:Rep w G r d vs):motive r d vs h:=
 (h.all (fun r d vs=>∃h:Rep w G r d vs,motive r d vs h)
  ⟨fun h=>⟨_,place h⟩,fun ht ⟨_,m⟩=>⟨_,rep ht _ m⟩,fun hs ⟨_,m⟩=>⟨_,row hs _ m⟩,fun hs ⟨_,m⟩=>⟨_,choice hs _ m⟩,⟨_,rnil⟩,
   fun ⟨_,m1⟩ ⟨_,m2⟩=>⟨_,rcons _ _ m1 m2⟩,fun ⟨_,m⟩=>⟨_,clast _ m⟩,fun ⟨_,m1⟩ ⟨_,m2⟩=>⟨_,ccons _ _ m1 m2⟩⟩).2
end
theorem Shows.mono {w w':World}{G G':Nat->Prop}(i:∀k,G k->G' k)(n:∀k,G k->w'.heap[k]?=w.heap[k]?){a:Value}{b:List Value}(h:Shows w G a b):Shows w' G' a b:=by
 refine⟨⟨h.own.1,?_⟩,fun k m=>i k (h.inG k m)⟩;rcases h.own.2 with e|⟨g,c,d,rfl,j,l,f⟩
 ·exact .inl e
 ·exact .inr ⟨g,c,d,rfl,j,by rw[n g (h.inG g rfl)];exact l,f⟩
theorem Rep.mono {w w':World}{G G':Nat->Prop}(e:∀k,G k->G' k)(f:∀k,G k->w'.heap[k]?=w.heap[k]?){r:Nat}{d:Ls.D}{g:List Value}(h:Rep w G r d g):Rep w' G' r d g:=by
 induction h using Rep.ind with
 | place h=>exact .place h
 | rep i _ a=>exact .rep i a
 | row hs _ a=>exact .row (hs.mono e f) a
 | choice hs _ a=>exact .choice (hs.mono e f) a
 | rnil=>exact .rnil
 | rcons _ _ b c=>exact .rcons b c
 | clast _ a=>exact .clast a
 | ccons _ _ b c=>exact .ccons b c
theorem Rep.at0 {w:World}{G:Nat->Prop}{d:Ls.D}{v:Value}(h:Rep w G 0 d [v]) :
  (∃s lo g,SB s lo g/\d=Ls.place s/\v=K3 lo g)\/(∃t a i,(t=5\/t=6\/t=7)/\Rep w G 0 a [i]/\d=Ls.rep t a/\v=T8 i (t != 6) (t != 7))\/
  (∃e c,Shows w G e c/\Rep w G 1 d c/\v=P5 e)\/(∃e c,Shows w G e c/\Rep w G 2 d c/\v=bQb e):=by
 generalize f:0=r,b:[v]=c at h;induction h using Rep.ind with
 | place h=>injection b with b;exact .inl ⟨_,_,_,h,rfl,b⟩
 | rep j h=>injection b with b;exact .inr (.inl ⟨_,_,_,j,h,rfl,b⟩)
 | row hs h=>injection b with b;exact .inr (.inr (.inl ⟨_,_,hs,h,b⟩))
 | choice hs h=>injection b with b;exact .inr (.inr (.inr ⟨_,_,hs,h,b⟩))
 | rnil=>cases f
 | rcons=>cases f
 | clast=>cases f
 | ccons=>cases f
def RPost (w:World)(rb:Nat)(s:ByteArray)(i z:Nat)(a1:Addr)(res:Ls.Rd):Ending->World->Prop:=fun e w'=>
 (∃d j v,res=some (d,rest s j)/\i<=j/\j<=s.size/\e=.returned v/\Rep w' (B8 w w') 0 d [v]/\RLeft w rb s j z w')\/
 (res=.none/\K6 w rb a1 e w')
def U8 (w:World)(rb:Nat):Nat:=(intOf ((w.cell? ⟨rb,1,none⟩).getD (.int .i64 0))).toNat
theorem aQs {w:World}{b:Nat}{s:ByteArray}{a z:Nat}(h:RB w b s a z):U8 w b=a:=by
 unfold U8;rw[h.c1];simp[intOf]
def bQc (n:Nat)(acc r:List UInt8):Option (List UInt8 × List UInt8):=if r.head?=some 93 then some (acc,r.tail) else Ls.cls n acc r
theorem jQx {n:Nat}{c r:List UInt8}{a b:UInt8}{t:List UInt8}(h:Ls.gXc r=some (a,b,t)):Ls.cls (n+1) c r=bQc n (Ls.rng c a b) t:=by
 rw[Ls.cls,h];rfl
theorem jQw {n:Nat}{a r:List UInt8}(h:Ls.gXc r=.none):Ls.cls n a r=.none:=by
 cases n with
 | zero=>rfl
 | succ n=>rw[Ls.cls,h]
def pQa (w:World)(rb:Nat)(s:ByteArray)(i z:Nat)(a1:Addr):Ending->World->Prop:=fun e w'=>
 (∃g j lo hi,Ls.cls ((rest s i).length+1) [] (rest s i)=some (g,rest s j)/\i<=j/\j<=s.size/\e=.returned (K3 lo hi)/\SB g lo hi/\RLeft w rb s j z w')\/
 (Ls.cls ((rest s i).length+1) [] (rest s i)=.none/\K6 w rb a1 e w')
theorem aXz (a:Nat)(s:ByteArray)(i z:Nat)(t:Addr)(w:World)(h:RB w a s i z)(I:Env w a t)(hs:s.size<=1048576)(a9:i<=s.size) :
  Calls Tryz.prog 161 #[D3 a] w (pQa w a s i z t):=by
 have P:=h.lt;have C:w.heap.size≠a:=by omega
 have K:=A5 w (.cells #[Pt a] 177);have y:Hid (RLeft w a s i z (w.alloc (.cells #[Pt a] 177))):=RLeft.of_below h K;have X:Hid (Bx 177 (w.alloc (.cells #[Pt a] 177)) w.heap.size a):=Bx.new w 177 a;have H:=jQt a s i z t [] 0 0 _ y.out.lies (I.below K) hs a9 SB.empty;go_enter Tryz.func161,Tryz.ntmps161;go_wp2_with fail;refine H.mono ?_;rintro e d (⟨a2,a3,j,lo,u,v,hj,b0,rfl,a6,A⟩|⟨v,rfl,hg⟩)
 ·have G:Hid (Ls.cls ((rest s i).length+1) [] (rest s i)=bQc (rest s i).length (Ls.rng [] a2 a3) (rest s j)):=jQx v
  have hl:=y.out.trans A;have b5:=X.out.grown A.grown C;clear v H;have b7:=A.grown.size;simp at b7;go_wp2_with fail;go_loopw [] (fun wr=>∃(k n:Nat) (c:List UInt8) (lo u:Nat),SB c lo u/\i<k/\k<=s.size/\(rest s k).length<n+1/\Ls.cls ((rest s i).length+1) [] (rest s i)=bQc n c (rest s k)/\RLeft w a s k z wr/\Bx 177 wr w.heap.size a/\wr.heap[d.heap.size]?=some (.cells #[.int .u64 lo,.int .u64 u] 157 (0,0))) (fun wr=>s.size+1-U8 wr a)
  case atStart=>
   refine⟨j,(rest s i).length,_,lo,u,a6,b0,hj,?_,G.out,hl.below (A5 _ _),b5.below (A5 _ _),heap_alloc_new _ _⟩;rw[F4,F4];omega
  case round=>
   obtain⟨k,n,c,r,o,J,c2,b2,hn,L,g,Q,S⟩:=hrel;have E:Hid (Ls.cls ((rest s i).length+1) [] (rest s i)=bQc n c (rest s k)):=L;clear L G;have a5:=I.grown g.grown;have Hx:Hid (wr.heap[d.heap.size]?=some (.cells #[.int .u64 r,.int .u64 o] 157 (0,0))):=S;clear S;have b3:U8 wr a=k:=aQs g.lies;have U:=Q.cell;go_wp2_with fail;refine(nQk a s k z 93 _ g.lies hs (by omega)).mono ?_;rintro e w3 ⟨rfl,b⟩;clear U;have R:=Q.grown b.grown C;have U:=R.cell;have O:some d.heap.size≠some a:=by simp;omega
   have l:=Hx.out;rw[<-b.grown.block _ (Array.getElem?_eq_some_iff.1 l).1 O]at l;obtain⟨c0,c1,f0,f1⟩:=aQi l;have b8:=(Array.getElem?_eq_some_iff.1 l).1;have a0:Hid (w3.heap[d.heap.size]?=some (.cells #[.int .u64 r,.int .u64 o] 157 (0,0))):=l;clear l;cases f:A7 s k 93 with
   | true=>
    rw[f]at b;simp only[if_true]at b;have c3:=(D9 f).1;have m:Hid (Ls.cls ((rest s i).length+1) [] (rest s i)=some (c,rest s (k+1))):=by
     show _=_;rw[E.out,bQc,if_pos (C4.2 f),E7]
    clear f;go_wp2_with fail;go_ret;exact .inl ⟨c,k+1,r,o,m.out,by omega,by omega,rfl,J,g.trans b⟩
   | false=>
    rw[f]at b;simp only[Bool.false_eq_true,if_false]at b;have F:Hid (Ls.cls ((rest s i).length+1) [] (rest s i)=Ls.cls n c (rest s k)):=by
     show _=_;rw[E.out,bQc,if_neg (by rw[C4,f];simp)]
    clear f;go_wp2_with fail;refine(jQt a s k z t c r o _ b.lies (a5.grown b.grown) hs b2 J).mono ?_;rintro e W (⟨a4,b4,T,V,M,p,b1,b9,rfl,a7,B⟩|⟨p,rfl,a8⟩)
    ·obtain⟨x,rfl⟩:∃x,n=x+1:=by
      cases n with
      | zero=>
       have:=Ls.iX9 p;omega
      | succ n=>exact⟨n,rfl⟩
     have Z:Hid (Ls.cls ((rest s i).length+1) [] (rest s i)=bQc x (Ls.rng c a4 b4) (rest s T)):=by
      show _=_;rw[F.out,jQx p]
     clear p;have b6:=R.grown B.grown C;have q:=a0.out;rw[<-B.grown.block _ b8 O]at q;obtain⟨c0,c1,f0,f1⟩:=aQi q;have c4:=(Array.getElem?_eq_some_iff.1 q).1;have a1:Hid (W.heap[d.heap.size]?=some (.cells #[.int .u64 r,.int .u64 o] 157 (0,0))):=q;clear q;have N:=g.trans (b.trans B);have Y:Hid (Bx 177 ((W.setCell ⟨d.heap.size,0,none⟩ (.int .u64 V)).setCell ⟨d.heap.size,1,none⟩ (.int .u64 M)) w.heap.size a):=⟨by
      rw[Below.heap_setCell _ _ _ _ (by show w.heap.size≠d.heap.size;omega),Below.heap_setCell _ _ _ _ (by show w.heap.size≠d.heap.size;omega)];exact b6.lies⟩
     go_wp2_with fail;go_roundw
     case rel=>
      refine⟨T,x,_,V,M,a7,by omega,b1,?_,Z.out,N.res2 (by omega) P _ _,Y.out,?_⟩
      ·rw[F4]at hn ⊢;omega
      ·have:=a1.out
       simp[World.setCell,Array.getElem?_modify,this]
     case measure=>
      rw[b3,aQs (N.res2 (by omega) P _ _).lies];omega
    ·have m:Hid (Ls.cls ((rest s i).length+1) [] (rest s i)=.none):=by
      show _=_;rw[F.out,jQw p]
     go_wp2_with fail;exact⟨rfl,.inr ⟨m.out,rfl,J8 (J8 g.grown b.grown) a8⟩⟩
 ·have m:Hid (Ls.cls ((rest s i).length+1) [] (rest s i)=.none):=jQw v
  go_wp2_with fail;exact⟨rfl,.inr ⟨m.out,rfl,J8 y.out.grown hg⟩⟩
end Go.Proofs.YtfklinjaajafgaaGreatDoor
