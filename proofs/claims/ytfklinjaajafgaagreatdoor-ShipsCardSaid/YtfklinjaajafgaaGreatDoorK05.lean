import Derived.Test.YtfklinjaajafgaaGreatDoorK04
set_option maxRecDepth 100000
set_option maxHeartbeats 4000000
namespace Go.Proofs.YtfklinjaajafgaaGreatDoor
open Go.RowKit
theorem dQ5 (c:UInt8)(w:World) :
  Calls Tryz.prog 184 #[.int .u8 c.toNat] w fun e w'=>e=.returned (.bool (Ls.fXi c))/\w'=w:=by
 go_enter Tryz.func184,Tryz.ntmps184;go_wp2
 all_goals
  go_ret;refine⟨Q0 ?_,rfl⟩;rw[Bool.eq_iff_iff];simp[Ls.fXi];omega
theorem jQ0 (c:UInt8)(w:World) :
  Calls Tryz.prog 201 #[.int .u8 c.toNat] w fun e w'=>e=.returned (.bool (decide (97<=c.toNat/\c.toNat<=122)))/\w'=w:=by
 go_enter Tryz.func201,Tryz.ntmps201;go_wp2
 all_goals
  go_ret;refine⟨Q0 ?_,rfl⟩;rw[Bool.eq_iff_iff];simp;omega
theorem jQx (c:UInt8)(w:World) :
  Calls Tryz.prog 213 #[.int .u8 c.toNat] w fun e w'=>e=.returned (.bool (Ls.gX7 c))/\w'=w:=by
 have hS:=jQ0 c w;cases hb:decide (97<=c.toNat/\c.toNat<=122) with
 | true=>
  rw[hb]at hS;have HM:Hid (Ls.gX7 c=true):=by show _=_;simp at hb;simp[Ls.gX7];omega
  clear hb;go_enter Tryz.func213,Tryz.ntmps213;go_wp2_with fail;refine hS.mono ?_;rintro e w1 ⟨rfl,rfl⟩;go_wp2_with fail;go_ret;exact⟨by rw[HM.out];rfl,rfl⟩
 | false=>
  rw[hb]at hS;have HM:Hid (¬(97<=c.toNat/\c.toNat<=122)):=of_decide_eq_false hb;clear hb;go_enter Tryz.func213,Tryz.ntmps213;go_wp2_with fail;refine hS.mono ?_;rintro e w1 ⟨rfl,rfl⟩;go_wp2_with fail
  all_goals
   go_ret;refine⟨Q0 ?_,rfl⟩;have:=HM.out;rw[Bool.eq_iff_iff];simp[Ls.gX7];omega
abbrev D2 (rb:Nat):Value:=.agg #[.pointer (some ⟨rb,0,none⟩)]
theorem kQm (rb:Nat)(s:ByteArray)(i z:Nat)(w:World)(h:RB w rb s i z)(hs:s.size<=1048576)(hm:Ls.gX7 (nx s i)=true) :
  Calls Tryz.prog 206 #[D2 rb] w fun e w'=>e=.returned (.int .u8 (nx s i).toNat)/\RLeft w rb s (i+1) z w':=by
 have hi:=Z2 hm;have HM:=fun W=>jQx (nx s i) W;rw[hm]at HM;clear hm;have HM':Hid _:=HM;clear HM;have hl0:=RLeft.of_below h (A5 w (.cells #[.pointer (some ⟨rb,0,none⟩)] 177));have HL0:Hid _:=hl0;clear hl0;go_enter Tryz.func206,Tryz.ntmps206;go_wp2_with fail;refine(N0 rb s i z _ HL0.out.lies hs hi).mono ?_;rintro e w1 ⟨rfl,hl⟩;go_wp2_with fail;refine(HM'.out _).mono ?_;rintro e w2 ⟨rfl,rfl⟩;go_wp2_with fail;go_ret;exact⟨rfl,HL0.out.trans hl⟩
theorem kQl (rb:Nat)(s:ByteArray)(i z:Nat)(a1:Addr)(w:World)(h:RB w rb s i z)(hE:Env w rb a1)(hs:s.size<=1048576)(hi2:i<=1048577)(hm:Ls.gX7 (nx s i)=false) :
  Calls Tryz.prog 206 #[D2 rb] w (J7 w rb a1):=by
 have HM:=fun W=>jQx (nx s i) W;rw[hm]at HM;clear hm;have HM':Hid _:=HM;clear HM;have hrl:=h.lt;have hb0:=A5 w (.cells #[.pointer (some ⟨rb,0,none⟩)] 177);have HL0:Hid _:=RLeft.of_below h hb0;have HE0:Hid _:=hE.below hb0;have hx0:=Bx.new w 177 rb;have HX0:Hid _:=hx0;clear hb0 hx0;rcases Nat.lt_or_ge i s.size with hi|hi
 ·go_enter Tryz.func206,Tryz.ntmps206
  go_wp2_with fail;refine(N0 rb s i z _ HL0.out.lies hs hi).mono ?_;rintro e w1 ⟨rfl,hl⟩;have b1:=(HX0.out.grown hl.grown (by omega)).cell;go_wp2_with fail;refine(HM'.out _).mono ?_;rintro e w2 ⟨rfl,rfl⟩;go_wp2_with fail;refine(T8 _ a1 _ (HE0.out.grown hl.grown).sc).mono ?_;rintro e w3 ⟨rfl,rfl⟩;go_wp2_with fail;exact⟨rfl,rfl,(HL0.out.trans hl).grown⟩
 ·go_enter Tryz.func206,Tryz.ntmps206
  go_wp2_with fail;refine(cQx rb s i z a1 _ HL0.out.lies HE0.out hs hi hi2).mono ?_;rintro e w1 ⟨rfl,hg⟩;go_wp2_with fail;exact⟨rfl,rfl,I7 HL0.out.grown hg⟩
def F9 (lo hi c:Nat):Bool:=if c<64 then lo.testBit c else hi.testBit (c-64)
theorem kQ2 (x k:Nat)(hx:x<18446744073709551616)(hk:k<64):bits .or .u64 (x:Int) (IntKind.u64.wrap (2 ^ k))=((x ||| 2 ^ k:Nat):Int):=by
 have h2:(2:Nat) ^ k<18446744073709551616:=by
  have:=Nat.pow_lt_pow_right (a:=2) (by omega) hk;simpa using this
 have h3:IntKind.u64.wrap (2 ^ k)=((2 ^ k:Nat):Int):=by
  rw[IntKind.wrap_u64,show ((2:Int) ^ k)=((2 ^ k:Nat):Int) from by simp];generalize 2 ^ k=y at *;omega
 rw[h3,u64_or_nat x (2 ^ k) hx h2]
theorem kQ3 (x k:Nat)(hx:x<18446744073709551616)(hk:k<64):x ||| 2 ^ k<18446744073709551616:=by
 have h2:(2:Nat) ^ k<2 ^ 64:=Nat.pow_lt_pow_right (by omega) hk;have:=Nat.or_lt_two_pow (n:=64) (by simpa using hx) h2;simpa using this
theorem aX5 (lo hi k:Nat)(hk:k<64)(c:Nat):F9 (lo ||| 2 ^ k) hi c=(F9 lo hi c||c==k):=by
 unfold F9;split
 ·rw[Nat.testBit_or,Nat.testBit_two_pow]
  by_cases h:k=c
  ·simp[h]
  ·simp[h,Ne.symm h]
 ·have:(c==k)=false:=by simp;omega
  simp[this]
theorem aX4 (lo hi k:Nat)(hk:64<=k)(c:Nat):F9 lo (hi ||| 2 ^ (k-64)) c=(F9 lo hi c||c==k):=by
 unfold F9;split
 ·have:(c==k)=false:=by simp;omega
  simp[this]
 ·rw[Nat.testBit_or,Nat.testBit_two_pow]
  by_cases h:k=c
  ·simp[h]
  ·have h2:¬k-64=c-64:=by omega
   simp[h2,Ne.symm h]
theorem j8 {w:World}{g lo hi:Nat}{t:TypeId}(h:w.heap[g]?=some (.cells #[.int .u64 lo,.int .u64 hi] t (0,0))):w.cell? ⟨g,0,none⟩=some (.int .u64 lo)/\w.cell? ⟨g,1,none⟩=some (.int .u64 hi)/\w.frozen? ⟨g,0,none⟩=false/\w.frozen? ⟨g,1,none⟩=false:=by
 refine⟨?_,?_,?_,?_⟩
 ·simp[World.cell?,h]
 ·simp[World.cell?,h]
 ·simp[World.frozen?,h]
 ·simp[World.frozen?,h]
def oQ3 (lo hi:Nat)(a b:UInt8)(w:World):Ending->World->Prop:=fun e w'=>
 ∃lo' hi':Nat,e=.returned (.agg #[.int .u64 lo',.int .u64 hi'])/\lo'<18446744073709551616/\hi'<18446744073709551616/\(∀c,F9 lo' hi' c=(F9 lo hi c||decide (a.toNat<=c/\c<=b.toNat)))/\Below w.heap.size w w'
theorem eQ8 (lo hi:Nat)(a b:UInt8)(w:World)(hab:a.toNat<=b.toNat)(hb:b.toNat<=126)(hlo:lo<18446744073709551616)(hhi:hi<18446744073709551616) :
  Calls Tryz.prog 162 #[.agg #[.int .u64 lo,.int .u64 hi],.int .u8 a.toNat,.int .u8 b.toNat] w (oQ3 lo hi a b w):=by
 go_enter Tryz.func162,Tryz.ntmps162;go_wp2_with fail;go_loopw [7] (fun c wr=>∃(k lo' hi':Nat),c=.int .u8 k/\a.toNat<=k/\k<=b.toNat+1/\Below w.heap.size w wr/\lo'<18446744073709551616/\hi'<18446744073709551616/\wr.heap[w.heap.size]?=some (.cells #[.int .u64 lo',.int .u64 hi'] 157 (0,0))/\wr.heap[w.heap.size+1]?=some (.cells #[.int .u64 (0:Nat),.int .u64 (0:Nat)] 157 (0,0))/\∀c,F9 lo' hi' c=(F9 lo hi c||decide (a.toNat<=c/\c<k))) (fun c _=>128-(intOf c).toNat)
 case atStart=>
  refine⟨a.toNat,lo,hi,rfl,Nat.le_refl _,by omega,C6 _ _ _,hlo,hhi,?_,?_,fun c=>?_⟩
  ·rw[Below.heap_alloc _ _ _ (by simp)];exact heap_alloc_new _ _
  ·have:=heap_alloc_new (w.alloc (.cells #[.int .u64 lo,.int .u64 hi] 157)) (.cells #[.int .u64 (0:Nat),.int .u64 (0:Nat)] 157)
   simpa using this
  ·have:¬(a.toNat<=c/\c<a.toNat):=by omega
   simp[this]
 case round=>
  obtain⟨k,lo',hi',rfl,hak,hk,hbw,hl1,hl2,hcell,hres,hbit⟩:=hrel;have Hbit:Hid (∀c,F9 lo' hi' c=(F9 lo hi c||decide (a.toNat<=c/\c<k))):=hbit;obtain⟨c0,c1,f0,f1⟩:=j8 hcell;obtain⟨r0,r1,s0,s1⟩:=j8 hres;have Hc:Hid _:=hcell;have Hr:Hid _:=hres;clear hcell hres hbit;have hstep:∀c,(F9 lo hi c||decide (a.toNat<=c/\c<k)||c==k)=(F9 lo hi c||decide (a.toNat<=c/\c<k+1)):=fun c=>by
   by_cases h:c=k
   ·subst h;simp[hak]
   ·have h1:(c==k)=false:=by simp[h]
    have h2:decide (a.toNat<=c/\c<k+1)=decide (a.toNat<=c/\c<k):=by
     rw[decide_eq_decide];omega
    rw[h1,h2];simp
  have Hstep:Hid _:=hstep;clear hstep
  by_cases hle:k<=b.toNat
  ·by_cases h64:k<64
   ·have hq:(k:Int) / 64=0:=by omega
    have hr:(k:Int) % 64=k:=by omega
    have HO:Hid _:=kQ2 lo' k hl1 h64;go_wp2_with fail;go_roundw
    case rel=>
     rw[HO.out];refine⟨k+1,lo' ||| 2 ^ k,hi',by go_num,by omega,by omega,hbw.setCell (Nat.le_refl _) _,kQ3 _ _ hl1 h64,hl2,?_,?_,fun c=>?_⟩
     ·have:=Hc.out;simp[World.setCell,Array.getElem?_modify,this]
     ·rw[Below.heap_setCell _ _ _ _ (by show _≠_;simp)];exact Hr.out
     ·rw[aX5 _ _ _ h64,Hbit.out c,Hstep.out c]
    case measure=>simp[intOf];omega
   ·have hq:(k:Int) / 64=1:=by omega
    have hr:(k:Int) % 64=((k-64:Nat):Int):=by omega
    have HO:Hid _:=kQ2 hi' (k-64) hl2 (by omega);go_wp2_with fail;go_roundw
    case rel=>
     rw[HO.out];refine⟨k+1,lo',hi' ||| 2 ^ (k-64),by go_num,by omega,by omega,hbw.setCell (Nat.le_refl _) _,hl1,kQ3 _ _ hl2 (by omega),?_,?_,fun c=>?_⟩
     ·have:=Hc.out;simp[World.setCell,Array.getElem?_modify,this]
     ·rw[Below.heap_setCell _ _ _ _ (by show _≠_;simp)];exact Hr.out
     ·rw[aX4 _ _ _ (by omega),Hbit.out c,Hstep.out c]
    case measure=>simp[intOf];omega
  ·have hk1:k=b.toNat+1:=by omega
   go_wp2_with fail;refine bodyPost_ret (v:=.agg #[.int .u64 lo',.int .u64 hi']) (by simp[results,Tryz.results162,go_sem,r0,r1]) rfl ⟨lo',hi',rfl,hl1,hl2,fun c=>?_,?_⟩
   ·rw[Hbit.out c,hk1]
    congr 1
    rw[decide_eq_decide];omega
   ·exact(hbw.setCell (p:=⟨w.heap.size+1,0,none⟩) (by show _<=w.heap.size+1;omega) _).setCell (p:=⟨w.heap.size+1,1,none⟩) (by show _<=w.heap.size+1;omega) _
structure SB (g:List UInt8)(lo hi:Nat):Prop where
 loLt:lo<18446744073709551616
 hiLt:hi<18446744073709551616
 bit:∀c:UInt8,c.toNat<128->F9 lo hi c.toNat=Ls.has g c
 none:∀c:UInt8,128<=c.toNat->Ls.has g c=false
theorem jQq (g h:List UInt8)(c:UInt8):Ls.has (g++h) c=(Ls.has g c||Ls.has h c):=by simp[Ls.has]
theorem cQd (d c:UInt8):Ls.has [d] c=(d==c):=by simp[Ls.has]
theorem SB.empty:SB [] 0 0:=⟨by omega,by omega,fun c _=>by simp[F9,Ls.has],fun c _=>by simp[Ls.has]⟩
theorem dQ2 (acc:List UInt8)(a b c:UInt8):(n:Nat)->n<=128->Ls.has (Ls.fXc acc a b n) c=(Ls.has acc c||decide (a.toNat<=c.toNat/\c.toNat<=b.toNat/\c.toNat<n))
 | 0,_=>by simp[Ls.fXc]
 | n+1,hn=>by
  have ih:=dQ2 acc a b c n (by omega);have hof:(UInt8.ofNat n).toNat=n:=by simp;omega
  rw[bQx]
  by_cases hc:c.toNat=n
  ·have hcc:c=UInt8.ofNat n:=UInt8.toNat_inj.1 (by omega)
   split
   ·rename_i h
    rw[jQq,cQd,<-hcc];have h1:decide (a.toNat<=c.toNat/\c.toNat<=b.toNat/\c.toNat<n+1)=true:=by simp;omega
    rw[h1];simp
   ·rename_i h
    rw[ih]
    by_cases h1:a.toNat<=n/\n<=b.toNat
    ·have h2:Ls.has (Ls.fXc acc a b n) (UInt8.ofNat n)=true:=by
      cases h3:Ls.has (Ls.fXc acc a b n) (UInt8.ofNat n) with
      | true=>rfl
      | false=>exact absurd ⟨h1.1,h1.2,h3⟩ h
     rw[<-hcc,ih]at h2;have h4:decide (a.toNat<=c.toNat/\c.toNat<=b.toNat/\c.toNat<n)=false:=by simp;omega
     rw[h4]at h2 ⊢;simp at h2;simp[h2]
    ·congr 1
     rw[decide_eq_decide];omega
  ·have h5:decide (a.toNat<=c.toNat/\c.toNat<=b.toNat/\c.toNat<n+1)=decide (a.toNat<=c.toNat/\c.toNat<=b.toNat/\c.toNat<n):=by
    rw[decide_eq_decide];omega
   rw[h5];split
   ·rw[jQq,cQd,ih]
    have h6:(UInt8.ofNat n==c)=false:=by
     rw[beq_eq_false_iff_ne];rintro rfl;exact hc hof
    rw[h6];simp
   ·exact ih
theorem SB.with {g:List UInt8}{lo hi lo' hi':Nat}{a b:UInt8}(h:SB g lo hi)(hl:lo'<18446744073709551616)(hh:hi'<18446744073709551616)(_hb:b.toNat<=127)(hbit:∀c,F9 lo' hi' c=(F9 lo hi c||decide (a.toNat<=c/\c<=b.toNat))):SB (Ls.rng g a b) lo' hi':=by
 refine⟨hl,hh,fun c hc=>?_,fun c hc=>?_⟩
 ·rw[hbit,h.bit c hc]
  unfold Ls.rng;rw[dQ2 g a b c 128 (Nat.le_refl _)];congr 1
  rw[decide_eq_decide];omega
 ·unfold Ls.rng
  rw[dQ2 g a b c 128 (Nat.le_refl _),h.none c hc];have:decide (a.toNat<=c.toNat/\c.toNat<=b.toNat/\c.toNat<128)=false:=by simp;omega
  rw[this];rfl
theorem SB.congr {g g':List UInt8}{lo hi:Nat}(h:SB g lo hi)(he:∀c,Ls.has g' c=Ls.has g c):SB g' lo hi:=
 ⟨h.loLt,h.hiLt,fun c hc=>by rw[he];exact h.bit c hc,fun c hc=>by rw[he];exact h.none c hc⟩
theorem tQ7 (c d:UInt8)(h:c.toNat<128):Ls.has (Ls.rng [] c c) d=Ls.has [c] d:=by
 unfold Ls.rng;rw[dQ2 [] c c d 128 (Nat.le_refl _),cQd]
 by_cases e:c=d
 ·subst e;simp[Ls.has,h]
 ·have h1:(c==d)=false:=by simp[e]
  have h2:decide (c.toNat<=d.toNat/\d.toNat<=c.toNat/\d.toNat<128)=false:=by
   simp only[decide_eq_false_iff_not];intro h3;exact e (UInt8.toNat_inj.1 (by omega))
  rw[h1,h2];rfl
theorem tQ6 (d:UInt8):Ls.has (Ls.rng [] 97 122) d=Ls.has Ls.az d:=by
 have h1:Ls.rng [] 97 122=Ls.az:=by decide +kernel
 rw[h1]
abbrev J3 (lo hi:Nat):Value:=.iface 180 (.agg #[.int .u64 lo,.int .u64 hi])
theorem aX9 {c:UInt8}(h:Ls.fXi c=true):c.toNat<=126:=by simp[Ls.fXi]at h;omega
theorem kQ1 (c:UInt8)(w:World)(hbd:c.toNat<=126) :
  Calls Tryz.prog 185 #[.int .u8 c.toNat] w fun e w'=>(∃lo hi,e=.returned (J3 lo hi)/\SB [c] lo hi)/\Below w.heap.size w w':=by
 go_enter Tryz.func185,Tryz.ntmps185;go_wp2_with fail;refine(eQ8 0 0 c c _ (Nat.le_refl _) (by omega) (by omega) (by omega)).mono ?_;rintro e w2 ⟨lo,hi,rfl,h1,h2,h3,hb⟩;have hSB:SB [c] lo hi:=(SB.with SB.empty h1 h2 (by omega) h3).congr (fun d=>(tQ7 c d (by omega)).symm);clear h3;go_wp2_with fail;go_ret;exact⟨⟨lo,hi,rfl,hSB⟩,hb⟩
theorem lQ2 (rb:Nat)(c:UInt8)(w:World)(hsg:Ls.fXi c=true) :
  Calls Tryz.prog 163 #[D2 rb,.int .u8 c.toNat] w fun e w'=>(∃lo hi,e=.returned (J3 lo hi)/\SB [c] lo hi)/\Below w.heap.size w w':=by
 have hbd:=aX9 hsg;have HM:=fun W=>dQ5 c W;rw[hsg]at HM;have HM':Hid _:=HM;clear HM hsg;have HB:Hid _:=A5 w (.cells #[.pointer (some ⟨rb,0,none⟩)] 177);go_enter Tryz.func163,Tryz.ntmps163;go_wp2_with fail;refine(HM'.out _).mono ?_;rintro e w1 ⟨rfl,rfl⟩;go_wp2_with fail;refine(kQ1 c _ hbd).mono ?_;rintro e w2 ⟨⟨lo,hi,rfl,hSB⟩,hb⟩;go_wp2_with fail;go_ret;exact⟨⟨lo,hi,rfl,hSB⟩,Below.join HB.out hb⟩
theorem lQ1 (rb:Nat)(c:UInt8)(a1:Addr)(w:World)(hE:Env w rb a1)(hsg:Ls.fXi c=false) :
  Calls Tryz.prog 163 #[D2 rb,.int .u8 c.toNat] w (J7 w rb a1):=by
 have HM:=fun W=>dQ5 c W;rw[hsg]at HM;have HM':Hid _:=HM;clear HM hsg;have hb0:=A5 w (.cells #[.pointer (some ⟨rb,0,none⟩)] 177);have HE0:Hid _:=hE.below hb0;have HB:Hid _:=hb0;clear hb0;go_enter Tryz.func163,Tryz.ntmps163;go_wp2_with fail;refine(HM'.out _).mono ?_;rintro e w1 ⟨rfl,rfl⟩;go_wp2_with fail;refine(T8 _ a1 _ HE0.out.sc).mono ?_;rintro e w3 ⟨rfl,rfl⟩;go_wp2_with fail;exact⟨rfl,rfl,K3 HB.out _⟩
theorem RLeft.res2 {w W:World}{rb:Nat}{s:ByteArray}{a z:Nat}(h:RLeft w rb s a z W){g:Nat}(hg:w.heap.size<=g)(hp:rb<w.heap.size)(x y:Value):RLeft w rb s a z ((W.setCell ⟨g,0,none⟩ x).setCell ⟨g,1,none⟩ y):=by
 refine⟨?_,?_⟩
 ·have:=h.lies
  unfold RB at this ⊢;rw[Below.heap_setCell _ _ _ _ (by show rb≠g;omega),Below.heap_setCell _ _ _ _ (by show rb≠g;omega)];exact this
 ·refine⟨h.grown.os,h.grown.tape,h.grown.output,by simpa [World.setCell] using h.grown.size,fun k hk hr=>?_⟩
  rw[Below.heap_setCell _ _ _ _ (by show k≠g;omega),Below.heap_setCell _ _ _ _ (by show k≠g;omega)];exact h.grown.block k hk hr
def nQ3 (w:World)(rb:Nat)(s:ByteArray)(i z:Nat)(a1:Addr)(g:List UInt8):Ending->World->Prop:=fun e w'=>
 (∃a b j lo hi,Ls.eX1 (rest s i)=some (a,b,rest s j)/\j<=s.size/\i<j/\e=.returned (.agg #[.int .u64 (lo:Nat),.int .u64 (hi:Nat)])/\SB (Ls.rng g a b) lo hi/\RLeft w rb s j z w')\/
 (Ls.eX1 (rest s i)=.none/\J7 w rb a1 e w')
abbrev T5 (w:World)(rb lo hi:Nat):World:=((w.alloc (.cells #[.pointer (some ⟨rb,0,none⟩)] 177)).alloc (.cells #[.int .u64 lo,.int .u64 hi] 157)).alloc (.cells #[.int .u64 (0:Nat),.int .u64 (0:Nat)] 157)
theorem iQu (rb:Nat)(s:ByteArray)(i z:Nat)(a1:Addr)(g:List UInt8)(lo hi:Nat)(w:World)(h:RB w rb s i z)(hE:Env w rb a1)(hs:s.size<=1048576)(hi':i<=s.size)(hSB:SB g lo hi) :
  Calls Tryz.prog 183 #[D2 rb,.agg #[.int .u64 lo,.int .u64 hi]] w (nQ3 w rb s i z a1 g):=by
 have hrl:=h.lt;have hne:¬rb=w.heap.size:=by omega
 have hne2:¬w.heap.size=rb:=by omega
 have hne3:¬w.heap.size+1=rb:=by omega
 have hb0:=O5 w (.cells #[.pointer (some ⟨rb,0,none⟩)] 177) (.cells #[.int .u64 lo,.int .u64 hi] 157) (.cells #[.int .u64 (0:Nat),.int .u64 (0:Nat)] 157);have hl0:RLeft w rb s i z (T5 w rb lo hi):=RLeft.of_below h hb0;have hE0:Env (T5 w rb lo hi) rb a1:=hE.below hb0;have hv0:Bx 177 (T5 w rb lo hi) w.heap.size rb:=((Bx.new w 177 rb).below (A5 _ _)).below (A5 _ _);have hx0:(T5 w rb lo hi).heap[w.heap.size+1]?=some (.cells #[.int .u64 lo,.int .u64 hi] 157 (0,0)):=by
  rw[Below.heap_alloc _ _ _ (by simp)];have:=heap_alloc_new (w.alloc (.cells #[.pointer (some ⟨rb,0,none⟩)] 177)) (.cells #[.int .u64 lo,.int .u64 hi] 157);simpa using this
 have hy0:(T5 w rb lo hi).heap[w.heap.size+1+1]?=some (.cells #[.int .u64 (0:Nat),.int .u64 (0:Nat)] 157 (0,0)):=by
  have:=heap_alloc_new ((w.alloc (.cells #[.pointer (some ⟨rb,0,none⟩)] 177)).alloc (.cells #[.int .u64 lo,.int .u64 hi] 157)) (.cells #[.int .u64 (0:Nat),.int .u64 (0:Nat)] 157);rw[World.size_alloc,World.size_alloc]at this;exact this
 have hz0:(T5 w rb lo hi).heap.size=w.heap.size+1+1+1:=by simp
 have HL0:Hid (RLeft w rb s i z (T5 w rb lo hi)):=hl0;have HE0:Hid (Env (T5 w rb lo hi) rb a1):=hE0;have HV0:Hid (Bx 177 (T5 w rb lo hi) w.heap.size rb):=hv0;have Hx0:Hid ((T5 w rb lo hi).heap[w.heap.size+1]?=some (.cells #[.int .u64 lo,.int .u64 hi] 157 (0,0))):=hx0;have Hy0:Hid ((T5 w rb lo hi).heap[w.heap.size+1+1]?=some (.cells #[.int .u64 (0:Nat),.int .u64 (0:Nat)] 157 (0,0))):=hy0;clear hx0 hy0 hl0 hE0 hv0 hb0;cases hm:Ls.gX7 (nx s i) with
 | false=>
  have HR:Hid (Ls.eX1 (rest s i)=.none):=lQw hm;have hC:=kQl rb s i z a1 _ HL0.out.lies HE0.out hs (by omega) hm;clear hm;go_enter Tryz.func183,Tryz.ntmps183;go_wp2_with fail;refine hC.mono ?_;rintro e w1 ⟨rfl,hg⟩;go_wp2_with fail;exact⟨rfl,.inr ⟨HR.out,rfl,I7 HL0.out.grown hg⟩⟩
 | true=>
  have hi1:=Z2 hm;have Hm:Hid (Ls.gX7 (nx s i)=true):=hm;have hC:=kQm rb s i z _ HL0.out.lies hs hm;clear hm;go_enter Tryz.func183,Tryz.ntmps183;go_wp2_with fail;refine hC.mono ?_;rintro e w1 ⟨rfl,hl1⟩;clear hC;have hE1:=HE0.out.grown hl1.grown;have hv1:=HV0.out.grown hl1.grown hne2;have k1:=hv1.cell;have hC2:=mQk rb s (i+1) z 45 w1 hl1.lies hs (by omega);go_wp2_with fail;refine hC2.mono ?_;rintro e w2 ⟨rfl,hl2⟩;clear hC2 k1;have hE2:=hE1.grown hl2.grown;have hv2:=hv1.grown hl2.grown hne2;have k2:=hv2.cell;have hlw:=HL0.out.trans (hl1.trans hl2);have hx2:=Hx0.out;rw[<-(hl1.trans hl2).grown.block _ (by omega) (by simpa using hne3)]at hx2;have hy2:=Hy0.out;rw[<-(hl1.trans hl2).grown.block _ (by omega) (by simp;omega)]at hy2;have hz2:=(hl1.trans hl2).grown.size;rw[hz0]at hz2;have Hx2:Hid (w2.heap[w.heap.size+1]?=some (.cells #[.int .u64 lo,.int .u64 hi] 157 (0,0))):=hx2;have Hy2:Hid (w2.heap[w.heap.size+1+1]?=some (.cells #[.int .u64 (0:Nat),.int .u64 (0:Nat)] 157 (0,0))):=hy2;clear hx2 hy2;cases hse:A7 s (i+1) 45 with
  | false=>
   have HR:Hid (Ls.eX1 (rest s i)=some (nx s i,nx s i,rest s (i+1))):=lQx Hm.out hse;rw[hse]at hlw;simp only[Bool.false_eq_true,if_false]at hlw;obtain⟨c0,c1,f0,f1⟩:=j8 Hx2.out;have hmb:=Ls.jXd Hm.out;clear hse;go_wp2_with fail;refine(eQ8 lo hi (nx s i) (nx s i) _ (Nat.le_refl _) (by omega) hSB.loLt hSB.hiLt).mono ?_;rintro e w3 ⟨lo3,hi3,rfl,h1,h2,h3,hb3⟩;have hSB3:=SB.with hSB h1 h2 (by omega) h3;clear h3;have hl3:=hlw.below hb3;have hz3:=hb3.size;have hy3:=Hy2.out;rw[<-hb3.block _ (by omega)]at hy3;obtain⟨r0,r1,s0,s1⟩:=j8 hy3;clear hy3 c0 c1 f0 f1;go_wp2_with fail;refine bodyPost_ret (v:=.agg #[.int .u64 lo3,.int .u64 hi3]) (by simp[results,Tryz.results183,go_sem,r0,r1]) rfl (.inl ⟨nx s i,nx s i,i+1,lo3,hi3,HR.out,by omega,by omega,rfl,hSB3,hl3.res2 (by omega) hrl _ _⟩)
  | true=>
   have hse':=hse;rw[hse]at hlw hl2;simp only[if_true]at hlw hl2;have hi2:=(D6 hse').1;have Hse:Hid (A7 s (i+1) 45=true):=hse';clear hse hse';cases hm2:Ls.gX7 (nx s (i+1+1)) with
   | false=>
    have HR:Hid (Ls.eX1 (rest s i)=.none):=hQc Hm.out Hse.out (.inl hm2);have hC3:=kQl rb s (i+1+1) z a1 _ hlw.lies hE2 hs (by omega) hm2;clear hm2;go_wp2_with fail;refine hC3.mono ?_;rintro e w3 ⟨rfl,hg⟩;go_wp2_with fail;exact⟨rfl,.inr ⟨HR.out,rfl,I7 hlw.grown hg⟩⟩
   | true=>
    have hi3:=Z2 hm2;have Hm2:Hid (Ls.gX7 (nx s (i+1+1))=true):=hm2;have hC3:=kQm rb s (i+1+1) z _ hlw.lies hs hm2;clear hm2;go_wp2_with fail;refine hC3.mono ?_;rintro e w3 ⟨rfl,hl3⟩;clear hC3 k2;have hlw3:=hlw.trans hl3;have hE3:=hE2.grown hl3.grown;have hv3:=hv2.grown hl3.grown hne2;have k3:=hv3.cell;have hz3:=hl3.grown.size;have hx3:=Hx2.out;rw[<-hl3.grown.block _ (by omega) (by simpa using hne3)]at hx3;have hy3:=Hy2.out;rw[<-hl3.grown.block _ (by omega) (by simp;omega)]at hy3;have Hx3:Hid (w3.heap[w.heap.size+1]?=some (.cells #[.int .u64 lo,.int .u64 hi] 157 (0,0))):=hx3;have Hy3:Hid (w3.heap[w.heap.size+1+1]?=some (.cells #[.int .u64 (0:Nat),.int .u64 (0:Nat)] 157 (0,0))):=hy3;clear hx3 hy3
    by_cases hgt:(nx s (i+1+1)).toNat<(nx s i).toNat
    ·have HR:Hid (Ls.eX1 (rest s i)=.none):=hQc Hm.out Hse.out (.inr hgt)
     go_wp2_with fail;refine(T8 _ a1 _ hE3.sc).mono ?_;rintro e w4 ⟨rfl,rfl⟩;go_wp2_with fail;exact⟨rfl,.inr ⟨HR.out,rfl,hlw3.grown⟩⟩
    ·have HR:Hid (Ls.eX1 (rest s i)=some (nx s i,nx s (i+1+1),rest s (i+1+1+1))):=lQy Hm.out Hse.out Hm2.out hgt
     obtain⟨c0,c1,f0,f1⟩:=j8 Hx3.out;have hmb:=Ls.jXd Hm2.out;go_wp2_with fail;refine(eQ8 lo hi (nx s i) (nx s (i+1+1)) _ (by omega) (by omega) hSB.loLt hSB.hiLt).mono ?_;rintro e w4 ⟨lo3,hi3',rfl,h1,h2,h3,hb4⟩;have hSB3:=SB.with hSB h1 h2 (by omega) h3;clear h3;have hl4:=hlw3.below hb4;have hz4:=hb4.size;have hy4:=Hy3.out;rw[<-hb4.block _ (by omega)]at hy4;obtain⟨r0,r1,s0,s1⟩:=j8 hy4;clear hy4 c0 c1 f0 f1;go_wp2_with fail;refine bodyPost_ret (v:=.agg #[.int .u64 lo3,.int .u64 hi3']) (by simp[results,Tryz.results183,go_sem,r0,r1]) rfl (.inl ⟨nx s i,nx s (i+1+1),i+1+1+1,lo3,hi3',HR.out,by omega,by omega,rfl,hSB3,hl4.res2 (by omega) hrl _ _⟩)
theorem tQ9 (c:UInt8)(s:ByteArray)(w:World):(callFunc 207 #[.string s,.int .u8 c.toNat]).run Tryz.prog w=.ok (.value (.int .i64 (firstIdx s c))) w:=by
 rw[run_callFunc_indexByte Tryz.func207 (by kernel_rfl) (by kernel_rfl) (by kernel_rfl) (by kernel_rfl),run_indexByte_string];simp[Result.andThen]
theorem uQc (c:UInt8)(s:ByteArray)(w:World) :
  Calls Tryz.prog 164 #[.string s,.int .u8 c.toNat] w fun e w'=>e=.returned (.int .i64 (firstIdx s c))/\w'=w:=by
 have hx:=tQ9;go_enter Tryz.func164,Tryz.ntmps164;go_wp2
 go_ret;exact⟨rfl,rfl⟩
abbrev N9 (sl:Value):Value:=.iface 184 (.agg #[sl])
abbrev aQu (sl:Value):Value:=.iface 187 (.agg #[sl])
abbrev S2 (v:Value)(m a:Bool):Value:=.iface 189 (.agg #[v,.bool m,.bool a])
structure Shows (w:World)(G:Nat->Prop)(sl:Value)(vs:List Value):Prop where
 own:w.ownsRow 0 89 1 sl vs.length vs
 inG:∀k,sl.ownBlock=some k->G k
structure RepC (w:World)(G:Nat->Prop)(P:Nat->Ls.D->List Value->Prop):Prop where
 place:∀{s:List UInt8} {lo hi:Nat},SB s lo hi->P 0 (Ls.place s) [J3 lo hi]
 rep:∀{t:Nat} {a:Ls.D} {v:Value},t=5\/t=6\/t=7->P 0 a [v]->P 0 (Ls.rep t a) [S2 v (t != 6) (t != 7)]
 row:∀{d:Ls.D} {sl:Value} {vs:List Value},Shows w G sl vs->P 1 d vs->P 0 d [N9 sl]
 choice:∀{d:Ls.D} {sl:Value} {vs:List Value},Shows w G sl vs->P 2 d vs->P 0 d [aQu sl]
 rnil:P 1 Ls.rnil []
 rcons:∀{a r:Ls.D} {v:Value} {vs:List Value},P 0 a [v]->P 1 r vs->P 1 (Ls.rcons a r) (v::vs)
 clast:∀{r:Ls.D} {v:Value},P 0 r [v]->P 2 (Ls.clast r) [v]
 ccons:∀{r c:Ls.D} {v:Value} {vs:List Value},P 0 r [v]->P 2 c vs->P 2 (Ls.ccons r c) (v::vs)
structure Rep (w:World)(G:Nat->Prop)(r:Nat)(d:Ls.D)(vs:List Value):Prop where
 all:∀P,RepC w G P->P r d vs
section
variable {w:World} {G:Nat->Prop}
theorem Rep.place {s:List UInt8}{lo hi:Nat}(h:SB s lo hi):Rep w G 0 (Ls.place s) [J3 lo hi]:=⟨fun _ c=>c.place h⟩
theorem Rep.rep {t:Nat}{a:Ls.D}{v:Value}(ht:t=5\/t=6\/t=7)(h:Rep w G 0 a [v]):Rep w G 0 (Ls.rep t a) [S2 v (t != 6) (t != 7)]:=⟨fun P c=>c.rep ht (h.all P c)⟩
theorem Rep.row {d:Ls.D}{sl:Value}{vs:List Value}(hs:Shows w G sl vs)(h:Rep w G 1 d vs):Rep w G 0 d [N9 sl]:=⟨fun P c=>c.row hs (h.all P c)⟩
theorem Rep.choice {d:Ls.D}{sl:Value}{vs:List Value}(hs:Shows w G sl vs)(h:Rep w G 2 d vs):Rep w G 0 d [aQu sl]:=⟨fun P c=>c.choice hs (h.all P c)⟩
theorem Rep.rnil:Rep w G 1 Ls.rnil []:=⟨fun _ c=>c.rnil⟩
theorem Rep.rcons {a r:Ls.D}{v:Value}{vs:List Value}(h1:Rep w G 0 a [v])(h2:Rep w G 1 r vs):Rep w G 1 (Ls.rcons a r) (v::vs):=⟨fun P c=>c.rcons (h1.all P c) (h2.all P c)⟩
theorem Rep.clast {r:Ls.D}{v:Value}(h:Rep w G 0 r [v]):Rep w G 2 (Ls.clast r) [v]:=⟨fun P c=>c.clast (h.all P c)⟩
theorem Rep.ccons {r d:Ls.D}{v:Value}{vs:List Value}(h1:Rep w G 0 r [v])(h2:Rep w G 2 d vs):Rep w G 2 (Ls.ccons r d) (v::vs):=⟨fun P c=>c.ccons (h1.all P c) (h2.all P c)⟩
theorem Rep.ind {motive:(r:Nat)->(d:Ls.D)->(vs:List Value)->Rep w G r d vs->Prop}
  (place:∀{s:List UInt8} {lo hi:Nat} (h:SB s lo hi),motive 0 (Ls.place s) [J3 lo hi] (.place h))
  (rep:∀{t:Nat} {a:Ls.D} {v:Value} (ht:t=5\/t=6\/t=7) (h:Rep w G 0 a [v]),motive 0 a [v] h->motive 0 (Ls.rep t a) [S2 v (t != 6) (t != 7)] (.rep ht h))
  (row:∀{d:Ls.D} {sl:Value} {vs:List Value} (hs:Shows w G sl vs) (h:Rep w G 1 d vs),motive 1 d vs h->motive 0 d [N9 sl] (.row hs h))
  (choice:∀{d:Ls.D} {sl:Value} {vs:List Value} (hs:Shows w G sl vs) (h:Rep w G 2 d vs),motive 2 d vs h->motive 0 d [aQu sl] (.choice hs h))
  (rnil:motive 1 Ls.rnil [] .rnil)
  (rcons:∀{a r:Ls.D} {v:Value} {vs:List Value} (h1:Rep w G 0 a [v]) (h2:Rep w G 1 r vs),motive 0 a [v] h1->motive 1 r vs h2->motive 1 (Ls.rcons a r) (v::vs) (.rcons h1 h2))
  (clast:∀{r:Ls.D} {v:Value} (h:Rep w G 0 r [v]),motive 0 r [v] h->motive 2 (Ls.clast r) [v] (.clast h))
  (ccons:∀{r c:Ls.D} {v:Value} {vs:List Value} (h1:Rep w G 0 r [v]) (h2:Rep w G 2 c vs),motive 0 r [v] h1->motive 2 c vs h2->motive 2 (Ls.ccons r c) (v::vs) (.ccons h1 h2))
  {r:Nat} {d:Ls.D} {vs:List Value} (h:Rep w G r d vs):motive r d vs h:=
 (h.all (fun r d vs=>∃h:Rep w G r d vs,motive r d vs h)
  ⟨fun h=>⟨_,place h⟩,fun ht ⟨_,m⟩=>⟨_,rep ht _ m⟩,fun hs ⟨_,m⟩=>⟨_,row hs _ m⟩,fun hs ⟨_,m⟩=>⟨_,choice hs _ m⟩,⟨_,rnil⟩,
   fun ⟨_,m1⟩ ⟨_,m2⟩=>⟨_,rcons _ _ m1 m2⟩,fun ⟨_,m⟩=>⟨_,clast _ m⟩,fun ⟨_,m1⟩ ⟨_,m2⟩=>⟨_,ccons _ _ m1 m2⟩⟩).2
end
theorem Shows.mono {w w':World}{G G':Nat->Prop}(hG:∀k,G k->G' k)(hw:∀k,G k->w'.heap[k]?=w.heap[k]?){sl:Value}{vs:List Value}(h:Shows w G sl vs):Shows w' G' sl vs:=by
 refine⟨⟨h.own.1,?_⟩,fun k hk=>hG k (h.inG k hk)⟩;rcases h.own.2 with h2|⟨g,cap,cur,rfl,hbg,hg,h3⟩
 ·exact .inl h2
 ·exact .inr ⟨g,cap,cur,rfl,hbg,by rw[hw g (h.inG g rfl)];exact hg,h3⟩
theorem Rep.mono {w w':World}{G G':Nat->Prop}(hG:∀k,G k->G' k)(hw:∀k,G k->w'.heap[k]?=w.heap[k]?){r:Nat}{d:Ls.D}{vs:List Value}(h:Rep w G r d vs):Rep w' G' r d vs:=by
 induction h using Rep.ind with
 | place h=>exact .place h
 | rep ht _ ih=>exact .rep ht ih
 | row hs _ ih=>exact .row (hs.mono hG hw) ih
 | choice hs _ ih=>exact .choice (hs.mono hG hw) ih
 | rnil=>exact .rnil
 | rcons _ _ i1 i2=>exact .rcons i1 i2
 | clast _ ih=>exact .clast ih
 | ccons _ _ i1 i2=>exact .ccons i1 i2
theorem Rep.at0 {w:World}{G:Nat->Prop}{d:Ls.D}{v:Value}(h:Rep w G 0 d [v]) :
  (∃s lo hi,SB s lo hi/\d=Ls.place s/\v=J3 lo hi)\/(∃t a v',(t=5\/t=6\/t=7)/\Rep w G 0 a [v']/\d=Ls.rep t a/\v=S2 v' (t != 6) (t != 7))\/
  (∃sl vs,Shows w G sl vs/\Rep w G 1 d vs/\v=N9 sl)\/(∃sl vs,Shows w G sl vs/\Rep w G 2 d vs/\v=aQu sl):=by
 generalize hr:0=r,hv:[v]=vs at h;induction h using Rep.ind with
 | place h=>injection hv with hv;exact .inl ⟨_,_,_,h,rfl,hv⟩
 | rep ht h=>injection hv with hv;exact .inr (.inl ⟨_,_,_,ht,h,rfl,hv⟩)
 | row hs h=>injection hv with hv;exact .inr (.inr (.inl ⟨_,_,hs,h,hv⟩))
 | choice hs h=>injection hv with hv;exact .inr (.inr (.inr ⟨_,_,hs,h,hv⟩))
 | rnil=>cases hr
 | rcons=>cases hr
 | clast=>cases hr
 | ccons=>cases hr
def RPost (w:World)(rb:Nat)(s:ByteArray)(i z:Nat)(a1:Addr)(res:Ls.Rd):Ending->World->Prop:=fun e w'=>
 (∃d j v,res=some (d,rest s j)/\i<=j/\j<=s.size/\e=.returned v/\Rep w' (B8 w w') 0 d [v]/\RLeft w rb s j z w')\/
 (res=.none/\J7 w rb a1 e w')
def T4 (w:World)(rb:Nat):Nat:=(intOf ((w.cell? ⟨rb,1,none⟩).getD (.int .i64 0))).toNat
theorem aQd {w:World}{rb:Nat}{s:ByteArray}{a z:Nat}(h:RB w rb s a z):T4 w rb=a:=by
 unfold T4;rw[h.c1];simp[intOf]
def aQv (n:Nat)(acc r:List UInt8):Option (List UInt8 × List UInt8):=if r.head?=some 93 then some (acc,r.tail) else Ls.cls n acc r
theorem iQz {n:Nat}{acc r:List UInt8}{a b:UInt8}{t:List UInt8}(h:Ls.eX1 r=some (a,b,t)):Ls.cls (n+1) acc r=aQv n (Ls.rng acc a b) t:=by
 rw[Ls.cls,h];rfl
theorem iQy {n:Nat}{acc r:List UInt8}(h:Ls.eX1 r=.none):Ls.cls n acc r=.none:=by
 cases n with
 | zero=>rfl
 | succ n=>rw[Ls.cls,h]
def nQ2 (w:World)(rb:Nat)(s:ByteArray)(i z:Nat)(a1:Addr):Ending->World->Prop:=fun e w'=>
 (∃g j lo hi,Ls.cls ((rest s i).length+1) [] (rest s i)=some (g,rest s j)/\i<=j/\j<=s.size/\e=.returned (J3 lo hi)/\SB g lo hi/\RLeft w rb s j z w')\/
 (Ls.cls ((rest s i).length+1) [] (rest s i)=.none/\J7 w rb a1 e w')
theorem zQs (rb:Nat)(s:ByteArray)(i z:Nat)(a1:Addr)(w:World)(h:RB w rb s i z)(hE:Env w rb a1)(hs:s.size<=1048576)(hi':i<=s.size) :
  Calls Tryz.prog 161 #[D2 rb] w (nQ2 w rb s i z a1):=by
 have hrl:=h.lt;have hne0:w.heap.size≠rb:=by omega
 have hb0:=A5 w (.cells #[.pointer (some ⟨rb,0,none⟩)] 177);have HL0:Hid (RLeft w rb s i z (w.alloc (.cells #[.pointer (some ⟨rb,0,none⟩)] 177))):=RLeft.of_below h hb0;have HV0:Hid (Bx 177 (w.alloc (.cells #[.pointer (some ⟨rb,0,none⟩)] 177)) w.heap.size rb):=Bx.new w 177 rb;have hC:=iQu rb s i z a1 [] 0 0 _ HL0.out.lies (hE.below hb0) hs hi' SB.empty;go_enter Tryz.func161,Tryz.ntmps161;go_wp2_with fail;refine hC.mono ?_;rintro e w1 (⟨a,b,j,lo,hi,hr,hj,hij,rfl,hSB,hl1⟩|⟨hr,rfl,hg⟩)
 ·have Hr:Hid (Ls.cls ((rest s i).length+1) [] (rest s i)=aQv (rest s i).length (Ls.rng [] a b) (rest s j)):=iQz hr
  have hl:=HL0.out.trans hl1;have hv1:=HV0.out.grown hl1.grown hne0;clear hr hC;have hz1:=hl1.grown.size;simp at hz1;go_wp2_with fail;go_loopw [] (fun wr=>∃(k n:Nat) (acc:List UInt8) (lo hi:Nat),SB acc lo hi/\i<k/\k<=s.size/\(rest s k).length<n+1/\Ls.cls ((rest s i).length+1) [] (rest s i)=aQv n acc (rest s k)/\RLeft w rb s k z wr/\Bx 177 wr w.heap.size rb/\wr.heap[w1.heap.size]?=some (.cells #[.int .u64 lo,.int .u64 hi] 157 (0,0))) (fun wr=>s.size+1-T4 wr rb)
  case atStart=>
   refine⟨j,(rest s i).length,_,lo,hi,hSB,hij,hj,?_,Hr.out,hl.below (A5 _ _),hv1.below (A5 _ _),heap_alloc_new _ _⟩;rw[E7,E7];omega
  case round=>
   obtain⟨k,n,acc,lo2,hi2,hSB2,hik,hks,hn,hcls,hl2,hv2,hx⟩:=hrel;have Hcls:Hid (Ls.cls ((rest s i).length+1) [] (rest s i)=aQv n acc (rest s k)):=hcls;clear hcls Hr;have hE2:=hE.grown hl2.grown;have Hx:Hid (wr.heap[w1.heap.size]?=some (.cells #[.int .u64 lo2,.int .u64 hi2] 157 (0,0))):=hx;clear hx;have hmes:T4 wr rb=k:=aQd hl2.lies;have kb:=hv2.cell;go_wp2_with fail;refine(mQk rb s k z 93 _ hl2.lies hs (by omega)).mono ?_;rintro e w3 ⟨rfl,hl3⟩;clear kb;have hv3:=hv2.grown hl3.grown hne0;have kb:=hv3.cell;have hne:some w1.heap.size≠some rb:=by simp;omega
   have hx3:=Hx.out;rw[<-hl3.grown.block _ (Array.getElem?_eq_some_iff.1 hx3).1 hne]at hx3;obtain⟨c0,c1,f0,f1⟩:=j8 hx3;have hz3:=(Array.getElem?_eq_some_iff.1 hx3).1;have Hx3:Hid (w3.heap[w1.heap.size]?=some (.cells #[.int .u64 lo2,.int .u64 hi2] 157 (0,0))):=hx3;clear hx3;cases hse:A7 s k 93 with
   | true=>
    rw[hse]at hl3;simp only[if_true]at hl3;have hks2:=(D6 hse).1;have HR:Hid (Ls.cls ((rest s i).length+1) [] (rest s i)=some (acc,rest s (k+1))):=by
     show _=_;rw[Hcls.out,aQv,if_pos (C4.2 hse),E3]
    clear hse;go_wp2_with fail;go_ret;exact .inl ⟨acc,k+1,lo2,hi2,HR.out,by omega,by omega,rfl,hSB2,hl2.trans hl3⟩
   | false=>
    rw[hse]at hl3;simp only[Bool.false_eq_true,if_false]at hl3;have Hcls2:Hid (Ls.cls ((rest s i).length+1) [] (rest s i)=Ls.cls n acc (rest s k)):=by
     show _=_;rw[Hcls.out,aQv,if_neg (by rw[C4,hse];simp)]
    clear hse;go_wp2_with fail;refine(iQu rb s k z a1 acc lo2 hi2 _ hl3.lies (hE2.grown hl3.grown) hs hks hSB2).mono ?_;rintro e w4 (⟨a4,b4,j4,lo4,hi4,hr4,hj4,hij4,rfl,hSB4,hl4⟩|⟨hr4,rfl,hg4⟩)
    ·obtain⟨n',rfl⟩:∃n',n=n'+1:=by
      cases n with
      | zero=>
       have:=Ls.hXv hr4;omega
      | succ n=>exact⟨n,rfl⟩
     have Hc4:Hid (Ls.cls ((rest s i).length+1) [] (rest s i)=aQv n' (Ls.rng acc a4 b4) (rest s j4)):=by
      show _=_;rw[Hcls2.out,iQz hr4]
     clear hr4;have hv4:=hv3.grown hl4.grown hne0;have hx4:=Hx3.out;rw[<-hl4.grown.block _ hz3 hne]at hx4;obtain⟨c0,c1,f0,f1⟩:=j8 hx4;have hz4:=(Array.getElem?_eq_some_iff.1 hx4).1;have Hx4:Hid (w4.heap[w1.heap.size]?=some (.cells #[.int .u64 lo2,.int .u64 hi2] 157 (0,0))):=hx4;clear hx4;have hlw:=hl2.trans (hl3.trans hl4);have HV5:Hid (Bx 177 ((w4.setCell ⟨w1.heap.size,0,none⟩ (.int .u64 lo4)).setCell ⟨w1.heap.size,1,none⟩ (.int .u64 hi4)) w.heap.size rb):=⟨by
      rw[Below.heap_setCell _ _ _ _ (by show w.heap.size≠w1.heap.size;omega),Below.heap_setCell _ _ _ _ (by show w.heap.size≠w1.heap.size;omega)];exact hv4.lies⟩
     go_wp2_with fail;go_roundw
     case rel=>
      refine⟨j4,n',_,lo4,hi4,hSB4,by omega,hj4,?_,Hc4.out,hlw.res2 (by omega) hrl _ _,HV5.out,?_⟩
      ·rw[E7]at hn ⊢;omega
      ·have:=Hx4.out
       simp[World.setCell,Array.getElem?_modify,this]
     case measure=>
      rw[hmes,aQd (hlw.res2 (by omega) hrl _ _).lies];omega
    ·have HR:Hid (Ls.cls ((rest s i).length+1) [] (rest s i)=.none):=by
      show _=_;rw[Hcls2.out,iQy hr4]
     go_wp2_with fail;exact⟨rfl,.inr ⟨HR.out,rfl,I7 (I7 hl2.grown hl3.grown) hg4⟩⟩
 ·have HR:Hid (Ls.cls ((rest s i).length+1) [] (rest s i)=.none):=iQy hr
  go_wp2_with fail;exact⟨rfl,.inr ⟨HR.out,rfl,I7 HL0.out.grown hg⟩⟩
end Go.Proofs.YtfklinjaajafgaaGreatDoor
