import Derived.Test.YtcggfnlejalppaaGreatDoorK38
import Derived.Test.YtcggfnlejalppaaGreatDoorK03
set_option maxRecDepth 100000
set_option maxHeartbeats 4000000
namespace Go.Proofs.YtcggfnlejalppaaGreatDoor
open Go.RowKit
theorem bQw:(l:Ls.Ln)->Ls.OkL 120 l->K5 l->H4 l
 | ⟨k,p,w,[]⟩,h,hw=>by
  rw[Ls.OkL]at h;rw[K5]at hw;rcases h.2 with rfl|rfl|rfl
  ·exact mQ5 p w
  ·exact qQx p w hw (by have:=h.1.1;simpa [Ls.wQx] using this)
  ·exact kQ1 p w
 | ⟨k,p,w,[a]⟩,h,hw=>by
  rw[Ls.OkL]at h;rw[K5]at hw;have ha:=bQw a h.2.2 hw;rcases h.2.1 with rfl|rfl
  ·exact mQw p w a ha (H6 a h.2.2) (Q9 a h.2.2 hw) (h.2.2.src) (h.2.2.view)
  ·exact jQx p w a ha (H6 a h.2.2) (Q9 a h.2.2 hw) (h.2.2.src) (h.2.2.view)
 | ⟨k,p,w,[a,b]⟩,h,hw=>by
  rw[Ls.OkL]at h;rw[K5]at hw;have oa:=h.2.2.1;have ob:=h.2.2.2;have ha:=bQw a oa hw.1;have hb:=bQw b ob hw.2;rcases h.2.1 with rfl|rfl|rfl
  ·exact sQc p w a b ha hb (H6 a oa) (H6 b ob) (Q9 a oa hw.1) (Q9 b ob hw.2) oa.src ob.src oa.view ob.view
  ·exact jQ8 p w a b ha hb (H6 a oa) (H6 b ob) (Q9 a oa hw.1) (Q9 b ob hw.2) oa.src ob.src oa.view ob.view
  ·exact iQ3 p w a b ha hb (H6 a oa) (H6 b ob) oa.src ob.src
 | ⟨k,p,w,_::_::_::_⟩,h,_=>by simp[Ls.OkL]at h
def dQw (s:ByteArray)(w:World):Ending->World->Prop:=fun e w'=>
 ∃k p ws y1 y2 y3 x1 x2 x3 r,e=.returned (.tuple #[C7 k p ws (.slice y1 y2 y3) (.slice x1 x2 x3),.int .i64 (r:Nat)])/\CompIs s.data.toList r/\Below w.heap.size w w'/\
  (r=0->∃l,F9 s.data.toList=some l/\l.kind=k/\Ls.wQu l.p=p/\l.w=ws/\NV w' (B6 w w') l (.slice y1 y2 y3) (.slice x1 x2 x3))
theorem aQu {w W:World}(h:Below w.heap.size w W)(k:Nat)(p:Ls.Pat)(ws:List UInt8)(y x:Value):Below w.heap.size w (set6 W w.heap.size k p ws y x):=
 (((((h.setCell (Nat.le_refl _) _).setCell (Nat.le_refl _) _).setCell (Nat.le_refl _) _).setCell (Nat.le_refl _) _).setCell (Nat.le_refl _) _).setCell (Nat.le_refl _) _
theorem pQh (s:ByteArray)(w:World)(h:(120:Int)<(s.size:Int)):Calls Tryz.prog 16 #[.string s] w (dQw s w):=by
 have hb:=A4 w (A8 0 Ls.none [] (.slice none 0 0) (.slice none 0 0));have HC:Hid (CompIs s.data.toList 1):=.inl ⟨by rw[Array.length_toList];show 120<s.size;omega,rfl⟩;go_enter Tryz.func16,Tryz.ntmps16;go_wp2_with fail;exact bodyPost_ret (v:=.tuple #[C7 0 Ls.none [] (.slice none 0 0) (.slice none 0 0),.int .i64 1]) (by simp[results,Tryz.results16,go_sem,Ls.none]) rfl ⟨0,Ls.none,[],none,0,0,none,0,0,1,rfl,HC.out,hb,fun h=>(by cases h)⟩
theorem nQf (s:ByteArray)(w:World)(hs:s.size<=120):Calls Tryz.prog 16 #[.string s] w (dQw s w):=by
 have hd:¬(120:Int)<(s.size:Int):=by omega
 have hlen:s.data.toList.length<=120:=by rw[Array.length_toList];exact hs
 have hb2:=C0 w (A8 0 Ls.none [] (.slice none 0 0) (.slice none 0 0)) (.cells #[.string s,.int .i64 (0:Nat),.int .i64 (0:Nat),.bool false] 56);have hPB:PB ((w.alloc (A8 0 Ls.none [] (.slice none 0 0) (.slice none 0 0))).alloc (.cells #[.string s,.int .i64 (0:Nat),.int .i64 (0:Nat),.bool false] 56)) (w.heap.size+1) s 0 0 false:=by
  have:=heap_alloc_new (w.alloc (A8 0 Ls.none [] (.slice none 0 0) (.slice none 0 0))) (.cells #[.string s,.int .i64 (0:Nat),.int .i64 (0:Nat),.bool false] 56);rw[World.size_alloc]at this;exact this
 have hres:LiesL ((w.alloc (A8 0 Ls.none [] (.slice none 0 0) (.slice none 0 0))).alloc (.cells #[.string s,.int .i64 (0:Nat),.int .i64 (0:Nat),.bool false] 56)) w.heap.size Y9:=(I0 w 0 Ls.none [] (.slice none 0 0) (.slice none 0 0)).of_block (Below.heap_alloc _ _ _ (by simp));have hL:T5 s 0:=hQ7 s (by omega) 13 (Nat.le_refl _);have hC:Calls Tryz.prog 40 #[.pointer (some ⟨w.heap.size+1,0,none⟩),.int .i64 0] _ _:=hL (w.heap.size+1) 0 0 _ hPB (Nat.zero_le _) (by omega);have HRES:Hid (LiesL ((w.alloc (A8 0 Ls.none [] (.slice none 0 0) (.slice none 0 0))).alloc (.cells #[.string s,.int .i64 (0:Nat),.int .i64 (0:Nat),.bool false] 56)) w.heap.size Y9):=hres;have HB2:Hid _:=hb2;clear hPB hres hL hb2;go_enter Tryz.func16,Tryz.ntmps16;go_wp2_with fail;refine hC.mono ?_;rintro e w3 hpp;obtain⟨k,p,ws,y1,y2,y3,x1,x2,x3,i',z',bad,rfl,hi1,hi2,hz2,hl3,hcl⟩:=hpp.mid (fun l t hr=>Ls.xQ9 _ _ _ _ hr) (Nat.zero_le _);clear hpp hC;have hz3:=hl3.grown.size;simp at hz3;have hbw3:Below w.heap.size w w3:=HB2.out.grown hl3.grown (by simp;omega) (fun j hj=>by cases hj;omega);have hb4:=A4 w3 (A8 k p ws (.slice y1 y2 y3) (.slice x1 x2 x3));have hpb4:=hl3.lies.below hb4;have hrs4:=(HRES.out.of_block (hl3.block (by simp;omega) (by omega))).of_block (hb4.block _ (by omega));have hll4:=I0 w3 k p ws (.slice y1 y2 y3) (.slice x1 x2 x3);have HBW4:Hid (Below w.heap.size w (w3.alloc (A8 k p ws (.slice y1 y2 y3) (.slice x1 x2 x3)))):=Below.join hbw3 hb4;have HCL:Hid (CaseL (w3.alloc (A8 k p ws (.slice y1 y2 y3) (.slice x1 x2 x3))) (fun j=>w.heap.size+2<=j/\j<w3.heap.size) (Ls.wQy 13 (rest s 0)) s 0 i' z' bad k p ws (.slice y1 y2 y3) (.slice x1 x2 x3)):=hcl.mono (fun j hj=>⟨⟨by have:=hj.1;simp at this;exact this,hj.2⟩,hb4.block j hj.2⟩);have hz4:(w3.alloc (A8 k p ws (.slice y1 y2 y3) (.slice x1 x2 x3))).heap.size=w3.heap.size+1:=by simp
 clear hcl hl3 hb4 HRES HB2;go_upto_region 5 with (fail);generalize w3.alloc (A8 k p ws (.slice y1 y2 y3) (.slice x1 x2 x3))=W4 at *;obtain⟨q0,q1,q2,q3,q4,q5⟩:=hrs4.six;obtain⟨l0,l1,l2,l3,l4,l5⟩:=hll4.six;have g0:=hrs4.fr 0;have g1:=hrs4.fr 1;have g2:=hrs4.fr 2;have g3:=hrs4.fr 3;have g4:=hrs4.fr 4;have g5:=hrs4.fr 5;have k1:=hpb4.c1;have k2:=hpb4.c2;have k3:=hpb4.c3;have HRS4:Hid (LiesL W4 w.heap.size Y9):=hrs4;have HLL4:Hid (LiesL W4 w3.heap.size [.int .i64 k,.int .i64 p.kind,.string ⟨p.signs.toArray⟩,.slice y1 y2 y3,.string ⟨ws.toArray⟩,.slice x1 x2 x3]):=hll4;clear hrs4 hll4 hpb4;cases bad with
 | true=>
  have HC:Hid (CompIs s.data.toList 2):=by
   rcases HCL.out with⟨_,hr⟩|⟨h0,_⟩
   ·exact .inr ⟨hlen,.inl ⟨fQl hr,rfl⟩⟩
   ·cases h0
  go_wp2_with fail;exact bodyPost_ret (v:=.tuple #[C7 0 Ls.none [] (.slice none 0 0) (.slice none 0 0),.int .i64 2]) (by simp[results,Tryz.results16,go_sem,q0,q1,q2,q3,q4,q5,Ls.none]) rfl ⟨0,Ls.none,[],none,0,0,none,0,0,2,rfl,HC.out,aQu HBW4.out 0 Ls.none [] (.slice none 0 0) (.slice none 0 0),fun h=>(by cases h)⟩
 | false=>
  by_cases hat:i'=s.size
  ·subst hat
   have hne0:((s.size:Int) != (s.size:Int))=false:=by simp
   obtain⟨l,hr,e1,e2,e3,e4,_,hnv⟩:∃l,Ls.wQy 13 (rest s 0)=some (l,rest s s.size)/\l.kind=k/\Ls.wQu l.p=p/\l.w=ws/\z'=0+Ls.wQv l/\s.size<=s.size/\NV W4 (fun j=>w.heap.size+2<=j/\j<w3.heap.size) l (.slice y1 y2 y3) (.slice x1 x2 x3):=by
    rcases HCL.out with⟨h0,_⟩|⟨_,h⟩
    ·cases h0
    ·exact h
   have hpr:=hQ9 hr
   by_cases h24:(24:Int)<(z':Int)
   ·have HC:Hid (CompIs s.data.toList 3):=.inr ⟨hlen,.inr ⟨l,hpr,.inl ⟨by omega,rfl⟩⟩⟩
    clear hr e1 e2 e3 e4 hnv hpr HCL;go_wp2_with fail;exact bodyPost_ret (v:=.tuple #[C7 0 Ls.none [] (.slice none 0 0) (.slice none 0 0),.int .i64 3]) (by simp[results,Tryz.results16,go_sem,q0,q1,q2,q3,q4,q5,Ls.none]) rfl ⟨0,Ls.none,[],none,0,0,none,0,0,3,rfl,HC.out,aQu HBW4.out 0 Ls.none [] (.slice none 0 0) (.slice none 0 0),fun h=>(by cases h)⟩
   ·have hok:=Ls.eXa hr (by rw[D9];omega)
    have hC2:=bQw l hok (j6 l 120 hok (by omega)) (.slice y1 y2 y3) (.slice x1 x2 x3) W4 (fun j=>w.heap.size+2<=j/\j<w3.heap.size) (fun j hj=>by have:=hj.2;omega) hnv;unfold J8 at hC2;rw[e1,e2,e3]at hC2;have HE:Hid (l.kind=k/\Ls.wQu l.p=p/\l.w=ws):=⟨e1,e2,e3⟩;have HNV:Hid (NV W4 (fun j=>w.heap.size+2<=j/\j<w3.heap.size) l (.slice y1 y2 y3) (.slice x1 x2 x3)):=hnv;have HPR:Hid (F9 s.data.toList=some l):=hpr;have HZ:Hid (Ls.wQv l<=24):=by show _<=_;omega
    clear hr e1 e2 e3 e4 hnv hpr HCL hok;go_wp2_with fail;refine hC2.mono ?_;rintro e w5 ⟨tb,rfl,htb,hb5⟩;have hz5:=hb5.size;have hrs5:=HRS4.out.of_block (hb5.block _ (by omega));have hll5:=HLL4.out.of_block (hb5.block _ (by omega));have HBW5:Hid (Below w.heap.size w w5):=Below.join HBW4.out hb5;have HNV5:Hid (NV w5 (fun j=>w.heap.size+2<=j/\j<w3.heap.size) l (.slice y1 y2 y3) (.slice x1 x2 x3)):=HNV.out.below hb5 (fun j hj=>by have:=hj.2;omega) (fun _ h=>h);have HTB:Hid (tb=true↔B4 l):=htb;clear q0 q1 q2 q3 q4 q5 l0 l1 l2 l3 l4 l5 g0 g1 g2 g3 g4 g5 k1 k2 k3 hC2 htb HNV;obtain⟨q0,q1,q2,q3,q4,q5⟩:=hrs5.six;obtain⟨l0,l1,l2,l3,l4,l5⟩:=hll5.six;have g0:=hrs5.fr 0;have g1:=hrs5.fr 1;have g2:=hrs5.fr 2;have g3:=hrs5.fr 3;have g4:=hrs5.fr 4;have g5:=hrs5.fr 5;clear hrs5 hll5;cases tb with
    | false=>
     have HC:Hid (CompIs s.data.toList 4):=.inr ⟨hlen,.inr ⟨l,HPR.out,.inr ⟨HZ.out,.inl ⟨fun h=>(by have:=HTB.out.2 h;cases this),rfl⟩⟩⟩⟩;go_wp2_with fail;exact bodyPost_ret (v:=.tuple #[C7 0 Ls.none [] (.slice none 0 0) (.slice none 0 0),.int .i64 4]) (by simp[results,Tryz.results16,go_sem,q0,q1,q2,q3,q4,q5,Ls.none]) rfl ⟨0,Ls.none,[],none,0,0,none,0,0,4,rfl,HC.out,aQu HBW5.out 0 Ls.none [] (.slice none 0 0) (.slice none 0 0),fun h=>(by cases h)⟩
    | true=>
     have HC:Hid (CompIs s.data.toList 0):=.inr ⟨hlen,.inr ⟨l,HPR.out,.inr ⟨HZ.out,.inr ⟨HTB.out.1 rfl,rfl⟩⟩⟩⟩;have HN6:Hid (NV (set6 w5 w.heap.size k p ws (.slice y1 y2 y3) (.slice x1 x2 x3)) (B6 w (set6 w5 w.heap.size k p ws (.slice y1 y2 y3) (.slice x1 x2 x3))) l (.slice y1 y2 y3) (.slice x1 x2 x3)):=NV.mono (fun j hj=>⟨⟨by omega,by rw[dQ5];have:=hj.2;omega⟩,bQu _ _ _ _ _ _ _ _ (by omega)⟩) _ _ _ HNV5.out;go_wp2_with fail;exact bodyPost_ret (v:=.tuple #[C7 k p ws (.slice y1 y2 y3) (.slice x1 x2 x3),.int .i64 0]) (by simp[results,Tryz.results16,go_sem,q0,q1,q2,q3,q4,q5]) rfl ⟨k,p,ws,y1,y2,y3,x1,x2,x3,0,rfl,HC.out,aQu HBW5.out k p ws (.slice y1 y2 y3) (.slice x1 x2 x3),fun _=>⟨l,HPR.out,HE.out.1,HE.out.2.1,HE.out.2.2,HN6.out⟩⟩
  ·have hne0:((i':Int) != (s.size:Int))=true:=by rw[bne_iff_ne];omega
   have HC:Hid (CompIs s.data.toList 2):=by
    rcases HCL.out with⟨h0,_⟩|⟨_,l,hr,_,_,_,_,hle,_⟩
    ·cases h0
    ·exact .inr ⟨hlen,.inl ⟨hQ4 hr (by omega),rfl⟩⟩
   clear hat HCL;go_wp2_with fail;exact bodyPost_ret (v:=.tuple #[C7 0 Ls.none [] (.slice none 0 0) (.slice none 0 0),.int .i64 2]) (by simp[results,Tryz.results16,go_sem,q0,q1,q2,q3,q4,q5,Ls.none]) rfl ⟨0,Ls.none,[],none,0,0,none,0,0,2,rfl,HC.out,aQu HBW4.out 0 Ls.none [] (.slice none 0 0) (.slice none 0 0),fun h=>(by cases h)⟩
theorem mQj (s:ByteArray)(w:World):Calls Tryz.prog 16 #[.string s] w (dQw s w):=by
 by_cases h:120<s.size
 ·exact pQh s w (by omega)
 ·exact nQf s w (by omega)
end Go.Proofs.YtcggfnlejalppaaGreatDoor
