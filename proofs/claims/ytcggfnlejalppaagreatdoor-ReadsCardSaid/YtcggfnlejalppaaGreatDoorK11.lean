import Derived.Test.YtcggfnlejalppaaGreatDoorK09
import Derived.Deep.RegionHeld
set_option maxRecDepth 100000
set_option maxHeartbeats 4000000
namespace Go.Proofs.YtcggfnlejalppaaGreatDoor
open Go.RowKit
def L0 (P:List UInt8->Ls.Rd)(r:List UInt8):Ls.Rl:=
 if r.head?=some 47 then
  match Ls.wQ4 P r.tail with
  | .none=>.none
  | some (d,u)=>
   match Ls.xQg u with
   | .none=>.none
   | some (ws,v)=>some (Ls.xQk d ws,v)
 else .none
theorem oQx {d:Ls.D}(hd:dn d<=1048577)(hs:Ls.dsize d<=1048576){w:World}{G:Nat->Prop}(hG:Old w G){ty:TypeId}{x:Value}(h:Rep w G 0 d [.iface ty x]) :
  ∃ f, (∀ w, (Go.method 364 ty x "Size").run Tryz.prog w = .ok (f, x) w) /\ (∀ w, (callFunc f #[x]).run Tryz.prog w = .ok (.enter f #[x]) w) /\ ∀ W, Below w.heap.size w W -> Calls Tryz.prog f #[x] W fun e w' => e = .returned (.int .i64 (Ls.dsize d)) /\ Below w.heap.size w w' := by
 obtain⟨f,hm,hcf,hf⟩:=cQz (dn d) d (Nat.le_refl _) hd hs w G ty x hG h;refine⟨f,hm,hcf,fun W hW=>?_⟩;obtain⟨f',hm',_,hf'⟩:=cQz (dn d) d (Nat.le_refl _) hd hs W G ty x (fun k hk=>Nat.lt_of_lt_of_le (hG k hk) hW.size) (h.later hG hW);have he:f=f':=by
  have h1:=(hm w).symm.trans (hm' w);injection h1 with h1;injection h1
 subst he;refine hf'.mono ?_;rintro e w' ⟨rfl,hb⟩;exact⟨rfl,Below.join hW hb⟩
def bQ5 (s:ByteArray)(a1:Addr):Prop:=∀(z rb i:Nat) (w:World),z<=12->RB w rb s i z->Env w rb a1->i<=s.size->
 Calls Tryz.prog 140 #[C3 rb] w (PlPost w rb s i z a1 (L0 (Ls.pat (13-z)) (rest s i)))
def I5 (s:ByteArray)(j:Nat)(l:Ls.Ln):Ls.Ln:=if A5 s j 42=true then Ls.yQp l else l
def N6 (s:ByteArray)(j:Nat):Nat:=if A5 s j 42=true then j+1 else j
theorem eQ0 (s:ByteArray)(j:Nat)(l:Ls.Ln):Ls.xQp l (rest s j)=(I5 s j l,rest s (N6 s j)):=by
 unfold Ls.xQp I5 N6;cases h:A5 s j 42 with
 | true=>rw[if_pos (B8.2 h),D7];simp
 | false=>rw[if_neg (by rw[B8,h];simp)];simp
def Z9 (w:World)(G:Nat->Prop)(rb:Nat)(s:ByteArray)(j z:Nat)(l:Ls.Ln):Ending->World->Prop:=fun e w'=>
 ∃f caps,e=.returned (B9 (Ls.wQv (I5 s j l)) (.func (.func f) #[] caps))/\PlanV w' (fun k=>G k\/(w.heap.size<=k/\k<w'.heap.size)) (I5 s j l) (.func (.func f) #[] caps)/\RLeft w rb s (N6 s j) z w'
abbrev N9 (w:World)(rb n f:Nat)(caps:Array Value):World:=((w.alloc (F3 158 rb)).alloc (.cells #[.int .i64 n,.func (.func f) #[] caps] 121)).alloc (.cells #[.int .i64 (0:Nat),.nilFunc] 121)
theorem lQu (s:ByteArray)(hs:s.size<=120)(z rb j:Nat)(l:Ls.Ln)(f:Nat)(caps:Array Value)(w:World)(G:Nat->Prop)(hG:Old w G)(hGr:¬G rb)(h:RB w rb s j z)(hj:j<=s.size)(hn:Ls.wQv l<=120)(hp:PlanV w G l (.func (.func f) #[] caps)) :
  Calls Tryz.prog 135 #[C3 rb,B9 (Ls.wQv l) (.func (.func f) #[] caps)] w (Z9 w G rb s j z l):=by
 have hrl:=h.lt;have hb0:Below w.heap.size w (N9 w rb (Ls.wQv l) f caps):=L6 w _ _ _;have hz0:(N9 w rb (Ls.wQv l) f caps).heap.size=w.heap.size+1+1+1:=by simp
 have hx:Blk (N9 w rb (Ls.wQv l) f caps) (w.heap.size+1) #[.int .i64 (Ls.wQv l),.func (.func f) #[] caps] 121:=by
  have:=Blk.new (w.alloc (F3 158 rb)) #[.int .i64 (Ls.wQv l),.func (.func f) #[] caps] 121;rw[World.size_alloc]at this;exact this.of (Below.heap_alloc _ _ _ (by simp))
 have hy:Blk (N9 w rb (Ls.wQv l) f caps) (w.heap.size+1+1) #[.int .i64 (0:Nat),.nilFunc] 121:=by
  have:=Blk.new ((w.alloc (F3 158 rb)).alloc (.cells #[.int .i64 (Ls.wQv l),.func (.func f) #[] caps] 121)) #[.int .i64 (0:Nat),.nilFunc] 121;rw[World.size_alloc,World.size_alloc]at this;exact this
 have hI0:In 158 w rb s j z (N9 w rb (Ls.wQv l) f caps):=((In.enter _ h).below (A4 _ _)).below (A4 _ _);have HPL:Hid (PlanV w G l (.func (.func f) #[] caps)):=hp;have HI0:Hid (In 158 w rb s j z (N9 w rb (Ls.wQv l) f caps)):=hI0;have HX:Hid (Blk (N9 w rb (Ls.wQv l) f caps) (w.heap.size+1) #[.int .i64 (Ls.wQv l),.func (.func f) #[] caps] 121):=hx;have HY:Hid (Blk (N9 w rb (Ls.wQv l) f caps) (w.heap.size+1+1) #[.int .i64 (0:Nat),.nilFunc] 121):=hy;have HB0:Hid (Below w.heap.size w (N9 w rb (Ls.wQv l) f caps)):=hb0;clear hp hI0 hx hy hb0;cases h42:A5 s j 42 with
 | false=>
  have HS:Hid (I5 s j l=l/\N6 s j=j):=by simp[Hid,I5,N6,h42]
  have hC:=O8 rb s j z 42 _ HI0.out.lies (by omega) (by omega) h42;clear h42;go_enter Tryz.func135,Tryz.ntmps135;go_wp2_with fail;refine hC.mono ?_;clear hC;generalize N9 w rb (Ls.wQv l) f caps=W0 at *;rintro e w1 ⟨rfl,hl1⟩;have hz1:=hl1.grown.size;have hx1:=HX.out.of (hl1.grown.block _ (by omega) (by simp;omega));have hy1:=HY.out.of (hl1.grown.block _ (by omega) (by simp;omega));obtain⟨x0,x1,y0,y1⟩:=hx1.two;obtain⟨r0,r1,s0,s1⟩:=hy1.two;have HP:Hid (Z9 w G rb s j z l (.returned (B9 (Ls.wQv l) (.func (.func f) #[] caps))) ((w1.setCell ⟨w.heap.size+1+1,0,none⟩ (.int .i64 (Ls.wQv l))).setCell ⟨w.heap.size+1+1,1,none⟩ (.func (.func f) #[] caps))):=by
   unfold Hid Z9;rw[HS.out.1,HS.out.2];refine⟨f,caps,rfl,PlanV.mono (fun k hk=>.inl hk) (fun k hk=>?_) _ _ HPL.out,((HI0.out.go hl1).left).res2 (by omega) hrl _ _⟩;have:=hG k hk;rw[I4 _ _ _ _ _ (by omega),hl1.grown.block k (by omega) (by simp;rintro rfl;exact hGr hk)];exact HB0.out.block k this
  clear hx1 hy1;go_wp2_with fail;exact bodyPost_ret (v:=B9 (Ls.wQv l) (.func (.func f) #[] caps)) (by simp[results,Tryz.results135,go_sem,r0,r1]) rfl HP.out
 | true=>
  have HS:Hid (I5 s j l=Ls.yQp l/\N6 s j=j+1):=by simp[Hid,I5,N6,h42]
  have hC:=Q0 rb s j z 42 _ HI0.out.lies (by omega) h42;clear h42;go_enter Tryz.func135,Tryz.ntmps135;go_wp2_with fail;refine hC.mono ?_;clear hC;generalize N9 w rb (Ls.wQv l) f caps=W0 at *;rintro e w1 ⟨rfl,hl1⟩;have hz1:=hl1.grown.size;have hx1:=HX.out.of (hl1.grown.block _ (by omega) (by simp;omega));have hy1:=HY.out.of (hl1.grown.block _ (by omega) (by simp;omega));obtain⟨x0,x1,y0,y1⟩:=hx1.two;have hp1:PlanV w1 G l (.func (.func f) #[] caps):=PlanV.mono (fun k hk=>hk) (fun k hk=>by
   have:=hG k hk;rw[hl1.grown.block k (by omega) (by simp;rintro rfl;exact hGr hk)];exact HB0.out.block k this) _ _ HPL.out
  have hA:=iQp 6 (.inl rfl) l (Ls.wQv l) f caps (by omega) w1 G (fun k hk=>by have:=hG k hk;omega) hp1;have HI1:Hid (In 158 w rb s (j+1) z w1):=HI0.out.go hl1;have HY1:Hid (Blk w1 (w.heap.size+1+1) #[.int .i64 (0:Nat),.nilFunc] 121):=hy1;clear hx1 hy1 hp1;go_wp2_with fail;refine hA.mono ?_;rintro e w2 ⟨g,daps,rfl,hp2,hb2⟩;have hy2:=HY1.out.below hb2 (by omega);obtain⟨r0,r1,s0,s1⟩:=hy2.two;have hz2:=hb2.size;have HP:Hid (Z9 w G rb s j z l (.returned (B9 (Ls.wQv l+1) (.func (.func g) #[] daps))) ((w2.setCell ⟨w.heap.size+1+1,0,none⟩ (.int .i64 ((Ls.wQv l+1:Nat):Int))).setCell ⟨w.heap.size+1+1,1,none⟩ (.func (.func g) #[] daps))):=by
   unfold Hid Z9;rw[HS.out.1,HS.out.2,Ls.yQu];refine⟨g,daps,rfl,PlanV.mono (fun k hk=>?_) (fun k hk=>?_) _ _ hp2,((HI1.out.below hb2).left).res2 (by omega) hrl _ _⟩
   ·rcases hk with hk|hk
    ·exact .inl hk
    ·exact .inr ⟨by omega,by rw[Q8];exact hk.2⟩
   ·rw[I4 _ _ _ _ _ ?_]
    rcases hk with hk|hk
    ·have:=hG k hk;omega
    ·omega
  clear hy2 hp2 hA;go_wp2_with fail;exact bodyPost_ret (v:=B9 (Ls.wQv l+1) (.func (.func g) #[] daps)) (by simp[results,Tryz.results135,go_sem,r0,r1]) rfl HP.out
def R7 (s:ByteArray)(a1:Addr)(z:Nat):Prop:=∀(rb i:Nat) (w:World),RB w rb s i z->Env w rb a1->i<=s.size->
 Calls Tryz.prog 97 #[C3 rb] w (PlPost w rb s i z a1 (Ls.wQy (13-z) (rest s i)))
def M3 (Q:List UInt8->Ls.Rl)(r:List UInt8):Ls.Rl:=
 match Q r with
 | .none=>.none
 | some (a,u)=>if u.head?=some 62 then some (a,u.tail) else .none
abbrev H0 (n f:Nat)(caps:Array Value):Obj:=.cells #[.int .i64 n,.func (.func f) #[] caps] 121
theorem lQy (s:ByteArray)(hs:s.size<=120)(a1:Addr)(z:Nat)(hz:z<=12)(hL:z<=11->R7 s a1 (z+1))(rb i:Nat)(w:World)(h:RB w rb s i z)(hE:Env w rb a1)(hi:i<=s.size) :
  Calls Tryz.prog 139 #[C3 rb] w (PlPost w rb s i z a1 (M3 (Ls.wQy (12-z)) (rest s i))):=by
 have HI0:Hid (Inp w rb s i z (F7 w rb)):=Inp.enter h;have hz0:(F7 w rb).heap.size=w.heap.size+1+1:=by simp
 have HE:Hid (Env w rb a1):=hE
 by_cases h12:z=12
 ·subst h12
  have HN:Hid (M3 (Ls.wQy (12-12)) (rest s i)=.none):=rfl;have hO:=cQy rb s i a1 _ HI0.out.lies (HI0.out.env hE);go_enter Tryz.func139,Tryz.ntmps139;go_wp2_with fail;refine hO.mono ?_;rintro e w3 ⟨rfl,hg⟩;go_wp2_with fail;exact⟨rfl,.inr ⟨HN.out,rfl,HI0.out.threw rfl hg⟩⟩
 ·have HL:Hid (R7 s a1 (z+1)):=hL (by omega)
  have hO:=dQy rb s i z _ HI0.out.lies (by omega);clear hL hE h;go_enter Tryz.func139,Tryz.ntmps139;go_wp2_with fail;refine hO.mono ?_;rintro e w1 ⟨rfl,hl1⟩;have hI1:=HI0.out.go hl1;have b1:=hI1.cell;clear hO;go_wp2_with fail;refine(HL.out rb i w1 hI1.lies (hI1.env HE.out) hi).mono ?_;rintro e w2 (⟨l,j,f,caps,hr,hij,hj,rfl,hp,hl2⟩|⟨hr,rfl,hg⟩)
  ·rw[show 13-(z+1)=12-z from by omega]at hr
   have Hr:Hid (Ls.wQy (12-z) (rest s i)=some (l,rest s j)):=hr;have hI2:=hI1.go hl2;have hb3:=A4 w2 (H0 (Ls.wQv l) f caps);have hx3:Blk (w2.alloc (H0 (Ls.wQv l) f caps)) w2.heap.size #[.int .i64 (Ls.wQv l),.func (.func f) #[] caps] 121:=Blk.new w2 _ _;have hI3:=hI2.below hb3;have hz3:(w2.alloc (H0 (Ls.wQv l) f caps)).heap.size=w2.heap.size+1:=by simp
   have hz1:=hI1.size;have hz2:=hl2.grown.size;have HP3:Hid (PlanV (w2.alloc (H0 (Ls.wQv l) f caps)) (fun k=>w.heap.size+1<k/\k<w2.heap.size) l (.func (.func f) #[] caps)):=PlanV.mono (fun k hk=>⟨by have:=hk.1;omega,hk.2⟩) (fun k hk=>hb3.block k hk.2) _ _ hp;clear hr b1 hp hl2 hb3;go_upto_region 3 with (fail);generalize w2.alloc (H0 (Ls.wQv l) f caps)=w3 at *;have b3:=hI3.cell;have HX3:Hid (Blk w3 w2.heap.size #[.int .i64 (Ls.wQv l),.func (.func f) #[] caps] 121):=hx3;have HI3:Hid (Inp w rb s j (z+1) w3):=hI3;have ho:=hI3.inn.old;clear hx3 hI3 hI2 hI1;cases hse:A5 s j 62 with
   | true=>
    have HN:Hid (M3 (Ls.wQy (12-z)) (rest s i)=some (l,rest s (j+1))):=by
     show _=_;unfold M3;rw[Hr.out];dsimp only
     rw[if_pos (B8.2 hse),D7]
    have hj2:=(C6 hse).1;have hcl:=cQk rb s j z 62 w3 HI3.out.lies (by omega) (by omega) hse;clear hse;go_wp2_with fail;refine hcl.mono ?_;rintro e w4 ⟨rfl,hl4⟩;have hI4:=HI3.out.go hl4;have hx4:=HX3.out.of (hl4.grown.block _ (by omega) (by simp;omega));obtain⟨x0,x1,y0,y1⟩:=hx4.two;obtain⟨r0,r1,s0,s1⟩:=hI4.res.two;have hz4:=hl4.grown.size;have HP:Hid (PlPost w rb s i z a1 (M3 (Ls.wQy (12-z)) (rest s i)) (.returned (B9 (Ls.wQv l) (.func (.func f) #[] caps))) ((w4.setCell ⟨w.heap.size+1,0,none⟩ (.int .i64 (Ls.wQv l))).setCell ⟨w.heap.size+1,1,none⟩ (.func (.func f) #[] caps))):=by
     refine hI4.ret HN.out (by omega) (by omega) (PlanV.mono (fun k hk=>⟨hk.1,by have:=hk.2;omega⟩) (fun k hk=>hl4.grown.block k (by have:=hk.2;omega) (by have:=hk.1;simp;omega)) _ _ HP3.out)
    clear hx4 hI4 hcl;go_wp2_with fail;exact bodyPost_ret (v:=B9 (Ls.wQv l) (.func (.func f) #[] caps)) (by simp[results,Tryz.results139,go_sem,r0,r1]) rfl HP.out
   | false=>
    have HN:Hid (M3 (Ls.wQy (12-z)) (rest s i)=.none):=by
     show _=_;unfold M3;rw[Hr.out];dsimp only
     rw[if_neg (by rw[B8,hse];simp)]
    have hcl:=aQ2 rb s j (z+1) 62 a1 w3 HI3.out.lies (HI3.out.env HE.out) (by omega) (by omega) hse;clear hse;go_wp2_with fail;refine hcl.mono ?_;rintro e w4 ⟨rfl,hg⟩;go_wp2_with fail;exact⟨rfl,.inr ⟨HN.out,rfl,HI3.out.threw rfl hg⟩⟩
  ·rw[show 13-(z+1)=12-z from by omega]at hr
   have HN:Hid (M3 (Ls.wQy (12-z)) (rest s i)=.none):=by
    show _=_;unfold M3;rw[hr]
   go_wp2_with fail;exact⟨rfl,.inr ⟨HN.out,rfl,hI1.threw rfl hg⟩⟩
def F8 (Q:List UInt8->Ls.Rl)(r:List UInt8):Ls.Rl:=
 match Q r with
 | .none=>.none
 | some (a,u)=>
  if u.head?=some 126 then
   match Q u.tail with
   | .none=>.none
   | some (b,v)=>if v.head?=some 41 then some (Ls.wQ5 a b,v.tail) else .none
  else if u.head?=some 41 then some (a,u.tail) else .none
theorem kQr {Q:List UInt8->Ls.Rl}{r:List UInt8}(h:Q r=.none):F8 Q r=.none:=by
 unfold F8;rw[h]
section
variable {Q:List UInt8->Ls.Rl} {r:List UInt8} {s:ByteArray} {l:Ls.Ln} {j:Nat}
theorem uQx (h:Q r=some (l,rest s j))(h1:A5 s j 126=false)(h2:A5 s j 41=true):F8 Q r=some (l,rest s (j+1)):=by
 unfold F8;rw[h];dsimp only
 rw[if_neg (by rw[B8,h1];simp),if_pos (B8.2 h2),D7]
theorem kQy (h:Q r=some (l,rest s j))(h1:A5 s j 126=false)(h2:A5 s j 41=false):F8 Q r=.none:=by
 unfold F8;rw[h];dsimp only
 rw[if_neg (by rw[B8,h1];simp),if_neg (by rw[B8,h2];simp)]
theorem mQr (h:Q r=some (l,rest s j))(h1:A5 s j 126=true)(h2:Q (rest s (j+1))=.none):F8 Q r=.none:=by
 unfold F8;rw[h];dsimp only
 rw[if_pos (B8.2 h1),D7,h2]
theorem sQl (h:Q r=some (l,rest s j))(h1:A5 s j 126=true){m:Ls.Ln}{k:Nat}(h2:Q (rest s (j+1))=some (m,rest s k)):F8 Q r=if A5 s k 41=true then some (Ls.wQ5 l m,rest s (k+1)) else .none:=by
 unfold F8;rw[h];dsimp only
 rw[if_pos (B8.2 h1),D7,h2];dsimp only
 cases h3:A5 s k 41 with
 | true=>rw[if_pos (B8.2 h3),D7];simp
 | false=>rw[if_neg (by rw[B8,h3];simp)];simp
end
theorem qQ2 (s:ByteArray)(hs:s.size<=120)(a1:Addr)(z:Nat)(hz:z<=12)(hL:z<=11->R7 s a1 (z+1))(rb i:Nat)(w:World)(h:RB w rb s i z)(hE:Env w rb a1)(hi:i<=s.size) :
  Calls Tryz.prog 137 #[C3 rb] w (PlPost w rb s i z a1 (F8 (Ls.wQy (12-z)) (rest s i))):=by
 have HI0:Hid (Inp w rb s i z (F7 w rb)):=Inp.enter h;have hz0:(F7 w rb).heap.size=w.heap.size+1+1:=by simp
 have HE:Hid (Env w rb a1):=hE
 by_cases h12:z=12
 ·subst h12
  have HN:Hid (F8 (Ls.wQy (12-12)) (rest s i)=.none):=rfl;have hO:=cQy rb s i a1 _ HI0.out.lies (HI0.out.env hE);go_enter Tryz.func137,Tryz.ntmps137;go_wp2_with fail;refine hO.mono ?_;rintro e w3 ⟨rfl,hg⟩;go_wp2_with fail;exact⟨rfl,.inr ⟨HN.out,rfl,HI0.out.threw rfl hg⟩⟩
 ·have HL:Hid (R7 s a1 (z+1)):=hL (by omega)
  have hO:=dQy rb s i z _ HI0.out.lies (by omega);clear hL hE h;go_enter Tryz.func137,Tryz.ntmps137;go_wp2_with fail;refine hO.mono ?_;rintro e w1 ⟨rfl,hl1⟩;have hI1:=HI0.out.go hl1;have b1:=hI1.cell;clear hO;go_wp2_with fail;refine(HL.out rb i w1 hI1.lies (hI1.env HE.out) hi).mono ?_;rintro e w2 (⟨l,j,f,caps,hr,hij,hj,rfl,hp,hl2⟩|⟨hr,rfl,hg⟩)
  ·rw[show 13-(z+1)=12-z from by omega]at hr
   have Hr:Hid (Ls.wQy (12-z) (rest s i)=some (l,rest s j)):=hr;have hI2:=hI1.go hl2;have hb3:=A4 w2 (H0 (Ls.wQv l) f caps);have hx3:Blk (w2.alloc (H0 (Ls.wQv l) f caps)) w2.heap.size #[.int .i64 (Ls.wQv l),.func (.func f) #[] caps] 121:=Blk.new w2 _ _;have hI3:=hI2.below hb3;have hz3:(w2.alloc (H0 (Ls.wQv l) f caps)).heap.size=w2.heap.size+1:=by simp
   have hz1:=hI1.size;have hz2:=hl2.grown.size;have HP3:Hid (PlanV (w2.alloc (H0 (Ls.wQv l) f caps)) (fun k=>w.heap.size+1<k/\k<w2.heap.size) l (.func (.func f) #[] caps)):=PlanV.mono (fun k hk=>⟨by have:=hk.1;omega,hk.2⟩) (fun k hk=>hb3.block k hk.2) _ _ hp;clear hr b1 hp hl2 hb3;go_upto_region 3 with (fail);generalize w2.alloc (H0 (Ls.wQv l) f caps)=w3 at *;have b3:=hI3.cell;have HX3:Hid (Blk w3 w2.heap.size #[.int .i64 (Ls.wQv l),.func (.func f) #[] caps] 121):=hx3;have HI3:Hid (Inp w rb s j (z+1) w3):=hI3;have ho:=hI3.inn.old;clear hx3 hI3 hI2 hI1;cases h126:A5 s j 126 with
   | false=>
    have hsk:=O8 rb s j (z+1) 126 w3 HI3.out.lies (by omega) (by omega) h126;have H126:Hid (A5 s j 126=false):=h126;clear h126;go_wp2_with fail;refine hsk.mono ?_;rintro e w4 ⟨rfl,hl4⟩;have hI4:=HI3.out.go hl4;have hx4:=HX3.out.of (hl4.grown.block _ (by omega) (by simp;omega));have b4:=hI4.cell;have hz4:=hl4.grown.size;have HX4:Hid (Blk w4 w2.heap.size #[.int .i64 (Ls.wQv l),.func (.func f) #[] caps] 121):=hx4;have HI4:Hid (Inp w rb s j (z+1) w4):=hI4;have HP4:Hid (PlanV w4 (fun k=>w.heap.size+1<k/\k<w2.heap.size) l (.func (.func f) #[] caps)):=PlanV.mono (fun k hk=>hk) (fun k hk=>hl4.grown.block k (by have:=hk.2;omega) (by have:=hk.1;simp;omega)) _ _ HP3.out;clear hx4 hI4 b3 hsk hl4;cases hse:A5 s j 41 with
    | true=>
     have HN:Hid (F8 (Ls.wQy (12-z)) (rest s i)=some (l,rest s (j+1))):=uQx Hr.out H126.out hse;have hj2:=(C6 hse).1;have hcl:=cQk rb s j z 41 w4 HI4.out.lies (by omega) (by omega) hse;clear hse;go_wp2_with fail;refine hcl.mono ?_;rintro e w5 ⟨rfl,hl5⟩;have hI5:=HI4.out.go hl5;have hx5:=HX4.out.of (hl5.grown.block _ (by omega) (by simp;omega));obtain⟨x0,x1,y0,y1⟩:=hx5.two;obtain⟨r0,r1,s0,s1⟩:=hI5.res.two;have hz5:=hl5.grown.size;have HP:Hid (PlPost w rb s i z a1 (F8 (Ls.wQy (12-z)) (rest s i)) (.returned (B9 (Ls.wQv l) (.func (.func f) #[] caps))) ((w5.setCell ⟨w.heap.size+1,0,none⟩ (.int .i64 (Ls.wQv l))).setCell ⟨w.heap.size+1,1,none⟩ (.func (.func f) #[] caps))):=by
      refine hI5.ret HN.out (by omega) (by omega) (PlanV.mono (fun k hk=>⟨hk.1,by have:=hk.2;omega⟩) (fun k hk=>hl5.grown.block k (by have:=hk.2;omega) (by have:=hk.1;simp;omega)) _ _ HP4.out)
     clear hx5 hI5 hcl;go_wp2_with fail;exact bodyPost_ret (v:=B9 (Ls.wQv l) (.func (.func f) #[] caps)) (by simp[results,Tryz.results137,go_sem,r0,r1]) rfl HP.out
    | false=>
     have HN:Hid (F8 (Ls.wQy (12-z)) (rest s i)=.none):=kQy Hr.out H126.out hse;have hcl:=aQ2 rb s j (z+1) 41 a1 w4 HI4.out.lies (HI4.out.env HE.out) (by omega) (by omega) hse;clear hse;go_wp2_with fail;refine hcl.mono ?_;rintro e w5 ⟨rfl,hg⟩;go_wp2_with fail;exact⟨rfl,.inr ⟨HN.out,rfl,HI4.out.threw rfl hg⟩⟩
   | true=>
    have hsk:=Q0 rb s j (z+1) 126 w3 HI3.out.lies (by omega) h126;have H126:Hid (A5 s j 126=true):=h126;have hj1:=(C6 h126).1;clear h126;go_wp2_with fail;refine hsk.mono ?_;rintro e w4 ⟨rfl,hl4⟩;have hI4:=HI3.out.go hl4;have hx4:=HX3.out.of (hl4.grown.block _ (by omega) (by simp;omega));have b4:=hI4.cell;have hz4:=hl4.grown.size;obtain⟨x0,x1,y0,y1⟩:=hx4.two;have HX4:Hid (Blk w4 w2.heap.size #[.int .i64 (Ls.wQv l),.func (.func f) #[] caps] 121):=hx4;have HI4:Hid (Inp w rb s (j+1) (z+1) w4):=hI4;have HP4:Hid (PlanV w4 (fun k=>w.heap.size+1<k/\k<w2.heap.size) l (.func (.func f) #[] caps)):=PlanV.mono (fun k hk=>hk) (fun k hk=>hl4.grown.block k (by have:=hk.2;omega) (by have:=hk.1;simp;omega)) _ _ HP3.out;clear hx4 hI4 b3 hsk hl4;have HL2:Hid (∀W,Below w4.heap.size w4 W->Calls Tryz.prog 97 #[C3 rb] W fun e w'=>
      (∃m k g daps,Ls.wQy (12-z) (rest s (j+1))=some (m,rest s k)/\j+1+Ls.wQv m<=k/\k<=s.size/\e=.returned (B9 (Ls.wQv m) (.func (.func g) #[] daps))/\Inp w rb s k (z+1) w'/\Blk w' w2.heap.size #[.int .i64 (Ls.wQv l),.func (.func f) #[] caps] 121/\w4.heap.size<=w'.heap.size/\
       PlanV w' (fun q=>w.heap.size+1<q/\q<w'.heap.size/\q≠w2.heap.size) l (.func (.func f) #[] caps)/\PlanV w' (fun q=>w.heap.size+1<q/\q<w'.heap.size/\q≠w2.heap.size) m (.func (.func g) #[] daps))\/
      (Ls.wQy (12-z) (rest s (j+1))=.none/\G8 w rb a1 e w')):=by
     intro W hW;have hJ:=HI4.out.below hW;have hWz:=hW.size;refine(HL.out rb (j+1) W hJ.lies (hJ.env HE.out) (by omega)).mono ?_;rintro e w' (⟨m,k,g,daps,hr2,h1,h2,rfl,hp2,hl2⟩|⟨hr2,rfl,hg⟩)
     ·rw[show 13-(z+1)=12-z from by omega]at hr2
      have hgz:=hl2.grown.size;refine .inl ⟨m,k,g,daps,hr2,h1,h2,rfl,hJ.go hl2,(HX4.out.below hW (by omega)).of (hl2.grown.block _ (by omega) (by simp;omega)),by omega,PlanV.mono (fun q hq=>⟨hq.1,by have:=hq.2;omega,by have:=hq.2;omega⟩) (fun q hq=>?_) _ _ HP4.out,PlanV.mono (fun q hq=>⟨by have:=hq.1;omega,hq.2,by have:=hq.1;omega⟩) (fun _ _=>rfl) _ _ hp2⟩;rw[hl2.grown.block q (by have:=hq.2;omega) (by have:=hq.1;simp;omega)];exact hW.block q (by have:=hq.2;omega)
     ·rw[show 13-(z+1)=12-z from by omega]at hr2
      exact .inr ⟨hr2,rfl,hJ.threw rfl hg⟩
    have HJ:Hid (∀(W:World) (m:Ls.Ln) (g:Nat) (daps:Array Value),Ls.wQv m<=120->PlanV W (fun q=>w.heap.size+1<q/\q<W.heap.size/\q≠w2.heap.size) l (.func (.func f) #[] caps)->PlanV W (fun q=>w.heap.size+1<q/\q<W.heap.size/\q≠w2.heap.size) m (.func (.func g) #[] daps)->
      Calls Tryz.prog 114 #[B9 (Ls.wQv l) (.func (.func f) #[] caps),B9 (Ls.wQv m) (.func (.func g) #[] daps),.func (.func 158) #[] #[]] W (aQs W (fun q=>w.heap.size+1<q/\q<W.heap.size/\q≠w2.heap.size) (Ls.wQv l+Ls.wQv m) ⟨4,Ls.rnil,[],[l,m]⟩)):=
     fun W m g daps hm h1 h2=>fQ4 4 (by omega) l m (Ls.wQv l) (Ls.wQv m) f g caps daps (by omega) (by omega) W _ (fun q hq=>hq.2.1) h1 h2
    go_wp2_with fail;go_region_with (first
      | (go_at_call 97;refine(HL2.out _ ?_).mono ?_;exact(Below.refl _ _).drew;rintro e w5 (⟨m,k,g,daps,hr5,hk1,hk2,rfl,hI5,hx5,hz5,hp5,hq5⟩|⟨hr5,rfl,hg5⟩);rotate_left;(go_wp2_with fail;exact⟨rfl,.inr ⟨mQr Hr.out H126.out hr5,rfl,hg5⟩⟩);have b5:=hI5.cell;obtain⟨v0,v1,v2,v3⟩:=hx5.two)
      | (go_at_call 114;refine(HJ.out _ m g daps (by omega) hp5 hq5).mono ?_;rintro e w6 ⟨g6,caps6,rfl,hp6,hb6⟩;have hI6:=hI5.below hb6;have hx6:=hx5.below hb6 (by omega);obtain⟨q0,q1,t0,t1⟩:=hx6.two))
    all_goals
     have hN:=sQl Hr.out H126.out hr5;have hz6:=hb6.size;have hx7:Blk ((w6.setCell ⟨w2.heap.size,0,none⟩ (.int .i64 ((Ls.wQv l+Ls.wQv m:Nat):Int))).setCell ⟨w2.heap.size,1,none⟩ (.func (.func g6) #[] caps6)) w2.heap.size #[.int .i64 ((Ls.wQv l+Ls.wQv m:Nat):Int),.func (.func g6) #[] caps6] 121:=by
      have:=hx6;unfold Blk at this ⊢;simp[World.setCell,Array.getElem?_modify,this]
     have hI7:Inp w rb s k (z+1) ((w6.setCell ⟨w2.heap.size,0,none⟩ (.int .i64 ((Ls.wQv l+Ls.wQv m:Nat):Int))).setCell ⟨w2.heap.size,1,none⟩ (.func (.func g6) #[] caps6)):=
      ⟨⟨hI6.inn.left.res2 (by omega) ho _ _,⟨by rw[I4 _ _ _ _ _ (by omega)];exact hI6.inn.box.lies⟩,ho⟩,hI6.res.of (I4 _ _ _ _ _ (by omega))⟩
     have hp7:PlanV ((w6.setCell ⟨w2.heap.size,0,none⟩ (.int .i64 ((Ls.wQv l+Ls.wQv m:Nat):Int))).setCell ⟨w2.heap.size,1,none⟩ (.func (.func g6) #[] caps6)) (fun q=>w.heap.size+1<q/\q<w6.heap.size/\q≠w2.heap.size) (Ls.wQ5 l m) (.func (.func g6) #[] caps6):=
      PlanV.mono (fun q hq=>by
       rcases hq with hq|hq
       ·exact⟨hq.1,by have:=hq.2.1;omega,hq.2.2⟩
       ·exact⟨by omega,hq.2,by omega⟩) (fun q hq=>I4 _ _ _ _ _ (by
       rcases hq with hq|hq
       ·exact hq.2.2
       ·omega)) _ _ hp6
     have hz7:((w6.setCell ⟨w2.heap.size,0,none⟩ (.int .i64 ((Ls.wQv l+Ls.wQv m:Nat):Int))).setCell ⟨w2.heap.size,1,none⟩ (.func (.func g6) #[] caps6)).heap.size=w6.heap.size:=Q8 _ _ _ _;have HI7:Hid (Inp w rb s k (z+1) ((w6.setCell ⟨w2.heap.size,0,none⟩ (.int .i64 ((Ls.wQv l+Ls.wQv m:Nat):Int))).setCell ⟨w2.heap.size,1,none⟩ (.func (.func g6) #[] caps6))):=hI7;have HX7:Hid (Blk ((w6.setCell ⟨w2.heap.size,0,none⟩ (.int .i64 ((Ls.wQv l+Ls.wQv m:Nat):Int))).setCell ⟨w2.heap.size,1,none⟩ (.func (.func g6) #[] caps6)) w2.heap.size #[.int .i64 ((Ls.wQv l+Ls.wQv m:Nat):Int),.func (.func g6) #[] caps6] 121):=hx7;have HP7:Hid (PlanV ((w6.setCell ⟨w2.heap.size,0,none⟩ (.int .i64 ((Ls.wQv l+Ls.wQv m:Nat):Int))).setCell ⟨w2.heap.size,1,none⟩ (.func (.func g6) #[] caps6)) (fun q=>w.heap.size+1<q/\q<w6.heap.size/\q≠w2.heap.size) (Ls.wQ5 l m) (.func (.func g6) #[] caps6)):=hp7;have HN:Hid (F8 (Ls.wQy (12-z)) (rest s i)=if A5 s k 41=true then some (Ls.wQ5 l m,rest s (k+1)) else .none):=hN;have b7:=hI7.cell;clear hx7 hI7 hp7 hN hp6 hx6 hI6 hp5 hq5 hx5 hI5 q0 q1 t0 t1 x0 x1 y0 y1 v0 v1 v2 v3 b4 b5 hb6 hr5 HJ HL2;simp only[Int.natCast_add]at HI7 HX7 HP7 b7 hz7;generalize (w6.setCell ⟨w2.heap.size,0,none⟩ (.int .i64 ((Ls.wQv l:Int)+(Ls.wQv m:Int)))).setCell ⟨w2.heap.size,1,none⟩ (.func (.func g6) #[] caps6)=w7 at *;cases hse:A5 s k 41 with
     | true=>
      have HR:Hid (F8 (Ls.wQy (12-z)) (rest s i)=some (Ls.wQ5 l m,rest s (k+1))):=by show _=_;rw[HN.out,if_pos hse]
      have hk3:=(C6 hse).1;have hcl:=cQk rb s k z 41 w7 HI7.out.lies (by omega) (by omega) hse;clear hse HN;go_wp2_with fail;refine hcl.mono ?_;rintro e w8 ⟨rfl,hl8⟩;have hI8:=HI7.out.go hl8;have hx8:=HX7.out.of (hl8.grown.block _ (by omega) (by simp;omega));obtain⟨x0,x1,y0,y1⟩:=hx8.two;obtain⟨r0,r1,s0,s1⟩:=hI8.res.two;have hz8:=hl8.grown.size;have HP:Hid (PlPost w rb s i z a1 (F8 (Ls.wQy (12-z)) (rest s i)) (.returned (B9 (Ls.wQv l+Ls.wQv m) (.func (.func g6) #[] caps6))) ((w8.setCell ⟨w.heap.size+1,0,none⟩ (.int .i64 ((Ls.wQv l:Int)+(Ls.wQv m:Int)))).setCell ⟨w.heap.size+1,1,none⟩ (.func (.func g6) #[] caps6))):=by
       have:=hI8.ret (i:=i) (a1:=a1) HR.out (by rw[Ls.yQx];omega) (by omega) (PlanV.mono (fun q hq=>⟨hq.1,by have:=hq.2.1;omega⟩) (fun q hq=>hl8.grown.block q (by have:=hq.2.1;omega) (by have:=hq.1;simp;omega)) _ _ HP7.out);rw[Ls.yQx,Int.natCast_add]at this;exact this
      clear hx8 hI8 hcl;go_wp2_with fail;exact bodyPost_ret (v:=B9 (Ls.wQv l+Ls.wQv m) (.func (.func g6) #[] caps6)) (by simp[results,Tryz.results137,go_sem,r0,r1]) rfl HP.out
     | false=>
      have HR:Hid (F8 (Ls.wQy (12-z)) (rest s i)=.none):=by show _=_;rw[HN.out,hse];simp
      have hcl:=aQ2 rb s k (z+1) 41 a1 w7 HI7.out.lies (HI7.out.env HE.out) (by omega) (by omega) hse;clear hse HN;go_wp2_with fail;refine hcl.mono ?_;rintro e w8 ⟨rfl,hg⟩;go_wp2_with fail;exact⟨rfl,.inr ⟨HR.out,rfl,HI7.out.threw rfl hg⟩⟩
  ·rw[show 13-(z+1)=12-z from by omega]at hr
   have HN:Hid (F8 (Ls.wQy (12-z)) (rest s i)=.none):=kQr hr;go_wp2_with fail;exact⟨rfl,.inr ⟨HN.out,rfl,hI1.threw rfl hg⟩⟩
end Go.Proofs.YtcggfnlejalppaaGreatDoor
