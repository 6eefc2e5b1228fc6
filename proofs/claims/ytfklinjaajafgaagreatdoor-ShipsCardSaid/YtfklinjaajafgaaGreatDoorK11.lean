import Derived.Test.YtfklinjaajafgaaGreatDoorK09
import Derived.Deep.RegionHeld
set_option maxRecDepth 100000
set_option maxHeartbeats 4000000
namespace Go.Proofs.YtfklinjaajafgaaGreatDoor
open Go.RowKit
def O8 (P:List UInt8->Ls.Rd)(r:List UInt8):Ls.Rl:=
 if r.head?=some 47 then
  match Ls.dX8 P r.tail with
  | .none=>.none
  | some (d,u)=>
   match Ls.eXq u with
   | .none=>.none
   | some (ws,v)=>some (Ls.dX4 d ws,v)
 else .none
theorem bXb {d:Ls.D}(hd:dn d<=1048577)(hs:Ls.dsize d<=1048576){w:World}{G:Nat->Prop}(hG:Old w G){ty:TypeId}{x:Value}(h:Rep w G 0 d [.iface ty x]) :
  ∃ f, (∀ w, (Go.method 385 ty x "Size").run Tryz.prog w = .ok (f, x) w) /\ (∀ w, (callFunc f #[x]).run Tryz.prog w = .ok (.enter f #[x]) w) /\ ∀ W, Below w.heap.size w W -> Calls Tryz.prog f #[x] W fun e w' => e = .returned (.int .i64 (Ls.dsize d)) /\ Below w.heap.size w w' := by
 obtain⟨f,hm,hcf,hf⟩:=hQn (dn d) d (Nat.le_refl _) hd hs w G ty x hG h;refine⟨f,hm,hcf,fun W hW=>?_⟩;obtain⟨f',hm',_,hf'⟩:=hQn (dn d) d (Nat.le_refl _) hd hs W G ty x (fun k hk=>Nat.lt_of_lt_of_le (hG k hk) hW.size) (h.later hG hW);have he:f=f':=by
  have h1:=(hm w).symm.trans (hm' w);injection h1 with h1;injection h1
 subst he;refine hf'.mono ?_;rintro e w' ⟨rfl,hb⟩;exact⟨rfl,Below.join hW hb⟩
def cQ9 (s:ByteArray)(a1:Addr):Prop:=∀(z rb i:Nat) (w:World),z<=12->RB w rb s i z->Env w rb a1->i<=s.size->
 Calls Tryz.prog 150 #[D2 rb] w (PlPost w rb s i z a1 (O8 (Ls.pat (13-z)) (rest s i)))
def M4 (s:ByteArray)(j:Nat)(l:Ls.Ln):Ls.Ln:=if A7 s j 42=true then Ls.fX0 l else l
def S5 (s:ByteArray)(j:Nat):Nat:=if A7 s j 42=true then j+1 else j
theorem hQ6 (s:ByteArray)(j:Nat)(l:Ls.Ln):Ls.eXy l (rest s j)=(M4 s j l,rest s (S5 s j)):=by
 unfold Ls.eXy M4 S5;cases h:A7 s j 42 with
 | true=>rw[if_pos (C4.2 h),E3];simp
 | false=>rw[if_neg (by rw[C4,h];simp)];simp
def bQ1 (w:World)(G:Nat->Prop)(rb:Nat)(s:ByteArray)(j z:Nat)(l:Ls.Ln):Ending->World->Prop:=fun e w'=>
 ∃f caps,e=.returned (C5 (Ls.dXw (M4 s j l)) (.func (.func f) #[] caps))/\PlanV w' (fun k=>G k\/(w.heap.size<=k/\k<w'.heap.size)) (M4 s j l) (.func (.func f) #[] caps)/\RLeft w rb s (S5 s j) z w'
abbrev U7 (w:World)(rb n f:Nat)(caps:Array Value):World:=((w.alloc (G7 167 rb)).alloc (.cells #[.int .i64 n,.func (.func f) #[] caps] 130)).alloc (.cells #[.int .i64 (0:Nat),.nilFunc] 130)
theorem bXl (s:ByteArray)(hs:s.size<=120)(z rb j:Nat)(l:Ls.Ln)(f:Nat)(caps:Array Value)(w:World)(G:Nat->Prop)(hG:Old w G)(hGr:¬G rb)(h:RB w rb s j z)(hj:j<=s.size)(hn:Ls.dXw l<=120)(hp:PlanV w G l (.func (.func f) #[] caps)) :
  Calls Tryz.prog 144 #[D2 rb,C5 (Ls.dXw l) (.func (.func f) #[] caps)] w (bQ1 w G rb s j z l):=by
 have hrl:=h.lt;have hb0:Below w.heap.size w (U7 w rb (Ls.dXw l) f caps):=O5 w _ _ _;have hz0:(U7 w rb (Ls.dXw l) f caps).heap.size=w.heap.size+1+1+1:=by simp
 have hx:Blk (U7 w rb (Ls.dXw l) f caps) (w.heap.size+1) #[.int .i64 (Ls.dXw l),.func (.func f) #[] caps] 130:=by
  have:=Blk.new (w.alloc (G7 167 rb)) #[.int .i64 (Ls.dXw l),.func (.func f) #[] caps] 130;rw[World.size_alloc]at this;exact this.of (Below.heap_alloc _ _ _ (by simp))
 have hy:Blk (U7 w rb (Ls.dXw l) f caps) (w.heap.size+1+1) #[.int .i64 (0:Nat),.nilFunc] 130:=by
  have:=Blk.new ((w.alloc (G7 167 rb)).alloc (.cells #[.int .i64 (Ls.dXw l),.func (.func f) #[] caps] 130)) #[.int .i64 (0:Nat),.nilFunc] 130;rw[World.size_alloc,World.size_alloc]at this;exact this
 have hI0:In 167 w rb s j z (U7 w rb (Ls.dXw l) f caps):=((In.enter _ h).below (A5 _ _)).below (A5 _ _);have HPL:Hid (PlanV w G l (.func (.func f) #[] caps)):=hp;have HI0:Hid (In 167 w rb s j z (U7 w rb (Ls.dXw l) f caps)):=hI0;have HX:Hid (Blk (U7 w rb (Ls.dXw l) f caps) (w.heap.size+1) #[.int .i64 (Ls.dXw l),.func (.func f) #[] caps] 130):=hx;have HY:Hid (Blk (U7 w rb (Ls.dXw l) f caps) (w.heap.size+1+1) #[.int .i64 (0:Nat),.nilFunc] 130):=hy;have HB0:Hid (Below w.heap.size w (U7 w rb (Ls.dXw l) f caps)):=hb0;clear hp hI0 hx hy hb0;cases h42:A7 s j 42 with
 | false=>
  have HS:Hid (M4 s j l=l/\S5 s j=j):=by simp[Hid,M4,S5,h42]
  have hC:=U6 rb s j z 42 _ HI0.out.lies (by omega) (by omega) h42;clear h42;go_enter Tryz.func144,Tryz.ntmps144;go_wp2_with fail;refine hC.mono ?_;clear hC;generalize U7 w rb (Ls.dXw l) f caps=W0 at *;rintro e w1 ⟨rfl,hl1⟩;have hz1:=hl1.grown.size;have hx1:=HX.out.of (hl1.grown.block _ (by omega) (by simp;omega));have hy1:=HY.out.of (hl1.grown.block _ (by omega) (by simp;omega));obtain⟨x0,x1,y0,y1⟩:=hx1.two;obtain⟨r0,r1,s0,s1⟩:=hy1.two;have HP:Hid (bQ1 w G rb s j z l (.returned (C5 (Ls.dXw l) (.func (.func f) #[] caps))) ((w1.setCell ⟨w.heap.size+1+1,0,none⟩ (.int .i64 (Ls.dXw l))).setCell ⟨w.heap.size+1+1,1,none⟩ (.func (.func f) #[] caps))):=by
   unfold Hid bQ1;rw[HS.out.1,HS.out.2];refine⟨f,caps,rfl,PlanV.mono (fun k hk=>.inl hk) (fun k hk=>?_) _ _ HPL.out,((HI0.out.go hl1).left).res2 (by omega) hrl _ _⟩;have:=hG k hk;rw[K6 _ _ _ _ _ (by omega),hl1.grown.block k (by omega) (by simp;rintro rfl;exact hGr hk)];exact HB0.out.block k this
  clear hx1 hy1;go_wp2_with fail;exact bodyPost_ret (v:=C5 (Ls.dXw l) (.func (.func f) #[] caps)) (by simp[results,Tryz.results144,go_sem,r0,r1]) rfl HP.out
 | true=>
  have HS:Hid (M4 s j l=Ls.fX0 l/\S5 s j=j+1):=by simp[Hid,M4,S5,h42]
  have hC:=Y1 rb s j z 42 _ HI0.out.lies (by omega) h42;clear h42;go_enter Tryz.func144,Tryz.ntmps144;go_wp2_with fail;refine hC.mono ?_;clear hC;generalize U7 w rb (Ls.dXw l) f caps=W0 at *;rintro e w1 ⟨rfl,hl1⟩;have hz1:=hl1.grown.size;have hx1:=HX.out.of (hl1.grown.block _ (by omega) (by simp;omega));have hy1:=HY.out.of (hl1.grown.block _ (by omega) (by simp;omega));obtain⟨x0,x1,y0,y1⟩:=hx1.two;have hp1:PlanV w1 G l (.func (.func f) #[] caps):=PlanV.mono (fun k hk=>hk) (fun k hk=>by
   have:=hG k hk;rw[hl1.grown.block k (by omega) (by simp;rintro rfl;exact hGr hk)];exact HB0.out.block k this) _ _ HPL.out
  have hA:=kQ7 6 (.inl rfl) l (Ls.dXw l) f caps (by omega) w1 G (fun k hk=>by have:=hG k hk;omega) hp1;have HI1:Hid (In 167 w rb s (j+1) z w1):=HI0.out.go hl1;have HY1:Hid (Blk w1 (w.heap.size+1+1) #[.int .i64 (0:Nat),.nilFunc] 130):=hy1;clear hx1 hy1 hp1;go_wp2_with fail;refine hA.mono ?_;rintro e w2 ⟨g,daps,rfl,hp2,hb2⟩;have hy2:=HY1.out.below hb2 (by omega);obtain⟨r0,r1,s0,s1⟩:=hy2.two;have hz2:=hb2.size;have HP:Hid (bQ1 w G rb s j z l (.returned (C5 (Ls.dXw l+1) (.func (.func g) #[] daps))) ((w2.setCell ⟨w.heap.size+1+1,0,none⟩ (.int .i64 ((Ls.dXw l+1:Nat):Int))).setCell ⟨w.heap.size+1+1,1,none⟩ (.func (.func g) #[] daps))):=by
   unfold Hid bQ1;rw[HS.out.1,HS.out.2,Ls.fX7];refine⟨g,daps,rfl,PlanV.mono (fun k hk=>?_) (fun k hk=>?_) _ _ hp2,((HI1.out.below hb2).left).res2 (by omega) hrl _ _⟩
   ·rcases hk with hk|hk
    ·exact .inl hk
    ·exact .inr ⟨by omega,by rw[U5];exact hk.2⟩
   ·rw[K6 _ _ _ _ _ ?_]
    rcases hk with hk|hk
    ·have:=hG k hk;omega
    ·omega
  clear hy2 hp2 hA;go_wp2_with fail;exact bodyPost_ret (v:=C5 (Ls.dXw l+1) (.func (.func g) #[] daps)) (by simp[results,Tryz.results144,go_sem,r0,r1]) rfl HP.out
def Y4 (s:ByteArray)(a1:Addr)(z:Nat):Prop:=∀(rb i:Nat) (w:World),RB w rb s i z->Env w rb a1->i<=s.size->
 Calls Tryz.prog 104 #[D2 rb] w (PlPost w rb s i z a1 (Ls.dXz (13-z) (rest s i)))
def R1 (Q:List UInt8->Ls.Rl)(r:List UInt8):Ls.Rl:=
 match Q r with
 | .none=>.none
 | some (a,u)=>if u.head?=some 62 then some (a,u.tail) else .none
abbrev K4 (n f:Nat)(caps:Array Value):Obj:=.cells #[.int .i64 n,.func (.func f) #[] caps] 130
theorem yQz (s:ByteArray)(hs:s.size<=120)(a1:Addr)(z:Nat)(hz:z<=12)(hL:z<=11->Y4 s a1 (z+1))(rb i:Nat)(w:World)(h:RB w rb s i z)(hE:Env w rb a1)(hi:i<=s.size) :
  Calls Tryz.prog 148 #[D2 rb] w (PlPost w rb s i z a1 (R1 (Ls.dXz (12-z)) (rest s i))):=by
 have HI0:Hid (Inp w rb s i z (I0 w rb)):=Inp.enter h;have hz0:(I0 w rb).heap.size=w.heap.size+1+1:=by simp
 have HE:Hid (Env w rb a1):=hE
 by_cases h12:z=12
 ·subst h12
  have HN:Hid (R1 (Ls.dXz (12-12)) (rest s i)=.none):=rfl;have hO:=gQ1 rb s i a1 _ HI0.out.lies (HI0.out.env hE);go_enter Tryz.func148,Tryz.ntmps148;go_wp2_with fail;refine hO.mono ?_;rintro e w3 ⟨rfl,hg⟩;go_wp2_with fail;exact⟨rfl,.inr ⟨HN.out,rfl,HI0.out.threw rfl hg⟩⟩
 ·have HL:Hid (Y4 s a1 (z+1)):=hL (by omega)
  have hO:=gQ2 rb s i z _ HI0.out.lies (by omega);clear hL hE h;go_enter Tryz.func148,Tryz.ntmps148;go_wp2_with fail;refine hO.mono ?_;rintro e w1 ⟨rfl,hl1⟩;have hI1:=HI0.out.go hl1;have b1:=hI1.cell;clear hO;go_wp2_with fail;refine(HL.out rb i w1 hI1.lies (hI1.env HE.out) hi).mono ?_;rintro e w2 (⟨l,j,f,caps,hr,hij,hj,rfl,hp,hl2⟩|⟨hr,rfl,hg⟩)
  ·rw[show 13-(z+1)=12-z from by omega]at hr
   have Hr:Hid (Ls.dXz (12-z) (rest s i)=some (l,rest s j)):=hr;have hI2:=hI1.go hl2;have hb3:=A5 w2 (K4 (Ls.dXw l) f caps);have hx3:Blk (w2.alloc (K4 (Ls.dXw l) f caps)) w2.heap.size #[.int .i64 (Ls.dXw l),.func (.func f) #[] caps] 130:=Blk.new w2 _ _;have hI3:=hI2.below hb3;have hz3:(w2.alloc (K4 (Ls.dXw l) f caps)).heap.size=w2.heap.size+1:=by simp
   have hz1:=hI1.size;have hz2:=hl2.grown.size;have HP3:Hid (PlanV (w2.alloc (K4 (Ls.dXw l) f caps)) (fun k=>w.heap.size+1<k/\k<w2.heap.size) l (.func (.func f) #[] caps)):=PlanV.mono (fun k hk=>⟨by have:=hk.1;omega,hk.2⟩) (fun k hk=>hb3.block k hk.2) _ _ hp;clear hr b1 hp hl2 hb3;go_upto_region 3 with (fail);generalize w2.alloc (K4 (Ls.dXw l) f caps)=w3 at *;have b3:=hI3.cell;have HX3:Hid (Blk w3 w2.heap.size #[.int .i64 (Ls.dXw l),.func (.func f) #[] caps] 130):=hx3;have HI3:Hid (Inp w rb s j (z+1) w3):=hI3;have ho:=hI3.inn.old;clear hx3 hI3 hI2 hI1;cases hse:A7 s j 62 with
   | true=>
    have HN:Hid (R1 (Ls.dXz (12-z)) (rest s i)=some (l,rest s (j+1))):=by
     show _=_;unfold R1;rw[Hr.out];dsimp only
     rw[if_pos (C4.2 hse),E3]
    have hj2:=(D6 hse).1;have hcl:=dQs rb s j z 62 w3 HI3.out.lies (by omega) (by omega) hse;clear hse;go_wp2_with fail;refine hcl.mono ?_;rintro e w4 ⟨rfl,hl4⟩;have hI4:=HI3.out.go hl4;have hx4:=HX3.out.of (hl4.grown.block _ (by omega) (by simp;omega));obtain⟨x0,x1,y0,y1⟩:=hx4.two;obtain⟨r0,r1,s0,s1⟩:=hI4.res.two;have hz4:=hl4.grown.size;have HP:Hid (PlPost w rb s i z a1 (R1 (Ls.dXz (12-z)) (rest s i)) (.returned (C5 (Ls.dXw l) (.func (.func f) #[] caps))) ((w4.setCell ⟨w.heap.size+1,0,none⟩ (.int .i64 (Ls.dXw l))).setCell ⟨w.heap.size+1,1,none⟩ (.func (.func f) #[] caps))):=by
     refine hI4.ret HN.out (by omega) (by omega) (PlanV.mono (fun k hk=>⟨hk.1,by have:=hk.2;omega⟩) (fun k hk=>hl4.grown.block k (by have:=hk.2;omega) (by have:=hk.1;simp;omega)) _ _ HP3.out)
    clear hx4 hI4 hcl;go_wp2_with fail;exact bodyPost_ret (v:=C5 (Ls.dXw l) (.func (.func f) #[] caps)) (by simp[results,Tryz.results148,go_sem,r0,r1]) rfl HP.out
   | false=>
    have HN:Hid (R1 (Ls.dXz (12-z)) (rest s i)=.none):=by
     show _=_;unfold R1;rw[Hr.out];dsimp only
     rw[if_neg (by rw[C4,hse];simp)]
    have hcl:=dQr rb s j (z+1) 62 a1 w3 HI3.out.lies (HI3.out.env HE.out) (by omega) (by omega) hse;clear hse;go_wp2_with fail;refine hcl.mono ?_;rintro e w4 ⟨rfl,hg⟩;go_wp2_with fail;exact⟨rfl,.inr ⟨HN.out,rfl,HI3.out.threw rfl hg⟩⟩
  ·rw[show 13-(z+1)=12-z from by omega]at hr
   have HN:Hid (R1 (Ls.dXz (12-z)) (rest s i)=.none):=by
    show _=_;unfold R1;rw[hr]
   go_wp2_with fail;exact⟨rfl,.inr ⟨HN.out,rfl,hI1.threw rfl hg⟩⟩
def I4 (Q:List UInt8->Ls.Rl)(r:List UInt8):Ls.Rl:=
 match Q r with
 | .none=>.none
 | some (a,u)=>
  if u.head?=some 126 then
   match Q u.tail with
   | .none=>.none
   | some (b,v)=>if v.head?=some 41 then some (Ls.dX1 a b,v.tail) else .none
  else if u.head?=some 41 then some (a,u.tail) else .none
theorem aXm {Q:List UInt8->Ls.Rl}{r:List UInt8}(h:Q r=.none):I4 Q r=.none:=by
 unfold I4;rw[h]
section
variable {Q:List UInt8->Ls.Rl} {r:List UInt8} {s:ByteArray} {l:Ls.Ln} {j:Nat}
theorem aXo (h:Q r=some (l,rest s j))(h1:A7 s j 126=false)(h2:A7 s j 41=true):I4 Q r=some (l,rest s (j+1)):=by
 unfold I4;rw[h];dsimp only
 rw[if_neg (by rw[C4,h1];simp),if_pos (C4.2 h2),E3]
theorem aXn (h:Q r=some (l,rest s j))(h1:A7 s j 126=false)(h2:A7 s j 41=false):I4 Q r=.none:=by
 unfold I4;rw[h];dsimp only
 rw[if_neg (by rw[C4,h1];simp),if_neg (by rw[C4,h2];simp)]
theorem aXg (h:Q r=some (l,rest s j))(h1:A7 s j 126=true)(h2:Q (rest s (j+1))=.none):I4 Q r=.none:=by
 unfold I4;rw[h];dsimp only
 rw[if_pos (C4.2 h1),E3,h2]
theorem aXu (h:Q r=some (l,rest s j))(h1:A7 s j 126=true){m:Ls.Ln}{k:Nat}(h2:Q (rest s (j+1))=some (m,rest s k)):I4 Q r=if A7 s k 41=true then some (Ls.dX1 l m,rest s (k+1)) else .none:=by
 unfold I4;rw[h];dsimp only
 rw[if_pos (C4.2 h1),E3,h2];dsimp only
 cases h3:A7 s k 41 with
 | true=>rw[if_pos (C4.2 h3),E3];simp
 | false=>rw[if_neg (by rw[C4,h3];simp)];simp
end
theorem aXf (s:ByteArray)(hs:s.size<=120)(a1:Addr)(z:Nat)(hz:z<=12)(hL:z<=11->Y4 s a1 (z+1))(rb i:Nat)(w:World)(h:RB w rb s i z)(hE:Env w rb a1)(hi:i<=s.size) :
  Calls Tryz.prog 146 #[D2 rb] w (PlPost w rb s i z a1 (I4 (Ls.dXz (12-z)) (rest s i))):=by
 have HI0:Hid (Inp w rb s i z (I0 w rb)):=Inp.enter h;have hz0:(I0 w rb).heap.size=w.heap.size+1+1:=by simp
 have HE:Hid (Env w rb a1):=hE
 by_cases h12:z=12
 ·subst h12
  have HN:Hid (I4 (Ls.dXz (12-12)) (rest s i)=.none):=rfl;have hO:=gQ1 rb s i a1 _ HI0.out.lies (HI0.out.env hE);go_enter Tryz.func146,Tryz.ntmps146;go_wp2_with fail;refine hO.mono ?_;rintro e w3 ⟨rfl,hg⟩;go_wp2_with fail;exact⟨rfl,.inr ⟨HN.out,rfl,HI0.out.threw rfl hg⟩⟩
 ·have HL:Hid (Y4 s a1 (z+1)):=hL (by omega)
  have hO:=gQ2 rb s i z _ HI0.out.lies (by omega);clear hL hE h;go_enter Tryz.func146,Tryz.ntmps146;go_wp2_with fail;refine hO.mono ?_;rintro e w1 ⟨rfl,hl1⟩;have hI1:=HI0.out.go hl1;have b1:=hI1.cell;clear hO;go_wp2_with fail;refine(HL.out rb i w1 hI1.lies (hI1.env HE.out) hi).mono ?_;rintro e w2 (⟨l,j,f,caps,hr,hij,hj,rfl,hp,hl2⟩|⟨hr,rfl,hg⟩)
  ·rw[show 13-(z+1)=12-z from by omega]at hr
   have Hr:Hid (Ls.dXz (12-z) (rest s i)=some (l,rest s j)):=hr;have hI2:=hI1.go hl2;have hb3:=A5 w2 (K4 (Ls.dXw l) f caps);have hx3:Blk (w2.alloc (K4 (Ls.dXw l) f caps)) w2.heap.size #[.int .i64 (Ls.dXw l),.func (.func f) #[] caps] 130:=Blk.new w2 _ _;have hI3:=hI2.below hb3;have hz3:(w2.alloc (K4 (Ls.dXw l) f caps)).heap.size=w2.heap.size+1:=by simp
   have hz1:=hI1.size;have hz2:=hl2.grown.size;have HP3:Hid (PlanV (w2.alloc (K4 (Ls.dXw l) f caps)) (fun k=>w.heap.size+1<k/\k<w2.heap.size) l (.func (.func f) #[] caps)):=PlanV.mono (fun k hk=>⟨by have:=hk.1;omega,hk.2⟩) (fun k hk=>hb3.block k hk.2) _ _ hp;clear hr b1 hp hl2 hb3;go_upto_region 3 with (fail);generalize w2.alloc (K4 (Ls.dXw l) f caps)=w3 at *;have b3:=hI3.cell;have HX3:Hid (Blk w3 w2.heap.size #[.int .i64 (Ls.dXw l),.func (.func f) #[] caps] 130):=hx3;have HI3:Hid (Inp w rb s j (z+1) w3):=hI3;have ho:=hI3.inn.old;clear hx3 hI3 hI2 hI1;cases h126:A7 s j 126 with
   | false=>
    have hsk:=U6 rb s j (z+1) 126 w3 HI3.out.lies (by omega) (by omega) h126;have H126:Hid (A7 s j 126=false):=h126;clear h126;go_wp2_with fail;refine hsk.mono ?_;rintro e w4 ⟨rfl,hl4⟩;have hI4:=HI3.out.go hl4;have hx4:=HX3.out.of (hl4.grown.block _ (by omega) (by simp;omega));have b4:=hI4.cell;have hz4:=hl4.grown.size;have HX4:Hid (Blk w4 w2.heap.size #[.int .i64 (Ls.dXw l),.func (.func f) #[] caps] 130):=hx4;have HI4:Hid (Inp w rb s j (z+1) w4):=hI4;have HP4:Hid (PlanV w4 (fun k=>w.heap.size+1<k/\k<w2.heap.size) l (.func (.func f) #[] caps)):=PlanV.mono (fun k hk=>hk) (fun k hk=>hl4.grown.block k (by have:=hk.2;omega) (by have:=hk.1;simp;omega)) _ _ HP3.out;clear hx4 hI4 b3 hsk hl4;cases hse:A7 s j 41 with
    | true=>
     have HN:Hid (I4 (Ls.dXz (12-z)) (rest s i)=some (l,rest s (j+1))):=aXo Hr.out H126.out hse;have hj2:=(D6 hse).1;have hcl:=dQs rb s j z 41 w4 HI4.out.lies (by omega) (by omega) hse;clear hse;go_wp2_with fail;refine hcl.mono ?_;rintro e w5 ⟨rfl,hl5⟩;have hI5:=HI4.out.go hl5;have hx5:=HX4.out.of (hl5.grown.block _ (by omega) (by simp;omega));obtain⟨x0,x1,y0,y1⟩:=hx5.two;obtain⟨r0,r1,s0,s1⟩:=hI5.res.two;have hz5:=hl5.grown.size;have HP:Hid (PlPost w rb s i z a1 (I4 (Ls.dXz (12-z)) (rest s i)) (.returned (C5 (Ls.dXw l) (.func (.func f) #[] caps))) ((w5.setCell ⟨w.heap.size+1,0,none⟩ (.int .i64 (Ls.dXw l))).setCell ⟨w.heap.size+1,1,none⟩ (.func (.func f) #[] caps))):=by
      refine hI5.ret HN.out (by omega) (by omega) (PlanV.mono (fun k hk=>⟨hk.1,by have:=hk.2;omega⟩) (fun k hk=>hl5.grown.block k (by have:=hk.2;omega) (by have:=hk.1;simp;omega)) _ _ HP4.out)
     clear hx5 hI5 hcl;go_wp2_with fail;exact bodyPost_ret (v:=C5 (Ls.dXw l) (.func (.func f) #[] caps)) (by simp[results,Tryz.results146,go_sem,r0,r1]) rfl HP.out
    | false=>
     have HN:Hid (I4 (Ls.dXz (12-z)) (rest s i)=.none):=aXn Hr.out H126.out hse;have hcl:=dQr rb s j (z+1) 41 a1 w4 HI4.out.lies (HI4.out.env HE.out) (by omega) (by omega) hse;clear hse;go_wp2_with fail;refine hcl.mono ?_;rintro e w5 ⟨rfl,hg⟩;go_wp2_with fail;exact⟨rfl,.inr ⟨HN.out,rfl,HI4.out.threw rfl hg⟩⟩
   | true=>
    have hsk:=Y1 rb s j (z+1) 126 w3 HI3.out.lies (by omega) h126;have H126:Hid (A7 s j 126=true):=h126;have hj1:=(D6 h126).1;clear h126;go_wp2_with fail;refine hsk.mono ?_;rintro e w4 ⟨rfl,hl4⟩;have hI4:=HI3.out.go hl4;have hx4:=HX3.out.of (hl4.grown.block _ (by omega) (by simp;omega));have b4:=hI4.cell;have hz4:=hl4.grown.size;obtain⟨x0,x1,y0,y1⟩:=hx4.two;have HX4:Hid (Blk w4 w2.heap.size #[.int .i64 (Ls.dXw l),.func (.func f) #[] caps] 130):=hx4;have HI4:Hid (Inp w rb s (j+1) (z+1) w4):=hI4;have HP4:Hid (PlanV w4 (fun k=>w.heap.size+1<k/\k<w2.heap.size) l (.func (.func f) #[] caps)):=PlanV.mono (fun k hk=>hk) (fun k hk=>hl4.grown.block k (by have:=hk.2;omega) (by have:=hk.1;simp;omega)) _ _ HP3.out;clear hx4 hI4 b3 hsk hl4;have HL2:Hid (∀W,Below w4.heap.size w4 W->Calls Tryz.prog 104 #[D2 rb] W fun e w'=>
      (∃m k g daps,Ls.dXz (12-z) (rest s (j+1))=some (m,rest s k)/\j+1+Ls.dXw m<=k/\k<=s.size/\e=.returned (C5 (Ls.dXw m) (.func (.func g) #[] daps))/\Inp w rb s k (z+1) w'/\Blk w' w2.heap.size #[.int .i64 (Ls.dXw l),.func (.func f) #[] caps] 130/\w4.heap.size<=w'.heap.size/\
       PlanV w' (fun q=>w.heap.size+1<q/\q<w'.heap.size/\q≠w2.heap.size) l (.func (.func f) #[] caps)/\PlanV w' (fun q=>w.heap.size+1<q/\q<w'.heap.size/\q≠w2.heap.size) m (.func (.func g) #[] daps))\/
      (Ls.dXz (12-z) (rest s (j+1))=.none/\J7 w rb a1 e w')):=by
     intro W hW;have hJ:=HI4.out.below hW;have hWz:=hW.size;refine(HL.out rb (j+1) W hJ.lies (hJ.env HE.out) (by omega)).mono ?_;rintro e w' (⟨m,k,g,daps,hr2,h1,h2,rfl,hp2,hl2⟩|⟨hr2,rfl,hg⟩)
     ·rw[show 13-(z+1)=12-z from by omega]at hr2
      have hgz:=hl2.grown.size;refine .inl ⟨m,k,g,daps,hr2,h1,h2,rfl,hJ.go hl2,(HX4.out.below hW (by omega)).of (hl2.grown.block _ (by omega) (by simp;omega)),by omega,PlanV.mono (fun q hq=>⟨hq.1,by have:=hq.2;omega,by have:=hq.2;omega⟩) (fun q hq=>?_) _ _ HP4.out,PlanV.mono (fun q hq=>⟨by have:=hq.1;omega,hq.2,by have:=hq.1;omega⟩) (fun _ _=>rfl) _ _ hp2⟩;rw[hl2.grown.block q (by have:=hq.2;omega) (by have:=hq.1;simp;omega)];exact hW.block q (by have:=hq.2;omega)
     ·rw[show 13-(z+1)=12-z from by omega]at hr2
      exact .inr ⟨hr2,rfl,hJ.threw rfl hg⟩
    have HJ:Hid (∀(W:World) (m:Ls.Ln) (g:Nat) (daps:Array Value),Ls.dXw m<=120->PlanV W (fun q=>w.heap.size+1<q/\q<W.heap.size/\q≠w2.heap.size) l (.func (.func f) #[] caps)->PlanV W (fun q=>w.heap.size+1<q/\q<W.heap.size/\q≠w2.heap.size) m (.func (.func g) #[] daps)->
      Calls Tryz.prog 121 #[C5 (Ls.dXw l) (.func (.func f) #[] caps),C5 (Ls.dXw m) (.func (.func g) #[] daps),.func (.func 170) #[] #[]] W (bQ0 W (fun q=>w.heap.size+1<q/\q<W.heap.size/\q≠w2.heap.size) (Ls.dXw l+Ls.dXw m) ⟨4,Ls.rnil,[],[l,m]⟩)):=
     fun W m g daps hm h1 h2=>jQ2 4 (by omega) l m (Ls.dXw l) (Ls.dXw m) f g caps daps (by omega) (by omega) W _ (fun q hq=>hq.2.1) h1 h2
    go_wp2_with fail;go_region_with (first
      | (go_at_call 104;refine(HL2.out _ ?_).mono ?_;exact(Below.refl _ _).drew;rintro e w5 (⟨m,k,g,daps,hr5,hk1,hk2,rfl,hI5,hx5,hz5,hp5,hq5⟩|⟨hr5,rfl,hg5⟩);rotate_left;(go_wp2_with fail;exact⟨rfl,.inr ⟨aXg Hr.out H126.out hr5,rfl,hg5⟩⟩);have b5:=hI5.cell;obtain⟨v0,v1,v2,v3⟩:=hx5.two)
      | (go_at_call 121;refine(HJ.out _ m g daps (by omega) hp5 hq5).mono ?_;rintro e w6 ⟨g6,caps6,rfl,hp6,hb6⟩;have hI6:=hI5.below hb6;have hx6:=hx5.below hb6 (by omega);obtain⟨q0,q1,t0,t1⟩:=hx6.two))
    all_goals
     have hN:=aXu Hr.out H126.out hr5;have hz6:=hb6.size;have hx7:Blk ((w6.setCell ⟨w2.heap.size,0,none⟩ (.int .i64 ((Ls.dXw l+Ls.dXw m:Nat):Int))).setCell ⟨w2.heap.size,1,none⟩ (.func (.func g6) #[] caps6)) w2.heap.size #[.int .i64 ((Ls.dXw l+Ls.dXw m:Nat):Int),.func (.func g6) #[] caps6] 130:=by
      have:=hx6;unfold Blk at this ⊢;simp[World.setCell,Array.getElem?_modify,this]
     have hI7:Inp w rb s k (z+1) ((w6.setCell ⟨w2.heap.size,0,none⟩ (.int .i64 ((Ls.dXw l+Ls.dXw m:Nat):Int))).setCell ⟨w2.heap.size,1,none⟩ (.func (.func g6) #[] caps6)):=
      ⟨⟨hI6.inn.left.res2 (by omega) ho _ _,⟨by rw[K6 _ _ _ _ _ (by omega)];exact hI6.inn.box.lies⟩,ho⟩,hI6.res.of (K6 _ _ _ _ _ (by omega))⟩
     have hp7:PlanV ((w6.setCell ⟨w2.heap.size,0,none⟩ (.int .i64 ((Ls.dXw l+Ls.dXw m:Nat):Int))).setCell ⟨w2.heap.size,1,none⟩ (.func (.func g6) #[] caps6)) (fun q=>w.heap.size+1<q/\q<w6.heap.size/\q≠w2.heap.size) (Ls.dX1 l m) (.func (.func g6) #[] caps6):=
      PlanV.mono (fun q hq=>by
       rcases hq with hq|hq
       ·exact⟨hq.1,by have:=hq.2.1;omega,hq.2.2⟩
       ·exact⟨by omega,hq.2,by omega⟩) (fun q hq=>K6 _ _ _ _ _ (by
       rcases hq with hq|hq
       ·exact hq.2.2
       ·omega)) _ _ hp6
     have hz7:((w6.setCell ⟨w2.heap.size,0,none⟩ (.int .i64 ((Ls.dXw l+Ls.dXw m:Nat):Int))).setCell ⟨w2.heap.size,1,none⟩ (.func (.func g6) #[] caps6)).heap.size=w6.heap.size:=U5 _ _ _ _;have HI7:Hid (Inp w rb s k (z+1) ((w6.setCell ⟨w2.heap.size,0,none⟩ (.int .i64 ((Ls.dXw l+Ls.dXw m:Nat):Int))).setCell ⟨w2.heap.size,1,none⟩ (.func (.func g6) #[] caps6))):=hI7;have HX7:Hid (Blk ((w6.setCell ⟨w2.heap.size,0,none⟩ (.int .i64 ((Ls.dXw l+Ls.dXw m:Nat):Int))).setCell ⟨w2.heap.size,1,none⟩ (.func (.func g6) #[] caps6)) w2.heap.size #[.int .i64 ((Ls.dXw l+Ls.dXw m:Nat):Int),.func (.func g6) #[] caps6] 130):=hx7;have HP7:Hid (PlanV ((w6.setCell ⟨w2.heap.size,0,none⟩ (.int .i64 ((Ls.dXw l+Ls.dXw m:Nat):Int))).setCell ⟨w2.heap.size,1,none⟩ (.func (.func g6) #[] caps6)) (fun q=>w.heap.size+1<q/\q<w6.heap.size/\q≠w2.heap.size) (Ls.dX1 l m) (.func (.func g6) #[] caps6)):=hp7;have HN:Hid (I4 (Ls.dXz (12-z)) (rest s i)=if A7 s k 41=true then some (Ls.dX1 l m,rest s (k+1)) else .none):=hN;have b7:=hI7.cell;clear hx7 hI7 hp7 hN hp6 hx6 hI6 hp5 hq5 hx5 hI5 q0 q1 t0 t1 x0 x1 y0 y1 v0 v1 v2 v3 b4 b5 hb6 hr5 HJ HL2;simp only[Int.natCast_add]at HI7 HX7 HP7 b7 hz7;generalize (w6.setCell ⟨w2.heap.size,0,none⟩ (.int .i64 ((Ls.dXw l:Int)+(Ls.dXw m:Int)))).setCell ⟨w2.heap.size,1,none⟩ (.func (.func g6) #[] caps6)=w7 at *;cases hse:A7 s k 41 with
     | true=>
      have HR:Hid (I4 (Ls.dXz (12-z)) (rest s i)=some (Ls.dX1 l m,rest s (k+1))):=by show _=_;rw[HN.out,if_pos hse]
      have hk3:=(D6 hse).1;have hcl:=dQs rb s k z 41 w7 HI7.out.lies (by omega) (by omega) hse;clear hse HN;go_wp2_with fail;refine hcl.mono ?_;rintro e w8 ⟨rfl,hl8⟩;have hI8:=HI7.out.go hl8;have hx8:=HX7.out.of (hl8.grown.block _ (by omega) (by simp;omega));obtain⟨x0,x1,y0,y1⟩:=hx8.two;obtain⟨r0,r1,s0,s1⟩:=hI8.res.two;have hz8:=hl8.grown.size;have HP:Hid (PlPost w rb s i z a1 (I4 (Ls.dXz (12-z)) (rest s i)) (.returned (C5 (Ls.dXw l+Ls.dXw m) (.func (.func g6) #[] caps6))) ((w8.setCell ⟨w.heap.size+1,0,none⟩ (.int .i64 ((Ls.dXw l:Int)+(Ls.dXw m:Int)))).setCell ⟨w.heap.size+1,1,none⟩ (.func (.func g6) #[] caps6))):=by
       have:=hI8.ret (i:=i) (a1:=a1) HR.out (by rw[Ls.fX6];omega) (by omega) (PlanV.mono (fun q hq=>⟨hq.1,by have:=hq.2.1;omega⟩) (fun q hq=>hl8.grown.block q (by have:=hq.2.1;omega) (by have:=hq.1;simp;omega)) _ _ HP7.out);rw[Ls.fX6,Int.natCast_add]at this;exact this
      clear hx8 hI8 hcl;go_wp2_with fail;exact bodyPost_ret (v:=C5 (Ls.dXw l+Ls.dXw m) (.func (.func g6) #[] caps6)) (by simp[results,Tryz.results146,go_sem,r0,r1]) rfl HP.out
     | false=>
      have HR:Hid (I4 (Ls.dXz (12-z)) (rest s i)=.none):=by show _=_;rw[HN.out,hse];simp
      have hcl:=dQr rb s k (z+1) 41 a1 w7 HI7.out.lies (HI7.out.env HE.out) (by omega) (by omega) hse;clear hse HN;go_wp2_with fail;refine hcl.mono ?_;rintro e w8 ⟨rfl,hg⟩;go_wp2_with fail;exact⟨rfl,.inr ⟨HR.out,rfl,HI7.out.threw rfl hg⟩⟩
  ·rw[show 13-(z+1)=12-z from by omega]at hr
   have HN:Hid (I4 (Ls.dXz (12-z)) (rest s i)=.none):=aXm hr;go_wp2_with fail;exact⟨rfl,.inr ⟨HN.out,rfl,hI1.threw rfl hg⟩⟩
end Go.Proofs.YtfklinjaajafgaaGreatDoor
