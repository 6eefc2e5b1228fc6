import Derived.Test.YtfklinjaajafgaaGreatDoorK11
set_option maxRecDepth 100000
set_option maxHeartbeats 4000000
namespace Go.Proofs.YtfklinjaajafgaaGreatDoor
open Go.RowKit
def z8 (w:World)(rb:Nat)(s:ByteArray)(i z:Nat)(a1:Addr)(res:Ls.Rl):Ending->World->Prop:=fun e w'=>
 (∃l j f caps,res=some (l,rest s j)/\i+Ls.dXw l<=j/\j<=s.size/\e=.returned (C5 (Ls.dXw l) (.func (.func f) #[] caps))/\Inp w rb s j z w'/\PlanV w' (fun q=>w.heap.size+1<q/\q<w'.heap.size) l (.func (.func f) #[] caps))\/
 (res=.none/\J7 w rb a1 e w')
theorem PlPost.mid {w W:World}{rb:Nat}{s:ByteArray}{i i0 z z0:Nat}{a1:Addr}{res:Ls.Rl}{e:Ending}{w':World}(h:PlPost W rb s i z a1 res e w')(hI:Inp w rb s i0 z0 W):z8 w rb s i z a1 res e w':=by
 have hz:=hI.size;rcases h with⟨l,j,f,caps,hr,h1,h2,he,hp,hl⟩|⟨hr,he,hg⟩
 ·exact .inl ⟨l,j,f,caps,hr,h1,h2,he,hI.go hl,PlanV.mono (fun q hq=>⟨Nat.lt_of_lt_of_le hz hq.1,hq.2⟩) (fun _ _=>rfl) _ _ hp⟩
 ·exact .inr ⟨hr,he,hI.threw rfl hg⟩
theorem mQs {s:ByteArray}{j:Nat}(l:Ls.Ln)(hj:j<=s.size):j+Ls.dXw (M4 s j l)<=S5 s j+Ls.dXw l/\j<=S5 s j/\S5 s j<=s.size:=by
 unfold M4 S5;cases h:A7 s j 42 with
 | true=>
  have:=(D6 h).1;simp only[if_true];rw[Ls.fX7];omega
 | false=>simp[hj]
theorem mQt (s:ByteArray)(hs:s.size<=120)(z rb j:Nat)(l:Ls.Ln)(f:Nat)(caps:Array Value)(w W:World)(hI:Inp w rb s j z W)(hj:j<=s.size)(hn:Ls.dXw l<=120)(hp:PlanV W (fun q=>w.heap.size+1<q/\q<W.heap.size) l (.func (.func f) #[] caps)) :
  Calls Tryz.prog 144 #[D2 rb,C5 (Ls.dXw l) (.func (.func f) #[] caps)] W fun e w'=>
   ∃g daps,e=.returned (C5 (Ls.dXw (M4 s j l)) (.func (.func g) #[] daps))/\Inp w rb s (S5 s j) z w'/\PlanV w' (fun q=>w.heap.size+1<q/\q<w'.heap.size) (M4 s j l) (.func (.func g) #[] daps):=by
 have ho:=hI.inn.old;have hz:=hI.size;refine(bXl s hs z rb j l f caps W _ (fun q hq=>hq.2) (fun h=>by have:=h.1;omega) hI.lies hj hn hp).mono ?_;rintro e w' ⟨g,daps,rfl,hp2,hl⟩;have hz2:=hl.grown.size;refine⟨g,daps,rfl,hI.go hl,PlanV.mono (fun q hq=>?_) (fun _ _=>rfl) _ _ hp2⟩;rcases hq with hq|hq
 ·exact⟨hq.1,by have:=hq.2;omega⟩
 ·exact⟨by have:=hq.1;omega,hq.2⟩
theorem pQr (s:ByteArray)(z rb j k:Nat)(hk:k=6\/k=7)(l:Ls.Ln)(f:Nat)(caps:Array Value)(w W:World)(hI:Inp w rb s j z W)(hn:Ls.dXw l<=120)(hp:PlanV W (fun q=>w.heap.size+1<q/\q<W.heap.size) l (.func (.func f) #[] caps)) :
  Calls Tryz.prog 147 #[C5 (Ls.dXw l) (.func (.func f) #[] caps),.func (.func (M3 k)) #[] #[]] W fun e w'=>
   ∃g daps,e=.returned (C5 (Ls.dXw l+1) (.func (.func g) #[] daps))/\Inp w rb s j z w'/\PlanV w' (fun q=>w.heap.size+1<q/\q<w'.heap.size) ⟨k,Ls.rnil,[],[l]⟩ (.func (.func g) #[] daps):=by
 have hz:=hI.size;refine(kQ7 k hk l (Ls.dXw l) f caps (by omega) W _ (fun q hq=>hq.2) hp).mono ?_;rintro e w' ⟨g,daps,rfl,hp2,hb⟩;have hz2:=hb.size;refine⟨g,daps,rfl,hI.below hb,PlanV.mono (fun q hq=>?_) (fun _ _=>rfl) _ _ hp2⟩;rcases hq with hq|hq
 ·exact⟨hq.1,by have:=hq.2;omega⟩
 ·exact⟨by have:=hq.1;omega,hq.2⟩
section
variable {P:List UInt8->Ls.Rd} {Q:List UInt8->Ls.Rl} {s:ByteArray} {i:Nat}
theorem yQ0 (hi:i<s.size)(hc:nx s i=47):Ls.dX9 P Q (rest s i)=match X0 P (rest s (i+1)) with|.none=>.none|some (l,u)=>some (Ls.eXy l u):=by
 rw[D3 hi,hc,Ls.dX9,if_pos rfl];unfold X0;cases h:Ls.dX8 P (rest s (i+1)) with
 | none=>rfl
 | some q=>obtain⟨d,u⟩:=q;rfl
theorem yQ4 (hi:i<s.size)(hc:nx s i=40):Ls.dX9 P Q (rest s i)=match I4 Q (rest s (i+1)) with|.none=>.none|some (l,u)=>some (Ls.eXy l u):=by
 rw[D3 hi,hc,Ls.dX9,if_neg (by decide),if_neg (by decide),if_neg (by decide),if_neg (by decide),if_pos rfl];unfold I4;cases h:Q (rest s (i+1)) with
 | none=>rfl
 | some q=>
  obtain⟨a,u⟩:=q;dsimp only
  by_cases h1:u.head?=some 126
  ·rw[if_pos h1,if_pos h1]
   cases h2:Q u.tail with
   | none=>rfl
   | some q2=>
    obtain⟨b,v⟩:=q2;dsimp only
    by_cases h3:v.head?=some 41
    ·rw[if_pos h3,if_pos h3]
    ·rw[if_neg h3,if_neg h3]
  ·rw[if_neg h1,if_neg h1]
   by_cases h3:u.head?=some 41
   ·rw[if_pos h3,if_pos h3]
   ·rw[if_neg h3,if_neg h3]
theorem yQa (hi:i<s.size)(hc:nx s i=60):Ls.dX9 P Q (rest s i)=match R1 Q (rest s (i+1)) with|.none=>.none|some (l,u)=>some (Ls.fXf l,u):=by
 rw[D3 hi,hc,Ls.dX9,if_neg (by decide),if_neg (by decide),if_neg (by decide),if_pos rfl];unfold R1;cases h:Q (rest s (i+1)) with
 | none=>rfl
 | some q=>
  obtain⟨a,u⟩:=q;dsimp only
  by_cases h1:u.head?=some 62
  ·rw[if_pos h1,if_pos h1]
  ·rw[if_neg h1,if_neg h1]
theorem yQ2 (hi:i<s.size)(hc:nx s i=45):Ls.dX9 P Q (rest s i)=O8 P (rest s (i+1)):=by
 rw[D3 hi,hc,Ls.dX9,if_neg (by decide),if_pos rfl];rfl
theorem yQ3 (hi:i<s.size)(hc:nx s i=43):Ls.dX9 P Q (rest s i)=Z5 (rest s (i+1)):=by
 rw[D3 hi,hc,Ls.dX9,if_neg (by decide),if_neg (by decide),if_pos rfl];rfl
theorem xQ8 (hi:i<s.size)(h1:nx s i≠47)(h2:nx s i≠40)(h3:nx s i≠60)(h4:nx s i≠45)(h5:nx s i≠43):Ls.dX9 P Q (rest s i)=.none:=by
 rw[D3 hi,Ls.dX9,if_neg h1,if_neg h4,if_neg h5,if_neg h3,if_neg h2]
end
def fQg (s:ByteArray)(a1:Addr)(z:Nat):Prop:=∀(rb i:Nat) (w:World),RB w rb s i z->Env w rb a1->i<=s.size->
 Calls Tryz.prog 130 #[D2 rb] w (PlPost w rb s i z a1 (Ls.dX9 (Ls.pat (13-z)) (Ls.dXz (12-z)) (rest s i)))
theorem yQ1 (s:ByteArray)(hs:s.size<=120)(a1:Addr)(z rb i:Nat)(w:World)(h:RB w rb s i z)(hE:Env w rb a1)(hi:i=s.size) :
  Calls Tryz.prog 130 #[D2 rb] w (PlPost w rb s i z a1 (Ls.dX9 (Ls.pat (13-z)) (Ls.dXz (12-z)) (rest s i))):=by
 subst hi;have HR:Hid (Ls.dX9 (Ls.pat (13-z)) (Ls.dXz (12-z)) (rest s s.size)=.none):=by show _=_;rw[N8 (by omega)];rfl
 have HI0:Hid (Inp w rb s s.size z (I0 w rb)):=Inp.enter h;have hn:=cQx rb s s.size z a1 _ HI0.out.lies (HI0.out.env hE) (by omega) (by omega) (by omega);go_enter Tryz.func130,Tryz.ntmps130;go_wp2_with fail;refine hn.mono ?_;rintro e w1 ⟨rfl,hg⟩;go_wp2_with fail;exact⟨rfl,.inr ⟨HR.out,rfl,HI0.out.threw rfl hg⟩⟩
theorem xQx (s:ByteArray)(hs:s.size<=120)(a1:Addr)(z:Nat)(hz:z<=12)(rb i:Nat)(w:World)(h:RB w rb s i z)(hE:Env w rb a1)(hi:i<s.size)(hc:nx s i=47) :
  Calls Tryz.prog 130 #[D2 rb] w (PlPost w rb s i z a1 (Ls.dX9 (Ls.pat (13-z)) (Ls.dXz (12-z)) (rest s i))):=by
 have HR:Hid (Ls.dX9 (Ls.pat (13-z)) (Ls.dXz (12-z)) (rest s i)=match X0 (Ls.pat (13-z)) (rest s (i+1)) with|.none=>.none|some (l,u)=>some (Ls.eXy l u)):=yQ0 hi hc;have HI0:Hid (Inp w rb s i z (I0 w rb)):=Inp.enter h;have hn:=N0 rb s i z _ HI0.out.lies (by omega) hi;have HE:Hid (Env w rb a1):=hE;rw[hc]at hn;clear hc hE h;go_enter Tryz.func130,Tryz.ntmps130;go_wp2_with fail;refine hn.mono ?_;rintro e w1 ⟨rfl,hl1⟩;have hI1:=HI0.out.go hl1;have b1:=hI1.cell;have HI1:Hid (Inp w rb s (i+1) z w1):=hI1;have HC:Hid (∀W,Below w1.heap.size w1 W->Calls Tryz.prog 145 #[D2 rb] W (z8 w rb s (i+1) z a1 (X0 (Ls.pat (13-z)) (rest s (i+1))))):=fun W hW=>
  (yQp s hs a1 z hz rb (i+1) W (HI1.out.below hW).lies ((HI1.out.below hW).env HE.out) (by omega)).mono fun e w' hq=>hq.mid (HI1.out.below hW)
 clear hn hl1 hI1 HI0;go_wp2_with fail;go_region_held (fun w'=>w'.cell? ⟨w.heap.size,0,none⟩=some (.pointer (some ⟨rb,0,none⟩))) (first|assumption|go_keep|(simp[World.cell?_setCell_far];assumption))
  (first
   | (go_at_call 145;refine(HC.out _ ?_).mono ?_;exact(Below.refl _ _).drew;rintro e w2 (⟨l,j,f,caps,hr,hij,hj,rfl,hI2,hp2⟩|⟨hr,rfl,hg⟩);rotate_left;(go_wp2_with fail;exact⟨rfl,.inr ⟨by rw[HR.out,hr],rfl,hg⟩⟩);have b2:=hI2.cell)
   | (go_at_call 144;refine(mQt s hs z rb j l f caps w _ hI2 hj (by omega) hp2).mono ?_;rintro e w3 ⟨g,daps,rfl,hI3,hp3⟩;have b3:=hI3.cell;obtain⟨r0,r1,s0,s1⟩:=hI3.res.two))
 all_goals
  have hsz:=mQs l hj;have HP:Hid (PlPost w rb s i z a1 (Ls.dX9 (Ls.pat (13-z)) (Ls.dXz (12-z)) (rest s i)) (.returned (C5 (Ls.dXw (M4 s j l)) (.func (.func g) #[] daps))) ((w3.setCell ⟨w.heap.size+1,0,none⟩ (.int .i64 (Ls.dXw (M4 s j l)))).setCell ⟨w.heap.size+1,1,none⟩ (.func (.func g) #[] daps))):=
   hI3.ret (by rw[HR.out,hr];dsimp only;rw[hQ6]) (by omega) (by omega) hp3
  clear hp3 hp2 hI3 hI2 hr;go_wp2_with fail;exact bodyPost_ret (v:=C5 (Ls.dXw (M4 s j l)) (.func (.func g) #[] daps)) (by simp[results,Tryz.results130,go_sem,r0,r1]) rfl HP.out
theorem xQu (s:ByteArray)(hs:s.size<=120)(a1:Addr)(z:Nat)(hz:z<=12)(hL:z<=11->Y4 s a1 (z+1))(rb i:Nat)(w:World)(h:RB w rb s i z)(hE:Env w rb a1)(hi:i<s.size)(hc:nx s i=40) :
  Calls Tryz.prog 130 #[D2 rb] w (PlPost w rb s i z a1 (Ls.dX9 (Ls.pat (13-z)) (Ls.dXz (12-z)) (rest s i))):=by
 have HR:Hid (Ls.dX9 (Ls.pat (13-z)) (Ls.dXz (12-z)) (rest s i)=match I4 (Ls.dXz (12-z)) (rest s (i+1)) with|.none=>.none|some (l,u)=>some (Ls.eXy l u)):=yQ4 hi hc;have HI0:Hid (Inp w rb s i z (I0 w rb)):=Inp.enter h;have hn:=N0 rb s i z _ HI0.out.lies (by omega) hi;have HE:Hid (Env w rb a1):=hE;rw[hc]at hn;clear hc hE h;go_enter Tryz.func130,Tryz.ntmps130;go_wp2_with fail;refine hn.mono ?_;rintro e w1 ⟨rfl,hl1⟩;have hI1:=HI0.out.go hl1;have b1:=hI1.cell;have HI1:Hid (Inp w rb s (i+1) z w1):=hI1;have HC:Hid (∀W,Below w1.heap.size w1 W->Calls Tryz.prog 146 #[D2 rb] W (z8 w rb s (i+1) z a1 (I4 (Ls.dXz (12-z)) (rest s (i+1))))):=fun W hW=>
  (aXf s hs a1 z hz hL rb (i+1) W (HI1.out.below hW).lies ((HI1.out.below hW).env HE.out) (by omega)).mono fun e w' hq=>hq.mid (HI1.out.below hW)
 clear hn hl1 hI1 HI0 hL;go_wp2_with fail;go_region_held (fun w'=>w'.cell? ⟨w.heap.size,0,none⟩=some (.pointer (some ⟨rb,0,none⟩))) (first|assumption|go_keep|(simp[World.cell?_setCell_far];assumption))
  (first
   | (go_at_call 146;refine(HC.out _ ?_).mono ?_;exact(Below.refl _ _).drew;rintro e w2 (⟨l,j,f,caps,hr,hij,hj,rfl,hI2,hp2⟩|⟨hr,rfl,hg⟩);rotate_left;(go_wp2_with fail;exact⟨rfl,.inr ⟨by rw[HR.out,hr],rfl,hg⟩⟩);have b2:=hI2.cell)
   | (go_at_call 144;refine(mQt s hs z rb j l f caps w _ hI2 hj (by omega) hp2).mono ?_;rintro e w3 ⟨g,daps,rfl,hI3,hp3⟩;have b3:=hI3.cell;obtain⟨r0,r1,s0,s1⟩:=hI3.res.two))
 all_goals
  have hsz:=mQs l hj;have HP:Hid (PlPost w rb s i z a1 (Ls.dX9 (Ls.pat (13-z)) (Ls.dXz (12-z)) (rest s i)) (.returned (C5 (Ls.dXw (M4 s j l)) (.func (.func g) #[] daps))) ((w3.setCell ⟨w.heap.size+1,0,none⟩ (.int .i64 (Ls.dXw (M4 s j l)))).setCell ⟨w.heap.size+1,1,none⟩ (.func (.func g) #[] daps))):=
   hI3.ret (by rw[HR.out,hr];dsimp only;rw[hQ6]) (by omega) (by omega) hp3
  clear hp3 hp2 hI3 hI2 hr;go_wp2_with fail;exact bodyPost_ret (v:=C5 (Ls.dXw (M4 s j l)) (.func (.func g) #[] daps)) (by simp[results,Tryz.results130,go_sem,r0,r1]) rfl HP.out
theorem xQw (s:ByteArray)(hs:s.size<=120)(a1:Addr)(z:Nat)(hz:z<=12)(hLf:cQ9 s a1)(rb i:Nat)(w:World)(h:RB w rb s i z)(hE:Env w rb a1)(hi:i<s.size)(hc:nx s i=45) :
  Calls Tryz.prog 130 #[D2 rb] w (PlPost w rb s i z a1 (Ls.dX9 (Ls.pat (13-z)) (Ls.dXz (12-z)) (rest s i))):=by
 have HR:Hid (Ls.dX9 (Ls.pat (13-z)) (Ls.dXz (12-z)) (rest s i)=O8 (Ls.pat (13-z)) (rest s (i+1))):=yQ2 hi hc;have HI0:Hid (Inp w rb s i z (I0 w rb)):=Inp.enter h;have hn:=N0 rb s i z _ HI0.out.lies (by omega) hi;have HE:Hid (Env w rb a1):=hE;rw[hc]at hn;clear hc hE h;go_enter Tryz.func130,Tryz.ntmps130;go_wp2_with fail;refine hn.mono ?_;rintro e w1 ⟨rfl,hl1⟩;have hI1:=HI0.out.go hl1;have b1:=hI1.cell;have hC:Calls Tryz.prog 150 #[D2 rb] w1 (z8 w rb s (i+1) z a1 (O8 (Ls.pat (13-z)) (rest s (i+1)))):=(hLf z rb (i+1) w1 hz hI1.lies (hI1.env HE.out) (by omega)).mono fun e w' hq=>hq.mid hI1;clear hn hl1 HI0;go_wp2_with fail;refine hC.mono ?_;rintro e w2 (⟨l,j,f,caps,hr,hij,hj,rfl,hI2,hp2⟩|⟨hr,rfl,hg⟩)
 ·obtain⟨r0,r1,s0,s1⟩:=hI2.res.two
  have HP:Hid (PlPost w rb s i z a1 (Ls.dX9 (Ls.pat (13-z)) (Ls.dXz (12-z)) (rest s i)) (.returned (C5 (Ls.dXw l) (.func (.func f) #[] caps))) ((w2.setCell ⟨w.heap.size+1,0,none⟩ (.int .i64 (Ls.dXw l))).setCell ⟨w.heap.size+1,1,none⟩ (.func (.func f) #[] caps))):=
   hI2.ret (HR.out.trans hr) (by omega) hj hp2
  clear hp2 hI2 hr hC hI1;go_wp2_with fail;exact bodyPost_ret (v:=C5 (Ls.dXw l) (.func (.func f) #[] caps)) (by simp[results,Tryz.results130,go_sem,r0,r1]) rfl HP.out
 ·have HN:Hid (Ls.dX9 (Ls.pat (13-z)) (Ls.dXz (12-z)) (rest s i)=.none):=HR.out.trans hr
  clear hr hC;go_wp2_with fail;exact⟨rfl,.inr ⟨HN.out,rfl,hg⟩⟩
theorem xQv (s:ByteArray)(hs:s.size<=120)(a1:Addr)(z:Nat)(rb i:Nat)(w:World)(h:RB w rb s i z)(hE:Env w rb a1)(hi:i<s.size)(hc:nx s i=43) :
  Calls Tryz.prog 130 #[D2 rb] w (PlPost w rb s i z a1 (Ls.dX9 (Ls.pat (13-z)) (Ls.dXz (12-z)) (rest s i))):=by
 have HR:Hid (Ls.dX9 (Ls.pat (13-z)) (Ls.dXz (12-z)) (rest s i)=Z5 (rest s (i+1))):=yQ3 hi hc;have HI0:Hid (Inp w rb s i z (I0 w rb)):=Inp.enter h;have hn:=N0 rb s i z _ HI0.out.lies (by omega) hi;have HE:Hid (Env w rb a1):=hE;rw[hc]at hn;clear hc hE h;go_enter Tryz.func130,Tryz.ntmps130;go_wp2_with fail;refine hn.mono ?_;rintro e w1 ⟨rfl,hl1⟩;have hI1:=HI0.out.go hl1;have b1:=hI1.cell;have hC:Calls Tryz.prog 151 #[D2 rb] w1 (z8 w rb s (i+1) z a1 (Z5 (rest s (i+1)))):=(yQ8 s hs a1 z rb (i+1) w1 hI1.lies (hI1.env HE.out) (by omega)).mono fun e w' hq=>hq.mid hI1;clear hn hl1 HI0;go_wp2_with fail;refine hC.mono ?_;rintro e w2 (⟨l,j,f,caps,hr,hij,hj,rfl,hI2,hp2⟩|⟨hr,rfl,hg⟩)
 ·obtain⟨r0,r1,s0,s1⟩:=hI2.res.two
  have HP:Hid (PlPost w rb s i z a1 (Ls.dX9 (Ls.pat (13-z)) (Ls.dXz (12-z)) (rest s i)) (.returned (C5 (Ls.dXw l) (.func (.func f) #[] caps))) ((w2.setCell ⟨w.heap.size+1,0,none⟩ (.int .i64 (Ls.dXw l))).setCell ⟨w.heap.size+1,1,none⟩ (.func (.func f) #[] caps))):=
   hI2.ret (HR.out.trans hr) (by omega) hj hp2
  clear hp2 hI2 hr hC hI1;go_wp2_with fail;exact bodyPost_ret (v:=C5 (Ls.dXw l) (.func (.func f) #[] caps)) (by simp[results,Tryz.results130,go_sem,r0,r1]) rfl HP.out
 ·have HN:Hid (Ls.dX9 (Ls.pat (13-z)) (Ls.dXz (12-z)) (rest s i)=.none):=HR.out.trans hr
  clear hr hC;go_wp2_with fail;exact⟨rfl,.inr ⟨HN.out,rfl,hg⟩⟩
theorem xQy (s:ByteArray)(hs:s.size<=120)(a1:Addr)(z:Nat)(hz:z<=12)(hL:z<=11->Y4 s a1 (z+1))(rb i:Nat)(w:World)(h:RB w rb s i z)(hE:Env w rb a1)(hi:i<s.size)(hc:nx s i=60) :
  Calls Tryz.prog 130 #[D2 rb] w (PlPost w rb s i z a1 (Ls.dX9 (Ls.pat (13-z)) (Ls.dXz (12-z)) (rest s i))):=by
 have HR:Hid (Ls.dX9 (Ls.pat (13-z)) (Ls.dXz (12-z)) (rest s i)=match R1 (Ls.dXz (12-z)) (rest s (i+1)) with|.none=>.none|some (l,u)=>some (Ls.fXf l,u)):=yQa hi hc;have HI0:Hid (Inp w rb s i z (I0 w rb)):=Inp.enter h;have hn:=N0 rb s i z _ HI0.out.lies (by omega) hi;have HE:Hid (Env w rb a1):=hE;rw[hc]at hn;clear hc hE h;go_enter Tryz.func130,Tryz.ntmps130;go_wp2_with fail;refine hn.mono ?_;rintro e w1 ⟨rfl,hl1⟩;have hI1:=HI0.out.go hl1;have b1:=hI1.cell;have hC:Calls Tryz.prog 148 #[D2 rb] w1 (z8 w rb s (i+1) z a1 (R1 (Ls.dXz (12-z)) (rest s (i+1)))):=(yQz s hs a1 z hz hL rb (i+1) w1 hI1.lies (hI1.env HE.out) (by omega)).mono fun e w' hq=>hq.mid hI1;clear hn hl1 HI0 hL;go_wp2_with fail;refine hC.mono ?_;rintro e w2 (⟨l,j,f,caps,hr,hij,hj,rfl,hI2,hp2⟩|⟨hr,rfl,hg⟩)
 ·have HR2:Hid (Ls.dX9 (Ls.pat (13-z)) (Ls.dXz (12-z)) (rest s i)=some (Ls.fXf l,rest s j)):=by show _=_;rw[HR.out,hr]
  have hA:=pQr s z rb j 7 (.inr rfl) l f caps w w2 hI2 (by omega) hp2;clear hp2 hI2 hr hC hI1;go_wp2_with fail;refine hA.mono ?_;rintro e w3 ⟨g,daps,rfl,hI3,hp3⟩;obtain⟨r0,r1,s0,s1⟩:=hI3.res.two;have HP:Hid (PlPost w rb s i z a1 (Ls.dX9 (Ls.pat (13-z)) (Ls.dXz (12-z)) (rest s i)) (.returned (C5 (Ls.dXw l+1) (.func (.func g) #[] daps))) ((w3.setCell ⟨w.heap.size+1,0,none⟩ (.int .i64 ((Ls.dXw l+1:Nat):Int))).setCell ⟨w.heap.size+1,1,none⟩ (.func (.func g) #[] daps))):=by
   have:=hI3.ret (i:=i) (a1:=a1) (l:=Ls.fXf l) HR2.out (by rw[Ls.gXv];omega) hj hp3;rw[Ls.gXv]at this;exact this
  clear hp3 hI3 hA;go_wp2_with fail;exact bodyPost_ret (v:=C5 (Ls.dXw l+1) (.func (.func g) #[] daps)) (by simp[results,Tryz.results130,go_sem,r0,r1]) rfl HP.out
 ·have HN:Hid (Ls.dX9 (Ls.pat (13-z)) (Ls.dXz (12-z)) (rest s i)=.none):=by show _=_;rw[HR.out,hr]
  clear hr hC;go_wp2_with fail;exact⟨rfl,.inr ⟨HN.out,rfl,hg⟩⟩
theorem xQ9 (s:ByteArray)(hs:s.size<=120)(a1:Addr)(z rb i:Nat)(w:World)(h:RB w rb s i z)(hE:Env w rb a1)(hi:i<s.size)(h1:nx s i≠47)(h2:nx s i≠40)(h3:nx s i≠60)(h4:nx s i≠45)(h5:nx s i≠43) :
  Calls Tryz.prog 130 #[D2 rb] w (PlPost w rb s i z a1 (Ls.dX9 (Ls.pat (13-z)) (Ls.dXz (12-z)) (rest s i))):=by
 have HN:Hid (Ls.dX9 (Ls.pat (13-z)) (Ls.dXz (12-z)) (rest s i)=.none):=xQ8 hi h1 h2 h3 h4 h5;have HI0:Hid (Inp w rb s i z (I0 w rb)):=Inp.enter h;have hn:=N0 rb s i z _ HI0.out.lies (by omega) hi;have e1:(((nx s i).toNat:Int)==47)=false:=by rw[beq_eq_false_iff_ne];intro e;exact h1 (UInt8.toNat_inj.1 (by simpa using (by omega:(nx s i).toNat=47)))
 have e2:(((nx s i).toNat:Int)==40)=false:=by rw[beq_eq_false_iff_ne];intro e;exact h2 (UInt8.toNat_inj.1 (by simpa using (by omega:(nx s i).toNat=40)))
 have e3:(((nx s i).toNat:Int)==60)=false:=by rw[beq_eq_false_iff_ne];intro e;exact h3 (UInt8.toNat_inj.1 (by simpa using (by omega:(nx s i).toNat=60)))
 have e4:(((nx s i).toNat:Int)==45)=false:=by rw[beq_eq_false_iff_ne];intro e;exact h4 (UInt8.toNat_inj.1 (by simpa using (by omega:(nx s i).toNat=45)))
 have e5:(((nx s i).toNat:Int)==43)=false:=by rw[beq_eq_false_iff_ne];intro e;exact h5 (UInt8.toNat_inj.1 (by simpa using (by omega:(nx s i).toNat=43)))
 clear h1 h2 h3 h4 h5 h;go_enter Tryz.func130,Tryz.ntmps130;go_wp2_with fail;refine hn.mono ?_;rintro e w1 ⟨rfl,hl1⟩;have hI1:=HI0.out.go hl1;have b1:=hI1.cell;clear hn;go_wp2_with fail;refine(T8 _ a1 _ (hI1.env hE).sc).mono ?_;rintro e w3 ⟨rfl,rfl⟩;go_wp2_with fail;exact⟨rfl,.inr ⟨HN.out,rfl,hI1.inn.left.grown⟩⟩
theorem lQk (s:ByteArray)(hs:s.size<=120)(a1:Addr)(z:Nat)(hz:z<=12)(hLf:cQ9 s a1)(hL:z<=11->Y4 s a1 (z+1)):fQg s a1 z:=by
 intro rb i w h hE hi;rcases Nat.lt_or_ge i s.size with hi1|hi1
 ·by_cases h1:nx s i=47
  ·exact xQx s hs a1 z hz rb i w h hE hi1 h1
  ·by_cases h2:nx s i=40
   ·exact xQu s hs a1 z hz hL rb i w h hE hi1 h2
   ·by_cases h3:nx s i=60
    ·exact xQy s hs a1 z hz hL rb i w h hE hi1 h3
    ·by_cases h4:nx s i=45
     ·exact xQw s hs a1 z hz hLf rb i w h hE hi1 h4
     ·by_cases h5:nx s i=43
      ·exact xQv s hs a1 z rb i w h hE hi1 h5
      ·exact xQ9 s hs a1 z rb i w h hE hi1 h1 h2 h3 h4 h5
 ·exact yQ1 s hs a1 z rb i w h hE (by omega)
end Go.Proofs.YtfklinjaajafgaaGreatDoor
