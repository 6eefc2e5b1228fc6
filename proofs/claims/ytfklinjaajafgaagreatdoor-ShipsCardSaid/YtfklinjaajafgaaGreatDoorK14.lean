import Derived.Test.YtfklinjaajafgaaGreatDoorK13
set_option maxRecDepth 100000
set_option maxHeartbeats 4000000
namespace Go.Proofs.YtfklinjaajafgaaGreatDoor
open Go.RowKit
theorem jQ3 (s:ByteArray)(z rb j k:Nat)(hk:k=3\/k=4\/k=5)(l m:Ls.Ln)(f g:Nat)(caps daps:Array Value)(w W:World)(hI:Inp w rb s j z W)(hn:Ls.dXw l<=120)(hm:Ls.dXw m<=120)(F:Nat)(hF:F=Q8 k)
  (hp:PlanV W (fun q=>w.heap.size+1<q/\q<W.heap.size) l (.func (.func f) #[] caps)) (hq:PlanV W (fun q=>w.heap.size+1<q/\q<W.heap.size) m (.func (.func g) #[] daps)) :
  Calls Tryz.prog 121 #[C5 (Ls.dXw l) (.func (.func f) #[] caps),C5 (Ls.dXw m) (.func (.func g) #[] daps),.func (.func F) #[] #[]] W fun e w'=>
   ∃g daps,e=.returned (C5 (Ls.dXw l+Ls.dXw m) (.func (.func g) #[] daps))/\Inp w rb s j z w'/\PlanV w' (fun q=>w.heap.size+1<q/\q<w'.heap.size) ⟨k,Ls.rnil,[],[l,m]⟩ (.func (.func g) #[] daps)/\Below W.heap.size W w':=by
 subst hF;have hz:=hI.size;refine(jQ2 k hk l m (Ls.dXw l) (Ls.dXw m) f g caps daps (by omega) (by omega) W _ (fun q hq=>hq.2) hp hq).mono ?_;rintro e w' ⟨g,daps,rfl,hp2,hb⟩;have hz2:=hb.size;refine⟨g,daps,rfl,hI.below hb,PlanV.mono (fun q hq=>?_) (fun _ _=>rfl) _ _ hp2,hb⟩;rcases hq with hq|hq
 ·exact⟨hq.1,by have:=hq.2;omega⟩
 ·exact⟨by have:=hq.1;omega,hq.2⟩
theorem tQb {s:ByteArray}{k:Nat}(hk:k<s.size):([124,126,41,62]:List UInt8).any (A7 s k)=Ls.fXs (rest s k):=by
 rw[D3 hk];simp[A7,hk,Ls.fXs];cases (nx s k==124)<;>cases (nx s k==126)<;>cases (nx s k==41)<;>cases (nx s k==62)<;>rfl
theorem tQa {s:ByteArray}{k:Nat}(hk:s.size<=k):Ls.fXs (rest s k)=true:=by
 rw[N8 hk];rfl
section
variable {P:List UInt8->Ls.Rd} {Q:List UInt8->Ls.Rl} {n:Nat} {r r1:List UInt8} {a:Ls.Ln}
theorem yQ6 (h:Ls.dX9 P Q r=.none):Ls.dX3 P Q (n+1) r=.none:=by rw[Ls.dX3,h]
theorem yQ7 (h:Ls.dX9 P Q r=some (a,r1))(he:Ls.fXs r1=true):Ls.dX3 P Q (n+1) r=some (a,r1):=by rw[Ls.dX3,h];dsimp only;rw[if_pos he]
theorem yQf (h:Ls.dX9 P Q r=some (a,r1))(he:Ls.fXs r1=false)(h2:Ls.dX3 P Q n r1=.none):Ls.dX3 P Q (n+1) r=.none:=by rw[Ls.dX3,h];dsimp only;rw[if_neg (by rw[he];simp),h2]
theorem yQ5 {b:Ls.Ln}{r2:List UInt8}(h:Ls.dX9 P Q r=some (a,r1))(he:Ls.fXs r1=false)(h2:Ls.dX3 P Q n r1=some (b,r2)):Ls.dX3 P Q (n+1) r=some (Ls.dXy a b,r2):=by rw[Ls.dX3,h];dsimp only;rw[if_neg (by rw[he];simp),h2]
theorem xQt (h:Ls.dX3 P Q (r.length+1) r=.none):Ls.eXz P Q (n+1) r=.none:=by rw[Ls.eXz,h]
theorem pQy (h:Ls.dX3 P Q (r.length+1) r=some (a,r1))(he:r1.head?≠some 124):Ls.eXz P Q (n+1) r=some (a,r1):=by rw[Ls.eXz,h];dsimp only;rw[if_neg he]
theorem pQv (h:Ls.dX3 P Q (r.length+1) r=some (a,r1))(he:r1.head?=some 124)(h2:Ls.eXz P Q n r1.tail=.none):Ls.eXz P Q (n+1) r=.none:=by rw[Ls.eXz,h];dsimp only;rw[if_pos he,h2]
theorem pQw {b:Ls.Ln}{r2:List UInt8}(h:Ls.dX3 P Q (r.length+1) r=some (a,r1))(he:r1.head?=some 124)(h2:Ls.eXz P Q n r1.tail=some (b,r2)):Ls.eXz P Q (n+1) r=some (Ls.eXc a b,r2):=by rw[Ls.eXz,h];dsimp only;rw[if_pos he,h2]
end
theorem dQ9 {W:World}{g x y:Nat}{a b:Value}(hgx:g≠x)(hgy:g≠y){p q r:Option Value}(h1:W.cell? ⟨x,0,none⟩=p)(h2:W.cell? ⟨y,0,none⟩=q)(h3:W.cell? ⟨y,1,none⟩=r) :
  ((W.setCell ⟨g,0,none⟩ a).setCell ⟨g,1,none⟩ b).cell? ⟨x,0,none⟩=p/\((W.setCell ⟨g,0,none⟩ a).setCell ⟨g,1,none⟩ b).cell? ⟨y,0,none⟩=q/\((W.setCell ⟨g,0,none⟩ a).setCell ⟨g,1,none⟩ b).cell? ⟨y,1,none⟩=r:=
 ⟨(World.cell?_setCell_far _ _ _ _ hgx).trans ((World.cell?_setCell_far _ _ _ _ hgx).trans h1),(World.cell?_setCell_far _ _ _ _ hgy).trans ((World.cell?_setCell_far _ _ _ _ hgy).trans h2),(World.cell?_setCell_far _ _ _ _ hgy).trans ((World.cell?_setCell_far _ _ _ _ hgy).trans h3)⟩
def aQ8 (s:ByteArray)(a1:Addr)(z n:Nat):Prop:=∀(rb i:Nat) (w:World),RB w rb s i z->Env w rb a1->i<=s.size->(rest s i).length<n->
 Calls Tryz.prog 119 #[D2 rb] w (PlPost w rb s i z a1 (Ls.dX3 (Ls.pat (13-z)) (Ls.dXz (12-z)) n (rest s i)))
theorem zQc (s:ByteArray)(hs:s.size<=120)(a1:Addr)(z n:Nat)(hP:fQg s a1 z)(hR:aQ8 s a1 z n):aQ8 s a1 z (n+1):=by
 intro rb i w h hE hi hn;have HI0:Hid (Inp w rb s i z (I0 w rb)):=Inp.enter h;have HE:Hid (Env w rb a1):=hE;have hC:Calls Tryz.prog 130 #[D2 rb] (I0 w rb) (z8 w rb s i z a1 (Ls.dX9 (Ls.pat (13-z)) (Ls.dXz (12-z)) (rest s i))):=(hP rb i _ HI0.out.lies (HI0.out.env hE) hi).mono fun e w' hq=>hq.mid HI0.out;have HRow:Hid (aQ8 s a1 z n):=hR;clear hP hR hE h HI0;go_enter Tryz.func119,Tryz.ntmps119;go_wp2_with fail;refine hC.mono ?_;clear hC;rintro e w1 (⟨l,j,f,caps,hr,hij,hj,rfl,hI1,hp1⟩|⟨hr,rfl,hg⟩)
 ·have hsh:=(Ls.iXj (Ls.gXa _) (Ls.fXm _) hr).2.2
  have Hr:Hid (Ls.dX9 (Ls.pat (13-z)) (Ls.dXz (12-z)) (rest s i)=some (l,rest s j)):=hr;have hb2:=A5 w1 (K4 (Ls.dXw l) f caps);have hx2:Blk (w1.alloc (K4 (Ls.dXw l) f caps)) w1.heap.size #[.int .i64 (Ls.dXw l),.func (.func f) #[] caps] 130:=Blk.new w1 _ _;have hI2:=hI1.below hb2;have hz2:(w1.alloc (K4 (Ls.dXw l) f caps)).heap.size=w1.heap.size+1:=by simp
  have hz1:=hI1.size;have ho:=hI1.inn.old;have HP2:Hid (PlanV (w1.alloc (K4 (Ls.dXw l) f caps)) (fun q=>w.heap.size+1<q/\q<w1.heap.size) l (.func (.func f) #[] caps)):=PlanV.mono (fun q hq=>hq) (fun q hq=>hb2.block q hq.2) _ _ hp1;clear hr hp1 hb2 hI1;go_upto_region 2 with (fail);generalize w1.alloc (K4 (Ls.dXw l) f caps)=w2 at *;have b2:=hI2.cell;have HX2:Hid (Blk w2 w1.heap.size #[.int .i64 (Ls.dXw l),.func (.func f) #[] caps] 130):=hx2;have HI2:Hid (Inp w rb s j z w2):=hI2;clear hx2 hI2;have fin:Ls.fXs (rest s j)=true->∀w3,RLeft w2 rb s j z w3->Blk w3 w1.heap.size #[.int .i64 (Ls.dXw l),.func (.func f) #[] caps] 130/\Inp w rb s j z w3/\PlPost w rb s i z a1 (Ls.dX3 (Ls.pat (13-z)) (Ls.dXz (12-z)) (n+1) (rest s i)) (.returned (C5 (Ls.dXw l) (.func (.func f) #[] caps))) ((w3.setCell ⟨w.heap.size+1,0,none⟩ (.int .i64 (Ls.dXw l))).setCell ⟨w.heap.size+1,1,none⟩ (.func (.func f) #[] caps)):=by
   intro he w3 hl3;have hI3:=HI2.out.go hl3;have hz3:=hl3.grown.size;exact⟨HX2.out.of (hl3.grown.block _ (by omega) (by simp;omega)),hI3,hI3.ret (yQ7 Hr.out he) hij hj (PlanV.mono (fun q hq=>⟨hq.1,by have:=hq.2;omega⟩) (fun q hq=>hl3.grown.block q (by have:=hq.2;omega) (by have:=hq.1;simp;omega)) _ _ HP2.out)⟩
  have HF:Hid (Ls.fXs (rest s j)=true->∀w3,RLeft w2 rb s j z w3->Blk w3 w1.heap.size #[.int .i64 (Ls.dXw l),.func (.func f) #[] caps] 130/\Inp w rb s j z w3/\PlPost w rb s i z a1 (Ls.dX3 (Ls.pat (13-z)) (Ls.dXz (12-z)) (n+1) (rest s i)) (.returned (C5 (Ls.dXw l) (.func (.func f) #[] caps))) ((w3.setCell ⟨w.heap.size+1,0,none⟩ (.int .i64 (Ls.dXw l))).setCell ⟨w.heap.size+1,1,none⟩ (.func (.func f) #[] caps))):=fin;clear fin;rcases Nat.lt_or_ge j s.size with hk1|hk1
  ·have hD:=bQl rb s j z w2 HI2.out.lies (by omega) (by omega) false (by simp;omega)
   have hst:=tQb hk1;cases hse:Ls.fXs (rest s j) with
   | true=>
    rw[hse]at hst;have HSe:Hid (([124,126,41,62]:List UInt8).any (A7 s j)=true):=hst;have Hen:Hid (Ls.fXs (rest s j)=true):=hse;clear hst hse;go_wp2_with fail;refine hD.mono ?_;rintro e w3 ⟨rfl,hl3⟩;have b3:=(HI2.out.go hl3).cell;clear b2 hD;go_wp2_with fail;refine(eQw [124,126,41,62] _ rfl 4 rfl (by decide) rb s j z w3 _ hl3.lies (by omega) (by omega) true HSe.out).mono ?_;rintro e w4 ⟨rfl,hl4⟩;obtain⟨hx4,hI4,hP4⟩:=HF.out Hen.out w4 (hl3.trans hl4);obtain⟨x0,x1,y0,y1⟩:=hx4.two;obtain⟨r0,r1,s0,s1⟩:=hI4.res.two;have HP:Hid (PlPost w rb s i z a1 (Ls.dX3 (Ls.pat (13-z)) (Ls.dXz (12-z)) (n+1) (rest s i)) (.returned (C5 (Ls.dXw l) (.func (.func f) #[] caps))) ((w4.setCell ⟨w.heap.size+1,0,none⟩ (.int .i64 (Ls.dXw l))).setCell ⟨w.heap.size+1,1,none⟩ (.func (.func f) #[] caps))):=hP4;clear hx4 hI4 hP4 b3;go_wp2_with fail;exact bodyPost_ret (v:=C5 (Ls.dXw l) (.func (.func f) #[] caps)) (by simp[results,Tryz.results119,go_sem,r0,r1]) rfl HP.out
   | false=>
    rw[hse]at hst;have HSe:Hid (([124,126,41,62]:List UInt8).any (A7 s j)=false):=hst;have Hen:Hid (Ls.fXs (rest s j)=false):=hse;clear hst hse HF;go_wp2_with fail;refine hD.mono ?_;rintro e w3 ⟨rfl,hl3⟩;have b3:=(HI2.out.go hl3).cell;clear b2 hD;go_wp2_with fail;refine(eQw [124,126,41,62] _ rfl 4 rfl (by decide) rb s j z w3 _ hl3.lies (by omega) (by omega) false HSe.out).mono ?_;rintro e w4 ⟨rfl,hl4⟩;have hlx:=hl3.trans hl4;have hI4:=HI2.out.go hlx;have hx4:=HX2.out.of (hlx.grown.block _ (by omega) (by simp;omega));have b4:=hI4.cell;have hz4:=hlx.grown.size;obtain⟨x0,x1,y0,y1⟩:=hx4.two;have HX4:Hid (Blk w4 w1.heap.size #[.int .i64 (Ls.dXw l),.func (.func f) #[] caps] 130):=hx4;have HI4:Hid (Inp w rb s j z w4):=hI4;have HP4:Hid (PlanV w4 (fun q=>w.heap.size+1<q/\q<w1.heap.size) l (.func (.func f) #[] caps)):=PlanV.mono (fun q hq=>hq) (fun q hq=>hlx.grown.block q (by have:=hq.2;omega) (by have:=hq.1;simp;omega)) _ _ HP2.out;have HL2:Hid (∀W,Below w4.heap.size w4 W->Calls Tryz.prog 119 #[D2 rb] W fun e w'=>
      (∃m k g daps,Ls.dX3 (Ls.pat (13-z)) (Ls.dXz (12-z)) n (rest s j)=some (m,rest s k)/\j+Ls.dXw m<=k/\k<=s.size/\e=.returned (C5 (Ls.dXw m) (.func (.func g) #[] daps))/\Inp w rb s k z w'/\Blk w' w1.heap.size #[.int .i64 (Ls.dXw l),.func (.func f) #[] caps] 130/\
       PlanV w' (fun q=>w.heap.size+1<q/\q<w'.heap.size) l (.func (.func f) #[] caps)/\PlanV w' (fun q=>w.heap.size+1<q/\q<w'.heap.size) m (.func (.func g) #[] daps))\/
      (Ls.dX3 (Ls.pat (13-z)) (Ls.dXz (12-z)) n (rest s j)=.none/\J7 w rb a1 e w')):=by
     intro W hW;have hJ:=HI4.out.below hW;have hWz:=hW.size;refine(HRow.out rb j W hJ.lies (hJ.env HE.out) hj (by rw[E7]at hsh hn ⊢;rw[E7]at hsh;omega)).mono ?_;rintro e w' (⟨m,k,g,daps,hr2,h1,h2,rfl,hp2,hl2⟩|⟨hr2,rfl,hg⟩)
     ·have hgz:=hl2.grown.size
      refine .inl ⟨m,k,g,daps,hr2,h1,h2,rfl,hJ.go hl2,(HX4.out.below hW (by omega)).of (hl2.grown.block _ (by omega) (by simp;omega)),PlanV.mono (fun q hq=>⟨hq.1,by have:=hq.2;omega⟩) (fun q hq=>?_) _ _ HP4.out,PlanV.mono (fun q hq=>⟨by have:=hq.1;omega,hq.2⟩) (fun _ _=>rfl) _ _ hp2⟩;rw[hl2.grown.block q (by have:=hq.2;omega) (by have:=hq.1;simp;omega)];exact hW.block q (by have:=hq.2;omega)
     ·exact .inr ⟨hr2,rfl,hJ.threw rfl hg⟩
    clear hx4 hI4 b3 hl3 hl4 hlx;go_wp2_with fail;go_region_held (fun w'=>w'.cell? ⟨w.heap.size,0,none⟩=some (.pointer (some ⟨rb,0,none⟩))/\w'.cell? ⟨w1.heap.size,0,none⟩=some (.int .i64 (Ls.dXw l))/\w'.cell? ⟨w1.heap.size,1,none⟩=some (.func (.func f) #[] caps)) (first|assumption|(go_keep;done)|(refine dQ9 ?_ ?_ ?_ ?_ ?_<;>first|omega|exact hs6.1|exact hs6.2.1|exact hs6.2.2|assumption))
     (first
      | (go_at_call 119;refine(HL2.out _ ?_).mono ?_;exact(Below.refl _ _).drew;rintro e w5 (⟨m,k,g,daps,hr5,hk1,hk2,rfl,hI5,hx5,hp5,hq5⟩|⟨hr5,rfl,hg5⟩);rotate_left;(go_wp2_with fail;exact⟨rfl,.inr ⟨yQf Hr.out Hen.out hr5,rfl,hg5⟩⟩);have hs5:w5.cell? ⟨w.heap.size,0,none⟩=some (.pointer (some ⟨rb,0,none⟩))/\w5.cell? ⟨w1.heap.size,0,none⟩=some (.int .i64 (Ls.dXw l))/\w5.cell? ⟨w1.heap.size,1,none⟩=some (.func (.func f) #[] caps):=⟨hI5.cell,hx5.two.1,hx5.two.2.1⟩;have hz5:=hx5.lt)
      | (go_at_call 121;refine(jQ3 s z rb k 3 (.inl rfl) l m f g caps daps w _ hI5 (by omega) (by omega) _ rfl hp5 hq5).mono ?_;rintro e w6 ⟨g6,caps6,rfl,hI6,hp6,hb6⟩;obtain⟨r0,r1,s0,s1⟩:=hI6.res.two;have hx6:=hx5.below hb6 hz5;have hs6:w6.cell? ⟨w.heap.size,0,none⟩=some (.pointer (some ⟨rb,0,none⟩))/\w6.cell? ⟨w1.heap.size,0,none⟩=some (.int .i64 (Ls.dXw l))/\w6.cell? ⟨w1.heap.size,1,none⟩=some (.func (.func f) #[] caps):=⟨hI6.cell,hx6.two.1,hx6.two.2.1⟩))
    all_goals
     have HP:Hid (PlPost w rb s i z a1 (Ls.dX3 (Ls.pat (13-z)) (Ls.dXz (12-z)) (n+1) (rest s i)) (.returned (C5 (Ls.dXw l+Ls.dXw m) (.func (.func g6) #[] caps6))) ((w6.setCell ⟨w.heap.size+1,0,none⟩ (.int .i64 ((Ls.dXw l:Int)+(Ls.dXw m:Int)))).setCell ⟨w.heap.size+1,1,none⟩ (.func (.func g6) #[] caps6))):=by
      have:=hI6.ret (i:=i) (a1:=a1) (l:=Ls.dXy l m) (yQ5 Hr.out Hen.out hr5) (by rw[Ls.gXq];omega) hk2 hp6;rw[Ls.gXq,Int.natCast_add]at this;exact this
     clear hp6 hI6 hx6 hs6 hb6 hp5 hq5 hI5 hx5 hs5 hr5;go_wp2_with fail;exact bodyPost_ret (v:=C5 (Ls.dXw l+Ls.dXw m) (.func (.func g6) #[] caps6)) (by simp[results,Tryz.results119,go_sem,r0,r1]) rfl HP.out
  ·have hD:=bQl rb s j z w2 HI2.out.lies (by omega) (by omega) true (by simp;omega)
   have Hen:Hid (Ls.fXs (rest s j)=true):=tQa hk1;go_wp2_with fail;refine hD.mono ?_;rintro e w3 ⟨rfl,hl3⟩;obtain⟨hx4,hI4,hP4⟩:=HF.out Hen.out w3 hl3;obtain⟨x0,x1,y0,y1⟩:=hx4.two;obtain⟨r0,r1,s0,s1⟩:=hI4.res.two;have HP:Hid (PlPost w rb s i z a1 (Ls.dX3 (Ls.pat (13-z)) (Ls.dXz (12-z)) (n+1) (rest s i)) (.returned (C5 (Ls.dXw l) (.func (.func f) #[] caps))) ((w3.setCell ⟨w.heap.size+1,0,none⟩ (.int .i64 (Ls.dXw l))).setCell ⟨w.heap.size+1,1,none⟩ (.func (.func f) #[] caps))):=hP4;clear hx4 hI4 hP4 hD HF;go_wp2_with fail;exact bodyPost_ret (v:=C5 (Ls.dXw l) (.func (.func f) #[] caps)) (by simp[results,Tryz.results119,go_sem,r0,r1]) rfl HP.out
 ·have HN:Hid (Ls.dX3 (Ls.pat (13-z)) (Ls.dXz (12-z)) (n+1) (rest s i)=.none):=yQ6 hr
  clear hr;go_wp2_with fail;exact⟨rfl,.inr ⟨HN.out,rfl,hg⟩⟩
def dQd (s:ByteArray)(a1:Addr)(z n:Nat):Prop:=∀(rb i:Nat) (w:World),RB w rb s i z->Env w rb a1->i<=s.size->(rest s i).length<n->
 Calls Tryz.prog 104 #[D2 rb] w (PlPost w rb s i z a1 (Ls.eXz (Ls.pat (13-z)) (Ls.dXz (12-z)) n (rest s i)))
theorem yQy (s:ByteArray)(hs:s.size<=120)(a1:Addr)(z n:Nat)(hP:∀n,aQ8 s a1 z n)(hR:dQd s a1 z n):dQd s a1 z (n+1):=by
 intro rb i w h hE hi hn;have HI0:Hid (Inp w rb s i z (I0 w rb)):=Inp.enter h;have HE:Hid (Env w rb a1):=hE;have hC:Calls Tryz.prog 119 #[D2 rb] (I0 w rb) (z8 w rb s i z a1 (Ls.dX3 (Ls.pat (13-z)) (Ls.dXz (12-z)) ((rest s i).length+1) (rest s i))):=(hP _ rb i _ HI0.out.lies (HI0.out.env hE) hi (Nat.lt_succ_self _)).mono fun e w' hq=>hq.mid HI0.out;have HRow:Hid (dQd s a1 z n):=hR;clear hP hR hE h HI0;go_enter Tryz.func104,Tryz.ntmps104;go_wp2_with fail;refine hC.mono ?_;clear hC;rintro e w1 (⟨l,j,f,caps,hr,hij,hj,rfl,hI1,hp1⟩|⟨hr,rfl,hg⟩)
 ·have Hr:Hid (Ls.dX3 (Ls.pat (13-z)) (Ls.dXz (12-z)) ((rest s i).length+1) (rest s i)=some (l,rest s j)):=hr
  have hb2:=A5 w1 (K4 (Ls.dXw l) f caps);have hx2:Blk (w1.alloc (K4 (Ls.dXw l) f caps)) w1.heap.size #[.int .i64 (Ls.dXw l),.func (.func f) #[] caps] 130:=Blk.new w1 _ _;have hI2:=hI1.below hb2;have hz2:(w1.alloc (K4 (Ls.dXw l) f caps)).heap.size=w1.heap.size+1:=by simp
  have hz1:=hI1.size;have ho:=hI1.inn.old;have HP2:Hid (PlanV (w1.alloc (K4 (Ls.dXw l) f caps)) (fun q=>w.heap.size+1<q/\q<w1.heap.size) l (.func (.func f) #[] caps)):=PlanV.mono (fun q hq=>hq) (fun q hq=>hb2.block q hq.2) _ _ hp1;clear hr hp1 hb2 hI1;go_upto_region 2 with (fail);generalize w1.alloc (K4 (Ls.dXw l) f caps)=w2 at *;have b2:=hI2.cell;have HX2:Hid (Blk w2 w1.heap.size #[.int .i64 (Ls.dXw l),.func (.func f) #[] caps] 130):=hx2;have HI2:Hid (Inp w rb s j z w2):=hI2;clear hx2 hI2;cases hse:A7 s j 124 with
  | false=>
   have hD:=U6 rb s j z 124 w2 HI2.out.lies (by omega) (by omega) hse;have Hen:Hid ((rest s j).head?≠some 124):=by show _≠_;rw[Ne,C4,hse];simp
   clear hse;go_wp2_with fail;refine hD.mono ?_;rintro e w3 ⟨rfl,hl3⟩;have hI3:=HI2.out.go hl3;have hz3:=hl3.grown.size;have hx3:=HX2.out.of (hl3.grown.block _ (by omega) (by simp;omega));obtain⟨x0,x1,y0,y1⟩:=hx3.two;obtain⟨r0,r1,s0,s1⟩:=hI3.res.two;have HP:Hid (PlPost w rb s i z a1 (Ls.eXz (Ls.pat (13-z)) (Ls.dXz (12-z)) (n+1) (rest s i)) (.returned (C5 (Ls.dXw l) (.func (.func f) #[] caps))) ((w3.setCell ⟨w.heap.size+1,0,none⟩ (.int .i64 (Ls.dXw l))).setCell ⟨w.heap.size+1,1,none⟩ (.func (.func f) #[] caps))):=
    hI3.ret (pQy Hr.out Hen.out) hij hj (PlanV.mono (fun q hq=>⟨hq.1,by have:=hq.2;omega⟩) (fun q hq=>hl3.grown.block q (by have:=hq.2;omega) (by have:=hq.1;simp;omega)) _ _ HP2.out)
   clear hx3 hI3 hD b2;go_wp2_with fail;exact bodyPost_ret (v:=C5 (Ls.dXw l) (.func (.func f) #[] caps)) (by simp[results,Tryz.results104,go_sem,r0,r1]) rfl HP.out
  | true=>
   have hD:=Y1 rb s j z 124 w2 HI2.out.lies (by omega) hse;have Hen:Hid ((rest s j).head?=some 124):=C4.2 hse;have hj1:=(D6 hse).1;clear hse;go_wp2_with fail;refine hD.mono ?_;rintro e w4 ⟨rfl,hlx⟩;have hI4:=HI2.out.go hlx;have hx4:=HX2.out.of (hlx.grown.block _ (by omega) (by simp;omega));have b4:=hI4.cell;have hz4:=hlx.grown.size;obtain⟨x0,x1,y0,y1⟩:=hx4.two;have HX4:Hid (Blk w4 w1.heap.size #[.int .i64 (Ls.dXw l),.func (.func f) #[] caps] 130):=hx4;have HI4:Hid (Inp w rb s (j+1) z w4):=hI4;have HP4:Hid (PlanV w4 (fun q=>w.heap.size+1<q/\q<w1.heap.size) l (.func (.func f) #[] caps)):=PlanV.mono (fun q hq=>hq) (fun q hq=>hlx.grown.block q (by have:=hq.2;omega) (by have:=hq.1;simp;omega)) _ _ HP2.out;have HL2:Hid (∀W,Below w4.heap.size w4 W->Calls Tryz.prog 104 #[D2 rb] W fun e w'=>
     (∃m k g daps,Ls.eXz (Ls.pat (13-z)) (Ls.dXz (12-z)) n (rest s j).tail=some (m,rest s k)/\j+1+Ls.dXw m<=k/\k<=s.size/\e=.returned (C5 (Ls.dXw m) (.func (.func g) #[] daps))/\Inp w rb s k z w'/\Blk w' w1.heap.size #[.int .i64 (Ls.dXw l),.func (.func f) #[] caps] 130/\
      PlanV w' (fun q=>w.heap.size+1<q/\q<w'.heap.size) l (.func (.func f) #[] caps)/\PlanV w' (fun q=>w.heap.size+1<q/\q<w'.heap.size) m (.func (.func g) #[] daps))\/
     (Ls.eXz (Ls.pat (13-z)) (Ls.dXz (12-z)) n (rest s j).tail=.none/\J7 w rb a1 e w')):=by
    intro W hW;have hJ:=HI4.out.below hW;have hWz:=hW.size;rw[E3];refine(HRow.out rb (j+1) W hJ.lies (hJ.env HE.out) (by omega) (by rw[E7]at hn ⊢;omega)).mono ?_;rintro e w' (⟨m,k,g,daps,hr2,h1,h2,rfl,hp2,hl2⟩|⟨hr2,rfl,hg⟩)
    ·have hgz:=hl2.grown.size
     refine .inl ⟨m,k,g,daps,hr2,h1,h2,rfl,hJ.go hl2,(HX4.out.below hW (by omega)).of (hl2.grown.block _ (by omega) (by simp;omega)),PlanV.mono (fun q hq=>⟨hq.1,by have:=hq.2;omega⟩) (fun q hq=>?_) _ _ HP4.out,PlanV.mono (fun q hq=>⟨by have:=hq.1;omega,hq.2⟩) (fun _ _=>rfl) _ _ hp2⟩;rw[hl2.grown.block q (by have:=hq.2;omega) (by have:=hq.1;simp;omega)];exact hW.block q (by have:=hq.2;omega)
    ·exact .inr ⟨hr2,rfl,hJ.threw rfl hg⟩
   clear hx4 hI4 b2 hlx hD;go_wp2_with fail;go_region_held (fun w'=>w'.cell? ⟨w.heap.size,0,none⟩=some (.pointer (some ⟨rb,0,none⟩))/\w'.cell? ⟨w1.heap.size,0,none⟩=some (.int .i64 (Ls.dXw l))/\w'.cell? ⟨w1.heap.size,1,none⟩=some (.func (.func f) #[] caps)) (first|assumption|(go_keep;done)|(refine dQ9 ?_ ?_ ?_ ?_ ?_<;>first|omega|exact hs6.1|exact hs6.2.1|exact hs6.2.2|assumption))
    (first
     | (go_at_call 104;refine(HL2.out _ ?_).mono ?_;exact(Below.refl _ _).drew;rintro e w5 (⟨m,k,g,daps,hr5,hk1,hk2,rfl,hI5,hx5,hp5,hq5⟩|⟨hr5,rfl,hg5⟩);rotate_left;(go_wp2_with fail;exact⟨rfl,.inr ⟨pQv Hr.out Hen.out hr5,rfl,hg5⟩⟩);have hs5:w5.cell? ⟨w.heap.size,0,none⟩=some (.pointer (some ⟨rb,0,none⟩))/\w5.cell? ⟨w1.heap.size,0,none⟩=some (.int .i64 (Ls.dXw l))/\w5.cell? ⟨w1.heap.size,1,none⟩=some (.func (.func f) #[] caps):=⟨hI5.cell,hx5.two.1,hx5.two.2.1⟩;have hz5:=hx5.lt)
     | (go_at_call 121;refine(jQ3 s z rb k 5 (.inr (.inr rfl)) l m f g caps daps w _ hI5 (by omega) (by omega) _ rfl hp5 hq5).mono ?_;rintro e w6 ⟨g6,caps6,rfl,hI6,hp6,hb6⟩;obtain⟨r0,r1,s0,s1⟩:=hI6.res.two;have hx6:=hx5.below hb6 hz5;have hs6:w6.cell? ⟨w.heap.size,0,none⟩=some (.pointer (some ⟨rb,0,none⟩))/\w6.cell? ⟨w1.heap.size,0,none⟩=some (.int .i64 (Ls.dXw l))/\w6.cell? ⟨w1.heap.size,1,none⟩=some (.func (.func f) #[] caps):=⟨hI6.cell,hx6.two.1,hx6.two.2.1⟩))
   all_goals
    have HP:Hid (PlPost w rb s i z a1 (Ls.eXz (Ls.pat (13-z)) (Ls.dXz (12-z)) (n+1) (rest s i)) (.returned (C5 (Ls.dXw l+Ls.dXw m) (.func (.func g6) #[] caps6))) ((w6.setCell ⟨w.heap.size+1,0,none⟩ (.int .i64 ((Ls.dXw l:Int)+(Ls.dXw m:Int)))).setCell ⟨w.heap.size+1,1,none⟩ (.func (.func g6) #[] caps6))):=by
     have:=hI6.ret (i:=i) (a1:=a1) (l:=Ls.eXc l m) (pQw Hr.out Hen.out hr5) (by rw[Ls.gX6];omega) hk2 hp6;rw[Ls.gX6,Int.natCast_add]at this;exact this
    clear hp6 hI6 hx6 hs6 hb6 hp5 hq5 hI5 hx5 hs5 hr5;go_wp2_with fail;exact bodyPost_ret (v:=C5 (Ls.dXw l+Ls.dXw m) (.func (.func g6) #[] caps6)) (by simp[results,Tryz.results104,go_sem,r0,r1]) rfl HP.out
 ·have HN:Hid (Ls.eXz (Ls.pat (13-z)) (Ls.dXz (12-z)) (n+1) (rest s i)=.none):=xQt hr
  clear hr;go_wp2_with fail;exact⟨rfl,.inr ⟨HN.out,rfl,hg⟩⟩
theorem gQ9 {s:ByteArray}(hs:s.size<=120){a1:Addr}{z:Nat}(hP:fQg s a1 z):∀n,aQ8 s a1 z n
 | 0=>fun _ _ _ _ _ _ hn=>absurd hn (Nat.not_lt_zero _)
 | n+1=>zQc s hs a1 z n hP (gQ9 hs hP n)
theorem gQ3 {s:ByteArray}(hs:s.size<=120){a1:Addr}{z:Nat}(hP:∀n,aQ8 s a1 z n):∀n,dQd s a1 z n
 | 0=>fun _ _ _ _ _ _ hn=>absurd hn (Nat.not_lt_zero _)
 | n+1=>yQy s hs a1 z n hP (gQ3 hs hP n)
theorem yQx {s:ByteArray}(hs:s.size<=120){a1:Addr}(hLf:cQ9 s a1):∀m,m<=12->Y4 s a1 (12-m):=by
 intro m;induction m with
 | zero=>
  intro _ rb i w h hE hi;have:=gQ3 hs (gQ9 hs (lQk s hs a1 12 (by omega) hLf (fun h=>by omega))) ((rest s i).length+1) rb i w h hE hi (Nat.lt_succ_self _);exact this
 | succ m ih=>
  intro hm rb i w h hE hi;have hp:=lQk s hs a1 (12-(m+1)) (by omega) hLf (fun _=>by rw[show 12-(m+1)+1=12-m from by omega];exact ih (by omega));have:=gQ3 hs (gQ9 hs hp) ((rest s i).length+1) rb i w h hE hi (Nat.lt_succ_self _);rw[show 13-(12-(m+1))=(12-(12-(m+1)))+1 from by omega]at this ⊢;exact this
end Go.Proofs.YtfklinjaajafgaaGreatDoor
