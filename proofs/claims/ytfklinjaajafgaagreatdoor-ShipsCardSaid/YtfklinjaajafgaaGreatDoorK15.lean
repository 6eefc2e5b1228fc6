import Derived.Test.YtfklinjaajafgaaGreatDoorK14
set_option maxRecDepth 100000
set_option maxHeartbeats 4000000
namespace Go.Proofs.YtfklinjaajafgaaGreatDoor
open Go.RowKit
def Vr (w W:World)(g:Nat)(v:Value)(T:TypeId):Prop:=Blk W g #[v] T/\w.heap.size+1<g
theorem Vr.new {w W:World}(h:w.heap.size+1<W.heap.size)(v:Value)(T:TypeId):Vr w (W.alloc (.cells #[v] T)) W.heap.size v T:=⟨Blk.new W _ _,h⟩
theorem Vr.new2 {w W:World}(h:w.heap.size+1<W.heap.size)(c:Array Value)(t:TypeId)(v:Value)(T:TypeId):Vr w ((W.alloc (.cells c t)).alloc (.cells #[v] T)) (W.heap.size+1) v T:=by
 have:=Blk.new (W.alloc (.cells c t)) #[v] T;rw[World.size_alloc]at this;exact⟨this,by omega⟩
theorem Vr.alloc {w W:World}{g:Nat}{v:Value}{T:TypeId}(h:Vr w W g v T)(o:Obj):Vr w (W.alloc o) g v T:=⟨h.1.of (Below.heap_alloc _ _ _ h.1.lt),h.2⟩
theorem Vr.left {w W w':World}{rb:Nat}{s:ByteArray}{a z g:Nat}{v:Value}{T:TypeId}(ho:rb<w.heap.size)(hl:RLeft W rb s a z w')(h:Vr w W g v T):Vr w w' g v T:=⟨h.1.of (hl.grown.block g h.1.lt (by have:=h.2;simp;omega)),h.2⟩
theorem Vr.lt {w W:World}{g:Nat}{v:Value}{T:TypeId}(h:Vr w W g v T):g<W.heap.size/\¬g=W.heap.size/\¬W.heap.size=g:=⟨h.1.lt,Nat.ne_of_lt h.1.lt,Nat.ne_of_gt h.1.lt⟩
theorem Vr.one {w W:World}{g:Nat}{v:Value}{T:TypeId}(h:Vr w W g v T):W.cell? ⟨g,0,none⟩=some v/\W.frozen? ⟨g,0,none⟩=false:=h.1.one
theorem Vr.set {w W:World}{g h:Nat}{v u:Value}{T:TypeId}(k:Vr w W g v T)(hne:g≠h):Vr w (W.setCell ⟨h,0,none⟩ u) g v T:=⟨k.1.of (Below.heap_setCell _ _ _ _ hne),k.2⟩
theorem Vr.put {w W:World}{g:Nat}{v u:Value}{T:TypeId}(k:Vr w W g v T):Vr w (W.setCell ⟨g,0,none⟩ u) g u T:=by
 refine⟨?_,k.2⟩;have:=k.1;unfold Blk at this ⊢;simp[World.setCell,Array.getElem?_modify,this]
theorem Inp.set {w W:World}{rb:Nat}{s:ByteArray}{a z g:Nat}{u:Value}(h:Inp w rb s a z W)(hg:w.heap.size+1<g):Inp w rb s a z (W.setCell ⟨g,0,none⟩ u):=
 ⟨h.inn.own (T9 _ _ _ _) (fun k e=>by cases e;omega),h.res.of (Below.heap_setCell _ _ _ _ (by show w.heap.size+1≠g;omega))⟩
structure Rq (w W:World)(lo hi:Nat)(d:Ls.D)(v:Value):Prop where
 rep:Rep W (fun q=>lo<=q/\q<hi) 0 d [v]
 low:w.heap.size+1<lo
 high:hi<=W.heap.size
theorem Rq.alloc {w W:World}{lo hi:Nat}{d:Ls.D}{v:Value}(h:Rq w W lo hi d v)(o:Obj):Rq w (W.alloc o) lo hi d v:=
 ⟨h.rep.mono (fun _ h=>h) (fun q hq=>Below.heap_alloc _ _ _ (by have:=hq.2;have:=h.high;omega)),h.low,by have:=h.high;simp;omega⟩
theorem Rq.left {w W w':World}{rb:Nat}{s:ByteArray}{a z lo hi:Nat}{d:Ls.D}{v:Value}(ho:rb<w.heap.size)(hl:RLeft W rb s a z w')(h:Rq w W lo hi d v):Rq w w' lo hi d v:=
 ⟨h.rep.mono (fun _ h=>h) (fun q hq=>hl.grown.block q (by have:=hq.2;have:=h.high;omega) (by have:=hq.1;have:=h.low;simp;omega)),h.low,Nat.le_trans h.high hl.grown.size⟩
theorem Rq.set {w W:World}{lo hi:Nat}{d:Ls.D}{v:Value}(h:Rq w W lo hi d v){g:Nat}(hg:g<lo\/hi<=g)(u:Value):Rq w (W.setCell ⟨g,0,none⟩ u) lo hi d v:=
 ⟨h.rep.mono (fun _ h=>h) (fun q hq=>Below.heap_setCell _ _ _ _ (by show q≠g;have:=hq.1;have:=hq.2;omega)),h.low,by simpa [World.setCell] using h.high⟩
theorem cQ6 {W:World}{g x:Nat}{v:Value}{p:Option Value}(hg:g≠x)(h:W.cell? ⟨x,0,none⟩=p):(W.setCell ⟨g,0,none⟩ v).cell? ⟨x,0,none⟩=p:=(World.cell?_setCell_far _ _ _ _ hg).trans h
theorem cX4 {W:World}{g x:Nat}{v p:Value}{o:Obj}(hg:g≠x)(h:W.cell? ⟨x,0,none⟩=some p):((W.setCell ⟨g,0,none⟩ v).alloc o).cell? ⟨x,0,none⟩=some p:=
 (World.cell?_alloc_some _ _ _ (by rw[cQ6 hg h];rfl)).trans (cQ6 hg h)
theorem uQu {W:World}{r x y:Nat}{a b:Value}(hx:r≠x)(hy:r≠y){p q:Option Value}(h1:W.cell? ⟨x,0,none⟩=p)(h2:W.cell? ⟨y,0,none⟩=q) :
  ((W.setCell ⟨r,0,none⟩ a).setCell ⟨r,1,none⟩ b).cell? ⟨x,0,none⟩=p/\((W.setCell ⟨r,0,none⟩ a).setCell ⟨r,1,none⟩ b).cell? ⟨y,0,none⟩=q:=
 ⟨(World.cell?_setCell_far _ _ _ _ hx).trans ((World.cell?_setCell_far _ _ _ _ hx).trans h1),(World.cell?_setCell_far _ _ _ _ hy).trans ((World.cell?_setCell_far _ _ _ _ hy).trans h2)⟩
def aQ7 (w:World)(rb:Nat)(s:ByteArray)(i z:Nat)(sA sB:Value)(W:World):Prop:=
 ∃g h d j ty x ws k lo hi,sA=.pointer (some ⟨g,0,none⟩)/\sB=.pointer (some ⟨h,0,none⟩)/\Ls.dX8 (Ls.pat (13-z)) (rest s (i+1))=some (d,rest s j)/\Ls.eXq (rest s j)=some (ws,rest s k)/\i+1<=j/\j+ws.length<k/\k<=s.size/\
  Vr w W g (.iface ty x) 89/\Vr w W h (.string ⟨ws.toArray⟩) 9/\Inp w rb s k z W/\Rq w W lo hi d (.iface ty x)
section
variable {w W:World} {rb:Nat} {s:ByteArray} {i z j k lo hi:Nat} {d:Ls.D} {ty:TypeId} {x:Value} {ws:List UInt8}
theorem vQt (h1:Ls.dX8 (Ls.pat (13-z)) (rest s (i+1))=some (d,rest s j))(h2:Ls.eXq (rest s j)=some (ws,rest s k))(h3:i+1<=j)(h4:j+ws.length<k)(h5:k<=s.size)(hI:Inp w rb s k z W)(hR:Rq w W lo hi d (.iface ty x)):aQ7 w rb s i z (.pointer (some ⟨W.heap.size,0,none⟩)) (.pointer (some ⟨W.heap.size+1,0,none⟩)) ((W.alloc (.cells #[.iface ty x] 89)).alloc (.cells #[.string ⟨ws.toArray⟩] 9)):=
 ⟨_,_,d,j,ty,x,ws,k,lo,hi,rfl,rfl,h1,h2,h3,h4,h5,(Vr.new hI.size _ _).alloc _,Vr.new2 hI.size _ _ _ _,hI.below (C6 _ _ _),(hR.alloc _).alloc _⟩
theorem vQu (h1:Ls.dX8 (Ls.pat (13-z)) (rest s (i+1))=some (d,rest s j))(h2:Ls.eXq (rest s j)=some (ws,rest s k))(h3:i+1<=j)(h4:j+ws.length<k)(h5:k<=s.size)(hI:Inp w rb s k z W)(hR:Rq w W lo hi d (.iface ty x)):aQ7 w rb s i z (.pointer (some ⟨W.heap.size+1,0,none⟩)) (.pointer (some ⟨W.heap.size,0,none⟩)) ((W.alloc (.cells #[.string ⟨ws.toArray⟩] 9)).alloc (.cells #[.iface ty x] 89)):=
 ⟨_,_,d,j,ty,x,ws,k,lo,hi,rfl,rfl,h1,h2,h3,h4,h5,Vr.new2 hI.size _ _ _ _,(Vr.new hI.size _ _).alloc _,hI.below (C6 _ _ _),(hR.alloc _).alloc _⟩
theorem vQv (h1:Ls.dX8 (Ls.pat (13-z)) (rest s (i+1))=some (d,rest s j))(h2:Ls.eXq (rest s j)=some (ws,rest s k))(h3:i+1<=j)(h4:j+ws.length<k)(h5:k<=s.size)(hI:Inp w rb s k z W)(hR:Rq w W lo hi d (.iface ty x)){g:Nat}{v:Value}(hA:Vr w W g v 89)(hg:g<lo\/hi<=g):aQ7 w rb s i z (.pointer (some ⟨g,0,none⟩)) (.pointer (some ⟨W.heap.size,0,none⟩)) ((W.setCell ⟨g,0,none⟩ (.iface ty x)).alloc (.cells #[.string ⟨ws.toArray⟩] 9)):=by
 have hI2:=hI.set (u:=.iface ty x) hA.2;have hn:Vr w ((W.setCell ⟨g,0,none⟩ (.iface ty x)).alloc (.cells #[.string ⟨ws.toArray⟩] 9)) W.heap.size (.string ⟨ws.toArray⟩) 9:=by
  have:=Vr.new hI2.size (.string ⟨ws.toArray⟩) 9;simpa [World.setCell] using this
 exact⟨_,_,d,j,ty,x,ws,k,lo,hi,rfl,rfl,h1,h2,h3,h4,h5,hA.put.alloc _,hn,hI2.below (A5 _ _),(hR.set hg _).alloc _⟩
theorem vQw (h1:Ls.dX8 (Ls.pat (13-z)) (rest s (i+1))=some (d,rest s j))(h2:Ls.eXq (rest s j)=some (ws,rest s k))(h3:i+1<=j)(h4:j+ws.length<k)(h5:k<=s.size)(hI:Inp w rb s k z W)(hR:Rq w W lo hi d (.iface ty x)){g:Nat}{v:Value}(hB:Vr w W g v 9)(hg:g<lo\/hi<=g):aQ7 w rb s i z (.pointer (some ⟨W.heap.size,0,none⟩)) (.pointer (some ⟨g,0,none⟩)) ((W.setCell ⟨g,0,none⟩ (.string ⟨ws.toArray⟩)).alloc (.cells #[.iface ty x] 89)):=by
 have hI2:=hI.set (u:=.string ⟨ws.toArray⟩) hB.2;have hn:Vr w ((W.setCell ⟨g,0,none⟩ (.string ⟨ws.toArray⟩)).alloc (.cells #[.iface ty x] 89)) W.heap.size (.iface ty x) 89:=by
  have:=Vr.new hI2.size (.iface ty x) 89;simpa [World.setCell] using this
 exact⟨_,_,d,j,ty,x,ws,k,lo,hi,rfl,rfl,h1,h2,h3,h4,h5,hn,hB.put.alloc _,hI2.below (A5 _ _),(hR.set hg _).alloc _⟩
theorem vQx (h1:Ls.dX8 (Ls.pat (13-z)) (rest s (i+1))=some (d,rest s j))(h2:Ls.eXq (rest s j)=some (ws,rest s k))(h3:i+1<=j)(h4:j+ws.length<k)(h5:k<=s.size)(hI:Inp w rb s k z W)(hR:Rq w W lo hi d (.iface ty x)){g h:Nat}{v u:Value}(hA:Vr w W g v 89)(hB:Vr w W h u 9)(hne:g≠h)(hg:g<lo\/hi<=g)(hh:h<lo\/hi<=h):aQ7 w rb s i z (.pointer (some ⟨g,0,none⟩)) (.pointer (some ⟨h,0,none⟩)) ((W.setCell ⟨g,0,none⟩ (.iface ty x)).setCell ⟨h,0,none⟩ (.string ⟨ws.toArray⟩)):=
 ⟨_,_,d,j,ty,x,ws,k,lo,hi,rfl,rfl,h1,h2,h3,h4,h5,hA.put.set hne,(hB.set (Ne.symm hne)).put,(hI.set hA.2).set hB.2,(hR.set hg _).set hh _⟩
end
section
variable {P:List UInt8->Ls.Rd} {s:ByteArray} {i:Nat}
theorem yQv (h:A7 s i 47=false):O8 P (rest s i)=.none:=by
 unfold O8;rw[if_neg (by rw[C4,h];simp)]
theorem vQq (h:A7 s i 47=true)(h2:Ls.dX8 P (rest s (i+1))=.none):O8 P (rest s i)=.none:=by
 unfold O8;rw[if_pos (C4.2 h),E3,h2]
theorem vQr (h:A7 s i 47=true){d:Ls.D}{j:Nat}(h2:Ls.dX8 P (rest s (i+1))=some (d,rest s j))(h3:Ls.eXq (rest s j)=.none):O8 P (rest s i)=.none:=by
 unfold O8;rw[if_pos (C4.2 h),E3,h2];dsimp only
 rw[h3]
theorem vQs (h:A7 s i 47=true){d:Ls.D}{j:Nat}(h2:Ls.dX8 P (rest s (i+1))=some (d,rest s j)){ws:List UInt8}{k:Nat}(h3:Ls.eXq (rest s j)=some (ws,rest s k)):O8 P (rest s i)=some (Ls.dX4 d ws,rest s k):=by
 unfold O8;rw[if_pos (C4.2 h),E3,h2];dsimp only
 rw[h3]
end
theorem yQw (s:ByteArray)(hs:s.size<=120)(a1:Addr):cQ9 s a1:=by
 intro z rb i w hz h hE hi;have hmf:∀(fn:Fn) (first cap:Array Value) (w:World),(Instr.makeFunc fn first cap).run Tryz.prog w=.ok (.func fn first cap) w:=fun _ _ _ _=>rfl;have HI0:Hid (Inp w rb s i z (I0 w rb)):=Inp.enter h;have HE:Hid (Env w rb a1):=hE;cases h47:A7 s i 47 with
 | false=>
  have HN:Hid (O8 (Ls.pat (13-z)) (rest s i)=.none):=yQv h47;have hC:=dQz rb s i z 47 a1 _ HI0.out.lies (HI0.out.env hE) (by omega) (by omega) h47;clear h47;go_enter Tryz.func150,Tryz.ntmps150;go_wp2_with fail;refine hC.mono ?_;rintro e w1 ⟨rfl,hg⟩;go_wp2_with fail;exact⟨rfl,.inr ⟨HN.out,rfl,HI0.out.threw rfl hg⟩⟩
 | true=>
  have H47:Hid (A7 s i 47=true):=h47;have hi1:=(D6 h47).1;have hC:=dQ0 rb s i z 47 _ HI0.out.lies (by omega) h47;have hz0:(I0 w rb).heap.size=w.heap.size+1+1:=by simp
  clear h47 hE h;go_enter Tryz.func150,Tryz.ntmps150;go_wp2_with fail;refine hC.mono ?_;clear hC;generalize I0 w rb=W0 at *;rintro e w1 ⟨rfl,hl1⟩;have hI1:=HI0.out.go hl1;have b1:=hI1.cell;have hz1:=hI1.size;have HI1:Hid (Inp w rb s (i+1) z w1):=hI1;have HP:Hid (∀W,Below w1.heap.size w1 W->Calls Tryz.prog 166 #[D2 rb] W fun e w'=>
    (∃d j ty x,Ls.dX8 (Ls.pat (13-z)) (rest s (i+1))=some (d,rest s j)/\i+1<=j/\j<=s.size/\e=.returned (.iface ty x)/\Inp w rb s j z w'/\Rq w w' W.heap.size w'.heap.size d (.iface ty x)/\RLeft W rb s j z w')\/
    (Ls.dX8 (Ls.pat (13-z)) (rest s (i+1))=.none/\J7 w rb a1 e w')):=by
   intro W hW;have hJ:=HI1.out.below hW;have hJz:=hJ.size;refine(lQl s (by omega) a1 z hz rb (i+1) W hJ.lies (hJ.env HE.out) (by omega)).mono ?_;rintro e w' (⟨d,j,v,hr,hij,hj,rfl,hrep,hl⟩|⟨hr,rfl,hg⟩)
   ·obtain⟨ty,x,rfl⟩:=hrep.iface
    exact .inl ⟨d,j,ty,x,hr,hij,hj,rfl,hJ.go hl,⟨hrep,hJz,Nat.le_refl _⟩,hl⟩
   ·exact .inr ⟨hr,rfl,hJ.threw rfl hg⟩
  have HW:Hid (∀W j,Inp w rb s j z W->j<=s.size->Calls Tryz.prog 176 #[D2 rb] W fun e w'=>
    (∃ws k,Ls.eXq (rest s j)=some (ws,rest s k)/\j+ws.length<k/\k<=s.size/\e=.returned (.string ⟨ws.toArray⟩)/\Inp w rb s k z w'/\RLeft W rb s k z w')\/
    (Ls.eXq (rest s j)=.none/\J7 w rb a1 e w')):=by
   intro W j hJ hj;refine(lQv s (by omega) a1 z rb j W hJ.lies (hJ.env HE.out) hj).mono ?_;rintro e w' (⟨ws,k,hr,hjk,hk,rfl,hl⟩|⟨hr,rfl,hg⟩)
   ·exact .inl ⟨ws,k,hr,hjk,hk,rfl,hJ.go hl,hl⟩
   ·exact .inr ⟨hr,rfl,hJ.threw rfl hg⟩
  have ho:=hI1.inn.old;clear hI1 hl1;go_upto_region 2 with (fail);go_cut [3,4] (fun sA sB wx=>aQ7 w rb s i z sA sB wx)
  case first=>
   go_region_held (fun w'=>w'.cell? ⟨w.heap.size,0,none⟩=some (.pointer (some ⟨rb,0,none⟩))) (first|assumption|(go_keep;done)|(refine cQ6 ?_ ?_<;>first|assumption|omega)|(refine cQ6 ?_ (cQ6 ?_ ?_)<;>first|assumption|omega)|(refine cX4 ?_ ?_<;>first|assumption|omega))
    (first
     | (go_at_call 166;refine(HP.out _ ?_).mono ?_;(first|exact(Below.refl _ _).drew|exact(Below.refl _ _).drew.alloc (by simp) _|exact((Below.refl _ _).drew.alloc (by simp) _).alloc (by simp) _);rintro e w2 (⟨d,j,ty,x,hr2,hij,hj,rfl,hI2,hR2,hl2⟩|⟨hr2,rfl,hg2⟩);rotate_left;(go_wp2_with fail;exact⟨rfl,.inr ⟨vQq H47.out hr2,rfl,hg2⟩⟩);have b2:=hI2.cell;have hz2:=hI2.size;(try have hA2:Vr w w2 w1.heap.size (.nilIface) 89:=Vr.left ho hl2 (Vr.new hz1 _ _));(try have hA2:Vr w w2 w1.heap.size (.nilIface) 89:=Vr.left ho hl2 ((Vr.new hz1 _ _).alloc _));(try have hA2:Vr w w2 (w1.heap.size+1) (.nilIface) 89:=Vr.left ho hl2 (Vr.new2 hz1 _ _ _ _));(try have hB2:Vr w w2 w1.heap.size (.string ⟨#[]⟩) 9:=Vr.left ho hl2 (Vr.new hz1 _ _));(try have hB2:Vr w w2 w1.heap.size (.string ⟨#[]⟩) 9:=Vr.left ho hl2 ((Vr.new hz1 _ _).alloc _));(try have hB2:Vr w w2 (w1.heap.size+1) (.string ⟨#[]⟩) 9:=Vr.left ho hl2 (Vr.new2 hz1 _ _ _ _));(try obtain⟨cA2,fA2⟩:=hA2.one);(try obtain⟨cB2,fB2⟩:=hB2.one);(try obtain⟨lA2,nA2,mA2⟩:=hA2.lt);(try obtain⟨lB2,nB2,mB2⟩:=hB2.lt))
     | (go_at_call 176;refine(HW.out _ j ?_ hj).mono ?_;(first|exact hI2|exact hI2.below (A5 _ _)|exact hI2.below (C6 _ _ _));rintro e w3 (⟨ws,k,hr3,hjk,hk,rfl,hI3,hl3⟩|⟨hr3,rfl,hg3⟩);rotate_left;(go_wp2_with fail;exact⟨rfl,.inr ⟨vQr H47.out hr2 hr3,rfl,hg3⟩⟩);have b3:=hI3.cell;have hz3:=hI3.size;(try have hR3:=Rq.left ho hl3 hR2);(try have hR3:=Rq.left ho hl3 (hR2.alloc _));(try have hR3:=Rq.left ho hl3 ((hR2.alloc _).alloc _));(try have hA3:=Vr.left ho hl3 hA2);(try have hA3:=Vr.left ho hl3 (hA2.alloc _));(try have hA3:Vr w w3 w2.heap.size (.nilIface) 89:=Vr.left ho hl3 (Vr.new hz2 _ _));(try have hA3:Vr w w3 w2.heap.size (.nilIface) 89:=Vr.left ho hl3 ((Vr.new hz2 _ _).alloc _));(try have hA3:Vr w w3 (w2.heap.size+1) (.nilIface) 89:=Vr.left ho hl3 (Vr.new2 hz2 _ _ _ _));(try have hB3:=Vr.left ho hl3 hB2);(try have hB3:=Vr.left ho hl3 (hB2.alloc _));(try have hB3:Vr w w3 w2.heap.size (.string ⟨#[]⟩) 9:=Vr.left ho hl3 (Vr.new hz2 _ _));(try have hB3:Vr w w3 w2.heap.size (.string ⟨#[]⟩) 9:=Vr.left ho hl3 ((Vr.new hz2 _ _).alloc _));(try have hB3:Vr w w3 (w2.heap.size+1) (.string ⟨#[]⟩) 9:=Vr.left ho hl3 (Vr.new2 hz2 _ _ _ _));(try obtain⟨cA3,fA3⟩:=hA3.one);(try obtain⟨cB3,fB3⟩:=hB3.one);(try obtain⟨cA4,fA4⟩:=(hA3.alloc (.cells #[.string ⟨#[]⟩] 9)).one);(try obtain⟨cB4,fB4⟩:=(hB3.alloc (.cells #[.nilIface] 89)).one);(try obtain⟨lA,nA,mA⟩:=hA3.lt);(try obtain⟨lB,nB,mB⟩:=hB3.lt)))
   all_goals
    have hhi:=hR3.high
    (try simp only[World.size_alloc]at hR3)
    go_wp2_with fail;go_meet
    case rel=>
     first
      | exact vQt hr2 hr3 hij hjk hk hI3 hR3
      | exact vQu hr2 hr3 hij hjk hk hI3 hR3
      | (refine vQv hr2 hr3 hij hjk hk hI3 hR3 hA3 ?_;first|omega|(simp;done)|(simp;omega))
      | (refine vQw hr2 hr3 hij hjk hk hI3 hR3 hB3 ?_;first|omega|(simp;done)|(simp;omega))
      | (refine vQx hr2 hr3 hij hjk hk hI3 hR3 hA3 hB3 ?_ ?_ ?_<;>first|omega|(simp;done)|(simp;omega))
  case rest=>
   obtain⟨g,h,d,j,ty,x,ws,k,lo,hi,rfl,rfl,hr2,hr3,hij,hjk,hk,hA,hB,hI,hR⟩:=hcut;obtain⟨cA,fA⟩:=hA.one;obtain⟨cB,fB⟩:=hB.one;have hfew:=mQm hr2;rw[E7,E7]at hfew;have hlo:=hR.low;have hhi:=hR.high;have HRep:Hid (Rep wc (fun q=>w.heap.size+1<q/\q<wc.heap.size) 0 d [.iface ty x]):=hR.rep.mono (fun q hq=>⟨by omega,by omega⟩) (fun _ _=>rfl);obtain⟨f,hm,hcf,hf⟩:=bXb (d:=d) (by omega) (by omega) (w:=wc) (G:=fun q=>w.heap.size+1<q/\q<wc.heap.size) (fun q hq=>hq.2) HRep.out;obtain⟨r0,r1,s0,s1⟩:=hI.res.two;have HN:Hid (O8 (Ls.pat (13-z)) (rest s i)=some (Ls.dX4 d ws,rest s k)):=vQs H47.out hr2 hr3;have HA:Hid (Vr w wc g (.iface ty x) 89):=hA;have HB:Hid (Vr w wc h (.string ⟨ws.toArray⟩) 9):=hB;have HI:Hid (Inp w rb s k z wc):=hI;have HF:Hid (∀W,Below wc.heap.size wc W->Calls Tryz.prog f #[x] W fun e w'=>e=.returned (.int .i64 (Ls.dsize d))/\Below wc.heap.size wc w'):=hf;have hsz:(ByteArray.mk ws.toArray).size=ws.length:=by simp[ByteArray.size]
   have hwr:IntKind.i64.wrap ((Ls.dsize d:Int)+(ws.length:Int))=((Ls.dsize d:Int)+(ws.length:Int)):=by rw[IntKind.wrap_i64];omega
   have hAl:=hA.2;have hBl:=hB.2;clear hA hB hI hf hr2 hr3 hR HP HW HI1 HI0;go_wp2_with fail;go_region_held (fun w'=>w'.cell? ⟨g,0,none⟩=some (.iface ty x)/\w'.cell? ⟨h,0,none⟩=some (.string ⟨ws.toArray⟩)) (first|assumption|(go_keep;done)|(refine uQu ?_ ?_ ?_ ?_<;>first|assumption|omega))
    (first
     | (refine(HF.out _ ?_).mono ?_;exact(Below.refl _ _).drew;rintro e w5 ⟨rfl,hb5⟩;have cA5:=(hb5.cell (p:=⟨g,0,none⟩) HA.out.1.lt).trans cA;have cB5:=(hb5.cell (p:=⟨h,0,none⟩) HB.out.1.lt).trans cB;have hI5:=HI.out.below hb5;obtain⟨r0,r1,s0,s1⟩:=hI5.res.two))
   all_goals
    have HP:Hid (PlPost w rb s i z a1 (O8 (Ls.pat (13-z)) (rest s i)) (.returned (C5 (Ls.dsize d+ws.length) (.func (.func 177) #[] #[.pointer (some ⟨g,0,none⟩),.pointer (some ⟨h,0,none⟩)]))) ((w5.setCell ⟨w.heap.size+1,0,none⟩ (.int .i64 ((Ls.dsize d:Int)+(ws.length:Int)))).setCell ⟨w.heap.size+1,1,none⟩ (.func (.func 177) #[] #[.pointer (some ⟨g,0,none⟩),.pointer (some ⟨h,0,none⟩)]))):=by
     have hz5:=hb5.size;have:=hI5.ret (i:=i) (a1:=a1) (l:=Ls.dX4 d ws) (f:=177) (caps:=#[.pointer (some ⟨g,0,none⟩),.pointer (some ⟨h,0,none⟩)]) HN.out (by rw[Ls.gXi];omega) hk (by
      unfold Ls.dX4;rw[PlanV];exact .inr (.inl ⟨rfl,g,h,.iface ty x,⟨hAl,Nat.lt_of_lt_of_le HA.out.1.lt hz5⟩,⟨hBl,Nat.lt_of_lt_of_le HB.out.1.lt hz5⟩,rfl,HA.out.1.below hb5 HA.out.1.lt,HRep.out.mono (fun q hq=>⟨hq.1,Nat.lt_of_lt_of_le hq.2 hz5⟩) (fun q hq=>hb5.block q hq.2),HB.out.1.below hb5 HB.out.1.lt⟩))
     rw[Ls.gXi,Int.natCast_add]at this;exact this
    clear hI5 hb5 HF HRep;go_wp2_with fail;exact bodyPost_ret (v:=C5 (Ls.dsize d+ws.length) (.func (.func 177) #[] #[.pointer (some ⟨g,0,none⟩),.pointer (some ⟨h,0,none⟩)])) (by simp[results,Tryz.results150,go_sem,r0,r1]) rfl HP.out
end Go.Proofs.YtfklinjaajafgaaGreatDoor
