import Derived.Test.YtfklinjaajafgaaGreatDoorK14
set_option maxRecDepth 100000
set_option maxHeartbeats 4000000
namespace Go.Proofs.YtfklinjaajafgaaGreatDoor
open Go.RowKit
def Vr (w W:World)(g:Nat)(v:Value)(T:TypeId):Prop:=Blk W g #[v] T/\w.heap.size+1<g
theorem Vr.new {w W:World}(h:w.heap.size+1<W.heap.size)(v:Value)(T:TypeId):Vr w (W.alloc (.cells #[v] T)) W.heap.size v T:=⟨Blk.new W _ _,h⟩
theorem Vr.new2 {w W:World}(h:w.heap.size+1<W.heap.size)(c:Array Value)(t:TypeId)(v:Value)(T:TypeId):Vr w ((W.alloc (.cells c t)).alloc (.cells #[v] T)) (W.heap.size+1) v T:=by
 have:=Blk.new (W.alloc (.cells c t)) #[v] T;rw[World.size_alloc]at this;exact⟨this,by omega⟩
theorem Vr.alloc {w W:World}{g:Nat}{v:Value}{T:TypeId}(h:Vr w W g v T)(o:Obj):Vr w (W.alloc o) g v T:=⟨h.1.of (Below.heap_alloc _ _ _ h.1.lt),h.2⟩
theorem Vr.left {w W c:World}{b:Nat}{s:ByteArray}{a z g:Nat}{v:Value}{T:TypeId}(e:b<w.heap.size)(d:RLeft W b s a z c)(h:Vr w W g v T):Vr w c g v T:=⟨h.1.of (d.grown.block g h.1.lt (by have:=h.2;simp;omega)),h.2⟩
theorem Vr.lt {w W:World}{g:Nat}{v:Value}{T:TypeId}(h:Vr w W g v T):g<W.heap.size/\¬g=W.heap.size/\¬W.heap.size=g:=⟨h.1.lt,Nat.ne_of_lt h.1.lt,Nat.ne_of_gt h.1.lt⟩
theorem Vr.one {w W:World}{g:Nat}{v:Value}{T:TypeId}(h:Vr w W g v T):Ce W g 0 v/\W.frozen? ⟨g,0,none⟩=false:=h.1.one
theorem Vr.set {w W:World}{g h:Nat}{v u:Value}{T:TypeId}(k:Vr w W g v T)(a:g≠h):Vr w (W.setCell ⟨h,0,none⟩ u) g v T:=⟨k.1.of (Below.heap_setCell _ _ _ _ a),k.2⟩
theorem Vr.put {w W:World}{g:Nat}{v u:Value}{T:TypeId}(k:Vr w W g v T):Vr w (W.setCell ⟨g,0,none⟩ u) g u T:=by
 refine⟨?_,k.2⟩;have:=k.1;unfold Blk at this ⊢;simp[World.setCell,Array.getElem?_modify,this]
theorem Inp.set {w W:World}{b:Nat}{s:ByteArray}{a z g:Nat}{u:Value}(h:Inp w b s a z W)(c:w.heap.size+1<g):Inp w b s a z (W.setCell ⟨g,0,none⟩ u):=
 ⟨h.inn.own (V8 _ _ _ _) (fun k e=>by cases e;omega),h.res.of (Below.heap_setCell _ _ _ _ (by show w.heap.size+1≠g;omega))⟩
structure Rq (w W:World)(lo hi:Nat)(d:Ls.D)(v:Value):Prop where
 rep:Rep W (fun q=>lo<=q/\q<hi) 0 d [v]
 low:w.heap.size+1<lo
 high:hi<=W.heap.size
theorem Rq.alloc {w W:World}{lo a:Nat}{d:Ls.D}{v:Value}(h:Rq w W lo a d v)(o:Obj):Rq w (W.alloc o) lo a d v:=
 ⟨h.rep.mono (fun _ h=>h) (fun q b=>Below.heap_alloc _ _ _ (by have:=b.2;have:=h.high;omega)),h.low,by have:=h.high;simp;omega⟩
theorem Rq.left {w W g:World}{f:Nat}{s:ByteArray}{a z lo b:Nat}{d:Ls.D}{v:Value}(i:f<w.heap.size)(c:RLeft W f s a z g)(h:Rq w W lo b d v):Rq w g lo b d v:=
 ⟨h.rep.mono (fun _ h=>h) (fun q e=>c.grown.block q (by have:=e.2;have:=h.high;omega) (by have:=e.1;have:=h.low;simp;omega)),h.low,Lq h.high c.grown.size⟩
theorem Rq.set {w W:World}{lo a:Nat}{d:Ls.D}{v:Value}(h:Rq w W lo a d v){g:Nat}(c:g<lo\/a<=g)(u:Value):Rq w (W.setCell ⟨g,0,none⟩ u) lo a d v:=
 ⟨h.rep.mono (fun _ h=>h) (fun q b=>Below.heap_setCell _ _ _ _ (by show q≠g;have:=b.1;have:=b.2;omega)),h.low,by simpa [World.setCell] using h.high⟩
theorem dQr {W:World}{g x:Nat}{v:Value}{p:Option Value}(a:g≠x)(h:W.cell? ⟨x,0,none⟩=p):(W.setCell ⟨g,0,none⟩ v).cell? ⟨x,0,none⟩=p:=(World.cell?_setCell_far _ _ _ _ a).trans h
theorem eXf {W:World}{g x:Nat}{v p:Value}{o:Obj}(a:g≠x)(h:Ce W x 0 p):((W.setCell ⟨g,0,none⟩ v).alloc o).cell? ⟨x,0,none⟩=some p:=
 (World.cell?_alloc_some _ _ _ (by rw[dQr a h];rfl)).trans (dQr a h)
theorem vQ1 {W:World}{r x y:Nat}{a b:Value}(c:r≠x)(d:r≠y){p q:Option Value}(e:W.cell? ⟨x,0,none⟩=p)(f:W.cell? ⟨y,0,none⟩=q) :
  ((W.setCell ⟨r,0,none⟩ a).setCell ⟨r,1,none⟩ b).cell? ⟨x,0,none⟩=p/\((W.setCell ⟨r,0,none⟩ a).setCell ⟨r,1,none⟩ b).cell? ⟨y,0,none⟩=q:=
 ⟨(World.cell?_setCell_far _ _ _ _ c).trans ((World.cell?_setCell_far _ _ _ _ c).trans e),(World.cell?_setCell_far _ _ _ _ d).trans ((World.cell?_setCell_far _ _ _ _ d).trans f)⟩
def bQp (w:World)(rb:Nat)(s:ByteArray)(i z:Nat)(sA sB:Value)(W:World):Prop:=
 ∃g h d j ty x ws k lo hi,sA=.pointer (some ⟨g,0,none⟩)/\sB=.pointer (some ⟨h,0,none⟩)/\Ls.fXj (Ls.pat (13-z)) (rest s (i+1))=some (d,rest s j)/\Ls.fX1 (rest s j)=some (ws,rest s k)/\i+1<=j/\j+ws.length<k/\k<=s.size/\
  Vr w W g (.iface ty x) 89/\Vr w W h (.string ⟨ws.toArray⟩) 9/\Inp w rb s k z W/\Rq w W lo hi d (.iface ty x)
section
variable {w W:World} {rb:Nat} {s:ByteArray} {i z j k lo hi:Nat} {d:Ls.D} {ty:TypeId} {x:Value} {ws:List UInt8}
theorem wQ0 (b:Ls.fXj (Ls.pat (13-z)) (rest s (i+1))=some (d,rest s j))(c:Ls.fX1 (rest s j)=some (ws,rest s k))(e:i+1<=j)(f:j+ws.length<k)(g:k<=s.size)(a:Inp w rb s k z W)(h:Rq w W lo hi d (.iface ty x)):bQp w rb s i z (Pt W.heap.size) (.pointer (some ⟨W.heap.size+1,0,none⟩)) ((W.alloc (.cells #[.iface ty x] 89)).alloc (.cells #[Sv ws] 9)):=
 ⟨_,_,d,j,ty,x,ws,k,lo,hi,rfl,rfl,b,c,e,f,g,(Vr.new a.size _ _).alloc _,Vr.new2 a.size _ _ _ _,a.below (C6 _ _ _),(h.alloc _).alloc _⟩
theorem wQ1 (b:Ls.fXj (Ls.pat (13-z)) (rest s (i+1))=some (d,rest s j))(c:Ls.fX1 (rest s j)=some (ws,rest s k))(e:i+1<=j)(f:j+ws.length<k)(g:k<=s.size)(a:Inp w rb s k z W)(h:Rq w W lo hi d (.iface ty x)):bQp w rb s i z (.pointer (some ⟨W.heap.size+1,0,none⟩)) (Pt W.heap.size) ((W.alloc (.cells #[Sv ws] 9)).alloc (.cells #[.iface ty x] 89)):=
 ⟨_,_,d,j,ty,x,ws,k,lo,hi,rfl,rfl,b,c,e,f,g,Vr.new2 a.size _ _ _ _,(Vr.new a.size _ _).alloc _,a.below (C6 _ _ _),(h.alloc _).alloc _⟩
theorem wQ2 (c:Ls.fXj (Ls.pat (13-z)) (rest s (i+1))=some (d,rest s j))(e:Ls.fX1 (rest s j)=some (ws,rest s k))(f:i+1<=j)(h:j+ws.length<k)(l:k<=s.size)(m:Inp w rb s k z W)(n:Rq w W lo hi d (.iface ty x)){g:Nat}{v:Value}(a:Vr w W g v 89)(o:g<lo\/hi<=g):bQp w rb s i z (Pt g) (Pt W.heap.size) ((W.setCell ⟨g,0,none⟩ (.iface ty x)).alloc (.cells #[Sv ws] 9)):=by
 have b:=m.set (u:=.iface ty x) a.2;have p:Vr w ((W.setCell ⟨g,0,none⟩ (.iface ty x)).alloc (.cells #[Sv ws] 9)) W.heap.size (Sv ws) 9:=by
  have:=Vr.new b.size (Sv ws) 9;simpa [World.setCell] using this
 exact⟨_,_,d,j,ty,x,ws,k,lo,hi,rfl,rfl,c,e,f,h,l,a.put.alloc _,p,b.below (A5 _ _),(n.set o _).alloc _⟩
theorem wQ3 (c:Ls.fXj (Ls.pat (13-z)) (rest s (i+1))=some (d,rest s j))(e:Ls.fX1 (rest s j)=some (ws,rest s k))(f:i+1<=j)(h:j+ws.length<k)(l:k<=s.size)(m:Inp w rb s k z W)(n:Rq w W lo hi d (.iface ty x)){g:Nat}{v:Value}(a:Vr w W g v 9)(o:g<lo\/hi<=g):bQp w rb s i z (Pt W.heap.size) (Pt g) ((W.setCell ⟨g,0,none⟩ (Sv ws)).alloc (.cells #[.iface ty x] 89)):=by
 have b:=m.set (u:=Sv ws) a.2;have p:Vr w ((W.setCell ⟨g,0,none⟩ (Sv ws)).alloc (.cells #[.iface ty x] 89)) W.heap.size (.iface ty x) 89:=by
  have:=Vr.new b.size (.iface ty x) 89;simpa [World.setCell] using this
 exact⟨_,_,d,j,ty,x,ws,k,lo,hi,rfl,rfl,c,e,f,h,l,p,a.put.alloc _,b.below (A5 _ _),(n.set o _).alloc _⟩
theorem wQ4 (e:Ls.fXj (Ls.pat (13-z)) (rest s (i+1))=some (d,rest s j))(f:Ls.fX1 (rest s j)=some (ws,rest s k))(l:i+1<=j)(m:j+ws.length<k)(n:k<=s.size)(o:Inp w rb s k z W)(p:Rq w W lo hi d (.iface ty x)){g h:Nat}{v u:Value}(a:Vr w W g v 89)(b:Vr w W h u 9)(c:g≠h)(q:g<lo\/hi<=g)(r:h<lo\/hi<=h):bQp w rb s i z (Pt g) (Pt h) ((W.setCell ⟨g,0,none⟩ (.iface ty x)).setCell ⟨h,0,none⟩ (Sv ws)):=
 ⟨_,_,d,j,ty,x,ws,k,lo,hi,rfl,rfl,e,f,l,m,n,a.put.set c,(b.set (Ne.symm c)).put,(o.set a.2).set b.2,(p.set q _).set r _⟩
end
section
variable {P:List UInt8->Ls.Rd} {s:ByteArray} {i:Nat}
theorem zQ1 (h:A7 s i 47=false):Q5 P (rest s i)=.none:=by
 unfold Q5;rw[if_neg (by rw[C4,h];simp)]
theorem wQx (h:A7 s i 47=true)(a:Ls.fXj P (rest s (i+1))=.none):Q5 P (rest s i)=.none:=by
 unfold Q5;rw[if_pos (C4.2 h),E7,a]
theorem wQy (h:A7 s i 47=true){d:Ls.D}{j:Nat}(a:Ls.fXj P (rest s (i+1))=some (d,rest s j))(b:Ls.fX1 (rest s j)=.none):Q5 P (rest s i)=.none:=by
 unfold Q5;rw[if_pos (C4.2 h),E7,a];dsimp only
 rw[b]
theorem wQz (h:A7 s i 47=true){d:Ls.D}{j:Nat}(b:Ls.fXj P (rest s (i+1))=some (d,rest s j)){a:List UInt8}{k:Nat}(c:Ls.fX1 (rest s j)=some (a,rest s k)):Q5 P (rest s i)=some (Ls.fXf d a,rest s k):=by
 unfold Q5;rw[if_pos (C4.2 h),E7,b];dsimp only
 rw[c]
end
theorem zQ2 (s:ByteArray)(hs:s.size<=120)(a1:Addr):dQu s a1:=by
 intro z a i w hz h hE hi;have d7:∀(fn:Fn) (first a7:Array Value) (w:World),(Instr.makeFunc fn first a7).run Tryz.prog w=.ok (.func fn first a7) w:=fun _ _ _ _=>rfl;have O:Hid (Inp w a s i z (I9 w a)):=Inp.enter h;have HE:Hid (Env w a a1):=hE;cases K:A7 s i 47 with
 | false=>
  have HN:Hid (Q5 (Ls.pat (13-z)) (rest s i)=.none):=zQ1 K;have hC:=eQq a s i z 47 a1 _ O.out.lies (O.out.env hE) (by omega) (by omega) K;clear K;go_enter Tryz.func150,Tryz.ntmps150;go_wp2_with fail;refine hC.mono ?_;rintro e A ⟨rfl,Y⟩;go_wp2_with fail;exact⟨rfl,.inr ⟨HN.out,rfl,O.out.threw rfl Y⟩⟩
 | true=>
  have a0:Hid (A7 s i 47=true):=K;have d5:=(D9 K).1;have hC:=eQr a s i z 47 _ O.out.lies (by omega) K;have e0:(I9 w a).heap.size=w.heap.size+1+1:=by simp
  clear K hE h;go_enter Tryz.func150,Tryz.ntmps150;go_wp2_with fail;refine hC.mono ?_;clear hC;generalize I9 w a=W0 at *;rintro e A ⟨rfl,a8⟩;have V:=O.out.go a8;have b1:=V.cell;have S:=V.size;have a6:Hid (Inp w a s (i+1) z A):=V;have HP:Hid (∀W,Below A.heap.size A W->Calls Tryz.prog 166 #[D3 a] W fun e c=>
    (∃d j y x,Ls.fXj (Ls.pat (13-z)) (rest s (i+1))=some (d,rest s j)/\i+1<=j/\j<=s.size/\e=.returned (.iface y x)/\Inp w a s j z c/\Rq w c W.heap.size c.heap.size d (.iface y x)/\RLeft W a s j z c)\/
    (Ls.fXj (Ls.pat (13-z)) (rest s (i+1))=.none/\K6 w a a1 e c)):=by
   intro W hW;have t:=a6.out.below hW;have b5:=t.size;refine(mQk s (by omega) a1 z hz a (i+1) W t.lies (t.env HE.out) (by omega)).mono ?_;rintro e c (⟨d,j,v,N,I,Z,rfl,a9,hl⟩|⟨N,rfl,Y⟩)
   ·obtain⟨y,x,rfl⟩:=a9.iface
    exact .inl ⟨d,j,y,x,N,I,Z,rfl,t.go hl,⟨a9,b5,Nat.le_refl _⟩,hl⟩
   ·exact .inr ⟨N,rfl,t.threw rfl Y⟩
  have HW:Hid (∀W j,Inp w a s j z W->j<=s.size->Calls Tryz.prog 176 #[D3 a] W fun e c=>
    (∃m k,Ls.fX1 (rest s j)=some (m,rest s k)/\j+m.length<k/\k<=s.size/\e=.returned (.string ⟨m.toArray⟩)/\Inp w a s k z c/\RLeft W a s k z c)\/
    (Ls.fX1 (rest s j)=.none/\K6 w a a1 e c)):=by
   intro W j t Z;refine(mQv s (by omega) a1 z a j W t.lies (t.env HE.out) Z).mono ?_;rintro e c (⟨m,k,N,J,F,rfl,hl⟩|⟨N,rfl,Y⟩)
   ·exact .inl ⟨m,k,N,J,F,rfl,t.go hl,hl⟩
   ·exact .inr ⟨N,rfl,t.threw rfl Y⟩
  have b:=V.inn.old;clear V a8;go_upto_region 2 with (fail);go_cut [3,4] (fun sA sB wx=>bQp w a s i z sA sB wx)
  case first=>
   go_region_held (fun c=>c.cell? ⟨w.heap.size,0,none⟩=some (.pointer (some ⟨a,0,none⟩))) (first|assumption|(go_keep;done)|(refine dQr ?_ ?_<;>first|assumption|omega)|(refine dQr ?_ (dQr ?_ ?_)<;>first|assumption|omega)|(refine eXf ?_ ?_<;>first|assumption|omega))
    (first
     | (go_at_call 166;refine(HP.out _ ?_).mono ?_;(first|exact(Below.refl _ _).drew|exact(Below.refl _ _).drew.alloc (by simp) _|exact((Below.refl _ _).drew.alloc (by simp) _).alloc (by simp) _);rintro e r (⟨d,j,y,x,o,I,Z,rfl,X,a4,R⟩|⟨o,rfl,b7⟩);rotate_left;(go_wp2_with fail;exact⟨rfl,.inr ⟨wQx a0.out o,rfl,b7⟩⟩);have b2:=X.cell;have T:=X.size;(try have P:Vr w r A.heap.size (.nilIface) 89:=Vr.left b R (Vr.new S _ _));(try have P:Vr w r A.heap.size (.nilIface) 89:=Vr.left b R ((Vr.new S _ _).alloc _));(try have P:Vr w r (A.heap.size+1) (.nilIface) 89:=Vr.left b R (Vr.new2 S _ _ _ _));(try have Q:Vr w r A.heap.size (.string ⟨#[]⟩) 9:=Vr.left b R (Vr.new S _ _));(try have Q:Vr w r A.heap.size (.string ⟨#[]⟩) 9:=Vr.left b R ((Vr.new S _ _).alloc _));(try have Q:Vr w r (A.heap.size+1) (.string ⟨#[]⟩) 9:=Vr.left b R (Vr.new2 S _ _ _ _));(try obtain⟨c0,c8⟩:=P.one);(try obtain⟨c4,d1⟩:=Q.one);(try obtain⟨e2,e6,e4⟩:=P.lt);(try obtain⟨e3,e7,e5⟩:=Q.lt))
     | (go_at_call 176;refine(HW.out _ j ?_ Z).mono ?_;(first|exact X|exact X.below (A5 _ _)|exact X.below (C6 _ _ _));rintro e U (⟨m,k,u,J,F,rfl,L,n⟩|⟨u,rfl,b8⟩);rotate_left;(go_wp2_with fail;exact⟨rfl,.inr ⟨wQy a0.out o u,rfl,b8⟩⟩);have b3:=L.cell;have e1:=L.size;(try have E:=Rq.left b n a4);(try have E:=Rq.left b n (a4.alloc _));(try have E:=Rq.left b n ((a4.alloc _).alloc _));(try have B:=Vr.left b n P);(try have B:=Vr.left b n (P.alloc _));(try have B:Vr w U r.heap.size (.nilIface) 89:=Vr.left b n (Vr.new T _ _));(try have B:Vr w U r.heap.size (.nilIface) 89:=Vr.left b n ((Vr.new T _ _).alloc _));(try have B:Vr w U (r.heap.size+1) (.nilIface) 89:=Vr.left b n (Vr.new2 T _ _ _ _));(try have C:=Vr.left b n Q);(try have C:=Vr.left b n (Q.alloc _));(try have C:Vr w U r.heap.size (.string ⟨#[]⟩) 9:=Vr.left b n (Vr.new T _ _));(try have C:Vr w U r.heap.size (.string ⟨#[]⟩) 9:=Vr.left b n ((Vr.new T _ _).alloc _));(try have C:Vr w U (r.heap.size+1) (.string ⟨#[]⟩) 9:=Vr.left b n (Vr.new2 T _ _ _ _));(try obtain⟨c1,c9⟩:=B.one);(try obtain⟨c5,d2⟩:=C.one);(try obtain⟨c2,d0⟩:=(B.alloc (.cells #[.string ⟨#[]⟩] 9)).one);(try obtain⟨c6,d3⟩:=(C.alloc (.cells #[.nilIface] 89)).one);(try obtain⟨lA,nA,mA⟩:=B.lt);(try obtain⟨lB,nB,mB⟩:=C.lt)))
   all_goals
    have b9:=E.high
    (try simp only[World.size_alloc]at E)
    go_wp2_with fail;go_meet
    case rel=>
     first
      | exact wQ0 o u I J F L E
      | exact wQ1 o u I J F L E
      | (refine wQ2 o u I J F L E B ?_;first|omega|(simp;done)|(simp;omega))
      | (refine wQ3 o u I J F L E C ?_;first|omega|(simp;done)|(simp;omega))
      | (refine wQ4 o u I J F L E B C ?_ ?_ ?_<;>first|omega|(simp;done)|(simp;omega))
  case rest=>
   obtain⟨g,h,d,j,y,x,m,k,lo,hi,rfl,rfl,o,u,I,J,F,hA,hB,hI,hR⟩:=hcut;obtain⟨cA,fA⟩:=hA.one;obtain⟨cB,fB⟩:=hB.one;have b6:=nQm o;rw[F4,F4]at b6;have d6:=hR.low;have b9:=hR.high;have a2:Hid (Rep wc (fun q=>w.heap.size+1<q/\q<wc.heap.size) 0 d [.iface y x]):=hR.rep.mono (fun q M=>⟨by omega,by omega⟩) (fun _ _=>rfl);obtain⟨f,hm,d4,hf⟩:=cXm (d:=d) (by omega) (by omega) (w:=wc) (G:=fun q=>w.heap.size+1<q/\q<wc.heap.size) (fun q M=>M.2) a2.out;obtain⟨r0,r1,s0,s1⟩:=hI.res.two;have HN:Hid (Q5 (Ls.pat (13-z)) (rest s i)=some (Ls.fXf d m,rest s k)):=wQz a0.out o u;have HA:Hid (Vr w wc g (.iface y x) 89):=hA;have HB:Hid (Vr w wc h (.string ⟨m.toArray⟩) 9):=hB;have HI:Hid (Inp w a s k z wc):=hI;have HF:Hid (∀W,Below wc.heap.size wc W->Calls Tryz.prog f #[x] W fun e c=>e=.returned (.int .i64 (Ls.dsize d))/\Below wc.heap.size wc c):=hf;have d8:(ByteArray.mk m.toArray).size=m.length:=by simp[ByteArray.size]
   have d9:IntKind.i64.wrap ((Ls.dsize d:Int)+(m.length:Int))=((Ls.dsize d:Int)+(m.length:Int)):=by rw[IntKind.wrap_i64];omega
   have b0:=hA.2;have b4:=hB.2;clear hA hB hI hf o u hR HP HW a6 O;go_wp2_with fail;go_region_held (fun c=>c.cell? ⟨g,0,none⟩=some (.iface y x)/\c.cell? ⟨h,0,none⟩=some (.string ⟨m.toArray⟩)) (first|assumption|(go_keep;done)|(refine vQ1 ?_ ?_ ?_ ?_<;>first|assumption|omega))
    (first
     | (refine(HF.out _ ?_).mono ?_;exact(Below.refl _ _).drew;rintro e w5 ⟨rfl,H⟩;have c3:=(H.cell (p:=⟨g,0,none⟩) HA.out.1.lt).trans cA;have c7:=(H.cell (p:=⟨h,0,none⟩) HB.out.1.lt).trans cB;have a3:=HI.out.below H;obtain⟨r0,r1,s0,s1⟩:=a3.res.two))
   all_goals
    have HP:Hid (PlPost w a s i z a1 (Q5 (Ls.pat (13-z)) (rest s i)) (.returned (C5 (Ls.dsize d+m.length) (.func (.func 177) #[] #[.pointer (some ⟨g,0,none⟩),.pointer (some ⟨h,0,none⟩)]))) ((w5.setCell ⟨w.heap.size+1,0,none⟩ (.int .i64 ((Ls.dsize d:Int)+(m.length:Int)))).setCell ⟨w.heap.size+1,1,none⟩ (.func (.func 177) #[] #[.pointer (some ⟨g,0,none⟩),.pointer (some ⟨h,0,none⟩)]))):=by
     have a5:=H.size;have:=a3.ret (i:=i) (a1:=a1) (l:=Ls.fXf d m) (f:=177) (caps:=#[.pointer (some ⟨g,0,none⟩),.pointer (some ⟨h,0,none⟩)]) HN.out (by rw[Ls.hXt];omega) F (by
      unfold Ls.fXf;rw[PlanV];exact .inr (.inl ⟨rfl,g,h,.iface y x,⟨b0,Nat.lt_of_lt_of_le HA.out.1.lt a5⟩,⟨b4,Nat.lt_of_lt_of_le HB.out.1.lt a5⟩,rfl,HA.out.1.below H HA.out.1.lt,a2.out.mono (fun q M=>⟨M.1,Nat.lt_of_lt_of_le M.2 a5⟩) (fun q M=>H.block q M.2),HB.out.1.below H HB.out.1.lt⟩))
     rw[Ls.hXt,Int.natCast_add]at this;exact this
    clear a3 H HF a2;go_wp2_with fail;exact bodyPost_ret (v:=C5 (Ls.dsize d+m.length) (.func (.func 177) #[] #[.pointer (some ⟨g,0,none⟩),.pointer (some ⟨h,0,none⟩)])) (by simp[results,Tryz.results150,go_sem,r0,r1]) rfl HP.out
end Go.Proofs.YtfklinjaajafgaaGreatDoor
