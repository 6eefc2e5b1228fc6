import Derived.Test.YtfklinjaajafgaaGreatDoorK13
set_option maxRecDepth 100000
set_option maxHeartbeats 4000000
namespace Go.Proofs.YtfklinjaajafgaaGreatDoor
open Ls hiding none
open Go.RowKit
def Vr (w W:World)(g:Nat)(v:Value)(T:TypeId):Prop:=Blk W g #[v] T/\w.heap.size+1<g
theorem Vr.new {w W:World}(h:w.heap.size+1<W.heap.size)(v:Value)(T:TypeId):Vr w (W.alloc (.cells #[v] T)) W.heap.size v T:=⟨Blk.new W _ _,h⟩
theorem Vr.new2 {w W:World}(h:w.heap.size+1<W.heap.size)(c:Array Value)(t:TypeId)(v:Value)(T:TypeId):Vr w ((W.alloc (.cells c t)).alloc (.cells #[v] T)) (W.heap.size+1) v T:=by
 have:=Blk.new (W.alloc (.cells c t)) #[v] T;rw[World.size_alloc]at this;exact⟨this,by omega⟩
theorem Vr.alloc {w W:World}{g:Nat}{v:Value}{T:TypeId}(h:Vr w W g v T)(o:Obj):Vr w (W.alloc o) g v T:=⟨h.1.of (Below.heap_alloc _ _ _ h.1.lt),h.2⟩
theorem Vr.left {w W c:World}{b:Nat}{s:By}{a z g:Nat}{v:Value}{T:TypeId}(e:b<w.heap.size)(d:RLeft W b s a z c)(h:Vr w W g v T):Vr w c g v T:=⟨h.1.of (d.grown.block g h.1.lt (by have:=h.2;simp;omega)),h.2⟩
theorem Vr.lt {w W:World}{g:Nat}{v:Value}{T:TypeId}(h:Vr w W g v T):g<W.heap.size/\¬g=W.heap.size/\¬W.heap.size=g:=⟨h.1.lt,Nat.ne_of_lt h.1.lt,Nat.ne_of_gt h.1.lt⟩
theorem Vr.one {w W:World}{g:Nat}{v:Value}{T:TypeId}(h:Vr w W g v T):Ce W g 0 v/\W.frozen? ⟨g,0,none⟩=false:=h.1.one
theorem Vr.set {w W:World}{g h:Nat}{v u:Value}{T:TypeId}(k:Vr w W g v T)(a:g≠h):Vr w (W.setCell ⟨h,0,none⟩ u) g v T:=⟨k.1.of (Below.heap_setCell _ _ _ _ a),k.2⟩
theorem Vr.put {w W:World}{g:Nat}{v u:Value}{T:TypeId}(k:Vr w W g v T):Vr w (W.setCell ⟨g,0,none⟩ u) g u T:=by
 refine⟨?_,k.2⟩;have:=k.1;unfold Blk at this ⊢;simp[World.setCell,Array.getElem?_modify,this]
theorem Inp.set {w W:World}{b:Nat}{s:By}{a z g:Nat}{u:Value}(h:Inp w b s a z W)(c:w.heap.size+1<g):Inp w b s a z (W.setCell ⟨g,0,none⟩ u):=
 ⟨h.inn.own (V8 _ _ _ _) (fun k e=>by cases e;omega),h.res.of (Below.heap_setCell _ _ _ _ (by show w.heap.size+1≠g;omega))⟩
structure Rq (w W:World)(lo hi:Nat)(d:Ls.D)(v:Value):Prop where
 rep:Rep W (fun q=>lo<=q/\q<hi) 0 d [v]
 low:w.heap.size+1<lo
 high:hi<=W.heap.size
theorem Rq.alloc {w W:World}{lo a:Nat}{d:Ls.D}{v:Value}(h:Rq w W lo a d v)(o:Obj):Rq w (W.alloc o) lo a d v:=
 ⟨h.rep.mono (fun _ h=>h) (fun q b=>Below.heap_alloc _ _ _ (by have:=b.2;have:=h.high;omega)),h.low,by have:=h.high;simp;omega⟩
theorem Rq.left {w W g:World}{f:Nat}{s:By}{a z lo b:Nat}{d:Ls.D}{v:Value}(i:f<w.heap.size)(c:RLeft W f s a z g)(h:Rq w W lo b d v):Rq w g lo b d v:=
 ⟨h.rep.mono (fun _ h=>h) (fun q e=>c.grown.block q (by have:=e.2;have:=h.high;omega) (by have:=e.1;have:=h.low;simp;omega)),h.low,Lq h.high c.grown.size⟩
theorem Rq.set {w W:World}{lo a:Nat}{d:Ls.D}{v:Value}(h:Rq w W lo a d v){g:Nat}(c:g<lo\/a<=g)(u:Value):Rq w (W.setCell ⟨g,0,none⟩ u) lo a d v:=
 ⟨h.rep.mono (fun _ h=>h) (fun q b=>Below.heap_setCell _ _ _ _ (by show q≠g;have:=b.1;have:=b.2;omega)),h.low,by simpa [World.setCell] using h.high⟩
theorem dQr {W:World}{g x:Nat}{v:Value}{p:Option Value}(a:g≠x)(h:W.cell? ⟨x,0,none⟩=p):(W.setCell ⟨g,0,none⟩ v).cell? ⟨x,0,none⟩=p:=(World.cell?_setCell_far _ _ _ _ a).trans h
theorem eXf {W:World}{g x:Nat}{v p:Value}{o:Obj}(a:g≠x)(h:Ce W x 0 p):((W.setCell ⟨g,0,none⟩ v).alloc o).cell? ⟨x,0,none⟩=some p:=
 (World.cell?_alloc_some _ _ _ (by rw[dQr a h];rfl)).trans (dQr a h)
theorem vQ1 {W:World}{r x y:Nat}{a b:Value}(c:r≠x)(d:r≠y){p q:Option Value}(e:W.cell? ⟨x,0,none⟩=p)(f:W.cell? ⟨y,0,none⟩=q) :
  ((W.setCell ⟨r,0,none⟩ a).setCell ⟨r,1,none⟩ b).cell? ⟨x,0,none⟩=p/\((W.setCell ⟨r,0,none⟩ a).setCell ⟨r,1,none⟩ b).cell? ⟨y,0,none⟩=q:=
 ⟨(World.cell?_setCell_far _ _ _ _ c).trans ((World.cell?_setCell_far _ _ _ _ c).trans e),(World.cell?_setCell_far _ _ _ _ d).trans ((World.cell?_setCell_far _ _ _ _ d).trans f)⟩
def bQp (w:World)(rb:Nat)(s:By)(i z:Nat)(sA sB:Value)(W:World):Prop:=
 ∃g h d j ty x ws k lo hi,sA=.pointer (some ⟨g,0,none⟩)/\sB=.pointer (some ⟨h,0,none⟩)/\fXj (pat (13-z)) (rest s (i+1))=some (d,rest s j)/\fX1 (rest s j)=some (ws,rest s k)/\i+1<=j/\j+ws.length<k/\k<=s.size/\
  Vr w W g (.iface ty x) 89/\Vr w W h (.string ⟨ws.toArray⟩) 9/\Inp w rb s k z W/\Rq w W lo hi d (.iface ty x)
section
variable {w W:World} {rb:Nat} {s:By} {i z j k lo hi:Nat} {d:Ls.D} {ty:TypeId} {x:Value} {ws:Lu}
theorem wQ0 (b:fXj (pat (13-z)) (rest s (i+1))=some (d,rest s j))(c:fX1 (rest s j)=some (ws,rest s k))(e:i+1<=j)(f:j+ws.length<k)(g:k<=s.size)(a:Inp w rb s k z W)(h:Rq w W lo hi d (.iface ty x)):bQp w rb s i z (Pt W.heap.size) (.pointer (some ⟨W.heap.size+1,0,none⟩)) ((W.alloc (.cells #[.iface ty x] 89)).alloc (.cells #[Sv ws] 9)):=
 ⟨_,_,d,j,ty,x,ws,k,lo,hi,rfl,rfl,b,c,e,f,g,(Vr.new a.size _ _).alloc _,Vr.new2 a.size _ _ _ _,a.below (C6 _ _ _),(h.alloc _).alloc _⟩
theorem wQ1 (b:fXj (pat (13-z)) (rest s (i+1))=some (d,rest s j))(c:fX1 (rest s j)=some (ws,rest s k))(e:i+1<=j)(f:j+ws.length<k)(g:k<=s.size)(a:Inp w rb s k z W)(h:Rq w W lo hi d (.iface ty x)):bQp w rb s i z (.pointer (some ⟨W.heap.size+1,0,none⟩)) (Pt W.heap.size) ((W.alloc (.cells #[Sv ws] 9)).alloc (.cells #[.iface ty x] 89)):=
 ⟨_,_,d,j,ty,x,ws,k,lo,hi,rfl,rfl,b,c,e,f,g,Vr.new2 a.size _ _ _ _,(Vr.new a.size _ _).alloc _,a.below (C6 _ _ _),(h.alloc _).alloc _⟩
theorem wQ2 (c:fXj (pat (13-z)) (rest s (i+1))=some (d,rest s j))(e:fX1 (rest s j)=some (ws,rest s k))(f:i+1<=j)(h:j+ws.length<k)(l:k<=s.size)(m:Inp w rb s k z W)(n:Rq w W lo hi d (.iface ty x)){g:Nat}{v:Value}(a:Vr w W g v 89)(o:g<lo\/hi<=g):bQp w rb s i z (Pt g) (Pt W.heap.size) ((W.setCell ⟨g,0,none⟩ (.iface ty x)).alloc (.cells #[Sv ws] 9)):=by
 have b:=m.set (u:=.iface ty x) a.2;have p:Vr w ((W.setCell ⟨g,0,none⟩ (.iface ty x)).alloc (.cells #[Sv ws] 9)) W.heap.size (Sv ws) 9:=by
  have:=Vr.new b.size (Sv ws) 9;simpa [World.setCell] using this
 exact⟨_,_,d,j,ty,x,ws,k,lo,hi,rfl,rfl,c,e,f,h,l,a.put.alloc _,p,b.below (A5 _ _),(n.set o _).alloc _⟩
theorem wQ3 (c:fXj (pat (13-z)) (rest s (i+1))=some (d,rest s j))(e:fX1 (rest s j)=some (ws,rest s k))(f:i+1<=j)(h:j+ws.length<k)(l:k<=s.size)(m:Inp w rb s k z W)(n:Rq w W lo hi d (.iface ty x)){g:Nat}{v:Value}(a:Vr w W g v 9)(o:g<lo\/hi<=g):bQp w rb s i z (Pt W.heap.size) (Pt g) ((W.setCell ⟨g,0,none⟩ (Sv ws)).alloc (.cells #[.iface ty x] 89)):=by
 have b:=m.set (u:=Sv ws) a.2;have p:Vr w ((W.setCell ⟨g,0,none⟩ (Sv ws)).alloc (.cells #[.iface ty x] 89)) W.heap.size (.iface ty x) 89:=by
  have:=Vr.new b.size (.iface ty x) 89;simpa [World.setCell] using this
 exact⟨_,_,d,j,ty,x,ws,k,lo,hi,rfl,rfl,c,e,f,h,l,p,a.put.alloc _,b.below (A5 _ _),(n.set o _).alloc _⟩
theorem wQ4 (e:fXj (pat (13-z)) (rest s (i+1))=some (d,rest s j))(f:fX1 (rest s j)=some (ws,rest s k))(l:i+1<=j)(m:j+ws.length<k)(n:k<=s.size)(o:Inp w rb s k z W)(p:Rq w W lo hi d (.iface ty x)){g h:Nat}{v u:Value}(a:Vr w W g v 89)(b:Vr w W h u 9)(c:g≠h)(q:g<lo\/hi<=g)(r:h<lo\/hi<=h):bQp w rb s i z (Pt g) (Pt h) ((W.setCell ⟨g,0,none⟩ (.iface ty x)).setCell ⟨h,0,none⟩ (Sv ws)):=
 ⟨_,_,d,j,ty,x,ws,k,lo,hi,rfl,rfl,e,f,l,m,n,a.put.set c,(b.set (Ne.symm c)).put,(o.set a.2).set b.2,(p.set q _).set r _⟩
end
section
variable {P:Lu->Rd} {s:By} {i:Nat}
theorem zQ1 (h:A7 s i 47=false):Q5 P (rest s i)=.none:=by
 unfold Q5;rw[if_neg (by rw[C4,h];simp)]
theorem wQx (h:A7 s i 47=true)(a:fXj P (rest s (i+1))=.none):Q5 P (rest s i)=.none:=by
 unfold Q5;rw[if_pos (C4.2 h),E7,a]
theorem wQy (h:A7 s i 47=true){d:Ls.D}{j:Nat}(a:fXj P (rest s (i+1))=some (d,rest s j))(b:fX1 (rest s j)=.none):Q5 P (rest s i)=.none:=by
 unfold Q5;rw[if_pos (C4.2 h),E7,a];dsimp only
 rw[b]
theorem wQz (h:A7 s i 47=true){d:Ls.D}{j:Nat}(b:fXj P (rest s (i+1))=some (d,rest s j)){a:Lu}{k:Nat}(c:fX1 (rest s j)=some (a,rest s k)):Q5 P (rest s i)=some (fXf d a,rest s k):=by
 unfold Q5;rw[if_pos (C4.2 h),E7,b];dsimp only
 rw[c]
end
theorem zQ2 (s:By)(hs:s.size<=120)(a1:Addr):dQu s a1:=by
 intro z a i w hz h hE hi;have d7:∀(fn:Fn) (first a7:Array Value) (w:World),(Instr.makeFunc fn first a7).run Tryz.prog w=.ok (.func fn first a7) w:=fun _ _ _ _=>rfl;have O:Hid _:=Inp.enter h;have HE:Hid _:=hE;cases K:A7 s i 47 with
 | false=>
  have HN:Hid (Q5 (pat (13-z)) (rest s i)=.none):=zQ1 K;have hC:=eQq a s i z 47 a1 _ O.out.lies (O.out.env hE) (by omega) (by omega) K;go_enter Tryz.func150,Tryz.ntmps150;go_wp2_with fail;refine hC.mono ?_;rintro e A ⟨rfl,Y⟩;go_wp2;exact⟨rfl,.inr ⟨HN.out,rfl,O.out.threw rfl Y⟩⟩
 | true=>
  have a0:Hid _:=K;have d5:=(D9 K).1;have hC:=eQr a s i z 47 _ O.out.lies (by omega) K;have e0:(I9 w a).heap.size=w.heap.size+1+1:=by simp
  go_enter Tryz.func150,Tryz.ntmps150;go_wp2_with fail;refine hC.mono ?_;clear hC;generalize I9 w a=W0 at *;rintro e A ⟨rfl,a8⟩;have V:=O.out.go a8;have b1:=V.cell;have S:=V.size;have a6:Hid (Inp w a s (i+1) z A):=V;have HP:Hid (∀W,Below A.heap.size A W->Calls Tryz.prog 166 #[D3 a] W fun e c=>
    (∃d j y x,fXj (pat (13-z)) (rest s (i+1))=some (d,rest s j)/\i+1<=j/\j<=s.size/\e=.returned (.iface y x)/\Inp w a s j z c/\Rq w c W.heap.size c.heap.size d (.iface y x)/\RLeft W a s j z c)\/
    (fXj (pat (13-z)) (rest s (i+1))=.none/\K6 w a a1 e c)):=by
   intro W hW;have t:=a6.out.below hW;have b5:=t.size;refine(mQk s (by omega) a1 z hz a (i+1) W t.lies (t.env HE.out) (by omega)).mono ?_;rintro e c (⟨d,j,v,N,I,Z,rfl,a9,hl⟩|⟨N,rfl,Y⟩)
   ·obtain⟨y,x,rfl⟩:=a9.iface
    exact .inl ⟨d,j,y,x,N,I,Z,rfl,t.go hl,⟨a9,b5,Nat.le_refl _⟩,hl⟩
   ·exact .inr ⟨N,rfl,t.threw rfl Y⟩
  have HW:Hid (∀W j,Inp w a s j z W->j<=s.size->Calls Tryz.prog 176 #[D3 a] W fun e c=>
    (∃m k,fX1 (rest s j)=some (m,rest s k)/\j+m.length<k/\k<=s.size/\e=.returned (.string ⟨m.toArray⟩)/\Inp w a s k z c/\RLeft W a s k z c)\/
    (fX1 (rest s j)=.none/\K6 w a a1 e c)):=by
   intro W j t Z;refine(mQv s (by omega) a1 z a j W t.lies (t.env HE.out) Z).mono ?_;rintro e c (⟨m,k,N,J,F,rfl,hl⟩|⟨N,rfl,Y⟩)
   ·exact .inl ⟨m,k,N,J,F,rfl,t.go hl,hl⟩
   ·exact .inr ⟨N,rfl,t.threw rfl Y⟩
  have b:=V.inn.old;clear V a8;go_upto_region 2 with (fail);go_cut [3,4] (fun sA sB wx=>bQp w a s i z sA sB wx)
  case first=>
   go_region_held (fun c=>c.cell? ⟨w.heap.size,0,none⟩=some (.pointer (some ⟨a,0,none⟩))) (first|assumption|(go_keep;done)|(refine dQr ?_ ?_<;>first|assumption|omega)|(refine dQr ?_ (dQr ?_ ?_)<;>first|assumption|omega)|(refine eXf ?_ ?_<;>first|assumption|omega))
    (first
     | (go_at_call 166;refine(HP.out _ ?_).mono ?_;(first|exact(Below.refl _ _).drew|exact(Below.refl _ _).drew.alloc (by simp) _|exact((Below.refl _ _).drew.alloc (by simp) _).alloc (by simp) _);rintro e r (⟨d,j,y,x,o,I,Z,rfl,X,a4,R⟩|⟨o,rfl,b7⟩);rotate_left;(go_wp2_with fail;exact⟨rfl,.inr ⟨wQx a0.out o,rfl,b7⟩⟩);have b2:=X.cell;have T:=X.size;(try have P:Vr w r A.heap.size (.nilIface) 89:=Vr.left b R (Vr.new S _ _));(try have P:Vr w r A.heap.size (.nilIface) 89:=Vr.left b R ((Vr.new S _ _).alloc _));(try have P:Vr w r (A.heap.size+1) (.nilIface) 89:=Vr.left b R (Vr.new2 S _ _ _ _));(try have Q:Vr w r A.heap.size (.string ⟨#[]⟩) 9:=Vr.left b R (Vr.new S _ _));(try have Q:Vr w r A.heap.size (.string ⟨#[]⟩) 9:=Vr.left b R ((Vr.new S _ _).alloc _));(try have Q:Vr w r (A.heap.size+1) (.string ⟨#[]⟩) 9:=Vr.left b R (Vr.new2 S _ _ _ _));(try obtain⟨c0,c8⟩:=P.one);(try obtain⟨c4,d1⟩:=Q.one);(try obtain⟨e2,e6,e4⟩:=P.lt);(try obtain⟨e3,e7,e5⟩:=Q.lt))
     | (go_at_call 176;refine(HW.out _ j ?_ Z).mono ?_;(first|exact X|exact X.below (A5 _ _)|exact X.below (C6 _ _ _));rintro e U (⟨m,k,u,J,F,rfl,L,n⟩|⟨u,rfl,b8⟩);rotate_left;(go_wp2_with fail;exact⟨rfl,.inr ⟨wQy a0.out o u,rfl,b8⟩⟩);have b3:=L.cell;have e1:=L.size;(try have E:=Rq.left b n a4);(try have E:=Rq.left b n (a4.alloc _));(try have E:=Rq.left b n ((a4.alloc _).alloc _));(try have B:=Vr.left b n P);(try have B:=Vr.left b n (P.alloc _));(try have B:Vr w U r.heap.size (.nilIface) 89:=Vr.left b n (Vr.new T _ _));(try have B:Vr w U r.heap.size (.nilIface) 89:=Vr.left b n ((Vr.new T _ _).alloc _));(try have B:Vr w U (r.heap.size+1) (.nilIface) 89:=Vr.left b n (Vr.new2 T _ _ _ _));(try have C:=Vr.left b n Q);(try have C:=Vr.left b n (Q.alloc _));(try have C:Vr w U r.heap.size (.string ⟨#[]⟩) 9:=Vr.left b n (Vr.new T _ _));(try have C:Vr w U r.heap.size (.string ⟨#[]⟩) 9:=Vr.left b n ((Vr.new T _ _).alloc _));(try have C:Vr w U (r.heap.size+1) (.string ⟨#[]⟩) 9:=Vr.left b n (Vr.new2 T _ _ _ _));(try obtain⟨c1,c9⟩:=B.one);(try obtain⟨c5,d2⟩:=C.one);(try obtain⟨c2,d0⟩:=(B.alloc (.cells #[.string ⟨#[]⟩] 9)).one);(try obtain⟨c6,d3⟩:=(C.alloc (.cells #[.nilIface] 89)).one);(try obtain⟨lA,nA,mA⟩:=B.lt);(try obtain⟨lB,nB,mB⟩:=C.lt)))
   all_goals
    have b9:=E.high
    (try simp only[World.size_alloc]at E)
    go_wp2_with fail;go_meet
    case rel=>
     first
      | exact wQ0 o u I J F L E
      | exact wQ1 o u I J F L E
      | (refine wQ2 o u I J F L E B ?_;first|omega|(simp;done)|(simp;omega))
      | (refine wQ3 o u I J F L E C ?_;first|omega|(simp;done)|(simp;omega))
      | (refine wQ4 o u I J F L E B C ?_ ?_ ?_<;>first|omega|(simp;done)|(simp;omega))
  case rest=>
   obtain⟨g,h,d,j,y,x,m,k,lo,hi,rfl,rfl,o,u,I,J,F,hA,hB,hI,hR⟩:=hcut;obtain⟨cA,fA⟩:=hA.one;obtain⟨cB,fB⟩:=hB.one;have b6:=nQm o;rw[F4,F4]at b6;have d6:=hR.low;have b9:=hR.high;have a2:Hid (Rep wc (fun q=>w.heap.size+1<q/\q<wc.heap.size) 0 d [.iface y x]):=hR.rep.mono (fun q M=>⟨by omega,by omega⟩) (fun _ _=>rfl);obtain⟨f,hm,d4,hf⟩:=cXm (d:=d) (by omega) (by omega) (w:=wc) (G:=fun q=>w.heap.size+1<q/\q<wc.heap.size) (fun q M=>M.2) a2.out;obtain⟨r0,r1,s0,s1⟩:=hI.res.two;have HN:Hid (Q5 (pat (13-z)) (rest s i)=some (fXf d m,rest s k)):=wQz a0.out o u;have HA:Hid (Vr w wc g (.iface y x) 89):=hA;have HB:Hid (Vr w wc h (.string ⟨m.toArray⟩) 9):=hB;have HI:Hid (Inp w a s k z wc):=hI;have HF:Hid (∀W,Below wc.heap.size wc W->Calls Tryz.prog f #[x] W fun e c=>e=.returned (.int .i64 (dsize d))/\Below wc.heap.size wc c):=hf;have d8:(ByteArray.mk m.toArray).size=m.length:=by simp[ByteArray.size]
   have d9:IntKind.i64.wrap ((dsize d:Int)+(m.length:Int))=((dsize d:Int)+(m.length:Int)):=by rw[IntKind.wrap_i64];omega
   have b0:=hA.2;have b4:=hB.2;clear hA hB hI hf o u hR HP HW a6 O;go_wp2_with fail;go_region_held (fun c=>c.cell? ⟨g,0,none⟩=some (.iface y x)/\c.cell? ⟨h,0,none⟩=some (.string ⟨m.toArray⟩)) (first|assumption|(go_keep;done)|(refine vQ1 ?_ ?_ ?_ ?_<;>first|assumption|omega))
    (first
     | (refine(HF.out _ ?_).mono ?_;exact(Below.refl _ _).drew;rintro e w5 ⟨rfl,H⟩;have c3:=(H.cell (p:=⟨g,0,none⟩) HA.out.1.lt).trans cA;have c7:=(H.cell (p:=⟨h,0,none⟩) HB.out.1.lt).trans cB;have a3:=HI.out.below H;obtain⟨r0,r1,s0,s1⟩:=a3.res.two))
   all_goals
    have HP:Hid (PlPost w a s i z a1 (Q5 (pat (13-z)) (rest s i)) (.returned (C5 (dsize d+m.length) (.func (.func 177) #[] #[.pointer (some ⟨g,0,none⟩),.pointer (some ⟨h,0,none⟩)]))) ((w5.setCell ⟨w.heap.size+1,0,none⟩ (.int .i64 ((dsize d:Int)+(m.length:Int)))).setCell ⟨w.heap.size+1,1,none⟩ (.func (.func 177) #[] #[.pointer (some ⟨g,0,none⟩),.pointer (some ⟨h,0,none⟩)]))):=by
     have a5:=H.size;have:=a3.ret (i:=i) (a1:=a1) (l:=fXf d m) (f:=177) (caps:=#[.pointer (some ⟨g,0,none⟩),.pointer (some ⟨h,0,none⟩)]) HN.out (by rw[hXt];omega) F (by
      unfold fXf;rw[PlanV];exact .inr (.inl ⟨rfl,g,h,.iface y x,⟨b0,Nat.lt_of_lt_of_le HA.out.1.lt a5⟩,⟨b4,Nat.lt_of_lt_of_le HB.out.1.lt a5⟩,rfl,HA.out.1.below H HA.out.1.lt,a2.out.mono (fun q M=>⟨M.1,Nat.lt_of_lt_of_le M.2 a5⟩) (fun q M=>H.block q M.2),HB.out.1.below H HB.out.1.lt⟩))
     rw[hXt,Int.natCast_add]at this;exact this
    clear a3 H HF a2;go_wp2_with fail;exact bodyPost_ret (v:=C5 (dsize d+m.length) (.func (.func 177) #[] #[.pointer (some ⟨g,0,none⟩),.pointer (some ⟨h,0,none⟩)])) (by simp[results,Tryz.results150,go_sem,r0,r1]) rfl HP.out
variable (s:By)(w:World)(a0 a1 a2 a3:Addr)
theorem aXh (hs:s.size<=120)(a:Nat)(h:RB w a s 0 0)(z:Env w a a1) :
    Calls Tryz.prog 77 #[Pt a] w (PlPost w a s 0 0 a1 (fXa 13 (rest s 0))):=by
  have p:Z8 s a1 0:=zQ3 hs (zQ2 s hs a1) 12 (Nat.le_refl _);have C:=h.lt;have d:=A5 w (.cells #[Iv (0:Nat),.nilFunc] 130);have t:Blk (w.alloc (.cells #[Iv (0:Nat),.nilFunc] 130)) w.heap.size #[Iv (0:Nat),.nilFunc] 130:=Blk.new w _ _;have o:Ca 104 #[D3 a] _ _:=p a 0 _ (h.below d) (z.below d) (Nat.zero_le _);have H:(w.alloc (.cells #[Iv (0:Nat),.nilFunc] 130)).heap.size=w.heap.size+1:=by simp
  have y:Hid (Blk (w.alloc (.cells #[Iv (0:Nat),.nilFunc] 130)) w.heap.size #[Iv (0:Nat),.nilFunc] 130):=t;have n:Hid (RLeft w a s 0 0 (w.alloc (.cells #[Iv (0:Nat),.nilFunc] 130))):=RLeft.of_below h d;clear p t d h;go_enter Tryz.func77,Tryz.ntmps77;go_wp2_with fail;refine o.mono ?_;clear o;generalize w.alloc (.cells #[Iv (0:Nat),.nilFunc] 130)=G at *;rintro e x (⟨l,j,f,c,b,A,B,rfl,r,i⟩|⟨b,rfl,q⟩)
  · have I:=i.grown.size
    have u:=y.out.of (i.grown.block _ (by omega) (by simp;omega));obtain⟨E,F,J,s1⟩:=u.two;have m:Hid (PlPost w a s 0 0 a1 (fXa 13 (rest s 0)) (.returned (C5 (eX7 l) (.func (.func f) #[] c))) ((x.setCell ⟨w.heap.size,0,none⟩ (Iv (eX7 l))).setCell ⟨w.heap.size,1,none⟩ (.func (.func f) #[] c))):=
      .inl ⟨l,j,f,c,b,A,B,rfl,PlanV.mono (fun k g=>⟨by have:=g.1;omega,by rw[X4];exact g.2⟩) (fun k g=>L9 _ _ _ _ _ (by have:=g.1;omega)) _ _ r,(n.out.trans i).res2 (Nat.le_refl _) C _ _⟩
    clear u r i b;go_wp2_with fail;exact bodyPost_ret (v:=C5 (eX7 l) (.func (.func f) #[] c)) (by simp[results,Tryz.results77,go_sem,E,F]) rfl m.out
  · have m:Hid (PlPost w a s 0 0 a1 (fXa 13 (rest s 0)) (.panicked [{v:=C9 a1,recovered:=false}]) x):=.inr ⟨b,rfl,J8 n.out.grown q⟩
    clear b q;go_wp2_with fail;exact⟨rfl,m.out⟩
structure BoxP (w:World)(H B:Nat)(s:By):Prop where
  text:Blk w H #[.string s] 9
  read:Blk w (H+1) #[.func (.func 77) #[] #[]] 133
  whole:Blk w B #[.int .i64 (0:Nat),.nilFunc] 130
def oQx (s:By)(a1:Addr)(w w0:World)(B:Nat):Ending->World->Prop:=fun e w'=>
  (∀k,k<w0.heap.size->k≠B->w'.heap[k]?=w0.heap[k]?)/\Bw w w'/\w0.heap.size<=w'.heap.size/\
  ((∃l f caps,E6 s.data.toList=some l/\OkL 120 l/\cn l<=30000/\e=.returned (.tuple #[])/\Blk w' B #[.int .i64 (eX7 l),.func (.func f) #[] caps] 130/\PlanV w' (fun k=>w0.heap.size<=k/\k<w'.heap.size) l (.func (.func f) #[] caps))\/
   (E6 s.data.toList=.none/\e=.panicked [{v:=C9 a1,recovered:=false}]))
theorem eXh (hs:s.size<=120)(a:World)(H B:Nat)(hH:w.heap.size<=H)(hB:H+1<B)(x:Bw w a)(h:BoxP a H B s)(M:Ce w 3 0 (C9 a1)) :
    Calls Tryz.prog 101 #[Pt H,.pointer (some ⟨H+1,0,none⟩),Pt B] a (oQx s a1 w a B):=by
  have a7:∀(v:Value) w,(callFunc 77 #[v]).run Tryz.prog w=.ok (.enter 77 #[v]) w:=fun v w=>by kernel_rfl
  have a3:3<w.heap.size:=World.block_lt_of_cell? w _ M;obtain⟨t0,t1⟩:=h.text.one;obtain⟨f0,f1⟩:=h.read.one;have b5:=h.whole.lt;have b2:=x.size;have n:=A5 a (.cells #[.string s,Iv (0:Nat),Iv (0:Nat)] 164);have R:RB (a.alloc (.cells #[.string s,Iv (0:Nat),Iv (0:Nat)] 164)) a.heap.size s 0 0:=heap_alloc_new _ _;have a2:=(x.cell (p:=⟨3,0,none⟩) a3).trans M;have C:Env (a.alloc (.cells #[.string s,Iv (0:Nat),Iv (0:Nat)] 164)) a.heap.size a1:=⟨(n.cell (p:=⟨3,0,none⟩) (by show 3<a.heap.size;omega)).trans a2,by omega⟩;have J:=aXh s _ a1 hs a.heap.size R C;have N:=h.read.below n h.read.lt;obtain⟨u0,u1⟩:=N.one;have S:=h.whole.below n h.whole.lt;have b3:(a.alloc (.cells #[.string s,Iv (0:Nat),Iv (0:Nat)] 164)).heap.size=a.heap.size+1:=by simp
  have F:Hid (Bw a (a.alloc (.cells #[.string s,Iv (0:Nat),Iv (0:Nat)] 164))):=n;have Y:Hid (Blk (a.alloc (.cells #[.string s,Iv (0:Nat),Iv (0:Nat)] 164)) B #[Iv (0:Nat),.nilFunc] 130):=S;have V:Hid (Env (a.alloc (.cells #[.string s,Iv (0:Nat),Iv (0:Nat)] 164)) a.heap.size a1):=C;have b0:H+1<a.heap.size:=by omega
  have b1:¬H+1=a.heap.size:=by omega
  clear R n N S C u1 h;go_enter Tryz.func101,Tryz.ntmps101;go_wp2_with fail;generalize a.alloc (.cells #[.string s,Iv (0:Nat),Iv (0:Nat)] 164)=W1 at *;refine J.mono ?_;clear J;rintro e c (⟨l,j,f,d,r,a9,hj,rfl,P,o⟩|⟨r,rfl,hg⟩)
  · have u:Hid (fXa 13 (rest s 0)=some (l,rest s j)):=r
    have b4:=o.grown.size;have E:=Y.out.of (o.grown.block _ (by omega) (by simp;omega));obtain⟨q0,q1,q2,q3⟩:=E.two;have m:Bw a c:=F.out.grown o.grown (by omega) (fun k b=>by cases b;omega);have y:RB ((c.setCell ⟨B,0,none⟩ (Iv (eX7 l))).setCell ⟨B,1,none⟩ (.func (.func f) #[] d)) a.heap.size s j 0:=by
      have:=o.lies;unfold RB at this ⊢;rw[L9 _ _ _ _ _ (by omega)];exact this
    have K:((c.setCell ⟨B,0,none⟩ (Iv (eX7 l))).setCell ⟨B,1,none⟩ (.func (.func f) #[] d)).cell? ⟨3,0,none⟩=some (C9 a1):=by
      rw[World.cell?_setCell_far _ _ _ _ (by show B≠3;omega),World.cell?_setCell_far _ _ _ _ (by show B≠3;omega)];exact(V.out.grown o.grown).sc
    have T:Blk ((c.setCell ⟨B,0,none⟩ (Iv (eX7 l))).setCell ⟨B,1,none⟩ (.func (.func f) #[] d)) B #[Iv (eX7 l),.func (.func f) #[] d] 130:=by
      have:=E;unfold Blk at this ⊢;simp[World.setCell,Array.getElem?_modify,this]
    have L:Bw w ((c.setCell ⟨B,0,none⟩ (Iv (eX7 l))).setCell ⟨B,1,none⟩ (.func (.func f) #[] d)):=aQd (Bj x m) (by omega) _ _;have O:∀k,k<a.heap.size->k≠B->((c.setCell ⟨B,0,none⟩ (Iv (eX7 l))).setCell ⟨B,1,none⟩ (.func (.func f) #[] d)).heap[k]?=a.heap[k]?:=fun k b q=>by
      rw[L9 _ _ _ _ _ q];exact m.block k b
    have Q:PlanV ((c.setCell ⟨B,0,none⟩ (Iv (eX7 l))).setCell ⟨B,1,none⟩ (.func (.func f) #[] d)) (fun k=>a.heap.size<k/\k<c.heap.size) l (.func (.func f) #[] d):=PlanV.mono (fun k b=>⟨by have:=b.1;omega,b.2⟩) (fun k b=>L9 _ _ _ _ _ (by have:=b.1;omega)) _ _ P;have z:((c.setCell ⟨B,0,none⟩ (Iv (eX7 l))).setCell ⟨B,1,none⟩ (.func (.func f) #[] d)).heap.size=c.heap.size:=X4 _ _ _ _;have t:Hid (Bw w ((c.setCell ⟨B,0,none⟩ (Iv (eX7 l))).setCell ⟨B,1,none⟩ (.func (.func f) #[] d))):=L;have G:Hid (∀k,k<a.heap.size->k≠B->((c.setCell ⟨B,0,none⟩ (Iv (eX7 l))).setCell ⟨B,1,none⟩ (.func (.func f) #[] d)).heap[k]?=a.heap[k]?):=O;have X:Hid (PlanV ((c.setCell ⟨B,0,none⟩ (Iv (eX7 l))).setCell ⟨B,1,none⟩ (.func (.func f) #[] d)) (fun k=>a.heap.size<k/\k<c.heap.size) l (.func (.func f) #[] d)):=Q;have Z:Hid (Blk ((c.setCell ⟨B,0,none⟩ (Iv (eX7 l))).setCell ⟨B,1,none⟩ (.func (.func f) #[] d)) B #[Iv (eX7 l),.func (.func f) #[] d] 130):=T;have W:Hid (((c.setCell ⟨B,0,none⟩ (Iv (eX7 l))).setCell ⟨B,1,none⟩ (.func (.func f) #[] d)).cell? ⟨3,0,none⟩=some (C9 a1)):=K;have I:Hid (((c.setCell ⟨B,0,none⟩ (Iv (eX7 l))).setCell ⟨B,1,none⟩ (.func (.func f) #[] d)).heap.size=c.heap.size):=z;clear r P Q L O E T K m z;rcases Nat.lt_or_ge j s.size with a5|a8
    · have i:Hid (E6 s.data.toList=.none):=mQn u.out a5
      have A:=bQ3 a.heap.size s j 0 _ y (by omega) (by omega) false (by simp;omega);clear y;go_wp2_with fail;generalize (c.setCell ⟨B,0,none⟩ (Iv (eX7 l))).setCell ⟨B,1,none⟩ (.func (.func f) #[] d)=W2 at *;refine A.mono ?_;rintro e U ⟨rfl,g⟩;have a0:Ce U 3 0 (C9 a1):=g.grown.cell W.out (by simp;omega);have a6:=g.grown.size;have z:=I.out;go_wp2_with fail;refine(V7 _ a1 _ a0).mono ?_;rintro e w4 ⟨rfl,rfl⟩;go_wp2_with fail;refine⟨rfl,fun k b q=>?_,t.out.grown g.grown (by have:=t.out.size;omega) (fun k b=>by cases b;omega),by omega,.inr ⟨i.out,rfl⟩⟩;rw[g.grown.block k (by omega) (by simp;omega)];exact G.out k b q
    · have a4:j=s.size:=by omega
      subst a4;have i:Hid (E6 s.data.toList=some l/\OkL 120 l/\cn l<=30000):=⟨mQp u.out,mXa u.out (by rw[F4];omega),by have:=lQa 13 _ _ _ u.out;have h0:=F4 s 0;omega⟩;have A:=bQ3 a.heap.size s s.size 0 _ y (by omega) (by omega) true (by simp);clear y;go_wp2_with fail;generalize (c.setCell ⟨B,0,none⟩ (Iv (eX7 l))).setCell ⟨B,1,none⟩ (.func (.func f) #[] d)=W2 at *;refine A.mono ?_;rintro e U ⟨rfl,g⟩;have a6:=g.grown.size;have z:=I.out;go_wp2_with fail;go_end0;refine⟨fun k b q=>?_,t.out.grown g.grown (by have:=t.out.size;omega) (fun k b=>by cases b;omega),by omega,.inl ⟨l,f,d,i.out.1,i.out.2.1,i.out.2.2,rfl,?_,?_⟩⟩
      · rw[g.grown.block k (by omega) (by simp;omega)]
        exact G.out k b q
      · exact Z.out.of (g.grown.block _ (by omega) (by simp;omega))
      · exact PlanV.mono (fun k b=>⟨Nat.le_of_lt b.1,by have:=b.2;omega⟩) (fun k b=>g.grown.block k (by have:=b.2;omega) (by have:=b.1;simp;omega)) _ _ X.out
  · have i:Hid (E6 s.data.toList=.none):=mQo r
    have m:Bw a c:=F.out.grown hg (by omega) (fun k b=>by cases b;omega);clear r;go_wp2_with fail;exact⟨rfl,fun k b _=>m.block k b,Bj x m,m.size,.inr ⟨i.out,rfl⟩⟩
def aQ9 (s:By)(a0 a1 a2 a3:Addr)(w:World):Ending->World->Prop:=fun e w'=>Bw w w'/\
  ((∃l f caps,s.data.toList.length<=120/\E6 s.data.toList=some l/\OkL 120 l/\cn l<=30000/\eX7 l<=24/\e=.returned (.tuple #[C5 (eX7 l) (.func (.func f) #[] caps),.nilIface])/\PlanV w' (B8 w w') l (.func (.func f) #[] caps))\/
   (∃r,(r=1\/r=2\/r=3)/\CompIs s.data.toList r/\e=.returned (.tuple #[C5 0 .nilFunc,C9 (bQ6 a0 a1 a2 a3 r)])))
abbrev hQ1:Obj:=.cells #[.int .i64 0,.nilFunc] 130
structure FourV (w W:World)(s:By):Prop where
  text:Blk W w.heap.size #[.string s] 9
  read:Blk W (w.heap.size+1) #[.func (.func 77) #[] #[]] 133
  res:Blk W (w.heap.size+1+1) #[.int .i64 0,.nilFunc] 130
  non:Blk W (w.heap.size+1+1+1) #[.int .i64 0,.nilFunc] 130
abbrev eXg (w:World)(s:By):World:=(((w.alloc (.cells #[.string s] 9)).alloc (.cells #[.func (.func 77) #[] #[]] 133)).alloc hQ1).alloc hQ1
theorem FourV.start (s:By):FourV w (eXg w s) s:=by
  have a:∀(W:World) (o:Obj) {g:Nat} {b:Array Value} {T:TypeId},Blk W g b T->Blk (W.alloc o) g b T:=fun W o _ _ _ h=>h.of (Below.heap_alloc _ _ _ h.lt);refine⟨a _ _ (a _ _ (a _ _ (Blk.new w _ _))),a _ _ (a _ _ ?_),a _ _ ?_,?_⟩
  · have:=Blk.new (w.alloc (.cells #[.string s] 9)) #[.func (.func 77) #[] #[]] 133
    rw[World.size_alloc]at this;exact this
  · have:=Blk.new ((w.alloc (.cells #[.string s] 9)).alloc (.cells #[.func (.func 77) #[] #[]] 133)) #[Iv 0,.nilFunc] 130
    rw[World.size_alloc,World.size_alloc]at this;exact this
  · have:=Blk.new (((w.alloc (.cells #[.string s] 9)).alloc (.cells #[.func (.func 77) #[] #[]] 133)).alloc hQ1) #[Iv 0,.nilFunc] 130
    rw[World.size_alloc,World.size_alloc,World.size_alloc]at this;exact this
theorem FourV.of {w W b:World}{s:By}(h:FourV w W s)(a:∀k,w.heap.size<=k->k<w.heap.size+1+1+1+1->b.heap[k]?=W.heap[k]?):FourV w b s:=
  ⟨h.text.of (a _ (by omega) (by omega)),h.read.of (a _ (by omega) (by omega)),h.res.of (a _ (by omega) (by omega)),h.non.of (a _ (by omega) (by omega))⟩
theorem zQ0 (n f:Nat)(a:Array Value):Calls Tryz.prog 232 #[.agg #[Iv n,.func (.func f) #[] a]] w fun e d=>e=.returned (Iv n)/\Bw w d:=by
  have c:=A5 w (.cells #[Iv n,.func (.func f) #[] a] 130);have b:Blk (w.alloc (.cells #[Iv n,.func (.func f) #[] a] 130)) w.heap.size #[Iv n,.func (.func f) #[] a] 130:=Blk.new w _ _;obtain⟨g,h,i,s1⟩:=b.two;clear b;go_enter Tryz.func232,Tryz.ntmps232;go_wp2_with fail;go_ret;exact⟨rfl,c⟩
theorem eQ4:s.data.toList.length=s.size:=by simp
theorem eXj (hs:120<s.size)(m:s.size<=1048576)(a:Sent w a0 a1 a2 a3) :
    Calls Tryz.prog 76 #[.string s,.func (.func 77) #[] #[]] w (aQ9 s a0 a1 a2 a3 w):=by
  have k:(120:Int)<(s.size:Int):=by omega
  have d:Below w.heap.size w ((((w.alloc (.cells #[.string s] 9)).alloc (.cells #[.func (.func 77) #[] #[]] 133)).alloc (.cells #[.int .i64 0,.nilFunc] 130)).alloc (.cells #[.int .i64 0,.nilFunc] 130)):=bQx _ _ _ _ _;have b:FourV w ((((w.alloc (.cells #[.string s] 9)).alloc (.cells #[.func (.func 77) #[] #[]] 133)).alloc (.cells #[.int .i64 0,.nilFunc] 130)).alloc (.cells #[.int .i64 0,.nilFunc] 130)) s:=FourV.start w s;have j:=(a.below d).c0;have l:0<w.heap.size:=World.block_lt_of_cell? w _ a.c0;have e:Hid (CompIs s.data.toList 1):=.inl ⟨by rw[eQ4];exact hs,rfl⟩;clear a;go_enter Tryz.func76,Tryz.ntmps76;go_upto_region 3 with (fail);generalize ((((w.alloc (.cells #[.string s] 9)).alloc (.cells #[.func (.func 77) #[] #[]] 133)).alloc (.cells #[.int .i64 0,.nilFunc] 130)).alloc (.cells #[.int .i64 0,.nilFunc] 130))=g at *;obtain⟨h,i,r,s1⟩:=b.res.two;obtain⟨p,q,n,o⟩:=b.non.two;have f:Hid (aQ9 s a0 a1 a2 a3 w (.returned (.tuple #[.agg #[.int .i64 0,.nilFunc],C9 a0])) ((g.setCell ⟨w.heap.size+1+1,0,none⟩ (.int .i64 0)).setCell ⟨w.heap.size+1+1,1,none⟩ .nilFunc).drew):=
    ⟨(aQd d (by omega) _ _).drew,.inr ⟨1,.inl rfl,e.out,rfl⟩⟩
  clear b;go_region_held (fun c=>c.cell? ⟨0,0,none⟩=some (C9 a0)/\c.cell? ⟨w.heap.size+1+1+1,0,none⟩=some (.int .i64 0)/\c.cell? ⟨w.heap.size+1+1+1,1,none⟩=some .nilFunc) (first|assumption|(go_keep;done)|(refine eQ0 ?_ ?_ ?_ ?_ ?_<;>first|assumption|omega)) (fail)
  all_goals
    go_wp2_with fail;exact bodyPost_ret (v:=.tuple #[.agg #[.int .i64 0,.nilFunc],C9 a0]) (by simp[results,Tryz.results76,go_sem,h,i]) rfl f.out
theorem eXk (hs:s.size<=120)(Y:Sent w a0 a1 a2 a3) :
    Calls Tryz.prog 76 #[.string s,.func (.func 77) #[] #[]] w (aQ9 s a0 a1 a2 a3 w):=by
  have c6:∀(X:Fn) (first W:Array Value) (w:World),(Instr.makeFunc X first W).run Tryz.prog w=.ok (.func X first W) w:=fun _ _ _ _=>rfl;have hd:¬(120:Int)<(s.size:Int):=by omega
  have c7:∀w,(binOp .neq 80 (C9 a1) .nilIface).run Tryz.prog w=.ok (.bool true) w:=fun w=>by kernel_rfl
  have c8:∀w,(binOp .neq 80 .nilIface .nilIface).run Tryz.prog w=.ok (.bool false) w:=fun w=>by kernel_rfl
  have b8:Below w.heap.size w ((((w.alloc (.cells #[.string s] 9)).alloc (.cells #[.func (.func 77) #[] #[]] 133)).alloc (.cells #[.int .i64 0,.nilFunc] 130)).alloc (.cells #[.int .i64 0,.nilFunc] 130)):=bQx _ _ _ _ _;have P:FourV w ((((w.alloc (.cells #[.string s] 9)).alloc (.cells #[.func (.func 77) #[] #[]] 133)).alloc (.cells #[.int .i64 0,.nilFunc] 130)).alloc (.cells #[.int .i64 0,.nilFunc] 130)) s:=FourV.start w s;have t:Hid (((((w.alloc (.cells #[.string s] 9)).alloc (.cells #[.func (.func 77) #[] #[]] 133)).alloc (.cells #[.int .i64 0,.nilFunc] 130)).alloc (.cells #[.int .i64 0,.nilFunc] 130)).heap.size=w.heap.size+1+1+1+1):=by show _=_;simp
  have K:Hid (Sent w a0 a1 a2 a3):=Y;clear Y;go_enter Tryz.func76,Tryz.ntmps76;go_upto_region 4 with (fail);generalize ((((w.alloc (.cells #[.string s] 9)).alloc (.cells #[.func (.func 77) #[] #[]] 133)).alloc (.cells #[.int .i64 0,.nilFunc] 130)).alloc (.cells #[.int .i64 0,.nilFunc] 130))=c at *;obtain⟨C,E,A,B⟩:=P.non.two;have R:Blk (c.alloc (.cells #[.int .i64 0,.nilFunc] 130)) c.heap.size #[.int .i64 0,.nilFunc] 130:=Blk.new c _ _;obtain⟨p0,p1,p2,p3⟩:=R.two;have Z:=A5 c (.cells #[.int .i64 0,.nilFunc] 130);have b1:FourV w (c.alloc (.cells #[.int .i64 0,.nilFunc] 130)) s:=P.of (fun k _ b=>Z.block k (by have:=t.out;omega));have N:=Bj b8 Z;have u:Hid ((c.alloc (.cells #[.int .i64 0,.nilFunc] 130)).heap.size=c.heap.size+1):=by show _=_;simp
  have m:Hid (FourV w (c.alloc (.cells #[.int .i64 0,.nilFunc] 130)) s):=b1;have V:Hid (Blk (c.alloc (.cells #[.int .i64 0,.nilFunc] 130)) c.heap.size #[.int .i64 0,.nilFunc] 130):=R;clear P b1 R;go_wp2_with fail;generalize c.alloc (.cells #[.int .i64 0,.nilFunc] 130)=a at *;have n:=A5 a (.cells #[.nilIface] 80);have c0:(a.alloc (.cells #[.nilIface] 80)).heap[a.heap.size]?=some (.cells #[.nilIface] 80 (0,0)):=heap_alloc_new _ _;have c9:(a.alloc (.cells #[.nilIface] 80)).heap.size=a.heap.size+1:=by simp
  have a7:=eXh s w a1 hs (a.alloc (.cells #[.nilIface] 80)) w.heap.size c.heap.size (Nat.le_refl _) (by have:=t.out;omega) (Bj N n) ⟨m.out.text.below n m.out.text.lt,m.out.read.below n m.out.read.lt,V.out.below n V.out.lt⟩ K.out.c1;have a4:=jQl 101 _ (fun w=>by kernel_rfl) a _ a7 (fun e I H=>⟨by rw[H.1 _ (by omega) (by have:=u.out;omega)];exact c0,by
    rcases H.2.2.2 with⟨l,f,d,_,_,_,h,_⟩|⟨_,h⟩
    · exact .inl h
    · exact .inr ⟨a1,h⟩⟩)
  clear a7 p0 p1 p2 p3 C E A B;refine a4.mono ?_;clear a4;rintro e j ⟨e1,g,H,a5⟩;obtain⟨b,G,b4,c4⟩:=H;rcases c4 with⟨l,f,d,z,a8,a6,rfl,b2,b0⟩|⟨z,rfl⟩
  · rcases a5 with⟨_,rfl,rfl⟩|⟨b6,h,_⟩
    rotate_left
    · cases h
    have Q:Blk (g.setCell ⟨a.heap.size,0,none⟩ .nilIface) c.heap.size #[.int .i64 (eX7 l),.func (.func f) #[] d] 130:=b2.of (Below.heap_setCell _ _ _ _ (by show c.heap.size≠a.heap.size;have:=u.out;omega));have i:FourV w (g.setCell ⟨a.heap.size,0,none⟩ .nilIface) s:=m.out.of (fun k _ c3=>by
      have h4:=t.out;have h5:=u.out;rw[Below.heap_setCell _ _ _ _ (by show k≠a.heap.size;omega),b k (by omega) (by omega)];exact n.block k (by omega))
    have L:Below w.heap.size w (g.setCell ⟨a.heap.size,0,none⟩ .nilIface):=G.setCell (p:=⟨a.heap.size,0,none⟩) (by show w.heap.size<=a.heap.size;exact N.size) _;have a9:PlanV (g.setCell ⟨a.heap.size,0,none⟩ .nilIface) (fun k=>w.heap.size+1+1<k/\k<(g.setCell ⟨a.heap.size,0,none⟩ .nilIface).heap.size) l (.func (.func f) #[] d):=PlanV.mono (fun k b=>⟨by have:=b.1;have:=t.out;have:=u.out;omega,by have:=b.2;simp[World.setCell];exact this⟩) (fun k b=>Below.heap_setCell _ _ _ _ (by show k≠a.heap.size;have:=b.1;omega)) _ _ b0;have F:Hid (E6 s.data.toList=some l/\OkL 120 l/\cn l<=30000):=⟨z,a8,a6⟩;clear b G b4 b2 b0 z a8 a6;generalize g.setCell ⟨a.heap.size,0,none⟩ .nilIface=j at *;obtain⟨q0,q1,q2,q3⟩:=Q.two;obtain⟨o,q,S,s1⟩:=i.res.two;obtain⟨C,E,A,B⟩:=i.non.two;have b5:Hid (PlanV j (fun k=>w.heap.size+1+1<k/\k<j.heap.size) l (.func (.func f) #[] d)):=a9;have U:Hid (Blk j c.heap.size #[.int .i64 (eX7 l),.func (.func f) #[] d] 130):=Q;have T:Hid (FourV w j s):=i;clear a9 Q i;go_wp2_with fail;refine(zQ0 j (eX7 l) f d).mono ?_;rintro e w3 ⟨rfl,y⟩;have M:=Bj L y;have O:=T.out.of (fun k _ b=>y.block k (Nat.lt_of_lt_of_le b (by have:=T.out.non.lt;omega)));have b3:=U.out.below y U.out.lt;clear q0 q1 q2 q3 o q S s1 C E A B;obtain⟨q0,q1,q2,q3⟩:=b3.two;obtain⟨o,q,S,s1⟩:=O.res.two;obtain⟨C,E,A,B⟩:=O.non.two;have c2:=(K.out.below M).c2;have c5:1<w.heap.size:=World.block_lt_of_cell? w _ K.out.c2;clear b3 O
    by_cases b7:24<eX7 l
    · have b9:(24:Int)<(eX7 l:Int):=by omega
      have J:Hid (CompIs s.data.toList 3):=.inr ⟨by rw[eQ4];exact hs,.inr ⟨l,F.out.1,.inl ⟨b7,rfl⟩⟩⟩;have r:Hid (aQ9 s a0 a1 a2 a3 w (.returned (.tuple #[.agg #[.int .i64 0,.nilFunc],C9 a2])) ((w3.setCell ⟨w.heap.size+1+1,0,none⟩ (.int .i64 0)).setCell ⟨w.heap.size+1+1,1,none⟩ .nilFunc).drew):=
        ⟨(aQd M (by omega) _ _).drew,.inr ⟨3,.inr (.inr rfl),J.out,rfl⟩⟩
      go_wp2_with fail;go_region_held (fun I=>I.cell? ⟨1,0,none⟩=some (C9 a2)/\I.cell? ⟨w.heap.size+1+1+1,0,none⟩=some (.int .i64 0)/\I.cell? ⟨w.heap.size+1+1+1,1,none⟩=some .nilFunc) (first|assumption|(go_keep;done)|(refine eQ0 ?_ ?_ ?_ ?_ ?_<;>first|assumption|omega)) (fail)
      all_goals
        go_wp2_with fail;exact bodyPost_ret (v:=.tuple #[.agg #[.int .i64 0,.nilFunc],C9 a2]) (by simp[results,Tryz.results76,go_sem,o,q]) rfl r.out
    · have b9:¬(24:Int)<(eX7 l:Int):=by omega
      have r:Hid (aQ9 s a0 a1 a2 a3 w (.returned (.tuple #[C5 (eX7 l) (.func (.func f) #[] d),.nilIface])) ((w3.setCell ⟨w.heap.size+1+1,0,none⟩ (.int .i64 (eX7 l))).setCell ⟨w.heap.size+1+1,1,none⟩ (.func (.func f) #[] d))):=by
        refine⟨aQd M (by omega) _ _,.inl ⟨l,f,d,by rw[eQ4];exact hs,F.out.1,F.out.2.1,F.out.2.2,by omega,rfl,PlanV.mono (fun k b=>⟨by have:=b.1;omega,by rw[X4];exact Nat.lt_of_lt_of_le b.2 y.size⟩) (fun k b=>?_) _ _ b5.out⟩⟩;rw[L9 _ _ _ _ _ (by have:=b.1;omega)];exact y.block k b.2
      go_wp2_with fail;exact bodyPost_ret (v:=.tuple #[C5 (eX7 l) (.func (.func f) #[] d),.nilIface]) (by simp[results,Tryz.results76,go_sem,o,q]) rfl r.out
  · rcases a5 with⟨h,_⟩|⟨b6,h,rfl,rfl⟩
    · cases h
    injection h with h;injection h with h;injection h with h;injection h with h x;injection x with x;injection x with x;subst x;have J:Hid (CompIs s.data.toList 2):=.inr ⟨by rw[eQ4];exact hs,.inl ⟨z,rfl⟩⟩;have i:FourV w (g.setCell ⟨a.heap.size,0,none⟩ (C9 a1)) s:=m.out.of (fun k _ c3=>by
      have h4:=t.out;have h5:=u.out;rw[Below.heap_setCell _ _ _ _ (by show k≠a.heap.size;omega),b k (by omega) (by omega)];exact n.block k (by omega))
    have L:Below w.heap.size w (g.setCell ⟨a.heap.size,0,none⟩ (C9 a1)):=G.setCell (p:=⟨a.heap.size,0,none⟩) (by show w.heap.size<=a.heap.size;exact N.size) _;clear b G b4 z;generalize g.setCell ⟨a.heap.size,0,none⟩ (C9 a1)=j at *;obtain⟨o,q,S,s1⟩:=i.res.two;obtain⟨C,E,A,B⟩:=i.non.two;clear i;have r:Hid (aQ9 s a0 a1 a2 a3 w (.returned (.tuple #[.agg #[.int .i64 0,.nilFunc],C9 a1])) ((j.setCell ⟨w.heap.size+1+1,0,none⟩ (.int .i64 0)).setCell ⟨w.heap.size+1+1,1,none⟩ .nilFunc)):=
      ⟨aQd L (by omega) _ _,.inr ⟨2,.inr (.inl rfl),J.out,rfl⟩⟩
    go_wp2_with fail;exact bodyPost_ret (v:=.tuple #[.agg #[.int .i64 0,.nilFunc],C9 a1]) (by simp[results,Tryz.results76,go_sem,o,q]) rfl r.out
theorem eXi (hs:s.size<=1048576)(a:Sent w a0 a1 a2 a3) :
    Calls Tryz.prog 76 #[.string s,.func (.func 77) #[] #[]] w (aQ9 s a0 a1 a2 a3 w):=by
  by_cases h:120<s.size
  · exact eXj s w a0 a1 a2 a3 h hs a
  · exact eXk s w a0 a1 a2 a3 (by omega) a
end Go.Proofs.YtfklinjaajafgaaGreatDoor
