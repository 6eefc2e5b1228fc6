import Derived.Test.YtfklinjaajafgaaGreatDoorK15
import Derived.Test.YtfklinjaajafgaaGreatDoorK03
import Derived.Test.YtfklinjaajafgaaGreatDoorK08
set_option maxRecDepth 100000
set_option maxHeartbeats 4000000
namespace Go.Proofs.YtfklinjaajafgaaGreatDoor
open Go.RowKit
variable (s:ByteArray)(w:World)(a0 a1 a2 a3:Addr)
theorem aXh (hs:s.size<=120)(a:Nat)(h:RB w a s 0 0)(z:Env w a a1) :
    Calls Tryz.prog 77 #[Pt a] w (PlPost w a s 0 0 a1 (Ls.fXa 13 (rest s 0))):=by
  have p:Z8 s a1 0:=zQ3 hs (zQ2 s hs a1) 12 (Nat.le_refl _);have C:=h.lt;have d:=A5 w (.cells #[Iv (0:Nat),.nilFunc] 130);have t:Blk (w.alloc (.cells #[Iv (0:Nat),.nilFunc] 130)) w.heap.size #[Iv (0:Nat),.nilFunc] 130:=Blk.new w _ _;have o:Ca 104 #[D3 a] _ _:=p a 0 _ (h.below d) (z.below d) (Nat.zero_le _);have H:(w.alloc (.cells #[Iv (0:Nat),.nilFunc] 130)).heap.size=w.heap.size+1:=by simp
  have y:Hid (Blk (w.alloc (.cells #[Iv (0:Nat),.nilFunc] 130)) w.heap.size #[Iv (0:Nat),.nilFunc] 130):=t;have n:Hid (RLeft w a s 0 0 (w.alloc (.cells #[Iv (0:Nat),.nilFunc] 130))):=RLeft.of_below h d;clear p t d h;go_enter Tryz.func77,Tryz.ntmps77;go_wp2_with fail;refine o.mono ?_;clear o;generalize w.alloc (.cells #[Iv (0:Nat),.nilFunc] 130)=G at *;rintro e x (⟨l,j,f,c,b,A,B,rfl,r,i⟩|⟨b,rfl,q⟩)
  · have I:=i.grown.size
    have u:=y.out.of (i.grown.block _ (by omega) (by simp;omega));obtain⟨E,F,J,s1⟩:=u.two;have m:Hid (PlPost w a s 0 0 a1 (Ls.fXa 13 (rest s 0)) (.returned (C5 (Ls.eX7 l) (.func (.func f) #[] c))) ((x.setCell ⟨w.heap.size,0,none⟩ (Iv (Ls.eX7 l))).setCell ⟨w.heap.size,1,none⟩ (.func (.func f) #[] c))):=
      .inl ⟨l,j,f,c,b,A,B,rfl,PlanV.mono (fun k g=>⟨by have:=g.1;omega,by rw[X4];exact g.2⟩) (fun k g=>L9 _ _ _ _ _ (by have:=g.1;omega)) _ _ r,(n.out.trans i).res2 (Nat.le_refl _) C _ _⟩
    clear u r i b;go_wp2_with fail;exact bodyPost_ret (v:=C5 (Ls.eX7 l) (.func (.func f) #[] c)) (by simp[results,Tryz.results77,go_sem,E,F]) rfl m.out
  · have m:Hid (PlPost w a s 0 0 a1 (Ls.fXa 13 (rest s 0)) (.panicked [{v:=C9 a1,recovered:=false}]) x):=.inr ⟨b,rfl,J8 n.out.grown q⟩
    clear b q;go_wp2_with fail;exact⟨rfl,m.out⟩
structure BoxP (w:World)(H B:Nat)(s:ByteArray):Prop where
  text:Blk w H #[.string s] 9
  read:Blk w (H+1) #[.func (.func 77) #[] #[]] 133
  whole:Blk w B #[.int .i64 (0:Nat),.nilFunc] 130
def oQx (s:ByteArray)(a1:Addr)(w w0:World)(B:Nat):Ending->World->Prop:=fun e w'=>
  (∀k,k<w0.heap.size->k≠B->w'.heap[k]?=w0.heap[k]?)/\Bw w w'/\w0.heap.size<=w'.heap.size/\
  ((∃l f caps,E6 s.data.toList=some l/\Ls.OkL 120 l/\cn l<=30000/\e=.returned (.tuple #[])/\Blk w' B #[.int .i64 (Ls.eX7 l),.func (.func f) #[] caps] 130/\PlanV w' (fun k=>w0.heap.size<=k/\k<w'.heap.size) l (.func (.func f) #[] caps))\/
   (E6 s.data.toList=.none/\e=.panicked [{v:=C9 a1,recovered:=false}]))
theorem eXh (hs:s.size<=120)(a:World)(H B:Nat)(hH:w.heap.size<=H)(hB:H+1<B)(x:Bw w a)(h:BoxP a H B s)(M:Ce w 3 0 (C9 a1)) :
    Calls Tryz.prog 101 #[Pt H,.pointer (some ⟨H+1,0,none⟩),Pt B] a (oQx s a1 w a B):=by
  have a7:∀(v:Value) w,(callFunc 77 #[v]).run Tryz.prog w=.ok (.enter 77 #[v]) w:=fun v w=>by kernel_rfl
  have a3:3<w.heap.size:=World.block_lt_of_cell? w _ M;obtain⟨t0,t1⟩:=h.text.one;obtain⟨f0,f1⟩:=h.read.one;have b5:=h.whole.lt;have b2:=x.size;have n:=A5 a (.cells #[.string s,Iv (0:Nat),Iv (0:Nat)] 164);have R:RB (a.alloc (.cells #[.string s,Iv (0:Nat),Iv (0:Nat)] 164)) a.heap.size s 0 0:=heap_alloc_new _ _;have a2:=(x.cell (p:=⟨3,0,none⟩) a3).trans M;have C:Env (a.alloc (.cells #[.string s,Iv (0:Nat),Iv (0:Nat)] 164)) a.heap.size a1:=⟨(n.cell (p:=⟨3,0,none⟩) (by show 3<a.heap.size;omega)).trans a2,by omega⟩;have J:=aXh s _ a1 hs a.heap.size R C;have N:=h.read.below n h.read.lt;obtain⟨u0,u1⟩:=N.one;have S:=h.whole.below n h.whole.lt;have b3:(a.alloc (.cells #[.string s,Iv (0:Nat),Iv (0:Nat)] 164)).heap.size=a.heap.size+1:=by simp
  have F:Hid (Bw a (a.alloc (.cells #[.string s,Iv (0:Nat),Iv (0:Nat)] 164))):=n;have Y:Hid (Blk (a.alloc (.cells #[.string s,Iv (0:Nat),Iv (0:Nat)] 164)) B #[Iv (0:Nat),.nilFunc] 130):=S;have V:Hid (Env (a.alloc (.cells #[.string s,Iv (0:Nat),Iv (0:Nat)] 164)) a.heap.size a1):=C;have b0:H+1<a.heap.size:=by omega
  have b1:¬H+1=a.heap.size:=by omega
  clear R n N S C u1 h;go_enter Tryz.func101,Tryz.ntmps101;go_wp2_with fail;generalize a.alloc (.cells #[.string s,Iv (0:Nat),Iv (0:Nat)] 164)=W1 at *;refine J.mono ?_;clear J;rintro e c (⟨l,j,f,d,r,a9,hj,rfl,P,o⟩|⟨r,rfl,hg⟩)
  · have u:Hid (Ls.fXa 13 (rest s 0)=some (l,rest s j)):=r
    have b4:=o.grown.size;have E:=Y.out.of (o.grown.block _ (by omega) (by simp;omega));obtain⟨q0,q1,q2,q3⟩:=E.two;have m:Bw a c:=F.out.grown o.grown (by omega) (fun k b=>by cases b;omega);have y:RB ((c.setCell ⟨B,0,none⟩ (Iv (Ls.eX7 l))).setCell ⟨B,1,none⟩ (.func (.func f) #[] d)) a.heap.size s j 0:=by
      have:=o.lies;unfold RB at this ⊢;rw[L9 _ _ _ _ _ (by omega)];exact this
    have K:((c.setCell ⟨B,0,none⟩ (Iv (Ls.eX7 l))).setCell ⟨B,1,none⟩ (.func (.func f) #[] d)).cell? ⟨3,0,none⟩=some (C9 a1):=by
      rw[World.cell?_setCell_far _ _ _ _ (by show B≠3;omega),World.cell?_setCell_far _ _ _ _ (by show B≠3;omega)];exact(V.out.grown o.grown).sc
    have T:Blk ((c.setCell ⟨B,0,none⟩ (Iv (Ls.eX7 l))).setCell ⟨B,1,none⟩ (.func (.func f) #[] d)) B #[Iv (Ls.eX7 l),.func (.func f) #[] d] 130:=by
      have:=E;unfold Blk at this ⊢;simp[World.setCell,Array.getElem?_modify,this]
    have L:Bw w ((c.setCell ⟨B,0,none⟩ (Iv (Ls.eX7 l))).setCell ⟨B,1,none⟩ (.func (.func f) #[] d)):=aQd (Bj x m) (by omega) _ _;have O:∀k,k<a.heap.size->k≠B->((c.setCell ⟨B,0,none⟩ (Iv (Ls.eX7 l))).setCell ⟨B,1,none⟩ (.func (.func f) #[] d)).heap[k]?=a.heap[k]?:=fun k b q=>by
      rw[L9 _ _ _ _ _ q];exact m.block k b
    have Q:PlanV ((c.setCell ⟨B,0,none⟩ (Iv (Ls.eX7 l))).setCell ⟨B,1,none⟩ (.func (.func f) #[] d)) (fun k=>a.heap.size<k/\k<c.heap.size) l (.func (.func f) #[] d):=PlanV.mono (fun k b=>⟨by have:=b.1;omega,b.2⟩) (fun k b=>L9 _ _ _ _ _ (by have:=b.1;omega)) _ _ P;have z:((c.setCell ⟨B,0,none⟩ (Iv (Ls.eX7 l))).setCell ⟨B,1,none⟩ (.func (.func f) #[] d)).heap.size=c.heap.size:=X4 _ _ _ _;have t:Hid (Bw w ((c.setCell ⟨B,0,none⟩ (Iv (Ls.eX7 l))).setCell ⟨B,1,none⟩ (.func (.func f) #[] d))):=L;have G:Hid (∀k,k<a.heap.size->k≠B->((c.setCell ⟨B,0,none⟩ (Iv (Ls.eX7 l))).setCell ⟨B,1,none⟩ (.func (.func f) #[] d)).heap[k]?=a.heap[k]?):=O;have X:Hid (PlanV ((c.setCell ⟨B,0,none⟩ (Iv (Ls.eX7 l))).setCell ⟨B,1,none⟩ (.func (.func f) #[] d)) (fun k=>a.heap.size<k/\k<c.heap.size) l (.func (.func f) #[] d)):=Q;have Z:Hid (Blk ((c.setCell ⟨B,0,none⟩ (Iv (Ls.eX7 l))).setCell ⟨B,1,none⟩ (.func (.func f) #[] d)) B #[Iv (Ls.eX7 l),.func (.func f) #[] d] 130):=T;have W:Hid (((c.setCell ⟨B,0,none⟩ (Iv (Ls.eX7 l))).setCell ⟨B,1,none⟩ (.func (.func f) #[] d)).cell? ⟨3,0,none⟩=some (C9 a1)):=K;have I:Hid (((c.setCell ⟨B,0,none⟩ (Iv (Ls.eX7 l))).setCell ⟨B,1,none⟩ (.func (.func f) #[] d)).heap.size=c.heap.size):=z;clear r P Q L O E T K m z;rcases Nat.lt_or_ge j s.size with a5|a8
    · have i:Hid (E6 s.data.toList=.none):=mQn u.out a5
      have A:=bQ3 a.heap.size s j 0 _ y (by omega) (by omega) false (by simp;omega);clear y;go_wp2_with fail;generalize (c.setCell ⟨B,0,none⟩ (Iv (Ls.eX7 l))).setCell ⟨B,1,none⟩ (.func (.func f) #[] d)=W2 at *;refine A.mono ?_;rintro e U ⟨rfl,g⟩;have a0:Ce U 3 0 (C9 a1):=g.grown.cell W.out (by simp;omega);have a6:=g.grown.size;have z:=I.out;go_wp2_with fail;refine(V7 _ a1 _ a0).mono ?_;rintro e w4 ⟨rfl,rfl⟩;go_wp2_with fail;refine⟨rfl,fun k b q=>?_,t.out.grown g.grown (by have:=t.out.size;omega) (fun k b=>by cases b;omega),by omega,.inr ⟨i.out,rfl⟩⟩;rw[g.grown.block k (by omega) (by simp;omega)];exact G.out k b q
    · have a4:j=s.size:=by omega
      subst a4;have i:Hid (E6 s.data.toList=some l/\Ls.OkL 120 l/\cn l<=30000):=⟨mQp u.out,Ls.mXa u.out (by rw[F4];omega),by have:=lQa 13 _ _ _ u.out;have h0:=F4 s 0;omega⟩;have A:=bQ3 a.heap.size s s.size 0 _ y (by omega) (by omega) true (by simp);clear y;go_wp2_with fail;generalize (c.setCell ⟨B,0,none⟩ (Iv (Ls.eX7 l))).setCell ⟨B,1,none⟩ (.func (.func f) #[] d)=W2 at *;refine A.mono ?_;rintro e U ⟨rfl,g⟩;have a6:=g.grown.size;have z:=I.out;go_wp2_with fail;go_end0;refine⟨fun k b q=>?_,t.out.grown g.grown (by have:=t.out.size;omega) (fun k b=>by cases b;omega),by omega,.inl ⟨l,f,d,i.out.1,i.out.2.1,i.out.2.2,rfl,?_,?_⟩⟩
      · rw[g.grown.block k (by omega) (by simp;omega)]
        exact G.out k b q
      · exact Z.out.of (g.grown.block _ (by omega) (by simp;omega))
      · exact PlanV.mono (fun k b=>⟨Nat.le_of_lt b.1,by have:=b.2;omega⟩) (fun k b=>g.grown.block k (by have:=b.2;omega) (by have:=b.1;simp;omega)) _ _ X.out
  · have i:Hid (E6 s.data.toList=.none):=mQo r
    have m:Bw a c:=F.out.grown hg (by omega) (fun k b=>by cases b;omega);clear r;go_wp2_with fail;exact⟨rfl,fun k b _=>m.block k b,Bj x m,m.size,.inr ⟨i.out,rfl⟩⟩
def aQ9 (s:ByteArray)(a0 a1 a2 a3:Addr)(w:World):Ending->World->Prop:=fun e w'=>Bw w w'/\
  ((∃l f caps,s.data.toList.length<=120/\E6 s.data.toList=some l/\Ls.OkL 120 l/\cn l<=30000/\Ls.eX7 l<=24/\e=.returned (.tuple #[C5 (Ls.eX7 l) (.func (.func f) #[] caps),.nilIface])/\PlanV w' (B8 w w') l (.func (.func f) #[] caps))\/
   (∃r,(r=1\/r=2\/r=3)/\CompIs s.data.toList r/\e=.returned (.tuple #[C5 0 .nilFunc,C9 (bQ6 a0 a1 a2 a3 r)])))
abbrev hQ1:Obj:=.cells #[.int .i64 0,.nilFunc] 130
structure FourV (w W:World)(s:ByteArray):Prop where
  text:Blk W w.heap.size #[.string s] 9
  read:Blk W (w.heap.size+1) #[.func (.func 77) #[] #[]] 133
  res:Blk W (w.heap.size+1+1) #[.int .i64 0,.nilFunc] 130
  non:Blk W (w.heap.size+1+1+1) #[.int .i64 0,.nilFunc] 130
abbrev eXg (w:World)(s:ByteArray):World:=(((w.alloc (.cells #[.string s] 9)).alloc (.cells #[.func (.func 77) #[] #[]] 133)).alloc hQ1).alloc hQ1
theorem FourV.start (s:ByteArray):FourV w (eXg w s) s:=by
  have a:∀(W:World) (o:Obj) {g:Nat} {b:Array Value} {T:TypeId},Blk W g b T->Blk (W.alloc o) g b T:=fun W o _ _ _ h=>h.of (Below.heap_alloc _ _ _ h.lt);refine⟨a _ _ (a _ _ (a _ _ (Blk.new w _ _))),a _ _ (a _ _ ?_),a _ _ ?_,?_⟩
  · have:=Blk.new (w.alloc (.cells #[.string s] 9)) #[.func (.func 77) #[] #[]] 133
    rw[World.size_alloc]at this;exact this
  · have:=Blk.new ((w.alloc (.cells #[.string s] 9)).alloc (.cells #[.func (.func 77) #[] #[]] 133)) #[Iv 0,.nilFunc] 130
    rw[World.size_alloc,World.size_alloc]at this;exact this
  · have:=Blk.new (((w.alloc (.cells #[.string s] 9)).alloc (.cells #[.func (.func 77) #[] #[]] 133)).alloc hQ1) #[Iv 0,.nilFunc] 130
    rw[World.size_alloc,World.size_alloc,World.size_alloc]at this;exact this
theorem FourV.of {w W b:World}{s:ByteArray}(h:FourV w W s)(a:∀k,w.heap.size<=k->k<w.heap.size+1+1+1+1->b.heap[k]?=W.heap[k]?):FourV w b s:=
  ⟨h.text.of (a _ (by omega) (by omega)),h.read.of (a _ (by omega) (by omega)),h.res.of (a _ (by omega) (by omega)),h.non.of (a _ (by omega) (by omega))⟩
theorem zQ0 (n f:Nat)(a:Array Value):Calls Tryz.prog 232 #[.agg #[Iv n,.func (.func f) #[] a]] w fun e d=>e=.returned (Iv n)/\Bw w d:=by
  have c:=A5 w (.cells #[Iv n,.func (.func f) #[] a] 130);have b:Blk (w.alloc (.cells #[Iv n,.func (.func f) #[] a] 130)) w.heap.size #[Iv n,.func (.func f) #[] a] 130:=Blk.new w _ _;obtain⟨g,h,i,s1⟩:=b.two;clear b;go_enter Tryz.func232,Tryz.ntmps232;go_wp2_with fail;go_ret;exact⟨rfl,c⟩
theorem eQ4:s.data.toList.length=s.size:=by simp
theorem eXj (hs:120<s.size)(m:s.size<=1048576)(a:Sent w a0 a1 a2 a3) :
    Calls Tryz.prog 76 #[.string s,.func (.func 77) #[] #[]] w (aQ9 s a0 a1 a2 a3 w):=by
  have k:(120:Int)<(s.size:Int):=by omega
  have d:Below w.heap.size w ((((w.alloc (.cells #[.string s] 9)).alloc (.cells #[.func (.func 77) #[] #[]] 133)).alloc (.cells #[.int .i64 0,.nilFunc] 130)).alloc (.cells #[.int .i64 0,.nilFunc] 130)):=bQx _ _ _ _ _;have b:FourV w ((((w.alloc (.cells #[.string s] 9)).alloc (.cells #[.func (.func 77) #[] #[]] 133)).alloc (.cells #[.int .i64 0,.nilFunc] 130)).alloc (.cells #[.int .i64 0,.nilFunc] 130)) s:=FourV.start w s;have j:=(a.below d).c0;have l:0<w.heap.size:=World.block_lt_of_cell? w _ a.c0;have e:Hid (CompIs s.data.toList 1):=.inl ⟨by rw[eQ4];exact hs,rfl⟩;clear a;go_enter Tryz.func76,Tryz.ntmps76;go_upto_region 3 with (fail);generalize ((((w.alloc (.cells #[.string s] 9)).alloc (.cells #[.func (.func 77) #[] #[]] 133)).alloc (.cells #[.int .i64 0,.nilFunc] 130)).alloc (.cells #[.int .i64 0,.nilFunc] 130))=g at *;obtain⟨h,i,r,s1⟩:=b.res.two;obtain⟨p,q,n,o⟩:=b.non.two;have f:Hid (aQ9 s a0 a1 a2 a3 w (.returned (.tuple #[.agg #[.int .i64 0,.nilFunc],C9 a0])) ((g.setCell ⟨w.heap.size+1+1,0,none⟩ (.int .i64 0)).setCell ⟨w.heap.size+1+1,1,none⟩ .nilFunc).drew):=
    ⟨(aQd d (by omega) _ _).drew,.inr ⟨1,.inl rfl,e.out,rfl⟩⟩
  clear b;go_region_held (fun c=>c.cell? ⟨0,0,none⟩=some (C9 a0)/\c.cell? ⟨w.heap.size+1+1+1,0,none⟩=some (.int .i64 0)/\c.cell? ⟨w.heap.size+1+1+1,1,none⟩=some .nilFunc) (first|assumption|(go_keep;done)|(refine eQ0 ?_ ?_ ?_ ?_ ?_<;>first|assumption|omega)) (fail)
  all_goals
    go_wp2_with fail;exact bodyPost_ret (v:=.tuple #[.agg #[.int .i64 0,.nilFunc],C9 a0]) (by simp[results,Tryz.results76,go_sem,h,i]) rfl f.out
theorem eXk (hs:s.size<=120)(Y:Sent w a0 a1 a2 a3) :
    Calls Tryz.prog 76 #[.string s,.func (.func 77) #[] #[]] w (aQ9 s a0 a1 a2 a3 w):=by
  have c6:∀(X:Fn) (first W:Array Value) (w:World),(Instr.makeFunc X first W).run Tryz.prog w=.ok (.func X first W) w:=fun _ _ _ _=>rfl;have hd:¬(120:Int)<(s.size:Int):=by omega
  have c7:∀w,(binOp .neq 80 (C9 a1) .nilIface).run Tryz.prog w=.ok (.bool true) w:=fun w=>by kernel_rfl
  have c8:∀w,(binOp .neq 80 .nilIface .nilIface).run Tryz.prog w=.ok (.bool false) w:=fun w=>by kernel_rfl
  have b8:Below w.heap.size w ((((w.alloc (.cells #[.string s] 9)).alloc (.cells #[.func (.func 77) #[] #[]] 133)).alloc (.cells #[.int .i64 0,.nilFunc] 130)).alloc (.cells #[.int .i64 0,.nilFunc] 130)):=bQx _ _ _ _ _;have P:FourV w ((((w.alloc (.cells #[.string s] 9)).alloc (.cells #[.func (.func 77) #[] #[]] 133)).alloc (.cells #[.int .i64 0,.nilFunc] 130)).alloc (.cells #[.int .i64 0,.nilFunc] 130)) s:=FourV.start w s;have t:Hid (((((w.alloc (.cells #[.string s] 9)).alloc (.cells #[.func (.func 77) #[] #[]] 133)).alloc (.cells #[.int .i64 0,.nilFunc] 130)).alloc (.cells #[.int .i64 0,.nilFunc] 130)).heap.size=w.heap.size+1+1+1+1):=by show _=_;simp
  have K:Hid (Sent w a0 a1 a2 a3):=Y;clear Y;go_enter Tryz.func76,Tryz.ntmps76;go_upto_region 4 with (fail);generalize ((((w.alloc (.cells #[.string s] 9)).alloc (.cells #[.func (.func 77) #[] #[]] 133)).alloc (.cells #[.int .i64 0,.nilFunc] 130)).alloc (.cells #[.int .i64 0,.nilFunc] 130))=c at *;obtain⟨C,E,A,B⟩:=P.non.two;have R:Blk (c.alloc (.cells #[.int .i64 0,.nilFunc] 130)) c.heap.size #[.int .i64 0,.nilFunc] 130:=Blk.new c _ _;obtain⟨p0,p1,p2,p3⟩:=R.two;have Z:=A5 c (.cells #[.int .i64 0,.nilFunc] 130);have b1:FourV w (c.alloc (.cells #[.int .i64 0,.nilFunc] 130)) s:=P.of (fun k _ b=>Z.block k (by have:=t.out;omega));have N:=Bj b8 Z;have u:Hid ((c.alloc (.cells #[.int .i64 0,.nilFunc] 130)).heap.size=c.heap.size+1):=by show _=_;simp
  have m:Hid (FourV w (c.alloc (.cells #[.int .i64 0,.nilFunc] 130)) s):=b1;have V:Hid (Blk (c.alloc (.cells #[.int .i64 0,.nilFunc] 130)) c.heap.size #[.int .i64 0,.nilFunc] 130):=R;clear P b1 R;go_wp2_with fail;generalize c.alloc (.cells #[.int .i64 0,.nilFunc] 130)=a at *;have n:=A5 a (.cells #[.nilIface] 80);have c0:(a.alloc (.cells #[.nilIface] 80)).heap[a.heap.size]?=some (.cells #[.nilIface] 80 (0,0)):=heap_alloc_new _ _;have c9:(a.alloc (.cells #[.nilIface] 80)).heap.size=a.heap.size+1:=by simp
  have a7:=eXh s w a1 hs (a.alloc (.cells #[.nilIface] 80)) w.heap.size c.heap.size (Nat.le_refl _) (by have:=t.out;omega) (Bj N n) ⟨m.out.text.below n m.out.text.lt,m.out.read.below n m.out.read.lt,V.out.below n V.out.lt⟩ K.out.c1;have a4:=jQl 101 _ (fun w=>by kernel_rfl) a _ a7 (fun e I H=>⟨by rw[H.1 _ (by omega) (by have:=u.out;omega)];exact c0,by
    rcases H.2.2.2 with⟨l,f,d,_,_,_,h,_⟩|⟨_,h⟩
    · exact .inl h
    · exact .inr ⟨a1,h⟩⟩)
  clear a7 p0 p1 p2 p3 C E A B;refine a4.mono ?_;clear a4;rintro e j ⟨e1,g,H,a5⟩;obtain⟨b,G,b4,c4⟩:=H;rcases c4 with⟨l,f,d,z,a8,a6,rfl,b2,b0⟩|⟨z,rfl⟩
  · rcases a5 with⟨_,rfl,rfl⟩|⟨b6,h,_⟩
    rotate_left
    · cases h
    have Q:Blk (g.setCell ⟨a.heap.size,0,none⟩ .nilIface) c.heap.size #[.int .i64 (Ls.eX7 l),.func (.func f) #[] d] 130:=b2.of (Below.heap_setCell _ _ _ _ (by show c.heap.size≠a.heap.size;have:=u.out;omega));have i:FourV w (g.setCell ⟨a.heap.size,0,none⟩ .nilIface) s:=m.out.of (fun k _ c3=>by
      have h4:=t.out;have h5:=u.out;rw[Below.heap_setCell _ _ _ _ (by show k≠a.heap.size;omega),b k (by omega) (by omega)];exact n.block k (by omega))
    have L:Below w.heap.size w (g.setCell ⟨a.heap.size,0,none⟩ .nilIface):=G.setCell (p:=⟨a.heap.size,0,none⟩) (by show w.heap.size<=a.heap.size;exact N.size) _;have a9:PlanV (g.setCell ⟨a.heap.size,0,none⟩ .nilIface) (fun k=>w.heap.size+1+1<k/\k<(g.setCell ⟨a.heap.size,0,none⟩ .nilIface).heap.size) l (.func (.func f) #[] d):=PlanV.mono (fun k b=>⟨by have:=b.1;have:=t.out;have:=u.out;omega,by have:=b.2;simp[World.setCell];exact this⟩) (fun k b=>Below.heap_setCell _ _ _ _ (by show k≠a.heap.size;have:=b.1;omega)) _ _ b0;have F:Hid (E6 s.data.toList=some l/\Ls.OkL 120 l/\cn l<=30000):=⟨z,a8,a6⟩;clear b G b4 b2 b0 z a8 a6;generalize g.setCell ⟨a.heap.size,0,none⟩ .nilIface=j at *;obtain⟨q0,q1,q2,q3⟩:=Q.two;obtain⟨o,q,S,s1⟩:=i.res.two;obtain⟨C,E,A,B⟩:=i.non.two;have b5:Hid (PlanV j (fun k=>w.heap.size+1+1<k/\k<j.heap.size) l (.func (.func f) #[] d)):=a9;have U:Hid (Blk j c.heap.size #[.int .i64 (Ls.eX7 l),.func (.func f) #[] d] 130):=Q;have T:Hid (FourV w j s):=i;clear a9 Q i;go_wp2_with fail;refine(zQ0 j (Ls.eX7 l) f d).mono ?_;rintro e w3 ⟨rfl,y⟩;have M:=Bj L y;have O:=T.out.of (fun k _ b=>y.block k (Nat.lt_of_lt_of_le b (by have:=T.out.non.lt;omega)));have b3:=U.out.below y U.out.lt;clear q0 q1 q2 q3 o q S s1 C E A B;obtain⟨q0,q1,q2,q3⟩:=b3.two;obtain⟨o,q,S,s1⟩:=O.res.two;obtain⟨C,E,A,B⟩:=O.non.two;have c2:=(K.out.below M).c2;have c5:1<w.heap.size:=World.block_lt_of_cell? w _ K.out.c2;clear b3 O
    by_cases b7:24<Ls.eX7 l
    · have b9:(24:Int)<(Ls.eX7 l:Int):=by omega
      have J:Hid (CompIs s.data.toList 3):=.inr ⟨by rw[eQ4];exact hs,.inr ⟨l,F.out.1,.inl ⟨b7,rfl⟩⟩⟩;have r:Hid (aQ9 s a0 a1 a2 a3 w (.returned (.tuple #[.agg #[.int .i64 0,.nilFunc],C9 a2])) ((w3.setCell ⟨w.heap.size+1+1,0,none⟩ (.int .i64 0)).setCell ⟨w.heap.size+1+1,1,none⟩ .nilFunc).drew):=
        ⟨(aQd M (by omega) _ _).drew,.inr ⟨3,.inr (.inr rfl),J.out,rfl⟩⟩
      go_wp2_with fail;go_region_held (fun I=>I.cell? ⟨1,0,none⟩=some (C9 a2)/\I.cell? ⟨w.heap.size+1+1+1,0,none⟩=some (.int .i64 0)/\I.cell? ⟨w.heap.size+1+1+1,1,none⟩=some .nilFunc) (first|assumption|(go_keep;done)|(refine eQ0 ?_ ?_ ?_ ?_ ?_<;>first|assumption|omega)) (fail)
      all_goals
        go_wp2_with fail;exact bodyPost_ret (v:=.tuple #[.agg #[.int .i64 0,.nilFunc],C9 a2]) (by simp[results,Tryz.results76,go_sem,o,q]) rfl r.out
    · have b9:¬(24:Int)<(Ls.eX7 l:Int):=by omega
      have r:Hid (aQ9 s a0 a1 a2 a3 w (.returned (.tuple #[C5 (Ls.eX7 l) (.func (.func f) #[] d),.nilIface])) ((w3.setCell ⟨w.heap.size+1+1,0,none⟩ (.int .i64 (Ls.eX7 l))).setCell ⟨w.heap.size+1+1,1,none⟩ (.func (.func f) #[] d))):=by
        refine⟨aQd M (by omega) _ _,.inl ⟨l,f,d,by rw[eQ4];exact hs,F.out.1,F.out.2.1,F.out.2.2,by omega,rfl,PlanV.mono (fun k b=>⟨by have:=b.1;omega,by rw[X4];exact Nat.lt_of_lt_of_le b.2 y.size⟩) (fun k b=>?_) _ _ b5.out⟩⟩;rw[L9 _ _ _ _ _ (by have:=b.1;omega)];exact y.block k b.2
      go_wp2_with fail;exact bodyPost_ret (v:=.tuple #[C5 (Ls.eX7 l) (.func (.func f) #[] d),.nilIface]) (by simp[results,Tryz.results76,go_sem,o,q]) rfl r.out
  · rcases a5 with⟨h,_⟩|⟨b6,h,rfl,rfl⟩
    · cases h
    injection h with h;injection h with h;injection h with h;injection h with h x;injection x with x;injection x with x;subst x;have J:Hid (CompIs s.data.toList 2):=.inr ⟨by rw[eQ4];exact hs,.inl ⟨z,rfl⟩⟩;have i:FourV w (g.setCell ⟨a.heap.size,0,none⟩ (C9 a1)) s:=m.out.of (fun k _ c3=>by
      have h4:=t.out;have h5:=u.out;rw[Below.heap_setCell _ _ _ _ (by show k≠a.heap.size;omega),b k (by omega) (by omega)];exact n.block k (by omega))
    have L:Below w.heap.size w (g.setCell ⟨a.heap.size,0,none⟩ (C9 a1)):=G.setCell (p:=⟨a.heap.size,0,none⟩) (by show w.heap.size<=a.heap.size;exact N.size) _;clear b G b4 z;generalize g.setCell ⟨a.heap.size,0,none⟩ (C9 a1)=j at *;obtain⟨o,q,S,s1⟩:=i.res.two;obtain⟨C,E,A,B⟩:=i.non.two;clear i;have r:Hid (aQ9 s a0 a1 a2 a3 w (.returned (.tuple #[.agg #[.int .i64 0,.nilFunc],C9 a1])) ((j.setCell ⟨w.heap.size+1+1,0,none⟩ (.int .i64 0)).setCell ⟨w.heap.size+1+1,1,none⟩ .nilFunc)):=
      ⟨aQd L (by omega) _ _,.inr ⟨2,.inr (.inl rfl),J.out,rfl⟩⟩
    go_wp2_with fail;exact bodyPost_ret (v:=.tuple #[.agg #[.int .i64 0,.nilFunc],C9 a1]) (by simp[results,Tryz.results76,go_sem,o,q]) rfl r.out
theorem eXi (hs:s.size<=1048576)(a:Sent w a0 a1 a2 a3) :
    Calls Tryz.prog 76 #[.string s,.func (.func 77) #[] #[]] w (aQ9 s a0 a1 a2 a3 w):=by
  by_cases h:120<s.size
  · exact eXj s w a0 a1 a2 a3 h hs a
  · exact eXk s w a0 a1 a2 a3 (by omega) a
end Go.Proofs.YtfklinjaajafgaaGreatDoor
