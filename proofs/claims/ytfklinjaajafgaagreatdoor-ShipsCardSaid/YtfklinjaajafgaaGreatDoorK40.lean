import Derived.Test.YtfklinjaajafgaaGreatDoorK15
import Derived.Test.YtfklinjaajafgaaGreatDoorK03
import Derived.Test.YtfklinjaajafgaaGreatDoorK08
set_option maxRecDepth 100000
set_option maxHeartbeats 4000000
namespace Go.Proofs.YtfklinjaajafgaaGreatDoor
open Go.RowKit
theorem zQb (s:ByteArray)(hs:s.size<=120)(a1:Addr)(rb:Nat)(w:World)(h:RB w rb s 0 0)(hE:Env w rb a1) :
    Calls Tryz.prog 77 #[.pointer (some ⟨rb,0,none⟩)] w (PlPost w rb s 0 0 a1 (Ls.dXz 13 (rest s 0))):=by
  have hL:Y4 s a1 0:=yQx hs (yQw s hs a1) 12 (Nat.le_refl _);have hrl:=h.lt;have hb0:=A5 w (.cells #[.int .i64 (0:Nat),.nilFunc] 130);have hx0:Blk (w.alloc (.cells #[.int .i64 (0:Nat),.nilFunc] 130)) w.heap.size #[.int .i64 (0:Nat),.nilFunc] 130:=Blk.new w _ _;have hC:Calls Tryz.prog 104 #[D2 rb] _ _:=hL rb 0 _ (h.below hb0) (hE.below hb0) (Nat.zero_le _);have hz0:(w.alloc (.cells #[.int .i64 (0:Nat),.nilFunc] 130)).heap.size=w.heap.size+1:=by simp
  have HX:Hid (Blk (w.alloc (.cells #[.int .i64 (0:Nat),.nilFunc] 130)) w.heap.size #[.int .i64 (0:Nat),.nilFunc] 130):=hx0;have HL0:Hid (RLeft w rb s 0 0 (w.alloc (.cells #[.int .i64 (0:Nat),.nilFunc] 130))):=RLeft.of_below h hb0;clear hL hx0 hb0 h;go_enter Tryz.func77,Tryz.ntmps77;go_wp2_with fail;refine hC.mono ?_;clear hC;generalize w.alloc (.cells #[.int .i64 (0:Nat),.nilFunc] 130)=W0 at *;rintro e w1 (⟨l,j,f,caps,hr,hij,hj,rfl,hp,hl⟩|⟨hr,rfl,hg⟩)
  · have hz1:=hl.grown.size
    have hx1:=HX.out.of (hl.grown.block _ (by omega) (by simp;omega));obtain⟨r0,r1,s0,s1⟩:=hx1.two;have HP:Hid (PlPost w rb s 0 0 a1 (Ls.dXz 13 (rest s 0)) (.returned (C5 (Ls.dXw l) (.func (.func f) #[] caps))) ((w1.setCell ⟨w.heap.size,0,none⟩ (.int .i64 (Ls.dXw l))).setCell ⟨w.heap.size,1,none⟩ (.func (.func f) #[] caps))):=
      .inl ⟨l,j,f,caps,hr,hij,hj,rfl,PlanV.mono (fun k hk=>⟨by have:=hk.1;omega,by rw[U5];exact hk.2⟩) (fun k hk=>K6 _ _ _ _ _ (by have:=hk.1;omega)) _ _ hp,(HL0.out.trans hl).res2 (Nat.le_refl _) hrl _ _⟩
    clear hx1 hp hl hr;go_wp2_with fail;exact bodyPost_ret (v:=C5 (Ls.dXw l) (.func (.func f) #[] caps)) (by simp[results,Tryz.results77,go_sem,r0,r1]) rfl HP.out
  · have HP:Hid (PlPost w rb s 0 0 a1 (Ls.dXz 13 (rest s 0)) (.panicked [{v:=D0 a1,recovered:=false}]) w1):=.inr ⟨hr,rfl,I7 HL0.out.grown hg⟩
    clear hr hg;go_wp2_with fail;exact⟨rfl,HP.out⟩
structure BoxP (w:World)(H B:Nat)(s:ByteArray):Prop where
  text:Blk w H #[.string s] 9
  read:Blk w (H+1) #[.func (.func 77) #[] #[]] 133
  whole:Blk w B #[.int .i64 (0:Nat),.nilFunc] 130
def nQp (s:ByteArray)(a1:Addr)(w w0:World)(B:Nat):Ending->World->Prop:=fun e w'=>
  (∀k,k<w0.heap.size->k≠B->w'.heap[k]?=w0.heap[k]?)/\Below w.heap.size w w'/\w0.heap.size<=w'.heap.size/\
  ((∃l f caps,E2 s.data.toList=some l/\Ls.OkL 120 l/\cn l<=30000/\e=.returned (.tuple #[])/\Blk w' B #[.int .i64 (Ls.dXw l),.func (.func f) #[] caps] 130/\PlanV w' (fun k=>w0.heap.size<=k/\k<w'.heap.size) l (.func (.func f) #[] caps))\/
   (E2 s.data.toList=.none/\e=.panicked [{v:=D0 a1,recovered:=false}]))
theorem cX6 (s:ByteArray)(hs:s.size<=120)(a1:Addr)(w w0:World)(H B:Nat)(hH:w.heap.size<=H)(hB:H+1<B)(hb0:Below w.heap.size w w0)(h3:BoxP w0 H B s)(hc:w.cell? ⟨3,0,none⟩=some (D0 a1)) :
    Calls Tryz.prog 101 #[.pointer (some ⟨H,0,none⟩),.pointer (some ⟨H+1,0,none⟩),.pointer (some ⟨B,0,none⟩)] w0 (nQp s a1 w w0 B):=by
  have hcf:∀(v:Value) w,(callFunc 77 #[v]).run Tryz.prog w=.ok (.enter 77 #[v]) w:=fun v w=>by kernel_rfl
  have hgl:3<w.heap.size:=World.block_lt_of_cell? w _ hc;obtain⟨t0,t1⟩:=h3.text.one;obtain⟨f0,f1⟩:=h3.read.one;have hzB:=h3.whole.lt;have hz00:=hb0.size;have hb1:=A5 w0 (.cells #[.string s,.int .i64 (0:Nat),.int .i64 (0:Nat)] 164);have hrb:RB (w0.alloc (.cells #[.string s,.int .i64 (0:Nat),.int .i64 (0:Nat)] 164)) w0.heap.size s 0 0:=heap_alloc_new _ _;have hc0:=(hb0.cell (p:=⟨3,0,none⟩) hgl).trans hc;have hE:Env (w0.alloc (.cells #[.string s,.int .i64 (0:Nat),.int .i64 (0:Nat)] 164)) w0.heap.size a1:=⟨(hb1.cell (p:=⟨3,0,none⟩) (by show 3<w0.heap.size;omega)).trans hc0,by omega⟩;have hC:=zQb s hs a1 w0.heap.size _ hrb hE;have hf1:=h3.read.below hb1 h3.read.lt;obtain⟨u0,u1⟩:=hf1.one;have hw1:=h3.whole.below hb1 h3.whole.lt;have hz1:(w0.alloc (.cells #[.string s,.int .i64 (0:Nat),.int .i64 (0:Nat)] 164)).heap.size=w0.heap.size+1:=by simp
  have HB1:Hid (Below w0.heap.size w0 (w0.alloc (.cells #[.string s,.int .i64 (0:Nat),.int .i64 (0:Nat)] 164))):=hb1;have HW1:Hid (Blk (w0.alloc (.cells #[.string s,.int .i64 (0:Nat),.int .i64 (0:Nat)] 164)) B #[.int .i64 (0:Nat),.nilFunc] 130):=hw1;have HE:Hid (Env (w0.alloc (.cells #[.string s,.int .i64 (0:Nat),.int .i64 (0:Nat)] 164)) w0.heap.size a1):=hE;have hlt1:H+1<w0.heap.size:=by omega
  have hne1:¬H+1=w0.heap.size:=by omega
  clear hrb hb1 hf1 hw1 hE u1 h3;go_enter Tryz.func101,Tryz.ntmps101;go_wp2_with fail;generalize w0.alloc (.cells #[.string s,.int .i64 (0:Nat),.int .i64 (0:Nat)] 164)=W1 at *;refine hC.mono ?_;clear hC;rintro e w1 (⟨l,j,f,caps,hr,hij,hj,rfl,hp,hl⟩|⟨hr,rfl,hg⟩)
  · have Hr:Hid (Ls.dXz 13 (rest s 0)=some (l,rest s j)):=hr
    have hz2:=hl.grown.size;have hwB:=HW1.out.of (hl.grown.block _ (by omega) (by simp;omega));obtain⟨q0,q1,q2,q3⟩:=hwB.two;have hbw:Below w0.heap.size w0 w1:=HB1.out.grown hl.grown (by omega) (fun k hk=>by cases hk;omega);have hl2:RB ((w1.setCell ⟨B,0,none⟩ (.int .i64 (Ls.dXw l))).setCell ⟨B,1,none⟩ (.func (.func f) #[] caps)) w0.heap.size s j 0:=by
      have:=hl.lies;unfold RB at this ⊢;rw[K6 _ _ _ _ _ (by omega)];exact this
    have hE2:((w1.setCell ⟨B,0,none⟩ (.int .i64 (Ls.dXw l))).setCell ⟨B,1,none⟩ (.func (.func f) #[] caps)).cell? ⟨3,0,none⟩=some (D0 a1):=by
      rw[World.cell?_setCell_far _ _ _ _ (by show B≠3;omega),World.cell?_setCell_far _ _ _ _ (by show B≠3;omega)];exact(HE.out.grown hl.grown).sc
    have hwB2:Blk ((w1.setCell ⟨B,0,none⟩ (.int .i64 (Ls.dXw l))).setCell ⟨B,1,none⟩ (.func (.func f) #[] caps)) B #[.int .i64 (Ls.dXw l),.func (.func f) #[] caps] 130:=by
      have:=hwB;unfold Blk at this ⊢;simp[World.setCell,Array.getElem?_modify,this]
    have hbs:Below w.heap.size w ((w1.setCell ⟨B,0,none⟩ (.int .i64 (Ls.dXw l))).setCell ⟨B,1,none⟩ (.func (.func f) #[] caps)):=Z7 (Below.join hb0 hbw) (by omega) _ _;have hkeep:∀k,k<w0.heap.size->k≠B->((w1.setCell ⟨B,0,none⟩ (.int .i64 (Ls.dXw l))).setCell ⟨B,1,none⟩ (.func (.func f) #[] caps)).heap[k]?=w0.heap[k]?:=fun k hk hn=>by
      rw[K6 _ _ _ _ _ hn];exact hbw.block k hk
    have hp2:PlanV ((w1.setCell ⟨B,0,none⟩ (.int .i64 (Ls.dXw l))).setCell ⟨B,1,none⟩ (.func (.func f) #[] caps)) (fun k=>w0.heap.size<k/\k<w1.heap.size) l (.func (.func f) #[] caps):=PlanV.mono (fun k hk=>⟨by have:=hk.1;omega,hk.2⟩) (fun k hk=>K6 _ _ _ _ _ (by have:=hk.1;omega)) _ _ hp;have hz3:((w1.setCell ⟨B,0,none⟩ (.int .i64 (Ls.dXw l))).setCell ⟨B,1,none⟩ (.func (.func f) #[] caps)).heap.size=w1.heap.size:=U5 _ _ _ _;have HB:Hid (Below w.heap.size w ((w1.setCell ⟨B,0,none⟩ (.int .i64 (Ls.dXw l))).setCell ⟨B,1,none⟩ (.func (.func f) #[] caps))):=hbs;have HK:Hid (∀k,k<w0.heap.size->k≠B->((w1.setCell ⟨B,0,none⟩ (.int .i64 (Ls.dXw l))).setCell ⟨B,1,none⟩ (.func (.func f) #[] caps)).heap[k]?=w0.heap[k]?):=hkeep;have HP:Hid (PlanV ((w1.setCell ⟨B,0,none⟩ (.int .i64 (Ls.dXw l))).setCell ⟨B,1,none⟩ (.func (.func f) #[] caps)) (fun k=>w0.heap.size<k/\k<w1.heap.size) l (.func (.func f) #[] caps)):=hp2;have HW2:Hid (Blk ((w1.setCell ⟨B,0,none⟩ (.int .i64 (Ls.dXw l))).setCell ⟨B,1,none⟩ (.func (.func f) #[] caps)) B #[.int .i64 (Ls.dXw l),.func (.func f) #[] caps] 130):=hwB2;have HE2:Hid (((w1.setCell ⟨B,0,none⟩ (.int .i64 (Ls.dXw l))).setCell ⟨B,1,none⟩ (.func (.func f) #[] caps)).cell? ⟨3,0,none⟩=some (D0 a1)):=hE2;have HZ3:Hid (((w1.setCell ⟨B,0,none⟩ (.int .i64 (Ls.dXw l))).setCell ⟨B,1,none⟩ (.func (.func f) #[] caps)).heap.size=w1.heap.size):=hz3;clear hr hp hp2 hbs hkeep hwB hwB2 hE2 hbw hz3;rcases Nat.lt_or_ge j s.size with hlt|hge
    · have HN:Hid (E2 s.data.toList=.none):=lQn Hr.out hlt
      have hD:=bQl w0.heap.size s j 0 _ hl2 (by omega) (by omega) false (by simp;omega);clear hl2;go_wp2_with fail;generalize (w1.setCell ⟨B,0,none⟩ (.int .i64 (Ls.dXw l))).setCell ⟨B,1,none⟩ (.func (.func f) #[] caps)=W2 at *;refine hD.mono ?_;rintro e w3 ⟨rfl,hl3⟩;have hE3:w3.cell? ⟨3,0,none⟩=some (D0 a1):=hl3.grown.cell HE2.out (by simp;omega);have hz4:=hl3.grown.size;have hz3:=HZ3.out;go_wp2_with fail;refine(T8 _ a1 _ hE3).mono ?_;rintro e w4 ⟨rfl,rfl⟩;go_wp2_with fail;refine⟨rfl,fun k hk hn=>?_,HB.out.grown hl3.grown (by have:=HB.out.size;omega) (fun k hk=>by cases hk;omega),by omega,.inr ⟨HN.out,rfl⟩⟩;rw[hl3.grown.block k (by omega) (by simp;omega)];exact HK.out k hk hn
    · have hjs:j=s.size:=by omega
      subst hjs;have HN:Hid (E2 s.data.toList=some l/\Ls.OkL 120 l/\cn l<=30000):=⟨lQp Hr.out,Ls.kXz Hr.out (by rw[E7];omega),by have:=kQb 13 _ _ _ Hr.out;have h0:=E7 s 0;omega⟩;have hD:=bQl w0.heap.size s s.size 0 _ hl2 (by omega) (by omega) true (by simp);clear hl2;go_wp2_with fail;generalize (w1.setCell ⟨B,0,none⟩ (.int .i64 (Ls.dXw l))).setCell ⟨B,1,none⟩ (.func (.func f) #[] caps)=W2 at *;refine hD.mono ?_;rintro e w3 ⟨rfl,hl3⟩;have hz4:=hl3.grown.size;have hz3:=HZ3.out;go_wp2_with fail;go_end0;refine⟨fun k hk hn=>?_,HB.out.grown hl3.grown (by have:=HB.out.size;omega) (fun k hk=>by cases hk;omega),by omega,.inl ⟨l,f,caps,HN.out.1,HN.out.2.1,HN.out.2.2,rfl,?_,?_⟩⟩
      · rw[hl3.grown.block k (by omega) (by simp;omega)]
        exact HK.out k hk hn
      · exact HW2.out.of (hl3.grown.block _ (by omega) (by simp;omega))
      · exact PlanV.mono (fun k hk=>⟨Nat.le_of_lt hk.1,by have:=hk.2;omega⟩) (fun k hk=>hl3.grown.block k (by have:=hk.2;omega) (by have:=hk.1;simp;omega)) _ _ HP.out
  · have HN:Hid (E2 s.data.toList=.none):=lQo hr
    have hbw:Below w0.heap.size w0 w1:=HB1.out.grown hg (by omega) (fun k hk=>by cases hk;omega);clear hr;go_wp2_with fail;exact⟨rfl,fun k hk _=>hbw.block k hk,Below.join hb0 hbw,hbw.size,.inr ⟨HN.out,rfl⟩⟩
def aQs (s:ByteArray)(a0 a1 a2 a3:Addr)(w:World):Ending->World->Prop:=fun e w'=>Below w.heap.size w w'/\
  ((∃l f caps,s.data.toList.length<=120/\E2 s.data.toList=some l/\Ls.OkL 120 l/\cn l<=30000/\Ls.dXw l<=24/\e=.returned (.tuple #[C5 (Ls.dXw l) (.func (.func f) #[] caps),.nilIface])/\PlanV w' (B8 w w') l (.func (.func f) #[] caps))\/
   (∃r,(r=1\/r=2\/r=3)/\CompIs s.data.toList r/\e=.returned (.tuple #[C5 0 .nilFunc,D0 (bQn a0 a1 a2 a3 r)])))
abbrev gQ6:Obj:=.cells #[.int .i64 0,.nilFunc] 130
structure FourV (w W:World)(s:ByteArray):Prop where
  text:Blk W w.heap.size #[.string s] 9
  read:Blk W (w.heap.size+1) #[.func (.func 77) #[] #[]] 133
  res:Blk W (w.heap.size+1+1) #[.int .i64 0,.nilFunc] 130
  non:Blk W (w.heap.size+1+1+1) #[.int .i64 0,.nilFunc] 130
abbrev cX5 (w:World)(s:ByteArray):World:=(((w.alloc (.cells #[.string s] 9)).alloc (.cells #[.func (.func 77) #[] #[]] 133)).alloc gQ6).alloc gQ6
theorem FourV.start (w:World)(s:ByteArray):FourV w (cX5 w s) s:=by
  have ho:∀(W:World) (o:Obj) {g:Nat} {cs:Array Value} {T:TypeId},Blk W g cs T->Blk (W.alloc o) g cs T:=fun W o _ _ _ h=>h.of (Below.heap_alloc _ _ _ h.lt);refine⟨ho _ _ (ho _ _ (ho _ _ (Blk.new w _ _))),ho _ _ (ho _ _ ?_),ho _ _ ?_,?_⟩
  · have:=Blk.new (w.alloc (.cells #[.string s] 9)) #[.func (.func 77) #[] #[]] 133
    rw[World.size_alloc]at this;exact this
  · have:=Blk.new ((w.alloc (.cells #[.string s] 9)).alloc (.cells #[.func (.func 77) #[] #[]] 133)) #[.int .i64 0,.nilFunc] 130
    rw[World.size_alloc,World.size_alloc]at this;exact this
  · have:=Blk.new (((w.alloc (.cells #[.string s] 9)).alloc (.cells #[.func (.func 77) #[] #[]] 133)).alloc gQ6) #[.int .i64 0,.nilFunc] 130
    rw[World.size_alloc,World.size_alloc,World.size_alloc]at this;exact this
theorem FourV.of {w W W':World}{s:ByteArray}(h:FourV w W s)(hk:∀k,w.heap.size<=k->k<w.heap.size+1+1+1+1->W'.heap[k]?=W.heap[k]?):FourV w W' s:=
  ⟨h.text.of (hk _ (by omega) (by omega)),h.read.of (hk _ (by omega) (by omega)),h.res.of (hk _ (by omega) (by omega)),h.non.of (hk _ (by omega) (by omega))⟩
theorem yQu (n f:Nat)(caps:Array Value)(w:World):Calls Tryz.prog 232 #[.agg #[.int .i64 n,.func (.func f) #[] caps]] w fun e w'=>e=.returned (.int .i64 n)/\Below w.heap.size w w':=by
  have hb:=A5 w (.cells #[.int .i64 n,.func (.func f) #[] caps] 130);have hx:Blk (w.alloc (.cells #[.int .i64 n,.func (.func f) #[] caps] 130)) w.heap.size #[.int .i64 n,.func (.func f) #[] caps] 130:=Blk.new w _ _;obtain⟨r0,r1,s0,s1⟩:=hx.two;clear hx;go_enter Tryz.func232,Tryz.ntmps232;go_wp2_with fail;go_ret;exact⟨rfl,hb⟩
theorem eQe (s:ByteArray):s.data.toList.length=s.size:=by simp
theorem cX8 (s:ByteArray)(hs:120<s.size)(hs2:s.size<=1048576)(w:World)(a0 a1 a2 a3:Addr)(hS:Sent w a0 a1 a2 a3) :
    Calls Tryz.prog 76 #[.string s,.func (.func 77) #[] #[]] w (aQs s a0 a1 a2 a3 w):=by
  have hd:(120:Int)<(s.size:Int):=by omega
  have hb4:Below w.heap.size w ((((w.alloc (.cells #[.string s] 9)).alloc (.cells #[.func (.func 77) #[] #[]] 133)).alloc (.cells #[.int .i64 0,.nilFunc] 130)).alloc (.cells #[.int .i64 0,.nilFunc] 130)):=bQf _ _ _ _ _;have hv4:FourV w ((((w.alloc (.cells #[.string s] 9)).alloc (.cells #[.func (.func 77) #[] #[]] 133)).alloc (.cells #[.int .i64 0,.nilFunc] 130)).alloc (.cells #[.int .i64 0,.nilFunc] 130)) s:=FourV.start w s;have c0:=(hS.below hb4).c0;have hgl:0<w.heap.size:=World.block_lt_of_cell? w _ hS.c0;have HC:Hid (CompIs s.data.toList 1):=.inl ⟨by rw[eQe];exact hs,rfl⟩;clear hS;go_enter Tryz.func76,Tryz.ntmps76;go_upto_region 3 with (fail);generalize ((((w.alloc (.cells #[.string s] 9)).alloc (.cells #[.func (.func 77) #[] #[]] 133)).alloc (.cells #[.int .i64 0,.nilFunc] 130)).alloc (.cells #[.int .i64 0,.nilFunc] 130))=W4 at *;obtain⟨r0,r1,s0,s1⟩:=hv4.res.two;obtain⟨n0,n1,m0,m1⟩:=hv4.non.two;have HP:Hid (aQs s a0 a1 a2 a3 w (.returned (.tuple #[.agg #[.int .i64 0,.nilFunc],D0 a0])) ((W4.setCell ⟨w.heap.size+1+1,0,none⟩ (.int .i64 0)).setCell ⟨w.heap.size+1+1,1,none⟩ .nilFunc).drew):=
    ⟨(Z7 hb4 (by omega) _ _).drew,.inr ⟨1,.inl rfl,HC.out,rfl⟩⟩
  clear hv4;go_region_held (fun w'=>w'.cell? ⟨0,0,none⟩=some (D0 a0)/\w'.cell? ⟨w.heap.size+1+1+1,0,none⟩=some (.int .i64 0)/\w'.cell? ⟨w.heap.size+1+1+1,1,none⟩=some .nilFunc) (first|assumption|(go_keep;done)|(refine dQ9 ?_ ?_ ?_ ?_ ?_<;>first|assumption|omega)) (fail)
  all_goals
    go_wp2_with fail;exact bodyPost_ret (v:=.tuple #[.agg #[.int .i64 0,.nilFunc],D0 a0]) (by simp[results,Tryz.results76,go_sem,r0,r1]) rfl HP.out
theorem cX9 (s:ByteArray)(hs:s.size<=120)(w:World)(a0 a1 a2 a3:Addr)(hS:Sent w a0 a1 a2 a3) :
    Calls Tryz.prog 76 #[.string s,.func (.func 77) #[] #[]] w (aQs s a0 a1 a2 a3 w):=by
  have hmf:∀(fn:Fn) (first cap:Array Value) (w:World),(Instr.makeFunc fn first cap).run Tryz.prog w=.ok (.func fn first cap) w:=fun _ _ _ _=>rfl;have hd:¬(120:Int)<(s.size:Int):=by omega
  have hne:∀w,(binOp .neq 80 (D0 a1) .nilIface).run Tryz.prog w=.ok (.bool true) w:=fun w=>by kernel_rfl
  have hnn:∀w,(binOp .neq 80 .nilIface .nilIface).run Tryz.prog w=.ok (.bool false) w:=fun w=>by kernel_rfl
  have hb4:Below w.heap.size w ((((w.alloc (.cells #[.string s] 9)).alloc (.cells #[.func (.func 77) #[] #[]] 133)).alloc (.cells #[.int .i64 0,.nilFunc] 130)).alloc (.cells #[.int .i64 0,.nilFunc] 130)):=bQf _ _ _ _ _;have hv4:FourV w ((((w.alloc (.cells #[.string s] 9)).alloc (.cells #[.func (.func 77) #[] #[]] 133)).alloc (.cells #[.int .i64 0,.nilFunc] 130)).alloc (.cells #[.int .i64 0,.nilFunc] 130)) s:=FourV.start w s;have HZ4:Hid (((((w.alloc (.cells #[.string s] 9)).alloc (.cells #[.func (.func 77) #[] #[]] 133)).alloc (.cells #[.int .i64 0,.nilFunc] 130)).alloc (.cells #[.int .i64 0,.nilFunc] 130)).heap.size=w.heap.size+1+1+1+1):=by show _=_;simp
  have HS:Hid (Sent w a0 a1 a2 a3):=hS;clear hS;go_enter Tryz.func76,Tryz.ntmps76;go_upto_region 4 with (fail);generalize ((((w.alloc (.cells #[.string s] 9)).alloc (.cells #[.func (.func 77) #[] #[]] 133)).alloc (.cells #[.int .i64 0,.nilFunc] 130)).alloc (.cells #[.int .i64 0,.nilFunc] 130))=W4 at *;obtain⟨n0,n1,m0,m1⟩:=hv4.non.two;have hx5:Blk (W4.alloc (.cells #[.int .i64 0,.nilFunc] 130)) W4.heap.size #[.int .i64 0,.nilFunc] 130:=Blk.new W4 _ _;obtain⟨p0,p1,p2,p3⟩:=hx5.two;have hb5:=A5 W4 (.cells #[.int .i64 0,.nilFunc] 130);have hv5:FourV w (W4.alloc (.cells #[.int .i64 0,.nilFunc] 130)) s:=hv4.of (fun k _ hk=>hb5.block k (by have:=HZ4.out;omega));have hbw5:=Below.join hb4 hb5;have HZ5:Hid ((W4.alloc (.cells #[.int .i64 0,.nilFunc] 130)).heap.size=W4.heap.size+1):=by show _=_;simp
  have HV5:Hid (FourV w (W4.alloc (.cells #[.int .i64 0,.nilFunc] 130)) s):=hv5;have HX5:Hid (Blk (W4.alloc (.cells #[.int .i64 0,.nilFunc] 130)) W4.heap.size #[.int .i64 0,.nilFunc] 130):=hx5;clear hv4 hv5 hx5;go_wp2_with fail;generalize W4.alloc (.cells #[.int .i64 0,.nilFunc] 130)=W5 at *;have hb6:=A5 W5 (.cells #[.nilIface] 80);have he6:(W5.alloc (.cells #[.nilIface] 80)).heap[W5.heap.size]?=some (.cells #[.nilIface] 80 (0,0)):=heap_alloc_new _ _;have hz6:(W5.alloc (.cells #[.nilIface] 80)).heap.size=W5.heap.size+1:=by simp
  have hdo:=cX6 s hs a1 w (W5.alloc (.cells #[.nilIface] 80)) w.heap.size W4.heap.size (Nat.le_refl _) (by have:=HZ4.out;omega) (Below.join hbw5 hb6) ⟨HV5.out.text.below hb6 HV5.out.text.lt,HV5.out.read.below hb6 HV5.out.read.lt,HX5.out.below hb6 HX5.out.lt⟩ HS.out.c1;have hca:=iQm 101 _ (fun w=>by kernel_rfl) W5 _ hdo (fun e w' hq=>⟨by rw[hq.1 _ (by omega) (by have:=HZ5.out;omega)];exact he6,by
    rcases hq.2.2.2 with⟨l,f,caps,_,_,_,h,_⟩|⟨_,h⟩
    · exact .inl h
    · exact .inr ⟨a1,h⟩⟩)
  clear hdo p0 p1 p2 p3 n0 n1 m0 m1;refine hca.mono ?_;clear hca;rintro e w2 ⟨e1,w1,hq,hcase⟩;obtain⟨hk,hb1,hz1,hq4⟩:=hq;rcases hq4 with⟨l,f,caps,hpr,hok,hcn,rfl,hwh,hpl⟩|⟨hpr,rfl⟩
  · rcases hcase with⟨_,rfl,rfl⟩|⟨a,h,_⟩
    rotate_left
    · cases h
    have hwh2:Blk (w1.setCell ⟨W5.heap.size,0,none⟩ .nilIface) W4.heap.size #[.int .i64 (Ls.dXw l),.func (.func f) #[] caps] 130:=hwh.of (Below.heap_setCell _ _ _ _ (by show W4.heap.size≠W5.heap.size;have:=HZ5.out;omega));have hv2:FourV w (w1.setCell ⟨W5.heap.size,0,none⟩ .nilIface) s:=HV5.out.of (fun k _ hk2=>by
      have h4:=HZ4.out;have h5:=HZ5.out;rw[Below.heap_setCell _ _ _ _ (by show k≠W5.heap.size;omega),hk k (by omega) (by omega)];exact hb6.block k (by omega))
    have hb2:Below w.heap.size w (w1.setCell ⟨W5.heap.size,0,none⟩ .nilIface):=hb1.setCell (p:=⟨W5.heap.size,0,none⟩) (by show w.heap.size<=W5.heap.size;exact hbw5.size) _;have hp2:PlanV (w1.setCell ⟨W5.heap.size,0,none⟩ .nilIface) (fun k=>w.heap.size+1+1<k/\k<(w1.setCell ⟨W5.heap.size,0,none⟩ .nilIface).heap.size) l (.func (.func f) #[] caps):=PlanV.mono (fun k hk=>⟨by have:=hk.1;have:=HZ4.out;have:=HZ5.out;omega,by have:=hk.2;simp[World.setCell];exact this⟩) (fun k hk=>Below.heap_setCell _ _ _ _ (by show k≠W5.heap.size;have:=hk.1;omega)) _ _ hpl;have HPR:Hid (E2 s.data.toList=some l/\Ls.OkL 120 l/\cn l<=30000):=⟨hpr,hok,hcn⟩;clear hk hb1 hz1 hwh hpl hpr hok hcn;generalize w1.setCell ⟨W5.heap.size,0,none⟩ .nilIface=w2 at *;obtain⟨q0,q1,q2,q3⟩:=hwh2.two;obtain⟨r0,r1,s0,s1⟩:=hv2.res.two;obtain⟨n0,n1,m0,m1⟩:=hv2.non.two;have HP2:Hid (PlanV w2 (fun k=>w.heap.size+1+1<k/\k<w2.heap.size) l (.func (.func f) #[] caps)):=hp2;have HWH:Hid (Blk w2 W4.heap.size #[.int .i64 (Ls.dXw l),.func (.func f) #[] caps] 130):=hwh2;have HV2:Hid (FourV w w2 s):=hv2;clear hp2 hwh2 hv2;go_wp2_with fail;refine(yQu (Ls.dXw l) f caps w2).mono ?_;rintro e w3 ⟨rfl,hb3⟩;have hbw3:=Below.join hb2 hb3;have hv3:=HV2.out.of (fun k _ hk=>hb3.block k (Nat.lt_of_lt_of_le hk (by have:=HV2.out.non.lt;omega)));have hwh3:=HWH.out.below hb3 HWH.out.lt;clear q0 q1 q2 q3 r0 r1 s0 s1 n0 n1 m0 m1;obtain⟨q0,q1,q2,q3⟩:=hwh3.two;obtain⟨r0,r1,s0,s1⟩:=hv3.res.two;obtain⟨n0,n1,m0,m1⟩:=hv3.non.two;have c2:=(HS.out.below hbw3).c2;have hgl:1<w.heap.size:=World.block_lt_of_cell? w _ HS.out.c2;clear hwh3 hv3
    by_cases h24:24<Ls.dXw l
    · have hd2:(24:Int)<(Ls.dXw l:Int):=by omega
      have HC:Hid (CompIs s.data.toList 3):=.inr ⟨by rw[eQe];exact hs,.inr ⟨l,HPR.out.1,.inl ⟨h24,rfl⟩⟩⟩;have HP:Hid (aQs s a0 a1 a2 a3 w (.returned (.tuple #[.agg #[.int .i64 0,.nilFunc],D0 a2])) ((w3.setCell ⟨w.heap.size+1+1,0,none⟩ (.int .i64 0)).setCell ⟨w.heap.size+1+1,1,none⟩ .nilFunc).drew):=
        ⟨(Z7 hbw3 (by omega) _ _).drew,.inr ⟨3,.inr (.inr rfl),HC.out,rfl⟩⟩
      go_wp2_with fail;go_region_held (fun w'=>w'.cell? ⟨1,0,none⟩=some (D0 a2)/\w'.cell? ⟨w.heap.size+1+1+1,0,none⟩=some (.int .i64 0)/\w'.cell? ⟨w.heap.size+1+1+1,1,none⟩=some .nilFunc) (first|assumption|(go_keep;done)|(refine dQ9 ?_ ?_ ?_ ?_ ?_<;>first|assumption|omega)) (fail)
      all_goals
        go_wp2_with fail;exact bodyPost_ret (v:=.tuple #[.agg #[.int .i64 0,.nilFunc],D0 a2]) (by simp[results,Tryz.results76,go_sem,r0,r1]) rfl HP.out
    · have hd2:¬(24:Int)<(Ls.dXw l:Int):=by omega
      have HP:Hid (aQs s a0 a1 a2 a3 w (.returned (.tuple #[C5 (Ls.dXw l) (.func (.func f) #[] caps),.nilIface])) ((w3.setCell ⟨w.heap.size+1+1,0,none⟩ (.int .i64 (Ls.dXw l))).setCell ⟨w.heap.size+1+1,1,none⟩ (.func (.func f) #[] caps))):=by
        refine⟨Z7 hbw3 (by omega) _ _,.inl ⟨l,f,caps,by rw[eQe];exact hs,HPR.out.1,HPR.out.2.1,HPR.out.2.2,by omega,rfl,PlanV.mono (fun k hk=>⟨by have:=hk.1;omega,by rw[U5];exact Nat.lt_of_lt_of_le hk.2 hb3.size⟩) (fun k hk=>?_) _ _ HP2.out⟩⟩;rw[K6 _ _ _ _ _ (by have:=hk.1;omega)];exact hb3.block k hk.2
      go_wp2_with fail;exact bodyPost_ret (v:=.tuple #[C5 (Ls.dXw l) (.func (.func f) #[] caps),.nilIface]) (by simp[results,Tryz.results76,go_sem,r0,r1]) rfl HP.out
  · rcases hcase with⟨h,_⟩|⟨a,h,rfl,rfl⟩
    · cases h
    injection h with h;injection h with h;injection h with h;injection h with h h';injection h' with h';injection h' with h';subst h';have HC:Hid (CompIs s.data.toList 2):=.inr ⟨by rw[eQe];exact hs,.inl ⟨hpr,rfl⟩⟩;have hv2:FourV w (w1.setCell ⟨W5.heap.size,0,none⟩ (D0 a1)) s:=HV5.out.of (fun k _ hk2=>by
      have h4:=HZ4.out;have h5:=HZ5.out;rw[Below.heap_setCell _ _ _ _ (by show k≠W5.heap.size;omega),hk k (by omega) (by omega)];exact hb6.block k (by omega))
    have hb2:Below w.heap.size w (w1.setCell ⟨W5.heap.size,0,none⟩ (D0 a1)):=hb1.setCell (p:=⟨W5.heap.size,0,none⟩) (by show w.heap.size<=W5.heap.size;exact hbw5.size) _;clear hk hb1 hz1 hpr;generalize w1.setCell ⟨W5.heap.size,0,none⟩ (D0 a1)=w2 at *;obtain⟨r0,r1,s0,s1⟩:=hv2.res.two;obtain⟨n0,n1,m0,m1⟩:=hv2.non.two;clear hv2;have HP:Hid (aQs s a0 a1 a2 a3 w (.returned (.tuple #[.agg #[.int .i64 0,.nilFunc],D0 a1])) ((w2.setCell ⟨w.heap.size+1+1,0,none⟩ (.int .i64 0)).setCell ⟨w.heap.size+1+1,1,none⟩ .nilFunc)):=
      ⟨Z7 hb2 (by omega) _ _,.inr ⟨2,.inr (.inl rfl),HC.out,rfl⟩⟩
    go_wp2_with fail;exact bodyPost_ret (v:=.tuple #[.agg #[.int .i64 0,.nilFunc],D0 a1]) (by simp[results,Tryz.results76,go_sem,r0,r1]) rfl HP.out
theorem cX7 (s:ByteArray)(hs:s.size<=1048576)(w:World)(a0 a1 a2 a3:Addr)(hS:Sent w a0 a1 a2 a3) :
    Calls Tryz.prog 76 #[.string s,.func (.func 77) #[] #[]] w (aQs s a0 a1 a2 a3 w):=by
  by_cases h:120<s.size
  · exact cX8 s h hs w a0 a1 a2 a3 hS
  · exact cX9 s (by omega) w a0 a1 a2 a3 hS
end Go.Proofs.YtfklinjaajafgaaGreatDoor
