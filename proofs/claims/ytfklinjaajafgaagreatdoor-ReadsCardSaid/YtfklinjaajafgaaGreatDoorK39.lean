import Derived.Test.YtfklinjaajafgaaGreatDoorK37
import Derived.Test.YtfklinjaajafgaaGreatDoorK03
set_option maxRecDepth 100000
set_option maxHeartbeats 4000000
namespace Go.Proofs.YtfklinjaajafgaaGreatDoor
open Go.RowKit
variable (s:ByteArray)(w:World)
theorem dQ2:(l:Ls.Ln)->Ls.OkL 120 l->K7 l->L0 l
 | ⟨k,p,w,[]⟩,h,hw=>by
  rw[Ls.OkL]at h;rw[K7]at hw;rcases h.2 with rfl|rfl|rfl
  ·exact pQm p w
  ·exact pQn p w hw (by have:=h.1.1;simpa [Ls.eX8] using this)
  ·exact pQo p w
 | ⟨k,p,w,[a]⟩,h,hw=>by
  rw[Ls.OkL]at h;rw[K7]at hw;have ha:=dQ2 a h.2.2 hw;rcases h.2.1 with rfl|rfl
  ·exact pQs p w a ha (G6 a h.2.2) (G9 a h.2.2 hw) (h.2.2.src) (h.2.2.view)
  ·exact pQt p w a ha (G6 a h.2.2) (G9 a h.2.2 hw) (h.2.2.src) (h.2.2.view)
 | ⟨k,p,w,[a,b]⟩,h,hw=>by
  rw[Ls.OkL]at h;rw[K7]at hw;have c:=h.2.2.1;have d:=h.2.2.2;have ha:=dQ2 a c hw.1;have e:=dQ2 b d hw.2;rcases h.2.1 with rfl|rfl|rfl
  ·exact pQp p w a b ha e (G6 a c) (G6 b d) (G9 a c hw.1) (G9 b d hw.2) c.src d.src c.view d.view
  ·exact pQq p w a b ha e (G6 a c) (G6 b d) (G9 a c hw.1) (G9 b d hw.2) c.src d.src c.view d.view
  ·exact pQr p w a b ha e (G6 a c) (G6 b d) c.src d.src
 | ⟨k,p,w,_::_::_::_⟩,h,_=>by simp[Ls.OkL]at h
def fQ5 (s:ByteArray)(w:World):Ending->World->Prop:=fun e w'=>
 ∃k p ws y1 y2 y3 x1 x2 x3 r,e=.returned (.tuple #[E0 k p ws (.slice y1 y2 y3) (.slice x1 x2 x3),.int .i64 (r:Nat)])/\CompIs s.data.toList r/\Bw w w'/\
  (r=0->∃l,E6 s.data.toList=some l/\l.kind=k/\Ls.eX5 l.p=p/\l.w=ws/\NV w' (B8 w w') l (.slice y1 y2 y3) (.slice x1 x2 x3))
theorem cQp {w W:World}(h:Bw w W)(k:Nat)(p:Ls.Pat)(a:List UInt8)(y x:Value):Bw w (set6 W w.heap.size k p a y x):=
 (((((h.setCell (Nat.le_refl _) _).setCell (Nat.le_refl _) _).setCell (Nat.le_refl _) _).setCell (Nat.le_refl _) _).setCell (Nat.le_refl _) _).setCell (Nat.le_refl _) _
theorem sQ7 (h:(120:Int)<(s.size:Int)):Calls Tryz.prog 19 #[.string s] w (fQ5 s w):=by
 have b:=A5 w (B7 0 Ls.none [] (.slice none 0 0) (.slice none 0 0));have a:Hid (CompIs s.data.toList 1):=.inl ⟨by rw[Array.length_toList];show 120<s.size;omega,rfl⟩;go_enter Tryz.func19,Tryz.ntmps19;go_wp2_with fail;exact bodyPost_ret (v:=.tuple #[E0 0 Ls.none [] (.slice none 0 0) (.slice none 0 0),Iv 1]) (by simp[results,Tryz.results19,go_sem,Ls.none]) rfl ⟨0,Ls.none,[],none,0,0,none,0,0,1,rfl,a.out,b,fun h=>(by cases h)⟩
theorem sQ8 (hs:s.size<=120):Calls Tryz.prog 19 #[.string s] w (fQ5 s w):=by
 have hd:¬(120:Int)<(s.size:Int):=by omega
 have I:s.data.toList.length<=120:=by rw[Array.length_toList];exact hs
 have a6:=C6 w (B7 0 Ls.none [] (.slice none 0 0) (.slice none 0 0)) (.cells #[.string s,Iv (0:Nat),Iv (0:Nat),.bool false] 62);have a4:PB ((w.alloc (B7 0 Ls.none [] (.slice none 0 0) (.slice none 0 0))).alloc (.cells #[.string s,Iv (0:Nat),Iv (0:Nat),.bool false] 62)) (w.heap.size+1) s 0 0 false:=by
  have:=heap_alloc_new (w.alloc (B7 0 Ls.none [] (.slice none 0 0) (.slice none 0 0))) (.cells #[.string s,Iv (0:Nat),Iv (0:Nat),.bool false] 62);rw[World.size_alloc]at this;exact this
 have b0:LiesL ((w.alloc (B7 0 Ls.none [] (.slice none 0 0) (.slice none 0 0))).alloc (.cells #[.string s,Iv (0:Nat),Iv (0:Nat),.bool false] 62)) w.heap.size cQj:=(N5 w 0 Ls.none [] (.slice none 0 0) (.slice none 0 0)).of_block (Below.heap_alloc _ _ _ (by simp));have hL:aQn s 0:=kQ9 s (by omega) 13 (Nat.le_refl _);have hC:Ca 46 #[.pointer (some ⟨w.heap.size+1,0,none⟩),Iv 0] _ _:=hL (w.heap.size+1) 0 0 _ a4 (Nat.zero_le _) (by omega);have a1:Hid (LiesL ((w.alloc (B7 0 Ls.none [] (.slice none 0 0) (.slice none 0 0))).alloc (.cells #[.string s,Iv (0:Nat),Iv (0:Nat),.bool false] 62)) w.heap.size cQj):=b0;have Y:Hid _:=a6;clear a4 b0 hL a6;go_enter Tryz.func19,Tryz.ntmps19;go_wp2_with fail;refine hC.mono ?_;rintro b6 i a9;obtain⟨k,p,g,d,e,f,a,b,c,W,X,a3,rfl,c4,c5,c7,H,a7⟩:=a9.mid (fun l d0 n=>Ls.gXx _ _ _ _ n) (Nat.zero_le _);clear a9 hC;have b9:=H.grown.size;simp at b9;have b7:Bw w i:=Y.out.grown H.grown (by simp;omega) (fun j m=>by cases m;omega);have F:=A5 i (B7 k p g (.slice d e f) (.slice a b c));have P:=H.lies.below F;have q:=(a1.out.of_block (H.block (by simp;omega) (by omega))).of_block (F.block _ (by omega));have U:=N5 i k p g (.slice d e f) (.slice a b c);have J:Hid (Bw w (i.alloc (B7 k p g (.slice d e f) (.slice a b c)))):=Bj b7 F;have B:Hid (CaseL (i.alloc (B7 k p g (.slice d e f) (.slice a b c))) (fun j=>w.heap.size+2<=j/\j<i.heap.size) (Ls.fXa 13 (rest s 0)) s 0 W X a3 k p g (.slice d e f) (.slice a b c)):=a7.mono (fun j m=>⟨⟨by have:=m.1;simp at this;exact this,m.2⟩,F.block j m.2⟩);have c8:(i.alloc (B7 k p g (.slice d e f) (.slice a b c))).heap.size=i.heap.size+1:=by simp
 clear a7 H F a1 Y;go_upto_region 5 with (fail);generalize i.alloc (B7 k p g (.slice d e f) (.slice a b c))=C at *;obtain⟨t,u,x,y,z,A⟩:=q.six;obtain⟨l0,l1,l2,l3,l4,l5⟩:=U.six;have g0:=q.fr 0;have g1:=q.fr 1;have g2:=q.fr 2;have g3:=q.fr 3;have g4:=q.fr 4;have g5:=q.fr 5;have k1:=P.c1;have k2:=P.c2;have k3:=P.c3;have b5:Hid (LiesL C w.heap.size cQj):=q;have b2:Hid (LiesL C i.heap.size [Iv k,Iv p.kind,Sv p.signs,.slice d e f,Sv g,.slice a b c]):=U;clear q U P;cases a3 with
 | true=>
  have o:Hid (CompIs s.data.toList 2):=by
   rcases B.out with⟨_,n⟩|⟨E,_⟩
   ·exact .inr ⟨I,.inl ⟨mQo n,rfl⟩⟩
   ·cases E
  go_wp2_with fail;exact bodyPost_ret (v:=.tuple #[E0 0 Ls.none [] (.slice none 0 0) (.slice none 0 0),Iv 2]) (by simp[results,Tryz.results19,go_sem,t,u,x,y,z,A,Ls.none]) rfl ⟨0,Ls.none,[],none,0,0,none,0,0,2,rfl,o.out,cQp J.out 0 Ls.none [] (.slice none 0 0) (.slice none 0 0),fun h=>(by cases h)⟩
 | false=>
  by_cases a5:W=s.size
  ·subst a5
   have b8:((s.size:Int) != (s.size:Int))=false:=by simp
   obtain⟨l,n,K,L,M,e4,_,O⟩:∃l,Ls.fXa 13 (rest s 0)=some (l,rest s s.size)/\l.kind=k/\Ls.eX5 l.p=p/\l.w=g/\X=0+Ls.eX7 l/\s.size<=s.size/\NV C (fun j=>w.heap.size+2<=j/\j<i.heap.size) l (.slice d e f) (.slice a b c):=by
    rcases B.out with⟨E,_⟩|⟨_,h⟩
    ·cases E
    ·exact h
   have Q:=mQp n
   by_cases c0:(24:Int)<(X:Int)
   ·have o:Hid (CompIs s.data.toList 3):=.inr ⟨I,.inr ⟨l,Q,.inl ⟨by omega,rfl⟩⟩⟩
    clear n K L M e4 O Q B;go_wp2_with fail;exact bodyPost_ret (v:=.tuple #[E0 0 Ls.none [] (.slice none 0 0) (.slice none 0 0),Iv 3]) (by simp[results,Tryz.results19,go_sem,t,u,x,y,z,A,Ls.none]) rfl ⟨0,Ls.none,[],none,0,0,none,0,0,3,rfl,o.out,cQp J.out 0 Ls.none [] (.slice none 0 0) (.slice none 0 0),fun h=>(by cases h)⟩
   ·have V:=Ls.mXa n (by rw[F4];omega)
    have N:=dQ2 l V (aQk l 120 V (by omega)) (.slice d e f) (.slice a b c) C (fun j=>w.heap.size+2<=j/\j<i.heap.size) (fun j m=>by have:=m.2;omega) O;unfold F0 at N;rw[K,L,M]at N;have S:Hid (l.kind=k/\Ls.eX5 l.p=p/\l.w=g):=⟨K,L,M⟩;have a0:Hid (NV C (fun j=>w.heap.size+2<=j/\j<i.heap.size) l (.slice d e f) (.slice a b c)):=O;have T:Hid (E6 s.data.toList=some l):=Q;have HZ:Hid (Ls.eX7 l<=24):=by show _<=_;omega
    clear n K L M e4 O Q B V;go_wp2_with fail;refine N.mono ?_;rintro b6 R ⟨tb,rfl,b1,G⟩;have c9:=G.size;have r:=b5.out.of_block (G.block _ (by omega));have a8:=b2.out.of_block (G.block _ (by omega));have Z:Hid (Bw w R):=Bj J.out G;have b4:Hid (NV R (fun j=>w.heap.size+2<=j/\j<i.heap.size) l (.slice d e f) (.slice a b c)):=a0.out.below G (fun j m=>by have:=m.2;omega) (fun _ h=>h);have a2:Hid (tb=true↔B5 l):=b1;clear t u x y z A l0 l1 l2 l3 l4 l5 g0 g1 g2 g3 g4 g5 k1 k2 k3 N b1 a0;obtain⟨t,u,x,y,z,A⟩:=r.six;obtain⟨l0,l1,l2,l3,l4,l5⟩:=a8.six;have g0:=r.fr 0;have g1:=r.fr 1;have g2:=r.fr 2;have g3:=r.fr 3;have g4:=r.fr 4;have g5:=r.fr 5;clear r a8;cases tb with
    | false=>
     have o:Hid (CompIs s.data.toList 4):=.inr ⟨I,.inr ⟨l,T.out,.inr ⟨HZ.out,.inl ⟨fun h=>(by have:=a2.out.2 h;cases this),rfl⟩⟩⟩⟩;go_wp2_with fail;exact bodyPost_ret (v:=.tuple #[E0 0 Ls.none [] (.slice none 0 0) (.slice none 0 0),Iv 4]) (by simp[results,Tryz.results19,go_sem,t,u,x,y,z,A,Ls.none]) rfl ⟨0,Ls.none,[],none,0,0,none,0,0,4,rfl,o.out,cQp Z.out 0 Ls.none [] (.slice none 0 0) (.slice none 0 0),fun h=>(by cases h)⟩
    | true=>
     have o:Hid (CompIs s.data.toList 0):=.inr ⟨I,.inr ⟨l,T.out,.inr ⟨HZ.out,.inr ⟨a2.out.1 rfl,rfl⟩⟩⟩⟩;have b3:Hid (NV (set6 R w.heap.size k p g (.slice d e f) (.slice a b c)) (B8 w (set6 R w.heap.size k p g (.slice d e f) (.slice a b c))) l (.slice d e f) (.slice a b c)):=NV.mono (fun j m=>⟨⟨by omega,by rw[iQg];have:=m.2;omega⟩,fQo _ _ _ _ _ _ _ _ (by omega)⟩) _ _ _ b4.out;go_wp2_with fail;exact bodyPost_ret (v:=.tuple #[E0 k p g (.slice d e f) (.slice a b c),Iv 0]) (by simp[results,Tryz.results19,go_sem,t,u,x,y,z,A]) rfl ⟨k,p,g,d,e,f,a,b,c,0,rfl,o.out,cQp Z.out k p g (.slice d e f) (.slice a b c),fun _=>⟨l,T.out,S.out.1,S.out.2.1,S.out.2.2,b3.out⟩⟩
  ·have b8:((W:Int) != (s.size:Int))=true:=by rw[bne_iff_ne];omega
   have o:Hid (CompIs s.data.toList 2):=by
    rcases B.out with⟨E,_⟩|⟨_,l,n,_,_,_,_,c6,_⟩
    ·cases E
    ·exact .inr ⟨I,.inl ⟨mQn n (by omega),rfl⟩⟩
   clear a5 B;go_wp2_with fail;exact bodyPost_ret (v:=.tuple #[E0 0 Ls.none [] (.slice none 0 0) (.slice none 0 0),Iv 2]) (by simp[results,Tryz.results19,go_sem,t,u,x,y,z,A,Ls.none]) rfl ⟨0,Ls.none,[],none,0,0,none,0,0,2,rfl,o.out,cQp J.out 0 Ls.none [] (.slice none 0 0) (.slice none 0 0),fun h=>(by cases h)⟩
theorem bQz:Calls Tryz.prog 19 #[.string s] w (fQ5 s w):=by
 by_cases h:120<s.size
 ·exact sQ7 s w (by omega)
 ·exact sQ8 s w (by omega)
end Go.Proofs.YtfklinjaajafgaaGreatDoor
