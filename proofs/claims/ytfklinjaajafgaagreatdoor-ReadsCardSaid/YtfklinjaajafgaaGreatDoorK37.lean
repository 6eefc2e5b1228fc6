import Derived.Test.YtfklinjaajafgaaGreatDoorK35
set_option maxRecDepth 100000
set_option maxHeartbeats 4000000
namespace Go.Proofs.YtfklinjaajafgaaGreatDoor
open Go.RowKit
variable (p:Ls.D)(ws:List UInt8)(a b:Ls.Ln)
theorem pQp (ha:L0 a)(hb:L0 b)(f5:D8 a)(f6:D8 b)(f7:D7 a)(f8:D7 b)(d1:Ls.BdL 120 (Ls.eX8 a))(d2:Ls.BdL 120 (Ls.eX8 b))(d3:Ls.BdL 120 (Ls.eX6 a))(d4:Ls.BdL 120 (Ls.eX6 b)):L0 ⟨3,p,ws,[a,b]⟩:=by
 intro l9 l0 w G hG h;rw[NV]at h;obtain⟨hv,g,v1,u1,v2,u2,hg,rfl,e2,e3,e4⟩:=h;obtain⟨y1,y2,y3,rfl⟩:=PV.slice _ _ hv;obtain⟨⟨t,u,v,rfl⟩,X,Y,Z,rfl⟩:=NV.slices _ _ _ e3;obtain⟨⟨x,y,z,rfl⟩,B,C,E,rfl⟩:=NV.slices _ _ _ e4;have g1:=hG g hg;have HF:Hid (B5 ⟨3,p,ws,[a,b]⟩↔B5 a/\B5 b/\¬Ls.fXb (Ls.eX8 a) (Ls.eX8 b)/\¬Ls.fXb (Ls.eX6 a) (Ls.eX6 b)):=by
  show _↔_;rw[B5];simp
 generalize B5 ⟨3,p,ws,[a,b]⟩=b8 at *;have c0:=A5 w (lo 3 p ws y1 y2 y3 g 2);have c5:Hid (∀W,Bw w W->NV W G a (.slice t u v) (.slice X Y Z)):=fun W f=>e3.below f (fun j c=>hG j c) (fun _ h=>h);have c6:Hid (∀W,Bw w W->NV W G b (.slice x y z) (.slice B C E)):=fun W f=>e4.below f (fun j c=>hG j c) (fun _ h=>h);have m:Hid (∀W,Bw w W->Old W G):=fun W f j c=>Ll (hG j c) f.size;have h5:Hid (∀W,Bw w W->LiesL W g (E4 a (.slice t u v) (.slice X Y Z)++E4 b (.slice x y z) (.slice B C E))):=fun W f=>e2.of_block (f.block g g1);have b9:Hid (∀W,Below (w.alloc (lo 3 p ws y1 y2 y3 g 2)).heap.size (w.alloc (lo 3 p ws y1 y2 y3 g 2)) W->LiesL W w.heap.size [Iv (3:Nat),Iv (Ls.eX5 p).kind,.string ⟨(Ls.eX5 p).signs.toArray⟩,.slice y1 y2 y3,Sv ws,Sl g 2 2]):=fun W f=>(N5 w 3 (Ls.eX5 p) ws (.slice y1 y2 y3) (Sl g 2 2)).of_block (f.block _ (by simp));have b1:Hid (∀d,Bw w d->Below (w.alloc (lo 3 p ws y1 y2 y3 g 2)).heap.size (w.alloc (lo 3 p ws y1 y2 y3 g 2)) d->Ce d w.heap.size 5 (Sl g 2 2)/\tw d g a b t u v X Y Z x y z B C E):=fun d h1 h2=>by
  have l1:=b9.out d h2;have l2:=h5.out d h1;exact⟨l1.cell 5,l2.tw⟩
 have hC:=ha _ _ _ G (m.out _ c0) (c5.out _ c0);obtain⟨-,a0,a1,a2,a3,a4,a5,a6,a7,a8,a9,i6,i7⟩:True/\tw w g a b t u v X Y Z x y z B C E:=by
  have l2:=e2;exact⟨trivial,l2.tw⟩
 have h6:Hid (D8 a):=f5;have h7:Hid (D8 b):=f6;have i0:Hid (L0 b):=hb;have i1:Hid (D7 a):=f7;have i2:Hid (D7 b):=f8;have g9:Hid _:=c0;clear hv e3 e4 e2 c0 f5 f6 f7 f8 ha hb;go_enter Tryz.func47,Tryz.ntmps47;go_wp2_with fail;refine wp_loop_rounds 3 ?_;rw[rounds_succ];go_wp2_with fail;refine hC.mono ?_;rintro e w2 ⟨ta,rfl,g6,c1⟩;have b5:=Bj g9.out c1;obtain⟨A,K,L,O,P,Q,R,S,T,U,V,M,N⟩:=b1.out w2 b5 c1;have c7:Hid (ta=true↔B5 a):=g6;have e0:=(b9.out w2 c1).cell 0;clear a0 a1 a2 a3 a4 a5 a6 a7 a8 a9 i6 i7 hC g6;cases ta with
 | false=>
  have HN:Hid (¬b8):=fun h=>by have:=c7.out.2 (HF.out.1 h).1;cases this
  go_wp2_with fail;go_ret;exact⟨false,rfl,⟨fun h=>(by cases h),fun h=>absurd h HN.out⟩,b5⟩
 | true=>
  have h8:Hid (B5 a):=c7.out.1 rfl;have f1:=i0.out _ _ w2 G (m.out _ b5) (c6.out _ b5);clear c7;go_wp2_with fail;rw[rounds_succ];go_wp2_with fail;refine f1.mono ?_;rintro e s ⟨tb,rfl,g7,g0⟩;have c2:=Bj c1 g0;have F:=Bj b5 g0;have c8:Hid (tb=true↔B5 b):=g7;clear A K L O P Q R S T U V M N f1 g7 e0;have g5:=b1.out s F c2;have j7:Hid _:=g5;obtain⟨A,K,L,O,P,Q,R,S,T,U,V,M,N⟩:=g5;have e0:=(b9.out s c2).cell 0;cases tb with
  | false=>
   have HN:Hid (¬b8):=fun h=>by have:=c8.out.2 (HF.out.1 h).2.1;cases this
   go_wp2_with fail;go_ret;exact⟨false,rfl,⟨fun h=>(by cases h),fun h=>absurd h HN.out⟩,F⟩
  | true=>
   have h9:Hid (B5 b):=c8.out.1 rfl;clear c8;have i4:Hid (∀W,Bw s W->Ca 51 #[(E1 a t u v X Y Z)] W fun e d=>∃i k l,e=.returned (.agg #[Iv (Ls.eX8 a).kind,.string ⟨(Ls.eX8 a).signs.toArray⟩,.slice i k l])/\Bw W d/\∀q,Bw d q->PV q (fun j=>G j\/(w.heap.size<=j/\j<q.heap.size)) (Ls.eX8 a) (.slice i k l)):=by
    intro W f;have r:=Bj F f;refine(h6.out _ _ W G (m.out _ r) (c5.out _ r)).mono ?_;rintro e d ⟨j4,rfl,hx,b7⟩;obtain⟨i,k,l,rfl⟩:=PV.slice _ _ hx;refine⟨i,k,l,rfl,b7,fun q b2=>hx.below b2 (fun j c=>?_) (fun j c=>?_)⟩
    ·rcases c with c|c
     ·exact m.out _ (Bj r b7) j c
     ·exact c.2
    ·rcases c with c|c
     ·exact .inl c
     ·exact .inr ⟨Lq r.size c.1,Ll c.2 b2.size⟩
   have i5:Hid (∀W,Bw s W->Ca 51 #[(E1 b x y z B C E)] W fun e d=>∃i k l,e=.returned (.agg #[Iv (Ls.eX8 b).kind,.string ⟨(Ls.eX8 b).signs.toArray⟩,.slice i k l])/\Bw W d/\∀q,Bw d q->PV q (fun j=>G j\/(w.heap.size<=j/\j<q.heap.size)) (Ls.eX8 b) (.slice i k l)):=by
    intro W f;have r:=Bj F f;refine(h7.out _ _ W G (m.out _ r) (c6.out _ r)).mono ?_;rintro e d ⟨j4,rfl,hx,b7⟩;obtain⟨i,k,l,rfl⟩:=PV.slice _ _ hx;refine⟨i,k,l,rfl,b7,fun q b2=>hx.below b2 (fun j c=>?_) (fun j c=>?_)⟩
    ·rcases c with c|c
     ·exact m.out _ (Bj r b7) j c
     ·exact c.2
    ·rcases c with c|c
     ·exact .inl c
     ·exact .inr ⟨Lq r.size c.1,Ll c.2 b2.size⟩
   have g8:Hid (∀W i k l z1 z2 z3,Bw s W->PV W (fun j=>G j\/(w.heap.size<=j/\j<W.heap.size)) (Ls.eX8 a) (.slice i k l)->PV W (fun j=>G j\/(w.heap.size<=j/\j<W.heap.size)) (Ls.eX8 b) (.slice z1 z2 z3)->Ca 16 #[B4 (Ls.eX8 a) (.slice i k l),B4 (Ls.eX8 b) (.slice z1 z2 z3)] W (Y2 W (¬Ls.fXb (Ls.eX8 a) (Ls.eX8 b)))):=by
    intro W i k l z1 z2 z3 f h1 h2;exact dQc _ _ W _ _ _ d1 d2 (by omega) (by omega) (fun j c=>by
     rcases c with c|c
     ·exact m.out _ (Bj F f) j c
     ·exact c.2) h1 h2
   have b0:Hid (∀d,Bw s d->Ce d w.heap.size 5 (Sl g 2 2)/\tw d g a b t u v X Y Z x y z B C E):=fun d h1=>b1.out d (Bj F h1) (Bj c2 h1);go_wp2_with fail;rw[rounds_succ];go_wp2_with fail;go_region_held (fun d=>Ce d w.heap.size 5 (Sl g 2 2)/\tw d g a b t u v X Y Z x y z B C E) (first|assumption|exact b0.out _ Br.drew|exact b0.out _ o|go_keep)
    (first
     | (go_at_call_of 51 a.kind;refine(i4.out _ ?_).mono ?_;(first|exact Br.drew|exact o);rintro e wa ⟨l3,l4,l5,rfl,d5,hA⟩;have o:Bw s wa:=(by first|exact Bj Br.drew d5|exact Bj o d5);have k5:=b0.out wa o)
     | (go_at_call_of 51 b.kind;refine(i5.out _ ?_).mono ?_;(first|exact Br.drew|exact o);rintro e wb ⟨l6,l7,l8,rfl,d6,hB⟩;have o:Bw s wb:=(by first|exact Bj Br.drew d6|exact Bj o d6);have k6:=b0.out wb o)
     | (go_at_call 16;refine(g8.out _ _ _ _ _ _ _ o (hA _ ?_) (hB _ ?_)).mono ?_;(first|exact Br|exact d6);(first|exact Br|exact d5);rintro e w4 ⟨ob,rfl,g3,i8⟩;have d9:Bw s w4:=Bj o i8;have j2:=b0.out w4 d9))
   all_goals
    have b6:=Bj F d9;have f9:=Bj c2 d9;have e9:Hid (ob=true↔¬Ls.fXb (Ls.eX8 a) (Ls.eX8 b)):=g3;have f2:=i1.out _ _ w4 G (m.out _ b6) (c5.out _ b6);clear g3 hA hB A K L O P Q R S T U V M N e0 j2;obtain⟨A,K,L,O,P,Q,R,S,T,U,V,M,N⟩:=b1.out w4 b6 f9;go_wp2_with fail;refine f2.mono ?_;rintro e n ⟨v5,rfl,e5,d0⟩;obtain⟨H,I,J,rfl⟩:=PV.slice _ _ e5;have k9:=d0.size;have c4:=Bj b6 d0;have c9:=Bj f9 d0;have c3:=A5 n (C1 (Ls.eX6 a) (.slice H I J));have d7:=Bj c4 c3;have f3:=i2.out _ _ (n.alloc (C1 (Ls.eX6 a) (.slice H I J))) G (m.out _ d7) (c6.out _ d7);have g2:=C7 n (C2 (Ls.eX6 a) (.slice H I J));clear A K L O P Q R S T U V M N f2;obtain⟨A,K,L,O,P,Q,R,S,T,U,V,M,N⟩:=b1.out n c4 c9;have k3:g<n.heap.size:=Ll g1 c4.size;have k7:w.heap.size<n.heap.size:=by have:=c9.size;simp at this;omega
    have f0:Hid (PV n (F5 G w4 n) (Ls.eX6 a) (.slice H I J)):=e5;have e8:Hid (Lies (n.alloc (C1 (Ls.eX6 a) (.slice H I J))) n.heap.size (C2 (Ls.eX6 a) (.slice H I J))):=g2;have h3:Hid _:=c3;have h0:Hid _:=Bj c9 c3;clear e5 g2 c3;go_wp2_with fail;refine f3.mono ?_;rintro e w6 ⟨v6,rfl,e6,b3⟩;obtain⟨m1,m2,m3,rfl⟩:=PV.slice _ _ e6;have j3:=b3.size;simp at j3;have d8:=Bj d7 b3;have b4:=A5 w6 (C1 (Ls.eX6 b) (.slice m1 m2 m3));have e0:=(b9.out w6 (Bj h0.out b3)).cell 0;have e1:=e8.out.below b3 (by simp);obtain⟨k0,k1,k2⟩:=e1.three;have k4:=e1.lt;have k8:w.heap.size<w6.heap.size:=by omega
    have f4:=dQc (Ls.eX6 b) (.slice H I J) (w6.alloc (C1 (Ls.eX6 b) (.slice m1 m2 m3))) (.slice m1 m2 m3) (fun j=>G j\/(w.heap.size<=j/\j<w6.heap.size)) (Ls.eX6 a) d3 d4 (by omega) (by omega) (fun j c=>by
     rcases c with c|c
     ·exact m.out _ (Bj d8 b4) j c
     ·have:=c.2;simp;omega) (PV.mono (fun j c=>by
      rcases c with c|c
      ·exact .inl c
      ·exact .inr ⟨Lq b6.size c.1,by have:=c.2;omega⟩) (fun j c=>by
      have j0:j<n.heap.size:=by
       rcases c with c|c
       ·exact m.out _ c4 j c
       ·exact c.2
      rw[b4.block j (by omega),b3.block j (by simp;omega),h3.out.block j j0]) _ _ f0.out) (PV.mono (fun j c=>by
      rcases c with c|c
      ·exact .inl c
      ·exact .inr ⟨by have:=c.1;simp at this;omega,c.2⟩) (fun j c=>by
      have j1:j<w6.heap.size:=by
       rcases c with c|c
       ·exact m.out _ d8 j c
       ·exact c.2
      rw[b4.block j j1]) _ _ e6)
    have h4:Hid _:=Bj d8 b4;clear A K L O P Q R S T U V M N f3 e6 e1 b4 f0 e8;go_wp2_with fail;refine f4.mono ?_;rintro e w8 ⟨e7,rfl,g4,i9⟩;have HW:Hid (Bw w w8):=Bj h4.out i9;have HX:Hid ((ob&&e7)=true↔b8):=by
     show _↔_;rw[HF.out,Bool.and_eq_true,e9.out,g4];exact⟨fun h=>⟨h8.out,h9.out,h⟩,fun h=>h.2.2⟩
    clear f4 g4 e9;cases ob with
    | false=>
     go_wp2_with fail;go_ret;exact⟨false,rfl,HX.out,HW.out⟩
    | true=>
     have i3:Hid (e7=true↔b8):=HX.out;go_wp2_with fail;go_ret;exact⟨e7,rfl,i3.out,HW.out⟩
theorem pQq (ha:L0 a)(hb:L0 b)(f5:D8 a)(f6:D8 b)(f7:D7 a)(f8:D7 b)(d1:Ls.BdL 120 (Ls.eX8 a))(d2:Ls.BdL 120 (Ls.eX8 b))(d3:Ls.BdL 120 (Ls.eX6 a))(d4:Ls.BdL 120 (Ls.eX6 b)):L0 ⟨4,p,ws,[a,b]⟩:=by
 intro m2 l5 w G hG h;rw[NV]at h;obtain⟨hv,g,v1,u1,v2,u2,hg,rfl,e2,e3,e4⟩:=h;obtain⟨y1,y2,y3,rfl⟩:=PV.slice _ _ hv;obtain⟨⟨y,z,A,rfl⟩,t1,t2,t3,rfl⟩:=NV.slices _ _ _ e3;obtain⟨⟨B,C,E,rfl⟩,H,I,J,rfl⟩:=NV.slices _ _ _ e4;have g3:=hG g hg;have HF:Hid (B5 ⟨4,p,ws,[a,b]⟩↔B5 a/\B5 b/\¬Ls.fXb (Ls.eX8 a) (Ls.eX8 b)/\¬Ls.fXb (Ls.eX6 b) (Ls.eX6 a)):=by
  show _↔_;rw[B5];simp
 generalize B5 ⟨4,p,ws,[a,b]⟩=b9 at *;have c1:=A5 w (lo 4 p ws y1 y2 y3 g 2);have c7:Hid (∀W,Bw w W->NV W G a (.slice y z A) (.slice t1 t2 t3)):=fun W i=>e3.below i (fun j c=>hG j c) (fun _ h=>h);have c8:Hid (∀W,Bw w W->NV W G b (.slice B C E) (.slice H I J)):=fun W i=>e4.below i (fun j c=>hG j c) (fun _ h=>h);have n:Hid (∀W,Bw w W->Old W G):=fun W i j c=>Ll (hG j c) i.size;have h7:Hid (∀W,Bw w W->LiesL W g (E4 a (.slice y z A) (.slice t1 t2 t3)++E4 b (.slice B C E) (.slice H I J))):=fun W i=>e2.of_block (i.block g g3);have c0:Hid (∀W,Below (w.alloc (lo 4 p ws y1 y2 y3 g 2)).heap.size (w.alloc (lo 4 p ws y1 y2 y3 g 2)) W->LiesL W w.heap.size [Iv (4:Nat),Iv (Ls.eX5 p).kind,.string ⟨(Ls.eX5 p).signs.toArray⟩,.slice y1 y2 y3,Sv ws,Sl g 2 2]):=fun W i=>(N5 w 4 (Ls.eX5 p) ws (.slice y1 y2 y3) (Sl g 2 2)).of_block (i.block _ (by simp));have b2:Hid (∀d,Bw w d->Below (w.alloc (lo 4 p ws y1 y2 y3 g 2)).heap.size (w.alloc (lo 4 p ws y1 y2 y3 g 2)) d->Ce d w.heap.size 5 (Sl g 2 2)/\tw d g a b y z A t1 t2 t3 B C E H I J):=fun d K h2=>by
  have l1:=c0.out d h2;have l2:=h7.out d K;exact⟨l1.cell 5,l2.tw⟩
 have hC:=ha _ _ _ G (n.out _ c1) (c7.out _ c1);obtain⟨-,a0,a1,a2,a3,a4,a5,a6,a7,a8,a9,i8,i9⟩:True/\tw w g a b y z A t1 t2 t3 B C E H I J:=by
  have l2:=e2;exact⟨trivial,l2.tw⟩
 have h8:Hid (D8 a):=f5;have h9:Hid (D8 b):=f6;have i2:Hid (L0 b):=hb;have i3:Hid (D7 a):=f7;have i4:Hid (D7 b):=f8;have h3:Hid _:=c1;clear hv e3 e4 e2 c1 f5 f6 f7 f8 ha hb;go_enter Tryz.func47,Tryz.ntmps47;go_wp2_with fail;refine wp_loop_rounds 3 ?_;rw[rounds_succ];go_wp2_with fail;refine hC.mono ?_;rintro e w2 ⟨ta,rfl,g8,c2⟩;have b5:=Bj h3.out c2;obtain⟨F,P,Q,T,U,V,X,Y,Z,r8,r9,R,S⟩:=b2.out w2 b5 c2;have c9:Hid (ta=true↔B5 a):=g8;have e0:=(c0.out w2 c2).cell 0;clear a0 a1 a2 a3 a4 a5 a6 a7 a8 a9 i8 i9 hC g8;cases ta with
 | false=>
  have HN:Hid (¬b9):=fun h=>by have:=c9.out.2 (HF.out.1 h).1;cases this
  go_wp2_with fail;go_ret;exact⟨false,rfl,⟨fun h=>(by cases h),fun h=>absurd h HN.out⟩,b5⟩
 | true=>
  have i0:Hid (B5 a):=c9.out.1 rfl;have f1:=i2.out _ _ w2 G (n.out _ b5) (c8.out _ b5);clear c9;go_wp2_with fail;rw[rounds_succ];go_wp2_with fail;refine f1.mono ?_;rintro e x ⟨tb,rfl,g9,g0⟩;have c3:=Bj c2 g0;have L:=Bj b5 g0;have d0:Hid (tb=true↔B5 b):=g9;clear F P Q T U V X Y Z r8 r9 R S f1 g9 e0;have g7:=b2.out x L c3;have k5:Hid _:=g7;obtain⟨F,P,Q,T,U,V,X,Y,Z,r8,r9,R,S⟩:=g7;have e0:=(c0.out x c3).cell 0;cases tb with
  | false=>
   have HN:Hid (¬b9):=fun h=>by have:=d0.out.2 (HF.out.1 h).2.1;cases this
   go_wp2_with fail;go_ret;exact⟨false,rfl,⟨fun h=>(by cases h),fun h=>absurd h HN.out⟩,L⟩
  | true=>
   have i1:Hid (B5 b):=d0.out.1 rfl;clear d0;have i6:Hid (∀W,Bw x W->Ca 51 #[(E1 a y z A t1 t2 t3)] W fun e d=>∃k l m,e=.returned (.agg #[Iv (Ls.eX8 a).kind,.string ⟨(Ls.eX8 a).signs.toArray⟩,.slice k l m])/\Bw W d/\∀u,Bw d u->PV u (fun j=>G j\/(w.heap.size<=j/\j<u.heap.size)) (Ls.eX8 a) (.slice k l m)):=by
    intro W i;have v:=Bj L i;refine(h8.out _ _ W G (n.out _ v) (c7.out _ v)).mono ?_;rintro e d ⟨k4,rfl,hx,b8⟩;obtain⟨k,l,m,rfl⟩:=PV.slice _ _ hx;refine⟨k,l,m,rfl,b8,fun u b3=>hx.below b3 (fun j c=>?_) (fun j c=>?_)⟩
    ·rcases c with c|c
     ·exact n.out _ (Bj v b8) j c
     ·exact c.2
    ·rcases c with c|c
     ·exact .inl c
     ·exact .inr ⟨Lq v.size c.1,Ll c.2 b3.size⟩
   have i7:Hid (∀W,Bw x W->Ca 51 #[(E1 b B C E H I J)] W fun e d=>∃k l m,e=.returned (.agg #[Iv (Ls.eX8 b).kind,.string ⟨(Ls.eX8 b).signs.toArray⟩,.slice k l m])/\Bw W d/\∀u,Bw d u->PV u (fun j=>G j\/(w.heap.size<=j/\j<u.heap.size)) (Ls.eX8 b) (.slice k l m)):=by
    intro W i;have v:=Bj L i;refine(h9.out _ _ W G (n.out _ v) (c8.out _ v)).mono ?_;rintro e d ⟨k4,rfl,hx,b8⟩;obtain⟨k,l,m,rfl⟩:=PV.slice _ _ hx;refine⟨k,l,m,rfl,b8,fun u b3=>hx.below b3 (fun j c=>?_) (fun j c=>?_)⟩
    ·rcases c with c|c
     ·exact n.out _ (Bj v b8) j c
     ·exact c.2
    ·rcases c with c|c
     ·exact .inl c
     ·exact .inr ⟨Lq v.size c.1,Ll c.2 b3.size⟩
   have h1:Hid (∀W k l m z1 z2 z3,Bw x W->PV W (fun j=>G j\/(w.heap.size<=j/\j<W.heap.size)) (Ls.eX8 a) (.slice k l m)->PV W (fun j=>G j\/(w.heap.size<=j/\j<W.heap.size)) (Ls.eX8 b) (.slice z1 z2 z3)->Ca 16 #[B4 (Ls.eX8 a) (.slice k l m),B4 (Ls.eX8 b) (.slice z1 z2 z3)] W (Y2 W (¬Ls.fXb (Ls.eX8 a) (Ls.eX8 b)))):=by
    intro W k l m z1 z2 z3 i K h2;exact dQc _ _ W _ _ _ d1 d2 (by omega) (by omega) (fun j c=>by
     rcases c with c|c
     ·exact n.out _ (Bj L i) j c
     ·exact c.2) K h2
   have b1:Hid (∀d,Bw x d->Ce d w.heap.size 5 (Sl g 2 2)/\tw d g a b y z A t1 t2 t3 B C E H I J):=fun d K=>b2.out d (Bj L K) (Bj c3 K);go_wp2_with fail;rw[rounds_succ];go_wp2_with fail;go_region_held (fun d=>Ce d w.heap.size 5 (Sl g 2 2)/\tw d g a b y z A t1 t2 t3 B C E H I J) (first|assumption|exact b1.out _ Br.drew|exact b1.out _ q|go_keep)
    (first
     | (go_at_call_of 51 a.kind;refine(i6.out _ ?_).mono ?_;(first|exact Br.drew|exact q);rintro e wa ⟨l6,l7,l8,rfl,d7,hA⟩;have q:Bw x wa:=(by first|exact Bj Br.drew d7|exact Bj q d7);have k8:=b1.out wa q)
     | (go_at_call_of 51 b.kind;refine(i7.out _ ?_).mono ?_;(first|exact Br.drew|exact q);rintro e wb ⟨l9,m0,m1,rfl,d8,hB⟩;have q:Bw x wb:=(by first|exact Bj Br.drew d8|exact Bj q d8);have k9:=b1.out wb q)
     | (go_at_call 16;refine(h1.out _ _ _ _ _ _ _ q (hA _ ?_) (hB _ ?_)).mono ?_;(first|exact Br|exact d8);(first|exact Br|exact d7);rintro e w4 ⟨ob,rfl,g5,j0⟩;have e1:Bw x w4:=Bj q j0;have j7:=b1.out w4 e1))
   all_goals
    have b6:=Bj L e1;have f9:=Bj c3 e1;have e9:Hid (ob=true↔¬Ls.fXb (Ls.eX8 a) (Ls.eX8 b)):=g5;have f2:=i3.out _ _ w4 G (n.out _ b6) (c7.out _ b6);clear g5 hA hB F P Q T U V X Y Z r8 r9 R S e0 j7;obtain⟨F,P,Q,T,U,V,X,Y,Z,r8,r9,R,S⟩:=b2.out w4 b6 f9;go_wp2_with fail;refine f2.mono ?_;rintro e f ⟨v5,rfl,e5,d6⟩;obtain⟨r,s,t,rfl⟩:=PV.slice _ _ e5;have l4:=d6.size;have b7:=Bj b6 d6;have d5:=Bj f9 d6;have c4:=A5 f (C1 (Ls.eX6 a) (.slice r s t));have d9:=Bj b7 c4;have f3:=i4.out _ _ (f.alloc (C1 (Ls.eX6 a) (.slice r s t))) G (n.out _ d9) (c8.out _ d9);have g4:=C7 f (C2 (Ls.eX6 a) (.slice r s t));clear F P Q T U V X Y Z r8 r9 R S f2;obtain⟨F,P,Q,T,U,V,X,Y,Z,r8,r9,R,S⟩:=b2.out f b7 d5;have k6:g<f.heap.size:=Ll g3 b7.size;have l0:w.heap.size<f.heap.size:=by have:=d5.size;simp at this;omega
    have f0:Hid (PV f (F5 G w4 f) (Ls.eX6 a) (.slice r s t)):=e5;have e8:Hid (Lies (f.alloc (C1 (Ls.eX6 a) (.slice r s t))) f.heap.size (C2 (Ls.eX6 a) (.slice r s t))):=g4;have h5:Hid _:=c4;have h4:Hid _:=Bj d5 c4;clear e5 g4 c4;go_wp2_with fail;refine f3.mono ?_;rintro e o ⟨v6,rfl,e6,b4⟩;obtain⟨M,N,O,rfl⟩:=PV.slice _ _ e6;have k3:=b4.size;simp at k3;have g2:=Bj d9 b4;have j2:=A5 o (C1 (Ls.eX6 b) (.slice M N O));have e0:=(c0.out o (Bj h4.out b4)).cell 0;have b0:=e8.out.below b4 (by simp);obtain⟨k0,k1,k2⟩:=b0.three;have k7:=b0.lt;have l3:w.heap.size<o.heap.size:=by omega
    have h0:=b0.fr 0;have K:=b0.fr 1;have h2:=b0.fr 2;have c6:(set3 o f.heap.size (Ls.eX6 b) (.slice M N O)).heap.size=o.heap.size:=by simp[set3,World.setCell]
    have c5:=A5 (set3 o f.heap.size (Ls.eX6 b) (.slice M N O)) (C1 (Ls.eX6 a) (.slice r s t));have g1:Bw w (set3 o f.heap.size (Ls.eX6 b) (.slice M N O)):=((g2.setCell (by show w.heap.size<=f.heap.size;omega) _).setCell (by show w.heap.size<=f.heap.size;omega) _).setCell (by show w.heap.size<=f.heap.size;omega) _;have f4:=dQc (Ls.eX6 a) (.slice M N O) ((set3 o f.heap.size (Ls.eX6 b) (.slice M N O)).alloc (C1 (Ls.eX6 a) (.slice r s t))) (.slice r s t) (fun j=>G j\/(w.heap.size<=j/\j<o.heap.size)) (Ls.eX6 b) d4 d3 (by omega) (by omega) (fun j c=>by
     rw[World.size_alloc,c6];rcases c with c|c
     ·have:=n.out _ g2 j c;omega
     ·have:=c.2;omega) (PV.mono (fun j c=>by
      rcases c with c|c
      ·exact .inl c
      ·exact .inr ⟨by have:=c.1;simp at this;omega,c.2⟩) (fun j c=>by
      have j4:j<o.heap.size/\j≠f.heap.size:=by
       rcases c with c|c
       ·have:=n.out _ b7 j c;exact⟨by omega,by omega⟩
       ·have:=c.1;simp at this;exact⟨c.2,by omega⟩
      rw[c5.block j (by rw[c6];omega),dQk _ _ _ _ _ j4.2]) _ _ e6) (PV.mono (fun j c=>by
      rcases c with c|c
      ·exact .inl c
      ·exact .inr ⟨Lq b6.size c.1,by have:=c.2;omega⟩) (fun j c=>by
      have j3:j<f.heap.size:=by
       rcases c with c|c
       ·exact n.out _ b7 j c
       ·exact c.2
      rw[c5.block j (by rw[c6];omega),dQk _ _ _ _ _ (by omega),b4.block j (by simp;omega),h5.out.block j j3]) _ _ f0.out)
    have h6:Hid (Bw w ((set3 o f.heap.size (Ls.eX6 b) (.slice M N O)).alloc (C1 (Ls.eX6 a) (.slice r s t)))):=Bj g1 c5;clear c5 g1 c6;clear F P Q T U V X Y Z r8 r9 R S f3 e6 b0 j2 f0 e8;go_wp2_with fail;refine f4.mono ?_;rintro e w8 ⟨e7,rfl,g6,j1⟩;have HW:Hid (Bw w w8):=Bj h6.out j1;have HX:Hid ((ob&&e7)=true↔b9):=by
     show _↔_;rw[HF.out,Bool.and_eq_true,e9.out,g6];exact⟨fun h=>⟨i0.out,i1.out,h⟩,fun h=>h.2.2⟩
    clear f4 g6 e9;cases ob with
    | false=>
     go_wp2_with fail;go_ret;exact⟨false,rfl,HX.out,HW.out⟩
    | true=>
     have i5:Hid (e7=true↔b9):=HX.out;go_wp2_with fail;go_ret;exact⟨e7,rfl,i5.out,HW.out⟩
end Go.Proofs.YtfklinjaajafgaaGreatDoor
