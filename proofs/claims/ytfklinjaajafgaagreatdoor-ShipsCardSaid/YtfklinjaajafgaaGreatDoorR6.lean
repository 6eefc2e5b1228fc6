import Derived.Test.YtfklinjaajafgaaGreatDoorR5
import Derived.Test.YtfklinjaajafgaaGreatDoorR1
import Derived.Test.YtfklinjaajafgaaGreatDoorK60
import Derived.Test.YtfklinjaajafgaaGreatDoorK04
import Derived.Deep.SlicePairs
import Derived.Carry
set_option maxRecDepth 100000
set_option maxHeartbeats 4000000
namespace Go.Proofs.YtfklinjaajafgaaGreatDoor
open Go.RowKit
theorem of_is {p:Ls.Pat}(hp:Ls.wf p){s:List UInt8}(h:Ls.inL p s)(hl:s.length<=60):B7 p s=true:=by
 unfold B7;rw[Bool.and_eq_true,decide_eq_true_eq,Ls.eX0 _ hp];exact⟨h,hl⟩
theorem ba_le {x:List UInt8}(hx:x.length<=60):(⟨x.toArray⟩:ByteArray).size<=1048576:=by simp[ByteArray.size];omega
theorem ba_list (x:List UInt8):(⟨x.toArray⟩:ByteArray).data.toList=x:=rfl
theorem get_at {w:World}{G:Nat->Prop}{L p:Nat}{l:Ls.Ln}(h:LensV w G L p l){s r:List UInt8}(hs:Ls.inL (Ls.dXx l) s)(hsl:s.length<=60)(hr:A6 l s=r) :
  Calls Tryz.prog 24 #[.pointer (some ⟨L,0,none⟩),A4 s] w fun e w'=>e=.returned (.tuple #[A4 r,.int .i64 0])/\Below w.heap.size w w':=by
 have:=bQq ⟨s.toArray⟩ (ba_le hsl) w G L p l h;rw[ba_list,of_is (Ls.OkL.src _ h.ok).ok hs hsl,hr]at this;exact this
theorem put_at {w:World}{G:Nat->Prop}{L p:Nat}{l:Ls.Ln}(h:LensV w G L p l){v s r:List UInt8}(hv:Ls.inL (Ls.dXv l) v)(hs:Ls.inL (Ls.dXx l) s)(hvl:v.length<=60)(hsl:s.length<=60)(hr:B4 l v s=r) :
  Calls Tryz.prog 28 #[.pointer (some ⟨L,0,none⟩),A4 v,A4 s] w fun e w'=>e=.returned (.tuple #[A4 r,.int .i64 0])/\Below w.heap.size w w':=by
 have:=cQs ⟨v.toArray⟩ ⟨s.toArray⟩ (ba_le hvl) (ba_le hsl) w G L p l h;unfold bQv at this;rw[ba_list,ba_list,of_is (Ls.OkL.view _ h.ok).ok hv hvl,of_is (Ls.OkL.src _ h.ok).ok hs hsl,hr]at this;exact this
theorem conv_at {w:World}{G G':Nat->Prop}{L p M q:Nat}{l m:Ls.Ln}(h:LensV w G L p l)(h':LensV w G' M q m){s v r:List UInt8}(hs:Ls.inL (Ls.dXx l) s)(hsl:s.length<=60)(hg:A6 l s=v)(hv:Ls.inL (Ls.dXv m) v)(hvl:v.length<=60)(hr:A9 m v=r) :
  Calls Tryz.prog 30 #[.pointer (some ⟨L,0,none⟩),.pointer (some ⟨M,0,none⟩),A4 s] w fun e w'=>e=.returned (.tuple #[A4 r,.int .i64 0])/\Below w.heap.size w w':=by
 have:=rQ7 ⟨s.toArray⟩ (ba_le hsl) w G G' L p M q l m h h';unfold fQ3 at this;rw[ba_list,of_is (Ls.OkL.src _ h.ok).ok hs hsl,hg,of_is (Ls.OkL.view _ h'.ok).ok hv hvl,hr]at this;exact this
theorem ships_walk (a:Option Addr)(n c:Nat)(x y wi v:List UInt8)(w:World)
  (hA:∀W,Below w.heap.size w W->Calls Tryz.prog 18 #[.string ⟨#[60,47,91,97,45,122,93,43,47,45,47,44,47,34,44,34,47,91,48,45,57,93,43,47,45,47,59,47,34,59,34,62]⟩] W fun e w'=>∃L p,e=.returned (.tuple #[.pointer (some ⟨L,0,none⟩),.int .i64 ((0:Nat):Int)])/\Below W.heap.size W w'/\LensV w' (B8 W w') L p R7)
  (hB:∀W,Below w.heap.size w W->Calls Tryz.prog 18 #[.string ⟨#[60,47,91,97,45,122,93,43,47,45,47,32,42,61,32,42,47,34,61,34,47,91,48,45,57,93,43,47,45,47,33,43,47,34,33,34,62]⟩] W fun e w'=>∃L p,e=.returned (.tuple #[.pointer (some ⟨L,0,none⟩),.int .i64 ((0:Nat):Int)])/\Below W.heap.size W w'/\LensV w' (B8 W w') L p L8)
  (h1:∀W,Below w.heap.size w W->Calls Tryz.prog 34 #[.slice a n c,.string ⟨#[44]⟩,.string ⟨#[59]⟩] W fun e w'=>e=.returned (A4 x)/\Below W.heap.size W w')
  (h2:∀W,Below w.heap.size w W->Calls Tryz.prog 34 #[.slice a n c,.string ⟨#[61]⟩,.string ⟨#[33]⟩] W fun e w'=>e=.returned (A4 y)/\Below W.heap.size W w')
  (h3:∀W,Below w.heap.size w W->Calls Tryz.prog 34 #[.slice a n c,.string ⟨#[32,32,61,32]⟩,.string ⟨#[33,33]⟩] W fun e w'=>e=.returned (A4 wi)/\Below W.heap.size W w')
  (h4:∀W,Below w.heap.size w W->Calls Tryz.prog 34 #[.slice a n c,.string ⟨#[]⟩,.string ⟨#[]⟩] W fun e w'=>e=.returned (A4 v)/\Below W.heap.size W w')
  (h5:∀(W:World) (G1 G2:Nat->Prop) (L p M q:Nat),LensV W G1 L p R7->LensV W G2 M q L8->Calls Tryz.prog 30 #[.pointer (some ⟨L,0,none⟩),.pointer (some ⟨M,0,none⟩),A4 x] W fun e w'=>e=.returned (.tuple #[A4 y,.int .i64 0])/\Below W.heap.size W w')
  (h6:∀(W:World) (G1 G2:Nat->Prop) (L p M q:Nat),LensV W G1 L p R7->LensV W G2 M q L8->Calls Tryz.prog 30 #[.pointer (some ⟨M,0,none⟩),.pointer (some ⟨L,0,none⟩),A4 y] W fun e w'=>e=.returned (.tuple #[A4 x,.int .i64 0])/\Below W.heap.size W w')
  (h7:∀(W:World) (G1 G2:Nat->Prop) (L p M q:Nat),LensV W G1 L p R7->LensV W G2 M q L8->Calls Tryz.prog 24 #[.pointer (some ⟨L,0,none⟩),A4 x] W fun e w'=>e=.returned (.tuple #[A4 v,.int .i64 0])/\Below W.heap.size W w')
  (h8:wi.length<=60->∀(W:World) (G1 G2:Nat->Prop) (L p M q:Nat),LensV W G1 L p R7->LensV W G2 M q L8->Calls Tryz.prog 30 #[.pointer (some ⟨M,0,none⟩),.pointer (some ⟨L,0,none⟩),A4 wi] W fun e w'=>e=.returned (.tuple #[A4 x,.int .i64 0])/\Below W.heap.size W w')
  (h9:wi.length<=60->∀(W:World) (G1 G2:Nat->Prop) (L p M q:Nat),LensV W G1 L p R7->LensV W G2 M q L8->Calls Tryz.prog 28 #[.pointer (some ⟨M,0,none⟩),A4 v,A4 wi] W fun e w'=>e=.returned (.tuple #[A4 wi,.int .i64 0])/\Below W.heap.size W w')
  : Calls Tryz.prog 11 #[.slice a n c] w fun e w'=>e=.returned (.bool true)/\Below w.heap.size w w':=by
 have H1:Hid _:=h1;have H2:Hid _:=h2;have H3:Hid _:=h3;have H4:Hid _:=h4;have H5:Hid _:=h5;have H6:Hid _:=h6;have H7:Hid _:=h7;have H8:Hid _:=h8;have H9:Hid _:=h9;have hC:=hA w (Below.refl _ _);have HB:Hid _:=hB;clear hA hB h1 h2 h3 h4 h5 h6 h7 h8 h9;go_enter Tryz.func11,Tryz.ntmps11;go_wp2_with fail;refine hC.mono ?_;clear hC;rintro e w1 ⟨L,p,rfl,hb1,hL⟩;have HL:Hid (LensV w1 (B8 w w1) L p R7):=hL;have hC:=HB.out w1 hb1;clear hL HB;go_wp2_with fail;refine hC.mono ?_;clear hC;rintro e w2 ⟨M,q,rfl,hd2,hM⟩;have hb2:Below w.heap.size w w2:=Below.join hb1 hd2;have HM:Hid (∀W,Below w2.heap.size w2 W->LensV W (B8 w w1) L p R7/\LensV W (B8 w1 w2) M q L8):=fun W hW=>⟨(HL.out.below hd2).below hW,hM.below hW⟩;have hq2:Below w2.heap.size w2 w2:=Below.refl _ _;clear hM HL hd2;have hC:=H1.out w2 (Below.join hb2 hq2);go_wp2_with fail;refine hC.mono ?_;clear hC;rintro e w3 ⟨rfl,hd3⟩;have hq3:Below w2.heap.size w2 w3:=Below.join hq2 hd3;clear hd3;have hC:=H2.out w3 (Below.join hb2 hq3);go_wp2_with fail;refine hC.mono ?_;clear hC;rintro e w4 ⟨rfl,hd4⟩;have hq4:Below w2.heap.size w2 w4:=Below.join hq3 hd4;clear hd4;have hC:=H3.out w4 (Below.join hb2 hq4);go_wp2_with fail;refine hC.mono ?_;clear hC;rintro e w5 ⟨rfl,hd5⟩;have hq5:Below w2.heap.size w2 w5:=Below.join hq4 hd5;clear hd5;have hC:=H4.out w5 (Below.join hb2 hq5);go_wp2_with fail;refine hC.mono ?_;clear hC;rintro e w6 ⟨rfl,hd6⟩;have hq6:Below w2.heap.size w2 w6:=Below.join hq5 hd6;clear hd6;have hC:=H5.out w6 _ _ L p M q (HM.out w6 hq6).1 (HM.out w6 hq6).2;go_wp2_with fail;refine hC.mono ?_;clear hC;rintro e w7 ⟨rfl,hd7⟩;have hq7:Below w2.heap.size w2 w7:=Below.join hq6 hd7;clear hd7;have hC:=H6.out w7 _ _ L p M q (HM.out w7 hq7).1 (HM.out w7 hq7).2;go_wp2_with fail;refine hC.mono ?_;clear hC;rintro e w8 ⟨rfl,hd8⟩;have hq8:Below w2.heap.size w2 w8:=Below.join hq7 hd8;clear hd8;have hC:=H7.out w8 _ _ L p M q (HM.out w8 hq8).1 (HM.out w8 hq8).2;go_wp2_with fail;refine hC.mono ?_;clear hC;rintro e w9 ⟨rfl,hd9⟩;have hq9:Below w2.heap.size w2 w9:=Below.join hq8 hd9;clear hd9;have hC:=Z8 ⟨wi.toArray⟩ w9;have hwl:(⟨wi.toArray⟩:ByteArray).size=wi.length:=by simp[ByteArray.size]
 by_cases hs:wi.length<=60
 ·rw[decide_eq_true (by omega)]at hC
  clear hwl;go_wp2_with fail;refine hC.mono ?_;clear hC;rintro e w10 ⟨rfl,hd10⟩;have hq10:Below w2.heap.size w2 w10:=Below.join hq9 hd10;clear hd10;have hC:=H8.out hs w10 _ _ L p M q (HM.out w10 hq10).1 (HM.out w10 hq10).2;go_wp2_with fail;refine hC.mono ?_;clear hC;rintro e w11 ⟨rfl,hd11⟩;have hq11:Below w2.heap.size w2 w11:=Below.join hq10 hd11;clear hd11;have hC:=H9.out hs w11 _ _ L p M q (HM.out w11 hq11).1 (HM.out w11 hq11).2;go_wp2_with fail;refine hC.mono ?_;clear hC;rintro e w12 ⟨rfl,hd12⟩;have hq12:Below w2.heap.size w2 w12:=Below.join hq11 hd12;clear hd12;go_wp2_with fail;go_ret;exact⟨rfl,Below.join hb2 hq12⟩
 ·rw[decide_eq_false (by omega)]at hC
  clear hwl;go_wp2_with fail;refine hC.mono ?_;clear hC;rintro e w10 ⟨rfl,hd10⟩;have hq10:Below w2.heap.size w2 w10:=Below.join hq9 hd10;go_wp2_with fail;go_ret;exact⟨rfl,Below.join hb2 hq10⟩
theorem clean_num (s:List UInt8):M5 48 57 s≠[]/\(∀c,c∈M5 48 57 s->M0 c=true)/\(M5 48 57 s).length<=4:=by
 have h:=fQ0 (inR 48 57) s 3;refine⟨by simp[M5],fun c hc=>?_,by simp[M5];exact h.1⟩;unfold M5 at hc;rcases List.mem_cons.1 hc with rfl|hc
 ·rfl
 ·exact h.2 c hc
theorem clean_low (s:List UInt8):M5 97 122 s≠[]/\(∀c,c∈M5 97 122 s->M7 c=true)/\(M5 97 122 s).length<=4:=by
 have h:=fQ0 (inR 97 122) s 3;refine⟨by simp[M5],fun c hc=>?_,by simp[M5];exact h.1⟩;unfold M5 at hc;rcases List.mem_cons.1 hc with rfl|hc
 ·rfl
 ·exact h.2 c hc
theorem ships_law (a:Option Addr)(n c:Nat)(f g:Nat->ByteArray)(hf:∀i,i<n->(f i).size<=9223372036854775807/\(g i).size<=9223372036854775807)(hn:n<=9223372036854775807)(w:World)
  (hX:∀W,Below w.heap.size w W->∀i,i<n->∃d,a=some d/\W.cell? (d.add (i*2))=some (.string (f i))/\W.cell? (d.add (i*2+1))=some (.string (g i)))
  (hC:∀W,Below w.heap.size w W->∀z:ByteArray,z.size<=1048576->Calls Tryz.prog 18 #[.string z] W (CompilePost z W)) :
  Calls Tryz.prog 11 #[.slice a n c] w fun e w'=>e=.returned (.bool true)/\Below w.heap.size w w':=by
 obtain⟨F,hF⟩:∃F:Nat->List UInt8,F=fun i=>M5 97 122 (f i).data.toList:=⟨_,rfl⟩;obtain⟨N,hN⟩:∃N:Nat->List UInt8,N=fun i=>M5 48 57 (g i).data.toList:=⟨_,rfl⟩;have hk:min n 5<=5:=by omega
 have h2:Words2 F N (min n 5):=by
  rw[hF,hN];exact⟨fun i _=>(clean_low _).1,fun i _=>(clean_low _).2.1,fun i _=>(clean_num _).1,fun i _=>(clean_num _).2.1,fun i _=>(clean_low _).2.2,fun i _=>(clean_num _).2.2⟩
 have len:∀mid en:List UInt8,∀m,mid.length+en.length+8<=m->(wrt F N mid en (min n 5)).length<=min n 5*m:=fun mid en m hm=>wr_len _ (fun i hi=>by
  have:=h2.ws i hi;have:=h2.ns i hi;simp[wln];omega)
 have up:∀(x m j:Nat),x<=j*m->j<=5->x<=5*m:=fun x m j h1 h2=>Nat.le_trans h1 (Nat.mul_le_mul_right _ h2);have lx:=up _ _ _ (len [44] [59] 10 (by simp)) hk;have ly:=up _ _ _ (len [61] [33] 10 (by simp)) hk;have lv:=up _ _ _ (len [] [] 8 (by simp)) hk;have W:∀(mid en:List UInt8),mid.length<=4->en.length<=4->∀W,Below w.heap.size w W->Calls Tryz.prog 34 #[.slice a n c,A4 mid,A4 en] W fun e w'=>e=.returned (A4 (wrt F N mid en (min n 5)))/\Below W.heap.size W w':=fun mid en hm he W hW=>by
  rw[hF,hN];exact written_any a n c f g hf hn mid en hm he W (fun W' hW'=>hX W' (Below.join hW hW'))
 have m1:Ls.inL (Ls.dXu X4) [61]:=jQc 0 0;have m2:Ls.inL (Ls.dXu X4) [32,32,61,32]:=jQc 2 1;have e1:Ls.inL (Ls.dXu X5) [33]:=jQf 0;have e2:Ls.inL (Ls.dXu X5) [33,33]:=jQf 1;have gx:=wr_get rQy h2 (one_mid 44) (one_mid 59);have gy:=wr_get Q7 h2 m1 e1;have gw:=wr_get Q7 h2 m2 e2;have cx:=wr_cre rQy h2;have cy:=wr_cre Q7 h2;have sx:=wr_src rQy h2 (one_mid 44) (one_mid 59);have sy:=wr_src Q7 h2 m1 e1;have sw:=wr_src Q7 h2 m2 e2;have vx:Ls.inL (Ls.dXv R7) _:=wr_view h2;have vy:Ls.inL (Ls.dXv L8) _:=wr_view h2;refine ships_walk a n c _ _ _ _ w (fun W hW=>(hC W hW ⟨dQt.toArray⟩ (by decide)).mono (fun e w' h=>h.known iQ0 rQx)) (fun W hW=>(hC W hW ⟨bQ9.toArray⟩ (by decide)).mono (fun e w' h=>h.known jQd tQd))
  (W [44] [59] (by simp) (by simp)) (W [61] [33] (by simp) (by simp)) (W [32,32,61,32] [33,33] (by simp) (by simp)) (W [] [] (by simp) (by simp))
  (fun W G1 G2 L p M q hL hM=>conv_at hL hM sx (by omega) gx vy (by omega) cy) (fun W G1 G2 L p M q hL hM=>conv_at hM hL sy (by omega) gy vx (by omega) cx) (fun W G1 G2 L p M q hL hM=>get_at hL sx (by omega) gx)
  (fun hs W G1 G2 L p M q hL hM=>conv_at hM hL sw hs gw vx (by omega) cx) (fun hs W G1 G2 L p M q hL hM=>put_at hM vy sw (by omega) hs ?_)
 have:=(eQc L8 hM.ok (eQi Q7)).back _ sw;rw[show A6 L8 _=_ from gw]at this;exact this
end Go.Proofs.YtfklinjaajafgaaGreatDoor
namespace Go.Proofs.YtfklinjaajafgaaGreatDoor
open Go.ChangeShapes Go.WideShapes Go.ChangeAt Go.RowKit Go.Deep
theorem open_pairs {H:Type}{enc:TypeId × Value->H}{W:World}{a:Option Addr}{len cap fuel:Nat}{x:DataW H × List MemPlace}(hf:DataW.trod enc Tryz.prog W 0 (fun _=>true) true fuel 53 [.slice a len cap]=some x) :
  ∃f g:Nat->ByteArray,(∀i,i<len->(f i).size<=9223372036854775807/\(g i).size<=9223372036854775807)/\len<=9223372036854775807/\
   ∀W',Below W.heap.size W W'->∀i,i<len->∃d,a=some d/\W'.cell? (d.add (i*2))=some (.string (f i))/\W'.cell? (d.add (i*2+1))=some (.string (g i)):=by
 rcases open_slice_pairs (f0 := ⟨"Word", 9, 0, false, "", "", 0⟩) (f1 := ⟨"Number", 9, 1, false, "", "", 16⟩) Tryz.underlying53 (by kernel_rfl) (by kernel_rfl) rfl rfl (by kernel_rfl) (by kernel_rfl) hf with ⟨hcs, _⟩ | ⟨d, len', cap', m, k, V0, V1, D0, D1, P0, P1, hcs, _, hl, hm, hmm, _, hx⟩
 ·simp at hcs
  obtain⟨rfl,rfl,rfl⟩:=hcs;exact⟨fun _=>ByteArray.empty,fun _=>ByteArray.empty,fun i hi=>absurd hi (by omega),by omega,fun _ _ i hi=>absurd hi (by omega)⟩
 ·simp at hcs
  obtain⟨rfl,rfl,rfl⟩:=hcs;simp only[if_true]at hmm;subst hmm;have hM:maxLen=9223372036854775807:=by decide
  have each:∀i,i<len->∃q:ByteArray × ByteArray,(W.cell? (d.add (i*2))=some (.string q.1)/\W.cell? (d.add (i*2+1))=some (.string q.2))/\q.1.size<=9223372036854775807/\q.2.size<=9223372036854775807:=by
   intro i hi;obtain⟨c0,c1,t0,t1⟩:=hx i (by omega);obtain⟨s0,e0,_,z0⟩:=DataW.trod_string Tryz.underlying9 t0;obtain⟨s1,e1,_,z1⟩:=DataW.trod_string Tryz.underlying9 t1;simp only[List.cons.injEq,and_true]at e0 e1;rw[e0]at c0;rw[e1]at c1;exact⟨(s0,s1),⟨c0,c1⟩,Nat.le_trans z0 (Nat.le_of_eq hM),Nat.le_trans z1 (Nat.le_of_eq hM)⟩
  obtain⟨q,hq⟩:=choose_lt each;refine⟨fun i=>(q i).1,fun i=>(q i).2,fun i hi=>(hq i hi).2,by omega,fun W' hb i hi=>⟨d,rfl,?_⟩⟩;obtain⟨⟨h0,h1⟩,_⟩:=hq i hi;rw[hb.cell (p:=d.add (i*2)) (World.block_lt_of_cell? W _ h0),hb.cell (p:=d.add (i*2+1)) (World.block_lt_of_cell? W _ h1)];exact⟨h0,h1⟩
theorem ships_lifted (os:Os)(started:os.Started)(H:Type)(enc:TypeId × Value->H) :
  ReturnsInHanded {} Tryz.checked os 11 .any (fun w args=>(Rows.shipsSpec.pre enc Tryz.prog Tryz.f11 [] false w args/\laidMetH Tryz.prog laid4 w)/\sizedMet enc Tryz.prog Tryz.f11 (OpenSpec.ofChange Rows.shipsSpec) false w args)
   (Rows.shipsSpec.post enc Tryz.prog Tryz.f11 false true false false):=by
 refine returnsInHanded_of_change_and (C:=Tryz.checked) (X:=fun w _=>laidMetH Tryz.prog laid4 w) (fun _ _ _ hh h=>h.of_heap hh) own started (by kernel_rfl) Tryz.func11
  (ChangeSpec.witness_shaped (enc:=enc) (C:=Tryz.checked) (os:=os) (X:=fun w _=>laidMetH Tryz.prog laid4 w) false (World.doorLaid Tryz.prog 400 os) #[.slice none 0 0] 8 rfl (World.shaped_of_RefB (by kernel_rfl) (by kernel_rfl)) (by kernel_rfl) (by kernel_rfl) (by kernel_rfl) (aQx os _)) ?_
 intro W base args ds gs before hval0 hW _ _ hL _;have hval:∀(j:Nat) t v,Tryz.f11.params[j]?=some t->args[j]?=some v->Value.okWide Tryz.prog W .any base t v:=hval0;have hW':=hW;obtain⟨p,q,hA0,hV,rfl,hfz,hnd⟩:=hW;have hA:DataW.TrodAll enc Tryz.prog W 0 (fun _=>true) true Tryz.f11.params.toList args.toList ds p:=hA0;rw[Tryz.params11]at hA hval;obtain⟨v0,vs0,d0,ds0,p0,q0,hargs,rfl,rfl,h0,r0⟩:=trodAll_cons hA;obtain⟨rfl,rfl,rfl⟩:=trodAll_nil r0;obtain rfl:args=#[v0]:=by cases args;simp_all
 obtain⟨rfl,rfl⟩:=trodVars_none hV;have h0k:=h0;obtain⟨a0,len,cap,rfl⟩:=okWide_slice Tryz.underlying53 (hval 0 53 v0 rfl rfl);obtain⟨fuel,hf⟩:=h0;obtain⟨f,g,hz,hl,hX⟩:=open_pairs hf;obtain⟨x0,x1,x2,x3,hs⟩:=aQ2 hL;clear hA0 hval0;simp only[List.append_nil]at hW';have hlt:∀x∈p0,x.block<W.heap.size:=fun x hx=>by simpa using hW'.lt x (by simp[hx])
 refine(ships_law a0 len cap f g hz hl W hX (fun Y hY z hz=>aQg z (by omega) Y x0 x1 x2 x3 (hs.below hY))).mono fun e W' ⟨he,hg⟩=>?_;subst he;refine⟨_,rfl,_,_,_,[],p0++[],[],hW',?_,?_,?_,hg.frame _,fun h=>by cases h⟩
 ·exact trodAll_cons_mk (shut_bool Tryz.underlying4 _) trodAll_mk0
 ·exact trodAll_cons_mk (Below.trod (by kernel_rfl) (by kernel_rfl) (of_decide_eq_true (by kernel_rfl)) h0k hg hlt) trodAll_mk0
 ·rfl
theorem ships_saidof:Rows.ShipsSaid:=
 OpenClaim.holds_of_wide 11 Tryz.f11 rfl rfl rfl rfl rfl rfl rfl ⟨rfl,rfl,rfl,rfl,rfl⟩ rfl rfl rfl rfl rfl (by kernel_rfl) Tryz.func11 (by kernel_rfl)
  (of_decide_eq_true (by kernel_rfl)) (by unfold Func.isWrapper;first|(rw[if_pos (by decide +kernel)];kernel_rfl)|(rw[if_neg (by decide +kernel)];exact⟨rfl,rfl⟩))
  (fun os started H enc _=>ships_lifted os started H enc)
theorem ships_holds:Rows.ShipsCardSaid:=
 Claim7.holds_tied_plain_at .later [] [.sentinel,.sentinel,.sentinel,.sentinel] true Rows.shipsCard.stood.harness true
  ships_saidof (fun _ h=>by cases h) (by kernel_rfl) (fun _ h=>by cases h) ships_row_tie rfl ⟨rfl,rfl⟩ (by kernel_rfl) rfl
  (fun f fn hf hfn=>by
   obtain rfl : f = 11 := Option.some.inj ((show Tryz.prog.funcNamed "lenses/lenseskeep.Ships" = some 11 by kernel_rfl).symm.trans hf) |>.symm
   obtain rfl:fn=Tryz.f11:=(Option.some.inj (Tryz.func11.symm.trans hfn)).symm;exact⟨by kernel_rfl,fun j t ht=>by
    rw[Tryz.params11]at ht;have hm:t∈[53]:=by simpa using Array.mem_of_getElem? ht
    have hall:([53].all fun u=>!Tryz.prog.wantsStandIn u)=true:=by kernel_rfl
    exact(show Tryz.prog.wantsStandIn t=false by simpa using List.all_eq_true.1 hall t hm)⟩) (by kernel_rfl)
end Go.Proofs.YtfklinjaajafgaaGreatDoor
