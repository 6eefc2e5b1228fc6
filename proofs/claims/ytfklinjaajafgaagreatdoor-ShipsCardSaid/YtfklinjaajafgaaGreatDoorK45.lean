import Derived.Test.YtfklinjaajafgaaGreatDoorK43
set_option maxRecDepth 100000
set_option maxHeartbeats 4000000
namespace Go.Proofs.YtfklinjaajafgaaGreatDoor
open Go.RowKit
structure Ad (w W:World)(nb:Nat)(P Q:Value):Prop where
 res:W.heap[w.heap.size]?=some (.cells #[.int .u32 (0:Nat),.int .u32 (0:Nat),.bool false] 150 (0,0))
 fr:Free W nb P Q w.heap.size
theorem Ad.next {w W W':World}{nb:Nat}{P Q P' Q':Value}(h:Ad w W nb P Q)(hs:NStep W nb P Q W' P' Q'):Ad w W' nb P' Q':=⟨hs.own h.fr h.res,hs.free h.fr⟩
theorem Ad.start {w:World}{B nb:Nat}{P Q:Value}{n:Ls.Net}{x:Ls.Span}(h:NetL w B nb P Q n x)(o:Obj):Ad w ((w.alloc (.cells #[.int .u32 (0:Nat),.int .u32 (0:Nat),.bool false] 150)).alloc o) nb P Q:=by
 refine⟨?_,?_⟩
 ·rw[Below.heap_alloc _ _ _ (by simp)];exact heap_alloc_new _ _
 ·have:=h.newFree (.cells #[.int .u32 (0:Nat),.int .u32 (0:Nat),.bool false] 150)
  exact⟨by simp;omega,this.2⟩
theorem pQ7 (v:Value)(w:World):(Instr.typeAssert (.iface 180 v) 89 180 true).run Tryz.prog w=.ok (.tuple #[v,.bool true]) w:=by kernel_rfl
theorem pQ9 (v:Value)(w:World):(Instr.typeAssert (.iface 184 v) 89 184 true).run Tryz.prog w=.ok (.tuple #[v,.bool true]) w:=by kernel_rfl
theorem pQ8 (v:Value)(w:World):(Instr.typeAssert (.iface 184 v) 89 180 true).run Tryz.prog w=.ok (.tuple #[.agg #[.int .u64 0,.int .u64 0],.bool false]) w:=by kernel_rfl
theorem pQ3 (v:Value)(w:World):(Instr.typeAssert (.iface 187 v) 89 187 true).run Tryz.prog w=.ok (.tuple #[v,.bool true]) w:=by kernel_rfl
theorem pQ4 (v:Value)(w:World):(Instr.typeAssert (.iface 187 v) 89 180 true).run Tryz.prog w=.ok (.tuple #[.agg #[.int .u64 0,.int .u64 0],.bool false]) w:=by kernel_rfl
theorem pQ5 (v:Value)(w:World):(Instr.typeAssert (.iface 187 v) 89 184 true).run Tryz.prog w=.ok (.tuple #[.agg #[.slice none 0 0],.bool false]) w:=by kernel_rfl
theorem qQd (v:Value)(w:World):(Instr.typeAssert (.iface 189 v) 89 189 true).run Tryz.prog w=.ok (.tuple #[v,.bool true]) w:=by kernel_rfl
theorem qQb (v:Value)(w:World):(Instr.typeAssert (.iface 189 v) 89 180 true).run Tryz.prog w=.ok (.tuple #[.agg #[.int .u64 0,.int .u64 0],.bool false]) w:=by kernel_rfl
theorem qQc (v:Value)(w:World):(Instr.typeAssert (.iface 189 v) 89 184 true).run Tryz.prog w=.ok (.tuple #[.agg #[.slice none 0 0],.bool false]) w:=by kernel_rfl
theorem qQa (v:Value)(w:World):(Instr.typeAssert (.iface 189 v) 89 187 true).run Tryz.prog w=.ok (.tuple #[.agg #[.slice none 0 0],.bool false]) w:=by kernel_rfl
theorem pQk (w:World)(B nb:Nat)(P Q:Value)(n:Ls.Net)(x:Ls.Span)(h:NetL w B nb P Q n x)(hB:B<=w.heap.size)(g:List UInt8)(lo hi:Nat)(hS:SB g lo hi)(hl:n.places.length<32) :
  Calls Tryz.prog 95 #[.pointer (some ⟨nb,0,none⟩),J3 lo hi] w (S7 w B nb P Q x (Ls.eX9 g n,Ls.fX8 n.places.length)):=by
 have hnl:=h.lt;have hb0:=C6 w (.cells #[.int .u32 (0:Nat),.int .u32 (0:Nat),.bool false] 150) (.cells #[.int .u64 lo,.int .u64 hi] 180);have hst0:=NStep.of_below nb P Q hb0;have hA0:=Ad.start h (.cells #[.int .u64 lo,.int .u64 hi] 180);have hC:=pQe _ B nb P Q n x (h.below hb0) (Nat.le_trans hB hb0.size) g lo hi hS hl;have HA:Hid _:=hA0;have HS:Hid _:=hst0;clear hst0 hA0 h hb0;have t1:=pQ7;go_enter Tryz.func95,Tryz.ntmps95;go_wp2_with fail;refine hC.mono ?_;rintro e w1 ⟨P1,Q1,rfl,hN1,hst1⟩;generalize (Ls.eX9 g n,Ls.fX8 n.places.length)=r at *;obtain⟨m1,nx⟩:=r;have hA1:=HA.out.next hst1;obtain⟨s0,s1,s2,s3⟩:=N1 hA1.res;have s30:=s3 0;have s31:=s3 1;have s32:=s3 2;have hz:=hA1.fr.1;have Hfin:Hid (∀a b c,NetL (((w1.setCell ⟨w.heap.size,0,none⟩ a).setCell ⟨w.heap.size,1,none⟩ b).setCell ⟨w.heap.size,2,none⟩ c) B nb P1 Q1 m1 x/\NStep w nb P Q (((w1.setCell ⟨w.heap.size,0,none⟩ a).setCell ⟨w.heap.size,1,none⟩ b).setCell ⟨w.heap.size,2,none⟩ c) P1 Q1):=fun a b c=>Z9 hN1 (HS.out.trans hst1) hA1.fr (Nat.le_refl _) a b c;clear hA1 s3 hN1 hst1 HA HS hC;go_wp2_with fail;exact bodyPost_ret (v:=S3 nx) (by simp[results,Tryz.results95,go_sem,s0,s1,s2]) rfl ⟨P1,Q1,rfl,Hfin.out _ _ _⟩
theorem pQm (l:List Ls.D)(hI:∀a,a∈l->Q5 a)(hln:l.length<=1048576)(w:World)(B nb:Nat)(P Q:Value)(n:Ls.Net)(x:Ls.Span)(G:Nat->Prop)(sl:Value)(vs:List Value)(h:NetL w B nb P Q n x)(hB:B<=w.heap.size)(hG:∀k,G k->Free w nb P Q k)(hs:Shows w G sl vs)(he:Each w G l vs)(hsz:n.places.length+F7 l<=31) :
  Calls Tryz.prog 95 #[.pointer (some ⟨nb,0,none⟩),N9 sl] w (S7 w B nb P Q x (Ls.go (l.foldr Ls.rcons Ls.rnil) n ⟨0,0,true⟩)):=by
 have hnl:=h.lt;have hb0:=C6 w (.cells #[.int .u32 (0:Nat),.int .u32 (0:Nat),.bool false] 150) (.cells #[sl] 184);have hst0:=NStep.of_below nb P Q hb0;have hA0:=Ad.start h (.cells #[sl] 184);have hC:=pQh l hI hln _ B nb P Q n x G sl vs (h.below hb0) (Nat.le_trans hB hb0.size) (fun k hk=>hst0.free (hG k hk)) (hs.mono (fun _ h=>h) (fun k hk=>hst0.block k (hG k hk))) (he.mono (fun _ h=>h) (fun k hk=>hst0.block k (hG k hk))) hsz;have HA:Hid _:=hA0;have HS:Hid _:=hst0;obtain⟨x1,x2,x3,rfl⟩:∃a n c,sl=.slice a n c:=by
  rcases hs.shape with⟨e,_⟩|⟨_,_,e,_⟩<;>exact⟨_,_,_,e⟩
 clear hst0 hA0 h hb0 hs he hI hG;have t1:=pQ8;have t2:=pQ9;go_enter Tryz.func95,Tryz.ntmps95;go_wp2_with fail;refine hC.mono ?_;rintro e w1 ⟨P1,Q1,rfl,hN1,hst1⟩;generalize Ls.go (l.foldr Ls.rcons Ls.rnil) n ⟨0,0,true⟩=r at *;obtain⟨m1,nx⟩:=r;have hA1:=HA.out.next hst1;obtain⟨s0,s1,s2,s3⟩:=N1 hA1.res;have s30:=s3 0;have s31:=s3 1;have s32:=s3 2;have hz:=hA1.fr.1;have Hfin:Hid (∀a b c,NetL (((w1.setCell ⟨w.heap.size,0,none⟩ a).setCell ⟨w.heap.size,1,none⟩ b).setCell ⟨w.heap.size,2,none⟩ c) B nb P1 Q1 m1 x/\NStep w nb P Q (((w1.setCell ⟨w.heap.size,0,none⟩ a).setCell ⟨w.heap.size,1,none⟩ b).setCell ⟨w.heap.size,2,none⟩ c) P1 Q1):=fun a b c=>Z9 hN1 (HS.out.trans hst1) hA1.fr (Nat.le_refl _) a b c;clear hA1 s3 hN1 hst1 HA HS hC;go_wp2_with fail;exact bodyPost_ret (v:=S3 nx) (by simp[results,Tryz.results95,go_sem,s0,s1,s2]) rfl ⟨P1,Q1,rfl,Hfin.out _ _ _⟩
theorem pQj (l:List Ls.D)(hI:∀a,a∈l->Q5 a)(hln:l.length<=1048576)(w:World)(B nb:Nat)(P Q:Value)(n:Ls.Net)(x:Ls.Span)(G:Nat->Prop)(sl:Value)(vs:List Value)(h:NetL w B nb P Q n x)(hB:B<=w.heap.size)(hG:∀k,G k->Free w nb P Q k)(hs:Shows w G sl vs)(he:Each w G l vs)(hsz:n.places.length+F7 l<=31) :
  Calls Tryz.prog 95 #[.pointer (some ⟨nb,0,none⟩),aQu sl] w (S7 w B nb P Q x (Ls.go (F0 l) n ⟨0,0,false⟩)):=by
 have hnl:=h.lt;have hb0:=C6 w (.cells #[.int .u32 (0:Nat),.int .u32 (0:Nat),.bool false] 150) (.cells #[sl] 187);have hst0:=NStep.of_below nb P Q hb0;have hA0:=Ad.start h (.cells #[sl] 187);have hC:=oQ8 l hI hln _ B nb P Q n x G sl vs (h.below hb0) (Nat.le_trans hB hb0.size) (fun k hk=>hst0.free (hG k hk)) (hs.mono (fun _ h=>h) (fun k hk=>hst0.block k (hG k hk))) (he.mono (fun _ h=>h) (fun k hk=>hst0.block k (hG k hk))) hsz;have HA:Hid _:=hA0;have HS:Hid _:=hst0;obtain⟨x1,x2,x3,rfl⟩:∃a n c,sl=.slice a n c:=by
  rcases hs.shape with⟨e,_⟩|⟨_,_,e,_⟩<;>exact⟨_,_,_,e⟩
 clear hst0 hA0 h hb0 hs he hI hG;have t1:=pQ4;have t2:=pQ5;have t3:=pQ3;go_enter Tryz.func95,Tryz.ntmps95;go_wp2_with fail;refine hC.mono ?_;rintro e w1 ⟨P1,Q1,rfl,hN1,hst1⟩;generalize Ls.go (F0 l) n ⟨0,0,false⟩=r at *;obtain⟨m1,nx⟩:=r;have hA1:=HA.out.next hst1;obtain⟨s0,s1,s2,s3⟩:=N1 hA1.res;have s30:=s3 0;have s31:=s3 1;have s32:=s3 2;have hz:=hA1.fr.1;have Hfin:Hid (∀a b c,NetL (((w1.setCell ⟨w.heap.size,0,none⟩ a).setCell ⟨w.heap.size,1,none⟩ b).setCell ⟨w.heap.size,2,none⟩ c) B nb P1 Q1 m1 x/\NStep w nb P Q (((w1.setCell ⟨w.heap.size,0,none⟩ a).setCell ⟨w.heap.size,1,none⟩ b).setCell ⟨w.heap.size,2,none⟩ c) P1 Q1):=fun a b c=>Z9 hN1 (HS.out.trans hst1) hA1.fr (Nat.le_refl _) a b c;clear hA1 s3 hN1 hst1 HA HS hC;go_wp2_with fail;exact bodyPost_ret (v:=S3 nx) (by simp[results,Tryz.results95,go_sem,s0,s1,s2]) rfl ⟨P1,Q1,rfl,Hfin.out _ _ _⟩
theorem pQl (t:Nat)(ht:t=5\/t=6\/t=7)(a:Ls.D)(hI:Q5 a)(w:World)(B nb:Nat)(P Q:Value)(n:Ls.Net)(x:Ls.Span)(G:Nat->Prop)(ty:TypeId)(y:Value)(h:NetL w B nb P Q n x)(hB:B<=w.heap.size)(hG:∀k,G k->Free w nb P Q k)(hr:Rep w G 0 a [.iface ty y])(hsz:n.places.length+Ls.dsize a<=31) :
  Calls Tryz.prog 95 #[.pointer (some ⟨nb,0,none⟩),S2 (.iface ty y) (t != 6) (t != 7)] w (S7 w B nb P Q x (Ls.add (Ls.rep t a) n)):=by
 have hnl:=h.lt;have hb0:=C6 w (.cells #[.int .u32 (0:Nat),.int .u32 (0:Nat),.bool false] 150) (.cells #[.iface ty y,.bool (t != 6),.bool (t != 7)] 189);have hst0:=NStep.of_below nb P Q hb0;have hA0:=Ad.start h (.cells #[.iface ty y,.bool (t != 6),.bool (t != 7)] 189);have hC:=pQf t ht a hI _ B nb P Q n x G ty y (h.below hb0) (Nat.le_trans hB hb0.size) (fun k hk=>hst0.free (hG k hk)) (hr.mono (fun _ h=>h) (fun k hk=>hst0.block k (hG k hk))) hsz;have HA:Hid _:=hA0;have HS:Hid _:=hst0;clear hst0 hA0 h hb0 hr hI hG ht;have t1:=qQb;have t2:=qQc;have t3:=qQa;have t4:=qQd;generalize (t != 6)=b1 at *;generalize (t != 7)=b2 at *;go_enter Tryz.func95,Tryz.ntmps95;go_wp2_with fail;refine hC.mono ?_;rintro e w1 ⟨P1,Q1,rfl,hN1,hst1⟩;generalize Ls.add (Ls.rep t a) n=r at *;obtain⟨m1,nx⟩:=r;have hA1:=HA.out.next hst1;obtain⟨s0,s1,s2,s3⟩:=N1 hA1.res;have s30:=s3 0;have s31:=s3 1;have s32:=s3 2;have hz:=hA1.fr.1;have Hfin:Hid (∀a b c,NetL (((w1.setCell ⟨w.heap.size,0,none⟩ a).setCell ⟨w.heap.size,1,none⟩ b).setCell ⟨w.heap.size,2,none⟩ c) B nb P1 Q1 m1 x/\NStep w nb P Q (((w1.setCell ⟨w.heap.size,0,none⟩ a).setCell ⟨w.heap.size,1,none⟩ b).setCell ⟨w.heap.size,2,none⟩ c) P1 Q1):=fun a b c=>Z9 hN1 (HS.out.trans hst1) hA1.fr (Nat.le_refl _) a b c;clear hA1 s3 hN1 hst1 HA HS hC;go_wp2_with fail;exact bodyPost_ret (v:=S3 nx) (by simp[results,Tryz.results95,go_sem,s0,s1,s2]) rfl ⟨P1,Q1,rfl,Hfin.out _ _ _⟩
theorem hQ3 (d:Ls.D)(hI:∀a,dn a<dn d->Q5 a)(hlen:dn d<=1048576):Q5 d:=by
 intro w B nb P Q n x G ty y hN hB hG h hsz;rcases h.at0 with⟨s,lo,hi,hS,rfl,hv⟩|⟨t,a,v',ht,h1,rfl,hv⟩|⟨sl,vs',hs,h1,hv⟩|⟨sl,vs',hs,h1,hv⟩<;>rw[hv]<;>clear h
 ·unfold Ls.add
  rw[Ls.iX8];rw[Ls.eX3]at hsz;exact pQk w B nb P Q n x hN hB s lo hi hS (by omega)
 ·obtain⟨ty',y',rfl⟩:=h1.iface
  rw[Ls.eXu]at hsz;exact pQl t ht a (hI a (by rw[aQi];omega)) w B nb P Q n x G ty' y' hN hB hG h1 hsz
 ·obtain⟨l,rfl,he⟩:=h1.things rfl
  rw[mQi]at hsz;have hl:=mQh l;unfold Ls.add;rw[Ls.lXc h1.wd rfl];exact pQm l (fun a ha=>hI a (iQ9 l a ha)) (by omega) w B nb P Q n x G sl vs' hN hB hG hs he hsz
 ·obtain⟨l,hne,rfl,he⟩:=h1.sides rfl
  rw[mQf l hne]at hsz;have hl:=iQq l;unfold Ls.add;rw[Ls.iX0 h1.wd rfl];exact pQj l (fun a ha=>hI a (iQ8 l a ha)) (by omega) w B nb P Q n x G sl vs' hN hB hG hs he hsz
theorem pQi (k:Nat):∀d,dn d<=k->dn d<=1048576->Q5 d:=by
 induction k with
 | zero=>intro d hd h;exact hQ3 d (fun a ha=>by omega) h
 | succ k ih=>intro d hd h;exact hQ3 d (fun a ha=>ih a (by omega) (by omega)) h
def H8:Ls.Net:=⟨[],[]⟩
def cQ3:Ls.Span:=⟨0,0,false⟩
theorem wQt (w:World):NetL (w.alloc (.cells #[.slice none 0 0,.slice none 0 0,.int .u32 ((0:Nat):Int),.int .u32 ((0:Nat):Int),.bool false] 152)) w.heap.size w.heap.size (.slice none 0 0) (.slice none 0 0) H8 cQ3:=by
 refine⟨heap_alloc_new _ _,Nat.le_refl _,rfl,by simp[H8],⟨[],rfl,by simp,World.ownsRow_nil _ _ _ _⟩,World.ownsRow_nil _ _ _ _,by simp[H8],by simp[Value.ownBlock],by simp[Value.ownBlock],.inl rfl⟩
def nQz (w:World)(d:Ls.D):Ending->World->Prop:=fun e w'=>
 ∃nb P Q,e=.returned (.pointer (some ⟨nb,0,none⟩))/\NetL w' w.heap.size nb P Q (Ls.add d H8).1 (Ls.add d H8).2/\Below w.heap.size w w'
theorem nQ0 (d:Ls.D)(hd:dn d<=1048576)(h24:Ls.dsize d<=24)(w:World)(G:Nat->Prop)(hG:Old w G)(ty:TypeId)(y:Value)(h:Rep w G 0 d [.iface ty y]) :
  Calls Tryz.prog 61 #[.iface ty y] w (nQz w d):=by
 have hN0:=wQt w;have hb0:=A5 w (.cells #[.slice none 0 0,.slice none 0 0,.int .u32 ((0:Nat):Int),.int .u32 ((0:Nat):Int),.bool false] 152);have hC:=pQi (dn d) d (Nat.le_refl _) hd _ w.heap.size w.heap.size _ _ H8 cQ3 G ty y hN0 hb0.size (fun k hk=>⟨Nat.lt_of_lt_of_le (hG k hk) hb0.size,by have:=hG k hk;omega,by simp[Value.ownBlock],by simp[Value.ownBlock]⟩) (h.later hG hb0) (by simp[H8];omega);have HN:Hid _:=hN0;clear hN0 h;go_enter Tryz.func61,Tryz.ntmps61;go_wp2_with fail;refine hC.mono ?_;rintro e w1 ⟨P1,Q1,rfl,hN1,hst1⟩;clear hC;generalize hr:Ls.add d H8=r at *;obtain⟨m1,nx⟩:=r;have Hr:Hid (Ls.add d H8=(m1,nx)):=hr;clear hr;have hl1:=hN1.lies;have f2:=hN1.fr 2;have f3:=hN1.fr 3;have f4:=hN1.fr 4;have c2:w1.cell? ⟨w.heap.size,2,none⟩=some (.int .u32 cQ3.first):=by simp[World.cell?,hl1]
 have c3:w1.cell? ⟨w.heap.size,3,none⟩=some (.int .u32 cQ3.last):=by simp[World.cell?,hl1]
 have c4:w1.cell? ⟨w.heap.size,4,none⟩=some (.bool cQ3.empty):=by simp[World.cell?,hl1]
 have hlt:=hN1.lt;have HN1:Hid _:=hN1;have Hl1:Hid _:=hl1;have Hst:Hid _:=hst1;clear hN1 hst1 hl1;go_wp2_with fail;go_ret;refine⟨w.heap.size,P1,Q1,rfl,?_,?_⟩
 ·rw[Hr.out]
  have hgr:∀(o:Nat) (v:Value) (W:World),W.grownBy (W.setCell ⟨w.heap.size,o,none⟩ v) (some w.heap.size):=fun o v W=>T9 W _ o v;have hN:=HN1.out;obtain⟨los,h1,h2,h3⟩:=hN.pls;refine⟨?_,hN.base,hN.good,hN.few,⟨los,h1,h2,?_⟩,?_,hN.small,hN.apP,hN.apQ,hN.apPQ⟩
  ·have:=Hl1.out
   simp[World.setCell,Array.getElem?_modify,this]
  ·exact((h3.kept (hgr _ _ _) (.inr hN.apP)).kept (hgr _ _ _) (.inr hN.apP)).kept (hgr _ _ _) (.inr hN.apP)
  ·exact((hN.bhs.kept (hgr _ _ _) (.inr hN.apQ)).kept (hgr _ _ _) (.inr hN.apQ)).kept (hgr _ _ _) (.inr hN.apQ)
 ·have hb1:Below w.heap.size w w1:=by
   have hs:=Hst.out;refine⟨hs.os,hs.tape,hs.output,Nat.le_trans hb0.size hs.size,fun k hk=>(hs.block k ⟨Nat.lt_of_lt_of_le hk hb0.size,by omega,by simp[Value.ownBlock],by simp[Value.ownBlock]⟩).trans (hb0.block k hk)⟩
  exact((hb1.setCell (p:=⟨w.heap.size,2,none⟩) (Nat.le_refl _) _).setCell (p:=⟨w.heap.size,3,none⟩) (Nat.le_refl _) _).setCell (p:=⟨w.heap.size,4,none⟩) (Nat.le_refl _) _
end Go.Proofs.YtfklinjaajafgaaGreatDoor
namespace Ls
theorem kXs {R:Rules}{o a L:Nat->Bool}{c:UInt8}(ha:∀q,a q=(o q&&R.pl q c)):lXs R o L c []↔∃q,a q=true/\L q=true:=by
 unfold lXs;constructor
 ·rintro ⟨q,h1,h2,h3⟩;exact⟨q,by rw[ha,h1,h2];rfl,h3⟩
 ·rintro ⟨q,h1,h2⟩
  rw[ha,Bool.and_eq_true]at h1;exact⟨q,h1.1,h1.2,h2⟩
theorem kXt {R:Rules}{o a o' L:Nat->Bool}{c d:UInt8}{u:List UInt8}(ha:∀q,a q=(o q&&R.pl q c))(ho:∀q',o' q'=true↔∃q,a q=true/\R.E q q'=true):lXs R o L c (d::u)↔lXs R o' L d u:=by
 unfold lXs;constructor
 ·rintro ⟨q,h1,h2,q',h3,h4,h5⟩
  exact⟨q',(ho q').2 ⟨q,by rw[ha,h1,h2];rfl,h3⟩,h4,h5⟩
 ·rintro ⟨q',h1,h2,h3⟩
  obtain⟨q,h4,h5⟩:=(ho q').1 h1;rw[ha,Bool.and_eq_true]at h4;exact⟨q,h4.1,h4.2,q',h5,h2,h3⟩
end Ls
namespace Go.Proofs.YtfklinjaajafgaaGreatDoor
open Go.RowKit
theorem tQn (los:List (Nat × Nat))(k:Nat)(hk:k<los.length):(los.flatMap fun a=>[Value.int .u64 a.1,Value.int .u64 a.2])[k*2]?=some (.int .u64 los[k].1)/\(los.flatMap fun a=>[Value.int .u64 a.1,Value.int .u64 a.2])[k*2+1]?=some (.int .u64 los[k].2):=by
 induction los generalizing k with
 | nil=>simp at hk
 | cons b l ih=>
  cases k with
  | zero=>exact⟨rfl,rfl⟩
  | succ k=>
   have:=ih k (by simpa using hk);rw[show (k+1)*2=k*2+2 from by omega];simpa using this
theorem NetL.placeAt {w:World}{B nb g cap:Nat}{Q:Value}{n:Ls.Net}{x:Ls.Span}(h:NetL w B nb (.slice (some ⟨g,0,none⟩) n.places.length cap) Q n x){k:Nat}(hk:k<n.places.length) :
  ∃lo hi:Nat,w.cell? ⟨g,k*2,none⟩=some (.int .u64 lo)/\w.cell? ⟨g,k*2+1,none⟩=some (.int .u64 hi)/\SB (n.places.getD k []) lo hi:=by
 obtain⟨los,h1,h2,h3⟩:=h.pls;have hk2:k<los.length:=by omega
 obtain⟨e1,e2⟩:=tQn los k hk2;refine⟨los[k].1,los[k].2,?_,?_,h2 k los[k] (List.getElem?_eq_getElem hk2)⟩
 ·rw[h3.cellAt (k*2) (by omega)];exact e1
 ·rw[h3.cellAt (k*2+1) (by omega)];exact e2
theorem tQ5 (c:UInt8):Ls.has [] c=false:=rfl
theorem bXz (w:World)(B nb:Nat)(P Q:Value)(n:Ls.Net)(x:Ls.Span)(h:NetL w B nb P Q n x)(o:Nat)(ho:o<4294967296)(c:UInt8) :
  Calls Tryz.prog 109 #[.pointer (some ⟨nb,0,none⟩),.int .u32 o,.int .u8 c.toNat] w fun e w'=>∃t:Nat,e=.returned (.int .u32 t)/\t<4294967296/\(∀q,t.testBit q=(o.testBit q&&(Ls.fXa n).pl q c))/\Below w.heap.size w w':=by
 have hfew:=h.few;have hnl:=h.lt;have c0:=h.c0;obtain⟨pa,pc,rfl⟩:=h.shapeP;have Hh:Hid _:=h;clear h;go_enter Tryz.func109,Tryz.ntmps109;go_wp2_with fail;go_loopw [7,15] (fun v i wr=>∃k t:Nat,k<=n.places.length/\i=.int .i64 k/\v=.int .u32 t/\t<4294967296/\(∀q,t.testBit q=(decide (q<k)&&(o.testBit q&&(Ls.fXa n).pl q c)))/\Below w.heap.size w wr) (fun _ i _=>n.places.length-(intOf i).toNat)
 case atStart=>exact⟨0,0,Nat.zero_le _,rfl,rfl,by omega,by simp,Below.refl _ _⟩
 case round=>
  obtain⟨k,t,hk,rfl,rfl,ht,hbit,hb⟩:=hrel;have Hbit:Hid (∀q,t.testBit q=(decide (q<k)&&(o.testBit q&&(Ls.fXa n).pl q c))):=hbit;clear hbit
  by_cases hlt:k<n.places.length
  ·obtain⟨g,rfl⟩:∃g,pa=some ⟨g,0,none⟩:=by
    obtain⟨los,h1,h2,h3⟩:=Hh.out.pls;obtain⟨g,cap,e,_⟩:=h3.form (by omega);injection e with e1;exact⟨g,e1⟩
   obtain⟨lo,hi,d0,d1,hSB⟩:=(Hh.out.below hb).placeAt hlt;have hH:=aQ3 o k ho (by omega) (wr.alloc (.cells #[.int .u64 lo,.int .u64 hi] 157));have hno:(Ls.fXa n).pl k c=Ls.has (n.places.getD k []) c:=rfl;have step:∀t':Nat,(∀q,t'.testBit q=(t.testBit q||(decide (q=k)&&(o.testBit k&&Ls.has (n.places.getD k []) c))))->∀q,t'.testBit q=(decide (q<k+1)&&(o.testBit q&&(Ls.fXa n).pl q c)):=by
    intro t' h1 q;rw[h1,Hbit.out q]
    by_cases e:q=k
    ·subst e;rw[hno];simp
    ·have e2:decide (q<k+1)=decide (q<k):=by rw[decide_eq_decide];omega
     rw[e2];simp[e]
   have Hstep:Hid _:=step;clear step hno;cases hob:o.testBit k with
   | false=>
    rw[hob]at hH;have HR:Hid _:=Hstep.out t (fun q=>by rw[hob];simp);clear hob;go_wp2_with fail;refine hH.mono ?_;rintro e w1 ⟨rfl,rfl⟩;go_wp2_with fail;go_roundw
    case rel=>exact⟨k+1,t,by omega,by go_num,rfl,ht,HR.out,Below.join hb (A5 _ _)⟩
    case measure=>simp[intOf];omega
   | true=>
    rw[hob]at hH;have hG:=bXa (n.places.getD k []) lo hi c hSB (wr.alloc (.cells #[.int .u64 lo,.int .u64 hi] 157));have hnl2:=heap_alloc_new wr (.cells #[.int .u64 lo,.int .u64 hi] 157);cases hhb:Ls.has (n.places.getD k []) c with
    | false=>
     rw[hhb]at hG;have HR:Hid _:=Hstep.out t (fun q=>by rw[hob,hhb];simp);clear hob hhb hnl2;go_wp2_with fail;refine hH.mono ?_;rintro e w1 ⟨rfl,rfl⟩;go_wp2_with fail;refine hG.mono ?_;rintro e w2 ⟨rfl,hb2⟩;go_wp2_with fail;go_roundw
     case rel=>exact⟨k+1,t,by omega,by go_num,rfl,ht,HR.out,Below.join hb (Below.join (A5 _ _) hb2)⟩
     case measure=>simp[intOf];omega
    | true=>
     rw[hhb]at hG;have HR:Hid _:=Hstep.out (t ||| 2 ^ k) (fun q=>by
      rw[hob,hhb,Nat.testBit_or,Nat.testBit_two_pow]
      by_cases e:k=q
      ·simp[e]
      ·simp[e,Ne.symm e])
     have hp:=gQ8 k (by omega);have ho2:=aQl t (2 ^ k) ht hp;have HO:Hid _:=u32_or_nat t (2 ^ k) ht hp;have HW:Hid ((2:Int) ^ k % 4294967296=((2 ^ k:Nat):Int)):=by
      have:=nQe k (by omega);rw[IntKind.wrap_u32]at this;exact this
     clear hob hhb hnl2;go_wp2_with fail;refine hH.mono ?_;rintro e w1 ⟨rfl,rfl⟩;go_wp2_with fail;refine hG.mono ?_;rintro e w2 ⟨rfl,hb2⟩;go_wp2_with fail;rw[HW.out,HO.out];go_roundw
     case rel=>exact⟨k+1,t ||| 2 ^ k,by omega,by go_num,rfl,ho2,HR.out,Below.join hb (Below.join (A5 _ _) hb2)⟩
     case measure=>simp[intOf];omega
  ·have hk1:k=n.places.length:=by omega
   go_wp2_with fail;go_ret;refine⟨t,rfl,ht,fun q=>?_,hb⟩;rw[Hbit.out q];rcases Nat.lt_or_ge q k with h1|h1
   ·simp[h1]
   ·have:(Ls.fXa n).pl q c=false:=by
     show Ls.has (n.places.getD q []) c=false;rw[List.getD_eq_getElem?_getD,List.getElem?_eq_none (by omega)];exact tQ5 c
    rw[this];simp
theorem qQg (w:World)(B nb:Nat)(P Q:Value)(n:Ls.Net)(x:Ls.Span)(h:NetL w B nb P Q n x)(a:Nat)(ha:a<4294967296) :
  Calls Tryz.prog 110 #[.pointer (some ⟨nb,0,none⟩),.int .u32 a] w fun e w'=>∃t:Nat,e=.returned (.int .u32 t)/\t<4294967296/\(∀q',t.testBit q'=true↔∃q,a.testBit q=true/\(Ls.fXa n).E q q'=true)/\Below w.heap.size w w':=by
 have hfew:=h.few;have hgd:=h.good;unfold Ls.iXu at hgd;have hnl:=h.lt;have c1:=h.c1;obtain⟨qa,qc,rfl⟩:=h.shapeQ';have Hh:Hid _:=h;clear h;go_enter Tryz.func110,Tryz.ntmps110;go_wp2_with fail;go_loopw [5,13] (fun v i wr=>∃k t:Nat,k<=n.places.length/\i=.int .i64 k/\v=.int .u32 t/\t<4294967296/\(∀q',t.testBit q'=true↔∃q,q<k/\a.testBit q=true/\(Ls.fXa n).E q q'=true)/\Below w.heap.size w wr) (fun _ i _=>n.places.length-(intOf i).toNat)
 case atStart=>exact⟨0,0,Nat.zero_le _,rfl,rfl,by omega,by simp,Below.refl _ _⟩
 case round=>
  obtain⟨k,t,hk,rfl,rfl,ht,hbit,hb⟩:=hrel;have Hbit:Hid (∀q',t.testBit q'=true↔∃q,q<k/\a.testBit q=true/\(Ls.fXa n).E q q'=true):=hbit;clear hbit
  by_cases hlt:k<n.places.length
  ·obtain⟨g,rfl⟩:∃g,qa=some ⟨g,0,none⟩:=by
    obtain⟨g,cap,e,_⟩:=Hh.out.bhs.form (by omega);injection e with e1;exact⟨g,e1⟩
   have hkb:k<n.behind.length:=by omega
   have hcell:wr.cell? ⟨g,k,none⟩=some (.int .u32 n.behind[k]):=by
    have h1:=(Hh.out.below hb).bhs.cellAt k (by show k<n.places.length*1;omega);rw[h1,List.getElem?_map,List.getElem?_eq_getElem hkb];rfl
   have hsm:n.behind[k]<4294967296:=Hh.out.small _ (List.getElem_mem _);have hH:=aQ3 a k ha (by omega) wr;have hE:∀q',(Ls.fXa n).E k q'=n.behind[k].testBit q':=fun q'=>by
    show (n.behind.getD k 0).testBit q'=_;rw[List.getD_eq_getElem?_getD,List.getElem?_eq_getElem hkb];rfl
   have HE:Hid _:=hE;clear hE;cases hab:a.testBit k with
   | false=>
    rw[hab]at hH;have HR:Hid (∀q',t.testBit q'=true↔∃q,q<k+1/\a.testBit q=true/\(Ls.fXa n).E q q'=true):=by
     intro q';rw[Hbit.out q'];constructor
     ·rintro ⟨q,h1,h2⟩;exact⟨q,by omega,h2⟩
     ·rintro ⟨q,h1,h2,h3⟩
      refine⟨q,?_,h2,h3⟩;rcases Nat.lt_or_ge q k with h4|h4
      ·exact h4
      ·obtain rfl:q=k:=by omega
       rw[hab]at h2;cases h2
    clear hab;go_wp2_with fail;refine hH.mono ?_;rintro e w1 ⟨rfl,rfl⟩;go_wp2_with fail;go_roundw
    case rel=>exact⟨k+1,t,by omega,by go_num,rfl,ht,HR.out,hb⟩
    case measure=>simp[intOf];omega
   | true=>
    rw[hab]at hH;have HR:Hid (∀q',(t ||| n.behind[k]).testBit q'=true↔∃q,q<k+1/\a.testBit q=true/\(Ls.fXa n).E q q'=true):=by
     intro q';rw[Nat.testBit_or,Bool.or_eq_true,Hbit.out q',<-HE.out q'];constructor
     ·rintro (⟨q,h1,h2⟩|h1)
      ·exact⟨q,by omega,h2⟩
      ·exact⟨k,by omega,hab,h1⟩
     ·rintro ⟨q,h1,h2,h3⟩
      rcases Nat.lt_or_ge q k with h4|h4
      ·exact .inl ⟨q,h4,h2,h3⟩
      ·obtain rfl:q=k:=by omega
       exact .inr h3
    have HO:Hid _:=u32_or_nat t n.behind[k] ht hsm;have ho2:=aQl t n.behind[k] ht hsm;clear hab;go_wp2_with fail;refine hH.mono ?_;rintro e w1 ⟨rfl,rfl⟩;go_wp2_with fail;rw[HO.out];go_roundw
    case rel=>exact⟨k+1,t ||| n.behind[k],by omega,by go_num,rfl,ho2,HR.out,hb⟩
    case measure=>simp[intOf];omega
  ·have hk1:k=n.places.length:=by omega
   go_wp2_with fail;go_ret;refine⟨t,rfl,ht,fun q'=>?_,hb⟩;rw[Hbit.out q'];constructor
   ·rintro ⟨q,_,h2⟩;exact⟨q,h2⟩
   ·rintro ⟨q,h2,h3⟩
    refine⟨q,?_,h2,h3⟩;rcases Nat.lt_or_ge q k with h4|h4
    ·exact h4
    ·have h5:(n.behind.getD q 0).testBit q'=true:=h3
     rw[List.getD_eq_getElem?_getD,List.getElem?_eq_none (by omega)]at h5;simp at h5
def cQf (n:Ls.Net)(x:Ls.Span):List UInt8->Prop
 | []=>x.empty=true
 | c::u=>Ls.lXs (Ls.fXa n) (Ls.fb x) (Ls.lb x) c u
theorem pQ0 (a b:Nat)(ha:a<4294967296)(hb:b<4294967296):(bits .and .u32 (a:Int) (b:Int) != 0)=true↔∃q,a.testBit q=true/\b.testBit q=true:=by
 rw[u32_and_nat a b ha hb];constructor
 ·intro h
  have h1:a &&& b≠0:=by intro e;rw[e]at h;simp at h
  obtain⟨q,hq⟩:=Nat.exists_testBit_of_ne_zero h1;rw[Nat.testBit_and,Bool.and_eq_true]at hq;exact⟨q,hq⟩
 ·rintro ⟨q,h1,h2⟩
  rw[bne_iff_ne];intro e;have e2:a &&& b=0:=by omega
  have:(a &&& b).testBit q=true:=by rw[Nat.testBit_and,h1,h2];rfl
  rw[e2]at this;simp at this
def bQc (n:Ls.Net)(x:Ls.Span)(s:ByteArray)(k o a:Nat):Prop:=
 (k<s.size->(cQf n x s.data.toList↔Ls.lXs (Ls.fXa n) (fun q=>o.testBit q) (Ls.lb x) (nx s k) (rest s (k+1))))/\
 (k=s.size->(cQf n x s.data.toList↔∃q,a.testBit q=true/\x.last.testBit q=true))
theorem bXk (n:Ls.Net)(x:Ls.Span)(s:ByteArray)(h:0<s.size):bQc n x s 0 x.first 0:=by
 refine⟨fun _=>?_,fun e=>by omega⟩;have h1:s.data.toList=nx s 0::rest s (0+1):=D3 (i:=0) h;rw[h1];exact Iff.rfl
theorem bXj {n:Ls.Net}{x:Ls.Span}{s:ByteArray}{k o a a' o':Nat}(h:bQc n x s k o a)(hk:k<s.size)(ha:∀q,a'.testBit q=(o.testBit q&&(Ls.fXa n).pl q (nx s k)))(ho:∀q',o'.testBit q'=true↔∃q,a'.testBit q=true/\(Ls.fXa n).E q q'=true):bQc n x s (k+1) o' a':=by
 refine⟨fun h1=>(h.1 hk).trans ?_,fun h1=>(h.1 hk).trans ?_⟩
 ·rw[D3 h1]
  exact Ls.kXt (a:=fun q=>a'.testBit q) ha ho
 ·rw[N8 (by omega)]
  exact Ls.kXs (a:=fun q=>a'.testBit q) ha
theorem wQa (s:ByteArray):∀m i r,s.size-i<=m->r≠[]->ByteArray.toList.loop s i r≠[]:=by
 intro m;induction m with
 | zero=>
  intro i r h hr;rw[ByteArray.toList.loop.eq_1,if_neg (by omega)];simpa using hr
 | succ m ih=>
  intro i r h hr;rw[ByteArray.toList.loop.eq_1];split
  ·exact ih _ _ (by omega) (by simp)
  ·simpa using hr
theorem cXk {s:ByteArray}(h:0<s.size):s.toList.isEmpty=false:=by
 have:s.toList≠[]:=by
  unfold ByteArray.toList;rw[ByteArray.toList.loop.eq_1,if_pos h];exact wQa s _ _ _ (Nat.le_refl _) (by simp)
 cases hh:s.toList with
 | nil=>exact absurd hh this
 | cons a l=>rfl
theorem nQy (w:World)(B nb:Nat)(P Q:Value)(n:Ls.Net)(x:Ls.Span)(h:NetL w B nb P Q n x)(hf:x.first<4294967296)(hl:x.last<4294967296)(s:ByteArray)(hs:s.size<=1048576) :
  Calls Tryz.prog 83 #[.pointer (some ⟨nb,0,none⟩),.string s] w fun e w'=>∃b:Bool,e=.returned (.bool b)/\(b=true↔cQf n x s.data.toList)/\Below w.heap.size w w':=by
 have hnl:=h.lt;have hli:=h.lies;have c2:w.cell? ⟨nb,2,none⟩=some (.int .u32 x.first):=by simp[World.cell?,hli]
 have c3:w.cell? ⟨nb,3,none⟩=some (.int .u32 x.last):=by simp[World.cell?,hli]
 have c4:w.cell? ⟨nb,4,none⟩=some (.bool x.empty):=by simp[World.cell?,hli]
 have Hh:Hid _:=h;clear h hli;rcases Nat.eq_zero_or_pos s.size with h0|h0
 ·have hse:s=⟨#[]⟩:=ByteArray.ext (Array.eq_empty_of_size_eq_zero h0)
  subst hse;go_enter Tryz.func83,Tryz.ntmps83;go_wp2_with fail;go_ret;exact⟨x.empty,rfl,Iff.rfl,Below.refl _ _⟩
 ·have hemp:=cXk h0
  go_enter Tryz.func83,Tryz.ntmps83;go_wp2_with fail;go_loopw [5,6,22] (fun va vo i wr=>∃k o a:Nat,k<=s.size/\i=.int .i64 k/\va=.int .u32 a/\vo=.int .u32 o/\a<4294967296/\o<4294967296/\bQc n x s k o a/\Below w.heap.size w wr) (fun _ _ i _=>s.size-(intOf i).toNat)
  case atStart=>exact⟨0,x.first,0,Nat.zero_le _,rfl,rfl,rfl,by omega,hf,bXk n x s h0,Below.refl _ _⟩
  case round=>
   obtain⟨k,o,a,hk,rfl,rfl,rfl,ha,ho,hst,hb⟩:=hrel;have Hst:Hid (bQc n x s k o a):=hst;clear hst;have hN:=Hh.out.below hb
   by_cases hlt:k<s.size
   ·have hd2:(k:Int)<(s.size:Int):=by omega
    have hT:=bXz wr B nb P Q n x hN o ho (nx s k);have hx:nx s k=s[k]:=L3 hlt;rw[hx]at hT;have Hx:Hid _:=hx;have HN:Hid _:=hN;clear hN hx;go_wp2_with fail;refine hT.mono ?_;rintro e w1 ⟨a',rfl,ha',hbit,hb1⟩;have Hbit:Hid _:=hbit;clear hbit hT;go_wp2_with fail;refine(qQg w1 B nb P Q n x (HN.out.below hb1) a' ha').mono ?_;rintro e w2 ⟨o',rfl,ho',hbit2,hb2⟩;have Hst2:Hid (bQc n x s (k+1) o' a'):=bXj Hst.out hlt (by rw[Hx.out];exact Hbit.out) hbit2;clear hbit2;go_wp2_with fail;go_roundw
    case rel=>exact⟨k+1,o',a',by omega,by go_num,rfl,rfl,ha',ho',Hst2.out,Below.join hb (Below.join hb1 hb2)⟩
    case measure=>simp[intOf];omega
   ·have hk1:k=s.size:=by omega
    have hli:=hN.lies;have d3:wr.cell? ⟨nb,3,none⟩=some (.int .u32 x.last):=by simp[World.cell?,hli]
    clear hN hli;have HA:Hid _:=pQ0 a x.last ha hl;go_wp2_with fail;go_ret;exact⟨_,rfl,HA.out.trans (Hst.out.2 hk1).symm,hb⟩
theorem kQd {d:Ls.D}(h:Ls.Wd 0 d)(u:List UInt8):cQf (Ls.add d H8).1 (Ls.add d H8).2 u↔Ls.inL (Ls.dXu d) u:=by
 have h1:=(Ls.lX6 h H8 rfl).sem;cases u with
 | nil=>exact h1.nil.symm
 | cons c u=>exact(h1.cons c u).symm
end Go.Proofs.YtfklinjaajafgaaGreatDoor
