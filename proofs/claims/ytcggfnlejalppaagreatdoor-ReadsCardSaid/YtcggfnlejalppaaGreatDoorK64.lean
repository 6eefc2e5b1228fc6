import Derived.Test.YtcggfnlejalppaaGreatDoorK63
set_option maxRecDepth 100000
set_option maxHeartbeats 4000000
namespace Go.Proofs.YtcggfnlejalppaaGreatDoor
open Go.RowKit
theorem iQ2 (p:Ls.D)(ws:List UInt8)(a b:Ls.Ln)(ha:I6 a)(hb:I6 b)(hSa:D4 a)(d1:Ls.BdL 120 (Ls.wQx a)):I6 ⟨5,p,ws,[a,b]⟩:=by
 intro s y x w G hs hG h;rw[NV]at h;obtain⟨hv,g,v1,u1,v2,u2,hg,rfl,hli,hna,hnb⟩:=h;obtain⟨y1,y2,y3,rfl⟩:=PV.slice _ _ hv;obtain⟨⟨b1,b2,b3,rfl⟩,t1,t2,t3,rfl⟩:=NV.slices _ _ _ hna;obtain⟨⟨c1,c2,c3,rfl⟩,f1,f2,f3,rfl⟩:=NV.slices _ _ _ hnb;have hgl:=hG g hg;have hb0:=A4 w (A8 5 (Ls.wQu p) ws (.slice y1 y2 y3) (.slice (some ⟨g,0,none⟩) 2 2));have HNA:Hid (∀W,Below w.heap.size w W->NV W G a (.slice b1 b2 b3) (.slice t1 t2 t3)):=fun W hW=>hna.below hW (fun j hj=>hG j hj) (fun _ h=>h);have HNB:Hid (∀W,Below w.heap.size w W->NV W G b (.slice c1 c2 c3) (.slice f1 f2 f3)):=fun W hW=>hnb.below hW (fun j hj=>hG j hj) (fun _ h=>h);have HO:Hid (∀W,Below w.heap.size w W->Old W G):=fun W hW j hj=>Nat.lt_of_lt_of_le (hG j hj) hW.size;have HSS:Hid (∀W:World,Below (w.alloc (A8 5 (Ls.wQu p) ws (.slice y1 y2 y3) (.slice (some ⟨g,0,none⟩) 2 2))).heap.size (w.alloc (A8 5 (Ls.wQu p) ws (.slice y1 y2 y3) (.slice (some ⟨g,0,none⟩) 2 2))) W->W.cell? ⟨w.heap.size,0,none⟩=some (.int .i64 5)/\W.cell? ⟨w.heap.size,5,none⟩=some (.slice (some ⟨g,0,none⟩) 2 2)/\W.cell? ⟨g,0,none⟩=some (.int .i64 a.kind)/\W.cell? ⟨g,1,none⟩=some (.int .i64 (Ls.wQu a.p).kind)/\W.cell? ⟨g,2,none⟩=some (.string ⟨(Ls.wQu a.p).signs.toArray⟩)/\W.cell? ⟨g,3,none⟩=some (.slice b1 b2 b3)/\W.cell? ⟨g,4,none⟩=some (.string ⟨a.w.toArray⟩)/\W.cell? ⟨g,5,none⟩=some (.slice t1 t2 t3)/\W.cell? ⟨g,6,none⟩=some (.int .i64 b.kind)/\W.cell? ⟨g,7,none⟩=some (.int .i64 (Ls.wQu b.p).kind)/\W.cell? ⟨g,8,none⟩=some (.string ⟨(Ls.wQu b.p).signs.toArray⟩)/\W.cell? ⟨g,9,none⟩=some (.slice c1 c2 c3)/\W.cell? ⟨g,10,none⟩=some (.string ⟨b.w.toArray⟩)/\W.cell? ⟨g,11,none⟩=some (.slice f1 f2 f3)):=fun W hW=>by
  have l1:LiesL W w.heap.size [.int .i64 5,.int .i64 (Ls.wQu p).kind,.string ⟨(Ls.wQu p).signs.toArray⟩,.slice y1 y2 y3,.string ⟨ws.toArray⟩,.slice (some ⟨g,0,none⟩) 2 2]:=(I0 w 5 (Ls.wQu p) ws (.slice y1 y2 y3) (.slice (some ⟨g,0,none⟩) 2 2)).of_block (hW.block _ (by simp));have l2:LiesL W g (D2 a (.slice b1 b2 b3) (.slice t1 t2 t3)++D2 b (.slice c1 c2 c3) (.slice f1 f2 f3)):=hli.of_block ((hW.block g (by simp;omega)).trans (hb0.block g hgl));exact⟨l1.cell 0,l1.cell 5,l2.cell 0,l2.cell 1,l2.cell 2,l2.cell 3,l2.cell 4,l2.cell 5,l2.cell 6,l2.cell 7,l2.cell 8,l2.cell 9,l2.cell 10,l2.cell 11⟩
 have HB0:Hid _:=hb0;have HXa:Hid (∀W,Below w.heap.size w W->Calls Tryz.prog 45 #[(Value.agg #[.int .i64 a.kind,.int .i64 (Ls.wQu a.p).kind,.string ⟨(Ls.wQu a.p).signs.toArray⟩,.slice b1 b2 b3,.string ⟨a.w.toArray⟩,.slice t1 t2 t3])] W fun e w'=>∃x1 x2 x3,e=.returned (A7 (Ls.wQx a) (.slice x1 x2 x3))/\Below W.heap.size W w'/\∀W',Below w'.heap.size w' W'->PV W' (fun j=>G j\/(w.heap.size<=j/\j<W'.heap.size)) (Ls.wQx a) (.slice x1 x2 x3)):=by
  intro W hW;refine(hSa _ _ W G (HO.out _ hW) (HNA.out _ hW)).mono ?_;rintro e w' ⟨v,rfl,hx,hbx⟩;obtain⟨x1,x2,x3,rfl⟩:=PV.slice _ _ hx;refine⟨x1,x2,x3,rfl,hbx,fun W' hW'=>hx.below hW' (fun j hj=>?_) (fun j hj=>?_)⟩
  ·rcases hj with hj|hj
   ·exact HO.out _ (Below.join hW hbx) j hj
   ·exact hj.2
  ·rcases hj with hj|hj
   ·exact .inl hj
   ·exact .inr ⟨Nat.le_trans hW.size hj.1,Nat.lt_of_lt_of_le hj.2 hW'.size⟩
 have HE:Hid (A9 ⟨5,p,ws,[a,b]⟩ s.data.toList=if Ls.is (Ls.wQx a) s.data.toList=true then A9 a s.data.toList else A9 b s.data.toList):=by show _=_;simp[A9]
 generalize hr:A9 ⟨5,p,ws,[a,b]⟩ s.data.toList=r at *;have HIs:Hid (∀W x1 x2 x3,Below w.heap.size w W->PV W (fun j=>G j\/(w.heap.size<=j/\j<W.heap.size)) (Ls.wQx a) (.slice x1 x2 x3)->Calls Tryz.prog 74 #[A7 (Ls.wQx a) (.slice x1 x2 x3),.string s] W fun e w'=>e=.returned (.bool (Ls.is (Ls.wQx a) s.data.toList))/\Below W.heap.size W w'):=by
  intro W x1 x2 x3 hW h1;exact Y2 _ d1 (by omega) s (by omega) _ W _ (fun j hj=>by
   rcases hj with hj|hj
   ·exact HO.out _ hW j hj
   ·exact hj.2) h1
 have HGa:Hid (∀W,Below w.heap.size w W->Calls Tryz.prog 49 #[(Value.agg #[.int .i64 a.kind,.int .i64 (Ls.wQu a.p).kind,.string ⟨(Ls.wQu a.p).signs.toArray⟩,.slice b1 b2 b3,.string ⟨a.w.toArray⟩,.slice t1 t2 t3]),.string s] W fun e w'=>e=.returned (.string ⟨(A9 a s.data.toList).toArray⟩)/\Below W.heap.size W w'):=fun W hW=>ha s _ _ W G hs (HO.out _ hW) (HNA.out _ hW);have HGb:Hid (∀W,Below w.heap.size w W->Calls Tryz.prog 49 #[(Value.agg #[.int .i64 b.kind,.int .i64 (Ls.wQu b.p).kind,.string ⟨(Ls.wQu b.p).signs.toArray⟩,.slice c1 c2 c3,.string ⟨b.w.toArray⟩,.slice f1 f2 f3]),.string s] W fun e w'=>e=.returned (.string ⟨(A9 b s.data.toList).toArray⟩)/\Below W.heap.size W w'):=fun W hW=>hb s _ _ W G hs (HO.out _ hW) (HNB.out _ hW);generalize Ls.is (Ls.wQx a) s.data.toList=z at *;have q0:w.cell? ⟨g,0,none⟩=some (.int .i64 a.kind):=hli.cell 0;have q1:w.cell? ⟨g,1,none⟩=some (.int .i64 (Ls.wQu a.p).kind):=hli.cell 1;have q2:w.cell? ⟨g,2,none⟩=some (.string ⟨(Ls.wQu a.p).signs.toArray⟩):=hli.cell 2;have q3:w.cell? ⟨g,3,none⟩=some (.slice b1 b2 b3):=hli.cell 3;have q4:w.cell? ⟨g,4,none⟩=some (.string ⟨a.w.toArray⟩):=hli.cell 4;have q5:w.cell? ⟨g,5,none⟩=some (.slice t1 t2 t3):=hli.cell 5;clear hv hna hnb hli hb0 hSa ha hb hr;obtain⟨e0,e5,r0,r1,r2,r3,r4,r5,r6,r7,r8,r9,r10,r11⟩:=HSS.out _ (Below.refl _ _);go_enter Tryz.func49,Tryz.ntmps49;go_wp2_with fail;generalize (w.alloc (A8 5 (Ls.wQu p) ws (.slice y1 y2 y3) (.slice (some ⟨g,0,none⟩) 2 2)))=W0 at *;refine(HXa.out W0 HB0.out).mono ?_;rintro e wa ⟨xa1,xa2,xa3,rfl,hbA,hA⟩;have HHA:Hid (∀W',Below wa.heap.size wa W'->PV W' (fun j=>G j\/(w.heap.size<=j/\j<W'.heap.size)) (Ls.wQx a) (.slice xa1 xa2 xa3)):=hA;clear hA q0 q1 q2 q3 q4 q5 e0 e5 r0 r1 r2 r3 r4 r5 r6 r7 r8 r9 r10 r11;go_wp2_with fail;refine(HIs.out wa _ _ _ (Below.join HB0.out hbA) (HHA.out _ (Below.refl _ _))).mono ?_;rintro e w2 ⟨rfl,hb2⟩;have hcur:Below W0.heap.size W0 w2:=Below.join hbA hb2
 all_goals
  obtain⟨e0,e5,r0,r1,r2,r3,r4,r5,r6,r7,r8,r9,r10,r11⟩:=HSS.out w2 hcur;have hc2:=hcur;clear HHA hcur hbA hb2;cases z with
  | true=>
   have HR:Hid (r=A9 a s.data.toList):=by rw[HE.out];rfl
   clear HE;go_wp2_with fail;refine(HGa.out w2 (Below.join HB0.out hc2)).mono ?_;rintro e w3 ⟨rfl,hb3⟩;go_wp2_with fail;go_ret;exact⟨by rw[HR.out];rfl,Below.join HB0.out (Below.join hc2 hb3)⟩
  | false=>
   have HR:Hid (r=A9 b s.data.toList):=by rw[HE.out];rfl
   clear HE;go_wp2_with fail;refine(HGb.out w2 (Below.join HB0.out hc2)).mono ?_;rintro e w3 ⟨rfl,hb3⟩;go_wp2_with fail;go_ret;exact⟨by rw[HR.out];rfl,Below.join HB0.out (Below.join hc2 hb3)⟩
theorem gQx {A B C D E F G H I:Prop}(h:A/\B/\C/\D/\E/\F/\G/\H)(i:I):A/\B/\C/\D/\E/\F/\G/\H/\I:=⟨h.1,h.2.1,h.2.2.1,h.2.2.2.1,h.2.2.2.2.1,h.2.2.2.2.2.1,h.2.2.2.2.2.2.1,h.2.2.2.2.2.2.2,i⟩
theorem tQ4 (p:Ls.D)(ws:List UInt8)(a:Ls.Ln)(ha:I6 a)(hSa:D4 a)(d1:Ls.BdL 120 (Ls.wQx a))(hgx:gx a<=1099511627776):I6 ⟨6,p,ws,[a]⟩:=by
 intro s y x w G hs hG h;rw[NV]at h;obtain⟨hv,g,v1,u1,hg,rfl,hli,hna⟩:=h;obtain⟨y1,y2,y3,rfl⟩:=PV.slice _ _ hv;obtain⟨⟨b1,b2,b3,rfl⟩,t1,t2,t3,rfl⟩:=NV.slices _ _ _ hna;have hgl:=hG g hg;have hb0:=A4 w (A8 6 (Ls.wQu p) ws (.slice y1 y2 y3) (.slice (some ⟨g,0,none⟩) 1 1));have HNA:Hid (∀W,Below w.heap.size w W->NV W G a (.slice b1 b2 b3) (.slice t1 t2 t3)):=fun W hW=>hna.below hW (fun j hj=>hG j hj) (fun _ h=>h);have HO:Hid (∀W,Below w.heap.size w W->Old W G):=fun W hW j hj=>Nat.lt_of_lt_of_le (hG j hj) hW.size;have HSS:Hid (∀W:World,Below (w.alloc (A8 6 (Ls.wQu p) ws (.slice y1 y2 y3) (.slice (some ⟨g,0,none⟩) 1 1))).heap.size (w.alloc (A8 6 (Ls.wQu p) ws (.slice y1 y2 y3) (.slice (some ⟨g,0,none⟩) 1 1))) W->W.cell? ⟨w.heap.size,0,none⟩=some (.int .i64 6)/\W.cell? ⟨w.heap.size,5,none⟩=some (.slice (some ⟨g,0,none⟩) 1 1)/\W.cell? ⟨g,0,none⟩=some (.int .i64 a.kind)/\W.cell? ⟨g,1,none⟩=some (.int .i64 (Ls.wQu a.p).kind)/\W.cell? ⟨g,2,none⟩=some (.string ⟨(Ls.wQu a.p).signs.toArray⟩)/\W.cell? ⟨g,3,none⟩=some (.slice b1 b2 b3)/\W.cell? ⟨g,4,none⟩=some (.string ⟨a.w.toArray⟩)/\W.cell? ⟨g,5,none⟩=some (.slice t1 t2 t3)):=fun W hW=>by
  have l1:LiesL W w.heap.size [.int .i64 6,.int .i64 (Ls.wQu p).kind,.string ⟨(Ls.wQu p).signs.toArray⟩,.slice y1 y2 y3,.string ⟨ws.toArray⟩,.slice (some ⟨g,0,none⟩) 1 1]:=(I0 w 6 (Ls.wQu p) ws (.slice y1 y2 y3) (.slice (some ⟨g,0,none⟩) 1 1)).of_block (hW.block _ (by simp));have l2:LiesL W g (D2 a (.slice b1 b2 b3) (.slice t1 t2 t3)):=hli.of_block ((hW.block g (by simp;omega)).trans (hb0.block g hgl));exact⟨l1.cell 0,l1.cell 5,l2.cell 0,l2.cell 1,l2.cell 2,l2.cell 3,l2.cell 4,l2.cell 5⟩
 have HB0:Hid _:=hb0;have HXa:Hid (∀W,Below w.heap.size w W->Calls Tryz.prog 45 #[(Value.agg #[.int .i64 a.kind,.int .i64 (Ls.wQu a.p).kind,.string ⟨(Ls.wQu a.p).signs.toArray⟩,.slice b1 b2 b3,.string ⟨a.w.toArray⟩,.slice t1 t2 t3])] W fun e w'=>∃x1 x2 x3,e=.returned (A7 (Ls.wQx a) (.slice x1 x2 x3))/\Below W.heap.size W w'/\PV w' (fun j=>G j\/(w.heap.size<=j/\j<w'.heap.size)) (Ls.wQx a) (.slice x1 x2 x3)):=by
  intro W hW;refine(hSa _ _ W G (HO.out _ hW) (HNA.out _ hW)).mono ?_;rintro e w' ⟨v,rfl,hx,hbx⟩;obtain⟨x1,x2,x3,rfl⟩:=PV.slice _ _ hx;refine⟨x1,x2,x3,rfl,hbx,hx.up (fun j hj=>?_)⟩;rcases hj with hj|hj
  ·exact .inl hj
  ·exact .inr ⟨Nat.le_trans hW.size hj.1,hj.2⟩
 have HPa:Hid (∀W x1 x2 x3,Below w.heap.size w W->PV W (fun j=>G j\/(w.heap.size<=j/\j<W.heap.size)) (Ls.wQx a) (.slice x1 x2 x3)->Calls Tryz.prog 82 #[.string s,A7 (Ls.wQx a) (.slice x1 x2 x3)] W fun e w'=>∃v,e=.returned v/\w'.ownsRow W.heap.size 9 1 v (D0 (Ls.wQx a) s.size s.data.toList).length ((D0 (Ls.wQx a) s.size s.data.toList).map fun x=>Value.string ⟨x.toArray⟩)/\Below W.heap.size W w'):=by
  intro W x1 x2 x3 hW h1;exact iQi _ d1 (by omega) s (by omega) _ W _ (fun j hj=>by
   rcases hj with hj|hj
   ·exact HO.out _ hW j hj
   ·exact hj.2) h1
 have HGa:Hid (∀W (x:List UInt8),x.length<=60->Below w.heap.size w W->Calls Tryz.prog 49 #[(Value.agg #[.int .i64 a.kind,.int .i64 (Ls.wQu a.p).kind,.string ⟨(Ls.wQu a.p).signs.toArray⟩,.slice b1 b2 b3,.string ⟨a.w.toArray⟩,.slice t1 t2 t3]),.string ⟨x.toArray⟩] W fun e w'=>e=.returned (.string ⟨(A9 a x).toArray⟩)/\Below W.heap.size W w'):=fun W x hx hW=>by
  have:=ha ⟨x.toArray⟩ _ _ W G (by simpa [ByteArray.size] using hx) (HO.out _ hW) (HNA.out _ hW);simpa using this
 have HE:Hid (A9 ⟨6,p,ws,[a]⟩ s.data.toList=((D0 (Ls.wQx a) s.size s.data.toList).map (A9 a)).flatten):=by show _=_;rw[A9,Array.length_toList];rfl
 have HQ:Hid (∀x,x∈D0 (Ls.wQx a) s.size s.data.toList->x.length<=60):=fun x hx=>by
  have:=cQv (Ls.wQx a) s.size s.data.toList x hx;rw[Array.length_toList]at this;exact Nat.le_trans this hs
 have HSum:Hid (((D0 (Ls.wQx a) s.size s.data.toList).map fun x=>x.length+1).sum<=120):=by
  have:=j8 (Ls.wQx a) s.size s.data.toList (by rw[Array.length_toList];exact Nat.le_refl _);rw[Array.length_toList]at this;have h2:s.data.size=s.size:=rfl;show _<=_;omega
 have q0:w.cell? ⟨g,0,none⟩=some (.int .i64 a.kind):=hli.cell 0;have q1:w.cell? ⟨g,1,none⟩=some (.int .i64 (Ls.wQu a.p).kind):=hli.cell 1;have q2:w.cell? ⟨g,2,none⟩=some (.string ⟨(Ls.wQu a.p).signs.toArray⟩):=hli.cell 2;have q3:w.cell? ⟨g,3,none⟩=some (.slice b1 b2 b3):=hli.cell 3;have q4:w.cell? ⟨g,4,none⟩=some (.string ⟨a.w.toArray⟩):=hli.cell 4;have q5:w.cell? ⟨g,5,none⟩=some (.slice t1 t2 t3):=hli.cell 5;generalize A9 ⟨6,p,ws,[a]⟩ s.data.toList=r at *;generalize D0 (Ls.wQx a) s.size s.data.toList=ps at *;clear hv hna hli hb0 hSa ha;obtain⟨e0,e5,r0,r1,r2,r3,r4,r5⟩:=HSS.out _ (Below.refl _ _);go_enter Tryz.func49,Tryz.ntmps49;go_wp2_with fail;generalize w.alloc (A8 6 (Ls.wQu p) ws (.slice y1 y2 y3) (.slice (some ⟨g,0,none⟩) 1 1))=W0 at *;refine(HXa.out W0 HB0.out).mono ?_;rintro e wa ⟨xa1,xa2,xa3,rfl,hbA,hA⟩;have hC:=HPa.out wa _ _ _ (Below.join HB0.out hbA) hA;clear hA q0 q1 q2 q3 q4 q5 e0 e5 r0 r1 r2 r3 r4 r5;go_wp2_with fail;refine hC.mono ?_;clear hC;rintro e wm ⟨v,rfl,hown,hbm⟩;have hcm:Below W0.heap.size W0 wm:=Below.join hbA hbm;have hln:ps.length<=120:=by
  have h1:=HSum.out;have h2:∀l:List (List UInt8),l.length<=(l.map fun x=>x.length+1).sum:=fun l=>by
   induction l with
   | nil=>simp
   | cons x l ih=>simp only[List.length_cons,List.map_cons,List.sum_cons];omega
  have:=h2 ps;omega
 obtain⟨m1,m2,m3,rfl⟩:=bQ6 hown;have HOw:Hid (wm.ownsRow wa.heap.size 9 1 (.slice m1 m2 m3) ps.length (ps.map fun x=>Value.string ⟨x.toArray⟩)):=hown;have hm2:m2=ps.length:=by
  rcases hown.2 with⟨e,hn⟩|⟨gg,cap,cur,e,_⟩
  ·injection e with e1 e2;omega
  ·injection e with e1 e2
 subst hm2;clear hown;go_wp2_with fail;go_loopw [9,11] (fun ov t wr=>∃k:Nat,k<=ps.length/\t=.int .i64 k/\ov=.string ⟨(((ps.take k).map (A9 a)).flatten).toArray⟩/\Below wm.heap.size wm wr) (fun _ t _=>ps.length-(intOf t).toNat)
 case atStart=>exact⟨0,Nat.zero_le _,rfl,rfl,Below.refl _ _⟩
 case round=>
  obtain⟨k,hk,rfl,rfl,hbr⟩:=hrel;have hcr:=Below.join hcm hbr
  by_cases hlt:k<ps.length
  ·have hlt2:(k:Int)<(ps.length:Int):=by omega
   have hk0:(0:Int)<=(k:Int):=by omega
   obtain⟨gm,rfl⟩:∃gm,m1=some ⟨gm,0,none⟩:=by
    rcases HOw.out.2 with⟨_,hn⟩|⟨gg,cap,cur,e,_⟩
    ·omega
    ·injection e with e1 e2 e3
     exact⟨gg,e1⟩
   have HCap:Hid (∃cap,m3=cap):=⟨m3,rfl⟩;have hel:wm.cell? ⟨gm,k,none⟩=some (.string ⟨ps[k].toArray⟩):=by
    have:=HOw.out.cellAt k (by omega);rw[this];simp[hlt]
   have hgm:gm<wm.heap.size:=World.block_lt_of_cell? wm _ hel;have HEl:Hid (∀W:World,Below wm.heap.size wm W->W.cell? ⟨gm,k,none⟩=some (.string ⟨ps[k].toArray⟩)):=fun W hW=>(hW.cell (p:=⟨gm,k,none⟩) hgm).trans hel;have HT:Hid (((ps.take (k+1)).map (A9 a)).flatten=((ps.take k).map (A9 a)).flatten++A9 a ps[k]):=by
    show _=_;rw[List.take_succ_eq_append_getElem hlt,List.map_append,List.flatten_append];simp
   have hxl:ps[k].length<=60:=HQ.out _ (List.getElem_mem hlt);have hlen:¬9223372036854775807<(((ps.take k).map (A9 a)).flatten).length+(A9 a ps[k]).length:=by
    have h1:=iQq a (ps.take (k+1));rw[HT.out,List.length_append]at h1;have h2:=eQl ps (k+1);have h3:((ps.take (k+1)).map fun x=>x.length+1).sum*gx a<=120*gx a:=Nat.mul_le_mul_right _ (Nat.le_trans h2 HSum.out);omega
   have hGx:=HGa.out;have HG1:Hid (∀W,Below w.heap.size w W->Calls Tryz.prog 49 #[(Value.agg #[.int .i64 a.kind,.int .i64 (Ls.wQu a.p).kind,.string ⟨(Ls.wQu a.p).signs.toArray⟩,.slice b1 b2 b3,.string ⟨a.w.toArray⟩,.slice t1 t2 t3]),.string ⟨ps[k].toArray⟩] W fun e w'=>e=.returned (.string ⟨(A9 a ps[k]).toArray⟩)/\Below W.heap.size W w'):=fun W hW=>HGa.out W ps[k] hxl hW;obtain⟨e0,e5,r0,r1,r2,r3,r4,r5⟩:=HSS.out wr hcr;have em:=HEl.out wr hbr;clear hGx hel hxl;generalize hac:(((ps.take k).map (A9 a)).flatten)=acc at *;clear hac;generalize ps[k]=xk at *;go_wp2_with fail;go_region_held (fun w'=>w'.cell? ⟨w.heap.size,0,none⟩=some (.int .i64 6)/\w'.cell? ⟨w.heap.size,5,none⟩=some (.slice (some ⟨g,0,none⟩) 1 1)/\w'.cell? ⟨g,0,none⟩=some (.int .i64 a.kind)/\w'.cell? ⟨g,1,none⟩=some (.int .i64 (Ls.wQu a.p).kind)/\w'.cell? ⟨g,2,none⟩=some (.string ⟨(Ls.wQu a.p).signs.toArray⟩)/\w'.cell? ⟨g,3,none⟩=some (.slice b1 b2 b3)/\w'.cell? ⟨g,4,none⟩=some (.string ⟨a.w.toArray⟩)/\w'.cell? ⟨g,5,none⟩=some (.slice t1 t2 t3)/\w'.cell? ⟨gm,k,none⟩=some (.string ⟨xk.toArray⟩)) (first|assumption|(refine⟨e0,e5,r0,r1,r2,r3,r4,r5,em⟩)|(go_keep;done)|exact gQx (HSS.out _ hcur) (HEl.out _ hcurm))
    (first
     | (go_at_call 49;refine(HG1.out _ ?_).mono ?_;exact(Below.join HB0.out hcr).drew;rintro e w3 ⟨rfl,hb3d⟩;have hb3:Below wr.heap.size wr w3:=Below.join (Below.refl _ _).drew hb3d;have hcur:Below W0.heap.size W0 w3:=Below.join hcr hb3;have hcurm:Below wm.heap.size wm w3:=Below.join hbr hb3))
   all_goals
    clear e0 e5 r0 r1 r2 r3 r4 r5 em;have HN:Hid ((⟨acc.toArray⟩:ByteArray)++⟨(A9 a xk).toArray⟩=⟨(((ps.take (k+1)).map (A9 a)).flatten).toArray⟩):=by
     show _=_;rw[HT.out,cQd]
    go_wp2_with fail;go_roundw
    case rel=>exact⟨k+1,by omega,by go_num,by rw[<-HN.out],hcurm⟩
    case measure=>simp[intOf];omega
  ·have hlt2:¬(k:Int)<(ps.length:Int):=by omega
   have HR:Hid (r=((ps.take k).map (A9 a)).flatten):=by
    show _=_;rw[HE.out,List.take_of_length_le (by omega)]
   generalize ((ps.take k).map (A9 a)).flatten=acc at *;go_wp2_with fail;go_ret;exact⟨by rw[HR.out];rfl,Below.join HB0.out hcr⟩
theorem tQk (p:Ls.D)(ws:List UInt8)(a:Ls.Ln)(ha:I6 a)(hSa:D4 a)(d1:Ls.BdL 120 (Ls.wQx a))(hgx:gx a<=1099511627776):I6 ⟨7,p,ws,[a]⟩:=by
 intro s y x w G hs hG h;rw[NV]at h;obtain⟨hv,g,v1,u1,hg,rfl,hli,hna⟩:=h;obtain⟨y1,y2,y3,rfl⟩:=PV.slice _ _ hv;obtain⟨⟨b1,b2,b3,rfl⟩,t1,t2,t3,rfl⟩:=NV.slices _ _ _ hna;have hgl:=hG g hg;have hb0:=A4 w (A8 7 (Ls.wQu p) ws (.slice y1 y2 y3) (.slice (some ⟨g,0,none⟩) 1 1));have HNA:Hid (∀W,Below w.heap.size w W->NV W G a (.slice b1 b2 b3) (.slice t1 t2 t3)):=fun W hW=>hna.below hW (fun j hj=>hG j hj) (fun _ h=>h);have HO:Hid (∀W,Below w.heap.size w W->Old W G):=fun W hW j hj=>Nat.lt_of_lt_of_le (hG j hj) hW.size;have HSS:Hid (∀W:World,Below (w.alloc (A8 7 (Ls.wQu p) ws (.slice y1 y2 y3) (.slice (some ⟨g,0,none⟩) 1 1))).heap.size (w.alloc (A8 7 (Ls.wQu p) ws (.slice y1 y2 y3) (.slice (some ⟨g,0,none⟩) 1 1))) W->W.cell? ⟨w.heap.size,0,none⟩=some (.int .i64 7)/\W.cell? ⟨w.heap.size,5,none⟩=some (.slice (some ⟨g,0,none⟩) 1 1)/\W.cell? ⟨g,0,none⟩=some (.int .i64 a.kind)/\W.cell? ⟨g,1,none⟩=some (.int .i64 (Ls.wQu a.p).kind)/\W.cell? ⟨g,2,none⟩=some (.string ⟨(Ls.wQu a.p).signs.toArray⟩)/\W.cell? ⟨g,3,none⟩=some (.slice b1 b2 b3)/\W.cell? ⟨g,4,none⟩=some (.string ⟨a.w.toArray⟩)/\W.cell? ⟨g,5,none⟩=some (.slice t1 t2 t3)):=fun W hW=>by
  have l1:LiesL W w.heap.size [.int .i64 7,.int .i64 (Ls.wQu p).kind,.string ⟨(Ls.wQu p).signs.toArray⟩,.slice y1 y2 y3,.string ⟨ws.toArray⟩,.slice (some ⟨g,0,none⟩) 1 1]:=(I0 w 7 (Ls.wQu p) ws (.slice y1 y2 y3) (.slice (some ⟨g,0,none⟩) 1 1)).of_block (hW.block _ (by simp));have l2:LiesL W g (D2 a (.slice b1 b2 b3) (.slice t1 t2 t3)):=hli.of_block ((hW.block g (by simp;omega)).trans (hb0.block g hgl));exact⟨l1.cell 0,l1.cell 5,l2.cell 0,l2.cell 1,l2.cell 2,l2.cell 3,l2.cell 4,l2.cell 5⟩
 have HB0:Hid _:=hb0;have HXa:Hid (∀W,Below w.heap.size w W->Calls Tryz.prog 45 #[(Value.agg #[.int .i64 a.kind,.int .i64 (Ls.wQu a.p).kind,.string ⟨(Ls.wQu a.p).signs.toArray⟩,.slice b1 b2 b3,.string ⟨a.w.toArray⟩,.slice t1 t2 t3])] W fun e w'=>∃x1 x2 x3,e=.returned (A7 (Ls.wQx a) (.slice x1 x2 x3))/\Below W.heap.size W w'/\PV w' (fun j=>G j\/(w.heap.size<=j/\j<w'.heap.size)) (Ls.wQx a) (.slice x1 x2 x3)):=by
  intro W hW;refine(hSa _ _ W G (HO.out _ hW) (HNA.out _ hW)).mono ?_;rintro e w' ⟨v,rfl,hx,hbx⟩;obtain⟨x1,x2,x3,rfl⟩:=PV.slice _ _ hx;refine⟨x1,x2,x3,rfl,hbx,hx.up (fun j hj=>?_)⟩;rcases hj with hj|hj
  ·exact .inl hj
  ·exact .inr ⟨Nat.le_trans hW.size hj.1,hj.2⟩
 have HPa:Hid (∀W x1 x2 x3,Below w.heap.size w W->PV W (fun j=>G j\/(w.heap.size<=j/\j<W.heap.size)) (Ls.wQx a) (.slice x1 x2 x3)->Calls Tryz.prog 82 #[.string s,A7 (Ls.wQx a) (.slice x1 x2 x3)] W fun e w'=>∃v,e=.returned v/\w'.ownsRow W.heap.size 9 1 v (D0 (Ls.wQx a) s.size s.data.toList).length ((D0 (Ls.wQx a) s.size s.data.toList).map fun x=>Value.string ⟨x.toArray⟩)/\Below W.heap.size W w'):=by
  intro W x1 x2 x3 hW h1;exact iQi _ d1 (by omega) s (by omega) _ W _ (fun j hj=>by
   rcases hj with hj|hj
   ·exact HO.out _ hW j hj
   ·exact hj.2) h1
 have HGa:Hid (∀W (x:List UInt8),x.length<=60->Below w.heap.size w W->Calls Tryz.prog 49 #[(Value.agg #[.int .i64 a.kind,.int .i64 (Ls.wQu a.p).kind,.string ⟨(Ls.wQu a.p).signs.toArray⟩,.slice b1 b2 b3,.string ⟨a.w.toArray⟩,.slice t1 t2 t3]),.string ⟨x.toArray⟩] W fun e w'=>e=.returned (.string ⟨(A9 a x).toArray⟩)/\Below W.heap.size W w'):=fun W x hx hW=>by
  have:=ha ⟨x.toArray⟩ _ _ W G (by simpa [ByteArray.size] using hx) (HO.out _ hW) (HNA.out _ hW);simpa using this
 have HE:Hid (A9 ⟨7,p,ws,[a]⟩ s.data.toList=((D0 (Ls.wQx a) s.size s.data.toList).map (A9 a)).flatten):=by show _=_;rw[A9,Array.length_toList];rfl
 have HQ:Hid (∀x,x∈D0 (Ls.wQx a) s.size s.data.toList->x.length<=60):=fun x hx=>by
  have:=cQv (Ls.wQx a) s.size s.data.toList x hx;rw[Array.length_toList]at this;exact Nat.le_trans this hs
 have HSum:Hid (((D0 (Ls.wQx a) s.size s.data.toList).map fun x=>x.length+1).sum<=120):=by
  have:=j8 (Ls.wQx a) s.size s.data.toList (by rw[Array.length_toList];exact Nat.le_refl _);rw[Array.length_toList]at this;have h2:s.data.size=s.size:=rfl;show _<=_;omega
 have q0:w.cell? ⟨g,0,none⟩=some (.int .i64 a.kind):=hli.cell 0;have q1:w.cell? ⟨g,1,none⟩=some (.int .i64 (Ls.wQu a.p).kind):=hli.cell 1;have q2:w.cell? ⟨g,2,none⟩=some (.string ⟨(Ls.wQu a.p).signs.toArray⟩):=hli.cell 2;have q3:w.cell? ⟨g,3,none⟩=some (.slice b1 b2 b3):=hli.cell 3;have q4:w.cell? ⟨g,4,none⟩=some (.string ⟨a.w.toArray⟩):=hli.cell 4;have q5:w.cell? ⟨g,5,none⟩=some (.slice t1 t2 t3):=hli.cell 5;generalize A9 ⟨7,p,ws,[a]⟩ s.data.toList=r at *;generalize D0 (Ls.wQx a) s.size s.data.toList=ps at *;clear hv hna hli hb0 hSa ha;obtain⟨e0,e5,r0,r1,r2,r3,r4,r5⟩:=HSS.out _ (Below.refl _ _);go_enter Tryz.func49,Tryz.ntmps49;go_wp2_with fail;generalize w.alloc (A8 7 (Ls.wQu p) ws (.slice y1 y2 y3) (.slice (some ⟨g,0,none⟩) 1 1))=W0 at *;refine(HXa.out W0 HB0.out).mono ?_;rintro e wa ⟨xa1,xa2,xa3,rfl,hbA,hA⟩;have hC:=HPa.out wa _ _ _ (Below.join HB0.out hbA) hA;clear hA q0 q1 q2 q3 q4 q5 e0 e5 r0 r1 r2 r3 r4 r5;go_wp2_with fail;refine hC.mono ?_;clear hC;rintro e wm ⟨v,rfl,hown,hbm⟩;have hcm:Below W0.heap.size W0 wm:=Below.join hbA hbm;have hln:ps.length<=120:=by
  have h1:=HSum.out;have h2:∀l:List (List UInt8),l.length<=(l.map fun x=>x.length+1).sum:=fun l=>by
   induction l with
   | nil=>simp
   | cons x l ih=>simp only[List.length_cons,List.map_cons,List.sum_cons];omega
  have:=h2 ps;omega
 obtain⟨m1,m2,m3,rfl⟩:=bQ6 hown;have HOw:Hid (wm.ownsRow wa.heap.size 9 1 (.slice m1 m2 m3) ps.length (ps.map fun x=>Value.string ⟨x.toArray⟩)):=hown;have hm2:m2=ps.length:=by
  rcases hown.2 with⟨e,hn⟩|⟨gg,cap,cur,e,_⟩
  ·injection e with e1 e2;omega
  ·injection e with e1 e2
 subst hm2;clear hown;go_wp2_with fail;go_loopw [9,11] (fun ov t wr=>∃k:Nat,k<=ps.length/\t=.int .i64 k/\ov=.string ⟨(((ps.take k).map (A9 a)).flatten).toArray⟩/\Below wm.heap.size wm wr) (fun _ t _=>ps.length-(intOf t).toNat)
 case atStart=>exact⟨0,Nat.zero_le _,rfl,rfl,Below.refl _ _⟩
 case round=>
  obtain⟨k,hk,rfl,rfl,hbr⟩:=hrel;have hcr:=Below.join hcm hbr
  by_cases hlt:k<ps.length
  ·have hlt2:(k:Int)<(ps.length:Int):=by omega
   have hk0:(0:Int)<=(k:Int):=by omega
   obtain⟨gm,rfl⟩:∃gm,m1=some ⟨gm,0,none⟩:=by
    rcases HOw.out.2 with⟨_,hn⟩|⟨gg,cap,cur,e,_⟩
    ·omega
    ·injection e with e1 e2 e3
     exact⟨gg,e1⟩
   have HCap:Hid (∃cap,m3=cap):=⟨m3,rfl⟩;have hel:wm.cell? ⟨gm,k,none⟩=some (.string ⟨ps[k].toArray⟩):=by
    have:=HOw.out.cellAt k (by omega);rw[this];simp[hlt]
   have hgm:gm<wm.heap.size:=World.block_lt_of_cell? wm _ hel;have HEl:Hid (∀W:World,Below wm.heap.size wm W->W.cell? ⟨gm,k,none⟩=some (.string ⟨ps[k].toArray⟩)):=fun W hW=>(hW.cell (p:=⟨gm,k,none⟩) hgm).trans hel;have HT:Hid (((ps.take (k+1)).map (A9 a)).flatten=((ps.take k).map (A9 a)).flatten++A9 a ps[k]):=by
    show _=_;rw[List.take_succ_eq_append_getElem hlt,List.map_append,List.flatten_append];simp
   have hxl:ps[k].length<=60:=HQ.out _ (List.getElem_mem hlt);have hlen:¬9223372036854775807<(((ps.take k).map (A9 a)).flatten).length+(A9 a ps[k]).length:=by
    have h1:=iQq a (ps.take (k+1));rw[HT.out,List.length_append]at h1;have h2:=eQl ps (k+1);have h3:((ps.take (k+1)).map fun x=>x.length+1).sum*gx a<=120*gx a:=Nat.mul_le_mul_right _ (Nat.le_trans h2 HSum.out);omega
   have hGx:=HGa.out;have HG1:Hid (∀W,Below w.heap.size w W->Calls Tryz.prog 49 #[(Value.agg #[.int .i64 a.kind,.int .i64 (Ls.wQu a.p).kind,.string ⟨(Ls.wQu a.p).signs.toArray⟩,.slice b1 b2 b3,.string ⟨a.w.toArray⟩,.slice t1 t2 t3]),.string ⟨ps[k].toArray⟩] W fun e w'=>e=.returned (.string ⟨(A9 a ps[k]).toArray⟩)/\Below W.heap.size W w'):=fun W hW=>HGa.out W ps[k] hxl hW;obtain⟨e0,e5,r0,r1,r2,r3,r4,r5⟩:=HSS.out wr hcr;have em:=HEl.out wr hbr;clear hGx hel hxl;generalize hac:(((ps.take k).map (A9 a)).flatten)=acc at *;clear hac;generalize ps[k]=xk at *;go_wp2_with fail;go_region_held (fun w'=>w'.cell? ⟨w.heap.size,0,none⟩=some (.int .i64 7)/\w'.cell? ⟨w.heap.size,5,none⟩=some (.slice (some ⟨g,0,none⟩) 1 1)/\w'.cell? ⟨g,0,none⟩=some (.int .i64 a.kind)/\w'.cell? ⟨g,1,none⟩=some (.int .i64 (Ls.wQu a.p).kind)/\w'.cell? ⟨g,2,none⟩=some (.string ⟨(Ls.wQu a.p).signs.toArray⟩)/\w'.cell? ⟨g,3,none⟩=some (.slice b1 b2 b3)/\w'.cell? ⟨g,4,none⟩=some (.string ⟨a.w.toArray⟩)/\w'.cell? ⟨g,5,none⟩=some (.slice t1 t2 t3)/\w'.cell? ⟨gm,k,none⟩=some (.string ⟨xk.toArray⟩)) (first|assumption|(refine⟨e0,e5,r0,r1,r2,r3,r4,r5,em⟩)|(go_keep;done)|exact gQx (HSS.out _ hcur) (HEl.out _ hcurm))
    (first
     | (go_at_call 49;refine(HG1.out _ ?_).mono ?_;exact(Below.join HB0.out hcr).drew;rintro e w3 ⟨rfl,hb3d⟩;have hb3:Below wr.heap.size wr w3:=Below.join (Below.refl _ _).drew hb3d;have hcur:Below W0.heap.size W0 w3:=Below.join hcr hb3;have hcurm:Below wm.heap.size wm w3:=Below.join hbr hb3))
   all_goals
    clear e0 e5 r0 r1 r2 r3 r4 r5 em;have HN:Hid ((⟨acc.toArray⟩:ByteArray)++⟨(A9 a xk).toArray⟩=⟨(((ps.take (k+1)).map (A9 a)).flatten).toArray⟩):=by
     show _=_;rw[HT.out,cQd]
    go_wp2_with fail;go_roundw
    case rel=>exact⟨k+1,by omega,by go_num,by rw[<-HN.out],hcurm⟩
    case measure=>simp[intOf];omega
  ·have hlt2:¬(k:Int)<(ps.length:Int):=by omega
   have HR:Hid (r=((ps.take k).map (A9 a)).flatten):=by
    show _=_;rw[HE.out,List.take_of_length_le (by omega)]
   generalize ((ps.take k).map (A9 a)).flatten=acc at *;go_wp2_with fail;go_ret;exact⟨by rw[HR.out];rfl,Below.join HB0.out hcr⟩
theorem cQf:(l:Ls.Ln)->Ls.OkL 120 l->gx l<=1099511627776->I6 l
 | ⟨k,p,w,[]⟩,h,_=>by
  rw[Ls.OkL]at h;rcases h.2 with rfl|rfl|rfl
  ·exact mQf p w
  ·exact qQd p w
  ·exact pQd p w
 | ⟨k,p,w,[a]⟩,h,hg=>by
  rw[Ls.OkL]at h;rw[gx]at hg;have ha:=cQf a h.2.2 (by omega);rcases h.2.1 with rfl|rfl
  ·exact tQ4 p w a ha (H6 a h.2.2) h.2.2.src (by omega)
  ·exact tQk p w a ha (H6 a h.2.2) h.2.2.src (by omega)
 | ⟨k,p,w,[a,b]⟩,h,hg=>by
  rw[Ls.OkL]at h;rw[gx]at hg;obtain⟨_,hk,oa,ob⟩:=h;have ha:=cQf a oa (by omega);have hb:=cQf b ob (by omega);rcases hk with rfl|rfl|rfl
  ·exact pQ5 p w a b ha hb (H6 a oa) (H6 b ob) oa.src ob.src hg
  ·exact uQb p w a b ha hb (H6 a oa) (H6 b ob) oa.src ob.src hg
  ·exact iQ2 p w a b ha hb (H6 a oa) oa.src
 | ⟨k,p,w,_::_::_::_⟩,h,_=>by simp[Ls.OkL]at h
theorem qQp (l:Ls.Ln)(hok:Ls.OkL 120 l)(hS:D4 l)(hP:I6 l)(s:ByteArray)(hs:s.size<=1048576)(y x:Value)(w:World)(G:Nat->Prop)(hG:Old w G)(hn:NV w G l y x) :
  Calls Tryz.prog 22 #[J8 l y x,.string s] w fun e w'=>e=.returned (if C9 (Ls.wQx l) s.data.toList=true then .tuple #[.string ⟨(A9 l s.data.toList).toArray⟩,.int .i64 0] else .tuple #[.string ⟨#[]⟩,.int .i64 5])/\Below w.heap.size w w':=by
 obtain⟨⟨y1,y2,y3,rfl⟩,x1,x2,x3,rfl⟩:=NV.slices _ _ _ hn;have hb1:=A4 w (A8 l.kind (Ls.wQu l.p) l.w (.slice y1 y2 y3) (.slice x1 x2 x3));have HB:Hid _:=hb1;have hG1:Old (w.alloc (A8 l.kind (Ls.wQu l.p) l.w (.slice y1 y2 y3) (.slice x1 x2 x3))) G:=fun j hj=>Nat.lt_of_lt_of_le (hG j hj) hb1.size;have hn1:=hn.below hb1 (fun j hj=>hG j hj) (fun _ h=>h);have hC:=gQp l hok hS s hs (.slice y1 y2 y3) (.slice x1 x2 x3) _ G hG1 hn1;have HC:Hid (Calls _ _ _ _ _):=hC;have HP:Hid (∀W,s.size<=60->Below w.heap.size w W->Calls Tryz.prog 49 #[J8 l (.slice y1 y2 y3) (.slice x1 x2 x3),.string s] W fun e w'=>e=.returned (.string ⟨(A9 l s.data.toList).toArray⟩)/\Below W.heap.size W w'):=fun W h6 hW=>hP s _ _ W G h6 (fun j hj=>Nat.lt_of_lt_of_le (hG j hj) hW.size) (hn.below hW (fun j hj=>hG j hj) (fun _ h=>h));have HZ:Hid (C9 (Ls.wQx l) s.data.toList=true->s.size<=60):=fun h=>by
  unfold C9 at h;rw[Bool.and_eq_true,decide_eq_true_eq,Array.length_toList]at h;exact h.2
 have HSS:Hid (∀W:World,Below (w.alloc (A8 l.kind (Ls.wQu l.p) l.w (.slice y1 y2 y3) (.slice x1 x2 x3))).heap.size (w.alloc (A8 l.kind (Ls.wQu l.p) l.w (.slice y1 y2 y3) (.slice x1 x2 x3))) W->LiesL W w.heap.size [.int .i64 l.kind,.int .i64 (Ls.wQu l.p).kind,.string ⟨(Ls.wQu l.p).signs.toArray⟩,.slice y1 y2 y3,.string ⟨l.w.toArray⟩,.slice x1 x2 x3]):=fun W hW=>
  (I0 w l.kind (Ls.wQu l.p) l.w (.slice y1 y2 y3) (.slice x1 x2 x3)).of_block (hW.block _ (by simp))
 generalize C9 (Ls.wQx l) s.data.toList=z at *;clear hb1 hG1 hn1 hC hn hS hP;go_enter Tryz.func22,Tryz.ntmps22;go_wp2_with fail;refine Calls.mono HC.out ?_;rintro e w2 ⟨rfl,hb2⟩;have hl:=HSS.out w2 hb2;have c0:=hl.cell 0;have c1:=hl.cell 1;have c2:=hl.cell 2;have c3:=hl.cell 3;have c4:=hl.cell 4;have c5:=hl.cell 5;clear hl;cases z with
 | true=>
  have h6:=HZ.out rfl;go_wp2_with fail;refine(HP.out w2 h6 (Below.join HB.out hb2)).mono ?_;rintro e w3 ⟨rfl,hb3⟩;go_wp2_with fail;go_ret2;exact⟨rfl,Below.join (Below.join HB.out hb2) hb3⟩
 | false=>
  go_wp2_with fail;go_ret2;exact⟨rfl,Below.join HB.out hb2⟩
end Go.Proofs.YtcggfnlejalppaaGreatDoor
