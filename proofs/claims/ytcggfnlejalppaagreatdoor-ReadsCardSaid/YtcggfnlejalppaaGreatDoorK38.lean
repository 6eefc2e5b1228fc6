import Derived.Test.YtcggfnlejalppaaGreatDoorK37
set_option maxRecDepth 100000
set_option maxHeartbeats 4000000
namespace Go.Proofs.YtcggfnlejalppaaGreatDoor
open Go.RowKit
theorem jQ8 (p:Ls.D)(ws:List UInt8)(a b:Ls.Ln)(ha:H4 a)(hb:H4 b)(hSa:D4 a)(hSb:D4 b)(hVa:E9 a)(hVb:E9 b)(d1:Ls.BdL 120 (Ls.wQx a))(d2:Ls.BdL 120 (Ls.wQx b))(d3:Ls.BdL 120 (Ls.wQw a))(d4:Ls.BdL 120 (Ls.wQw b)):H4 ⟨4,p,ws,[a,b]⟩:=by
 intro y x w G hG h;rw[NV]at h;obtain⟨hv,g,v1,u1,v2,u2,hg,rfl,hli,hna,hnb⟩:=h;obtain⟨y1,y2,y3,rfl⟩:=PV.slice _ _ hv;obtain⟨⟨b1,b2,b3,rfl⟩,t1,t2,t3,rfl⟩:=NV.slices _ _ _ hna;obtain⟨⟨c1,c2,c3,rfl⟩,f1,f2,f3,rfl⟩:=NV.slices _ _ _ hnb;have hgl:=hG g hg;have HF:Hid (B4 ⟨4,p,ws,[a,b]⟩↔B4 a/\B4 b/\¬Ls.wQ1 (Ls.wQx a) (Ls.wQx b)/\¬Ls.wQ1 (Ls.wQw b) (Ls.wQw a)):=by
  show _↔_;rw[B4];simp
 generalize B4 ⟨4,p,ws,[a,b]⟩=F at *;have hb0:=A4 w (A8 4 (Ls.wQu p) ws (.slice y1 y2 y3) (.slice (some ⟨g,0,none⟩) 2 2));have HNA:Hid (∀W,Below w.heap.size w W->NV W G a (.slice b1 b2 b3) (.slice t1 t2 t3)):=fun W hW=>hna.below hW (fun j hj=>hG j hj) (fun _ h=>h);have HNB:Hid (∀W,Below w.heap.size w W->NV W G b (.slice c1 c2 c3) (.slice f1 f2 f3)):=fun W hW=>hnb.below hW (fun j hj=>hG j hj) (fun _ h=>h);have HO:Hid (∀W,Below w.heap.size w W->Old W G):=fun W hW j hj=>Nat.lt_of_lt_of_le (hG j hj) hW.size;have HLI:Hid (∀W,Below w.heap.size w W->LiesL W g (D2 a (.slice b1 b2 b3) (.slice t1 t2 t3)++D2 b (.slice c1 c2 c3) (.slice f1 f2 f3))):=fun W hW=>hli.of_block (hW.block g hgl);have HBX:Hid (∀W,Below (w.alloc (A8 4 (Ls.wQu p) ws (.slice y1 y2 y3) (.slice (some ⟨g,0,none⟩) 2 2))).heap.size (w.alloc (A8 4 (Ls.wQu p) ws (.slice y1 y2 y3) (.slice (some ⟨g,0,none⟩) 2 2))) W->LiesL W w.heap.size [.int .i64 (4:Nat),.int .i64 (Ls.wQu p).kind,.string ⟨(Ls.wQu p).signs.toArray⟩,.slice y1 y2 y3,.string ⟨ws.toArray⟩,.slice (some ⟨g,0,none⟩) 2 2]):=fun W hW=>(I0 w 4 (Ls.wQu p) ws (.slice y1 y2 y3) (.slice (some ⟨g,0,none⟩) 2 2)).of_block (hW.block _ (by simp));have HSS0:Hid (∀w',Below w.heap.size w w'->Below (w.alloc (A8 4 (Ls.wQu p) ws (.slice y1 y2 y3) (.slice (some ⟨g,0,none⟩) 2 2))).heap.size (w.alloc (A8 4 (Ls.wQu p) ws (.slice y1 y2 y3) (.slice (some ⟨g,0,none⟩) 2 2))) w'->w'.cell? ⟨w.heap.size,5,none⟩=some (.slice (some ⟨g,0,none⟩) 2 2)/\w'.cell? ⟨g,0,none⟩=some (.int .i64 a.kind)/\w'.cell? ⟨g,1,none⟩=some (.int .i64 (Ls.wQu a.p).kind)/\w'.cell? ⟨g,2,none⟩=some (.string ⟨(Ls.wQu a.p).signs.toArray⟩)/\w'.cell? ⟨g,3,none⟩=some (.slice b1 b2 b3)/\w'.cell? ⟨g,4,none⟩=some (.string ⟨a.w.toArray⟩)/\w'.cell? ⟨g,5,none⟩=some (.slice t1 t2 t3)/\w'.cell? ⟨g,6,none⟩=some (.int .i64 b.kind)/\w'.cell? ⟨g,7,none⟩=some (.int .i64 (Ls.wQu b.p).kind)/\w'.cell? ⟨g,8,none⟩=some (.string ⟨(Ls.wQu b.p).signs.toArray⟩)/\w'.cell? ⟨g,9,none⟩=some (.slice c1 c2 c3)/\w'.cell? ⟨g,10,none⟩=some (.string ⟨b.w.toArray⟩)/\w'.cell? ⟨g,11,none⟩=some (.slice f1 f2 f3)):=fun w' h1 h2=>by
  have l1:=HBX.out w' h2;have l2:=HLI.out w' h1;exact⟨l1.cell 5,l2.cell 0,l2.cell 1,l2.cell 2,l2.cell 3,l2.cell 4,l2.cell 5,l2.cell 6,l2.cell 7,l2.cell 8,l2.cell 9,l2.cell 10,l2.cell 11⟩
 have hC:=ha _ _ _ G (HO.out _ hb0) (HNA.out _ hb0);obtain⟨-,a0,a1,a2,a3,a4,a5,a6,a7,a8,a9,a10,a11⟩:True/\w.cell? ⟨g,0,none⟩=some (.int .i64 a.kind)/\w.cell? ⟨g,1,none⟩=some (.int .i64 (Ls.wQu a.p).kind)/\w.cell? ⟨g,2,none⟩=some (.string ⟨(Ls.wQu a.p).signs.toArray⟩)/\w.cell? ⟨g,3,none⟩=some (.slice b1 b2 b3)/\w.cell? ⟨g,4,none⟩=some (.string ⟨a.w.toArray⟩)/\w.cell? ⟨g,5,none⟩=some (.slice t1 t2 t3)/\w.cell? ⟨g,6,none⟩=some (.int .i64 b.kind)/\w.cell? ⟨g,7,none⟩=some (.int .i64 (Ls.wQu b.p).kind)/\w.cell? ⟨g,8,none⟩=some (.string ⟨(Ls.wQu b.p).signs.toArray⟩)/\w.cell? ⟨g,9,none⟩=some (.slice c1 c2 c3)/\w.cell? ⟨g,10,none⟩=some (.string ⟨b.w.toArray⟩)/\w.cell? ⟨g,11,none⟩=some (.slice f1 f2 f3):=by
  have l2:=hli;exact⟨trivial,l2.cell 0,l2.cell 1,l2.cell 2,l2.cell 3,l2.cell 4,l2.cell 5,l2.cell 6,l2.cell 7,l2.cell 8,l2.cell 9,l2.cell 10,l2.cell 11⟩
 have HSa:Hid (D4 a):=hSa;have HSb:Hid (D4 b):=hSb;have HTb:Hid (H4 b):=hb;have HVa:Hid (E9 a):=hVa;have HVb:Hid (E9 b):=hVb;have HB0:Hid _:=hb0;clear hv hna hnb hli hb0 hSa hSb hVa hVb ha hb;go_enter Tryz.func41,Tryz.ntmps41;go_wp2_with fail;refine wp_loop_rounds 3 ?_;rw[rounds_succ];go_wp2_with fail;refine hC.mono ?_;rintro e w2 ⟨ta,rfl,hta,hb2⟩;have hbw2:=Below.join HB0.out hb2;obtain⟨e5,r0,r1,r2,r3,r4,r5,r6,r7,r8,r9,r10,r11⟩:=HSS0.out w2 hbw2 hb2;have HTA:Hid (ta=true↔B4 a):=hta;have e0:=(HBX.out w2 hb2).cell 0;clear a0 a1 a2 a3 a4 a5 a6 a7 a8 a9 a10 a11 hC hta;cases ta with
 | false=>
  have HN:Hid (¬F):=fun h=>by have:=HTA.out.2 (HF.out.1 h).1;cases this
  go_wp2_with fail;go_ret;exact⟨false,rfl,⟨fun h=>(by cases h),fun h=>absurd h HN.out⟩,hbw2⟩
 | true=>
  have HT1:Hid (B4 a):=HTA.out.1 rfl;have hC1:=HTb.out _ _ w2 G (HO.out _ hbw2) (HNB.out _ hbw2);clear HTA;go_wp2_with fail;rw[rounds_succ];go_wp2_with fail;refine hC1.mono ?_;rintro e w3 ⟨tb,rfl,htb,hb3⟩;have hb23:=Below.join hb2 hb3;have hbw3:=Below.join hbw2 hb3;have HTB:Hid (tb=true↔B4 b):=htb;clear e5 r0 r1 r2 r3 r4 r5 r6 r7 r8 r9 r10 r11 hC1 htb e0;have hs3:=HSS0.out w3 hbw3 hb23;have HS3:Hid _:=hs3;obtain⟨e5,r0,r1,r2,r3,r4,r5,r6,r7,r8,r9,r10,r11⟩:=hs3;have e0:=(HBX.out w3 hb23).cell 0;cases tb with
  | false=>
   have HN:Hid (¬F):=fun h=>by have:=HTB.out.2 (HF.out.1 h).2.1;cases this
   go_wp2_with fail;go_ret;exact⟨false,rfl,⟨fun h=>(by cases h),fun h=>absurd h HN.out⟩,hbw3⟩
  | true=>
   have HT2:Hid (B4 b):=HTB.out.1 rfl;clear HTB;have HXa:Hid (∀W,Below w3.heap.size w3 W->Calls Tryz.prog 45 #[(Value.agg #[.int .i64 a.kind,.int .i64 (Ls.wQu a.p).kind,.string ⟨(Ls.wQu a.p).signs.toArray⟩,.slice b1 b2 b3,.string ⟨a.w.toArray⟩,.slice t1 t2 t3])] W fun e w'=>∃x1 x2 x3,e=.returned (.agg #[.int .i64 (Ls.wQx a).kind,.string ⟨(Ls.wQx a).signs.toArray⟩,.slice x1 x2 x3])/\Below W.heap.size W w'/\∀W',Below w'.heap.size w' W'->PV W' (fun j=>G j\/(w.heap.size<=j/\j<W'.heap.size)) (Ls.wQx a) (.slice x1 x2 x3)):=by
    intro W hW;have hbW:=Below.join hbw3 hW;refine(HSa.out _ _ W G (HO.out _ hbW) (HNA.out _ hbW)).mono ?_;rintro e w' ⟨v,rfl,hx,hbx⟩;obtain⟨x1,x2,x3,rfl⟩:=PV.slice _ _ hx;refine⟨x1,x2,x3,rfl,hbx,fun W' hW'=>hx.below hW' (fun j hj=>?_) (fun j hj=>?_)⟩
    ·rcases hj with hj|hj
     ·exact HO.out _ (Below.join hbW hbx) j hj
     ·exact hj.2
    ·rcases hj with hj|hj
     ·exact .inl hj
     ·exact .inr ⟨Nat.le_trans hbW.size hj.1,Nat.lt_of_lt_of_le hj.2 hW'.size⟩
   have HXb:Hid (∀W,Below w3.heap.size w3 W->Calls Tryz.prog 45 #[(Value.agg #[.int .i64 b.kind,.int .i64 (Ls.wQu b.p).kind,.string ⟨(Ls.wQu b.p).signs.toArray⟩,.slice c1 c2 c3,.string ⟨b.w.toArray⟩,.slice f1 f2 f3])] W fun e w'=>∃x1 x2 x3,e=.returned (.agg #[.int .i64 (Ls.wQx b).kind,.string ⟨(Ls.wQx b).signs.toArray⟩,.slice x1 x2 x3])/\Below W.heap.size W w'/\∀W',Below w'.heap.size w' W'->PV W' (fun j=>G j\/(w.heap.size<=j/\j<W'.heap.size)) (Ls.wQx b) (.slice x1 x2 x3)):=by
    intro W hW;have hbW:=Below.join hbw3 hW;refine(HSb.out _ _ W G (HO.out _ hbW) (HNB.out _ hbW)).mono ?_;rintro e w' ⟨v,rfl,hx,hbx⟩;obtain⟨x1,x2,x3,rfl⟩:=PV.slice _ _ hx;refine⟨x1,x2,x3,rfl,hbx,fun W' hW'=>hx.below hW' (fun j hj=>?_) (fun j hj=>?_)⟩
    ·rcases hj with hj|hj
     ·exact HO.out _ (Below.join hbW hbx) j hj
     ·exact hj.2
    ·rcases hj with hj|hj
     ·exact .inl hj
     ·exact .inr ⟨Nat.le_trans hbW.size hj.1,Nat.lt_of_lt_of_le hj.2 hW'.size⟩
   have HAp:Hid (∀W x1 x2 x3 z1 z2 z3,Below w3.heap.size w3 W->PV W (fun j=>G j\/(w.heap.size<=j/\j<W.heap.size)) (Ls.wQx a) (.slice x1 x2 x3)->PV W (fun j=>G j\/(w.heap.size<=j/\j<W.heap.size)) (Ls.wQx b) (.slice z1 z2 z3)->Calls Tryz.prog 13 #[A7 (Ls.wQx a) (.slice x1 x2 x3),A7 (Ls.wQx b) (.slice z1 z2 z3)] W (R4 W (¬Ls.wQ1 (Ls.wQx a) (Ls.wQx b)))):=by
    intro W x1 x2 x3 z1 z2 z3 hW h1 h2;exact aQo _ _ d1 d2 (by omega) (by omega) _ _ W _ (fun j hj=>by
     rcases hj with hj|hj
     ·exact HO.out _ (Below.join hbw3 hW) j hj
     ·exact hj.2) h1 h2
   have HSS:Hid (∀w',Below w3.heap.size w3 w'->w'.cell? ⟨w.heap.size,5,none⟩=some (.slice (some ⟨g,0,none⟩) 2 2)/\w'.cell? ⟨g,0,none⟩=some (.int .i64 a.kind)/\w'.cell? ⟨g,1,none⟩=some (.int .i64 (Ls.wQu a.p).kind)/\w'.cell? ⟨g,2,none⟩=some (.string ⟨(Ls.wQu a.p).signs.toArray⟩)/\w'.cell? ⟨g,3,none⟩=some (.slice b1 b2 b3)/\w'.cell? ⟨g,4,none⟩=some (.string ⟨a.w.toArray⟩)/\w'.cell? ⟨g,5,none⟩=some (.slice t1 t2 t3)/\w'.cell? ⟨g,6,none⟩=some (.int .i64 b.kind)/\w'.cell? ⟨g,7,none⟩=some (.int .i64 (Ls.wQu b.p).kind)/\w'.cell? ⟨g,8,none⟩=some (.string ⟨(Ls.wQu b.p).signs.toArray⟩)/\w'.cell? ⟨g,9,none⟩=some (.slice c1 c2 c3)/\w'.cell? ⟨g,10,none⟩=some (.string ⟨b.w.toArray⟩)/\w'.cell? ⟨g,11,none⟩=some (.slice f1 f2 f3)):=fun w' h1=>HSS0.out w' (Below.join hbw3 h1) (Below.join hb23 h1);go_wp2_with fail;rw[rounds_succ];go_wp2_with fail;go_region_held (fun w'=>w'.cell? ⟨w.heap.size,5,none⟩=some (.slice (some ⟨g,0,none⟩) 2 2)/\w'.cell? ⟨g,0,none⟩=some (.int .i64 a.kind)/\w'.cell? ⟨g,1,none⟩=some (.int .i64 (Ls.wQu a.p).kind)/\w'.cell? ⟨g,2,none⟩=some (.string ⟨(Ls.wQu a.p).signs.toArray⟩)/\w'.cell? ⟨g,3,none⟩=some (.slice b1 b2 b3)/\w'.cell? ⟨g,4,none⟩=some (.string ⟨a.w.toArray⟩)/\w'.cell? ⟨g,5,none⟩=some (.slice t1 t2 t3)/\w'.cell? ⟨g,6,none⟩=some (.int .i64 b.kind)/\w'.cell? ⟨g,7,none⟩=some (.int .i64 (Ls.wQu b.p).kind)/\w'.cell? ⟨g,8,none⟩=some (.string ⟨(Ls.wQu b.p).signs.toArray⟩)/\w'.cell? ⟨g,9,none⟩=some (.slice c1 c2 c3)/\w'.cell? ⟨g,10,none⟩=some (.string ⟨b.w.toArray⟩)/\w'.cell? ⟨g,11,none⟩=some (.slice f1 f2 f3)) (first|assumption|exact HSS.out _ (Below.refl _ _).drew|exact HSS.out _ hcur|go_keep)
    (first
     | (go_at_call_of 45 (Value.agg #[.int .i64 a.kind,.int .i64 (Ls.wQu a.p).kind,.string ⟨(Ls.wQu a.p).signs.toArray⟩,.slice b1 b2 b3,.string ⟨a.w.toArray⟩,.slice t1 t2 t3]);refine(HXa.out _ ?_).mono ?_;(first|exact(Below.refl _ _).drew|exact hcur);rintro e wa ⟨xa1,xa2,xa3,rfl,hbA,hA⟩;have hcur:Below w3.heap.size w3 wa:=(by first|exact Below.join (Below.refl _ _).drew hbA|exact Below.join hcur hbA);have hsA:=HSS.out wa hcur)
     | (go_at_call_of 45 (Value.agg #[.int .i64 b.kind,.int .i64 (Ls.wQu b.p).kind,.string ⟨(Ls.wQu b.p).signs.toArray⟩,.slice c1 c2 c3,.string ⟨b.w.toArray⟩,.slice f1 f2 f3]);refine(HXb.out _ ?_).mono ?_;(first|exact(Below.refl _ _).drew|exact hcur);rintro e wb ⟨xb1,xb2,xb3,rfl,hbB,hB⟩;have hcur:Below w3.heap.size w3 wb:=(by first|exact Below.join (Below.refl _ _).drew hbB|exact Below.join hcur hbB);have hsB:=HSS.out wb hcur)
     | (go_at_call 13;refine(HAp.out _ _ _ _ _ _ _ hcur (hA _ ?_) (hB _ ?_)).mono ?_;(first|exact Below.refl _ _|exact hbB);(first|exact Below.refl _ _|exact hbA);rintro e w4 ⟨ob,rfl,hob,hb4⟩;have hcur4:Below w3.heap.size w3 w4:=Below.join hcur hb4;have hs4:=HSS.out w4 hcur4))
   all_goals
    have hbw4:=Below.join hbw3 hcur4;have hb24:=Below.join hb23 hcur4;have HOB:Hid (ob=true↔¬Ls.wQ1 (Ls.wQx a) (Ls.wQx b)):=hob;have hC5:=HVa.out _ _ w4 G (HO.out _ hbw4) (HNA.out _ hbw4);clear hob hA hB e5 r0 r1 r2 r3 r4 r5 r6 r7 r8 r9 r10 r11 e0 hs4;obtain⟨e5,r0,r1,r2,r3,r4,r5,r6,r7,r8,r9,r10,r11⟩:=HSS0.out w4 hbw4 hb24;go_wp2_with fail;refine hC5.mono ?_;rintro e w5 ⟨v5,rfl,hp5,hb5⟩;obtain⟨n1,n2,n3,rfl⟩:=PV.slice _ _ hp5;have hz5:=hb5.size;have hbw5:=Below.join hbw4 hb5;have hb25:=Below.join hb24 hb5;have hba:=A4 w5 (B5 (Ls.wQw a) (.slice n1 n2 n3));have hbw5':=Below.join hbw5 hba;have hC6:=HVb.out _ _ (w5.alloc (B5 (Ls.wQw a) (.slice n1 n2 n3))) G (HO.out _ hbw5') (HNB.out _ hbw5');have hla:=C1 w5 (B7 (Ls.wQw a) (.slice n1 n2 n3));clear e5 r0 r1 r2 r3 r4 r5 r6 r7 r8 r9 r10 r11 hC5;obtain⟨e5,r0,r1,r2,r3,r4,r5,r6,r7,r8,r9,r10,r11⟩:=HSS0.out w5 hbw5 hb25;have hgl5:g<w5.heap.size:=Nat.lt_of_lt_of_le hgl hbw5.size;have hwl5:w.heap.size<w5.heap.size:=by have:=hb25.size;simp at this;omega
    have HP5:Hid (PV w5 (E1 G w4 w5) (Ls.wQw a) (.slice n1 n2 n3)):=hp5;have HLA:Hid (Lies (w5.alloc (B5 (Ls.wQw a) (.slice n1 n2 n3))) w5.heap.size (B7 (Ls.wQw a) (.slice n1 n2 n3))):=hla;have HBA:Hid _:=hba;have HB25:Hid _:=Below.join hb25 hba;clear hp5 hla hba;go_wp2_with fail;refine hC6.mono ?_;rintro e w6 ⟨v6,rfl,hp6,hb6⟩;obtain⟨m1,m2,m3,rfl⟩:=PV.slice _ _ hp6;have hz6:=hb6.size;simp at hz6;have hbw6:=Below.join hbw5' hb6;have hbb:=A4 w6 (B5 (Ls.wQw b) (.slice m1 m2 m3));have e0:=(HBX.out w6 (Below.join HB25.out hb6)).cell 0;have hla6:=HLA.out.below hb6 (by simp);obtain⟨k0,k1,k2⟩:=hla6.three;have hl6:=hla6.lt;have hwl6:w.heap.size<w6.heap.size:=by omega
    have h0:=hla6.fr 0;have h1:=hla6.fr 1;have h2:=hla6.fr 2;have hz8:(set3 w6 w5.heap.size (Ls.wQw b) (.slice m1 m2 m3)).heap.size=w6.heap.size:=by simp[set3,World.setCell]
    have hbc:=A4 (set3 w6 w5.heap.size (Ls.wQw b) (.slice m1 m2 m3)) (B5 (Ls.wQw a) (.slice n1 n2 n3));have hbs:Below w.heap.size w (set3 w6 w5.heap.size (Ls.wQw b) (.slice m1 m2 m3)):=((hbw6.setCell (by show w.heap.size<=w5.heap.size;omega) _).setCell (by show w.heap.size<=w5.heap.size;omega) _).setCell (by show w.heap.size<=w5.heap.size;omega) _;have hC7:=aQo (Ls.wQw b) (Ls.wQw a) d4 d3 (by omega) (by omega) (.slice m1 m2 m3) (.slice n1 n2 n3) ((set3 w6 w5.heap.size (Ls.wQw b) (.slice m1 m2 m3)).alloc (B5 (Ls.wQw a) (.slice n1 n2 n3))) (fun j=>G j\/(w.heap.size<=j/\j<w6.heap.size)) (fun j hj=>by
     rw[World.size_alloc,hz8];rcases hj with hj|hj
     ·have:=HO.out _ hbw6 j hj;omega
     ·have:=hj.2;omega) (PV.mono (fun j hj=>by
      rcases hj with hj|hj
      ·exact .inl hj
      ·exact .inr ⟨by have:=hj.1;simp at this;omega,hj.2⟩) (fun j hj=>by
      have hj6:j<w6.heap.size/\j≠w5.heap.size:=by
       rcases hj with hj|hj
       ·have:=HO.out _ hbw5 j hj;exact⟨by omega,by omega⟩
       ·have:=hj.1;simp at this;exact⟨hj.2,by omega⟩
      rw[hbc.block j (by rw[hz8];omega),aQa _ _ _ _ _ hj6.2]) _ _ hp6) (PV.mono (fun j hj=>by
      rcases hj with hj|hj
      ·exact .inl hj
      ·exact .inr ⟨Nat.le_trans hbw4.size hj.1,by have:=hj.2;omega⟩) (fun j hj=>by
      have hj5:j<w5.heap.size:=by
       rcases hj with hj|hj
       ·exact HO.out _ hbw5 j hj
       ·exact hj.2
      rw[hbc.block j (by rw[hz8];omega),aQa _ _ _ _ _ (by omega),hb6.block j (by simp;omega),HBA.out.block j hj5]) _ _ HP5.out)
    have HBW7:Hid (Below w.heap.size w ((set3 w6 w5.heap.size (Ls.wQw b) (.slice m1 m2 m3)).alloc (B5 (Ls.wQw a) (.slice n1 n2 n3)))):=Below.join hbs hbc;clear hbc hbs hz8;clear e5 r0 r1 r2 r3 r4 r5 r6 r7 r8 r9 r10 r11 hC6 hp6 hla6 hbb HP5 HLA;go_wp2_with fail;refine hC7.mono ?_;rintro e w8 ⟨ob2,rfl,hob2,hb8⟩;have HW:Hid (Below w.heap.size w w8):=Below.join HBW7.out hb8;have HX:Hid ((ob&&ob2)=true↔F):=by
     show _↔_;rw[HF.out,Bool.and_eq_true,HOB.out,hob2];exact⟨fun h=>⟨HT1.out,HT2.out,h⟩,fun h=>h.2.2⟩
    clear hC7 hob2 HOB;cases ob with
    | false=>
     go_wp2_with fail;go_ret;exact⟨false,rfl,HX.out,HW.out⟩
    | true=>
     have HX2:Hid (ob2=true↔F):=HX.out;go_wp2_with fail;go_ret;exact⟨ob2,rfl,HX2.out,HW.out⟩
end Go.Proofs.YtcggfnlejalppaaGreatDoor
