import Derived.Test.YtcggfnlejalppaaGreatDoorK30
import Derived.Deep.RegionWith
set_option maxRecDepth 100000
set_option maxHeartbeats 4000000
namespace Go.Proofs.YtcggfnlejalppaaGreatDoor
open Go.RowKit
theorem pQp (p:Ls.D)(ws:List UInt8)(a b:Ls.Ln)(ha:D4 a)(hb:D4 b):D4 ⟨3,p,ws,[a,b]⟩:=by
 intro y x w G hG h;rw[NV]at h;obtain⟨hv,g,v1,u1,v2,u2,hg,rfl,hli,hna,hnb⟩:=h;obtain⟨y1,y2,y3,rfl⟩:=PV.slice _ _ hv;obtain⟨⟨b1,b2,b3,rfl⟩,d1,d2,d3,rfl⟩:=NV.slices _ _ _ hna;obtain⟨⟨c1,c2,c3,rfl⟩,f1,f2,f3,rfl⟩:=NV.slices _ _ _ hnb;have hgl:=hG g hg;have hsp:Ls.wQx ⟨3,p,ws,[a,b]⟩=Ls.row (Ls.wQx a) (Ls.wQx b):=by simp[Ls.wQx]
 rw[hsp];have hb0:=C0 w (A8 3 (Ls.wQu p) ws (.slice y1 y2 y3) (.slice (some ⟨g,0,none⟩) 2 2)) D8;obtain⟨hbx,hrs⟩:=P6 w 3 (Ls.wQu p) ws (.slice y1 y2 y3) (.slice (some ⟨g,0,none⟩) 2 2);have hC:=ha _ _ _ G (fun j hj=>Nat.lt_of_lt_of_le (hG j hj) hb0.size) (hna.below hb0 (fun j hj=>hG j hj) (fun _ h=>h));have HLI:Hid (LiesL w g (D2 a (.slice b1 b2 b3) (.slice d1 d2 d3)++D2 b (.slice c1 c2 c3) (.slice f1 f2 f3))):=hli;have HBX:Hid (LiesL ((w.alloc (A8 3 (Ls.wQu p) ws (.slice y1 y2 y3) (.slice (some ⟨g,0,none⟩) 2 2))).alloc D8) w.heap.size [.int .i64 (3:Nat),.int .i64 (Ls.wQu p).kind,.string ⟨(Ls.wQu p).signs.toArray⟩,.slice y1 y2 y3,.string ⟨ws.toArray⟩,.slice (some ⟨g,0,none⟩) 2 2]):=hbx;have HRS:Hid (Lies ((w.alloc (A8 3 (Ls.wQu p) ws (.slice y1 y2 y3) (.slice (some ⟨g,0,none⟩) 2 2))).alloc D8) (w.heap.size+1) [.int .i64 0,.string ⟨#[]⟩,.slice none 0 0]):=hrs;have HB0:Hid _:=hb0;have HNb:Hid _:=hnb;have r0:=hli.cell 0;have r1:=hli.cell 1;have r2:=hli.cell 2;have r3:=hli.cell 3;have r4:=hli.cell 4;have r5:=hli.cell 5;simp only[D2,List.cons_append,List.nil_append,List.getElem?_cons_succ,List.getElem?_cons_zero]at r0 r1 r2 r3 r4 r5;clear hv hna hnb hli hsp hbx hrs hb0;go_enter Tryz.func45,Tryz.ntmps45;go_wp2_with fail;refine hC.mono ?_;rintro e w3 ⟨v,rfl,hp3,hb3⟩;obtain⟨s1,s2,s3,rfl⟩:=PV.slice _ _ hp3;have hz3:=hb3.size;simp at hz3;have hb4:=A4 w3 (B5 (Ls.wQx a) (.slice s1 s2 s3));have hbw3:=Below.join HB0.out hb3;have hbw4:=Below.join hbw3 hb4;have hC2:=hb _ _ _ G (fun j hj=>Nat.lt_of_lt_of_le (hG j hj) hbw4.size) (HNb.out.below hbw4 (fun j hj=>hG j hj) (fun _ h=>h));have hbx3:=HBX.out.of_block (hb3.block _ HBX.out.lt);have hli3:=HLI.out.of_block (hbw3.block g hgl);clear r0 r1 r2 r3 r4 r5 hC;have e5:=hbx3.cell 5;have r0:=hli3.cell 6;have r1:=hli3.cell 7;have r2:=hli3.cell 8;have r3:=hli3.cell 9;have r4:=hli3.cell 10;have r5:=hli3.cell 11;simp only[D2,List.cons_append,List.nil_append,List.getElem?_cons_succ,List.getElem?_cons_zero]at e5 r0 r1 r2 r3 r4 r5;have hgl3:g<w3.heap.size:=by omega
 have hwl3:w.heap.size<w3.heap.size:=by omega
 have HP3:Hid _:=hp3;have HB3:Hid _:=hb3;have HB4:Hid _:=hb4;have HBW4:Hid _:=hbw4;clear hbx3 hli3 hp3 hb4 hbw3 hbw4 hb3;go_wp2_with fail;refine hC2.mono ?_;rintro e w5 ⟨v5,rfl,hp5,hb5⟩;obtain⟨t1,t2,t3,rfl⟩:=PV.slice _ _ hp5;have hz5:=hb5.size;simp at hz5;have hb6:=A4 w5 (B5 (Ls.wQx b) (.slice t1 t2 t3));have hla5:Lies w5 w3.heap.size (B7 (Ls.wQx a) (.slice s1 s2 s3)):=(C1 w3 (B7 (Ls.wQx a) (.slice s1 s2 s3))).below hb5 (by simp);obtain⟨m0,m1,m2⟩:=hla5.three;have hwl5:w3.heap.size<w5.heap.size:=hla5.lt;have hbw5:=Below.join HBW4.out hb5;have hbw6:=Below.join hbw5 hb6;have hC3:=R8 (Ls.wQx a) (Ls.wQx b) (.slice s1 s2 s3) (.slice t1 t2 t3) (w5.alloc (B5 (Ls.wQx b) (.slice t1 t2 t3))) (fun j=>G j\/(w.heap.size+2<=j/\j<w5.heap.size)) (fun j hj=>by
  rcases hj with hj|hj
  ·have:=hG j hj;simp;omega
  ·have:=hj.2;simp;omega) (PV.mono (fun j hj=>by
   rcases hj with hj|hj
   ·exact .inl hj
   ·have h1:=hj.1;have h2:=hj.2;simp at h1;exact .inr ⟨by omega,by omega⟩) (fun j hj=>by
   have hj3:j<w3.heap.size:=by
    rcases hj with hj|hj
    ·have:=hG j hj;omega
    ·exact hj.2
   rw[hb6.block j (by omega),hb5.block j (by simp;omega),HB4.out.block j hj3]) _ _ HP3.out) (PV.mono (fun j hj=>by
   rcases hj with hj|hj
   ·exact .inl hj
   ·have h1:=hj.1;have h2:=hj.2;simp at h1;exact .inr ⟨by omega,by omega⟩) (fun j hj=>by
   have hj5:j<w5.heap.size:=by
    rcases hj with hj|hj
    ·have:=hG j hj;omega
    ·exact hj.2
   rw[hb6.block j hj5]) _ _ hp5)
 have HRS6:Hid (Lies (w5.alloc (B5 (Ls.wQx b) (.slice t1 t2 t3))) (w.heap.size+1) [.int .i64 0,.string ⟨#[]⟩,.slice none 0 0]):=(((HRS.out.below HB3.out (by simp)).below HB4.out (by omega)).below hb5 (by simp;omega)).below hb6 (by omega);have HBW6:Hid _:=hbw6;clear hla5 hp5 hb5 hb6 hbw5 hbw6 hC2 e5 r0 r1 r2 r3 r4 r5 HP3 HB3 HB4 HBW4 HNb;go_wp2_with fail;refine hC3.mono ?_;rintro e w7 ⟨u,rfl,hp7,hb7⟩;obtain⟨n1,n2,n3,rfl⟩:=PV.slice _ _ hp7;have hz7:=hb7.size;simp at hz7;have hrs7:=HRS6.out.below hb7 (by simp;omega);obtain⟨q0,q1,q2⟩:=hrs7.three (a:=Ls.none);have g0:=hrs7.fr 0;have g1:=hrs7.fr 1;have g2:=hrs7.fr 2;have hrl:=hrs7.lt;have HP:Hid (G7 w G (Ls.row (Ls.wQx a) (Ls.wQx b)) (.returned (A7 (Ls.row (Ls.wQx a) (Ls.wQx b)) (.slice n1 n2 n3))) (set3 w7 (w.heap.size+1) (Ls.row (Ls.wQx a) (Ls.wQx b)) (.slice n1 n2 n3))):=M8 (by omega) hp7 (Below.join HBW6.out hb7) (fun j hj=>by
  rcases hj with (hj|hj)|hj
  ·have:=hG j hj;exact⟨by omega,.inl hj⟩
  ·have h1:=hj.1;have h2:=hj.2;exact⟨by omega,.inr ⟨by omega,by omega⟩⟩
  ·have h1:=hj.1;have h2:=hj.2;simp at h1;exact⟨by omega,.inr ⟨by omega,by omega⟩⟩)
 clear hrs7 hp7 hC3 m0 m1 m2;go_wp2_with fail;exact bodyPost_ret (v:=A7 (Ls.row (Ls.wQx a) (Ls.wQx b)) (.slice n1 n2 n3)) (by simp[results,Tryz.results45,go_sem,q0,q1,q2]) rfl HP.out
theorem sQb (p:Ls.D)(ws:List UInt8)(a b:Ls.Ln)(ha:D4 a)(hb:D4 b):D4 ⟨4,p,ws,[a,b]⟩:=by
 intro y x w G hG h;rw[NV]at h;obtain⟨hv,g,v1,u1,v2,u2,hg,rfl,hli,hna,hnb⟩:=h;obtain⟨y1,y2,y3,rfl⟩:=PV.slice _ _ hv;obtain⟨⟨b1,b2,b3,rfl⟩,d1,d2,d3,rfl⟩:=NV.slices _ _ _ hna;obtain⟨⟨c1,c2,c3,rfl⟩,f1,f2,f3,rfl⟩:=NV.slices _ _ _ hnb;have hgl:=hG g hg;have hsp:Ls.wQx ⟨4,p,ws,[a,b]⟩=Ls.row (Ls.wQx a) (Ls.wQx b):=by simp[Ls.wQx]
 rw[hsp];have hb0:=C0 w (A8 4 (Ls.wQu p) ws (.slice y1 y2 y3) (.slice (some ⟨g,0,none⟩) 2 2)) D8;obtain⟨hbx,hrs⟩:=P6 w 4 (Ls.wQu p) ws (.slice y1 y2 y3) (.slice (some ⟨g,0,none⟩) 2 2);have hC:=ha _ _ _ G (fun j hj=>Nat.lt_of_lt_of_le (hG j hj) hb0.size) (hna.below hb0 (fun j hj=>hG j hj) (fun _ h=>h));have HLI:Hid (LiesL w g (D2 a (.slice b1 b2 b3) (.slice d1 d2 d3)++D2 b (.slice c1 c2 c3) (.slice f1 f2 f3))):=hli;have HBX:Hid (LiesL ((w.alloc (A8 4 (Ls.wQu p) ws (.slice y1 y2 y3) (.slice (some ⟨g,0,none⟩) 2 2))).alloc D8) w.heap.size [.int .i64 (4:Nat),.int .i64 (Ls.wQu p).kind,.string ⟨(Ls.wQu p).signs.toArray⟩,.slice y1 y2 y3,.string ⟨ws.toArray⟩,.slice (some ⟨g,0,none⟩) 2 2]):=hbx;have HRS:Hid (Lies ((w.alloc (A8 4 (Ls.wQu p) ws (.slice y1 y2 y3) (.slice (some ⟨g,0,none⟩) 2 2))).alloc D8) (w.heap.size+1) [.int .i64 0,.string ⟨#[]⟩,.slice none 0 0]):=hrs;have HB0:Hid _:=hb0;have HNb:Hid _:=hnb;have r0:=hli.cell 0;have r1:=hli.cell 1;have r2:=hli.cell 2;have r3:=hli.cell 3;have r4:=hli.cell 4;have r5:=hli.cell 5;simp only[D2,List.cons_append,List.nil_append,List.getElem?_cons_succ,List.getElem?_cons_zero]at r0 r1 r2 r3 r4 r5;clear hv hna hnb hli hsp hbx hrs hb0;go_enter Tryz.func45,Tryz.ntmps45;go_wp2_with fail;refine hC.mono ?_;rintro e w3 ⟨v,rfl,hp3,hb3⟩;obtain⟨s1,s2,s3,rfl⟩:=PV.slice _ _ hp3;have hz3:=hb3.size;simp at hz3;have hb4:=A4 w3 (B5 (Ls.wQx a) (.slice s1 s2 s3));have hbw3:=Below.join HB0.out hb3;have hbw4:=Below.join hbw3 hb4;have hC2:=hb _ _ _ G (fun j hj=>Nat.lt_of_lt_of_le (hG j hj) hbw4.size) (HNb.out.below hbw4 (fun j hj=>hG j hj) (fun _ h=>h));have hbx3:=HBX.out.of_block (hb3.block _ HBX.out.lt);have hli3:=HLI.out.of_block (hbw3.block g hgl);clear r0 r1 r2 r3 r4 r5 hC;have e5:=hbx3.cell 5;have r0:=hli3.cell 6;have r1:=hli3.cell 7;have r2:=hli3.cell 8;have r3:=hli3.cell 9;have r4:=hli3.cell 10;have r5:=hli3.cell 11;simp only[D2,List.cons_append,List.nil_append,List.getElem?_cons_succ,List.getElem?_cons_zero]at e5 r0 r1 r2 r3 r4 r5;have hgl3:g<w3.heap.size:=by omega
 have hwl3:w.heap.size<w3.heap.size:=by omega
 have HP3:Hid _:=hp3;have HB3:Hid _:=hb3;have HB4:Hid _:=hb4;have HBW4:Hid _:=hbw4;clear hbx3 hli3 hp3 hb4 hbw3 hbw4 hb3;go_wp2_with fail;refine hC2.mono ?_;rintro e w5 ⟨v5,rfl,hp5,hb5⟩;obtain⟨t1,t2,t3,rfl⟩:=PV.slice _ _ hp5;have hz5:=hb5.size;simp at hz5;have hb6:=A4 w5 (B5 (Ls.wQx b) (.slice t1 t2 t3));have hla5:Lies w5 w3.heap.size (B7 (Ls.wQx a) (.slice s1 s2 s3)):=(C1 w3 (B7 (Ls.wQx a) (.slice s1 s2 s3))).below hb5 (by simp);obtain⟨m0,m1,m2⟩:=hla5.three;have hwl5:w3.heap.size<w5.heap.size:=hla5.lt;have hbw5:=Below.join HBW4.out hb5;have hbw6:=Below.join hbw5 hb6;have hC3:=R8 (Ls.wQx a) (Ls.wQx b) (.slice s1 s2 s3) (.slice t1 t2 t3) (w5.alloc (B5 (Ls.wQx b) (.slice t1 t2 t3))) (fun j=>G j\/(w.heap.size+2<=j/\j<w5.heap.size)) (fun j hj=>by
  rcases hj with hj|hj
  ·have:=hG j hj;simp;omega
  ·have:=hj.2;simp;omega) (PV.mono (fun j hj=>by
   rcases hj with hj|hj
   ·exact .inl hj
   ·have h1:=hj.1;have h2:=hj.2;simp at h1;exact .inr ⟨by omega,by omega⟩) (fun j hj=>by
   have hj3:j<w3.heap.size:=by
    rcases hj with hj|hj
    ·have:=hG j hj;omega
    ·exact hj.2
   rw[hb6.block j (by omega),hb5.block j (by simp;omega),HB4.out.block j hj3]) _ _ HP3.out) (PV.mono (fun j hj=>by
   rcases hj with hj|hj
   ·exact .inl hj
   ·have h1:=hj.1;have h2:=hj.2;simp at h1;exact .inr ⟨by omega,by omega⟩) (fun j hj=>by
   have hj5:j<w5.heap.size:=by
    rcases hj with hj|hj
    ·have:=hG j hj;omega
    ·exact hj.2
   rw[hb6.block j hj5]) _ _ hp5)
 have HRS6:Hid (Lies (w5.alloc (B5 (Ls.wQx b) (.slice t1 t2 t3))) (w.heap.size+1) [.int .i64 0,.string ⟨#[]⟩,.slice none 0 0]):=(((HRS.out.below HB3.out (by simp)).below HB4.out (by omega)).below hb5 (by simp;omega)).below hb6 (by omega);have HBW6:Hid _:=hbw6;clear hla5 hp5 hb5 hb6 hbw5 hbw6 hC2 e5 r0 r1 r2 r3 r4 r5 HP3 HB3 HB4 HBW4 HNb;go_wp2_with fail;refine hC3.mono ?_;rintro e w7 ⟨u,rfl,hp7,hb7⟩;obtain⟨n1,n2,n3,rfl⟩:=PV.slice _ _ hp7;have hz7:=hb7.size;simp at hz7;have hrs7:=HRS6.out.below hb7 (by simp;omega);obtain⟨q0,q1,q2⟩:=hrs7.three (a:=Ls.none);have g0:=hrs7.fr 0;have g1:=hrs7.fr 1;have g2:=hrs7.fr 2;have hrl:=hrs7.lt;have HP:Hid (G7 w G (Ls.row (Ls.wQx a) (Ls.wQx b)) (.returned (A7 (Ls.row (Ls.wQx a) (Ls.wQx b)) (.slice n1 n2 n3))) (set3 w7 (w.heap.size+1) (Ls.row (Ls.wQx a) (Ls.wQx b)) (.slice n1 n2 n3))):=M8 (by omega) hp7 (Below.join HBW6.out hb7) (fun j hj=>by
  rcases hj with (hj|hj)|hj
  ·have:=hG j hj;exact⟨by omega,.inl hj⟩
  ·have h1:=hj.1;have h2:=hj.2;exact⟨by omega,.inr ⟨by omega,by omega⟩⟩
  ·have h1:=hj.1;have h2:=hj.2;simp at h1;exact⟨by omega,.inr ⟨by omega,by omega⟩⟩)
 clear hrs7 hp7 hC3 m0 m1 m2;go_wp2_with fail;exact bodyPost_ret (v:=A7 (Ls.row (Ls.wQx a) (Ls.wQx b)) (.slice n1 n2 n3)) (by simp[results,Tryz.results45,go_sem,q0,q1,q2]) rfl HP.out
theorem mQ3 (p:Ls.D)(ws:List UInt8)(a b:Ls.Ln)(ha:D4 a)(hb:D4 b):D4 ⟨5,p,ws,[a,b]⟩:=by
 intro y x w G hG h;rw[NV]at h;obtain⟨hv,g,v1,u1,v2,u2,hg,rfl,hli,hna,hnb⟩:=h;obtain⟨y1,y2,y3,rfl⟩:=PV.slice _ _ hv;obtain⟨⟨b1,b2,b3,rfl⟩,d1,d2,d3,rfl⟩:=NV.slices _ _ _ hna;obtain⟨⟨c1,c2,c3,rfl⟩,f1,f2,f3,rfl⟩:=NV.slices _ _ _ hnb;have hgl:=hG g hg;have hsp:Ls.wQx ⟨5,p,ws,[a,b]⟩=Ls.any (Ls.wQx a) (Ls.wQx b):=by simp[Ls.wQx]
 rw[hsp];have hb0:=C0 w (A8 5 (Ls.wQu p) ws (.slice y1 y2 y3) (.slice (some ⟨g,0,none⟩) 2 2)) D8;obtain⟨hbx,hrs⟩:=P6 w 5 (Ls.wQu p) ws (.slice y1 y2 y3) (.slice (some ⟨g,0,none⟩) 2 2);have hC:=ha _ _ _ G (fun j hj=>Nat.lt_of_lt_of_le (hG j hj) hb0.size) (hna.below hb0 (fun j hj=>hG j hj) (fun _ h=>h));have HLI:Hid (LiesL w g (D2 a (.slice b1 b2 b3) (.slice d1 d2 d3)++D2 b (.slice c1 c2 c3) (.slice f1 f2 f3))):=hli;have HBX:Hid (LiesL ((w.alloc (A8 5 (Ls.wQu p) ws (.slice y1 y2 y3) (.slice (some ⟨g,0,none⟩) 2 2))).alloc D8) w.heap.size [.int .i64 (5:Nat),.int .i64 (Ls.wQu p).kind,.string ⟨(Ls.wQu p).signs.toArray⟩,.slice y1 y2 y3,.string ⟨ws.toArray⟩,.slice (some ⟨g,0,none⟩) 2 2]):=hbx;have HRS:Hid (Lies ((w.alloc (A8 5 (Ls.wQu p) ws (.slice y1 y2 y3) (.slice (some ⟨g,0,none⟩) 2 2))).alloc D8) (w.heap.size+1) [.int .i64 0,.string ⟨#[]⟩,.slice none 0 0]):=hrs;have HB0:Hid _:=hb0;have HNb:Hid _:=hnb;have r0:=hli.cell 0;have r1:=hli.cell 1;have r2:=hli.cell 2;have r3:=hli.cell 3;have r4:=hli.cell 4;have r5:=hli.cell 5;simp only[D2,List.cons_append,List.nil_append,List.getElem?_cons_succ,List.getElem?_cons_zero]at r0 r1 r2 r3 r4 r5;clear hv hna hnb hli hsp hbx hrs hb0;go_enter Tryz.func45,Tryz.ntmps45;go_wp2_with fail;refine hC.mono ?_;rintro e w3 ⟨v,rfl,hp3,hb3⟩;obtain⟨s1,s2,s3,rfl⟩:=PV.slice _ _ hp3;have hz3:=hb3.size;simp at hz3;have hb4:=A4 w3 (B5 (Ls.wQx a) (.slice s1 s2 s3));have hbw3:=Below.join HB0.out hb3;have hbw4:=Below.join hbw3 hb4;have hC2:=hb _ _ _ G (fun j hj=>Nat.lt_of_lt_of_le (hG j hj) hbw4.size) (HNb.out.below hbw4 (fun j hj=>hG j hj) (fun _ h=>h));have hbx3:=HBX.out.of_block (hb3.block _ HBX.out.lt);have hli3:=HLI.out.of_block (hbw3.block g hgl);clear r0 r1 r2 r3 r4 r5 hC;have e5:=hbx3.cell 5;have r0:=hli3.cell 6;have r1:=hli3.cell 7;have r2:=hli3.cell 8;have r3:=hli3.cell 9;have r4:=hli3.cell 10;have r5:=hli3.cell 11;simp only[D2,List.cons_append,List.nil_append,List.getElem?_cons_succ,List.getElem?_cons_zero]at e5 r0 r1 r2 r3 r4 r5;have hgl3:g<w3.heap.size:=by omega
 have hwl3:w.heap.size<w3.heap.size:=by omega
 have HP3:Hid _:=hp3;have HB3:Hid _:=hb3;have HB4:Hid _:=hb4;have HBW4:Hid _:=hbw4;clear hbx3 hli3 hp3 hb4 hbw3 hbw4 hb3;go_wp2_with fail;refine hC2.mono ?_;rintro e w5 ⟨v5,rfl,hp5,hb5⟩;obtain⟨t1,t2,t3,rfl⟩:=PV.slice _ _ hp5;have hz5:=hb5.size;simp at hz5;have hb6:=A4 w5 (B5 (Ls.wQx b) (.slice t1 t2 t3));have hla5:Lies w5 w3.heap.size (B7 (Ls.wQx a) (.slice s1 s2 s3)):=(C1 w3 (B7 (Ls.wQx a) (.slice s1 s2 s3))).below hb5 (by simp);obtain⟨m0,m1,m2⟩:=hla5.three;have hwl5:w3.heap.size<w5.heap.size:=hla5.lt;have hbw5:=Below.join HBW4.out hb5;have hbw6:=Below.join hbw5 hb6;have hC3:=bQs (Ls.wQx a) (Ls.wQx b) (.slice s1 s2 s3) (.slice t1 t2 t3) (w5.alloc (B5 (Ls.wQx b) (.slice t1 t2 t3))) (fun j=>G j\/(w.heap.size+2<=j/\j<w5.heap.size)) (fun j hj=>by
  rcases hj with hj|hj
  ·have:=hG j hj;simp;omega
  ·have:=hj.2;simp;omega) (PV.mono (fun j hj=>by
   rcases hj with hj|hj
   ·exact .inl hj
   ·have h1:=hj.1;have h2:=hj.2;simp at h1;exact .inr ⟨by omega,by omega⟩) (fun j hj=>by
   have hj3:j<w3.heap.size:=by
    rcases hj with hj|hj
    ·have:=hG j hj;omega
    ·exact hj.2
   rw[hb6.block j (by omega),hb5.block j (by simp;omega),HB4.out.block j hj3]) _ _ HP3.out) (PV.mono (fun j hj=>by
   rcases hj with hj|hj
   ·exact .inl hj
   ·have h1:=hj.1;have h2:=hj.2;simp at h1;exact .inr ⟨by omega,by omega⟩) (fun j hj=>by
   have hj5:j<w5.heap.size:=by
    rcases hj with hj|hj
    ·have:=hG j hj;omega
    ·exact hj.2
   rw[hb6.block j hj5]) _ _ hp5)
 have HRS6:Hid (Lies (w5.alloc (B5 (Ls.wQx b) (.slice t1 t2 t3))) (w.heap.size+1) [.int .i64 0,.string ⟨#[]⟩,.slice none 0 0]):=(((HRS.out.below HB3.out (by simp)).below HB4.out (by omega)).below hb5 (by simp;omega)).below hb6 (by omega);have HBW6:Hid _:=hbw6;clear hla5 hp5 hb5 hb6 hbw5 hbw6 hC2 e5 r0 r1 r2 r3 r4 r5 HP3 HB3 HB4 HBW4 HNb;go_wp2_with fail;refine hC3.mono ?_;rintro e w7 ⟨u,rfl,hp7,hb7⟩;obtain⟨n1,n2,n3,rfl⟩:=PV.slice _ _ hp7;have hz7:=hb7.size;simp at hz7;have hrs7:=HRS6.out.below hb7 (by simp;omega);obtain⟨q0,q1,q2⟩:=hrs7.three (a:=Ls.none);have g0:=hrs7.fr 0;have g1:=hrs7.fr 1;have g2:=hrs7.fr 2;have hrl:=hrs7.lt;have HP:Hid (G7 w G (Ls.any (Ls.wQx a) (Ls.wQx b)) (.returned (A7 (Ls.any (Ls.wQx a) (Ls.wQx b)) (.slice n1 n2 n3))) (set3 w7 (w.heap.size+1) (Ls.any (Ls.wQx a) (Ls.wQx b)) (.slice n1 n2 n3))):=M8 (by omega) hp7 (Below.join HBW6.out hb7) (fun j hj=>by
  rcases hj with (hj|hj)|hj
  ·have:=hG j hj;exact⟨by omega,.inl hj⟩
  ·have h1:=hj.1;have h2:=hj.2;exact⟨by omega,.inr ⟨by omega,by omega⟩⟩
  ·have h1:=hj.1;have h2:=hj.2;simp at h1;exact⟨by omega,.inr ⟨by omega,by omega⟩⟩)
 clear hrs7 hp7 hC3 m0 m1 m2;go_wp2_with fail;exact bodyPost_ret (v:=A7 (Ls.any (Ls.wQx a) (Ls.wQx b)) (.slice n1 n2 n3)) (by simp[results,Tryz.results45,go_sem,q0,q1,q2]) rfl HP.out
theorem pQu (p:Ls.D)(ws:List UInt8)(a b:Ls.Ln)(ha:E9 a)(hb:E9 b):E9 ⟨3,p,ws,[a,b]⟩:=by
 intro y x w G hG h;rw[NV]at h;obtain⟨hv,g,v1,u1,v2,u2,hg,rfl,hli,hna,hnb⟩:=h;obtain⟨y1,y2,y3,rfl⟩:=PV.slice _ _ hv;obtain⟨⟨b1,b2,b3,rfl⟩,d1,d2,d3,rfl⟩:=NV.slices _ _ _ hna;obtain⟨⟨c1,c2,c3,rfl⟩,f1,f2,f3,rfl⟩:=NV.slices _ _ _ hnb;have hgl:=hG g hg;have hsp:Ls.wQw ⟨3,p,ws,[a,b]⟩=Ls.row (Ls.wQw a) (Ls.wQw b):=by simp[Ls.wQw]
 rw[hsp];have hb0:=C0 w (A8 3 (Ls.wQu p) ws (.slice y1 y2 y3) (.slice (some ⟨g,0,none⟩) 2 2)) D8;obtain⟨hbx,hrs⟩:=P6 w 3 (Ls.wQu p) ws (.slice y1 y2 y3) (.slice (some ⟨g,0,none⟩) 2 2);have hC:=ha _ _ _ G (fun j hj=>Nat.lt_of_lt_of_le (hG j hj) hb0.size) (hna.below hb0 (fun j hj=>hG j hj) (fun _ h=>h));have HLI:Hid (LiesL w g (D2 a (.slice b1 b2 b3) (.slice d1 d2 d3)++D2 b (.slice c1 c2 c3) (.slice f1 f2 f3))):=hli;have HBX:Hid (LiesL ((w.alloc (A8 3 (Ls.wQu p) ws (.slice y1 y2 y3) (.slice (some ⟨g,0,none⟩) 2 2))).alloc D8) w.heap.size [.int .i64 (3:Nat),.int .i64 (Ls.wQu p).kind,.string ⟨(Ls.wQu p).signs.toArray⟩,.slice y1 y2 y3,.string ⟨ws.toArray⟩,.slice (some ⟨g,0,none⟩) 2 2]):=hbx;have HRS:Hid (Lies ((w.alloc (A8 3 (Ls.wQu p) ws (.slice y1 y2 y3) (.slice (some ⟨g,0,none⟩) 2 2))).alloc D8) (w.heap.size+1) [.int .i64 0,.string ⟨#[]⟩,.slice none 0 0]):=hrs;have HB0:Hid _:=hb0;have HNb:Hid _:=hnb;have r0:=hli.cell 0;have r1:=hli.cell 1;have r2:=hli.cell 2;have r3:=hli.cell 3;have r4:=hli.cell 4;have r5:=hli.cell 5;simp only[D2,List.cons_append,List.nil_append,List.getElem?_cons_succ,List.getElem?_cons_zero]at r0 r1 r2 r3 r4 r5;clear hv hna hnb hli hsp hbx hrs hb0;go_enter Tryz.func47,Tryz.ntmps47;go_wp2_with fail;refine hC.mono ?_;rintro e w3 ⟨v,rfl,hp3,hb3⟩;obtain⟨s1,s2,s3,rfl⟩:=PV.slice _ _ hp3;have hz3:=hb3.size;simp at hz3;have hb4:=A4 w3 (B5 (Ls.wQw a) (.slice s1 s2 s3));have hbw3:=Below.join HB0.out hb3;have hbw4:=Below.join hbw3 hb4;have hC2:=hb _ _ _ G (fun j hj=>Nat.lt_of_lt_of_le (hG j hj) hbw4.size) (HNb.out.below hbw4 (fun j hj=>hG j hj) (fun _ h=>h));have hbx3:=HBX.out.of_block (hb3.block _ HBX.out.lt);have hli3:=HLI.out.of_block (hbw3.block g hgl);clear r0 r1 r2 r3 r4 r5 hC;have e5:=hbx3.cell 5;have r0:=hli3.cell 6;have r1:=hli3.cell 7;have r2:=hli3.cell 8;have r3:=hli3.cell 9;have r4:=hli3.cell 10;have r5:=hli3.cell 11;simp only[D2,List.cons_append,List.nil_append,List.getElem?_cons_succ,List.getElem?_cons_zero]at e5 r0 r1 r2 r3 r4 r5;have hgl3:g<w3.heap.size:=by omega
 have hwl3:w.heap.size<w3.heap.size:=by omega
 have HP3:Hid _:=hp3;have HB3:Hid _:=hb3;have HB4:Hid _:=hb4;have HBW4:Hid _:=hbw4;clear hbx3 hli3 hp3 hb4 hbw3 hbw4 hb3;go_wp2_with fail;refine hC2.mono ?_;rintro e w5 ⟨v5,rfl,hp5,hb5⟩;obtain⟨t1,t2,t3,rfl⟩:=PV.slice _ _ hp5;have hz5:=hb5.size;simp at hz5;have hb6:=A4 w5 (B5 (Ls.wQw b) (.slice t1 t2 t3));have hla5:Lies w5 w3.heap.size (B7 (Ls.wQw a) (.slice s1 s2 s3)):=(C1 w3 (B7 (Ls.wQw a) (.slice s1 s2 s3))).below hb5 (by simp);obtain⟨m0,m1,m2⟩:=hla5.three;have hwl5:w3.heap.size<w5.heap.size:=hla5.lt;have hbw5:=Below.join HBW4.out hb5;have hbw6:=Below.join hbw5 hb6;have hC3:=R8 (Ls.wQw a) (Ls.wQw b) (.slice s1 s2 s3) (.slice t1 t2 t3) (w5.alloc (B5 (Ls.wQw b) (.slice t1 t2 t3))) (fun j=>G j\/(w.heap.size+2<=j/\j<w5.heap.size)) (fun j hj=>by
  rcases hj with hj|hj
  ·have:=hG j hj;simp;omega
  ·have:=hj.2;simp;omega) (PV.mono (fun j hj=>by
   rcases hj with hj|hj
   ·exact .inl hj
   ·have h1:=hj.1;have h2:=hj.2;simp at h1;exact .inr ⟨by omega,by omega⟩) (fun j hj=>by
   have hj3:j<w3.heap.size:=by
    rcases hj with hj|hj
    ·have:=hG j hj;omega
    ·exact hj.2
   rw[hb6.block j (by omega),hb5.block j (by simp;omega),HB4.out.block j hj3]) _ _ HP3.out) (PV.mono (fun j hj=>by
   rcases hj with hj|hj
   ·exact .inl hj
   ·have h1:=hj.1;have h2:=hj.2;simp at h1;exact .inr ⟨by omega,by omega⟩) (fun j hj=>by
   have hj5:j<w5.heap.size:=by
    rcases hj with hj|hj
    ·have:=hG j hj;omega
    ·exact hj.2
   rw[hb6.block j hj5]) _ _ hp5)
 have HRS6:Hid (Lies (w5.alloc (B5 (Ls.wQw b) (.slice t1 t2 t3))) (w.heap.size+1) [.int .i64 0,.string ⟨#[]⟩,.slice none 0 0]):=(((HRS.out.below HB3.out (by simp)).below HB4.out (by omega)).below hb5 (by simp;omega)).below hb6 (by omega);have HBW6:Hid _:=hbw6;clear hla5 hp5 hb5 hb6 hbw5 hbw6 hC2 e5 r0 r1 r2 r3 r4 r5 HP3 HB3 HB4 HBW4 HNb;go_wp2_with fail;refine hC3.mono ?_;rintro e w7 ⟨u,rfl,hp7,hb7⟩;obtain⟨n1,n2,n3,rfl⟩:=PV.slice _ _ hp7;have hz7:=hb7.size;simp at hz7;have hrs7:=HRS6.out.below hb7 (by simp;omega);obtain⟨q0,q1,q2⟩:=hrs7.three (a:=Ls.none);have g0:=hrs7.fr 0;have g1:=hrs7.fr 1;have g2:=hrs7.fr 2;have hrl:=hrs7.lt;have HP:Hid (G7 w G (Ls.row (Ls.wQw a) (Ls.wQw b)) (.returned (A7 (Ls.row (Ls.wQw a) (Ls.wQw b)) (.slice n1 n2 n3))) (set3 w7 (w.heap.size+1) (Ls.row (Ls.wQw a) (Ls.wQw b)) (.slice n1 n2 n3))):=M8 (by omega) hp7 (Below.join HBW6.out hb7) (fun j hj=>by
  rcases hj with (hj|hj)|hj
  ·have:=hG j hj;exact⟨by omega,.inl hj⟩
  ·have h1:=hj.1;have h2:=hj.2;exact⟨by omega,.inr ⟨by omega,by omega⟩⟩
  ·have h1:=hj.1;have h2:=hj.2;simp at h1;exact⟨by omega,.inr ⟨by omega,by omega⟩⟩)
 clear hrs7 hp7 hC3 m0 m1 m2;go_wp2_with fail;exact bodyPost_ret (v:=A7 (Ls.row (Ls.wQw a) (Ls.wQw b)) (.slice n1 n2 n3)) (by simp[results,Tryz.results47,go_sem,q0,q1,q2]) rfl HP.out
theorem mQ2 (p:Ls.D)(ws:List UInt8)(a b:Ls.Ln)(ha:E9 a)(hb:E9 b):E9 ⟨4,p,ws,[a,b]⟩:=by
 intro y x w G hG h;rw[NV]at h;obtain⟨hv,g,v1,u1,v2,u2,hg,rfl,hli,hna,hnb⟩:=h;obtain⟨y1,y2,y3,rfl⟩:=PV.slice _ _ hv;obtain⟨⟨b1,b2,b3,rfl⟩,d1,d2,d3,rfl⟩:=NV.slices _ _ _ hna;obtain⟨⟨c1,c2,c3,rfl⟩,f1,f2,f3,rfl⟩:=NV.slices _ _ _ hnb;have hgl:=hG g hg;have hsp:Ls.wQw ⟨4,p,ws,[a,b]⟩=Ls.row (Ls.wQw b) (Ls.wQw a):=by simp[Ls.wQw]
 rw[hsp];have hb0:=C0 w (A8 4 (Ls.wQu p) ws (.slice y1 y2 y3) (.slice (some ⟨g,0,none⟩) 2 2)) D8;obtain⟨hbx,hrs⟩:=P6 w 4 (Ls.wQu p) ws (.slice y1 y2 y3) (.slice (some ⟨g,0,none⟩) 2 2);have hC:=hb _ _ _ G (fun j hj=>Nat.lt_of_lt_of_le (hG j hj) hb0.size) (hnb.below hb0 (fun j hj=>hG j hj) (fun _ h=>h));have HLI:Hid (LiesL w g (D2 a (.slice b1 b2 b3) (.slice d1 d2 d3)++D2 b (.slice c1 c2 c3) (.slice f1 f2 f3))):=hli;have HBX:Hid (LiesL ((w.alloc (A8 4 (Ls.wQu p) ws (.slice y1 y2 y3) (.slice (some ⟨g,0,none⟩) 2 2))).alloc D8) w.heap.size [.int .i64 (4:Nat),.int .i64 (Ls.wQu p).kind,.string ⟨(Ls.wQu p).signs.toArray⟩,.slice y1 y2 y3,.string ⟨ws.toArray⟩,.slice (some ⟨g,0,none⟩) 2 2]):=hbx;have HRS:Hid (Lies ((w.alloc (A8 4 (Ls.wQu p) ws (.slice y1 y2 y3) (.slice (some ⟨g,0,none⟩) 2 2))).alloc D8) (w.heap.size+1) [.int .i64 0,.string ⟨#[]⟩,.slice none 0 0]):=hrs;have HB0:Hid _:=hb0;have HNb:Hid _:=hna;have r0:=hli.cell 6;have r1:=hli.cell 7;have r2:=hli.cell 8;have r3:=hli.cell 9;have r4:=hli.cell 10;have r5:=hli.cell 11;simp only[D2,List.cons_append,List.nil_append,List.getElem?_cons_succ,List.getElem?_cons_zero]at r0 r1 r2 r3 r4 r5;clear hv hna hnb hli hsp hbx hrs hb0;go_enter Tryz.func47,Tryz.ntmps47;go_wp2_with fail;refine hC.mono ?_;rintro e w3 ⟨v,rfl,hp3,hb3⟩;obtain⟨s1,s2,s3,rfl⟩:=PV.slice _ _ hp3;have hz3:=hb3.size;simp at hz3;have hb4:=A4 w3 (B5 (Ls.wQw b) (.slice s1 s2 s3));have hbw3:=Below.join HB0.out hb3;have hbw4:=Below.join hbw3 hb4;have hC2:=ha _ _ _ G (fun j hj=>Nat.lt_of_lt_of_le (hG j hj) hbw4.size) (HNb.out.below hbw4 (fun j hj=>hG j hj) (fun _ h=>h));have hbx3:=HBX.out.of_block (hb3.block _ HBX.out.lt);have hli3:=HLI.out.of_block (hbw3.block g hgl);clear r0 r1 r2 r3 r4 r5 hC;have e5:=hbx3.cell 5;have r0:=hli3.cell 0;have r1:=hli3.cell 1;have r2:=hli3.cell 2;have r3:=hli3.cell 3;have r4:=hli3.cell 4;have r5:=hli3.cell 5;simp only[D2,List.cons_append,List.nil_append,List.getElem?_cons_succ,List.getElem?_cons_zero]at e5 r0 r1 r2 r3 r4 r5;have hgl3:g<w3.heap.size:=by omega
 have hwl3:w.heap.size<w3.heap.size:=by omega
 have HP3:Hid _:=hp3;have HB3:Hid _:=hb3;have HB4:Hid _:=hb4;have HBW4:Hid _:=hbw4;clear hbx3 hli3 hp3 hb4 hbw3 hbw4 hb3;go_wp2_with fail;refine hC2.mono ?_;rintro e w5 ⟨v5,rfl,hp5,hb5⟩;obtain⟨t1,t2,t3,rfl⟩:=PV.slice _ _ hp5;have hz5:=hb5.size;simp at hz5;have hb6:=A4 w5 (B5 (Ls.wQw a) (.slice t1 t2 t3));have hla5:Lies w5 w3.heap.size (B7 (Ls.wQw b) (.slice s1 s2 s3)):=(C1 w3 (B7 (Ls.wQw b) (.slice s1 s2 s3))).below hb5 (by simp);obtain⟨m0,m1,m2⟩:=hla5.three;have hwl5:w3.heap.size<w5.heap.size:=hla5.lt;have hbw5:=Below.join HBW4.out hb5;have hbw6:=Below.join hbw5 hb6;have hC3:=R8 (Ls.wQw b) (Ls.wQw a) (.slice s1 s2 s3) (.slice t1 t2 t3) (w5.alloc (B5 (Ls.wQw a) (.slice t1 t2 t3))) (fun j=>G j\/(w.heap.size+2<=j/\j<w5.heap.size)) (fun j hj=>by
  rcases hj with hj|hj
  ·have:=hG j hj;simp;omega
  ·have:=hj.2;simp;omega) (PV.mono (fun j hj=>by
   rcases hj with hj|hj
   ·exact .inl hj
   ·have h1:=hj.1;have h2:=hj.2;simp at h1;exact .inr ⟨by omega,by omega⟩) (fun j hj=>by
   have hj3:j<w3.heap.size:=by
    rcases hj with hj|hj
    ·have:=hG j hj;omega
    ·exact hj.2
   rw[hb6.block j (by omega),hb5.block j (by simp;omega),HB4.out.block j hj3]) _ _ HP3.out) (PV.mono (fun j hj=>by
   rcases hj with hj|hj
   ·exact .inl hj
   ·have h1:=hj.1;have h2:=hj.2;simp at h1;exact .inr ⟨by omega,by omega⟩) (fun j hj=>by
   have hj5:j<w5.heap.size:=by
    rcases hj with hj|hj
    ·have:=hG j hj;omega
    ·exact hj.2
   rw[hb6.block j hj5]) _ _ hp5)
 have HRS6:Hid (Lies (w5.alloc (B5 (Ls.wQw a) (.slice t1 t2 t3))) (w.heap.size+1) [.int .i64 0,.string ⟨#[]⟩,.slice none 0 0]):=(((HRS.out.below HB3.out (by simp)).below HB4.out (by omega)).below hb5 (by simp;omega)).below hb6 (by omega);have HBW6:Hid _:=hbw6;clear hla5 hp5 hb5 hb6 hbw5 hbw6 hC2 e5 r0 r1 r2 r3 r4 r5 HP3 HB3 HB4 HBW4 HNb;go_wp2_with fail;refine hC3.mono ?_;rintro e w7 ⟨u,rfl,hp7,hb7⟩;obtain⟨n1,n2,n3,rfl⟩:=PV.slice _ _ hp7;have hz7:=hb7.size;simp at hz7;have hrs7:=HRS6.out.below hb7 (by simp;omega);obtain⟨q0,q1,q2⟩:=hrs7.three (a:=Ls.none);have g0:=hrs7.fr 0;have g1:=hrs7.fr 1;have g2:=hrs7.fr 2;have hrl:=hrs7.lt;have HP:Hid (G7 w G (Ls.row (Ls.wQw b) (Ls.wQw a)) (.returned (A7 (Ls.row (Ls.wQw b) (Ls.wQw a)) (.slice n1 n2 n3))) (set3 w7 (w.heap.size+1) (Ls.row (Ls.wQw b) (Ls.wQw a)) (.slice n1 n2 n3))):=M8 (by omega) hp7 (Below.join HBW6.out hb7) (fun j hj=>by
  rcases hj with (hj|hj)|hj
  ·have:=hG j hj;exact⟨by omega,.inl hj⟩
  ·have h1:=hj.1;have h2:=hj.2;exact⟨by omega,.inr ⟨by omega,by omega⟩⟩
  ·have h1:=hj.1;have h2:=hj.2;simp at h1;exact⟨by omega,.inr ⟨by omega,by omega⟩⟩)
 clear hrs7 hp7 hC3 m0 m1 m2;go_wp2_with fail;exact bodyPost_ret (v:=A7 (Ls.row (Ls.wQw b) (Ls.wQw a)) (.slice n1 n2 n3)) (by simp[results,Tryz.results47,go_sem,q0,q1,q2]) rfl HP.out
theorem kQw (p:Ls.D)(ws:List UInt8)(a b:Ls.Ln)(ha:E9 a)(hb:E9 b):E9 ⟨5,p,ws,[a,b]⟩:=by
 intro y x w G hG h;rw[NV]at h;obtain⟨hv,g,v1,u1,v2,u2,hg,rfl,hli,hna,hnb⟩:=h;obtain⟨y1,y2,y3,rfl⟩:=PV.slice _ _ hv;obtain⟨⟨b1,b2,b3,rfl⟩,d1,d2,d3,rfl⟩:=NV.slices _ _ _ hna;obtain⟨⟨c1,c2,c3,rfl⟩,f1,f2,f3,rfl⟩:=NV.slices _ _ _ hnb;have hgl:=hG g hg;have hsp:Ls.wQw ⟨5,p,ws,[a,b]⟩=Ls.any (Ls.wQw a) (Ls.wQw b):=by simp[Ls.wQw]
 rw[hsp];have hb0:=C0 w (A8 5 (Ls.wQu p) ws (.slice y1 y2 y3) (.slice (some ⟨g,0,none⟩) 2 2)) D8;obtain⟨hbx,hrs⟩:=P6 w 5 (Ls.wQu p) ws (.slice y1 y2 y3) (.slice (some ⟨g,0,none⟩) 2 2);have hC:=ha _ _ _ G (fun j hj=>Nat.lt_of_lt_of_le (hG j hj) hb0.size) (hna.below hb0 (fun j hj=>hG j hj) (fun _ h=>h));have HLI:Hid (LiesL w g (D2 a (.slice b1 b2 b3) (.slice d1 d2 d3)++D2 b (.slice c1 c2 c3) (.slice f1 f2 f3))):=hli;have HBX:Hid (LiesL ((w.alloc (A8 5 (Ls.wQu p) ws (.slice y1 y2 y3) (.slice (some ⟨g,0,none⟩) 2 2))).alloc D8) w.heap.size [.int .i64 (5:Nat),.int .i64 (Ls.wQu p).kind,.string ⟨(Ls.wQu p).signs.toArray⟩,.slice y1 y2 y3,.string ⟨ws.toArray⟩,.slice (some ⟨g,0,none⟩) 2 2]):=hbx;have HRS:Hid (Lies ((w.alloc (A8 5 (Ls.wQu p) ws (.slice y1 y2 y3) (.slice (some ⟨g,0,none⟩) 2 2))).alloc D8) (w.heap.size+1) [.int .i64 0,.string ⟨#[]⟩,.slice none 0 0]):=hrs;have HB0:Hid _:=hb0;have HNb:Hid _:=hnb;have r0:=hli.cell 0;have r1:=hli.cell 1;have r2:=hli.cell 2;have r3:=hli.cell 3;have r4:=hli.cell 4;have r5:=hli.cell 5;simp only[D2,List.cons_append,List.nil_append,List.getElem?_cons_succ,List.getElem?_cons_zero]at r0 r1 r2 r3 r4 r5;clear hv hna hnb hli hsp hbx hrs hb0;go_enter Tryz.func47,Tryz.ntmps47;go_wp2_with fail;refine hC.mono ?_;rintro e w3 ⟨v,rfl,hp3,hb3⟩;obtain⟨s1,s2,s3,rfl⟩:=PV.slice _ _ hp3;have hz3:=hb3.size;simp at hz3;have hb4:=A4 w3 (B5 (Ls.wQw a) (.slice s1 s2 s3));have hbw3:=Below.join HB0.out hb3;have hbw4:=Below.join hbw3 hb4;have hC2:=hb _ _ _ G (fun j hj=>Nat.lt_of_lt_of_le (hG j hj) hbw4.size) (HNb.out.below hbw4 (fun j hj=>hG j hj) (fun _ h=>h));have hbx3:=HBX.out.of_block (hb3.block _ HBX.out.lt);have hli3:=HLI.out.of_block (hbw3.block g hgl);clear r0 r1 r2 r3 r4 r5 hC;have e5:=hbx3.cell 5;have r0:=hli3.cell 6;have r1:=hli3.cell 7;have r2:=hli3.cell 8;have r3:=hli3.cell 9;have r4:=hli3.cell 10;have r5:=hli3.cell 11;simp only[D2,List.cons_append,List.nil_append,List.getElem?_cons_succ,List.getElem?_cons_zero]at e5 r0 r1 r2 r3 r4 r5;have hgl3:g<w3.heap.size:=by omega
 have hwl3:w.heap.size<w3.heap.size:=by omega
 have HP3:Hid _:=hp3;have HB3:Hid _:=hb3;have HB4:Hid _:=hb4;have HBW4:Hid _:=hbw4;clear hbx3 hli3 hp3 hb4 hbw3 hbw4 hb3;go_wp2_with fail;refine hC2.mono ?_;rintro e w5 ⟨v5,rfl,hp5,hb5⟩;obtain⟨t1,t2,t3,rfl⟩:=PV.slice _ _ hp5;have hz5:=hb5.size;simp at hz5;have hb6:=A4 w5 (B5 (Ls.wQw b) (.slice t1 t2 t3));have hla5:Lies w5 w3.heap.size (B7 (Ls.wQw a) (.slice s1 s2 s3)):=(C1 w3 (B7 (Ls.wQw a) (.slice s1 s2 s3))).below hb5 (by simp);obtain⟨m0,m1,m2⟩:=hla5.three;have hwl5:w3.heap.size<w5.heap.size:=hla5.lt;have hbw5:=Below.join HBW4.out hb5;have hbw6:=Below.join hbw5 hb6;have hC3:=bQs (Ls.wQw a) (Ls.wQw b) (.slice s1 s2 s3) (.slice t1 t2 t3) (w5.alloc (B5 (Ls.wQw b) (.slice t1 t2 t3))) (fun j=>G j\/(w.heap.size+2<=j/\j<w5.heap.size)) (fun j hj=>by
  rcases hj with hj|hj
  ·have:=hG j hj;simp;omega
  ·have:=hj.2;simp;omega) (PV.mono (fun j hj=>by
   rcases hj with hj|hj
   ·exact .inl hj
   ·have h1:=hj.1;have h2:=hj.2;simp at h1;exact .inr ⟨by omega,by omega⟩) (fun j hj=>by
   have hj3:j<w3.heap.size:=by
    rcases hj with hj|hj
    ·have:=hG j hj;omega
    ·exact hj.2
   rw[hb6.block j (by omega),hb5.block j (by simp;omega),HB4.out.block j hj3]) _ _ HP3.out) (PV.mono (fun j hj=>by
   rcases hj with hj|hj
   ·exact .inl hj
   ·have h1:=hj.1;have h2:=hj.2;simp at h1;exact .inr ⟨by omega,by omega⟩) (fun j hj=>by
   have hj5:j<w5.heap.size:=by
    rcases hj with hj|hj
    ·have:=hG j hj;omega
    ·exact hj.2
   rw[hb6.block j hj5]) _ _ hp5)
 have HRS6:Hid (Lies (w5.alloc (B5 (Ls.wQw b) (.slice t1 t2 t3))) (w.heap.size+1) [.int .i64 0,.string ⟨#[]⟩,.slice none 0 0]):=(((HRS.out.below HB3.out (by simp)).below HB4.out (by omega)).below hb5 (by simp;omega)).below hb6 (by omega);have HBW6:Hid _:=hbw6;clear hla5 hp5 hb5 hb6 hbw5 hbw6 hC2 e5 r0 r1 r2 r3 r4 r5 HP3 HB3 HB4 HBW4 HNb;go_wp2_with fail;refine hC3.mono ?_;rintro e w7 ⟨u,rfl,hp7,hb7⟩;obtain⟨n1,n2,n3,rfl⟩:=PV.slice _ _ hp7;have hz7:=hb7.size;simp at hz7;have hrs7:=HRS6.out.below hb7 (by simp;omega);obtain⟨q0,q1,q2⟩:=hrs7.three (a:=Ls.none);have g0:=hrs7.fr 0;have g1:=hrs7.fr 1;have g2:=hrs7.fr 2;have hrl:=hrs7.lt;have HP:Hid (G7 w G (Ls.any (Ls.wQw a) (Ls.wQw b)) (.returned (A7 (Ls.any (Ls.wQw a) (Ls.wQw b)) (.slice n1 n2 n3))) (set3 w7 (w.heap.size+1) (Ls.any (Ls.wQw a) (Ls.wQw b)) (.slice n1 n2 n3))):=M8 (by omega) hp7 (Below.join HBW6.out hb7) (fun j hj=>by
  rcases hj with (hj|hj)|hj
  ·have:=hG j hj;exact⟨by omega,.inl hj⟩
  ·have h1:=hj.1;have h2:=hj.2;exact⟨by omega,.inr ⟨by omega,by omega⟩⟩
  ·have h1:=hj.1;have h2:=hj.2;simp at h1;exact⟨by omega,.inr ⟨by omega,by omega⟩⟩)
 clear hrs7 hp7 hC3 m0 m1 m2;go_wp2_with fail;exact bodyPost_ret (v:=A7 (Ls.any (Ls.wQw a) (Ls.wQw b)) (.slice n1 n2 n3)) (by simp[results,Tryz.results47,go_sem,q0,q1,q2]) rfl HP.out
theorem wQl {s:List UInt8}{k:Nat}(hk:k<s.length):Ls.xQq (s.drop k)=Ls.row (Ls.set [s[k]]) (Ls.xQq (s.drop (k+1))):=by
 rw[List.drop_eq_getElem_cons hk];rfl
structure WSt (w:World)(s:List UInt8)(k:Nat)(v:Value)(W:World):Prop where
 below:Below w.heap.size w W
 res:Lies W w.heap.size [.int .i64 0,.string ⟨#[]⟩,.slice none 0 0]
 var:Lies W (w.heap.size+1) (B7 (Ls.xQq (s.drop k)) v)
 pv:PV W (fun j=>w.heap.size+2<=j/\j<W.heap.size) (Ls.xQq (s.drop k)) v
theorem Lies.set {W:World}{g:Nat}{x:List Value}(h:Lies W g x)(o:Nat)(v:Value):Lies (W.setCell ⟨g,o,none⟩ v) g (x.set o v):=by
 unfold Lies at h ⊢;simp[World.setCell,Array.getElem?_modify,h]
theorem PV.up {W:World}{G G':Nat->Prop}{p:Ls.Pat}{v:Value}(h:PV W G p v)(hg:∀k,G k->G' k):PV W G' p v:=PV.mono hg (fun _ _=>rfl) _ _ h
theorem WSt.next {w wr w3:World}{s:List UInt8}{k m:Nat}{v u:Value}(h:WSt w s k v wr)(hb:Below wr.heap.size wr w3)(hp:PV w3 (E1 (fun j=>w.heap.size+2<=j/\j<wr.heap.size) wr w3) (Ls.xQq (s.drop m)) u):WSt w s m u (set3 w3 (w.heap.size+1) (Ls.xQq (s.drop m)) u):=by
 have hz:=hb.size;have hl:=h.var.lt;refine⟨?_,?_,?_,?_⟩
 ·exact(((Below.trans h.below (hb.mono h.below.size)).setCell (by show _<=w.heap.size+1;omega) _).setCell (by show _<=w.heap.size+1;omega) _).setCell (by show _<=w.heap.size+1;omega) _
 ·have h1:=h.res.below hb h.res.lt
  unfold Lies at h1 ⊢;rw[aQa _ _ _ _ _ (by omega)];exact h1
 ·have h1:=h.var.below hb hl
  exact((h1.set 0 _).set 1 _).set 2 _
 ·refine PV.mono (fun j hj=>?_) (fun j hj=>aQa _ _ _ _ _ ?_) _ _ hp
  ·rcases hj with hj|hj
   ·exact⟨hj.1,by simp[World.setCell];have:=hj.2;omega⟩
   ·exact⟨by have:=hj.1;omega,by simp[World.setCell];exact hj.2⟩
  ·rcases hj with hj|hj
   ·have:=hj.1;omega
   ·have:=hj.1;omega
theorem lQg (s:ByteArray)(hs:s.size<=1048576)(w:World)(G:Nat->Prop) :
  Calls Tryz.prog 79 #[.string s] w (G7 w G (Ls.xQq s.data.toList)):=by
 have hl0:s.data.toList.length=s.size:=by rw[Array.length_toList];rfl
 go_enter Tryz.func79,Tryz.ntmps79;go_wp2_with fail;go_loopw [4] (fun i wr=>∃(k:Nat) (v:Value),k<=s.size/\i=.int .i64 ((k:Int)-1)/\WSt w s.data.toList k v wr) (fun i _=>(intOf i+1).toNat)
 case atStart=>
  refine⟨s.size,.slice none 0 0,Nat.le_refl _,rfl,?_⟩;have e:Ls.xQq (s.data.toList.drop s.size)=Ls.none:=by rw[List.drop_of_length_le (by omega)];rfl
  refine⟨C0 _ _ _,(C1 w [.int .i64 0,.string ⟨#[]⟩,.slice none 0 0]).below (A4 _ _) (by simp),?_,by rw[e];exact L3 _ _ _ _⟩;rw[e];have:=C1 (w.alloc D8) [.int .i64 0,.string ⟨#[]⟩,.slice none 0 0];rw[World.size_alloc]at this;exact this
 case round=>
  obtain⟨k,v,hk,rfl,hst⟩:=hrel;obtain⟨v1,v2,v3,rfl⟩:=PV.slice _ _ hst.pv;obtain⟨a0,a1,a2⟩:=hst.var.three;have f0:=hst.var.fr 0;have f1:=hst.var.fr 1;have f2:=hst.var.fr 2;have hvl:=hst.var.lt;have HST:Hid _:=hst;clear hst
  by_cases h0:0<k
  ·obtain⟨m,rfl⟩:∃m,k=m+1:=⟨k-1,by omega⟩
   rw[show (((m+1:Nat):Int)-1)=(m:Int) by omega]at *;have hd:(0:Int)<=(m:Int):=by omega
   have hd2:(m:Int)<(s.size:Int):=by omega
   have hd3:(m:Int)+1<=(s.size:Int):=by omega
   have HW:Hid (Ls.xQq (s.data.toList.drop m)=Ls.row (Ls.set [nx s m]) (Ls.xQq (s.data.toList.drop (m+1)))):=by
    show _=_;rw[wQl (by omega),H8 (by omega)];rfl
   have hex:s.extract m (m+1)=⟨[nx s m].toArray⟩:=by
    rw[q9,C4 (by omega),Nat.add_sub_cancel_left];rfl
   have HR:Hid (∀W,Below wr.heap.size wr W->Calls Tryz.prog 77 #[.agg #[.int .i64 1,.string (s.extract m (m+1)),.slice none 0 0],.agg #[.int .i64 (Ls.xQq (s.data.toList.drop (m+1))).kind,.string ⟨(Ls.xQq (s.data.toList.drop (m+1))).signs.toArray⟩,.slice v1 v2 v3]] W fun e w'=>∃y1 y2 y3,e=.returned (.agg #[.int .i64 (Ls.xQq (s.data.toList.drop m)).kind,.string ⟨(Ls.xQq (s.data.toList.drop m)).signs.toArray⟩,.slice y1 y2 y3])/\
     PV w' (E1 (fun j=>w.heap.size+2<=j/\j<wr.heap.size) W w') (Ls.xQq (s.data.toList.drop m)) (.slice y1 y2 y3)/\Below W.heap.size W w'):=by
    intro W hW;rw[hex,HW.out];refine(R8 (Ls.set [nx s m]) (Ls.xQq (s.data.toList.drop (m+1))) (.slice none 0 0) (.slice v1 v2 v3) W (fun j=>w.heap.size+2<=j/\j<wr.heap.size) (fun j hj=>Nat.lt_of_lt_of_le hj.2 hW.size) (L3 _ _ _ _) (HST.out.pv.below hW (fun j hj=>hj.2) (fun _ h=>h))).mono ?_;rintro e w' ⟨x,rfl,hx,hb⟩;obtain⟨y1,y2,y3,rfl⟩:=PV.slice _ _ hx;exact⟨y1,y2,y3,rfl,hx,hb⟩
   clear hex;have hwr:IntKind.i64.wrap ((m:Int)+1)=(m:Int)+1:=by rw[IntKind.wrap_i64];omega
   go_wp2_with fail;go_region_with ((go_at_call 77;refine(HR.out _ ?_).mono ?_;exact(Below.refl _ _).drew;rintro e w3 ⟨y1,y2,y3,rfl,hpv,hb3⟩;have hvar3:=HST.out.var.below (Below.trans (Below.refl wr.heap.size wr).drew hb3) HST.out.var.lt;obtain⟨n0,n1,n2⟩:=hvar3.three;have n3:=hvar3.fr 0;have n4:=hvar3.fr 1;have n5:=hvar3.fr 2))
   all_goals
    have HN:Hid (WSt w s.data.toList m (.slice y1 y2 y3) (set3 w3 (w.heap.size+1) (Ls.xQq (s.data.toList.drop m)) (.slice y1 y2 y3))):=WSt.next HST.out (Below.trans (Below.refl wr.heap.size wr).drew hb3) (hpv.up (fun j hj=>hj));clear hvar3 n0 n1 n2 n3 n4 n5 hpv hb3 a0 a1 a2 f0 f1 f2 hvl hwr;go_wp2_with fail;go_roundw
    case rel=>exact⟨m,.slice y1 y2 y3,by omega,by go_num,HN.out⟩
    case measure=>simp[intOf]
  ·have hk0:k=0:=by omega
   subst hk0;rw[show (((0:Nat):Int)-1)=-1 from rfl]at *;obtain⟨q0,q1,q2⟩:=HST.out.res.three (a:=Ls.none);have g0:=HST.out.res.fr 0;have g1:=HST.out.res.fr 1;have g2:=HST.out.res.fr 2;have hrl:=HST.out.res.lt;have HP:Hid (G7 w G (Ls.xQq s.data.toList) (.returned (A7 (Ls.xQq s.data.toList) (.slice v1 v2 v3))) (set3 wr w.heap.size (Ls.xQq s.data.toList) (.slice v1 v2 v3))):=by
    have hp:=HST.out.pv;rw[List.drop_zero]at hp;exact M8 (Nat.le_refl _) hp HST.out.below (fun j hj=>⟨by omega,.inr ⟨by omega,hj.2⟩⟩)
   rw[List.drop_zero]at a0 a1;go_wp2_with fail;exact bodyPost_ret (v:=A7 (Ls.xQq s.data.toList) (.slice v1 v2 v3)) (by simp[results,Tryz.results79,go_sem,q0,q1,q2]) rfl HP.out
theorem jQf (p:Ls.D)(ws:List UInt8)(hws:ws.length<=1048576):E9 ⟨2,p,ws,[]⟩:=by
 intro y x w G hG h;rw[NV]at h;obtain⟨hv,rfl⟩:=h;obtain⟨y1,y2,y3,rfl⟩:=PV.slice _ _ hv;have hsp:Ls.wQw ⟨2,p,ws,[]⟩=Ls.xQq ws:=by simp[Ls.wQw]
 have hb:=C0 w (A8 2 (Ls.wQu p) ws (.slice y1 y2 y3) (.slice none 0 0)) D8;obtain⟨_,hrs⟩:=P6 w 2 (Ls.wQu p) ws (.slice y1 y2 y3) (.slice none 0 0);have HRS:Hid (Lies ((w.alloc (A8 2 (Ls.wQu p) ws (.slice y1 y2 y3) (.slice none 0 0))).alloc D8) (w.heap.size+1) [.int .i64 0,.string ⟨#[]⟩,.slice none 0 0]):=hrs;have hC:=lQg ⟨ws.toArray⟩ (by show ws.toArray.size<=_;simpa using hws) ((w.alloc (A8 2 (Ls.wQu p) ws (.slice y1 y2 y3) (.slice none 0 0))).alloc D8) (fun _=>False);rw[show (ByteArray.mk ws.toArray).data.toList=ws from rfl]at hC;rw[hsp];have HB:Hid _:=hb;clear hv hsp hrs hb;go_enter Tryz.func47,Tryz.ntmps47;go_wp2_with fail;refine hC.mono ?_;rintro e w3 ⟨v,rfl,hp3,hb3⟩;obtain⟨t1,t2,t3,rfl⟩:=PV.slice _ _ hp3;have hz3:=hb3.size;simp at hz3;have hrs3:=HRS.out.below hb3 (by simp);obtain⟨q0,q1,q2⟩:=hrs3.three (a:=Ls.none);have g0:=hrs3.fr 0;have g1:=hrs3.fr 1;have g2:=hrs3.fr 2;have hrl:=hrs3.lt;have HP:Hid (G7 w G (Ls.xQq ws) (.returned (A7 (Ls.xQq ws) (.slice t1 t2 t3))) (set3 w3 (w.heap.size+1) (Ls.xQq ws) (.slice t1 t2 t3))):=M8 (by omega) hp3 (Below.join HB.out hb3) (fun j hj=>by
  rcases hj with hj|hj
  ·exact hj.elim
  ·have h1:=hj.1;have h2:=hj.2;simp at h1;exact⟨by omega,.inr ⟨by omega,by omega⟩⟩)
 clear hrs3 hp3 hC;go_wp2_with fail;exact bodyPost_ret (v:=A7 (Ls.xQq ws) (.slice t1 t2 t3)) (by simp[results,Tryz.results47,go_sem,q0,q1,q2]) rfl HP.out
theorem H6 {c:Nat}:(l:Ls.Ln)->Ls.OkL c l->D4 l
 | ⟨k,p,w,[]⟩,h=>by
  rw[Ls.OkL]at h;rcases h.2 with rfl|rfl|rfl
  ·exact vQ8 p w
  ·exact vQl p w
  ·exact jQy p w
 | ⟨k,p,w,[a]⟩,h=>by
  rw[Ls.OkL]at h;have ha:=H6 a h.2.2;rcases h.2.1 with rfl|rfl
  ·exact rQa p w a ha
  ·exact uQ1 p w a ha
 | ⟨k,p,w,[a,b]⟩,h=>by
  rw[Ls.OkL]at h;have ha:=H6 a h.2.2.1;have hb:=H6 b h.2.2.2;rcases h.2.1 with rfl|rfl|rfl
  ·exact pQp p w a b ha hb
  ·exact sQb p w a b ha hb
  ·exact mQ3 p w a b ha hb
 | ⟨k,p,w,_::_::_::_⟩,h=>by simp[Ls.OkL]at h
def K5:Ls.Ln->Prop
 | ⟨_,_,w,[]⟩=>w.length<=1048576
 | ⟨_,_,_,[a]⟩=>K5 a
 | ⟨_,_,_,[a,b]⟩=>K5 a/\K5 b
 | _=>False
theorem Q9 {c:Nat}:(l:Ls.Ln)->Ls.OkL c l->K5 l->E9 l
 | ⟨k,p,w,[]⟩,h,hw=>by
  rw[Ls.OkL]at h;rw[K5]at hw;rcases h.2 with rfl|rfl|rfl
  ·exact vQ5 p w
  ·exact tQ5 p w
  ·exact jQf p w hw
 | ⟨k,p,w,[a]⟩,h,hw=>by
  rw[Ls.OkL]at h;rw[K5]at hw;have ha:=Q9 a h.2.2 hw;rcases h.2.1 with rfl|rfl
  ·exact tQi p w a ha
  ·exact rQo p w a ha
 | ⟨k,p,w,[a,b]⟩,h,hw=>by
  rw[Ls.OkL]at h;rw[K5]at hw;have ha:=Q9 a h.2.2.1 hw.1;have hb:=Q9 b h.2.2.2 hw.2;rcases h.2.1 with rfl|rfl|rfl
  ·exact pQu p w a b ha hb
  ·exact mQ2 p w a b ha hb
  ·exact kQw p w a b ha hb
 | ⟨k,p,w,_::_::_::_⟩,h,_=>by simp[Ls.OkL]at h
theorem j6:(l:Ls.Ln)->(c:Nat)->Ls.OkL c l->Ls.wQv l<=1048576->K5 l
 | ⟨k,p,w,[]⟩,c,h,hl=>by
  rw[K5];simp only[Ls.wQv]at hl;omega
 | ⟨k,p,w,[a]⟩,c,h,hl=>by
  rw[Ls.OkL]at h;rw[K5];simp only[Ls.wQv]at hl;rw[if_pos h.2.1]at hl;exact j6 a c h.2.2 (by omega)
 | ⟨k,p,w,[a,b]⟩,c,h,hl=>by
  rw[Ls.OkL]at h;rw[K5];simp only[Ls.wQv]at hl;exact⟨j6 a c h.2.2.1 (by omega),j6 b c h.2.2.2 (by omega)⟩
 | ⟨k,p,w,_::_::_::_⟩,c,h,_=>by simp[Ls.OkL]at h
end Go.Proofs.YtcggfnlejalppaaGreatDoor
