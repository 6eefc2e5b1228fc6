import Derived.Test.YtfklinjaajafgaaGreatDoorK28
set_option maxRecDepth 100000
set_option maxHeartbeats 4000000
namespace Go.Proofs.YtfklinjaajafgaaGreatDoor
open Ls
open Go.RowKit
variable {W:World}{k:Nat}{s:Lu}{v:Value}(p:Ls.D)(ws:Lu)(a b:Ln)
theorem pQf {f9 k9:Nat}{q8 q9 P9:Pat}(hk:(f9=51/\(k9=3\/k9=4))\/(f9=53/\k9=3))(hP:P9=Ls.row q8 q9)(ha:DP f9 a q8)(hb:DP f9 b q9):DP f9 ⟨k9,p,ws,[a,b]⟩ P9:=by
 subst hP;intro d8 d7 w G d h;rw[NV]at h;obtain⟨hv,g,v1,u1,v2,u2,hg,rfl,e,Q,R⟩:=h;obtain⟨z,A,B,rfl⟩:=PV.slice _ _ hv;obtain⟨⟨b1,b2,b3,rfl⟩,d1,d2,d3,rfl⟩:=NV.slices _ _ _ Q;obtain⟨⟨c1,c2,c3,rfl⟩,f1,f2,f3,rfl⟩:=NV.slices _ _ _ R;have c0:=d g hg
 have C:=C6 w (lo k9 p ws z A B g 2) F3;obtain⟨a8,b0⟩:=X8 ws w (.slice z A B) k9 (eX5 p) (Sl g 2 2);have hC:=ha _ _ _ G (fun j c=>Ll (d j c) C.size) (Q.below C (fun j c=>d j c) (fun _ h=>h));have b7:Hid (LiesL w g (E4 a (.slice b1 b2 b3) (.slice d1 d2 d3)++E4 b (.slice c1 c2 c3) (.slice f1 f2 f3))):=e;have a0:Hid (LiesL ((w.alloc (lo k9 p ws z A B g 2)).alloc F3) w.heap.size [Iv (k9:Nat),Iv (eX5 p).kind,.string ⟨(eX5 p).signs.toArray⟩,.slice z A B,Sv ws,Sl g 2 2]):=a8;have b8:Hid (Lies ((w.alloc (lo k9 p ws z A B g 2)).alloc F3) (w.heap.size+1) [Iv 0,.string ⟨#[]⟩,.slice none 0 0]):=b0;have b5:Hid _:=C;have a1:Hid _:=R;have r:=e.cell 0;have s:=e.cell 1;have t:=e.cell 2;have u:=e.cell 3;have x:=e.cell 4;have y:=e.cell 5;simp only[E4,List.cons_append,List.nil_append,List.getElem?_cons_succ,List.getElem?_cons_zero]at r s t u x y;clear hv Q R e a8 b0 C;rcases hk with⟨rfl,rfl|rfl⟩|⟨rfl,rfl⟩
 all_goals
  first|go_enter Tryz.func51,Tryz.ntmps51|go_enter Tryz.func53,Tryz.ntmps53
  go_wp2_with fail;refine hC.mono ?_;rintro a3 i ⟨v,rfl,S,o⟩;obtain⟨s1,s2,F,rfl⟩:=PV.slice _ _ S;have c6:=o.size;simp at c6;have M:=A5 i (C1 q8 (.slice s1 s2 F));have O:=Bj b5.out o;have E:=Bj O M;have a4:=hb _ _ _ G (fun j c=>Ll (d j c) E.size) (a1.out.below E (fun j c=>d j c) (fun _ h=>h));have a9:=a0.out.of_block (o.block _ a0.out.lt);have f:=b7.out.of_block (O.block g c0);clear r s t u x y hC;have e5:=a9.cell 5;have r:=f.cell 6;have s:=f.cell 7;have t:=f.cell 8;have u:=f.cell 9;have x:=f.cell 10;have y:=f.cell 11;simp only[E4,List.cons_append,List.nil_append,List.getElem?_cons_succ,List.getElem?_cons_zero]at e5 r s t u x y;have c9:g<i.heap.size:=by omega
  have d4:w.heap.size<i.heap.size:=by omega
  have a2:Hid _:=S;have Y:Hid _:=o;have K:Hid _:=M;have Z:Hid _:=E;clear a9 f S M O E o;go_wp2_with fail;refine a4.mono ?_;rintro a3 k ⟨v5,rfl,T,m⟩;obtain⟨H,I,J,rfl⟩:=PV.slice _ _ T;have c7:=m.size;simp at c7;have q:=A5 k (C1 q9 (.slice H I J));have P:Lies k i.heap.size (C2 q8 (.slice s1 s2 F)):=(C7 i (C2 q8 (.slice s1 s2 F))).below m (by simp);obtain⟨m0,m1,m2⟩:=P.three;have d5:i.heap.size<k.heap.size:=P.lt;have a6:=Bj Z.out m;have a7:=Bj a6 q;have a5:=aQc q8 q9 (.slice s1 s2 F) (.slice H I J) (k.alloc (C1 q9 (.slice H I J))) (fun j=>G j\/(w.heap.size+2<=j/\j<k.heap.size)) (fun j c=>by
   rcases c with c|c
   ·have:=d j c;simp;omega
   ·have:=c.2;simp;omega) (PV.mono (fun j c=>by
    rcases c with c|c
    ·exact .inl c
    ·have l:=c.1;have L:=c.2;simp at l;exact .inr ⟨by omega,by omega⟩) (fun j c=>by
    have c4:j<i.heap.size:=by
     rcases c with c|c
     ·have:=d j c;omega
     ·exact c.2
    rw[q.block j (by omega),m.block j (by simp;omega),K.out.block j c4]) _ _ a2.out) (PV.mono (fun j c=>by
    rcases c with c|c
    ·exact .inl c
    ·have l:=c.1;have L:=c.2;simp at l;exact .inr ⟨by omega,by omega⟩) (fun j c=>by
    have c5:j<k.heap.size:=by
     rcases c with c|c
     ·have:=d j c;omega
     ·exact c.2
    rw[q.block j c5]) _ _ T)
  have b9:Hid (Lies (k.alloc (C1 q9 (.slice H I J))) (w.heap.size+1) [Iv 0,.string ⟨#[]⟩,.slice none 0 0]):=(((b8.out.below Y.out (by simp)).below K.out (by omega)).below m (by simp;omega)).below q (by omega);have b6:Hid _:=a7;clear P T m q a6 a7 a4 e5 r s t u x y a2 Y K Z a1;go_wp2_with fail;refine a5.mono ?_;rintro a3 w7 ⟨d6,rfl,U,N⟩;obtain⟨V,W,X,rfl⟩:=PV.slice _ _ U;have c8:=N.size;simp at c8;have n:=b9.out.below N (by simp;omega);obtain⟨q0,q1,q2⟩:=n.three (a:=nN);have g0:=n.fr 0;have g1:=n.fr 1;have g2:=n.fr 2;have d0:=n.lt;have HP:Hid (J5 w G (Ls.row q8 q9) (.returned (B4 (Ls.row q8 q9) (.slice V W X))) (set3 w7 (w.heap.size+1) (Ls.row q8 q9) (.slice V W X))):=T5 (by omega) U (Bj b6.out N) (fun j c=>by
   rcases c with (c|c)|c
   ·have:=d j c;exact⟨by omega,.inl c⟩
   ·have l:=c.1;have L:=c.2;exact⟨by omega,.inr ⟨by omega,by omega⟩⟩
   ·have l:=c.1;have L:=c.2;simp at l;exact⟨by omega,.inr ⟨by omega,by omega⟩⟩)
  clear n U a5 m0 m1 m2;go_wp2_with fail;exact bodyPost_ret (v:=B4 (Ls.row q8 q9) (.slice V W X)) (by first|simp[results,Tryz.results51,go_sem,q0,q1,q2]|simp[results,Tryz.results53,go_sem,q0,q1,q2]) rfl HP.out
theorem pQh {f9:Nat}{q8 q9 P9:Pat}(hk:f9=51\/f9=53)(hP:P9=Ls.any q8 q9)(ha:DP f9 a q8)(hb:DP f9 b q9):DP f9 ⟨5,p,ws,[a,b]⟩ P9:=by
 subst hP;intro d8 d7 w G d h;rw[NV]at h;obtain⟨hv,g,v1,u1,v2,u2,hg,rfl,e,Q,R⟩:=h;obtain⟨z,A,B,rfl⟩:=PV.slice _ _ hv;obtain⟨⟨b1,b2,b3,rfl⟩,d1,d2,d3,rfl⟩:=NV.slices _ _ _ Q;obtain⟨⟨c1,c2,c3,rfl⟩,f1,f2,f3,rfl⟩:=NV.slices _ _ _ R;have c0:=d g hg
 have C:=C6 w (lo 5 p ws z A B g 2) F3;obtain⟨a8,b0⟩:=X8 ws w (.slice z A B) 5 (eX5 p) (Sl g 2 2);have hC:=ha _ _ _ G (fun j c=>Ll (d j c) C.size) (Q.below C (fun j c=>d j c) (fun _ h=>h));have b7:Hid (LiesL w g (E4 a (.slice b1 b2 b3) (.slice d1 d2 d3)++E4 b (.slice c1 c2 c3) (.slice f1 f2 f3))):=e;have a0:Hid (LiesL ((w.alloc (lo 5 p ws z A B g 2)).alloc F3) w.heap.size [Iv (5:Nat),Iv (eX5 p).kind,.string ⟨(eX5 p).signs.toArray⟩,.slice z A B,Sv ws,Sl g 2 2]):=a8;have b8:Hid (Lies ((w.alloc (lo 5 p ws z A B g 2)).alloc F3) (w.heap.size+1) [Iv 0,.string ⟨#[]⟩,.slice none 0 0]):=b0;have b5:Hid _:=C;have a1:Hid _:=R;have r:=e.cell 0;have s:=e.cell 1;have t:=e.cell 2;have u:=e.cell 3;have x:=e.cell 4;have y:=e.cell 5;simp only[E4,List.cons_append,List.nil_append,List.getElem?_cons_succ,List.getElem?_cons_zero]at r s t u x y;clear hv Q R e a8 b0 C;rcases hk with rfl|rfl
 all_goals
  first|go_enter Tryz.func51,Tryz.ntmps51|go_enter Tryz.func53,Tryz.ntmps53
  go_wp2_with fail;refine hC.mono ?_;rintro a3 i ⟨v,rfl,S,o⟩;obtain⟨s1,s2,F,rfl⟩:=PV.slice _ _ S;have c6:=o.size;simp at c6;have M:=A5 i (C1 q8 (.slice s1 s2 F));have O:=Bj b5.out o;have E:=Bj O M;have a4:=hb _ _ _ G (fun j c=>Ll (d j c) E.size) (a1.out.below E (fun j c=>d j c) (fun _ h=>h));have a9:=a0.out.of_block (o.block _ a0.out.lt);have f:=b7.out.of_block (O.block g c0);clear r s t u x y hC;have e5:=a9.cell 5;have r:=f.cell 6;have s:=f.cell 7;have t:=f.cell 8;have u:=f.cell 9;have x:=f.cell 10;have y:=f.cell 11;simp only[E4,List.cons_append,List.nil_append,List.getElem?_cons_succ,List.getElem?_cons_zero]at e5 r s t u x y;have c9:g<i.heap.size:=by omega
  have d4:w.heap.size<i.heap.size:=by omega
  have a2:Hid _:=S;have Y:Hid _:=o;have K:Hid _:=M;have Z:Hid _:=E;clear a9 f S M O E o;go_wp2_with fail;refine a4.mono ?_;rintro a3 k ⟨v5,rfl,T,m⟩;obtain⟨H,I,J,rfl⟩:=PV.slice _ _ T;have c7:=m.size;simp at c7;have q:=A5 k (C1 q9 (.slice H I J));have P:Lies k i.heap.size (C2 q8 (.slice s1 s2 F)):=(C7 i (C2 q8 (.slice s1 s2 F))).below m (by simp);obtain⟨m0,m1,m2⟩:=P.three;have d5:i.heap.size<k.heap.size:=P.lt;have a6:=Bj Z.out m;have a7:=Bj a6 q;have a5:=eQl q9 (.slice s1 s2 F) (.slice H I J) q8 (k.alloc (C1 q9 (.slice H I J))) (fun j=>G j\/(w.heap.size+2<=j/\j<k.heap.size)) (fun j c=>by
   rcases c with c|c
   ·have:=d j c;simp;omega
   ·have:=c.2;simp;omega) (PV.mono (fun j c=>by
    rcases c with c|c
    ·exact .inl c
    ·have l:=c.1;have L:=c.2;simp at l;exact .inr ⟨by omega,by omega⟩) (fun j c=>by
    have c4:j<i.heap.size:=by
     rcases c with c|c
     ·have:=d j c;omega
     ·exact c.2
    rw[q.block j (by omega),m.block j (by simp;omega),K.out.block j c4]) _ _ a2.out) (PV.mono (fun j c=>by
    rcases c with c|c
    ·exact .inl c
    ·have l:=c.1;have L:=c.2;simp at l;exact .inr ⟨by omega,by omega⟩) (fun j c=>by
    have c5:j<k.heap.size:=by
     rcases c with c|c
     ·have:=d j c;omega
     ·exact c.2
    rw[q.block j c5]) _ _ T)
  have b9:Hid (Lies (k.alloc (C1 q9 (.slice H I J))) (w.heap.size+1) [Iv 0,.string ⟨#[]⟩,.slice none 0 0]):=(((b8.out.below Y.out (by simp)).below K.out (by omega)).below m (by simp;omega)).below q (by omega);have b6:Hid _:=a7;clear P T m q a6 a7 a4 e5 r s t u x y a2 Y K Z a1;go_wp2_with fail;refine a5.mono ?_;rintro a3 w7 ⟨d6,rfl,U,N⟩;obtain⟨V,W,X,rfl⟩:=PV.slice _ _ U;have c8:=N.size;simp at c8;have n:=b9.out.below N (by simp;omega);obtain⟨q0,q1,q2⟩:=n.three (a:=nN);have g0:=n.fr 0;have g1:=n.fr 1;have g2:=n.fr 2;have d0:=n.lt;have HP:Hid (J5 w G (Ls.any q8 q9) (.returned (B4 (Ls.any q8 q9) (.slice V W X))) (set3 w7 (w.heap.size+1) (Ls.any q8 q9) (.slice V W X))):=T5 (by omega) U (Bj b6.out N) (fun j c=>by
   rcases c with (c|c)|c
   ·have:=d j c;exact⟨by omega,.inl c⟩
   ·have l:=c.1;have L:=c.2;exact⟨by omega,.inr ⟨by omega,by omega⟩⟩
   ·have l:=c.1;have L:=c.2;simp at l;exact⟨by omega,.inr ⟨by omega,by omega⟩⟩)
  clear n U a5 m0 m1 m2;go_wp2_with fail;exact bodyPost_ret (v:=B4 (Ls.any q8 q9) (.slice V W X)) (by first|simp[results,Tryz.results51,go_sem,q0,q1,q2]|simp[results,Tryz.results53,go_sem,q0,q1,q2]) rfl HP.out
theorem pQ7 (ha:D7 a)(hb:D7 b):D7 ⟨4,p,ws,[a,b]⟩:=by
 intro d8 d7 w G d h;rw[NV]at h;obtain⟨hv,g,v1,u1,v2,u2,hg,rfl,e,Q,R⟩:=h;obtain⟨z,A,B,rfl⟩:=PV.slice _ _ hv;obtain⟨⟨b1,b2,b3,rfl⟩,d1,d2,d3,rfl⟩:=NV.slices _ _ _ Q;obtain⟨⟨c1,c2,c3,rfl⟩,f1,f2,f3,rfl⟩:=NV.slices _ _ _ R;have c0:=d g hg;have b4:eX6 ⟨4,p,ws,[a,b]⟩=Ls.row (eX6 b) (eX6 a):=by simp[eX6]
 rw[b4];have C:=C6 w (lo 4 p ws z A B g 2) F3;obtain⟨a8,b0⟩:=X8 ws w (.slice z A B) 4 (eX5 p) (Sl g 2 2);have hC:=hb _ _ _ G (fun j c=>Ll (d j c) C.size) (R.below C (fun j c=>d j c) (fun _ h=>h));have b7:Hid (LiesL w g (E4 a (.slice b1 b2 b3) (.slice d1 d2 d3)++E4 b (.slice c1 c2 c3) (.slice f1 f2 f3))):=e;have a0:Hid (LiesL ((w.alloc (lo 4 p ws z A B g 2)).alloc F3) w.heap.size [Iv (4:Nat),Iv (eX5 p).kind,.string ⟨(eX5 p).signs.toArray⟩,.slice z A B,Sv ws,Sl g 2 2]):=a8;have b8:Hid (Lies ((w.alloc (lo 4 p ws z A B g 2)).alloc F3) (w.heap.size+1) [Iv 0,.string ⟨#[]⟩,.slice none 0 0]):=b0;have b5:Hid _:=C;have a1:Hid _:=Q;have r:=e.cell 6;have s:=e.cell 7;have t:=e.cell 8;have u:=e.cell 9;have x:=e.cell 10;have y:=e.cell 11;simp only[E4,List.cons_append,List.nil_append,List.getElem?_cons_succ,List.getElem?_cons_zero]at r s t u x y;clear hv Q R e b4 a8 b0 C;go_enter Tryz.func53,Tryz.ntmps53;go_wp2_with fail;refine hC.mono ?_;rintro a3 i ⟨v,rfl,S,o⟩;obtain⟨s1,s2,F,rfl⟩:=PV.slice _ _ S;have c6:=o.size;simp at c6;have M:=A5 i (C1 (eX6 b) (.slice s1 s2 F));have O:=Bj b5.out o;have E:=Bj O M;have a4:=ha _ _ _ G (fun j c=>Ll (d j c) E.size) (a1.out.below E (fun j c=>d j c) (fun _ h=>h));have a9:=a0.out.of_block (o.block _ a0.out.lt);have f:=b7.out.of_block (O.block g c0);clear r s t u x y hC;have e5:=a9.cell 5;have r:=f.cell 0;have s:=f.cell 1;have t:=f.cell 2;have u:=f.cell 3;have x:=f.cell 4;have y:=f.cell 5;simp only[E4,List.cons_append,List.nil_append,List.getElem?_cons_succ,List.getElem?_cons_zero]at e5 r s t u x y;have c9:g<i.heap.size:=by omega
 have d4:w.heap.size<i.heap.size:=by omega
 have a2:Hid _:=S;have Y:Hid _:=o;have K:Hid _:=M;have Z:Hid _:=E;clear a9 f S M O E o;go_wp2_with fail;refine a4.mono ?_;rintro a3 k ⟨v5,rfl,T,m⟩;obtain⟨H,I,J,rfl⟩:=PV.slice _ _ T;have c7:=m.size;simp at c7;have q:=A5 k (C1 (eX6 a) (.slice H I J));have P:Lies k i.heap.size (C2 (eX6 b) (.slice s1 s2 F)):=(C7 i (C2 (eX6 b) (.slice s1 s2 F))).below m (by simp);obtain⟨m0,m1,m2⟩:=P.three;have d5:i.heap.size<k.heap.size:=P.lt;have a6:=Bj Z.out m;have a7:=Bj a6 q;have a5:=aQc (eX6 b) (eX6 a) (.slice s1 s2 F) (.slice H I J) (k.alloc (C1 (eX6 a) (.slice H I J))) (fun j=>G j\/(w.heap.size+2<=j/\j<k.heap.size)) (fun j c=>by
  rcases c with c|c
  ·have:=d j c;simp;omega
  ·have:=c.2;simp;omega) (PV.mono (fun j c=>by
   rcases c with c|c
   ·exact .inl c
   ·have l:=c.1;have L:=c.2;simp at l;exact .inr ⟨by omega,by omega⟩) (fun j c=>by
   have c4:j<i.heap.size:=by
    rcases c with c|c
    ·have:=d j c;omega
    ·exact c.2
   rw[q.block j (by omega),m.block j (by simp;omega),K.out.block j c4]) _ _ a2.out) (PV.mono (fun j c=>by
   rcases c with c|c
   ·exact .inl c
   ·have l:=c.1;have L:=c.2;simp at l;exact .inr ⟨by omega,by omega⟩) (fun j c=>by
   have c5:j<k.heap.size:=by
    rcases c with c|c
    ·have:=d j c;omega
    ·exact c.2
   rw[q.block j c5]) _ _ T)
 have b9:Hid (Lies (k.alloc (C1 (eX6 a) (.slice H I J))) (w.heap.size+1) [Iv 0,.string ⟨#[]⟩,.slice none 0 0]):=(((b8.out.below Y.out (by simp)).below K.out (by omega)).below m (by simp;omega)).below q (by omega);have b6:Hid _:=a7;clear P T m q a6 a7 a4 e5 r s t u x y a2 Y K Z a1;go_wp2_with fail;refine a5.mono ?_;rintro a3 w7 ⟨d6,rfl,U,N⟩;obtain⟨V,W,X,rfl⟩:=PV.slice _ _ U;have c8:=N.size;simp at c8;have n:=b9.out.below N (by simp;omega);obtain⟨q0,q1,q2⟩:=n.three (a:=nN);have g0:=n.fr 0;have g1:=n.fr 1;have g2:=n.fr 2;have d0:=n.lt;have HP:Hid (J5 w G (Ls.row (eX6 b) (eX6 a)) (.returned (B4 (Ls.row (eX6 b) (eX6 a)) (.slice V W X))) (set3 w7 (w.heap.size+1) (Ls.row (eX6 b) (eX6 a)) (.slice V W X))):=T5 (by omega) U (Bj b6.out N) (fun j c=>by
  rcases c with (c|c)|c
  ·have:=d j c;exact⟨by omega,.inl c⟩
  ·have l:=c.1;have L:=c.2;exact⟨by omega,.inr ⟨by omega,by omega⟩⟩
  ·have l:=c.1;have L:=c.2;simp at l;exact⟨by omega,.inr ⟨by omega,by omega⟩⟩)
 clear n U a5 m0 m1 m2;go_wp2_with fail;exact bodyPost_ret (v:=B4 (Ls.row (eX6 b) (eX6 a)) (.slice V W X)) (by simp[results,Tryz.results53,go_sem,q0,q1,q2]) rfl HP.out
theorem eXr (a:k<s.length):fX0 (s.drop k)=Ls.row (Ls.set [s[k]]) (fX0 (s.drop (k+1))):=by
 rw[List.drop_eq_getElem_cons a];rfl
structure WSt (w:World)(s:Lu)(k:Nat)(v:Value)(W:World):Prop where
 below:Bw w W
 res:Lies W w.heap.size [.int .i64 0,.string ⟨#[]⟩,.slice none 0 0]
 var:Lies W (w.heap.size+1) (C2 (fX0 (s.drop k)) v)
 pv:PV W (fun j=>w.heap.size+2<=j/\j<W.heap.size) (fX0 (s.drop k)) v
theorem Lies.set {g:Nat}{x:List Value}(h:Lies W g x)(o:Nat)(v:Value):Lies (W.setCell ⟨g,o,none⟩ v) g (x.set o v):=by
 unfold Lies at h ⊢;simp[World.setCell,Array.getElem?_modify,h]
theorem PV.up {G a:Nat->Prop}{p:Pat}(h:PV W G p v)(b:∀k,G k->a k):PV W a p v:=PV.mono b (fun _ _=>rfl) _ _ h
theorem WSt.next {w wr d:World}{m:Nat}{u:Value}(h:WSt w s k v wr)(c:Bw wr d)(f:PV d (F5 (fun j=>w.heap.size+2<=j/\j<wr.heap.size) wr d) (fX0 (s.drop m)) u):WSt w s m u (set3 d (w.heap.size+1) (fX0 (s.drop m)) u):=by
 have g:=c.size;have e:=h.var.lt;refine⟨?_,?_,?_,?_⟩
 ·exact(((Below.trans h.below (c.mono h.below.size)).setCell (by show _<=w.heap.size+1;omega) _).setCell (by show _<=w.heap.size+1;omega) _).setCell (by show _<=w.heap.size+1;omega) _
 ·have b:=h.res.below c h.res.lt
  unfold Lies at b ⊢;rw[dQk _ _ _ _ _ (by omega)];exact b
 ·have b:=h.var.below c e
  exact((b.set 0 _).set 1 _).set 2 _
 ·refine PV.mono (fun j a=>?_) (fun j a=>dQk _ _ _ _ _ ?_) _ _ f
  ·rcases a with a|a
   ·exact⟨a.1,by simp[World.setCell];have:=a.2;omega⟩
   ·exact⟨by have:=a.1;omega,by simp[World.setCell];exact a.2⟩
  ·rcases a with a|a
   ·have:=a.1;omega
   ·have:=a.1;omega
theorem eXq (s:By)(hs:s.size<=1048576)(w:World)(G:Nat->Prop) :
  Calls Tryz.prog 86 #[.string s] w (J5 w G (fX0 s.data.toList)):=by
 have a2:s.data.toList.length=s.size:=by rw[Array.length_toList];rfl
 go_enter Tryz.func86,Tryz.ntmps86;go_wp2_with fail;go_loopw [4] (fun i wr=>∃(k:Nat) (v:Value),k<=s.size/\i=Iv ((k:Int)-1)/\WSt w s.data.toList k v wr) (fun i _=>(intOf i+1).toNat)
 case atStart=>
  refine⟨s.size,.slice none 0 0,Nat.le_refl _,rfl,?_⟩;have e:fX0 (s.data.toList.drop s.size)=nN:=by rw[List.drop_of_length_le (by omega)];rfl
  refine⟨C6 _ _ _,(C7 w [Iv 0,.string ⟨#[]⟩,.slice none 0 0]).below (A5 _ _) (by simp),?_,by rw[e];exact R4 _ _ _ _⟩;rw[e];have:=C7 (w.alloc F3) [Iv 0,.string ⟨#[]⟩,.slice none 0 0];rw[World.size_alloc]at this;exact this
 case round=>
  obtain⟨k,v,hk,rfl,c⟩:=hrel;obtain⟨o,p,q,rfl⟩:=PV.slice _ _ c.pv;obtain⟨u,x,J⟩:=c.var.three;have K:=c.var.fr 0;have L:=c.var.fr 1;have M:=c.var.fr 2;have P:=c.var.lt;have b:Hid _:=c;clear c
  by_cases h0:0<k
  ·obtain⟨m,rfl⟩:∃m,k=m+1:=⟨k-1,by omega⟩
   rw[show (((m+1:Nat):Int)-1)=(m:Int) by omega]at *;have hd:(0:Int)<=(m:Int):=by omega
   have a0:(m:Int)<(s.size:Int):=by omega
   have a1:(m:Int)+1<=(s.size:Int):=by omega
   have I:Hid (fX0 (s.data.toList.drop m)=Ls.row (Ls.set [nx s m]) (fX0 (s.data.toList.drop (m+1)))):=by
    show _=_;rw[eXr (by omega),M6 (by omega)];rfl
   have z:s.extract m (m+1)=⟨[nx s m].toArray⟩:=by
    rw[cQu,D4 (by omega),Nat.add_sub_cancel_left];rfl
   have H:Hid (∀W,Bw wr W->Ca 84 #[.agg #[Iv 1,.string (s.extract m (m+1)),.slice none 0 0],.agg #[Iv (fX0 (s.data.toList.drop (m+1))).kind,.string ⟨(fX0 (s.data.toList.drop (m+1))).signs.toArray⟩,.slice o p q]] W fun e r=>∃d f g,e=.returned (.agg #[Iv (fX0 (s.data.toList.drop m)).kind,.string ⟨(fX0 (s.data.toList.drop m)).signs.toArray⟩,.slice d f g])/\
     PV r (F5 (fun j=>w.heap.size+2<=j/\j<wr.heap.size) W r) (fX0 (s.data.toList.drop m)) (.slice d f g)/\Bw W r):=by
    intro W y;rw[z,I.out];refine(aQc (Ls.set [nx s m]) (fX0 (s.data.toList.drop (m+1))) (.slice none 0 0) (.slice o p q) W (fun j=>w.heap.size+2<=j/\j<wr.heap.size) (fun j l=>Ll l.2 y.size) (R4 _ _ _ _) (b.out.pv.below y (fun j l=>l.2) (fun _ h=>h))).mono ?_;rintro e r ⟨a4,rfl,C,N⟩;obtain⟨d,f,g,rfl⟩:=PV.slice _ _ C;exact⟨d,f,g,rfl,C,N⟩
   clear z;have Q:IntKind.i64.wrap ((m:Int)+1)=(m:Int)+1:=by rw[IntKind.wrap_i64];omega
   go_wp2_with fail;go_region_with ((go_at_call 84;refine(H.out _ ?_).mono ?_;exact Br.drew;rintro e w3 ⟨d,f,g,rfl,B,t⟩;have n:=b.out.var.below (Below.trans (Below.refl wr.heap.size wr).drew t) b.out.var.lt;obtain⟨R,S,T⟩:=n.three;have U:=n.fr 0;have V:=n.fr 1;have X:=n.fr 2))
   all_goals
    have E:Hid (WSt w s.data.toList m (.slice d f g) (set3 w3 (w.heap.size+1) (fX0 (s.data.toList.drop m)) (.slice d f g))):=WSt.next b.out (Below.trans (Below.refl wr.heap.size wr).drew t) (B.up (fun j l=>l));clear n R S T U V X B t u x J K L M P Q;go_wp2_with fail;go_roundw
    case rel=>exact⟨m,.slice d f g,by omega,by go_num,E.out⟩
    case measure=>simp[intOf]
  ·have O:k=0:=by omega
   subst O;rw[show (((0:Nat):Int)-1)=-1 from rfl]at *;obtain⟨Y,Z,q2⟩:=b.out.res.three (a:=nN);have g0:=b.out.res.fr 0;have g1:=b.out.res.fr 1;have g2:=b.out.res.fr 2;have a3:=b.out.res.lt;have F:Hid (J5 w G (fX0 s.data.toList) (.returned (B4 (fX0 s.data.toList) (.slice o p q))) (set3 wr w.heap.size (fX0 s.data.toList) (.slice o p q))):=by
    have A:=b.out.pv;rw[List.drop_zero]at A;exact T5 (Nat.le_refl _) A b.out.below (fun j l=>⟨by omega,.inr ⟨by omega,l.2⟩⟩)
   rw[List.drop_zero]at u x;go_wp2_with fail;exact bodyPost_ret (v:=B4 (fX0 s.data.toList) (.slice o p q)) (by simp[results,Tryz.results86,go_sem,Y,Z,q2]) rfl F.out
theorem pQ5 (C:ws.length<=1048576):D7 ⟨2,p,ws,[]⟩:=by
 intro y x w G O h;rw[NV]at h;obtain⟨t,rfl⟩:=h;obtain⟨d,f,g,rfl⟩:=PV.slice _ _ t;have s:eX6 ⟨2,p,ws,[]⟩=fX0 ws:=by simp[eX6]
 have q:=C6 w (B7 2 (eX5 p) ws (.slice d f g) (.slice none 0 0)) F3;obtain⟨_,r⟩:=X8 ws w (.slice d f g) 2 (eX5 p) (.slice none 0 0);have A:Hid (Lies ((w.alloc (B7 2 (eX5 p) ws (.slice d f g) (.slice none 0 0))).alloc F3) (w.heap.size+1) [Iv 0,.string ⟨#[]⟩,.slice none 0 0]):=r;have i:=eXq ⟨ws.toArray⟩ (by show ws.toArray.size<=_;simpa using C) ((w.alloc (B7 2 (eX5 p) ws (.slice d f g) (.slice none 0 0))).alloc F3) (fun _=>False);rw[show (ByteArray.mk ws.toArray).data.toList=ws from rfl]at i;rw[s];have u:Hid _:=q;clear t s r q;go_enter Tryz.func53,Tryz.ntmps53;go_wp2_with fail;refine i.mono ?_;rintro e J ⟨v,rfl,l,k⟩;obtain⟨m,n,o,rfl⟩:=PV.slice _ _ l;have E:=k.size;simp at E;have c:=A.out.below k (by simp);obtain⟨F,H,I⟩:=c.three (a:=nN);have K:=c.fr 0;have L:=c.fr 1;have M:=c.fr 2;have P:=c.lt;have z:Hid (J5 w G (fX0 ws) (.returned (B4 (fX0 ws) (.slice m n o))) (set3 J (w.heap.size+1) (fX0 ws) (.slice m n o))):=T5 (by omega) l (Bj u.out k) (fun j b=>by
  rcases b with b|b
  ·exact b.elim
  ·have B:=b.1;have N:=b.2;simp at B;exact⟨by omega,.inr ⟨by omega,by omega⟩⟩)
 clear c l i;go_wp2_with fail;exact bodyPost_ret (v:=B4 (fX0 ws) (.slice m n o)) (by simp[results,Tryz.results53,go_sem,F,H,I]) rfl z.out
theorem G6 {c:Nat}:(l:Ln)->OkL c l->D8 l
 | ⟨k,p,w,[]⟩,h=>by
  rw[OkL]at h;rcases h.2 with rfl|rfl|rfl
  ·exact pQc p w
  ·exact pQd p w
  ·exact pQe p w
 | ⟨k,p,w,[a]⟩,h=>by
  rw[OkL]at h;have ha:=G6 a h.2.2;rcases h.2.1 with rfl|rfl
  ·exact pQi p w a (.inl rfl) (.inl rfl) (by simp[eX8]) ha
  ·exact pQi p w a (.inl rfl) (.inr rfl) (by simp[eX8]) ha
 | ⟨k,p,w,[a,b]⟩,h=>by
  rw[OkL]at h;have ha:=G6 a h.2.2.1;have d:=G6 b h.2.2.2;rcases h.2.1 with rfl|rfl|rfl
  ·exact pQf p w a b (.inl ⟨rfl,.inl rfl⟩) (by simp[eX8]) ha d
  ·exact pQf p w a b (.inl ⟨rfl,.inr rfl⟩) (by simp[eX8]) ha d
  ·exact pQh p w a b (.inl rfl) (by simp[eX8]) ha d
 | ⟨k,p,w,_::_::_::_⟩,h=>by simp[OkL]at h
def K7:Ln->Prop
 | ⟨_,_,w,[]⟩=>w.length<=1048576
 | ⟨_,_,_,[a]⟩=>K7 a
 | ⟨_,_,_,[a,b]⟩=>K7 a/\K7 b
 | _=>False
theorem G9 {c:Nat}:(l:Ln)->OkL c l->K7 l->D7 l
 | ⟨k,p,w,[]⟩,h,hw=>by
  rw[OkL]at h;rw[K7]at hw;rcases h.2 with rfl|rfl|rfl
  ·exact pQ3 p w
  ·exact pQ4 p w
  ·exact pQ5 p w hw
 | ⟨k,p,w,[a]⟩,h,hw=>by
  rw[OkL]at h;rw[K7]at hw;have ha:=G9 a h.2.2 hw;rcases h.2.1 with rfl|rfl
  ·exact pQi p w a (.inr rfl) (.inl rfl) (by simp[eX6]) ha
  ·exact pQi p w a (.inr rfl) (.inr rfl) (by simp[eX6]) ha
 | ⟨k,p,w,[a,b]⟩,h,hw=>by
  rw[OkL]at h;rw[K7]at hw;have ha:=G9 a h.2.2.1 hw.1;have d:=G9 b h.2.2.2 hw.2;rcases h.2.1 with rfl|rfl|rfl
  ·exact pQf p w a b (.inr ⟨rfl,rfl⟩) (by simp[eX6]) ha d
  ·exact pQ7 p w a b ha d
  ·exact pQh p w a b (.inr rfl) (by simp[eX6]) ha d
 | ⟨k,p,w,_::_::_::_⟩,h,_=>by simp[OkL]at h
theorem aQk:(l:Ln)->(c:Nat)->OkL c l->eX7 l<=1048576->K7 l
 | ⟨k,p,w,[]⟩,c,h,hl=>by
  rw[K7];simp only[eX7]at hl;omega
 | ⟨k,p,w,[a]⟩,c,h,hl=>by
  rw[OkL]at h;rw[K7];simp only[eX7]at hl;rw[if_pos h.2.1]at hl;exact aQk a c h.2.2 (by omega)
 | ⟨k,p,w,[a,b]⟩,c,h,hl=>by
  rw[OkL]at h;rw[K7];simp only[eX7]at hl;exact⟨aQk a c h.2.2.1 (by omega),aQk b c h.2.2.2 (by omega)⟩
 | ⟨k,p,w,_::_::_::_⟩,c,h,_=>by simp[OkL]at h
end Go.Proofs.YtfklinjaajafgaaGreatDoor
