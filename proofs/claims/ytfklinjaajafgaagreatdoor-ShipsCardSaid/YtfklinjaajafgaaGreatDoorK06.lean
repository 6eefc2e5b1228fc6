import Derived.Test.YtfklinjaajafgaaGreatDoorK05
import Derived.Deep.RegionHeld3
import Derived.Deep.DrawnRows
set_option maxRecDepth 100000
set_option maxHeartbeats 4000000
namespace Go.Proofs.YtfklinjaajafgaaGreatDoor
open Go.RowKit
theorem Rep.iface {w:World}{G:Nat->Prop}{d:Ls.D}{v:Value}(h:Rep w G 0 d [v]):∃t x,v=.iface t x:=by
 rcases h.at0 with⟨_,_,_,_,_,rfl⟩|⟨_,_,_,_,_,_,rfl⟩|⟨_,_,_,_,rfl⟩|⟨_,_,_,_,rfl⟩<;>exact⟨_,_,rfl⟩
def U4 (s:ByteArray)(i:Nat)(v:Value):Value:=if A7 s i 42=true then S2 v true true else if A7 s i 43=true then S2 v false true else if A7 s i 63=true then S2 v true false else v
def U3 (s:ByteArray)(i:Nat)(d:Ls.D):Ls.D:=if A7 s i 42=true then Ls.rep 5 d else if A7 s i 43=true then Ls.rep 6 d else if A7 s i 63=true then Ls.rep 7 d else d
def K5 (s:ByteArray)(i:Nat):Nat:=if A7 s i 42=true then i+1 else if A7 s i 43=true then i+1 else if A7 s i 63=true then i+1 else i
theorem zQ7 {P:List UInt8->Ls.Rd}{r:List UInt8}{s:ByteArray}{j:Nat}{d:Ls.D}(h:Ls.dX5 P r=some (d,rest s j)):Ls.fXe P r=some (U3 s j d,rest s (K5 s j)):=by
 rw[Ls.fXe,h];dsimp only
 unfold U3 K5;cases h1:A7 s j 42 with
 | true=>rw[if_pos (C4.2 h1),E3];simp
 | false=>
  rw[if_neg (by rw[C4,h1];simp)];cases h2:A7 s j 43 with
  | true=>rw[if_pos (C4.2 h2),E3];simp
  | false=>
   rw[if_neg (by rw[C4,h2];simp)];cases h3:A7 s j 63 with
   | true=>rw[if_pos (C4.2 h3),E3];simp
   | false=>rw[if_neg (by rw[C4,h3];simp)];simp
theorem zQ6 {w:World}{G:Nat->Prop}{d:Ls.D}{v:Value}(h:Rep w G 0 d [v])(s:ByteArray)(i:Nat):Rep w G 0 (U3 s i d) [U4 s i v]:=by
 unfold U3 U4;split
 ·exact .rep (t:=5) (by simp) h
 ·split
  ·exact .rep (t:=6) (by simp) h
  ·split
   ·exact .rep (t:=7) (by simp) h
   ·exact h
theorem zQ2 {s:ByteArray}{i:Nat}(h:i<=s.size):i<=K5 s i/\K5 s i<=s.size:=by
 unfold K5;have h1:∀c,A7 s i c=true->i<s.size:=fun c hc=>(D6 hc).1;split
 ·rename_i h2;have:=h1 _ h2;omega
 ·split
  ·rename_i h2;have:=h1 _ h2;omega
  ·split
   ·rename_i h2;have:=h1 _ h2;omega
   ·omega
theorem kQo (ty:TypeId)(x:Value)(w:World) :
  Calls Tryz.prog 159 #[.iface ty x] w fun e w'=>e=.returned (S2 (.iface ty x) true true)/\w'=w:=by
 go_enter Tryz.func159,Tryz.ntmps159;go_wp2_with fail;go_ret;exact⟨rfl,rfl⟩
theorem zQ8 (rb:Nat)(s:ByteArray)(i z:Nat)(ty:TypeId)(x:Value)(w:World)(h:RB w rb s i z)(hs:s.size<=1048576)(hi:i<=s.size) :
  Calls Tryz.prog 140 #[D2 rb,.iface ty x] w fun e w'=>e=.returned (U4 s i (.iface ty x))/\RLeft w rb s (K5 s i) z w':=by
 have HI0:Hid (In 177 w rb s i z (w.alloc (G7 177 rb))):=In.enter 177 h;cases h1:A7 s i 42 with
 | true=>
  have HV:Hid (U4 s i (.iface ty x)=S2 (.iface ty x) true true/\K5 s i=i+1):=by simp[Hid,U4,K5,h1]
  have hc:=Y1 rb s i z 42 _ HI0.out.lies hs h1;clear h1;go_enter Tryz.func140,Tryz.ntmps140;go_wp2_with fail;refine hc.mono ?_;rintro e w1 ⟨rfl,hl⟩;go_wp2_with fail;refine(kQo ty x _).mono ?_;rintro e w2 ⟨rfl,rfl⟩;go_wp2_with fail;go_ret;rw[HV.out.1,HV.out.2];exact⟨rfl,(HI0.out.go hl).left⟩
 | false=>
  have hc1:=U6 rb s i z 42 _ HI0.out.lies hs (by omega) h1;cases h2:A7 s i 43 with
  | true=>
   have HV:Hid (U4 s i (.iface ty x)=S2 (.iface ty x) false true/\K5 s i=i+1):=by simp[Hid,U4,K5,h1,h2]
   clear h1;have H2:Hid (A7 s i 43=true):=h2;clear h2;go_enter Tryz.func140,Tryz.ntmps140;go_wp2_with fail;refine hc1.mono ?_;rintro e w1 ⟨rfl,hl⟩;have hi1:=HI0.out.go hl;have b1:=hi1.cell;go_wp2_with fail;refine(Y1 rb s i z 43 w1 hl.lies hs H2.out).mono ?_;rintro e w2 ⟨rfl,hl2⟩;go_wp2_with fail;go_ret;rw[HV.out.1,HV.out.2];exact⟨rfl,(hi1.go hl2).left⟩
  | false=>
   have H2:Hid (A7 s i 43=false):=h2;cases h3:A7 s i 63 with
   | true=>
    have HV:Hid (U4 s i (.iface ty x)=S2 (.iface ty x) true false/\K5 s i=i+1):=by simp[Hid,U4,K5,h1,h2,h3]
    have H3:Hid (A7 s i 63=true):=h3;clear h1 h2 h3;go_enter Tryz.func140,Tryz.ntmps140;go_wp2_with fail;refine hc1.mono ?_;rintro e w1 ⟨rfl,hl⟩;have hi1:=HI0.out.go hl;have b1:=hi1.cell;go_wp2_with fail;refine(U6 rb s i z 43 w1 hl.lies hs (by omega) H2.out).mono ?_;rintro e w2 ⟨rfl,hl2⟩;have hi2:=hi1.go hl2;have b2:=hi2.cell;go_wp2_with fail;refine(Y1 rb s i z 63 w2 hl2.lies hs H3.out).mono ?_;rintro e w3 ⟨rfl,hl3⟩;go_wp2_with fail;go_ret;rw[HV.out.1,HV.out.2];exact⟨rfl,(hi2.go hl3).left⟩
   | false=>
    have HV:Hid (U4 s i (.iface ty x)=.iface ty x/\K5 s i=i):=by simp[Hid,U4,K5,h1,h2,h3]
    have H3:Hid (A7 s i 63=false):=h3;clear h1 h2 h3;go_enter Tryz.func140,Tryz.ntmps140;go_wp2_with fail;refine hc1.mono ?_;rintro e w1 ⟨rfl,hl⟩;have hi1:=HI0.out.go hl;have b1:=hi1.cell;go_wp2_with fail;refine(U6 rb s i z 43 w1 hl.lies hs (by omega) H2.out).mono ?_;rintro e w2 ⟨rfl,hl2⟩;have hi2:=hi1.go hl2;have b2:=hi2.cell;go_wp2_with fail;refine(U6 rb s i z 63 w2 hl2.lies hs (by omega) H3.out).mono ?_;rintro e w3 ⟨rfl,hl3⟩;go_wp2_with fail;go_ret;rw[HV.out.1,HV.out.2];exact⟨rfl,(hi2.go hl3).left⟩
def q7 (s:ByteArray)(a1:Addr)(z:Nat):Prop:=∀(rb i:Nat) (w:World),RB w rb s i z->Env w rb a1->i<=s.size->
 Calls Tryz.prog 113 #[D2 rb] w (RPost w rb s i z a1 (Ls.pat (13-z) (rest s i)))
def P7 (P:List UInt8->Ls.Rd)(r:List UInt8):Ls.Rd:=
 match P r with
 | .none=>.none
 | some (d,u)=>if u.head?=some 41 then some (d,u.tail) else .none
theorem uQo {P:List UInt8->Ls.Rd}{r:List UInt8}{s:ByteArray}{d:Ls.D}{j:Nat}(h:P r=some (d,rest s j))(hse:A7 s j 41=true):P7 P r=some (d,rest s (j+1)):=by
 unfold P7;rw[h];dsimp only
 rw[if_pos (C4.2 hse),E3]
theorem uQm {P:List UInt8->Ls.Rd}{r:List UInt8}{s:ByteArray}{d:Ls.D}{j:Nat}(h:P r=some (d,rest s j))(hse:A7 s j 41=false):P7 P r=.none:=by
 unfold P7;rw[h];dsimp only
 rw[if_neg (by rw[C4,hse];simp)]
theorem uQn {P:List UInt8->Ls.Rd}{r:List UInt8}(h:P r=.none):P7 P r=.none:=by
 unfold P7;rw[h]
theorem Rep.grown {w w1 w2:World}{rb:Nat}(hr:rb<w.heap.size){d:Ls.D}{v:Value}{W:World}(hW:w.heap.size<=W.heap.size)(h:Rep w1 (B8 W w1) 0 d [v])(hg:w1.grownBy w2 (some rb)):Rep w2 (B8 w w2) 0 d [v]:=
 h.mono (fun k hk=>⟨Nat.le_trans hW hk.1,Nat.lt_of_lt_of_le hk.2 hg.size⟩) (fun k hk=>hg.block k hk.2 (by have:=hk.1;simp;omega))
theorem uQp (s:ByteArray)(hs:s.size<=1048576)(a1:Addr)(z:Nat)(hz:z<=12)(hC:z<=11->q7 s a1 (z+1))(rb i:Nat)(w:World)(h:RB w rb s i z)(hE:Env w rb a1)(hi:i<=s.size) :
  Calls Tryz.prog 160 #[D2 rb] w (RPost w rb s i z a1 (P7 (Ls.pat (12-z)) (rest s i))):=by
 have HI0:Hid (In 177 w rb s i z (w.alloc (G7 177 rb))):=In.enter 177 h;have hrl:=h.lt
 by_cases h12:z=12
 ·subst h12
  have HN:Hid (P7 (Ls.pat (12-12)) (rest s i)=.none):=rfl;have hO:=gQ1 rb s i a1 _ HI0.out.lies (HI0.out.env hE);go_enter Tryz.func160,Tryz.ntmps160;go_wp2_with fail;refine hO.mono ?_;rintro e w3 ⟨rfl,hg⟩;go_wp2_with fail;exact⟨rfl,.inr ⟨HN.out,rfl,HI0.out.threw rfl hg⟩⟩
 ·have HC:Hid (q7 s a1 (z+1)):=hC (by omega)
  have hO:=gQ2 rb s i z _ HI0.out.lies (by omega);clear hC;go_enter Tryz.func160,Tryz.ntmps160;go_wp2_with fail;refine hO.mono ?_;rintro e w1 ⟨rfl,hl1⟩;have hi1:=HI0.out.go hl1;have b1:=hi1.cell;clear hO;go_wp2_with fail;refine(HC.out rb i w1 hi1.lies (hi1.env hE) hi).mono ?_;rintro e w2 (⟨d,j,v,hr,hij,hj,rfl,hrep,hl2⟩|⟨hr,rfl,hg⟩)
  ·rw[show 13-(z+1)=12-z from by omega]at hr
   have Hr:Hid (Ls.pat (12-z) (rest s i)=some (d,rest s j)):=hr;clear hr b1;have hi2:=hi1.go hl2;have b2:=hi2.cell;obtain⟨ty,x,rfl⟩:=hrep.iface;have HW:Hid (w.heap.size<=w1.heap.size):=Nat.le_of_lt hi1.size;have Hrep:Hid (Rep w2 (B8 w1 w2) 0 d [.iface ty x]):=hrep;clear hrep;cases hse:A7 s j 41 with
   | true=>
    have HN:Hid (P7 (Ls.pat (12-z)) (rest s i)=some (d,rest s (j+1))):=uQo Hr.out hse;have hj2:=(D6 hse).1;have hcl:=dQs rb s j z 41 w2 hi2.lies hs (by omega) hse;clear hse;go_wp2_with fail;refine hcl.mono ?_;rintro e w3 ⟨rfl,hl3⟩;have HP:Hid (Rep w3 (B8 w w3) 0 d [.iface ty x]):=Hrep.out.grown hrl HW.out hl3.grown;go_wp2_with fail;go_ret;exact .inl ⟨d,j+1,_,HN.out,by omega,by omega,rfl,HP.out,(hi2.go hl3).left⟩
   | false=>
    have HN:Hid (P7 (Ls.pat (12-z)) (rest s i)=.none):=uQm Hr.out hse;have hcl:=dQr rb s j (z+1) 41 a1 w2 hi2.lies (hi2.env hE) hs (by omega) hse;clear hse;go_wp2_with fail;refine hcl.mono ?_;rintro e w3 ⟨rfl,hg⟩;go_wp2_with fail;exact⟨rfl,.inr ⟨HN.out,rfl,hi2.threw rfl hg⟩⟩
  ·rw[show 13-(z+1)=12-z from by omega]at hr
   have HN:Hid (P7 (Ls.pat (12-z)) (rest s i)=.none):=uQn hr;go_wp2_with fail;exact⟨rfl,.inr ⟨HN.out,rfl,hi1.threw rfl hg⟩⟩
def fQj (s:ByteArray)(a1:Addr)(z:Nat):Prop:=∀(rb i:Nat) (w:World),RB w rb s i z->Env w rb a1->i<=s.size->
 Calls Tryz.prog 141 #[D2 rb] w (RPost w rb s i z a1 (Ls.dX5 (Ls.pat (12-z)) (rest s i)))
theorem RPost.after {w w1 w2:World}{rb:Nat}{s:ByteArray}{i j z:Nat}{a1:Addr}{res res':Ls.Rd}{e:Ending}(h:RPost w1 rb s j z a1 res' e w2)(hl:w.grownBy w1 (some rb))(hij:i<=j)(hr:res=res'):RPost w rb s i z a1 res e w2:=by
 subst hr;rcases h with⟨d,k,v,hr,h1,h2,he,hrep,hl2⟩|⟨hr,he,hg⟩
 ·exact .inl ⟨d,k,v,hr,by omega,h2,he,hrep.mono (fun m hm=>⟨Nat.le_trans hl.size hm.1,hm.2⟩) (fun _ _=>rfl),hl2.lies,I7 hl hl2.grown⟩
 ·exact .inr ⟨hr,he,I7 hl hg⟩
theorem RPost.placed {w W:World}{rb:Nat}{s:ByteArray}{i j z:Nat}{a1:Addr}{res:Ls.Rd}{g:List UInt8}{lo hi:Nat}(hr:res=some (Ls.place g,rest s j))(hij:i<=j)(hj:j<=s.size)(hS:SB g lo hi)(hl:RLeft w rb s j z W):RPost w rb s i z a1 res (.returned (J3 lo hi)) W:=
 .inl ⟨Ls.place g,j,_,hr,hij,hj,rfl,.place hS,hl⟩
theorem bX4 (s:ByteArray)(hs:s.size<=1048576)(a1:Addr)(z rb i:Nat)(w:World)(h:RB w rb s i z)(hE:Env w rb a1)(hi:i=s.size) :
  Calls Tryz.prog 141 #[D2 rb] w (RPost w rb s i z a1 (Ls.dX5 (Ls.pat (12-z)) (rest s i))):=by
 subst hi;have HR:Hid (Ls.dX5 (Ls.pat (12-z)) (rest s s.size)=.none):=by show _=_;rw[N8 (by omega)];rfl
 have HI0:Hid (In 177 w rb s s.size z (w.alloc (G7 177 rb))):=In.enter 177 h;have hn:=cQx rb s s.size z a1 _ HI0.out.lies (HI0.out.env hE) hs (by omega) (by omega);go_enter Tryz.func141,Tryz.ntmps141;go_wp2_with fail;refine hn.mono ?_;rintro e w1 ⟨rfl,hg⟩;go_wp2_with fail;exact⟨rfl,.inr ⟨HR.out,rfl,HI0.out.threw rfl hg⟩⟩
theorem bX8 (s:ByteArray)(hs:s.size<=1048576)(a1:Addr)(z:Nat)(hz:z<=12)(hC:z<=11->q7 s a1 (z+1))(rb i:Nat)(w:World)(h:RB w rb s i z)(hE:Env w rb a1)(hi:i<s.size)(hc:nx s i=40) :
  Calls Tryz.prog 141 #[D2 rb] w (RPost w rb s i z a1 (Ls.dX5 (Ls.pat (12-z)) (rest s i))):=by
 have HR:Hid (Ls.dX5 (Ls.pat (12-z)) (rest s i)=P7 (Ls.pat (12-z)) (rest s (i+1))):=by show _=_;rw[D3 hi,hc];rfl
 have HI0:Hid (In 177 w rb s i z (w.alloc (G7 177 rb))):=In.enter 177 h;have hn:=N0 rb s i z _ HI0.out.lies hs hi;rw[hc]at hn;clear hc;go_enter Tryz.func141,Tryz.ntmps141;go_wp2_with fail;refine hn.mono ?_;rintro e w1 ⟨rfl,hl⟩;have hi1:=HI0.out.go hl;have b1:=hi1.cell;go_wp2_with fail;refine(uQp s hs a1 z hz hC rb (i+1) w1 hi1.lies (hi1.env hE) (by omega)).mono ?_;rintro e w2 (⟨d,j,v,hr,hij,hj,rfl,hrep,hl1⟩|⟨hr,rfl,hg⟩)
 ·have Hr:Hid (P7 (Ls.pat (12-z)) (rest s (i+1))=some (d,rest s j)):=hr
  clear hr;have HP:Hid (Rep w2 (B8 w1 w2) 0 d [v]):=hrep;clear hrep;go_wp2_with fail;go_ret;exact RPost.after (.inl ⟨d,j,v,Hr.out,hij,hj,rfl,HP.out,hl1⟩) hi1.left.grown (by omega) HR.out
 ·have Hr:Hid (P7 (Ls.pat (12-z)) (rest s (i+1))=.none):=hr
  clear hr;go_wp2_with fail;exact⟨rfl,RPost.after (.inr ⟨Hr.out,rfl,hg⟩) hi1.left.grown (Nat.le_succ i) HR.out⟩
theorem bX2 (s:ByteArray)(hs:s.size<=1048576)(a1:Addr)(z rb i:Nat)(w:World)(h:RB w rb s i z)(hE:Env w rb a1)(hi:i<s.size)(hc:nx s i=91) :
  Calls Tryz.prog 141 #[D2 rb] w (RPost w rb s i z a1 (Ls.dX5 (Ls.pat (12-z)) (rest s i))):=by
 have HR:Hid (Ls.dX5 (Ls.pat (12-z)) (rest s i)=match Ls.cls ((rest s (i+1)).length+1) [] (rest s (i+1)) with|.none=>.none|some (g,u)=>some (Ls.place g,u)):=by show _=_;rw[D3 hi,hc];rfl
 have HI0:Hid (In 177 w rb s i z (w.alloc (G7 177 rb))):=In.enter 177 h;have hn:=N0 rb s i z _ HI0.out.lies hs hi;rw[hc]at hn;clear hc;go_enter Tryz.func141,Tryz.ntmps141;go_wp2_with fail;refine hn.mono ?_;rintro e w1 ⟨rfl,hl⟩;have hi1:=HI0.out.go hl;have b1:=hi1.cell;go_wp2_with fail;refine(zQs rb s (i+1) z a1 w1 hi1.lies (hi1.env hE) hs (by omega)).mono ?_;rintro e w2 (⟨g,j,lo,hi2,hr,hij,hj,rfl,hS,hl1⟩|⟨hr,rfl,hg⟩)
 ·have Hr:Hid (Ls.dX5 (Ls.pat (12-z)) (rest s i)=some (Ls.place g,rest s j)):=by show _=_;rw[HR.out,hr]
  clear hr;go_wp2_with fail;go_ret;exact RPost.placed Hr.out (by omega) hj hS (hi1.go hl1).left
 ·have Hr:Hid (Ls.dX5 (Ls.pat (12-z)) (rest s i)=.none):=by show _=_;rw[HR.out,hr]
  clear hr;go_wp2_with fail;exact⟨rfl,.inr ⟨Hr.out,rfl,hi1.threw rfl hg⟩⟩
theorem bX3 (s:ByteArray)(hs:s.size<=1048576)(a1:Addr)(z rb i:Nat)(w:World)(h:RB w rb s i z)(hi:i<s.size)(hc:nx s i=46) :
  Calls Tryz.prog 141 #[D2 rb] w (RPost w rb s i z a1 (Ls.dX5 (Ls.pat (12-z)) (rest s i))):=by
 have HR:Hid (Ls.dX5 (Ls.pat (12-z)) (rest s i)=some (Ls.place Ls.az,rest s (i+1))):=by show _=_;rw[D3 hi,hc];rfl
 have HI0:Hid (In 177 w rb s i z (w.alloc (G7 177 rb))):=In.enter 177 h;have hn:=N0 rb s i z _ HI0.out.lies hs hi;rw[hc]at hn;clear hc;go_enter Tryz.func141,Tryz.ntmps141;go_wp2_with fail;refine hn.mono ?_;rintro e w1 ⟨rfl,hl⟩;have hi1:=HI0.out.go hl;go_wp2_with fail;refine(eQ8 0 0 97 122 _ (by decide) (by decide) (by omega) (by omega)).mono ?_;rintro e w2 ⟨lo,hi2,rfl,h1,h2,h3,hb⟩;have hSB:SB Ls.az lo hi2:=(SB.with SB.empty h1 h2 (by decide) h3).congr (fun d=>(tQ6 d).symm);clear h3;go_wp2_with fail;go_ret;exact RPost.placed HR.out (by omega) (by omega) hSB (hi1.below hb).left
theorem bX5 (s:ByteArray)(hs:s.size<=1048576)(a1:Addr)(z rb i:Nat)(w:World)(h:RB w rb s i z)(hE:Env w rb a1)(hi:i<s.size)(hc:nx s i=92) :
  Calls Tryz.prog 141 #[D2 rb] w (RPost w rb s i z a1 (Ls.dX5 (Ls.pat (12-z)) (rest s i))):=by
 have HI0:Hid (In 177 w rb s i z (w.alloc (G7 177 rb))):=In.enter 177 h;have hn:=N0 rb s i z _ HI0.out.lies hs hi;rw[hc]at hn;rcases Nat.lt_or_ge (i+1) s.size with hi1|hi1
 ·cases hsg:Ls.fXi (nx s (i+1)) with
  | true=>
   have HR:Hid (Ls.dX5 (Ls.pat (12-z)) (rest s i)=some (Ls.place [nx s (i+1)],rest s (i+1+1))):=by
    show _=_;rw[D3 hi,hc,D3 hi1];simp[Ls.dX5,hsg]
   have Hsg:Hid (Ls.fXi (nx s (i+1))=true):=hsg;clear hc hsg;go_enter Tryz.func141,Tryz.ntmps141;go_wp2_with fail;refine hn.mono ?_;rintro e w1 ⟨rfl,hl⟩;have hj1:=HI0.out.go hl;have HJ1:Hid (In 177 w rb s (i+1) z w1):=hj1;have b1:=hj1.cell;clear hj1;have HN:Hid (∀W,Below w1.heap.size w1 W->Calls Tryz.prog 143 #[.pointer (some ⟨rb,0,none⟩)] W fun e w'=>e=.returned (.int .u8 (nx s (i+1)).toNat)/\In 177 w rb s (i+1+1) z w'):=by
    intro W hW;have hJ:=HJ1.out.below hW;refine(N0 rb s (i+1) z W hJ.lies hs hi1).mono ?_;rintro e w' ⟨rfl,hl2⟩;exact⟨rfl,hJ.go hl2⟩
   go_wp2_with fail;go_region_held3 (fun w'=>w'.cell? ⟨w.heap.size,0,none⟩=some (.pointer (some ⟨rb,0,none⟩))) (first|assumption|go_keep)
    (first
     | (go_at_call 143;refine(HN.out _ ?_).mono ?_;exact(Below.refl _ _).drew;rintro e w2 ⟨rfl,hj2⟩;have b2:=hj2.cell)
     | (go_at_call 163;refine(lQ2 rb (nx s (i+1)) _ Hsg.out).mono ?_;rintro e w3 ⟨⟨lo,hi2,rfl,hSB⟩,hb⟩;have b3:=(hj2.below hb).cell))
   all_goals
    go_wp2_with fail;go_ret;exact RPost.placed HR.out (by omega) (by omega) hSB (hj2.below hb).left
  | false=>
   have HR:Hid (Ls.dX5 (Ls.pat (12-z)) (rest s i)=.none):=by
    show _=_;rw[D3 hi,hc,D3 hi1];simp[Ls.dX5,hsg]
   have Hsg:Hid (Ls.fXi (nx s (i+1))=false):=hsg;clear hc hsg;go_enter Tryz.func141,Tryz.ntmps141;go_wp2_with fail;refine hn.mono ?_;rintro e w1 ⟨rfl,hl⟩;have hj1:=HI0.out.go hl;have HJ1:Hid (In 177 w rb s (i+1) z w1):=hj1;have b1:=hj1.cell;clear hj1;have HN:Hid (∀W,Below w1.heap.size w1 W->Calls Tryz.prog 143 #[.pointer (some ⟨rb,0,none⟩)] W fun e w'=>e=.returned (.int .u8 (nx s (i+1)).toNat)/\In 177 w rb s (i+1+1) z w'):=by
    intro W hW;have hJ:=HJ1.out.below hW;refine(N0 rb s (i+1) z W hJ.lies hs hi1).mono ?_;rintro e w' ⟨rfl,hl2⟩;exact⟨rfl,hJ.go hl2⟩
   have HS:Hid (∀W,In 177 w rb s (i+1+1) z W->Calls Tryz.prog 163 #[D2 rb,.int .u8 (nx s (i+1)).toNat] W (J7 w rb a1)):=by
    intro W hJ;refine(lQ1 rb (nx s (i+1)) a1 W (hJ.env hE) Hsg.out).mono ?_;rintro e w' ⟨rfl,hg⟩;exact⟨rfl,hJ.threw rfl hg⟩
   go_wp2_with fail;refine wp_region_held_drew (S:=fun w'=>w'.cell? ⟨w.heap.size,0,none⟩=some (.pointer (some ⟨rb,0,none⟩))) (by kernel_rfl) (by simp[b1]) (fun hHeld=>?_);refine wpAnyH_take (i:=0) (oi:=⟨_,_,_,_,_,_⟩) (v:=D2 rb) rfl (by kernel_rfl) (by kernel_rfl) (by kernel_rfl) (fun _ _ _ h=>h) (Or.inl ⟨by rfl,fun w' hSw=>by go_simp⟩) hHeld ?_;simp only[Act.put,List.setIfInBounds_toArray,List.set_cons_zero,List.set_cons_succ];refine wpAnyH_take (i:=1) (oi:=⟨_,_,_,_,_,_⟩) (v:=.pointer (some ⟨w.heap.size,0,none⟩)) rfl (by kernel_rfl) (by kernel_rfl) (by kernel_rfl) (fun _ _ _ h=>h) (Or.inl ⟨by rfl,fun w' hSw=>by go_simp⟩) hHeld ?_;simp only[Act.put,List.setIfInBounds_toArray,List.set_cons_zero,List.set_cons_succ];refine wpAnyH_take (i:=2) (oi:=⟨_,_,_,_,_,_⟩) (v:=.pointer (some ⟨rb,0,none⟩)) rfl (by kernel_rfl) (by kernel_rfl) (by kernel_rfl) (fun _ _ _ h=>h) (Or.inl ⟨by rfl,fun w' hSw=>by go_simp⟩) hHeld ?_;simp only[Act.put,List.setIfInBounds_toArray,List.set_cons_zero,List.set_cons_succ];refine wpAnyH_ready (rs:=[3]) (by kernel_rfl) (by simp) (AllReadyH.cons (o:=⟨_,_,_,_,_,_⟩) rfl (fun K hK=>?_) AllReadyH.nil);go_simp
   refine(HN.out _ (Below.refl _ _).drew).mono ?_;rintro e w2 ⟨rfl,hj2⟩;have b2:=hj2.cell;go_simp
   refine hK.out _ _ b2 (fun hHeld=>?_);refine wpAnyH_ready (rs:=[4]) (by kernel_rfl) (by simp) (AllReadyH.cons (o:=⟨_,_,_,_,_,_⟩) rfl (fun K hK=>?_) AllReadyH.nil);go_simp
   refine(HS.out _ hj2).mono ?_;rintro e w3 ⟨rfl,hg⟩;go_wp2_with fail;exact⟨rfl,.inr ⟨HR.out,rfl,hg⟩⟩
 ·have HR:Hid (Ls.dX5 (Ls.pat (12-z)) (rest s i)=.none):=by
   show _=_;rw[D3 hi,hc,N8 hi1];simp[Ls.dX5]
  clear hc;go_enter Tryz.func141,Tryz.ntmps141;go_wp2_with fail;refine hn.mono ?_;rintro e w1 ⟨rfl,hl⟩;have hj1:=HI0.out.go hl;have HJ1:Hid (In 177 w rb s (i+1) z w1):=hj1;have b1:=hj1.cell;clear hj1;have HN:Hid (∀W,Below w1.heap.size w1 W->Calls Tryz.prog 143 #[.pointer (some ⟨rb,0,none⟩)] W (J7 w rb a1)):=by
   intro W hW;have hJ:=HJ1.out.below hW;refine(cQx rb s (i+1) z a1 W hJ.lies (hJ.env hE) hs hi1 (by omega)).mono ?_;rintro e w' ⟨rfl,hg⟩;exact⟨rfl,hJ.threw rfl hg⟩
  go_wp2_with fail;refine wp_region_held_drew (S:=fun w'=>w'.cell? ⟨w.heap.size,0,none⟩=some (.pointer (some ⟨rb,0,none⟩))) (by kernel_rfl) (by simp[b1]) (fun hHeld=>?_);refine wpAnyH_take (i:=0) (oi:=⟨_,_,_,_,_,_⟩) (v:=D2 rb) rfl (by kernel_rfl) (by kernel_rfl) (by kernel_rfl) (fun _ _ _ h=>h) (Or.inl ⟨by rfl,fun w' hSw=>by go_simp⟩) hHeld ?_;simp only[Act.put,List.setIfInBounds_toArray,List.set_cons_zero,List.set_cons_succ];refine wpAnyH_take (i:=1) (oi:=⟨_,_,_,_,_,_⟩) (v:=.pointer (some ⟨w.heap.size,0,none⟩)) rfl (by kernel_rfl) (by kernel_rfl) (by kernel_rfl) (fun _ _ _ h=>h) (Or.inl ⟨by rfl,fun w' hSw=>by go_simp⟩) hHeld ?_;simp only[Act.put,List.setIfInBounds_toArray,List.set_cons_zero,List.set_cons_succ];refine wpAnyH_take (i:=2) (oi:=⟨_,_,_,_,_,_⟩) (v:=.pointer (some ⟨rb,0,none⟩)) rfl (by kernel_rfl) (by kernel_rfl) (by kernel_rfl) (fun _ _ _ h=>h) (Or.inl ⟨by rfl,fun w' hSw=>by go_simp⟩) hHeld ?_;simp only[Act.put,List.setIfInBounds_toArray,List.set_cons_zero,List.set_cons_succ];refine wpAnyH_ready (rs:=[3]) (by kernel_rfl) (by simp) (AllReadyH.cons (o:=⟨_,_,_,_,_,_⟩) rfl (fun K hK=>?_) AllReadyH.nil);go_simp
  refine(HN.out _ (Below.refl _ _).drew).mono ?_;rintro e w2 ⟨rfl,hg⟩;go_wp2_with fail;exact⟨rfl,.inr ⟨HR.out,rfl,hg⟩⟩
def bQy:ByteArray:=⟨#[40,41,91,93,42,43,63,124,47,34,92]⟩
theorem bXg (c:UInt8)(h1:c≠40)(h2:c≠91)(h3:c≠92):decide (0<=firstIdx bQy c)=Ls.iXx c:=by
 rw[firstIdx_nonneg,Bool.eq_iff_iff];simp[bQy,Ls.iXx];constructor
 ·rintro (h|h|h|h|h|h|h|h|h|h|h)<;>simp_all
 ·rintro (((((((h|h)|h)|h)|h)|h)|h)|h)<;>simp_all
theorem bX9 (s:ByteArray)(hs:s.size<=1048576)(a1:Addr)(z rb i:Nat)(w:World)(h:RB w rb s i z)(hE:Env w rb a1)(hi:i<s.size)(h1:nx s i≠40)(h2:nx s i≠91)(h3:nx s i≠46)(h4:nx s i≠92) :
  Calls Tryz.prog 141 #[D2 rb] w (RPost w rb s i z a1 (Ls.dX5 (Ls.pat (12-z)) (rest s i))):=by
 have HI0:Hid (In 177 w rb s i z (w.alloc (G7 177 rb))):=In.enter 177 h;have hn:=N0 rb s i z _ HI0.out.lies hs hi;have hR:Ls.dX5 (Ls.pat (12-z)) (rest s i)=if Ls.iXx (nx s i)=true\/Ls.fXi (nx s i)=false then .none else some (Ls.place [nx s i],rest s (i+1)):=by
  rw[D3 hi];simp[Ls.dX5,h1,h2,h3,h4]
 have HR:Hid _:=hR;clear hR;have e1:(((nx s i).toNat:Int)==40)=false:=by rw[beq_eq_false_iff_ne];intro e;exact h1 (UInt8.toNat_inj.1 (by simpa using (by omega:(nx s i).toNat=40)))
 have e2:(((nx s i).toNat:Int)==91)=false:=by rw[beq_eq_false_iff_ne];intro e;exact h2 (UInt8.toNat_inj.1 (by simpa using (by omega:(nx s i).toNat=91)))
 have e3:(((nx s i).toNat:Int)==46)=false:=by rw[beq_eq_false_iff_ne];intro e;exact h3 (UInt8.toNat_inj.1 (by simpa using (by omega:(nx s i).toNat=46)))
 have e4:(((nx s i).toNat:Int)==92)=false:=by rw[beq_eq_false_iff_ne];intro e;exact h4 (UInt8.toNat_inj.1 (by simpa using (by omega:(nx s i).toNat=92)))
 have hsp:=bXg (nx s i) h1 h2 h4;clear h1 h2 h3 h4;have HI:Hid (∀W,Calls Tryz.prog 164 #[.string bQy,.int .u8 (nx s i).toNat] W fun e w'=>e=.returned (.int .i64 (firstIdx bQy (nx s i)))/\w'=W):=fun W=>uQc (nx s i) bQy W;generalize firstIdx bQy (nx s i)=q at *;cases hcl:Ls.iXx (nx s i) with
 | true=>
  have HN:Hid (Ls.dX5 (Ls.pat (12-z)) (rest s i)=.none):=by show _=_;rw[HR.out,if_pos (.inl hcl)]
  rw[hcl]at hsp;have hq:0<=q:=of_decide_eq_true hsp;clear hcl hsp;go_enter Tryz.func141,Tryz.ntmps141;go_wp2_with fail;refine hn.mono ?_;rintro e w1 ⟨rfl,hl⟩;have hi1:=HI0.out.go hl;have b1:=hi1.cell;go_wp2_with fail;refine(HI.out _).mono ?_;rintro e w2 ⟨rfl,rfl⟩;go_wp2_with fail;refine(T8 _ a1 _ (hi1.env hE).sc).mono ?_;rintro e w3 ⟨rfl,rfl⟩;go_wp2_with fail;exact⟨rfl,.inr ⟨HN.out,rfl,hi1.left.grown⟩⟩
 | false=>
  rw[hcl]at hsp;have hq:¬0<=q:=of_decide_eq_false hsp;cases hsg:Ls.fXi (nx s i) with
  | true=>
   have HN:Hid (Ls.dX5 (Ls.pat (12-z)) (rest s i)=some (Ls.place [nx s i],rest s (i+1))):=by show _=_;rw[HR.out,if_neg (by rw[hcl,hsg];simp)]
   have Hsg:Hid _:=hsg;clear hcl hsp hsg;go_enter Tryz.func141,Tryz.ntmps141;go_wp2_with fail;refine hn.mono ?_;rintro e w1 ⟨rfl,hl⟩;have hi1:=HI0.out.go hl;have b1:=hi1.cell;go_wp2_with fail;refine(HI.out _).mono ?_;rintro e w2 ⟨rfl,rfl⟩;go_wp2_with fail;refine(lQ2 rb (nx s i) _ Hsg.out).mono ?_;rintro e w3 ⟨⟨lo,hi2,rfl,hSB⟩,hb⟩;go_wp2_with fail;go_ret;exact RPost.placed HN.out (by omega) (by omega) hSB (hi1.below hb).left
  | false=>
   have HN:Hid (Ls.dX5 (Ls.pat (12-z)) (rest s i)=.none):=by show _=_;rw[HR.out,if_pos (.inr hsg)]
   have Hsg:Hid _:=hsg;clear hcl hsp hsg;go_enter Tryz.func141,Tryz.ntmps141;go_wp2_with fail;refine hn.mono ?_;rintro e w1 ⟨rfl,hl⟩;have hi1:=HI0.out.go hl;have b1:=hi1.cell;go_wp2_with fail;refine(HI.out _).mono ?_;rintro e w2 ⟨rfl,rfl⟩;go_wp2_with fail;refine(lQ1 rb (nx s i) a1 _ (hi1.env hE) Hsg.out).mono ?_;rintro e w3 ⟨rfl,hg⟩;go_wp2_with fail;exact⟨rfl,.inr ⟨HN.out,rfl,hi1.threw rfl hg⟩⟩
theorem aX2 (s:ByteArray)(hs:s.size<=1048576)(a1:Addr)(z:Nat)(hz:z<=12)(hC:z<=11->q7 s a1 (z+1)):fQj s a1 z:=by
 intro rb i w h hE hi;rcases Nat.lt_or_ge i s.size with hi1|hi1
 ·by_cases h1:nx s i=40
  ·exact bX8 s hs a1 z hz hC rb i w h hE hi1 h1
  ·by_cases h2:nx s i=91
   ·exact bX2 s hs a1 z rb i w h hE hi1 h2
   ·by_cases h3:nx s i=46
    ·exact bX3 s hs a1 z rb i w h hi1 h3
    ·by_cases h4:nx s i=92
     ·exact bX5 s hs a1 z rb i w h hE hi1 h4
     ·exact bX9 s hs a1 z rb i w h hE hi1 h1 h2 h3 h4
 ·exact bX4 s hs a1 z rb i w h hE (by omega)
end Go.Proofs.YtfklinjaajafgaaGreatDoor
