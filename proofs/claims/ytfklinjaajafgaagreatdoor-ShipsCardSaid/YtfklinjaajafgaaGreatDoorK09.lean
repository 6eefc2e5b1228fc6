import Derived.Test.YtfklinjaajafgaaGreatDoorK08
import Derived.Laws.IdiomStrings
import Derived.Deep.DeepCutAuto
import Derived.Deep.CutBlock
import Derived.Laws.EntriesVeiled
set_option maxRecDepth 100000
set_option maxHeartbeats 4000000
namespace Go.Proofs.YtfklinjaajafgaaGreatDoor
open Go.RowKit
theorem bXe {P:List UInt8->Ls.Rd}{r:List UInt8}{s:ByteArray}{d:Ls.D}{j:Nat}(h:P r=some (d,rest s j))(hse:A7 s j 47=true):Ls.dX8 P r=some (d,rest s (j+1)):=by
 unfold Ls.dX8;rw[h];dsimp only
 rw[if_pos (C4.2 hse),E3]
theorem bXc {P:List UInt8->Ls.Rd}{r:List UInt8}{s:ByteArray}{d:Ls.D}{j:Nat}(h:P r=some (d,rest s j))(hse:A7 s j 47=false):Ls.dX8 P r=.none:=by
 unfold Ls.dX8;rw[h];dsimp only
 rw[if_neg (by rw[C4,hse];simp)]
theorem bXd {P:List UInt8->Ls.Rd}{r:List UInt8}(h:P r=.none):Ls.dX8 P r=.none:=by
 unfold Ls.dX8;rw[h]
theorem lQl (s:ByteArray)(hs:s.size<=1048576)(a1:Addr)(z:Nat)(hz:z<=12)(rb i:Nat)(w:World)(h:RB w rb s i z)(hE:Env w rb a1)(hi:i<=s.size) :
  Calls Tryz.prog 166 #[D2 rb] w (RPost w rb s i z a1 (Ls.dX8 (Ls.pat (13-z)) (rest s i))):=by
 have HI0:Hid (In 167 w rb s i z (w.alloc (G7 167 rb))):=In.enter 167 h;have hrl:=h.lt;have hC:=zQv s hs a1 z hz rb i _ HI0.out.lies (HI0.out.env hE) hi;go_enter Tryz.func166,Tryz.ntmps166;go_wp2_with fail;refine hC.mono ?_;rintro e w1 (⟨d,j,v,hr,hij,hj,rfl,hrep,hl⟩|⟨hr,rfl,hg⟩)
 ·have hi1:=HI0.out.go hl
  have b1:=hi1.cell;obtain⟨ty,x,rfl⟩:=hrep.iface;have Hr:Hid (Ls.pat (13-z) (rest s i)=some (d,rest s j)):=hr;have Hrep:Hid (Rep w1 (B8 (w.alloc (G7 167 rb)) w1) 0 d [.iface ty x]):=hrep;have HW:Hid (w.heap.size<=(w.alloc (G7 167 rb)).heap.size):=by show _<=_;simp
  clear hr hrep hC;cases hse:A7 s j 47 with
  | true=>
   have HN:Hid (Ls.dX8 (Ls.pat (13-z)) (rest s i)=some (d,rest s (j+1))):=bXe Hr.out hse;have hj2:=(D6 hse).1;have hcl:=dQ0 rb s j z 47 w1 hi1.lies hs hse;clear hse;go_wp2_with fail;refine hcl.mono ?_;rintro e w3 ⟨rfl,hl3⟩;have HP:Hid (Rep w3 (B8 w w3) 0 d [.iface ty x]):=Hrep.out.grown hrl HW.out hl3.grown;go_wp2_with fail;go_ret;exact .inl ⟨d,j+1,_,HN.out,by omega,by omega,rfl,HP.out,(hi1.go hl3).left⟩
  | false=>
   have HN:Hid (Ls.dX8 (Ls.pat (13-z)) (rest s i)=.none):=bXc Hr.out hse;have hcl:=dQz rb s j z 47 a1 w1 hi1.lies (hi1.env hE) hs (by omega) hse;clear hse;go_wp2_with fail;refine hcl.mono ?_;rintro e w3 ⟨rfl,hg⟩;go_wp2_with fail;exact⟨rfl,.inr ⟨HN.out,rfl,hi1.threw rfl hg⟩⟩
 ·have HN:Hid (Ls.dX8 (Ls.pat (13-z)) (rest s i)=.none):=bXd hr
  go_wp2_with fail;exact⟨rfl,.inr ⟨HN.out,rfl,HI0.out.threw rfl hg⟩⟩
def Q4 (c:UInt8):Bool:=Ls.fXi c&&c != 10
theorem dXj (s:ByteArray)(hs:s.size<=1048576)(z rb i:Nat)(w:World)(h:RB w rb s i z)(hi:i<s.size)(hw:Q4 (nx s i)=true) :
  Calls Tryz.prog 202 #[D2 rb] w fun e w'=>e=.returned (.int .u8 (nx s i).toNat)/\RLeft w rb s (i+1) z w':=by
 have HI0:Hid (In 167 w rb s i z (w.alloc (G7 167 rb))):=In.enter 167 h;have hn:=N0 rb s i z _ HI0.out.lies hs hi;have h1:Ls.fXi (nx s i)=true:=by unfold Q4 at hw;simp at hw;exact hw.1
 have e1:(((nx s i).toNat:Int)==10)=false:=by
  rw[beq_eq_false_iff_ne];intro e;unfold Q4 at hw;simp at hw;exact hw.2 (UInt8.toNat_inj.1 (by simpa using (by omega:(nx s i).toNat=10)))
 have HM:=fun W=>dQ5 (nx s i) W;rw[h1]at HM;have HM':Hid _:=HM;clear HM hw h1;go_enter Tryz.func202,Tryz.ntmps202;go_wp2_with fail;refine hn.mono ?_;rintro e w1 ⟨rfl,hl⟩;go_wp2_with fail;refine(HM'.out _).mono ?_;rintro e w2 ⟨rfl,rfl⟩;go_wp2_with fail;go_ret;exact⟨rfl,(HI0.out.go hl).left⟩
theorem dXi (s:ByteArray)(hs:s.size<=1048576)(a1:Addr)(z rb i:Nat)(w:World)(h:RB w rb s i z)(hE:Env w rb a1)(hi:i<=s.size)(hw:i<s.size->Q4 (nx s i)=false) :
  Calls Tryz.prog 202 #[D2 rb] w (J7 w rb a1):=by
 have HI0:Hid (In 167 w rb s i z (w.alloc (G7 167 rb))):=In.enter 167 h;rcases Nat.lt_or_ge i s.size with h1|h1
 ·have hw1:=hw h1
  have hn:=N0 rb s i z _ HI0.out.lies hs h1;clear hw
  by_cases h10:nx s i=10
  ·have e1:(((nx s i).toNat:Int)==10)=true:=by rw[h10];rfl
   clear hw1 h10;go_enter Tryz.func202,Tryz.ntmps202;go_wp2_with fail;refine hn.mono ?_;rintro e w1 ⟨rfl,hl⟩;have hi1:=HI0.out.go hl;have b1:=hi1.cell;go_wp2_with fail;refine(T8 _ a1 _ (hi1.env hE).sc).mono ?_;rintro e w3 ⟨rfl,rfl⟩;go_wp2_with fail;exact⟨rfl,rfl,hi1.left.grown⟩
  ·have hsg:Ls.fXi (nx s i)=false:=by unfold Q4 at hw1;simp[h10]at hw1;exact hw1
   have e1:(((nx s i).toNat:Int)==10)=false:=by
    rw[beq_eq_false_iff_ne];intro e;exact h10 (UInt8.toNat_inj.1 (by simpa using (by omega:(nx s i).toNat=10)))
   have HM:=fun W=>dQ5 (nx s i) W;rw[hsg]at HM;have HM':Hid _:=HM;clear HM hw1 h10 hsg;go_enter Tryz.func202,Tryz.ntmps202;go_wp2_with fail;refine hn.mono ?_;rintro e w1 ⟨rfl,hl⟩;have hi1:=HI0.out.go hl;have b1:=hi1.cell;go_wp2_with fail;refine(HM'.out _).mono ?_;rintro e w2 ⟨rfl,rfl⟩;go_wp2_with fail;refine(T8 _ a1 _ (hi1.env hE).sc).mono ?_;rintro e w3 ⟨rfl,rfl⟩;go_wp2_with fail;exact⟨rfl,rfl,hi1.left.grown⟩
 ·have hn:=cQx rb s i z a1 _ HI0.out.lies (HI0.out.env hE) hs h1 (by omega)
  clear hw;go_enter Tryz.func202,Tryz.ntmps202;go_wp2_with fail;refine hn.mono ?_;rintro e w1 ⟨rfl,hg⟩;go_wp2_with fail;exact⟨rfl,rfl,HI0.out.threw rfl hg⟩
def R3 (ws r:List UInt8):Option (List UInt8 × List UInt8):=
 match Ls.eXt r with
 | .none=>.none
 | some (u,t)=>some (ws++u,t)
theorem dXm (r:List UInt8):R3 [] r=Ls.eXt r:=by
 unfold R3;cases Ls.eXt r with
 | none=>rfl
 | some q=>rfl
theorem dXl {ws:List UInt8}{s:ByteArray}{k:Nat}(h:A7 s k 34=true):R3 ws (rest s k)=some (ws,rest s (k+1)):=by
 unfold R3;rw[lQ5 h,Ls.eXt,if_pos rfl];simp
theorem dXn {ws:List UInt8}{s:ByteArray}{k:Nat}(hk:k<s.size)(h:A7 s k 34=false)(hw:Q4 (nx s k)=true):R3 ws (rest s k)=R3 (ws++[nx s k]) (rest s (k+1)):=by
 unfold R3;have h34:nx s k≠34:=by intro e;simp[A7,hk,e]at h
 unfold Q4 at hw;simp at hw;rw[D3 hk,Ls.eXt,if_neg h34,if_neg (by rw[hw.1];simp[hw.2])];cases Ls.eXt (rest s (k+1)) with
 | none=>rfl
 | some q=>simp
theorem dXk {ws:List UInt8}{s:ByteArray}{k:Nat}(h:A7 s k 34=false)(hw:k<s.size->Q4 (nx s k)=false):R3 ws (rest s k)=.none:=by
 unfold R3;rcases Nat.lt_or_ge k s.size with hk|hk
 ·have h34:nx s k≠34:=by intro e;simp[A7,hk,e]at h
  have hw1:=hw hk;rw[D3 hk,Ls.eXt,if_neg h34,if_pos ?_];unfold Q4 at hw1;cases hs:Ls.fXi (nx s k) with
  | false=>exact .inl rfl
  | true=>simp[hs]at hw1;exact .inr hw1
 ·rw[N8 hk];rfl
def oQ4 (w:World)(rb:Nat)(s:ByteArray)(i z:Nat)(a1:Addr):Ending->World->Prop:=fun e w'=>
 (∃ws j,Ls.eXq (rest s i)=some (ws,rest s j)/\i+ws.length<j/\j<=s.size/\e=.returned (.string ⟨ws.toArray⟩)/\RLeft w rb s j z w')\/
 (Ls.eXq (rest s i)=.none/\J7 w rb a1 e w')
abbrev aQf (ws:List UInt8):List Value:=ws.map fun c=>Value.int .u8 c.toNat
theorem infoByte:(Tryz.prog.info? 5).map (fun i=>(i.zero,i.size,i.bytes))=some (some (.int .u8 0),1,1):=by kernel_rfl
theorem wQv (w:World):(convert 105 9 (.slice none 0 0)).run Tryz.prog w=.ok (.string ⟨#[]⟩) w:=by
 rw[run_convert_bytes_string w 105 9 5 none 0 0 Tryz.underlying105 Tryz.underlying5 Tryz.underlying9];simp[Conv.bytesToString];rfl
theorem iQh {w:World}{base:Nat}{v:Value}{ws:List UInt8}(h:w.ownsRow base 5 1 v ws.length (aQf ws)):(convert 105 9 v).run Tryz.prog w=.ok (.string ⟨ws.toArray⟩) w:=by
 rcases h.2 with⟨rfl,h2⟩|⟨g,cap,cur,rfl,_⟩
 ·obtain rfl:ws=[]:=List.eq_nil_of_length_eq_zero h2
  exact wQv w
 ·refine run_convert_bytes_back w 105 9 5 ⟨g,0,none⟩ cap ws Tryz.underlying105 Tryz.underlying5 Tryz.underlying9 (fun j hj=>?_)
  have:=h.cellAt j (by omega);rw[show ((⟨g,0,none⟩:Addr).add j)=⟨g,j,none⟩ from by unfold Addr.add;split<;>simp_all];rw[this];simp[hj]
theorem Y0 {w:World}{base:Nat}{e:TypeId}{size:Nat}{v:Value}{n:Nat}{xs:List Value}(h:w.ownsRow base e size v n xs):∃a k c,v=.slice a k c:=by
 rcases h.2 with⟨e,_⟩|⟨_,_,_,e,_⟩<;>exact⟨_,_,_,e⟩
theorem lQv (s:ByteArray)(hs:s.size<=1048576)(a1:Addr)(z rb i:Nat)(w:World)(h:RB w rb s i z)(hE:Env w rb a1)(hi:i<=s.size) :
  Calls Tryz.prog 176 #[D2 rb] w (oQ4 w rb s i z a1):=by
 have HI0:Hid (In 167 w rb s i z (w.alloc (G7 167 rb))):=In.enter 167 h;have hz0:(w.alloc (G7 167 rb)).heap.size=w.heap.size+1:=by simp
 have HE:Hid (Env w rb a1):=hE;cases h34:A7 s i 34 with
 | false=>
  have HN:Hid (Ls.eXq (rest s i)=.none):=by
   show _=_;unfold Ls.eXq;rw[if_neg (by rw[C4,h34];simp)]
  have hC:=dQz rb s i z 34 a1 _ HI0.out.lies (HI0.out.env hE) hs (by omega) h34;clear h34;go_enter Tryz.func176,Tryz.ntmps176;go_wp2_with fail;refine hC.mono ?_;rintro e w1 ⟨rfl,hg⟩;go_wp2_with fail;exact⟨rfl,.inr ⟨HN.out,rfl,HI0.out.threw rfl hg⟩⟩
 | true=>
  have hi1:=(D6 h34).1;have HR:Hid (Ls.eXq (rest s i)=R3 [] (rest s (i+1))):=by
   show _=_;unfold Ls.eXq;rw[if_pos (C4.2 h34),E3,dXm]
  have hC:=dQ0 rb s i z 34 _ HI0.out.lies hs h34;clear h34 hE h;go_enter Tryz.func176,Tryz.ntmps176;go_wp2_with fail;refine hC.mono ?_;rintro e w1 ⟨rfl,hl1⟩;have hI1:=HI0.out.go hl1;have hz1:=hl1.grown.size;clear hC;go_wp2_with fail;generalize w.alloc (G7 167 rb)=W0 at *;go_loopw [3] (fun v wr=>∃(k:Nat) (ws:List UInt8),i+1+ws.length=k/\k<=s.size/\Ls.eXq (rest s i)=R3 ws (rest s k)/\In 167 w rb s k z wr/\W0.heap.size<=wr.heap.size/\wr.ownsRow W0.heap.size 5 1 v ws.length (aQf ws)) (fun _ wr=>s.size+1-T4 wr rb)
  case atStart=>exact⟨i+1,[],rfl,by omega,HR.out,hI1,hz1,World.ownsRow_nil _ _ _ _⟩
  case round=>
   obtain⟨k,ws,hk,hks,hres,hlk,hzr,hown⟩:=hrel;have Hres:Hid (Ls.eXq (rest s i)=R3 ws (rest s k)):=hres;have hmes:T4 wr rb=k:=aQd hlk.lies;have b0:=hlk.cell;obtain⟨x1,x2,x3,rfl⟩:=Y0 hown;have HO:Hid (wr.ownsRow W0.heap.size 5 1 (.slice x1 x2 x3) ws.length (aQf ws)):=hown;have hold:∀m,(Value.slice x1 x2 x3).ownBlock=some m->W0.heap.size<=m/\m<wr.heap.size:=fun m hm=>hown.lt m hm;have hnrb:(Value.slice x1 x2 x3).ownBlock=none\/(Value.slice x1 x2 x3).ownBlock≠some rb:=by
    cases hv:(Value.slice x1 x2 x3).ownBlock with
    | none=>exact .inl rfl
    | some m=>
     have:=hold m hv;have:=hlk.old;exact .inr (by simp;omega)
   have HNB:Hid ((Value.slice x1 x2 x3).ownBlock=none\/(Value.slice x1 x2 x3).ownBlock≠some rb):=hnrb;clear hres HR hown hold hnrb;cases h34:A7 s k 34 with
   | true=>
    have hS:=Y1 rb s k z 34 wr hlk.lies hs h34;have hk1:=(D6 h34).1;have HN:Hid (Ls.eXq (rest s i)=some (ws,rest s (k+1))):=Hres.out.trans (dXl h34);clear h34;go_wp2_with fail;refine hS.mono ?_;rintro e w2 ⟨rfl,hl2⟩;have hcv:=iQh (HO.out.kept hl2.grown HNB.out);go_wp2_with fail;go_ret;exact .inl ⟨ws,k+1,HN.out,by omega,by omega,rfl,(hlk.go hl2).left⟩
   | false=>
    have hS:=U6 rb s k z 34 wr hlk.lies hs (by omega) h34
    by_cases hok:k<s.size/\Q4 (nx s k)=true
    ·have HN:Hid (Ls.eXq (rest s i)=R3 (ws++[nx s k]) (rest s (k+1))):=Hres.out.trans (dXn hok.1 h34 hok.2)
     have hk1:=hok.1;have Hok:Hid (Q4 (nx s k)=true):=hok.2;clear h34 hok;go_wp2_with fail;refine hS.mono ?_;rintro e w2 ⟨rfl,hl2⟩;have hI2:=hlk.go hl2;have b2:=hI2.cell;clear b0;go_wp2_with fail;refine(dXj s hs z rb k w2 hI2.lies hk1 Hok.out).mono ?_;rintro e w3 ⟨rfl,hl3⟩;have hI3:=hI2.go hl3;have ho3:=HO.out.kept (hl2.trans hl3).grown HNB.out;have hoa:=ho3.alloc (.cells #[.int .u8 (nx s k).toNat] 5);have hcn:=aQt w3 (.int .u8 (nx s k).toNat) 5;obtain⟨q,hq,hq0,hq1,hqb⟩:=info_parts infoByte;have hz3:=(hl2.trans hl3).grown.size;clear ho3 b2;go_wp2_with (at_builtin;refine O3 _ rfl _ _ 105 rfl W0.heap.size 5 q _ 1 1 Tryz.underlying105 hq hq0 hq1 hqb rfl (by omega) (.slice x1 x2 x3) ws.length (aQf ws) rfl hoa ⟨w3.heap.size,0,none⟩ 1 1 [.int .u8 (nx s k).toNat] rfl ?l1 hcn ?l0 ?l2 ?l3 ?l4 ?l5 ?_)
     case l1=>rfl
     case l0=>intro u hu;simp at hu;subst hu;rfl
     case l2=>unfold maxLen;omega
     case l3=>omega
     case l4=>simp;omega
     case l5=>omega
     intro v' w' ho hg hvv;have hI7:=(hI3.below (A5 w3 (.cells #[.int .u8 (nx s k).toNat] 5))).own hg (fun m e=>by have:=(hoa.lt m e).1;omega);have hz7:=hg.size;simp at hz7;have HO7:Hid (w'.ownsRow W0.heap.size 5 1 v' (ws++[nx s k]).length (aQf (ws++[nx s k]))):=by
      show World.ownsRow _ _ _ _ _ _ _;rw[List.length_append,show aQf (ws++[nx s k])=aQf ws++[.int .u8 (nx s k).toNat] from by simp[aQf],hz0];exact ho
     go_wp2_with fail;go_roundw
     case rel=>exact⟨k+1,ws++[nx s k],by simp;omega,by omega,HN.out,hI7,by omega,HO7.out⟩
     case measure=>
      rw[hmes,aQd hI7.lies];omega
    ·have hw:k<s.size->Q4 (nx s k)=false:=fun hlt=>by
      cases hh:Q4 (nx s k) with
      | true=>exact absurd ⟨hlt,hh⟩ hok
      | false=>rfl
     have HN:Hid (Ls.eXq (rest s i)=.none):=Hres.out.trans (dXk h34 hw);have HW:Hid (k<s.size->Q4 (nx s k)=false):=hw;clear h34 hok hw;go_wp2_with fail;refine hS.mono ?_;rintro e w2 ⟨rfl,hl2⟩;have hI2:=hlk.go hl2;have b2:=hI2.cell;clear b0;go_wp2_with fail;refine(dXi s hs a1 z rb k w2 hI2.lies (hI2.env HE.out) hks HW.out).mono ?_;rintro e w3 ⟨rfl,hg⟩;go_wp2_with fail;exact⟨rfl,.inr ⟨HN.out,rfl,hI2.threw rfl hg⟩⟩
def Q8 (k:Nat):Nat:=if k=3 then 132 else if k=4 then 170 else 122
def M3 (k:Nat):Nat:=if k=7 then 149 else 165
def Blk (w:World)(g:Nat)(cs:Array Value)(T:TypeId):Prop:=w.heap[g]?=some (.cells cs T (0,0))
theorem Blk.lt {w:World}{g:Nat}{cs:Array Value}{T:TypeId}(h:Blk w g cs T):g<w.heap.size:=(Array.getElem?_eq_some_iff.1 h).1
theorem Blk.below {w w':World}{g B:Nat}{cs:Array Value}{T:TypeId}(h:Blk w g cs T)(hb:Below B w w')(hg:g<B):Blk w' g cs T:=by
 unfold Blk at h ⊢;rw[hb.block g hg];exact h
theorem Blk.of {w w':World}{g:Nat}{cs:Array Value}{T:TypeId}(h:Blk w g cs T)(he:w'.heap[g]?=w.heap[g]?):Blk w' g cs T:=by
 unfold Blk at h ⊢;rw[he];exact h
theorem Blk.cell {w:World}{g:Nat}{cs:Array Value}{T:TypeId}(h:Blk w g cs T)(j:Nat):w.cell? ⟨g,j,none⟩=cs[j]?:=by
 unfold Blk at h;simp[World.cell?,h]
theorem Blk.fr {w:World}{g:Nat}{cs:Array Value}{T:TypeId}(h:Blk w g cs T)(j:Nat):w.frozen? ⟨g,j,none⟩=false:=by
 unfold Blk at h;simp[World.frozen?,h]
theorem Blk.one {w:World}{g:Nat}{x:Value}{T:TypeId}(h:Blk w g #[x] T):w.cell? ⟨g,0,none⟩=some x/\w.frozen? ⟨g,0,none⟩=false:=⟨h.cell 0,h.fr 0⟩
theorem Blk.two {w:World}{g:Nat}{x y:Value}{T:TypeId}(h:Blk w g #[x,y] T):w.cell? ⟨g,0,none⟩=some x/\w.cell? ⟨g,1,none⟩=some y/\w.frozen? ⟨g,0,none⟩=false/\w.frozen? ⟨g,1,none⟩=false:=⟨h.cell 0,h.cell 1,h.fr 0,h.fr 1⟩
theorem Blk.new (w:World)(cs:Array Value)(T:TypeId):Blk (w.alloc (.cells cs T)) w.heap.size cs T:=heap_alloc_new _ _
def PlanV (w:World)(G:Nat->Prop):Ls.Ln->Value->Prop
 | ⟨k,d,ws,[]⟩,b=>
  (k=0/\∃g v,G g/\b=.func (.func 167) #[] #[.pointer (some ⟨g,0,none⟩)]/\Blk w g #[v] 89/\Rep w G 0 d [v])\/
  (k=1/\∃g h v,G g/\G h/\b=.func (.func 177) #[] #[.pointer (some ⟨g,0,none⟩),.pointer (some ⟨h,0,none⟩)]/\Blk w g #[v] 89/\Rep w G 0 d [v]/\Blk w h #[.string ⟨ws.toArray⟩] 9)\/
  (k=2/\∃g,G g/\b=.func (.func 179) #[] #[.pointer (some ⟨g,0,none⟩)]/\Blk w g #[.string ⟨ws.toArray⟩] 9)
 | ⟨k,_,_,[a]⟩,b=>(k=6\/k=7)/\∃(gj g n:Nat) (x:Value),G gj/\G g/\b=.func (.func 172) #[] #[.pointer (some ⟨gj,0,none⟩),.pointer (some ⟨g,0,none⟩)]/\Blk w gj #[.func (.func (M3 k)) #[] #[]] 215/\Blk w g #[.int .i64 n,x] 130/\PlanV w G a x
 | ⟨k,_,_,[a,c]⟩,b=>(k=3\/k=4\/k=5)/\∃(gj g h n m:Nat) (x y:Value),G gj/\G g/\G h/\b=.func (.func 133) #[] #[.pointer (some ⟨gj,0,none⟩),.pointer (some ⟨g,0,none⟩),.pointer (some ⟨h,0,none⟩)]/\
   Blk w gj #[.func (.func (Q8 k)) #[] #[]] 192/\Blk w g #[.int .i64 n,x] 130/\Blk w h #[.int .i64 m,y] 130/\PlanV w G a x/\PlanV w G c y
 | _,_=>False
theorem PlanV.mono {w w':World}{G G':Nat->Prop}(hG:∀k,G k->G' k)(hw:∀k,G k->w'.heap[k]?=w.heap[k]?):(l:Ls.Ln)->(b:Value)->PlanV w G l b->PlanV w' G' l b
 | ⟨k,d,ws,[]⟩,b,h=>by
  rw[PlanV]at h ⊢;rcases h with⟨hk,g,v,h1,h2,h3,h4⟩|⟨hk,g,g2,v,h1,h2,h3,h4,h5,h6⟩|⟨hk,g,h1,h2,h3⟩
  ·exact .inl ⟨hk,g,v,hG g h1,h2,h3.of (hw g h1),h4.mono hG hw⟩
  ·exact .inr (.inl ⟨hk,g,g2,v,hG g h1,hG g2 h2,h3,h4.of (hw g h1),h5.mono hG hw,h6.of (hw g2 h2)⟩)
  ·exact .inr (.inr ⟨hk,g,hG g h1,h2,h3.of (hw g h1)⟩)
 | ⟨k,d,ws,[a]⟩,b,h=>by
  rw[PlanV]at h ⊢;obtain⟨hk,gj,g,n,x,h0,h1,h2,h5,h3,h4⟩:=h;exact⟨hk,gj,g,n,x,hG gj h0,hG g h1,h2,h5.of (hw gj h0),h3.of (hw g h1),PlanV.mono hG hw a x h4⟩
 | ⟨k,d,ws,[a,c]⟩,b,h=>by
  rw[PlanV]at h ⊢;obtain⟨hk,gj,g,g2,n,m,x,y,h0,h1,h2,h3,h4,h5,h6,h7,h8⟩:=h;exact⟨hk,gj,g,g2,n,m,x,y,hG gj h0,hG g h1,hG g2 h2,h3,h4.of (hw gj h0),h5.of (hw g h1),h6.of (hw g2 h2),PlanV.mono hG hw a x h7,PlanV.mono hG hw c y h8⟩
 | ⟨k,d,ws,_::_::_::_⟩,b,h=>by simp[PlanV]at h
theorem PlanV.func {w:World}{G:Nat->Prop}:(l:Ls.Ln)->(b:Value)->PlanV w G l b->∃f caps,b=.func (.func f) #[] caps
 | ⟨k,d,ws,[]⟩,b,h=>by
  rw[PlanV]at h;rcases h with⟨hk,g,v,h1,h2,h3,h4⟩|⟨hk,g,g2,v,h1,h2,h3,h4,h5,h6⟩|⟨hk,g,h1,h2,h3⟩
  ·exact⟨_,_,h2⟩
  ·exact⟨_,_,h3⟩
  ·exact⟨_,_,h2⟩
 | ⟨k,d,ws,[a]⟩,b,h=>by
  rw[PlanV]at h;obtain⟨hk,gj,g,n,x,h0,h1,h2,h3,h4⟩:=h;exact⟨_,_,h2⟩
 | ⟨k,d,ws,[a,c]⟩,b,h=>by
  rw[PlanV]at h;obtain⟨hk,gj,g,g2,n,m,x,y,h0,h1,h2,h3,h4⟩:=h;exact⟨_,_,h3⟩
 | ⟨k,d,ws,_::_::_::_⟩,b,h=>by simp[PlanV]at h
theorem PlanV.later {w w':World}{G:Nat->Prop}{l:Ls.Ln}{b:Value}(h:PlanV w G l b)(hG:Old w G)(hb:Below w.heap.size w w'):PlanV w' G l b:=
 PlanV.mono (fun _ h=>h) (fun k hk=>hb.block k (hG k hk)) l b h
abbrev C5 (n:Nat)(b:Value):Value:=.agg #[.int .i64 n,b]
def bQ0 (w:World)(G:Nat->Prop)(n:Nat)(l:Ls.Ln):Ending->World->Prop:=fun e w'=>
 ∃f caps,e=.returned (C5 n (.func (.func f) #[] caps))/\PlanV w' (fun k=>G k\/(w.heap.size<=k/\k<w'.heap.size)) l (.func (.func f) #[] caps)/\Below w.heap.size w w'
theorem K6 (w:World)(g:Nat)(x y:Value)(k:Nat)(h:k≠g):((w.setCell ⟨g,0,none⟩ x).setCell ⟨g,1,none⟩ y).heap[k]?=w.heap[k]?:=by
 rw[Below.heap_setCell _ _ _ _ (by show k≠g;exact h),Below.heap_setCell _ _ _ _ (by show k≠g;exact h)]
theorem U5 (w:World)(g:Nat)(x y:Value):((w.setCell ⟨g,0,none⟩ x).setCell ⟨g,1,none⟩ y).heap.size=w.heap.size:=by simp[World.setCell]
theorem Z7 {w W:World}{g:Nat}(h:Below w.heap.size w W)(hg:w.heap.size<=g)(x y:Value):Below w.heap.size w ((W.setCell ⟨g,0,none⟩ x).setCell ⟨g,1,none⟩ y):=
 (h.setCell (p:=⟨g,0,none⟩) hg x).setCell (p:=⟨g,1,none⟩) hg y
theorem kQ7 (k:Nat)(hk:k=6\/k=7)(a:Ls.Ln)(n f:Nat)(caps:Array Value)(hn:n<=1048576)(w:World)(G:Nat->Prop)(hG:Old w G)(h:PlanV w G a (.func (.func f) #[] caps)) :
  Calls Tryz.prog 147 #[C5 n (.func (.func f) #[] caps),.func (.func (M3 k)) #[] #[]] w (bQ0 w G (n+1) ⟨k,Ls.rnil,[],[a]⟩):=by
 have hmf:∀(fn:Fn) (first cap:Array Value) (w:World),(Instr.makeFunc fn first cap).run Tryz.prog w=.ok (.func fn first cap) w:=fun _ _ _ _=>rfl;have hb0:Below w.heap.size w (((w.alloc (.cells #[.int .i64 n,.func (.func f) #[] caps] 130)).alloc (.cells #[.func (.func (M3 k)) #[] #[]] 215)).alloc (.cells #[.int .i64 (0:Nat),.nilFunc] 130)):=O5 w _ _ _;have hx:Blk (((w.alloc (.cells #[.int .i64 n,.func (.func f) #[] caps] 130)).alloc (.cells #[.func (.func (M3 k)) #[] #[]] 215)).alloc (.cells #[.int .i64 (0:Nat),.nilFunc] 130)) w.heap.size #[.int .i64 n,.func (.func f) #[] caps] 130:=((Blk.new w _ _).of (Below.heap_alloc _ _ _ (by simp))).of (Below.heap_alloc _ _ _ (by simp;omega));have hx2:Blk (((w.alloc (.cells #[.int .i64 n,.func (.func f) #[] caps] 130)).alloc (.cells #[.func (.func (M3 k)) #[] #[]] 215)).alloc (.cells #[.int .i64 (0:Nat),.nilFunc] 130)) (w.heap.size+1) #[.func (.func (M3 k)) #[] #[]] 215:=by
  have:=Blk.new (w.alloc (.cells #[.int .i64 n,.func (.func f) #[] caps] 130)) #[.func (.func (M3 k)) #[] #[]] 215;rw[World.size_alloc]at this;exact this.of (Below.heap_alloc _ _ _ (by simp))
 have hy:Blk (((w.alloc (.cells #[.int .i64 n,.func (.func f) #[] caps] 130)).alloc (.cells #[.func (.func (M3 k)) #[] #[]] 215)).alloc (.cells #[.int .i64 (0:Nat),.nilFunc] 130)) (w.heap.size+1+1) #[.int .i64 (0:Nat),.nilFunc] 130:=by
  have:=Blk.new ((w.alloc (.cells #[.int .i64 n,.func (.func f) #[] caps] 130)).alloc (.cells #[.func (.func (M3 k)) #[] #[]] 215)) #[.int .i64 (0:Nat),.nilFunc] 130;rw[World.size_alloc,World.size_alloc]at this;exact this
 have hz:(((w.alloc (.cells #[.int .i64 n,.func (.func f) #[] caps] 130)).alloc (.cells #[.func (.func (M3 k)) #[] #[]] 215)).alloc (.cells #[.int .i64 (0:Nat),.nilFunc] 130)).heap.size=w.heap.size+1+1+1:=by simp
 have HPL:Hid (PlanV w G a (.func (.func f) #[] caps)):=h;clear h;go_enter Tryz.func147,Tryz.ntmps147;go_upto_region 1 with (fail);generalize (((w.alloc (.cells #[.int .i64 n,.func (.func f) #[] caps] 130)).alloc (.cells #[.func (.func (M3 k)) #[] #[]] 215)).alloc (.cells #[.int .i64 (0:Nat),.nilFunc] 130))=W at *;have HP:Hid (bQ0 w G (n+1) ⟨k,Ls.rnil,[],[a]⟩ (.returned (C5 (n+1) (.func (.func 172) #[] #[.pointer (some ⟨(w.heap.size+1),0,none⟩),.pointer (some ⟨w.heap.size,0,none⟩)])))
   ((W.setCell ⟨w.heap.size+1+1,0,none⟩ (.int .i64 ((n+1:Nat):Int))).setCell ⟨w.heap.size+1+1,1,none⟩ (.func (.func 172) #[] #[.pointer (some ⟨(w.heap.size+1),0,none⟩),.pointer (some ⟨w.heap.size,0,none⟩)]))):=by
  refine⟨_,_,rfl,?_,Z7 hb0 (by omega) _ _⟩;rw[PlanV];refine⟨hk,w.heap.size+1,w.heap.size,n,.func (.func f) #[] caps,.inr ⟨by omega,by rw[U5,hz];omega⟩,.inr ⟨Nat.le_refl _,by rw[U5,hz];omega⟩,rfl,hx2.of (K6 _ _ _ _ _ (by omega)),hx.of (K6 _ _ _ _ _ (by omega)),PlanV.mono (fun j hj=>.inl hj) (fun j hj=>?_) _ _ HPL.out⟩;rw[K6 _ _ _ _ _ (by have:=hG j hj;omega)];exact hb0.block j (hG j hj)
 obtain⟨r0,r1,s0,s1⟩:=hy.two;obtain⟨x0,x1,y0,y1⟩:=hx.two;clear hx hy hb0 hx2;go_wp2_with fail;exact bodyPost_ret (v:=C5 (n+1) (.func (.func 172) #[] #[.pointer (some ⟨(w.heap.size+1),0,none⟩),.pointer (some ⟨w.heap.size,0,none⟩)])) (by simp[results,Tryz.results147,go_sem,r0,r1]) rfl HP.out
theorem jQ2 (k:Nat)(hk:k=3\/k=4\/k=5)(a c:Ls.Ln)(n m f g:Nat)(caps daps:Array Value)(hn:n<=1048576)(hm:m<=1048576)(w:World)(G:Nat->Prop)(hG:Old w G)(h:PlanV w G a (.func (.func f) #[] caps))(h':PlanV w G c (.func (.func g) #[] daps)) :
  Calls Tryz.prog 121 #[C5 n (.func (.func f) #[] caps),C5 m (.func (.func g) #[] daps),.func (.func (Q8 k)) #[] #[]] w (bQ0 w G (n+m) ⟨k,Ls.rnil,[],[a,c]⟩):=by
 have hmf:∀(fn:Fn) (first cap:Array Value) (w:World),(Instr.makeFunc fn first cap).run Tryz.prog w=.ok (.func fn first cap) w:=fun _ _ _ _=>rfl;have hb0:Below w.heap.size w ((((w.alloc (.cells #[.int .i64 n,.func (.func f) #[] caps] 130)).alloc (.cells #[.int .i64 m,.func (.func g) #[] daps] 130)).alloc (.cells #[.func (.func (Q8 k)) #[] #[]] 192)).alloc (.cells #[.int .i64 (0:Nat),.nilFunc] 130)):=(O5 w _ _ _).alloc (by simp;omega) _;have hx:Blk ((((w.alloc (.cells #[.int .i64 n,.func (.func f) #[] caps] 130)).alloc (.cells #[.int .i64 m,.func (.func g) #[] daps] 130)).alloc (.cells #[.func (.func (Q8 k)) #[] #[]] 192)).alloc (.cells #[.int .i64 (0:Nat),.nilFunc] 130)) w.heap.size #[.int .i64 n,.func (.func f) #[] caps] 130:=(((Blk.new w _ _).of (Below.heap_alloc _ _ _ (by simp))).of (Below.heap_alloc _ _ _ (by simp;omega))).of (Below.heap_alloc _ _ _ (by simp;omega));have hx2:Blk ((((w.alloc (.cells #[.int .i64 n,.func (.func f) #[] caps] 130)).alloc (.cells #[.int .i64 m,.func (.func g) #[] daps] 130)).alloc (.cells #[.func (.func (Q8 k)) #[] #[]] 192)).alloc (.cells #[.int .i64 (0:Nat),.nilFunc] 130)) (w.heap.size+1) #[.int .i64 m,.func (.func g) #[] daps] 130:=by
  have:=Blk.new (w.alloc (.cells #[.int .i64 n,.func (.func f) #[] caps] 130)) #[.int .i64 m,.func (.func g) #[] daps] 130;rw[World.size_alloc]at this;exact(this.of (Below.heap_alloc _ _ _ (by simp))).of (Below.heap_alloc _ _ _ (by simp))
 have hx3:Blk ((((w.alloc (.cells #[.int .i64 n,.func (.func f) #[] caps] 130)).alloc (.cells #[.int .i64 m,.func (.func g) #[] daps] 130)).alloc (.cells #[.func (.func (Q8 k)) #[] #[]] 192)).alloc (.cells #[.int .i64 (0:Nat),.nilFunc] 130)) (w.heap.size+1+1) #[.func (.func (Q8 k)) #[] #[]] 192:=by
  have:=Blk.new ((w.alloc (.cells #[.int .i64 n,.func (.func f) #[] caps] 130)).alloc (.cells #[.int .i64 m,.func (.func g) #[] daps] 130)) #[.func (.func (Q8 k)) #[] #[]] 192;rw[World.size_alloc,World.size_alloc]at this;exact this.of (Below.heap_alloc _ _ _ (by simp))
 have hy:Blk ((((w.alloc (.cells #[.int .i64 n,.func (.func f) #[] caps] 130)).alloc (.cells #[.int .i64 m,.func (.func g) #[] daps] 130)).alloc (.cells #[.func (.func (Q8 k)) #[] #[]] 192)).alloc (.cells #[.int .i64 (0:Nat),.nilFunc] 130)) (w.heap.size+1+1+1) #[.int .i64 (0:Nat),.nilFunc] 130:=by
  have:=Blk.new (((w.alloc (.cells #[.int .i64 n,.func (.func f) #[] caps] 130)).alloc (.cells #[.int .i64 m,.func (.func g) #[] daps] 130)).alloc (.cells #[.func (.func (Q8 k)) #[] #[]] 192)) #[.int .i64 (0:Nat),.nilFunc] 130;rw[World.size_alloc,World.size_alloc,World.size_alloc]at this;exact this
 have hz:((((w.alloc (.cells #[.int .i64 n,.func (.func f) #[] caps] 130)).alloc (.cells #[.int .i64 m,.func (.func g) #[] daps] 130)).alloc (.cells #[.func (.func (Q8 k)) #[] #[]] 192)).alloc (.cells #[.int .i64 (0:Nat),.nilFunc] 130)).heap.size=w.heap.size+1+1+1+1:=by simp
 have HPL:Hid (PlanV w G a (.func (.func f) #[] caps)/\PlanV w G c (.func (.func g) #[] daps)):=⟨h,h'⟩;clear h h';go_enter Tryz.func121,Tryz.ntmps121;go_upto_region 1 with (fail);generalize ((((w.alloc (.cells #[.int .i64 n,.func (.func f) #[] caps] 130)).alloc (.cells #[.int .i64 m,.func (.func g) #[] daps] 130)).alloc (.cells #[.func (.func (Q8 k)) #[] #[]] 192)).alloc (.cells #[.int .i64 (0:Nat),.nilFunc] 130))=W at *;have HP:Hid (bQ0 w G (n+m) ⟨k,Ls.rnil,[],[a,c]⟩ (.returned (C5 (n+m) (.func (.func 133) #[] #[.pointer (some ⟨w.heap.size+1+1,0,none⟩),.pointer (some ⟨w.heap.size,0,none⟩),.pointer (some ⟨w.heap.size+1,0,none⟩)])))
   ((W.setCell ⟨w.heap.size+1+1+1,0,none⟩ (.int .i64 ((n+m:Nat):Int))).setCell ⟨w.heap.size+1+1+1,1,none⟩ (.func (.func 133) #[] #[.pointer (some ⟨w.heap.size+1+1,0,none⟩),.pointer (some ⟨w.heap.size,0,none⟩),.pointer (some ⟨w.heap.size+1,0,none⟩)]))):=by
  refine⟨_,_,rfl,?_,Z7 hb0 (by omega) _ _⟩;have hin:∀j,w.heap.size<=j->j<w.heap.size+1+1+1->G j\/(w.heap.size<=j/\j<((W.setCell ⟨w.heap.size+1+1+1,0,none⟩ (.int .i64 ((n+m:Nat):Int))).setCell ⟨w.heap.size+1+1+1,1,none⟩ (.func (.func 133) #[] #[.pointer (some ⟨w.heap.size+1+1,0,none⟩),.pointer (some ⟨w.heap.size,0,none⟩),.pointer (some ⟨w.heap.size+1,0,none⟩)])).heap.size):=fun j h1 h2=>.inr ⟨h1,by rw[U5,hz];omega⟩;have hmo:∀j,G j->((W.setCell ⟨w.heap.size+1+1+1,0,none⟩ (.int .i64 ((n+m:Nat):Int))).setCell ⟨w.heap.size+1+1+1,1,none⟩ (.func (.func 133) #[] #[.pointer (some ⟨w.heap.size+1+1,0,none⟩),.pointer (some ⟨w.heap.size,0,none⟩),.pointer (some ⟨w.heap.size+1,0,none⟩)])).heap[j]?=w.heap[j]?:=fun j hj=>by
   rw[K6 _ _ _ _ _ (by have:=hG j hj;omega)];exact hb0.block j (hG j hj)
  rw[PlanV];exact⟨hk,w.heap.size+1+1,w.heap.size,w.heap.size+1,n,m,_,_,hin _ (by omega) (by omega),hin _ (by omega) (by omega),hin _ (by omega) (by omega),rfl,hx3.of (K6 _ _ _ _ _ (by omega)),hx.of (K6 _ _ _ _ _ (by omega)),hx2.of (K6 _ _ _ _ _ (by omega)),PlanV.mono (fun j hj=>.inl hj) hmo _ _ HPL.out.1,PlanV.mono (fun j hj=>.inl hj) hmo _ _ HPL.out.2⟩
 obtain⟨r0,r1,s0,s1⟩:=hy.two;obtain⟨x0,x1,y0,y1⟩:=hx.two;obtain⟨u0,u1,v0,v1⟩:=hx2.two;clear hx hy hb0 hx2 hx3;go_wp2_with fail;exact bodyPost_ret (v:=C5 (n+m) (.func (.func 133) #[] #[.pointer (some ⟨w.heap.size+1+1,0,none⟩),.pointer (some ⟨w.heap.size,0,none⟩),.pointer (some ⟨w.heap.size+1,0,none⟩)])) (by simp[results,Tryz.results121,go_sem,r0,r1]) rfl HP.out
def PlPost (w:World)(rb:Nat)(s:ByteArray)(i z:Nat)(a1:Addr)(res:Ls.Rl):Ending->World->Prop:=fun e w'=>
 (∃l j f caps,res=some (l,rest s j)/\i+Ls.dXw l<=j/\j<=s.size/\e=.returned (C5 (Ls.dXw l) (.func (.func f) #[] caps))/\PlanV w' (B8 w w') l (.func (.func f) #[] caps)/\RLeft w rb s j z w')\/
 (res=.none/\J7 w rb a1 e w')
structure Inp (w:World)(rb:Nat)(s:ByteArray)(at_ dep:Nat)(w':World):Prop where
 inn:In 167 w rb s at_ dep w'
 res:Blk w' (w.heap.size+1) #[.int .i64 (0:Nat),.nilFunc] 130
abbrev I0 (w:World)(rb:Nat):World:=(w.alloc (G7 167 rb)).alloc (.cells #[.int .i64 (0:Nat),.nilFunc] 130)
section
variable {w w1 w2:World} {rb:Nat} {s:ByteArray} {a z a' z':Nat}
theorem Inp.enter (h:RB w rb s a z):Inp w rb s a z (I0 w rb):=by
 refine⟨(In.enter _ h).below (A5 _ _),?_⟩;have:=Blk.new (w.alloc (G7 167 rb)) #[.int .i64 (0:Nat),.nilFunc] 130;rw[World.size_alloc]at this;exact this
theorem Inp.go (h:Inp w rb s a z w1)(k:RLeft w1 rb s a' z' w2):Inp w rb s a' z' w2:=
 ⟨h.inn.go k,h.res.of (k.grown.block _ h.res.lt (by have:=h.inn.old;simp;omega))⟩
theorem Inp.below (h:Inp w rb s a z w1)(hb:Below w1.heap.size w1 w2):Inp w rb s a z w2:=⟨h.inn.below hb,h.res.below hb h.res.lt⟩
theorem Inp.lies (h:Inp w rb s a z w1):RB w1 rb s a z:=h.inn.lies
theorem Inp.cell (h:Inp w rb s a z w1):w1.cell? ⟨w.heap.size,0,none⟩=some (.pointer (some ⟨rb,0,none⟩)):=h.inn.cell
theorem Inp.env (h:Inp w rb s a z w1){a1:Addr}(hE:Env w rb a1):Env w1 rb a1:=h.inn.env hE
theorem Inp.threw (h:Inp w rb s a z w1){r:Option Nat}(hr:r=some rb)(hg:w1.grownBy w2 r):w.grownBy w2 (some rb):=h.inn.threw hr hg
theorem Inp.size (h:Inp w rb s a z w1):w.heap.size+1<w1.heap.size:=h.res.lt
theorem Inp.ret (h:Inp w rb s a z w1){i:Nat}{a1:Addr}{rs:Ls.Rl}{l:Ls.Ln}{f:Nat}{caps:Array Value}(hr:rs=some (l,rest s a))(hsz:i+Ls.dXw l<=a)(ha:a<=s.size)
  (hp:PlanV w1 (fun k=>w.heap.size+1<k/\k<w1.heap.size) l (.func (.func f) #[] caps)) :
  PlPost w rb s i z a1 rs (.returned (C5 (Ls.dXw l) (.func (.func f) #[] caps))) ((w1.setCell ⟨w.heap.size+1,0,none⟩ (.int .i64 (Ls.dXw l))).setCell ⟨w.heap.size+1,1,none⟩ (.func (.func f) #[] caps)):=by
 refine .inl ⟨l,a,f,caps,hr,hsz,ha,rfl,PlanV.mono (fun _ hk=>⟨by omega,by rw[U5];exact hk.2⟩) (fun _ hk=>K6 _ _ _ _ _ (by omega)) _ _ hp,h.inn.left.res2 (by omega) h.inn.old _ _⟩
end
theorem mQm {z:Nat}{r:List UInt8}{d:Ls.D}{u:List UInt8}(h:Ls.dX8 (Ls.pat z) r=some (d,u)):dn d<=4*r.length+2/\Ls.dsize d+u.length<=r.length:=by
 unfold Ls.dX8 at h;split at h
 ·cases h
 ·rename_i d' t hp
  split at h
  ·rename_i h47
   simp at h;obtain⟨rfl,rfl⟩:=h;have h1:=gQ5 _ _ _ _ hp;have h2:=Ls.fX9 _ _ _ _ hp;have h3:=Ls.eXg h47;omega
  ·cases h
def X0 (P:List UInt8->Ls.Rd)(r:List UInt8):Ls.Rl:=
 match Ls.dX8 P r with
 | .none=>.none
 | some (d,u)=>some (Ls.eXh d,u)
theorem yQp (s:ByteArray)(hs:s.size<=120)(a1:Addr)(z:Nat)(hz:z<=12)(rb i:Nat)(w:World)(h:RB w rb s i z)(hE:Env w rb a1)(hi:i<=s.size) :
  Calls Tryz.prog 145 #[D2 rb] w (PlPost w rb s i z a1 (X0 (Ls.pat (13-z)) (rest s i))):=by
 have hmf:∀(fn:Fn) (first cap:Array Value) (w:World),(Instr.makeFunc fn first cap).run Tryz.prog w=.ok (.func fn first cap) w:=fun _ _ _ _=>rfl;have HI0:Hid (Inp w rb s i z (I0 w rb)):=Inp.enter h;have hC:=lQl s (by omega) a1 z hz rb i _ HI0.out.lies (HI0.out.env hE) hi;have hz0:(I0 w rb).heap.size=w.heap.size+1+1:=by simp
 go_enter Tryz.func145,Tryz.ntmps145;go_wp2_with fail;refine hC.mono ?_;clear hC;generalize I0 w rb=W0 at *;rintro e w1 (⟨d,j,v,hr,hij,hj,rfl,hrep,hl⟩|⟨hr,rfl,hg⟩)
 ·have hI1:=HI0.out.go hl
  obtain⟨ty,x,rfl⟩:=hrep.iface;have hfew:=mQm hr;rw[E7,E7]at hfew;have HR:Hid (X0 (Ls.pat (13-z)) (rest s i)=some (Ls.eXh d,rest s j)):=by
   show _=_;unfold X0;rw[hr]
  have hb2:=A5 w1 (.cells #[.iface ty x] 89);have hx2:=Blk.new w1 #[.iface ty x] 89;have hz2:(w1.alloc (.cells #[.iface ty x] 89)).heap.size=w1.heap.size+1:=by simp
  have hI2:=hI1.below hb2;have hrep2:Rep (w1.alloc (.cells #[.iface ty x] 89)) (B8 W0 (w1.alloc (.cells #[.iface ty x] 89))) 0 d [.iface ty x]:=hrep.mono (fun k hk=>⟨hk.1,by have:=hk.2;omega⟩) (fun k hk=>hb2.block k hk.2);have hzl:=hl.grown.size;clear hr hrep hb2;go_upto_region 2 with (fail);generalize w1.alloc (.cells #[.iface ty x] 89)=w2 at *;obtain⟨q0,q1⟩:=hx2.one;obtain⟨f,hm,hcf,hf⟩:=hQn (dn d) d (Nat.le_refl _) (by omega) (by omega) w2 (B8 W0 w2) ty x (fun k hk=>hk.2) hrep2;have HX2:Hid (Blk w2 w1.heap.size #[.iface ty x] 89):=hx2;have HREP:Hid (Rep w2 (B8 W0 w2) 0 d [.iface ty x]):=hrep2;have HI2:Hid (Inp w rb s j z w2):=hI2;clear hx2 hrep2 hI2 hI1;go_wp2_with fail;refine hf.mono ?_;rintro e w3 ⟨rfl,hb3⟩;have hI3:=HI2.out.below hb3;obtain⟨r0,r1,s0,s1⟩:=hI3.res.two;have hz3:=hb3.size;have HP:Hid (PlPost w rb s i z a1 (X0 (Ls.pat (13-z)) (rest s i)) (.returned (C5 (Ls.dsize d) (.func (.func 167) #[] #[.pointer (some ⟨w1.heap.size,0,none⟩)]))) ((w3.setCell ⟨w.heap.size+1,0,none⟩ (.int .i64 (Ls.dsize d))).setCell ⟨w.heap.size+1,1,none⟩ (.func (.func 167) #[] #[.pointer (some ⟨w1.heap.size,0,none⟩)]))):=by
   have:=hI3.ret (i:=i) (a1:=a1) (l:=Ls.eXh d) (f:=167) (caps:=#[.pointer (some ⟨w1.heap.size,0,none⟩)]) HR.out (by rw[Ls.gXu];omega) hj (by
    unfold Ls.eXh;rw[PlanV];exact .inl ⟨rfl,w1.heap.size,.iface ty x,⟨by omega,by omega⟩,rfl,HX2.out.of (hb3.block _ (by omega)),HREP.out.mono (fun k hk=>⟨by have:=hk.1;omega,by have:=hk.2;omega⟩) (fun k hk=>hb3.block k hk.2)⟩)
   rw[Ls.gXu]at this;exact this
  clear hf;go_wp2_with fail;exact bodyPost_ret (v:=C5 (Ls.dsize d) (.func (.func 167) #[] #[.pointer (some ⟨w1.heap.size,0,none⟩)])) (by simp[results,Tryz.results145,go_sem,r0,r1]) rfl HP.out
 ·have HN:Hid (X0 (Ls.pat (13-z)) (rest s i)=.none):=by
   show _=_;unfold X0;rw[hr]
  go_wp2_with fail;exact⟨rfl,.inr ⟨HN.out,rfl,HI0.out.threw rfl hg⟩⟩
def Z5 (r:List UInt8):Ls.Rl:=
 match Ls.eXq r with
 | .none=>.none
 | some (ws,u)=>some (Ls.hXb ws,u)
theorem yQ8 (s:ByteArray)(hs:s.size<=120)(a1:Addr)(z rb i:Nat)(w:World)(h:RB w rb s i z)(hE:Env w rb a1)(hi:i<=s.size) :
  Calls Tryz.prog 151 #[D2 rb] w (PlPost w rb s i z a1 (Z5 (rest s i))):=by
 have hmf:∀(fn:Fn) (first cap:Array Value) (w:World),(Instr.makeFunc fn first cap).run Tryz.prog w=.ok (.func fn first cap) w:=fun _ _ _ _=>rfl;have HI0:Hid (Inp w rb s i z (I0 w rb)):=Inp.enter h;have hC:=lQv s (by omega) a1 z rb i _ HI0.out.lies (HI0.out.env hE) hi;have hz0:(I0 w rb).heap.size=w.heap.size+1+1:=by simp
 go_enter Tryz.func151,Tryz.ntmps151;go_wp2_with fail;refine hC.mono ?_;clear hC;generalize I0 w rb=W0 at *;rintro e w1 (⟨ws,j,hr,hij,hj,rfl,hl⟩|⟨hr,rfl,hg⟩)
 ·have hI1:=HI0.out.go hl
  have HR:Hid (Z5 (rest s i)=some (Ls.hXb ws,rest s j)):=by
   show _=_;unfold Z5;rw[hr]
  have hb2:=A5 w1 (.cells #[.string ⟨ws.toArray⟩] 9);have hx2:=Blk.new w1 #[.string ⟨ws.toArray⟩] 9;have hz2:(w1.alloc (.cells #[.string ⟨ws.toArray⟩] 9)).heap.size=w1.heap.size+1:=by simp
  have hI2:=hI1.below hb2;have hzl:=hl.grown.size;clear hr hb2;go_upto_region 2 with (fail);generalize w1.alloc (.cells #[.string ⟨ws.toArray⟩] 9)=w2 at *;obtain⟨q0,q1⟩:=hx2.one;obtain⟨r0,r1,s0,s1⟩:=hI2.res.two;have HP:Hid (PlPost w rb s i z a1 (Z5 (rest s i)) (.returned (C5 ws.length (.func (.func 179) #[] #[.pointer (some ⟨w1.heap.size,0,none⟩)]))) ((w2.setCell ⟨w.heap.size+1,0,none⟩ (.int .i64 ws.length)).setCell ⟨w.heap.size+1,1,none⟩ (.func (.func 179) #[] #[.pointer (some ⟨w1.heap.size,0,none⟩)]))):=by
   have:=hI2.ret (i:=i) (a1:=a1) (l:=Ls.hXb ws) (f:=179) (caps:=#[.pointer (some ⟨w1.heap.size,0,none⟩)]) HR.out (by rw[Ls.hXh];omega) hj (by
    unfold Ls.hXb;rw[PlanV];exact .inr (.inr ⟨rfl,w1.heap.size,⟨by omega,by omega⟩,rfl,hx2⟩))
   rw[Ls.hXh]at this;exact this
  have hsz:(ByteArray.mk ws.toArray).size=ws.length:=by simp[ByteArray.size]
  clear hx2 hI2 hI1;go_wp2_with fail;exact bodyPost_ret (v:=C5 ws.length (.func (.func 179) #[] #[.pointer (some ⟨w1.heap.size,0,none⟩)])) (by simp[results,Tryz.results151,go_sem,r0,r1]) rfl HP.out
 ·have HN:Hid (Z5 (rest s i)=.none):=by
   show _=_;unfold Z5;rw[hr]
  go_wp2_with fail;exact⟨rfl,.inr ⟨HN.out,rfl,HI0.out.threw rfl hg⟩⟩
end Go.Proofs.YtfklinjaajafgaaGreatDoor
