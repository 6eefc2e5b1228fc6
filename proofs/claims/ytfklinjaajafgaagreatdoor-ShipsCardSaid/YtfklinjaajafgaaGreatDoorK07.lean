import Derived.Test.YtfklinjaajafgaaGreatDoorK06
import Derived.Deep.AppendLies
set_option maxRecDepth 100000
set_option maxHeartbeats 4000000
namespace Go.Proofs.YtfklinjaajafgaaGreatDoor
open Go.RowKit
def Each (w:World)(G:Nat->Prop):List Ls.D->List Value->Prop
 | [],[]=>True
 | a::l,x::vs=>Rep w G 0 a [x]/\Each w G l vs
 | _,_=>False
section
variable {w:World} {G:Nat->Prop}
theorem Each.nil:Each w G [] []:=trivial
theorem Each.cons {a:Ls.D}{x:Value}{l:List Ls.D}{vs:List Value}(h:Rep w G 0 a [x])(hs:Each w G l vs):Each w G (a::l) (x::vs):=⟨h,hs⟩
theorem Each.ind {motive:(l:List Ls.D)->(vs:List Value)->Each w G l vs->Prop}(nil:motive [] [] .nil)
  (cons:∀{a:Ls.D} {x:Value} {l:List Ls.D} {vs:List Value} (h:Rep w G 0 a [x]) (hs:Each w G l vs),motive l vs hs->motive (a::l) (x::vs) (.cons h hs))
  {l:List Ls.D} {vs:List Value} (h:Each w G l vs):motive l vs h:=by
 have key:∀(l:List Ls.D) (vs:List Value) (h:Each w G l vs),motive l vs h:=by
  intro l;induction l with
  | nil=>
   intro vs h;cases vs with
   | nil=>exact nil
   | cons=>exact h.elim
  | cons a l ih=>
   intro vs h;cases vs with
   | nil=>exact h.elim
   | cons x vs=>exact cons h.1 h.2 (ih vs h.2)
 exact key l vs h
end
theorem Each.mono {w w':World}{G G':Nat->Prop}(hG:∀k,G k->G' k)(hw:∀k,G k->w'.heap[k]?=w.heap[k]?){l:List Ls.D}{vs:List Value}(h:Each w G l vs):Each w' G' l vs:=by
 induction h using Each.ind with
 | nil=>exact .nil
 | cons hr _ ih=>exact .cons (hr.mono hG hw) ih
theorem Each.snoc {w:World}{G:Nat->Prop}{l:List Ls.D}{vs:List Value}{a:Ls.D}{x:Value}(h:Each w G l vs)(hr:Rep w G 0 a [x]):Each w G (l++[a]) (vs++[x]):=by
 induction h using Each.ind with
 | nil=>exact .cons hr .nil
 | cons h1 _ ih=>exact .cons h1 ih
theorem Each.length {w:World}{G:Nat->Prop}{l:List Ls.D}{vs:List Value}(h:Each w G l vs):vs.length=l.length:=by
 induction h using Each.ind with
 | nil=>rfl
 | cons _ _ ih=>simp[ih]
def F0:List Ls.D->Ls.D
 | []=>Ls.rnil
 | [a]=>Ls.clast a
 | a::b::l=>Ls.ccons a (F0 (b::l))
theorem rQf (l:List Ls.D)(a:Ls.D):F0 (l++[a])=l.foldr Ls.ccons (Ls.clast a):=by
 induction l with
 | nil=>rfl
 | cons b l ih=>
  cases l with
  | nil=>rfl
  | cons c l=>simp only[List.cons_append,F0,List.foldr_cons]at ih ⊢;rw[ih]
theorem Each.row {w:World}{G:Nat->Prop}{l:List Ls.D}{vs:List Value}(h:Each w G l vs):Rep w G 1 (l.foldr Ls.rcons Ls.rnil) vs:=by
 induction h using Each.ind with
 | nil=>exact .rnil
 | cons hr _ ih=>exact .rcons hr ih
theorem Each.chain {w:World}{G:Nat->Prop}{l:List Ls.D}{vs:List Value}(h:Each w G l vs)(hl:l≠[]):Rep w G 2 (F0 l) vs:=by
 induction h using Each.ind with
 | nil=>exact absurd rfl hl
 | cons hr h2 ih=>
  cases h2 using Each.ind with
  | nil=>exact .clast hr
  | cons h3 h4=>exact .ccons hr (ih (by simp))
def R4 (w0 w:World)(v:Value):Nat->Prop:=fun k=>w0.heap.size<=k/\k<w.heap.size/\some k≠v.ownBlock
structure Parts (w0 w:World)(v:Value)(l:List Ls.D)(vs:List Value):Prop where
 own:w.ownsRow w0.heap.size 89 1 v vs.length vs
 each:Each w (R4 w0 w v) l vs
theorem Parts.nil (w0 w:World):Parts w0 w (.slice none 0 0) [] []:=⟨World.ownsRow_nil _ _ _ _,.nil⟩
theorem Parts.kept {w0 w w':World}{v:Value}{l:List Ls.D}{vs:List Value}{rb:Nat}(h:Parts w0 w v l vs)(hg:w.grownBy w' (some rb))(hr:rb<w0.heap.size):Parts w0 w' v l vs:=by
 refine⟨h.own.kept hg ?_,h.each.mono (fun k hk=>⟨hk.1,Nat.lt_of_lt_of_le hk.2.1 hg.size,hk.2.2⟩) (fun k hk=>hg.block k hk.2.1 (by have:=hk.1;simp;omega))⟩;cases hv:v.ownBlock with
 | none=>exact .inl rfl
 | some k=>
  have:=h.own.lt k hv;exact .inr (by simp;omega)
theorem Parts.fits {w0 w w':World}{v:Value}{l:List Ls.D}{vs:List Value}(h:Parts w0 w v l vs)(hw:w0.heap.size<=w.heap.size){a:Ls.D}{x:Value}(hx:Rep w' (B8 w w') 0 a [x]):Rep w' (R4 w0 w' v) 0 a [x]:=by
 refine hx.mono (fun k hk=>⟨Nat.le_trans hw hk.1,hk.2,fun e=>?_⟩) (fun _ _=>rfl);have:=h.own.lt k e.symm;have:=hk.1;omega
theorem Parts.push {w0 w w':World}{v v':Value}{l:List Ls.D}{vs:List Value}(h:Parts w0 w v l vs){a:Ls.D}{x:Value}(hx:Rep w (R4 w0 w v) 0 a [x])(hg:w.grownBy w' v.ownBlock)
  (ho:w'.ownsRow w0.heap.size 89 1 v' (vs.length+1) (vs++[x])) (hv:v'.ownBlock=v.ownBlock\/∃k,v'.ownBlock=some k/\w.heap.size<=k):Parts w0 w' v' (l++[a]) (vs++[x]):=by
 refine⟨by rw[List.length_append];exact ho,(h.each.snoc hx).mono (fun k hk=>⟨hk.1,Nat.lt_of_lt_of_le hk.2.1 hg.size,?_⟩) (fun k hk=>hg.block k hk.2.1 hk.2.2)⟩;rcases hv with e|⟨m,e,hm⟩
 ·rw[e];exact hk.2.2
 ·rw[e];have:=hk.2.1;simp;omega
theorem Parts.alloc {w0 w:World}{v:Value}{l:List Ls.D}{vs:List Value}(h:Parts w0 w v l vs)(o:Obj):Parts w0 (w.alloc o) v l vs:=
 ⟨h.own.alloc o,h.each.mono (fun k hk=>⟨hk.1,by have:=hk.2.1;simp;omega,hk.2.2⟩) (fun k hk=>Below.heap_alloc _ _ _ hk.2.1)⟩
theorem RLeft.own {w w1 w2:World}{rb:Nat}{s:ByteArray}{a z:Nat}(h:RLeft w rb s a z w1)(hr:rb<w.heap.size){r:Option Nat}(hg:w1.grownBy w2 r)(hk:∀k,r=some k->w.heap.size<=k):RLeft w rb s a z w2:=by
 have hl:=h.lies;have hlt:=hl.lt;refine⟨?_,hg.os.trans h.grown.os,hg.tape.trans h.grown.tape,hg.output.trans h.grown.output,Nat.le_trans h.grown.size hg.size,fun k hk1 hk2=>?_⟩
 ·unfold RB at hl ⊢
  rw[hg.block rb hlt (fun e=>by have:=hk rb e.symm;omega)];exact hl
 ·rw[hg.block k (Nat.lt_of_lt_of_le hk1 h.grown.size) (fun e=>by have:=hk k e.symm;omega)]
  exact h.grown.block k hk1 hk2
theorem Parts.shows {w0 w:World}{v:Value}{l:List Ls.D}{vs:List Value}(h:Parts w0 w v l vs):Shows w (B8 w0 w) v vs/\Each w (B8 w0 w) l vs:=by
 refine⟨⟨⟨h.own.1,?_⟩,fun k hk=>h.own.lt k hk⟩,h.each.mono (fun k hk=>⟨hk.1,hk.2.1⟩) (fun _ _=>rfl)⟩;rcases h.own.2 with h2|⟨g,cap,cur,hv,hbg,h3⟩
 ·exact .inl h2
 ·exact .inr ⟨g,cap,cur,hv,Nat.zero_le _,h3⟩
theorem Parts.slice {w0 w:World}{v:Value}{l:List Ls.D}{vs:List Value}(h:Parts w0 w v l vs):∃a n c,v=.slice a n c:=by
 rcases h.own.2 with⟨h2,_⟩|⟨g,cap,cur,hv,hbg,h3⟩
 ·exact⟨_,_,_,h2⟩
 ·exact⟨_,_,_,hv⟩
theorem gQe:(Tryz.prog.info? 89).map (fun i=>(i.zero,i.size,i.bytes))=some (some .nilIface,1,16):=by kernel_rfl
theorem aQt (w:World)(x:Value)(t:TypeId):∀j u,[x][j]?=some u->(w.alloc (.cells #[x] t)).cell? ((⟨w.heap.size,0,none⟩:Addr).add j)=some u:=by
 intro j u hu;match j,hu with
 | 0,hu=>
  simp at hu;subst hu;have h:=heap_alloc_new w (.cells #[x] t);show World.cell? _ ⟨w.heap.size,0,none⟩=_;unfold World.cell?;rw[h];rfl
def P0 (P:List UInt8->Ls.Rd)(n:Nat)(l:List Ls.D)(r:List UInt8):Ls.Rd:=
 match Ls.things P n r with
 | .none=>.none
 | some (b,t)=>some (l.foldr Ls.rcons b,t)
theorem aXy (P:List UInt8->Ls.Rd)(n:Nat)(r:List UInt8):P0 P n [] r=Ls.things P n r:=by
 unfold P0;split
 ·rename_i h;rw[h]
 ·rename_i h;rw[h];rfl
theorem aX0 {P:List UInt8->Ls.Rd}{n:Nat}{l:List Ls.D}{r:List UInt8}(hs:Ls.gXc r=true):P0 P (n+1) l r=some (l.foldr Ls.rcons Ls.rnil,r):=by
 unfold P0;rw[Ls.things,if_pos hs]
theorem aXz {P:List UInt8->Ls.Rd}{n:Nat}{l:List Ls.D}{r t:List UInt8}{a:Ls.D}(hs:Ls.gXc r=false)(ht:Ls.fXe P r=some (a,t)):P0 P (n+1) l r=P0 P n (l++[a]) t:=by
 unfold P0;rw[Ls.things,if_neg (by rw[hs];simp),ht];dsimp only
 cases h:Ls.things P n t with
 | none=>rfl
 | some q=>obtain⟨b,u⟩:=q;simp
theorem aXx {P:List UInt8->Ls.Rd}{n:Nat}{l:List Ls.D}{r:List UInt8}(hs:Ls.gXc r=false)(ho:Ls.dX5 P r=.none):P0 P n l r=.none:=by
 unfold P0;cases n with
 | zero=>rfl
 | succ n=>
  have:Ls.fXe P r=.none:=by rw[Ls.fXe,ho]
  rw[Ls.things,if_neg (by rw[hs];simp),this]
theorem bXr {s:ByteArray}{k:Nat}(hk:k<s.size):([124,41,47]:List UInt8).any (A7 s k)=Ls.gXc (rest s k):=by
 rw[D3 hk];simp[A7,hk,Ls.gXc,Bool.or_assoc]
theorem bXp {s:ByteArray}{k:Nat}(hk:s.size<=k):Ls.gXc (rest s k)=true:=by
 rw[N8 hk];rfl
def O6 (P:List UInt8->Ls.Rd)(n:Nat)(l:List Ls.D)(t:List UInt8):Ls.Rd:=
 if t.head?=some 124 then
  match Ls.alts P n t.tail with
  | .none=>.none
  | some (b,u)=>some (l.foldr Ls.ccons b,u)
 else some (F0 l,t)
theorem iQc {P:List UInt8->Ls.Rd}{n:Nat}{r t:List UInt8}{a:Ls.D}(h:Ls.things P (r.length+1) r=some (a,t)):Ls.alts P (n+1) r=O6 P n [a] t:=by
 unfold O6;rw[Ls.alts,h];dsimp only
 by_cases h124:t.head?=some 124
 ·rw[if_pos h124,if_pos h124]
  cases h3:Ls.alts P n t.tail with
  | none=>rfl
  | some q=>obtain⟨b,u⟩:=q;rfl
 ·rw[if_neg h124,if_neg h124];rfl
theorem hQ9 {P:List UInt8->Ls.Rd}{n:Nat}{r:List UInt8}(h:Ls.things P (r.length+1) r=.none):Ls.alts P n r=.none:=by
 cases n with
 | zero=>rfl
 | succ n=>rw[Ls.alts,h]
theorem rQl {P:List UInt8->Ls.Rd}{n:Nat}{l:List Ls.D}{t u:List UInt8}{a:Ls.D}(h124:t.head?=some 124)(h:Ls.things P (t.tail.length+1) t.tail=some (a,u)):O6 P (n+1) l t=O6 P n (l++[a]) u:=by
 have h1:O6 P (n+1) l t=match Ls.alts P (n+1) t.tail with|.none=>.none|some (b,u)=>some (l.foldr Ls.ccons b,u):=by unfold O6;rw[if_pos h124]
 rw[h1,iQc h];unfold O6
 by_cases h2:u.head?=some 124
 ·rw[if_pos h2,if_pos h2]
  cases h3:Ls.alts P n u.tail with
  | none=>rfl
  | some q=>obtain⟨b,v⟩:=q;simp
 ·rw[if_neg h2,if_neg h2,rQf];rfl
theorem rQj {P:List UInt8->Ls.Rd}{n:Nat}{l:List Ls.D}{t:List UInt8}(h124:t.head?=some 124)(h:Ls.things P (t.tail.length+1) t.tail=.none):O6 P n l t=.none:=by
 unfold O6;rw[if_pos h124,hQ9 h]
theorem rQk {P:List UInt8->Ls.Rd}{n:Nat}{l:List Ls.D}{t:List UInt8}(h124:t.head?≠some 124):O6 P n l t=some (F0 l,t):=by
 unfold O6;rw[if_neg h124]
def fQk (s:ByteArray)(a1:Addr)(z:Nat):Prop:=∀(rb i:Nat) (w:World),RB w rb s i z->Env w rb a1->i<=s.size->
 Calls Tryz.prog 127 #[D2 rb] w (RPost w rb s i z a1 (Ls.things (Ls.pat (12-z)) ((rest s i).length+1) (rest s i)))
theorem bQl (rb:Nat)(s:ByteArray)(i z:Nat)(w:World)(h:RB w rb s i z)(hs:s.size<=1048576)(hi:i<=1048577)(b:Bool)(hb:decide (s.size<=i)=b) :
  Calls Tryz.prog 102 #[.pointer (some ⟨rb,0,none⟩)] w fun e w'=>e=.returned (.bool b)/\RLeft w rb s i z w':=by
 subst hb;refine(dQv rb s i z w h hs hi).mono ?_;rintro e w1 ⟨rfl,n,rfl⟩;exact⟨rfl,RLeft.of_below h (E1 n)⟩
theorem eQw (cs:List UInt8)(vs:Array Value)(hvs:vs=(cs.map fun c=>Value.int .u8 c.toNat).toArray)(n:Nat)(hn:n=cs.length)(hcs:cs.length<=8)(rb:Nat)(s:ByteArray)(i z:Nat)(w:World)(t:TypeId)(h:RB w rb s i z)(hs:s.size<=1048576)(hi:i<=1048577)(b:Bool)(hb:cs.any (A7 s i)=b) :
  Calls Tryz.prog 131 #[.pointer (some ⟨rb,0,none⟩),.slice (some ⟨w.heap.size,0,none⟩) n n] (w.alloc (.cells vs t)) fun e w'=>e=.returned (.bool b)/\RLeft w rb s i z w':=by
 subst hb hn hvs;refine(lQ4 rb s i z cs w.heap.size _ (h.below (A5 _ _)) hcs (by simp) (fun k hk=>?_) hs hi).mono ?_
 ·have:=heap_alloc_new w (.cells (cs.map fun c=>Value.int .u8 c.toNat).toArray t)
  show World.cell? _ ⟨w.heap.size,k,none⟩=_;unfold World.cell?;rw[this];simp[hk]
 ·rintro e w1 ⟨rfl,hb⟩
  exact⟨rfl,RLeft.of_below h (Below.join (A5 _ _) hb)⟩
theorem cXc {P:List UInt8->Ls.Rd}{n:Nat}{l:List Ls.D}{s:ByteArray}{k j:Nat}{d:Ls.D}(hst:Ls.gXc (rest s k)=false)(hr:Ls.dX5 P (rest s k)=some (d,rest s j))(hn:(rest s k).length<n) :
  ∃n',n=n'+1/\P0 P n l (rest s k)=P0 P n' (l++[U3 s j d]) (rest s (K5 s j)):=by
 obtain⟨n',rfl⟩:∃n',n=n'+1:=⟨n-1,by omega⟩;exact⟨n',rfl,aXz hst (zQ7 hr)⟩
theorem In.own {T:TypeId}{w w1 w2:World}{rb:Nat}{s:ByteArray}{a z:Nat}(h:In T w rb s a z w1){r:Option Nat}(hg:w1.grownBy w2 r)(hk:∀k,r=some k->w.heap.size<k):In T w rb s a z w2:=by
 refine⟨h.left.own h.old hg (fun k e=>Nat.le_of_lt (hk k e)),⟨?_⟩,h.old⟩;rw[hg.block _ h.size (fun e=>by have:=hk _ e.symm;omega)];exact h.box.lies
theorem aX1 (s:ByteArray)(hs:s.size<=1048576)(a1:Addr)(z:Nat)(hT:fQj s a1 z):fQk s a1 z:=by
 intro rb i w h hE hi;have hrl:=h.lt;have HT:Hid (fQj s a1 z):=hT;clear hT;have HE:Hid (Env w rb a1):=hE;have HI0:Hid (In 177 w rb s i z (w.alloc (G7 177 rb))):=In.enter 177 h;have hz0:(w.alloc (G7 177 rb)).heap.size=w.heap.size+1:=by simp
 clear hE h;go_enter Tryz.func127,Tryz.ntmps127;go_wp2_with fail;generalize w.alloc (G7 177 rb)=W0 at *;go_loopw [3] (fun v wr=>∃(k n:Nat) (l:List Ls.D) (vs:List Value),i<=k/\k<=s.size/\l.length<=k/\(rest s k).length<n/\Ls.things (Ls.pat (12-z)) ((rest s i).length+1) (rest s i)=P0 (Ls.pat (12-z)) n l (rest s k)/\In 177 w rb s k z wr/\W0.heap.size<=wr.heap.size/\Parts W0 wr v l vs) (fun _ wr=>s.size+1-T4 wr rb)
 case atStart=>
  exact⟨i,_,[],[],Nat.le_refl _,hi,by simp,Nat.lt_succ_self _,(aXy _ _ _).symm,HI0.out,Nat.le_refl _,Parts.nil _ _⟩
 case round=>
  obtain⟨k,n,l,vs,hik,hks,hll,hn,hres,hj,hzr,hp⟩:=hrel;have Hres:Hid (Ls.things (Ls.pat (12-z)) ((rest s i).length+1) (rest s i)=P0 (Ls.pat (12-z)) n l (rest s k)):=hres;clear hres HI0;obtain⟨x1,x2,x3,rfl⟩:=hp.slice;have hmes:T4 wr rb=k:=aQd hj.lies;have fin:Ls.gXc (rest s k)=true->∀w2,RLeft wr rb s k z w2->RPost w rb s i z a1 (Ls.things (Ls.pat (12-z)) ((rest s i).length+1) (rest s i)) (.returned (N9 (.slice x1 x2 x3))) w2:=by
   intro hstop w2 hl2;refine .inl ⟨l.foldr Ls.rcons Ls.rnil,k,_,?_,hik,hks,rfl,?_,(hj.go hl2).left⟩
   ·rw[Hres.out]
    cases n with
    | zero=>omega
    | succ n=>exact aX0 hstop
   ·have hsh:=(hp.kept hl2.grown (by omega)).shows
    have hm:∀m,B8 W0 w2 m->B8 w w2 m:=fun m hm=>⟨by have:=hm.1;omega,hm.2⟩;exact .row (hsh.1.mono hm (fun _ _=>rfl)) (hsh.2.mono hm (fun _ _=>rfl)).row
  have Hfin:Hid (Ls.gXc (rest s k)=true->∀w2,RLeft wr rb s k z w2->RPost w rb s i z a1 (Ls.things (Ls.pat (12-z)) ((rest s i).length+1) (rest s i)) (.returned (N9 (.slice x1 x2 x3))) w2):=fin;clear fin;have HP:Hid (Parts W0 wr (.slice x1 x2 x3) l vs):=hp;clear hp;have b0:=hj.cell;rcases Nat.lt_or_ge k s.size with hk1|hk1
  ·have hD:=bQl rb s k z wr hj.lies hs (by omega) false (by simp;omega)
   have hst:=bXr hk1;cases hse:Ls.gXc (rest s k) with
   | true=>
    rw[hse]at hst;have Hst:Hid (∀w2,RLeft wr rb s k z w2->RPost w rb s i z a1 (Ls.things (Ls.pat (12-z)) ((rest s i).length+1) (rest s i)) (.returned (N9 (.slice x1 x2 x3))) w2):=Hfin.out hse;have HSe:Hid (([124,41,47]:List UInt8).any (A7 s k)=true):=hst;clear hst hse Hfin;go_wp2_with fail;refine hD.mono ?_;rintro e w2 ⟨rfl,hl2⟩;have b2:=(hj.go hl2).cell;go_wp2_with fail;refine(eQw [124,41,47] _ rfl 3 rfl (by decide) rb s k z w2 _ hl2.lies hs (by omega) true HSe.out).mono ?_;rintro e w3 ⟨rfl,hl3⟩;go_wp2_with fail;go_ret;exact Hst.out _ (hl2.trans hl3)
   | false=>
    rw[hse]at hst;have HSe:Hid (([124,41,47]:List UInt8).any (A7 s k)=false):=hst;have Hse:Hid (Ls.gXc (rest s k)=false):=hse;clear hst hse Hfin;go_wp2_with fail;refine hD.mono ?_;rintro e w2 ⟨rfl,hl2⟩;have b2:=(hj.go hl2).cell;go_wp2_with fail;refine(eQw [124,41,47] _ rfl 3 rfl (by decide) rb s k z w2 _ hl2.lies hs (by omega) false HSe.out).mono ?_;rintro e w4 ⟨rfl,hl4⟩;have hlx:=hl2.trans hl4;have hj4:=hj.go hlx;have HP4:Hid (Parts W0 w4 (.slice x1 x2 x3) l vs):=HP.out.kept hlx.grown (by omega);have hz4:=hlx.grown.size;have b4:=hj4.cell;have HJ4:Hid (In 177 w rb s k z w4):=hj4;clear hl2 hl4 hlx b0 b2 hD hj hj4;go_wp2_with fail;cases hr:Ls.dX5 (Ls.pat (12-z)) (rest s k) with
    | none=>
     have HR:Hid (Ls.things (Ls.pat (12-z)) ((rest s i).length+1) (rest s i)=.none):=Hres.out.trans (aXx Hse.out hr);have HN:Hid (∀W,Below w4.heap.size w4 W->Calls Tryz.prog 141 #[D2 rb] W (J7 w rb a1)):=by
      intro W hW;have hJ:=HJ4.out.below hW;refine(HT.out rb k W hJ.lies (hJ.env HE.out) hks).mono ?_;rintro e w' (⟨d,j,x,hr2,_⟩|⟨_,rfl,hg⟩)
      ·rw[hr]at hr2;cases hr2
      ·exact⟨rfl,hJ.threw rfl hg⟩
     clear hr;refine wp_region_held_drew (S:=fun w'=>w'.cell? ⟨w.heap.size,0,none⟩=some (.pointer (some ⟨rb,0,none⟩))) (by kernel_rfl) (by simp[b4]) (fun hHeld=>?_);refine wpAnyH_take (i:=0) (oi:=⟨_,_,_,_,_,_⟩) (v:=.slice x1 x2 x3) rfl (by kernel_rfl) (by kernel_rfl) (by kernel_rfl) (fun _ _ _ h=>h) (Or.inl ⟨by rfl,fun w' hSw=>by go_simp⟩) hHeld ?_;simp only[Act.put,List.setIfInBounds_toArray,List.set_cons_zero,List.set_cons_succ];refine wpAnyH_take (i:=1) (oi:=⟨_,_,_,_,_,_⟩) (v:=D2 rb) rfl (by kernel_rfl) (by kernel_rfl) (by kernel_rfl) (fun _ _ _ h=>h) (Or.inl ⟨by rfl,fun w' hSw=>by go_simp⟩) hHeld ?_;simp only[Act.put,List.setIfInBounds_toArray,List.set_cons_zero,List.set_cons_succ];refine wpAnyH_take (i:=2) (oi:=⟨_,_,_,_,_,_⟩) (v:=D2 rb) rfl (by kernel_rfl) (by kernel_rfl) (by kernel_rfl) (fun _ _ _ h=>h) (Or.inl ⟨by rfl,fun w' hSw=>by go_simp⟩) hHeld ?_;simp only[Act.put,List.setIfInBounds_toArray,List.set_cons_zero,List.set_cons_succ];refine wpAnyH_ready (rs:=[3]) (by kernel_rfl) (by simp) (AllReadyH.cons (o:=⟨_,_,_,_,_,_⟩) rfl (fun K hK=>?_) AllReadyH.nil);go_simp
     refine(HN.out _ (Below.refl _ _).drew).mono ?_;rintro e w5 ⟨rfl,hg⟩;go_wp2_with fail;exact⟨rfl,.inr ⟨HR.out,rfl,hg⟩⟩
    | some q=>
     obtain⟨d,t⟩:=q;have HN:Hid (∀W,Below w4.heap.size w4 W->Calls Tryz.prog 141 #[D2 rb] W fun e w'=>∃ty x j,e=.returned (.iface ty x)/\t=rest s j/\k<=j/\j<=s.size/\In 177 w rb s j z w'/\W0.heap.size<=w'.heap.size/\Parts W0 w' (.slice x1 x2 x3) l vs/\Rep w' (R4 W0 w' (.slice x1 x2 x3)) 0 d [.iface ty x]):=by
      intro W hW;have hJ:=HJ4.out.below hW;have hPW:Parts W0 W (.slice x1 x2 x3) l vs:=HP4.out.kept (rb:=rb) (K3 hW _) (by omega);refine(HT.out rb k W hJ.lies (hJ.env HE.out) hks).mono ?_;rintro e w' (⟨d',j,x,hr2,hkj,hjs,rfl,hrep,hl5⟩|⟨hr2,_⟩)
      ·rw[hr]at hr2
       simp at hr2;obtain⟨rfl,rfl⟩:=hr2;obtain⟨ty,y,rfl⟩:=hrep.iface;have hWz:W0.heap.size<=W.heap.size:=Nat.le_trans (by omega) hW.size;exact⟨ty,y,j,rfl,rfl,hkj,hjs,hJ.go hl5,Nat.le_trans hWz hl5.grown.size,hPW.kept hl5.grown (by omega),hPW.fits hWz hrep⟩
      ·rw[hr]at hr2;cases hr2
     have HQ:Hid (∀(W:World) (ty:TypeId) (x:Value) (j:Nat),In 177 w rb s j z W->W0.heap.size<=W.heap.size->j<=s.size->Parts W0 W (.slice x1 x2 x3) l vs->Rep W (R4 W0 W (.slice x1 x2 x3)) 0 d [.iface ty x]->Calls Tryz.prog 140 #[D2 rb,.iface ty x] W fun e w'=>∃ty2 y2,e=.returned (.iface ty2 y2)/\In 177 w rb s (K5 s j) z w'/\W0.heap.size<=w'.heap.size/\Parts W0 w' (.slice x1 x2 x3) l vs/\Rep w' (R4 W0 w' (.slice x1 x2 x3)) 0 (U3 s j d) [.iface ty2 y2]):=by
      intro W ty x j hJ hWz hjs hPW hrep;refine(zQ8 rb s j z ty x W hJ.lies hs hjs).mono ?_;rintro e w' ⟨rfl,hl6⟩;have hrep6:Rep w' (R4 W0 w' (.slice x1 x2 x3)) 0 d [.iface ty x]:=hrep.mono (fun m hm=>⟨hm.1,Nat.lt_of_lt_of_le hm.2.1 hl6.grown.size,hm.2.2⟩) (fun m hm=>hl6.grown.block m hm.2.1 (by have:=hm.1;simp;omega));have hr6:=zQ6 hrep6 s j;obtain⟨ty2,y2,hy2⟩:=hr6.iface;rw[hy2]at hr6;exact⟨ty2,y2,by rw[hy2],hJ.go hl6,Nat.le_trans hWz hl6.grown.size,hPW.kept hl6.grown (by omega),hr6⟩
     have HStep:Hid (∀j,t=rest s j->∃n',n=n'+1/\Ls.things (Ls.pat (12-z)) ((rest s i).length+1) (rest s i)=P0 (Ls.pat (12-z)) n' (l++[U3 s j d]) (rest s (K5 s j))/\s.size-j<s.size-k):=by
      rintro j rfl;obtain⟨n',e1,e2⟩:=cXc (l:=l) Hse.out hr hn;refine⟨n',e1,Hres.out.trans e2,?_⟩;have hlt:=(Ls.iXi (Ls.fXz _) hr).2;rw[E7,E7]at hlt;exact hlt
     have hlen:=HP4.out.each.length;obtain⟨q,hq,hq0,hq1,hqb⟩:=info_parts gQe;clear hr Hres;go_region_held3 (fun w'=>w'.cell? ⟨w.heap.size,0,none⟩=some (.pointer (some ⟨rb,0,none⟩))) (first|assumption|go_keep|exact(hj6.below (A5 _ _)).cell)
      (first
       | (go_at_call 141;refine(HN.out _ ?_).mono ?_;exact(Below.refl _ _).drew;rintro e w5 ⟨ty,x,j,rfl,hjt,hkj,hjs,hj5,hz5,hp5,hrep5⟩;have b5:=hj5.cell)
       | (go_at_call 140;refine(HQ.out _ ty x j hj5 hz5 hjs hp5 hrep5).mono ?_;rintro e w6 ⟨ty2,y2,rfl,hj6,hz6,hp6,hrep6⟩;have b6:=hj6.cell)
       | (refine step_append_lies _ (by rfl) _ _ _ (by rfl) W0.heap.size 89 q _ 1 16 Tryz.underlying182 hq hq0 hq1 hqb rfl (by omega) (.slice x1 x2 x3) vs.length vs (by rfl) (hp6.alloc _).own ⟨w6.heap.size,0,none⟩ 1 1 [.iface ty2 y2] (by rfl) (by rfl) (aQt w6 (.iface ty2 y2) 89) (by simp[Value.oneCell']) (by omega) (by unfold maxLen;omega) (by omega) (by simp;omega) (w6.heap.size+1) (by simp) ?_;intro gg cap w7 hown7 hgrow hat hlt7;have hj7:=(hj6.below (A5 w6 (.cells #[.iface ty2 y2] 89))).own hgrow (fun m e=>by have:=((hp6.alloc (.cells #[.iface ty2 y2] 89)).own.lt m e).1;omega);have b7:=hj7.cell))
     all_goals
      obtain⟨n',rfl,hres7,hlt⟩:=HStep.out j hjt;have Hres7:Hid (Ls.things (Ls.pat (12-z)) ((rest s i).length+1) (rest s i)=P0 (Ls.pat (12-z)) n' (l++[U3 s j d]) (rest s (K5 s j))):=hres7;have hbd:=zQ2 hjs;have hpa:=hp6.alloc (.cells #[.iface ty2 y2] 89);have hfa:Rep (w6.alloc (.cells #[.iface ty2 y2] 89)) (R4 W0 (w6.alloc (.cells #[.iface ty2 y2] 89)) (.slice x1 x2 x3)) 0 (U3 s j d) [.iface ty2 y2]:=hrep6.mono (fun m hm=>⟨hm.1,by have:=hm.2.1;simp;omega,hm.2.2⟩) (fun m hm=>Below.heap_alloc _ _ _ hm.2.1);have HP7:Hid (Parts W0 w7 (.slice (some ⟨gg,0,none⟩) (l.length+1) cap) (l++[U3 s j d]) (vs++[.iface ty2 y2])):=by
       show Parts _ _ _ _ _;rw[<-hlen];refine hpa.push hfa hgrow hown7 ?_;rcases hat with e|e
       ·exact .inl e.symm
       ·exact .inr ⟨gg,rfl,by simp;omega⟩
      have hz7:=hgrow.size;simp at hz7;have HM7:Hid (T4 w7 rb=K5 s j):=aQd hj7.lies;clear hpa hfa hgrow hown7 hat hrep6 hrep5 hp5 hp6 hres7 HStep HN HQ;go_wp2_with fail;go_roundw
      case rel=>
       refine⟨K5 s j,n',l++[U3 s j d],vs++[.iface ty2 y2],by omega,hbd.2,by simp;omega,?_,Hres7.out,hj7,by omega,HP7.out⟩;rw[E7]at hn ⊢;omega
      case measure=>
       rw[hmes,HM7.out];omega
  ·have hD:=bQl rb s k z wr hj.lies hs (by omega) true (by simp;omega)
   have Hst:Hid (∀w2,RLeft wr rb s k z w2->RPost w rb s i z a1 (Ls.things (Ls.pat (12-z)) ((rest s i).length+1) (rest s i)) (.returned (N9 (.slice x1 x2 x3))) w2):=Hfin.out (bXp hk1);clear Hfin;go_wp2_with fail;refine hD.mono ?_;rintro e w2 ⟨rfl,hl2⟩;go_wp2_with fail;go_ret;exact Hst.out _ hl2
theorem yQk (n:Nat)(r:List UInt8):Ls.pat (n+1) r=Ls.alts (Ls.pat n) (r.length+1) r:=rfl
theorem tQ8 {s:ByteArray}{k:Nat}{c:UInt8}(h:A7 s k c=false):(rest s k).head?≠some c:=by rw[Ne,C4,h];simp
theorem Parts.one {w0 w:World}{a:Ls.D}{ty:TypeId}{y:Value}(hw:w0.heap.size<=w.heap.size)(h:Rep w (B8 w0 w) 0 a [.iface ty y]):Parts w0 (w.alloc (.cells #[.iface ty y] 89)) (.slice (some ⟨w.heap.size,0,none⟩) 1 1) [a] [.iface ty y]:=by
 refine⟨World.ownsRow_lit (e:=89) (size:=1) w #[.iface ty y] 1 hw (by unfold maxLen;omega) rfl,.cons (h.mono (fun k hk=>⟨hk.1,by have:=hk.2;simp;omega,?_⟩) (fun k hk=>Below.heap_alloc _ _ _ hk.2)) .nil⟩;have:=hk.2;show some k≠some w.heap.size;simp;omega
theorem rQm (s:ByteArray)(hs:s.size<=1048576)(a1:Addr)(z:Nat)(hz:z<=12)(hR:fQk s a1 z):q7 s a1 z:=by
 intro rb i w h hE hi;have hrl:=h.lt;have HR:Hid (fQk s a1 z):=hR;have HE:Hid (Env w rb a1):=hE;have HQ:Hid (Ls.pat (13-z) (rest s i)=Ls.alts (Ls.pat (12-z)) ((rest s i).length+1) (rest s i)):=by
  show _=_;rw[show 13-z=(12-z)+1 from by omega,yQk]
 have HI0:Hid (In 177 w rb s i z (w.alloc (G7 177 rb))):=In.enter 177 h;have hz0:(w.alloc (G7 177 rb)).heap.size=w.heap.size+1:=by simp
 have hC0:=HR.out rb i _ HI0.out.lies (HI0.out.env HE.out) hi;clear hR hE h;go_enter Tryz.func113,Tryz.ntmps113;go_wp2_with fail;generalize w.alloc (G7 177 rb)=W0 at *;refine hC0.mono ?_;rintro e w1 (⟨d,j,x,hr,hij,hj,rfl,hrep,hl⟩|⟨hr,rfl,hg⟩)
 ·have Hr:Hid (Ls.pat (13-z) (rest s i)=O6 (Ls.pat (12-z)) (rest s i).length [d] (rest s j)):=HQ.out.trans (iQc hr)
  clear hr hC0;obtain⟨ty,y,rfl⟩:=hrep.iface;have hI1:=HI0.out.go hl;have hp:=Parts.one hl.grown.size hrep;have Hp:Hid (Parts W0 (w1.alloc (.cells #[.iface ty y] 89)) (.slice (some ⟨w1.heap.size,0,none⟩) 1 1) [d] [.iface ty y]):=hp;have hz1:=hl.grown.size;clear hp hrep;go_wp2_with fail;go_loopw [3] (fun v wr=>∃(k n:Nat) (l:List Ls.D) (vs:List Value),i<=k/\k<=s.size/\l≠[]/\l.length<=k+1/\(rest s k).length<=n/\Ls.pat (13-z) (rest s i)=O6 (Ls.pat (12-z)) n l (rest s k)/\In 177 w rb s k z wr/\W0.heap.size<=wr.heap.size/\Parts W0 wr v l vs) (fun _ wr=>s.size+1-T4 wr rb)
  case atStart=>
   refine⟨j,_,[d],_,hij,hj,by simp,by simp,?_,Hr.out,hI1.below (A5 _ _),by simp;omega,Hp.out⟩;rw[E7,E7];omega
  case round=>
   obtain⟨k,n,l,vs,hik,hks,hle,hll,hn,hres,hlk,hzr,hp⟩:=hrel;have Hres:Hid (Ls.pat (13-z) (rest s i)=O6 (Ls.pat (12-z)) n l (rest s k)):=hres;clear hres Hr Hp HI0;obtain⟨x1,x2,x3,rfl⟩:=hp.slice;have hmes:T4 wr rb=k:=aQd hlk.lies;have HP:Hid (Parts W0 wr (.slice x1 x2 x3) l vs):=hp;have Hle:Hid (l≠[]):=hle;have b0:=hlk.cell;clear hp hle;cases h124:A7 s k 124 with
   | false=>
    have hS:=U6 rb s k z 124 wr hlk.lies hs (by omega) h124;have HN:Hid (Ls.pat (13-z) (rest s i)=some (F0 l,rest s k)):=Hres.out.trans (rQk (tQ8 h124));clear h124;go_wp2_with fail;refine hS.mono ?_;rintro e w2 ⟨rfl,hl2⟩;go_wp2_with fail;go_ret;have hsh:=(HP.out.kept hl2.grown (by omega)).shows;have hm:∀m,B8 W0 w2 m->B8 w w2 m:=fun m hm=>⟨by have:=hm.1;omega,hm.2⟩;exact .inl ⟨F0 l,k,_,HN.out,hik,hks,rfl,.choice (hsh.1.mono hm (fun _ _=>rfl)) ((hsh.2.mono hm (fun _ _=>rfl)).chain Hle.out),(hlk.go hl2).left⟩
   | true=>
    have hS:=Y1 rb s k z 124 wr hlk.lies hs h124;have hk1:=(D6 h124).1;have H124:Hid ((rest s k).head?=some 124):=C4.2 h124;clear h124;go_wp2_with fail;refine hS.mono ?_;rintro e w2 ⟨rfl,hl2⟩;have hlw:=hlk.go hl2;have HP2:Hid (Parts W0 w2 (.slice x1 x2 x3) l vs):=HP.out.kept hl2.grown (by omega);have hz2:=hl2.grown.size;have b2:=hlw.cell;clear b0;go_wp2_with fail;refine(HR.out rb (k+1) w2 hlw.lies (hlw.env HE.out) (by omega)).mono ?_;rintro e w3 (⟨d3,j3,x3',hr3,hkj,hj3,rfl,hrep3,hl3⟩|⟨hr3,rfl,hg3⟩)
    ·obtain⟨n',rfl⟩:∃n',n=n'+1:=⟨n-1,by rw[E7]at hn;omega⟩
     have Hstep:Hid (Ls.pat (13-z) (rest s i)=O6 (Ls.pat (12-z)) n' (l++[d3]) (rest s j3)):=Hres.out.trans (rQl H124.out (by rw[E3];exact hr3));clear hr3;obtain⟨ty2,y2,rfl⟩:=hrep3.iface;have hfit:=HP2.out.fits (by omega) hrep3;have hp3:=HP2.out.kept hl3.grown (by omega);have hlw3:=hlw.go hl3;have hpa:=hp3.alloc (.cells #[.iface ty2 y2] 89);have hfa:Rep (w3.alloc (.cells #[.iface ty2 y2] 89)) (R4 W0 (w3.alloc (.cells #[.iface ty2 y2] 89)) (.slice x1 x2 x3)) 0 d3 [.iface ty2 y2]:=hfit.mono (fun m hm=>⟨hm.1,by have:=hm.2.1;simp;omega,hm.2.2⟩) (fun m hm=>Below.heap_alloc _ _ _ hm.2.1);have hoa:=hpa.own;have hcn:=aQt w3 (.iface ty2 y2) 89;have hlen:=HP2.out.each.length;obtain⟨q,hq,hq0,hq1,hqb⟩:=info_parts gQe;have Hpa:Hid (Parts W0 (w3.alloc (.cells #[.iface ty2 y2] 89)) (.slice x1 x2 x3) l vs):=hpa;have Hfa:Hid (Rep (w3.alloc (.cells #[.iface ty2 y2] 89)) (R4 W0 (w3.alloc (.cells #[.iface ty2 y2] 89)) (.slice x1 x2 x3)) 0 d3 [.iface ty2 y2]):=hfa;have hz3:=hl3.grown.size;clear hpa hfa hfit hp3 hrep3;go_wp2_with (at_builtin;refine O3 _ rfl _ _ 182 rfl W0.heap.size 89 q _ 1 16 Tryz.underlying182 hq hq0 hq1 hqb rfl (by omega) (.slice x1 x2 x3) vs.length vs rfl hoa ⟨w3.heap.size,0,none⟩ 1 1 [.iface ty2 y2] rfl ?l1 hcn ?l0 ?l2 ?l3 ?l4 ?l5 ?_)
     case l1=>rfl
     case l0=>intro u hu;simp at hu;subst hu;rfl
     case l2=>unfold maxLen;omega
     case l3=>omega
     case l4=>simp;omega
     case l5=>omega
     intro v' w' ho hg hvv;have hI7:=(hlw3.below (A5 w3 (.cells #[.iface ty2 y2] 89))).own hg (fun m e=>by have:=(hoa.lt m e).1;omega);have hz7:=hg.size;simp at hz7;go_wp2_with fail;go_roundw
     case rel=>
      refine⟨j3,n',l++[d3],vs++[.iface ty2 y2],by omega,hj3,by simp,by simp;omega,?_,Hstep.out,hI7,by omega,?_⟩
      ·rw[E7]at hn ⊢;omega
      ·exact Hpa.out.push Hfa.out hg (by rw[hlen,hz0];exact ho) (by simpa using hvv)
     case measure=>
      rw[hmes,aQd hI7.lies];omega
    ·have HN:Hid (Ls.pat (13-z) (rest s i)=.none):=Hres.out.trans (rQj H124.out (by rw[E3];exact hr3))
     go_wp2_with fail;exact⟨rfl,.inr ⟨HN.out,rfl,hlw.threw rfl hg3⟩⟩
 ·have HN:Hid (Ls.pat (13-z) (rest s i)=.none):=HQ.out.trans (hQ9 hr)
  go_wp2_with fail;exact⟨rfl,.inr ⟨HN.out,rfl,HI0.out.threw rfl hg⟩⟩
theorem iQt (s:ByteArray)(hs:s.size<=1048576)(a1:Addr)(z:Nat)(hz:z<=12)(hC:z<=11->q7 s a1 (z+1)):q7 s a1 z:=
 rQm s hs a1 z hz (aX1 s hs a1 z (aX2 s hs a1 z hz hC))
theorem iQs (s:ByteArray)(hs:s.size<=1048576)(a1:Addr):(k:Nat)->k<=12->q7 s a1 (12-k)
 | 0,_=>iQt s hs a1 12 (Nat.le_refl _) (fun h=>by omega)
 | k+1,hk=>by
  have h:=iQs s hs a1 k (by omega);refine iQt s hs a1 (12-(k+1)) (by omega) (fun _=>?_);rw[show 12-(k+1)+1=12-k from by omega];exact h
end Go.Proofs.YtfklinjaajafgaaGreatDoor
