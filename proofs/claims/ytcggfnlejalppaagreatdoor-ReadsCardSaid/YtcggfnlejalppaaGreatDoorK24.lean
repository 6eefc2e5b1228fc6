import Derived.Test.YtcggfnlejalppaaGreatDoorK03
import Derived.Test.YtcggfnlejalppaaGreatDoorK01
import Derived.Deep.RegionHeld
import Derived.Deep.DeepCutAuto
import Derived.Test.YtcggfnlejalppaaGreatDoorK18
set_option maxRecDepth 100000
set_option maxHeartbeats 4000000
namespace Go.Proofs.YtcggfnlejalppaaGreatDoor
open Go.RowKit
theorem qQk:(Tryz.prog.info? 62).map (fun i=>(i.zero,i.size,i.bytes))=some (some (.agg #[.int .i64 0,.int .i64 0,.int .i64 0]),3,24):=by kernel_rfl
abbrev N5 (p:Ls.Pr):List Value:=[.int .i64 p.1,.int .i64 p.2.1,.int .i64 p.2.2]
abbrev gQj (p:Ls.Pr):Value:=.agg #[.int .i64 p.1,.int .i64 p.2.1,.int .i64 p.2.2]
def Q3 (ps:List Ls.Pr):List Value:=ps.flatMap N5
theorem oQn (a b:List Ls.Pr):Q3 (a++b)=Q3 a++Q3 b:=by simp[Q3]
theorem dQ1 (ps:List Ls.Pr)(i j:Nat)(hj:j<3)(hi:i<ps.length):(Q3 ps)[i*3+j]?=(N5 ps[i])[j]?:=by
 induction ps generalizing i with
 | nil=>simp at hi
 | cons q r ih=>
  show (N5 q++Q3 r)[i*3+j]?=_;cases i with
  | zero=>rw[List.getElem?_append_left (by simp;omega)];simp
  | succ i=>
   rw[List.getElem?_append_right (by simp;omega)];rw[show (i+1)*3+j-(N5 q).length=i*3+j from by simp;omega];rw[ih i (by simpa using hi)];simp
def PL (w:World)(base:Nat)(v:Value)(ps:List Ls.Pr):Prop:=w.ownsRow base 62 3 v ps.length (Q3 ps)
theorem PL.cells {w:World}{base g cap n:Nat}{ps:List Ls.Pr}(h:PL w base (.slice (some ⟨g,0,none⟩) n cap) ps)(i:Nat)(hi:i<ps.length) :
  w.cell? ⟨g,i*3,none⟩=some (.int .i64 ps[i].1)/\w.cell? ⟨g,i*3+1,none⟩=some (.int .i64 ps[i].2.1)/\w.cell? ⟨g,i*3+2,none⟩=some (.int .i64 ps[i].2.2):=by
 unfold PL at h;have hn:n=ps.length:=by
  rcases h.2 with⟨h1,_⟩|⟨_,_,_,h1,_⟩
  ·simp at h1
  ·simp at h1;exact h1.2.1
 subst hn;refine⟨?_,?_,?_⟩
 ·rw[h.cellAt (i*3) (by omega)];have:=dQ1 ps i 0 (by omega) hi;simpa using this
 ·rw[h.cellAt (i*3+1) (by omega),dQ1 ps i 1 (by omega) hi];rfl
 ·rw[h.cellAt (i*3+2) (by omega),dQ1 ps i 2 (by omega) hi];rfl
theorem PL.below {w w':World}{base:Nat}{v:Value}{ps:List Ls.Pr}(h:PL w base v ps)(hb:Below w.heap.size w w'):PL w' base v ps:=
 World.ownsRow.kept h (G9 hb none) (by cases hv:v.ownBlock<;>simp)
def I3 (l:List Ls.Pr)(p:Ls.Pr):List Ls.Pr:=if p∈l then l else l++[p]
def fQ3 (w:World)(base:Nat)(v:Value)(ps:List Ls.Pr)(p:Ls.Pr):Ending->World->Prop:=fun e w'=>
 ∃v',e=.returned v'/\PL w' base v' (I3 ps p)/\w.grownBy w' v.ownBlock/\(v'.ownBlock=v.ownBlock\/∃k,v'.ownBlock=some k/\w.heap.size<=k)
theorem N4 (w:World)(p:Ls.Pr)(j:Nat):(w.alloc (.cells #[.int .i64 p.1,.int .i64 p.2.1,.int .i64 p.2.2] 62)).cell? ⟨w.heap.size,j,none⟩=(N5 p)[j]?:=by
 have:(w.alloc (.cells #[.int .i64 p.1,.int .i64 p.2.1,.int .i64 p.2.2] 62)).heap[w.heap.size]?=some (.cells #[.int .i64 p.1,.int .i64 p.2.1,.int .i64 p.2.2] 62):=heap_alloc_new w _;simp only[World.cell?,this];simp
theorem kQ4 (w:World)(p:Ls.Pr):∀j u,(N5 p)[j]?=some u->(w.alloc (.cells #[.int .i64 p.1,.int .i64 p.2.1,.int .i64 p.2.2] 62)).cell? ((⟨w.heap.size,0,none⟩:Addr).add j)=some u:=by
 intro j u hu;have:=N4 w p j;rw[hu]at this;rw[<-this];unfold Addr.add;split
 ·subst_vars;rfl
 ·simp
theorem vQo (p:Ls.Pr):∀u∈N5 p,u.oneCell'=true:=by
 intro u hu;simp only[List.mem_cons,List.not_mem_nil,or_false]at hu;rcases hu with rfl|rfl|rfl<;>rfl
theorem G0 (w:World)(n B:Nat):Below B w (w.drewN n):=⟨rfl,rfl,rfl,Nat.le_refl _,fun _ _=>rfl⟩
theorem dQ8 {ps:List Ls.Pr}{k:Nat}{p:Ls.Pr}(h:∀q,q∈ps.take k->q≠p)(hk:k<ps.length)(hp:ps[k]≠p):∀q,q∈ps.take (k+1)->q≠p:=by
 intro q hq;rw[List.take_succ_eq_append_getElem hk]at hq;rcases List.mem_append.1 hq with hq|hq
 ·exact h q hq
 ·simp only[List.mem_singleton]at hq
  rw[hq];exact hp
theorem pQr (w:World)(base:Nat)(hbase:base<=w.heap.size)(g cap:Nat)(ps:List Ls.Pr)(h:PL w base (.slice (some ⟨g,0,none⟩) ps.length cap) ps)(hn:ps.length<=5000000000000)(p:Ls.Pr) :
  Calls Tryz.prog 37 #[.slice (some ⟨g,0,none⟩) ps.length cap,gQj p] w (fQ3 w base (.slice (some ⟨g,0,none⟩) ps.length cap) ps p):=by
 obtain⟨p1,p2,p3⟩:=p;have B0:=N4 w (p1,p2,p3) 0;have B1:=N4 w (p1,p2,p3) 1;have B2:=N4 w (p1,p2,p3) 2;simp only[N5,List.getElem?_cons_zero,List.getElem?_cons_succ]at B0 B1 B2;have HB:Hid (∀wr,Below (w.heap.size+1) (w.alloc (.cells #[.int .i64 p1,.int .i64 p2,.int .i64 p3] 62)) wr->wr.cell? ⟨w.heap.size,0,none⟩=some (.int .i64 p1)/\wr.cell? ⟨w.heap.size,1,none⟩=some (.int .i64 p2)/\wr.cell? ⟨w.heap.size,2,none⟩=some (.int .i64 p3)):=
  fun wr hb=>⟨(hb.cell (p:=⟨w.heap.size,0,none⟩) (by show w.heap.size<_;omega)).trans B0,(hb.cell (p:=⟨w.heap.size,1,none⟩) (by show w.heap.size<_;omega)).trans B1,(hb.cell (p:=⟨w.heap.size,2,none⟩) (by show w.heap.size<_;omega)).trans B2⟩
 clear B0 B1 B2;go_enter Tryz.func37,Tryz.ntmps37;go_wp2_with fail;go_loopw [5] (fun i wr=>∃k:Nat,k<=ps.length/\i=.int .i64 k/\Below (w.heap.size+1) (w.alloc (.cells #[.int .i64 p1,.int .i64 p2,.int .i64 p3] 62)) wr/\(∀q,q∈ps.take k->q≠(p1,p2,p3))) (fun i _=>ps.length-(intOf i).toNat)
 case atStart=>exact⟨0,Nat.zero_le _,rfl,Below.refl _ _,by simp⟩
 case round=>
  obtain⟨k,hk,rfl,hb2,hno⟩:=hrel;have Hno:Hid (∀q,q∈ps.take k->q≠(p1,p2,p3)):=hno;clear hno;have hbw:Below w.heap.size w wr:=(A4 w _).trans (hb2.mono (by omega));have hv:=h.below hbw;obtain⟨b0,b1,b2⟩:=HB.out wr hb2
  by_cases hlt:k<ps.length
  ·obtain⟨c0,c1,c2⟩:=hv.cells k hlt
   have Hb2:Hid (Below (w.heap.size+1) (w.alloc (.cells #[.int .i64 p1,.int .i64 p2,.int .i64 p3] 62)) wr):=hb2;clear hb2
   by_cases h1:ps[k].1=p1
   ·have e1:((ps[k].1:Int)==(p1:Int))=true:=by simp[h1]
    by_cases h2:ps[k].2.1=p2
    ·have e2:((ps[k].2.1:Int)==(p2:Int))=true:=by simp[h2]
     by_cases h3:ps[k].2.2=p3
     ·have e3:((ps[k].2.2:Int)==(p3:Int))=true:=by simp[h3]
      have HE:Hid (ps[k]=(p1,p2,p3)):=by show _=_;rw[<-h1,<-h2,<-h3]
      clear h1 h2 h3;go_wp2_with fail;go_quiet (fail)
      go_wp2_with fail;go_ret;refine⟨_,rfl,?_,G9 (hbw.trans (G0 _ nq _)) _,.inl rfl⟩;unfold I3;rw[if_pos (by rw[<-HE.out];exact List.getElem_mem hlt)];exact hv.below (G0 _ nq _)
     ·have e3:((ps[k].2.2:Int)==(p3:Int))=false:=by simp;omega
      have HE:Hid (ps[k]≠(p1,p2,p3)):=fun e=>h3 (by rw[e]);clear h1 h2 h3;go_wp2_with fail;go_quiet (fail)
      go_wp2_with fail;go_roundw
      case rel=>exact⟨k+1,by omega,by go_num,Hb2.out.trans (G0 _ nq _),dQ8 Hno.out hlt HE.out⟩
      case measure=>simp[intOf];omega
    ·have e2:((ps[k].2.1:Int)==(p2:Int))=false:=by simp;omega
     have HE:Hid (ps[k]≠(p1,p2,p3)):=fun e=>h2 (by rw[e]);clear h1 h2;go_wp2_with fail;go_quiet (fail)
     go_wp2_with fail;go_roundw
     case rel=>exact⟨k+1,by omega,by go_num,Hb2.out.trans (G0 _ nq _),dQ8 Hno.out hlt HE.out⟩
     case measure=>simp[intOf];omega
   ·have e1:((ps[k].1:Int)==(p1:Int))=false:=by simp;omega
    have HE:Hid (ps[k]≠(p1,p2,p3)):=fun e=>h1 (by rw[e]);clear h1;go_wp2_with fail;go_quiet (fail)
    go_wp2_with fail;go_roundw
    case rel=>exact⟨k+1,by omega,by go_num,Hb2.out.trans (G0 _ nq _),dQ8 Hno.out hlt HE.out⟩
    case measure=>simp[intOf];omega
  ·obtain⟨i,hi,hz0,hz1,hzb⟩:=info_parts qQk
   have hz2:=hb2.size;have hoa:=World.ownsRow.alloc hv (.cells #[.int .i64 p1,.int .i64 p2,.int .i64 p3] 62);have hcn:=kQ4 wr (p1,p2,p3);have hpo:=vQo (p1,p2,p3);go_wp2_with (at_builtin;refine K3 _ rfl _ _ 63 rfl base 62 i _ 3 24 Tryz.underlying63 hi hz0 hz1 hzb rfl (by omega) (.slice (some ⟨g,0,none⟩) ps.length cap) ps.length (Q3 ps) rfl hoa ⟨wr.heap.size,0,none⟩ 1 1 (N5 (p1,p2,p3)) rfl rfl hcn hpo ?l2 ?l3 ?l4 (by omega) ?_)
   case l2=>unfold maxLen;omega
   case l3=>omega
   case l4=>have:=hbw.size;simp;omega
   intro v' w' ho hg hvv;go_wp2_with fail;go_ret;have hk1:k=ps.length:=by omega
   have hno:=Hno.out;rw[hk1,List.take_length]at hno;have hbx:=Below.join hbw (A4 wr (.cells #[.int .i64 p1,.int .i64 p2,.int .i64 p3] 62));refine⟨v',rfl,?_,G3 (G9 hbx _) hg,?_⟩
   ·unfold I3
    rw[if_neg (fun hm=>hno _ hm rfl)];unfold PL;rw[oQn,List.length_append];exact ho
   ·rcases hvv with hvv|⟨m,hvv,hm⟩
    ·exact .inl hvv
    ·exact .inr ⟨m,hvv,by have:=hbw.size;omega⟩
theorem J1 {w:World}{base:Nat}{e:TypeId}{size:Nat}{v:Value}{n:Nat}{xs:List Value}(h:w.ownsRow base e size v n xs):(v=.slice none 0 0/\n=0)\/∃g cap,v=.slice (some ⟨g,0,none⟩) n cap:=by
 rcases h.2 with⟨h1,h2⟩|⟨g,cap,cur,e,_⟩
 ·exact .inl ⟨h1,h2⟩
 ·exact .inr ⟨g,cap,e⟩
theorem PL.some {w:World}{base:Nat}{v:Value}{ps:List Ls.Pr}(h:PL w base v ps)(hne:ps≠[]):∃g cap,v=.slice (some ⟨g,0,none⟩) ps.length cap:=by
 rcases J1 h with⟨_,h0⟩|⟨g,cap,e⟩
 ·exact absurd (List.eq_nil_of_length_eq_zero h0) hne
 ·exact⟨g,cap,e⟩
theorem eQb (w:World)(base:Nat)(hbase:base<=w.heap.size)(v:Value)(ps:List Ls.Pr)(h:PL w base v ps)(hne:ps≠[])(hn:ps.length<=5000000000000)(p:Ls.Pr) :
  Calls Tryz.prog 37 #[v,gQj p] w (fQ3 w base v ps p):=by
 obtain⟨g,cap,rfl⟩:=h.some hne;exact pQr w base hbase g cap ps h hn p
def IV (w:World)(G:Nat->Prop)(v:Value)(l:List Nat):Prop:=
 (v=.slice none 0 0/\l=[])\/∃g cap,G g/\v=.slice (some ⟨g,0,none⟩) l.length cap/\∀i (h:i<l.length),w.cell? ⟨g,i,none⟩=some (.int .i64 l[i])
theorem P9 {w w':World}{k:Nat}(h:w'.heap[k]?=w.heap[k]?)(o:Nat):w'.cell? ⟨k,o,none⟩=w.cell? ⟨k,o,none⟩:=by
 simp only[World.cell?,h]
theorem IV.mono {w w':World}{G G':Nat->Prop}(hG:∀k,G k->G' k)(hw:∀k,G k->w'.heap[k]?=w.heap[k]?){v:Value}{l:List Nat}(h:IV w G v l):IV w' G' v l:=by
 rcases h with h|⟨g,cap,hg,rfl,hc⟩
 ·exact .inl h
 ·exact .inr ⟨g,cap,hG g hg,rfl,fun i hi=>by rw[P9 (hw g hg)];exact hc i hi⟩
theorem IV.shape {w:World}{G:Nat->Prop}{v:Value}{l:List Nat}(h:IV w G v l):∃ao cap,v=.slice ao l.length cap/\(0<l.length->∃g,ao=some ⟨g,0,none⟩/\G g/\∀i (h:i<l.length),w.cell? ⟨g,i,none⟩=some (.int .i64 l[i])):=by
 rcases h with⟨rfl,rfl⟩|⟨g,cap,hg,rfl,hc⟩
 ·exact⟨_,_,rfl,by simp⟩
 ·exact⟨_,_,rfl,fun _=>⟨g,rfl,hg,hc⟩⟩
def D1 (l m:List Ls.Pr):List Ls.Pr:=m.foldl I3 l
def E5 (ph:Nat)(a b:List Nat):List Ls.Pr:=a.flatMap fun x=>b.map fun y=>(ph,x,y)
theorem cQ4 (l m:List Ls.Pr)(x:Ls.Pr):D1 l (m++[x])=I3 (D1 l m) x:=by simp[D1]
theorem vQh (l m n:List Ls.Pr):D1 l (m++n)=D1 (D1 l m) n:=by simp[D1]
theorem qQj {l:List Ls.Pr}(h:l≠[])(x:Ls.Pr):I3 l x≠[]:=by
 unfold I3;split
 ·exact h
 ·simp
theorem bQa {l:List Ls.Pr}(h:l≠[])(m:List Ls.Pr):D1 l m≠[]:=by
 induction m generalizing l with
 | nil=>exact h
 | cons x m ih=>exact ih (qQj h x)
theorem oQa (l:List Ls.Pr)(x:Ls.Pr):(I3 l x).length<=l.length+1:=by unfold I3;split<;>simp
theorem nQm (l m:List Ls.Pr):(D1 l m).length<=l.length+m.length:=by
 induction m generalizing l with
 | nil=>simp[D1]
 | cons x m ih=>
  have h1:=ih (I3 l x);have h2:=oQa l x;show (D1 (I3 l x) m).length<=_;simp only[List.length_cons];omega
structure GrowsP (w0:World)(base:Nat)(v0:Value)(w:World)(v:Value)(ps:List Ls.Pr):Prop where
 pl:PL w base v ps
 grown:w0.grownBy w v0.ownBlock
 row:v.ownBlock=v0.ownBlock\/∃k,v.ownBlock=some k/\w0.heap.size<=k
theorem GrowsP.start {w:World}{base:Nat}{v:Value}{ps:List Ls.Pr}(h:PL w base v ps):GrowsP w base v w v ps:=⟨h,World.grownBy.refl _ _,.inl rfl⟩
theorem GrowsP.block {w0:World}{base:Nat}{v0:Value}{w:World}{v:Value}{ps:List Ls.Pr}(h:GrowsP w0 base v0 w v ps){k:Nat}(hk:k<w0.heap.size)(hne:some k≠v0.ownBlock):w.heap[k]?=w0.heap[k]?/\some k≠v.ownBlock:=by
 refine⟨h.grown.block k hk hne,?_⟩;rcases h.row with e|⟨m,e,hm⟩
 ·rw[e];exact hne
 ·rw[e];intro e2;injection e2 with e2;omega
theorem GrowsP.next {w0:World}{base:Nat}{v0:Value}{w:World}{v:Value}{ps:List Ls.Pr}(h:GrowsP w0 base v0 w v ps){w':World}{v':Value}{ps':List Ls.Pr}(k:GrowsP w base v w' v' ps'):GrowsP w0 base v0 w' v' ps':=by
 refine⟨k.pl,⟨k.grown.os.trans h.grown.os,k.grown.tape.trans h.grown.tape,k.grown.output.trans h.grown.output,Nat.le_trans h.grown.size k.grown.size,fun j hj hne=>?_⟩,?_⟩
 ·obtain⟨h1,h2⟩:=h.block hj hne
  exact(k.grown.block j (Nat.lt_of_lt_of_le hj h.grown.size) h2).trans h1
 ·rcases k.row with e|⟨m,e,hm⟩
  ·rw[e];exact h.row
  ·exact .inr ⟨m,e,Nat.le_trans h.grown.size hm⟩
theorem GrowsP.below {w0:World}{base:Nat}{v0:Value}{w:World}{v:Value}{ps:List Ls.Pr}(h:GrowsP w0 base v0 w v ps){w':World}(hb:Below w.heap.size w w'):GrowsP w0 base v0 w' v ps:=
 h.next ⟨h.pl.below hb,G9 hb _,.inl rfl⟩
def sQm (w:World)(base:Nat)(v:Value)(ps':List Ls.Pr):Ending->World->Prop:=fun e w'=>∃v',e=.returned v'/\GrowsP w base v w' v' ps'
theorem gQr {ph:Nat}{a b:List Nat}{m:Nat}(hm:m<a.length):E5 ph (a.take (m+1)) b=E5 ph (a.take m) b++b.map fun y=>(ph,a[m],y):=by
 unfold E5;rw[List.take_succ_eq_append_getElem hm,List.flatMap_append];simp
theorem cQx (ph:Nat)(a b:List Nat):(E5 ph a b).length=a.length*b.length:=by
 induction a with
 | nil=>simp[E5]
 | cons x a ih=>
  unfold E5 at ih ⊢;rw[List.flatMap_cons,List.length_append,ih];simp[Nat.add_mul];omega
theorem qQf {ph:Nat}{a b:List Nat}{m n:Nat}(hm:m<a.length)(x:Nat):(E5 ph (a.take m) b++(b.take n).map fun y=>(ph,x,y)).length<=(E5 ph a b).length:=by
 rw[List.length_append,cQx,cQx,List.length_take,List.length_map,List.length_take];have h1:(m+1)*b.length<=a.length*b.length:=Nat.mul_le_mul_right _ hm;have h2:min m a.length*b.length<=m*b.length:=Nat.mul_le_mul_right _ (by omega);rw[Nat.add_mul]at h1;omega
theorem gQy {ph:Nat}{b:List Nat}{n:Nat}(hn:n<b.length)(x:Nat)(l:List Ls.Pr):l++(b.take (n+1)).map (fun y=>(ph,x,y))=(l++(b.take n).map fun y=>(ph,x,y))++[(ph,x,b[n])]:=by
 simp only[List.take_succ_eq_append_getElem hn,List.map_append,List.map_cons,List.map_nil,List.append_assoc]
theorem jQt (w:World)(base:Nat)(hbase:base<=w.heap.size)(v:Value)(ps:List Ls.Pr)(h:PL w base v ps)(hne:ps≠[])(G:Nat->Prop)(hG:Old w G)(hA:∀k,G k->some k≠v.ownBlock)
  (va vb:Value) (a b:List Nat) (ha:IV w G va a) (hb:IV w G vb b) (hla:a.length<=1000000) (hlb:b.length<=1000000) (ph:Nat) (hn:ps.length+(E5 ph a b).length<=4000000000000) :
  Calls Tryz.prog 36 #[v,va,vb,.int .i64 ph] w (sQm w base v (D1 ps (E5 ph a b))):=by
 obtain⟨aa,ca,rfl,haa⟩:=ha.shape;obtain⟨ab,cb,rfl,hab⟩:=hb.shape;clear ha hb;go_enter Tryz.func36,Tryz.ntmps36;go_wp2_with fail;have Haa:Hid (0<a.length->∃g,aa=some ⟨g,0,none⟩/\G g/\∀i (h:i<a.length),w.cell? ⟨g,i,none⟩=some (.int .i64 a[i])):=haa;have Hab:Hid (0<b.length->∃g,ab=some ⟨g,0,none⟩/\G g/\∀i (h:i<b.length),w.cell? ⟨g,i,none⟩=some (.int .i64 b[i])):=hab;have HG:Hid (∀k,G k->k<w.heap.size/\some k≠v.ownBlock):=fun k hk=>⟨hG k hk,hA k hk⟩;clear haa hab hG hA;go_loopw [0,9] (fun l i wr=>∃m:Nat,m<=a.length/\i=.int .i64 m/\GrowsP w base v wr l (D1 ps (E5 ph (a.take m) b))) (fun _ i _=>a.length-(intOf i).toNat)
 case atStart=>exact⟨0,Nat.zero_le _,rfl,GrowsP.start h⟩
 case round=>
  obtain⟨m,hm,rfl,gr⟩:=hrel
  by_cases hlm:m<a.length
  ·obtain⟨ga,rfl,hga,hca⟩:=Haa.out (by omega)
   have Hca:Hid (∀i (h:i<a.length),w.cell? ⟨ga,i,none⟩=some (.int .i64 a[i])):=hca;clear hca;go_wp2_with fail;go_loopw [0,10] (fun l i wx=>∃n:Nat,n<=b.length/\i=.int .i64 n/\GrowsP w base v wx l (D1 ps (E5 ph (a.take m) b++(b.take n).map fun y=>(ph,a[m],y)))) (fun _ i _=>b.length-(intOf i).toNat)
   case atStart=>exact⟨0,Nat.zero_le _,rfl,by simpa using gr⟩
   case round=>
    obtain⟨n,hn2,rfl,gx⟩:=hrel
    by_cases hln:n<b.length
    ·obtain⟨gb,rfl,hgb,hcb⟩:=Hab.out (by omega)
     have kb:∀k,G k->wr.heap[k]?=w.heap[k]?/\some k≠u0.ownBlock:=fun k hk=>gx.block (HG.out k hk).1 (HG.out k hk).2;have e0:wr.cell? ⟨ga,m,none⟩=some (.int .i64 a[m]):=(P9 (kb ga hga).1 m).trans (Hca.out m hlm);have e1:wr.cell? ⟨gb,n,none⟩=some (.int .i64 b[n]):=(P9 (kb gb hgb).1 n).trans (hcb n hln);have hgl:ga<wr.heap.size:=Nat.lt_of_lt_of_le (HG.out ga hga).1 gx.grown.size;have hgl2:gb<wr.heap.size:=Nat.lt_of_lt_of_le (HG.out gb hgb).1 gx.grown.size;have hna:=(kb ga hga).2;have hnb:=(kb gb hgb).2;have HC:Hid (∀W,Below wr.heap.size wr W->Calls Tryz.prog 37 #[u0,.agg #[.int .i64 ph,.int .i64 a[m],.int .i64 b[n]]] W fun e w3=>∃x1 x2 x3,e=.returned (.slice x1 x2 x3)/\GrowsP w base v w3 (.slice x1 x2 x3) (D1 ps (E5 ph (a.take m) b++(b.take (n+1)).map fun y=>(ph,a[m],y)))/\w3.cell? ⟨ga,m,none⟩=some (.int .i64 a[m])/\w3.cell? ⟨gb,n,none⟩=some (.int .i64 b[n])):=by
      intro W hW;have gW:=gx.below hW;have hl1:=nQm ps (E5 ph (a.take m) b++(b.take n).map fun y=>(ph,a[m],y));have hl2:=qQf (ph:=ph) (b:=b) (n:=n) hlm a[m];refine(eQb W base (by have:=gW.grown.size;omega) u0 _ gW.pl (bQa hne _) (by omega) (ph,a[m],b[n])).mono ?_;rintro e w3 ⟨v3,rfl,hp3,hg3,hr3⟩;have hsh:=J1 hp3;have g3:GrowsP W base u0 w3 v3 (I3 (D1 ps (E5 ph (a.take m) b++(b.take n).map fun y=>(ph,a[m],y))) (ph,a[m],b[n])):=⟨hp3,hg3,hr3⟩;have key:GrowsP w base v w3 v3 (D1 ps (E5 ph (a.take m) b++(b.take (n+1)).map fun y=>(ph,a[m],y))):=by
       rw[gQy hln,cQ4];exact gW.next g3
      have hz:=hW.size;have c1:w3.cell? ⟨ga,m,none⟩=some (.int .i64 a[m]):=(P9 ((hg3.block ga (by omega) hna).trans (hW.block ga hgl)) m).trans e0;have c2:w3.cell? ⟨gb,n,none⟩=some (.int .i64 b[n]):=(P9 ((hg3.block gb (by omega) hnb).trans (hW.block gb hgl2)) n).trans e1;rcases hsh with⟨rfl,_⟩|⟨g,cap,rfl⟩
      ·exact⟨_,_,_,rfl,key,c1,c2⟩
      ·exact⟨_,_,_,rfl,key,c1,c2⟩
     clear gx hna hnb kb gr hcb Haa Hab;go_wp2_with fail;go_region_held (fun w'=>w'.cell? ⟨ga,m,none⟩=some (.int .i64 a[m])/\w'.cell? ⟨gb,n,none⟩=some (.int .i64 b[n])) (first|assumption|go_keep) ((go_at_call 37;refine(HC.out _ ?_).mono ?_;exact(Below.refl _ _).drew;rintro e w3 ⟨x1,x2,x3,rfl,g3,c1,c2⟩;have hs3:w3.cell? ⟨ga,m,none⟩=some (.int .i64 a[m])/\w3.cell? ⟨gb,n,none⟩=some (.int .i64 b[n]):=⟨c1,c2⟩))
     go_wp2_with fail;go_roundw
     case rel=>exact⟨n+1,by omega,by go_num,g3⟩
     case measure=>simp[intOf];omega
    ·go_wp2_with fail
     go_roundw
     case rel=>
      refine⟨m+1,by omega,by go_num,?_⟩;rw[gQr hlm];rw[show b.take n=b from List.take_of_length_le (by omega)]at gx;exact gx
     case measure=>simp[intOf];omega
  ·go_wp2_with fail
   go_ret;rw[show a.take m=a from List.take_of_length_le (by omega)]at gr;exact⟨_,rfl,gr⟩
theorem iQv:(Tryz.prog.info? 9).map (fun i=>(i.zero,i.size,i.bytes))=some (some (.string ⟨#[]⟩),1,16):=by kernel_rfl
abbrev F4 (g:List UInt8):Value:=.string ⟨g.toArray⟩
structure SV (w:World)(base:Nat)(v:Value)(ss:List (List UInt8)):Prop where
 own:w.ownsRow base 9 1 v ss.length (ss.map F4)
 nil:ss=[]->v=.slice none 0 0
theorem SV.below {w w':World}{base:Nat}{v:Value}{ss:List (List UInt8)}(h:SV w base v ss)(hb:Below w.heap.size w w'):SV w' base v ss:=
 ⟨h.own.kept (G9 hb none) (by cases hv:v.ownBlock<;>simp),h.nil⟩
theorem SV.empty (w:World)(base:Nat):SV w base (.slice none 0 0) []:=⟨World.ownsRow_nil _ _ _ _,fun _=>rfl⟩
theorem SV.weak {w:World}{base base':Nat}(hb:base<=base'){v:Value}{ss:List (List UInt8)}(h:SV w base' v ss):SV w base v ss:=by
 refine⟨⟨h.own.1,h.own.2.imp id ?_⟩,h.nil⟩;rintro ⟨g,cap,cur,hv,hg,r⟩;exact⟨g,cap,cur,hv,Nat.le_trans hb hg,r⟩
theorem T6 {w:World}{ops:Array Oper}{rest:List Oper}{o:Oper}{a:Act}{Q:Exit->Act->World->Prop}(hgd:o.guard=none)(s x:Operand)
  (ho:o.op=.call {callee:=.builtin .append,args:=#[s,x],argTypes:=#[41,41]})
  (base base':Nat) (v vm:Value) (ss ms:List (List UInt8)) (hs:a.eval s=v) (hx:a.eval x=vm) (hv:SV w base v ss) (hm:SV w base' vm ms) (hn:ss.length+ms.length<=1000000000000) (hbase:base<=w.heap.size)
  (h:∀v' w',SV w' base v' (ss++ms)->w.grownBy w' v.ownBlock->(v'.ownBlock=v.ownBlock\/∃k,v'.ownBlock=some k/\w.heap.size<=k)->wpList Tryz.prog ops Q rest (a.put o.dst v') w'):wpList Tryz.prog ops Q (o::rest) a w:=by
 obtain⟨i,hi,hz0,hz1,hzb⟩:=info_parts iQv;rcases J1 hm.own with⟨e,h0⟩|⟨g,cap,e⟩
 ·have:ms=[]:=List.eq_nil_of_length_eq_zero h0
  subst this;subst e;have hr:=run_append_owned_none (P:=Tryz.prog) (w:=w) base 41 o.type 9 i 1 Tryz.underlying41 hi v ss.length (ss.map F4) hv.own;refine wpList_plain hgd fun K hK'=>?_;unfold Oper.wp;simp[execOp,ho,resolve,invoke,builtin,hs,hx,hr,Result.andThen];exact hK' _ _ (h v w (by simpa using hv) (World.grownBy.refl _ _) (.inl rfl))
 ·have hne:0<ms.length:=by
   rcases Nat.eq_zero_or_pos ms.length with h0|h0
   ·have:=hm.nil (List.eq_nil_of_length_eq_zero h0)
    rw[e]at this;cases this
   ·exact h0
  have hmo:=hm.own;rw[e]at hmo hx;refine K3 w hgd s x 41 ho base 9 i _ 1 16 Tryz.underlying41 hi hz0 hz1 hzb rfl (by omega) v ss.length (ss.map F4) hs hv.own ⟨g,0,none⟩ ms.length cap (ms.map F4) hx (by simp) ?_ ?_ ?_ ?_ hbase hne ?_
  ·exact hmo.cells rfl
  ·intro u hu
   obtain⟨t,_,rfl⟩:=List.mem_map.1 hu;rfl
  ·unfold maxLen;omega
  ·omega
  ·intro v' w' ho' hg hr
   refine h v' w' ⟨?_,fun e=>?_⟩ hg hr
   ·rw[List.length_append,List.map_append];exact ho'
   ·rw[List.append_eq_nil_iff]at e
    rw[e.2]at hne;simp at hne
def jQg (p:Ls.Pat)(w:World):Ending->World->Prop:=fun e w'=>∃v,e=.returned v/\SV w' w.heap.size v (Ls.yQh p)/\Below w.heap.size w w'
def N7 (p:Ls.Pat):Prop:=Ls.nd p<=1000000000->∀(y:Value) (w:World) (G:Nat->Prop),Old w G->PV w G p y->Calls Tryz.prog 62 #[A7 p y] w (jQg p w)
theorem sets_none:N7 Ls.none:=by
 intro _ y w G hG hp;have hy:y=.slice none 0 0:=hp;subst hy;clear hp;show Calls _ _ #[.agg #[.int .i64 0,.string ⟨#[]⟩,.slice none 0 0]] w _;go_enter Tryz.func62,Tryz.ntmps62;go_wp2_with fail;refine wp_loop_rounds 1 ?_;rw[rounds_succ];go_wp2_with fail;go_ret;exact⟨_,rfl,by rw[Ls.sets_none];exact SV.empty _ _,A4 _ _⟩
theorem sets_set (s:List UInt8):N7 (Ls.set s):=by
 intro _ y w G hG hp;have hy:y=.slice none 0 0:=hp;subst hy;clear hp;show Calls _ _ #[.agg #[.int .i64 1,.string ⟨s.toArray⟩,.slice none 0 0]] w _;go_enter Tryz.func62,Tryz.ntmps62;go_wp2_with fail;go_ret;refine⟨_,rfl,⟨?_,by rw[Ls.sets_set];simp⟩,C0 _ _ _⟩;rw[Ls.sets_set];have h:=World.ownsRow_lit (e:=9) (size:=1) (base:=w.heap.size) (w.alloc (.cells #[.int .i64 1,.string ⟨s.toArray⟩,.slice none 0 0] 27)) #[F4 s] 1 (by simp) (by unfold maxLen;omega) rfl;simpa using h
theorem V6 (p:Ls.Pat)(hp:Ls.wf p):(Ls.yQh p).length<=Ls.nd p:=by
 refine Ls.ind (P:=fun p=>(Ls.yQh p).length<=Ls.nd p) ?_ ?_ ?_ ?_ ?_ p hp
 ·simp[Ls.sets_none]
 ·intro s _;rw[Ls.sets_set];simp[Ls.set,Ls.nd]
 ·intro a b _ _ _ _ ha hb;rw[Ls.yQc,Ls.yQ4,List.length_append];omega
 ·intro a b _ _ ha hb;rw[Ls.zQq,Ls.aXh,List.length_append];omega
 ·intro a _ ha;rw[Ls.sets_star,Ls.yQr];exact ha
theorem sets_star (a:Ls.Pat)(wa:Ls.wf a)(ha:N7 a):N7 (Ls.wQ9 a):=by
 intro hn sl w G hG hp;rw[Ls.yQr]at hn;obtain⟨g,y,hg,rfl,hl,h1⟩:=hp;have hgl:=hl.lt;obtain⟨c0,c1,c2⟩:=hl.three;clear hg;show Calls _ _ #[.agg #[.int .i64 4,.string ⟨#[]⟩,.slice (some ⟨g,0,none⟩) 1 1]] w _;go_enter Tryz.func62,Tryz.ntmps62;go_wp2_with fail;refine wp_loop_rounds 2 ?_;rw[rounds_succ];go_wp2_with fail;refine(ha hn y _ G (Old.alloc hG _) (h1.below (A4 _ _) hG fun _ h=>h)).mono ?_;rintro e w1 ⟨v1,rfl,hs1,hb1⟩;obtain⟨d1,d2⟩:=K4 hb1;have d3:=aQq (A4 _ _) hb1 hgl;have hz:=hb1.size;simp at hz;have hsl:=V6 a wa;have hs0:=SV.empty w1 w.heap.size;go_wp2_with (at_builtin;refine T6 rfl _ _ rfl w.heap.size _ (.slice none 0 0) v1 [] (Ls.yQh a) rfl rfl hs0 hs1 (by simp;omega) (by omega) ?_)
 intro v2 w2 hs2 hg2 hr2;have hb2:Below w1.heap.size w1 w2:=(Below.refl _ _).grown hg2 (Nat.le_refl _) (by simp[Value.ownBlock]);obtain⟨e1,e2⟩:=K4 hb2;have hz2:w.heap.size<w1.heap.size:=by omega
 go_wp2_with fail;rw[rounds_succ];go_wp2_with fail;go_ret;exact⟨_,rfl,by rw[Ls.sets_star];simpa using hs2,Below.join (Below.join (A4 _ _) hb1) hb2⟩
theorem lQf (a b:Ls.Pat)(wa:Ls.wf a)(wb:Ls.wf b)(ha:N7 a)(hb:N7 b):N7 (Ls.yQn a b):=by
 intro hn sl w G hG hp;rw[Ls.yQ4]at hn;obtain⟨g,y,z,hg,rfl,hl,h1,h2⟩:=hp;have hgl:=hl.lt;obtain⟨c0,c1,c2,c3,c4,c5⟩:=hl.six;clear hg;show Calls _ _ #[.agg #[.int .i64 2,.string ⟨#[]⟩,.slice (some ⟨g,0,none⟩) 2 2]] w _;go_enter Tryz.func62,Tryz.ntmps62;go_wp2_with fail;refine wp_loop_rounds 3 ?_;rw[rounds_succ];go_wp2_with fail;refine(ha (by omega) y _ G (Old.alloc hG _) (h1.below (A4 _ _) hG fun _ h=>h)).mono ?_;rintro e w1 ⟨v1,rfl,hs1,hb1⟩;have hb01:=Below.join (A4 _ _) hb1;have hz:=hb1.size;simp at hz;have hsl:=V6 a wa;have hsm:=V6 b wb;have hs0:=SV.empty w1 w.heap.size;go_wp2_with (at_builtin;refine T6 rfl _ _ rfl w.heap.size _ (.slice none 0 0) v1 [] (Ls.yQh a) rfl rfl hs0 hs1 (by simp;omega) (by omega) ?_)
 intro v2 w2 hs2 hg2 hr2;have hb2:Below w1.heap.size w1 w2:=(Below.refl _ _).grown hg2 (Nat.le_refl _) (by simp[Value.ownBlock]);have hb02:=Below.join hb01 hb2;have hz2:=hb2.size;have hcc:∀o,w2.cell? ⟨g,o,none⟩=w.cell? ⟨g,o,none⟩:=fun o=>hb02.cell (p:=⟨g,o,none⟩) hgl;have hcw:w2.cell? ⟨w.heap.size,2,none⟩=some (.slice (some ⟨g,0,none⟩) 2 2):=
  ((Below.join hb1 hb2).cell (p:=⟨w.heap.size,2,none⟩) (by simp)).trans ((C1 w (B7 (Ls.yQn a b) (.slice (some ⟨g,0,none⟩) 2 2))).cell 2)
 have q3:=(hcc 3).trans c3;have q4:=(hcc 4).trans c4;have q5:=(hcc 5).trans c5;clear hcc c0 c1 c2 c3 c4 c5;go_wp2_with fail;rw[rounds_succ];go_wp2_with fail;refine(hb (by omega) z _ G (Old.below hG hb02) (h2.below hb02 hG fun _ h=>h)).mono ?_;rintro e w3 ⟨v3,rfl,hs3,hb3⟩;have hz3:=hb3.size;have hs23:=hs2.below hb3;have hp3:w3.cell? ⟨w.heap.size,2,none⟩=some (.slice (some ⟨g,0,none⟩) 2 2):=(hb3.cell (p:=⟨w.heap.size,2,none⟩) (by show w.heap.size<_;omega)).trans hcw;clear q3 q4 q5 hcw;go_wp2_with (at_builtin;refine T6 rfl _ _ rfl w.heap.size _ v2 v3 (Ls.yQh a) (Ls.yQh b) rfl rfl hs23 hs3 (by omega) (by omega) ?_)
 intro v4 w4 hs4 hg4 hr4;have hv2:∀k,v2.ownBlock=some k->w1.heap.size<=k:=by
  intro k e;rcases hr2 with e2|⟨m,e2,hm⟩
  ·rw[e]at e2;simp[Value.ownBlock]at e2
  ·rw[e]at e2;injection e2 with e2;omega
 have hp4:w4.cell? ⟨w.heap.size,2,none⟩=some (.slice (some ⟨g,0,none⟩) 2 2):=by
  refine(P9 (hg4.block w.heap.size (by omega) ?_) 2).trans hp3;intro e;have:=hv2 _ e.symm;omega
 have hb4:Below w.heap.size w w4:=(Below.join hb02 hb3).grown hg4 (by omega) (fun k e=>by have:=hv2 k e;omega);clear hp3;go_wp2_with fail;rw[rounds_succ];go_wp2_with fail;go_ret;exact⟨_,rfl,by rw[Ls.yQc];exact hs4,hb4⟩
theorem vQg (a b:Ls.Pat)(wa:Ls.wf a)(wb:Ls.wf b)(ha:N7 a)(hb:N7 b):N7 (Ls.any a b):=by
 intro hn sl w G hG hp;rw[Ls.aXh]at hn;obtain⟨g,y,z,hg,rfl,hl,h1,h2⟩:=hp;have hgl:=hl.lt;obtain⟨c0,c1,c2,c3,c4,c5⟩:=hl.six;clear hg;show Calls _ _ #[.agg #[.int .i64 3,.string ⟨#[]⟩,.slice (some ⟨g,0,none⟩) 2 2]] w _;go_enter Tryz.func62,Tryz.ntmps62;go_wp2_with fail;refine wp_loop_rounds 3 ?_;rw[rounds_succ];go_wp2_with fail;refine(ha (by omega) y _ G (Old.alloc hG _) (h1.below (A4 _ _) hG fun _ h=>h)).mono ?_;rintro e w1 ⟨v1,rfl,hs1,hb1⟩;have hb01:=Below.join (A4 _ _) hb1;have hz:=hb1.size;simp at hz;have hsl:=V6 a wa;have hsm:=V6 b wb;have hs0:=SV.empty w1 w.heap.size;go_wp2_with (at_builtin;refine T6 rfl _ _ rfl w.heap.size _ (.slice none 0 0) v1 [] (Ls.yQh a) rfl rfl hs0 hs1 (by simp;omega) (by omega) ?_)
 intro v2 w2 hs2 hg2 hr2;have hb2:Below w1.heap.size w1 w2:=(Below.refl _ _).grown hg2 (Nat.le_refl _) (by simp[Value.ownBlock]);have hb02:=Below.join hb01 hb2;have hz2:=hb2.size;have hcc:∀o,w2.cell? ⟨g,o,none⟩=w.cell? ⟨g,o,none⟩:=fun o=>hb02.cell (p:=⟨g,o,none⟩) hgl;have hcw:w2.cell? ⟨w.heap.size,2,none⟩=some (.slice (some ⟨g,0,none⟩) 2 2):=
  ((Below.join hb1 hb2).cell (p:=⟨w.heap.size,2,none⟩) (by simp)).trans ((C1 w (B7 (Ls.any a b) (.slice (some ⟨g,0,none⟩) 2 2))).cell 2)
 have q3:=(hcc 3).trans c3;have q4:=(hcc 4).trans c4;have q5:=(hcc 5).trans c5;clear hcc c0 c1 c2 c3 c4 c5;go_wp2_with fail;rw[rounds_succ];go_wp2_with fail;refine(hb (by omega) z _ G (Old.below hG hb02) (h2.below hb02 hG fun _ h=>h)).mono ?_;rintro e w3 ⟨v3,rfl,hs3,hb3⟩;have hz3:=hb3.size;have hs23:=hs2.below hb3;have hp3:w3.cell? ⟨w.heap.size,2,none⟩=some (.slice (some ⟨g,0,none⟩) 2 2):=(hb3.cell (p:=⟨w.heap.size,2,none⟩) (by show w.heap.size<_;omega)).trans hcw;clear q3 q4 q5 hcw;go_wp2_with (at_builtin;refine T6 rfl _ _ rfl w.heap.size _ v2 v3 (Ls.yQh a) (Ls.yQh b) rfl rfl hs23 hs3 (by omega) (by omega) ?_)
 intro v4 w4 hs4 hg4 hr4;have hv2:∀k,v2.ownBlock=some k->w1.heap.size<=k:=by
  intro k e;rcases hr2 with e2|⟨m,e2,hm⟩
  ·rw[e]at e2;simp[Value.ownBlock]at e2
  ·rw[e]at e2;injection e2 with e2;omega
 have hp4:w4.cell? ⟨w.heap.size,2,none⟩=some (.slice (some ⟨g,0,none⟩) 2 2):=by
  refine(P9 (hg4.block w.heap.size (by omega) ?_) 2).trans hp3;intro e;have:=hv2 _ e.symm;omega
 have hb4:Below w.heap.size w w4:=(Below.join hb02 hb3).grown hg4 (by omega) (fun k e=>by have:=hv2 k e;omega);clear hp3;go_wp2_with fail;rw[rounds_succ];go_wp2_with fail;go_ret;exact⟨_,rfl,by rw[Ls.zQq];exact hs4,hb4⟩
theorem gQ1 (p:Ls.Pat)(h:Ls.wf p):N7 p:=
 Ls.ind sets_none (fun s _=>sets_set s) (fun a b wa wb _ _=>lQf a b wa wb) (fun a b wa wb=>vQg a b wa wb) (fun a wa=>sets_star a wa) p h
def E0 (l:List (List UInt8))(c:UInt8):List UInt8:=l.map fun g=>if Ls.has g c=true then 49 else 48
theorem nQj {l:List (List UInt8)}{c d:UInt8}(h:E0 l c=E0 l d):∀g,g∈l->Ls.has g c=Ls.has g d:=by
 induction l with
 | nil=>intro g hg;simp at hg
 | cons x l ih=>
  simp only[E0,List.map_cons,List.cons.injEq]at h;intro g hg;simp only[List.mem_cons]at hg;rcases hg with rfl|hg
  ·have h1:=h.1
   cases hc:Ls.has g c<;>cases hd:Ls.has g d<;>simp[hc,hd]at h1<;>rfl
  ·exact ih h.2 g hg
theorem mQ0 {l:List (List UInt8)}{c:UInt8}{i:Nat}(h:i<l.length):E0 (l.take (i+1)) c=E0 (l.take i) c++[if Ls.has l[i] c=true then 49 else 48]:=by
 unfold E0;simp only[List.take_succ_eq_append_getElem h,List.map_append,List.map_cons,List.map_nil]
theorem qQi (l:List (List UInt8))(c:UInt8):(E0 l c).length=l.length:=by simp[E0]
theorem iQo (k:Nat)(w:World)(hk:k<256):Calls Tryz.prog 63 #[.int .u8 (k:Int)] w fun e w'=>e=.returned (.bool (Ls.xQ6 (UInt8.ofNat k)))/\w'=w:=by
 have h:=I1 (UInt8.ofNat k) w;rw[show ((UInt8.ofNat k).toNat:Int)=(k:Int) from by simp;omega]at h;exact h
theorem hQw (p:Ls.Pat)(hp:Ls.wf p):∀g,g∈Ls.yQh p->g.length<=Ls.ks p:=by
 refine Ls.ind (P:=fun p=>∀g,g∈Ls.yQh p->g.length<=Ls.ks p) ?_ ?_ ?_ ?_ ?_ p hp
 ·simp[Ls.sets_none]
 ·intro s _ g hg;rw[Ls.sets_set]at hg;simp only[List.mem_singleton]at hg;subst hg;rw[Ls.bXm];omega
 ·intro a b _ _ _ _ ha hb g hg
  rw[Ls.yQc,List.mem_append]at hg;rw[Ls.aXn];rcases hg with hg|hg
  ·have:=ha g hg;omega
  ·have:=hb g hg;omega
 ·intro a b _ _ ha hb g hg
  rw[Ls.zQq,List.mem_append]at hg;rw[Ls.aXy];rcases hg with hg|hg
  ·have:=ha g hg;omega
  ·have:=hb g hg;omega
 ·intro a _ ha g hg
  rw[Ls.sets_star]at hg;rw[Ls.yQa];have:=ha g hg;omega
theorem SV.shape {w:World}{base:Nat}{v:Value}{ss:List (List UInt8)}(h:SV w base v ss):∃ao cap,v=.slice ao ss.length cap/\(0<ss.length->∃g,ao=some ⟨g,0,none⟩/\g<w.heap.size/\∀i (h:i<ss.length),w.cell? ⟨g,i,none⟩=some (F4 ss[i])):=by
 have ho:=h.own;rcases J1 ho with⟨e,h0⟩|⟨g,cap,e⟩
 ·exact⟨_,_,by rw[e,h0],by omega⟩
 ·subst e
  refine⟨_,_,rfl,fun _=>⟨g,rfl,(ho.lt g rfl).2,fun i hi=>?_⟩⟩;rw[ho.cellAt i (by simpa using hi)];simp[hi]
structure Lt (l:List (List UInt8))(out:List UInt8)(k:Nat):Prop where
 all:∀c:UInt8,Ls.xQ6 c=true->c.toNat<k->∃d,d∈out/\E0 l d=E0 l c
 small:out.length+10<=k
theorem dQf {c:UInt8}{k:Nat}(h:c.toNat<k+1):c.toNat<k\/c=UInt8.ofNat k:=by
 rcases Nat.lt_or_ge c.toNat k with h1|h1
 ·exact .inl h1
 ·have:c.toNat=k:=by omega
  subst this;exact .inr (by simp)
theorem Lt.skip {l:List (List UInt8)}{out:List UInt8}{k:Nat}(h:Lt l out k)(hs:Ls.xQ6 (UInt8.ofNat k)=false):Lt l out (k+1):=by
 refine⟨fun c hc hk=>?_,by have:=h.small;omega⟩;rcases dQf hk with h1|rfl
 ·exact h.all c hc h1
 ·rw[hs]at hc;cases hc
theorem Lt.had {l:List (List UInt8)}{out:List UInt8}{k:Nat}(h:Lt l out k)(hs:∃d,d∈out/\E0 l d=E0 l (UInt8.ofNat k)):Lt l out (k+1):=by
 refine⟨fun c hc hk=>?_,by have:=h.small;omega⟩;rcases dQf hk with h1|rfl
 ·exact h.all c hc h1
 ·exact hs
theorem Lt.new {l:List (List UInt8)}{out:List UInt8}{k:Nat}(h:Lt l out k):Lt l (out++[UInt8.ofNat k]) (k+1):=by
 refine⟨fun c hc hk=>?_,by have:=h.small;simp;omega⟩;rcases dQf hk with h1|rfl
 ·obtain⟨d,hd,he⟩:=h.all c hc h1;exact⟨d,by simp[hd],he⟩
 ·exact⟨UInt8.ofNat k,by simp,rfl⟩
theorem Lt.letters {p q:Ls.Pat}{out:List UInt8}(h:Lt (Ls.yQh p++Ls.yQh q) out 127):Ls.zQ4 p q out:=by
 intro c hc;obtain⟨d,hd,he⟩:=h.all c hc (by simp[Ls.xQ6]at hc;omega);exact⟨d,hd,nQj he⟩
theorem gQd (p q:Ls.Pat)(wp:Ls.wf p)(wq:Ls.wf q)(np:Ls.nd p<=1000000000)(nq:Ls.nd q<=1000000000)(kp:Ls.ks p<=4611686018427387904)(kq:Ls.ks q<=4611686018427387904)(y z:Value)(w:World)(G:Nat->Prop)(hG:Old w G)(hp:PV w G p y)(hq:PV w G q z) :
  Calls Tryz.prog 34 #[A7 p y,A7 q z] w fun e w'=>∃L:List UInt8,e=.returned (F4 L)/\Ls.zQ4 p q L/\L.length<=117/\Below w.heap.size w w':=by
 have Hp:Hid (PV w G p y):=hp;have Hq:Hid (PV w G q z):=hq;obtain⟨y1,y2,y3,rfl⟩:=PV.slice _ _ hp;obtain⟨z1,z2,z3,rfl⟩:=PV.slice _ _ hq;clear hp hq;go_enter Tryz.func34,Tryz.ntmps34;go_wp2_with fail;refine(gQ1 p wp np _ _ G (Old.alloc (Old.alloc hG _) _) (Hp.out.below (C0 _ _ _) hG fun _ h=>h)).mono ?_;rintro e w1 ⟨v1,rfl,hs1,hb1⟩;have hb01:=Below.join (C0 _ _ _) hb1;have hz1:=hb1.size;simp at hz1;have hl2:=C1 (w.alloc (.cells #[.int .i64 p.kind,.string ⟨p.signs.toArray⟩,.slice y1 y2 y3] 27)) (B7 q (.slice z1 z2 z3));have hc:∀o,w1.cell? ⟨w.heap.size+1,o,none⟩=(B7 q (.slice z1 z2 z3))[o]?:=fun o=>by
  have h0:=hl2.cell o;rw[show (w.alloc (.cells #[.int .i64 p.kind,.string ⟨p.signs.toArray⟩,.slice y1 y2 y3] 27)).heap.size=w.heap.size+1 by simp]at h0;exact(hb1.cell (p:=⟨w.heap.size+1,o,none⟩) (by simp)).trans h0
 have c0:=hc 0;have c1:=hc 1;have c2:=hc 2;simp only[B7,List.getElem?_cons_zero,List.getElem?_cons_succ]at c0 c1 c2;clear hc hl2;go_wp2_with fail;refine(gQ1 q wq nq _ _ G (Old.below hG hb01) (Hq.out.below hb01 hG fun _ h=>h)).mono ?_;rintro e w2 ⟨v2,rfl,hs2,hb2⟩;have hb02:=Below.join hb01 hb2;have hz2:=hb2.size;have hs12:=(hs1.below hb2).weak (base:=w.heap.size) (by simp;omega);have hsp:=V6 p wp;have hsq:=V6 q wq;have Hsh:Hid (∀g,g∈Ls.yQh p++Ls.yQh q->g.length<=4611686018427387904):=by
  intro g hg;rw[List.mem_append]at hg;rcases hg with hg|hg
  ·have:=hQw p wp g hg;omega
  ·have:=hQw q wq g hg;omega
 clear c0 c1 c2;go_wp2_with (at_builtin;refine T6 rfl _ _ rfl w.heap.size _ v1 v2 (Ls.yQh p) (Ls.yQh q) rfl rfl hs12 hs2 (by omega) (by omega) ?_)
 intro v3 w3 hs3 hg3 hr3;have hb03:Below w.heap.size w w3:=hb02.grown hg3 (by omega) (fun k e=>(hs12.own.lt k e).1);generalize hl:Ls.yQh p++Ls.yQh q=l at *;have hll:l.length<=2000000000:=by rw[<-hl,List.length_append];omega
 clear hs1 hs2 hs12 hb1 hb2 hb01 hb02 hg3 hr3 hz1 hz2 Hp Hq;obtain⟨la,lc,rfl,hlc⟩:=hs3.shape;have Hlc:Hid (0<l.length->∃g,la=some ⟨g,0,none⟩/\g<w3.heap.size/\∀i (h:i<l.length),w3.cell? ⟨g,i,none⟩=some (F4 l[i])):=hlc;clear hlc hs3 hsp hsq;go_wp2_with fail;go_loopw [7,8,9] (fun ov sv cv wr=>∃(k:Nat) (out:List UInt8),k<=127/\cv=.int .i64 k/\ov=F4 out/\SV wr w3.heap.size sv (out.map (E0 l))/\Lt l out k/\Below w3.heap.size w3 wr) (fun _ _ cv _=>127-(intOf cv).toNat)
 case atStart=>exact⟨10,[],by omega,rfl,rfl,SV.empty _ _,⟨fun c hc hk=>by simp[Ls.xQ6]at hc;omega,by simp⟩,Below.refl _ _⟩
 case round=>
  obtain⟨k,out,hk,rfl,rfl,hsv,hlt,hb⟩:=hrel
  by_cases hk126:k<=126
  ·cases hsg:Ls.xQ6 (UInt8.ofNat k) with
   | false=>
    go_wp2_with fail;refine(iQo k _ (by omega)).mono ?_;rintro e w4 ⟨rfl,rfl⟩;go_wp2_with fail;exact⟨⟨k+1,out,by omega,by go_num,rfl,hsv,hlt.skip hsg,hb⟩,by simp[intOf];omega⟩
   | true=>
    go_wp2_with fail;refine(iQo k _ (by omega)).mono ?_;rintro e w4 ⟨rfl,rfl⟩;go_wp2_with fail;go_loop [11,12] (fun mv iv=>∃i:Nat,i<=l.length/\iv=.int .i64 i/\mv=F4 (E0 (l.take i) (UInt8.ofNat k))) (fun _ iv=>l.length-(intOf iv).toNat)
    case atStart=>exact⟨0,Nat.zero_le _,rfl,by simp[E0]⟩
    case round=>
     obtain⟨i,hi,rfl,rfl⟩:=hrel;have hml:=qQi (l.take i) (UInt8.ofNat k);have htl:(l.take i).length<=i:=List.length_take_le _ _
     by_cases hil:i<l.length
     ·obtain⟨g,rfl,hg,hcl⟩:=Hlc.out (by omega)
      have e0:w4.cell? ⟨g,i,none⟩=some (F4 l[i]):=(hb.cell (p:=⟨g,i,none⟩) hg).trans (hcl i hil);have HM:Hid (E0 (l.take (i+1)) (UInt8.ofNat k)=E0 (l.take i) (UInt8.ofNat k)++[if Ls.has l[i] (UInt8.ofNat k)=true then 49 else 48]):=mQ0 hil;have hsi:=Hsh.out l[i] (List.getElem_mem hil);clear hcl;go_wp2_with fail;refine(eQi l[i] k _ (by omega) hsi).mono ?_;rintro e w5 ⟨rfl,rfl⟩;cases hh:Ls.has l[i] (UInt8.ofNat k) with
      | true=>
       go_wp2_with fail;refine⟨⟨i+1,by omega,by go_num,?_⟩,by simp[intOf];omega⟩;rw[HM.out,hh,bQb];rfl
      | false=>
       go_wp2_with fail;refine⟨⟨i+1,by omega,by go_num,?_⟩,by simp[intOf];omega⟩;rw[HM.out,hh,bQb];rfl
     ·have hie:i=l.length:=by omega
      subst hie;rw[List.take_length]at hml ⊢;generalize hmk:E0 l (UInt8.ofNat k)=mk at *;obtain⟨sa,sc,rfl,hsc⟩:=hsv.shape;have Hsc:Hid (0<(out.map (E0 l)).length->∃g,sa=some ⟨g,0,none⟩/\g<w4.heap.size/\∀i (h:i<(out.map (E0 l)).length),w4.cell? ⟨g,i,none⟩=some (F4 (out.map (E0 l))[i])):=hsc;have hol:=hlt.small;clear hsc;rw[List.length_map];go_wp2_with fail;go_loop [14,15] (fun ov iv=>∃(j:Nat) (b:Bool),j<=out.length/\iv=.int .i64 j/\ov=.bool b/\(b=true->∃d,d∈out/\E0 l d=mk)/\(b=false->∀d,d∈out.take j->E0 l d≠mk)) (fun _ iv=>out.length-(intOf iv).toNat)
      case atStart=>exact⟨0,false,Nat.zero_le _,rfl,rfl,by simp,by simp⟩
      case round=>
       obtain⟨j,b,hj,rfl,rfl,hbt,hbf⟩:=hrel;have Hbt:Hid (b=true->∃d,d∈out/\E0 l d=mk):=hbt;have Hbf:Hid (b=false->∀d,d∈out.take j->E0 l d≠mk):=hbf;clear hbt hbf
       by_cases hjl:j<out.length
       ·cases b with
        | true=>
         go_wp2_with fail;exact⟨⟨j+1,true,by omega,by go_num,rfl,Hbt.out,by simp⟩,by simp[intOf];omega⟩
        | false=>
         obtain⟨g,rfl,hg,hcl⟩:=Hsc.out (by simp;omega);have e0:=hcl j (by simpa using hjl);rw[List.getElem_map]at e0;have Hcl:Hid (∀i (h:i<(out.map (E0 l)).length),w4.cell? ⟨g,i,none⟩=some (F4 (out.map (E0 l))[i])):=hcl;clear hcl
         by_cases hm:E0 l out[j]=mk
         ·have hmb:(E0 l out[j]==mk)=true:=by simp[hm]
          have Hm:Hid (E0 l out[j]=mk):=hm;clear hm;go_wp2_with fail;exact⟨⟨j+1,true,by omega,by go_num,rfl,fun _=>⟨out[j],List.getElem_mem hjl,Hm.out⟩,by simp⟩,by simp[intOf];omega⟩
         ·have hmb:(E0 l out[j]==mk)=false:=by simp[hm]
          have Hm:Hid (¬E0 l out[j]=mk):=hm;clear hm;go_wp2_with fail;refine⟨⟨j+1,false,by omega,by go_num,rfl,by simp,fun _ d hd=>?_⟩,by simp[intOf];omega⟩;rw[List.take_succ_eq_append_getElem hjl]at hd;rcases List.mem_append.1 hd with hd|hd
          ·exact Hbf.out rfl d hd
          ·simp only[List.mem_singleton]at hd
           rw[hd];exact Hm.out
       ·cases b with
        | true=>
         go_wp2_with fail;refine⟨⟨k+1,out,by omega,by go_num,rfl,?_,hlt.had (by rw[hmk];exact Hbt.out rfl),hb⟩,by simp[intOf];omega⟩;rw[List.length_map]at hsv;exact hsv
        | false=>
         rw[List.length_map]at hsv;have hza:=hb.size;have hs4:SV (w4.alloc (.cells #[F4 mk] 9)) w3.heap.size (.slice sa out.length sc) (out.map (E0 l)):=hsv.below (A4 _ _);have hs5:SV (w4.alloc (.cells #[F4 mk] 9)) w4.heap.size (.slice (some ⟨w4.heap.size,0,none⟩) 1 1) [mk]:=
          ⟨World.ownsRow_lit (e:=9) (size:=1) w4 #[F4 mk] 1 (Nat.le_refl _) (by unfold maxLen;omega) rfl,by simp⟩
         have hcv:=G5;clear Hsc;go_wp2_with (at_builtin;refine T6 rfl _ _ rfl w3.heap.size w4.heap.size (.slice sa out.length sc) (.slice (some ⟨w4.heap.size,0,none⟩) 1 1) (out.map (E0 l)) [mk] rfl rfl hs4 hs5 (by simp;omega) (by simp;omega) ?_)
         intro v7 w7 hs7 hg7 hr7;have hb7:Below w3.heap.size w3 w7:=(hb.trans ((A4 w4 (.cells #[F4 mk] 9)).mono hza)).grown hg7 (by simp;omega) (fun k e=>(hs4.own.lt k e).1);go_wp2_with fail;have hz7:=hb7.size;refine⟨⟨k+1,out++[UInt8.ofNat k],by omega,by go_num,bQb _ _,?_,hlt.new,hb7.alloc hz7 _⟩,by simp[intOf];omega⟩;rw[List.map_append,List.map_cons,List.map_nil,hmk];exact hs7.below (A4 _ _)
  ·go_wp2_with fail
   go_ret;have:k=127:=by omega
   subst this;exact⟨out,rfl,Lt.letters (by rw[hl];exact hlt),by have:=hlt.small;omega,Below.join hb03 hb⟩
def K8 (w:World)(vs:List Value)(k:Nat):Prop:=k<w.heap.size/\∀u,u∈vs->u.ownBlock≠some k
structure Dis (B:Nat)(w:World)(vs:List Value):Prop where
 lt:∀u,u∈vs->∀k,u.ownBlock=some k->B<=k/\k<w.heap.size
 ne:∀(i j:Nat) (u v:Value),i≠j->vs[i]?=some u->vs[j]?=some v->∀k,u.ownBlock=some k->v.ownBlock≠some k
def Moved (w w':World)(vs vs':List Value):Prop:=∀k,K8 w vs k->K8 w' vs' k/\w'.heap[k]?=w.heap[k]?
theorem aQf {vs:List Value}{i j:Nat}{v' u:Value}(h:(vs.set i v')[j]?=some u):(j=i/\u=v')\/(j≠i/\vs[j]?=some u):=by
 rw[List.getElem?_set]at h
 by_cases hij:i=j
 ·rw[if_pos hij]at h
  by_cases hl:i<vs.length
  ·rw[if_pos hl]at h;injection h with h;exact .inl ⟨hij.symm,h.symm⟩
  ·rw[if_neg hl]at h;cases h
 ·rw[if_neg hij]at h;exact .inr ⟨fun e=>hij e.symm,h⟩
theorem Dis.set {B:Nat}{w w':World}{vs:List Value}(h:Dis B w vs){i:Nat}{v v':Value}(hi:vs[i]?=some v)(hg:w.grownBy w' v.ownBlock)
  (hv:v'.ownBlock=v.ownBlock\/∃k,v'.ownBlock=some k/\w.heap.size<=k) (hlt:∀k,v'.ownBlock=some k->B<=k/\k<w'.heap.size) :
  Dis B w' (vs.set i v')/\Moved w w' vs (vs.set i v')/\(∀(j:Nat) (u:Value),j≠i->vs[j]?=some u->∀k,u.ownBlock=some k->w'.heap[k]?=w.heap[k]?):=by
 have hmem:v∈vs:=List.mem_of_getElem? hi;have other:∀(j:Nat) (u:Value),j≠i->vs[j]?=some u->∀k,u.ownBlock=some k->v'.ownBlock≠some k:=by
  intro j u hj hu k hk e;rcases hv with e2|⟨m,e2,hm⟩
  ·rw[e2]at e;exact h.ne j i u v hj hu hi k hk e
  ·rw[e2]at e;injection e with e;have:=(h.lt u (List.mem_of_getElem? hu) k hk).2;omega
 refine⟨⟨?_,?_⟩,?_,?_⟩
 ·intro u hu k hk
  obtain⟨j,hj⟩:=List.getElem?_of_mem hu;rcases aQf hj with⟨_,rfl⟩|⟨_,hj⟩
  ·exact hlt k hk
  ·have:=h.lt u (List.mem_of_getElem? hj) k hk
   exact⟨this.1,Nat.lt_of_lt_of_le this.2 hg.size⟩
 ·intro a b u x hab hu hx k hk e
  rcases aQf hu with⟨rfl,rfl⟩|⟨ha,hu2⟩
  ·rcases aQf hx with⟨rfl,_⟩|⟨hb,hx⟩
   ·exact hab rfl
   ·exact other b x hb hx k e hk
  ·rcases aQf hx with⟨rfl,rfl⟩|⟨hb,hx⟩
   ·exact other a u ha hu2 k hk e
   ·exact h.ne a b u x hab hu2 hx k hk e
 ·intro k hk
  have hne:some k≠v.ownBlock:=fun e=>hk.2 v hmem e.symm;refine⟨⟨Nat.lt_of_lt_of_le hk.1 hg.size,fun u hu=>?_⟩,hg.block k hk.1 hne⟩;obtain⟨j,hj⟩:=List.getElem?_of_mem hu;rcases aQf hj with⟨_,rfl⟩|⟨_,hj⟩
  ·rcases hv with e2|⟨m,e2,hm⟩
   ·rw[e2];exact hk.2 v hmem
   ·rw[e2];intro e;injection e with e;have:=hk.1;omega
  ·exact hk.2 u (List.mem_of_getElem? hj)
 ·intro j u hj hu k hk
  exact hg.block k (h.lt u (List.mem_of_getElem? hu) k hk).2 (fun e=>h.ne j i u v hj hu hi k hk e.symm)
theorem Dis.below {B:Nat}{w w':World}{vs:List Value}(h:Dis B w vs)(hb:Below w.heap.size w w'):Dis B w' vs/\Moved w w' vs vs:=
 ⟨⟨fun u hu k hk=>⟨(h.lt u hu k hk).1,Nat.lt_of_lt_of_le (h.lt u hu k hk).2 hb.size⟩,h.ne⟩,fun k hk=>⟨⟨Nat.lt_of_lt_of_le hk.1 hb.size,hk.2⟩,hb.block k hk.1⟩⟩
theorem Dis.push {B:Nat}{w:World}{vs:List Value}(h:Dis B w vs):Dis B w (.slice none 0 0::vs)/\Moved w w vs (.slice none 0 0::vs):=by
 refine⟨⟨fun u hu k hk=>?_,fun i j u v hij hu hv k hk=>?_⟩,fun k hk=>⟨⟨hk.1,fun u hu=>?_⟩,rfl⟩⟩
 ·simp only[List.mem_cons]at hu
  rcases hu with rfl|hu
  ·simp[Value.ownBlock]at hk
  ·exact h.lt u hu k hk
 ·cases i with
  | zero=>simp at hu;subst hu;simp[Value.ownBlock]at hk
  | succ i=>
   cases j with
   | zero=>simp at hv;subst hv;simp[Value.ownBlock]
   | succ j=>exact h.ne i j u v (by omega) (by simpa using hu) (by simpa using hv) k hk
 ·simp only[List.mem_cons]at hu
  rcases hu with rfl|hu
  ·simp[Value.ownBlock]
  ·exact hk.2 u hu
theorem Dis.pop {B:Nat}{w:World}{v:Value}{vs:List Value}(h:Dis B w (v::vs)):Dis B w vs/\Moved w w (v::vs) vs/\(∀k,v.ownBlock=some k->K8 w vs k):=by
 refine⟨⟨fun u hu=>h.lt u (by simp[hu]),fun i j u x hij hu hx=>h.ne (i+1) (j+1) u x (by omega) (by simpa using hu) (by simpa using hx)⟩,fun k hk=>⟨⟨hk.1,fun u hu=>hk.2 u (by simp[hu])⟩,rfl⟩,fun k hk=>⟨(h.lt v (by simp) k hk).2,fun u hu=>?_⟩⟩;obtain⟨j,hj⟩:=List.getElem?_of_mem hu;exact h.ne 0 (j+1) v u (by omega) (by simp) (by simpa using hj) k hk
theorem F0 {w w':World}{base:Nat}{e:TypeId}{size:Nat}{v:Value}{n:Nat}{xs:List Value}(h:w.ownsRow base e size v n xs)(hb:∀k,v.ownBlock=some k->w'.heap[k]?=w.heap[k]?):w'.ownsRow base e size v n xs:=by
 refine⟨h.1,?_⟩;rcases h.2 with h2|⟨g,cap,cur,rfl,hbg,hg,r⟩
 ·exact .inl h2
 ·exact .inr ⟨g,cap,cur,rfl,hbg,by rw[hb g rfl];exact hg,r⟩
def VV (w:World)(G:Nat->Prop)(v:Value)(xs:List Value):Prop:=
 (v=.slice none 0 0/\xs=[])\/∃g cap,G g/\v=.slice (some ⟨g,0,none⟩) xs.length cap/\∀i (h:i<xs.length),w.cell? ⟨g,i,none⟩=some xs[i]
theorem VV.mono {w w':World}{G G':Nat->Prop}(hw:∀k,G k->G' k/\w'.heap[k]?=w.heap[k]?){v:Value}{xs:List Value}(h:VV w G v xs):VV w' G' v xs:=by
 rcases h with h|⟨g,cap,hg,rfl,hc⟩
 ·exact .inl h
 ·exact .inr ⟨g,cap,(hw g hg).1,rfl,fun i hi=>by rw[P9 (hw g hg).2];exact hc i hi⟩
theorem VV.of_own {w:World}{G:Nat->Prop}{base:Nat}{e:TypeId}{v:Value}{xs:List Value}(h:w.ownsRow base e 1 v xs.length xs)(hG:∀k,v.ownBlock=some k->G k):VV w G v xs:=by
 rcases J1 h with⟨h1,h2⟩|⟨g,cap,rfl⟩
 ·exact .inl ⟨h1,List.eq_nil_of_length_eq_zero h2⟩
 ·refine .inr ⟨g,cap,hG g rfl,rfl,fun i hi=>?_⟩
  rw[h.cellAt i (by simpa using hi)];simp[hi]
abbrev U4 (l:List Nat):List Value:=l.map fun (n:Nat)=>Value.int .i64 (n:Int)
theorem VV.ints {w:World}{G:Nat->Prop}{v:Value}{l:List Nat}(h:VV w G v (U4 l)):IV w G v l:=by
 rcases h with⟨rfl,h0⟩|⟨g,cap,hg,rfl,hc⟩
 ·exact .inl ⟨rfl,by simpa using h0⟩
 ·refine .inr ⟨g,cap,hg,by simp,fun i hi=>?_⟩
  have:=hc i (by simpa using hi);simpa using this
def II (w:World)(G:Nat->Prop)(v:Value)(ll:List (List Nat)):Prop:=∃xs:List Value,VV w G v xs/\xs.length=ll.length/\∀(i:Nat) (x:Value) (l:List Nat),xs[i]?=some x->ll[i]?=some l->IV w G x l
def III (w:World)(G:Nat->Prop)(v:Value)(ll:List (List (List Nat))):Prop:=∃xs:List Value,VV w G v xs/\xs.length=ll.length/\∀(i:Nat) (x:Value) (l:List (List Nat)),xs[i]?=some x->ll[i]?=some l->II w G x l
theorem IV.mono2 {w w':World}{G G':Nat->Prop}(hw:∀k,G k->G' k/\w'.heap[k]?=w.heap[k]?){v:Value}{l:List Nat}(h:IV w G v l):IV w' G' v l:=
 h.mono (fun k hk=>(hw k hk).1) (fun k hk=>(hw k hk).2)
theorem II.mono {w w':World}{G G':Nat->Prop}(hw:∀k,G k->G' k/\w'.heap[k]?=w.heap[k]?){v:Value}{l:List (List Nat)}(h:II w G v l):II w' G' v l:=by
 obtain⟨xs,h1,h2,h3⟩:=h;exact⟨xs,h1.mono hw,h2,fun i x l hx hl=>(h3 i x l hx hl).mono2 hw⟩
theorem III.mono {w w':World}{G G':Nat->Prop}(hw:∀k,G k->G' k/\w'.heap[k]?=w.heap[k]?){v:Value}{l:List (List (List Nat))}(h:III w G v l):III w' G' v l:=by
 obtain⟨xs,h1,h2,h3⟩:=h;exact⟨xs,h1.mono hw,h2,fun i x l hx hl=>(h3 i x l hx hl).mono hw⟩
theorem PV.mono2 {w w':World}{G G':Nat->Prop}(hw:∀k,G k->G' k/\w'.heap[k]?=w.heap[k]?){p:Ls.Pat}{v:Value}(h:PV w G p v):PV w' G' p v:=
 PV.mono (fun k hk=>(hw k hk).1) (fun k hk=>(hw k hk).2) _ _ h
def TV (w:World)(G:Nat->Prop)(tb:Nat)(t:Ls.Tab):Prop:=
 G tb/\∃vT vE,w.heap[tb]?=some (.cells #[vT,vE] 67 (0,0))/\III w G vT t.to/\VV w G vE (t.ends.map Value.bool)
theorem TV.mono {w w':World}{G G':Nat->Prop}(hw:∀k,G k->G' k/\w'.heap[k]?=w.heap[k]?){tb:Nat}{t:Ls.Tab}(h:TV w G tb t):TV w' G' tb t:=by
 obtain⟨h0,vT,vE,h1,h2,h3⟩:=h;exact⟨(hw tb h0).1,vT,vE,by rw[(hw tb h0).2];exact h1,h2.mono hw,h3.mono hw⟩
abbrev F6 (tb:Nat):Value:=.slice (some ⟨tb,0,none⟩) 0 0
def T0 (B:Nat)(w:World)(vs:List Value)(k:Nat):Prop:=K8 w vs k/\B<=k
theorem Moved.fixB {w w':World}{vs vs':List Value}(h:Moved w w' vs vs')(B:Nat):∀k,T0 B w vs k->T0 B w' vs' k/\w'.heap[k]?=w.heap[k]?:=fun k hk=>⟨⟨(h k hk.1).1,hk.2⟩,(h k hk.1).2⟩
structure TS (w0 w:World)(tb:Nat)(vS vK vE vT cT cE:Value)(ex:List Value)(qs:List (Ls.Pat × Value))(ks:List (List UInt8))(ends:List Bool)(tt:List (List (List Nat))):Prop where
 bel:Below w0.heap.size w0 w
 dis:Dis w0.heap.size w (ex++[vS,vK,vE,vT,F6 tb])
 ownS:w.ownsRow w0.heap.size 27 3 vS qs.length (I9 qs)
 each:∀q,q∈qs->PV w (K8 w (ex++[vS,vK,vE,vT,F6 tb])) q.1 q.2
 keys:SV w w0.heap.size vK ks
 ownE:w.ownsRow w0.heap.size 4 1 vE ends.length (ends.map Value.bool)
 rows:∃xs:List Value,w.ownsRow w0.heap.size 70 1 vT xs.length xs/\xs.length=tt.length/\∀(i:Nat) (x:Value) (l:List (List Nat)),xs[i]?=some x->tt[i]?=some l->II w (T0 w0.heap.size w (ex++[vS,vK,vE,vT,F6 tb])) x l
 tab:w.heap[tb]?=some (.cells #[cT,cE] 67 (0,0))
section
variable {w0 w w':World} {tb:Nat} {vS vK vE vT cT cE:Value} {ex:List Value} {qs:List (Ls.Pat × Value)} {ks:List (List UInt8)} {ends:List Bool} {tt:List (List (List Nat))}
theorem at0 (ex:List Value)(a b c d e:Value):(ex++[a,b,c,d,e])[ex.length]?=some a:=by simp
theorem S7 (ex:List Value)(a b c d e:Value):(ex++[a,b,c,d,e])[ex.length+1]?=some b:=by rw[List.getElem?_append_right (by omega)];simp
theorem T9 (ex:List Value)(a b c d e:Value):(ex++[a,b,c,d,e])[ex.length+2]?=some c:=by rw[List.getElem?_append_right (by omega)];simp
theorem U0 (ex:List Value)(a b c d e:Value):(ex++[a,b,c,d,e])[ex.length+3]?=some d:=by rw[List.getElem?_append_right (by omega)];simp
theorem S2 (ex:List Value)(a b c d e:Value):(ex++[a,b,c,d,e])[ex.length+4]?=some e:=by rw[List.getElem?_append_right (by omega)];simp
theorem aQt (ex l:List Value)(i:Nat)(v:Value):(ex++l).set (ex.length+i) v=ex++l.set i v:=by rw[List.set_append_right _ _ (by omega)];simp
theorem TS.size (h:TS w0 w tb vS vK vE vT cT cE ex qs ks ends tt):w0.heap.size<=w.heap.size:=h.bel.size
theorem TS.below (h:TS w0 w tb vS vK vE vT cT cE ex qs ks ends tt)(hb:Below w.heap.size w w'):TS w0 w' tb vS vK vE vT cT cE ex qs ks ends tt:=by
 obtain⟨d,m⟩:=h.dis.below hb;have sm:∀(i:Nat) (v:Value),(ex++[vS,vK,vE,vT,F6 tb])[i]?=some v->∀k,v.ownBlock=some k->w'.heap[k]?=w.heap[k]?:=fun i v hi k hk=>hb.block k (h.dis.lt v (List.mem_of_getElem? hi) k hk).2;obtain⟨xs,r1,r2,r3⟩:=h.rows;exact⟨h.bel.trans (hb.mono h.size),d,F0 h.ownS (sm _ _ (at0 ..)),fun q hq=>(h.each q hq).mono2 m,⟨F0 h.keys.own (sm _ _ (S7 ..)),h.keys.nil⟩,F0 h.ownE (sm _ _ (T9 ..)),
  ⟨xs,F0 r1 (sm _ _ (U0 ..)),r2,fun i x l hx hl=>(r3 i x l hx hl).mono (m.fixB _)⟩,by rw[sm _ _ (S2 ..) tb rfl];exact h.tab⟩
structure Appd (w w':World)(base:Nat)(e:TypeId)(size:Nat)(v v':Value)(n:Nat)(xs:List Value):Prop where
 own:w'.ownsRow base e size v' n xs
 grown:w.grownBy w' v.ownBlock
 place:v'.ownBlock=v.ownBlock\/∃k,v'.ownBlock=some k/\w.heap.size<=k
theorem TS.bel' (h:TS w0 w tb vS vK vE vT cT cE ex qs ks ends tt){i:Nat}{v:Value}(hi:(ex++[vS,vK,vE,vT,F6 tb])[i]?=some v)(hg:w.grownBy w' v.ownBlock):Below w0.heap.size w0 w':=
 h.bel.grown hg h.size (fun k e=>(h.dis.lt v (List.mem_of_getElem? hi) k e).1)
theorem TS.state (h:TS w0 w tb vS vK vE vT cT cE ex qs ks ends tt){vS':Value}{p:Ls.Pat}{y:Value}(hp:PV w (K8 w (ex++[vS,vK,vE,vT,F6 tb])) p y)
  (ha:Appd w w' w0.heap.size 27 3 vS vS' (qs.length+1) (I9 qs++B7 p y)):TS w0 w' tb vS' vK vE vT cT cE ex (qs++[(p,y)]) ks ends tt:=by
 obtain⟨d,m,o⟩:=h.dis.set (at0 ex vS vK vE vT (F6 tb)) ha.grown ha.place (fun k e=>ha.own.lt k e);rw[show ex.length=ex.length+0 from rfl,aQt]at d m;obtain⟨xs,r1,r2,r3⟩:=h.rows;refine⟨h.bel' (at0 ..) ha.grown,d,?_,?_,⟨F0 h.keys.own (o _ _ (by omega) (S7 ..)),h.keys.nil⟩,F0 h.ownE (o _ _ (by omega) (T9 ..)),
  ⟨xs,F0 r1 (o _ _ (by omega) (U0 ..)),r2,fun i x l hx hl=>(r3 i x l hx hl).mono (m.fixB _)⟩,by rw[o _ _ (by omega) (S2 ..) tb rfl];exact h.tab⟩
 ·rw[eQm,List.length_append];exact ha.own
 ·intro q hq
  rcases List.mem_append.1 hq with hq|hq
  ·exact(h.each q hq).mono2 m
  ·simp only[List.mem_singleton]at hq
   subst hq;exact hp.mono2 m
theorem TS.key (h:TS w0 w tb vS vK vE vT cT cE ex qs ks ends tt){vK':Value}{ks':List (List UInt8)}(hs:SV w' w0.heap.size vK' ks')(hg:w.grownBy w' vK.ownBlock)(hr:vK'.ownBlock=vK.ownBlock\/∃k,vK'.ownBlock=some k/\w.heap.size<=k) :
  TS w0 w' tb vS vK' vE vT cT cE ex qs ks' ends tt:=by
 obtain⟨d,m,o⟩:=h.dis.set (S7 ex vS vK vE vT (F6 tb)) hg hr (fun k e=>hs.own.lt k e);rw[aQt]at d m;obtain⟨xs,r1,r2,r3⟩:=h.rows;exact⟨h.bel' (S7 ..) hg,d,F0 h.ownS (o _ _ (by omega) (at0 ..)),fun q hq=>(h.each q hq).mono2 m,hs,F0 h.ownE (o _ _ (by omega) (T9 ..)),
  ⟨xs,F0 r1 (o _ _ (by omega) (U0 ..)),r2,fun i x l hx hl=>(r3 i x l hx hl).mono (m.fixB _)⟩,by rw[o _ _ (by omega) (S2 ..) tb rfl];exact h.tab⟩
theorem TS.endd (h:TS w0 w tb vS vK vE vT cT cE ex qs ks ends tt){vE':Value}{b:Bool}(ha:Appd w w' w0.heap.size 4 1 vE vE' (ends.length+1) (ends.map Value.bool++[.bool b])) :
  TS w0 w' tb vS vK vE' vT cT cE ex qs ks (ends++[b]) tt:=by
 obtain⟨d,m,o⟩:=h.dis.set (T9 ex vS vK vE vT (F6 tb)) ha.grown ha.place (fun k e=>ha.own.lt k e);rw[aQt]at d m;obtain⟨xs,r1,r2,r3⟩:=h.rows;exact⟨h.bel' (T9 ..) ha.grown,d,F0 h.ownS (o _ _ (by omega) (at0 ..)),fun q hq=>(h.each q hq).mono2 m,⟨F0 h.keys.own (o _ _ (by omega) (S7 ..)),h.keys.nil⟩,
  by rw[List.map_append,List.length_append];exact ha.own,
  ⟨xs,F0 r1 (o _ _ (by omega) (U0 ..)),r2,fun i x l hx hl=>(r3 i x l hx hl).mono (m.fixB _)⟩,by rw[o _ _ (by omega) (S2 ..) tb rfl];exact h.tab⟩
theorem TS.row (h:TS w0 w tb vS vK vE vT cT cE ex qs ks ends tt){vT':Value}{x:Value}{l:List (List Nat)}(hx:II w (T0 w0.heap.size w (ex++[vS,vK,vE,vT,F6 tb])) x l)
  (ha:∀xs:List Value,w.ownsRow w0.heap.size 70 1 vT xs.length xs->xs.length=tt.length->Appd w w' w0.heap.size 70 1 vT vT' (xs.length+1) (xs++[x])) :
  TS w0 w' tb vS vK vE vT' cT cE ex qs ks ends (tt++[l]):=by
 obtain⟨xs,r1,r2,r3⟩:=h.rows;have ha:=ha xs r1 r2;obtain⟨d,m,o⟩:=h.dis.set (U0 ex vS vK vE vT (F6 tb)) ha.grown ha.place (fun k e=>ha.own.lt k e);rw[aQt]at d m;refine⟨h.bel' (U0 ..) ha.grown,d,F0 h.ownS (o _ _ (by omega) (at0 ..)),fun q hq=>(h.each q hq).mono2 m,⟨F0 h.keys.own (o _ _ (by omega) (S7 ..)),h.keys.nil⟩,F0 h.ownE (o _ _ (by omega) (T9 ..)),
  ⟨xs++[x],by rw[List.length_append];exact ha.own,by simp[r2],?_⟩,by rw[o _ _ (by omega) (S2 ..) tb rfl];exact h.tab⟩
 intro i y l' hy hl'
 by_cases hi:i<xs.length
 ·rw[List.getElem?_append_left hi]at hy
  rw[List.getElem?_append_left (by omega)]at hl';exact(r3 i y l' hy hl').mono (m.fixB _)
 ·have hi2:i<(xs++[x]).length:=(List.getElem?_eq_some_iff.1 hy).1
  have hi3:i=xs.length:=by simp at hi2;omega
  subst hi3;rw[r2]at hl';simp at hy hl';subst hy hl';exact hx.mono (m.fixB _)
theorem sQu (w:World)(g o:Nat)(v:Value):w.grownBy (w.setCell ⟨g,o,none⟩ v) (some g):=
 ⟨rfl,rfl,rfl,by simp[World.setCell],fun k _ hne=>Below.heap_setCell _ _ _ _ (fun e=>hne (by rw[e]))⟩
theorem TS.store (h:TS w0 w tb vS vK vE vT cT cE ex qs ks ends tt)(o:Nat)(v cT' cE':Value)(hc:(#[cT,cE]:Array Value).set! o v=#[cT',cE']):TS w0 (w.setCell ⟨tb,o,none⟩ v) tb vS vK vE vT cT' cE' ex qs ks ends tt:=by
 have hg:w.grownBy (w.setCell ⟨tb,o,none⟩ v) (F6 tb).ownBlock:=sQu w tb o v;have ht:=h.dis.lt (F6 tb) (List.mem_of_getElem? (S2 ex vS vK vE vT (F6 tb))) tb rfl;obtain⟨d,m,s⟩:=h.dis.set (S2 ex vS vK vE vT (F6 tb)) hg (.inl rfl) (fun k e=>by injection e with e;subst e;exact⟨ht.1,Nat.lt_of_lt_of_le ht.2 hg.size⟩);rw[aQt]at d m;obtain⟨xs,r1,r2,r3⟩:=h.rows;refine⟨h.bel' (S2 ..) hg,d,F0 h.ownS (s _ _ (by omega) (at0 ..)),fun q hq=>(h.each q hq).mono2 m,⟨F0 h.keys.own (s _ _ (by omega) (S7 ..)),h.keys.nil⟩,F0 h.ownE (s _ _ (by omega) (T9 ..)),
  ⟨xs,F0 r1 (s _ _ (by omega) (U0 ..)),r2,fun i x l hx hl=>(r3 i x l hx hl).mono (m.fixB _)⟩,?_⟩
 have:=h.tab;simp[World.setCell,Array.getElem?_modify,this,<-hc]
theorem TS.push (h:TS w0 w tb vS vK vE vT cT cE ex qs ks ends tt):TS w0 w tb vS vK vE vT cT cE (.slice none 0 0::ex) qs ks ends tt:=by
 obtain⟨d,m⟩:=h.dis.push;obtain⟨xs,r1,r2,r3⟩:=h.rows;exact⟨h.bel,d,h.ownS,fun q hq=>(h.each q hq).mono2 m,h.keys,h.ownE,⟨xs,r1,r2,fun i x l hx hl=>(r3 i x l hx hl).mono (m.fixB _)⟩,h.tab⟩
theorem TS.pop {v:Value}(h:TS w0 w tb vS vK vE vT cT cE (v::ex) qs ks ends tt):TS w0 w tb vS vK vE vT cT cE ex qs ks ends tt/\Moved w w (v::(ex++[vS,vK,vE,vT,F6 tb])) (ex++[vS,vK,vE,vT,F6 tb])/\(∀k,v.ownBlock=some k->T0 w0.heap.size w (ex++[vS,vK,vE,vT,F6 tb]) k):=by
 obtain⟨d,m,f⟩:=Dis.pop h.dis;obtain⟨xs,r1,r2,r3⟩:=h.rows;exact⟨⟨h.bel,d,h.ownS,fun q hq=>(h.each q hq).mono2 m,h.keys,h.ownE,⟨xs,r1,r2,fun i x l hx hl=>(r3 i x l hx hl).mono (m.fixB _)⟩,h.tab⟩,m,fun k e=>⟨f k e,(h.dis.lt v (by simp) k e).1⟩⟩
theorem TS.grow {v v':Value}(h:TS w0 w tb vS vK vE vT cT cE (v::ex) qs ks ends tt)(hg:w.grownBy w' v.ownBlock)(hr:v'.ownBlock=v.ownBlock\/∃k,v'.ownBlock=some k/\w.heap.size<=k)(hl:∀k,v'.ownBlock=some k->w0.heap.size<=k/\k<w'.heap.size) :
  TS w0 w' tb vS vK vE vT cT cE (v'::ex) qs ks ends tt/\Moved w w' (v::(ex++[vS,vK,vE,vT,F6 tb])) (v'::(ex++[vS,vK,vE,vT,F6 tb])):=by
 have h0:((v::ex)++[vS,vK,vE,vT,F6 tb])[0]?=some v:=rfl;obtain⟨d,m,o⟩:=h.dis.set h0 hg hr hl;have e:(v::ex).length=ex.length+1:=rfl;obtain⟨xs,r1,r2,r3⟩:=h.rows;exact⟨⟨h.bel' h0 hg,d,F0 h.ownS (o _ _ (by omega) (at0 (v::ex) ..)),fun q hq=>(h.each q hq).mono2 m,⟨F0 h.keys.own (o _ _ (by omega) (S7 (v::ex) ..)),h.keys.nil⟩,F0 h.ownE (o _ _ (by omega) (T9 (v::ex) ..)),
  ⟨xs,F0 r1 (o _ _ (by omega) (U0 (v::ex) ..)),r2,fun i x l hx hl=>(r3 i x l hx hl).mono (m.fixB _)⟩,by rw[o _ _ (by omega) (S2 (v::ex) ..) tb rfl];exact h.tab⟩,m⟩
theorem TS.done (h:TS w0 w tb vS vK vE vT vT vE [] qs ks ends tt):TV w (fun k=>w0.heap.size<=k/\k<w.heap.size) tb ⟨tt,ends⟩:=by
 obtain⟨xs,r1,r2,r3⟩:=h.rows;refine⟨h.dis.lt (F6 tb) (by simp) tb rfl,vT,vE,h.tab,⟨xs,VV.of_own r1 (fun k e=>r1.lt k e),r2,fun i x l hx hl=>(r3 i x l hx hl).mono (fun k hk=>⟨⟨hk.2,hk.1.1⟩,rfl⟩)⟩,?_⟩;have:=h.ownE;rw[show ends.length=(ends.map Value.bool).length by simp]at this;exact VV.of_own this (fun k e=>h.ownE.lt k e)
end
end Go.Proofs.YtcggfnlejalppaaGreatDoor
namespace Ls
def RowOk (L:List UInt8)(sts:List Pat)(r:List (List Nat))(q:Pat):Prop:=∀(k:Nat) (c:UInt8),k<r.length->L[k]?=some c->∃l:List Nat,r[k]?=some l/\l.map (fun j=>sts[j]?)=(behind q c).map some
structure TInv (p:Pat)(L:List UInt8)(R:List Pat)(sts:List Pat)(n:Nat)(ends:List Bool)(m:Nat)(tt:List (List (List Nat))):Prop where
 first:sts[0]?=some p
 room:∀x,x∈sts->x∈R
 kd:KD sts
 le:n<=sts.length
 ends:ends=(sts.take n).map empty
 lenT:tt.length=m
 rows:∀(i:Nat) (q:Pat) (r:List (List Nat)),sts[i]?=some q->tt[i]?=some r->r.length=L.length/\RowOk L sts r q
theorem cXl {sts:List Pat}{l:List Nat}{m:List Pat}(x:Pat)(h:l.map (fun j=>sts[j]?)=m.map some):l.map (fun j=>(sts++[x])[j]?)=m.map some:=by
 rw[<-h];apply List.map_congr_left
 intro j hj;have:sts[j]?∈m.map some:=by rw[<-h];exact List.mem_map.2 ⟨j,hj,rfl⟩
 obtain⟨y,_,hy⟩:=List.mem_map.1 this;have hlt:j<sts.length:=(List.getElem?_eq_some_iff.1 hy.symm).1;rw[List.getElem?_append_left hlt]
theorem RowOk.mono {L:List UInt8}{sts:List Pat}{r:List (List Nat)}{q:Pat}(h:RowOk L sts r q)(x:Pat):RowOk L (sts++[x]) r q:=fun k c hk hc=>by
 obtain⟨l,h1,h2⟩:=h k c hk hc;exact⟨l,h1,cXl x h2⟩
theorem TInv.push {p:Pat}{L:List UInt8}{R sts:List Pat}{n m:Nat}{ends:List Bool}{tt:List (List (List Nat))}(h:TInv p L R sts n ends m tt)(hm:m<=sts.length){x:Pat}(hx:x∈R)(hk:∀y,y∈sts->key y≠key x):TInv p L R (sts++[x]) n ends m tt:=by
 refine⟨?_,?_,?_,?_,?_,h.lenT,?_⟩
 ·rw[List.getElem?_append_left ((List.getElem?_eq_some_iff.1 h.first).1)];exact h.first
 ·intro y hy
  rw[List.mem_append]at hy;rcases hy with hy|hy
  ·exact h.room y hy
  ·simp only[List.mem_singleton]at hy;subst hy;exact hx
 ·unfold KD
  rw[List.map_append,List.nodup_append];refine⟨h.kd,by simp,?_⟩;intro a ha b hb;simp only[List.map_cons,List.map_nil,List.mem_singleton]at hb;subst hb;obtain⟨y,hy,rfl⟩:=List.mem_map.1 ha;exact hk y hy
 ·have:=h.le;simp;omega
 ·rw[List.take_append_of_le_length h.le];exact h.ends
 ·intro i q r hq hr
  have hi:i<m:=by have:=(List.getElem?_eq_some_iff.1 hr).1;have:=h.lenT;omega
  rw[List.getElem?_append_left (by omega)]at hq;obtain⟨h1,h2⟩:=h.rows i q r hq hr;exact⟨h1,h2.mono x⟩
theorem TInv.endd {p:Pat}{L:List UInt8}{R sts:List Pat}{n m:Nat}{ends:List Bool}{tt:List (List (List Nat))}(h:TInv p L R sts n ends m tt)(hn:n<sts.length):TInv p L R sts (n+1) (ends++[empty sts[n]]) m tt:=by
 refine⟨h.first,h.room,h.kd,hn,?_,h.lenT,h.rows⟩;rw[List.take_succ_eq_append_getElem hn,List.map_append,<-h.ends];simp
theorem TInv.row {p:Pat}{L:List UInt8}{R sts:List Pat}{n m:Nat}{ends:List Bool}{tt:List (List (List Nat))}(h:TInv p L R sts n ends m tt){q:Pat}(hq:sts[m]?=some q){r:List (List Nat)}(hr:r.length=L.length)(ho:RowOk L sts r q):TInv p L R sts n ends (m+1) (tt++[r]):=by
 refine⟨h.first,h.room,h.kd,h.le,h.ends,by simp[h.lenT],?_⟩;intro i q' r' hq' hr'
 by_cases hi:i<tt.length
 ·rw[List.getElem?_append_left hi]at hr';exact h.rows i q' r' hq' hr'
 ·have h2:=(List.getElem?_eq_some_iff.1 hr').1
  have h3:i=tt.length:=by simp at h2;omega
  subst h3;rw[h.lenT,hq]at hq';simp at hr';cases hq';subst hr';exact⟨hr,ho⟩
theorem RowOk.snoc {L:List UInt8}{sts:List Pat}{r:List (List Nat)}{q:Pat}(h:RowOk L sts r q){c:UInt8}(hc:L[r.length]?=some c){l:List Nat}(hl:l.map (fun j=>sts[j]?)=(behind q c).map some):RowOk L sts (r++[l]) q:=by
 intro k c' hk hc'
 by_cases hi:k<r.length
 ·obtain⟨l',h1,h2⟩:=h k c' hi hc'
  exact⟨l',by rw[List.getElem?_append_left hi];exact h1,h2⟩
 ·have h3:k=r.length:=by simp at hk;omega
  subst h3;rw[hc]at hc';cases hc';exact⟨l,by simp,hl⟩
theorem TInv.done {p:Pat}{L:List UInt8}{R sts:List Pat}{ends:List Bool}{tt:List (List (List Nat))}(h:TInv p L R sts sts.length ends sts.length tt)(hR:∀x,x∈R->wf x):TabOf p L ⟨tt,ends⟩ sts:=by
 refine⟨h.first,fun q hq=>hR q (h.room q hq),h.lenT,?_,?_,?_⟩
 ·show ends.length=_
  rw[h.ends];simp
 ·intro i q hq
  show ends[i]?=_;rw[h.ends,List.take_length,List.getElem?_map,hq];rfl
 ·intro i q hq
  have hi:i<tt.length:=by have:=(List.getElem?_eq_some_iff.1 hq).1;have:=h.lenT;omega
  obtain⟨h1,h2⟩:=h.rows i q tt[i] hq (by simp[hi]);refine⟨tt[i],by simp[hi],h1,fun k c hc=>h2 k c ?_ hc⟩;have:=(List.getElem?_eq_some_iff.1 hc).1;omega
end Ls
namespace Go.Proofs.YtcggfnlejalppaaGreatDoor
open Go.RowKit
def MV (w:World)(G:Nat->Prop)(v:Value)(qm:List (Ls.Pat × Value)):Prop:=
 ((v=.slice none 0 0/\qm=[])\/∃g cap,G g/\v=.slice (some ⟨g,0,none⟩) qm.length cap/\∀i (h:i<qm.length),w.cell? ⟨g,i*3,none⟩=some (.int .i64 qm[i].1.kind)/\w.cell? ⟨g,i*3+1,none⟩=some (.string ⟨qm[i].1.signs.toArray⟩)/\w.cell? ⟨g,i*3+2,none⟩=some qm[i].2)/\
 ∀q,q∈qm->PV w G q.1 q.2
theorem MV.mono {w w':World}{G G':Nat->Prop}(hw:∀k,G k->G' k/\w'.heap[k]?=w.heap[k]?){v:Value}{qm:List (Ls.Pat × Value)}(h:MV w G v qm):MV w' G' v qm:=by
 refine⟨?_,fun q hq=>(h.2 q hq).mono2 hw⟩;rcases h.1 with h|⟨g,cap,hg,rfl,hc⟩
 ·exact .inl h
 ·refine .inr ⟨g,cap,(hw g hg).1,rfl,fun i hi=>?_⟩
  simp only[P9 (hw g hg).2];exact hc i hi
theorem MV.shape {w:World}{G:Nat->Prop}{v:Value}{qm:List (Ls.Pat × Value)}(h:MV w G v qm):∃ao cap,v=.slice ao qm.length cap/\(0<qm.length->∃g,ao=some ⟨g,0,none⟩):=by
 rcases h.1 with⟨rfl,rfl⟩|⟨g,cap,_,rfl,_⟩
 ·exact⟨_,_,rfl,by simp⟩
 ·exact⟨_,_,rfl,fun _=>⟨g,rfl⟩⟩
theorem MV.cells {w:World}{G:Nat->Prop}{g n cap:Nat}{qm:List (Ls.Pat × Value)}(h:MV w G (.slice (some ⟨g,0,none⟩) n cap) qm)(i:Nat)(hi:i<qm.length) :
  w.cell? ⟨g,i*3,none⟩=some (.int .i64 qm[i].1.kind)/\w.cell? ⟨g,i*3+1,none⟩=some (.string ⟨qm[i].1.signs.toArray⟩)/\w.cell? ⟨g,i*3+2,none⟩=some qm[i].2:=by
 rcases h.1 with⟨e,_⟩|⟨g',cap',_,e,hc⟩
 ·cases e
 ·cases e;exact hc i hi
theorem kQt {W w':World}{B:Nat}{vs:List Value}(hd:Dis B W vs){p:Ls.Pat}{c:UInt8}{e:Ending}(h:dQz p c W (K8 W vs) e w'):∃v qm,e=.returned v/\qm.map (·.1)=Ls.behind p c/\MV w' (K8 w' vs) v qm/\Below W.heap.size W w':=by
 obtain⟨v,qm,he,hq,lw,hb⟩:=h;have new:∀k,W.heap.size<=k->k<w'.heap.size->K8 w' vs k:=fun k h1 h2=>⟨h2,fun u hu e=>by have:=(hd.lt u hu k e).2;omega⟩;have m:=(hd.below hb).2;have up:∀k,GG (K8 W vs) W.heap.size w' v k->K8 w' vs k/\w'.heap[k]?=w'.heap[k]?:=fun k hk=>by
  refine⟨?_,rfl⟩;rcases hk.1 with h|h
  ·exact(m k h).1
  ·exact new k h hk.2.1
 refine⟨v,qm,he,hq,⟨?_,fun q hqm=>(lw.each q hqm).mono2 up⟩,hb⟩;rcases J1 lw.own with⟨h1,h2⟩|⟨g,cap,rfl⟩
 ·exact .inl ⟨h1,List.eq_nil_of_length_eq_zero h2⟩
 ·have hg:=lw.own.lt g rfl
  exact .inr ⟨g,cap,new g hg.1 hg.2,rfl,fun i hi=>Q6 lw.own rfl i hi⟩
abbrev R9 (ex:List Value)(vS vK vE vT:Value)(tb:Nat):List Value:=ex++[vS,vK,vE,vT,F6 tb]
def OW (w0 w:World)(vs:List Value)(ov:Value)(ll:List (List Nat)):Prop:=
 ∃xs:List Value,w.ownsRow w0.heap.size 69 1 ov xs.length xs/\xs.length=ll.length/\∀(i:Nat) (x:Value) (l:List Nat),xs[i]?=some x->ll[i]?=some l->IV w (T0 w0.heap.size w vs) x l
theorem OW.moved {w0 w w':World}{vs vs':List Value}{ov:Value}{ll:List (List Nat)}(h:OW w0 w vs ov ll)(m:Moved w w' vs vs')(hb:∀k,ov.ownBlock=some k->w'.heap[k]?=w.heap[k]?):OW w0 w' vs' ov ll:=by
 obtain⟨xs,h1,h2,h3⟩:=h;exact⟨xs,F0 h1 hb,h2,fun i x l hx hl=>(h3 i x l hx hl).mono2 (m.fixB _)⟩
structure TK (w0 w:World)(tb:Nat)(vS vK vE vT ov:Value)(qs:List (Ls.Pat × Value))(ends:List Bool)(tt:List (List (List Nat)))(ll:List (List Nat)):Prop where
 ts:TS w0 w tb vS vK vE vT vT vE [ov] qs (qs.map fun q=>Ls.key q.1) ends tt
 ow:OW w0 w (R9 [ov] vS vK vE vT tb) ov ll
structure TJ (w0 w:World)(tb:Nat)(vS vK vE vT ov lv vm:Value)(qs:List (Ls.Pat × Value))(ks:List (List UInt8))(ends:List Bool)(tt:List (List (List Nat)))(ll:List (List Nat))(ns:List Nat)(qm:List (Ls.Pat × Value)):Prop where
 ts:TS w0 w tb vS vK vE vT vT vE [lv,ov] qs ks ends tt
 ow:OW w0 w (R9 [lv,ov] vS vK vE vT tb) ov ll
 lw:w.ownsRow w0.heap.size 3 1 lv ns.length (U4 ns)
 mv:MV w (K8 w (R9 [lv,ov] vS vK vE vT tb)) vm qm
section
variable {w0 w w':World} {tb:Nat} {vS vK vE vT ov lv vm:Value} {qs qm:List (Ls.Pat × Value)} {ks:List (List UInt8)} {ends:List Bool} {tt:List (List (List Nat))} {ll:List (List Nat)} {ns:List Nat}
theorem TK.below (h:TK w0 w tb vS vK vE vT ov qs ends tt ll)(hb:Below w.heap.size w w'):TK w0 w' tb vS vK vE vT ov qs ends tt ll:=
 ⟨h.ts.below hb,h.ow.moved (h.ts.dis.below hb).2 (fun k e=>hb.block k (h.ts.dis.lt ov (by simp) k e).2)⟩
theorem TJ.below (h:TJ w0 w tb vS vK vE vT ov lv vm qs ks ends tt ll ns qm)(hb:Below w.heap.size w w'):TJ w0 w' tb vS vK vE vT ov lv vm qs ks ends tt ll ns qm:=
 ⟨h.ts.below hb,h.ow.moved (h.ts.dis.below hb).2 (fun k e=>hb.block k (h.ts.dis.lt ov (by simp) k e).2),F0 h.lw (fun k e=>hb.block k (h.ts.dis.lt lv (by simp) k e).2),h.mv.mono (h.ts.dis.below hb).2⟩
theorem TK.open' (h:TK w0 w tb vS vK vE vT ov qs ends tt ll)(hm:MV w (K8 w (R9 [ov] vS vK vE vT tb)) vm qm):TJ w0 w tb vS vK vE vT ov (.slice none 0 0) vm qs (qs.map fun q=>Ls.key q.1) ends tt ll [] qm:=
 ⟨h.ts.push,h.ow.moved h.ts.dis.push.2 (fun _ _=>rfl),World.ownsRow_nil _ _ _ _,hm.mono h.ts.dis.push.2⟩
theorem TJ.state (h:TJ w0 w tb vS vK vE vT ov lv vm qs ks ends tt ll ns qm){vS':Value}{p:Ls.Pat}{y:Value}(hp:PV w (K8 w (R9 [lv,ov] vS vK vE vT tb)) p y)
  (ha:Appd w w' w0.heap.size 27 3 vS vS' (qs.length+1) (I9 qs++B7 p y)):TJ w0 w' tb vS' vK vE vT ov lv vm (qs++[(p,y)]) ks ends tt ll ns qm:=by
 obtain⟨_,m,o⟩:=h.ts.dis.set (at0 [lv,ov] vS vK vE vT (F6 tb)) ha.grown ha.place (fun k e=>ha.own.lt k e);exact⟨h.ts.state hp ha,h.ow.moved m (o 1 ov (by simp) rfl),F0 h.lw (o 0 lv (by simp) rfl),h.mv.mono m⟩
theorem TJ.key (h:TJ w0 w tb vS vK vE vT ov lv vm qs ks ends tt ll ns qm){vK':Value}{ks':List (List UInt8)}(hs:SV w' w0.heap.size vK' ks')(hg:w.grownBy w' vK.ownBlock)(hr:vK'.ownBlock=vK.ownBlock\/∃k,vK'.ownBlock=some k/\w.heap.size<=k) :
  TJ w0 w' tb vS vK' vE vT ov lv vm qs ks' ends tt ll ns qm:=by
 obtain⟨_,m,o⟩:=h.ts.dis.set (S7 [lv,ov] vS vK vE vT (F6 tb)) hg hr (fun k e=>hs.own.lt k e);exact⟨h.ts.key hs hg hr,h.ow.moved m (o 1 ov (by simp) rfl),F0 h.lw (o 0 lv (by simp) rfl),h.mv.mono m⟩
theorem TJ.number (h:TJ w0 w tb vS vK vE vT ov lv vm qs ks ends tt ll ns qm){lv':Value}{n:Nat}(ha:Appd w w' w0.heap.size 3 1 lv lv' (ns.length+1) (U4 ns++[.int .i64 n])) :
  TJ w0 w' tb vS vK vE vT ov lv' vm qs ks ends tt ll (ns++[n]) qm:=by
 obtain⟨_,m,o⟩:=h.ts.dis.set (i:=0) (v:=lv) rfl ha.grown ha.place (fun k e=>ha.own.lt k e);exact⟨(h.ts.grow ha.grown ha.place (fun k e=>ha.own.lt k e)).1,h.ow.moved m (o 1 ov (by simp) rfl),by rw[show U4 (ns++[n])=U4 ns++[.int .i64 n] by simp,List.length_append];exact ha.own,h.mv.mono m⟩
theorem TJ.close (h:TJ w0 w tb vS vK vE vT ov lv vm qs (qs.map fun q=>Ls.key q.1) ends tt ll ns qm):TK w0 w tb vS vK vE vT ov qs ends tt ll/\IV w (T0 w0.heap.size w (R9 [ov] vS vK vE vT tb)) lv ns:=by
 obtain⟨t,m,f⟩:=h.ts.pop;refine⟨⟨t,h.ow.moved m (fun _ _=>rfl)⟩,VV.ints (VV.of_own (e:=3) (base:=w0.heap.size) (by have:=h.lw;rw[show ns.length=(U4 ns).length by simp]at this;exact this) f)⟩
theorem TK.more (h:TK w0 w tb vS vK vE vT ov qs ends tt ll){ov' x:Value}{l:List Nat}(hx:IV w (T0 w0.heap.size w (R9 [ov] vS vK vE vT tb)) x l)
  (ha:∀xs:List Value,w.ownsRow w0.heap.size 69 1 ov xs.length xs->xs.length=ll.length->Appd w w' w0.heap.size 69 1 ov ov' (xs.length+1) (xs++[x])) :
  TK w0 w' tb vS vK vE vT ov' qs ends tt (ll++[l]):=by
 obtain⟨xs,r1,r2,r3⟩:=h.ow;have ha:=ha xs r1 r2;obtain⟨_,m,_⟩:=h.ts.dis.set (i:=0) (v:=ov) rfl ha.grown ha.place (fun k e=>ha.own.lt k e);refine⟨(h.ts.grow ha.grown ha.place (fun k e=>ha.own.lt k e)).1,⟨xs++[x],by rw[List.length_append];exact ha.own,by simp[r2],?_⟩⟩;intro i y l' hy hl'
 by_cases hi:i<xs.length
 ·rw[List.getElem?_append_left hi]at hy
  rw[List.getElem?_append_left (by omega)]at hl';exact(r3 i y l' hy hl').mono2 (m.fixB _)
 ·have hi2:i<(xs++[x]).length:=(List.getElem?_eq_some_iff.1 hy).1
  have hi3:i=xs.length:=by simp at hi2;omega
  subst hi3;rw[r2]at hl';simp at hy hl';subst hy hl';exact hx.mono2 (m.fixB _)
theorem TK.close (h:TK w0 w tb vS vK vE vT ov qs ends tt ll):TS w0 w tb vS vK vE vT vT vE [] qs (qs.map fun q=>Ls.key q.1) ends tt/\II w (T0 w0.heap.size w (R9 [] vS vK vE vT tb)) ov ll:=by
 obtain⟨t,m,f⟩:=h.ts.pop;obtain⟨xs,r1,r2,r3⟩:=h.ow;exact⟨t,⟨xs,VV.of_own r1 f,r2,fun i x l hx hl=>(r3 i x l hx hl).mono2 (m.fixB _)⟩⟩
theorem TK.start (h:TS w0 w tb vS vK vE vT vT vE [] qs (qs.map fun q=>Ls.key q.1) ends tt):TK w0 w tb vS vK vE vT (.slice none 0 0) qs ends tt []:=
 ⟨h.push,⟨[],World.ownsRow_nil _ _ _ _,rfl,by simp⟩⟩
end
end Go.Proofs.YtcggfnlejalppaaGreatDoor
namespace Ls
theorem dXq (p:Pat)(hp:wf p)(c:UInt8):KD (behind p c):=by
 refine ind (P:=fun p=>KD (behind p c)) ?_ ?_ ?_ ?_ ?_ p hp
 ·rw[behind_none];exact bXv
 ·intro s _;rw[behind_set];split
  ·simp[KD]
  ·exact bXv
 ·intro a b _ _ _ _ _ _
  rw[behind_rowB];split
  ·exact yQj (yQj bXv _) _
  ·exact yQj bXv _
 ·intro a b _ _ ha _;rw[behind_any];exact yQj ha _
 ·intro a _ _;rw[behind_star];exact yQj bXv _
def Tab.row (t:Tab)(i k:Nat):List Nat:=match t.to[i]? with
 | .none=>[]
 | some r=>match r[k]? with
  | .none=>[]
  | some l=>l
theorem Tab.mem_row (t:Tab)(i k j:Nat):j∈t.row i k↔t.go i k j:=by
 unfold Tab.row Tab.go;cases h1:t.to[i]? with
 | none=>simp
 | some r=>
  cases h2:r[k]? with
  | none=>simp[h2]
  | some l=>simp[h2]
theorem TabOf.row_lt {p:Pat}{L:List UInt8}{t:Tab}{sts:List Pat}(h:TabOf p L t sts){i k:Nat}(hi:i<sts.length)(hk:k<L.length):∀j,j∈t.row i k->j<sts.length:=by
 intro j hj;rw[Tab.mem_row]at hj;obtain⟨q',h1,_⟩:=h.fwd (List.getElem?_eq_getElem hi) hk hj;exact(List.getElem?_eq_some_iff.1 h1).1
theorem TabOf.row_length {p:Pat}{L:List UInt8}{t:Tab}{sts:List Pat}(h:TabOf p L t sts){R:List Pat}(hR:Room R)(hs:∀x,x∈sts->x∈R){i k:Nat}(hi:i<sts.length)(hk:k<L.length):(t.row i k).length<=R.length:=by
 obtain⟨r,h1,_,h3⟩:=h.row i sts[i] (List.getElem?_eq_getElem hi);obtain⟨l,h4,h5⟩:=h3 k L[k] (List.getElem?_eq_getElem hk);have h6:t.row i k=l:=by unfold Tab.row;rw[h1];dsimp only;rw[h4]
 have hm:sts[i]∈R:=hs _ (List.getElem_mem hi);have h7:=congrArg List.length h5;simp only[List.length_map]at h7;rw[h6,h7];exact zQ9 (dXq _ (hR.ok _ hm).1 _) (fun x hx=>hR.closed _ hm _ x hx)
end Ls
namespace Go.Proofs.YtcggfnlejalppaaGreatDoor
theorem vQj (l:List Ls.Pr)(x y:Ls.Pr):y∈I3 l x↔y∈l\/y=x:=by
 unfold I3;split
 ·rename_i h
  constructor
  ·exact .inl
  ·rintro (h1|rfl)
   ·exact h1
   ·exact h
 ·simp
theorem Z7 (l m:List Ls.Pr)(y:Ls.Pr):y∈D1 l m↔y∈l\/y∈m:=by
 induction m generalizing l with
 | nil=>simp[D1]
 | cons x m ih=>
  show y∈D1 (I3 l x) m↔_;rw[ih,vQj];simp only[List.mem_cons];constructor
  ·rintro ((h|h)|h)
   ·exact .inl h
   ·exact .inr (.inl h)
   ·exact .inr (.inr h)
  ·rintro (h|h|h)
   ·exact .inl (.inl h)
   ·exact .inl (.inr h)
   ·exact .inr h
theorem oQf {l:List Ls.Pr}(h:l.Nodup)(x:Ls.Pr):(I3 l x).Nodup:=by
 unfold I3;split
 ·exact h
 ·rename_i hn
  rw[List.nodup_append];refine⟨h,by simp,?_⟩;intro a ha b hb;simp only[List.mem_singleton]at hb;subst hb;rintro rfl;exact hn ha
theorem hQe {l:List Ls.Pr}(h:l.Nodup)(m:List Ls.Pr):(D1 l m).Nodup:=by
 induction m generalizing l with
 | nil=>exact h
 | cons x m ih=>exact ih (oQf h x)
theorem mQv (l:List Ls.Pr)(x:Ls.Pr):l <+: I3 l x:=by
 unfold I3;split
 ·exact List.prefix_refl _
 ·exact List.prefix_append _ _
theorem oQu (l m:List Ls.Pr):l <+: D1 l m:=by
 induction m generalizing l with
 | nil=>exact List.prefix_refl _
 | cons x m ih=>exact(mQv l x).trans (ih _)
def cQ8 (N:Nat):List Ls.Pr:=[0,1,2].flatMap fun ph=>(List.range N).flatMap fun x=>(List.range N).map fun y=>(ph,x,y)
theorem fQd {α:Type}(l:List α)(f:α->List Ls.Pr)(n:Nat)(h:∀a,(f a).length=n):(l.flatMap f).length=l.length*n:=by
 induction l with
 | nil=>simp
 | cons x l ih=>rw[List.flatMap_cons,List.length_append,ih,h];simp[Nat.add_mul];omega
theorem vQs (N:Nat):(cQ8 N).length=3*(N*N):=by
 unfold cQ8;rw[fQd _ _ (N*N) (fun ph=>by rw[fQd _ _ N (fun x=>by simp)];simp)];rfl
theorem eQe {N:Nat}{l:List Ls.Pr}(h:l.Nodup)(hr:∀a,a∈l->(a.1=0\/a.1=1\/a.1=2)/\a.2.1<N/\a.2.2<N):l.length<=3*(N*N):=by
 rw[<-vQs];refine Ls.aX0 _ _ h (fun a ha=>?_);obtain⟨h1,h2,h3⟩:=hr a ha;obtain⟨p,x,y⟩:=a;unfold cQ8;simp only[List.mem_flatMap,List.mem_map,List.mem_range];refine⟨p,?_,x,h2,y,h3,rfl⟩;simp only at h1;rcases h1 with rfl|rfl|rfl<;>simp
structure BF (E:Ls.Pr->Ls.Pr->Prop)(A I:Ls.Pr->Prop)(ps:List Ls.Pr)(i:Nat):Prop where
 le:i<=ps.length
 first:(0,0,0)∈ps
 sound:Ls.fXd E A ps
 nodup:ps.Nodup
 inR:∀a,a∈ps->I a
 closed:∀j (h:j<ps.length),j<i->∀b,E ps[j] b->b∈ps
 none:∀j (h:j<ps.length),j<i->¬A ps[j]
theorem BF.start (E:Ls.Pr->Ls.Pr->Prop)(A:Ls.Pr->Prop){I:Ls.Pr->Prop}(hI:I (0,0,0)):BF E A I [(0,0,0)] 0:=by
 refine⟨by simp,by simp,?_,by simp,?_,fun j _ h=>by omega,fun j _ h=>by omega⟩
 ·intro a ha h
  simp only[List.mem_singleton]at ha;subst ha;exact h
 ·intro a ha
  simp only[List.mem_singleton]at ha;subst ha;exact hI
theorem BF.length {E:Ls.Pr->Ls.Pr->Prop}{A I:Ls.Pr->Prop}{ps:List Ls.Pr}{i:Nat}(h:BF E A I ps i){N:Nat}(hI:∀a,I a->(a.1=0\/a.1=1\/a.1=2)/\a.2.1<N/\a.2.2<N):ps.length<=3*(N*N):=eQe h.nodup (fun a ha=>hI a (h.inR a ha))
theorem BF.part {E:Ls.Pr->Ls.Pr->Prop}{A I:Ls.Pr->Prop}{ps:List Ls.Pr}{i:Nat}(h:BF E A I ps i)(hi:i<ps.length){m:List Ls.Pr}(hm:∀b,b∈m->E ps[i] b)(hr:∀b,E ps[i] b->I b){N:Nat}(hI:∀a,I a->(a.1=0\/a.1=1\/a.1=2)/\a.2.1<N/\a.2.2<N):(D1 ps m).length<=3*(N*N):=by
 refine eQe (hQe h.nodup m) (fun a ha=>hI a ?_);rw[Z7]at ha;rcases ha with ha|ha
 ·exact h.inR a ha
 ·exact hr a (hm a ha)
theorem pQj {ps qs:List Ls.Pr}(h:ps <+: qs){j:Nat}(hj:j<ps.length):∃hq:j<qs.length,qs[j]=ps[j]:=by
 obtain⟨t,rfl⟩:=h;exact⟨by simp;omega,by rw[List.getElem_append_left hj]⟩
theorem BF.next {E:Ls.Pr->Ls.Pr->Prop}{A I:Ls.Pr->Prop}{ps:List Ls.Pr}{i:Nat}(h:BF E A I ps i)(hi:i<ps.length){m:List Ls.Pr}(hm:∀b,b∈m↔E ps[i] b)(hr:∀b,E ps[i] b->I b)(hA:¬A ps[i]):BF E A I (D1 ps m) (i+1):=by
 have hp:=oQu ps m;have hle:ps.length<=(D1 ps m).length:=hp.length_le;have key:∀j (_:j<(D1 ps m).length),j<i+1->∃hq:j<ps.length,(D1 ps m)[j]=ps[j]:=fun j hj hji=>by
  have hq:j<ps.length:=by omega
  obtain⟨h1,h2⟩:=pQj hp hq;exact⟨hq,h2⟩
 refine⟨by omega,?_,?_,hQe h.nodup m,?_,?_,?_⟩
 ·rw[Z7];exact .inl h.first
 ·intro a ha hh
  rw[Z7]at ha;rcases ha with ha|ha
  ·exact h.sound a ha hh
  ·obtain⟨n,hn⟩:=hh
   exact h.sound ps[i] (List.getElem_mem hi) ⟨n+1,a,(hm a).1 ha,hn⟩
 ·intro a ha
  rw[Z7]at ha;rcases ha with ha|ha
  ·exact h.inR a ha
  ·exact hr a ((hm a).1 ha)
 ·intro j hj hji b hb
  obtain⟨hq,e⟩:=key j hj hji;rw[e]at hb;rw[Z7];rcases Nat.lt_or_ge j i with h1|h1
  ·exact .inl (h.closed j hq h1 b hb)
  ·have:j=i:=by omega
   subst this;exact .inr ((hm b).2 hb)
 ·intro j hj hji
  obtain⟨hq,e⟩:=key j hj hji;rw[e];rcases Nat.lt_or_ge j i with h1|h1
  ·exact h.none j hq h1
  ·have:j=i:=by omega
   subst this;exact hA
theorem BF.done {E:Ls.Pr->Ls.Pr->Prop}{A I:Ls.Pr->Prop}{ps:List Ls.Pr}(h:BF E A I ps ps.length):¬∃n,Ls.Hit E A n (0,0,0):=by
 rintro ⟨n,hn⟩;refine Ls.eXg (l:=ps) ?_ ?_ n (0,0,0) h.first hn
 ·intro a ha b hb
  obtain⟨j,hj,rfl⟩:=List.getElem_of_mem ha;exact h.closed j hj hj b hb
 ·intro a ha
  obtain⟨j,hj,rfl⟩:=List.getElem_of_mem ha;exact h.none j hj hj
theorem BF.found {E:Ls.Pr->Ls.Pr->Prop}{A I:Ls.Pr->Prop}{ps:List Ls.Pr}{i:Nat}(h:BF E A I ps i)(hi:i<ps.length)(hA:A ps[i]):∃n,Ls.Hit E A n (0,0,0):=h.sound ps[i] (List.getElem_mem hi) ⟨0,hA⟩
end Go.Proofs.YtcggfnlejalppaaGreatDoor
