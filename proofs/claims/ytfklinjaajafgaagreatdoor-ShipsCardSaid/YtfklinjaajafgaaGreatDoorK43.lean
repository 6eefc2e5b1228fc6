import Derived.Test.YtfklinjaajafgaaGreatDoorK41
set_option maxRecDepth 100000
set_option maxHeartbeats 4000000
namespace Go.Proofs.YtfklinjaajafgaaGreatDoor
open Go.RowKit
theorem tQ0 {r:Nat}{d:Ls.D}(h:Ls.Wd r d):∀n a,(Ls.go d n a).1.places.length=n.places.length+Ls.dsize d:=by
 induction h using Ls.Wd.ind with
 | place s=>intro n a;rw[Ls.iX8,Ls.eX3];simp[Ls.eX9]
 | rep ht _ ih=>
  intro n a;rw[Ls.eXu];rcases ht with rfl|rfl|rfl
  ·rw[Ls.jXy];exact ih n _
  ·rw[Ls.jXx];exact ih n _
  ·rw[Ls.kXu];exact ih n _
 | row _ ih=>exact ih
 | choice _ ih=>exact ih
 | rnil=>intro n a;rw[Ls.iXb,Ls.eX6];rfl
 | @rcons y r _ _ i1 i2=>
  intro n a;rw[Ls.iX9,i2,Ls.fXd];have:=i1 n (Ls.start y);unfold Ls.add Ls.fXp;simp only;omega
 | clast _ ih=>intro n a;rw[Ls.iX7,Ls.fXx];exact ih n _
 | @ccons y r _ _ i1 i2=>
  intro n a;rw[Ls.iX6,i2,Ls.fXw];have:=i1 n (Ls.start y);unfold Ls.add;omega
theorem kQn {x m:Nat}(hm:m<=32)(h:∀q,x.testBit q=true->q<m):x<4294967296:=by
 have h1:x<2 ^ 32:=Nat.lt_pow_two_of_testBit x (fun i hi=>by
  cases hb:x.testBit i with
  | false=>rfl
  | true=>have:=h i hb;omega)
 simpa using h1
theorem bQe {d:Ls.D}(h:Ls.Wd 0 d){n:Ls.Net}(hn:Ls.iXu n)(hl:n.places.length+Ls.dsize d<=32) :
  (Ls.add d n).2.first<4294967296/\(Ls.add d n).2.last<4294967296/\(Ls.add d n).1.places.length=n.places.length+Ls.dsize d/\Ls.iXu (Ls.add d n).1:=by
 have h1:=Ls.lX6 h n hn;have h2:(Ls.add d n).1.places.length=n.places.length+Ls.dsize d:=tQ0 h n _;exact⟨kQn (m:=(Ls.add d n).1.places.length) (by omega) (fun q hq=>(h1.sem.fst q hq).2),kQn (m:=(Ls.add d n).1.places.length) (by omega) (fun q hq=>(h1.sem.lst q hq).2),h2,h1.good⟩
theorem Rep.wd {w:World}{G:Nat->Prop}{r:Nat}{d:Ls.D}{vs:List Value}(h:Rep w G r d vs):Ls.Wd r d:=by
 induction h using Rep.ind with
 | place _=>exact .place _
 | rep ht _ ih=>exact .rep ht ih
 | row _ _ ih=>exact .row ih
 | choice _ _ ih=>exact .choice ih
 | rnil=>exact .rnil
 | rcons _ _ i1 i2=>exact .rcons i1 i2
 | clast _ ih=>exact .clast ih
 | ccons _ _ i1 i2=>exact .ccons i1 i2
def Q5 (d:Ls.D):Prop:=∀(w:World) (B nb:Nat) (P Q:Value) (n:Ls.Net) (x:Ls.Span) (G:Nat->Prop) (ty:TypeId) (y:Value),NetL w B nb P Q n x->B<=w.heap.size->(∀k,G k->Free w nb P Q k)->Rep w G 0 d [.iface ty y]->n.places.length+Ls.dsize d<=31->
 Calls Tryz.prog 95 #[.pointer (some ⟨nb,0,none⟩),.iface ty y] w (S7 w B nb P Q x (Ls.add d n))
theorem tQ1 (a:Ls.D)(l:List Ls.D)(n:Ls.Net)(s:Ls.Span):Ls.go ((a::l).foldr Ls.rcons Ls.rnil) n s=Ls.go (l.foldr Ls.rcons Ls.rnil) (Ls.fXp (Ls.add a n).1 s.last (Ls.add a n).2.first) (Ls.jXs s (Ls.add a n).2):=by
 simp only[List.foldr_cons];rw[Ls.iX9]
theorem mQg (l:List Ls.D)(k:Nat)(hk:k<l.length):F7 (l.drop k)=Ls.dsize l[k]+F7 (l.drop (k+1)):=by
 rw[List.drop_eq_getElem_cons hk];rfl
theorem NStep.own {w w':World}{nb:Nat}{P Q P' Q':Value}(h:NStep w nb P Q w' P' Q'){k:Nat}{o:Obj}(hf:Free w nb P Q k)(hk:w.heap[k]?=some o):w'.heap[k]?=some o:=(h.block k hf).trans hk
structure Pk (w W:World)(B nb:Nat)(P Q P1 Q1:Value)(m:Ls.Net)(x:Ls.Span):Prop where
 net:NetL W B nb P1 Q1 m x
 step:NStep w nb P Q W P1 Q1
 res:W.heap[w.heap.size]?=some (.cells #[.int .u32 (0:Nat),.int .u32 (0:Nat),.bool false] 150 (0,0))
 fr:Free W nb P1 Q1 w.heap.size
 fa:Free W nb P1 Q1 (w.heap.size+1)
theorem Pk.set {w W:World}{B nb:Nat}{P Q P1 Q1:Value}{m:Ls.Net}{x:Ls.Span}(h:Pk w W B nb P Q P1 Q1 m x)(o:Nat)(v:Value):Pk w (W.setCell ⟨w.heap.size+1,o,none⟩ v) B nb P Q P1 Q1 m x:=⟨h.net.set h.fa o v,h.step.set (by omega) o v,(Below.heap_setCell _ _ _ _ (by show w.heap.size≠w.heap.size+1;omega)).trans h.res,h.fr.set _ _,h.fa.set _ _⟩
theorem Pk.next {w W W':World}{B nb:Nat}{P Q P1 Q1 P2 Q2:Value}{m m':Ls.Net}{x:Ls.Span}(h:Pk w W B nb P Q P1 Q1 m x)(hN:NetL W' B nb P2 Q2 m' x)(hs:NStep W nb P1 Q1 W' P2 Q2):Pk w W' B nb P Q P2 Q2 m' x:=⟨hN,h.step.trans hs,hs.own h.fr h.res,hs.free h.fr,hs.free h.fa⟩
theorem pQh (l:List Ls.D)(hI:∀a,a∈l->Q5 a)(hln:l.length<=1048576)(w:World)(B nb:Nat)(P Q:Value)(n:Ls.Net)(x:Ls.Span)(G:Nat->Prop)(sl:Value)(vs:List Value)(h:NetL w B nb P Q n x)(hB:B<=w.heap.size)(hG:∀k,G k->Free w nb P Q k)(hs:Shows w G sl vs)(he:Each w G l vs)(hsz:n.places.length+F7 l<=31) :
  Calls Tryz.prog 115 #[.pointer (some ⟨nb,0,none⟩),sl] w (S7 w B nb P Q x (Ls.go (l.foldr Ls.rcons Ls.rnil) n ⟨0,0,true⟩)):=by
 have HI:Hid (∀a,a∈l->Q5 a):=hI;clear hI;have hlen:=he.length;have hnl:=h.lt;have hb0:=C6 w (.cells #[.int .u32 (0:Nat),.int .u32 (0:Nat),.bool false] 150) (.cells #[.int .u32 (0:Nat),.int .u32 (0:Nat),.bool true] 150);have hN0:=h.below hb0;have hst0:=NStep.of_below nb P Q hb0;have hx0:((w.alloc (.cells #[.int .u32 (0:Nat),.int .u32 (0:Nat),.bool false] 150)).alloc (.cells #[.int .u32 (0:Nat),.int .u32 (0:Nat),.bool true] 150)).heap[w.heap.size]?=some (.cells #[.int .u32 (0:Nat),.int .u32 (0:Nat),.bool false] 150 (0,0)):=by
  rw[Below.heap_alloc _ _ _ (by simp)];exact heap_alloc_new _ _
 have hy0:((w.alloc (.cells #[.int .u32 (0:Nat),.int .u32 (0:Nat),.bool false] 150)).alloc (.cells #[.int .u32 (0:Nat),.int .u32 (0:Nat),.bool true] 150)).heap[w.heap.size+1]?=some (.cells #[.int .u32 (0:Nat),.int .u32 (0:Nat),.bool true] 150 (0,0)):=by
  have:=heap_alloc_new (w.alloc (.cells #[.int .u32 (0:Nat),.int .u32 (0:Nat),.bool false] 150)) (.cells #[.int .u32 (0:Nat),.int .u32 (0:Nat),.bool true] 150);simpa using this
 have hfx0:Free ((w.alloc (.cells #[.int .u32 (0:Nat),.int .u32 (0:Nat),.bool false] 150)).alloc (.cells #[.int .u32 (0:Nat),.int .u32 (0:Nat),.bool true] 150)) nb P Q w.heap.size:=by
  have:=h.newFree (.cells #[.int .u32 (0:Nat),.int .u32 (0:Nat),.bool false] 150);exact⟨by simp;omega,this.2⟩
 have hfy0:Free ((w.alloc (.cells #[.int .u32 (0:Nat),.int .u32 (0:Nat),.bool false] 150)).alloc (.cells #[.int .u32 (0:Nat),.int .u32 (0:Nat),.bool true] 150)) nb P Q (w.heap.size+1):=by
  have:=(h.below (A5 w (.cells #[.int .u32 (0:Nat),.int .u32 (0:Nat),.bool false] 150))).newFree (.cells #[.int .u32 (0:Nat),.int .u32 (0:Nat),.bool true] 150);simpa using this
 have hz0:((w.alloc (.cells #[.int .u32 (0:Nat),.int .u32 (0:Nat),.bool false] 150)).alloc (.cells #[.int .u32 (0:Nat),.int .u32 (0:Nat),.bool true] 150)).heap.size=w.heap.size+1+1:=by simp
 go_enter Tryz.func115,Tryz.ntmps115;go_upto_region 2 with (fail);generalize (w.alloc (.cells #[.int .u32 ((0:Nat):Int),.int .u32 ((0:Nat):Int),.bool false] 150)).alloc (.cells #[.int .u32 ((0:Nat):Int),.int .u32 ((0:Nat):Int),.bool true] 150)=W at *;have hsh:∃sa sc,sl=.slice sa l.length sc:=by
  rcases hs.shape with⟨e1,e2⟩|⟨g,cap,e1,_⟩
  ·exact⟨_,_,by rw[e1,<-hlen,e2];rfl⟩
  ·exact⟨_,_,by rw[e1,hlen]⟩
 obtain⟨sa,sc,rfl⟩:=hsh;have Hs:Hid _:=hs;have He:Hid _:=he;have HG:Hid _:=hG;have Hlen:Hid _:=hlen;have Hst0:Hid _:=hst0;have HN0:Hid _:=hN0;have Hx0:Hid _:=hx0;have Hy0:Hid _:=hy0;have Hfx:Hid _:=hfx0;have Hfy:Hid _:=hfy0;clear hlen hst0 hN0 hs he hG hb0 h hx0 hy0 hfx0 hfy0;go_wp2_with fail;go_loopw [12] (fun i wr=>∃(k:Nat) (m:Ls.Net) (a:Ls.Span) (P' Q':Value),k<=l.length/\i=.int .i64 k/\Pk w wr B nb P Q P' Q' m x/\wr.heap[w.heap.size+1]?=some (.cells #[.int .u32 a.first,.int .u32 a.last,.bool a.empty] 150 (0,0))/\a.first<4294967296/\a.last<4294967296/\m.places.length+F7 (l.drop k)<=31/\Ls.go (l.foldr Ls.rcons Ls.rnil) n ⟨0,0,true⟩=Ls.go ((l.drop k).foldr Ls.rcons Ls.rnil) m a) (fun i _=>l.length-(intOf i).toNat)
 case atStart=>
  exact⟨0,n,⟨0,0,true⟩,P,Q,Nat.zero_le _,rfl,⟨HN0.out,Hst0.out,Hx0.out,Hfx.out,Hfy.out⟩,Hy0.out,by simp,by simp,by simpa using hsz,by simp⟩
 case round=>
  obtain⟨k,m,a,P',Q',hk,rfl,hpk,hall,hf,hl,hm,hgo⟩:=hrel;have HK:Hid _:=hpk;have Hall:Hid _:=hall;have Hgo:Hid (Ls.go (l.foldr Ls.rcons Ls.rnil) n ⟨0,0,true⟩=Ls.go ((l.drop k).foldr Ls.rcons Ls.rnil) m a):=hgo;have hBr:B<=wr.heap.size:=Nat.le_trans hB hpk.step.size;have hzr:=hpk.fa.1;clear hpk hall hgo
  by_cases hlt:k<l.length
  ·have hsr:=Hs.out.mono (w':=wr) (fun _ h=>h) (fun j hj=>HK.out.step.block j (HG.out j hj))
   have her:=He.out.mono (w':=wr) (fun _ h=>h) (fun j hj=>HK.out.step.block j (HG.out j hj));have hGr:∀j,G j->Free wr nb P' Q' j:=fun j hj=>HK.out.step.free (HG.out j hj);obtain⟨ty,y,hx,hrep⟩:=her.get k hlt;obtain⟨g,rfl,hc⟩:∃g,sa=some ⟨g,0,none⟩/\wr.cell? ⟨g,k,none⟩=some (.iface ty y):=by
    rcases hsr.shape with⟨_,e⟩|⟨g',cap',e,_,hcell⟩
    ·have:=Hlen.out;rw[e]at this;simp at this;omega
    ·injection e with e1 e2 e3
     exact⟨g',e1,by rw[hcell k (by have:=Hlen.out;omega),hx]⟩
   have hsd:=mQg l k hlt;have hwd:=hrep.wd;obtain⟨hb1,hb2,hb3,hb4⟩:=bQe hwd HK.out.net.good (by omega);have hC:=HI.out l[k] (List.getElem_mem hlt) wr B nb P' Q' m x G ty y HK.out.net hBr hGr hrep (by omega);have Hgo2:Hid (Ls.go (l.foldr Ls.rcons Ls.rnil) n ⟨0,0,true⟩=Ls.go ((l.drop (k+1)).foldr Ls.rcons Ls.rnil) (Ls.fXp (Ls.add l[k] m).1 a.last (Ls.add l[k] m).2.first) (Ls.jXs a (Ls.add l[k] m).2)):=by
    show _=_;rw[Hgo.out,List.drop_eq_getElem_cons hlt,tQ1]
   have hm2:(Ls.add l[k] m).1.places.length+F7 (l.drop (k+1))<=31:=by omega
   clear hsr her hGr hx hrep hwd hsd hb3 hb4 Hgo;generalize Ls.add l[k] m=r at *;obtain⟨m1,nx⟩:=r;simp only at hb1 hb2 hm2;go_wp2_with fail;refine hC.mono ?_;rintro e w1 ⟨P1,Q1,rfl,hN1,hst1⟩;clear hC;have hK1:=HK.out.next hN1 hst1;have hall1:=hst1.own HK.out.fa Hall.out;have hB2:=A5 w1 (.cells #[.int .u32 nx.first,.int .u32 nx.last,.bool nx.empty] 150);have hst2:=NStep.of_below nb P1 Q1 hB2;have hK2:=hK1.next (hN1.below hB2) hst2;have hall2:=hst2.own hK1.fa hall1;have hfn2:=hN1.newFree (.cells #[.int .u32 nx.first,.int .u32 nx.last,.bool nx.empty] 150);have hnx2:=heap_alloc_new w1 (.cells #[.int .u32 nx.first,.int .u32 nx.last,.bool nx.empty] 150);have hz1:=hK1.fa.1;obtain⟨a0,a1,a2,a3⟩:=N1 hall1;have ha3:¬w.heap.size+1=w1.heap.size:=by omega
   have HK2:Hid _:=hK2;have Hall2:Hid _:=hall2;have Hfn2:Hid _:=hfn2;have Hnx2:Hid _:=hnx2;clear hN1 hst1 hK1 hK2 hst2 hall2 hfn2 hnx2 hall1 a3;go_wp2_with fail;refine(kQk _ B nb P1 Q1 m1 x HK2.out.net a.last nx.first hl hb1).mono ?_;rintro e w3 ⟨rfl,hN3,hst3⟩;have hK3:=HK2.out.next hN3 hst3;have hall3:=hst3.own HK2.out.fa Hall2.out;have hnx3:=hst3.own Hfn2.out Hnx2.out;obtain⟨a0,a1,a2,a3⟩:=N1 hall3;obtain⟨n0,n1,n2,n3⟩:=N1 hnx3;have a30:=a3 0;have a31:=a3 1;have a32:=a3 2;have hza:=hK3.fa.1;have hzn:=(Array.getElem?_eq_some_iff.1 hnx3).1;have hne1:¬w1.heap.size=w.heap.size+1:=fun e=>ha3 e.symm;have HK3:Hid _:=hK3;have Hall3:Hid _:=hall3;have HO1:Hid _:=u32_or_nat a.first nx.first hf hb1;have HO2:Hid _:=u32_or_nat a.last nx.last hl hb2;have HO3:Hid (bits .or .u32 0 (nx.last:Int)=((0 ||| nx.last:Nat):Int)):=u32_or_nat 0 nx.last (by omega) hb2;have ho3:=aQl 0 nx.last (by omega) hb2;have ho1:=aQl _ _ hf hb1;have ho2:=aQl _ _ hl hb2;clear hN3 hst3 hall3 hnx3 hK3 a3 n3 HK2 Hall2 Hfn2 Hnx2;have fin:∀(u v:Nat) (b:Bool),Ls.jXs a nx=⟨u,v,b⟩->u<4294967296->v<4294967296->∀W:World,Pk w W B nb P Q P1 Q1 (Ls.fXp m1 a.last nx.first) x->W.heap[w.heap.size+1]?=some (.cells #[.int .u32 u,.int .u32 v,.bool b] 150 (0,0))->
     ∃(k_1:Nat) (m:Ls.Net) (a:Ls.Span) (P' Q':Value),k_1<=l.length/\Value.int .i64 ((k:Int)+1)=.int .i64 k_1/\Pk w W B nb P Q P' Q' m x/\W.heap[w.heap.size+1]?=some (.cells #[.int .u32 a.first,.int .u32 a.last,.bool a.empty] 150 (0,0))/\a.first<4294967296/\a.last<4294967296/\m.places.length+F7 (l.drop k_1)<=31/\Ls.go (l.foldr Ls.rcons Ls.rnil) n ⟨0,0,true⟩=Ls.go ((l.drop k_1).foldr Ls.rcons Ls.rnil) m a:=by
    intro u v b hr hu hv W h1 h2;refine⟨k+1,Ls.fXp m1 a.last nx.first,⟨u,v,b⟩,P1,Q1,by omega,by simp,h1,h2,hu,hv,by simpa [Ls.fXp] using hm2,?_⟩;rw[Hgo2.out];rw[hr]
   have Hfin:Hid _:=fin;clear fin;cases hae:a.empty with
   | true=>
    rw[hae]at a2;cases hne:nx.empty with
    | true=>
     rw[hne]at n2;have HR:Hid (Ls.jXs a nx=⟨a.first ||| nx.first,a.last ||| nx.last,true⟩):=by simp[Hid,Ls.jXs,hae,hne]
     clear hae hne;go_wp2_with fail;rw[HO1.out,HO2.out];go_roundw
     case rel=>exact Hfin.out _ _ _ HR.out ho1 ho2 _ (((HK3.out.set _ _).set _ _).set _ _) (by have:=Hall3.out;simp[World.setCell,Array.getElem?_modify,this])
     case measure=>simp[intOf];omega
    | false=>
     rw[hne]at n2;have HR:Hid (Ls.jXs a nx=⟨a.first ||| nx.first,0 ||| nx.last,false⟩):=by simp[Hid,Ls.jXs,hae,hne]
     clear hae hne;go_wp2_with fail;rw[HO1.out,HO3.out];go_roundw
     case rel=>exact Hfin.out _ _ _ HR.out ho1 ho3 _ ((((HK3.out.set _ _).set _ _).set _ _).set _ _) (by have:=Hall3.out;simp[World.setCell,Array.getElem?_modify,this])
     case measure=>simp[intOf];omega
   | false=>
    rw[hae]at a2;cases hne:nx.empty with
    | true=>
     rw[hne]at n2;have HR:Hid (Ls.jXs a nx=⟨a.first,a.last ||| nx.last,false⟩):=by simp[Hid,Ls.jXs,hae,hne]
     clear hae hne;go_wp2_with fail;rw[HO2.out];go_roundw
     case rel=>exact Hfin.out _ _ _ HR.out hf ho2 _ ((HK3.out.set _ _).set _ _) (by have:=Hall3.out;simp[World.setCell,Array.getElem?_modify,this])
     case measure=>simp[intOf];omega
    | false=>
     rw[hne]at n2;have HR:Hid (Ls.jXs a nx=⟨a.first,0 ||| nx.last,false⟩):=by simp[Hid,Ls.jXs,hae,hne]
     clear hae hne;go_wp2_with fail;rw[HO3.out];go_roundw
     case rel=>exact Hfin.out _ _ _ HR.out hf ho3 _ (((HK3.out.set _ _).set _ _).set _ _) (by have:=Hall3.out;simp[World.setCell,Array.getElem?_modify,this])
     case measure=>simp[intOf];omega
  ·have hk1:k=l.length:=by omega
   have Hgo2:Hid (Ls.go (l.foldr Ls.rcons Ls.rnil) n ⟨0,0,true⟩=(m,a)):=by
    show _=_;rw[Hgo.out,hk1,List.drop_length];exact Ls.iXb m a
   obtain⟨a0,a1,a2,a3⟩:=N1 Hall.out;obtain⟨s0,s1,s2,s3⟩:=N1 HK.out.res;have s30:=s3 0;have s31:=s3 1;have s32:=s3 2;clear a3 s3;have hzw:w.heap.size<wr.heap.size:=by omega
   go_wp2_with fail;refine bodyPost_ret (v:=S3 a) (by simp[results,Tryz.results115,go_sem,s0,s1,s2]) rfl ⟨P',Q',by rw[Hgo2.out],?_⟩;rw[Hgo2.out];exact Z9 HK.out.net HK.out.step HK.out.fr (Nat.le_refl _) _ _ _
theorem tQz (a:Ls.D)(l:List Ls.D)(n:Ls.Net)(s:Ls.Span):Ls.go (F0 (a::l)) n s=Ls.go (F0 l) (Ls.add a n).1 (Ls.orS s (Ls.add a n).2):=by
 cases l with
 | nil=>show Ls.go (Ls.clast a) n s=Ls.go Ls.rnil _ _;rw[Ls.iX7,Ls.iXb]
 | cons b l=>show Ls.go (Ls.ccons a (F0 (b::l))) n s=_;rw[Ls.iX6]
theorem Pk.alloc {w W:World}{B nb:Nat}{P Q P1 Q1:Value}{m:Ls.Net}{x:Ls.Span}(h:Pk w W B nb P Q P1 Q1 m x)(o:Obj):Pk w (W.alloc o) B nb P Q P1 Q1 m x:=
 h.next (h.net.below (A5 _ _)) (NStep.of_below _ _ _ (A5 _ _))
theorem oQ8 (l:List Ls.D)(hI:∀a,a∈l->Q5 a)(hln:l.length<=1048576)(w:World)(B nb:Nat)(P Q:Value)(n:Ls.Net)(x:Ls.Span)(G:Nat->Prop)(sl:Value)(vs:List Value)(h:NetL w B nb P Q n x)(hB:B<=w.heap.size)(hG:∀k,G k->Free w nb P Q k)(hs:Shows w G sl vs)(he:Each w G l vs)(hsz:n.places.length+F7 l<=31) :
  Calls Tryz.prog 116 #[.pointer (some ⟨nb,0,none⟩),sl] w (S7 w B nb P Q x (Ls.go (F0 l) n ⟨0,0,false⟩)):=by
 have HI:Hid (∀a,a∈l->Q5 a):=hI;clear hI;have hlen:=he.length;have hnl:=h.lt;have hb0:=C6 w (.cells #[.int .u32 (0:Nat),.int .u32 (0:Nat),.bool false] 150) (.cells #[.int .u32 (0:Nat),.int .u32 (0:Nat),.bool false] 150);have hN0:=h.below hb0;have hst0:=NStep.of_below nb P Q hb0;have hx0:((w.alloc (.cells #[.int .u32 (0:Nat),.int .u32 (0:Nat),.bool false] 150)).alloc (.cells #[.int .u32 (0:Nat),.int .u32 (0:Nat),.bool false] 150)).heap[w.heap.size]?=some (.cells #[.int .u32 (0:Nat),.int .u32 (0:Nat),.bool false] 150 (0,0)):=by
  rw[Below.heap_alloc _ _ _ (by simp)];exact heap_alloc_new _ _
 have hy0:((w.alloc (.cells #[.int .u32 (0:Nat),.int .u32 (0:Nat),.bool false] 150)).alloc (.cells #[.int .u32 (0:Nat),.int .u32 (0:Nat),.bool false] 150)).heap[w.heap.size+1]?=some (.cells #[.int .u32 (0:Nat),.int .u32 (0:Nat),.bool false] 150 (0,0)):=by
  have:=heap_alloc_new (w.alloc (.cells #[.int .u32 (0:Nat),.int .u32 (0:Nat),.bool false] 150)) (.cells #[.int .u32 (0:Nat),.int .u32 (0:Nat),.bool false] 150);simpa using this
 have hfx0:Free ((w.alloc (.cells #[.int .u32 (0:Nat),.int .u32 (0:Nat),.bool false] 150)).alloc (.cells #[.int .u32 (0:Nat),.int .u32 (0:Nat),.bool false] 150)) nb P Q w.heap.size:=by
  have:=h.newFree (.cells #[.int .u32 (0:Nat),.int .u32 (0:Nat),.bool false] 150);exact⟨by simp;omega,this.2⟩
 have hfy0:Free ((w.alloc (.cells #[.int .u32 (0:Nat),.int .u32 (0:Nat),.bool false] 150)).alloc (.cells #[.int .u32 (0:Nat),.int .u32 (0:Nat),.bool false] 150)) nb P Q (w.heap.size+1):=by
  have:=(h.below (A5 w (.cells #[.int .u32 (0:Nat),.int .u32 (0:Nat),.bool false] 150))).newFree (.cells #[.int .u32 (0:Nat),.int .u32 (0:Nat),.bool false] 150);simpa using this
 have hz0:((w.alloc (.cells #[.int .u32 (0:Nat),.int .u32 (0:Nat),.bool false] 150)).alloc (.cells #[.int .u32 (0:Nat),.int .u32 (0:Nat),.bool false] 150)).heap.size=w.heap.size+1+1:=by simp
 go_enter Tryz.func116,Tryz.ntmps116;go_upto_region 2 with (fail);generalize (w.alloc (.cells #[.int .u32 ((0:Nat):Int),.int .u32 ((0:Nat):Int),.bool false] 150)).alloc (.cells #[.int .u32 ((0:Nat):Int),.int .u32 ((0:Nat):Int),.bool false] 150)=W at *;have hsh:∃sa sc,sl=.slice sa l.length sc:=by
  rcases hs.shape with⟨e1,e2⟩|⟨g,cap,e1,_⟩
  ·exact⟨_,_,by rw[e1,<-hlen,e2];rfl⟩
  ·exact⟨_,_,by rw[e1,hlen]⟩
 obtain⟨sa,sc,rfl⟩:=hsh;have Hs:Hid _:=hs;have He:Hid _:=he;have HG:Hid _:=hG;have Hlen:Hid _:=hlen;have Hst0:Hid _:=hst0;have HN0:Hid _:=hN0;have Hx0:Hid _:=hx0;have Hy0:Hid _:=hy0;have Hfx:Hid _:=hfx0;have Hfy:Hid _:=hfy0;clear hlen hst0 hN0 hs he hG hb0 h hx0 hy0 hfx0 hfy0;go_wp2_with fail;go_loopw [12] (fun i wr=>∃(k:Nat) (m:Ls.Net) (a:Ls.Span) (P' Q':Value),k<=l.length/\i=.int .i64 k/\Pk w wr B nb P Q P' Q' m x/\wr.heap[w.heap.size+1]?=some (.cells #[.int .u32 a.first,.int .u32 a.last,.bool a.empty] 150 (0,0))/\a.first<4294967296/\a.last<4294967296/\m.places.length+F7 (l.drop k)<=31/\Ls.go (F0 l) n ⟨0,0,false⟩=Ls.go (F0 (l.drop k)) m a) (fun i _=>l.length-(intOf i).toNat)
 case atStart=>
  exact⟨0,n,⟨0,0,false⟩,P,Q,Nat.zero_le _,rfl,⟨HN0.out,Hst0.out,Hx0.out,Hfx.out,Hfy.out⟩,Hy0.out,by simp,by simp,by simpa using hsz,by simp⟩
 case round=>
  obtain⟨k,m,a,P',Q',hk,rfl,hpk,hall,hf,hl,hm,hgo⟩:=hrel;have HK:Hid _:=hpk;have Hall:Hid _:=hall;have Hgo:Hid (Ls.go (F0 l) n ⟨0,0,false⟩=Ls.go (F0 (l.drop k)) m a):=hgo;have hBr:B<=wr.heap.size:=Nat.le_trans hB hpk.step.size;have hzr:=hpk.fa.1;clear hpk hall hgo
  by_cases hlt:k<l.length
  ·have hsr:=Hs.out.mono (w':=wr) (fun _ h=>h) (fun j hj=>HK.out.step.block j (HG.out j hj))
   have her:=He.out.mono (w':=wr) (fun _ h=>h) (fun j hj=>HK.out.step.block j (HG.out j hj));have hGr:∀j,G j->Free wr nb P' Q' j:=fun j hj=>HK.out.step.free (HG.out j hj);obtain⟨ty,y,hx,hrep⟩:=her.get k hlt;obtain⟨g,rfl,hc⟩:∃g,sa=some ⟨g,0,none⟩/\wr.cell? ⟨g,k,none⟩=some (.iface ty y):=by
    rcases hsr.shape with⟨_,e⟩|⟨g',cap',e,_,hcell⟩
    ·have:=Hlen.out;rw[e]at this;simp at this;omega
    ·injection e with e1 e2 e3
     exact⟨g',e1,by rw[hcell k (by have:=Hlen.out;omega),hx]⟩
   have hsd:=mQg l k hlt;have hwd:=hrep.wd;obtain⟨hb1,hb2,hb3,hb4⟩:=bQe hwd HK.out.net.good (by omega);have hC:=HI.out l[k] (List.getElem_mem hlt) wr B nb P' Q' m x G ty y HK.out.net hBr hGr hrep (by omega);have Hgo2:Hid (Ls.go (F0 l) n ⟨0,0,false⟩=Ls.go (F0 (l.drop (k+1))) (Ls.add l[k] m).1 (Ls.orS a (Ls.add l[k] m).2)):=by
    show _=_;rw[Hgo.out,List.drop_eq_getElem_cons hlt,tQz]
   have hm2:(Ls.add l[k] m).1.places.length+F7 (l.drop (k+1))<=31:=by omega
   clear hsr her hGr hx hrep hwd hsd hb3 hb4 Hgo;generalize Ls.add l[k] m=r at *;obtain⟨m1,nx⟩:=r;simp only at hb1 hb2 hm2;go_wp2_with fail;refine hC.mono ?_;rintro e w1 ⟨P1,Q1,rfl,hN1,hst1⟩;clear hC;have hK1:=HK.out.next hN1 hst1;have hall1:=hst1.own HK.out.fa Hall.out;have hB2:=A5 w1 (.cells #[.int .u32 nx.first,.int .u32 nx.last,.bool nx.empty] 150);have hst2:=NStep.of_below nb P1 Q1 hB2;have hK2:=hK1.next (hN1.below hB2) hst2;have hall2:=hst2.own hK1.fa hall1;have hfn2:=hN1.newFree (.cells #[.int .u32 nx.first,.int .u32 nx.last,.bool nx.empty] 150);have hnx2:=heap_alloc_new w1 (.cells #[.int .u32 nx.first,.int .u32 nx.last,.bool nx.empty] 150);have hz1:=hK1.fa.1;obtain⟨a0,a1,a2,a3⟩:=N1 hall1;have ha3:¬w.heap.size+1=w1.heap.size:=by omega
   have HK1:Hid _:=hK1;have Hall1:Hid _:=hall1;have b3:=a3;clear hN1 hst1 hK1 hK2 hst2 hall2 hfn2 hnx2 hall1 a3;have n3:=heap_alloc_new w1 (.cells #[.int .u32 nx.first,.int .u32 nx.last,.bool nx.empty] 150);have hza:w.heap.size+1<w1.heap.size:=HK1.out.fa.1;have hne1:¬w1.heap.size=w.heap.size+1:=fun e=>ha3 e.symm;have HO1:Hid _:=u32_or_nat a.first nx.first hf hb1;have HO2:Hid _:=u32_or_nat a.last nx.last hl hb2;have ho1:=aQl _ _ hf hb1;have ho2:=aQl _ _ hl hb2;clear n3;have fin:∀(u v:Nat) (b:Bool),Ls.orS a nx=⟨u,v,b⟩->u<4294967296->v<4294967296->∀W:World,Pk w W B nb P Q P1 Q1 (m1) x->W.heap[w.heap.size+1]?=some (.cells #[.int .u32 u,.int .u32 v,.bool b] 150 (0,0))->
     ∃(k_1:Nat) (m:Ls.Net) (a:Ls.Span) (P' Q':Value),k_1<=l.length/\Value.int .i64 ((k:Int)+1)=.int .i64 k_1/\Pk w W B nb P Q P' Q' m x/\W.heap[w.heap.size+1]?=some (.cells #[.int .u32 a.first,.int .u32 a.last,.bool a.empty] 150 (0,0))/\a.first<4294967296/\a.last<4294967296/\m.places.length+F7 (l.drop k_1)<=31/\Ls.go (F0 l) n ⟨0,0,false⟩=Ls.go (F0 (l.drop k_1)) m a:=by
    intro u v b hr hu hv W h1 h2;refine⟨k+1,m1,⟨u,v,b⟩,P1,Q1,by omega,by simp,h1,h2,hu,hv,hm2,?_⟩;rw[Hgo2.out];rw[hr]
   have Hfin:Hid _:=fin;clear fin;have a30:=b3 0;have a31:=b3 1;have a32:=b3 2;cases hae:a.empty with
   | true=>
    rw[hae]at a2;have HR:Hid (Ls.orS a nx=⟨a.first ||| nx.first,a.last ||| nx.last,true⟩):=by simp[Hid,Ls.orS,hae]
    clear hae b3;go_wp2_with fail;rw[HO1.out,HO2.out];go_roundw
    case rel=>exact Hfin.out _ _ _ HR.out ho1 ho2 _ ((((HK1.out.set _ _).set _ _).set _ _).alloc _) (by have:=Hall1.out;rw[Below.heap_alloc _ _ _ (by simp[World.setCell];omega)];simp[World.setCell,Array.getElem?_modify,this])
    case measure=>simp[intOf];omega
   | false=>
    rw[hae]at a2;cases hne:nx.empty with
    | true=>
     have HR:Hid (Ls.orS a nx=⟨a.first ||| nx.first,a.last ||| nx.last,true⟩):=by simp[Hid,Ls.orS,hae,hne]
     clear hae b3;go_wp2_with fail;rw[HO1.out,HO2.out];go_roundw
     case rel=>exact Hfin.out _ _ _ HR.out ho1 ho2 _ ((((HK1.out.set _ _).set _ _).set _ _).alloc _) (by have:=Hall1.out;rw[Below.heap_alloc _ _ _ (by simp[World.setCell];omega)];simp[World.setCell,Array.getElem?_modify,this])
     case measure=>simp[intOf];omega
    | false=>
     have HR:Hid (Ls.orS a nx=⟨a.first ||| nx.first,a.last ||| nx.last,false⟩):=by simp[Hid,Ls.orS,hae,hne]
     clear hae b3;go_wp2_with fail;rw[HO1.out,HO2.out];go_roundw
     case rel=>exact Hfin.out _ _ _ HR.out ho1 ho2 _ ((((HK1.out.set _ _).set _ _).set _ _).alloc _) (by have:=Hall1.out;rw[Below.heap_alloc _ _ _ (by simp[World.setCell];omega)];simp[World.setCell,Array.getElem?_modify,this])
     case measure=>simp[intOf];omega
  ·have hk1:k=l.length:=by omega
   have Hgo2:Hid (Ls.go (F0 l) n ⟨0,0,false⟩=(m,a)):=by
    show _=_;rw[Hgo.out,hk1,List.drop_length];exact Ls.iXb m a
   obtain⟨a0,a1,a2,a3⟩:=N1 Hall.out;obtain⟨s0,s1,s2,s3⟩:=N1 HK.out.res;have s30:=s3 0;have s31:=s3 1;have s32:=s3 2;clear a3 s3;have hzw:w.heap.size<wr.heap.size:=by omega
   go_wp2_with fail;refine bodyPost_ret (v:=S3 a) (by simp[results,Tryz.results116,go_sem,s0,s1,s2]) rfl ⟨P',Q',by rw[Hgo2.out],?_⟩;rw[Hgo2.out];exact Z9 HK.out.net HK.out.step HK.out.fr (Nat.le_refl _) _ _ _
theorem cQv {w:World}{g:Nat}{v:Value}{b c:Bool}{t:TypeId}(h:w.heap[g]?=some (.cells #[v,.bool b,.bool c] t (0,0))):w.cell? ⟨g,0,none⟩=some v/\w.cell? ⟨g,1,none⟩=some (.bool b)/\w.cell? ⟨g,2,none⟩=some (.bool c):=by
 refine⟨?_,?_,?_⟩<;>simp[World.cell?,h]
structure Rp (w W:World)(nb:Nat)(P Q:Value)(v:Value)(b c:Bool):Prop where
 box:W.heap[w.heap.size]?=some (.cells #[v,.bool b,.bool c] 189 (0,0))
 res:W.heap[w.heap.size+1]?=some (.cells #[.int .u32 (0:Nat),.int .u32 (0:Nat),.bool false] 150 (0,0))
 fb:Free W nb P Q w.heap.size
 fr:Free W nb P Q (w.heap.size+1)
theorem Rp.next {w W W':World}{nb:Nat}{P Q P' Q':Value}{v:Value}{b c:Bool}(h:Rp w W nb P Q v b c)(hs:NStep W nb P Q W' P' Q'):Rp w W' nb P' Q' v b c:=⟨hs.own h.fb h.box,hs.own h.fr h.res,hs.free h.fb,hs.free h.fr⟩
theorem Rp.start {w:World}{B nb:Nat}{P Q:Value}{n:Ls.Net}{x:Ls.Span}(h:NetL w B nb P Q n x)(v:Value)(b c:Bool):Rp w ((w.alloc (.cells #[v,.bool b,.bool c] 189)).alloc (.cells #[.int .u32 (0:Nat),.int .u32 (0:Nat),.bool false] 150)) nb P Q v b c:=by
 refine⟨?_,?_,?_,?_⟩
 ·rw[Below.heap_alloc _ _ _ (by simp)];exact heap_alloc_new _ _
 ·have:=heap_alloc_new (w.alloc (.cells #[v,.bool b,.bool c] 189)) (.cells #[.int .u32 (0:Nat),.int .u32 (0:Nat),.bool false] 150)
  simpa using this
 ·have:=h.newFree (.cells #[v,.bool b,.bool c] 189)
  exact⟨by simp;omega,this.2⟩
 ·have:=(h.below (A5 w (.cells #[v,.bool b,.bool c] 189))).newFree (.cells #[.int .u32 (0:Nat),.int .u32 (0:Nat),.bool false] 150)
  simpa using this
theorem hQ2 (a:Ls.D)(hI:Q5 a)(w:World)(B nb:Nat)(P Q:Value)(n:Ls.Net)(x:Ls.Span)(G:Nat->Prop)(ty:TypeId)(y:Value)(b:Bool)(h:NetL w B nb P Q n x)(hB:B<=w.heap.size)(hG:∀k,G k->Free w nb P Q k)(hr:Rep w G 0 a [.iface ty y])(hsz:n.places.length+Ls.dsize a<=31) :
  Calls Tryz.prog 117 #[.pointer (some ⟨nb,0,none⟩),.agg #[.iface ty y,.bool b,.bool true]] w (S7 w B nb P Q x (Ls.fXp (Ls.add a n).1 (Ls.add a n).2.last (Ls.add a n).2.first,⟨(Ls.add a n).2.first,(Ls.add a n).2.last,(Ls.add a n).2.empty||b⟩)):=by
 have hnl:=h.lt;have hb0:=C6 w (.cells #[.iface ty y,.bool b,.bool true] 189) (.cells #[.int .u32 (0:Nat),.int .u32 (0:Nat),.bool false] 150);have hrp0:=Rp.start h (.iface ty y) b true;have hst0:=NStep.of_below nb P Q hb0;have hN0:=h.below hb0;have hrep0:=hr.mono (fun _ h=>h) (fun k hk=>hst0.block k (hG k hk));have hG0:∀k,G k->Free _ nb P Q k:=fun k hk=>hst0.free (hG k hk);obtain⟨hb1,hb2,hb3,hb4⟩:=bQe hr.wd h.good (by omega);have hC:=hI _ B nb P Q n x G ty y hN0 (Nat.le_trans hB hb0.size) hG0 hrep0 hsz;generalize Ls.add a n=r at *;obtain⟨m1,nx⟩:=r;simp only at hb1 hb2;obtain⟨c0,c1,c2⟩:=cQv hrp0.box;have Hrp:Hid _:=hrp0;have Hst:Hid _:=hst0;clear hN0 hrep0 hG0 hb3 hb4 hI hr hG h hb0 hst0 hrp0;go_enter Tryz.func117,Tryz.ntmps117;go_upto_region 1 with (fail);generalize (w.alloc (.cells #[.iface ty y,.bool b,.bool true] 189)).alloc (.cells #[.int .u32 ((0:Nat):Int),.int .u32 ((0:Nat):Int),.bool false] 150)=W at *;go_wp2_with fail;refine hC.mono ?_;rintro e w1 ⟨P1,Q1,rfl,hN1,hst1⟩;clear hC c0 c1 c2;have hrp1:=Hrp.out.next hst1;have hB2:=A5 w1 (.cells #[.int .u32 nx.first,.int .u32 nx.last,.bool nx.empty] 150);have hst2:=NStep.of_below nb P1 Q1 hB2;have hrp2:=hrp1.next hst2;have hN2:=hN1.below hB2;have hfn2:=hN1.newFree (.cells #[.int .u32 nx.first,.int .u32 nx.last,.bool nx.empty] 150);have hnx2:=heap_alloc_new w1 (.cells #[.int .u32 nx.first,.int .u32 nx.last,.bool nx.empty] 150);have hstw2:=(Hst.out.trans hst1).trans hst2;have hz1:=hrp1.fr.1;have hz10:w.heap.size<w1.heap.size:=by omega
 have hne0:¬w.heap.size=w1.heap.size:=by omega
 obtain⟨c0,c1,c2⟩:=cQv hrp1.box;have hL:=kQk _ B nb P1 Q1 m1 x hN2 nx.last nx.first hb2 hb1;have Hrp2:Hid _:=hrp2;have Hfn2:Hid _:=hfn2;have Hnx2:Hid _:=hnx2;have Hst2:Hid _:=hstw2;clear hrp1 hst2 hrp2 hN2 hfn2 hnx2 hstw2 hN1 hst1 Hrp;go_wp2_with fail;refine hL.mono ?_;rintro e w3 ⟨rfl,hN3,hst3⟩;clear hL c0 c1 c2;have hrp3:=Hrp2.out.next hst3;have hnx3:=hst3.own Hfn2.out Hnx2.out;have hfn3:=hst3.free Hfn2.out;have hstw3:=Hst2.out.trans hst3;obtain⟨c0,c1,c2⟩:=cQv hrp3.box;obtain⟨n0,n1,n2,n3⟩:=N1 hnx3;obtain⟨s0,s1,s2,s3⟩:=N1 hrp3.res;have n32:=n3 2;have s30:=s3 0;have s31:=s3 1;have s32:=s3 2;have hz3:=hrp3.fr.1;have hzn:=hfn3.1;have hne1:¬w1.heap.size=w.heap.size:=by omega
 have hne2:¬w.heap.size=w1.heap.size:=by omega
 have hne3:¬w1.heap.size=w.heap.size+1:=by omega
 have hne4:¬w.heap.size+1=w1.heap.size:=by omega
 have hsz1:=(Array.getElem?_eq_some_iff.1 hnx3).1;have Hfin:Hid (∀v c,NetL ((((w3.setCell ⟨w1.heap.size,2,none⟩ v).setCell ⟨w.heap.size+1,0,none⟩ (.int .u32 nx.first)).setCell ⟨w.heap.size+1,1,none⟩ (.int .u32 nx.last)).setCell ⟨w.heap.size+1,2,none⟩ c) B nb P1 Q1 (Ls.fXp m1 nx.last nx.first) x/\NStep w nb P Q ((((w3.setCell ⟨w1.heap.size,2,none⟩ v).setCell ⟨w.heap.size+1,0,none⟩ (.int .u32 nx.first)).setCell ⟨w.heap.size+1,1,none⟩ (.int .u32 nx.last)).setCell ⟨w.heap.size+1,2,none⟩ c) P1 Q1):=fun v c=>
  Z9 (hN3.set hfn3 2 v) (hstw3.set (by omega) 2 v) (hrp3.fr.set _ _) (by omega) _ _ _
 clear hrp3 hnx3 hfn3 hstw3 n3 s3 Hrp2 Hfn2 Hnx2 Hst2 hN3 hst3;cases he:nx.empty with
 | true=>
  rw[he]at n2;have He:Hid _:=he;clear he;go_wp2_with fail;exact bodyPost_ret (v:=S3 ⟨nx.first,nx.last,true⟩) (by simp[results,Tryz.results117,go_sem,s0,s1,s2]) rfl ⟨P1,Q1,by simp[He.out],Hfin.out _ _⟩
 | false=>
  rw[he]at n2;have He:Hid _:=he;clear he;go_wp2_with fail;exact bodyPost_ret (v:=S3 ⟨nx.first,nx.last,b⟩) (by simp[results,Tryz.results117,go_sem,s0,s1,s2]) rfl ⟨P1,Q1,by simp[He.out],Hfin.out _ _⟩
theorem pQg (a:Ls.D)(hI:Q5 a)(w:World)(B nb:Nat)(P Q:Value)(n:Ls.Net)(x:Ls.Span)(G:Nat->Prop)(ty:TypeId)(y:Value)(b:Bool)(h:NetL w B nb P Q n x)(hB:B<=w.heap.size)(hG:∀k,G k->Free w nb P Q k)(hr:Rep w G 0 a [.iface ty y])(hsz:n.places.length+Ls.dsize a<=31) :
  Calls Tryz.prog 117 #[.pointer (some ⟨nb,0,none⟩),.agg #[.iface ty y,.bool b,.bool false]] w (S7 w B nb P Q x ((Ls.add a n).1,⟨(Ls.add a n).2.first,(Ls.add a n).2.last,(Ls.add a n).2.empty||b⟩)):=by
 have hnl:=h.lt;have hb0:=C6 w (.cells #[.iface ty y,.bool b,.bool false] 189) (.cells #[.int .u32 (0:Nat),.int .u32 (0:Nat),.bool false] 150);have hrp0:=Rp.start h (.iface ty y) b false;have hst0:=NStep.of_below nb P Q hb0;have hN0:=h.below hb0;have hrep0:=hr.mono (fun _ h=>h) (fun k hk=>hst0.block k (hG k hk));have hG0:∀k,G k->Free _ nb P Q k:=fun k hk=>hst0.free (hG k hk);obtain⟨hb1,hb2,hb3,hb4⟩:=bQe hr.wd h.good (by omega);have hC:=hI _ B nb P Q n x G ty y hN0 (Nat.le_trans hB hb0.size) hG0 hrep0 hsz;generalize Ls.add a n=r at *;obtain⟨m1,nx⟩:=r;simp only at hb1 hb2;obtain⟨c0,c1,c2⟩:=cQv hrp0.box;have Hrp:Hid _:=hrp0;have Hst:Hid _:=hst0;clear hN0 hrep0 hG0 hb3 hb4 hI hr hG h hb0 hst0 hrp0;go_enter Tryz.func117,Tryz.ntmps117;go_upto_region 1 with (fail);generalize (w.alloc (.cells #[.iface ty y,.bool b,.bool false] 189)).alloc (.cells #[.int .u32 ((0:Nat):Int),.int .u32 ((0:Nat):Int),.bool false] 150)=W at *;go_wp2_with fail;refine hC.mono ?_;rintro e w1 ⟨P1,Q1,rfl,hN1,hst1⟩;clear hC c0 c1 c2;have hrp1:=Hrp.out.next hst1;have hB2:=A5 w1 (.cells #[.int .u32 nx.first,.int .u32 nx.last,.bool nx.empty] 150);have hst2:=NStep.of_below nb P1 Q1 hB2;have hrp3:=hrp1.next hst2;have hN3:=hN1.below hB2;have hfn3:=hN1.newFree (.cells #[.int .u32 nx.first,.int .u32 nx.last,.bool nx.empty] 150);have hnx3:=heap_alloc_new w1 (.cells #[.int .u32 nx.first,.int .u32 nx.last,.bool nx.empty] 150);have hstw3:=(Hst.out.trans hst1).trans hst2;have hz1:=hrp1.fr.1;have hz10:w.heap.size<w1.heap.size:=by omega
 go_upto_region 2 with (fail);clear hrp1 hst2 hN1 hst1 Hrp hB2;have hsz1:=(Array.getElem?_eq_some_iff.1 hnx3).1;generalize hzz:w1.heap.size=zz at *;generalize w1.alloc (.cells #[.int .u32 (nx.first:Int),.int .u32 (nx.last:Int),.bool nx.empty] 150)=w3 at *;obtain⟨c0,c1,c2⟩:=cQv hrp3.box;obtain⟨n0,n1,n2,n3⟩:=N1 hnx3;obtain⟨s0,s1,s2,s3⟩:=N1 hrp3.res;have n32:=n3 2;have s30:=s3 0;have s31:=s3 1;have s32:=s3 2;have hz3:=hrp3.fr.1;have hne1:¬zz=w.heap.size:=by omega
 have hne2:¬w.heap.size=zz:=by omega
 have hne3:¬zz=w.heap.size+1:=by omega
 have hne4:¬w.heap.size+1=zz:=by omega
 have Hfin:Hid (∀v c,NetL ((((w3.setCell ⟨zz,2,none⟩ v).setCell ⟨w.heap.size+1,0,none⟩ (.int .u32 nx.first)).setCell ⟨w.heap.size+1,1,none⟩ (.int .u32 nx.last)).setCell ⟨w.heap.size+1,2,none⟩ c) B nb P1 Q1 m1 x/\NStep w nb P Q ((((w3.setCell ⟨zz,2,none⟩ v).setCell ⟨w.heap.size+1,0,none⟩ (.int .u32 nx.first)).setCell ⟨w.heap.size+1,1,none⟩ (.int .u32 nx.last)).setCell ⟨w.heap.size+1,2,none⟩ c) P1 Q1):=fun v c=>
  Z9 (hN3.set hfn3 2 v) (hstw3.set (by omega) 2 v) (hrp3.fr.set _ _) (by omega) _ _ _
 clear hrp3 hnx3 hfn3 hstw3 n3 s3 hN3;cases he:nx.empty with
 | true=>
  rw[he]at n2;have He:Hid _:=he;clear he;go_wp2_with fail;exact bodyPost_ret (v:=S3 ⟨nx.first,nx.last,true⟩) (by simp[results,Tryz.results117,go_sem,s0,s1,s2]) rfl ⟨P1,Q1,by simp[He.out],Hfin.out _ _⟩
 | false=>
  rw[he]at n2;have He:Hid _:=he;clear he;go_wp2_with fail;exact bodyPost_ret (v:=S3 ⟨nx.first,nx.last,b⟩) (by simp[results,Tryz.results117,go_sem,s0,s1,s2]) rfl ⟨P1,Q1,by simp[He.out],Hfin.out _ _⟩
theorem pQf (t:Nat)(ht:t=5\/t=6\/t=7)(a:Ls.D)(hI:Q5 a)(w:World)(B nb:Nat)(P Q:Value)(n:Ls.Net)(x:Ls.Span)(G:Nat->Prop)(ty:TypeId)(y:Value)(h:NetL w B nb P Q n x)(hB:B<=w.heap.size)(hG:∀k,G k->Free w nb P Q k)(hr:Rep w G 0 a [.iface ty y])(hsz:n.places.length+Ls.dsize a<=31) :
  Calls Tryz.prog 117 #[.pointer (some ⟨nb,0,none⟩),.agg #[.iface ty y,.bool (t != 6),.bool (t != 7)]] w (S7 w B nb P Q x (Ls.add (Ls.rep t a) n)):=by
 rcases ht with rfl|rfl|rfl
 ·have:=hQ2 a hI w B nb P Q n x G ty y true h hB hG hr hsz
  rw[Bool.or_true]at this;unfold Ls.add at this ⊢;rw[Ls.jXy];exact this
 ·have:=hQ2 a hI w B nb P Q n x G ty y false h hB hG hr hsz
  rw[Bool.or_false]at this;unfold Ls.add at this ⊢;rw[Ls.jXx];exact this
 ·have:=pQg a hI w B nb P Q n x G ty y true h hB hG hr hsz
  rw[Bool.or_true]at this;unfold Ls.add at this ⊢;rw[Ls.kXu];exact this
end Go.Proofs.YtfklinjaajafgaaGreatDoor
