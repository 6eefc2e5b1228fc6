import Derived.Test.YtcggfnlejalppaaGreatDoorK32
import Derived.Test.YtcggfnlejalppaaGreatDoorK24
set_option maxRecDepth 100000
set_option maxHeartbeats 4000000
namespace Go.Proofs.YtcggfnlejalppaaGreatDoor
open Go.RowKit
theorem TV.at' {w:World}{G:Nat->Prop}{tb:Nat}{t:Ls.Tab}(h:TV w G tb t){x k:Nat}{r:List (List Nat)}(hx:t.to[x]?=some r)(hk:k<r.length) :
  ∃gT cT gr nr cr la lc,w.cell? ⟨tb,0,none⟩=some (.slice (some ⟨gT,0,none⟩) t.to.length cT)/\w.cell? ⟨gT,x,none⟩=some (.slice (some ⟨gr,0,none⟩) nr cr)/\w.cell? ⟨gr,k,none⟩=some (.slice la (t.row x k).length lc)/\G tb/\G gT/\G gr/\nr=r.length/\IV w G (.slice la (t.row x k).length lc) (t.row x k):=by
 obtain⟨h0,vT,vE,h1,⟨xs,v1,l1,e1⟩,_⟩:=h;have hxl:x<t.to.length:=(List.getElem?_eq_some_iff.1 hx).1;rcases v1 with⟨_,rfl⟩|⟨gT,cT,gG,rfl,cc⟩
 ·simp at l1;omega
 ·have hx1:xs[x]?=some xs[x]:=List.getElem?_eq_getElem (by omega)
  obtain⟨ys,v2,l2,e2⟩:=e1 x _ r hx1 hx;rcases v2 with⟨_,rfl⟩|⟨gr,cr,gg,er,cc2⟩
  ·simp at l2;omega
  ·have hk1:ys[k]?=some ys[k]:=List.getElem?_eq_getElem (by omega)
   have hk2:r[k]?=some r[k]:=List.getElem?_eq_getElem hk;have e3:=e2 k _ _ hk1 hk2;have hrow:t.row x k=r[k]:=by unfold Ls.Tab.row;rw[hx];dsimp only;rw[hk2]
   obtain⟨la,lc,el,_⟩:=e3.shape;refine⟨gT,cT,gr,ys.length,cr,la,lc,?_,?_,?_,h0,gG,gg,l2,?_⟩
   ·simp only[World.cell?,h1];simp[l1]
   ·rw[cc x (by omega),er]
   ·rw[cc2 k (by omega),el,hrow]
   ·rw[hrow,<-el];exact e3
theorem TV.end' {w:World}{G:Nat->Prop}{tb:Nat}{t:Ls.Tab}(h:TV w G tb t){x:Nat}{b:Bool}(hx:t.ends[x]?=some b) :
  ∃gE cE,w.cell? ⟨tb,1,none⟩=some (.slice (some ⟨gE,0,none⟩) t.ends.length cE)/\w.cell? ⟨gE,x,none⟩=some (.bool b)/\G tb/\G gE:=by
 obtain⟨h0,vT,vE,h1,_,v1⟩:=h;have hxl:x<t.ends.length:=(List.getElem?_eq_some_iff.1 hx).1;rcases v1 with⟨_,e⟩|⟨gE,cE,gG,rfl,cc⟩
 ·simp at e;rw[e]at hxl;simp at hxl
 ·refine⟨gE,cE,?_,?_,h0,gG⟩
  ·simp only[World.cell?,h1];simp
  ·rw[cc x (by simpa using hxl)]
   rw[List.getElem?_eq_getElem hxl]at hx;simp[Option.some.inj hx]
def O0 (S T:Ls.Tab)(a:Ls.Pr)(k:Nat):List Ls.Pr:=(List.range k).flatMap fun k=>E5 0 (S.row a.2.1 k) (T.row a.2.2 k)
theorem Z5 {ph:Nat}{a b:List Nat}{x:Ls.Pr}:x∈E5 ph a b↔x.1=ph/\x.2.1∈a/\x.2.2∈b:=by
 obtain⟨p,y,z⟩:=x;unfold E5;simp only[List.mem_flatMap,List.mem_map,Prod.mk.injEq];constructor
 ·rintro ⟨c,hc,d,hd,rfl,rfl,rfl⟩;exact⟨rfl,hc,hd⟩
 ·rintro ⟨rfl,h1,h2⟩;exact⟨y,h1,z,h2,rfl,rfl,rfl⟩
theorem dQp {S T:Ls.Tab}{a b:Ls.Pr}{k:Nat}:b∈O0 S T a k↔Ls.aXz S T k a b:=by
 unfold O0 Ls.aXz;simp only[List.mem_flatMap,List.mem_range,Z5,Ls.Tab.mem_row];constructor
 ·rintro ⟨k',h1,h2,h3,h4⟩;exact⟨h2,k',h1,h3,h4⟩
 ·rintro ⟨h2,k',h1,h3,h4⟩;exact⟨k',h1,h2,h3,h4⟩
theorem eQw (S T:Ls.Tab)(a:Ls.Pr)(k:Nat):O0 S T a (k+1)=O0 S T a k++E5 0 (S.row a.2.1 k) (T.row a.2.2 k):=by
 unfold O0;rw[List.range_succ,List.flatMap_append];simp
theorem hQz {S T:Ls.Tab}{a b:Ls.Pr}{k n:Nat}(h:Ls.aXz S T k a b)(hk:k<=n):Ls.aXz S T n a b:=by
 obtain⟨h0,k',h1,h2⟩:=h;exact⟨h0,k',by omega,h2⟩
theorem jQm {ph:Nat}{a b:List Nat}{m n x:Nat}(hm:m<a.length)(hx:x=a[m]){y:Ls.Pr}(h:y∈E5 ph (a.take m) b++(b.take n).map fun z=>(ph,x,z)):y∈E5 ph a b:=by
 rw[Z5];rw[List.mem_append]at h;rcases h with h|h
 ·rw[Z5]at h
  exact⟨h.1,List.mem_of_mem_take h.2.1,h.2.2⟩
 ·obtain⟨z,hz,rfl⟩:=List.mem_map.1 h
  exact⟨rfl,by rw[hx];exact List.getElem_mem hm,List.mem_of_mem_take hz⟩
theorem eQc {N:Nat}(h:N<=991233):3*(N*N)<=2947628580867:=by
 have:=Nat.mul_le_mul h h;omega
def Ge (w:World)(v:Value):Nat->Prop:=fun k=>k<w.heap.size/\some k≠v.ownBlock
theorem GrowsP.ge {w0:World}{base:Nat}{v0:Value}{w:World}{v:Value}{ps:List Ls.Pr}(h:GrowsP w0 base v0 w v ps):∀k,Ge w0 v0 k->Ge w v k/\w.heap[k]?=w0.heap[k]?:=fun k hk=>by
 obtain⟨h1,h2⟩:=h.block hk.1 hk.2;exact⟨⟨Nat.lt_of_lt_of_le hk.1 h.grown.size,h2⟩,h1⟩
theorem GrowsP.cell {w0:World}{base:Nat}{v0:Value}{w:World}{v:Value}{ps:List Ls.Pr}(h:GrowsP w0 base v0 w v ps){k:Nat}(hk:Ge w0 v0 k)(o:Nat):w.cell? ⟨k,o,none⟩=w0.cell? ⟨k,o,none⟩:=P9 (h.ge k hk).2 o
theorem sQo (p q:Ls.Pat)(P Q:List Ls.Pat)(hP:Ls.Room P)(hQ:Ls.Room Q)(hpP:p∈P)(hqQ:q∈Q)(nP:P.length<=991233)(nQ:Q.length<=991233)(sp:Ls.xQf p)(sq:Ls.xQf q)(y z:Value)(w:World)(G:Nat->Prop)(hG:Old w G)(hp:PV w G p y)(hq:PV w G q z) :
  Calls Tryz.prog 14 #[A7 p y,A7 q z] w fun e w'=>∃b:Bool,e=.returned (.bool b)/\(b=true↔¬Ls.bXt p q)/\Below w.heap.size w w':=by
 have Hp:Hid (PV w G p y):=hp;have Hq:Hid (PV w G q z):=hq;obtain⟨y1,y2,y3,rfl⟩:=PV.slice _ _ hp;obtain⟨z1,z2,z3,rfl⟩:=PV.slice _ _ hq;clear hp hq;have okp:=hP.ok p hpP;have okq:=hQ.ok q hqQ;have hb0:=C0 w (.cells #[.int .i64 p.kind,.string ⟨p.signs.toArray⟩,.slice y1 y2 y3] 27) (.cells #[.int .i64 q.kind,.string ⟨q.signs.toArray⟩,.slice z1 z2 z3] 27);have hl1:=C1 (w.alloc (.cells #[.int .i64 p.kind,.string ⟨p.signs.toArray⟩,.slice y1 y2 y3] 27)) (B7 q (.slice z1 z2 z3));rw[World.size_alloc]at hl1;have hl0:Lies ((w.alloc (.cells #[.int .i64 p.kind,.string ⟨p.signs.toArray⟩,.slice y1 y2 y3] 27)).alloc (.cells #[.int .i64 q.kind,.string ⟨q.signs.toArray⟩,.slice z1 z2 z3] 27)) w.heap.size (B7 p (.slice y1 y2 y3)):=by
  unfold Lies;rw[Below.heap_alloc _ _ _ (by simp)];exact C1 w (B7 p (.slice y1 y2 y3))
 go_enter Tryz.func14,Tryz.ntmps14;go_wp2_with fail;refine(gQd p q okp.1 okq.1 okp.2.2.1 okq.2.2.1 okp.2.1 okq.2.1 _ _ _ G (hG.below hb0) (Hp.out.below hb0 hG fun _ h=>h) (Hq.out.below hb0 hG fun _ h=>h)).mono ?_;rintro e w1 ⟨L,rfl,hL,hLn,hb1⟩;have hb01:=Below.join hb0 hb1;have hl01:=hl0.below hb1 (by simp;omega);have hl11:=hl1.below hb1 (by simp);obtain⟨c0,c1,c2⟩:=hl01.three;clear hl0 hl1;go_wp2_with fail;refine(aQ8 p P hP hpP L (by omega) _ _ G (hG.below hb01) (Hp.out.below hb01 hG fun _ h=>h)).mono ?_;rintro e w2 ⟨sb,S,ss,rfl,hsv,htS,hnS,hsP,hb2⟩;have hb02:=Below.join hb01 hb2;have hz1:=hb1.size;simp at hz1;have hl12:=hl11.below hb2 (by omega);obtain⟨d0,d1,d2⟩:=hl12.three;clear c0 c1 c2 hl01 hl11;go_wp2_with fail;refine(aQ8 q Q hQ hqQ L (by omega) _ _ G (hG.below hb02) (Hq.out.below hb02 hG fun _ h=>h)).mono ?_;rintro e w3 ⟨tb,T,ts,rfl,htv,htT,hnT,hsQ,hb3⟩;have hb03:=Below.join hb02 hb3;clear d0 d1 d2 hl12;have hb4:=A4 w3 (.cells #[.int .i64 0,.int .i64 0,.int .i64 0] 62);have hpl:PL (w3.alloc (.cells #[.int .i64 0,.int .i64 0,.int .i64 0] 62)) w3.heap.size (.slice (some ⟨w3.heap.size,0,none⟩) 1 1) [(0,0,0)]:=
  World.ownsRow_lit (e:=62) (size:=3) w3 (Q3 [(0,0,0)]).toArray 1 (Nat.le_refl _) (by unfold maxLen;omega) rfl
 have tvS:TV (w3.alloc (.cells #[.int .i64 0,.int .i64 0,.int .i64 0] 62)) (Ge (w3.alloc (.cells #[.int .i64 0,.int .i64 0,.int .i64 0] 62)) (.slice (some ⟨w3.heap.size,0,none⟩) 1 1)) sb S:=
  hsv.mono (fun k hk=>by
   have h3:=hb3.size;exact⟨⟨by simp;omega,by simp[Value.ownBlock];omega⟩,(Below.join hb3 hb4).block k hk.2⟩)
 have tvT:TV (w3.alloc (.cells #[.int .i64 0,.int .i64 0,.int .i64 0] 62)) (Ge (w3.alloc (.cells #[.int .i64 0,.int .i64 0,.int .i64 0] 62)) (.slice (some ⟨w3.heap.size,0,none⟩) 1 1)) tb T:=
  htv.mono (fun k hk=>⟨⟨by simp;omega,by simp[Value.ownBlock];omega⟩,hb4.block k hk.2⟩)
 have gp:=GrowsP.start hpl;have h0S:0<ss.length:=(List.getElem?_eq_some_iff.1 htS.first).1;have h0T:0<ts.length:=(List.getElem?_eq_some_iff.1 htT.first).1;have bf0:=BF.start (Ls.aXz S T L.length) (Ls.dXw S T) (I:=fun a=>a.1=0/\a.2.1<ss.length/\a.2.2<ts.length) ⟨rfl,h0S,h0T⟩;have HI:Hid (∀a:Ls.Pr,(a.1=0/\a.2.1<ss.length/\a.2.2<ts.length)->(a.1=0\/a.1=1\/a.1=2)/\a.2.1<max ss.length ts.length/\a.2.2<max ss.length ts.length):=fun a ha=>⟨.inl ha.1,by omega,by omega⟩;have HE:Hid (∀a b:Ls.Pr,(a.1=0/\a.2.1<ss.length/\a.2.2<ts.length)->Ls.aXz S T L.length a b->(b.1=0/\b.2.1<ss.length/\b.2.2<ts.length)):=by
  rintro a b ha ⟨h1,k,hk,h2,h3⟩;exact⟨h1,htS.row_lt ha.2.1 hk _ ((S.mem_row _ _ _).2 h2),htT.row_lt ha.2.2 hk _ ((T.mem_row _ _ _).2 h3)⟩
 have hN:=eQc (N:=max ss.length ts.length) (by omega);have Hres:=Ls.dXr okp.1 okq.1 sp sq hL htS htT;have hb04:=Below.join hb03 hb4;have hwl:w3.heap.size<=(w3.alloc (.cells #[.int .i64 0,.int .i64 0,.int .i64 0] 62)).heap.size:=hb4.size;have hv0:∀k,(Value.slice (some ⟨w3.heap.size,0,none⟩) 1 1).ownBlock=some k->w.heap.size<=k:=fun k e=>by
  have:=hb03.size;have e2:w3.heap.size=k:=by simpa [Value.ownBlock] using e
  omega
 clear hpl hsv htv hb4 Hp Hq;go_wp2_with fail;generalize w3.alloc (.cells #[.int .i64 0,.int .i64 0,.int .i64 0] 62)=wl at *;generalize (Value.slice (some ⟨w3.heap.size,0,none⟩) 1 1)=v0 at *;go_loopw [8,9] (fun lv iv wr=>∃(i:Nat) (ps:List Ls.Pr),iv=.int .i64 i/\GrowsP wl w3.heap.size v0 wr lv ps/\BF (Ls.aXz S T L.length) (Ls.dXw S T) (fun a=>a.1=0/\a.2.1<ss.length/\a.2.2<ts.length) ps i) (fun _ iv _=>2947628580868-(intOf iv).toNat)
 case atStart=>exact⟨0,[(0,0,0)],rfl,gp,bf0⟩
 case round=>
  obtain⟨i,ps,rfl,gr,bf⟩:=hrel;have hlen:=bf.length HI.out;have hne:ps≠[]:=fun e=>by have:=bf.first;rw[e]at this;simp at this
  obtain⟨g,cap,rfl⟩:=gr.pl.some hne
  by_cases hlt:i<ps.length
  ·obtain⟨c0,c1,c2⟩:=gr.pl.cells i hlt
   obtain⟨hph,hx,hy⟩:=bf.inR _ (List.getElem_mem hlt);have Hph:Hid (ps[i].1=0):=hph;clear hph;have hgb:=World.ownsRow.lt gr.pl g rfl;have p0:=N4 wr ps[i] 0;have p1:=N4 wr ps[i] 1;have p2:=N4 wr ps[i] 2;simp only[N5,List.getElem?_cons_zero,List.getElem?_cons_succ]at p0 p1 p2;have gwi:=gr.below (A4 wr (.cells #[.int .i64 ps[i].1,.int .i64 ps[i].2.1,.int .i64 ps[i].2.2] 62));have hpb:Ge (wr.alloc (.cells #[.int .i64 ps[i].1,.int .i64 ps[i].2.1,.int .i64 ps[i].2.2] 62)) (.slice (some ⟨g,0,none⟩) ps.length cap) wr.heap.size:=⟨by simp,by simp[Value.ownBlock];omega⟩;have tS:=tvS.mono gwi.ge;have tT:=tvT.mono gwi.ge;have hxE:ps[i].2.1<S.ends.length:=by rw[htS.lenE];exact hx
   have hyE:ps[i].2.2<T.ends.length:=by rw[htT.lenE];exact hy
   have gS0:S.ends[ps[i].2.1]?=some S.ends[ps[i].2.1]:=List.getElem?_eq_getElem hxE;have gT0:T.ends[ps[i].2.2]?=some T.ends[ps[i].2.2]:=List.getElem?_eq_getElem hyE;obtain⟨gS,cS,e0,e1,_,_⟩:=tS.end' gS0;obtain⟨gT,cT,e2,e3,_,_⟩:=tT.end' gT0;have HgS:Hid (S.ends[ps[i].2.1]?=some S.ends[ps[i].2.1]):=gS0;have HgT:Hid (T.ends[ps[i].2.2]?=some T.ends[ps[i].2.2]):=gT0;clear gS0 gT0;go_upto_if 52 with fail
   go_cut [52] (fun v wx=>∃b:Bool,v=.bool b/\(b=true↔Ls.dXw S T ps[i])/\Below (wr.heap.size+1) (wr.alloc (.cells #[.int .i64 ps[i].1,.int .i64 ps[i].2.1,.int .i64 ps[i].2.2] 62)) wx)
   case first=>
    cases hes:S.ends[ps[i].2.1] with
    | true=>
     rw[hes]at e1;cases het:T.ends[ps[i].2.2] with
     | true=>
      rw[het]at e3;have HF:Hid (Ls.dXw S T ps[i]):=⟨by rw[HgS.out,hes],by rw[HgT.out,het]⟩;clear hes het;go_wp2_with fail;go_quiet (fail)
      go_wp2_with fail;go_meet
      case rel=>exact⟨true,rfl,by simp[HF.out],G0 _ nq _⟩
     | false=>
      rw[het]at e3;have HF:Hid (¬Ls.dXw S T ps[i]):=fun h=>by have h2:=h.2;rw[HgT.out,het]at h2;cases h2
      clear hes het;go_wp2_with fail;go_quiet (fail)
      go_wp2_with fail;go_meet
      case rel=>exact⟨false,rfl,by simp[HF.out],G0 _ nq _⟩
    | false=>
     rw[hes]at e1;have HF:Hid (¬Ls.dXw S T ps[i]):=fun h=>by have h2:=h.1;rw[HgS.out,hes]at h2;cases h2
     clear hes;go_wp2_with fail;go_quiet (fail)
     go_wp2_with fail;go_meet
     case rel=>exact⟨false,rfl,by simp[HF.out],G0 _ nq _⟩
   case rest=>
    obtain⟨b,rfl,hba,hbc⟩:=hcut;have gwc:=gwi.below (w':=wc) (by simpa using hbc);cases b with
    | true=>
     have HF:Hid (∃n,Ls.Hit (Ls.aXz S T L.length) (Ls.dXw S T) n (0,0,0)):=bf.found hlt (hba.1 rfl);clear hba;go_wp2_with fail;go_ret;exact⟨false,rfl,by rw[<-Hres];simp[HF.out],hb04.grown gwc.grown (by have:=hb04.size;omega) hv0⟩
    | false=>
     have HF:Hid (¬Ls.dXw S T ps[i]):=fun h=>by have:=hba.2 h;cases this
     clear hba e0 e1 e2 e3;have q0:wc.cell? ⟨wr.heap.size,0,none⟩=some (.int .i64 ps[i].1):=(hbc.cell (p:=⟨wr.heap.size,0,none⟩) (by show wr.heap.size<_;omega)).trans p0;have q1:wc.cell? ⟨wr.heap.size,1,none⟩=some (.int .i64 ps[i].2.1):=(hbc.cell (p:=⟨wr.heap.size,1,none⟩) (by show wr.heap.size<_;omega)).trans p1;have q2:wc.cell? ⟨wr.heap.size,2,none⟩=some (.int .i64 ps[i].2.2):=(hbc.cell (p:=⟨wr.heap.size,2,none⟩) (by show wr.heap.size<_;omega)).trans p2;have tSc:=tvS.mono gwc.ge;have tTc:=tvT.mono gwc.ge;have hpc:Ge wc (.slice (some ⟨g,0,none⟩) ps.length cap) wr.heap.size:=⟨by have:=hbc.size;simp at this;omega,hpb.2⟩;have HB:Hid (∀m:List Ls.Pr,(∀b,b∈m->Ls.aXz S T L.length ps[i] b)->(D1 ps m).length<=2947628580867):=fun m hm=>
      Nat.le_trans (bf.part hlt hm (fun b hb=>HE.out _ b ⟨Hph.out,hx,hy⟩ hb) HI.out) hN
     clear p0 p1 p2 tS tT hpb;have gc:=GrowsP.start gwc.pl;obtain⟨rS,hrS,lrS,_⟩:=htS.row ps[i].2.1 _ (List.getElem?_eq_getElem hx);obtain⟨rT,hrT,lrT,_⟩:=htT.row ps[i].2.2 _ (List.getElem?_eq_getElem hy);have hxl:ps[i].2.1<S.to.length:=(List.getElem?_eq_some_iff.1 hrS).1;have hyl:ps[i].2.2<T.to.length:=(List.getElem?_eq_some_iff.1 hrT).1;have HrS:Hid (S.to[ps[i].2.1]?=some rS/\rS.length=L.length):=⟨hrS,lrS⟩;have HrT:Hid (T.to[ps[i].2.2]?=some rT/\rT.length=L.length):=⟨hrT,lrT⟩;clear hrS hrT lrS lrT;go_wp2_with fail;clear hbc gwi hgb;generalize wr.heap.size=pb at *;go_loopw [8,11] (fun lv kv wx=>∃k:Nat,k<=L.length/\kv=.int .i64 k/\GrowsP wc w3.heap.size (.slice (some ⟨g,0,none⟩) ps.length cap) wx lv (D1 ps (O0 S T ps[i] k))) (fun _ kv _=>L.length-(intOf kv).toNat)
     case atStart=>exact⟨0,Nat.zero_le _,rfl,gc⟩
     case round=>
      obtain⟨k,hk,rfl,gk⟩:=hrel
      by_cases hkl:k<L.length
      ·obtain⟨gA,cA,gr1,nr1,cr1,la,lc,a0,a1,a2,A0,A1,A2,hn1,ivS⟩:=tSc.at' HrS.out.1 (k:=k) (by have:=HrS.out.2;omega)
       obtain⟨gB,cB,gr2,nr2,cr2,ma,mc,b0,b1,b2,B0,B1,B2,hn2,ivT⟩:=tTc.at' HrT.out.1 (k:=k) (by have:=HrT.out.2;omega);have hn1':k<nr1:=by have:=HrS.out.2;omega
       have hn2':k<nr2:=by have:=HrT.out.2;omega
       have lS:=htS.row_length hP hsP hx hkl;have lT:=htT.row_length hQ hsQ hy hkl;have HCS:Hid (∀wx lv ps',GrowsP wc w3.heap.size (.slice (some ⟨g,0,none⟩) ps.length cap) wx lv ps'->wx.cell? ⟨sb,0,none⟩=some (.slice (some ⟨gA,0,none⟩) S.to.length cA)/\wx.cell? ⟨gA,ps[i].2.1,none⟩=some (.slice (some ⟨gr1,0,none⟩) nr1 cr1)/\wx.cell? ⟨gr1,k,none⟩=some (.slice la (S.row ps[i].2.1 k).length lc)/\wx.cell? ⟨pb,1,none⟩=some (.int .i64 ps[i].2.1)):=
        fun wx lv ps' h=>⟨(h.cell A0 _).trans a0,(h.cell A1 _).trans a1,(h.cell A2 _).trans a2,(h.cell hpc _).trans q1⟩
       have HCT:Hid (∀wx lv ps',GrowsP wc w3.heap.size (.slice (some ⟨g,0,none⟩) ps.length cap) wx lv ps'->wx.cell? ⟨tb,0,none⟩=some (.slice (some ⟨gB,0,none⟩) T.to.length cB)/\wx.cell? ⟨gB,ps[i].2.2,none⟩=some (.slice (some ⟨gr2,0,none⟩) nr2 cr2)/\wx.cell? ⟨gr2,k,none⟩=some (.slice ma (T.row ps[i].2.2 k).length mc)/\wx.cell? ⟨pb,2,none⟩=some (.int .i64 ps[i].2.2)):=
        fun wx lv ps' h=>⟨(h.cell B0 _).trans b0,(h.cell B1 _).trans b1,(h.cell B2 _).trans b2,(h.cell hpc _).trans q2⟩
       obtain⟨ao,ac,ea,hao⟩:=ivS.shape;injection ea with ea1 ea2 ea3;subst ea1 ea3;obtain⟨bo,bc,eb,hbo⟩:=ivT.shape;injection eb with eb1 eb2 eb3;subst eb1 eb3;clear a0 a1 a2 b0 b1 b2 ea2 eb2 hn1 hn2 ivS ivT;have HSr:Hid (0<(S.row ps[i].2.1 k).length->∃g',la=some ⟨g',0,none⟩/\Ge wc (.slice (some ⟨g,0,none⟩) ps.length cap) g'/\∀j (h:j<(S.row ps[i].2.1 k).length),wc.cell? ⟨g',j,none⟩=some (.int .i64 (S.row ps[i].2.1 k)[j])):=hao;have HTr:Hid (0<(T.row ps[i].2.2 k).length->∃g',ma=some ⟨g',0,none⟩/\Ge wc (.slice (some ⟨g,0,none⟩) ps.length cap) g'/\∀j (h:j<(T.row ps[i].2.2 k).length),wc.cell? ⟨g',j,none⟩=some (.int .i64 (T.row ps[i].2.2 k)[j])):=hbo;clear hao hbo;go_wp2_with fail;go_loopw [8,12] (fun lv mv wy=>∃m:Nat,m<=(S.row ps[i].2.1 k).length/\mv=.int .i64 m/\GrowsP wc w3.heap.size (.slice (some ⟨g,0,none⟩) ps.length cap) wy lv (D1 ps (O0 S T ps[i] k++E5 0 ((S.row ps[i].2.1 k).take m) (T.row ps[i].2.2 k)))) (fun _ mv _=>(S.row ps[i].2.1 k).length-(intOf mv).toNat)
       case atStart=>exact⟨0,Nat.zero_le _,rfl,by simpa [E5] using gk⟩
       case round=>
        obtain⟨m,hm,rfl,gm⟩:=hrel;obtain⟨a0,a1,a2,a3⟩:=HCS.out _ _ _ gm
        by_cases hml:m<(S.row ps[i].2.1 k).length
        ·go_wp2_with fail
         go_quiet (fail)
         go_wp2_with fail;have gq:=gm.below (G0 wr nq wr.heap.size);clear gm a0 a1 a2 a3;generalize wr.drewN nq=wq at *;obtain⟨gl,rfl,hGl,hcl⟩:=HSr.out (by omega);have a4:=hcl m hml;have Ha4:Hid (∀wx lv ps',GrowsP wc w3.heap.size (.slice (some ⟨g,0,none⟩) ps.length cap) wx lv ps'->wx.cell? ⟨gl,m,none⟩=some (.int .i64 (S.row ps[i].2.1 k)[m])):=fun wx lv ps' h=>(h.cell hGl _).trans a4;clear hcl a4;go_loopw [8,13] (fun lv nv wz=>∃n:Nat,n<=(T.row ps[i].2.2 k).length/\nv=.int .i64 n/\GrowsP wc w3.heap.size (.slice (some ⟨g,0,none⟩) ps.length cap) wz lv (D1 ps (O0 S T ps[i] k++(E5 0 ((S.row ps[i].2.1 k).take m) (T.row ps[i].2.2 k)++((T.row ps[i].2.2 k).take n).map fun y=>(0,(S.row ps[i].2.1 k)[m],y))))) (fun _ nv _=>(T.row ps[i].2.2 k).length-(intOf nv).toNat)
         case atStart=>exact⟨0,Nat.zero_le _,rfl,by simpa using gq⟩
         case round=>
          obtain⟨n,hn,rfl,gn⟩:=hrel;obtain⟨a0,a1,a2,a3⟩:=HCS.out _ _ _ gn;obtain⟨b0,b1,b2,b3⟩:=HCT.out _ _ _ gn
          by_cases hnl:n<(T.row ps[i].2.2 k).length
          ·obtain⟨gu,rfl,hGu,hcu⟩:=HTr.out (by omega)
           have hcu0:=hcu n hnl;have HS:Hid (∀wx lv ps',GrowsP wc w3.heap.size (.slice (some ⟨g,0,none⟩) ps.length cap) wx lv ps'->(wx.cell? ⟨sb,0,none⟩=some (.slice (some ⟨gA,0,none⟩) S.to.length cA)/\wx.cell? ⟨gA,ps[i].2.1,none⟩=some (.slice (some ⟨gr1,0,none⟩) nr1 cr1)/\wx.cell? ⟨gr1,k,none⟩=some (.slice (some ⟨gl,0,none⟩) (S.row ps[i].2.1 k).length lc)/\wx.cell? ⟨pb,1,none⟩=some (.int .i64 ps[i].2.1))/\(wx.cell? ⟨tb,0,none⟩=some (.slice (some ⟨gB,0,none⟩) T.to.length cB)/\wx.cell? ⟨gB,ps[i].2.2,none⟩=some (.slice (some ⟨gr2,0,none⟩) nr2 cr2)/\wx.cell? ⟨gr2,k,none⟩=some (.slice (some ⟨gu,0,none⟩) (T.row ps[i].2.2 k).length mc)/\wx.cell? ⟨pb,2,none⟩=some (.int .i64 ps[i].2.2))/\wx.cell? ⟨gl,m,none⟩=some (.int .i64 (S.row ps[i].2.1 k)[m])/\wx.cell? ⟨gu,n,none⟩=some (.int .i64 (T.row ps[i].2.2 k)[n])):=fun wx lv ps' h=>⟨HCS.out _ _ _ h,HCT.out _ _ _ h,Ha4.out _ _ _ h,(h.cell hGu n).trans hcu0⟩;clear hcu hcu0;have HC:Hid (∀W,Below wr.heap.size wr W->Calls Tryz.prog 37 #[u8,.agg #[.int .i64 0,.int .i64 (S.row ps[i].2.1 k)[m],.int .i64 (T.row ps[i].2.2 k)[n]]] W fun e w5=>∃x1 x2 x3,e=.returned (.slice x1 x2 x3)/\GrowsP wc w3.heap.size (.slice (some ⟨g,0,none⟩) ps.length cap) w5 (.slice x1 x2 x3) (D1 ps (O0 S T ps[i] k++(E5 0 ((S.row ps[i].2.1 k).take m) (T.row ps[i].2.2 k)++((T.row ps[i].2.2 k).take (n+1)).map fun y=>(0,(S.row ps[i].2.1 k)[m],y))))):=by
            intro W hW;have gW:=gn.below hW;refine(eQb W w3.heap.size ?_ u8 _ gW.pl (bQa hne _) ?_ (0,(S.row ps[i].2.1 k)[m],(T.row ps[i].2.2 k)[n])).mono ?_
            ·have:=gwc.grown.size;have:=gW.grown.size;have:=hwl;omega
            ·refine Nat.le_trans (HB.out _ (fun b hb=>?_)) (by omega)
             rw[List.mem_append]at hb;rcases hb with hb|hb
             ·exact hQz (dQp.1 hb) hk
             ·have hb2:=jQm hml rfl hb
              have:b∈O0 S T ps[i] (k+1):=by rw[eQw,List.mem_append];exact .inr hb2
              exact hQz (dQp.1 this) hkl
            ·rintro e w5 ⟨v5,rfl,hp5,hg5,hr5⟩
             have g5:GrowsP W w3.heap.size u8 w5 v5 _:=⟨hp5,hg5,hr5⟩;have key:=gW.next g5;rw[<-cQ4,List.append_assoc,<-gQy hnl]at key;rcases J1 hp5 with⟨rfl,_⟩|⟨g',cap',rfl⟩
             ·exact⟨_,_,_,rfl,key⟩
             ·exact⟨_,_,_,rfl,key⟩
           go_wp2_with fail;go_quiet (fail)
           go_wp2_with fail;have gz:=gn.below (G0 wr nq wr.heap.size);have hsz:=HS.out _ _ _ gz;have HC2:Hid (∀W,Below (wr.drewN nq).heap.size (wr.drewN nq) W->Below wr.heap.size wr W):=fun W h=>(G0 wr nq wr.heap.size).trans h;clear gn a0 a1 a2 a3 b0 b1 b2 b3;generalize wr.drewN nq=wz at *;go_region_held (fun w'=>(w'.cell? ⟨sb,0,none⟩=some (.slice (some ⟨gA,0,none⟩) S.to.length cA)/\w'.cell? ⟨gA,ps[i].2.1,none⟩=some (.slice (some ⟨gr1,0,none⟩) nr1 cr1)/\w'.cell? ⟨gr1,k,none⟩=some (.slice (some ⟨gl,0,none⟩) (S.row ps[i].2.1 k).length lc)/\w'.cell? ⟨pb,1,none⟩=some (.int .i64 ps[i].2.1))/\(w'.cell? ⟨tb,0,none⟩=some (.slice (some ⟨gB,0,none⟩) T.to.length cB)/\w'.cell? ⟨gB,ps[i].2.2,none⟩=some (.slice (some ⟨gr2,0,none⟩) nr2 cr2)/\w'.cell? ⟨gr2,k,none⟩=some (.slice (some ⟨gu,0,none⟩) (T.row ps[i].2.2 k).length mc)/\w'.cell? ⟨pb,2,none⟩=some (.int .i64 ps[i].2.2))/\w'.cell? ⟨gl,m,none⟩=some (.int .i64 (S.row ps[i].2.1 k)[m])/\w'.cell? ⟨gu,n,none⟩=some (.int .i64 (T.row ps[i].2.2 k)[n])) (first|assumption|go_keep) ((go_at_call 37;refine(HC.out _ (HC2.out _ ?_)).mono ?_;exact(Below.refl _ _).drew;rintro e w5 ⟨x1,x2,x3,rfl,g5⟩;have hs5:=HS.out _ _ _ g5))
           go_wp2_with fail;exact⟨⟨n+1,by omega,by go_num,g5⟩,by simp[intOf];omega⟩
          ·go_wp2_with fail
           go_quiet (fail)
           go_wp2_with fail;refine⟨⟨m+1,by omega,by go_num,?_⟩,by simp[intOf];omega⟩;rw[gQr hml];rw[show (T.row ps[i].2.2 k).take n=T.row ps[i].2.2 k from List.take_of_length_le (by omega)]at gn;exact gn.below (G0 wr _ wr.heap.size)
        ·go_wp2_with fail
         go_quiet (fail)
         go_wp2_with fail;refine⟨⟨k+1,by omega,by go_num,?_⟩,by simp[intOf];omega⟩;rw[eQw];rw[show (S.row ps[i].2.1 k).take m=S.row ps[i].2.1 k from List.take_of_length_le (by omega)]at gm;exact gm.below (G0 wr _ wr.heap.size)
      ·have hke:k=L.length:=by omega
       subst hke;have bf':=bf.next hlt (m:=O0 S T ps[i] L.length) (fun b=>dQp) (fun b hb=>HE.out _ b ⟨Hph.out,hx,hy⟩ hb) HF.out;go_wp2_with fail;refine⟨⟨i+1,_,by go_num,gwc.next gk,bf'⟩,by simp[intOf];omega⟩
  ·go_wp2_with fail
   go_ret;have:i=ps.length:=by have:=bf.le;omega
   subst this;exact⟨true,rfl,by rw[<-Hres];simp[bf.done],hb04.grown gr.grown (by have:=hb04.size;omega) hv0⟩
def K7 (S T:Ls.Tab)(a:Ls.Pr)(k:Nat):List Ls.Pr:=if a.1=0/\S.ends[a.2.1]?=some true then E5 1 (S.row a.2.2 k) (T.row 0 k) else []
def cQj (S T:Ls.Tab)(a:Ls.Pr)(k:Nat):List Ls.Pr:=E5 a.1 ((Ls.bXp S T a.1).row a.2.1 k) ((Ls.bXo S T a.1).row a.2.2 k)
def I2 (S T:Ls.Tab)(a:Ls.Pr)(k:Nat):List Ls.Pr:=(List.range k).flatMap fun k=>K7 S T a k++cQj S T a k
def O6 (S:Ls.Tab)(a:Ls.Pr):List Ls.Pr:=if a.1=1/\S.ends[a.2.1]?=some true then [(2,a.2.2,0)] else []
theorem iQj (S T:Ls.Tab)(a:Ls.Pr)(k:Nat):I2 S T a (k+1)=I2 S T a k++(K7 S T a k++cQj S T a k):=by
 unfold I2;rw[List.range_succ,List.flatMap_append];simp
theorem iQ9 {S T:Ls.Tab}{a b:Ls.Pr}{k:Nat}:b∈K7 S T a k↔(a.1=0/\S.ends[a.2.1]?=some true/\b.1=1/\S.go a.2.2 k b.2.1/\T.go 0 k b.2.2):=by
 unfold K7;split
 ·rename_i h
  rw[Z5];simp only[Ls.Tab.mem_row];constructor
  ·rintro ⟨h1,h2,h3⟩;exact⟨h.1,h.2,h1,h2,h3⟩
  ·rintro ⟨_,_,h1,h2,h3⟩;exact⟨h1,h2,h3⟩
 ·rename_i h
  simp only[List.not_mem_nil,false_iff];rintro ⟨h1,h2,_⟩;exact h ⟨h1,h2⟩
theorem sQf {S T:Ls.Tab}{a b:Ls.Pr}{k:Nat}:b∈cQj S T a k↔(b.1=a.1/\(Ls.bXp S T a.1).go a.2.1 k b.2.1/\(Ls.bXo S T a.1).go a.2.2 k b.2.2):=by
 unfold cQj;rw[Z5];simp only[Ls.Tab.mem_row]
theorem eQs {S T:Ls.Tab}{a b:Ls.Pr}{n:Nat}:b∈I2 S T a n++O6 S a↔Ls.yQ7 S T n a b:=by
 unfold I2 O6 Ls.yQ7;simp only[List.mem_append,List.mem_flatMap,List.mem_range,iQ9,sQf];constructor
 ·rintro (⟨k,hk,h|h⟩|h)
  ·exact .inr (.inl ⟨h.1,h.2.1,h.2.2.1,k,hk,h.2.2.2⟩)
  ·exact .inl ⟨h.1,k,hk,h.2⟩
  ·split at h
   ·rename_i h1
    simp only[List.mem_singleton]at h;exact .inr (.inr ⟨h1.1,h1.2,h⟩)
   ·simp at h
 ·rintro (⟨h1,k,hk,h2⟩|⟨h1,h2,h3,k,hk,h4⟩|⟨h1,h2,h3⟩)
  ·exact .inl ⟨k,hk,.inr ⟨h1,h2⟩⟩
  ·exact .inl ⟨k,hk,.inl ⟨h1,h2,h3,h4⟩⟩
  ·refine .inr ?_
   rw[if_pos ⟨h1,h2⟩];simp[h3]
theorem mQn {S T:Ls.Tab}{a b:Ls.Pr}{k n:Nat}(h:Ls.yQ7 S T k a b)(hk:k<=n):Ls.yQ7 S T n a b:=by
 rcases h with⟨h1,k',h2,h3⟩|⟨h1,h2,h3,k',h4,h5⟩|h
 ·exact .inl ⟨h1,k',by omega,h3⟩
 ·exact .inr (.inl ⟨h1,h2,h3,k',by omega,h5⟩)
 ·exact .inr (.inr h)
theorem aQ9 {S T:Ls.Tab}{a b:Ls.Pr}{k n:Nat}(h:b∈I2 S T a k)(hk:k<=n):Ls.yQ7 S T n a b:=
 mQn (eQs.1 (List.mem_append.2 (.inl h))) hk
def IO3 (ns nt:Nat)(a:Ls.Pr):Prop:=(a.1=0/\a.2.1<ns/\a.2.2<ns)\/(a.1=1/\a.2.1<ns/\a.2.2<nt)\/(a.1=2/\a.2.1<nt/\a.2.2<nt)
theorem IO3.inR {ns nt:Nat}{a:Ls.Pr}(h:IO3 ns nt a):(a.1=0\/a.1=1\/a.1=2)/\a.2.1<max ns nt/\a.2.2<max ns nt:=by
 rcases h with⟨h1,h2,h3⟩|⟨h1,h2,h3⟩|⟨h1,h2,h3⟩
 ·exact⟨.inl h1,by omega,by omega⟩
 ·exact⟨.inr (.inl h1),by omega,by omega⟩
 ·exact⟨.inr (.inr h1),by omega,by omega⟩
theorem IO3.step {p q:Ls.Pat}{L:List UInt8}{S T:Ls.Tab}{ss ts:List Ls.Pat}(hS:Ls.TabOf p L S ss)(hT:Ls.TabOf q L T ts){a b:Ls.Pr}(h:IO3 ss.length ts.length a)(he:Ls.yQ7 S T L.length a b):IO3 ss.length ts.length b:=by
 have h0T:0<ts.length:=(List.getElem?_eq_some_iff.1 hT.first).1;have rS:∀{i k j:Nat},i<ss.length->k<L.length->S.go i k j->j<ss.length:=fun hi hk hj=>hS.row_lt hi hk _ ((S.mem_row _ _ _).2 hj);have rT:∀{i k j:Nat},i<ts.length->k<L.length->T.go i k j->j<ts.length:=fun hi hk hj=>hT.row_lt hi hk _ ((T.mem_row _ _ _).2 hj);obtain⟨ph,x,y⟩:=a;obtain⟨ph',x',y'⟩:=b;rcases he with⟨h1,k,hk,h2,h3⟩|⟨h1,_,h2,k,hk,h3,h4⟩|⟨h1,_,h2⟩
 ·simp only at h1 h2 h3
  subst h1;rcases h with⟨e,h4,h5⟩|⟨e,h4,h5⟩|⟨e,h4,h5⟩<;>simp only at e h4 h5<;>subst e
  ·exact .inl ⟨rfl,rS h4 hk h2,rS h5 hk h3⟩
  ·exact .inr (.inl ⟨rfl,rS h4 hk h2,rT h5 hk h3⟩)
  ·exact .inr (.inr ⟨rfl,rT h4 hk h2,rT h5 hk h3⟩)
 ·simp only at h1 h2 h3 h4
  subst h1;subst h2;rcases h with⟨_,_,h6⟩|⟨e,_⟩|⟨e,_⟩
  ·exact .inr (.inl ⟨rfl,rS h6 hk h3,rT h0T hk h4⟩)
  ·cases e
  ·cases e
 ·simp only at h1
  subst h1;cases h2;rcases h with⟨e,_⟩|⟨_,_,h6⟩|⟨e,_⟩
  ·cases e
  ·exact .inr (.inr ⟨rfl,h6,h0T⟩)
  ·cases e
end Go.Proofs.YtcggfnlejalppaaGreatDoor
