import Derived.Test.YtfklinjaajafgaaGreatDoorK24
import Derived.Deep.CutBlock
set_option maxRecDepth 100000
set_option maxHeartbeats 4000000
namespace Go.Proofs.YtfklinjaajafgaaGreatDoor
open Ls
open Go.RowKit
variable {a n tb:Nat}{ends:List Bool}{p:Pat}{sts:List Pat}{tt:List (List (List Nat))}{w:World}
theorem vQk:(Tryz.prog.info? 4).map (fun i=>(i.zero,i.size,i.bytes))=some (some (.bool false),1,1):=by kernel_rfl
theorem vQl:(Tryz.prog.info? 3).map (fun i=>(i.zero,i.size,i.bytes))=some (some (Iv 0),1,8):=by kernel_rfl
theorem vQm:(Tryz.prog.info? 75).map (fun i=>(i.zero,i.size,i.bytes))=some (some (.slice none 0 0),1,24):=by kernel_rfl
theorem vQn:(Tryz.prog.info? 76).map (fun i=>(i.zero,i.size,i.bytes))=some (some (.slice none 0 0),1,24):=by kernel_rfl
def pQu (p:Pat)(L:Lu)(R:List Pat)(w:World):Ending->World->Prop:=fun e w'=>
 ∃tb t sts,e=.returned (.pointer (some ⟨tb,0,none⟩))/\TV w' (fun k=>w.heap.size<=k/\k<w'.heap.size) tb t/\TabOf p L t sts/\sts.length<=R.length/\(∀x,x∈sts->x∈R)/\Bw w w'
theorem dXw {d:World}{g f:Nat}{G:Nat->Prop}(l:Old w G){y:Value}(m:Bw w d)(B:w.heap.size<=tb)(s:w.heap.size<=g)(t:w.heap.size<=f)(K:tb≠g)(L:tb≠f)(M:g≠f)
  (A:d.heap[tb]?=some (.cells #[.slice none 0 0,.slice none 0 0] 73 (0,0))) (hs:d.heap[g]?=some (.cells #[Iv p.kind,Sv p.signs,y] 27 (0,0))) (x:d.heap[f]?=some (.cells #[I5 (Ls.key p)] 9 (0,0))) (J:PV w G p y) :
  TS w d tb (Sl g 1 1) (Sl f 1 1) (.slice none 0 0) (.slice none 0 0) (.slice none 0 0) (.slice none 0 0) [] [(p,y)] [Ls.key p] [] []:=by
 have r:∀{b:Nat} {o:Obj},d.heap[b]?=some o->b<d.heap.size:=fun h=>(Array.getElem?_eq_some_iff.1 h).1;refine⟨m,⟨?_,?_⟩,⟨rfl,.inr ⟨g,1,_,rfl,s,hs,Nat.le_refl _,by unfold maxLen;omega,rfl,rfl⟩⟩,?_,⟨⟨rfl,.inr ⟨f,1,_,rfl,t,x,Nat.le_refl _,by unfold maxLen;omega,rfl,rfl⟩⟩,by simp⟩,World.ownsRow_nil _ _ _ _,⟨[],World.ownsRow_nil _ _ _ _,rfl,by simp⟩,A⟩
 ·intro u c k a
  simp only[List.nil_append,List.mem_cons,List.not_mem_nil,or_false]at c;rcases c with rfl|rfl|rfl|rfl|rfl
  ·injection a with e;subst e;exact⟨s,r hs⟩
  ·injection a with e;subst e;exact⟨t,r x⟩
  ·cases a
  ·cases a
  ·injection a with e;subst e;exact⟨B,r A⟩
 ·intro i j u v E c n k H I
  have N:i<5:=(List.getElem?_eq_some_iff.1 c).1;have O:j<5:=(List.getElem?_eq_some_iff.1 n).1;have C:i=0\/i=1\/i=2\/i=3\/i=4:=by omega
  have F:j=0\/j=1\/j=2\/j=3\/j=4:=by omega
  rcases C with rfl|rfl|rfl|rfl|rfl<;>rcases F with rfl|rfl|rfl|rfl|rfl<;>simp at c n E<;>subst c n<;>simp[Value.ownBlock]at H I<;>omega
 ·intro q z
  simp only[List.mem_singleton]at z;subst z;refine PV.mono2 (w:=w) (G:=G) (fun k a=>⟨⟨Ll (l k a) m.size,fun u c e=>?_⟩,m.block k (l k a)⟩) J;have P:=l k a;simp only[List.nil_append,List.mem_cons,List.not_mem_nil,or_false]at c;rcases c with rfl|rfl|rfl|rfl|rfl<;>simp[Value.ownBlock]at e<;>omega
theorem TS.cell0 {k:World}{i g f j c b:Value}{d:List Value}{e:List (Pat × Value)}{ks:List (Lu)}(h:TS k w tb i g f j c b d e ks ends tt) :
  w.cell? ⟨tb,0,none⟩=some c/\w.cell? ⟨tb,1,none⟩=some b/\w.frozen? ⟨tb,0,none⟩=false/\w.frozen? ⟨tb,1,none⟩=false/\tb<w.heap.size:=by
 have a:=h.tab;refine⟨?_,?_,?_,?_,(Array.getElem?_eq_some_iff.1 a).1⟩
 ·simp only[World.cell?,a];rfl
 ·simp only[World.cell?,a];rfl
 ·simp only[World.frozen?,a];rfl
 ·simp only[World.frozen?,a];rfl
theorem iQn {L:Lu}{R:List Pat}{m:Nat}(h:TInv p L R sts n ends m tt):sts.length<=R.length:=iXq h.kd h.room
theorem cQr (w:World)(v:Value)(t:TypeId):∀j u,[v][j]?=some u->(w.alloc (.cells #[v] t)).cell? ((⟨w.heap.size,0,none⟩:Addr).add j)=some u:=by
 intro j u a;match j,a with
 | 0,a=>
  simp at a;subst a;have:(w.alloc (.cells #[v] t)).heap[w.heap.size]?=some (.cells #[v] t):=heap_alloc_new w _;show World.cell? _ ⟨w.heap.size,0,none⟩=_;simp only[World.cell?,this];rfl
 | j+1,a=>simp at a
theorem kQ8 {b:List Nat}{m:List Pat}{j:Nat}(h:b.map (fun j=>sts[j]?)=(m.take j).map some)(c:j<m.length)(ha:sts[a]?=some m[j]):(b++[a]).map (fun j=>sts[j]?)=(m.take (j+1)).map some:=by
 rw[List.map_append,h,List.take_succ_eq_append_getElem c,List.map_append];simp[ha]
theorem uQw {b:List (Pat × Value)}(h:a<b.length):(b.map (·.1))[a]?=some b[a].1:=by
 rw[List.getElem?_map,List.getElem?_eq_getElem h];rfl
theorem lQ4 {j l:Nat}{e m:TypeId}{i:Nat}{v:Value}{c d:List Value}(h:w.ownsRow j e i v n c)(k:w.ownsRow l m i v n d):c=d:=by
 rcases h.2 with⟨b,q⟩|⟨g,u,y,b,_,r,_,_,_,s⟩
 ·subst q
  have o:=List.eq_nil_of_length_eq_zero (by simpa using h.1);have p:=List.eq_nil_of_length_eq_zero (by simpa using k.1);rw[o,p]
 ·rcases k.2 with⟨a,_⟩|⟨A,x,z,a,_,f,_,_,_,t⟩
  ·rw[b]at a;cases a
  ·rw[b]at a
   cases a;rw[r]at f;cases f;rw[<-s,<-t]
theorem fQu (p:Pat)(R:List Pat)(M:Room R)(h4:p∈R)(L:Lu)(hL:L.length<=1000)(d5:Value)(w:World)(b2:Nat->Prop)(hG:Old w b2)(hp:PV w b2 p d5) :
  Calls Tryz.prog 41 #[B4 p d5,I5 L] w (pQu p L R w):=by
 have Hp:Hid _:=hp;obtain⟨y1,y2,y3,rfl⟩:=PV.slice _ _ hp;have i8:=M.ok p h4;go_enter Tryz.func41,Tryz.ntmps41;go_wp2_with fail;refine(cQy p i8.1 i8.2.1 _ _ b2 (Old.alloc (Old.alloc (Old.alloc hG _) _) _) (Hp.out.below (Q0 _ _ _ _) hG fun _ e3=>e3)).mono ?_;rintro e w1 ⟨rfl,e4⟩;have i9:=e4.size;rw[fQp]at i9;go_wp2;have i7:TS w (w1.alloc (.cells #[Sv (Ls.key p)] 9)) (w.heap.size+1) (.slice (some ⟨w.heap.size+1+1,0,none⟩) 1 1) (Sl w1.heap.size 1 1) (.slice none 0 0) (.slice none 0 0) (.slice none 0 0) (.slice none 0 0) [] [(p,.slice y1 y2 y3)] [Ls.key p] [] []:=by
  have y:=Bj e4 (A5 w1 (.cells #[Sv (Ls.key p)] 9));refine dXw hG (Bj (Q0 _ _ _ _) y) (by omega) (by omega) (by omega) (by omega) (by omega) (by omega) ?_ ?_ (heap_alloc_new _ _) Hp.out
  ·rw[y.block _ (by rw[fQp];omega),Below.heap_alloc _ _ _ (by simp)]
   have:=heap_alloc_new (w.alloc (.cells #[Iv p.kind,Sv p.signs,.slice y1 y2 y3] 27)) (.cells #[.slice none 0 0,.slice none 0 0] 73);rw[World.size_alloc]at this;exact this
  ·rw[y.block _ (by rw[fQp];omega)]
   have:=heap_alloc_new ((w.alloc (.cells #[Iv p.kind,Sv p.signs,.slice y1 y2 y3] 27)).alloc (.cells #[.slice none 0 0,.slice none 0 0] 73)) (.cells #[Iv p.kind,Sv p.signs,.slice y1 y2 y3] 27);rw[World.size_alloc,World.size_alloc]at this;exact this
 have i6:TInv p L R [p] 0 [] 0 []:=⟨rfl,by simpa using h4,by simp[KD],by simp,by simp,rfl,by simp⟩;go_loopw [6,7,8] (fun sv kv z wr=>∃(i:Nat) (h:List (Pat × Value)) (vE S:Value) (u:List Bool) (n:List (List (List Nat))),i<=h.length/\z=Iv i/\TS w wr (w.heap.size+1) sv kv vE S S vE [] h (h.map fun q=>Ls.key q.1) u n/\TInv p L R (h.map (·.1)) i u i n) (fun _ _ z _=>R.length-(intOf z).toNat)
 case atStart=>exact⟨0,[(p,.slice y1 y2 y3)],_,_,[],[],by simp,rfl,i7,i6⟩
 case round=>
  obtain⟨i,h,vE,S,u,n,hi,rfl,Q,Y⟩:=hrel;have V:=iQn Y;have r0:=M.small;rw[List.length_map]at V;obtain⟨sa,sc,c8,f3⟩:∃J o,u6=.slice J h.length o/\(0<h.length->∃g,J=some ⟨g,0,none⟩):=by
   rcases O0 Q.ownS with⟨e,A⟩|⟨g,o,e⟩
   ·exact⟨_,_,by rw[e,A],by omega⟩
   ·exact⟨_,_,e,fun _=>⟨g,rfl⟩⟩
  by_cases c5:i<h.length
  ·obtain⟨g,rfl⟩:=f3 (by omega)
   subst c8;obtain⟨U,c1,c2⟩:=Y4 i Q.ownS rfl c5;have h6:=List.getElem_mem c5;have b8:=Y.room _ (List.mem_map.2 ⟨h[i],h6,rfl⟩);have HE:Hid (Ca 74 #[.agg #[Iv h[i].1.kind,.string ⟨h[i].1.signs.toArray⟩,h[i].2]] wr (Rt (.bool (Ls.empty h[i].1)) wr)):=
    eQm h[i].1 (M.ok _ b8).1 h[i].2 wr _ (fun k hk=>hk.1) (Q.each _ h6)
   go_wp2_with fail;refine HE.out.mono ?_;rintro e w2 ⟨rfl,y⟩;have f6:=Q.below y;have q1:u.length<=i:=by have:=congrArg List.length Y.ends;simp at this;omega
   obtain⟨ea,ec,rfl⟩:∃J o,vE=.slice J u.length o:=by
    rcases O0 Q.ownE with⟨e,A⟩|⟨g,o,e⟩
    ·exact⟨_,_,by rw[e,A]⟩
    ·exact⟨_,_,e⟩
   have d4:=f6.below (A5 w2 (.cells #[.bool (Ls.empty h[i].1)] 4));obtain⟨t0,t1,_,_,r1⟩:=f6.cell0;obtain⟨j,hj,j0,j1,j2⟩:=info_parts vQk;have s:=cQr w2 (.bool (Ls.empty h[i].1)) 4;clear U c1 c2 HE;go_wp2_with (at_builtin;go_must (refine P8 _ rfl _ _ 71 rfl w.heap.size 4 j _ 1 1 Tryz.underlying71 hj j0 j1 j2 rfl (by omega) (.slice ea u.length ec) u.length (u.map Value.bool) rfl d4.ownE ⟨w2.heap.size,0,none⟩ 1 1 [.bool (Ls.empty h[i].1)] rfl rfl s (by simp[Value.oneCell']) ?l2 ?l3 ?l4 (by omega) ?_))
   case l2=>unfold maxLen;omega
   case l3=>omega
   case l4=>have:=d4.size;omega
   intro p6 w3 e8 g6 i0;have f7:=d4.endd ⟨e8,g6,by simpa using i0⟩;obtain⟨s0,s1,f0,f1,i5⟩:=f7.cell0;obtain⟨x1,x2,x3,rfl⟩:∃a b c,p6=.slice a b c:=by
    rcases O0 e8 with⟨e,A⟩|⟨g,o,e⟩
    ·exact⟨_,_,_,e⟩
    ·exact⟨_,_,_,e⟩
   have k4:=f7.store 1 (.slice x1 x2 x3) S (.slice x1 x2 x3) rfl;have j7:=Y.endd (by simpa using c5);rw[List.getElem_map]at j7;clear Q f6 d4 f7 s e8 g6 i0 t0 t1 Y y;go_wp2_with fail;have p3:=TK.start k4;have k9:Hid (h[i]?=some h[i]):=List.getElem?_eq_getElem c5;clear k4 s0 s1 f0 f1 i5;generalize w3.setCell ⟨w.heap.size+1,1,none⟩ (.slice x1 x2 x3)=w4 at *;generalize u++[Ls.empty h[i].1]=F at *;generalize q5:h[i]=q at *;go_loopw [6,7,10,11] (fun sv kv ov z wx=>∃(k:Nat) (l:List (Pat × Value)) (m:List (List Nat)),k<=L.length/\z=Iv k/\TK w wx (w.heap.size+1) sv kv (.slice x1 x2 x3) S ov l F n m/\TInv p L R (l.map (·.1)) (i+1) F i n/\l[i]?=some q/\m.length=k/\RowOk L (l.map (·.1)) m q.1) (fun _ _ _ z _=>L.length-(intOf z).toNat)
   case atStart=>exact⟨0,h,[],Nat.zero_le _,rfl,p3,j7,k9.out,rfl,fun k c hk=>by simp at hk⟩
   case round=>
    obtain⟨k,l,m,hk,rfl,tk,O,W,c4,c7⟩:=hrel;have V:=iQn O;rw[List.length_map]at V;have c3:i<l.length:=(List.getElem?_eq_some_iff.1 W).1;have c6:l[i]=q:=by rw[List.getElem?_eq_getElem c3]at W;exact Option.some.inj W
    obtain⟨sa,p0,c8,f3⟩:∃J o,u6=.slice J l.length o/\(0<l.length->∃g,J=some ⟨g,0,none⟩):=by
     rcases O0 tk.ts.ownS with⟨e,A⟩|⟨g,o,e⟩
     ·exact⟨_,_,by rw[e,A],by omega⟩
     ·exact⟨_,_,e,fun _=>⟨g,rfl⟩⟩
    obtain⟨r,rfl⟩:=f3 (by omega);subst c8
    by_cases m8:k<L.length
    ·obtain⟨U,c1,c2⟩:=Y4 i tk.ts.ownS rfl c3
     rw[c6]at U c1 c2;have h0:q∈l:=by rw[<-c6];exact List.getElem_mem c3
     have b8:q.1∈R:=O.room _ (List.mem_map.2 ⟨q,h0,rfl⟩);have a9:=M.ok _ b8;have e6:r<wr.heap.size:=World.block_lt_of_cell? _ _ U;have HC:Hid (∀b7,Bw wr b7->Ca 75 #[.agg #[Iv q.1.kind,Sv q.1.signs,q.2],.int .u8 L[k].toNat] b7 fun e T=>∃m1 m2 m3 d,e=.returned (.slice m1 m2 m3)/\d.map (·.1)=Ls.behind q.1 L[k]/\MV T (P9 T (aQj [u10] (Sl r l.length p0) u7 (.slice x1 x2 x3) S (w.heap.size+1))) (.slice m1 m2 m3) d/\Bw wr T):=fun b7 hW=>by
      have hd:=(tk.ts.below hW).dis;refine(behind_any q.1 a9.1 a9.2.1 a9.2.2.1 a9.2.2.2 L[k] q.2 b7 _ (fun j hj=>hj.1) ((tk.ts.below hW).each q h0)).mono ?_;intro e T n9;obtain⟨r7,d,he,hq,a3,v⟩:=rQq hd n9;obtain⟨J,o,e2,_⟩:=a3.shape;subst e2;exact⟨_,_,_,d,he,hq,a3,Bj hW v⟩
     have a7:Hid (m.length=k):=c4;have b3:Hid (l[i]?=some q):=W;have hs:wr.cell? ⟨r,i*3,none⟩=some (Iv q.1.kind)/\wr.cell? ⟨r,i*3+1,none⟩=some (Sv q.1.signs)/\wr.cell? ⟨r,i*3+2,none⟩=some q.2:=⟨U,c1,c2⟩;clear c4 W c6;go_wp2_with fail;go_region_held (fun w'=>w'.cell? ⟨r,i*3,none⟩=some (Iv q.1.kind)/\w'.cell? ⟨r,i*3+1,none⟩=some (Sv q.1.signs)/\w'.cell? ⟨r,i*3+2,none⟩=some q.2) (first|assumption|go_keep) ((go_at_call 75;refine(HC.out _ ?_).mono ?_;exact Br.drew;rintro e T ⟨m1,m2,m3,d,rfl,h7,a3,c0⟩;have o4:T.cell? ⟨r,i*3,none⟩=some (Iv q.1.kind)/\T.cell? ⟨r,i*3+1,none⟩=some (Sv q.1.signs)/\T.cell? ⟨r,i*3+2,none⟩=some q.2:=⟨(c0.cell (p:=⟨r,_,none⟩) e6).trans U,(c0.cell (p:=⟨r,_,none⟩) e6).trans c1,(c0.cell (p:=⟨r,_,none⟩) e6).trans c2⟩))
     have k2:=(tk.below c0).open' a3;have d7:Hid (d.map (·.1)=Ls.behind q.1 L[k]):=h7;have HM:Hid (∀x,x∈d.map (·.1)->x∈R):=fun x C=>by rw[d7.out]at C;exact M.closed _ b8 _ _ C
     have q2:d.length<=1000000000:=by have:=gXd q.1 a9.1 L[k];rw[<-d7.out]at this;simp at this;omega
     obtain⟨ma,mc,n0,m9⟩:=a3.shape;injection n0 with n4 n5 n6;subst n4 n5 n6;clear hs o4 U c1 c2 HC h7 a3;have b5:Hid (RowOk L (l.map (·.1)) m q.1):=c7;clear c7 V;go_wp2_with fail;go_loopw [6,7,13,14] (fun sv kv lv z wy=>∃(j:Nat) (f:List (Pat × Value)) (t:List Nat),j<=d.length/\z=Iv j/\TJ w wy (w.heap.size+1) sv kv (.slice x1 x2 x3) S u10 lv (.slice m1 d.length m3) f (f.map fun q=>Ls.key q.1) F n m t d/\TInv p L R (f.map (·.1)) (i+1) F i n/\f[i]?=some q/\RowOk L (f.map (·.1)) m q.1/\t.map (fun j=>(f.map (·.1))[j]?)=((d.map (·.1)).take j).map some) (fun _ _ _ z _=>d.length-(intOf z).toNat)
     case atStart=>exact⟨0,l,[],Nat.zero_le _,rfl,k2,O,b3.out,b5.out,by simp⟩
     case round=>
      obtain⟨j,f,t,hj,rfl,Z,f4,h8,i1,e7⟩:=hrel;have V:=iQn f4;rw[List.length_map]at V;have q4:t.length<=j:=by have:=congrArg List.length e7;simp at this;omega
      have b4:Hid (f[i]?=some q):=h8;have d9:Hid (RowOk L (f.map (·.1)) m q.1):=i1;have d6:Hid (t.map (fun j=>(f.map (·.1))[j]?)=((d.map (·.1)).take j).map some):=e7;have b6:Hid (TInv p L R (f.map (·.1)) (i+1) F i n):=f4;clear h8 i1 e7 f4 tk k2 O b3 b5
      by_cases N:j<d.length
      ·obtain⟨gm,rfl⟩:=m9 (by omega)
       obtain⟨d0,d1,d2⟩:=Z.mv.cells j N;have g4:d[j].1∈R:=HM.out _ (List.mem_map.2 ⟨d[j],List.getElem_mem N,rfl⟩);have e9:=M.ok _ g4;have HK:Hid (Ca 73 #[.agg #[Iv d[j].1.kind,.string ⟨d[j].1.signs.toArray⟩,d[j].2]] wr (Rt (Sv (Ls.key d[j].1)) wr)):=
        cQy d[j].1 e9.1 e9.2.1 d[j].2 wr _ (fun k hk=>hk.1) (Z.mv.2 _ (List.getElem_mem N))
       go_wp2_with fail;refine HK.out.mono ?_;rintro e I ⟨rfl,l6⟩;have P:=Z.below l6;clear HK d0 d1 d2 Z;obtain⟨ka,kc,g9,g8⟩:=P.ts.keys.shape;rw[List.length_map]at g9;have g1:Hid (0<(f.map fun q=>Ls.key q.1).length->∃g,ka=some ⟨g,0,none⟩/\g<I.heap.size/\∀i (e3:i<(f.map fun q=>Ls.key q.1).length),Ce I g i (I5 (f.map fun q=>Ls.key q.1)[i])):=g8;clear g8;subst g9;obtain⟨ji,a1,a4,a5,a6⟩:=info_parts vQl;go_wp2_with fail;go_loop [16] (fun av=>∃a:Nat,a<=f.length/\av=Iv a/\∀b,b<a->∀x,f[b]?=some x->Ls.key x.1≠Ls.key d[j].1) (fun av=>f.length-(intOf av).toNat)
       case atStart=>exact⟨0,Nat.zero_le _,rfl,fun b v=>by omega⟩
       case round=>
        obtain⟨a,ha,rfl,h3⟩:=hrel;have g3:Hid (∀b,b<a->∀x,f[b]?=some x->Ls.key x.1≠Ls.key d[j].1):=h3;clear h3
        by_cases b9:a<f.length
        ·obtain⟨gk,rfl,q0,e5⟩:=g1.out (by simp;omega)
         have k0:=e5 a (by simpa using b9);rw[List.getElem_map]at k0;have p9:Hid (∀i (e3:i<(f.map fun q=>Ls.key q.1).length),Ce I gk i (I5 (f.map fun q=>Ls.key q.1)[i])):=e5;clear e5
         by_cases a2:Ls.key f[a].1=Ls.key d[j].1
         ·have m6:(Ls.key f[a].1==Ls.key d[j].1)=true:=by simp[a2]
          have q3:((a:Int)==(f.length:Int))=false:=by simp;omega
          have o5:wf f[a].1:=(M.ok _ (b6.out.room _ (List.mem_map.2 ⟨f[a],List.getElem_mem b9,rfl⟩))).1;have g2:=kQ8 d6.out (by simpa using N) (a:=a) (by rw[uQw b9,List.getElem_map,lX8 o5 e9.1 a2]);have HL:Hid _:=g2;have a0:=P.below (A5 I (.cells #[Iv a] 3));have s:=cQr I (Iv a) 3;clear a2 g2 g1;go_wp2_with (at_builtin;refine P8 _ rfl _ _ 75 rfl w.heap.size 3 ji _ 1 8 Tryz.underlying75 a1 a4 a5 a6 rfl (by omega) u13 t.length (aQy t) rfl a0.lw ⟨I.heap.size,0,none⟩ 1 1 [Iv a] rfl rfl s (by simp[Value.oneCell']) ?l2 ?l3 ?l4 (by omega) ?_)
          case l2=>unfold maxLen;omega
          case l3=>omega
          case l4=>have:=P.ts.size;simp;omega
          intro v8 E B G H;have b0:=a0.number ⟨B,G,by simpa using H⟩;go_wp2_with fail;exact⟨⟨j+1,f,t++[a],by omega,by go_num,b0,b6.out,b4.out,d9.out,HL.out⟩,by simp[intOf];omega⟩
         ·have m6:(Ls.key f[a].1==Ls.key d[j].1)=false:=by simp[a2]
          have k7:Hid (¬Ls.key f[a].1=Ls.key d[j].1):=a2;clear a2;go_wp2_with fail;refine⟨⟨a+1,by omega,by go_num,fun b v x C=>?_⟩,by simp[intOf];omega⟩;rcases Nat.lt_or_ge b a with K|K
          ·exact g3.out b K x C
          ·have:b=a:=by omega
           subst this;rw[List.getElem?_eq_getElem b9]at C;injection C with C;subst C;exact k7.out
        ·have l5:a=f.length:=by omega
         subst l5;obtain⟨d0,d1,d2⟩:=P.mv.cells j N;have f2:=P.mv.2 _ (List.getElem_mem N);obtain⟨n1,n2,n3,h1⟩:=PV.slice _ _ f2;obtain⟨pi,n8,o7,o8,o9⟩:=info_parts gQ7;have a0:=P.below (A5 I (.cells #[Iv d[j].1.kind,.string ⟨d[j].1.signs.toArray⟩,d[j].2] 27));have s:=gQp I d[j].1 d[j].2;have h5:=hQz f2;have p8:Hid (d[j].2=.slice n1 n2 n3):=h1;clear h1;go_wp2_with (at_builtin;refine P8 _ rfl _ _ 25 rfl w.heap.size 27 pi _ 3 48 Tryz.underlying25 n8 o7 o8 o9 rfl (by omega) u6 f.length (N9 f) rfl a0.ts.ownS ⟨I.heap.size,0,none⟩ 1 1 (C2 d[j].1 d[j].2) rfl rfl s h5 ?l2 ?l3 ?l4 (by omega) ?_)
         case l2=>unfold maxLen;omega
         case l3=>omega
         case l4=>have:=P.ts.size;simp;omega
         intro v8 E B G H;have b0:=a0.state (a0.mv.2 _ (List.getElem_mem N)) ⟨B,G,by simpa using H⟩;have f5:=b0.below (A5 E (.cells #[I5 (Ls.key d[j].1)] 9));have i3:=f5.ts.keys;have i4:SV (E.alloc (.cells #[I5 (Ls.key d[j].1)] 9)) E.heap.size (Sl E.heap.size 1 1) [Ls.key d[j].1]:=
          ⟨World.ownsRow_lit (e:=9) (size:=1) E #[I5 (Ls.key d[j].1)] 1 (Nat.le_refl _) (by unfold maxLen;omega) rfl,by simp⟩
         have r6:=b0.ts.size;clear d0 d1 d2 P a0 b0 h5 s B G H f2;go_wp2_with (at_builtin;refine aQ7 rfl _ _ rfl w.heap.size E.heap.size (.slice ka f.length kc) (Sl E.heap.size 1 1) (f.map fun q=>Ls.key q.1) [Ls.key d[j].1] rfl rfl i3 i4 (by simp;omega) (by simp;omega) ?_)
         intro r8 g0 i2 g5 h9;have c9:=f5.key i2 g5 (by simpa using h9);rw[show (f.map fun q=>Ls.key q.1)++[Ls.key d[j].1]=((f++[(d[j].1,d[j].2)]).map fun q=>Ls.key q.1) by simp]at c9;have k1:=c9.below (A5 g0 (.cells #[Iv f.length] 3));have s:=cQr g0 (Iv f.length) 3;have r5:=c9.ts.size;have HT:Hid (TInv p L R ((f++[(d[j].1,d[j].2)]).map (·.1)) (i+1) F i n):=by
          have ht:=b6.out;have:=ht.push (x:=d[j].1) (by have:=ht.le;omega) g4 (fun d5 hy=>by
           obtain⟨b,v⟩:=List.getElem?_of_mem hy;rw[List.getElem?_map]at v;cases y:f[b]? with
           | none=>rw[y]at v;cases v
           | some x=>
            rw[y]at v;injection v with v;subst v;exact g3.out b (List.getElem?_eq_some_iff.1 y).1 x y)
          show TInv p L R ((f++[(d[j].1,d[j].2)]).map (·.1)) (i+1) F i n;rw[List.map_append];exact this
         have HL:Hid ((t++[f.length]).map (fun b=>((f++[(d[j].1,d[j].2)]).map (·.1))[b]?)=((d.map (·.1)).take (j+1)).map some):=by
          refine kQ8 ?_ (by simpa using N) ?_
          ·rw[List.map_append];exact kXu _ d6.out
          ·rw[List.map_append,List.getElem?_append_right (by simp)];simp
         have k6:Hid (RowOk L ((f++[(d[j].1,d[j].2)]).map (·.1)) m q.1):=by
          show RowOk _ _ _ _;rw[List.map_append];exact d9.out.mono _
         have k5:Hid ((f++[(d[j].1,d[j].2)])[i]?=some q):=by
          show _=_;rw[List.getElem?_append_left (List.getElem?_eq_some_iff.1 b4.out).1];exact b4.out
         clear i3 i4 i2 g5 h9 f5 c9;go_wp2_with (at_builtin;refine P8 _ rfl _ _ 75 rfl w.heap.size 3 ji _ 1 8 Tryz.underlying75 a1 a4 a5 a6 rfl (by omega) u13 t.length (aQy t) rfl k1.lw ⟨g0.heap.size,0,none⟩ 1 1 [Iv f.length] rfl rfl s (by simp[Value.oneCell']) ?l2 ?l3 ?l4 (by omega) ?_)
         case l2=>unfold maxLen;omega
         case l3=>omega
         case l4=>omega
         intro r9 s3 n7 l7 o0;have p2:=k1.number ⟨n7,l7,by simpa using o0⟩;go_wp2_with fail;exact⟨⟨j+1,f++[(d[j].1,d[j].2)],t++[f.length],by omega,by go_num,p2,HT.out,k5.out,k6.out,HL.out⟩,by simp[intOf];omega⟩
      ·have m5:j=d.length:=by omega
       subst m5;obtain⟨d3,g7⟩:=Z.close;obtain⟨l1,l2,l3,rfl⟩:∃a b c,u13=.slice a b c:=by
        rcases O0 Z.lw with⟨e,A⟩|⟨g,o,e⟩
        ·exact⟨_,_,_,e⟩
        ·exact⟨_,_,_,e⟩
       have a8:=A5 wr (.cells #[.slice l1 l2 l3] 75);have k3:=d3.below a8;have m4:=g7.mono2 ((d3.ts.dis.below a8).2.fixB w.heap.size);obtain⟨xs,X,r2,_⟩:=k3.ow;obtain⟨ji,a1,a4,a5,a6⟩:=info_parts vQm;have s:=cQr wr (.slice l1 l2 l3) 75;have r3:xs.length<=1000:=by have:=a7.out;omega
       have d8:Hid (xs.length=m.length):=r2;have o6:=d3.ts.size;clear Z r2 d3 g7;go_wp2_with (at_builtin;refine P8 _ rfl _ _ 76 rfl w.heap.size 75 ji _ 1 24 Tryz.underlying76 a1 a4 a5 a6 rfl (by omega) u10 xs.length xs rfl X ⟨wr.heap.size,0,none⟩ 1 1 [.slice l1 l2 l3] rfl rfl s (by simp[Value.oneCell']) ?l2 ?l3 ?l4 (by omega) ?_)
       case l2=>unfold maxLen;omega
       case l3=>omega
       case l4=>omega
       intro v8 E B G H;have p4:=k3.more m4 (fun ys K h2=>by
        have hl:ys.length=xs.length:=h2.trans d8.out.symm;rw[hl]at K;have e:=lQ4 K X;subst e;exact⟨B,G,by simpa using H⟩)
       have k8:Hid (t.map (fun j=>(f.map (·.1))[j]?)=(Ls.behind q.1 L[k]).map some):=by
        have:=d6.out;rw[List.take_of_length_le (by simp),d7.out]at this;exact this
       go_wp2_with fail;refine⟨⟨k+1,f,m++[t],by omega,by go_num,p4,b6.out,b4.out,by rw[List.length_append,a7.out];rfl,d9.out.snoc (c:=L[k]) (by rw[a7.out,List.getElem?_eq_getElem m8]) k8.out⟩,by simp[intOf];omega⟩
    ·have m7:k=L.length:=by omega
     subst m7;obtain⟨b1,l9⟩:=tk.close;obtain⟨o1,o2,o3,rfl⟩:∃a b c,u10=.slice a b c:=by
      obtain⟨xs,X,_⟩:=tk.ow;rcases O0 X with⟨e,A⟩|⟨g,o,e⟩
      ·exact⟨_,_,_,e⟩
      ·exact⟨_,_,_,e⟩
     obtain⟨xs,X,r2,_⟩:=b1.rows;obtain⟨t1,t2,t3,rfl⟩:∃a b c,S=.slice a b c:=by
      rcases O0 X with⟨e,A⟩|⟨g,o,e⟩
      ·exact⟨_,_,_,e⟩
      ·exact⟨_,_,_,e⟩
     have a8:=A5 wr (.cells #[.slice o1 o2 o3] 76);have f8:=b1.below a8;have m0:=l9.mono ((b1.dis.below a8).2.fixB w.heap.size);obtain⟨ys,j3,j4,_⟩:=f8.rows;obtain⟨e0,e1,_,_,_⟩:=b1.cell0;obtain⟨ji,a1,a4,a5,a6⟩:=info_parts vQn;have s:=cQr wr (.slice o1 o2 o3) 76;have o6:=b1.size;have r4:ys.length<=500000000:=by have:=O.lenT;have:=O.le;simp at this;omega
     have d8:Hid (ys.length=n.length):=j4;have l0:Hid (TInv p L R (l.map (·.1)) (i+1) F i n):=O;have a7:Hid (m.length=L.length):=c4;have b5:Hid (RowOk L (l.map (·.1)) m q.1):=c7;have b3:Hid (l[i]?=some q):=W;clear tk X r2 j4 O c4 c7 W c6;go_wp2_with (at_builtin;refine P8 _ rfl _ _ 70 rfl w.heap.size 76 ji _ 1 24 Tryz.underlying70 a1 a4 a5 a6 rfl (by omega) (.slice t1 t2 t3) ys.length ys rfl j3 ⟨wr.heap.size,0,none⟩ 1 1 [.slice o1 o2 o3] rfl rfl s (by simp[Value.oneCell']) ?l2 ?l3 ?l4 (by omega) ?_)
     case l2=>unfold maxLen;omega
     case l3=>omega
     case l4=>simp;omega
     intro p7 E B G H;have f9:=f8.row m0 (fun zs K h2=>by
      have hl:zs.length=ys.length:=h2.trans d8.out.symm;rw[hl]at K;have e:=lQ4 K j3;subst e;exact⟨B,G,by simpa using H⟩)
     obtain⟨s0,s1,f0,f1,i5⟩:=f9.cell0;obtain⟨z1,z2,z3,rfl⟩:∃a b c,p7=.slice a b c:=by
      rcases O0 B with⟨e,A⟩|⟨g,o,e⟩
      ·exact⟨_,_,_,e⟩
      ·exact⟨_,_,_,e⟩
     have p5:=f9.store 0 (.slice z1 z2 z3) (.slice z1 z2 z3) (.slice x1 x2 x3) rfl;clear f8 f9 B G H s e0 e1;go_wp2_with fail;refine⟨⟨i+1,l,_,_,F,n++[m],c3,by go_num,p5,l0.out.row (by rw[List.getElem?_map,b3.out];rfl) a7.out b5.out⟩,by simp[intOf];omega⟩
  ·subst c8
   go_wp2_with fail;go_ret;have l8:i=h.length:=by omega
   subst l8;have p1:TInv p L R (h.map (·.1)) (h.map (·.1)).length u (h.map (·.1)).length n:=by rw[List.length_map];exact Y
   exact⟨w.heap.size+1,⟨n,u⟩,h.map (·.1),rfl,Q.done,p1.done (fun x C=>(M.ok x C).1),by rw[List.length_map];exact V,Y.room,Q.bel⟩
variable {G:Nat->Prop}{S T t:Tab}{a b:Pr}{base k n ph tb x:Nat}{ps:List Pr}{v v0:Value}{w w0:World}
theorem TV.at' (h:TV w G tb t){r:List (List Nat)}(g:t.to[x]?=some r)(H:k<r.length) :
  ∃a e b q f c d,w.cell? ⟨tb,0,none⟩=some (.slice (some ⟨a,0,none⟩) t.to.length e)/\w.cell? ⟨a,x,none⟩=some (.slice (some ⟨b,0,none⟩) q f)/\w.cell? ⟨b,k,none⟩=some (.slice c (t.row x k).length d)/\G tb/\G a/\G b/\q=r.length/\IV w G (.slice c (t.row x k).length d) (t.row x k):=by
 obtain⟨E,O,N,F,⟨s,K,o,y⟩,_⟩:=h;have M:=(List.getElem?_eq_some_iff.1 g).1;rcases K with⟨_,rfl⟩|⟨a,e,B,rfl,u⟩
 ·simp at o;omega
 ·have J:s[x]?=some s[x]:=List.getElem?_eq_getElem (by omega)
  obtain⟨i,L,p,z⟩:=y x _ r J g;rcases L with⟨_,rfl⟩|⟨b,f,C,A,v⟩
  ·simp at p;omega
  ·have I:i[k]?=some i[k]:=List.getElem?_eq_getElem (by omega)
   have m:=List.getElem?_eq_getElem H;have j:=z k _ _ I m;have n:t.row x k=r[k]:=by unfold Tab.row;rw[g];dsimp only;rw[m]
   obtain⟨c,d,l,_⟩:=j.shape;refine⟨a,e,b,i.length,f,c,d,?_,?_,?_,E,B,C,p,?_⟩
   ·simp only[World.cell?,F];simp[o]
   ·rw[u x (by omega),A]
   ·rw[v k (by omega),l,n]
   ·rw[n,<-l];exact j
theorem TV.end' (h:TV w G tb t){b:Bool}(f:t.ends[x]?=some b) :
  ∃a d,w.cell? ⟨tb,1,none⟩=some (.slice (some ⟨a,0,none⟩) t.ends.length d)/\w.cell? ⟨a,x,none⟩=some (.bool b)/\G tb/\G a:=by
 obtain⟨j,n,m,k,_,l⟩:=h;have c:=(List.getElem?_eq_some_iff.1 f).1;rcases l with⟨_,e⟩|⟨a,d,i,rfl,g⟩
 ·simp at e;rw[e]at c;simp at c
 ·refine⟨a,d,?_,?_,j,i⟩
  ·simp only[World.cell?,k];simp
  ·rw[g x (by simpa using c)]
   rw[List.getElem?_eq_getElem c]at f;simp[Option.some.inj f]
def X7 (S T:Tab)(a:Pr)(k:Nat):List Pr:=(List.range k).flatMap fun k=>F9 0 (S.row a.2.1 k) (T.row a.2.2 k)
theorem cQ7 {a b:List Nat}{x:Pr}:x∈F9 ph a b↔x.1=ph/\x.2.1∈a/\x.2.2∈b:=by
 obtain⟨p,y,z⟩:=x;unfold F9;simp only[List.mem_flatMap,List.mem_map,Prod.mk.injEq];constructor
 ·rintro ⟨c,g,d,h,rfl,rfl,rfl⟩;exact⟨rfl,g,h⟩
 ·rintro ⟨rfl,e,f⟩;exact⟨y,e,z,f,rfl,rfl,rfl⟩
theorem hQp:b∈X7 S T a k↔jXe S T k a b:=by
 unfold X7 jXe;simp only[List.mem_flatMap,List.mem_range,cQ7,Tab.mem_row];constructor
 ·rintro ⟨g,c,d,e,f⟩;exact⟨d,g,c,e,f⟩
 ·rintro ⟨d,g,c,e,f⟩;exact⟨g,c,d,e,f⟩
theorem nQx (S T:Tab)(a:Pr)(k:Nat):X7 S T a (k+1)=X7 S T a k++F9 0 (S.row a.2.1 k) (T.row a.2.2 k):=by
 unfold X7;rw[List.range_succ,List.flatMap_append];simp
theorem jQ9 (h:jXe S T k a b)(g:k<=n):jXe S T n a b:=by
 obtain⟨c,e,f,d⟩:=h;exact⟨c,e,by omega,d⟩
theorem xQw {a b:List Nat}{m:Nat}(c:m<a.length)(d:x=a[m]){y:Pr}(h:y∈F9 ph (a.take m) b++(b.take n).map fun z=>(ph,x,z)):y∈F9 ph a b:=by
 rw[cQ7];rw[List.mem_append]at h;rcases h with h|h
 ·rw[cQ7]at h
  exact⟨h.1,List.mem_of_mem_take h.2.1,h.2.2⟩
 ·obtain⟨z,e,rfl⟩:=List.mem_map.1 h
  exact⟨rfl,by rw[d];exact List.getElem_mem c,List.mem_of_mem_take e⟩
theorem nQq {N:Nat}(h:N<=991233):3*(N*N)<=2947628580867:=by
 have:=Nat.mul_le_mul h h;omega
def Ge (w:World)(v:Value):Nat->Prop:=fun k=>k<w.heap.size/\some k≠v.ownBlock
theorem GrowsP.ge (h:GrowsP w0 base v0 w v ps):∀k,Ge w0 v0 k->Ge w v k/\w.heap[k]?=w0.heap[k]?:=fun k a=>by
 obtain⟨b,c⟩:=h.block a.1 a.2;exact⟨⟨Ll a.1 h.grown.size,c⟩,b⟩
theorem GrowsP.cell (h:GrowsP w0 base v0 w v ps)(a:Ge w0 v0 k)(o:Nat):w.cell? ⟨k,o,none⟩=w0.cell? ⟨k,o,none⟩:=Y3 (h.ge k a).2 o
theorem rQa (p q:Pat)(a2 a5:List Pat)(hP:Room a2)(hQ:Room a5)(g4:p∈a2)(h0:q∈a5)(nP:a2.length<=991233)(nQ:a5.length<=991233)(sp:fXx p)(sq:fXx q)(y e5:Value)(w:World)(G:Nat->Prop)(E:Old w G)(hp:PV w G p y)(hq:PV w G q e5) :
  Calls Tryz.prog 17 #[B4 p y,B4 q e5] w fun e w'=>∃b:Bool,e=.returned (.bool b)/\(b=true↔¬jX2 p q)/\Bw w w':=by
 have Hp:Hid _:=hp;have Hq:Hid _:=hq;obtain⟨y1,y2,y3,rfl⟩:=PV.slice _ _ hp;obtain⟨z1,z2,z3,rfl⟩:=PV.slice _ _ hq;have b8:=hP.ok p g4;have b9:=hQ.ok q h0;have a7:=C6 w (.cells #[.int .i64 p.kind,.string ⟨p.signs.toArray⟩,.slice y1 y2 y3] 27) (.cells #[.int .i64 q.kind,.string ⟨q.signs.toArray⟩,.slice z1 z2 z3] 27);have d7:=C7 (w.alloc (.cells #[.int .i64 p.kind,.string ⟨p.signs.toArray⟩,.slice y1 y2 y3] 27)) (C2 q (.slice z1 z2 z3));rw[World.size_alloc]at d7;have f7:Lies ((w.alloc (.cells #[.int .i64 p.kind,.string ⟨p.signs.toArray⟩,.slice y1 y2 y3] 27)).alloc (.cells #[.int .i64 q.kind,.string ⟨q.signs.toArray⟩,.slice z1 z2 z3] 27)) w.heap.size (C2 p (.slice y1 y2 y3)):=by
  unfold Lies;rw[Below.heap_alloc _ _ _ (by simp)];exact C7 w (C2 p (.slice y1 y2 y3))
 go_enter Tryz.func17,Tryz.ntmps17;go_wp2_with fail;refine(lQd p q b8.1 b9.1 b8.2.2.1 b9.2.2.1 b8.2.1 b9.2.1 _ _ _ G (E.below a7) (Hp.out.below a7 E fun _ h=>h) (Hq.out.below a7 E fun _ h=>h)).mono ?_;rintro e w1 ⟨L,rfl,hL,l8,a9⟩;have d3:=Bj a7 a9;have f8:=f7.below a9 (by simp;omega);have f9:=d7.below a9 (by simp);obtain⟨c0,c1,c2⟩:=f8.three;go_wp2_with fail;refine(fQu p a2 hP g4 L (by omega) _ _ G (E.below d3) (Hp.out.below d3 E fun _ h=>h)).mono ?_;rintro e w2 ⟨sb,S,u,rfl,h2,X,m2,k8,b4⟩;have d4:=Bj d3 b4;have l3:=a9.size;simp at l3;have g0:=f9.below b4 (by omega);obtain⟨d0,d1,d2⟩:=g0.three;go_wp2_with fail;refine(fQu q a5 hQ h0 L (by omega) _ _ G (E.below d4) (Hq.out.below d4 E fun _ h=>h)).mono ?_;rintro e f ⟨tb,T,v,rfl,h4,Y,m3,k9,d5⟩;have f2:=Bj d4 d5;clear d0 d1 d2 g0;have a0:=A5 f (.cells #[.int .i64 0,.int .i64 0,.int .i64 0] 68);have g9:PL (f.alloc (.cells #[.int .i64 0,.int .i64 0,.int .i64 0] 68)) f.heap.size (.slice (some ⟨f.heap.size,0,none⟩) 1 1) [(0,0,0)]:=
  World.ownsRow_lit (e:=68) (size:=3) f (Y9 [(0,0,0)]).toArray 1 (Nat.le_refl _) (by unfold maxLen;omega) rfl
 have i0:TV (f.alloc (.cells #[.int .i64 0,.int .i64 0,.int .i64 0] 68)) (Ge (f.alloc (.cells #[.int .i64 0,.int .i64 0,.int .i64 0] 68)) (.slice (some ⟨f.heap.size,0,none⟩) 1 1)) sb S:=
  h2.mono (fun k A=>by
   have h3:=d5.size;exact⟨⟨by simp;omega,by simp[Value.ownBlock];omega⟩,(Bj d5 a0).block k A.2⟩)
 have i1:TV (f.alloc (.cells #[.int .i64 0,.int .i64 0,.int .i64 0] 68)) (Ge (f.alloc (.cells #[.int .i64 0,.int .i64 0,.int .i64 0] 68)) (.slice (some ⟨f.heap.size,0,none⟩) 1 1)) tb T:=
  h4.mono (fun k A=>⟨⟨by simp;omega,by simp[Value.ownBlock];omega⟩,a0.block k A.2⟩)
 have gp:=GrowsP.start g9;have j4:0<u.length:=(List.getElem?_eq_some_iff.1 X.first).1;have j7:0<v.length:=(List.getElem?_eq_some_iff.1 Y.first).1;have i7:=BF.start (jXe S T L.length) (lXv S T) (I:=fun a=>a.1=0/\a.2.1<u.length/\a.2.2<v.length) ⟨rfl,j4,j7⟩;have HI:Hid (∀a:Pr,(a.1=0/\a.2.1<u.length/\a.2.2<v.length)->(a.1=0\/a.1=1\/a.1=2)/\a.2.1<max u.length v.length/\a.2.2<max u.length v.length):=fun a ha=>⟨.inl ha.1,by omega,by omega⟩;have HE:Hid (∀a b:Pr,(a.1=0/\a.2.1<u.length/\a.2.2<v.length)->jXe S T L.length a b->(b.1=0/\b.2.1<u.length/\b.2.2<v.length)):=by
  rintro a b ha ⟨h1,k,A,C,h3⟩;exact⟨h1,X.row_lt ha.2.1 A _ ((S.mem_row _ _ _).2 C),Y.row_lt ha.2.2 A _ ((T.mem_row _ _ _).2 h3)⟩
 have hN:=nQq (N:=max u.length v.length) (by omega);have f0:=lXz b8.1 b9.1 sp sq hL X Y;have a8:=Bj f2 a0;have l0:f.heap.size<=(f.alloc (.cells #[.int .i64 0,.int .i64 0,.int .i64 0] 68)).heap.size:=a0.size;have h5:∀k,(Value.slice (some ⟨f.heap.size,0,none⟩) 1 1).ownBlock=some k->w.heap.size<=k:=fun k e=>by
  have:=f2.size;have e2:f.heap.size=k:=by simpa [Value.ownBlock] using e
  omega
 clear g9 h2 h4 a0 Hp Hq;go_wp2_with fail;generalize f.alloc (.cells #[.int .i64 0,.int .i64 0,.int .i64 0] 68)=wl at *;generalize (Value.slice (some ⟨f.heap.size,0,none⟩) 1 1)=v0 at *;go_loopw [8,9] (fun l iv wr=>∃(i:Nat) (c:List Pr),iv=.int .i64 i/\GrowsP wl f.heap.size v0 wr l c/\BF (jXe S T L.length) (lXv S T) (fun a=>a.1=0/\a.2.1<u.length/\a.2.2<v.length) c i) (fun _ iv _=>2947628580868-(intOf iv).toNat)
 case atStart=>exact⟨0,[(0,0,0)],rfl,gp,i7⟩
 case round=>
  obtain⟨i,c,rfl,gr,x⟩:=hrel;have l9:=x.length HI.out;have g1:c≠[]:=fun e=>by have:=x.first;rw[e]at this;simp at this
  obtain⟨g,o,rfl⟩:=gr.pl.some g1
  by_cases a1:i<c.length
  ·obtain⟨c0,c1,c2⟩:=gr.pl.cells i a1
   obtain⟨g8,hx,hy⟩:=x.inR _ (List.getElem_mem a1);have e9:Hid (c[i].1=0):=g8;clear g8;have k3:=World.ownsRow.lt gr.pl g rfl;have p0:=T4 wr c[i] 0;have p1:=T4 wr c[i] 1;have p2:=T4 wr c[i] 2;simp only[T7,List.getElem?_cons_zero,List.getElem?_cons_succ]at p0 p1 p2;have a6:=gr.below (A5 wr (.cells #[.int .i64 c[i].1,.int .i64 c[i].2.1,.int .i64 c[i].2.2] 68));have g6:Ge (wr.alloc (.cells #[.int .i64 c[i].1,.int .i64 c[i].2.1,.int .i64 c[i].2.2] 68)) (.slice (some ⟨g,0,none⟩) c.length o) wr.heap.size:=⟨by simp,by simp[Value.ownBlock];omega⟩;have tS:=i0.mono a6.ge;have tT:=i1.mono a6.ge;have l1:c[i].2.1<S.ends.length:=by rw[X.lenE];exact hx
   have l2:c[i].2.2<T.ends.length:=by rw[Y.lenE];exact hy
   have c8:S.ends[c[i].2.1]?=some S.ends[c[i].2.1]:=List.getElem?_eq_getElem l1;have c9:T.ends[c[i].2.2]?=some T.ends[c[i].2.2]:=List.getElem?_eq_getElem l2;obtain⟨gS,cS,e0,e1,_,_⟩:=tS.end' c8;obtain⟨gT,cT,e2,e3,_,_⟩:=tT.end' c9;have e7:Hid (S.ends[c[i].2.1]?=some S.ends[c[i].2.1]):=c8;have e8:Hid (T.ends[c[i].2.2]?=some T.ends[c[i].2.2]):=c9;clear c8 c9;go_upto_if 52 with fail
   go_cut [52] (fun l6 d=>∃b:Bool,l6=.bool b/\(b=true↔lXv S T c[i])/\Below (wr.heap.size+1) (wr.alloc (.cells #[.int .i64 c[i].1,.int .i64 c[i].2.1,.int .i64 c[i].2.2] 68)) d)
   case first=>
    cases F:S.ends[c[i].2.1] with
    | true=>
     rw[F]at e1;cases V:T.ends[c[i].2.2] with
     | true=>
      rw[V]at e3;have t:Hid (lXv S T c[i]):=⟨by rw[e7.out,F],by rw[e8.out,V]⟩;clear F V;go_wp2_with fail;go_quiet (fail)
      go_wp2_with fail;go_meet
      case rel=>exact⟨true,rfl,by simp[t.out],J6 _ nq _⟩
     | false=>
      rw[V]at e3;have t:Hid (¬lXv S T c[i]):=fun h=>by have C:=h.2;rw[e8.out,V]at C;cases C
      clear F V;go_wp2_with fail;go_quiet (fail)
      go_wp2_with fail;go_meet
      case rel=>exact⟨false,rfl,by simp[t.out],J6 _ nq _⟩
    | false=>
     rw[F]at e1;have t:Hid (¬lXv S T c[i]):=fun h=>by have C:=h.1;rw[e7.out,F]at C;cases C
     clear F;go_wp2_with fail;go_quiet (fail)
     go_wp2_with fail;go_meet
     case rel=>exact⟨false,rfl,by simp[t.out],J6 _ nq _⟩
   case rest=>
    obtain⟨b,rfl,b5,U⟩:=hcut;have R:=a6.below (w':=wc) (by simpa[Bw] using U);cases b with
    | true=>
     have t:Hid (∃n,Hit (jXe S T L.length) (lXv S T) n (0,0,0)):=x.found a1 (b5.1 rfl);clear b5;go_wp2_with fail;go_ret;exact⟨false,rfl,by rw[<-f0];simp[t.out],a8.grown R.grown (by have:=a8.size;omega) h5⟩
    | false=>
     have t:Hid (¬lXv S T c[i]):=fun h=>by have:=b5.2 h;cases this
     clear b5 e0 e1 e2 e3;have q0:wc.cell? ⟨wr.heap.size,0,none⟩=some (.int .i64 c[i].1):=(U.cell (p:=⟨wr.heap.size,0,none⟩) (by show wr.heap.size<_;omega)).trans p0;have q1:wc.cell? ⟨wr.heap.size,1,none⟩=some (.int .i64 c[i].2.1):=(U.cell (p:=⟨wr.heap.size,1,none⟩) (by show wr.heap.size<_;omega)).trans p1;have q2:wc.cell? ⟨wr.heap.size,2,none⟩=some (.int .i64 c[i].2.2):=(U.cell (p:=⟨wr.heap.size,2,none⟩) (by show wr.heap.size<_;omega)).trans p2;have l4:=i0.mono R.ge;have l5:=i1.mono R.ge;have g7:Ge wc (.slice (some ⟨g,0,none⟩) c.length o) wr.heap.size:=⟨by have:=U.size;simp at this;omega,g6.2⟩;have HB:Hid (∀m:List Pr,(∀b,b∈m->jXe S T L.length c[i] b)->(E3 c m).length<=2947628580867):=fun m hm=>
      Nat.le_trans (x.part a1 hm (fun b s=>HE.out _ b ⟨e9.out,hx,hy⟩ s) HI.out) hN
     clear p0 p1 p2 tS tT g6;have gc:=GrowsP.start R.pl;obtain⟨rS,d9,h8,_⟩:=X.row c[i].2.1 _ (List.getElem?_eq_getElem hx);obtain⟨rT,e4,h9,_⟩:=Y.row c[i].2.2 _ (List.getElem?_eq_getElem hy);have m6:c[i].2.1<S.to.length:=(List.getElem?_eq_some_iff.1 d9).1;have m7:c[i].2.2<T.to.length:=(List.getElem?_eq_some_iff.1 e4).1;have c4:Hid (S.to[c[i].2.1]?=some rS/\rS.length=L.length):=⟨d9,h8⟩;have c5:Hid (T.to[c[i].2.2]?=some rT/\rT.length=L.length):=⟨e4,h9⟩;clear d9 e4 h8 h9;go_wp2_with fail;clear U a6 k3;generalize wr.heap.size=Z at *;go_loopw [8,11] (fun l kv d=>∃k:Nat,k<=L.length/\kv=.int .i64 k/\GrowsP wc f.heap.size (.slice (some ⟨g,0,none⟩) c.length o) d l (E3 c (X7 S T c[i] k))) (fun _ kv _=>L.length-(intOf kv).toNat)
     case atStart=>exact⟨0,Nat.zero_le _,rfl,gc⟩
     case round=>
      obtain⟨k,A,rfl,gk⟩:=hrel
      by_cases d6:k<L.length
      ·obtain⟨M,cA,P,b6,c6,la,lc,H,J,K,A0,A1,A2,k5,h6⟩:=l4.at' c4.out.1 (k:=k) (by have:=c4.out.2;omega)
       obtain⟨O,cB,Q,b7,c7,ma,mc,b0,b1,b2,B0,B1,B2,k6,h7⟩:=l5.at' c5.out.1 (k:=k) (by have:=c5.out.2;omega);have m0:k<b6:=by have:=c4.out.2;omega
       have m1:k<b7:=by have:=c5.out.2;omega
       have lS:=X.row_length hP k8 hx d6;have lT:=Y.row_length hQ k9 hy d6;have c3:Hid (∀d l r,GrowsP wc f.heap.size (.slice (some ⟨g,0,none⟩) c.length o) d l r->d.cell? ⟨sb,0,none⟩=some (.slice (some ⟨M,0,none⟩) S.to.length cA)/\d.cell? ⟨M,c[i].2.1,none⟩=some (.slice (some ⟨P,0,none⟩) b6 c6)/\d.cell? ⟨P,k,none⟩=some (.slice la (S.row c[i].2.1 k).length lc)/\d.cell? ⟨Z,1,none⟩=some (.int .i64 c[i].2.1)):=
        fun d l r h=>⟨(h.cell A0 _).trans H,(h.cell A1 _).trans J,(h.cell A2 _).trans K,(h.cell g7 _).trans q1⟩
       have e6:Hid (∀d l r,GrowsP wc f.heap.size (.slice (some ⟨g,0,none⟩) c.length o) d l r->d.cell? ⟨tb,0,none⟩=some (.slice (some ⟨O,0,none⟩) T.to.length cB)/\d.cell? ⟨O,c[i].2.2,none⟩=some (.slice (some ⟨Q,0,none⟩) b7 c7)/\d.cell? ⟨Q,k,none⟩=some (.slice ma (T.row c[i].2.2 k).length mc)/\d.cell? ⟨Z,2,none⟩=some (.int .i64 c[i].2.2)):=
        fun d l r h=>⟨(h.cell B0 _).trans b0,(h.cell B1 _).trans b1,(h.cell B2 _).trans b2,(h.cell g7 _).trans q2⟩
       obtain⟨ao,ac,ea,f1⟩:=h6.shape;injection ea with i8 i9 j0;subst i8 j0;obtain⟨bo,bc,eb,f3⟩:=h7.shape;injection eb with j1 j2 j3;subst j1 j3;clear H J K b0 b1 b2 i9 j2 k5 k6 h6 h7;have i3:Hid (0<(S.row c[i].2.1 k).length->∃z,la=some ⟨z,0,none⟩/\Ge wc (.slice (some ⟨g,0,none⟩) c.length o) z/\∀j (h:j<(S.row c[i].2.1 k).length),wc.cell? ⟨z,j,none⟩=some (.int .i64 (S.row c[i].2.1 k)[j])):=f1;have i4:Hid (0<(T.row c[i].2.2 k).length->∃z,ma=some ⟨z,0,none⟩/\Ge wc (.slice (some ⟨g,0,none⟩) c.length o) z/\∀j (h:j<(T.row c[i].2.2 k).length),wc.cell? ⟨z,j,none⟩=some (.int .i64 (T.row c[i].2.2 k)[j])):=f3;clear f1 f3;go_wp2_with fail;go_loopw [8,12] (fun l mv wy=>∃m:Nat,m<=(S.row c[i].2.1 k).length/\mv=.int .i64 m/\GrowsP wc f.heap.size (.slice (some ⟨g,0,none⟩) c.length o) wy l (E3 c (X7 S T c[i] k++F9 0 ((S.row c[i].2.1 k).take m) (T.row c[i].2.2 k)))) (fun _ mv _=>(S.row c[i].2.1 k).length-(intOf mv).toNat)
       case atStart=>exact⟨0,Nat.zero_le _,rfl,by simpa [F9] using gk⟩
       case round=>
        obtain⟨m,hm,rfl,gm⟩:=hrel;obtain⟨H,J,K,a3⟩:=c3.out _ _ _ gm
        by_cases d8:m<(S.row c[i].2.1 k).length
        ·go_wp2_with fail
         go_quiet (fail)
         go_wp2_with fail;have gq:=gm.below (J6 wr nq wr.heap.size);clear gm H J K a3;generalize wr.drewN nq=wq at *;obtain⟨gl,rfl,k0,f4⟩:=i3.out (by omega);have a4:=f4 m d8;have i5:Hid (∀d l r,GrowsP wc f.heap.size (.slice (some ⟨g,0,none⟩) c.length o) d l r->d.cell? ⟨gl,m,none⟩=some (.int .i64 (S.row c[i].2.1 k)[m])):=fun d l r h=>(h.cell k0 _).trans a4;clear f4 a4;go_loopw [8,13] (fun l nv wz=>∃n:Nat,n<=(T.row c[i].2.2 k).length/\nv=.int .i64 n/\GrowsP wc f.heap.size (.slice (some ⟨g,0,none⟩) c.length o) wz l (E3 c (X7 S T c[i] k++(F9 0 ((S.row c[i].2.1 k).take m) (T.row c[i].2.2 k)++((T.row c[i].2.2 k).take n).map fun y=>(0,(S.row c[i].2.1 k)[m],y))))) (fun _ nv _=>(T.row c[i].2.2 k).length-(intOf nv).toNat)
         case atStart=>exact⟨0,Nat.zero_le _,rfl,by simpa using gq⟩
         case round=>
          obtain⟨n,hn,rfl,B⟩:=hrel;obtain⟨H,J,K,a3⟩:=c3.out _ _ _ B;obtain⟨b0,b1,b2,b3⟩:=e6.out _ _ _ B
          by_cases g2:n<(T.row c[i].2.2 k).length
          ·obtain⟨gu,rfl,k1,f5⟩:=i4.out (by omega)
           have f6:=f5 n g2;have HS:Hid (∀d l r,GrowsP wc f.heap.size (.slice (some ⟨g,0,none⟩) c.length o) d l r->(d.cell? ⟨sb,0,none⟩=some (.slice (some ⟨M,0,none⟩) S.to.length cA)/\d.cell? ⟨M,c[i].2.1,none⟩=some (.slice (some ⟨P,0,none⟩) b6 c6)/\d.cell? ⟨P,k,none⟩=some (.slice (some ⟨gl,0,none⟩) (S.row c[i].2.1 k).length lc)/\d.cell? ⟨Z,1,none⟩=some (.int .i64 c[i].2.1))/\(d.cell? ⟨tb,0,none⟩=some (.slice (some ⟨O,0,none⟩) T.to.length cB)/\d.cell? ⟨O,c[i].2.2,none⟩=some (.slice (some ⟨Q,0,none⟩) b7 c7)/\d.cell? ⟨Q,k,none⟩=some (.slice (some ⟨gu,0,none⟩) (T.row c[i].2.2 k).length mc)/\d.cell? ⟨Z,2,none⟩=some (.int .i64 c[i].2.2))/\d.cell? ⟨gl,m,none⟩=some (.int .i64 (S.row c[i].2.1 k)[m])/\d.cell? ⟨gu,n,none⟩=some (.int .i64 (T.row c[i].2.2 k)[n])):=fun d l r h=>⟨c3.out _ _ _ h,e6.out _ _ _ h,i5.out _ _ _ h,(h.cell k1 n).trans f6⟩;clear f5 f6;have HC:Hid (∀W,Below wr.heap.size wr W->Calls Tryz.prog 43 #[u8,.agg #[.int .i64 0,.int .i64 (S.row c[i].2.1 k)[m],.int .i64 (T.row c[i].2.2 k)[n]]] W fun e w5=>∃x1 x2 x3,e=.returned (.slice x1 x2 x3)/\GrowsP wc f.heap.size (.slice (some ⟨g,0,none⟩) c.length o) w5 (.slice x1 x2 x3) (E3 c (X7 S T c[i] k++(F9 0 ((S.row c[i].2.1 k).take m) (T.row c[i].2.2 k)++((T.row c[i].2.2 k).take (n+1)).map fun y=>(0,(S.row c[i].2.1 k)[m],y))))):=by
            intro W hW;have gW:=B.below hW;refine(gQg W f.heap.size ?_ u8 _ gW.pl (dQ4 g1 _) ?_ (0,(S.row c[i].2.1 k)[m],(T.row c[i].2.2 k)[n])).mono ?_
            ·have:=R.grown.size;have:=gW.grown.size;have:=l0;omega
            ·refine Nat.le_trans (HB.out _ (fun b s=>?_)) (by omega)
             rw[List.mem_append]at s;rcases s with s|s
             ·exact jQ9 (hQp.1 s) A
             ·have b4:=xQw d8 rfl s
              have:b∈X7 S T c[i] (k+1):=by rw[nQx,List.mem_append];exact .inr b4
              exact jQ9 (hQp.1 this) d6
            ·rintro e w5 ⟨v5,rfl,g3,k2,k7⟩
             have g5:GrowsP W f.heap.size u8 w5 v5 _:=⟨g3,k2,k7⟩;have key:=gW.next g5;rw[<-gQf,List.append_assoc,<-mQq g2]at key;rcases O0 g3 with⟨rfl,_⟩|⟨z,l7,rfl⟩
             ·exact⟨_,_,_,rfl,key⟩
             ·exact⟨_,_,_,rfl,key⟩
           go_wp2_with fail;go_quiet (fail)
           go_wp2_with fail;have gz:=B.below (J6 wr nq wr.heap.size);have m5:=HS.out _ _ _ gz;have i2:Hid (∀W,Below (wr.drewN nq).heap.size (wr.drewN nq) W->Below wr.heap.size wr W):=fun W h=>(J6 wr nq wr.heap.size).trans h;clear B H J K a3 b0 b1 b2 b3;generalize wr.drewN nq=wz at *;go_region_held (fun w'=>(w'.cell? ⟨sb,0,none⟩=some (.slice (some ⟨M,0,none⟩) S.to.length cA)/\w'.cell? ⟨M,c[i].2.1,none⟩=some (.slice (some ⟨P,0,none⟩) b6 c6)/\w'.cell? ⟨P,k,none⟩=some (.slice (some ⟨gl,0,none⟩) (S.row c[i].2.1 k).length lc)/\w'.cell? ⟨Z,1,none⟩=some (.int .i64 c[i].2.1))/\(w'.cell? ⟨tb,0,none⟩=some (.slice (some ⟨O,0,none⟩) T.to.length cB)/\w'.cell? ⟨O,c[i].2.2,none⟩=some (.slice (some ⟨Q,0,none⟩) b7 c7)/\w'.cell? ⟨Q,k,none⟩=some (.slice (some ⟨gu,0,none⟩) (T.row c[i].2.2 k).length mc)/\w'.cell? ⟨Z,2,none⟩=some (.int .i64 c[i].2.2))/\w'.cell? ⟨gl,m,none⟩=some (.int .i64 (S.row c[i].2.1 k)[m])/\w'.cell? ⟨gu,n,none⟩=some (.int .i64 (T.row c[i].2.2 k)[n])) (first|assumption|go_keep) ((go_at_call 43;refine(HC.out _ (i2.out _ ?_)).mono ?_;exact(Below.refl _ _).drew;rintro e w5 ⟨x1,x2,x3,rfl,g5⟩;have m4:=HS.out _ _ _ g5))
           go_wp2_with fail;exact⟨⟨n+1,by omega,by go_num,g5⟩,by simp[intOf];omega⟩
          ·go_wp2_with fail
           go_quiet (fail)
           go_wp2_with fail;refine⟨⟨m+1,by omega,by go_num,?_⟩,by simp[intOf];omega⟩;rw[mQr d8];rw[show (T.row c[i].2.2 k).take n=T.row c[i].2.2 k from List.take_of_length_le (by omega)]at B;exact B.below (J6 wr _ wr.heap.size)
        ·go_wp2_with fail
         go_quiet (fail)
         go_wp2_with fail;refine⟨⟨k+1,by omega,by go_num,?_⟩,by simp[intOf];omega⟩;rw[nQx];rw[show (S.row c[i].2.1 k).take m=S.row c[i].2.1 k from List.take_of_length_le (by omega)]at gm;exact gm.below (J6 wr _ wr.heap.size)
      ·have k4:k=L.length:=by omega
       subst k4;have i6:=x.next a1 (m:=X7 S T c[i] L.length) (fun b=>hQp) (fun b s=>HE.out _ b ⟨e9.out,hx,hy⟩ s) t.out;go_wp2_with fail;refine⟨⟨i+1,_,by go_num,R.next gk,i6⟩,by simp[intOf];omega⟩
  ·go_wp2_with fail
   go_ret;have:i=c.length:=by have:=x.le;omega
   subst this;exact⟨true,rfl,by rw[<-f0];simp[x.done],a8.grown gr.grown (by have:=a8.size;omega) h5⟩
def Q4 (S T:Tab)(a:Pr)(k:Nat):List Pr:=if a.1=0/\S.ends[a.2.1]?=some true then F9 1 (S.row a.2.2 k) (T.row 0 k) else []
def fQq (S T:Tab)(a:Pr)(k:Nat):List Pr:=F9 a.1 ((jX3 S T a.1).row a.2.1 k) ((jX4 S T a.1).row a.2.2 k)
def M8 (S T:Tab)(a:Pr)(k:Nat):List Pr:=(List.range k).flatMap fun k=>Q4 S T a k++fQq S T a k
def V9 (S:Tab)(a:Pr):List Pr:=if a.1=1/\S.ends[a.2.1]?=some true then [(2,a.2.2,0)] else []
theorem nQy (S T:Tab)(a:Pr)(k:Nat):M8 S T a (k+1)=M8 S T a k++(Q4 S T a k++fQq S T a k):=by
 unfold M8;rw[List.range_succ,List.flatMap_append];simp
theorem xQv:b∈Q4 S T a k↔(a.1=0/\S.ends[a.2.1]?=some true/\b.1=1/\S.go a.2.2 k b.2.1/\T.go 0 k b.2.2):=by
 unfold Q4;split
 ·rename_i h
  rw[cQ7];simp only[Tab.mem_row];constructor
  ·rintro ⟨c,d,e⟩;exact⟨h.1,h.2,c,d,e⟩
  ·rintro ⟨_,_,c,d,e⟩;exact⟨c,d,e⟩
 ·rename_i h
  simp only[List.not_mem_nil,false_iff];rintro ⟨c,d,_⟩;exact h ⟨c,d⟩
theorem xQx:b∈fQq S T a k↔(b.1=a.1/\(jX3 S T a.1).go a.2.1 k b.2.1/\(jX4 S T a.1).go a.2.2 k b.2.2):=by
 unfold fQq;rw[cQ7];simp only[Tab.mem_row]
theorem lQq:b∈M8 S T a n++V9 S a↔hXr S T n a b:=by
 unfold M8 V9 hXr;simp only[List.mem_append,List.mem_flatMap,List.mem_range,xQv,xQx];constructor
 ·rintro (⟨k,d,h|h⟩|h)
  ·exact .inr (.inl ⟨h.1,h.2.1,h.2.2.1,k,d,h.2.2.2⟩)
  ·exact .inl ⟨h.1,k,d,h.2⟩
  ·split at h
   ·rename_i c
    simp only[List.mem_singleton]at h;exact .inr (.inr ⟨c.1,c.2,h⟩)
   ·simp at h
 ·rintro (⟨c,k,d,e⟩|⟨c,e,f,k,d,g⟩|⟨c,e,f⟩)
  ·exact .inl ⟨k,d,.inr ⟨c,e⟩⟩
  ·exact .inl ⟨k,d,.inl ⟨c,e,f,g⟩⟩
  ·refine .inr ?_
   rw[if_pos ⟨c,e⟩];simp[f]
theorem uQa (h:hXr S T k a b)(j:k<=n):hXr S T n a b:=by
 rcases h with⟨c,e,f,d⟩|⟨c,f,d,e,i,g⟩|h
 ·exact .inl ⟨c,e,by omega,d⟩
 ·exact .inr (.inl ⟨c,f,d,e,by omega,g⟩)
 ·exact .inr (.inr h)
theorem eQ9 (h:b∈M8 S T a k)(c:k<=n):hXr S T n a b:=
 uQa (lQq.1 (List.mem_append.2 (.inl h))) c
def IO3 (ns nt:Nat)(a:Pr):Prop:=(a.1=0/\a.2.1<ns/\a.2.2<ns)\/(a.1=1/\a.2.1<ns/\a.2.2<nt)\/(a.1=2/\a.2.1<nt/\a.2.2<nt)
theorem IO3.inR {c d:Nat}(h:IO3 c d a):(a.1=0\/a.1=1\/a.1=2)/\a.2.1<max c d/\a.2.2<max c d:=by
 rcases h with⟨b,e,f⟩|⟨b,e,f⟩|⟨b,e,f⟩
 ·exact⟨.inl b,by omega,by omega⟩
 ·exact⟨.inr (.inl b),by omega,by omega⟩
 ·exact⟨.inr (.inr b),by omega,by omega⟩
theorem IO3.step {p q:Pat}{L:Lu}{o n:List Pat}(A:TabOf p L S o)(z:TabOf q L T n)(h:IO3 o.length n.length a)(B:hXr S T L.length a b):IO3 o.length n.length b:=by
 have w:=(List.getElem?_eq_some_iff.1 z.first).1;have r:∀{i k j:Nat},i<o.length->k<L.length->S.go i k j->j<o.length:=fun u c v=>A.row_lt u c _ ((S.mem_row _ _ _).2 v);have s:∀{i k j:Nat},i<n.length->k<L.length->T.go i k j->j<n.length:=fun u c v=>z.row_lt u c _ ((T.mem_row _ _ _).2 v);obtain⟨C,x,y⟩:=a;obtain⟨E,F,G⟩:=b;rcases B with⟨g,k,c,d,l⟩|⟨g,_,d,k,c,l,f⟩|⟨g,_,d⟩
 ·simp only at g d l
  subst g;rcases h with⟨e,f,m⟩|⟨e,f,m⟩|⟨e,f,m⟩<;>simp only at e f m<;>subst e
  ·exact .inl ⟨rfl,r f c d,r m c l⟩
  ·exact .inr (.inl ⟨rfl,r f c d,s m c l⟩)
  ·exact .inr (.inr ⟨rfl,s f c d,s m c l⟩)
 ·simp only at g d l f
  subst g;subst d;rcases h with⟨_,_,t⟩|⟨e,_⟩|⟨e,_⟩
  ·exact .inr (.inl ⟨rfl,r t c l,s w c f⟩)
  ·cases e
  ·cases e
 ·simp only at g
  subst g;cases d;rcases h with⟨e,_⟩|⟨_,_,t⟩|⟨e,_⟩
  ·cases e
  ·exact .inr (.inr ⟨rfl,t,w⟩)
  ·cases e
variable {S T:Tab}{a:Pr}(k:Nat)
theorem jQ2 (h:¬(a.1=0/\S.ends[a.2.1]?=some true)):Q4 S T a k=[]:=by unfold Q4;rw[if_neg h]
theorem tQt (h:a.1=0/\S.ends[a.2.1]?=some true):Q4 S T a k=F9 1 (S.row a.2.2 k) (T.row 0 k):=by unfold Q4;rw[if_pos h]
theorem sides {p q:Pat}{P Q:List Pat}(u:Room P)(v:Room Q){L:Lu}{f g:List Pat}(n:TabOf p L S f)(o:TabOf q L T g)(z:∀x,x∈f->x∈P)(A:∀x,x∈g->x∈Q)(w:P.length<=991233)(y:Q.length<=991233)(h:IO3 f.length g.length a){k:Nat}(s:k<L.length) :
  (∃r,(jX3 S T a.1).to[a.2.1]?=some r/\k<r.length/\((jX3 S T a.1).row a.2.1 k).length<=991233)/\(∃r,(jX4 S T a.1).to[a.2.2]?=some r/\k<r.length/\((jX4 S T a.1).row a.2.2 k).length<=991233):=by
 have j:∀i,i<f.length->∃r,S.to[i]?=some r/\k<r.length/\(S.row i k).length<=991233:=fun i d=>by
  obtain⟨r,m,t,_⟩:=n.row i _ (List.getElem?_eq_getElem d);exact⟨r,m,by omega,Lq (n.row_length u z d s) w⟩
 have l:∀i,i<g.length->∃r,T.to[i]?=some r/\k<r.length/\(T.row i k).length<=991233:=fun i d=>by
  obtain⟨r,m,t,_⟩:=o.row i _ (List.getElem?_eq_getElem d);exact⟨r,m,by omega,Lq (o.row_length v A d s) y⟩
 rcases h with⟨e,b,c⟩|⟨e,b,c⟩|⟨e,b,c⟩<;>rw[e]<;>simp only[jX3,jX4]
 ·exact⟨j _ b,j _ c⟩
 ·exact⟨j _ b,l _ c⟩
 ·exact⟨l _ b,l _ c⟩
theorem nQu {c W:World}{f:Nat}{v:Value}{i:List Pr}(E:f<=c.heap.size)(y:i≠[]){q:World}{g:Value}{l:List Pr}(gx:GrowsP c f v q g (E3 i l))(A:Bw q W){m n:Value}{a b:List Nat}(ha:IV c (Ge c v) m a)(u:IV c (Ge c v) n b)(w:a.length<=991233)(x:b.length<=991233)(G:(E3 i l).length<=2947628580867)(h:Nat) :
  Calls Tryz.prog 42 #[g,m,n,Iv h] W fun e p=>∃r s t,e=.returned (.slice r s t)/\GrowsP c f v p (.slice r s t) (E3 i (l++F9 h a b)):=by
 have d:=gx.below A;have z:=hQ6 h a b;have F:=Nat.mul_le_mul w x;refine(cXy W f (by have:=d.grown.size;omega) g _ d.pl (dQ4 y _) (Ge W g) (fun k j=>j.1) (fun k j=>j.2) m n a b (ha.mono2 d.ge) (u.mono2 d.ge) (by omega) (by omega) h (by rw[z];omega)).mono ?_;rintro e p ⟨H,rfl,o⟩;have key:=d.next o;rw[<-qQd]at key;rcases O0 o.pl with⟨rfl,_⟩|⟨C,B,rfl⟩
 ·exact⟨_,_,_,rfl,key⟩
 ·exact⟨_,_,_,rfl,key⟩
theorem xQ8 (p q:Pat)(d4 d5:List Pat)(hP:Room d4)(hQ:Room d5)(i8:p∈d4)(j2:q∈d5)(nP:d4.length<=991233)(nQ:d5.length<=991233)(sp:fXx p)(sq:fXx q)(g7 g8:Value)(w:World)(G:Nat->Prop)(hG:Old w G)(hp:PV w G p g7)(hq:PV w G q g8) :
  Calls Tryz.prog 16 #[B4 p g7,B4 q g8] w fun e w'=>∃b:Bool,e=.returned (.bool b)/\(b=true↔¬fXb p q)/\Bw w w':=by
 have Hp:Hid (PV w G p g7):=hp;have Hq:Hid (PV w G q g8):=hq;obtain⟨y1,y2,y3,rfl⟩:=PV.slice _ _ hp;obtain⟨z1,z2,z3,rfl⟩:=PV.slice _ _ hq;clear hp hq;have e5:=hP.ok p i8;have e6:=hQ.ok q j2;have d6:=C6 w (.cells #[.int .i64 p.kind,.string ⟨p.signs.toArray⟩,.slice y1 y2 y3] 27) (.cells #[.int .i64 q.kind,.string ⟨q.signs.toArray⟩,.slice z1 z2 z3] 27);have f8:=C7 (w.alloc (.cells #[.int .i64 p.kind,.string ⟨p.signs.toArray⟩,.slice y1 y2 y3] 27)) (C2 q (.slice z1 z2 z3));rw[World.size_alloc]at f8;have i3:Lies ((w.alloc (.cells #[.int .i64 p.kind,.string ⟨p.signs.toArray⟩,.slice y1 y2 y3] 27)).alloc (.cells #[.int .i64 q.kind,.string ⟨q.signs.toArray⟩,.slice z1 z2 z3] 27)) w.heap.size (C2 p (.slice y1 y2 y3)):=by
  unfold Lies;rw[Below.heap_alloc _ _ _ (by simp)];exact C7 w (C2 p (.slice y1 y2 y3))
 go_enter Tryz.func16,Tryz.ntmps16;go_wp2_with fail;refine(lQd p q e5.1 e6.1 e5.2.2.1 e6.2.2.1 e5.2.1 e6.2.1 _ _ _ G (hG.below d6) (Hp.out.below d6 hG fun _ h=>h) (Hq.out.below d6 hG fun _ h=>h)).mono ?_;rintro e w1 ⟨L,rfl,hL,o2,d8⟩;have f5:=Bj d6 d8;have i4:=i3.below d8 (by simp;omega);have i5:=f8.below d8 (by simp);obtain⟨c0,c1,c2⟩:=i4.three;clear i3 f8;go_wp2_with fail;refine(fQu p d4 hP i8 L (by omega) _ _ G (hG.below f5) (Hp.out.below f5 hG fun _ h=>h)).mono ?_;rintro e w2 ⟨Q,S,x,rfl,j7,Z,o4,j3,i0⟩;have f6:=Bj f5 i0;have m9:=d8.size;simp at m9;have i6:=i5.below i0 (by omega);obtain⟨d0,d1,d2⟩:=i6.three;clear c0 c1 c2 i4 i5;go_wp2_with fail;refine(fQu q d5 hQ j2 L (by omega) _ _ G (hG.below f6) (Hq.out.below f6 hG fun _ h=>h)).mono ?_;rintro e c ⟨R,T,y,rfl,k3,a3,o5,j4,f7⟩;have h9:=Bj f6 f7;clear d0 d1 d2 i6;have c4:=A5 c (.cells #[.int .i64 0,.int .i64 0,.int .i64 0] 68);have j0:PL (c.alloc (.cells #[.int .i64 0,.int .i64 0,.int .i64 0] 68)) c.heap.size (.slice (some ⟨c.heap.size,0,none⟩) 1 1) [(0,0,0)]:=
  World.ownsRow_lit (e:=68) (size:=3) c (Y9 [(0,0,0)]).toArray 1 (Nat.le_refl _) (by unfold maxLen;omega) rfl
 have n8:TV (c.alloc (.cells #[.int .i64 0,.int .i64 0,.int .i64 0] 68)) (Ge (c.alloc (.cells #[.int .i64 0,.int .i64 0,.int .i64 0] 68)) (.slice (some ⟨c.heap.size,0,none⟩) 1 1)) Q S:=
  j7.mono (fun k hk=>by
   have h3:=f7.size;exact⟨⟨by simp;omega,by simp[Value.ownBlock];omega⟩,(Bj f7 c4).block k hk.2⟩)
 have k6:TV (c.alloc (.cells #[.int .i64 0,.int .i64 0,.int .i64 0] 68)) (Ge (c.alloc (.cells #[.int .i64 0,.int .i64 0,.int .i64 0] 68)) (.slice (some ⟨c.heap.size,0,none⟩) 1 1)) R T:=
  k3.mono (fun k hk=>⟨⟨by simp;omega,by simp[Value.ownBlock];omega⟩,c4.block k hk.2⟩)
 have gp:=GrowsP.start j0;have h7:0<x.length:=(List.getElem?_eq_some_iff.1 Z.first).1;have h8:0<y.length:=(List.getElem?_eq_some_iff.1 a3.first).1;have l0:=BF.start (hXr S T L.length) (kXr T) (I:=IO3 x.length y.length) (.inl ⟨rfl,h7,h7⟩);have HE:Hid (∀b6 b:Pr,IO3 x.length y.length b6->hXr S T L.length b6 b->IO3 x.length y.length b):=fun b6 b h he=>h.step Z a3 he;have hN:=nQq (N:=max x.length y.length) (by omega);have h4:=mXu e5.1 e6.1 sp sq hL Z a3;have d7:=Bj h9 c4;have o7:c.heap.size<=(c.alloc (.cells #[.int .i64 0,.int .i64 0,.int .i64 0] 68)).heap.size:=c4.size;have k4:∀k,(Value.slice (some ⟨c.heap.size,0,none⟩) 1 1).ownBlock=some k->w.heap.size<=k:=fun k e=>by
  have:=h9.size;have e2:c.heap.size=k:=by simpa [Value.ownBlock] using e
  omega
 clear j0 j7 k3 c4 Hp Hq;go_wp2_with fail;generalize c.alloc (.cells #[.int .i64 0,.int .i64 0,.int .i64 0] 68)=wl at *;generalize (Value.slice (some ⟨c.heap.size,0,none⟩) 1 1)=v0 at *;go_loopw [8,9] (fun v iv wr=>∃(i:Nat) (a:List Pr),iv=.int .i64 i/\GrowsP wl c.heap.size v0 wr v a/\BF (hXr S T L.length) (kXr T) (IO3 x.length y.length) a i) (fun _ iv _=>2947628580868-(intOf iv).toNat)
 case atStart=>exact⟨0,[(0,0,0)],rfl,gp,l0⟩
 case round=>
  obtain⟨i,a,rfl,gr,X⟩:=hrel;have o3:=X.length (fun b6 ha=>ha.inR);have e4:a≠[]:=fun e=>by have:=X.first;rw[e]at this;simp at this
  obtain⟨a9,b7,rfl⟩:=gr.pl.some e4
  by_cases c5:i<a.length
  ·obtain⟨c0,c1,c2⟩:=gr.pl.cells i c5
   have a6:Hid (IO3 x.length y.length a[i]):=X.inR _ (List.getElem_mem c5);have l5:=World.ownsRow.lt gr.pl a9 rfl;have p0:=T4 wr a[i] 0;have p1:=T4 wr a[i] 1;have p2:=T4 wr a[i] 2;simp only[T7,List.getElem?_cons_zero,List.getElem?_cons_succ]at p0 p1 p2;have f4:=gr.below (A5 wr (.cells #[.int .i64 a[i].1,.int .i64 a[i].2.1,.int .i64 a[i].2.2] 68));have i9:Ge (wr.alloc (.cells #[.int .i64 a[i].1,.int .i64 a[i].2.1,.int .i64 a[i].2.2] 68)) (.slice (some ⟨a9,0,none⟩) a.length b7) wr.heap.size:=⟨by simp,by simp[Value.ownBlock];omega⟩;have tT:=k6.mono f4.ge;go_upto_if 58 with fail
   go_cut [58] (fun n9 d=>∃b:Bool,n9=.bool b/\(b=true↔kXr T a[i])/\Below (wr.heap.size+1) (wr.alloc (.cells #[.int .i64 a[i].1,.int .i64 a[i].2.1,.int .i64 a[i].2.2] 68)) d)
   case first=>
    by_cases u:a[i].1=2
    ·have m2:((a[i].1:Int)==2)=true:=by simp[u]
     obtain⟨hx,hy⟩:a[i].2.1<y.length/\a[i].2.2<y.length:=by
      rcases a6.out with h|h|h
      ·omega
      ·omega
      ·exact h.2
     have c7:a[i].2.1<T.ends.length:=by rw[a3.lenE];exact hx
     have m7:a[i].2.2<T.ends.length:=by rw[a3.lenE];exact hy
     have t:T.ends[a[i].2.1]?=some T.ends[a[i].2.1]:=List.getElem?_eq_getElem c7;have f3:T.ends[a[i].2.2]?=some T.ends[a[i].2.2]:=List.getElem?_eq_getElem m7;obtain⟨gS,cS,e0,C,_,_⟩:=tT.end' t;obtain⟨gT,cT,e2,e3,_,_⟩:=tT.end' f3;have ee:=e0.symm.trans e2;injection ee with ee;injection ee with c3 _ l1;injection c3 with c3;injection c3 with c3;subst c3 l1;have U:Hid (T.ends[a[i].2.1]?=some T.ends[a[i].2.1]):=t;have g9:Hid (T.ends[a[i].2.2]?=some T.ends[a[i].2.2]):=f3;have f0:Hid (a[i].1=2):=u;clear t f3 u e2;cases f:T.ends[a[i].2.1] with
     | true=>
      rw[f]at C;cases b4:T.ends[a[i].2.2] with
      | true=>
       rw[b4]at e3;have s:Hid (kXr T a[i]):=⟨f0.out,by rw[U.out,f],by rw[g9.out,b4]⟩;clear f b4;go_wp2_with fail;go_quiet (fail)
       go_wp2_with fail;go_meet
       case rel=>exact⟨true,rfl,by simp[s.out],J6 _ nq _⟩
      | false=>
       rw[b4]at e3;have s:Hid (¬kXr T a[i]):=fun h=>by have n:=h.2.2;rw[g9.out,b4]at n;cases n
       clear f b4;go_wp2_with fail;go_quiet (fail)
       go_wp2_with fail;go_meet
       case rel=>exact⟨false,rfl,by simp[s.out],J6 _ nq _⟩
     | false=>
      rw[f]at C;have s:Hid (¬kXr T a[i]):=fun h=>by have n:=h.2.1;rw[U.out,f]at n;cases n
      clear f;go_wp2_with fail;go_quiet (fail)
      go_wp2_with fail;go_meet
      case rel=>exact⟨false,rfl,by simp[s.out],J6 _ nq _⟩
    ·have m2:((a[i].1:Int)==2)=false:=by simp;omega
     have s:Hid (¬kXr T a[i]):=fun h=>u h.1;clear u;go_wp2_with fail;go_quiet (fail)
     go_wp2_with fail;go_meet
     case rel=>exact⟨false,rfl,by simp[s.out],J6 _ nq _⟩
   case rest=>
    obtain⟨b,rfl,d9,b3⟩:=hcut;have P:=f4.below (w':=wc) (by simpa[Bw] using b3);cases b with
    | true=>
     have s:Hid (∃n5,Hit (hXr S T L.length) (kXr T) n5 (0,0,0)):=X.found c5 (d9.1 rfl);clear d9;go_wp2_with fail;go_ret;exact⟨false,rfl,by rw[<-h4];simp[s.out],d7.grown P.grown (by have:=d7.size;omega) k4⟩
    | false=>
     have s:Hid (¬kXr T a[i]):=fun h=>by have:=d9.2 h;cases this
     clear d9;have q0:wc.cell? ⟨wr.heap.size,0,none⟩=some (.int .i64 a[i].1):=(b3.cell (p:=⟨wr.heap.size,0,none⟩) (by show wr.heap.size<_;omega)).trans p0;have q1:wc.cell? ⟨wr.heap.size,1,none⟩=some (.int .i64 a[i].2.1):=(b3.cell (p:=⟨wr.heap.size,1,none⟩) (by show wr.heap.size<_;omega)).trans p1;have q2:wc.cell? ⟨wr.heap.size,2,none⟩=some (.int .i64 a[i].2.2):=(b3.cell (p:=⟨wr.heap.size,2,none⟩) (by show wr.heap.size<_;omega)).trans p2;have k5:=n8.mono P.ge;have n7:=k6.mono P.ge;have Y:Ge wc (.slice (some ⟨a9,0,none⟩) a.length b7) wr.heap.size:=⟨by have:=b3.size;simp at this;omega,i9.2⟩;have HB:Hid (∀m:List Pr,(∀b,b∈m->hXr S T L.length a[i] b)->(E3 a m).length<=2947628580867):=fun m hm=>
      Nat.le_trans (X.part c5 hm (fun b l=>HE.out _ b a6.out l) (fun b6 ha=>ha.inR)) hN
     clear p0 p1 p2 tT i9;have gc:=GrowsP.start P.pl;go_wp2_with fail;clear b3 f4 l5;generalize wr.heap.size=o at *;go_loopw [8,11] (fun v kv d=>∃k:Nat,k<=L.length/\kv=.int .i64 k/\GrowsP wc c.heap.size (.slice (some ⟨a9,0,none⟩) a.length b7) d v (E3 a (M8 S T a[i] k))) (fun _ kv _=>L.length-(intOf kv).toNat)
     case atStart=>exact⟨0,Nat.zero_le _,rfl,gc⟩
     case round=>
      obtain⟨k,hk,rfl,gk⟩:=hrel;obtain⟨j,l9⟩:∃j,j=u8:=⟨_,rfl⟩;subst l9;obtain⟨k0,k1,k2⟩:wr.cell? ⟨o,0,none⟩=some (.int .i64 a[i].1)/\wr.cell? ⟨o,1,none⟩=some (.int .i64 a[i].2.1)/\wr.cell? ⟨o,2,none⟩=some (.int .i64 a[i].2.2):=⟨(gk.cell Y _).trans q0,(gk.cell Y _).trans q1,(gk.cell Y _).trans q2⟩
      by_cases e1:k<L.length
      ·have o6:o<wr.heap.size:=(gk.ge o Y).1.1
       have K:=gk.below (A5 wr (.cells #[.int .i64 a[i].1,.int .i64 a[i].2.1,.int .i64 a[i].2.2] 68));have j1:=(K.ge o Y).1;have i2:Ge (wr.alloc (.cells #[.int .i64 a[i].1,.int .i64 a[i].2.1,.int .i64 a[i].2.2] 68)) j wr.heap.size:=⟨by simp,fun e=>by have:=World.ownsRow.lt gk.pl _ e.symm;omega⟩;have n0:(wr.alloc (.cells #[.int .i64 a[i].1,.int .i64 a[i].2.1,.int .i64 a[i].2.2] 68)).cell? ⟨o,0,none⟩=some (.int .i64 a[i].1):=(K.cell Y _).trans q0;have n1:(wr.alloc (.cells #[.int .i64 a[i].1,.int .i64 a[i].2.1,.int .i64 a[i].2.2] 68)).cell? ⟨o,1,none⟩=some (.int .i64 a[i].2.1):=(K.cell Y _).trans q1;have n2:(wr.alloc (.cells #[.int .i64 a[i].1,.int .i64 a[i].2.1,.int .i64 a[i].2.2] 68)).cell? ⟨o,2,none⟩=some (.int .i64 a[i].2.2):=(K.cell Y _).trans q2;have f1:=T4 wr a[i] 1;have f2:=T4 wr a[i] 2;simp only[T7,List.getElem?_cons_zero,List.getElem?_cons_succ]at f1 f2;have e7:=k5.mono K.ge;have g5:=n7.mono K.ge;have gK:=GrowsP.start K.pl;have h2:Hid (GrowsP wc c.heap.size (.slice (some ⟨a9,0,none⟩) a.length b7) (wr.alloc (.cells #[.int .i64 a[i].1,.int .i64 a[i].2.1,.int .i64 a[i].2.2] 68)) j (E3 a (M8 S T a[i] k))):=K;clear K;go_upto_block 4 with fail
       generalize m6:(wr.alloc (.cells #[.int .i64 a[i].1,.int .i64 a[i].2.1,.int .i64 a[i].2.2] 68))=g at *;generalize l3:wr.heap.size=fb at *;clear m6 l3;have i1:c.heap.size<=g.heap.size:=by have:=h2.out.grown.size;have:=P.grown.size;omega
       have k7:Hid ((E3 a (M8 S T a[i] k)).length<=2947628580867):=HB.out _ (fun b l=>eQ9 l (by omega));have k8:Hid ((E3 a (M8 S T a[i] k++Q4 S T a[i] k)).length<=2947628580867):=HB.out _ (fun b l=>by
        rw[List.mem_append]at l;rcases l with l|l
        ·exact eQ9 l (by omega)
        ·have:b∈M8 S T a[i] (k+1):=by rw[nQy];simp[l]
         exact eQ9 this e1)
       go_cut [8,12,13] (fun v xv yv d=>xv=.pointer (some ⟨if a[i].1=2 then R else Q,0,none⟩)/\yv=.pointer (some ⟨if a[i].1=0 then Q else R,0,none⟩)/\GrowsP g c.heap.size j d v (E3 a (M8 S T a[i] k++Q4 S T a[i] k)))
       case first=>
        by_cases b5:a[i].1=0
        ·have h0:((a[i].1:Int)==0)=true:=by simp[b5]
         obtain⟨hx,hy⟩:a[i].2.1<x.length/\a[i].2.2<x.length:=by
          rcases a6.out with h|h|h
          ·exact h.2
          ·omega
          ·omega
         have c7:a[i].2.1<S.ends.length:=by rw[Z.lenE];exact hx
         have t:S.ends[a[i].2.1]?=some S.ends[a[i].2.1]:=List.getElem?_eq_getElem c7;obtain⟨gE,cE,e0,C,_,_⟩:=e7.end' t;have U:Hid (S.ends[a[i].2.1]?=some S.ends[a[i].2.1]):=t;have V:Hid (a[i].1=0):=b5;clear t b5;cases f:S.ends[a[i].2.1] with
         | false=>
          rw[f]at C;have r:Hid (Q4 S T a[i] k=[]):=jQ2 k (fun h=>by have n:=h.2;rw[U.out,f]at n;cases n);clear f;go_wp2_with fail;go_quiet (fail)
          go_wp2_with fail;go_meet
          case rel=>
           refine⟨by rw[if_neg (by rw[V.out];omega)],by rw[if_pos V.out],?_⟩;rw[r.out,List.append_nil];exact gK.below (J6 _ nq _)
         | true=>
          rw[f]at C;have r:Hid (Q4 S T a[i] k=F9 1 (S.row a[i].2.2 k) (T.row 0 k)):=tQt k ⟨V.out,by rw[U.out,f]⟩;clear f;go_wp2_with fail;go_quiet (fail)
          go_wp2_with fail;obtain⟨rS,g1,n3,_⟩:=Z.row a[i].2.2 _ (List.getElem?_eq_getElem hy);obtain⟨rT,g2,n4,_⟩:=a3.row 0 _ (List.getElem?_eq_getElem h8);obtain⟨H,cA,M,a4,b8,la,lc,a0,a1,a2,A0,A1,A2,f9,c8⟩:=e7.at' g1 (k:=k) (by omega);obtain⟨J,cB,O,a5,b9,ma,mc,b0,b1,b2,B0,B1,B2,g0,c9⟩:=g5.at' g2 (k:=k) (by omega);have m0:k<a4:=by omega
          have m1:k<a5:=by omega
          have m8:a[i].2.2<S.to.length:=(List.getElem?_eq_some_iff.1 g1).1;have o1:0<T.to.length:=(List.getElem?_eq_some_iff.1 g2).1;have lS:=Z.row_length hP j3 hy e1;have lT:=a3.row_length hQ j4 h8 e1;have HS:Hid (∀d v d3,GrowsP g c.heap.size j d v d3->(d.cell? ⟨Q,0,none⟩=some (.slice (some ⟨H,0,none⟩) S.to.length cA)/\d.cell? ⟨H,a[i].2.2,none⟩=some (.slice (some ⟨M,0,none⟩) a4 b8)/\d.cell? ⟨M,k,none⟩=some (.slice la (S.row a[i].2.2 k).length lc))/\(d.cell? ⟨R,0,none⟩=some (.slice (some ⟨J,0,none⟩) T.to.length cB)/\d.cell? ⟨J,0,none⟩=some (.slice (some ⟨O,0,none⟩) a5 b9)/\d.cell? ⟨O,k,none⟩=some (.slice ma (T.row 0 k).length mc))/\d.cell? ⟨o,2,none⟩=some (.int .i64 a[i].2.2)):=fun d v d3 h=>⟨⟨(h.cell A0 _).trans a0,(h.cell A1 _).trans a1,(h.cell A2 _).trans a2⟩,⟨(h.cell B0 _).trans b0,(h.cell B1 _).trans b1,(h.cell B2 _).trans b2⟩,(h.cell j1 _).trans n2⟩;have HC:Hid (∀W,Below (g.drewN nq).heap.size (g.drewN nq) W->Calls Tryz.prog 42 #[j,.slice la (S.row a[i].2.2 k).length lc,.slice ma (T.row 0 k).length mc,.int .i64 1] W fun e E=>∃z A B,e=.returned (.slice z A B)/\GrowsP g c.heap.size j E (.slice z A B) (E3 a (M8 S T a[i] k++Q4 S T a[i] k))):=fun W hW=>by
           have l2:=(J6 g nq g.heap.size).trans hW;rw[r.out];exact nQu i1 e4 gK l2 c8 c9 (by omega) (by omega) k7.out 1
          have m5:=HS.out _ _ _ (gK.below (J6 g nq g.heap.size));clear e0 C a0 a1 a2 b0 b1 b2 g1 g2 n3 n4 f9 g0 c8 c9;generalize g.drewN nq=wz at *;go_region_held (fun w'=>(w'.cell? ⟨Q,0,none⟩=some (.slice (some ⟨H,0,none⟩) S.to.length cA)/\w'.cell? ⟨H,a[i].2.2,none⟩=some (.slice (some ⟨M,0,none⟩) a4 b8)/\w'.cell? ⟨M,k,none⟩=some (.slice la (S.row a[i].2.2 k).length lc))/\(w'.cell? ⟨R,0,none⟩=some (.slice (some ⟨J,0,none⟩) T.to.length cB)/\w'.cell? ⟨J,0,none⟩=some (.slice (some ⟨O,0,none⟩) a5 b9)/\w'.cell? ⟨O,k,none⟩=some (.slice ma (T.row 0 k).length mc))/\w'.cell? ⟨o,2,none⟩=some (.int .i64 a[i].2.2)) (first|assumption|go_keep) ((go_at_call 42;refine(HC.out _ ?_).mono ?_;exact(Below.refl _ _).drew;rintro e E ⟨z,A,B,rfl,F⟩;have m4:=HS.out _ _ _ F))
          go_wp2_with fail;go_meet
          case rel=>exact⟨by rw[if_neg (by rw[V.out];omega)],by rw[if_pos V.out],F⟩
        ·have r:Hid (Q4 S T a[i] k=[]):=jQ2 k (fun h=>b5 h.1)
         have h0:((a[i].1:Int)==0)=false:=by simp;omega
         have V:Hid (¬a[i].1=0):=b5;clear b5
         by_cases c6:a[i].1=2
         ·have n:((a[i].1:Int)==2)=true:=by simp[c6]
          have e9:Hid (a[i].1=2):=c6;clear c6;go_wp2_with fail;go_meet
          case rel=>
           refine⟨by rw[if_pos e9.out],by rw[if_neg V.out],?_⟩;rw[r.out,List.append_nil];exact gK
         ·have n:((a[i].1:Int)==2)=false:=by simp;omega
          have e9:Hid (¬a[i].1=2):=c6;clear c6;go_wp2_with fail;go_meet
          case rel=>
           refine⟨by rw[if_neg e9.out],by rw[if_neg V.out],?_⟩;rw[r.out,List.append_nil];exact gK
       case rest=>
        obtain⟨rfl,rfl,gx⟩:=hcut;obtain⟨⟨rX,g3,l6,lX⟩,⟨rY,g4,l7,lY⟩⟩:=sides hP hQ Z a3 j3 j4 nP nQ a6.out e1;have tX:TV g (Ge g j) (if a[i].1=2 then R else Q) (jX3 S T a[i].1):=by unfold jX3;split;exact g5;exact e7
        have tY:TV g (Ge g j) (if a[i].1=0 then Q else R) (jX4 S T a[i].1):=by unfold jX4;split;exact e7;exact g5
        have k9:Hid (M8 S T a[i] (k+1)=(M8 S T a[i] k++Q4 S T a[i] k)++F9 a[i].1 ((jX3 S T a[i].1).row a[i].2.1 k) ((jX4 S T a[i].1).row a[i].2.2 k)):=by rw[nQy,<-List.append_assoc];rfl
        generalize (if a[i].1=2 then R else Q)=xb at *;generalize (if a[i].1=0 then Q else R)=yb at *;generalize jX3 S T a[i].1=a7 at *;generalize jX4 S T a[i].1=a8 at *;obtain⟨H,cA,M,a4,b8,la,lc,a0,a1,a2,A0,A1,A2,f9,c8⟩:=tX.at' g3 (k:=k) l6;obtain⟨J,cB,O,a5,b9,ma,mc,b0,b1,b2,B0,B1,B2,g0,c9⟩:=tY.at' g4 (k:=k) l7;have m0:k<a4:=by omega
        have m1:k<a5:=by omega
        have o8:a[i].2.1<a7.to.length:=(List.getElem?_eq_some_iff.1 g3).1;have m8:a[i].2.2<a8.to.length:=(List.getElem?_eq_some_iff.1 g4).1;have HS:Hid (∀d v d3,GrowsP g c.heap.size j d v d3->(d.cell? ⟨xb,0,none⟩=some (.slice (some ⟨H,0,none⟩) a7.to.length cA)/\d.cell? ⟨H,a[i].2.1,none⟩=some (.slice (some ⟨M,0,none⟩) a4 b8)/\d.cell? ⟨M,k,none⟩=some (.slice la (a7.row a[i].2.1 k).length lc))/\(d.cell? ⟨yb,0,none⟩=some (.slice (some ⟨J,0,none⟩) a8.to.length cB)/\d.cell? ⟨J,a[i].2.2,none⟩=some (.slice (some ⟨O,0,none⟩) a5 b9)/\d.cell? ⟨O,k,none⟩=some (.slice ma (a8.row a[i].2.2 k).length mc))/\d.cell? ⟨fb,1,none⟩=some (.int .i64 a[i].2.1)/\d.cell? ⟨fb,2,none⟩=some (.int .i64 a[i].2.2)/\d.cell? ⟨o,0,none⟩=some (.int .i64 a[i].1)):=fun d v d3 h=>⟨⟨(h.cell A0 _).trans a0,(h.cell A1 _).trans a1,(h.cell A2 _).trans a2⟩,⟨(h.cell B0 _).trans b0,(h.cell B1 _).trans b1,(h.cell B2 _).trans b2⟩,(h.cell i2 _).trans f1,(h.cell i2 _).trans f2,(h.cell j1 _).trans n0⟩;have HC:Hid (∀W,Below wc.heap.size wc W->Calls Tryz.prog 42 #[u8,.slice la (a7.row a[i].2.1 k).length lc,.slice ma (a8.row a[i].2.2 k).length mc,.int .i64 a[i].1] W fun e E=>∃z A B,e=.returned (.slice z A B)/\GrowsP g c.heap.size j E (.slice z A B) (E3 a (M8 S T a[i] (k+1)))):=fun W hW=>by
         rw[k9.out];exact nQu i1 e4 gx hW c8 c9 lX lY k8.out a[i].1
        have m5:=HS.out _ _ _ gx;clear a0 a1 a2 b0 b1 b2 g3 g4 f9 g0 c8 c9;go_wp2_with fail;go_region_held (fun w'=>(w'.cell? ⟨xb,0,none⟩=some (.slice (some ⟨H,0,none⟩) a7.to.length cA)/\w'.cell? ⟨H,a[i].2.1,none⟩=some (.slice (some ⟨M,0,none⟩) a4 b8)/\w'.cell? ⟨M,k,none⟩=some (.slice la (a7.row a[i].2.1 k).length lc))/\(w'.cell? ⟨yb,0,none⟩=some (.slice (some ⟨J,0,none⟩) a8.to.length cB)/\w'.cell? ⟨J,a[i].2.2,none⟩=some (.slice (some ⟨O,0,none⟩) a5 b9)/\w'.cell? ⟨O,k,none⟩=some (.slice ma (a8.row a[i].2.2 k).length mc))/\w'.cell? ⟨fb,1,none⟩=some (.int .i64 a[i].2.1)/\w'.cell? ⟨fb,2,none⟩=some (.int .i64 a[i].2.2)/\w'.cell? ⟨o,0,none⟩=some (.int .i64 a[i].1)) (first|assumption|go_keep) ((go_at_call 42;refine(HC.out _ ?_).mono ?_;exact(Below.refl _ _).drew;rintro e E ⟨z,A,B,rfl,F⟩;have m4:=HS.out _ _ _ F))
        go_wp2_with fail;exact⟨⟨k+1,by omega,by go_num,h2.out.next F⟩,by simp[intOf];omega⟩
      ·have l8:k=L.length:=by omega
       subst l8;have h6:=fun (h:¬kXr T a[i])=>X.next c5 (m:=M8 S T a[i] L.length++V9 S a[i]) (fun b=>lQq) (fun b l=>HE.out _ b a6.out l) h;have h5:=h6 s.out;clear h6;have e8:Hid (BF (hXr S T L.length) (kXr T) (IO3 x.length y.length) (E3 a (M8 S T a[i] L.length++V9 S a[i])) (i+1)):=h5;clear h5;have n6:=k5.mono gk.ge
       by_cases u:a[i].1=1
       ·have h1:((a[i].1:Int)==1)=true:=by simp[u]
        obtain⟨hx,hy⟩:a[i].2.1<x.length/\a[i].2.2<y.length:=by
         rcases a6.out with h|h|h
         ·omega
         ·exact h.2
         ·omega
        have c7:a[i].2.1<S.ends.length:=by rw[Z.lenE];exact hx
        have t:S.ends[a[i].2.1]?=some S.ends[a[i].2.1]:=List.getElem?_eq_getElem c7;obtain⟨gE,cE,e0,C,_,_⟩:=n6.end' t;have U:Hid (S.ends[a[i].2.1]?=some S.ends[a[i].2.1]):=t;have f0:Hid (a[i].1=1):=u;clear t u;cases f:S.ends[a[i].2.1] with
        | false=>
         rw[f]at C;have r:Hid (V9 S a[i]=[]):=by
          show _=_;unfold V9;rw[if_neg (fun h=>by have n:=h.2;rw[U.out,f]at n;cases n)]
         clear f;go_wp2_with fail;go_quiet (fail)
         go_wp2_with fail;have g6:=P.next (gk.below (J6 wr nq wr.heap.size));refine⟨⟨i+1,_,by go_num,?_,e8.out⟩,by simp[intOf];omega⟩;rw[r.out,List.append_nil];exact g6
        | true=>
         rw[f]at C;have r:Hid (V9 S a[i]=[(2,a[i].2.2,0)]):=by
          show _=_;unfold V9;rw[if_pos ⟨f0.out,by rw[U.out,f]⟩]
         clear f;go_wp2_with fail;go_quiet (fail)
         go_wp2_with fail;have g6:=gk.below (J6 wr nq wr.heap.size);have HC:Hid (∀W,Below (wr.drewN nq).heap.size (wr.drewN nq) W->Calls Tryz.prog 43 #[j,.agg #[.int .i64 2,.int .i64 a[i].2.2,.int .i64 0]] W fun e E=>∃z A B,e=.returned (.slice z A B)/\GrowsP wc c.heap.size (.slice (some ⟨a9,0,none⟩) a.length b7) E (.slice z A B) (E3 a (M8 S T a[i] L.length++V9 S a[i]))):=fun W hW=>by
          have gW:=g6.below hW;refine(gQg W c.heap.size ?_ j _ gW.pl (dQ4 e4 _) ?_ (2,a[i].2.2,0)).mono ?_
          ·have:=P.grown.size;have:=gW.grown.size;omega
          ·exact Nat.le_trans (HB.out _ (fun b l=>eQ9 l (Nat.le_refl _))) (by omega)
          ·rintro e E ⟨v5,rfl,i7,l4,m3⟩
           have F:GrowsP W c.heap.size j E v5 _:=⟨i7,l4,m3⟩;have key:=gW.next F;rw[<-gQf,<-r.out]at key;rcases O0 i7 with⟨rfl,_⟩|⟨g',o0,rfl⟩
           ·exact⟨_,_,_,rfl,key⟩
           ·exact⟨_,_,_,rfl,key⟩
         clear e0 C k0 k1 k2;generalize wr.drewN nq=wz at *;refine(HC.out _ (Below.refl _ _)).mono ?_;rintro e E ⟨z,A,B,rfl,F⟩;go_wp2_with fail;exact⟨⟨i+1,_,by go_num,P.next F,e8.out⟩,by simp[intOf];omega⟩
       ·have h1:((a[i].1:Int)==1)=false:=by simp;omega
        have r:Hid (V9 S a[i]=[]):=by
         show _=_;unfold V9;rw[if_neg (fun h=>u h.1)]
        clear u;go_wp2_with fail;go_quiet (fail)
        go_wp2_with fail;have g6:=P.next (gk.below (J6 wr nq wr.heap.size));refine⟨⟨i+1,_,by go_num,?_,e8.out⟩,by simp[intOf];omega⟩;rw[r.out,List.append_nil];exact g6
  ·go_wp2_with fail
   go_ret;have:i=a.length:=by have:=X.le;omega
   subst this;exact⟨true,rfl,by rw[<-h4];simp[X.done],d7.grown gr.grown (by have:=d7.size;omega) k4⟩
end Go.Proofs.YtfklinjaajafgaaGreatDoor
