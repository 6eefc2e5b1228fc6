import Derived.Test.YtfklinjaajafgaaGreatDoorK24
set_option maxRecDepth 100000
set_option maxHeartbeats 4000000
namespace Go.Proofs.YtfklinjaajafgaaGreatDoor
open Ls hiding none
open Go.RowKit
variable {a n tb:Nat}{ends:List Bool}{p:Pat}{sts:List Pat}{tt:List (List (List Nat))}{w:World}
theorem vQk:(Tryz.prog.info? 4).map (fun i=>(i.zero,i.size,i.bytes))=some (some (.bool false),1,1):=by kernel_rfl
theorem vQl:(Tryz.prog.info? 3).map (fun i=>(i.zero,i.size,i.bytes))=some (some (Iv 0),1,8):=by kernel_rfl
theorem vQm:(Tryz.prog.info? 75).map (fun i=>(i.zero,i.size,i.bytes))=some (some (.slice none 0 0),1,24):=by kernel_rfl
theorem vQn:(Tryz.prog.info? 76).map (fun i=>(i.zero,i.size,i.bytes))=some (some (.slice none 0 0),1,24):=by kernel_rfl
def pQu (p:Pat)(L:Lu)(R:List Pat)(w:World):Ending->World->Prop:=fun e w'=>
 ∃tb t sts,e=.returned (.pointer (some ⟨tb,0,none⟩))/\TV w' (fun k=>w.heap.size<=k/\k<w'.heap.size) tb t/\TabOf p L t sts/\sts.length<=R.length/\(∀x,x∈sts->x∈R)/\Bw w w'
theorem dXw {d:World}{g f:Nat}{G:Nat->Prop}(l:Old w G){y:Value}(m:Bw w d)(B:w.heap.size<=tb)(s:w.heap.size<=g)(t:w.heap.size<=f)(K:tb≠g)(L:tb≠f)(M:g≠f)
  (A:d.heap[tb]?=some (.cells #[.slice none 0 0,.slice none 0 0] 73 (0,0))) (hs:d.heap[g]?=some (.cells #[Iv p.kind,Sv p.signs,y] 27 (0,0))) (x:d.heap[f]?=some (.cells #[I5 (Ls.key p)] 9 (0,0))) (J:PV w G p y) :
  TS w d tb (Sl g 1 1) (Sl f 1 1) (.slice none 0 0) (.slice none 0 0) (.slice none 0 0) (.slice none 0 0) [] [(p,y)] [Ls.key p] [] []:=by
 have r:∀{b:Nat} {o:Obj},d.heap[b]?=some o->b<d.heap.size:=fun h=>(Array.getElem?_eq_some_iff.1 h).1;refine⟨m,⟨?_,?_⟩,⟨rfl,.inr ⟨g,1,_,rfl,s,hs,Nat.le_refl _,by unfold maxLen;omega,rfl,rfl⟩⟩,?_,⟨⟨rfl,.inr ⟨f,1,_,rfl,t,x,Nat.le_refl _,by unfold maxLen;omega,rfl,rfl⟩⟩,by simp⟩,World.ownsRow_nil _ _ _ _,⟨[],World.ownsRow_nil _ _ _ _,rfl,by simp⟩,A⟩
 ·intro u c k a
  simp only[List.nil_append,List.mem_cons,List.not_mem_nil,or_false]at c;rcases c with rfl|rfl|rfl|rfl|rfl
  ·injection a with e;subst e;exact⟨s,r hs⟩
  ·injection a with e;subst e;exact⟨t,r x⟩
  ·cases a
  ·cases a
  ·injection a with e;subst e;exact⟨B,r A⟩
 ·intro i j u v E c n k H I
  have N:i<5:=(List.getElem?_eq_some_iff.1 c).1;have O:j<5:=(List.getElem?_eq_some_iff.1 n).1;have C:i=0\/i=1\/i=2\/i=3\/i=4:=by omega
  have F:j=0\/j=1\/j=2\/j=3\/j=4:=by omega
  rcases C with rfl|rfl|rfl|rfl|rfl<;>rcases F with rfl|rfl|rfl|rfl|rfl<;>simp at c n E<;>subst c n<;>simp[Value.ownBlock]at H I<;>omega
 ·intro q z
  simp only[List.mem_singleton]at z;subst z;refine PV.mono2 (w:=w) (G:=G) (fun k a=>⟨⟨Ll (l k a) m.size,fun u c e=>?_⟩,m.block k (l k a)⟩) J;have P:=l k a;simp only[List.nil_append,List.mem_cons,List.not_mem_nil,or_false]at c;rcases c with rfl|rfl|rfl|rfl|rfl<;>simp[Value.ownBlock]at e<;>omega
theorem TS.cell0 {k:World}{i g f j c b:Value}{d:List Value}{e:List (Pat × Value)}{ks:List (Lu)}(h:TS k w tb i g f j c b d e ks ends tt) :
  w.cell? ⟨tb,0,none⟩=some c/\w.cell? ⟨tb,1,none⟩=some b/\w.frozen? ⟨tb,0,none⟩=false/\w.frozen? ⟨tb,1,none⟩=false/\tb<w.heap.size:=by
 have a:=h.tab;refine⟨?_,?_,?_,?_,(Array.getElem?_eq_some_iff.1 a).1⟩
 ·simp only[World.cell?,a];rfl
 ·simp only[World.cell?,a];rfl
 ·simp only[World.frozen?,a];rfl
 ·simp only[World.frozen?,a];rfl
theorem iQn {L:Lu}{R:List Pat}{m:Nat}(h:TInv p L R sts n ends m tt):sts.length<=R.length:=iXq h.kd h.room
theorem cQr (w:World)(v:Value)(t:TypeId):∀j u,[v][j]?=some u->(w.alloc (.cells #[v] t)).cell? ((⟨w.heap.size,0,none⟩:Addr).add j)=some u:=by
 intro j u a;match j,a with
 | 0,a=>
  simp at a;subst a;have:(w.alloc (.cells #[v] t)).heap[w.heap.size]?=some (.cells #[v] t):=heap_alloc_new w _;show World.cell? _ ⟨w.heap.size,0,none⟩=_;simp only[World.cell?,this];rfl
 | j+1,a=>simp at a
theorem kQ8 {b:List Nat}{m:List Pat}{j:Nat}(h:b.map (fun j=>sts[j]?)=(m.take j).map some)(c:j<m.length)(ha:sts[a]?=some m[j]):(b++[a]).map (fun j=>sts[j]?)=(m.take (j+1)).map some:=by
 rw[List.map_append,h,List.take_succ_eq_append_getElem c,List.map_append];simp[ha]
theorem uQw {b:List (Pat × Value)}(h:a<b.length):(b.map (·.1))[a]?=some b[a].1:=by
 rw[List.getElem?_map,List.getElem?_eq_getElem h];rfl
theorem lQ4 {j l:Nat}{e m:TypeId}{i:Nat}{v:Value}{c d:List Value}(h:w.ownsRow j e i v n c)(k:w.ownsRow l m i v n d):c=d:=by
 rcases h.2 with⟨b,q⟩|⟨g,u,y,b,_,r,_,_,_,s⟩
 ·subst q
  have o:=List.eq_nil_of_length_eq_zero (by simpa using h.1);have p:=List.eq_nil_of_length_eq_zero (by simpa using k.1);rw[o,p]
 ·rcases k.2 with⟨a,_⟩|⟨A,x,z,a,_,f,_,_,_,t⟩
  ·rw[b]at a;cases a
  ·rw[b]at a
   cases a;rw[r]at f;cases f;rw[<-s,<-t]
theorem fQu (p:Pat)(R:List Pat)(M:Room R)(h4:p∈R)(L:Lu)(hL:L.length<=1000)(d5:Value)(w:World)(b2:Nat->Prop)(hG:Old w b2)(hp:PV w b2 p d5) :
  Calls Tryz.prog 41 #[B4 p d5,I5 L] w (pQu p L R w):=by
 have Hp:Hid _:=hp;obtain⟨y1,y2,y3,rfl⟩:=PV.slice _ _ hp;have i8:=M.ok p h4;go_enter Tryz.func41,Tryz.ntmps41;go_wp2_with fail;refine(cQy p i8.1 i8.2.1 _ _ b2 (Old.alloc (Old.alloc (Old.alloc hG _) _) _) (Hp.out.below (Q0 _ _ _ _) hG fun _ e3=>e3)).mono ?_;rintro e w1 ⟨rfl,e4⟩;have i9:=e4.size;rw[fQp]at i9;go_wp2;have i7:TS w (w1.alloc (.cells #[Sv (Ls.key p)] 9)) (w.heap.size+1) (.slice (some ⟨w.heap.size+1+1,0,none⟩) 1 1) (Sl w1.heap.size 1 1) (.slice none 0 0) (.slice none 0 0) (.slice none 0 0) (.slice none 0 0) [] [(p,.slice y1 y2 y3)] [Ls.key p] [] []:=by
  have y:=Bj e4 (A5 w1 (.cells #[Sv (Ls.key p)] 9));refine dXw hG (Bj (Q0 _ _ _ _) y) (by omega) (by omega) (by omega) (by omega) (by omega) (by omega) ?_ ?_ (heap_alloc_new _ _) Hp.out
  ·rw[y.block _ (by rw[fQp];omega),Below.heap_alloc _ _ _ (by simp)]
   have:=heap_alloc_new (w.alloc (.cells #[Iv p.kind,Sv p.signs,.slice y1 y2 y3] 27)) (.cells #[.slice none 0 0,.slice none 0 0] 73);rw[World.size_alloc]at this;exact this
  ·rw[y.block _ (by rw[fQp];omega)]
   have:=heap_alloc_new ((w.alloc (.cells #[Iv p.kind,Sv p.signs,.slice y1 y2 y3] 27)).alloc (.cells #[.slice none 0 0,.slice none 0 0] 73)) (.cells #[Iv p.kind,Sv p.signs,.slice y1 y2 y3] 27);rw[World.size_alloc,World.size_alloc]at this;exact this
 have i6:TInv p L R [p] 0 [] 0 []:=⟨rfl,by simpa using h4,by simp[KD],by simp,by simp,rfl,by simp⟩;go_loopw [6,7,8] (fun sv kv z wr=>∃(i:Nat) (h:List (Pat × Value)) (vE S:Value) (u:List Bool) (n:List (List (List Nat))),i<=h.length/\z=Iv i/\TS w wr (w.heap.size+1) sv kv vE S S vE [] h (h.map fun q=>Ls.key q.1) u n/\TInv p L R (h.map (·.1)) i u i n) (fun _ _ z _=>R.length-(intOf z).toNat)
 case atStart=>exact⟨0,[(p,.slice y1 y2 y3)],_,_,[],[],by simp,rfl,i7,i6⟩
 case round=>
  obtain⟨i,h,vE,S,u,n,hi,rfl,Q,Y⟩:=hrel;have V:=iQn Y;have r0:=M.small;rw[List.length_map]at V;obtain⟨sa,sc,c8,f3⟩:∃J o,u6=.slice J h.length o/\(0<h.length->∃g,J=some ⟨g,0,none⟩):=by
   rcases O0 Q.ownS with⟨e,A⟩|⟨g,o,e⟩
   ·exact⟨_,_,by rw[e,A],by omega⟩
   ·exact⟨_,_,e,fun _=>⟨g,rfl⟩⟩
  by_cases c5:i<h.length
  ·obtain⟨g,rfl⟩:=f3 (by omega)
   subst c8;obtain⟨U,c1,c2⟩:=Y4 i Q.ownS rfl c5;have h6:=List.getElem_mem c5;have b8:=Y.room _ (List.mem_map.2 ⟨h[i],h6,rfl⟩);have HE:Hid (Ca 74 #[.agg #[Iv h[i].1.kind,.string ⟨h[i].1.signs.toArray⟩,h[i].2]] wr (Rt (.bool (Ls.empty h[i].1)) wr)):=
    eQm h[i].1 (M.ok _ b8).1 h[i].2 wr _ (fun k hk=>hk.1) (Q.each _ h6)
   go_wp2_with fail;refine HE.out.mono ?_;rintro e w2 ⟨rfl,y⟩;have f6:=Q.below y;have q1:u.length<=i:=by have:=congrArg List.length Y.ends;simp at this;omega
   obtain⟨ea,ec,rfl⟩:∃J o,vE=.slice J u.length o:=by
    rcases O0 Q.ownE with⟨e,A⟩|⟨g,o,e⟩
    ·exact⟨_,_,by rw[e,A]⟩
    ·exact⟨_,_,e⟩
   have d4:=f6.below (A5 w2 (.cells #[.bool (Ls.empty h[i].1)] 4));obtain⟨t0,t1,_,_,r1⟩:=f6.cell0;obtain⟨j,hj,j0,j1,j2⟩:=info_parts vQk;have s:=cQr w2 (.bool (Ls.empty h[i].1)) 4;clear U c1 c2 HE;go_wp2_with (at_builtin;go_must (refine P8 _ rfl _ _ 71 rfl w.heap.size 4 j _ 1 1 Tryz.underlying71 hj j0 j1 j2 rfl (by omega) (.slice ea u.length ec) u.length (u.map Value.bool) rfl d4.ownE ⟨w2.heap.size,0,none⟩ 1 1 [.bool (Ls.empty h[i].1)] rfl rfl s (by simp[Value.oneCell']) ?l2 ?l3 ?l4 (by omega) ?_))
   case l2=>unfold maxLen;omega
   case l3=>omega
   case l4=>have:=d4.size;omega
   intro p6 w3 e8 g6 i0;have f7:=d4.endd ⟨e8,g6,by simpa using i0⟩;obtain⟨s0,s1,f0,f1,i5⟩:=f7.cell0;obtain⟨x1,x2,x3,rfl⟩:∃a b c,p6=.slice a b c:=by
    rcases O0 e8 with⟨e,A⟩|⟨g,o,e⟩
    ·exact⟨_,_,_,e⟩
    ·exact⟨_,_,_,e⟩
   have k4:=f7.store 1 (.slice x1 x2 x3) S (.slice x1 x2 x3) rfl;have j7:=Y.endd (by simpa using c5);rw[List.getElem_map]at j7;clear Q f6 d4 f7 s e8 g6 i0 t0 t1 Y y;go_wp2_with fail;have p3:=TK.start k4;have k9:Hid (h[i]?=some h[i]):=List.getElem?_eq_getElem c5;clear k4 s0 s1 f0 f1 i5;generalize w3.setCell ⟨w.heap.size+1,1,none⟩ (.slice x1 x2 x3)=w4 at *;generalize u++[Ls.empty h[i].1]=F at *;generalize q5:h[i]=q at *;go_loopw [6,7,10,11] (fun sv kv ov z wx=>∃(k:Nat) (l:List (Pat × Value)) (m:List (List Nat)),k<=L.length/\z=Iv k/\TK w wx (w.heap.size+1) sv kv (.slice x1 x2 x3) S ov l F n m/\TInv p L R (l.map (·.1)) (i+1) F i n/\l[i]?=some q/\m.length=k/\RowOk L (l.map (·.1)) m q.1) (fun _ _ _ z _=>L.length-(intOf z).toNat)
   case atStart=>exact⟨0,h,[],Nat.zero_le _,rfl,p3,j7,k9.out,rfl,fun k c hk=>by simp at hk⟩
   case round=>
    obtain⟨k,l,m,hk,rfl,tk,O,W,c4,c7⟩:=hrel;have V:=iQn O;rw[List.length_map]at V;have c3:i<l.length:=(List.getElem?_eq_some_iff.1 W).1;have c6:l[i]=q:=by rw[List.getElem?_eq_getElem c3]at W;exact Option.some.inj W
    obtain⟨sa,p0,c8,f3⟩:∃J o,u6=.slice J l.length o/\(0<l.length->∃g,J=some ⟨g,0,none⟩):=by
     rcases O0 tk.ts.ownS with⟨e,A⟩|⟨g,o,e⟩
     ·exact⟨_,_,by rw[e,A],by omega⟩
     ·exact⟨_,_,e,fun _=>⟨g,rfl⟩⟩
    obtain⟨r,rfl⟩:=f3 (by omega);subst c8
    by_cases m8:k<L.length
    ·obtain⟨U,c1,c2⟩:=Y4 i tk.ts.ownS rfl c3
     rw[c6]at U c1 c2;have h0:q∈l:=by rw[<-c6];exact List.getElem_mem c3
     have b8:q.1∈R:=O.room _ (List.mem_map.2 ⟨q,h0,rfl⟩);have a9:=M.ok _ b8;have e6:r<wr.heap.size:=World.block_lt_of_cell? _ _ U;have HC:Hid (∀b7,Bw wr b7->Ca 75 #[.agg #[Iv q.1.kind,Sv q.1.signs,q.2],.int .u8 L[k].toNat] b7 fun e T=>∃m1 m2 m3 d,e=.returned (.slice m1 m2 m3)/\d.map (·.1)=Ls.behind q.1 L[k]/\MV T (P9 T (aQj [u10] (Sl r l.length p0) u7 (.slice x1 x2 x3) S (w.heap.size+1))) (.slice m1 m2 m3) d/\Bw wr T):=fun b7 hW=>by
      have hd:=(tk.ts.below hW).dis;refine(behind_any q.1 a9.1 a9.2.1 a9.2.2.1 a9.2.2.2 L[k] q.2 b7 _ (fun j hj=>hj.1) ((tk.ts.below hW).each q h0)).mono ?_;intro e T n9;obtain⟨r7,d,he,hq,a3,v⟩:=rQq hd n9;obtain⟨J,o,e2,_⟩:=a3.shape;subst e2;exact⟨_,_,_,d,he,hq,a3,Bj hW v⟩
     have a7:Hid (m.length=k):=c4;have b3:Hid (l[i]?=some q):=W;have hs:wr.cell? ⟨r,i*3,none⟩=some (Iv q.1.kind)/\wr.cell? ⟨r,i*3+1,none⟩=some (Sv q.1.signs)/\wr.cell? ⟨r,i*3+2,none⟩=some q.2:=⟨U,c1,c2⟩;clear c4 W c6;go_wp2_with fail;go_region_held (fun w'=>w'.cell? ⟨r,i*3,none⟩=some (Iv q.1.kind)/\w'.cell? ⟨r,i*3+1,none⟩=some (Sv q.1.signs)/\w'.cell? ⟨r,i*3+2,none⟩=some q.2) (first|assumption|go_keep) ((go_at_call 75;refine(HC.out _ ?_).mono ?_;exact Br.drew;rintro e T ⟨m1,m2,m3,d,rfl,h7,a3,c0⟩;have o4:T.cell? ⟨r,i*3,none⟩=some (Iv q.1.kind)/\T.cell? ⟨r,i*3+1,none⟩=some (Sv q.1.signs)/\T.cell? ⟨r,i*3+2,none⟩=some q.2:=⟨(c0.cell (p:=⟨r,_,none⟩) e6).trans U,(c0.cell (p:=⟨r,_,none⟩) e6).trans c1,(c0.cell (p:=⟨r,_,none⟩) e6).trans c2⟩))
     have k2:=(tk.below c0).open' a3;have d7:Hid (d.map (·.1)=Ls.behind q.1 L[k]):=h7;have HM:Hid (∀x,x∈d.map (·.1)->x∈R):=fun x C=>by rw[d7.out]at C;exact M.closed _ b8 _ _ C
     have q2:d.length<=1000000000:=by have:=gXd q.1 a9.1 L[k];rw[<-d7.out]at this;simp at this;omega
     obtain⟨ma,mc,n0,m9⟩:=a3.shape;injection n0 with n4 n5 n6;subst n4 n5 n6;clear hs o4 U c1 c2 HC h7 a3;have b5:Hid (RowOk L (l.map (·.1)) m q.1):=c7;clear c7 V;go_wp2_with fail;go_loopw [6,7,13,14] (fun sv kv lv z wy=>∃(j:Nat) (f:List (Pat × Value)) (t:List Nat),j<=d.length/\z=Iv j/\TJ w wy (w.heap.size+1) sv kv (.slice x1 x2 x3) S u10 lv (.slice m1 d.length m3) f (f.map fun q=>Ls.key q.1) F n m t d/\TInv p L R (f.map (·.1)) (i+1) F i n/\f[i]?=some q/\RowOk L (f.map (·.1)) m q.1/\t.map (fun j=>(f.map (·.1))[j]?)=((d.map (·.1)).take j).map some) (fun _ _ _ z _=>d.length-(intOf z).toNat)
     case atStart=>exact⟨0,l,[],Nat.zero_le _,rfl,k2,O,b3.out,b5.out,by simp⟩
     case round=>
      obtain⟨j,f,t,hj,rfl,Z,f4,h8,i1,e7⟩:=hrel;have V:=iQn f4;rw[List.length_map]at V;have q4:t.length<=j:=by have:=congrArg List.length e7;simp at this;omega
      have b4:Hid (f[i]?=some q):=h8;have d9:Hid (RowOk L (f.map (·.1)) m q.1):=i1;have d6:Hid (t.map (fun j=>(f.map (·.1))[j]?)=((d.map (·.1)).take j).map some):=e7;have b6:Hid (TInv p L R (f.map (·.1)) (i+1) F i n):=f4;clear h8 i1 e7 f4 tk k2 O b3 b5
      by_cases N:j<d.length
      ·obtain⟨gm,rfl⟩:=m9 (by omega)
       obtain⟨d0,d1,d2⟩:=Z.mv.cells j N;have g4:d[j].1∈R:=HM.out _ (List.mem_map.2 ⟨d[j],List.getElem_mem N,rfl⟩);have e9:=M.ok _ g4;have HK:Hid (Ca 73 #[.agg #[Iv d[j].1.kind,.string ⟨d[j].1.signs.toArray⟩,d[j].2]] wr (Rt (Sv (Ls.key d[j].1)) wr)):=
        cQy d[j].1 e9.1 e9.2.1 d[j].2 wr _ (fun k hk=>hk.1) (Z.mv.2 _ (List.getElem_mem N))
       go_wp2_with fail;refine HK.out.mono ?_;rintro e I ⟨rfl,l6⟩;have P:=Z.below l6;clear HK d0 d1 d2 Z;obtain⟨ka,kc,g9,g8⟩:=P.ts.keys.shape;rw[List.length_map]at g9;have g1:Hid (0<(f.map fun q=>Ls.key q.1).length->∃g,ka=some ⟨g,0,none⟩/\g<I.heap.size/\∀i (e3:i<(f.map fun q=>Ls.key q.1).length),Ce I g i (I5 (f.map fun q=>Ls.key q.1)[i])):=g8;clear g8;subst g9;obtain⟨ji,a1,a4,a5,a6⟩:=info_parts vQl;go_wp2_with fail;go_loop [16] (fun av=>∃a:Nat,a<=f.length/\av=Iv a/\∀b,b<a->∀x,f[b]?=some x->Ls.key x.1≠Ls.key d[j].1) (fun av=>f.length-(intOf av).toNat)
       case atStart=>exact⟨0,Nat.zero_le _,rfl,fun b v=>by omega⟩
       case round=>
        obtain⟨a,ha,rfl,h3⟩:=hrel;have g3:Hid (∀b,b<a->∀x,f[b]?=some x->Ls.key x.1≠Ls.key d[j].1):=h3;clear h3
        by_cases b9:a<f.length
        ·obtain⟨gk,rfl,q0,e5⟩:=g1.out (by simp;omega)
         have k0:=e5 a (by simpa using b9);rw[List.getElem_map]at k0;have p9:Hid (∀i (e3:i<(f.map fun q=>Ls.key q.1).length),Ce I gk i (I5 (f.map fun q=>Ls.key q.1)[i])):=e5;clear e5
         by_cases a2:Ls.key f[a].1=Ls.key d[j].1
         ·have m6:(Ls.key f[a].1==Ls.key d[j].1)=true:=by simp[a2]
          have q3:((a:Int)==(f.length:Int))=false:=by simp;omega
          have o5:wf f[a].1:=(M.ok _ (b6.out.room _ (List.mem_map.2 ⟨f[a],List.getElem_mem b9,rfl⟩))).1;have g2:=kQ8 d6.out (by simpa using N) (a:=a) (by rw[uQw b9,List.getElem_map,lX8 o5 e9.1 a2]);have HL:Hid _:=g2;have a0:=P.below (A5 I (.cells #[Iv a] 3));have s:=cQr I (Iv a) 3;clear a2 g2 g1;go_wp2_with (at_builtin;refine P8 _ rfl _ _ 75 rfl w.heap.size 3 ji _ 1 8 Tryz.underlying75 a1 a4 a5 a6 rfl (by omega) u13 t.length (aQy t) rfl a0.lw ⟨I.heap.size,0,none⟩ 1 1 [Iv a] rfl rfl s (by simp[Value.oneCell']) ?l2 ?l3 ?l4 (by omega) ?_)
          case l2=>unfold maxLen;omega
          case l3=>omega
          case l4=>have:=P.ts.size;simp;omega
          intro v8 E B G H;have b0:=a0.number ⟨B,G,by simpa using H⟩;go_wp2_with fail;exact⟨⟨j+1,f,t++[a],by omega,by go_num,b0,b6.out,b4.out,d9.out,HL.out⟩,by simp[intOf];omega⟩
         ·have m6:(Ls.key f[a].1==Ls.key d[j].1)=false:=by simp[a2]
          have k7:Hid (¬Ls.key f[a].1=Ls.key d[j].1):=a2;clear a2;go_wp2_with fail;refine⟨⟨a+1,by omega,by go_num,fun b v x C=>?_⟩,by simp[intOf];omega⟩;rcases Nat.lt_or_ge b a with K|K
          ·exact g3.out b K x C
          ·have:b=a:=by omega
           subst this;rw[List.getElem?_eq_getElem b9]at C;injection C with C;subst C;exact k7.out
        ·have l5:a=f.length:=by omega
         subst l5;obtain⟨d0,d1,d2⟩:=P.mv.cells j N;have f2:=P.mv.2 _ (List.getElem_mem N);obtain⟨n1,n2,n3,h1⟩:=PV.slice _ _ f2;obtain⟨pi,n8,o7,o8,o9⟩:=info_parts gQ7;have a0:=P.below (A5 I (.cells #[Iv d[j].1.kind,.string ⟨d[j].1.signs.toArray⟩,d[j].2] 27));have s:=gQp I d[j].1 d[j].2;have h5:=hQz f2;have p8:Hid (d[j].2=.slice n1 n2 n3):=h1;clear h1;go_wp2_with (at_builtin;refine P8 _ rfl _ _ 25 rfl w.heap.size 27 pi _ 3 48 Tryz.underlying25 n8 o7 o8 o9 rfl (by omega) u6 f.length (N9 f) rfl a0.ts.ownS ⟨I.heap.size,0,none⟩ 1 1 (C2 d[j].1 d[j].2) rfl rfl s h5 ?l2 ?l3 ?l4 (by omega) ?_)
         case l2=>unfold maxLen;omega
         case l3=>omega
         case l4=>have:=P.ts.size;simp;omega
         intro v8 E B G H;have b0:=a0.state (a0.mv.2 _ (List.getElem_mem N)) ⟨B,G,by simpa using H⟩;have f5:=b0.below (A5 E (.cells #[I5 (Ls.key d[j].1)] 9));have i3:=f5.ts.keys;have i4:SV (E.alloc (.cells #[I5 (Ls.key d[j].1)] 9)) E.heap.size (Sl E.heap.size 1 1) [Ls.key d[j].1]:=
          ⟨World.ownsRow_lit (e:=9) (size:=1) E #[I5 (Ls.key d[j].1)] 1 (Nat.le_refl _) (by unfold maxLen;omega) rfl,by simp⟩
         have r6:=b0.ts.size;clear d0 d1 d2 P a0 b0 h5 s B G H f2;go_wp2_with (at_builtin;refine aQ7 rfl _ _ rfl w.heap.size E.heap.size (.slice ka f.length kc) (Sl E.heap.size 1 1) (f.map fun q=>Ls.key q.1) [Ls.key d[j].1] rfl rfl i3 i4 (by simp;omega) (by simp;omega) ?_)
         intro r8 g0 i2 g5 h9;have c9:=f5.key i2 g5 (by simpa using h9);rw[show (f.map fun q=>Ls.key q.1)++[Ls.key d[j].1]=((f++[(d[j].1,d[j].2)]).map fun q=>Ls.key q.1) by simp]at c9;have k1:=c9.below (A5 g0 (.cells #[Iv f.length] 3));have s:=cQr g0 (Iv f.length) 3;have r5:=c9.ts.size;have HT:Hid (TInv p L R ((f++[(d[j].1,d[j].2)]).map (·.1)) (i+1) F i n):=by
          have ht:=b6.out;have:=ht.push (x:=d[j].1) (by have:=ht.le;omega) g4 (fun d5 hy=>by
           obtain⟨b,v⟩:=List.getElem?_of_mem hy;rw[List.getElem?_map]at v;cases y:f[b]? with
           | none=>rw[y]at v;cases v
           | some x=>
            rw[y]at v;injection v with v;subst v;exact g3.out b (List.getElem?_eq_some_iff.1 y).1 x y)
          show TInv p L R ((f++[(d[j].1,d[j].2)]).map (·.1)) (i+1) F i n;rw[List.map_append];exact this
         have HL:Hid ((t++[f.length]).map (fun b=>((f++[(d[j].1,d[j].2)]).map (·.1))[b]?)=((d.map (·.1)).take (j+1)).map some):=by
          refine kQ8 ?_ (by simpa using N) ?_
          ·rw[List.map_append];exact kXu _ d6.out
          ·rw[List.map_append,List.getElem?_append_right (by simp)];simp
         have k6:Hid (RowOk L ((f++[(d[j].1,d[j].2)]).map (·.1)) m q.1):=by
          show RowOk _ _ _ _;rw[List.map_append];exact d9.out.mono _
         have k5:Hid ((f++[(d[j].1,d[j].2)])[i]?=some q):=by
          show _=_;rw[List.getElem?_append_left (List.getElem?_eq_some_iff.1 b4.out).1];exact b4.out
         clear i3 i4 i2 g5 h9 f5 c9;go_wp2_with (at_builtin;refine P8 _ rfl _ _ 75 rfl w.heap.size 3 ji _ 1 8 Tryz.underlying75 a1 a4 a5 a6 rfl (by omega) u13 t.length (aQy t) rfl k1.lw ⟨g0.heap.size,0,none⟩ 1 1 [Iv f.length] rfl rfl s (by simp[Value.oneCell']) ?l2 ?l3 ?l4 (by omega) ?_)
         case l2=>unfold maxLen;omega
         case l3=>omega
         case l4=>omega
         intro r9 s3 n7 l7 o0;have p2:=k1.number ⟨n7,l7,by simpa using o0⟩;go_wp2_with fail;exact⟨⟨j+1,f++[(d[j].1,d[j].2)],t++[f.length],by omega,by go_num,p2,HT.out,k5.out,k6.out,HL.out⟩,by simp[intOf];omega⟩
      ·have m5:j=d.length:=by omega
       subst m5;obtain⟨d3,g7⟩:=Z.close;obtain⟨l1,l2,l3,rfl⟩:∃a b c,u13=.slice a b c:=by
        rcases O0 Z.lw with⟨e,A⟩|⟨g,o,e⟩
        ·exact⟨_,_,_,e⟩
        ·exact⟨_,_,_,e⟩
       have a8:=A5 wr (.cells #[.slice l1 l2 l3] 75);have k3:=d3.below a8;have m4:=g7.mono2 ((d3.ts.dis.below a8).2.fixB w.heap.size);obtain⟨xs,X,r2,_⟩:=k3.ow;obtain⟨ji,a1,a4,a5,a6⟩:=info_parts vQm;have s:=cQr wr (.slice l1 l2 l3) 75;have r3:xs.length<=1000:=by have:=a7.out;omega
       have d8:Hid (xs.length=m.length):=r2;have o6:=d3.ts.size;clear Z r2 d3 g7;go_wp2_with (at_builtin;refine P8 _ rfl _ _ 76 rfl w.heap.size 75 ji _ 1 24 Tryz.underlying76 a1 a4 a5 a6 rfl (by omega) u10 xs.length xs rfl X ⟨wr.heap.size,0,none⟩ 1 1 [.slice l1 l2 l3] rfl rfl s (by simp[Value.oneCell']) ?l2 ?l3 ?l4 (by omega) ?_)
       case l2=>unfold maxLen;omega
       case l3=>omega
       case l4=>omega
       intro v8 E B G H;have p4:=k3.more m4 (fun ys K h2=>by
        have hl:ys.length=xs.length:=h2.trans d8.out.symm;rw[hl]at K;have e:=lQ4 K X;subst e;exact⟨B,G,by simpa using H⟩)
       have k8:Hid (t.map (fun j=>(f.map (·.1))[j]?)=(Ls.behind q.1 L[k]).map some):=by
        have:=d6.out;rw[List.take_of_length_le (by simp),d7.out]at this;exact this
       go_wp2_with fail;refine⟨⟨k+1,f,m++[t],by omega,by go_num,p4,b6.out,b4.out,by rw[List.length_append,a7.out];rfl,d9.out.snoc (c:=L[k]) (by rw[a7.out,List.getElem?_eq_getElem m8]) k8.out⟩,by simp[intOf];omega⟩
    ·have m7:k=L.length:=by omega
     subst m7;obtain⟨b1,l9⟩:=tk.close;obtain⟨o1,o2,o3,rfl⟩:∃a b c,u10=.slice a b c:=by
      obtain⟨xs,X,_⟩:=tk.ow;rcases O0 X with⟨e,A⟩|⟨g,o,e⟩
      ·exact⟨_,_,_,e⟩
      ·exact⟨_,_,_,e⟩
     obtain⟨xs,X,r2,_⟩:=b1.rows;obtain⟨t1,t2,t3,rfl⟩:∃a b c,S=.slice a b c:=by
      rcases O0 X with⟨e,A⟩|⟨g,o,e⟩
      ·exact⟨_,_,_,e⟩
      ·exact⟨_,_,_,e⟩
     have a8:=A5 wr (.cells #[.slice o1 o2 o3] 76);have f8:=b1.below a8;have m0:=l9.mono ((b1.dis.below a8).2.fixB w.heap.size);obtain⟨ys,j3,j4,_⟩:=f8.rows;obtain⟨e0,e1,_,_,_⟩:=b1.cell0;obtain⟨ji,a1,a4,a5,a6⟩:=info_parts vQn;have s:=cQr wr (.slice o1 o2 o3) 76;have o6:=b1.size;have r4:ys.length<=500000000:=by have:=O.lenT;have:=O.le;simp at this;omega
     have d8:Hid (ys.length=n.length):=j4;have l0:Hid (TInv p L R (l.map (·.1)) (i+1) F i n):=O;have a7:Hid (m.length=L.length):=c4;have b5:Hid (RowOk L (l.map (·.1)) m q.1):=c7;have b3:Hid (l[i]?=some q):=W;clear tk X r2 j4 O c4 c7 W c6;go_wp2_with (at_builtin;refine P8 _ rfl _ _ 70 rfl w.heap.size 76 ji _ 1 24 Tryz.underlying70 a1 a4 a5 a6 rfl (by omega) (.slice t1 t2 t3) ys.length ys rfl j3 ⟨wr.heap.size,0,none⟩ 1 1 [.slice o1 o2 o3] rfl rfl s (by simp[Value.oneCell']) ?l2 ?l3 ?l4 (by omega) ?_)
     case l2=>unfold maxLen;omega
     case l3=>omega
     case l4=>simp;omega
     intro p7 E B G H;have f9:=f8.row m0 (fun zs K h2=>by
      have hl:zs.length=ys.length:=h2.trans d8.out.symm;rw[hl]at K;have e:=lQ4 K j3;subst e;exact⟨B,G,by simpa using H⟩)
     obtain⟨s0,s1,f0,f1,i5⟩:=f9.cell0;obtain⟨z1,z2,z3,rfl⟩:∃a b c,p7=.slice a b c:=by
      rcases O0 B with⟨e,A⟩|⟨g,o,e⟩
      ·exact⟨_,_,_,e⟩
      ·exact⟨_,_,_,e⟩
     have p5:=f9.store 0 (.slice z1 z2 z3) (.slice z1 z2 z3) (.slice x1 x2 x3) rfl;clear f8 f9 B G H s e0 e1;go_wp2_with fail;refine⟨⟨i+1,l,_,_,F,n++[m],c3,by go_num,p5,l0.out.row (by rw[List.getElem?_map,b3.out];rfl) a7.out b5.out⟩,by simp[intOf];omega⟩
  ·subst c8
   go_wp2_with fail;go_ret;have l8:i=h.length:=by omega
   subst l8;have p1:TInv p L R (h.map (·.1)) (h.map (·.1)).length u (h.map (·.1)).length n:=by rw[List.length_map];exact Y
   exact⟨w.heap.size+1,⟨n,u⟩,h.map (·.1),rfl,Q.done,p1.done (fun x C=>(M.ok x C).1),by rw[List.length_map];exact V,Y.room,Q.bel⟩
end Go.Proofs.YtfklinjaajafgaaGreatDoor
