import Derived.Test.YtfklinjaajafgaaGreatDoorK53
set_option maxRecDepth 100000
set_option maxHeartbeats 4000000
namespace Go.Proofs.YtfklinjaajafgaaGreatDoor
open Ls
open Go.RowKit
variable {base n:Nat}{v:Value}{w':World}(ms:List (Lu))(kg:Lu->Lu)(i:Nat)(ns:List (Lu))(g cr κ:Lu->Lu)(w:World)(pu:Lu->Lu->Lu)(sb p bf kb fk fc fu:Nat)(ck cc cu:Array Value)
theorem vQ2 (s:By)(hs:s.size<=70368744177664) :
    Calls Tryz.prog 174 #[.string s] w fun e w'=>e=.returned (A4 (C3 s.data.toList))/\Bw w w':=by
  go_enter Tryz.func174,Tryz.ntmps174;go_wp2;go_loopw [3] (fun t wr=>∃k:Nat,k<=s.size/\t=Iv k/\wr=w/\C3 s.data.toList=s.data.toList.take k++C3 (s.data.toList.drop k)) (fun t _=>s.size-(intOf t).toNat)
  case atStart=>exact⟨0,Nat.zero_le _,rfl,rfl,by simp⟩
  case round=>
    obtain⟨k,v,rfl,rfl,p⟩:=hrel;have a:Hid _:=p;have x:(0:Int)<=(k:Int):=by omega
    have y:(k:Int)<=(s.size:Int):=by omega
    have j:Hid (∀l:Lu,l=s.data.toList.take k->Ending.returned (.string (s.extract 0 k))=.returned (A4 l)):=fun l h=>by
      have o:=gQ1 s.data.toList k;rw[show (Ba s.data.toList)=s by apply ByteArray.ext;simp]at o;rw[h,o]
    clear p
    by_cases q:k<s.size
    · have r:(k:Int)<(s.size:Int):=by omega
      have n:s.data.toList.drop k=s[k]::s.data.toList.drop (k+1):=by
        rw[List.drop_eq_getElem_cons (by rw[Array.length_toList];exact q)];rfl
      have i:Hid (s.data.toList.take (k+1)=s.data.toList.take k++[s[k]]):=by
        show _=_;rw[List.take_succ_eq_append_getElem (by rw[Array.length_toList];exact q)];rfl
      have g:Hid (C3 (s.data.toList.drop k)=if low s[k]=true then s[k]::C3 (s.data.toList.drop (k+1)) else []):=by
        show _=_;rw[n];unfold C3;rw[List.takeWhile_cons]
      have b:=kQx s[k] wr
      by_cases d:97<=s[k].toNat/\s[k].toNat<=122
      · have c:Hid (C3 s.data.toList=s.data.toList.take (k+1)++C3 (s.data.toList.drop (k+1))):=by
          show _=_;rw[a.out,g.out,i.out,if_pos (by simp[low,d])];simp
        rw[decide_eq_true d]at b;go_wp2_with fail;refine b.mono ?_;rintro e u ⟨rfl,f⟩;have m:=f.symm;subst m;go_wp2;go_roundw
        case rel=>exact⟨k+1,by omega,by go_num,trivial,c.out⟩
        case measure=>simp[intOf];omega
      · have c:Hid (C3 s.data.toList=s.data.toList.take k):=by
          show _=_;rw[a.out,g.out,if_neg (by simp[low];omega)];simp
        rw[decide_eq_false d]at b;clear a g i d;go_wp2_with fail;refine b.mono ?_;clear b;rintro e u ⟨rfl,f⟩;have m:=f.symm;clear f;subst m;go_wp2_with fail;go_ret;exact⟨j.out _ c.out,Br⟩
    · have r:¬(k:Int)<(s.size:Int):=by omega
      have c:Hid (C3 s.data.toList=s.data.toList.take k):=by
        show _=_;rw[a.out,List.drop_of_length_le (by rw[Array.length_toList];show s.size<=k;omega)];simp[C3]
      clear a;go_wp2_with fail;go_ret;exact⟨j.out _ c.out,Br⟩
theorem vQ4 (G:Nat->Prop):KeyV w G (.func (.func 174) #[] #[]) C3:=⟨_,_,rfl,fun _ _=>by kernel_rfl,fun W _ x a=>vQ2 W ⟨x.toArray⟩ (by simpa [ByteArray.size] using a)⟩
def q7 (cur:Array Value):Nat->List Value->Array Value
  | _,[]=>cur
  | o,v::r=>q7 (cur.setIfInBounds o v) (o+1) r
theorem eQ3:(b:List Value)->(o:Nat)->(a:Array Value)->(q7 a o b).size=a.size
  | [],_,_=>rfl
  | v::r,o,a=>by rw[q7,eQ3 r];simp
theorem hQe:(b:List Value)->(o:Nat)->(a:Array Value)->o+b.length<=a.size->∀j,(q7 a o b)[j]?=if o<=j/\j<o+b.length then b[j-o]? else a[j]?
  | [],o,a,_,j=>by rw[q7,if_neg (by simp)]
  | v::r,o,a,h,j=>by
    simp only[List.length_cons]at h ⊢;rw[q7,hQe r (o+1) _ (by simp;omega) j]
    by_cases d:j=o
    · subst d
      rw[if_neg (by omega),if_pos (by omega),Nat.sub_self,Array.getElem?_setIfInBounds];simp;omega
    · by_cases c:o+1<=j/\j<o+1+r.length
      · rw[if_pos c,if_pos (by omega),show j-o=(j-(o+1))+1 by omega,List.getElem?_cons_succ]
      · rw[if_neg c,if_neg (by omega),Array.getElem?_setIfInBounds,if_neg (by omega)]
theorem hQf {g:Nat}{T:TypeId}:(b:List Value)->(o:Nat)->(w:World)->(a:Array Value)->w.heap[g]?=some (.cells a T (0,0))->(w.setCells g o b).heap[g]?=some (.cells (q7 a o b) T (0,0))
  | [],_,_,_,h=>h
  | v::r,o,w,a,h=>by
    rw[World.setCells,q7];refine hQf r (o+1) _ _ ?_;simp[World.setCell,Array.getElem?_modify,h]
theorem iQh {g:Nat}:(c:List Value)->(o:Nat)->(w:World)->Kept (fun k=>k=g) w (w.setCells g o c)
  | [],_,_=>Kept.refl _ _
  | v::r,o,w=>by
    rw[World.setCells];have a:Kept (fun k=>k=g) w (w.setCell ⟨g,o,none⟩ v):=⟨rfl,rfl,rfl,by simp[World.setCell],fun k _ b=>Below.heap_setCell _ _ _ _ b⟩;exact a.trans (iQh r (o+1) _)
def G7 (kg:Lu->Lu)(n:Lu):List Value:=[A4 (kg n),A4 n]
theorem gQq:(ns.flatMap (G7 kg)).length=ns.length*2:=by
  induction ns with
  | nil=>rfl
  | cons n ns a=>rw[List.flatMap_cons,List.length_append,a];simp[G7];omega
theorem jQo (b:Lu->Lu):(a:List (Lu))->(i:Nat)->(a.take i).flatMap (G7 b)=(a.flatMap (G7 b)).take (i*2)
  | [],i=>by simp
  | n::a,0=>by simp
  | n::a,i+1=>by
    rw[List.take_succ_cons,List.flatMap_cons,List.flatMap_cons,jQo b a i,show (i+1)*2=i*2+1+1 by omega];simp[G7]
theorem jQm (b:Lu->Lu):(a:List (Lu))->(i:Nat)->(a.drop i).flatMap (G7 b)=(a.flatMap (G7 b)).drop (i*2)
  | [],i=>by simp
  | n::a,0=>by simp
  | n::a,i+1=>by
    rw[List.drop_succ_cons,List.flatMap_cons,jQm b a i,show (i+1)*2=i*2+1+1 by omega];simp[G7]
theorem sQn:(ns.eraseIdx i).flatMap (G7 kg)=(ns.flatMap (G7 kg)).take (i*2)++(ns.flatMap (G7 kg)).drop ((i+1)*2):=by
  rw[List.eraseIdx_eq_take_drop_succ,List.flatMap_append,jQo,jQm]
theorem jQn (b:Lu->Lu):(a:List (Lu))->(i:Nat)->(c:i<a.length)->(a.flatMap (G7 b))[i*2]?=some (A4 (b a[i]))/\(a.flatMap (G7 b))[i*2+1]?=some (A4 a[i])
  | n::a,0,_=>by simp[G7]
  | n::a,i+1,c=>by
    have:=jQn b a i (by simpa using c);rw[List.flatMap_cons,show (i+1)*2=i*2+2 by omega];simpa [G7] using this
structure StockV (w:World)(base sb:Nat)(v:Value)(kg:Lu->Lu)(ns:List (Lu)):Prop where
  blk:Blk w sb #[v] 235
  own:w.ownsRow base 237 2 v ns.length (ns.flatMap (G7 kg))
  ap:v.ownBlock≠some sb
theorem kQr:(Tryz.prog.info? 237).map (fun i=>(i.zero,i.size,i.bytes))=some (some (.agg #[.string ⟨#[]⟩,.string ⟨#[]⟩]),2,32):=by kernel_rfl
theorem sQx (W:World)(k:TypeId)(g o c:Nat)(f:(W.cell? ⟨g,o,none⟩).isSome=true)(h:(W.cell? ⟨g,o+1,none⟩).isSome=true)(d:W.frozen? ⟨g,o,none⟩=false)(e:W.frozen? ⟨g,o+1,none⟩=false) :
    (Builtin.clear_ #[233] k #[.slice (some ⟨g,o,none⟩) 1 c]).run Tryz.prog W=.ok (.tuple #[]) (W.setCells g o [.string ⟨#[]⟩,.string ⟨#[]⟩]):=by
  have b:=run_storeCells_cells (P:=Tryz.prog) g o [.string ⟨#[]⟩,.string ⟨#[]⟩] 0 W (fun j a=>by
    match j,a with
    | 0,_=>exact f
    | 1,_=>exact h) (fun j a=>by
    match j,a with
    | 0,_=>exact d
    | 1,_=>exact e) (by simp[Value.oneCell'])
  simp only[Nat.add_zero]at b;have i:(Builtin.zeroCells (Value.agg #[.string ⟨#[]⟩,.string ⟨#[]⟩]).cells 1).toList=[.string ⟨#[]⟩,.string ⟨#[]⟩]:=by kernel_rfl
  simp[Builtin.clear_,run_underlying Tryz.underlying233,Tryz.zeroValue237,i,b]
theorem tQ7 (g n b j:Nat)(a:List Value)(O:i<j)(s:n-(i+(n-j))=1)(Q:j<=n)(S:n<=b)(y:b<=maxLen)(k:a.length=(n-j)*2)(x:∀u∈a,u.oneCell'=true)
    (z:∀t u,a[t]?=some u->w.cell? ⟨g,j*2+t,none⟩=some u) (f:∀t,t<n*2->(w.cell? ⟨g,t,none⟩).isSome=true/\w.frozen? ⟨g,t,none⟩=false) :
    Calls Tryz.prog 212 #[Sl g n b,Iv i,Iv j] w fun e w'=>e=.returned (Sl g (i+(n-j)) b)/\w'=(w.drew.setCells g (i*2) a).setCells g ((i+(n-j))*2) [.string ⟨#[]⟩,.string ⟨#[]⟩]:=by
  obtain⟨I,E,T,H,U⟩:=info_parts kQr;obtain⟨A,L,G⟩:∃A:Addr,(if b=j then some (⟨g,0,none⟩:Addr) else some ⟨g,j*2,none⟩)=some A/\Hid (∀t u,a[t]?=some u->w.drew.cell? (A.add t)=some u):=by
    by_cases h:b=j
    · refine⟨⟨g,0,none⟩,by simp[h],fun t u o=>?_⟩
      have B:a.length=0:=by rw[k];omega
      rw[List.length_eq_zero_iff.1 B]at o;simp at o
    · refine⟨⟨g,j*2,none⟩,by simp[h],fun t u o=>?_⟩
      rw[Addr.add_lit];exact z t u o
  have s1:Hid _:=k;have s2:Hid _:=x;have J:Hid (∀t,t<a.length->(w.drew.cell? ⟨g,0+i*2+t,none⟩).isSome=true/\w.drew.frozen? ⟨g,0+i*2+t,none⟩=false):=by
    intro t m;rw[k]at m;rw[Nat.zero_add];exact f (i*2+t) (by omega)
  obtain⟨c,p⟩:∃c,c=w.drew.setCells g (0+i*2) a:=⟨_,rfl⟩;have q:c=w.drew.setCells g (i*2) a:=by rw[p,Nat.zero_add]
  have l:∀t,t<n*2->(c.cell? ⟨g,t,none⟩).isSome=true/\c.frozen? ⟨g,t,none⟩=false:=fun t m=>by
    rw[q];refine⟨?_,by rw[World.frozen?_setCells];exact(f t m).2⟩
    by_cases h:i*2<=t/\t<i*2+a.length
    · obtain⟨d,rfl⟩:∃d,t=i*2+d:=⟨t-i*2,by omega⟩
      rw[World.cell?_setCells_in g a (i*2) w.drew (fun r F=>(f (i*2+r) (by rw[k]at F;omega)).1) d (by omega)];rfl
    · rw[World.cell?_setCells_out g a (i*2) w.drew ⟨g,t,none⟩ (fun _ _=>by show t<_\/_<=t;omega)]
      exact(f t m).1
  have M:∀v,(Builtin.clear_ #[233] v #[.slice (some ⟨g,(i+(n-j))*2,none⟩) (n-(i+(n-j))) (b-(i+(n-j)))]).run Tryz.prog c=.ok (.tuple #[]) (c.setCells g ((i+(n-j))*2) [.string ⟨#[]⟩,.string ⟨#[]⟩]):=fun v=>by
    rw[s];exact sQx c v g _ _ (l _ (by omega)).1 (l _ (by omega)).1 (l _ (by omega)).2 (l _ (by omega)).2
  have X:Hid _:=q;have C:Hid _:=p;have N:i<=b:=by omega
  have P:j<=b:=by omega
  have K:Hid _:=s;have R:=y;clear p q l f z k x y s;go_enter Tryz.func212,Tryz.ntmps212;go_wp2;go_region_law (refine step_append_room rfl (.tmp 22) (.tmp 25) 233 rfl 237 I 2 Tryz.underlying233 E H g 0 i b (by simp[Act.eval,Act.put]) A (n-j) (b-j) a (by simp[Act.eval,Act.put]) s1.out G.out s2.out (by omega) J.out ?_;rw[<-C.out])
  go_wp2
  go_ret;exact⟨rfl,by rw[X.out]⟩
theorem hQc {S:Nat->Prop}{w:World}{e:TypeId}{b:Nat}{c:List Value}(h:w.ownsRow base e b v n c)(j:Kept S w w')(i:∀k,v.ownBlock=some k->¬S k):w'.ownsRow base e b v n c:=by
  refine⟨h.1,?_⟩;rcases h.2 with m|⟨g,d,f,rfl,l,a,rest⟩
  · exact .inl m
  · exact .inr ⟨g,d,f,rfl,l,by rw[j.block g (Array.getElem?_eq_some_iff.1 a).1 (i g rfl)];exact a,rest⟩
theorem tQ8 {w:World}{b:Nat}{j:Option Addr}{a:List (Lu)}{d:Lu->Lu}{i:Nat}(G:i<a.length)(K:w.ownsRow base 237 2 (.slice j n b) a.length (a.flatMap (G7 d))) :
    Calls Tryz.prog 212 #[.slice j n b,Iv i,Iv ((i+1:Nat):Int)] w fun e w'=>∃m,e=.returned (.slice j m b)/\
      w'.ownsRow base 237 2 (.slice j m b) (a.eraseIdx i).length ((a.eraseIdx i).flatMap (G7 d))/\Kept (fun k=>(Value.slice j n b).ownBlock=some k) w w':=by
  rcases K.2 with⟨e,O⟩|⟨g,N,q,e,E,o,I,s,p,v⟩
  · omega
  injection e with z A B;subst z;subst A;subst B;have r:∀t,t<a.length*2->w.cell? ⟨g,t,none⟩=(a.flatMap (G7 d))[t]?:=fun t h=>by
    rw[<-v,List.getElem?_take,if_pos h,Array.getElem?_toList];simp[World.cell?,o]
  have F:∀t,w.frozen? ⟨g,t,none⟩=false:=fun t=>by simp[World.frozen?,o]
  have f:=gQq d a;have l:(a.eraseIdx i).length=i+(a.length-(i+1)):=by rw[List.length_eraseIdx,if_pos G];omega
  have J:∀u∈a.flatMap (G7 d),u.oneCell'=true:=fun u c=>by
    obtain⟨x,_,y⟩:=List.mem_flatMap.1 c;simp[G7]at y;rcases y with rfl|rfl<;>rfl
  refine(tQ7 i w g a.length b (i+1) ((a.flatMap (G7 d)).drop ((i+1)*2)) (by omega) (by omega) (by omega) I s (by rw[List.length_drop,f];omega) (fun u c=>J u (List.mem_of_mem_drop c))
    (fun t u c=>by rw[List.getElem?_drop]at c;rw[r _ (by have:=(List.getElem?_eq_some_iff.1 c).1;omega)];exact c) (fun t h=>⟨by rw[r t h,List.getElem?_eq_getElem (by omega)];rfl,F t⟩)).mono ?_
  rintro e w' ⟨rfl,rfl⟩;have L:(q7 q (i*2) ((a.flatMap (G7 d)).drop ((i+1)*2))).size=b*2:=by rw[eQ3,p]
  refine⟨_,rfl,⟨by rw[gQq],.inr ⟨g,b,_,by rw[l],E,hQf _ _ _ _ (hQf _ _ w.drew q o),by omega,s,by rw[eQ3,eQ3,p],?_⟩⟩,?_⟩
  · apply List.ext_getElem?
    intro t;rw[List.getElem?_take,l]
    by_cases h:t<(i+(a.length-(i+1)))*2
    · rw[if_pos h,Array.getElem?_toList,hQe _ _ _ (by rw[L];simp;omega),if_neg (by omega),hQe _ _ _ (by rw[p,List.length_drop,f];omega),sQn]
      by_cases C:t<i*2
      · rw[if_neg (by omega),List.getElem?_append_left (by rw[List.length_take,f];omega),List.getElem?_take,if_pos C,<-v,List.getElem?_take,if_pos (by omega),Array.getElem?_toList]
      · rw[if_pos (by rw[List.length_drop,f];omega),List.getElem?_append_right (by rw[List.length_take,f];omega),List.length_take,f,Nat.min_eq_left (by omega)]
    · rw[if_neg h,List.getElem?_eq_none (by rw[gQq,l];omega)]
  · have M:Kept (fun k=>k=g) w w.drew:=⟨rfl,rfl,rfl,Nat.le_refl _,fun _ _ _=>rfl⟩
    exact((M.trans (iQh _ _ _)).trans (iQh _ _ _)).mono (fun k H=>by rw[H];rfl)
def gQd (w:World)(base sb:Nat)(v:Value)(kg:Lu->Lu)(ns:List (Lu))(k:Lu):Ending->World->Prop:=fun e w'=>
  ∃v',v'.ownBlock=v.ownBlock/\Kept (fun k=>k=sb\/v.ownBlock=some k) w w'/\
    ((D2 (fun n=>kg n==k) ns=none/\e=.returned (.tuple #[A4 [],.bool false])/\StockV w' base sb v' kg ns)\/
     ∃n r,D2 (fun n=>kg n==k) ns=some (n,r)/\e=.returned (.tuple #[A4 n,.bool true])/\StockV w' base sb v' kg r)
theorem StockV.below {w:World}{d:Nat}{b:Lu->Lu}{c:List (Lu)}(h:StockV w base d v b c)(a:Bw w w'):StockV w' base d v b c:=⟨h.blk.below a h.blk.lt,hQc (S:=fun _=>False) h.own (Kept.of a) (fun _ _ h=>h),h.ap⟩
theorem cXz (o:Nat)(v:Value)(a5:ns.length<=1048576)(k:Lu)(h:StockV w o sb v kg ns) :
    Calls Tryz.prog 200 #[Pt sb,A4 k] w (gQd w o sb v kg ns k):=by
  have q:Hid _:=h;have J:=h.own;obtain⟨K,v2,b,rfl⟩:=dQj J;have a2:v2=ns.length:=by
    rcases J.2 with⟨e,h0⟩|⟨g,a0,a1,e,_⟩
    · injection e with F N O;omega
    · injection e with F N O
  subst a2;obtain⟨b0,b1⟩:=h.blk.one;have HX:Hid (∀W,Bw w W->(∀j (H:j<ns.length),∃g,K=some ⟨g,0,none⟩/\W.cell? ⟨g,j*2,none⟩=some (A4 (kg ns[j]))/\W.cell? ⟨g,j*2+1,none⟩=some (A4 ns[j]))/\Ce W sb 0 (.slice K ns.length b)/\W.frozen? ⟨sb,0,none⟩=false):=fun W hW=>by
    have u:=q.out.below hW;refine⟨fun j H=>?_,u.blk.one⟩;rcases u.own.2 with⟨e,h0⟩|⟨g,a0,a1,e,_⟩
    · omega
    · injection e with F N O
      subst F;have:=jQn kg ns j H;exact⟨g,rfl,by rw[u.own.cellAt _ (by omega),this.1],by rw[u.own.cellAt _ (by omega),this.2]⟩
  go_enter Tryz.func200,Tryz.ntmps200;go_wp2;go_loopw [13] (fun t wr=>∃j:Nat,j<=ns.length/\t=Iv j/\Bw w wr/\∀i,(c:i<ns.length)->i<j->(kg ns[i]==k)=false) (fun t _=>ns.length-(intOf t).toNat)
  case atStart=>exact⟨0,Nat.zero_le _,rfl,Br,fun i _ h=>by omega⟩
  case round=>
    obtain⟨j,H,rfl,f,T⟩:=hrel;have B:Hid _:=T
    by_cases I:j<ns.length
    · have a6:(0:Int)<=(j:Int):=by omega
      have a3:(j:Int)<(ns.length:Int):=by omega
      obtain⟨R,b0,b1⟩:=HX.out wr f;obtain⟨g,rfl,c0,c1⟩:=R j I;have A:Hid ((kg ns[j]==k)=true->D2 (fun n=>kg n==k) ns=some (ns[j],ns.eraseIdx j)):=fun a=>by
        rcases nQ2 (fun n=>kg n==k) ns with⟨_,d⟩|⟨i,c,G,d,h3⟩
        · rw[d _ (List.getElem_mem I)]at a;cases a
        · have:i=j:=by
            rcases Nat.lt_trichotomy i j with h|h|h
            · rw[B.out i c h]at d;cases d
            · exact h
            · rw[h3 j h]at a;cases a
          subst this;exact G
      have C:Hid ((kg ns[j]==k)=false->∀i,(c:i<ns.length)->i<j+1->(kg ns[i]==k)=false):=fun a i c a4=>by
        rcases Nat.lt_or_ge i j with h|h
        · exact B.out i c h
        · have:i=j:=by omega
          subst this;exact a
      generalize hx:ns[j]=x at *;generalize kg x=l at *;cases S:(l==k) with
      | false=>
        have Y:Hid _:=C.out S;have y:Bw w (wr.alloc (.cells #[A4 l,A4 x] 237)):=Bj f (A5 _ _);go_wp2;go_roundw
        case rel=>exact⟨j+1,by omega,by go_num,y,Y.out⟩
        case measure=>simp[intOf];omega
      | true=>
        have Z:Hid _:=A.out S;have y:Bw w (wr.alloc (.cells #[A4 l,A4 x] 237)):=Bj f (A5 _ _);have s:=q.out.below y;obtain⟨d0,d1⟩:=s.blk.one;have r:Hid (StockV (wr.alloc (.cells #[A4 l,A4 x] 237)) o sb (Sl g ns.length b) kg ns):=s;have Q:=tQ8 I s.own;have M:Hid (Blk (wr.alloc (.cells #[A4 l,A4 x] 237)) wr.heap.size #[A4 l,A4 x] 237):=Blk.new _ _ _;have X:Hid (g<wr.heap.size):=Ll (q.out.own.lt g rfl).2 f.size;have HZ:Hid (sb<wr.heap.size):=Ll q.out.blk.lt f.size;clear C A s;go_wp2_with fail;refine Q.mono ?_;clear Q;rintro e p ⟨m,rfl,U,z⟩;have L:Hid (Blk p sb #[Sl g ns.length b] 235):=r.out.blk.of (z.block sb r.out.blk.lt r.out.ap);have P:Blk p wr.heap.size #[A4 l,A4 x] 237:=M.out.of (z.block _ M.out.lt (fun e=>by have:=X.out;injection e with e;simp only at e;omega));obtain⟨f0,f1⟩:=L.out.one;obtain⟨q0,q1,q2,q3⟩:=P.two;have a7:(p.setCell ⟨sb,0,none⟩ (Sl g m b)).cell? ⟨wr.heap.size,1,none⟩=some (A4 x):=by
          rw[World.cell?_setCell_other _ _ _ _ (fun e=>by have:=HZ.out;injection e with e;omega)];exact q1
        have E:Hid (gQd w o sb (Sl g ns.length b) kg ns k (.returned (.tuple #[A4 x,.bool true])) (p.setCell ⟨sb,0,none⟩ (Sl g m b))):=by
          have V:Kept (fun k=>k=sb) p (p.setCell ⟨sb,0,none⟩ (Sl g m b)):=⟨rfl,rfl,rfl,by simp[World.setCell],fun k _ hn=>Below.heap_setCell _ _ _ _ hn⟩;refine⟨Sl g m b,rfl,((Kept.of y).trans (z.mono fun k a=>.inr a)).trans (V.mono fun k a=>.inl a),.inr ⟨x,_,Z.out,rfl,?_,?_,r.out.ap⟩⟩
          · have:=L.out
            unfold Blk at this ⊢;simp[World.setCell,Array.getElem?_modify,this]
          · exact hQc U V (fun k a e=>r.out.ap (by rw[<-e];exact a))
        clear U P z;go_wp2_with fail;go_ret2;exact E.out
    · have a3:¬(j:Int)<(ns.length:Int):=by omega
      have E:Hid (gQd w o sb (.slice K ns.length b) kg ns k (.returned (.tuple #[A4 [],.bool false])) wr):=by
        refine⟨_,rfl,Kept.of f,.inl ⟨?_,rfl,q.out.below f⟩⟩;rcases nQ2 (fun n=>kg n==k) ns with⟨G,_⟩|⟨i,c,_,d,_⟩
        · exact G
        · rw[B.out i c (by omega)]at d;cases d
      go_wp2_with fail;go_ret2;exact E.out
def fQ6 (w:World)(base sb:Nat)(v:Value)(kg:Lu->Lu)(ns:List (Lu))(k1 cr:Lu)(pu:Lu->Lu):Ending->World->Prop:=fun e w'=>
  ∃v',v'.ownBlock=v.ownBlock/\Kept (fun k=>k=sb\/v.ownBlock=some k) w w'/\
    ((D2 (fun n=>kg n==k1) ns=none/\e=.returned (A4 cr)/\StockV w' base sb v' kg ns)\/
     ∃n r,D2 (fun n=>kg n==k1) ns=some (n,r)/\e=.returned (A4 (pu n))/\StockV w' base sb v' kg r)
theorem yQq (z g q:Lu)(A:Lu->Lu)(m a:Nat)(v:Value)(d:Lu->Lu)(b:List (Lu))(a0:b.length<=1048576)(w:World)(p I K C t u:Nat)(B o s:Array Value)(h:StockV w m a v d b)
    (V:∀W:World,Kept (fun k=>k=a\/v.ownBlock=some k) w W->Ce W K 0 (.func (.func C) #[] B)/\Ce W I 0 (Pt p)/\Ce W p 5 (.func (.func t) #[] o)/\Ce W p 6 (.func (.func u) #[] s))
    (i:∀(x:Value) (W:World),(callFunc C (#[x]++B)).run Tryz.prog W=.ok (.enter C (#[x]++B)) W) (hc:∀(x:Value) (W:World),(callFunc t (#[x]++o)).run Tryz.prog W=.ok (.enter t (#[x]++o)) W) (hu:∀(x y:Value) (W:World),(callFunc u (#[x,y]++s)).run Tryz.prog W=.ok (.enter u (#[x,y]++s)) W)
    (M:Calls Tryz.prog C (#[A4 z]++B) w (Rt (A4 g) w))
    (N:∀n r,D2 (fun n=>d n==g) b=some (n,r)->∀W,Kept (fun k=>k=a\/v.ownBlock=some k) w W->Calls Tryz.prog u (#[A4 z,A4 n]++s) W (Rt (A4 (A n)) W))
    (L:D2 (fun n=>d n==g) b=none->∀W,Kept (fun k=>k=a\/v.ownBlock=some k) w W->Calls Tryz.prog t (#[A4 z]++o) W (Rt (A4 q) W)) :
    Calls Tryz.prog 199 #[A4 z,Pt a,Pt K,Pt I] w (fQ6 w m a v d b g q A):=by
  have H:Hid _:=V;have O:Hid _:=h;have HP:Hid _:=N;have Z:Hid _:=L;obtain⟨P,Q,R,S⟩:=H.out w (Kept.refl _ _);go_enter Tryz.func199,Tryz.ntmps199;go_wp2;refine M.mono ?_;rintro e w1 ⟨rfl,J⟩;have T:=cXz d b w1 a m v a0 g (O.out.below J);go_wp2_with fail;refine T.mono ?_;rintro e j ⟨Y,X,U,⟨l,rfl,F⟩|⟨n,r,l,rfl,F⟩⟩
  · have i:=(Kept.of J).trans U
    have E:=Z.out l j i;obtain⟨P,Q,R,S⟩:=H.out j i;have G:Hid (∀c,Bw j c->fQ6 w m a v d b g q A (.returned (A4 q)) c):=fun c f=>⟨Y,X,i.trans (Kept.of f),.inl ⟨l,rfl,F.below f⟩⟩;go_wp2;refine E.mono ?_;rintro e c ⟨rfl,f⟩;go_wp2;go_ret;exact G.out c f
  · have i:=(Kept.of J).trans U
    have E:=HP.out n r l j i;obtain⟨P,Q,R,S⟩:=H.out j i;have G:Hid (∀c,Bw j c->fQ6 w m a v d b g q A (.returned (A4 (A n))) c):=fun c f=>⟨Y,X,i.trans (Kept.of f),.inr ⟨n,r,l,rfl,F.below f⟩⟩;go_wp2;refine E.mono ?_;rintro e c ⟨rfl,f⟩;go_wp2;go_ret;exact G.out c f
theorem StockV.on {w:World}{a:Nat}{c:Lu->Lu}{d:List (Lu)}(h:StockV w base a v c d)(hs:a<n)(m:∀k,v.ownBlock=some k->k<n)(b:∀k,k<n->w'.heap[k]?=w.heap[k]?):StockV w' base a v c d:=by
  refine⟨h.blk.of (b a hs),⟨h.own.1,?_⟩,h.ap⟩;rcases h.own.2 with l|⟨g,e,f,rfl,i,j,rest⟩
  · exact .inl l
  · exact .inr ⟨g,e,f,rfl,i,by rw[b g (m g rfl)];exact j,rest⟩
theorem tQ9 (a8:ms.length<=1048576)(a9:ns.length<=1048576)(a7:∀x,x∈ms->x.length<=60)(κ g cr:Lu->Lu)(z:Lu->Lu->Lu)(a5:(K4 κ z cr g ms ns).flatten.length<=70368744177664)
    (w:World) (p B E q o s:Nat) (l i m:Array Value) (b2:∀W:World,Bw w W->Ce W E 0 (.func (.func q) #[] l)/\Ce W B 0 (Pt p)/\Ce W p 5 (.func (.func o) #[] i)/\Ce W p 6 (.func (.func s) #[] m)) (b:∀(x:Value) (W:World),(callFunc q (#[x]++l)).run Tryz.prog W=.ok (.enter q (#[x]++l)) W) (hc:∀(x:Value) (W:World),(callFunc o (#[x]++i)).run Tryz.prog W=.ok (.enter o (#[x]++i)) W) (hu:∀(x y:Value) (W:World),(callFunc s (#[x,y]++m)).run Tryz.prog W=.ok (.enter s (#[x,y]++m)) W)
    (X:∀W,Bw w W->∀x:Lu,x.length<=70368744177664->Calls Tryz.prog q (#[A4 x]++l) W (Rt (A4 (κ x)) W)) (Y:∀W,Bw w W->∀x y,x∈ms->y∈ns->Calls Tryz.prog s (#[A4 x,A4 y]++m) W (Rt (A4 (z x y)) W)) (V:∀W,Bw w W->∀x,x∈ms->Calls Tryz.prog o (#[A4 x]++i) W (Rt (A4 (cr x)) W))
    (W:World) (P:Bw w W) (A c:Nat) (v:Value) (t:StockV W A c v (fun n=>κ (g n)) ns) (b1:w.heap.size<=c) (a2:w.heap.size<=A) (J:Value) (F:Nat) (S:W.ownsRow F 9 1 J ms.length (ms.map A4)) (b4:c<F) (b3:∀k,v.ownBlock=some k->k<F) :
    Calls Tryz.prog 195 #[J,.func (.func 199) #[] #[Pt c,Pt E,Pt B]] W fun e w'=>e=.returned (A4 (K4 κ z cr g ms ns).flatten)/\Bw w w':=by
  have O:∀k,(k=c\/v.ownBlock=some k)->k<W.heap.size:=fun k b=>by
    rcases b with rfl|b
    · exact t.blk.lt
    · exact(t.own.lt k b).2
  have a1:∀k,(k=c\/v.ownBlock=some k)->w.heap.size<=k:=fun k b=>by
    rcases b with rfl|b
    · exact b1
    · exact Lq a2 (t.own.lt k b).1
  have K:∀a,Kept (fun k=>k=c\/v.ownBlock=some k) W a->Bw w a:=fun a h=>P.trans (h.below P.size a1);refine(lQw ms (K4 κ z cr g ms ns) a8 (iQd _ _) a5 199 #[Pt c,Pt E,Pt B] J W F S (fun k=>k=c\/v.ownBlock=some k) O (fun k b hs=>?_)
    (fun j a=>∃d,d.ownBlock=v.ownBlock/\StockV a A c d (fun n=>κ (g n)) (N4 κ g (ms.take j) ns)) ⟨v,rfl,t⟩ (fun j f W2 G hh=>by obtain⟨d,M,Z⟩:=G;exact⟨d,M,Z.on t.blk.lt (fun k b=>O k (.inr (by rw[<-M];exact b))) hh⟩) (fun _ _=>by kernel_rfl) (fun f j Q N G=>?_)).mono (fun e w' h=>⟨h.1,K w' h.2⟩)
  · have:=(S.lt k b).1
    rcases hs with rfl|hs
    · omega
    · have:=b3 k hs;omega
  · obtain⟨d,C,a0⟩:=G
    have H:ms[j]∈ms:=List.getElem_mem _;have a4:∀x,x∈N4 κ g (ms.take j) ns->x∈ns:=hQh _ _;have a6:(N4 κ g (ms.take j) ns).length<=1048576:=Lq (hQg _ _) a9;have L:∀a,Kept (fun k=>k=c\/d.ownBlock=some k) f a->Bw w a:=fun a h=>K a (N.trans (h.mono (fun k b=>by rw[C]at b;exact b)));refine(yQq ms[j] (κ ms[j]) (cr ms[j]) (z ms[j]) A c d (fun n=>κ (g n)) (N4 κ g (ms.take j) ns) a6 f p B E q o s l i m a0 (fun a h=>b2 a (L a h)) b hc hu
      (X f (K f N) ms[j] (by have:=a7 _ H;omega)) (fun n r u a h=>Y a (L a h) ms[j] n H (a4 n (fQv _ _ n r u).1)) (fun _ a h=>V a (L a h) ms[j] H)).mono ?_
    rintro e w' ⟨U,T,a3,b0⟩;have R:=a3.mono (fun k b=>by rw[C]at b;exact b);rw[iQc ms ns j Q,hQi ms ns j Q];rcases b0 with⟨u,rfl,I⟩|⟨n,r,u,rfl,I⟩
    · rw[u];exact⟨rfl,R,U,T.trans C,I⟩
    · rw[u];exact⟨rfl,R,U,T.trans C,I⟩
theorem aXp (vt so:Lu)(g2:ms.length<=1048576)(i0:ns.length<=1048576)(g1:∀x,x∈ms->x.length<=60)(f9:∀x,x∈ns->(g x).length<=70368744177664)(g0:(K4 κ pu cr g ms ns).flatten.length<=70368744177664)
     (i:Nat) (t1 t2 r1 r2:TypeId) (y1 y2 z1 z2:Value) (n1 n2 Y Z C:Nat) (A:Array Value)
    (hp:Blk w p (J2 t1 y1 n1 r1 z1 Y (.func (.func C) #[] A) (.func (.func fc) #[] cc) (.func (.func fu) #[] cu)) 98) (hf:Blk w bf #[Pt p] 78) (hr:Blk w i #[.iface t2 y2,Pt n2,.iface r2 z2,Pt Z] 94) (c2:Blk w kb #[.func (.func fk) #[] ck] 95)
    (X:∀(x:Value) (W:World),(callFunc C (#[x]++A)).run Tryz.prog W=.ok (.enter C (#[x]++A)) W) (o:∀(x:Value) (W:World),(callFunc fk (#[x]++ck)).run Tryz.prog W=.ok (.enter fk (#[x]++ck)) W) (hc:∀(x:Value) (W:World),(callFunc fc (#[x]++cc)).run Tryz.prog W=.ok (.enter fc (#[x]++cc)) W) (hu:∀(x b9:Value) (W:World),(callFunc fu (#[x,b9]++cu)).run Tryz.prog W=.ok (.enter fu (#[x,b9]++cu)) W)
    (e7:∀W,Bw w W->Calls Tryz.prog 196 #[C8 (.iface t1 y1) n1,C8 (.iface t2 y2) n2,A4 so] W fun e w'=>∃H I N,e=.returned (.slice H I N)/\w'.ownsRow W.heap.size 9 1 (.slice H I N) ns.length (ns.map A4)/\Bw W w')
    (e8:∀W,Bw w W->Calls Tryz.prog 196 #[C8 (.iface r1 z1) Y,C8 (.iface r2 z2) Z,A4 vt] W fun e w'=>∃H I N,e=.returned (.slice H I N)/\w'.ownsRow W.heap.size 9 1 (.slice H I N) ms.length (ms.map A4)/\Bw W w')
    (HG:∀W,Bw w W->∀x,x∈ns->Calls Tryz.prog C (#[A4 x]++A) W (Rt (A4 (g x)) W)) (HK:∀W,Bw w W->∀x:Lu,x.length<=70368744177664->Calls Tryz.prog fk (#[A4 x]++ck) W (Rt (A4 (κ x)) W)) (HU:∀W,Bw w W->∀x b9,x∈ms->b9∈ns->Calls Tryz.prog fu (#[A4 x,A4 b9]++cu) W (Rt (A4 (pu x b9)) W)) (HC:∀W,Bw w W->∀x,x∈ms->Calls Tryz.prog fc (#[A4 x]++cc) W (Rt (A4 (cr x)) W)) :
    Calls Tryz.prog 198 #[A4 vt,A4 so,Pt bf,Pt i,Pt kb] w fun e w'=>e=.returned (A4 (K4 κ pu cr g ms ns).flatten)/\Bw w w':=by
  have U:Hid (∀W:World,Below w.heap.size w W->(W.cell? ⟨p,0,none⟩=some (.iface t1 y1)/\W.cell? ⟨p,1,none⟩=some (.pointer (some ⟨n1,0,none⟩))/\W.cell? ⟨p,2,none⟩=some (.iface r1 z1)/\W.cell? ⟨p,3,none⟩=some (.pointer (some ⟨Y,0,none⟩))/\W.cell? ⟨p,4,none⟩=some (.func (.func C) #[] A))/\(W.cell? ⟨i,0,none⟩=some (.iface t2 y2)/\W.cell? ⟨i,1,none⟩=some (.pointer (some ⟨n2,0,none⟩))/\W.cell? ⟨i,2,none⟩=some (.iface r2 z2)/\W.cell? ⟨i,3,none⟩=some (.pointer (some ⟨Z,0,none⟩)))/\W.cell? ⟨bf,0,none⟩=some (.pointer (some ⟨p,0,none⟩))/\W.cell? ⟨kb,0,none⟩=some (.func (.func fk) #[] ck)):=fun W f=>by
    obtain⟨a0,a1,a2,a3,a4,_,_⟩:=(hp.below f hp.lt).seven;have hb:=hr.below f hr.lt;exact⟨⟨a0,a1,a2,a3,a4⟩,⟨hb.cell 0,hb.cell 1,hb.cell 2,hb.cell 3⟩,(hf.below f hf.lt).cell 0,(c2.below f c2.lt).cell 0⟩
  have HE:Hid _:=
    tQ9 ms ns g2 i0 g1 κ g cr pu g0 w p bf kb fk fc fu ck cc cu (fun W f=>by
      obtain⟨_,_,_,_,_,a5,a6⟩:=(hp.below f hp.lt).seven;exact⟨(c2.below f c2.lt).cell 0,(hf.below f hf.lt).cell 0,a5,a6⟩) o hc hu HK HU HC
  have H1:Hid _:=e7;have H2:Hid _:=e8;have H3:Hid _:=HG;have H4:Hid _:=HK;have H5:Hid _:=f9;have h9:∀(fn:Fn) (first q:Array Value) (w:World),(Instr.makeFunc fn first q).run Tryz.prog w=.ok (.func fn first q) w:=fun _ _ _ _=>rfl;have d1:Below w.heap.size w (w.alloc (.cells #[.slice none 0 0] 235)):=A5 w _;have c5:Hid (Blk (w.alloc (.cells #[.slice none 0 0] 235)) w.heap.size #[.slice none 0 0] 235):=Blk.new _ _ _;obtain⟨⟨a0,a1,a2,a3,a4⟩,⟨b0,b1,b2,b3⟩,e0,e1⟩:=U.out (w.alloc (.cells #[.slice none 0 0] 235)) d1;generalize (K4 κ pu cr g ms ns).flatten=i9 at *;go_enter Tryz.func198,Tryz.ntmps198;go_upto_region 2 with (fail);generalize (w.alloc (.cells #[.slice none 0 0] 235))=w0 at *;go_region_held (fun w'=>(w'.cell? ⟨p,0,none⟩=some (.iface t1 y1)/\w'.cell? ⟨p,1,none⟩=some (.pointer (some ⟨n1,0,none⟩))/\w'.cell? ⟨p,2,none⟩=some (.iface r1 z1)/\w'.cell? ⟨p,3,none⟩=some (.pointer (some ⟨Y,0,none⟩))/\w'.cell? ⟨p,4,none⟩=some (.func (.func C) #[] A))/\(w'.cell? ⟨i,0,none⟩=some (.iface t2 y2)/\w'.cell? ⟨i,1,none⟩=some (.pointer (some ⟨n2,0,none⟩))/\w'.cell? ⟨i,2,none⟩=some (.iface r2 z2)/\w'.cell? ⟨i,3,none⟩=some (.pointer (some ⟨Z,0,none⟩)))/\w'.cell? ⟨bf,0,none⟩=some (.pointer (some ⟨p,0,none⟩))/\w'.cell? ⟨kb,0,none⟩=some (.func (.func fk) #[] ck)) (first|with_reducible assumption|with_reducible exact U.out _ d1.drew|with_reducible exact U.out _ b5)
    (first
      | (go_at_call 196;refine(H1.out _ ?_).mono ?_;exact d1.drew;rintro e h ⟨H,I,N,rfl,c4,f3⟩;have f2:=Bj (Below.refl _ _).drew f3;have b5:=Bj d1.drew f3))
  all_goals
    have e5:Hid _:=c5.out.below f2 c5.out.lt;have i3:=c5.out.lt;have a9:=b5;have i8:=f2.size;have d6:Hid (∀W,Kept (fun k=>k=w.heap.size) h W->∀j (hj:j<ns.length),∃V,H=some ⟨V,0,none⟩/\W.cell? ⟨V,j,none⟩=some (A4 ns[j])):=fun W f j hj=>by
      rcases c4.2 with⟨e,h0⟩|⟨V,q,g8,e,_⟩
      · omega
      · injection e with e1 e2 e3
        subst e1;subst e2;subst e3;have c3:=c4.lt V rfl;have f8:=c3.1;refine⟨V,rfl,?_⟩;rw[World.cell?_of_block (w:=h) (a:=⟨V,j,none⟩) (f.block V c3.2 (fun e=>Nat.lt_irrefl _ (Nat.lt_of_lt_of_le i3 (e▸f8)))),c4.cellAt j (by omega),List.getElem?_map,List.getElem?_eq_getElem hj];rfl
    have i2:I=ns.length:=by
      rcases c4.2 with⟨e,h0⟩|⟨V,q,g8,e,_⟩
      · injection e with e1 e2 e3;omega
      · injection e with e1 e2 e3
    subst i2;have e9:Hid (StockV h h.heap.size w.heap.size (.slice none 0 0) (fun n=>κ (g n)) (ns.take 0)):=⟨e5.out,⟨rfl,.inl ⟨rfl,rfl⟩⟩,by simp[Value.ownBlock]⟩;have b8:Hid (w.heap.size<h.heap.size):=by show _<_;omega
    go_wp2;go_loopw [21] (fun t wr=>∃j:Nat,j<=ns.length/\t=.int .i64 j/\(∃b7,StockV wr h.heap.size w.heap.size b7 (fun n=>κ (g n)) (ns.take j))/\Kept (fun k=>k=w.heap.size) h wr) (fun t _=>ns.length-(intOf t).toNat)
    case atStart=>exact⟨0,Nat.zero_le _,rfl,⟨_,e9.out⟩,Kept.refl _ _⟩
    case round=>
      obtain⟨j,hj,rfl,⟨b7,d7⟩,d9⟩:=hrel;obtain⟨E,F,G,rfl⟩:=dQj d7.own;have M:=a9.trans (d9.below a9.size (fun k o=>by omega));have L:Hid _:=d7;have P:Hid _:=d9
      by_cases c3:j<ns.length
      · have i7:(0:Int)<=(j:Int):=by omega
        have h8:(j:Int)<(ns.length:Int):=by omega
        obtain⟨V,rfl,i6⟩:=d6.out wr P.out j c3;obtain⟨⟨a0,a1,a2,a3,a4⟩,⟨b0,b1,b2,b3⟩,e0,e1⟩:=U.out wr M;obtain⟨s0,s1⟩:=L.out.blk.one;have c0:Hid (∀W l:World,Below wr.heap.size wr W->Below h.heap.size W l->(l.cell? ⟨p,0,none⟩=some (.iface t1 y1)/\l.cell? ⟨p,1,none⟩=some (.pointer (some ⟨n1,0,none⟩))/\l.cell? ⟨p,2,none⟩=some (.iface r1 z1)/\l.cell? ⟨p,3,none⟩=some (.pointer (some ⟨Y,0,none⟩))/\l.cell? ⟨p,4,none⟩=some (.func (.func C) #[] A))/\(l.cell? ⟨i,0,none⟩=some (.iface t2 y2)/\l.cell? ⟨i,1,none⟩=some (.pointer (some ⟨n2,0,none⟩))/\l.cell? ⟨i,2,none⟩=some (.iface r2 z2)/\l.cell? ⟨i,3,none⟩=some (.pointer (some ⟨Z,0,none⟩)))/\l.cell? ⟨bf,0,none⟩=some (.pointer (some ⟨p,0,none⟩))/\l.cell? ⟨kb,0,none⟩=some (.func (.func fk) #[] ck)/\l.frozen? ⟨w.heap.size,0,none⟩=false):=fun W l f d0=>by
          obtain⟨h1,h2,h3,h4⟩:=U.out l ((Bj M f).trans (d0.mono a9.size));obtain⟨h5,h6⟩:=((L.out.below f).blk.below d0 b8.out).one;exact⟨h1,h2,h3,h4,h6⟩
        have a7:Hid (∀W:World,Below wr.heap.size wr W->W.cell? ⟨w.heap.size,0,none⟩=some (.slice E F G)):=fun W f=>(L.out.below f).blk.cell 0;have c9:Hid (∀W l:World,Below wr.heap.size wr W->Below h.heap.size W l->l.cell? ⟨w.heap.size,0,none⟩=some (.slice E F G)):=fun W l f d0=>((L.out.below f).blk.below d0 b8.out).cell 0;have c8:Hid (∀W:World,Below w.heap.size w W->W.frozen? ⟨w.heap.size,0,none⟩=false->∀u,((W.setCell ⟨w.heap.size,0,none⟩ u).cell? ⟨p,0,none⟩=some (.iface t1 y1)/\(W.setCell ⟨w.heap.size,0,none⟩ u).cell? ⟨p,1,none⟩=some (.pointer (some ⟨n1,0,none⟩))/\(W.setCell ⟨w.heap.size,0,none⟩ u).cell? ⟨p,2,none⟩=some (.iface r1 z1)/\(W.setCell ⟨w.heap.size,0,none⟩ u).cell? ⟨p,3,none⟩=some (.pointer (some ⟨Y,0,none⟩))/\(W.setCell ⟨w.heap.size,0,none⟩ u).cell? ⟨p,4,none⟩=some (.func (.func C) #[] A))/\((W.setCell ⟨w.heap.size,0,none⟩ u).cell? ⟨i,0,none⟩=some (.iface t2 y2)/\(W.setCell ⟨w.heap.size,0,none⟩ u).cell? ⟨i,1,none⟩=some (.pointer (some ⟨n2,0,none⟩))/\(W.setCell ⟨w.heap.size,0,none⟩ u).cell? ⟨i,2,none⟩=some (.iface r2 z2)/\(W.setCell ⟨w.heap.size,0,none⟩ u).cell? ⟨i,3,none⟩=some (.pointer (some ⟨Z,0,none⟩)))/\(W.setCell ⟨w.heap.size,0,none⟩ u).cell? ⟨bf,0,none⟩=some (.pointer (some ⟨p,0,none⟩))/\(W.setCell ⟨w.heap.size,0,none⟩ u).cell? ⟨kb,0,none⟩=some (.func (.func fk) #[] ck)/\(W.setCell ⟨w.heap.size,0,none⟩ u).frozen? ⟨w.heap.size,0,none⟩=false):=fun W f hf u=>by
          obtain⟨h1,h2,h3,h4⟩:=U.out (W.setCell ⟨w.heap.size,0,none⟩ u) (f.setCell (p:=⟨w.heap.size,0,none⟩) (Nat.le_refl _) u);exact⟨h1,h2,h3,h4,by rw[World.frozen?_setCell];exact hf⟩
        have s:Hid (∀W:World,Below wr.heap.size wr W->(W.cell? ⟨p,0,none⟩=some (.iface t1 y1)/\W.cell? ⟨p,1,none⟩=some (.pointer (some ⟨n1,0,none⟩))/\W.cell? ⟨p,2,none⟩=some (.iface r1 z1)/\W.cell? ⟨p,3,none⟩=some (.pointer (some ⟨Y,0,none⟩))/\W.cell? ⟨p,4,none⟩=some (.func (.func C) #[] A))/\(W.cell? ⟨i,0,none⟩=some (.iface t2 y2)/\W.cell? ⟨i,1,none⟩=some (.pointer (some ⟨n2,0,none⟩))/\W.cell? ⟨i,2,none⟩=some (.iface r2 z2)/\W.cell? ⟨i,3,none⟩=some (.pointer (some ⟨Z,0,none⟩)))/\W.cell? ⟨bf,0,none⟩=some (.pointer (some ⟨p,0,none⟩))/\W.cell? ⟨kb,0,none⟩=some (.func (.func fk) #[] ck)/\W.frozen? ⟨w.heap.size,0,none⟩=false):=fun W f=>c0.out W W f (Below.refl _ _);have e6:Hid (∀W,Below wr.heap.size wr W->Calls Tryz.prog C (#[A4 ns[j]]++A) W fun e w'=>e=.returned (A4 (g ns[j]))/\Below W.heap.size W w'):=fun W f=>H3.out W (Bj M f) _ (List.getElem_mem _);have d5:Hid (∀W,Below wr.heap.size wr W->Calls Tryz.prog fk (#[A4 (g ns[j])]++ck) W fun e w'=>e=.returned (A4 (κ (g ns[j])))/\Below W.heap.size W w'):=fun W f=>H4.out W (Bj M f) _ (H5.out _ (List.getElem_mem _));have HT:Hid _:=List.take_succ_eq_append_getElem c3;have i4:(ns.take j).length<=1048576:=by rw[List.length_take];omega
        have i5:=(Kept.size P.out);obtain⟨iq,hq,d2,d3,d4⟩:=info_parts kQr;have J:Hid (∀k,(Value.slice E F G).ownBlock=some k->h.heap.size<=k):=fun k o=>(L.out.own.lt k o).1;have c7:Hid (∀W,Below wr.heap.size wr W->W.ownsRow h.heap.size 237 2 (.slice E F G) (ns.take j).length ((ns.take j).flatMap (G7 (fun n=>κ (g n))))):=fun W f=>(L.out.below f).own;have c6:Hid (∀(W l:World) (v q:Nat),Below wr.heap.size wr W->l.ownsRow h.heap.size 237 2 (.slice (some ⟨v,0,none⟩) ((ns.take j).length+1) q) ((ns.take j).length+1) ((ns.take j).flatMap (G7 (fun n=>κ (g n)))++[A4 (κ (g ns[j])),A4 ns[j]])->W.grownBy l (Value.slice E F G).ownBlock->
            (∃b7,StockV (l.setCell ⟨w.heap.size,0,none⟩ (.slice (some ⟨v,0,none⟩) ((ns.take j).length+1) q)) h.heap.size w.heap.size b7 (fun n=>κ (g n)) (ns.take (j+1)))/\Kept (fun k=>k=w.heap.size) h (l.setCell ⟨w.heap.size,0,none⟩ (.slice (some ⟨v,0,none⟩) ((ns.take j).length+1) q))):=by
          rintro W l v q f ho X;have f6:Below h.heap.size W l:=⟨X.os,X.tape,X.output,X.size,fun k o=>X.block k (by have:=f.size;omega) (fun e=>by have:=(L.out.own.lt k e.symm).1;omega)⟩;have f1:=(L.out.below f).blk.below f6 b8.out;have k1:Kept (fun k=>k=w.heap.size) l (l.setCell ⟨w.heap.size,0,none⟩ (.slice (some ⟨v,0,none⟩) ((ns.take j).length+1) q)):=⟨rfl,rfl,rfl,by simp[World.setCell],fun k _ hn=>Below.heap_setCell _ _ _ _ hn⟩;have f8:=(ho.lt v rfl).1;refine⟨⟨.slice (some ⟨v,0,none⟩) ((ns.take j).length+1) q,?_,?_,fun e=>?_⟩,?_⟩
          · unfold Blk at f1 ⊢
            simp[World.setCell,Array.getElem?_modify,f1]
          · rw[HT.out,List.length_append,List.flatMap_append]
            exact hQc ho k1 (fun k o e=>by injection o with o;have:=b8.out;simp only at o;omega)
          · injection e with e
            have:=b8.out;simp only at e;omega
          · have k2:Kept (fun k=>k=w.heap.size) h l:=⟨X.os.trans (f.os.trans P.out.os),X.tape.trans (f.tape.trans P.out.tape),X.output.trans (f.output.trans P.out.output),Nat.le_trans P.out.size (Nat.le_trans f.size X.size),fun k o hn=>(f6.block k o).trans ((f.block k (Nat.lt_of_lt_of_le o P.out.size)).trans (P.out.block k o hn))⟩
            exact k2.trans k1
        generalize hx:ns[j]=x at *;generalize g9:ns.take j=a8 at *;go_wp2;refine wp_region_held_drew (S:=(fun w'=>(w'.cell? ⟨p,0,none⟩=some (.iface t1 y1)/\w'.cell? ⟨p,1,none⟩=some (.pointer (some ⟨n1,0,none⟩))/\w'.cell? ⟨p,2,none⟩=some (.iface r1 z1)/\w'.cell? ⟨p,3,none⟩=some (.pointer (some ⟨Y,0,none⟩))/\w'.cell? ⟨p,4,none⟩=some (.func (.func C) #[] A))/\(w'.cell? ⟨i,0,none⟩=some (.iface t2 y2)/\w'.cell? ⟨i,1,none⟩=some (.pointer (some ⟨n2,0,none⟩))/\w'.cell? ⟨i,2,none⟩=some (.iface r2 z2)/\w'.cell? ⟨i,3,none⟩=some (.pointer (some ⟨Z,0,none⟩)))/\w'.cell? ⟨bf,0,none⟩=some (.pointer (some ⟨p,0,none⟩))/\w'.cell? ⟨kb,0,none⟩=some (.func (.func fk) #[] ck)/\w'.frozen? ⟨w.heap.size,0,none⟩=false)) (by kernel_rfl) ?_ (fun hHeld=>?_)
        · exact s.out _ (Below.refl _ _).drew
        refine tk 0 ?_;refine tk 2 ?_;refine tk 3 ?_;refine tk 4 ?_;refine tk 5 ?_;refine tk 6 ?_;refine tk 7 ?_;refine tk 10 ?_;refine iQl 1 8 (by kernel_rfl) rfl rfl (fun K c=>?_) (fun K c=>?_)
        · go_simp
          refine c.out _ _ ?_ (fun hHeld=>?_)
          · exact s.out _ (Below.refl _ _).drew
          refine sp 8 (by kernel_rfl) rfl (fun K c=>?_);go_simp
          (refine(e6.out _ ?_).mono ?_;exact(Below.refl _ _).drew;rintro e w5 ⟨rfl,d8⟩;have z:=Bj (Below.refl _ _).drew d8;have s5:=a7.out _ z;have k5:=(s.out _ z).2.2.2.1)
          go_wp2;refine c.out _ _ ?_ (fun hHeld=>?_)
          · exact s.out _ z
          refine sp 9 (by kernel_rfl) rfl (fun K c=>?_);go_simp
          (refine(d5.out _ z).mono ?_;rintro e m ⟨rfl,c1⟩;have d:=Bj z c1;have g3:=d.size;have s6:=a7.out _ d;have g4:=a7.out (m.alloc (.cells #[A4 (κ (g x)),A4 x] 237)) (Bj d (A5 _ _)))
          go_wp2;refine c.out _ _ ?_ (fun hHeld=>?_)
          · exact s.out _ d
          refine tk 11 ?_;refine sp 12 (by kernel_rfl) rfl (fun K c=>?_);go_simp
          refine c.out _ _ ?_ (fun hHeld=>?_)
          · exact s.out _ (Bj d (A5 _ _))
          clear c K;refine sp 13 (by kernel_rfl) rfl (fun K c=>?_)
          (refine step_append_lies _ (by rfl) _ _ _ (by rfl) h.heap.size 237 iq _ 2 32 Tryz.underlying233 hq d2 d3 d4 rfl (by omega) (.slice E F G) a8.length (a8.flatMap (G7 (fun n=>κ (g n)))) (by rfl) (c7.out _ (Bj d (A5 _ _))) ⟨m.heap.size,0,none⟩ 1 1 [A4 (κ (g x)),A4 x] (by rfl) (by rfl) (World.news_of_block (cs:=#[A4 (κ (g x)),A4 x]) (t:=237) (fr:=(0,0)) (heap_alloc_new m _)) (by simp[Value.oneCell']) (by omega) (by unfold maxLen;omega) (by omega) (by simp;omega) (m.heap.size+1) (by simp) ?_;intro v q r R b b4 e4;have Q:=c6.out _ r v q (Bj d (A5 _ _)) R b;have O:Hid _:=Q;have s7:=c9.out (m.alloc (.cells #[A4 (κ (g x)),A4 x] 237)) r (Bj d (A5 _ _)) ⟨b.os,b.tape,b.output,b.size,fun k o=>b.block k (by simp;omega) (fun e=>by have:=J.out k e.symm;omega)⟩;have T:=c0.out (m.alloc (.cells #[A4 (κ (g x)),A4 x] 237)) r (Bj d (A5 _ _)) ⟨b.os,b.tape,b.output,b.size,fun k o=>b.block k (by simp;omega) (fun e=>by have:=J.out k e.symm;omega)⟩;have f7:=T.2.2.2.2;have b6:=c8.out r ((Bj M (Bj d (A5 _ _))).trans (Below.mono (B:=h.heap.size) ⟨b.os,b.tape,b.output,b.size,fun k o=>b.block k (by simp;omega) (fun e=>by have:=J.out k e.symm;omega)⟩ a9.size)) f7;clear Q R b b4)
          refine c.out _ _ ?_ (fun hHeld=>?_)
          · exact T
          clear c K;refine tk 14 ?_;refine sp 15 (by kernel_rfl) rfl (fun K c=>?_);go_simp
          refine c.out _ _ ?_ (fun hHeld=>?_)
          · exact b6 _
          clear c K;refine wpAnyH_done (by kernel_rfl) ?_ _;go_wp2_with fail;go_roundw
          case rel=>exact⟨j+1,by omega,by go_num,O.out.1,O.out.2⟩
          case measure=>simp[intOf];omega
        · go_simp
          (refine(e6.out _ ?_).mono ?_;exact(Below.refl _ _).drew;rintro e w5 ⟨rfl,d8⟩;have z:Below wr.heap.size wr w5:=Bj (Below.refl _ _).drew d8;have s5:=a7.out _ z;have k5:=(s.out _ z).2.2.2.1)
          go_wp2_with fail;refine c.out _ _ ?_ (fun hHeld=>?_)
          · exact s.out _ z
          clear c K;refine iQl 1 9 (by kernel_rfl) rfl rfl (fun K c=>?_) (fun K c=>?_)
          · go_simp
            refine c.out _ _ ?_ (fun hHeld=>?_)
            · exact s.out _ z
            clear c K;refine sp 9 (by kernel_rfl) rfl (fun K c=>?_);go_simp
            (refine(d5.out _ z).mono ?_;rintro e m ⟨rfl,c1⟩;have d:Below wr.heap.size wr m:=Bj z c1;have g3:=d.size;have s6:=a7.out _ d;have g4:=a7.out (m.alloc (.cells #[A4 (κ (g x)),A4 x] 237)) (Bj d (A5 _ _)))
            go_wp2_with fail;refine c.out _ _ ?_ (fun hHeld=>?_)
            · exact s.out _ d
            clear c K;refine tk 11 ?_;refine sp 12 (by kernel_rfl) rfl (fun K c=>?_);go_simp
            refine c.out _ _ ?_ (fun hHeld=>?_)
            · exact s.out _ (Bj d (A5 _ _))
            clear c K;refine sp 13 (by kernel_rfl) rfl (fun K c=>?_)
            (refine step_append_lies _ (by rfl) _ _ _ (by rfl) h.heap.size 237 iq _ 2 32 Tryz.underlying233 hq d2 d3 d4 rfl (by omega) (.slice E F G) a8.length (a8.flatMap (G7 (fun n=>κ (g n)))) (by rfl) (c7.out _ (Bj d (A5 _ _))) ⟨m.heap.size,0,none⟩ 1 1 [A4 (κ (g x)),A4 x] (by rfl) (by rfl) (World.news_of_block (cs:=#[A4 (κ (g x)),A4 x]) (t:=237) (fr:=(0,0)) (heap_alloc_new m _)) (by simp[Value.oneCell']) (by omega) (by unfold maxLen;omega) (by omega) (by simp;omega) (m.heap.size+1) (by simp) ?_;intro v q r R b b4 e4;have Q:=c6.out _ r v q (Bj d (A5 _ _)) R b;have O:Hid _:=Q;have s7:=c9.out (m.alloc (.cells #[A4 (κ (g x)),A4 x] 237)) r (Bj d (A5 _ _)) ⟨b.os,b.tape,b.output,b.size,fun k o=>b.block k (by simp;omega) (fun e=>by have:=J.out k e.symm;omega)⟩;have T:=c0.out (m.alloc (.cells #[A4 (κ (g x)),A4 x] 237)) r (Bj d (A5 _ _)) ⟨b.os,b.tape,b.output,b.size,fun k o=>b.block k (by simp;omega) (fun e=>by have:=J.out k e.symm;omega)⟩;have f7:=T.2.2.2.2;have b6:=c8.out r ((Bj M (Bj d (A5 _ _))).trans (Below.mono (B:=h.heap.size) ⟨b.os,b.tape,b.output,b.size,fun k o=>b.block k (by simp;omega) (fun e=>by have:=J.out k e.symm;omega)⟩ a9.size)) f7;clear Q R b b4)
            refine c.out _ _ ?_ (fun hHeld=>?_)
            · exact T
            clear c K;refine tk 14 ?_;refine sp 15 (by kernel_rfl) rfl (fun K c=>?_);go_simp
            refine c.out _ _ ?_ (fun hHeld=>?_)
            · exact b6 _
            clear c K;refine wpAnyH_done (by kernel_rfl) ?_ _;go_wp2_with fail;go_roundw
            case rel=>exact⟨j+1,by omega,by go_num,O.out.1,O.out.2⟩
            case measure=>simp[intOf];omega
          · go_simp
            (refine(d5.out _ z).mono ?_;rintro e m ⟨rfl,c1⟩;have d:Below wr.heap.size wr m:=Bj z c1;have g3:=d.size;have s6:=a7.out _ d;have g4:=a7.out (m.alloc (.cells #[A4 (κ (g x)),A4 x] 237)) (Bj d (A5 _ _)))
            go_wp2_with fail;refine c.out _ _ ?_ (fun hHeld=>?_)
            · exact s.out _ d
            clear c K;refine tk 11 ?_;refine iQl 1 12 (by kernel_rfl) rfl rfl (fun K c=>?_) (fun K c=>?_)
            · go_simp
              refine c.out _ _ ?_ (fun hHeld=>?_)
              · exact s.out _ d
              clear c K;refine sp 12 (by kernel_rfl) rfl (fun K c=>?_);go_simp
              refine c.out _ _ ?_ (fun hHeld=>?_)
              · exact s.out _ (Bj d (A5 _ _))
              clear c K;refine sp 13 (by kernel_rfl) rfl (fun K c=>?_)
              (refine step_append_lies _ (by rfl) _ _ _ (by rfl) h.heap.size 237 iq _ 2 32 Tryz.underlying233 hq d2 d3 d4 rfl (by omega) (.slice E F G) a8.length (a8.flatMap (G7 (fun n=>κ (g n)))) (by rfl) (c7.out _ (Bj d (A5 _ _))) ⟨m.heap.size,0,none⟩ 1 1 [A4 (κ (g x)),A4 x] (by rfl) (by rfl) (World.news_of_block (cs:=#[A4 (κ (g x)),A4 x]) (t:=237) (fr:=(0,0)) (heap_alloc_new m _)) (by simp[Value.oneCell']) (by omega) (by unfold maxLen;omega) (by omega) (by simp;omega) (m.heap.size+1) (by simp) ?_;intro v q r R b b4 e4;have Q:=c6.out _ r v q (Bj d (A5 _ _)) R b;have O:Hid _:=Q;have s7:=c9.out (m.alloc (.cells #[A4 (κ (g x)),A4 x] 237)) r (Bj d (A5 _ _)) ⟨b.os,b.tape,b.output,b.size,fun k o=>b.block k (by simp;omega) (fun e=>by have:=J.out k e.symm;omega)⟩;have T:=c0.out (m.alloc (.cells #[A4 (κ (g x)),A4 x] 237)) r (Bj d (A5 _ _)) ⟨b.os,b.tape,b.output,b.size,fun k o=>b.block k (by simp;omega) (fun e=>by have:=J.out k e.symm;omega)⟩;have f7:=T.2.2.2.2;have b6:=c8.out r ((Bj M (Bj d (A5 _ _))).trans (Below.mono (B:=h.heap.size) ⟨b.os,b.tape,b.output,b.size,fun k o=>b.block k (by simp;omega) (fun e=>by have:=J.out k e.symm;omega)⟩ a9.size)) f7;clear Q R b b4)
              refine c.out _ _ ?_ (fun hHeld=>?_)
              · exact T
              clear c K;refine tk 14 ?_;refine sp 15 (by kernel_rfl) rfl (fun K c=>?_);go_simp
              refine c.out _ _ ?_ (fun hHeld=>?_)
              · exact b6 _
              clear c K;refine wpAnyH_done (by kernel_rfl) ?_ _;go_wp2_with fail;go_roundw
              case rel=>exact⟨j+1,by omega,by go_num,O.out.1,O.out.2⟩
              case measure=>simp[intOf];omega
            · go_simp
              refine c.out _ _ ?_ (fun hHeld=>?_)
              · exact s.out _ (Bj d (A5 _ _))
              clear c K;refine sp 1 (by kernel_rfl) rfl (fun K c=>?_);go_simp
              refine c.out _ _ ?_ (fun hHeld=>?_)
              · exact s.out _ (Bj d (A5 _ _))
              clear c K;refine sp 13 (by kernel_rfl) rfl (fun K c=>?_)
              (refine step_append_lies _ (by rfl) _ _ _ (by rfl) h.heap.size 237 iq _ 2 32 Tryz.underlying233 hq d2 d3 d4 rfl (by omega) (.slice E F G) a8.length (a8.flatMap (G7 (fun n=>κ (g n)))) (by rfl) (c7.out _ (Bj d (A5 _ _))) ⟨m.heap.size,0,none⟩ 1 1 [A4 (κ (g x)),A4 x] (by rfl) (by rfl) (World.news_of_block (cs:=#[A4 (κ (g x)),A4 x]) (t:=237) (fr:=(0,0)) (heap_alloc_new m _)) (by simp[Value.oneCell']) (by omega) (by unfold maxLen;omega) (by omega) (by simp;omega) (m.heap.size+1) (by simp) ?_;intro v q r R b b4 e4;have Q:=c6.out _ r v q (Bj d (A5 _ _)) R b;have O:Hid _:=Q;have s7:=c9.out (m.alloc (.cells #[A4 (κ (g x)),A4 x] 237)) r (Bj d (A5 _ _)) ⟨b.os,b.tape,b.output,b.size,fun k o=>b.block k (by simp;omega) (fun e=>by have:=J.out k e.symm;omega)⟩;have T:=c0.out (m.alloc (.cells #[A4 (κ (g x)),A4 x] 237)) r (Bj d (A5 _ _)) ⟨b.os,b.tape,b.output,b.size,fun k o=>b.block k (by simp;omega) (fun e=>by have:=J.out k e.symm;omega)⟩;have f7:=T.2.2.2.2;have b6:=c8.out r ((Bj M (Bj d (A5 _ _))).trans (Below.mono (B:=h.heap.size) ⟨b.os,b.tape,b.output,b.size,fun k o=>b.block k (by simp;omega) (fun e=>by have:=J.out k e.symm;omega)⟩ a9.size)) f7;clear Q R b b4)
              refine c.out _ _ ?_ (fun hHeld=>?_)
              · exact T
              clear c K;refine tk 14 ?_;refine sp 15 (by kernel_rfl) rfl (fun K c=>?_);go_simp
              refine c.out _ _ ?_ (fun hHeld=>?_)
              · exact b6 _
              clear c K;refine wpAnyH_done (by kernel_rfl) ?_ _;go_wp2_with fail;go_roundw
              case rel=>exact⟨j+1,by omega,by go_num,O.out.1,O.out.2⟩
              case measure=>simp[intOf];omega
      · have h8:¬(j:Int)<(ns.length:Int):=by omega
        have g5:Hid (StockV wr h.heap.size w.heap.size (.slice E F G) (fun n=>κ (g n)) ns):=by
          have:=L.out;rw[List.take_of_length_le (by omega)]at this;exact this
        have g6:Hid (w.heap.size<wr.heap.size):=Nat.lt_of_lt_of_le b8.out P.out.size;have g7:Hid (∀k,(Value.slice E F G).ownBlock=some k->k<wr.heap.size):=fun k o=>(L.out.own.lt k o).2;obtain⟨⟨a0,a1,a2,a3,a4⟩,⟨b0,b1,b2,b3⟩,e0,e1⟩:=U.out wr M;clear L d6 P;go_wp2_with fail;go_region_held (fun w'=>(w'.cell? ⟨p,0,none⟩=some (.iface t1 y1)/\w'.cell? ⟨p,1,none⟩=some (.pointer (some ⟨n1,0,none⟩))/\w'.cell? ⟨p,2,none⟩=some (.iface r1 z1)/\w'.cell? ⟨p,3,none⟩=some (.pointer (some ⟨Y,0,none⟩))/\w'.cell? ⟨p,4,none⟩=some (.func (.func C) #[] A))/\(w'.cell? ⟨i,0,none⟩=some (.iface t2 y2)/\w'.cell? ⟨i,1,none⟩=some (.pointer (some ⟨n2,0,none⟩))/\w'.cell? ⟨i,2,none⟩=some (.iface r2 z2)/\w'.cell? ⟨i,3,none⟩=some (.pointer (some ⟨Z,0,none⟩)))/\w'.cell? ⟨bf,0,none⟩=some (.pointer (some ⟨p,0,none⟩))/\w'.cell? ⟨kb,0,none⟩=some (.func (.func fk) #[] ck)) (first|with_reducible assumption|with_reducible exact U.out _ M.drew|with_reducible exact U.out _ b5)
          (first
            | (go_at_call 196;refine(H2.out _ ?_).mono ?_;exact M.drew;rintro e w3 ⟨u1,u2,u3,rfl,i1,h7⟩;have f4:Below wr.heap.size wr w3:=Bj (Below.refl _ _).drew h7;have b5:Below w.heap.size w w3:=Bj M f4)
            | (go_at_call 195;refine(HE.out _ b5 h.heap.size w.heap.size (.slice E F G) (g5.out.below f4) (Nat.le_refl _) a9.size _ _ i1 g6.out g7.out).mono ?_;rintro e w4 ⟨rfl,f5⟩;have b5:=f5))
        all_goals
          go_wp2_with fail;go_ret;exact⟨rfl,f5⟩
theorem vQb {l:Ln}(c:OkL 120 l)(hs:eX7 l<=24)(b:cn l<=30000):gx l<=549755813888:=by
 have d:=cQw l 120 c;have a:2 ^ eX7 l<=2 ^ 24:=Nat.pow_le_pow_right (by omega) hs;have e:=Nat.mul_le_mul b a;have f:30000*2 ^ 24<=549755813888:=by decide
 omega
theorem gQ2 {p:Lu->Prop}(b:¬p []):(a:List (Lu))->(∀y,y∈a->p y)->a.length<=a.flatten.length
 | [],_=>Nat.zero_le _
 | q::a,h=>by
  have d:0<q.length:=List.length_pos_iff.2 (fun e=>b (by have:=h q (List.mem_cons_self ..);rw[e]at this;exact this));have f:=gQ2 b a (fun y c=>h y (List.mem_cons_of_mem _ c));rw[List.flatten_cons,List.length_append,List.length_cons];omega
theorem dX9 (a l:Ln)(k:Nat)(a0:Ls.D)(ws:Lu)(z:l=⟨k,a0,ws,[a]⟩)(hκ:κ=if k=7 then C3 else fun _=>[])(e:OkL 120 a)(b1:eX7 a<=24)(b2:gx l<=549755813888)
  (A:¬inL (eX5 (dS a)) []) (T:¬fXb (eX5 (dS a)) (eX5 (Ls.rep 5 (dS a)))) (B:¬inL (eX5 (dV a)) []) (U:¬fXb (eX5 (dV a)) (eX5 (Ls.rep 5 (dV a))))
  {w:World} {G:Nat->Prop} {p o q v:Nat} {J K:TypeId} {L M X:Value} {H I:Nat} (hp:PartV w G p a) (hS:Tx w G (.iface J L) H (Ls.rep 5 (dS a))) (hV:Tx w G (.iface K M) I (Ls.rep 5 (dV a))) (r:KeyV w G X κ)
  (hf:Blk w o #[Pt p] 78) (hr:Blk w q #[.iface J L,Pt H,.iface K M,Pt I] 94) (hb:Blk w v #[X] 95) (gf:G o) (gr:G q) (gk:G v) :
  Turns2 w G (.func (.func 198) #[] #[Pt o,Pt q,Pt v]) (inL (eX5 (dV l))) (inL (eX5 (dS l))) (A9 l):=by
 refine⟨_,_,rfl,fun _ _ _=>by kernel_rfl,fun W j i x y b m R S=>?_⟩;have a7:=hp.mono (G':=G) (fun _ h=>h) j;have a1:=hS.mono (G':=G) (fun _ h=>h) j;have a2:=hV.mono (G':=G) (fun _ h=>h) j;have a4:=hf.of (j o gf);have a8:=hr.of (j q gr);have a3:=hb.of (j v gk);obtain⟨t1,y1,n1,t2,y2,n2,g1,c1,u1,_,C,N,h4,h5,h6,n⟩:=a7;rw[show dV l=Ls.rep 5 (dV a) by rw[z,dV]]at R;rw[show dS l=Ls.rep 5 (dS a) by rw[z,dS]]at S;obtain⟨g,rfl,t⟩:=(gXg _ _).1 R;obtain⟨f,rfl,u⟩:=(gXg _ _).1 S;obtain⟨f1,s1,rfl,e1,Y⟩:=Turns.at i h5;obtain⟨f2,s2,rfl,e2,Z⟩:=Turns.at i h6;obtain⟨f3,s3,rfl,e3,H3⟩:=Turns2.at i n;obtain⟨f4,s4,rfl,e4,H4⟩:=r.mono (G':=G) (fun _ h=>h) j;have b3:=fX3 a e;have b4:=fXz a e;have a9:∀s,inL (eX5 (Ls.rep 5 (dS a))) s↔inL (fXl (eX8 a)) s:=fun s=>by
  rw[gXg,fXq];exact gXj (fX6 a e) s
 have b0:∀s,inL (eX5 (Ls.rep 5 (dV a))) s↔inL (fXl (eX6 a)) s:=fun s=>by
  rw[gXg,fXq];exact gXj (fX8 a e) s
 have V:A9 l g.flatten f.flatten=(K4 κ (A9 a) (A8 a) (A6 a) g f).flatten:=by
  have P:=OkL.src _ e;have Q:=OkL.view _ e;have p1:=X0 P.ok (hXf P).ok (fun h=>A ((fX6 a e _).2 h)) (by rw[<-O6 (fX6 a e) a9];exact T) f (fun y m=>(fX6 a e y).1 (u y m)) _ (Nat.le_refl _);have p2:=X0 Q.ok (hXf Q).ok (fun h=>B ((fX8 a e _).2 h)) (by rw[<-O6 (fX8 a e) b0];exact U) g (fun y m=>(fX8 a e y).1 (t y m)) _ (Nat.le_refl _);rw[z,A9,p1,p2,hκ]
  by_cases n:k=7
  ·rw[if_pos n,if_pos n,iQb]
  ·rw[if_neg n,if_neg n,iQa]
 have a6:(K4 κ (A9 a) (A8 a) (A6 a) g f).flatten.length<=70368744177664:=by
  rw[<-V];have h1:=Q6 l g.flatten f.flatten;have C:(g.flatten.length+f.flatten.length+2)*gx l<=122*gx l:=Nat.mul_le_mul_right _ (by omega);omega
 have E:∀x,x∈g->x.length<=60:=fun x b=>by have:=(List.sublist_flatten_of_mem b).length_le;omega
 have F:∀x,x∈f->x.length<=60:=fun x b=>by have:=(List.sublist_flatten_of_mem b).length_le;omega
 have a5:∀x,x∈f->(A6 a x).length<=70368744177664:=fun x b=>by
  have h1:=N2 a x;have C:(x.length+1)*gx a<=61*gx a:=Nat.mul_le_mul_right _ (by have:=F x b;omega);have N:gx l=2*gx a:=by rw[z,gx]
  omega
 have O:∀c,Bw W c->∀k,G k->k<c.heap.size:=fun c h k r=>Ll (i k r) h.size;rw[V];exact aXp g f (A6 a) (A8 a) κ W (A9 a) p o v f4 f2 f3 s4 s2 s3 g.flatten f.flatten (Lq (gQ2 B g t) (by omega)) (Lq (gQ2 A f u) (by omega)) E a5 a6 q t1 J t2 K y1 L y2 M n1 H n2 I f1 s1 C a4 a8 a3 e1 e4 e2 e3
  (fun c d=>fQi (G:=G) (O c d) (by omega) A T u (by omega) (N.below i d) (a1.below i d))
  (fun c d=>fQi (G:=G) (O c d) (by omega) B U t (by omega) (h4.below i d) (a2.below i d))
  (fun c d x b=>Y c d x (F x b) (u x b))
  (fun c d x b=>H4 c (fun k r=>d.block k (i k r)) x b)
  (fun c d x y b m=>H3 c d x y (E x b) (F y m) (t x b) (u y m))
  (fun c d x b=>Z c d x (E x b) (t x b))
end Go.Proofs.YtfklinjaajafgaaGreatDoor
