import Derived.Test.YtfklinjaajafgaaGreatDoorK51
import Derived.Test.YtfklinjaajafgaaGreatDoorK08
import Derived.Deep.RegionLaw
import Derived.Test.YtfklinjaajafgaaGreatDoorK54
import Derived.Deep.RegionHeld3
import Derived.Deep.AppendLies
set_option maxRecDepth 100000
set_option maxHeartbeats 4000000
namespace Go.Proofs.YtfklinjaajafgaaGreatDoor
open Go.RowKit
theorem uQv (s:ByteArray)(hs:s.size<=70368744177664)(w:World) :
    Calls Tryz.prog 174 #[.string s] w fun e w'=>e=.returned (A4 (C3 s.data.toList))/\Below w.heap.size w w':=by
  go_enter Tryz.func174,Tryz.ntmps174;go_wp2_with fail;go_loopw [3] (fun t wr=>∃k:Nat,k<=s.size/\t=.int .i64 k/\wr=w/\C3 s.data.toList=s.data.toList.take k++C3 (s.data.toList.drop k)) (fun t _=>s.size-(intOf t).toNat)
  case atStart=>exact⟨0,Nat.zero_le _,rfl,rfl,by simp⟩
  case round=>
    obtain⟨k,hk,rfl,rfl,hkey⟩:=hrel;have HK:Hid (C3 s.data.toList=s.data.toList.take k++C3 (s.data.toList.drop k)):=hkey;have hk0:(0:Int)<=(k:Int):=by omega
    have hk2:(k:Int)<=(s.size:Int):=by omega
    have HX:Hid (∀l:List UInt8,l=s.data.toList.take k->Ending.returned (.string (s.extract 0 k))=.returned (A4 l)):=fun l h=>by
      have he:=fQ7 s.data.toList k;rw[show (⟨s.data.toList.toArray⟩:ByteArray)=s by apply ByteArray.ext;simp]at he;rw[h,he]
    clear hkey
    by_cases hlt:k<s.size
    · have hlt2:(k:Int)<(s.size:Int):=by omega
      have hd:s.data.toList.drop k=s[k]::s.data.toList.drop (k+1):=by
        rw[List.drop_eq_getElem_cons (by rw[Array.length_toList];exact hlt)];rfl
      have HT:Hid (s.data.toList.take (k+1)=s.data.toList.take k++[s[k]]):=by
        show _=_;rw[List.take_succ_eq_append_getElem (by rw[Array.length_toList];exact hlt)];rfl
      have HS:Hid (C3 (s.data.toList.drop k)=if low s[k]=true then s[k]::C3 (s.data.toList.drop (k+1)) else []):=by
        show _=_;rw[hd];unfold C3;rw[List.takeWhile_cons]
      clear hd;have hC:=jQ0 s[k] wr
      by_cases h1:97<=s[k].toNat/\s[k].toNat<=122
      · have HN:Hid (C3 s.data.toList=s.data.toList.take (k+1)++C3 (s.data.toList.drop (k+1))):=by
          show _=_;rw[HK.out,HS.out,HT.out,if_pos (by simp[low,h1])];simp
        rw[decide_eq_true h1]at hC;clear HK HS HT HX h1;go_wp2_with fail;refine hC.mono ?_;clear hC;rintro e w1 ⟨rfl,hw⟩;have hw2:=hw.symm;clear hw;subst hw2;go_wp2_with fail;go_roundw
        case rel=>exact⟨k+1,by omega,by go_num,trivial,HN.out⟩
        case measure=>simp[intOf];omega
      · have HN:Hid (C3 s.data.toList=s.data.toList.take k):=by
          show _=_;rw[HK.out,HS.out,if_neg (by simp[low];omega)];simp
        rw[decide_eq_false h1]at hC;clear HK HS HT h1;go_wp2_with fail;refine hC.mono ?_;clear hC;rintro e w1 ⟨rfl,hw⟩;have hw2:=hw.symm;clear hw;subst hw2;go_wp2_with fail;go_ret;exact⟨HX.out _ HN.out,Below.refl _ _⟩
    · have hlt2:¬(k:Int)<(s.size:Int):=by omega
      have HN:Hid (C3 s.data.toList=s.data.toList.take k):=by
        show _=_;rw[HK.out,List.drop_of_length_le (by rw[Array.length_toList];show s.size<=k;omega)];simp[C3]
      clear HK;go_wp2_with fail;go_ret;exact⟨HX.out _ HN.out,Below.refl _ _⟩
theorem uQx (w:World)(G:Nat->Prop):KeyV w G (.func (.func 174) #[] #[]) C3:=⟨_,_,rfl,fun _ _=>by kernel_rfl,fun W _ x hx=>uQv ⟨x.toArray⟩ (by simpa [ByteArray.size] using hx) W⟩
def Z0 (cur:Array Value):Nat->List Value->Array Value
  | _,[]=>cur
  | o,v::r=>Z0 (cur.setIfInBounds o v) (o+1) r
theorem eQd:(vs:List Value)->(o:Nat)->(cur:Array Value)->(Z0 cur o vs).size=cur.size
  | [],_,_=>rfl
  | v::r,o,cur=>by rw[Z0,eQd r];simp
theorem gQk:(vs:List Value)->(o:Nat)->(cur:Array Value)->o+vs.length<=cur.size->∀j,(Z0 cur o vs)[j]?=if o<=j/\j<o+vs.length then vs[j-o]? else cur[j]?
  | [],o,cur,_,j=>by rw[Z0,if_neg (by simp)]
  | v::r,o,cur,h,j=>by
    simp only[List.length_cons]at h ⊢;rw[Z0,gQk r (o+1) _ (by simp;omega) j]
    by_cases h1:j=o
    · subst h1
      rw[if_neg (by omega),if_pos (by omega),Nat.sub_self,Array.getElem?_setIfInBounds];simp;omega
    · by_cases h2:o+1<=j/\j<o+1+r.length
      · rw[if_pos h2,if_pos (by omega),show j-o=(j-(o+1))+1 by omega,List.getElem?_cons_succ]
      · rw[if_neg h2,if_neg (by omega),Array.getElem?_setIfInBounds,if_neg (by omega)]
theorem gQl {g:Nat}{T:TypeId}:(vs:List Value)->(o:Nat)->(w:World)->(cur:Array Value)->w.heap[g]?=some (.cells cur T (0,0))->(w.setCells g o vs).heap[g]?=some (.cells (Z0 cur o vs) T (0,0))
  | [],_,_,_,h=>h
  | v::r,o,w,cur,h=>by
    rw[World.setCells,Z0];refine gQl r (o+1) _ _ ?_;simp[World.setCell,Array.getElem?_modify,h]
theorem hQl {g:Nat}:(vs:List Value)->(o:Nat)->(w:World)->Kept (fun k=>k=g) w (w.setCells g o vs)
  | [],_,_=>Kept.refl _ _
  | v::r,o,w=>by
    rw[World.setCells];have h1:Kept (fun k=>k=g) w (w.setCell ⟨g,o,none⟩ v):=⟨rfl,rfl,rfl,by simp[World.setCell],fun k _ hn=>Below.heap_setCell _ _ _ _ hn⟩;exact h1.trans (hQl r (o+1) _)
def G4 (kg:List UInt8->List UInt8)(n:List UInt8):List Value:=[A4 (kg n),A4 n]
theorem fQz (kg:List UInt8->List UInt8)(ns:List (List UInt8)):(ns.flatMap (G4 kg)).length=ns.length*2:=by
  induction ns with
  | nil=>rfl
  | cons n ns ih=>rw[List.flatMap_cons,List.length_append,ih];simp[G4];omega
theorem iQp (kg:List UInt8->List UInt8):(ns:List (List UInt8))->(i:Nat)->(ns.take i).flatMap (G4 kg)=(ns.flatMap (G4 kg)).take (i*2)
  | [],i=>by simp
  | n::ns,0=>by simp
  | n::ns,i+1=>by
    rw[List.take_succ_cons,List.flatMap_cons,List.flatMap_cons,iQp kg ns i,show (i+1)*2=i*2+1+1 by omega];simp[G4]
theorem iQn (kg:List UInt8->List UInt8):(ns:List (List UInt8))->(i:Nat)->(ns.drop i).flatMap (G4 kg)=(ns.flatMap (G4 kg)).drop (i*2)
  | [],i=>by simp
  | n::ns,0=>by simp
  | n::ns,i+1=>by
    rw[List.drop_succ_cons,List.flatMap_cons,iQn kg ns i,show (i+1)*2=i*2+1+1 by omega];simp[G4]
theorem rQe (kg:List UInt8->List UInt8)(ns:List (List UInt8))(i:Nat):(ns.eraseIdx i).flatMap (G4 kg)=(ns.flatMap (G4 kg)).take (i*2)++(ns.flatMap (G4 kg)).drop ((i+1)*2):=by
  rw[List.eraseIdx_eq_take_drop_succ,List.flatMap_append,iQp,iQn]
theorem iQo (kg:List UInt8->List UInt8):(ns:List (List UInt8))->(i:Nat)->(hi:i<ns.length)->(ns.flatMap (G4 kg))[i*2]?=some (A4 (kg ns[i]))/\(ns.flatMap (G4 kg))[i*2+1]?=some (A4 ns[i])
  | n::ns,0,_=>by simp[G4]
  | n::ns,i+1,hi=>by
    have:=iQo kg ns i (by simpa using hi);rw[List.flatMap_cons,show (i+1)*2=i*2+2 by omega];simpa [G4] using this
structure StockV (w:World)(base sb:Nat)(v:Value)(kg:List UInt8->List UInt8)(ns:List (List UInt8)):Prop where
  blk:Blk w sb #[v] 235
  own:w.ownsRow base 237 2 v ns.length (ns.flatMap (G4 kg))
  ap:v.ownBlock≠some sb
theorem jQu:(Tryz.prog.info? 237).map (fun i=>(i.zero,i.size,i.bytes))=some (some (.agg #[.string ⟨#[]⟩,.string ⟨#[]⟩]),2,32):=by kernel_rfl
theorem rQo (W:World)(ty:TypeId)(g o c:Nat)(h0:(W.cell? ⟨g,o,none⟩).isSome=true)(h1:(W.cell? ⟨g,o+1,none⟩).isSome=true)(f0:W.frozen? ⟨g,o,none⟩=false)(f1:W.frozen? ⟨g,o+1,none⟩=false) :
    (Builtin.clear_ #[233] ty #[.slice (some ⟨g,o,none⟩) 1 c]).run Tryz.prog W=.ok (.tuple #[]) (W.setCells g o [.string ⟨#[]⟩,.string ⟨#[]⟩]):=by
  have hst:=run_storeCells_cells (P:=Tryz.prog) g o [.string ⟨#[]⟩,.string ⟨#[]⟩] 0 W (fun j hj=>by
    match j,hj with
    | 0,_=>exact h0
    | 1,_=>exact h1) (fun j hj=>by
    match j,hj with
    | 0,_=>exact f0
    | 1,_=>exact f1) (by simp[Value.oneCell'])
  simp only[Nat.add_zero]at hst;have hz:(Builtin.zeroCells (Value.agg #[.string ⟨#[]⟩,.string ⟨#[]⟩]).cells 1).toList=[.string ⟨#[]⟩,.string ⟨#[]⟩]:=by kernel_rfl
  simp[Builtin.clear_,run_underlying Tryz.underlying233,Tryz.zeroValue237,hz,hst]
theorem sQ0 (g n cap i j:Nat)(news:List Value)(w:World)(hij:i<j)(hj1:n-(i+(n-j))=1)(hjn:j<=n)(hn:n<=cap)(hcap:cap<=maxLen)(hl:news.length=(n-j)*2)(h1:∀u∈news,u.oneCell'=true)
    (hnews:∀t u,news[t]?=some u->w.cell? ⟨g,j*2+t,none⟩=some u) (hc:∀t,t<n*2->(w.cell? ⟨g,t,none⟩).isSome=true/\w.frozen? ⟨g,t,none⟩=false) :
    Calls Tryz.prog 212 #[.slice (some ⟨g,0,none⟩) n cap,.int .i64 i,.int .i64 j] w fun e w'=>e=.returned (.slice (some ⟨g,0,none⟩) (i+(n-j)) cap)/\w'=(w.drew.setCells g (i*2) news).setCells g ((i+(n-j))*2) [.string ⟨#[]⟩,.string ⟨#[]⟩]:=by
  obtain⟨i0,hi0,hz0,hz1,hz2⟩:=info_parts jQu;obtain⟨A,hA,hsrc⟩:∃A:Addr,(if cap=j then some (⟨g,0,none⟩:Addr) else some ⟨g,j*2,none⟩)=some A/\Hid (∀t u,news[t]?=some u->w.drew.cell? (A.add t)=some u):=by
    by_cases h:cap=j
    · refine⟨⟨g,0,none⟩,by simp[h],fun t u hu=>?_⟩
      have h0:news.length=0:=by rw[hl];omega
      rw[List.length_eq_zero_iff.1 h0]at hu;simp at hu
    · refine⟨⟨g,j*2,none⟩,by simp[h],fun t u hu=>?_⟩
      rw[Addr.add_lit];exact hnews t u hu
  have s1:Hid (news.length=(n-j)*2):=hl;have s2:Hid (∀u∈news,u.oneCell'=true):=h1;have s3:Hid (∀t,t<news.length->(w.drew.cell? ⟨g,0+i*2+t,none⟩).isSome=true/\w.drew.frozen? ⟨g,0+i*2+t,none⟩=false):=by
    intro t ht;rw[hl]at ht;rw[Nat.zero_add];exact hc (i*2+t) (by omega)
  obtain⟨W1,hW1⟩:∃W1,W1=w.drew.setCells g (0+i*2) news:=⟨_,rfl⟩;have hW1':W1=w.drew.setCells g (i*2) news:=by rw[hW1,Nat.zero_add]
  have hq:∀t,t<n*2->(W1.cell? ⟨g,t,none⟩).isSome=true/\W1.frozen? ⟨g,t,none⟩=false:=fun t ht=>by
    rw[hW1'];refine⟨?_,by rw[World.frozen?_setCells];exact(hc t ht).2⟩
    by_cases h:i*2<=t/\t<i*2+news.length
    · obtain⟨d,rfl⟩:∃d,t=i*2+d:=⟨t-i*2,by omega⟩
      rw[World.cell?_setCells_in g news (i*2) w.drew (fun r hr=>(hc (i*2+r) (by rw[hl]at hr;omega)).1) d (by omega)];rfl
    · rw[World.cell?_setCells_out g news (i*2) w.drew ⟨g,t,none⟩ (fun _ _=>by show t<_\/_<=t;omega)]
      exact(hc t ht).1
  have hcl:∀ty,(Builtin.clear_ #[233] ty #[.slice (some ⟨g,(i+(n-j))*2,none⟩) (n-(i+(n-j))) (cap-(i+(n-j)))]).run Tryz.prog W1=.ok (.tuple #[]) (W1.setCells g ((i+(n-j))*2) [.string ⟨#[]⟩,.string ⟨#[]⟩]):=fun ty=>by
    rw[hj1];exact rQo W1 ty g _ _ (hq _ (by omega)).1 (hq _ (by omega)).1 (hq _ (by omega)).2 (hq _ (by omega)).2
  have X:Hid (W1=w.drew.setCells g (i*2) news):=hW1';have hW:Hid (W1=w.drew.setCells g (0+i*2) news):=hW1;have hic:i<=cap:=by omega
  have hjc:j<=cap:=by omega
  have HJ:Hid (n-(i+(n-j))=1):=hj1;have hm:cap<=9223372036854775807:=hcap;clear hW1 hW1' hq hc hnews hl h1 hcap hj1;go_enter Tryz.func212,Tryz.ntmps212;go_wp2_with fail;go_region_law (refine step_append_room rfl (.tmp 22) (.tmp 25) 233 rfl 237 i0 2 Tryz.underlying233 hi0 hz1 g 0 i cap (by simp[Act.eval,Act.put]) A (n-j) (cap-j) news (by simp[Act.eval,Act.put]) s1.out hsrc.out s2.out (by omega) s3.out ?_;rw[<-hW.out])
  go_wp2
  go_ret;exact⟨rfl,by rw[X.out]⟩
theorem gQi {S:Nat->Prop}{w w':World}{base:Nat}{e:TypeId}{size:Nat}{v:Value}{n:Nat}{xs:List Value}(h:w.ownsRow base e size v n xs)(hb:Kept S w w')(hS:∀k,v.ownBlock=some k->¬S k):w'.ownsRow base e size v n xs:=by
  refine⟨h.1,?_⟩;rcases h.2 with hn|⟨g,cap,cur,rfl,hb1,hg,rest⟩
  · exact .inl hn
  · exact .inr ⟨g,cap,cur,rfl,hb1,by rw[hb.block g (Array.getElem?_eq_some_iff.1 hg).1 (hS g rfl)];exact hg,rest⟩
theorem sQ1 {w:World}{base cap n:Nat}{v1:Option Addr}{ns:List (List UInt8)}{kg:List UInt8->List UInt8}{i:Nat}(hi:i<ns.length)(hown:w.ownsRow base 237 2 (.slice v1 n cap) ns.length (ns.flatMap (G4 kg))) :
    Calls Tryz.prog 212 #[.slice v1 n cap,.int .i64 i,.int .i64 ((i+1:Nat):Int)] w fun e w'=>∃m,e=.returned (.slice v1 m cap)/\
      w'.ownsRow base 237 2 (.slice v1 m cap) (ns.eraseIdx i).length ((ns.eraseIdx i).flatMap (G4 kg))/\Kept (fun k=>(Value.slice v1 n cap).ownBlock=some k) w w':=by
  rcases hown.2 with⟨e,h0⟩|⟨g,c',cur,e,hbg,hg,hn,hm,hsz,htk⟩
  · omega
  injection e with e1 e2 e3;subst e1;subst e2;subst e3;have hcell:∀t,t<ns.length*2->w.cell? ⟨g,t,none⟩=(ns.flatMap (G4 kg))[t]?:=fun t ht=>by
    rw[<-htk,List.getElem?_take,if_pos ht,Array.getElem?_toList];simp[World.cell?,hg]
  have hfr:∀t,w.frozen? ⟨g,t,none⟩=false:=fun t=>by simp[World.frozen?,hg]
  have hlen:=fQz kg ns;have hel:(ns.eraseIdx i).length=i+(ns.length-(i+1)):=by rw[List.length_eraseIdx,if_pos hi];omega
  have hone:∀u∈ns.flatMap (G4 kg),u.oneCell'=true:=fun u hu=>by
    obtain⟨x,_,hx⟩:=List.mem_flatMap.1 hu;simp[G4]at hx;rcases hx with rfl|rfl<;>rfl
  refine(sQ0 g ns.length cap i (i+1) ((ns.flatMap (G4 kg)).drop ((i+1)*2)) w (by omega) (by omega) (by omega) hn hm (by rw[List.length_drop,hlen];omega) (fun u hu=>hone u (List.mem_of_mem_drop hu))
    (fun t u hu=>by rw[List.getElem?_drop]at hu;rw[hcell _ (by have:=(List.getElem?_eq_some_iff.1 hu).1;omega)];exact hu) (fun t ht=>⟨by rw[hcell t ht,List.getElem?_eq_getElem (by omega)];rfl,hfr t⟩)).mono ?_
  rintro e w' ⟨rfl,rfl⟩;have hsz1:(Z0 cur (i*2) ((ns.flatMap (G4 kg)).drop ((i+1)*2))).size=cap*2:=by rw[eQd,hsz]
  refine⟨_,rfl,⟨by rw[fQz],.inr ⟨g,cap,_,by rw[hel],hbg,gQl _ _ _ _ (gQl _ _ w.drew cur hg),by omega,hm,by rw[eQd,eQd,hsz],?_⟩⟩,?_⟩
  · apply List.ext_getElem?
    intro t;rw[List.getElem?_take,hel]
    by_cases ht:t<(i+(ns.length-(i+1)))*2
    · rw[if_pos ht,Array.getElem?_toList,gQk _ _ _ (by rw[hsz1];simp;omega),if_neg (by omega),gQk _ _ _ (by rw[hsz,List.length_drop,hlen];omega),rQe]
      by_cases h1:t<i*2
      · rw[if_neg (by omega),List.getElem?_append_left (by rw[List.length_take,hlen];omega),List.getElem?_take,if_pos h1,<-htk,List.getElem?_take,if_pos (by omega),Array.getElem?_toList]
      · rw[if_pos (by rw[List.length_drop,hlen];omega),List.getElem?_append_right (by rw[List.length_take,hlen];omega),List.length_take,hlen,Nat.min_eq_left (by omega)]
    · rw[if_neg ht,List.getElem?_eq_none (by rw[fQz,hel];omega)]
  · have k1:Kept (fun k=>k=g) w w.drew:=⟨rfl,rfl,rfl,Nat.le_refl _,fun _ _ _=>rfl⟩
    exact((k1.trans (hQl _ _ _)).trans (hQl _ _ _)).mono (fun k hk=>by rw[hk];rfl)
def fQm (w:World)(base sb:Nat)(v:Value)(kg:List UInt8->List UInt8)(ns:List (List UInt8))(k:List UInt8):Ending->World->Prop:=fun e w'=>
  ∃v',v'.ownBlock=v.ownBlock/\Kept (fun k=>k=sb\/v.ownBlock=some k) w w'/\
    ((D1 (fun n=>kg n==k) ns=none/\e=.returned (.tuple #[A4 [],.bool false])/\StockV w' base sb v' kg ns)\/
     ∃n r,D1 (fun n=>kg n==k) ns=some (n,r)/\e=.returned (.tuple #[A4 n,.bool true])/\StockV w' base sb v' kg r)
theorem StockV.below {w w':World}{base sb:Nat}{v:Value}{kg:List UInt8->List UInt8}{ns:List (List UInt8)}(h:StockV w base sb v kg ns)(hb:Below w.heap.size w w'):StockV w' base sb v kg ns:=⟨h.blk.below hb h.blk.lt,gQi (S:=fun _=>False) h.own (Kept.of hb) (fun _ _ h=>h),h.ap⟩
theorem bXo (base sb:Nat)(v:Value)(kg:List UInt8->List UInt8)(ns:List (List UInt8))(hns:ns.length<=1048576)(k:List UInt8)(w:World)(h:StockV w base sb v kg ns) :
    Calls Tryz.prog 200 #[.pointer (some ⟨sb,0,none⟩),A4 k] w (fQm w base sb v kg ns k):=by
  have HS:Hid (StockV w base sb v kg ns):=h;have hown:=h.own;obtain⟨v1,v2,v3,rfl⟩:=cQy hown;have hv2:v2=ns.length:=by
    rcases hown.2 with⟨e,h0⟩|⟨g,cap,cur,e,_⟩
    · injection e with e1 e2 e3;omega
    · injection e with e1 e2 e3
  subst hv2;obtain⟨b0,b1⟩:=h.blk.one;have HX:Hid (∀W,Below w.heap.size w W->(∀j (hj:j<ns.length),∃g,v1=some ⟨g,0,none⟩/\W.cell? ⟨g,j*2,none⟩=some (A4 (kg ns[j]))/\W.cell? ⟨g,j*2+1,none⟩=some (A4 ns[j]))/\W.cell? ⟨sb,0,none⟩=some (.slice v1 ns.length v3)/\W.frozen? ⟨sb,0,none⟩=false):=fun W hW=>by
    have hW1:=HS.out.below hW;refine⟨fun j hj=>?_,hW1.blk.one⟩;rcases hW1.own.2 with⟨e,h0⟩|⟨g,cap,cur,e,_⟩
    · omega
    · injection e with e1 e2 e3
      subst e1;have:=iQo kg ns j hj;exact⟨g,rfl,by rw[hW1.own.cellAt _ (by omega),this.1],by rw[hW1.own.cellAt _ (by omega),this.2]⟩
  clear h hown;go_enter Tryz.func200,Tryz.ntmps200;go_wp2_with fail;go_loopw [13] (fun t wr=>∃j:Nat,j<=ns.length/\t=.int .i64 j/\Below w.heap.size w wr/\∀i,(hi:i<ns.length)->i<j->(kg ns[i]==k)=false) (fun t _=>ns.length-(intOf t).toNat)
  case atStart=>exact⟨0,Nat.zero_le _,rfl,Below.refl _ _,fun i _ h=>by omega⟩
  case round=>
    obtain⟨j,hj,rfl,hbw,hno⟩:=hrel;have HNo:Hid (∀i,(hi:i<ns.length)->i<j->(kg ns[i]==k)=false):=hno;clear hno
    by_cases hlt:j<ns.length
    · have hz0:(0:Int)<=(j:Int):=by omega
      have hz2:(j:Int)<(ns.length:Int):=by omega
      obtain⟨hcs,b0,b1⟩:=HX.out wr hbw;obtain⟨g,rfl,c0,c1⟩:=hcs j hlt;clear hcs;have HAt:Hid ((kg ns[j]==k)=true->D1 (fun n=>kg n==k) ns=some (ns[j],ns.eraseIdx j)):=fun hk=>by
        rcases mQ2 (fun n=>kg n==k) ns with⟨_,h2⟩|⟨i,hi,h1,h2,h3⟩
        · rw[h2 _ (List.getElem_mem hlt)]at hk;cases hk
        · have:i=j:=by
            rcases Nat.lt_trichotomy i j with h|h|h
            · rw[HNo.out i hi h]at h2;cases h2
            · exact h
            · rw[h3 j h]at hk;cases hk
          subst this;exact h1
      have HOn:Hid ((kg ns[j]==k)=false->∀i,(hi:i<ns.length)->i<j+1->(kg ns[i]==k)=false):=fun hk i hi hij=>by
        rcases Nat.lt_or_ge i j with h|h
        · exact HNo.out i hi h
        · have:i=j:=by omega
          subst this;exact hk
      generalize hx:ns[j]=x at *;clear hx;generalize kg x=kx at *;cases hkk:(kx==k) with
      | false=>
        have HO:Hid _:=HOn.out hkk;have hbA:Below w.heap.size w (wr.alloc (.cells #[A4 kx,A4 x] 237)):=Below.join hbw (A5 _ _);clear HOn HAt;go_wp2_with fail;go_roundw
        case rel=>exact⟨j+1,by omega,by go_num,hbA,HO.out⟩
        case measure=>simp[intOf];omega
      | true=>
        have HTk:Hid (D1 (fun n=>kg n==k) ns=some (x,ns.eraseIdx j)):=HAt.out hkk;have hbA:Below w.heap.size w (wr.alloc (.cells #[A4 kx,A4 x] 237)):=Below.join hbw (A5 _ _);have hSA:=HS.out.below hbA;obtain⟨d0,d1⟩:=hSA.blk.one;have HSA:Hid (StockV (wr.alloc (.cells #[A4 kx,A4 x] 237)) base sb (.slice (some ⟨g,0,none⟩) ns.length v3) kg ns):=hSA;have hD:=sQ1 hlt hSA.own;have HN:Hid (Blk (wr.alloc (.cells #[A4 kx,A4 x] 237)) wr.heap.size #[A4 kx,A4 x] 237):=Blk.new _ _ _;have HG:Hid (g<wr.heap.size):=Nat.lt_of_lt_of_le (HS.out.own.lt g rfl).2 hbw.size;have HZ:Hid (sb<wr.heap.size):=Nat.lt_of_lt_of_le HS.out.blk.lt hbw.size;clear HOn HAt hSA;go_wp2_with fail;refine hD.mono ?_;clear hD;rintro e w2 ⟨m,rfl,ho2,hk2⟩;have HB2:Hid (Blk w2 sb #[.slice (some ⟨g,0,none⟩) ns.length v3] 235):=HSA.out.blk.of (hk2.block sb HSA.out.blk.lt HSA.out.ap);have hC2:Blk w2 wr.heap.size #[A4 kx,A4 x] 237:=HN.out.of (hk2.block _ HN.out.lt (fun e=>by have:=HG.out;injection e with e;simp only at e;omega));obtain⟨f0,f1⟩:=HB2.out.one;obtain⟨q0,q1,q2,q3⟩:=hC2.two;have q1':(w2.setCell ⟨sb,0,none⟩ (.slice (some ⟨g,0,none⟩) m v3)).cell? ⟨wr.heap.size,1,none⟩=some (A4 x):=by
          rw[World.cell?_setCell_other _ _ _ _ (fun e=>by have:=HZ.out;injection e with e;omega)];exact q1
        have HP:Hid (fQm w base sb (.slice (some ⟨g,0,none⟩) ns.length v3) kg ns k (.returned (.tuple #[A4 x,.bool true])) (w2.setCell ⟨sb,0,none⟩ (.slice (some ⟨g,0,none⟩) m v3))):=by
          have k1:Kept (fun k=>k=sb) w2 (w2.setCell ⟨sb,0,none⟩ (.slice (some ⟨g,0,none⟩) m v3)):=⟨rfl,rfl,rfl,by simp[World.setCell],fun k _ hn=>Below.heap_setCell _ _ _ _ hn⟩;refine⟨.slice (some ⟨g,0,none⟩) m v3,rfl,((Kept.of hbA).trans (hk2.mono fun k hk=>.inr hk)).trans (k1.mono fun k hk=>.inl hk),.inr ⟨x,_,HTk.out,rfl,?_,?_,HSA.out.ap⟩⟩
          · have:=HB2.out
            unfold Blk at this ⊢;simp[World.setCell,Array.getElem?_modify,this]
          · exact gQi ho2 k1 (fun k hk e=>HSA.out.ap (by rw[<-e];exact hk))
        clear ho2 hC2 hk2;go_wp2_with fail;go_ret2;exact HP.out
    · have hz2:¬(j:Int)<(ns.length:Int):=by omega
      have HP:Hid (fQm w base sb (.slice v1 ns.length v3) kg ns k (.returned (.tuple #[A4 [],.bool false])) wr):=by
        refine⟨_,rfl,Kept.of hbw,.inl ⟨?_,rfl,HS.out.below hbw⟩⟩;rcases mQ2 (fun n=>kg n==k) ns with⟨h1,_⟩|⟨i,hi,_,h2,_⟩
        · exact h1
        · rw[HNo.out i hi (by omega)]at h2;cases h2
      go_wp2_with fail;go_ret2;exact HP.out
def fQf (w:World)(base sb:Nat)(v:Value)(kg:List UInt8->List UInt8)(ns:List (List UInt8))(k1 cr:List UInt8)(pu:List UInt8->List UInt8):Ending->World->Prop:=fun e w'=>
  ∃v',v'.ownBlock=v.ownBlock/\Kept (fun k=>k=sb\/v.ownBlock=some k) w w'/\
    ((D1 (fun n=>kg n==k1) ns=none/\e=.returned (A4 cr)/\StockV w' base sb v' kg ns)\/
     ∃n r,D1 (fun n=>kg n==k1) ns=some (n,r)/\e=.returned (A4 (pu n))/\StockV w' base sb v' kg r)
theorem xQl (one k1 cr:List UInt8)(pu:List UInt8->List UInt8)(base sb:Nat)(v:Value)(kg:List UInt8->List UInt8)(ns:List (List UInt8))(hns:ns.length<=1048576)(w:World)(p bf kb fk fc fu:Nat)(ck cc cu:Array Value)(h:StockV w base sb v kg ns)
    (hst:∀W:World,Kept (fun k=>k=sb\/v.ownBlock=some k) w W->W.cell? ⟨kb,0,none⟩=some (.func (.func fk) #[] ck)/\W.cell? ⟨bf,0,none⟩=some (.pointer (some ⟨p,0,none⟩))/\W.cell? ⟨p,5,none⟩=some (.func (.func fc) #[] cc)/\W.cell? ⟨p,6,none⟩=some (.func (.func fu) #[] cu))
    (hk:∀(x:Value) (W:World),(callFunc fk (#[x]++ck)).run Tryz.prog W=.ok (.enter fk (#[x]++ck)) W) (hc:∀(x:Value) (W:World),(callFunc fc (#[x]++cc)).run Tryz.prog W=.ok (.enter fc (#[x]++cc)) W) (hu:∀(x y:Value) (W:World),(callFunc fu (#[x,y]++cu)).run Tryz.prog W=.ok (.enter fu (#[x,y]++cu)) W)
    (HK:Calls Tryz.prog fk (#[A4 one]++ck) w fun e w'=>e=.returned (A4 k1)/\Below w.heap.size w w')
    (HPu:∀n r,D1 (fun n=>kg n==k1) ns=some (n,r)->∀W,Kept (fun k=>k=sb\/v.ownBlock=some k) w W->Calls Tryz.prog fu (#[A4 one,A4 n]++cu) W fun e w'=>e=.returned (A4 (pu n))/\Below W.heap.size W w')
    (HCr:D1 (fun n=>kg n==k1) ns=none->∀W,Kept (fun k=>k=sb\/v.ownBlock=some k) w W->Calls Tryz.prog fc (#[A4 one]++cc) W fun e w'=>e=.returned (A4 cr)/\Below W.heap.size W w') :
    Calls Tryz.prog 199 #[A4 one,.pointer (some ⟨sb,0,none⟩),.pointer (some ⟨kb,0,none⟩),.pointer (some ⟨bf,0,none⟩)] w (fQf w base sb v kg ns k1 cr pu):=by
  have HS:Hid (∀W:World,Kept (fun k=>k=sb\/v.ownBlock=some k) w W->W.cell? ⟨kb,0,none⟩=some (.func (.func fk) #[] ck)/\W.cell? ⟨bf,0,none⟩=some (.pointer (some ⟨p,0,none⟩))/\W.cell? ⟨p,5,none⟩=some (.func (.func fc) #[] cc)/\W.cell? ⟨p,6,none⟩=some (.func (.func fu) #[] cu)):=hst;have HST:Hid (StockV w base sb v kg ns):=h;have HP:Hid (∀n r,D1 (fun n=>kg n==k1) ns=some (n,r)->∀W,Kept (fun k=>k=sb\/v.ownBlock=some k) w W->Calls Tryz.prog fu (#[A4 one,A4 n]++cu) W fun e w'=>e=.returned (A4 (pu n))/\Below W.heap.size W w'):=HPu;have HC:Hid (D1 (fun n=>kg n==k1) ns=none->∀W,Kept (fun k=>k=sb\/v.ownBlock=some k) w W->Calls Tryz.prog fc (#[A4 one]++cc) W fun e w'=>e=.returned (A4 cr)/\Below W.heap.size W w'):=HCr;obtain⟨a0,a1,a2,a3⟩:=HS.out w (Kept.refl _ _);clear h hst HPu HCr;go_enter Tryz.func199,Tryz.ntmps199;go_wp2_with fail;refine HK.mono ?_;clear HK;rintro e w1 ⟨rfl,hb1⟩;have hT:=bXo base sb v kg ns hns k1 w1 (HST.out.below hb1);clear HST;go_wp2_with fail;refine hT.mono ?_;clear hT;rintro e w2 ⟨v',hv',hk2,⟨ht,rfl,hs2⟩|⟨n,r,ht,rfl,hs2⟩⟩
  · have hk:Kept (fun k=>k=sb\/v.ownBlock=some k) w w2:=(Kept.of hb1).trans hk2
    have hC:=HC.out ht w2 hk;obtain⟨a0,a1,a2,a3⟩:=HS.out w2 hk;have HQ:Hid (∀w3,Below w2.heap.size w2 w3->fQf w base sb v kg ns k1 cr pu (.returned (A4 cr)) w3):=fun w3 hb3=>⟨v',hv',hk.trans (Kept.of hb3),.inl ⟨ht,rfl,hs2.below hb3⟩⟩;clear ht hs2;go_wp2_with fail;refine hC.mono ?_;clear hC;rintro e w3 ⟨rfl,hb3⟩;go_wp2_with fail;go_ret;exact HQ.out w3 hb3
  · have hk:Kept (fun k=>k=sb\/v.ownBlock=some k) w w2:=(Kept.of hb1).trans hk2
    have hC:=HP.out n r ht w2 hk;obtain⟨a0,a1,a2,a3⟩:=HS.out w2 hk;have HQ:Hid (∀w3,Below w2.heap.size w2 w3->fQf w base sb v kg ns k1 cr pu (.returned (A4 (pu n))) w3):=fun w3 hb3=>⟨v',hv',hk.trans (Kept.of hb3),.inr ⟨n,r,ht,rfl,hs2.below hb3⟩⟩;clear ht hs2;go_wp2_with fail;refine hC.mono ?_;clear hC;rintro e w3 ⟨rfl,hb3⟩;go_wp2_with fail;go_ret;exact HQ.out w3 hb3
theorem StockV.on {w w':World}{base sb n:Nat}{v:Value}{kg:List UInt8->List UInt8}{ns:List (List UInt8)}(h:StockV w base sb v kg ns)(hs:sb<n)(ho:∀k,v.ownBlock=some k->k<n)(hw:∀k,k<n->w'.heap[k]?=w.heap[k]?):StockV w' base sb v kg ns:=by
  refine⟨h.blk.of (hw sb hs),⟨h.own.1,?_⟩,h.ap⟩;rcases h.own.2 with hn|⟨g,cap,cur,rfl,hb1,hg,rest⟩
  · exact .inl hn
  · exact .inr ⟨g,cap,cur,rfl,hb1,by rw[hw g (ho g rfl)];exact hg,rest⟩
theorem sQ2 (ms ns:List (List UInt8))(hms:ms.length<=1048576)(hns:ns.length<=1048576)(hml:∀x,x∈ms->x.length<=60)(κ g cr:List UInt8->List UInt8)(pu:List UInt8->List UInt8->List UInt8)(hlen:(J4 κ pu cr g ms ns).flatten.length<=70368744177664)
    (w:World) (p bf kb fk fc fu:Nat) (ck cc cu:Array Value) (hst:∀W:World,Below w.heap.size w W->W.cell? ⟨kb,0,none⟩=some (.func (.func fk) #[] ck)/\W.cell? ⟨bf,0,none⟩=some (.pointer (some ⟨p,0,none⟩))/\W.cell? ⟨p,5,none⟩=some (.func (.func fc) #[] cc)/\W.cell? ⟨p,6,none⟩=some (.func (.func fu) #[] cu)) (hk:∀(x:Value) (W:World),(callFunc fk (#[x]++ck)).run Tryz.prog W=.ok (.enter fk (#[x]++ck)) W) (hc:∀(x:Value) (W:World),(callFunc fc (#[x]++cc)).run Tryz.prog W=.ok (.enter fc (#[x]++cc)) W) (hu:∀(x y:Value) (W:World),(callFunc fu (#[x,y]++cu)).run Tryz.prog W=.ok (.enter fu (#[x,y]++cu)) W)
    (HK:∀W,Below w.heap.size w W->∀x:List UInt8,x.length<=70368744177664->Calls Tryz.prog fk (#[A4 x]++ck) W fun e w'=>e=.returned (A4 (κ x))/\Below W.heap.size W w') (HU:∀W,Below w.heap.size w W->∀x y,x∈ms->y∈ns->Calls Tryz.prog fu (#[A4 x,A4 y]++cu) W fun e w'=>e=.returned (A4 (pu x y))/\Below W.heap.size W w') (HC:∀W,Below w.heap.size w W->∀x,x∈ms->Calls Tryz.prog fc (#[A4 x]++cc) W fun e w'=>e=.returned (A4 (cr x))/\Below W.heap.size W w')
    (W:World) (hW:Below w.heap.size w W) (base sb:Nat) (v:Value) (hS:StockV W base sb v (fun n=>κ (g n)) ns) (hsb:w.heap.size<=sb) (hbs:w.heap.size<=base) (rv:Value) (rb:Nat) (hown:W.ownsRow rb 9 1 rv ms.length (ms.map A4)) (hsr:sb<rb) (hvr:∀k,v.ownBlock=some k->k<rb) :
    Calls Tryz.prog 195 #[rv,.func (.func 199) #[] #[.pointer (some ⟨sb,0,none⟩),.pointer (some ⟨kb,0,none⟩),.pointer (some ⟨bf,0,none⟩)]] W fun e w'=>e=.returned (A4 (J4 κ pu cr g ms ns).flatten)/\Below w.heap.size w w':=by
  have hSl:∀k,(k=sb\/v.ownBlock=some k)->k<W.heap.size:=fun k hk=>by
    rcases hk with rfl|hk
    · exact hS.blk.lt
    · exact(hS.own.lt k hk).2
  have hSb:∀k,(k=sb\/v.ownBlock=some k)->w.heap.size<=k:=fun k hk=>by
    rcases hk with rfl|hk
    · exact hsb
    · exact Nat.le_trans hbs (hS.own.lt k hk).1
  have up:∀W',Kept (fun k=>k=sb\/v.ownBlock=some k) W W'->Below w.heap.size w W':=fun W' h=>hW.trans (h.below hW.size hSb);refine(kQx ms (J4 κ pu cr g ms ns) hms (hQh _ _) hlen 199 #[.pointer (some ⟨sb,0,none⟩),.pointer (some ⟨kb,0,none⟩),.pointer (some ⟨bf,0,none⟩)] rv W rb hown (fun k=>k=sb\/v.ownBlock=some k) hSl (fun k hk hs=>?_)
    (fun j W'=>∃v',v'.ownBlock=v.ownBlock/\StockV W' base sb v' (fun n=>κ (g n)) (M1 κ g (ms.take j) ns)) ⟨v,rfl,hS⟩ (fun j W1 W2 hI hh=>by obtain⟨v',h1,h2⟩:=hI;exact⟨v',h1,h2.on hS.blk.lt (fun k hk=>hSl k (.inr (by rw[<-h1];exact hk))) hh⟩) (fun _ _=>by kernel_rfl) (fun W1 j hj hK1 hI=>?_)).mono (fun e w' h=>⟨h.1,up w' h.2⟩)
  · have:=(hown.lt k hk).1
    rcases hs with rfl|hs
    · omega
    · have:=hvr k hs;omega
  · obtain⟨v',hv',hS1⟩:=hI
    have hmem:ms[j]∈ms:=List.getElem_mem _;have hle:∀x,x∈M1 κ g (ms.take j) ns->x∈ns:=gQn _ _;have hlt:(M1 κ g (ms.take j) ns).length<=1048576:=Nat.le_trans (gQm _ _) hns;have up1:∀W',Kept (fun k=>k=sb\/v'.ownBlock=some k) W1 W'->Below w.heap.size w W':=fun W' h=>up W' (hK1.trans (h.mono (fun k hk=>by rw[hv']at hk;exact hk)));refine(xQl ms[j] (κ ms[j]) (cr ms[j]) (pu ms[j]) base sb v' (fun n=>κ (g n)) (M1 κ g (ms.take j) ns) hlt W1 p bf kb fk fc fu ck cc cu hS1 (fun W' h=>hst W' (up1 W' h)) hk hc hu
      (HK W1 (up W1 hK1) ms[j] (by have:=hml _ hmem;omega)) (fun n r ht W' h=>HU W' (up1 W' h) ms[j] n hmem (hle n (eQ4 _ _ n r ht).1)) (fun _ W' h=>HC W' (up1 W' h) ms[j] hmem)).mono ?_
    rintro e w' ⟨v2,hv2,hk2,hor⟩;have hk3:Kept (fun k=>k=sb\/v.ownBlock=some k) W1 w':=hk2.mono (fun k hk=>by rw[hv']at hk;exact hk);rw[hQg ms ns j hj,gQo ms ns j hj];rcases hor with⟨ht,rfl,hs2⟩|⟨n,r,ht,rfl,hs2⟩
    · rw[ht];exact⟨rfl,hk3,v2,hv2.trans hv',hs2⟩
    · rw[ht];exact⟨rfl,hk3,v2,hv2.trans hv',hs2⟩
theorem zQi (vt so:List UInt8)(ms ns:List (List UInt8))(hms:ms.length<=1048576)(hns:ns.length<=1048576)(hml:∀x,x∈ms->x.length<=60)(κ g cr:List UInt8->List UInt8)(pu:List UInt8->List UInt8->List UInt8)(hgl:∀x,x∈ns->(g x).length<=70368744177664)(hlen:(J4 κ pu cr g ms ns).flatten.length<=70368744177664)
    (w:World) (p bf br kb:Nat) (t1 t2 r1 r2:TypeId) (y1 y2 z1 z2:Value) (n1 n2 m1 m2 fg fk fc fu:Nat) (cg ck cc cu:Array Value)
    (hp:Blk w p (I3 t1 y1 n1 r1 z1 m1 (.func (.func fg) #[] cg) (.func (.func fc) #[] cc) (.func (.func fu) #[] cu)) 98) (hf:Blk w bf #[.pointer (some ⟨p,0,none⟩)] 78) (hr:Blk w br #[.iface t2 y2,.pointer (some ⟨n2,0,none⟩),.iface r2 z2,.pointer (some ⟨m2,0,none⟩)] 94) (hkb:Blk w kb #[.func (.func fk) #[] ck] 95)
    (hg:∀(x:Value) (W:World),(callFunc fg (#[x]++cg)).run Tryz.prog W=.ok (.enter fg (#[x]++cg)) W) (hk:∀(x:Value) (W:World),(callFunc fk (#[x]++ck)).run Tryz.prog W=.ok (.enter fk (#[x]++ck)) W) (hc:∀(x:Value) (W:World),(callFunc fc (#[x]++cc)).run Tryz.prog W=.ok (.enter fc (#[x]++cc)) W) (hu:∀(x y:Value) (W:World),(callFunc fu (#[x,y]++cu)).run Tryz.prog W=.ok (.enter fu (#[x,y]++cu)) W)
    (HPS:∀W,Below w.heap.size w W->Calls Tryz.prog 196 #[C8 (.iface t1 y1) n1,C8 (.iface t2 y2) n2,A4 so] W fun e w'=>∃v1 v2 v3,e=.returned (.slice v1 v2 v3)/\w'.ownsRow W.heap.size 9 1 (.slice v1 v2 v3) ns.length (ns.map A4)/\Below W.heap.size W w')
    (HPV:∀W,Below w.heap.size w W->Calls Tryz.prog 196 #[C8 (.iface r1 z1) m1,C8 (.iface r2 z2) m2,A4 vt] W fun e w'=>∃v1 v2 v3,e=.returned (.slice v1 v2 v3)/\w'.ownsRow W.heap.size 9 1 (.slice v1 v2 v3) ms.length (ms.map A4)/\Below W.heap.size W w')
    (HG:∀W,Below w.heap.size w W->∀x,x∈ns->Calls Tryz.prog fg (#[A4 x]++cg) W fun e w'=>e=.returned (A4 (g x))/\Below W.heap.size W w') (HK:∀W,Below w.heap.size w W->∀x:List UInt8,x.length<=70368744177664->Calls Tryz.prog fk (#[A4 x]++ck) W fun e w'=>e=.returned (A4 (κ x))/\Below W.heap.size W w') (HU:∀W,Below w.heap.size w W->∀x y,x∈ms->y∈ns->Calls Tryz.prog fu (#[A4 x,A4 y]++cu) W fun e w'=>e=.returned (A4 (pu x y))/\Below W.heap.size W w') (HC:∀W,Below w.heap.size w W->∀x,x∈ms->Calls Tryz.prog fc (#[A4 x]++cc) W fun e w'=>e=.returned (A4 (cr x))/\Below W.heap.size W w') :
    Calls Tryz.prog 198 #[A4 vt,A4 so,.pointer (some ⟨bf,0,none⟩),.pointer (some ⟨br,0,none⟩),.pointer (some ⟨kb,0,none⟩)] w fun e w'=>e=.returned (A4 (J4 κ pu cr g ms ns).flatten)/\Below w.heap.size w w':=by
  have HS:Hid (∀W:World,Below w.heap.size w W->(W.cell? ⟨p,0,none⟩=some (.iface t1 y1)/\W.cell? ⟨p,1,none⟩=some (.pointer (some ⟨n1,0,none⟩))/\W.cell? ⟨p,2,none⟩=some (.iface r1 z1)/\W.cell? ⟨p,3,none⟩=some (.pointer (some ⟨m1,0,none⟩))/\W.cell? ⟨p,4,none⟩=some (.func (.func fg) #[] cg))/\(W.cell? ⟨br,0,none⟩=some (.iface t2 y2)/\W.cell? ⟨br,1,none⟩=some (.pointer (some ⟨n2,0,none⟩))/\W.cell? ⟨br,2,none⟩=some (.iface r2 z2)/\W.cell? ⟨br,3,none⟩=some (.pointer (some ⟨m2,0,none⟩)))/\W.cell? ⟨bf,0,none⟩=some (.pointer (some ⟨p,0,none⟩))/\W.cell? ⟨kb,0,none⟩=some (.func (.func fk) #[] ck)):=fun W hW=>by
    obtain⟨a0,a1,a2,a3,a4,_,_⟩:=(hp.below hW hp.lt).seven;have hb:=hr.below hW hr.lt;exact⟨⟨a0,a1,a2,a3,a4⟩,⟨hb.cell 0,hb.cell 1,hb.cell 2,hb.cell 3⟩,(hf.below hW hf.lt).cell 0,(hkb.below hW hkb.lt).cell 0⟩
  have HE:Hid (∀(W:World),Below w.heap.size w W->∀(base sb:Nat) (v:Value),StockV W base sb v (fun n=>κ (g n)) ns->w.heap.size<=sb->w.heap.size<=base->∀(rv:Value) (rb:Nat),W.ownsRow rb 9 1 rv ms.length (ms.map A4)->sb<rb->(∀k,v.ownBlock=some k->k<rb)->
      Calls Tryz.prog 195 #[rv,.func (.func 199) #[] #[.pointer (some ⟨sb,0,none⟩),.pointer (some ⟨kb,0,none⟩),.pointer (some ⟨bf,0,none⟩)]] W fun e w'=>e=.returned (A4 (J4 κ pu cr g ms ns).flatten)/\Below w.heap.size w w'):=
    sQ2 ms ns hms hns hml κ g cr pu hlen w p bf kb fk fc fu ck cc cu (fun W hW=>by
      obtain⟨_,_,_,_,_,a5,a6⟩:=(hp.below hW hp.lt).seven;exact⟨(hkb.below hW hkb.lt).cell 0,(hf.below hW hf.lt).cell 0,a5,a6⟩) hk hc hu HK HU HC
  have H1:Hid (∀W,Below w.heap.size w W->Calls Tryz.prog 196 #[C8 (.iface t1 y1) n1,C8 (.iface t2 y2) n2,A4 so] W fun e w'=>∃v1 v2 v3,e=.returned (.slice v1 v2 v3)/\w'.ownsRow W.heap.size 9 1 (.slice v1 v2 v3) ns.length (ns.map A4)/\Below W.heap.size W w'):=HPS;have H2:Hid (∀W,Below w.heap.size w W->Calls Tryz.prog 196 #[C8 (.iface r1 z1) m1,C8 (.iface r2 z2) m2,A4 vt] W fun e w'=>∃v1 v2 v3,e=.returned (.slice v1 v2 v3)/\w'.ownsRow W.heap.size 9 1 (.slice v1 v2 v3) ms.length (ms.map A4)/\Below W.heap.size W w'):=HPV;have H3:Hid (∀W,Below w.heap.size w W->∀x,x∈ns->Calls Tryz.prog fg (#[A4 x]++cg) W fun e w'=>e=.returned (A4 (g x))/\Below W.heap.size W w'):=HG;have H4:Hid (∀W,Below w.heap.size w W->∀x:List UInt8,x.length<=70368744177664->Calls Tryz.prog fk (#[A4 x]++ck) W fun e w'=>e=.returned (A4 (κ x))/\Below W.heap.size W w'):=HK;have H5:Hid (∀x,x∈ns->(g x).length<=70368744177664):=hgl;have hmf:∀(fn:Fn) (first cap:Array Value) (w:World),(Instr.makeFunc fn first cap).run Tryz.prog w=.ok (.func fn first cap) w:=fun _ _ _ _=>rfl;have hb0:Below w.heap.size w (w.alloc (.cells #[.slice none 0 0] 235)):=A5 w _;have HB0:Hid (Blk (w.alloc (.cells #[.slice none 0 0] 235)) w.heap.size #[.slice none 0 0] 235):=Blk.new _ _ _;obtain⟨⟨a0,a1,a2,a3,a4⟩,⟨b0,b1,b2,b3⟩,e0,e1⟩:=HS.out (w.alloc (.cells #[.slice none 0 0] 235)) hb0;generalize (J4 κ pu cr g ms ns).flatten=outF at *;clear hp hf hr hkb HPS HPV HG HK HU HC hml hgl hlen;go_enter Tryz.func198,Tryz.ntmps198;go_upto_region 2 with (fail);generalize (w.alloc (.cells #[.slice none 0 0] 235))=w0 at *;go_region_held (fun w'=>(w'.cell? ⟨p,0,none⟩=some (.iface t1 y1)/\w'.cell? ⟨p,1,none⟩=some (.pointer (some ⟨n1,0,none⟩))/\w'.cell? ⟨p,2,none⟩=some (.iface r1 z1)/\w'.cell? ⟨p,3,none⟩=some (.pointer (some ⟨m1,0,none⟩))/\w'.cell? ⟨p,4,none⟩=some (.func (.func fg) #[] cg))/\(w'.cell? ⟨br,0,none⟩=some (.iface t2 y2)/\w'.cell? ⟨br,1,none⟩=some (.pointer (some ⟨n2,0,none⟩))/\w'.cell? ⟨br,2,none⟩=some (.iface r2 z2)/\w'.cell? ⟨br,3,none⟩=some (.pointer (some ⟨m2,0,none⟩)))/\w'.cell? ⟨bf,0,none⟩=some (.pointer (some ⟨p,0,none⟩))/\w'.cell? ⟨kb,0,none⟩=some (.func (.func fk) #[] ck)) (first|with_reducible assumption|with_reducible exact HS.out _ hb0.drew|with_reducible exact HS.out _ hcur)
    (first
      | (go_at_call 196;refine(H1.out _ ?_).mono ?_;exact hb0.drew;rintro e w2 ⟨v1,v2,v3,rfl,ho2,hb2d⟩;have hb2:Below w0.heap.size w0 w2:=Below.join (Below.refl _ _).drew hb2d;have hcur:Below w.heap.size w w2:=Below.join hb0.drew hb2d))
  all_goals
    have HB2:Hid (Blk w2 w.heap.size #[.slice none 0 0] 235):=HB0.out.below hb2 HB0.out.lt;have hz0:w.heap.size<w0.heap.size:=HB0.out.lt;have hbw2:Below w.heap.size w w2:=hcur;have hz2:=hb2.size;have HRow:Hid (∀W,Kept (fun k=>k=w.heap.size) w2 W->∀j (hj:j<ns.length),∃gg,v1=some ⟨gg,0,none⟩/\W.cell? ⟨gg,j,none⟩=some (A4 ns[j])):=fun W hW j hj=>by
      rcases ho2.2 with⟨e,h0⟩|⟨gg,cap,cur,e,_⟩
      · omega
      · injection e with e1 e2 e3
        subst e1;subst e2;subst e3;have hlt:=ho2.lt gg rfl;have hge:w0.heap.size<=gg:=hlt.1;refine⟨gg,rfl,?_⟩;rw[World.cell?_of_block (w:=w2) (a:=⟨gg,j,none⟩) (hW.block gg hlt.2 (fun e=>Nat.lt_irrefl _ (Nat.lt_of_lt_of_le hz0 (e▸hge)))),ho2.cellAt j (by omega),List.getElem?_map,List.getElem?_eq_getElem hj];rfl
    have hv2:v2=ns.length:=by
      rcases ho2.2 with⟨e,h0⟩|⟨gg,cap,cur,e,_⟩
      · injection e with e1 e2 e3;omega
      · injection e with e1 e2 e3
    subst hv2;have HS0:Hid (StockV w2 w2.heap.size w.heap.size (.slice none 0 0) (fun n=>κ (g n)) (ns.take 0)):=⟨HB2.out,⟨rfl,.inl ⟨rfl,rfl⟩⟩,by simp[Value.ownBlock]⟩;have Hsm:Hid (w.heap.size<w2.heap.size):=by show _<_;omega
    clear ho2 hcur;go_wp2_with fail;go_loopw [21] (fun t wr=>∃j:Nat,j<=ns.length/\t=.int .i64 j/\(∃v,StockV wr w2.heap.size w.heap.size v (fun n=>κ (g n)) (ns.take j))/\Kept (fun k=>k=w.heap.size) w2 wr) (fun t _=>ns.length-(intOf t).toNat)
    case atStart=>exact⟨0,Nat.zero_le _,rfl,⟨_,HS0.out⟩,Kept.refl _ _⟩
    case round=>
      obtain⟨j,hj,rfl,⟨v,hSt⟩,hkw⟩:=hrel;obtain⟨q1,q2,q3,rfl⟩:=cQy hSt.own;have hbw:Below w.heap.size w wr:=hbw2.trans (hkw.below hbw2.size (fun k hk=>by omega));have HSt:Hid (StockV wr w2.heap.size w.heap.size (.slice q1 q2 q3) (fun n=>κ (g n)) (ns.take j)):=hSt;have HKw:Hid (Kept (fun k=>k=w.heap.size) w2 wr):=hkw;clear hSt hkw
      by_cases hlt:j<ns.length
      · have hj0:(0:Int)<=(j:Int):=by omega
        have hj2:(j:Int)<(ns.length:Int):=by omega
        obtain⟨gg,rfl,hcell⟩:=HRow.out wr HKw.out j hlt;obtain⟨⟨a0,a1,a2,a3,a4⟩,⟨b0,b1,b2,b3⟩,e0,e1⟩:=HS.out wr hbw;obtain⟨s0,s1⟩:=HSt.out.blk.one;have HS7:Hid (∀W W7:World,Below wr.heap.size wr W->Below w2.heap.size W W7->(W7.cell? ⟨p,0,none⟩=some (.iface t1 y1)/\W7.cell? ⟨p,1,none⟩=some (.pointer (some ⟨n1,0,none⟩))/\W7.cell? ⟨p,2,none⟩=some (.iface r1 z1)/\W7.cell? ⟨p,3,none⟩=some (.pointer (some ⟨m1,0,none⟩))/\W7.cell? ⟨p,4,none⟩=some (.func (.func fg) #[] cg))/\(W7.cell? ⟨br,0,none⟩=some (.iface t2 y2)/\W7.cell? ⟨br,1,none⟩=some (.pointer (some ⟨n2,0,none⟩))/\W7.cell? ⟨br,2,none⟩=some (.iface r2 z2)/\W7.cell? ⟨br,3,none⟩=some (.pointer (some ⟨m2,0,none⟩)))/\W7.cell? ⟨bf,0,none⟩=some (.pointer (some ⟨p,0,none⟩))/\W7.cell? ⟨kb,0,none⟩=some (.func (.func fk) #[] ck)/\W7.frozen? ⟨w.heap.size,0,none⟩=false):=fun W W7 hW hW7=>by
          obtain⟨h1,h2,h3,h4⟩:=HS.out W7 ((Below.join hbw hW).trans (hW7.mono hbw2.size));obtain⟨h5,h6⟩:=((HSt.out.below hW).blk.below hW7 Hsm.out).one;exact⟨h1,h2,h3,h4,h6⟩
        have HSb:Hid (∀W:World,Below wr.heap.size wr W->W.cell? ⟨w.heap.size,0,none⟩=some (.slice q1 q2 q3)):=fun W hW=>(HSt.out.below hW).blk.cell 0;have HS9:Hid (∀W W7:World,Below wr.heap.size wr W->Below w2.heap.size W W7->W7.cell? ⟨w.heap.size,0,none⟩=some (.slice q1 q2 q3)):=fun W W7 hW hW7=>((HSt.out.below hW).blk.below hW7 Hsm.out).cell 0;have HS8:Hid (∀W:World,Below w.heap.size w W->W.frozen? ⟨w.heap.size,0,none⟩=false->∀u,((W.setCell ⟨w.heap.size,0,none⟩ u).cell? ⟨p,0,none⟩=some (.iface t1 y1)/\(W.setCell ⟨w.heap.size,0,none⟩ u).cell? ⟨p,1,none⟩=some (.pointer (some ⟨n1,0,none⟩))/\(W.setCell ⟨w.heap.size,0,none⟩ u).cell? ⟨p,2,none⟩=some (.iface r1 z1)/\(W.setCell ⟨w.heap.size,0,none⟩ u).cell? ⟨p,3,none⟩=some (.pointer (some ⟨m1,0,none⟩))/\(W.setCell ⟨w.heap.size,0,none⟩ u).cell? ⟨p,4,none⟩=some (.func (.func fg) #[] cg))/\((W.setCell ⟨w.heap.size,0,none⟩ u).cell? ⟨br,0,none⟩=some (.iface t2 y2)/\(W.setCell ⟨w.heap.size,0,none⟩ u).cell? ⟨br,1,none⟩=some (.pointer (some ⟨n2,0,none⟩))/\(W.setCell ⟨w.heap.size,0,none⟩ u).cell? ⟨br,2,none⟩=some (.iface r2 z2)/\(W.setCell ⟨w.heap.size,0,none⟩ u).cell? ⟨br,3,none⟩=some (.pointer (some ⟨m2,0,none⟩)))/\(W.setCell ⟨w.heap.size,0,none⟩ u).cell? ⟨bf,0,none⟩=some (.pointer (some ⟨p,0,none⟩))/\(W.setCell ⟨w.heap.size,0,none⟩ u).cell? ⟨kb,0,none⟩=some (.func (.func fk) #[] ck)/\(W.setCell ⟨w.heap.size,0,none⟩ u).frozen? ⟨w.heap.size,0,none⟩=false):=fun W hW hf u=>by
          obtain⟨h1,h2,h3,h4⟩:=HS.out (W.setCell ⟨w.heap.size,0,none⟩ u) (hW.setCell (p:=⟨w.heap.size,0,none⟩) (Nat.le_refl _) u);exact⟨h1,h2,h3,h4,by rw[World.frozen?_setCell];exact hf⟩
        have HS5:Hid (∀W:World,Below wr.heap.size wr W->(W.cell? ⟨p,0,none⟩=some (.iface t1 y1)/\W.cell? ⟨p,1,none⟩=some (.pointer (some ⟨n1,0,none⟩))/\W.cell? ⟨p,2,none⟩=some (.iface r1 z1)/\W.cell? ⟨p,3,none⟩=some (.pointer (some ⟨m1,0,none⟩))/\W.cell? ⟨p,4,none⟩=some (.func (.func fg) #[] cg))/\(W.cell? ⟨br,0,none⟩=some (.iface t2 y2)/\W.cell? ⟨br,1,none⟩=some (.pointer (some ⟨n2,0,none⟩))/\W.cell? ⟨br,2,none⟩=some (.iface r2 z2)/\W.cell? ⟨br,3,none⟩=some (.pointer (some ⟨m2,0,none⟩)))/\W.cell? ⟨bf,0,none⟩=some (.pointer (some ⟨p,0,none⟩))/\W.cell? ⟨kb,0,none⟩=some (.func (.func fk) #[] ck)/\W.frozen? ⟨w.heap.size,0,none⟩=false):=fun W hW=>HS7.out W W hW (Below.refl _ _);have HGj:Hid (∀W,Below wr.heap.size wr W->Calls Tryz.prog fg (#[A4 ns[j]]++cg) W fun e w'=>e=.returned (A4 (g ns[j]))/\Below W.heap.size W w'):=fun W hW=>H3.out W (Below.join hbw hW) _ (List.getElem_mem _);have HKj:Hid (∀W,Below wr.heap.size wr W->Calls Tryz.prog fk (#[A4 (g ns[j])]++ck) W fun e w'=>e=.returned (A4 (κ (g ns[j])))/\Below W.heap.size W w'):=fun W hW=>H4.out W (Below.join hbw hW) _ (H5.out _ (List.getElem_mem _));have HT:Hid (ns.take (j+1)=ns.take j++[ns[j]]):=List.take_succ_eq_append_getElem hlt;have hLl:(ns.take j).length<=1048576:=by rw[List.length_take];omega
        have hLz:=(Kept.size HKw.out);obtain⟨iq,hq,hq0,hq1,hqb⟩:=info_parts jQu;have HLt:Hid (∀k,(Value.slice q1 q2 q3).ownBlock=some k->w2.heap.size<=k):=fun k hk=>(HSt.out.own.lt k hk).1;have HOw:Hid (∀W,Below wr.heap.size wr W->W.ownsRow w2.heap.size 237 2 (.slice q1 q2 q3) (ns.take j).length ((ns.take j).flatMap (G4 (fun n=>κ (g n))))):=fun W hW=>(HSt.out.below hW).own;have HEnd:Hid (∀(W W7:World) (gg2 cap:Nat),Below wr.heap.size wr W->W7.ownsRow w2.heap.size 237 2 (.slice (some ⟨gg2,0,none⟩) ((ns.take j).length+1) cap) ((ns.take j).length+1) ((ns.take j).flatMap (G4 (fun n=>κ (g n)))++[A4 (κ (g ns[j])),A4 ns[j]])->W.grownBy W7 (Value.slice q1 q2 q3).ownBlock->
            (∃v,StockV (W7.setCell ⟨w.heap.size,0,none⟩ (.slice (some ⟨gg2,0,none⟩) ((ns.take j).length+1) cap)) w2.heap.size w.heap.size v (fun n=>κ (g n)) (ns.take (j+1)))/\Kept (fun k=>k=w.heap.size) w2 (W7.setCell ⟨w.heap.size,0,none⟩ (.slice (some ⟨gg2,0,none⟩) ((ns.take j).length+1) cap))):=by
          rintro W W7 gg2 cap hW ho hg;have hbk:Below w2.heap.size W W7:=⟨hg.os,hg.tape,hg.output,hg.size,fun k hk=>hg.block k (by have:=hW.size;omega) (fun e=>by have:=(HSt.out.own.lt k e.symm).1;omega)⟩;have hB7:=(HSt.out.below hW).blk.below hbk Hsm.out;have k1:Kept (fun k=>k=w.heap.size) W7 (W7.setCell ⟨w.heap.size,0,none⟩ (.slice (some ⟨gg2,0,none⟩) ((ns.take j).length+1) cap)):=⟨rfl,rfl,rfl,by simp[World.setCell],fun k _ hn=>Below.heap_setCell _ _ _ _ hn⟩;have hge:=(ho.lt gg2 rfl).1;refine⟨⟨.slice (some ⟨gg2,0,none⟩) ((ns.take j).length+1) cap,?_,?_,fun e=>?_⟩,?_⟩
          · unfold Blk at hB7 ⊢
            simp[World.setCell,Array.getElem?_modify,hB7]
          · rw[HT.out,List.length_append,List.flatMap_append]
            exact gQi ho k1 (fun k hk e=>by injection hk with hk;have:=Hsm.out;simp only at hk;omega)
          · injection e with e
            have:=Hsm.out;simp only at e;omega
          · have k2:Kept (fun k=>k=w.heap.size) w2 W7:=⟨hg.os.trans (hW.os.trans HKw.out.os),hg.tape.trans (hW.tape.trans HKw.out.tape),hg.output.trans (hW.output.trans HKw.out.output),Nat.le_trans HKw.out.size (Nat.le_trans hW.size hg.size),fun k hk hn=>(hbk.block k hk).trans ((hW.block k (Nat.lt_of_lt_of_le hk HKw.out.size)).trans (HKw.out.block k hk hn))⟩
            exact k2.trans k1
        generalize hx:ns[j]=x at *;clear hx HT;generalize hLL:ns.take j=L at *;clear hLL;clear HE H1 H2 H3 H4 H5 HS HRow HSt HKw HB0 HB2 HS0 a0 a1 a2 a3 b0 b1 b2 b3 hmf hu hc hms;go_wp2_with fail;refine wp_region_held_drew (S:=(fun w'=>(w'.cell? ⟨p,0,none⟩=some (.iface t1 y1)/\w'.cell? ⟨p,1,none⟩=some (.pointer (some ⟨n1,0,none⟩))/\w'.cell? ⟨p,2,none⟩=some (.iface r1 z1)/\w'.cell? ⟨p,3,none⟩=some (.pointer (some ⟨m1,0,none⟩))/\w'.cell? ⟨p,4,none⟩=some (.func (.func fg) #[] cg))/\(w'.cell? ⟨br,0,none⟩=some (.iface t2 y2)/\w'.cell? ⟨br,1,none⟩=some (.pointer (some ⟨n2,0,none⟩))/\w'.cell? ⟨br,2,none⟩=some (.iface r2 z2)/\w'.cell? ⟨br,3,none⟩=some (.pointer (some ⟨m2,0,none⟩)))/\w'.cell? ⟨bf,0,none⟩=some (.pointer (some ⟨p,0,none⟩))/\w'.cell? ⟨kb,0,none⟩=some (.func (.func fk) #[] ck)/\w'.frozen? ⟨w.heap.size,0,none⟩=false)) (by kernel_rfl) ?_ (fun hHeld=>?_)
        · exact HS5.out _ (Below.refl _ _).drew
        refine tk 0 ?_ rfl (by kernel_rfl) (fun _ _ _ h=>h) rfl ?_ (by assumption) ?_;rotate_left
        · intro wz hSw
          try dsimp only at hSw
          go_simp
          try with_reducible rfl
        refine tk 2 ?_ rfl (by kernel_rfl) (fun _ _ _ h=>h) rfl ?_ (by assumption) ?_;rotate_left
        · intro wz hSw
          try dsimp only at hSw
          go_simp
          try with_reducible rfl
        refine tk 3 ?_ rfl (by kernel_rfl) (fun _ _ _ h=>h) rfl ?_ (by assumption) ?_;rotate_left
        · intro wz hSw
          try dsimp only at hSw
          go_simp
          try with_reducible rfl
        refine tk 4 ?_ rfl (by kernel_rfl) (fun _ _ _ h=>h) rfl ?_ (by assumption) ?_;rotate_left
        · intro wz hSw
          try dsimp only at hSw
          go_simp
          try with_reducible rfl
        refine tk 5 ?_ rfl (by kernel_rfl) (fun _ _ _ h=>h) rfl ?_ (by assumption) ?_;rotate_left
        · intro wz hSw
          try dsimp only at hSw
          go_simp
          try with_reducible rfl
        refine tk 6 ?_ rfl (by kernel_rfl) (fun _ _ _ h=>h) rfl ?_ (by assumption) ?_;rotate_left
        · intro wz hSw
          try dsimp only at hSw
          go_simp
          try with_reducible rfl
        refine tk 7 ?_ rfl (by kernel_rfl) (fun _ _ _ h=>h) rfl ?_ (by assumption) ?_;rotate_left
        · intro wz hSw
          try dsimp only at hSw
          go_simp
          try with_reducible rfl
        refine tk 10 ?_ rfl (by kernel_rfl) (fun _ _ _ h=>h) rfl ?_ (by assumption) ?_;rotate_left
        · intro wz hSw
          try dsimp only at hSw
          go_simp
          try with_reducible rfl
        refine hQp 1 8 (by kernel_rfl) rfl rfl (fun K hK=>?_) (fun K hK=>?_)
        · go_simp
          refine hK.out _ _ ?_ (fun hHeld=>?_)
          · exact HS5.out _ (Below.refl _ _).drew
          clear hK K;refine sp 8 (by kernel_rfl) rfl (fun K hK=>?_);go_simp
          (refine(HGj.out _ ?_).mono ?_;exact(Below.refl _ _).drew;rintro e w5 ⟨rfl,hb5d⟩;have hb5:Below wr.heap.size wr w5:=Below.join (Below.refl _ _).drew hb5d;have s5:=HSb.out _ hb5;have k5:=(HS5.out _ hb5).2.2.2.1)
          go_wp2_with fail;refine hK.out _ _ ?_ (fun hHeld=>?_)
          · exact HS5.out _ hb5
          clear hK K;refine sp 9 (by kernel_rfl) rfl (fun K hK=>?_);go_simp
          (refine(HKj.out _ hb5).mono ?_;rintro e w6 ⟨rfl,hb6d⟩;have hb6:Below wr.heap.size wr w6:=Below.join hb5 hb6d;have hz6:=hb6.size;have s6:=HSb.out _ hb6;have s6a:=HSb.out (w6.alloc (.cells #[A4 (κ (g x)),A4 x] 237)) (Below.join hb6 (A5 _ _)))
          go_wp2_with fail;refine hK.out _ _ ?_ (fun hHeld=>?_)
          · exact HS5.out _ hb6
          clear hK K;refine tk 11 ?_ rfl (by kernel_rfl) (fun _ _ _ h=>h) rfl ?_ (by assumption) ?_;rotate_left
          · intro wz hSw
            try dsimp only at hSw
            go_simp
            try with_reducible rfl
          refine sp 12 (by kernel_rfl) rfl (fun K hK=>?_);go_simp
          refine hK.out _ _ ?_ (fun hHeld=>?_)
          · exact HS5.out _ (Below.join hb6 (A5 _ _))
          clear hK K;refine sp 13 (by kernel_rfl) rfl (fun K hK=>?_)
          (refine step_append_lies _ (by rfl) _ _ _ (by rfl) w2.heap.size 237 iq _ 2 32 Tryz.underlying233 hq hq0 hq1 hqb rfl (by omega) (.slice q1 q2 q3) L.length (L.flatMap (G4 (fun n=>κ (g n)))) (by rfl) (HOw.out _ (Below.join hb6 (A5 _ _))) ⟨w6.heap.size,0,none⟩ 1 1 [A4 (κ (g x)),A4 x] (by rfl) (by rfl) (World.news_of_block (cs:=#[A4 (κ (g x)),A4 x]) (t:=237) (fr:=(0,0)) (heap_alloc_new w6 _)) (by simp[Value.oneCell']) (by omega) (by unfold maxLen;omega) (by omega) (by simp;omega) (w6.heap.size+1) (by simp) ?_;intro gg2 cap w7 hown7 hgrow hat hlt7;have hE:=HEnd.out _ w7 gg2 cap (Below.join hb6 (A5 _ _)) hown7 hgrow;have HE7:Hid _:=hE;have s7:=HS9.out (w6.alloc (.cells #[A4 (κ (g x)),A4 x] 237)) w7 (Below.join hb6 (A5 _ _)) ⟨hgrow.os,hgrow.tape,hgrow.output,hgrow.size,fun k hk=>hgrow.block k (by simp;omega) (fun e=>by have:=HLt.out k e.symm;omega)⟩;have hst7:=HS7.out (w6.alloc (.cells #[A4 (κ (g x)),A4 x] 237)) w7 (Below.join hb6 (A5 _ _)) ⟨hgrow.os,hgrow.tape,hgrow.output,hgrow.size,fun k hk=>hgrow.block k (by simp;omega) (fun e=>by have:=HLt.out k e.symm;omega)⟩;have f7:=hst7.2.2.2.2;have hst8:=HS8.out w7 ((Below.join hbw (Below.join hb6 (A5 _ _))).trans (Below.mono (B:=w2.heap.size) ⟨hgrow.os,hgrow.tape,hgrow.output,hgrow.size,fun k hk=>hgrow.block k (by simp;omega) (fun e=>by have:=HLt.out k e.symm;omega)⟩ hbw2.size)) f7;clear hE hown7 hgrow hat)
          refine hK.out _ _ ?_ (fun hHeld=>?_)
          · exact hst7
          clear hK K;refine tk 14 ?_ rfl (by kernel_rfl) (fun _ _ _ h=>h) rfl ?_ (by assumption) ?_;rotate_left
          · intro wz hSw
            try dsimp only at hSw
            go_simp
            try with_reducible rfl
          refine sp 15 (by kernel_rfl) rfl (fun K hK=>?_);go_simp
          refine hK.out _ _ ?_ (fun hHeld=>?_)
          · exact hst8 _
          clear hK K;refine wpAnyH_done (by kernel_rfl) ?_ _;go_wp2_with fail;go_roundw
          case rel=>exact⟨j+1,by omega,by go_num,HE7.out.1,HE7.out.2⟩
          case measure=>simp[intOf];omega
        · go_simp
          (refine(HGj.out _ ?_).mono ?_;exact(Below.refl _ _).drew;rintro e w5 ⟨rfl,hb5d⟩;have hb5:Below wr.heap.size wr w5:=Below.join (Below.refl _ _).drew hb5d;have s5:=HSb.out _ hb5;have k5:=(HS5.out _ hb5).2.2.2.1)
          go_wp2_with fail;refine hK.out _ _ ?_ (fun hHeld=>?_)
          · exact HS5.out _ hb5
          clear hK K;refine hQp 1 9 (by kernel_rfl) rfl rfl (fun K hK=>?_) (fun K hK=>?_)
          · go_simp
            refine hK.out _ _ ?_ (fun hHeld=>?_)
            · exact HS5.out _ hb5
            clear hK K;refine sp 9 (by kernel_rfl) rfl (fun K hK=>?_);go_simp
            (refine(HKj.out _ hb5).mono ?_;rintro e w6 ⟨rfl,hb6d⟩;have hb6:Below wr.heap.size wr w6:=Below.join hb5 hb6d;have hz6:=hb6.size;have s6:=HSb.out _ hb6;have s6a:=HSb.out (w6.alloc (.cells #[A4 (κ (g x)),A4 x] 237)) (Below.join hb6 (A5 _ _)))
            go_wp2_with fail;refine hK.out _ _ ?_ (fun hHeld=>?_)
            · exact HS5.out _ hb6
            clear hK K;refine tk 11 ?_ rfl (by kernel_rfl) (fun _ _ _ h=>h) rfl ?_ (by assumption) ?_;rotate_left
            · intro wz hSw
              try dsimp only at hSw
              go_simp
              try with_reducible rfl
            refine sp 12 (by kernel_rfl) rfl (fun K hK=>?_);go_simp
            refine hK.out _ _ ?_ (fun hHeld=>?_)
            · exact HS5.out _ (Below.join hb6 (A5 _ _))
            clear hK K;refine sp 13 (by kernel_rfl) rfl (fun K hK=>?_)
            (refine step_append_lies _ (by rfl) _ _ _ (by rfl) w2.heap.size 237 iq _ 2 32 Tryz.underlying233 hq hq0 hq1 hqb rfl (by omega) (.slice q1 q2 q3) L.length (L.flatMap (G4 (fun n=>κ (g n)))) (by rfl) (HOw.out _ (Below.join hb6 (A5 _ _))) ⟨w6.heap.size,0,none⟩ 1 1 [A4 (κ (g x)),A4 x] (by rfl) (by rfl) (World.news_of_block (cs:=#[A4 (κ (g x)),A4 x]) (t:=237) (fr:=(0,0)) (heap_alloc_new w6 _)) (by simp[Value.oneCell']) (by omega) (by unfold maxLen;omega) (by omega) (by simp;omega) (w6.heap.size+1) (by simp) ?_;intro gg2 cap w7 hown7 hgrow hat hlt7;have hE:=HEnd.out _ w7 gg2 cap (Below.join hb6 (A5 _ _)) hown7 hgrow;have HE7:Hid _:=hE;have s7:=HS9.out (w6.alloc (.cells #[A4 (κ (g x)),A4 x] 237)) w7 (Below.join hb6 (A5 _ _)) ⟨hgrow.os,hgrow.tape,hgrow.output,hgrow.size,fun k hk=>hgrow.block k (by simp;omega) (fun e=>by have:=HLt.out k e.symm;omega)⟩;have hst7:=HS7.out (w6.alloc (.cells #[A4 (κ (g x)),A4 x] 237)) w7 (Below.join hb6 (A5 _ _)) ⟨hgrow.os,hgrow.tape,hgrow.output,hgrow.size,fun k hk=>hgrow.block k (by simp;omega) (fun e=>by have:=HLt.out k e.symm;omega)⟩;have f7:=hst7.2.2.2.2;have hst8:=HS8.out w7 ((Below.join hbw (Below.join hb6 (A5 _ _))).trans (Below.mono (B:=w2.heap.size) ⟨hgrow.os,hgrow.tape,hgrow.output,hgrow.size,fun k hk=>hgrow.block k (by simp;omega) (fun e=>by have:=HLt.out k e.symm;omega)⟩ hbw2.size)) f7;clear hE hown7 hgrow hat)
            refine hK.out _ _ ?_ (fun hHeld=>?_)
            · exact hst7
            clear hK K;refine tk 14 ?_ rfl (by kernel_rfl) (fun _ _ _ h=>h) rfl ?_ (by assumption) ?_;rotate_left
            · intro wz hSw
              try dsimp only at hSw
              go_simp
              try with_reducible rfl
            refine sp 15 (by kernel_rfl) rfl (fun K hK=>?_);go_simp
            refine hK.out _ _ ?_ (fun hHeld=>?_)
            · exact hst8 _
            clear hK K;refine wpAnyH_done (by kernel_rfl) ?_ _;go_wp2_with fail;go_roundw
            case rel=>exact⟨j+1,by omega,by go_num,HE7.out.1,HE7.out.2⟩
            case measure=>simp[intOf];omega
          · go_simp
            (refine(HKj.out _ hb5).mono ?_;rintro e w6 ⟨rfl,hb6d⟩;have hb6:Below wr.heap.size wr w6:=Below.join hb5 hb6d;have hz6:=hb6.size;have s6:=HSb.out _ hb6;have s6a:=HSb.out (w6.alloc (.cells #[A4 (κ (g x)),A4 x] 237)) (Below.join hb6 (A5 _ _)))
            go_wp2_with fail;refine hK.out _ _ ?_ (fun hHeld=>?_)
            · exact HS5.out _ hb6
            clear hK K;refine tk 11 ?_ rfl (by kernel_rfl) (fun _ _ _ h=>h) rfl ?_ (by assumption) ?_;rotate_left
            · intro wz hSw
              try dsimp only at hSw
              go_simp
              try with_reducible rfl
            refine hQp 1 12 (by kernel_rfl) rfl rfl (fun K hK=>?_) (fun K hK=>?_)
            · go_simp
              refine hK.out _ _ ?_ (fun hHeld=>?_)
              · exact HS5.out _ hb6
              clear hK K;refine sp 12 (by kernel_rfl) rfl (fun K hK=>?_);go_simp
              refine hK.out _ _ ?_ (fun hHeld=>?_)
              · exact HS5.out _ (Below.join hb6 (A5 _ _))
              clear hK K;refine sp 13 (by kernel_rfl) rfl (fun K hK=>?_)
              (refine step_append_lies _ (by rfl) _ _ _ (by rfl) w2.heap.size 237 iq _ 2 32 Tryz.underlying233 hq hq0 hq1 hqb rfl (by omega) (.slice q1 q2 q3) L.length (L.flatMap (G4 (fun n=>κ (g n)))) (by rfl) (HOw.out _ (Below.join hb6 (A5 _ _))) ⟨w6.heap.size,0,none⟩ 1 1 [A4 (κ (g x)),A4 x] (by rfl) (by rfl) (World.news_of_block (cs:=#[A4 (κ (g x)),A4 x]) (t:=237) (fr:=(0,0)) (heap_alloc_new w6 _)) (by simp[Value.oneCell']) (by omega) (by unfold maxLen;omega) (by omega) (by simp;omega) (w6.heap.size+1) (by simp) ?_;intro gg2 cap w7 hown7 hgrow hat hlt7;have hE:=HEnd.out _ w7 gg2 cap (Below.join hb6 (A5 _ _)) hown7 hgrow;have HE7:Hid _:=hE;have s7:=HS9.out (w6.alloc (.cells #[A4 (κ (g x)),A4 x] 237)) w7 (Below.join hb6 (A5 _ _)) ⟨hgrow.os,hgrow.tape,hgrow.output,hgrow.size,fun k hk=>hgrow.block k (by simp;omega) (fun e=>by have:=HLt.out k e.symm;omega)⟩;have hst7:=HS7.out (w6.alloc (.cells #[A4 (κ (g x)),A4 x] 237)) w7 (Below.join hb6 (A5 _ _)) ⟨hgrow.os,hgrow.tape,hgrow.output,hgrow.size,fun k hk=>hgrow.block k (by simp;omega) (fun e=>by have:=HLt.out k e.symm;omega)⟩;have f7:=hst7.2.2.2.2;have hst8:=HS8.out w7 ((Below.join hbw (Below.join hb6 (A5 _ _))).trans (Below.mono (B:=w2.heap.size) ⟨hgrow.os,hgrow.tape,hgrow.output,hgrow.size,fun k hk=>hgrow.block k (by simp;omega) (fun e=>by have:=HLt.out k e.symm;omega)⟩ hbw2.size)) f7;clear hE hown7 hgrow hat)
              refine hK.out _ _ ?_ (fun hHeld=>?_)
              · exact hst7
              clear hK K;refine tk 14 ?_ rfl (by kernel_rfl) (fun _ _ _ h=>h) rfl ?_ (by assumption) ?_;rotate_left
              · intro wz hSw
                try dsimp only at hSw
                go_simp
                try with_reducible rfl
              refine sp 15 (by kernel_rfl) rfl (fun K hK=>?_);go_simp
              refine hK.out _ _ ?_ (fun hHeld=>?_)
              · exact hst8 _
              clear hK K;refine wpAnyH_done (by kernel_rfl) ?_ _;go_wp2_with fail;go_roundw
              case rel=>exact⟨j+1,by omega,by go_num,HE7.out.1,HE7.out.2⟩
              case measure=>simp[intOf];omega
            · go_simp
              refine hK.out _ _ ?_ (fun hHeld=>?_)
              · exact HS5.out _ (Below.join hb6 (A5 _ _))
              clear hK K;refine sp 1 (by kernel_rfl) rfl (fun K hK=>?_);go_simp
              refine hK.out _ _ ?_ (fun hHeld=>?_)
              · exact HS5.out _ (Below.join hb6 (A5 _ _))
              clear hK K;refine sp 13 (by kernel_rfl) rfl (fun K hK=>?_)
              (refine step_append_lies _ (by rfl) _ _ _ (by rfl) w2.heap.size 237 iq _ 2 32 Tryz.underlying233 hq hq0 hq1 hqb rfl (by omega) (.slice q1 q2 q3) L.length (L.flatMap (G4 (fun n=>κ (g n)))) (by rfl) (HOw.out _ (Below.join hb6 (A5 _ _))) ⟨w6.heap.size,0,none⟩ 1 1 [A4 (κ (g x)),A4 x] (by rfl) (by rfl) (World.news_of_block (cs:=#[A4 (κ (g x)),A4 x]) (t:=237) (fr:=(0,0)) (heap_alloc_new w6 _)) (by simp[Value.oneCell']) (by omega) (by unfold maxLen;omega) (by omega) (by simp;omega) (w6.heap.size+1) (by simp) ?_;intro gg2 cap w7 hown7 hgrow hat hlt7;have hE:=HEnd.out _ w7 gg2 cap (Below.join hb6 (A5 _ _)) hown7 hgrow;have HE7:Hid _:=hE;have s7:=HS9.out (w6.alloc (.cells #[A4 (κ (g x)),A4 x] 237)) w7 (Below.join hb6 (A5 _ _)) ⟨hgrow.os,hgrow.tape,hgrow.output,hgrow.size,fun k hk=>hgrow.block k (by simp;omega) (fun e=>by have:=HLt.out k e.symm;omega)⟩;have hst7:=HS7.out (w6.alloc (.cells #[A4 (κ (g x)),A4 x] 237)) w7 (Below.join hb6 (A5 _ _)) ⟨hgrow.os,hgrow.tape,hgrow.output,hgrow.size,fun k hk=>hgrow.block k (by simp;omega) (fun e=>by have:=HLt.out k e.symm;omega)⟩;have f7:=hst7.2.2.2.2;have hst8:=HS8.out w7 ((Below.join hbw (Below.join hb6 (A5 _ _))).trans (Below.mono (B:=w2.heap.size) ⟨hgrow.os,hgrow.tape,hgrow.output,hgrow.size,fun k hk=>hgrow.block k (by simp;omega) (fun e=>by have:=HLt.out k e.symm;omega)⟩ hbw2.size)) f7;clear hE hown7 hgrow hat)
              refine hK.out _ _ ?_ (fun hHeld=>?_)
              · exact hst7
              clear hK K;refine tk 14 ?_ rfl (by kernel_rfl) (fun _ _ _ h=>h) rfl ?_ (by assumption) ?_;rotate_left
              · intro wz hSw
                try dsimp only at hSw
                go_simp
                try with_reducible rfl
              refine sp 15 (by kernel_rfl) rfl (fun K hK=>?_);go_simp
              refine hK.out _ _ ?_ (fun hHeld=>?_)
              · exact hst8 _
              clear hK K;refine wpAnyH_done (by kernel_rfl) ?_ _;go_wp2_with fail;go_roundw
              case rel=>exact⟨j+1,by omega,by go_num,HE7.out.1,HE7.out.2⟩
              case measure=>simp[intOf];omega
      · have hj2:¬(j:Int)<(ns.length:Int):=by omega
        have HSn:Hid (StockV wr w2.heap.size w.heap.size (.slice q1 q2 q3) (fun n=>κ (g n)) ns):=by
          have:=HSt.out;rw[List.take_of_length_le (by omega)]at this;exact this
        have Hr1:Hid (w.heap.size<wr.heap.size):=Nat.lt_of_lt_of_le Hsm.out HKw.out.size;have Hr2:Hid (∀k,(Value.slice q1 q2 q3).ownBlock=some k->k<wr.heap.size):=fun k hk=>(HSt.out.own.lt k hk).2;obtain⟨⟨a0,a1,a2,a3,a4⟩,⟨b0,b1,b2,b3⟩,e0,e1⟩:=HS.out wr hbw;clear HSt HRow HKw;go_wp2_with fail;go_region_held (fun w'=>(w'.cell? ⟨p,0,none⟩=some (.iface t1 y1)/\w'.cell? ⟨p,1,none⟩=some (.pointer (some ⟨n1,0,none⟩))/\w'.cell? ⟨p,2,none⟩=some (.iface r1 z1)/\w'.cell? ⟨p,3,none⟩=some (.pointer (some ⟨m1,0,none⟩))/\w'.cell? ⟨p,4,none⟩=some (.func (.func fg) #[] cg))/\(w'.cell? ⟨br,0,none⟩=some (.iface t2 y2)/\w'.cell? ⟨br,1,none⟩=some (.pointer (some ⟨n2,0,none⟩))/\w'.cell? ⟨br,2,none⟩=some (.iface r2 z2)/\w'.cell? ⟨br,3,none⟩=some (.pointer (some ⟨m2,0,none⟩)))/\w'.cell? ⟨bf,0,none⟩=some (.pointer (some ⟨p,0,none⟩))/\w'.cell? ⟨kb,0,none⟩=some (.func (.func fk) #[] ck)) (first|with_reducible assumption|with_reducible exact HS.out _ hbw.drew|with_reducible exact HS.out _ hcur)
          (first
            | (go_at_call 196;refine(H2.out _ ?_).mono ?_;exact hbw.drew;rintro e w3 ⟨u1,u2,u3,rfl,ho3,hb3d⟩;have hb3:Below wr.heap.size wr w3:=Below.join (Below.refl _ _).drew hb3d;have hcur:Below w.heap.size w w3:=Below.join hbw hb3)
            | (go_at_call 195;refine(HE.out _ hcur w2.heap.size w.heap.size (.slice q1 q2 q3) (HSn.out.below hb3) (Nat.le_refl _) hbw2.size _ _ ho3 Hr1.out Hr2.out).mono ?_;rintro e w4 ⟨rfl,hb4⟩;have hcur:=hb4))
        all_goals
          go_wp2_with fail;go_ret;exact⟨rfl,hb4⟩
theorem tQ4 {l:Ls.Ln}(hok:Ls.OkL 120 l)(hs:Ls.dXw l<=24)(hc:cn l<=30000):gx l<=549755813888:=by
 have h1:=cQc l 120 hok;have h2:2 ^ Ls.dXw l<=2 ^ 24:=Nat.pow_le_pow_right (by omega) hs;have h3:cn l*2 ^ Ls.dXw l<=30000*2 ^ 24:=Nat.mul_le_mul hc h2;have h4:30000*2 ^ 24<=549755813888:=by decide
 omega
theorem fQ8 {p:List UInt8->Prop}(h0:¬p []):(qs:List (List UInt8))->(∀y,y∈qs->p y)->qs.length<=qs.flatten.length
 | [],_=>Nat.zero_le _
 | q::qs,h=>by
  have h1:0<q.length:=List.length_pos_iff.2 (fun e=>h0 (by have:=h q (List.mem_cons_self ..);rw[e]at this;exact this));have h2:=fQ8 h0 qs (fun y hy=>h y (List.mem_cons_of_mem _ hy));rw[List.flatten_cons,List.length_append,List.length_cons];omega
theorem cXy (a l:Ls.Ln)(k:Nat)(e:Ls.D)(ws:List UInt8)(hl:l=⟨k,e,ws,[a]⟩)(κ:List UInt8->List UInt8)(hκ:κ=if k=7 then C3 else fun _=>[])(oa:Ls.OkL 120 a)(h24:Ls.dXw a<=24)(hgx:gx l<=549755813888)
  (h0:¬Ls.inL (Ls.dXu (Ls.dS a)) []) (ht:¬Ls.dX0 (Ls.dXu (Ls.dS a)) (Ls.dXu (Ls.rep 5 (Ls.dS a)))) (h0v:¬Ls.inL (Ls.dXu (Ls.dV a)) []) (htv:¬Ls.dX0 (Ls.dXu (Ls.dV a)) (Ls.dXu (Ls.rep 5 (Ls.dV a))))
  {w:World} {G:Nat->Prop} {p bf br kb:Nat} {t3 t4:TypeId} {y3 y4 kv:Value} {n3 n4:Nat} (hp:PartV w G p a) (hS:Tx w G (.iface t3 y3) n3 (Ls.rep 5 (Ls.dS a))) (hV:Tx w G (.iface t4 y4) n4 (Ls.rep 5 (Ls.dV a))) (hk:KeyV w G kv κ)
  (hf:Blk w bf #[.pointer (some ⟨p,0,none⟩)] 78) (hr:Blk w br #[.iface t3 y3,.pointer (some ⟨n3,0,none⟩),.iface t4 y4,.pointer (some ⟨n4,0,none⟩)] 94) (hb:Blk w kb #[kv] 95) (gf:G bf) (gr:G br) (gk:G kb) :
  Turns2 w G (.func (.func 198) #[] #[.pointer (some ⟨bf,0,none⟩),.pointer (some ⟨br,0,none⟩),.pointer (some ⟨kb,0,none⟩)]) (Ls.inL (Ls.dXu (Ls.dV l))) (Ls.inL (Ls.dXu (Ls.dS l))) (B4 l):=by
 refine⟨_,_,rfl,fun _ _ _=>by kernel_rfl,fun W hW hO x y hx hy hin hiny=>?_⟩;have hpW:=hp.mono (G':=G) (fun _ h=>h) hW;have hSW:=hS.mono (G':=G) (fun _ h=>h) hW;have hVW:=hV.mono (G':=G) (fun _ h=>h) hW;have hfW:=hf.of (hW bf gf);have hrW:=hr.of (hW br gr);have hbW:=hb.of (hW kb gk);obtain⟨t1,y1,n1,t2,y2,n2,g1,c1,u1,_,h2,h3,h4,h5,h6,h7⟩:=hpW;rw[show Ls.dV l=Ls.rep 5 (Ls.dV a) by rw[hl,Ls.dV]]at hin;rw[show Ls.dS l=Ls.rep 5 (Ls.dS a) by rw[hl,Ls.dS]]at hiny;obtain⟨ms,rfl,hms⟩:=(Ls.eX5 _ _).1 hin;obtain⟨ns,rfl,hns⟩:=(Ls.eX5 _ _).1 hiny;obtain⟨f1,s1,rfl,e1,H1⟩:=Turns.at hO h5;obtain⟨f2,s2,rfl,e2,H2⟩:=Turns.at hO h6;obtain⟨f3,s3,rfl,e3,H3⟩:=Turns2.at hO h7;obtain⟨f4,s4,rfl,e4,H4⟩:=hk.mono (G':=G) (fun _ h=>h) hW;have hsa:=Ls.eXs a oa;have hva:=Ls.eXo a oa;have hst:∀s,Ls.inL (Ls.dXu (Ls.rep 5 (Ls.dS a))) s↔Ls.inL (Ls.eXa (Ls.dXx a)) s:=fun s=>by
  rw[Ls.eX5,Ls.eXf];exact Ls.eX8 (Ls.eXv a oa) s
 have hvt:∀s,Ls.inL (Ls.dXu (Ls.rep 5 (Ls.dV a))) s↔Ls.inL (Ls.eXa (Ls.dXv a)) s:=fun s=>by
  rw[Ls.eX5,Ls.eXf];exact Ls.eX8 (Ls.eXx a oa) s
 have hval:B4 l ms.flatten ns.flatten=(J4 κ (B4 a) (A9 a) (A6 a) ms ns).flatten:=by
  have hb1:=Ls.OkL.src _ oa;have hb2:=Ls.OkL.view _ oa;have p1:=U2 hb1.ok (Ls.fX4 hb1).ok (fun h=>h0 ((Ls.eXv a oa _).2 h)) (by rw[<-N3 (Ls.eXv a oa) hst];exact ht) ns (fun y hy=>(Ls.eXv a oa y).1 (hns y hy)) _ (Nat.le_refl _);have p2:=U2 hb2.ok (Ls.fX4 hb2).ok (fun h=>h0v ((Ls.eXx a oa _).2 h)) (by rw[<-N3 (Ls.eXx a oa) hvt];exact htv) ms (fun y hy=>(Ls.eXx a oa y).1 (hms y hy)) _ (Nat.le_refl _);rw[hl,B4,p1,p2,hκ]
  by_cases h7:k=7
  ·rw[if_pos h7,if_pos h7,hQf]
  ·rw[if_neg h7,if_neg h7,hQe]
 have hlen:(J4 κ (B4 a) (A9 a) (A6 a) ms ns).flatten.length<=70368744177664:=by
  rw[<-hval];have h1:=O9 l ms.flatten ns.flatten;have h2:(ms.flatten.length+ns.flatten.length+2)*gx l<=122*gx l:=Nat.mul_le_mul_right _ (by omega);omega
 have hml:∀x,x∈ms->x.length<=60:=fun x hx=>by have:=(List.sublist_flatten_of_mem hx).length_le;omega
 have hnl:∀x,x∈ns->x.length<=60:=fun x hx=>by have:=(List.sublist_flatten_of_mem hx).length_le;omega
 have hgl:∀x,x∈ns->(A6 a x).length<=70368744177664:=fun x hx=>by
  have h1:=L9 a x;have h2:(x.length+1)*gx a<=61*gx a:=Nat.mul_le_mul_right _ (by have:=hnl x hx;omega);have h3:gx l=2*gx a:=by rw[hl,gx]
  omega
 have hO2:∀W',Below W.heap.size W W'->∀k,G k->k<W'.heap.size:=fun W' h k hk=>Nat.lt_of_lt_of_le (hO k hk) h.size;rw[hval];exact zQi ms.flatten ns.flatten ms ns (Nat.le_trans (fQ8 h0v ms hms) (by omega)) (Nat.le_trans (fQ8 h0 ns hns) (by omega)) hml κ (A6 a) (A9 a) (B4 a) hgl hlen W p bf br kb t1 t3 t2 t4 y1 y3 y2 y4 n1 n3 n2 n4 f1 f4 f2 f3 s1 s4 s2 s3 h2 hfW hrW hbW e1 e4 e2 e3
  (fun W' hW'=>eQr (G:=G) (hO2 W' hW') (by omega) h0 ht hns (by omega) (h3.below hO hW') (hSW.below hO hW'))
  (fun W' hW'=>eQr (G:=G) (hO2 W' hW') (by omega) h0v htv hms (by omega) (h4.below hO hW') (hVW.below hO hW'))
  (fun W' hW' x hx=>H1 W' hW' x (hnl x hx) (hns x hx))
  (fun W' hW' x hx=>H4 W' (fun k hk=>hW'.block k (hO k hk)) x hx)
  (fun W' hW' x y hx hy=>H3 W' hW' x y (hml x hx) (hnl y hy) (hms x hx) (hns y hy))
  (fun W' hW' x hx=>H2 W' hW' x (hml x hx) (hms x hx))
end Go.Proofs.YtfklinjaajafgaaGreatDoor
