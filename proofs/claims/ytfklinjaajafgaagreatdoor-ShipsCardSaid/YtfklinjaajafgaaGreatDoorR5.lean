import Derived.Test.YtfklinjaajafgaaGreatDoorR3
set_option maxRecDepth 100000
set_option maxHeartbeats 4000000
namespace Go.Proofs.YtfklinjaajafgaaGreatDoor
open Go.RowKit
def wln (f g:Nat->List UInt8)(mid en:List UInt8)(i:Nat):List UInt8:=f i++(mid++(g i++en))
def wrt (f g:Nat->List UInt8)(mid en:List UInt8)(k:Nat):List UInt8:=((List.range k).map (wln f g mid en)).flatten
theorem wr_succ (f g:Nat->List UInt8)(mid en:List UInt8)(k:Nat):wrt f g mid en (k+1)=wrt f g mid en k++wln f g mid en k:=by
 simp[wrt,List.range_succ]
theorem wr_len {f g:Nat->List UInt8}{mid en:List UInt8}{m:Nat}:(k:Nat)->(∀i,i<k->(wln f g mid en i).length<=m)->(wrt f g mid en k).length<=k*m
 | 0,_=>by simp[wrt]
 | k+1,h=>by
  rw[wr_succ,List.length_append,Nat.succ_mul];have:=wr_len k (fun i hi=>h i (by omega));have:=h k (by omega);omega
structure Words2 (f g:Nat->List UInt8)(k:Nat):Prop where
 w0:∀i,i<k->f i≠[]
 wl:∀i,i<k->∀c,c∈f i->M7 c=true
 n0:∀i,i<k->g i≠[]
 nl:∀i,i<k->∀c,c∈g i->M0 c=true
 ws:∀i,i<k->(f i).length<=4
 ns:∀i,i<k->(g i).length<=4
section
variable {f g:Nat->List UInt8} {k:Nat} {m e:Ls.D} {a b:UInt8} {mid en:List UInt8}
theorem w2_line (h:Words2 f g k)(hm:Ls.inL (Ls.dXu m) mid)(he:Ls.inL (Ls.dXu e) en){i:Nat}(hi:i<k):LineS m e (f i) mid (g i) en:=⟨V5 (h.w0 i hi) (h.wl i hi),hm,wQ1 (h.n0 i hi) (h.nl i hi),he⟩
theorem wr_mem {y:List UInt8}(hy:y∈(List.range k).map (wln f g mid en)):∃i,i<k/\y=wln f g mid en i:=by
 obtain⟨i,hi,rfl⟩:=List.mem_map.1 hy;exact⟨i,List.mem_range.1 hi,rfl⟩
theorem wr_map (F:List UInt8->List UInt8)(mid' en':List UInt8)(h:∀i,i<k->F (wln f g mid en i)=wln f g mid' en' i):(((List.range k).map (wln f g mid en)).map F).flatten=wrt f g mid' en' k:=by
 rw[List.map_map,wrt];congr 1
 exact List.map_congr_left (fun i hi=>h i (List.mem_range.1 hi))
theorem wr_inS (hk:LineOk m e a b)(h:Words2 f g k)(hm:Ls.inL (Ls.dXu m) mid)(he:Ls.inL (Ls.dXu e) en):∀y,y∈(List.range k).map (wln f g mid en)->Ls.inL (Ls.dXx (D7 m e a b)) y:=fun y hy=>by
 obtain⟨i,hi,rfl⟩:=wr_mem hy;exact eQg hk (w2_line h hm he hi)
theorem wr_inV (h:Words2 f g k):∀y,y∈(List.range k).map (wln f g [] [])->Ls.inL (Ls.dXv (D7 m e a b)) y:=fun y hy=>by
 obtain⟨i,hi,rfl⟩:=wr_mem hy;have e1:wln f g [] [] i=f i++g i:=by simp[wln]
 rw[e1];exact cQg (V5 (h.w0 i hi) (h.wl i hi)) (wQ1 (h.n0 i hi) (h.nl i hi))
theorem wr_get (hk:LineOk m e a b)(h:Words2 f g k)(hm:Ls.inL (Ls.dXu m) mid)(he:Ls.inL (Ls.dXu e) en):A6 (Ls.fXf (D7 m e a b)) (wrt f g mid en k)=wrt f g [] [] k:=by
 have:=dXs hk _ (wr_inS hk h hm he);rw[wrt,this];refine wr_map _ [] [] (fun i hi=>?_);rw[wln,kQh hk (w2_line h hm he hi)];simp[wln]
theorem wr_cre (hk:LineOk m e a b)(h:Words2 f g k):A9 (Ls.fXf (D7 m e a b)) (wrt f g [] [] k)=wrt f g [a] [b] k:=by
 have:=dXr hk _ (wr_inV h);rw[wrt,this];refine wr_map _ [a] [b] (fun i hi=>?_);have e1:wln f g [] [] i=f i++g i:=by simp[wln]
 rw[e1,vQ6 hk (V5 (h.w0 i hi) (h.wl i hi)) (wQ1 (h.n0 i hi) (h.nl i hi))];rfl
theorem wr_src (hk:LineOk m e a b)(h:Words2 f g k)(hm:Ls.inL (Ls.dXu m) mid)(he:Ls.inL (Ls.dXu e) en):Ls.inL (Ls.dXx (Ls.fXf (D7 m e a b))) (wrt f g mid en k):=vQd _ (wr_inS hk h hm he)
theorem wr_view (h:Words2 f g k):Ls.inL (Ls.dXv (Ls.fXf (D7 m e a b))) (wrt f g [] [] k):=vQe _ (wr_inV h)
end
theorem add_field (d:Addr)(k:Nat):(⟨(d.add k).block,(d.add k).off+1,none⟩:Addr)=d.add (k+1):=by
 unfold Addr.add;rw[if_neg (Nat.succ_ne_zero k)];split
 ·rename_i h;subst h;rfl
 ·rfl
theorem one_mid (c:UInt8):Ls.inL (Ls.dXu (cQq c)) [c]:=by
 have h:Ls.dXu (cQq c)=Ls.set [c]:=rfl;rw[h];exact(Ls.fXk _ _).2 ⟨c,rfl,by simp[Ls.has]⟩
theorem written_any (a:Option Addr)(n c:Nat)(f g:Nat->ByteArray)(hf:∀i,i<n->(f i).size<=9223372036854775807/\(g i).size<=9223372036854775807)(hn:n<=9223372036854775807)(mid en:List UInt8)(hm:mid.length<=4)(he:en.length<=4)(w:World)
  (hX:∀W,Below w.heap.size w W->∀i,i<n->∃d,a=some d/\W.cell? (d.add (i*2))=some (.string (f i))/\W.cell? (d.add (i*2+1))=some (.string (g i))) :
  Calls Tryz.prog 34 #[.slice a n c,A4 mid,A4 en] w fun e w'=>e=.returned (A4 (wrt (fun i=>M5 97 122 (f i).data.toList) (fun i=>M5 48 57 (g i).data.toList) mid en (min n 5)))/\Below w.heap.size w w':=by
 have HX:Hid _:=hX;have HF:Hid _:=hf;have HL:Hid (∀i,i<min n 5->(wln (fun i=>M5 97 122 (f i).data.toList) (fun i=>M5 48 57 (g i).data.toList) mid en i).length<=16):=fun i _=>by
  have h1:=(fQ0 (inR 97 122) (f i).data.toList 3).1;have h2:=(fQ0 (inR 48 57) (g i).data.toList 3).1;simp[wln,M5];omega
 have HLn:Hid (∀i,i<=5->i<=n->(wrt (fun i=>M5 97 122 (f i).data.toList) (fun i=>M5 48 57 (g i).data.toList) mid en i).length<=80):=fun i h5 h1=>by
  have:=wr_len (m:=16) i (fun j hj=>HL.out j (by omega));omega
 have HSz:Hid (∀i,(M5 97 122 (f i).data.toList).length<=4/\(M5 48 57 (g i).data.toList).length<=4):=fun i=>by
  have h1:=(fQ0 (inR 97 122) (f i).data.toList 3).1;have h2:=(fQ0 (inR 48 57) (g i).data.toList 3).1;simp[M5];omega
 clear hX hf;go_enter Tryz.func34,Tryz.ntmps34;go_wp2_with fail;go_loopw [7,8] (fun sv tv wr1=>∃i:Nat,i<=n/\i<=5/\tv=.int .i64 i/\sv=A4 (wrt (fun i=>M5 97 122 (f i).data.toList) (fun i=>M5 48 57 (g i).data.toList) mid en i)/\Below w.heap.size w wr1) (fun _ tv _=>5-(intOf tv).toNat)
 case atStart=>exact⟨0,Nat.zero_le _,Nat.zero_le _,rfl,rfl,Below.refl _ _⟩
 case round=>
  obtain⟨i,hi,hi5,rfl,rfl,hbw⟩:=hrel;have hi0:(0:Int)<=(i:Int):=by omega
  by_cases hlt:i<n
  ·have hlt2:(i:Int)<(n:Int):=by omega
   by_cases h5:i<5
   ·have h52:(i:Int)<5:=by omega
    obtain⟨d,rfl,x0,x1⟩:=HX.out wr hbw i hlt;have hC:=iQx (f i) (HF.out i hlt).1 97 122 wr;have HS:Hid (wrt (fun i=>M5 97 122 (f i).data.toList) (fun i=>M5 48 57 (g i).data.toList) mid en (i+1)=wrt (fun i=>M5 97 122 (f i).data.toList) (fun i=>M5 48 57 (g i).data.toList) mid en i++(M5 97 122 (f i).data.toList++(mid++(M5 48 57 (g i).data.toList++en)))):=wr_succ _ _ _ _ _;have hl0:=HLn.out i hi5 hi;obtain⟨hl1,hl2⟩:=HSz.out i;have HX2:Hid (∀W,Below w.heap.size w W->W.cell? ⟨(d.add (i*2)).block,(d.add (i*2)).off+1,none⟩=some (.string (g i))):=fun W hW=>by
     obtain⟨d',hd',_,h⟩:=HX.out W hW i hlt;cases hd';rw[add_field];exact h
    have HG:=(HF.out i hlt).2;generalize M5 97 122 (f i).data.toList=A at *;generalize hB:M5 48 57 (g i).data.toList=B at *;have HB:Hid (M5 48 57 (g i).data.toList=B):=hB;generalize hR:wrt (fun i=>M5 97 122 (f i).data.toList) (fun i=>M5 48 57 (g i).data.toList) mid en i=R at *;have HR:Hid (wrt (fun i=>M5 97 122 (f i).data.toList) (fun i=>M5 48 57 (g i).data.toList) mid en i=R):=hR;clear hR hB;go_wp2_with fail;refine hC.mono ?_;clear hC x0 x1;rintro e w2 ⟨rfl,hd2⟩;have hb2:Below w.heap.size w w2:=Below.join hbw hd2;have x1:=HX2.out w2 hb2;have hC:=iQx (g i) HG 48 57 w2;rw[HB.out]at hC;clear hd2;go_wp2_with fail;refine hC.mono ?_;clear hC x1;rintro e w3 ⟨rfl,hd3⟩;have hb3:Below w.heap.size w w3:=Below.join hb2 hd3;go_wp2_with fail;go_roundw
    case rel=>exact⟨i+1,by omega,by omega,by go_num,by rw[HS.out];simp only[O1];congr 3;simp,hb3⟩
    case measure=>simp[intOf];omega
   ·have h52:¬(i:Int)<5:=by omega
    have HM:Hid (min n 5=i):=by show _=_;omega
    go_wp2_with fail;go_ret;exact⟨by rw[HM.out];rfl,hbw⟩
  ·have hlt2:¬(i:Int)<(n:Int):=by omega
   have HM:Hid (min n 5=i):=by show _=_;omega
   go_wp2_with fail;go_ret;exact⟨by rw[HM.out];rfl,hbw⟩
end Go.Proofs.YtfklinjaajafgaaGreatDoor
