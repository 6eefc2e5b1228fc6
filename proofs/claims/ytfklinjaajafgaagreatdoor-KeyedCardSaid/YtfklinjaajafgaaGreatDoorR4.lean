import Derived.Test.YtfklinjaajafgaaGreatDoorR3
import Derived.Test.YtfklinjaajafgaaGreatDoorR1
import Derived.Test.YtfklinjaajafgaaGreatDoorK60
import Derived.Test.YtfklinjaajafgaaGreatDoorK04
set_option maxRecDepth 100000
set_option maxHeartbeats 4000000
namespace Go.Proofs.YtfklinjaajafgaaGreatDoor
open Go.RowKit
theorem eQt {w:World}{G:Nat->Prop}{L p:Nat}{l:Ls.Ln}(h:LensV w G L p l){v s r:List UInt8}(hv:Ls.inL (Ls.dXv l) v)(hs:Ls.inL (Ls.dXx l) s)(hvl:v.length<=60)(hsl:s.length<=60)(hr:B4 l v s=r) :
  Calls Tryz.prog 28 #[.pointer (some ⟨L,0,none⟩),A4 v,A4 s] w fun e w'=>e=.returned (.tuple #[A4 r,.int .i64 0])/\Below w.heap.size w w':=by
 have o1:B7 (Ls.dXv l) v=true:=by
  unfold B7;rw[Bool.and_eq_true,decide_eq_true_eq,Ls.eX0 _ (Ls.OkL.view _ h.ok).ok];exact⟨hv,hvl⟩
 have o2:B7 (Ls.dXx l) s=true:=by
  unfold B7;rw[Bool.and_eq_true,decide_eq_true_eq,Ls.eX0 _ (Ls.OkL.src _ h.ok).ok];exact⟨hs,hsl⟩
 have hb:∀x:List UInt8,x.length<=60->(⟨x.toArray⟩:ByteArray).size<=1048576:=fun x hx=>by simp[ByteArray.size];omega
 have:=cQs ⟨v.toArray⟩ ⟨s.toArray⟩ (hb v hvl) (hb s hsl) w G L p l h;unfold bQv at this;rw[show (⟨v.toArray⟩:ByteArray).data.toList=v from rfl,show (⟨s.toArray⟩:ByteArray).data.toList=s from rfl,o1,o2,hr]at this;exact this
theorem jQ7 {W':World}{Gr:Nat->Prop}{L p:Nat}(h:LensV W' Gr L p L8){W U:List UInt8}(n:Nat)(hW0:W≠[])(hW:∀c,c∈W->M7 c=true)(hU0:U≠[])(hU:∀c,c∈U->M7 c=true)(hWl:W.length<=4)(hUl:U.length<=4)(hn:n<=4) :
  (W≠U->(Calls Tryz.prog 28 #[.pointer (some ⟨L,0,none⟩),.string ((((⟨U.toArray⟩:ByteArray)++(⟨#[55]⟩:ByteArray))++(⟨W.toArray⟩:ByteArray))++(⟨#[56]⟩:ByteArray)),.string (((((((⟨W.toArray⟩:ByteArray)++(⟨(List.replicate n 32).toArray⟩:ByteArray))++(⟨#[61,49,33]⟩:ByteArray))++(⟨U.toArray⟩:ByteArray))++(⟨#[61,32]⟩:ByteArray))++(⟨(List.replicate n 32).toArray⟩:ByteArray))++(⟨#[50,33,33]⟩:ByteArray))] W' fun e w'=>e=.returned (.tuple #[.string (((((((⟨U.toArray⟩:ByteArray)++(⟨#[61,32]⟩:ByteArray))++(⟨(List.replicate n 32).toArray⟩:ByteArray))++(⟨#[55,33,33]⟩:ByteArray))++(⟨W.toArray⟩:ByteArray))++(⟨(List.replicate n 32).toArray⟩:ByteArray))++(⟨#[61,56,33]⟩:ByteArray)),.int .i64 0])/\Below W'.heap.size W' w')/\(Calls Tryz.prog 28 #[.pointer (some ⟨L,0,none⟩),.string (((((⟨U.toArray⟩:ByteArray)++(⟨#[55]⟩:ByteArray))++(⟨W.toArray⟩:ByteArray))++(⟨#[56]⟩:ByteArray))++(⟨#[110,101,119,57]⟩:ByteArray)),.string (((((((⟨W.toArray⟩:ByteArray)++(⟨(List.replicate n 32).toArray⟩:ByteArray))++(⟨#[61,49,33]⟩:ByteArray))++(⟨U.toArray⟩:ByteArray))++(⟨#[61,32]⟩:ByteArray))++(⟨(List.replicate n 32).toArray⟩:ByteArray))++(⟨#[50,33,33]⟩:ByteArray))] W' fun e w'=>e=.returned (.tuple #[.string ((((((((⟨U.toArray⟩:ByteArray)++(⟨#[61,32]⟩:ByteArray))++(⟨(List.replicate n 32).toArray⟩:ByteArray))++(⟨#[55,33,33]⟩:ByteArray))++(⟨W.toArray⟩:ByteArray))++(⟨(List.replicate n 32).toArray⟩:ByteArray))++(⟨#[61,56,33]⟩:ByteArray))++(⟨#[110,101,119,61,57,33]⟩:ByteArray)),.int .i64 0])/\Below W'.heap.size W' w'))/\(W=U->(Calls Tryz.prog 28 #[.pointer (some ⟨L,0,none⟩),.string ((((⟨U.toArray⟩:ByteArray)++(⟨#[55]⟩:ByteArray))++(⟨W.toArray⟩:ByteArray))++(⟨#[56]⟩:ByteArray)),.string (((((((⟨W.toArray⟩:ByteArray)++(⟨(List.replicate n 32).toArray⟩:ByteArray))++(⟨#[61,49,33]⟩:ByteArray))++(⟨U.toArray⟩:ByteArray))++(⟨#[61,32]⟩:ByteArray))++(⟨(List.replicate n 32).toArray⟩:ByteArray))++(⟨#[50,33,33]⟩:ByteArray))] W' fun e w'=>e=.returned (.tuple #[.string (((((((⟨W.toArray⟩:ByteArray)++(⟨(List.replicate n 32).toArray⟩:ByteArray))++(⟨#[61,55,33]⟩:ByteArray))++(⟨W.toArray⟩:ByteArray))++(⟨#[61,32]⟩:ByteArray))++(⟨(List.replicate n 32).toArray⟩:ByteArray))++(⟨#[56,33,33]⟩:ByteArray)),.int .i64 0])/\Below W'.heap.size W' w')/\(Calls Tryz.prog 28 #[.pointer (some ⟨L,0,none⟩),.string (((((⟨U.toArray⟩:ByteArray)++(⟨#[55]⟩:ByteArray))++(⟨W.toArray⟩:ByteArray))++(⟨#[56]⟩:ByteArray))++(⟨#[110,101,119,57]⟩:ByteArray)),.string (((((((⟨W.toArray⟩:ByteArray)++(⟨(List.replicate n 32).toArray⟩:ByteArray))++(⟨#[61,49,33]⟩:ByteArray))++(⟨U.toArray⟩:ByteArray))++(⟨#[61,32]⟩:ByteArray))++(⟨(List.replicate n 32).toArray⟩:ByteArray))++(⟨#[50,33,33]⟩:ByteArray))] W' fun e w'=>e=.returned (.tuple #[.string ((((((((⟨W.toArray⟩:ByteArray)++(⟨(List.replicate n 32).toArray⟩:ByteArray))++(⟨#[61,55,33]⟩:ByteArray))++(⟨W.toArray⟩:ByteArray))++(⟨#[61,32]⟩:ByteArray))++(⟨(List.replicate n 32).toArray⟩:ByteArray))++(⟨#[56,33,33]⟩:ByteArray))++(⟨#[110,101,119,61,57,33]⟩:ByteArray)),.int .i64 0])/\Below W'.heap.size W' w')):=by
 obtain⟨n1,n2⟩:=wQu;have s0:(((((((⟨W.toArray⟩:ByteArray)++(⟨(List.replicate n 32).toArray⟩:ByteArray))++(⟨#[61,49,33]⟩:ByteArray))++(⟨U.toArray⟩:ByteArray))++(⟨#[61,32]⟩:ByteArray))++(⟨(List.replicate n 32).toArray⟩:ByteArray))++(⟨#[50,33,33]⟩:ByteArray))=⟨(G8 W n 49++G9 U n 50).toArray⟩:=by
  simp only[O1];congr 2
  simp[G8,G9,List.replicate_succ]
 have v0:((((⟨U.toArray⟩:ByteArray)++(⟨#[55]⟩:ByteArray))++(⟨W.toArray⟩:ByteArray))++(⟨#[56]⟩:ByteArray))=⟨((U++[55])++((W++[56])++([]:List (List UInt8)).flatten)).toArray⟩:=by
  simp only[O1];congr 2
  simp
 have v1:(((((⟨U.toArray⟩:ByteArray)++(⟨#[55]⟩:ByteArray))++(⟨W.toArray⟩:ByteArray))++(⟨#[56]⟩:ByteArray))++(⟨#[110,101,119,57]⟩:ByteArray))=⟨((U++[55])++((W++[56])++[[110,101,119]++[57]].flatten)).toArray⟩:=by
  simp only[O1];congr 2
  simp
 have i0:=jQ6 n [] hW0 hW hU0 hU (fun y hy=>by cases hy);have i1:=jQ6 n [[110,101,119]++[57]] hW0 hW hU0 hU (fun y hy=>by rw[List.mem_singleton.1 hy];exact n1);have k0:=jQ8 n [] hW0 hW hU0 hU (fun y hy=>by cases hy);have k1:=jQ8 n [[110,101,119]++[57]] hW0 hW hU0 hU (fun y hy=>by rw[List.mem_singleton.1 hy];exact n1);have ls:(G8 W n 49++G9 U n 50).length<=60:=by simp[G8,G9];omega
 rw[n2]at k1;simp only[E5]at k0;rw[s0,v1,v0];refine⟨fun hne=>?_,fun he=>?_⟩
 ·rw[if_neg hne]at k0 k1
  refine⟨?_,?_⟩
  ·rw[show (((((((⟨U.toArray⟩:ByteArray)++(⟨#[61,32]⟩:ByteArray))++(⟨(List.replicate n 32).toArray⟩:ByteArray))++(⟨#[55,33,33]⟩:ByteArray))++(⟨W.toArray⟩:ByteArray))++(⟨(List.replicate n 32).toArray⟩:ByteArray))++(⟨#[61,56,33]⟩:ByteArray))=⟨(G9 U n 55++(G8 W n 56++[])).toArray⟩ by simp only[O1];congr 2;simp[G8,G9,List.replicate_succ]]
   exact eQt h i0.1 i0.2 (by simp;omega) ls k0
  ·rw[show ((((((((⟨U.toArray⟩:ByteArray)++(⟨#[61,32]⟩:ByteArray))++(⟨(List.replicate n 32).toArray⟩:ByteArray))++(⟨#[55,33,33]⟩:ByteArray))++(⟨W.toArray⟩:ByteArray))++(⟨(List.replicate n 32).toArray⟩:ByteArray))++(⟨#[61,56,33]⟩:ByteArray))++(⟨#[110,101,119,61,57,33]⟩:ByteArray))=⟨(G9 U n 55++(G8 W n 56++[110,101,119,61,57,33])).toArray⟩ by simp only[O1];congr 2;simp[G8,G9,List.replicate_succ]]
   exact eQt h i1.1 i1.2 (by simp;omega) ls k1
 ·rw[if_pos he]at k0 k1
  refine⟨?_,?_⟩
  ·rw[show (((((((⟨W.toArray⟩:ByteArray)++(⟨(List.replicate n 32).toArray⟩:ByteArray))++(⟨#[61,55,33]⟩:ByteArray))++(⟨W.toArray⟩:ByteArray))++(⟨#[61,32]⟩:ByteArray))++(⟨(List.replicate n 32).toArray⟩:ByteArray))++(⟨#[56,33,33]⟩:ByteArray))=⟨(G8 W n 55++(G9 W n 56++[])).toArray⟩ by simp only[O1];congr 2;simp[G8,G9,List.replicate_succ]]
   exact eQt h i0.1 i0.2 (by simp;omega) ls k0
  ·rw[show ((((((((⟨W.toArray⟩:ByteArray)++(⟨(List.replicate n 32).toArray⟩:ByteArray))++(⟨#[61,55,33]⟩:ByteArray))++(⟨W.toArray⟩:ByteArray))++(⟨#[61,32]⟩:ByteArray))++(⟨(List.replicate n 32).toArray⟩:ByteArray))++(⟨#[56,33,33]⟩:ByteArray))++(⟨#[110,101,119,61,57,33]⟩:ByteArray))=⟨(G8 W n 55++(G9 W n 56++[110,101,119,61,57,33])).toArray⟩ by simp only[O1];congr 2;simp[G8,G9,List.replicate_succ]]
   exact eQt h i1.1 i1.2 (by simp;omega) ls k1
theorem vQa (f1 f2:ByteArray)(z:Int)(hz1:-9223372036854775808<=z)(hz2:z<=9223372036854775807)(W U:List UInt8)(hWl:W.length<=4)(hWn:(W==[110,101,119])=false)(hUl:U.length<=4)(hUn:(U==[110,101,119])=false)(hWU:(W==U)=false)(w:World)
  (hC:Calls Tryz.prog 18 #[.string ⟨#[60,47,91,97,45,122,93,43,47,45,47,32,42,61,32,42,47,34,61,34,47,91,48,45,57,93,43,47,45,47,33,43,47,34,33,34,62]⟩] w fun e w'=>∃L p,e=.returned (.tuple #[.pointer (some ⟨L,0,none⟩),.int .i64 ((0:Nat):Int)])/\Below w.heap.size w w'/\LensV w' (B8 w w') L p L8)
  (h1:∀W',Below w.heap.size w W'->Calls Tryz.prog 35 #[.string f1,.int .u8 97,.int .u8 122] W' fun e w'=>e=.returned (A4 W)/\Below W'.heap.size W' w')
  (h2:∀W',Below w.heap.size w W'->Calls Tryz.prog 35 #[.string f2,.int .u8 97,.int .u8 122] W' fun e w'=>e=.returned (A4 U)/\Below W'.heap.size W' w')
  (hP:(∀n,n<=4->∀(W':World) (Gr:Nat->Prop) (L p:Nat),LensV W' Gr L p L8->Calls Tryz.prog 28 #[.pointer (some ⟨L,0,none⟩),.string ((((⟨U.toArray⟩:ByteArray)++(⟨#[55]⟩:ByteArray))++(⟨W.toArray⟩:ByteArray))++(⟨#[56]⟩:ByteArray)),.string (((((((⟨W.toArray⟩:ByteArray)++(⟨(List.replicate n 32).toArray⟩:ByteArray))++(⟨#[61,49,33]⟩:ByteArray))++(⟨U.toArray⟩:ByteArray))++(⟨#[61,32]⟩:ByteArray))++(⟨(List.replicate n 32).toArray⟩:ByteArray))++(⟨#[50,33,33]⟩:ByteArray))] W' fun e w'=>e=.returned (.tuple #[.string (((((((⟨U.toArray⟩:ByteArray)++(⟨#[61,32]⟩:ByteArray))++(⟨(List.replicate n 32).toArray⟩:ByteArray))++(⟨#[55,33,33]⟩:ByteArray))++(⟨W.toArray⟩:ByteArray))++(⟨(List.replicate n 32).toArray⟩:ByteArray))++(⟨#[61,56,33]⟩:ByteArray)),.int .i64 0])/\Below W'.heap.size W' w')/\(∀n,n<=4->∀(W':World) (Gr:Nat->Prop) (L p:Nat),LensV W' Gr L p L8->Calls Tryz.prog 28 #[.pointer (some ⟨L,0,none⟩),.string (((((⟨U.toArray⟩:ByteArray)++(⟨#[55]⟩:ByteArray))++(⟨W.toArray⟩:ByteArray))++(⟨#[56]⟩:ByteArray))++(⟨#[110,101,119,57]⟩:ByteArray)),.string (((((((⟨W.toArray⟩:ByteArray)++(⟨(List.replicate n 32).toArray⟩:ByteArray))++(⟨#[61,49,33]⟩:ByteArray))++(⟨U.toArray⟩:ByteArray))++(⟨#[61,32]⟩:ByteArray))++(⟨(List.replicate n 32).toArray⟩:ByteArray))++(⟨#[50,33,33]⟩:ByteArray))] W' fun e w'=>e=.returned (.tuple #[.string ((((((((⟨U.toArray⟩:ByteArray)++(⟨#[61,32]⟩:ByteArray))++(⟨(List.replicate n 32).toArray⟩:ByteArray))++(⟨#[55,33,33]⟩:ByteArray))++(⟨W.toArray⟩:ByteArray))++(⟨(List.replicate n 32).toArray⟩:ByteArray))++(⟨#[61,56,33]⟩:ByteArray))++(⟨#[110,101,119,61,57,33]⟩:ByteArray)),.int .i64 0])/\Below W'.heap.size W' w')) :
  Calls Tryz.prog 12 #[.string f1,.string f2,.int .i64 z] w fun e w'=>e=.returned (.bool true)/\Below w.heap.size w w':=by
 have H1:Hid _:=h1;have H2:Hid _:=h2;have HP:Hid _:=hP;have fin:∀(N:Nat),Hid (N % 5<=4/\Int.tmod (N:Int) 5=((N % 5:Nat):Int)):=fun N=>⟨by omega,by rw[Int.tmod_eq_emod_of_nonneg (by omega)];omega⟩;clear h1 h2 hP
 by_cases hz:z<0
 case' pos=>obtain⟨N,hN⟩:∃N:Nat,-(z+1)=(N:Int):=⟨(-(z+1)).toNat,by omega⟩
 case' neg=>obtain⟨N,hN⟩:∃N:Nat,z=(N:Int):=⟨z.toNat,by omega⟩
 all_goals
  have hNb:(N:Int)<=9223372036854775807:=by omega
  have hwr:z<0->IntKind.i64.wrap (z+1)=z+1:=fun h=>by rw[IntKind.wrap_i64];omega
  have hwr2:z<0->IntKind.i64.wrap (-(z+1))=(N:Int):=fun h=>by rw[IntKind.wrap_i64];omega
  have HF:=fin N;have hrem:=HF.out.2;have hR5:((N % 5:Nat):Int)<=4:=by have:=HF.out.1;omega
  generalize hn5:N % 5=n at *;clear hn5;go_enter Tryz.func12,Tryz.ntmps12;go_wp2_with fail;refine hC.mono ?_;clear hC;rintro e w1 ⟨L,p,rfl,hb1,hL⟩;have HL:Hid (LensV w1 (B8 w w1) L p L8):=hL;clear hL;go_wp2_with fail;go_loopw [9,10] (fun gv tv wr=>∃i:Nat,i<=n/\tv=.int .i64 i/\gv=A4 (List.replicate i 32)/\wr=w1) (fun _ tv _=>n-(intOf tv).toNat)
  case atStart=>exact⟨0,Nat.zero_le _,rfl,rfl,rfl⟩
  case round=>
   obtain⟨i,hi,rfl,rfl,rfl⟩:=hrel;have hi0:(0:Int)<=(i:Int):=by omega
   by_cases hlt:i<n
   ·have hi2:(i:Int)<(n:Int):=by omega
    have hsz:i+1<=140737488355328:=by omega
    go_wp2_with fail;go_roundw
    case rel=>exact⟨i+1,by omega,by go_num,by show Value.string ((⟨(List.replicate i 32).toArray⟩:ByteArray)++⟨[32].toArray⟩)=_;rw[O1,<-List.replicate_succ'],trivial⟩
    case measure=>simp[intOf];omega
   ·have hi2:¬(i:Int)<(n:Int):=by omega
    obtain rfl:i=n:=by omega
    have hC1:=H1.out wr hb1;have hP0:=HP.out.1 i (by omega);have hP9:=HP.out.2 i (by omega);have HP0:Hid _:=hP0;have HP9:Hid _:=hP9;clear hP0 hP9 HP;go_wp2_with fail;refine hC1.mono ?_;clear hC1;rintro e w2 ⟨rfl,hd2⟩;have hb2:Below w.heap.size w w2:=Below.join hb1 hd2;have hC2:=H2.out w2 hb2;go_wp2_with fail;refine hC2.mono ?_;clear hC2;rintro e w3 ⟨rfl,hd3⟩;have hb3:Below w.heap.size w w3:=Below.join hb2 hd3;have hL3:=(HL.out.below hd2).below hd3;have hQ:=HP0.out w3 _ L p hL3;have HL3:Hid _:=hL3;clear hL3 hd2 hd3 HL HP0;go_wp2_with fail;refine hQ.mono ?_;clear hQ;rintro e w4 ⟨rfl,hd4⟩;have hb4:Below w.heap.size w w4:=Below.join hb3 hd4;have hQ:=HP9.out w4 _ L p (HL3.out.below hd4);clear hd4;go_wp2_with fail;refine hQ.mono ?_;clear hQ;rintro e w5 ⟨rfl,hd5⟩;go_wp2_with fail;go_ret;exact⟨rfl,Below.join hb4 hd5⟩
theorem uQ7 (f1 f2:ByteArray)(z:Int)(hz1:-9223372036854775808<=z)(hz2:z<=9223372036854775807)(W:List UInt8)(hWl:W.length<=4)(hWn:(W==[110,101,119])=false)(w:World)
  (hC:Calls Tryz.prog 18 #[.string ⟨#[60,47,91,97,45,122,93,43,47,45,47,32,42,61,32,42,47,34,61,34,47,91,48,45,57,93,43,47,45,47,33,43,47,34,33,34,62]⟩] w fun e w'=>∃L p,e=.returned (.tuple #[.pointer (some ⟨L,0,none⟩),.int .i64 ((0:Nat):Int)])/\Below w.heap.size w w'/\LensV w' (B8 w w') L p L8)
  (h1:∀W',Below w.heap.size w W'->Calls Tryz.prog 35 #[.string f1,.int .u8 97,.int .u8 122] W' fun e w'=>e=.returned (A4 W)/\Below W'.heap.size W' w')
  (h2:∀W',Below w.heap.size w W'->Calls Tryz.prog 35 #[.string f2,.int .u8 97,.int .u8 122] W' fun e w'=>e=.returned (A4 W)/\Below W'.heap.size W' w')
  (hP:(∀n,n<=4->∀(W':World) (Gr:Nat->Prop) (L p:Nat),LensV W' Gr L p L8->Calls Tryz.prog 28 #[.pointer (some ⟨L,0,none⟩),.string ((((⟨W.toArray⟩:ByteArray)++(⟨#[55]⟩:ByteArray))++(⟨W.toArray⟩:ByteArray))++(⟨#[56]⟩:ByteArray)),.string (((((((⟨W.toArray⟩:ByteArray)++(⟨(List.replicate n 32).toArray⟩:ByteArray))++(⟨#[61,49,33]⟩:ByteArray))++(⟨W.toArray⟩:ByteArray))++(⟨#[61,32]⟩:ByteArray))++(⟨(List.replicate n 32).toArray⟩:ByteArray))++(⟨#[50,33,33]⟩:ByteArray))] W' fun e w'=>e=.returned (.tuple #[.string (((((((⟨W.toArray⟩:ByteArray)++(⟨(List.replicate n 32).toArray⟩:ByteArray))++(⟨#[61,55,33]⟩:ByteArray))++(⟨W.toArray⟩:ByteArray))++(⟨#[61,32]⟩:ByteArray))++(⟨(List.replicate n 32).toArray⟩:ByteArray))++(⟨#[56,33,33]⟩:ByteArray)),.int .i64 0])/\Below W'.heap.size W' w')/\(∀n,n<=4->∀(W':World) (Gr:Nat->Prop) (L p:Nat),LensV W' Gr L p L8->Calls Tryz.prog 28 #[.pointer (some ⟨L,0,none⟩),.string (((((⟨W.toArray⟩:ByteArray)++(⟨#[55]⟩:ByteArray))++(⟨W.toArray⟩:ByteArray))++(⟨#[56]⟩:ByteArray))++(⟨#[110,101,119,57]⟩:ByteArray)),.string (((((((⟨W.toArray⟩:ByteArray)++(⟨(List.replicate n 32).toArray⟩:ByteArray))++(⟨#[61,49,33]⟩:ByteArray))++(⟨W.toArray⟩:ByteArray))++(⟨#[61,32]⟩:ByteArray))++(⟨(List.replicate n 32).toArray⟩:ByteArray))++(⟨#[50,33,33]⟩:ByteArray))] W' fun e w'=>e=.returned (.tuple #[.string ((((((((⟨W.toArray⟩:ByteArray)++(⟨(List.replicate n 32).toArray⟩:ByteArray))++(⟨#[61,55,33]⟩:ByteArray))++(⟨W.toArray⟩:ByteArray))++(⟨#[61,32]⟩:ByteArray))++(⟨(List.replicate n 32).toArray⟩:ByteArray))++(⟨#[56,33,33]⟩:ByteArray))++(⟨#[110,101,119,61,57,33]⟩:ByteArray)),.int .i64 0])/\Below W'.heap.size W' w')) :
  Calls Tryz.prog 12 #[.string f1,.string f2,.int .i64 z] w fun e w'=>e=.returned (.bool true)/\Below w.heap.size w w':=by
 have H1:Hid _:=h1;have H2:Hid _:=h2;have HP:Hid _:=hP;have fin:∀(N:Nat),Hid (N % 5<=4/\Int.tmod (N:Int) 5=((N % 5:Nat):Int)):=fun N=>⟨by omega,by rw[Int.tmod_eq_emod_of_nonneg (by omega)];omega⟩;clear h1 h2 hP
 by_cases hz:z<0
 case' pos=>obtain⟨N,hN⟩:∃N:Nat,-(z+1)=(N:Int):=⟨(-(z+1)).toNat,by omega⟩
 case' neg=>obtain⟨N,hN⟩:∃N:Nat,z=(N:Int):=⟨z.toNat,by omega⟩
 all_goals
  have hNb:(N:Int)<=9223372036854775807:=by omega
  have hwr:z<0->IntKind.i64.wrap (z+1)=z+1:=fun h=>by rw[IntKind.wrap_i64];omega
  have hwr2:z<0->IntKind.i64.wrap (-(z+1))=(N:Int):=fun h=>by rw[IntKind.wrap_i64];omega
  have HF:=fin N;have hrem:=HF.out.2;have hR5:((N % 5:Nat):Int)<=4:=by have:=HF.out.1;omega
  generalize hn5:N % 5=n at *;clear hn5;go_enter Tryz.func12,Tryz.ntmps12;go_wp2_with fail;refine hC.mono ?_;clear hC;rintro e w1 ⟨L,p,rfl,hb1,hL⟩;have HL:Hid (LensV w1 (B8 w w1) L p L8):=hL;clear hL;go_wp2_with fail;go_loopw [9,10] (fun gv tv wr=>∃i:Nat,i<=n/\tv=.int .i64 i/\gv=A4 (List.replicate i 32)/\wr=w1) (fun _ tv _=>n-(intOf tv).toNat)
  case atStart=>exact⟨0,Nat.zero_le _,rfl,rfl,rfl⟩
  case round=>
   obtain⟨i,hi,rfl,rfl,rfl⟩:=hrel;have hi0:(0:Int)<=(i:Int):=by omega
   by_cases hlt:i<n
   ·have hi2:(i:Int)<(n:Int):=by omega
    have hsz:i+1<=140737488355328:=by omega
    go_wp2_with fail;go_roundw
    case rel=>exact⟨i+1,by omega,by go_num,by show Value.string ((⟨(List.replicate i 32).toArray⟩:ByteArray)++⟨[32].toArray⟩)=_;rw[O1,<-List.replicate_succ'],trivial⟩
    case measure=>simp[intOf];omega
   ·have hi2:¬(i:Int)<(n:Int):=by omega
    obtain rfl:i=n:=by omega
    have hC1:=H1.out wr hb1;have hP0:=HP.out.1 i (by omega);have hP9:=HP.out.2 i (by omega);have HP0:Hid _:=hP0;have HP9:Hid _:=hP9;clear hP0 hP9 HP;go_wp2_with fail;refine hC1.mono ?_;clear hC1;rintro e w2 ⟨rfl,hd2⟩;have hb2:Below w.heap.size w w2:=Below.join hb1 hd2;have hC2:=H2.out w2 hb2;go_wp2_with fail;refine hC2.mono ?_;clear hC2;rintro e w3 ⟨rfl,hd3⟩;have hb3:Below w.heap.size w w3:=Below.join hb2 hd3;have hL3:=(HL.out.below hd2).below hd3;have hQ:=HP0.out w3 _ L p hL3;have HL3:Hid _:=hL3;clear hL3 hd2 hd3 HL HP0;go_wp2_with fail;refine hQ.mono ?_;clear hQ;rintro e w4 ⟨rfl,hd4⟩;have hb4:Below w.heap.size w w4:=Below.join hb3 hd4;have hQ:=HP9.out w4 _ L p (HL3.out.below hd4);clear hd4;go_wp2_with fail;refine hQ.mono ?_;clear hQ;rintro e w5 ⟨rfl,hd5⟩;go_wp2_with fail;go_ret;exact⟨rfl,Below.join hb4 hd5⟩
theorem iQw (s:List UInt8):M5 97 122 s≠[]/\(∀c,c∈M5 97 122 s->M7 c=true)/\(M5 97 122 s).length<=4/\(M5 97 122 s==[110,101,119])=false:=by
 have h:=fQ0 (inR 97 122) s 3;refine⟨by simp[M5],fun c hc=>?_,by simp[M5];exact h.1,by simp[M5]⟩;unfold M5 at hc;rcases List.mem_cons.1 hc with rfl|hc
 ·rfl
 ·exact h.2 c hc
theorem uQ8 (f1 f2:ByteArray)(z:Int)(hf1:f1.size<=9223372036854775807)(hf2:f2.size<=9223372036854775807)(hz1:-9223372036854775808<=z)(hz2:z<=9223372036854775807)(w:World)(hC:Calls Tryz.prog 18 #[.string ⟨bQ9.toArray⟩] w (CompilePost ⟨bQ9.toArray⟩ w)) :
  Calls Tryz.prog 12 #[.string f1,.string f2,.int .i64 z] w fun e w'=>e=.returned (.bool true)/\Below w.heap.size w w':=by
 have hC2:Calls Tryz.prog 18 #[.string ⟨#[60,47,91,97,45,122,93,43,47,45,47,32,42,61,32,42,47,34,61,34,47,91,48,45,57,93,43,47,45,47,33,43,47,34,33,34,62]⟩] w fun e w'=>∃L p,e=.returned (.tuple #[.pointer (some ⟨L,0,none⟩),.int .i64 ((0:Nat):Int)])/\Below w.heap.size w w'/\LensV w' (B8 w w') L p L8:=hC.mono (fun e w' h=>h.known jQd tQd);obtain⟨a0,a1,a2,a3⟩:=iQw f1.data.toList;obtain⟨b0,b1,b2,b3⟩:=iQw f2.data.toList;have c1:∀W',Below w.heap.size w W'->_:=fun W' _=>iQx f1 hf1 97 122 W';have c2:∀W',Below w.heap.size w W'->_:=fun W' _=>iQx f2 hf2 97 122 W'
 by_cases h:M5 97 122 f1.data.toList=M5 97 122 f2.data.toList
 ·have hp:∀n,n<=4->∀(W':World) (Gr:Nat->Prop) (L p:Nat),LensV W' Gr L p L8->_:=fun n hn W' Gr L p hL=>(jQ7 hL n a0 a1 b0 b1 a2 b2 hn).2 h
  rw[<-h]at c2 hp;exact uQ7 f1 f2 z hz1 hz2 _ a2 a3 w hC2 c1 c2 ⟨fun n hn W' Gr L p hL=>(hp n hn W' Gr L p hL).1,fun n hn W' Gr L p hL=>(hp n hn W' Gr L p hL).2⟩
 ·have hb:(M5 97 122 f1.data.toList==M5 97 122 f2.data.toList)=false:=by simpa using h
  have hp:∀n,n<=4->∀(W':World) (Gr:Nat->Prop) (L p:Nat),LensV W' Gr L p L8->_:=fun n hn W' Gr L p hL=>(jQ7 hL n a0 a1 b0 b1 a2 b2 hn).1 h;exact vQa f1 f2 z hz1 hz2 _ _ a2 a3 b2 b3 hb w hC2 c1 c2 ⟨fun n hn W' Gr L p hL=>(hp n hn W' Gr L p hL).1,fun n hn W' Gr L p hL=>(hp n hn W' Gr L p hL).2⟩
end Go.Proofs.YtfklinjaajafgaaGreatDoor
namespace Go.Proofs.YtfklinjaajafgaaGreatDoor
open Go.ChangeShapes Go.WideShapes Go.ChangeAt Go.RowKit
open Go.ChangeMaps (open_string shut_string)
theorem uQq {z:Int}(h:(Lit.int .i64 z).wf=true):-9223372036854775808<=z/\z<=9223372036854775807:=by
 simp only[Lit.wf,Bool.and_eq_true,decide_eq_true_eq]at h;have h1:IntKind.i64.min=-9223372036854775808:=by decide
 have h2:IntKind.i64.max=9223372036854775807:=by decide
 rw[h1,h2]at h;exact h
theorem uQ9 (os:Os)(started:os.Started)(H:Type)(enc:TypeId × Value->H) :
  ReturnsInHanded {} Tryz.checked os 12 .any (fun w args=>(Rows.keyedSpec.pre enc Tryz.prog Tryz.f12 [] false w args/\laidMetH Tryz.prog laid4 w)/\sizedMet enc Tryz.prog Tryz.f12 (OpenSpec.ofChange Rows.keyedSpec) false w args)
   (Rows.keyedSpec.post enc Tryz.prog Tryz.f12 false true false false):=by
 refine returnsInHanded_of_change_and (C:=Tryz.checked) (X:=fun w _=>laidMetH Tryz.prog laid4 w) (fun _ _ _ hh h=>h.of_heap hh) own started (by kernel_rfl) Tryz.func12
  (ChangeSpec.witness_shaped (enc:=enc) (C:=Tryz.checked) (os:=os) (X:=fun w _=>laidMetH Tryz.prog laid4 w) false (World.doorLaid Tryz.prog 400 os) #[.string ByteArray.empty,.string ByteArray.empty,.int .i64 0] 8 rfl (World.shaped_of_RefB (by kernel_rfl) (by kernel_rfl)) (by kernel_rfl) (by kernel_rfl) (by kernel_rfl) (aQx os _)) ?_
 intro W base args ds gs before hval0 hW _ _ hL _;have hval:∀(j:Nat) t v,Tryz.f12.params[j]?=some t->args[j]?=some v->Value.okWide Tryz.prog W .any base t v:=hval0;have hW':=hW;obtain⟨p,q,hA0,hV,rfl,hfz,hnd⟩:=hW;have hA:DataW.TrodAll enc Tryz.prog W 0 (fun _=>true) true Tryz.f12.params.toList args.toList ds p:=hA0;rw[Tryz.params12]at hA hval;obtain⟨v0,vs0,d0,ds0,p0,q0,hargs,rfl,rfl,h0,r0⟩:=trodAll_cons hA;obtain⟨v1,vs1,d1,ds1,p1,q1,rfl,rfl,rfl,h1,r1⟩:=trodAll_cons r0;obtain⟨v2,vs2,d2,ds2,p2,q2,rfl,rfl,rfl,h2,r2⟩:=trodAll_cons r1;obtain⟨rfl,rfl,rfl⟩:=trodAll_nil r2;obtain rfl:args=#[v0,v1,v2]:=by cases args;simp_all
 obtain⟨rfl,rfl⟩:=trodVars_none hV;obtain⟨a0,rfl,rfl,rfl,w0⟩:=open_string Tryz.underlying9 (hval 0 9 v0 rfl rfl) h0;obtain⟨a1,rfl,rfl,rfl,w1⟩:=open_string Tryz.underlying9 (hval 1 9 v1 rfl rfl) h1;obtain⟨a2,rfl,rfl,rfl,w2⟩:=open_int Tryz.underlying3 (hval 2 3 v2 rfl rfl) h2;have hz:=uQq w2;obtain⟨x0,x1,x2,x3,hs⟩:=aQ2 hL;clear hA0 hval0;simp only[List.append_nil]at hW';refine(uQ8 a0 a1 a2 w0 w1 hz.1 hz.2 W (aQg ⟨bQ9.toArray⟩ (by decide) W x0 x1 x2 x3 hs)).mono fun e W' ⟨he,hg⟩=>?_;subst he;refine⟨_,rfl,_,_,_,[],[],[],hW',?_,?_,?_,hg.frame _,fun h=>by cases h⟩
 ·exact trodAll_cons_mk (shut_bool Tryz.underlying4 _) trodAll_mk0
 ·exact trodAll_cons_mk (shut_string Tryz.underlying9 w0) (trodAll_cons_mk (shut_string Tryz.underlying9 w1) (trodAll_cons_mk (shut_int Tryz.underlying3 w2) trodAll_mk0))
 ·rfl
theorem vQb:Rows.KeyedSaid:=
 OpenClaim.holds_of_wide 12 Tryz.f12 rfl rfl rfl rfl rfl rfl rfl ⟨rfl,rfl,rfl,rfl,rfl⟩ rfl rfl rfl rfl rfl (by kernel_rfl) Tryz.func12 (by kernel_rfl)
  (of_decide_eq_true (by kernel_rfl)) (by unfold Func.isWrapper;first|(rw[if_pos (by decide +kernel)];kernel_rfl)|(rw[if_neg (by decide +kernel)];exact⟨rfl,rfl⟩))
  (fun os started H enc _=>uQ9 os started H enc)
theorem keyed_holds:Rows.KeyedCardSaid:=
 Claim7.holds_tied_plain_at .later [] [.sentinel,.sentinel,.sentinel,.sentinel] true Rows.keyedCard.stood.harness true
  vQb (fun _ h=>by cases h) (by kernel_rfl) (fun _ h=>by cases h) keyed_row_tie rfl ⟨rfl,rfl⟩ (by kernel_rfl) rfl
  (fun f fn hf hfn=>by
   obtain rfl : f = 12 := Option.some.inj ((show Tryz.prog.funcNamed "lenses/lenseskeep.Keyed" = some 12 by kernel_rfl).symm.trans hf) |>.symm
   obtain rfl:fn=Tryz.f12:=(Option.some.inj (Tryz.func12.symm.trans hfn)).symm;exact⟨by kernel_rfl,fun j t ht=>by
    rw[Tryz.params12]at ht;have hm:t∈[9,9,3]:=by simpa using Array.mem_of_getElem? ht
    have hall:([9,9,3].all fun u=>!Tryz.prog.wantsStandIn u)=true:=by kernel_rfl
    exact(show Tryz.prog.wantsStandIn t=false by simpa using List.all_eq_true.1 hall t hm)⟩) (by kernel_rfl)
end Go.Proofs.YtfklinjaajafgaaGreatDoor
