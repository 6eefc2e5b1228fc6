import Derived.Test.YtfklinjaajafgaaGreatDoorK35
import Derived.Test.YtfklinjaajafgaaGreatDoorK53
set_option maxRecDepth 100000
set_option maxHeartbeats 4000000
namespace Go.Proofs.YtfklinjaajafgaaGreatDoor
open Ls
open Go.RowKit
theorem Z0 {c:Nat}(p:Pat)(d:BdL c p)(b:c<=121)(s:By)(hs:s.size<=1048576)(y:Value)(w:World)(G:Nat->Prop)(a:Old w G)(f:PV w G p y) :
  Calls Tryz.prog 59 #[B4 p y,.string s] w fun e g=>e=.returned (.bool (Ls.is p s.data.toList))/\Bw w g:=
 kQy p s y _ (d.room b).1 (by simp) (by unfold maxLen;omega) w G a f
theorem lQy {c:Nat}(p:Pat)(v:BdL c p)(u:c<=121)(s:By)(hs:s.size<=1048576)(y:Value)(w:World)(G:Nat->Prop)(m:Old w G)(i:PV w G p y) :
  Calls Tryz.prog 50 #[B4 p y,.string s] w fun e x=>e=.returned (.bool (B6 p s.data.toList))/\Bw w x:=by
 obtain⟨o,q,t,rfl⟩:=PV.slice _ _ i;have d:=A5 w (C1 p (.slice o q t));have l:=Z0 p v u s hs (.slice o q t) _ G (fun j g=>Ll (m j g) d.size) (i.below d (fun j g=>m j g) (fun _ h=>h));have k:Hid _:=d;have a:Hid (B6 p s.data.toList=(Ls.is p s.data.toList&&decide (s.size<=60))):=by show _=_;unfold B6;rw[Array.length_toList];rfl
 generalize Ls.is p s.data.toList=b at *;generalize B6 p s.data.toList=r at *;clear i d;go_enter Tryz.func50,Tryz.ntmps50;go_wp2_with fail;refine l.mono ?_;rintro e z ⟨rfl,n⟩;clear l;cases b with
 | false=>
  have f:Hid (r=false):=by rw[a.out];rfl
  clear a;go_wp2_with fail;go_ret;exact⟨by rw[f.out];rfl,Bj k.out n⟩
 | true=>
  have f:Hid (r=decide ((s.size:Int)<=60)):=by
   show _=_;rw[a.out,Bool.true_and]
   by_cases h:s.size<=60
   ·rw[decide_eq_true h,decide_eq_true (by omega)]
   ·rw[decide_eq_false h,decide_eq_false (by omega)]
  clear a;go_wp2_with fail;go_ret;exact⟨by rw[f.out];rfl,Bj k.out n⟩
theorem gQ9 (l:Ln)(I:OkL 120 l)(z:D8 l)(s:By)(hs:s.size<=1048576)(y x:Value)(w:World)(G:Nat->Prop)(t:Old w G)(c:NV w G l y x) :
  Calls Tryz.prog 21 #[F0 l y x,.string s] w fun e J=>e=.returned (.bool (B6 (eX8 l) s.data.toList))/\Bw w J:=by
 obtain⟨⟨k,m,n,rfl⟩,f,g,i,rfl⟩:=NV.slices _ _ _ c;have b:=A5 w (B7 l.kind (eX5 l.p) l.w (.slice k m n) (.slice f g i));have u:Old (w.alloc (B7 l.kind (eX5 l.p) l.w (.slice k m n) (.slice f g i))) G:=fun j a=>Ll (t j a) b.size;have o:=z (.slice k m n) (.slice f g i) _ G u (c.below b (fun j a=>t j a) (fun _ h=>h));have C:Hid _:=b;have H:=I.src;generalize B:B6 (eX8 l) s.data.toList=r;have E:Hid (B6 (eX8 l) s.data.toList=r):=B;clear c b z B;go_enter Tryz.func21,Tryz.ntmps21;go_wp2_with fail;refine o.mono ?_;clear o;rintro e K ⟨v,rfl,d,A⟩;have q:=lQy (eX8 l) H (by omega) s hs v K _ (fun j a=>by
  rcases a with a|a
  ·exact Ll (u j a) A.size
  ·exact a.2) d
 obtain⟨L,M,N,rfl⟩:=PV.slice _ _ d;clear d;rw[E.out]at q;go_wp2_with fail;refine q.mono ?_;rintro e O ⟨rfl,F⟩;go_wp2_with fail;go_ret;exact⟨rfl,Bj (Bj C.out A) F⟩
theorem hQa (l:Ln)(I:OkL 120 l)(z:D7 l)(s:By)(hs:s.size<=1048576)(y x:Value)(w:World)(G:Nat->Prop)(t:Old w G)(c:NV w G l y x) :
  Calls Tryz.prog 23 #[F0 l y x,.string s] w fun e J=>e=.returned (.bool (B6 (eX6 l) s.data.toList))/\Bw w J:=by
 obtain⟨⟨k,m,n,rfl⟩,f,g,i,rfl⟩:=NV.slices _ _ _ c;have b:=A5 w (B7 l.kind (eX5 l.p) l.w (.slice k m n) (.slice f g i));have u:Old (w.alloc (B7 l.kind (eX5 l.p) l.w (.slice k m n) (.slice f g i))) G:=fun j a=>Ll (t j a) b.size;have o:=z (.slice k m n) (.slice f g i) _ G u (c.below b (fun j a=>t j a) (fun _ h=>h));have C:Hid _:=b;have H:=I.view;generalize B:B6 (eX6 l) s.data.toList=r;have E:Hid (B6 (eX6 l) s.data.toList=r):=B;clear c b z B;go_enter Tryz.func23,Tryz.ntmps23;go_wp2_with fail;refine o.mono ?_;clear o;rintro e K ⟨v,rfl,d,A⟩;have q:=lQy (eX6 l) H (by omega) s hs v K _ (fun j a=>by
  rcases a with a|a
  ·exact Ll (u j a) A.size
  ·exact a.2) d
 obtain⟨L,M,N,rfl⟩:=PV.slice _ _ d;clear d;rw[E.out]at q;go_wp2_with fail;refine q.mono ?_;rintro e O ⟨rfl,F⟩;go_wp2_with fail;go_ret;exact⟨rfl,Bj (Bj C.out A) F⟩
theorem S5 (s:By)(i:Nat):(s.extract 0 i).data.toList=s.data.toList.take i:=by
 rw[cQu];simp
theorem V6 (s:By)(i:Nat):(s.extract i s.size).data.toList=s.data.toList.drop i:=by
 rw[cQu];show List.take (s.size-i) (rest s i)=_;exact List.take_of_length_le (by rw[F4];omega)
theorem tQu {c:Nat}(p q:Pat)(hp:BdL c p)(hq:BdL c q)(U:c<=121)(s:By)(hs:s.size<=1048576)(y z:Value)(w:World)(G:Nat->Prop)(F:Old w G)(r:PV w G p y)(L:PV w G q z) :
  Calls Tryz.prog 88 #[.string s,B4 p y,B4 q z] w fun e a=>e=.returned (Iv (C0 p q s.data.toList))/\Bw w a:=by
 obtain⟨b,d,f,rfl⟩:=PV.slice _ _ r;obtain⟨g,i,l,rfl⟩:=PV.slice _ _ L;have S:=C6 w (C1 p (.slice b d f)) (C1 q (.slice g i l));have M:Hid (∀W k,k<=s.size->Below w.heap.size w W->Calls Tryz.prog 59 #[B4 p (.slice b d f),.string (s.extract 0 k)] W fun e a=>e=.returned (.bool (Ls.is p (s.data.toList.take k)))/\Below W.heap.size W a):=fun W k V m=>by
  have:=Z0 p hp U (s.extract 0 k) (by rw[ByteArray.size_extract];omega) _ W G (fun j n=>Nat.lt_of_lt_of_le (F j n) m.size) (r.below m (fun j n=>F j n) (fun _ h=>h));rw[S5]at this;exact this
 have HJ:Hid (∀W k,k<=s.size->Below w.heap.size w W->Calls Tryz.prog 59 #[B4 q (.slice g i l),.string (s.extract k s.size)] W fun e a=>e=.returned (.bool (Ls.is q (s.data.toList.drop k)))/\Below W.heap.size W a):=fun W k V m=>by
  have:=Z0 q hq U (s.extract k s.size) (by rw[ByteArray.size_extract];omega) _ W G (fun j n=>Nat.lt_of_lt_of_le (F j n) m.size) (L.below m (fun j n=>F j n) (fun _ h=>h));rw[V6]at this;exact this
 have H:Hid _:=S;have HL:Hid (s.data.toList.length=s.size):=by show _=_;simp
 have A:Hid (∀W:World,Below ((w.alloc (C1 p (.slice b d f))).alloc (C1 q (.slice g i l))).heap.size ((w.alloc (C1 p (.slice b d f))).alloc (C1 q (.slice g i l))) W->
   (W.cell? ⟨w.heap.size,0,none⟩=some (.int .i64 p.kind)/\W.cell? ⟨w.heap.size,1,none⟩=some (.string ⟨p.signs.toArray⟩)/\W.cell? ⟨w.heap.size,2,none⟩=some (.slice b d f))/\
   (W.cell? ⟨w.heap.size+1,0,none⟩=some (.int .i64 q.kind)/\W.cell? ⟨w.heap.size+1,1,none⟩=some (.string ⟨q.signs.toArray⟩)/\W.cell? ⟨w.heap.size+1,2,none⟩=some (.slice g i l))):=fun W m=>by
  have C:(w.alloc (C1 p (.slice b d f))).heap[w.heap.size]?=some (.cells #[.int .i64 p.kind,.string ⟨p.signs.toArray⟩,.slice b d f] 27 (0,0)):=heap_alloc_new _ _;have E:((w.alloc (C1 p (.slice b d f))).alloc (C1 q (.slice g i l))).heap[w.heap.size+1]?=some (.cells #[.int .i64 q.kind,.string ⟨q.signs.toArray⟩,.slice g i l] 27 (0,0)):=by
   have:=heap_alloc_new (w.alloc (C1 p (.slice b d f))) (C1 q (.slice g i l));rw[World.size_alloc]at this;exact this
  rw[<-Below.heap_alloc _ (C1 q (.slice g i l)) _ (by simp),<-m.block _ (by simp;omega)]at C;rw[<-m.block _ (by simp)]at E;exact⟨⟨by simp[World.cell?,C],by simp[World.cell?,C],by simp[World.cell?,C]⟩,by simp[World.cell?,E],by simp[World.cell?,E],by simp[World.cell?,E]⟩
 clear r L S;have a9:((w.alloc (C1 p (.slice b d f))).alloc (C1 q (.slice g i l))).heap.size=w.heap.size+1+1:=by simp
 go_enter Tryz.func88,Tryz.ntmps88;go_wp2_with fail;generalize (w.alloc (C1 p (.slice b d f))).alloc (C1 q (.slice g i l))=o at *;go_loopw [7] (fun t wr=>∃k:Nat,k<=s.size+1/\t=.int .i64 k/\Below o.heap.size o wr/\C0 p q s.data.toList=R0 p q s.data.toList (s.size+1-k) k) (fun t _=>s.size+1-(intOf t).toNat)
 case atStart=>exact⟨0,Nat.zero_le _,rfl,Below.refl _ _,by unfold C0;rw[HL.out];rfl⟩
 case round=>
  obtain⟨k,V,rfl,J,hcut⟩:=hrel;have B:Hid (C0 p q s.data.toList=R0 p q s.data.toList (s.size+1-k) k):=hcut;have T:=Bj H.out J;obtain⟨⟨c0,c1,c2⟩,P,Q,R⟩:=A.out wr J;clear hcut
  by_cases X:k<=s.size
  ·have a8:(k:Int)<=(s.size:Int):=by omega
   have h0:(0:Int)<=(k:Int):=by omega
   have I:Hid (R0 p q s.data.toList (s.size+1-k) k=if (Ls.is p (s.data.toList.take k)&&Ls.is q (s.data.toList.drop k))=true then k else R0 p q s.data.toList (s.size-k) (k+1)):=by
    show _=_;rw[show s.size+1-k=(s.size-k)+1 from by omega,R0]
   generalize Y:Ls.is p (s.data.toList.take k)=N at *;generalize r:Ls.is q (s.data.toList.drop k)=O at *;have HX:=M.out;have a0:Hid (∀W,Below w.heap.size w W->Calls Tryz.prog 59 #[B4 p (.slice b d f),.string (s.extract 0 k)] W fun e a=>e=.returned (.bool N)/\Below W.heap.size W a):=fun W m=>by have:=M.out W k X m;rw[Y]at this;exact this
   have a1:Hid (∀W,Below w.heap.size w W->Calls Tryz.prog 59 #[B4 q (.slice g i l),.string (s.extract k s.size)] W fun e a=>e=.returned (.bool O)/\Below W.heap.size W a):=fun W m=>by have:=HJ.out W k X m;rw[r]at this;exact this
   clear Y r HX;go_wp2_with fail;go_region_held (fun a=>a.cell? ⟨w.heap.size,0,none⟩=some (.int .i64 p.kind)/\a.cell? ⟨w.heap.size,1,none⟩=some (.string ⟨p.signs.toArray⟩)/\a.cell? ⟨w.heap.size,2,none⟩=some (.slice b d f)) (first|assumption|(go_keep;done)|exact(A.out _ v).1)
    (first
     | (go_at_call 59;refine(a0.out _ ?_).mono ?_;exact T.drew;rintro e x ⟨rfl,a3⟩;have a2:Below wr.heap.size wr x:=Bj (Below.refl _ _).drew a3;have v:Below o.heap.size o x:=Bj J a2))
   all_goals
    have a6:=Bj H.out v;cases N with
    | false=>
     have u:Hid (C0 p q s.data.toList=R0 p q s.data.toList (s.size+1-(k+1)) (k+1)):=by
      show _=_;rw[B.out,I.out,show s.size+1-(k+1)=s.size-k from by omega];simp
     clear c0 c1 c2 P Q R;go_wp2_with fail;go_roundw
     case rel=>exact⟨k+1,by omega,by go_num,v,u.out⟩
     case measure=>simp[intOf];omega
    | true=>
     obtain⟨_,P,Q,R⟩:=A.out x v;go_wp2_with fail;go_region_held (fun a=>a.cell? ⟨w.heap.size+1,0,none⟩=some (.int .i64 q.kind)/\a.cell? ⟨w.heap.size+1,1,none⟩=some (.string ⟨q.signs.toArray⟩)/\a.cell? ⟨w.heap.size+1,2,none⟩=some (.slice g i l)) (first|assumption|(go_keep;done)|exact(A.out _ K).2)
      (first
       | (go_at_call 59;refine(a1.out _ ?_).mono ?_;exact a6.drew;rintro e Z ⟨rfl,a5⟩;have a4:Below x.heap.size x Z:=Bj (Below.refl _ _).drew a5;have K:Below o.heap.size o Z:=Bj v a4))
     all_goals
      have a7:=Bj H.out K;cases O with
      | false=>
       have u:Hid (C0 p q s.data.toList=R0 p q s.data.toList (s.size+1-(k+1)) (k+1)):=by
        show _=_;rw[B.out,I.out,show s.size+1-(k+1)=s.size-k from by omega];simp
       go_wp2_with fail;go_roundw
       case rel=>exact⟨k+1,by omega,by go_num,K,u.out⟩
       case measure=>simp[intOf];omega
      | true=>
       have u:Hid (C0 p q s.data.toList=k):=by
        show _=_;rw[B.out,I.out];simp
       go_wp2_with fail;go_ret;exact⟨by rw[u.out];rfl,a7⟩
  ·have a8:¬(k:Int)<=(s.size:Int):=by omega
   have HR:Hid (C0 p q s.data.toList=0):=by
    show _=_;rw[B.out,show s.size+1-k=0 from by omega,R0]
   go_wp2_with fail;go_ret;exact⟨by rw[HR.out];rfl,T⟩
abbrev s2 (w:World)(h:Nat)(k:Int)(g:Nat)(a b:Ln)(b1:Option Addr)(b2 b3:Nat)(t1:Option Addr)(t2 t3:Nat)(c1:Option Addr)(c2 c3:Nat)(f1:Option Addr)(f2 f3:Nat):Prop:=
 Ce w h 0 (.int .i64 k)/\Ce w h 5 (.slice (some ⟨g,0,none⟩) 2 2)/\tw w g a b b1 b2 b3 t1 t2 t3 c1 c2 c3 f1 f2 f3
abbrev s1 (w:World)(h:Nat)(k:Int)(g:Nat)(a:Ln)(b1:Option Addr)(b2 b3:Nat)(t1:Option Addr)(t2 t3:Nat):Prop:=
 Ce w h 0 (.int .i64 k)/\Ce w h 5 (.slice (some ⟨g,0,none⟩) 1 1)/\sx w g a b1 b2 b3 t1 t2 t3
section
variable {w:World} {G:Nat->Prop} {g:Nat} {a b:Ln} {b1:Option Addr} {b2 b3:Nat} {t1:Option Addr} {t2 t3:Nat} {c1:Option Addr} {c2 c3:Nat} {f1:Option Addr} {f2 f3:Nat}
theorem mQm (a:Old w G):∀W,Bw w W->Old W G:=fun _ b j c=>Ll (a j c) b.size
theorem hQ4 (b:Old w G){y x:Value}(h:NV w G a y x):∀W,Bw w W->NV W G a y x:=fun _ c=>h.below c (fun j d=>b j d) (fun _ h=>h)
theorem X1 (k:Nat)(K:Int)(m:(k:Int)=K)(p:Ls.D)(c:Lu)(d:Option Addr)(e f:Nat)(h:Old w G)(n:G g)(q:LiesL w g (E4 a (.slice b1 b2 b3) (.slice t1 t2 t3)++E4 b (.slice c1 c2 c3) (.slice f1 f2 f3)))(r:NV w G a (.slice b1 b2 b3) (.slice t1 t2 t3))(s:NV w G b (.slice c1 c2 c3) (.slice f1 f2 f3)) :
  Bw w (w.alloc (lo k p c d e f g 2))/\Hid (∀W,Bw w W->NV W G a (.slice b1 b2 b3) (.slice t1 t2 t3))/\Hid (∀W,Bw w W->NV W G b (.slice c1 c2 c3) (.slice f1 f2 f3))/\Hid (∀W,Bw w W->Old W G)/\
   Hid (∀W:World,Below (w.alloc (lo k p c d e f g 2)).heap.size (w.alloc (lo k p c d e f g 2)) W->s2 W w.heap.size K g a b b1 b2 b3 t1 t2 t3 c1 c2 c3 f1 f2 f3):=by
 subst m;have o:=h g n;have j:=A5 w (lo k p c d e f g 2);refine⟨j,hQ4 h r,hQ4 h s,mQm h,fun W i=>?_⟩;have l:=(N5 w k (eX5 p) c (.slice d e f) (Sl g 2 2)).of_block (i.block _ (by simp));have t:=q.of_block ((i.block g (by simp;omega)).trans (j.block g o));exact⟨l.cell 0,l.cell 5,t.tw⟩
theorem cQe (k:Nat)(K:Int)(l:(k:Int)=K)(p:Ls.D)(b:Lu)(c:Option Addr)(d e:Nat)(f:Old w G)(m:G g)(o:LiesL w g (E4 a (.slice b1 b2 b3) (.slice t1 t2 t3)))(q:NV w G a (.slice b1 b2 b3) (.slice t1 t2 t3)) :
  Bw w (w.alloc (lo k p b c d e g 1))/\Hid (∀W,Bw w W->NV W G a (.slice b1 b2 b3) (.slice t1 t2 t3))/\Hid (∀W,Bw w W->Old W G)/\
   Hid (∀W:World,Below (w.alloc (lo k p b c d e g 1)).heap.size (w.alloc (lo k p b c d e g 1)) W->s1 W w.heap.size K g a b1 b2 b3 t1 t2 t3):=by
 subst l;have n:=f g m;have i:=A5 w (lo k p b c d e g 1);refine⟨i,hQ4 f q,mQm f,fun W h=>?_⟩;have j:=(N5 w k (eX5 p) b (.slice c d e) (Sl g 1 1)).of_block (h.block _ (by simp));have r:=o.of_block ((h.block g (by simp;omega)).trans (i.block g n));exact⟨j.cell 0,j.cell 5,r.sx⟩
theorem N3 {f:FuncId}{P:Pat}(q:∀(y x:Value) (w:World) (G:Nat->Prop),Old w G->NV w G a y x->Calls Tryz.prog f #[F0 a y x] w (J5 w G P))(l:∀W,Bw w W->Old W G)(p:∀W,Bw w W->NV W G a (.slice b1 b2 b3) (.slice t1 t2 t3)) :
  ∀W,Bw w W->Calls Tryz.prog f #[(E1 a b1 b2 b3 t1 t2 t3)] W fun e k=>∃g h i,e=.returned (B4 P (.slice g h i))/\Bw W k/\∀c,Bw k c->PV c (fun j=>G j\/(w.heap.size<=j/\j<c.heap.size)) P (.slice g h i):=by
 intro W d;refine(q _ _ W G (l _ d) (p _ d)).mono ?_;rintro e k ⟨v,rfl,o,n⟩;obtain⟨g,h,i,rfl⟩:=PV.slice _ _ o;refine⟨g,h,i,rfl,n,fun c m=>o.below m (fun j b=>?_) (fun j b=>?_)⟩
 ·rcases b with b|b
  ·exact l _ (Bj d n) j b
  ·exact b.2
 ·rcases b with b|b
  ·exact .inl b
  ·exact .inr ⟨Lq d.size b.1,Ll b.2 m.size⟩
theorem aQz {f:FuncId}{P:Pat}(k:∀(y x:Value) (w:World) (G:Nat->Prop),Old w G->NV w G a y x->Calls Tryz.prog f #[F0 a y x] w (J5 w G P))(i:∀W,Bw w W->Old W G)(h:∀W,Bw w W->NV W G a (.slice b1 b2 b3) (.slice t1 t2 t3)) :
  ∀W,Bw w W->Calls Tryz.prog f #[(E1 a b1 b2 b3 t1 t2 t3)] W fun e b=>∃c d g,e=.returned (B4 P (.slice c d g))/\Bw W b/\PV b (fun j=>G j\/(w.heap.size<=j/\j<b.heap.size)) P (.slice c d g):=fun W l=>
 (N3 k i h W l).mono fun _ b ⟨c,d,g,n,m,o⟩=>⟨c,d,g,n,m,o b Br⟩
theorem bQ0 {p q:Pat}(n:BdL 120 p)(o:BdL 120 q){s:By}(hs:s.size<=60)(i:∀W,Bw w W->Old W G) :
  ∀W b c d f g h,Bw w W->PV W (fun j=>G j\/(w.heap.size<=j/\j<W.heap.size)) p (.slice b c d)->PV W (fun j=>G j\/(w.heap.size<=j/\j<W.heap.size)) q (.slice f g h)->Calls Tryz.prog 88 #[.string s,B4 p (.slice b c d),B4 q (.slice f g h)] W fun e r=>e=.returned (Iv (C0 p q s.data.toList))/\Bw W r:=by
 intro W b c d f g h m k l;exact tQu _ _ n o (by omega) s (by omega) _ _ W _ (fun j a=>by
  rcases a with a|a
  ·exact i _ m j a
  ·exact a.2) k l
end
theorem yQt {w:World}{b a:Nat}{e:TypeId}{c:Nat}{v:Value}{n:Nat}{d:List Value}(h:w.ownsRow b e c v n d)(l:a<=b):w.ownsRow a e c v n d:=by
 refine⟨h.1,?_⟩;rcases h.2 with j|⟨g,f,i,o,m,k⟩
 ·exact .inl j
 ·exact .inr ⟨g,f,i,o,Lq l m,k⟩
def fQr:Value->By
 | .string t=>t
 | _=>⟨#[]⟩
theorem aQ2 {a2:Nat}(p:Pat)(hp:BdL a2 p)(hc:a2<=120)(s:By)(hs:s.size<=1048576)(c3:Value)(w:World)(G:Nat->Prop)(H:Old w G)(u:PV w G p c3) :
  Calls Tryz.prog 89 #[.string s,B4 p c3] w fun e a=>∃b9,e=.returned b9/\a.ownsRow w.heap.size 9 1 b9 (B9 p s.size s.data.toList).length ((B9 p s.size s.data.toList).map fun x=>Sv x)/\Bw w a:=by
 obtain⟨b,c,d,rfl⟩:=PV.slice _ _ u;have a4:=A5 w (C1 p (.slice b c d));have d5:BdL 121 (fXl p):=(hXf hp).mono (by omega);have HI:Hid (∀W (t:By) k,t.size<=1048576->k<=t.size->Below w.heap.size w W->Calls Tryz.prog 59 #[B4 p (.slice b c d),.string (t.extract 0 k)] W fun e a=>e=.returned (.bool (Ls.is p (t.data.toList.take k)))/\Below W.heap.size W a):=fun W t k ht hk i=>by
  have:=Z0 p hp (by omega) (t.extract 0 k) (by rw[ByteArray.size_extract];omega) _ W G (fun j g=>Nat.lt_of_lt_of_le (H j g) i.size) (u.below i (fun j g=>H j g) (fun _ h=>h));rw[S5]at this;exact this
 have c9:Hid (∀W,Below w.heap.size w W->Calls Tryz.prog 85 #[B4 p (.slice b c d)] W fun e a=>∃n o q,e=.returned (B4 (fXl p) (.slice n o q))/\Below W.heap.size W a/\
   ∀(t:By) k,t.size<=1048576->k<=t.size->Calls Tryz.prog 59 #[B4 (fXl p) (.slice n o q),.string (t.extract k t.size)] a fun e m=>e=.returned (.bool (Ls.is (fXl p) (t.data.toList.drop k)))/\Below a.heap.size a m):=fun W i=>by
  have hO:Old W G:=fun j g=>Nat.lt_of_lt_of_le (H j g) i.size;refine(aQ5 _ p W G hO (u.below i (fun j g=>H j g) (fun _ h=>h))).mono ?_;rintro e a ⟨x,rfl,y,I⟩;obtain⟨n,o,q,rfl⟩:=PV.slice _ _ y;refine⟨n,o,q,rfl,I,fun t k ht hk=>?_⟩;have:=Z0 (fXl p) d5 (by omega) (t.extract k t.size) (by rw[ByteArray.size_extract];omega) _ a _ (fun j g=>by
   rcases g with g|g
   ·exact Nat.lt_of_lt_of_le (hO j g) I.size
   ·exact g.2) y
  rw[V6]at this;exact this
 have B:Hid (∀W:World,Below (w.alloc (C1 p (.slice b c d))).heap.size (w.alloc (C1 p (.slice b c d))) W->
   W.cell? ⟨w.heap.size,0,none⟩=some (.int .i64 p.kind)/\W.cell? ⟨w.heap.size,1,none⟩=some (.string ⟨p.signs.toArray⟩)/\W.cell? ⟨w.heap.size,2,none⟩=some (.slice b c d)):=fun W i=>by
  have F:(w.alloc (C1 p (.slice b c d))).heap[w.heap.size]?=some (.cells #[.int .i64 p.kind,.string ⟨p.signs.toArray⟩,.slice b c d] 27 (0,0)):=heap_alloc_new _ _;rw[<-i.block _ (by simp)]at F;exact⟨by simp[World.cell?,F],by simp[World.cell?,F],by simp[World.cell?,F]⟩
 have M:Hid _:=a4;obtain⟨f1,hq,e6,e7,e8⟩:=info_parts kQs;clear u a4;go_enter Tryz.func89,Tryz.ntmps89;go_wp2_with fail;have b7:(w.alloc (C1 p (.slice b c d))).heap.size=w.heap.size+1:=by simp
 have d0:Hid ((w.alloc (C1 p (.slice b c d))).heap.size=w.heap.size+1):=b7;clear b7;generalize w.alloc (C1 p (.slice b c d))=f at *;go_loopw [0,5] (fun V ov wr=>∃(t:By) (l:List (Lu)),V=.string t/\l.length+t.size<=s.size/\B9 p s.size s.data.toList=l++B9 p t.size t.data.toList/\wr.ownsRow f.heap.size 9 1 ov l.length (l.map fun x=>Value.string ⟨x.toArray⟩)/\Below f.heap.size f wr) (fun V _ _=>(fQr V).size)
 case atStart=>exact⟨s,[],rfl,by simp,rfl,World.ownsRow_nil _ _ _ _,Below.refl _ _⟩
 case round=>
  obtain⟨t,l,rfl,e4,b6,U,Q⟩:=hrel;obtain⟨v,d1⟩:∃v,v=wr:=⟨wr,rfl⟩;subst d1;obtain⟨X,Y,Z,rfl⟩:=Z3 U;have a1:Hid (B9 p s.size s.data.toList=l++B9 p t.size t.data.toList):=b6;have HO:Hid (v.ownsRow f.heap.size 9 1 (.slice X Y Z) l.length (l.map fun x=>Value.string ⟨x.toArray⟩)):=U;have E:Hid (t.data.toList.length=t.size):=by show _=_;simp
  clear b6 U
  by_cases h0:0<t.size
  ·have d2:(0:Int)<(t.size:Int):=by omega
   have a0:Hid (t.data.toList≠[]):=by
    intro e;have:=E.out;rw[e]at this;simp at this;omega
   go_upto_block 2 with fail
   go_cut [6] (fun z wx=>∃k:Nat,z=.int .i64 k/\k=N6 p t.data.toList/\Below v.heap.size v wx)
   case first=>
    go_wp2_with fail;go_loopw [6] (fun z wi=>∃k:Nat,1<=k/\k<=t.size/\z=.int .i64 k/\N6 p t.data.toList=O1 p t.data.toList (t.size-k) k/\Below v.heap.size v wi) (fun z _=>t.size-(intOf z).toNat)
    case atStart=>exact⟨1,Nat.le_refl _,by omega,rfl,by unfold N6;rw[E.out],Below.refl _ _⟩
    case round=>
     obtain⟨k,e1,e2,rfl,b5,P⟩:=hrel;have C:Hid (N6 p t.data.toList=O1 p t.data.toList (t.size-k) k):=b5;have R:=Bj Q P;have d7:=Bj M.out R;clear b5
     by_cases e4:k<t.size
     ·have e5:(k:Int)<(t.size:Int):=by omega
      have e3:(k:Int)<=(t.size:Int):=by omega
      have e0:(0:Int)<=(k:Int):=by omega
      have N:Hid (O1 p t.data.toList (t.size-k) k=if (Ls.is p (t.data.toList.take k)&&Ls.is (fXl p) (t.data.toList.drop k))=true then k else O1 p t.data.toList (t.size-(k+1)) (k+1)):=by
       show _=_;rw[show t.size-k=(t.size-(k+1))+1 from by omega,O1]
      generalize y:Ls.is p (t.data.toList.take k)=bx at *;generalize u:Ls.is (fXl p) (t.data.toList.drop k)=O at *;have c7:Hid (∀W,Below w.heap.size w W->Calls Tryz.prog 59 #[B4 p (.slice b c d),.string (t.extract 0 k)] W fun e a=>e=.returned (.bool bx)/\Below W.heap.size W a):=fun W i=>by have:=HI.out W t k (by omega) (by omega) i;rw[y]at this;exact this
      have c8:Hid (∀W,Below w.heap.size w W->Calls Tryz.prog 85 #[B4 p (.slice b c d)] W fun e a=>∃n o q,e=.returned (B4 (fXl p) (.slice n o q))/\Below W.heap.size W a/\
        Calls Tryz.prog 59 #[B4 (fXl p) (.slice n o q),.string (t.extract k t.size)] a fun e m=>e=.returned (.bool O)/\Below a.heap.size a m):=fun W i=>by
       refine(c9.out W i).mono ?_;rintro e a ⟨n,o,q,rfl,I,hh⟩;have:=hh t k (by omega) (by omega);rw[u]at this;exact⟨n,o,q,rfl,I,this⟩
      obtain⟨c0,c1,c2⟩:=B.out wr R;clear y u;go_wp2_with fail;go_region_held (fun a=>a.cell? ⟨w.heap.size,0,none⟩=some (.int .i64 p.kind)/\a.cell? ⟨w.heap.size,1,none⟩=some (.string ⟨p.signs.toArray⟩)/\a.cell? ⟨w.heap.size,2,none⟩=some (.slice b c d)) (first|assumption|(go_keep;done)|exact B.out _ K)
       (first
        | (go_at_call 59;refine(c7.out _ ?_).mono ?_;exact d7.drew;rintro e m ⟨rfl,d3⟩;have a5:Below wr.heap.size wr m:=Bj (Below.refl _ _).drew d3;have K:Below f.heap.size f m:=Bj R a5))
      all_goals
       have a9:=Bj P a5;have d8:=Bj M.out K;clear c0 c1 c2;cases bx with
       | false=>
        have r:Hid (N6 p t.data.toList=O1 p t.data.toList (t.size-(k+1)) (k+1)):=by
         show _=_;rw[C.out,N.out];simp
        go_wp2_with fail;go_roundw
        case rel=>exact⟨k+1,by omega,by omega,by go_num,r.out,a9⟩
        case measure=>simp[intOf];omega
       | true=>
        obtain⟨c0,c1,c2⟩:=B.out m K;go_wp2_with fail;go_region_held (fun a=>a.cell? ⟨w.heap.size,0,none⟩=some (.int .i64 p.kind)/\a.cell? ⟨w.heap.size,1,none⟩=some (.string ⟨p.signs.toArray⟩)/\a.cell? ⟨w.heap.size,2,none⟩=some (.slice b c d)) (first|assumption|(go_keep;done)|exact B.out _ L)
         (first
          | (go_at_call 85;refine(c8.out _ ?_).mono ?_;exact d8.drew;rintro e A ⟨n,o,q,rfl,d4,a3⟩;have c4:Hid (Calls Tryz.prog 59 #[B4 (fXl p) (.slice n o q),.string (t.extract k t.size)] A fun e m=>e=.returned (.bool O)/\Below A.heap.size A m):=a3;clear a3;have a6:Below m.heap.size m A:=Bj (Below.refl _ _).drew d4;have L:Below f.heap.size f A:=Bj K a6)
          | (go_at_call 59;refine c4.out.mono ?_;rintro e w4 ⟨rfl,a7⟩;have f2:=L;have L:Below f.heap.size f w4:=Bj L a7))
        all_goals
         have b0:=Bj a9 (Bj a6 a7);cases O with
         | false=>
          have r:Hid (N6 p t.data.toList=O1 p t.data.toList (t.size-(k+1)) (k+1)):=by
           show _=_;rw[C.out,N.out];simp
          go_wp2_with fail;go_roundw
          case rel=>exact⟨k+1,by omega,by omega,by go_num,r.out,b0⟩
          case measure=>simp[intOf];omega
         | true=>
          have r:Hid (k=N6 p t.data.toList):=by
           show _=_;rw[C.out,N.out];simp
          go_wp2_with fail;go_meet
          case rel=>exact⟨k,rfl,r.out,b0⟩
     ·have e5:¬(k:Int)<(t.size:Int):=by omega
      have r:Hid (k=N6 p t.data.toList):=by
       show _=_;rw[C.out,show t.size-k=0 from by omega,O1]
      go_wp2_with fail;go_meet
      case rel=>exact⟨k,rfl,r.out,P⟩
   case rest=>
    obtain⟨k,rfl,S,a8⟩:=hcut;have J:=fQg p a0.out;rw[<-S,E.out]at J;have c5:Hid (k=N6 p t.data.toList):=S;have e1:=J.1;have e2:=J.2;have e3:(k:Int)<=(t.size:Int):=by omega
    have e0:(0:Int)<=(k:Int):=by omega
    have b1:=Bj Q a8;have b4:=HO.out.kept (L5 a8 none) (by
     cases hv:(Value.slice X Y Z).ownBlock with
     | none=>exact .inl rfl
     | some b8=>exact .inr (by simp))
    have T:=b4.alloc (.cells #[.string (t.extract 0 k)] 9);have b2:=bQa wc (.string (t.extract 0 k)) 9;have f0:=b1.size;have f3:(fQr (.string t)).size=t.size:=rfl;clear J S b4;go_wp2_with (at_builtin;refine P8 _ rfl _ _ 41 rfl f.heap.size 9 f1 _ 1 16 Tryz.underlying41 hq e6 e7 e8 rfl (by omega) (.slice X Y Z) l.length (l.map fun x=>Value.string ⟨x.toArray⟩) rfl T ⟨wc.heap.size,0,none⟩ 1 1 [.string (t.extract 0 k)] rfl ?l1 b2 ?l0 ?l2 ?l3 ?l4 ?l5 ?_)
    case l1=>rfl
    case l0=>intro f4 hu;simp at hu;subst hu;rfl
    case l2=>unfold maxLen;omega
    case l3=>omega
    case l4=>simp;omega
    case l5=>omega
    intro v' a ho hg e9;have d6:Below f.heap.size f a:=(b1.alloc f0 (.cells #[.string (t.extract 0 k)] 9)).grown hg (by simp;omega) (fun b8 e=>(T.lt b8 e).1);have b3:(t.extract k t.size).data.toList=t.data.toList.drop k:=V6 t k;have d9:(t.extract k t.size).size=t.size-k:=by rw[ByteArray.size_extract];omega
    have r:Hid (B9 p s.size s.data.toList=(l++[t.data.toList.take k])++B9 p (t.extract k t.size).size (t.extract k t.size).data.toList):=by
     show _=_;rw[a1.out,b3,d9,show t.size=(t.size-1)+1 from by omega,B9,if_neg a0.out,<-c5.out,List.append_assoc];rw[show t.size-1+1-k=t.size-k from by omega,mQa p (t.size-k) (t.size-1) _ (by rw[List.length_drop,E.out];omega) (by omega)];rfl
    have c6:Hid (a.ownsRow f.heap.size 9 1 v' (l++[t.data.toList.take k]).length ((l++[t.data.toList.take k]).map fun x=>Value.string ⟨x.toArray⟩)):=by
     show World.ownsRow _ _ _ _ _ _ _;rw[List.length_append,List.map_append];have he:(⟨(t.data.toList.take k).toArray⟩:By)=t.extract 0 k:=by
      rw[cQu];simp
     show World.ownsRow _ _ _ _ _ (l.length+1) (_++[Value.string ⟨(t.data.toList.take k).toArray⟩]);rw[he];exact ho
    clear ho hg e9 T b2 b3;go_wp2_with fail;go_roundw
    case rel=>exact⟨t.extract k t.size,l++[t.data.toList.take k],rfl,by simp;omega,r.out,c6.out,d6⟩
    case measure=>
     show (fQr (.string (t.extract k t.size))).size<(fQr (.string t)).size;show (t.extract k t.size).size<t.size;omega
  ·have d2:¬(0:Int)<(t.size:Int):=by omega
   have HR:Hid (B9 p s.size s.data.toList=l):=by
    show _=_;rw[a1.out,show t.size=0 from by omega];simp[B9]
   go_wp2_with fail;go_ret;refine⟨_,rfl,?_,Bj M.out Q⟩;rw[HR.out];exact yQt HO.out (by have:=d0.out;omega)
theorem Blk.six {w:World}{g:Nat}{x y u v s t:Value}{T:TypeId}(h:Blk w g #[x,y,u,v,s,t] T):Ce w g 0 x/\Ce w g 1 y/\Ce w g 2 u/\Ce w g 3 v/\Ce w g 4 s/\Ce w g 5 t:=⟨h.cell 0,h.cell 1,h.cell 2,h.cell 3,h.cell 4,h.cell 5⟩
theorem gQv {s:By}{w a c:World}{l b:Ln}{L p:Nat}(_hb1:Bw w a)(d:E6 s.data.toList=some l)(e:E6 s.data.toList=some b)(m:OkL 120 l)(i:cn l<=30000)(f:eX7 l<=24)
  (g:Blk a L #[Pt p] 85) (k:PartV a (B8 w a) p l) (h:Bw a c):b=l/\LensV c (B8 w a) L p l:=⟨(Option.some.inj (d.symm.trans e)).symm,LensV.below ⟨g,k,fun _ j=>j.2,m,f,i⟩ h⟩
end Go.Proofs.YtfklinjaajafgaaGreatDoor
