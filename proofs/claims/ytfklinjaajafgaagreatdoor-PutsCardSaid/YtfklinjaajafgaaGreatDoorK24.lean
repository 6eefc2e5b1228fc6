import Derived.Test.YtfklinjaajafgaaGreatDoorK16
set_option maxRecDepth 100000
set_option maxHeartbeats 4000000
namespace Go.Proofs.YtfklinjaajafgaaGreatDoor
open Ls
open Go.RowKit
theorem vQo:(Tryz.prog.info? 68).map (fun i=>(i.zero,i.size,i.bytes))=some (some (.agg #[Iv 0,Iv 0,Iv 0]),3,24):=by kernel_rfl
abbrev T7 (p:Pr):List Value:=[.int .i64 p.1,.int .i64 p.2.1,.int .i64 p.2.2]
abbrev mQl (p:Pr):Value:=.agg #[.int .i64 p.1,.int .i64 p.2.1,.int .i64 p.2.2]
def Y9 (ps:List Pr):List Value:=ps.flatMap T7
theorem uQu (a b:List Pr):Y9 (a++b)=Y9 a++Y9 b:=by simp[Y9]
theorem gQ3 (a:List Pr)(i j:Nat)(d:j<3)(b:i<a.length):(Y9 a)[i*3+j]?=(T7 a[i])[j]?:=by
 induction a generalizing i with
 | nil=>simp at b
 | cons q r c=>
  show (T7 q++Y9 r)[i*3+j]?=_;cases i with
  | zero=>rw[List.getElem?_append_left (by simp;omega)];simp
  | succ i=>
   rw[List.getElem?_append_right (by simp;omega)];rw[show (i+1)*3+j-(T7 q).length=i*3+j from by simp;omega];rw[c i (by simpa using b)];simp
def PL (w:World)(base:Nat)(v:Value)(ps:List Pr):Prop:=w.ownsRow base 68 3 v ps.length (Y9 ps)
theorem PL.cells {w:World}{d g e n:Nat}{a:List Pr}(h:PL w d (Sl g n e) a)(i:Nat)(c:i<a.length) :
  w.cell? ⟨g,i*3,none⟩=some (Iv a[i].1)/\w.cell? ⟨g,i*3+1,none⟩=some (Iv a[i].2.1)/\w.cell? ⟨g,i*3+2,none⟩=some (Iv a[i].2.2):=by
 unfold PL at h;have f:n=a.length:=by
  rcases h.2 with⟨b,_⟩|⟨_,_,_,b,_⟩
  ·simp at b
  ·simp at b;exact b.2.1
 subst f;refine⟨?_,?_,?_⟩
 ·rw[h.cellAt (i*3) (by omega)];have:=gQ3 a i 0 (by omega) c;simpa using this
 ·rw[h.cellAt (i*3+1) (by omega),gQ3 a i 1 (by omega) c];rfl
 ·rw[h.cellAt (i*3+2) (by omega),gQ3 a i 2 (by omega) c];rfl
theorem PL.below {w w':World}{a:Nat}{v:Value}{b:List Pr}(h:PL w a v b)(c:Bw w w'):PL w' a v b:=
 World.ownsRow.kept h (L5 c none) (by cases d:v.ownBlock<;>simp)
def M2 (l:List Pr)(p:Pr):List Pr:=if p∈l then l else l++[p]
def iQu (w:World)(base:Nat)(v:Value)(ps:List Pr)(p:Pr):Ending->World->Prop:=fun e w'=>
 ∃v',e=.returned v'/\PL w' base v' (M2 ps p)/\w.grownBy w' v.ownBlock/\(v'.ownBlock=v.ownBlock\/∃k,v'.ownBlock=some k/\w.heap.size<=k)
theorem T4 (w:World)(p:Pr)(j:Nat):(w.alloc (.cells #[Iv p.1,Iv p.2.1,Iv p.2.2] 68)).cell? ⟨w.heap.size,j,none⟩=(T7 p)[j]?:=by
 have:(w.alloc (.cells #[Iv p.1,Iv p.2.1,Iv p.2.2] 68)).heap[w.heap.size]?=some (.cells #[Iv p.1,Iv p.2.1,Iv p.2.2] 68):=heap_alloc_new w _;simp only[World.cell?,this];simp
theorem sQm (w:World)(p:Pr):∀j u,(T7 p)[j]?=some u->(w.alloc (.cells #[Iv p.1,Iv p.2.1,Iv p.2.2] 68)).cell? ((⟨w.heap.size,0,none⟩:Addr).add j)=some u:=by
 intro j u a;have:=T4 w p j;rw[a]at this;rw[<-this];unfold Addr.add;split
 ·subst_vars;rfl
 ·simp
theorem aXf (p:Pr):∀u∈T7 p,u.oneCell'=true:=by
 intro u a;simp only[List.mem_cons,List.not_mem_nil,or_false]at a;rcases a with rfl|rfl|rfl<;>rfl
theorem J6 (w:World)(n B:Nat):Below B w (w.drewN n):=⟨rfl,rfl,rfl,Nr,fun _ _=>rfl⟩
theorem hQr {b:List Pr}{k:Nat}{p:Pr}(h:∀q,q∈b.take k->q≠p)(c:k<b.length)(d:b[k]≠p):∀q,q∈b.take (k+1)->q≠p:=by
 intro q a;rw[List.take_succ_eq_append_getElem c]at a;rcases List.mem_append.1 a with a|a
 ·exact h q a
 ·simp only[List.mem_singleton]at a
  rw[a];exact d
theorem qQw (w:World)(x:Nat)(a0:x<=w.heap.size)(g y:Nat)(a:List Pr)(h:PL w x (Sl g a.length y) a)(hn:a.length<=5000000000000)(p:Pr) :
  Calls Tryz.prog 43 #[Sl g a.length y,mQl p] w (iQu w x (Sl g a.length y) a p):=by
 have⟨b,c,d⟩:=p;have z:=T4 w (b,c,d) 0;have A:=T4 w (b,c,d) 1;have B:=T4 w (b,c,d) 2;simp only[T7,List.getElem?_cons_zero,List.getElem?_cons_succ]at z A B;have H:Hid (∀wr,Below (w.heap.size+1) (w.alloc (.cells #[Iv b,Iv c,Iv d] 68)) wr->Ce wr (Hz w) 0 (Iv b)/\Ce wr (Hz w) 1 (Iv c)/\Ce wr (Hz w) 2 (Iv d)):=
  fun wr E=>⟨(E.cell (p:=⟨Hz w,0,none⟩) (by show w.heap.size<_;omega)).trans z,(E.cell (p:=⟨Hz w,1,none⟩) (by show w.heap.size<_;omega)).trans A,(E.cell (p:=⟨Hz w,2,none⟩) (by show w.heap.size<_;omega)).trans B⟩
 go_enter Tryz.func43,Tryz.ntmps43;go_wp2;go_loopw [5] (fun i wr=>∃k:Nat,k<=a.length/\i=Iv k/\Below (w.heap.size+1) (w.alloc (.cells #[Iv b,Iv c,Iv d] 68)) wr/\(∀q,q∈a.take k->q≠(b,c,d))) (fun i _=>a.length-(intOf i).toNat)
 case atStart=>exact⟨0,Nat.zero_le _,rfl,Br,by simp⟩
 case round=>
  obtain⟨k,hk,rfl,o,t⟩:=hrel;have v:Hid _:=t;have r:=(A5 w _).trans (o.mono (by omega));have F:=h.below r;obtain⟨X,Y,Z⟩:=H.out wr o
  by_cases s:k<a.length
  ·obtain⟨c0,c1,c2⟩:=F.cells k s
   have C:Hid _:=o
   by_cases j:a[k].1=b
   ·have I:((a[k].1:Int)==(b:Int))=true:=by simp[j]
    by_cases l:a[k].2.1=c
    ·have J:((a[k].2.1:Int)==(c:Int))=true:=by simp[l]
     by_cases n:a[k].2.2=d
     ·have K:((a[k].2.2:Int)==(d:Int))=true:=by simp[n]
      have f:Hid (a[k]=(b,c,d)):=by show _=_;rw[<-j,<-l,<-n]
      go_wp2;go_quiet (fail)
      go_wp2;go_ret;refine⟨_,rfl,?_,L5 (r.trans (J6 _ nq _)) _,.inl rfl⟩;unfold M2;rw[if_pos (by rw[<-f.out];exact List.getElem_mem s)];exact F.below (J6 _ nq _)
     ·have K:((a[k].2.2:Int)==(d:Int))=false:=by simp;omega
      have f:Hid (a[k]≠(b,c,d)):=fun e=>n (by rw[e]);go_wp2;go_quiet (fail)
      go_wp2;go_roundw
      case rel=>exact⟨k+1,by omega,by go_num,C.out.trans (J6 _ nq _),hQr v.out s f.out⟩
      case measure=>simp[intOf];omega
    ·have J:((a[k].2.1:Int)==(c:Int))=false:=by simp;omega
     have f:Hid (a[k]≠(b,c,d)):=fun e=>l (by rw[e]);go_wp2;go_quiet (fail)
     go_wp2;go_roundw
     case rel=>exact⟨k+1,by omega,by go_num,C.out.trans (J6 _ nq _),hQr v.out s f.out⟩
     case measure=>simp[intOf];omega
   ·have I:((a[k].1:Int)==(b:Int))=false:=by simp;omega
    have f:Hid (a[k]≠(b,c,d)):=fun e=>j (by rw[e]);go_wp2;go_quiet (fail)
    go_wp2;go_roundw
    case rel=>exact⟨k+1,by omega,by go_num,C.out.trans (J6 _ nq _),hQr v.out s f.out⟩
    case measure=>simp[intOf];omega
  ·obtain⟨i,O,T,U,V⟩:=info_parts vQo
   have a1:=o.size;have R:=World.ownsRow.alloc F (.cells #[Iv b,Iv c,Iv d] 68);have M:=sQm wr (b,c,d);have S:=aXf (b,c,d);go_wp2_with (at_builtin;refine P8 _ rfl _ _ 69 rfl x 68 i _ 3 24 Tryz.underlying69 O T U V rfl (by omega) (Sl g a.length y) a.length (Y9 a) rfl R ⟨wr.heap.size,0,none⟩ 1 1 (T7 (b,c,d)) rfl rfl M S ?l2 ?l3 ?l4 (by omega) ?_)
   case l2=>unfold maxLen;omega
   case l3=>omega
   case l4=>have:=r.size;simp;omega
   intro W w' Q N u;go_wp2;go_ret;have P:k=a.length:=by omega
   have t:=v.out;rw[P,List.take_length]at t;have L:=Bj r (A5 wr (.cells #[Iv b,Iv c,Iv d] 68));refine⟨W,rfl,?_,J8 (L5 L _) N,?_⟩
   ·unfold M2
    rw[if_neg (fun G=>t _ G rfl)];unfold PL;rw[uQu,List.length_append];exact Q
   ·rcases u with u|⟨m,u,G⟩
    ·exact .inl u
    ·exact .inr ⟨m,u,by have:=r.size;omega⟩
theorem O0 {w:World}{b:Nat}{e:TypeId}{f:Nat}{v:Value}{n:Nat}{i:List Value}(h:w.ownsRow b e f v n i):(v=.slice none 0 0/\n=0)\/∃g a,v=Sl g n a:=by
 rcases h.2 with⟨c,d⟩|⟨g,a,j,e,_⟩
 ·exact .inl ⟨c,d⟩
 ·exact .inr ⟨g,a,e⟩
theorem PL.some {w:World}{c:Nat}{v:Value}{b:List Pr}(h:PL w c v b)(f:b≠[]):∃g a,v=Sl g b.length a:=by
 rcases O0 h with⟨_,d⟩|⟨g,a,e⟩
 ·exact absurd (List.eq_nil_of_length_eq_zero d) f
 ·exact⟨g,a,e⟩
theorem gQg (w:World)(b:Nat)(d:b<=w.heap.size)(v:Value)(a:List Pr)(h:PL w b v a)(f:a≠[])(e:a.length<=5000000000000)(p:Pr) :
  Calls Tryz.prog 43 #[v,mQl p] w (iQu w b v a p):=by
 obtain⟨g,c,rfl⟩:=h.some f;exact qQw w b d g c a h e p
def IV (w:World)(G:Nat->Prop)(v:Value)(l:List Nat):Prop:=
 (v=.slice none 0 0/\l=[])\/∃g cap,G g/\v=.slice (some ⟨g,0,none⟩) l.length cap/\∀i (h:i<l.length),w.cell? ⟨g,i,none⟩=some (.int .i64 l[i])
theorem Y3 {w a:World}{k:Nat}(h:a.heap[k]?=w.heap[k]?)(o:Nat):a.cell? ⟨k,o,none⟩=w.cell? ⟨k,o,none⟩:=by
 simp only[World.cell?,h]
theorem IV.mono {w w':World}{G G':Nat->Prop}(c:∀k,G k->G' k)(f:∀k,G k->w'.heap[k]?=w.heap[k]?){v:Value}{l:List Nat}(h:IV w G v l):IV w' G' v l:=by
 rcases h with h|⟨g,b,a,rfl,d⟩
 ·exact .inl h
 ·exact .inr ⟨g,b,c g a,rfl,fun i e=>by rw[Y3 (f g a)];exact d i e⟩
theorem IV.shape {w:World}{G:Nat->Prop}{v:Value}{l:List Nat}(h:IV w G v l):∃a b,v=.slice a l.length b/\(0<l.length->∃g,a=some ⟨g,0,none⟩/\G g/\∀i (h:i<l.length),Ce w g i (Iv l[i])):=by
 rcases h with⟨rfl,rfl⟩|⟨g,b,d,rfl,c⟩
 ·exact⟨_,_,rfl,by simp⟩
 ·exact⟨_,_,rfl,fun _=>⟨g,rfl,d,c⟩⟩
def E3 (l m:List Pr):List Pr:=m.foldl M2 l
def F9 (ph:Nat)(a b:List Nat):List Pr:=a.flatMap fun x=>b.map fun y=>(ph,x,y)
theorem gQf (l m:List Pr)(x:Pr):E3 l (m++[x])=M2 (E3 l m) x:=by simp[E3]
theorem qQd (l m n:List Pr):E3 l (m++n)=E3 (E3 l m) n:=by simp[E3]
theorem qQj {l:List Pr}(h:l≠[])(x:Pr):M2 l x≠[]:=by
 unfold M2;split
 ·exact h
 ·simp
theorem dQ4 {l:List Pr}(h:l≠[])(m:List Pr):E3 l m≠[]:=by
 induction m generalizing l with
 | nil=>exact h
 | cons x m a=>exact a (qQj h x)
theorem qQh (l:List Pr)(x:Pr):(M2 l x).length<=l.length+1:=by unfold M2;split<;>simp
theorem qQe (l m:List Pr):(E3 l m).length<=l.length+m.length:=by
 induction m generalizing l with
 | nil=>simp[E3]
 | cons x m a=>
  have b:=a (M2 l x);have c:=qQh l x;show (E3 (M2 l x) m).length<=_;simp only[List.length_cons];omega
structure GrowsP (w0:World)(base:Nat)(v0:Value)(w:World)(v:Value)(ps:List Pr):Prop where
 pl:PL w base v ps
 grown:w0.grownBy w v0.ownBlock
 row:v.ownBlock=v0.ownBlock\/∃k,v.ownBlock=some k/\w0.heap.size<=k
theorem GrowsP.start {w:World}{a:Nat}{v:Value}{b:List Pr}(h:PL w a v b):GrowsP w a v w v b:=⟨h,World.grownBy.refl _ _,.inl rfl⟩
theorem GrowsP.block {a:World}{f:Nat}{d:Value}{w:World}{v:Value}{i:List Pr}(h:GrowsP a f d w v i){k:Nat}(g:k<a.heap.size)(c:some k≠d.ownBlock):w.heap[k]?=a.heap[k]?/\some k≠v.ownBlock:=by
 refine⟨h.grown.block k g c,?_⟩;rcases h.row with e|⟨m,e,j⟩
 ·rw[e];exact c
 ·rw[e];intro b;injection b with b;omega
theorem GrowsP.next {i:World}{a:Nat}{f:Value}{w:World}{v:Value}{q:List Pr}(h:GrowsP i a f w v q){g:World}{d:Value}{c:List Pr}(k:GrowsP w a v g d c):GrowsP i a f g d c:=by
 refine⟨k.pl,⟨k.grown.os.trans h.grown.os,k.grown.tape.trans h.grown.tape,k.grown.output.trans h.grown.output,Lq h.grown.size k.grown.size,fun j b p=>?_⟩,?_⟩
 ·have⟨l,n⟩:=h.block b p
  exact(k.grown.block j (Ll b h.grown.size) n).trans l
 ·rcases k.row with e|⟨m,e,o⟩
  ·rw[e];exact h.row
  ·exact .inr ⟨m,e,Lq h.grown.size o⟩
theorem GrowsP.below {e:World}{a:Nat}{d:Value}{w:World}{v:Value}{c:List Pr}(h:GrowsP e a d w v c){w':World}(b:Bw w w'):GrowsP e a d w' v c:=
 h.next ⟨h.pl.below b,L5 b _,.inl rfl⟩
def pQl (w:World)(base:Nat)(v:Value)(ps':List Pr):Ending->World->Prop:=fun e w'=>∃v',e=.returned v'/\GrowsP w base v w' v' ps'
theorem mQr {c:Nat}{a b:List Nat}{m:Nat}(d:m<a.length):F9 c (a.take (m+1)) b=F9 c (a.take m) b++b.map fun y=>(c,a[m],y):=by
 unfold F9;rw[List.take_succ_eq_append_getElem d,List.flatMap_append];simp
theorem hQ6 (d:Nat)(a b:List Nat):(F9 d a b).length=a.length*b.length:=by
 induction a with
 | nil=>simp[F9]
 | cons x a c=>
  unfold F9 at c ⊢;rw[List.flatMap_cons,List.length_append,c];simp[Nat.add_mul];omega
theorem aXj {ph:Nat}{a b:List Nat}{m n:Nat}(d:m<a.length)(x:Nat):(F9 ph (a.take m) b++(b.take n).map fun y=>(ph,x,y)).length<=(F9 ph a b).length:=by
 rw[List.length_append,hQ6,hQ6,List.length_take,List.length_map,List.length_take];have c:(m+1)*b.length<=a.length*b.length:=Nat.mul_le_mul_right _ d;have e:min m a.length*b.length<=m*b.length:=Nat.mul_le_mul_right _ (by omega);rw[Nat.add_mul]at c;omega
theorem mQq {a:Nat}{b:List Nat}{n:Nat}(c:n<b.length)(x:Nat)(l:List Pr):l++(b.take (n+1)).map (fun y=>(a,x,y))=(l++(b.take n).map fun y=>(a,x,y))++[(a,x,b[n])]:=by
 simp only[List.take_succ_eq_append_getElem c,List.map_append,List.map_cons,List.map_nil,List.append_assoc]
theorem cXy (w:World)(o:Nat)(a7:o<=w.heap.size)(v:Value)(j:List Pr)(h:PL w o v j)(a3:j≠[])(G:Nat->Prop)(N:Old w G)(M:∀k,G k->some k≠v.ownBlock)
  (Z vb:Value) (a b:List Nat) (ha:IV w G Z a) (Q:IV w G vb b) (b0:a.length<=1000000) (b1:b.length<=1000000) (ph:Nat) (hn:j.length+(F9 ph a b).length<=4000000000000) :
  Calls Tryz.prog 42 #[v,Z,vb,Iv ph] w (pQl w o v (E3 j (F9 ph a b))):=by
 obtain⟨aa,ca,rfl,O⟩:=ha.shape;obtain⟨ab,cb,rfl,P⟩:=Q.shape;go_enter Tryz.func42,Tryz.ntmps42;go_wp2;have K:Hid _:=O;have L:Hid _:=P;have r:Hid (∀k,G k->k<w.heap.size/\some k≠v.ownBlock):=fun k p=>⟨N k p,M k p⟩;go_loopw [0,9] (fun l i wr=>∃m:Nat,m<=a.length/\i=.int .i64 m/\GrowsP w o v wr l (E3 j (F9 ph (a.take m) b))) (fun _ i _=>a.length-(intOf i).toNat)
 ·exact⟨0,Nat.zero_le _,rfl,GrowsP.start h⟩
 ·
  obtain⟨m,hm,rfl,u⟩:=hrel
  by_cases F:m<a.length
  ·obtain⟨c,rfl,C,R⟩:=K.out (by omega)
   have a0:Hid _:=R;go_wp2;go_loopw [0,10] (fun l i wx=>∃n:Nat,n<=b.length/\i=.int .i64 n/\GrowsP w o v wx l (E3 j (F9 ph (a.take m) b++(b.take n).map fun y=>(ph,a[m],y)))) (fun _ i _=>b.length-(intOf i).toNat)
   ·exact⟨0,Nat.zero_le _,rfl,by simpa using u⟩
   ·
    obtain⟨n,b2,rfl,gx⟩:=hrel
    by_cases T:n<b.length
    ·obtain⟨d,rfl,E,S⟩:=L.out (by omega)
     have q:∀k,G k->wr.heap[k]?=w.heap[k]?/\some k≠u0.ownBlock:=fun k p=>gx.block (r.out k p).1 (r.out k p).2;have e0:=(Y3 (q c C).1 m).trans (a0.out m F);have e1:=(Y3 (q d E).1 n).trans (S n T);have a1:=Nat.lt_of_lt_of_le (r.out c C).1 gx.grown.size;have a2:=Nat.lt_of_lt_of_le (r.out d E).1 gx.grown.size;have U:=(q c C).2;have V:=(q d E).2;have HC:Hid (∀W,Below (Hz wr) wr W->Calls Tryz.prog 43 #[u0,.agg #[.int .i64 ph,.int .i64 a[m],.int .i64 b[n]]] W fun e f=>∃H I J,e=.returned (.slice H I J)/\GrowsP w o v f (.slice H I J) (E3 j (F9 ph (a.take m) b++(b.take (n+1)).map fun y=>(ph,a[m],y)))/\f.cell? ⟨c,m,none⟩=some (.int .i64 a[m])/\f.cell? ⟨d,n,none⟩=some (.int .i64 b[n])):=by
      intro W x;have A:=gx.below x;have a8:=qQe j (F9 ph (a.take m) b++(b.take n).map fun y=>(ph,a[m],y));have a9:=aXj (ph:=ph) (b:=b) (n:=n) F a[m];refine(gQg W o (by have:=A.grown.size;omega) u0 _ A.pl (dQ4 a3 _) (by omega) (ph,a[m],b[n])).mono ?_;rintro e f ⟨Y,rfl,X,B,a4⟩;have a5:=O0 X;have z:GrowsP W o u0 f Y (M2 (E3 j (F9 ph (a.take m) b++(b.take n).map fun y=>(ph,a[m],y))) (ph,a[m],b[n])):=⟨X,B,a4⟩;have key:GrowsP w o v f Y (E3 j (F9 ph (a.take m) b++(b.take (n+1)).map fun y=>(ph,a[m],y))):=by
       rw[mQq T,gQf];exact A.next z
      have hz:=x.size;have s:=(Y3 ((B.block c (by omega) U).trans (x.block c a1)) m).trans e0;have t:=(Y3 ((B.block d (by omega) V).trans (x.block d a2)) n).trans e1;rcases a5 with⟨rfl,_⟩|⟨g,a6,rfl⟩
      ·exact⟨_,_,_,rfl,key,s,t⟩
      ·exact⟨_,_,_,rfl,key,s,t⟩
     go_wp2;go_region_held (fun w'=>w'.cell? ⟨c,m,none⟩=some (.int .i64 a[m])/\w'.cell? ⟨d,n,none⟩=some (.int .i64 b[n])) (first|assumption|go_keep) ((go_at_call 43;refine(HC.out _ ?_).mono ?_;exact(Below.refl _ _).drew;rintro e f ⟨H,I,J,rfl,z,s,t⟩;have b3:f.cell? ⟨c,m,none⟩=some (.int .i64 a[m])/\f.cell? ⟨d,n,none⟩=some (.int .i64 b[n]):=⟨s,t⟩))
     go_wp2;go_roundw
     ·exact⟨n+1,by omega,by go_num,z⟩
     ·simp[intOf];omega
    ·go_wp2
     go_roundw
     ·
      refine⟨m+1,by omega,by go_num,?_⟩;rw[mQr F];rw[show b.take n=b from List.take_of_length_le (by omega)]at gx;exact gx
     ·simp[intOf];omega
  ·go_wp2
   go_ret;rw[show a.take m=a from List.take_of_length_le (by omega)]at u;exact⟨_,rfl,u⟩
theorem kQs:(Tryz.prog.info? 9).map (fun i=>(i.zero,i.size,i.bytes))=some (some (.string ⟨#[]⟩),1,16):=by kernel_rfl
abbrev I5 (g:Lu):Value:=.string ⟨g.toArray⟩
structure SV (w:World)(base:Nat)(v:Value)(ss:List (Lu)):Prop where
 own:w.ownsRow base 9 1 v ss.length (ss.map I5)
 nil:ss=[]->v=.slice none 0 0
theorem SV.below {w w':World}{a:Nat}{v:Value}{b:List (Lu)}(h:SV w a v b)(c:Bw w w'):SV w' a v b:=
 ⟨h.own.kept (L5 c none) (by cases d:v.ownBlock<;>simp),h.nil⟩
theorem SV.empty (w:World)(a:Nat):SV w a (.slice none 0 0) []:=⟨World.ownsRow_nil _ _ _ _,fun _=>rfl⟩
theorem SV.weak {w:World}{base a:Nat}(e:base<=a){v:Value}{b:List (Lu)}(h:SV w a v b):SV w base v b:=by
 refine⟨⟨h.own.1,h.own.2.imp id ?_⟩,h.nil⟩;rintro ⟨g,c,d,i,f,r⟩;exact⟨g,c,d,i,Lq e f,r⟩
theorem aQ7 {w:World}{C:Array Oper}{rest:List Oper}{o:Oper}{a:Act}{Q:Exit->Act->World->Prop}(y:o.guard=none)(s x:Operand)
  (B:o.op=.call {callee:=.builtin .append,args:=#[s,x],argTypes:=#[41,41]})
  (f F:Nat) (v E:Value) (c b:List (Lu)) (hs:a.eval s=v) (r:a.eval x=E) (q:SV w f v c) (m:SV w F E b) (S:c.length+b.length<=1000000000000) (I:f<=w.heap.size)
  (h:∀d l,SV l f d (c++b)->w.grownBy l v.ownBlock->(d.ownBlock=v.ownBlock\/∃k,d.ownBlock=some k/\w.heap.size<=k)->wpList Tryz.prog C Q rest (a.put o.dst d) l):wpList Tryz.prog C Q (o::rest) a w:=by
 have⟨i,z,N,O,R⟩:=info_parts kQs;rcases O0 m.own with⟨e,j⟩|⟨g,G,e⟩
 ·have:b=[]:=List.eq_nil_of_length_eq_zero j
  subst this;subst e;have p:=run_append_owned_none (P:=Tryz.prog) (w:=w) f 41 o.type 9 i 1 Tryz.underlying41 z v c.length (c.map I5) q.own;refine wpList_plain y fun K H=>?_;unfold Oper.wp;simp[execOp,B,resolve,invoke,builtin,hs,r,p,Result.andThen];exact H _ _ (h v w (by simpa using q) (World.grownBy.refl _ _) (.inl rfl))
 ·have n:0<b.length:=by
   rcases Nat.eq_zero_or_pos b.length with j|j
   ·have:=m.nil (List.eq_nil_of_length_eq_zero j)
    rw[e]at this;cases this
   ·exact j
  have A:=m.own;rw[e]at A r;refine P8 w y s x 41 B f 9 i _ 1 16 Tryz.underlying41 z N O R rfl (by omega) v c.length (c.map I5) hs q.own ⟨g,0,none⟩ b.length G (b.map I5) r (by simp) ?_ ?_ ?_ ?_ I n ?_
  ·exact A.cells rfl
  ·intro u M
   obtain⟨t,_,rfl⟩:=List.mem_map.1 M;rfl
  ·unfold maxLen;omega
  ·omega
  ·intro d l L J p
   refine h d l ⟨?_,fun e=>?_⟩ J p
   ·rw[List.length_append,List.map_append];exact L
   ·rw[List.append_eq_nil_iff]at e
    rw[e.2]at n;simp at n
def pQk (p:Pat)(w:World):Ending->World->Prop:=fun e w'=>∃v,e=.returned v/\SV w' w.heap.size v (gX1 p)/\Bw w w'
def U7 (p:Pat):Prop:=nd p<=1000000000->∀(y:Value) (w:World) (G:Nat->Prop),Old w G->PV w G p y->Ca 70 #[B4 p y] w (pQk p w)
theorem sets_none:U7 nN:=by
 intro _ y w G c a;have b:=a;subst b;show Calls _ _ #[.agg #[Iv 0,Ez,Zl]] w _;go_enter Tryz.func70,Tryz.ntmps70;go_wp2;refine wp_loop_rounds 1 ?_;rw[rounds_succ];go_wp2;go_ret;exact⟨_,rfl,by rw[Ls.sets_none];exact SV.empty _ _,A5 _ _⟩
theorem sets_set (s:Lu):U7 (Ls.set s):=by
 intro _ y w G c a;have b:=a;subst b;show Calls _ _ #[.agg #[Iv 1,Sv s,Zl]] w _;go_enter Tryz.func70,Tryz.ntmps70;go_wp2;go_ret;refine⟨_,rfl,⟨?_,by rw[Ls.sets_set];simp⟩,C6 _ _ _⟩;rw[Ls.sets_set];have h:=World.ownsRow_lit (e:=9) (size:=1) (base:=Hz w) (w.alloc (.cells #[Iv 1,Sv s,Zl] 27)) #[I5 s] 1 (by simp) (by unfold maxLen;omega) rfl;simpa using h
theorem bQm (p:Pat)(d:wf p):(gX1 p).length<=nd p:=by
 refine Ls.ind (P:=fun p=>(gX1 p).length<=nd p) ?_ ?_ ?_ ?_ ?_ p d
 ·simp[Ls.sets_none]
 ·intro s _;rw[Ls.sets_set];simp[Ls.set,nd]
 ·intro a b _ _ _ _ ha c;rw[gXt,hXu,List.length_append];omega
 ·intro a b _ _ ha c;rw[hXv,iXw,List.length_append];omega
 ·intro a _ ha;rw[Ls.sets_star,gX9];exact ha
theorem sets_star (a:Pat)(v:wf a)(ha:U7 a):U7 (fXl a):=by
 intro j L w G d o;rw[gX9]at j;obtain⟨g,y,l,rfl,i,k⟩:=o;have n:=i.lt;have⟨x,z,A⟩:=i.three;show Calls _ _ #[.agg #[Iv 4,Ez,Sl g 1 1]] w _;go_enter Tryz.func70,Tryz.ntmps70;go_wp2;refine wp_loop_rounds 2 ?_;rw[rounds_succ];go_wp2_with fail;refine(ha j y _ G (Old.alloc d _) (k.below (A5 _ _) d fun _ h=>h)).mono ?_;rintro e c ⟨t,rfl,q,b⟩;have⟨B,C⟩:=O9 b;have E:=cQq (A5 _ _) b n;have s:=b.size;simp at s;have J:=bQm a v;have p:=SV.empty c w.heap.size;go_wp2_with (at_builtin;refine aQ7 rfl _ _ rfl w.heap.size _ Zl t [] (gX1 a) rfl rfl p q (by simp;omega) (by omega) ?_)
 intro M u r m I;have f:=Br.grown m Nr (by simp[Value.ownBlock]);have⟨F,H⟩:=O9 f;have K:w.heap.size<c.heap.size:=by omega
 go_wp2;rw[rounds_succ];go_wp2;go_ret;exact⟨_,rfl,by rw[Ls.sets_star];simpa using r,Bj (Bj (A5 _ _) b) f⟩
theorem cXf (a b:Pat)(wa:wf a)(wb:wf b)(ha:U7 a)(J:U7 b):U7 (gX4 a b):=by
 intro P sl w G d Q;rw[hXu]at P;obtain⟨g,a0,a1,M,rfl,x,H,I⟩:=Q;have O:=x.lt;have⟨C,E,F,r,s,t⟩:=x.six;show Calls _ _ #[.agg #[Iv 2,Ez,Sl g 2 2]] w _;go_enter Tryz.func70,Tryz.ntmps70;go_wp2;refine wp_loop_rounds 3 ?_;rw[rounds_succ];go_wp2_with fail;refine(ha (by omega) a0 _ G (Old.alloc d _) (H.below (A5 _ _) d fun _ h=>h)).mono ?_;rintro e n ⟨v1,rfl,T,l⟩;have K:=Bj (A5 _ _) l;have Y:=l.size;simp at Y;have a4:=bQm a wa;have a5:=bQm b wb;have S:=SV.empty n w.heap.size;go_wp2_with (at_builtin;refine aQ7 rfl _ _ rfl w.heap.size _ Zl v1 [] (gX1 a) rfl rfl S T (by simp;omega) (by omega) ?_)
 intro A q U N R;have m:=Br.grown N Nr (by simp[Value.ownBlock]);have f:=Bj K m;have a6:=m.size;have j:∀o,q.cell? ⟨g,o,none⟩=w.cell? ⟨g,o,none⟩:=fun o=>f.cell (p:=⟨g,o,none⟩) O;have u:=
  ((Bj l m).cell (p:=⟨Hz w,2,none⟩) (by simp)).trans ((C7 w (C2 (gX4 a b) (Sl g 2 2))).cell 2)
 have Z:=(j 3).trans r;have q4:=(j 4).trans s;have q5:=(j 5).trans t;go_wp2;rw[rounds_succ];go_wp2_with fail;refine(J (by omega) a1 _ G (Old.below d f) (I.below f d fun _ h=>h)).mono ?_;rintro e w3 ⟨v3,rfl,W,i⟩;have a7:=i.size;have V:=U.below i;have y:=(i.cell (p:=⟨Hz w,2,none⟩) (by show w.heap.size<_;omega)).trans u;go_wp2_with (at_builtin;refine aQ7 rfl _ _ rfl w.heap.size _ A v3 (gX1 a) (gX1 b) rfl rfl V W (by omega) (by omega) ?_)
 intro v4 B X v a3;have z:∀k,A.ownBlock=some k->n.heap.size<=k:=by
  intro k e;rcases R with c|⟨a8,c,hm⟩
  ·rw[e]at c;simp[Value.ownBlock]at c
  ·rw[e]at c;injection c with c;omega
 have a2:Ce B w.heap.size 2 (Sl g 2 2):=by
  refine(Y3 (v.block w.heap.size (by omega) ?_) 2).trans y;intro e;have:=z _ e.symm;omega
 have L:=(Bj f i).grown v (by omega) (fun k e=>by have:=z k e;omega);go_wp2;rw[rounds_succ];go_wp2;go_ret;exact⟨_,rfl,by rw[gXt];exact X,L⟩
theorem cXe (a b:Pat)(wa:wf a)(wb:wf b)(ha:U7 a)(J:U7 b):U7 (Ls.any a b):=by
 intro P sl w G d Q;rw[iXw]at P;obtain⟨g,a0,a1,M,rfl,x,H,I⟩:=Q;have O:=x.lt;have⟨C,E,F,r,s,t⟩:=x.six;show Calls _ _ #[.agg #[Iv 3,Ez,Sl g 2 2]] w _;go_enter Tryz.func70,Tryz.ntmps70;go_wp2;refine wp_loop_rounds 3 ?_;rw[rounds_succ];go_wp2_with fail;refine(ha (by omega) a0 _ G (Old.alloc d _) (H.below (A5 _ _) d fun _ h=>h)).mono ?_;rintro e n ⟨v1,rfl,T,l⟩;have K:=Bj (A5 _ _) l;have Y:=l.size;simp at Y;have a4:=bQm a wa;have a5:=bQm b wb;have S:=SV.empty n w.heap.size;go_wp2_with (at_builtin;refine aQ7 rfl _ _ rfl w.heap.size _ Zl v1 [] (gX1 a) rfl rfl S T (by simp;omega) (by omega) ?_)
 intro A q U N R;have m:=Br.grown N Nr (by simp[Value.ownBlock]);have f:=Bj K m;have a6:=m.size;have j:∀o,q.cell? ⟨g,o,none⟩=w.cell? ⟨g,o,none⟩:=fun o=>f.cell (p:=⟨g,o,none⟩) O;have u:=
  ((Bj l m).cell (p:=⟨Hz w,2,none⟩) (by simp)).trans ((C7 w (C2 (Ls.any a b) (Sl g 2 2))).cell 2)
 have Z:=(j 3).trans r;have q4:=(j 4).trans s;have q5:=(j 5).trans t;go_wp2;rw[rounds_succ];go_wp2_with fail;refine(J (by omega) a1 _ G (Old.below d f) (I.below f d fun _ h=>h)).mono ?_;rintro e w3 ⟨v3,rfl,W,i⟩;have a7:=i.size;have V:=U.below i;have y:=(i.cell (p:=⟨Hz w,2,none⟩) (by show w.heap.size<_;omega)).trans u;go_wp2_with (at_builtin;refine aQ7 rfl _ _ rfl w.heap.size _ A v3 (gX1 a) (gX1 b) rfl rfl V W (by omega) (by omega) ?_)
 intro v4 B X v a3;have z:∀k,A.ownBlock=some k->n.heap.size<=k:=by
  intro k e;rcases R with c|⟨a8,c,hm⟩
  ·rw[e]at c;simp[Value.ownBlock]at c
  ·rw[e]at c;injection c with c;omega
 have a2:Ce B w.heap.size 2 (Sl g 2 2):=by
  refine(Y3 (v.block w.heap.size (by omega) ?_) 2).trans y;intro e;have:=z _ e.symm;omega
 have L:=(Bj f i).grown v (by omega) (fun k e=>by have:=z k e;omega);go_wp2;rw[rounds_succ];go_wp2;go_ret;exact⟨_,rfl,by rw[hXv];exact X,L⟩
theorem mQ8 (p:Pat)(h:wf p):U7 p:=
 Ls.ind sets_none (fun s _=>sets_set s) (fun a b c d _ _=>cXf a b c d) (fun a b c d=>cXe a b c d) (fun a c=>sets_star a c) p h
def F6 (l:List (Lu))(c:UInt8):Lu:=l.map fun g=>if Ls.has g c=true then 49 else 48
theorem xQm {l:List (Lu)}{c d:UInt8}(h:F6 l c=F6 l d):∀g,g∈l->Ls.has g c=Ls.has g d:=by
 induction l with
 | nil=>intro g a;simp at a
 | cons x l i=>
  simp only[F6,List.map_cons,List.cons.injEq]at h;intro g a;simp only[List.mem_cons]at a;rcases a with rfl|a
  ·have b:=h.1
   cases e:Ls.has g c<;>cases f:Ls.has g d<;>simp[e,f]at b<;>rfl
  ·exact i h.2 g a
theorem xQo {l:List (Lu)}{c:UInt8}{i:Nat}(h:i<l.length):F6 (l.take (i+1)) c=F6 (l.take i) c++[if Ls.has l[i] c=true then 49 else 48]:=by
 unfold F6;simp only[List.take_succ_eq_append_getElem h,List.map_append,List.map_cons,List.map_nil]
theorem xQn (l:List (Lu))(c:UInt8):(F6 l c).length=l.length:=by simp[F6]
theorem nQc (k:Nat)(w:World)(b:k<256):Calls Tryz.prog 71 #[.int .u8 (k:Int)] w fun e a=>e=.returned (.bool (gXu (UInt8.ofNat k)))/\a=w:=by
 have h:=M7 (UInt8.ofNat k) w;rw[show ((UInt8.ofNat k).toNat:Int)=(k:Int) from by simp;omega]at h;exact h
theorem mQ9 (p:Pat)(e:wf p):∀g,g∈gX1 p->g.length<=Ls.ks p:=by
 refine Ls.ind (P:=fun p=>∀g,g∈gX1 p->g.length<=Ls.ks p) ?_ ?_ ?_ ?_ ?_ p e
 ·simp[Ls.sets_none]
 ·intro s _ g c;rw[Ls.sets_set]at c;simp only[List.mem_singleton]at c;subst c;rw[jXo];omega
 ·intro a b _ _ _ _ ha d g c
  rw[gXt,List.mem_append]at c;rw[iX6];rcases c with c|c
  ·have:=ha g c;omega
  ·have:=d g c;omega
 ·intro a b _ _ ha d g c
  rw[hXv,List.mem_append]at c;rw[jXc];rcases c with c|c
  ·have:=ha g c;omega
  ·have:=d g c;omega
 ·intro a _ ha g c
  rw[Ls.sets_star]at c;rw[gXw];have:=ha g c;omega
theorem SV.shape {w:World}{j:Nat}{v:Value}{a:List (Lu)}(h:SV w j v a):∃c d,v=.slice c a.length d/\(0<a.length->∃g,c=some ⟨g,0,none⟩/\g<w.heap.size/\∀i (h:i<a.length),w.cell? ⟨g,i,none⟩=some (I5 a[i])):=by
 have b:=h.own;rcases O0 b with⟨e,k⟩|⟨g,d,e⟩
 ·exact⟨_,_,by rw[e,k],by omega⟩
 ·subst e
  refine⟨_,_,rfl,fun _=>⟨g,rfl,(b.lt g rfl).2,fun i f=>?_⟩⟩;rw[b.cellAt i (by simpa using f)];simp[f]
structure Lt (l:List (Lu))(out:Lu)(k:Nat):Prop where
 all:∀c:UInt8,gXu c=true->c.toNat<k->∃d,d∈out/\F6 l d=F6 l c
 small:out.length+10<=k
theorem hQq {c:UInt8}{k:Nat}(h:c.toNat<k+1):c.toNat<k\/c=UInt8.ofNat k:=by
 rcases Nat.lt_or_ge c.toNat k with a|a
 ·exact .inl a
 ·have:c.toNat=k:=by omega
  subst this;exact .inr (by simp)
theorem Lt.skip {l:List (Lu)}{b:Lu}{k:Nat}(h:Lt l b k)(hs:gXu (UInt8.ofNat k)=false):Lt l b (k+1):=by
 refine⟨fun c a e=>?_,by have:=h.small;omega⟩;rcases hQq e with d|rfl
 ·exact h.all c a d
 ·rw[hs]at a;cases a
theorem Lt.had {l:List (Lu)}{a:Lu}{k:Nat}(h:Lt l a k)(hs:∃d,d∈a/\F6 l d=F6 l (UInt8.ofNat k)):Lt l a (k+1):=by
 refine⟨fun c e f=>?_,by have:=h.small;omega⟩;rcases hQq f with b|rfl
 ·exact h.all c e b
 ·exact hs
theorem Lt.new {l:List (Lu)}{a:Lu}{k:Nat}(h:Lt l a k):Lt l (a++[UInt8.ofNat k]) (k+1):=by
 refine⟨fun c e i=>?_,by have:=h.small;simp;omega⟩;rcases hQq i with b|rfl
 ·have⟨d,f,g⟩:=h.all c e b;exact⟨d,by simp[f],g⟩
 ·exact⟨UInt8.ofNat k,by simp,rfl⟩
theorem Lt.letters {p q:Pat}{b:Lu}(h:Lt (gX1 p++gX1 q) b 127):iXh p q b:=by
 intro c a;have⟨d,e,f⟩:=h.all c a (by simp[gXu]at a;omega);exact⟨d,e,xQm f⟩
theorem lQd (p q:Pat)(S:wf p)(T:wf q)(np:nd p<=1000000000)(nq:nd q<=1000000000)(kp:Ls.ks p<=4611686018427387904)(kq:Ls.ks q<=4611686018427387904)(y z:Value)(w:World)(G:Nat->Prop)(C:Old w G)(N:PV w G p y)(O:PV w G q z) :
  Calls Tryz.prog 40 #[B4 p y,B4 q z] w fun e w'=>∃L:Lu,e=.returned (I5 L)/\iXh p q L/\L.length<=117/\Bw w w':=by
 have W:Hid _:=N;have X:Hid _:=O;obtain⟨y1,y2,y3,rfl⟩:=PV.slice _ _ N;obtain⟨z1,z2,z3,rfl⟩:=PV.slice _ _ O;go_enter Tryz.func40,Tryz.ntmps40;go_wp2_with fail;refine(mQ8 p S np _ _ G (Old.alloc (Old.alloc C _) _) (W.out.below (C6 _ _ _) C fun _ h=>h)).mono ?_;rintro e w1 ⟨v1,rfl,a8,F⟩;have E:=Bj (C6 _ _ _) F;have b3:=F.size;simp at b3;have a5:=C7 (w.alloc (.cells #[Iv p.kind,Sv p.signs,.slice y1 y2 y3] 27)) (C2 q (.slice z1 z2 z3));have u:∀o,w1.cell? ⟨Hz w+1,o,none⟩=(C2 q (.slice z1 z2 z3))[o]?:=fun o=>by
  have h0:=a5.cell o;rw[show (w.alloc (.cells #[Iv p.kind,Sv p.signs,.slice y1 y2 y3] 27)).heap.size=Hz w+1 by simp]at h0;exact(F.cell (p:=⟨Hz w+1,o,none⟩) (by simp)).trans h0
 have Z:=u 0;have c1:=u 1;have c2:=u 2;simp only[C2,List.getElem?_cons_zero,List.getElem?_cons_succ]at Z c1 c2;go_wp2_with fail;refine(mQ8 q T nq _ _ G (Old.below C E) (X.out.below E C fun _ h=>h)).mono ?_;rintro e w2 ⟨v2,rfl,a9,H⟩;have a0:=Bj E H;have d1:=H.size;have P:=(a8.below H).weak (base:=w.heap.size) (by simp;omega);have c9:=bQm p S;have d0:=bQm q T;have b6:Hid (∀g,g∈gX1 p++gX1 q->g.length<=4611686018427387904):=by
  intro g m;rw[List.mem_append]at m;rcases m with m|m
  ·have:=mQ9 p S g m;omega
  ·have:=mQ9 q T g m;omega
 go_wp2_with (at_builtin;refine aQ7 rfl _ _ rfl w.heap.size _ v1 v2 (gX1 p) (gX1 q) rfl rfl P a9 (by omega) (by omega) ?_)
 intro v3 n b0 a4 c4;have b7:=a0.grown a4 (by omega) (fun k e=>(P.own.lt k e).1);generalize hl:gX1 p++gX1 q=l at *;have d8:l.length<=2000000000:=by rw[<-hl,List.length_append];omega
 obtain⟨la,lc,rfl,a6⟩:=b0.shape;have b5:Hid _:=a6;go_wp2;go_loopw [7,8,9] (fun Q sv J wr=>∃(k:Nat) (a:Lu),k<=127/\J=Iv k/\Q=I5 a/\SV wr (Hz n) sv (a.map (F6 l))/\Lt l a k/\Bw n wr) (fun _ _ J _=>127-(intOf J).toNat)
 ·exact⟨10,[],by omega,rfl,rfl,SV.empty _ _,⟨fun d5 u hk=>by simp[gXu]at u;omega,by simp⟩,Br⟩
 ·
  obtain⟨k,a,hk,rfl,rfl,B,x,t⟩:=hrel
  by_cases d7:k<=126
  ·cases c7:gXu (UInt8.ofNat k) with
   | false=>
    go_wp2_with fail;refine(nQc k _ (by omega)).mono ?_;rintro e f ⟨rfl,rfl⟩;go_wp2_with fail;exact⟨⟨k+1,a,by omega,by go_num,rfl,B,x.skip c7,t⟩,by simp[intOf];omega⟩
   | true=>
    go_wp2_with fail;refine(nQc k _ (by omega)).mono ?_;rintro e f ⟨rfl,rfl⟩;go_wp2_with fail;go_loop [11,12] (fun mv s=>∃i:Nat,i<=l.length/\s=Iv i/\mv=I5 (F6 (l.take i) (UInt8.ofNat k))) (fun _ s=>l.length-(intOf s).toNat)
    ·exact⟨0,Nat.zero_le _,rfl,by simp[F6]⟩
    ·
     obtain⟨i,hi,rfl,rfl⟩:=hrel;have c3:=xQn (l.take i) (UInt8.ofNat k);have e2:(l.take i).length<=i:=List.length_take_le _ _
     by_cases K:i<l.length
     ·obtain⟨g,rfl,m,v⟩:=b5.out (by omega)
      have e0:Ce f g i (I5 l[i]):=(t.cell (p:=⟨g,i,none⟩) m).trans (v i K);have U:Hid (F6 (l.take (i+1)) (UInt8.ofNat k)=F6 (l.take i) (UInt8.ofNat k)++[if Ls.has l[i] (UInt8.ofNat k)=true then 49 else 48]):=xQo K;have c8:=b6.out l[i] (List.getElem_mem K);clear v;go_wp2_with fail;refine(kQo l[i] k _ (by omega) c8).mono ?_;rintro e w5 ⟨rfl,rfl⟩;cases hh:Ls.has l[i] (UInt8.ofNat k) with
      | true=>
       go_wp2_with fail;refine⟨⟨i+1,by omega,by go_num,?_⟩,by simp[intOf];omega⟩;rw[U.out,hh,fQs];rfl
      | false=>
       go_wp2_with fail;refine⟨⟨i+1,by omega,by go_num,?_⟩,by simp[intOf];omega⟩;rw[U.out,hh,fQs];rfl
     ·have b9:i=l.length:=by omega
      subst b9;rw[List.take_length]at c3 ⊢;generalize a7:F6 l (UInt8.ofNat k)=c at *;obtain⟨R,sc,rfl,b2⟩:=B.shape;have Y:Hid (0<(a.map (F6 l)).length->∃g,R=some ⟨g,0,none⟩/\g<f.heap.size/\∀i (h:i<(a.map (F6 l)).length),Ce f g i (I5 (a.map (F6 l))[i])):=b2;have d9:=x.small;clear b2;rw[List.length_map];go_wp2_with fail;go_loop [14,15] (fun Q s=>∃(j:Nat) (b:Bool),j<=a.length/\s=Iv j/\Q=.bool b/\(b=true->∃d,d∈a/\F6 l d=c)/\(b=false->∀d,d∈a.take j->F6 l d≠c)) (fun _ s=>a.length-(intOf s).toNat)
      ·exact⟨0,false,Nat.zero_le _,rfl,rfl,by simp,by simp⟩
      ·
       obtain⟨j,b,hj,rfl,rfl,a3,a2⟩:=hrel;have V:Hid (b=true->∃d,d∈a/\F6 l d=c):=a3;have b4:Hid (b=false->∀d,d∈a.take j->F6 l d≠c):=a2;clear a3 a2
       by_cases M:j<a.length
       ·cases b with
        | true=>
         go_wp2_with fail;exact⟨⟨j+1,true,by omega,by go_num,rfl,V.out,by simp⟩,by simp[intOf];omega⟩
        | false=>
         obtain⟨g,rfl,m,v⟩:=Y.out (by simp;omega);have e0:=v j (by simpa using M);rw[List.getElem_map]at e0;have d4:Hid (∀i (h:i<(a.map (F6 l)).length),Ce f g i (I5 (a.map (F6 l))[i])):=v;clear v
         by_cases A:F6 l a[j]=c
         ·have c0:(F6 l a[j]==c)=true:=by simp[A]
          have I:Hid (F6 l a[j]=c):=A;clear A;go_wp2_with fail;exact⟨⟨j+1,true,by omega,by go_num,rfl,fun _=>⟨a[j],List.getElem_mem M,I.out⟩,by simp⟩,by simp[intOf];omega⟩
         ·have c0:(F6 l a[j]==c)=false:=by simp[A]
          have I:Hid (¬F6 l a[j]=c):=A;clear A;go_wp2_with fail;refine⟨⟨j+1,false,by omega,by go_num,rfl,by simp,fun _ d r=>?_⟩,by simp[intOf];omega⟩;rw[List.take_succ_eq_append_getElem M]at r;rcases List.mem_append.1 r with r|r
          ·exact b4.out rfl d r
          ·simp only[List.mem_singleton]at r
           rw[r];exact I.out
       ·cases b with
        | true=>
         go_wp2_with fail;refine⟨⟨k+1,a,by omega,by go_num,rfl,?_,x.had (by rw[a7];exact V.out rfl),t⟩,by simp[intOf];omega⟩;rw[List.length_map]at B;exact B
        | false=>
         rw[List.length_map]at B;have d3:=t.size;have b1:SV (f.alloc (.cells #[I5 c] 9)) n.heap.size (.slice R a.length sc) (a.map (F6 l)):=B.below (A5 _ _);have c5:SV (f.alloc (.cells #[I5 c] 9)) f.heap.size (Sl f.heap.size 1 1) [c]:=
          ⟨World.ownsRow_lit (e:=9) (size:=1) f #[I5 c] 1 (Nat.le_refl _) (by unfold maxLen;omega) rfl,by simp⟩
         have d6:=K5;clear Y;go_wp2_with (at_builtin;refine aQ7 rfl _ _ rfl n.heap.size f.heap.size (.slice R a.length sc) (Sl f.heap.size 1 1) (a.map (F6 l)) [c] rfl rfl b1 c5 (by simp;omega) (by simp;omega) ?_)
         intro v7 w7 c6 b8 e1;have a1:Bw n w7:=(t.trans ((A5 f (.cells #[I5 c] 9)).mono d3)).grown b8 (by simp;omega) (fun k e=>(b1.own.lt k e).1);go_wp2_with fail;have d2:=a1.size;refine⟨⟨k+1,a++[UInt8.ofNat k],by omega,by go_num,fQs _ _,?_,x.new,a1.alloc d2 _⟩,by simp[intOf];omega⟩;rw[List.map_append,List.map_cons,List.map_nil,a7];exact c6.below (A5 _ _)
  ·go_wp2_with fail
   go_ret;have:k=127:=by omega
   subst this;exact⟨a,rfl,Lt.letters (by rw[hl];exact x),by have:=x.small;omega,Bj b7 t⟩
def P9 (w:World)(vs:List Value)(k:Nat):Prop:=k<w.heap.size/\∀u,u∈vs->u.ownBlock≠some k
structure Dis (B:Nat)(w:World)(vs:List Value):Prop where
 lt:∀u,u∈vs->∀k,u.ownBlock=some k->B<=k/\k<w.heap.size
 ne:∀(i j:Nat) (u v:Value),i≠j->vs[i]?=some u->vs[j]?=some v->∀k,u.ownBlock=some k->v.ownBlock≠some k
def Moved (w w':World)(vs vs':List Value):Prop:=∀k,P9 w vs k->P9 w' vs' k/\w'.heap[k]?=w.heap[k]?
theorem dQn {b:List Value}{i j:Nat}{d u:Value}(h:(b.set i d)[j]?=some u):(j=i/\u=d)\/(j≠i/\b[j]?=some u):=by
 rw[List.getElem?_set]at h
 by_cases a:i=j
 ·rw[if_pos a]at h
  by_cases c:i<b.length
  ·rw[if_pos c]at h;injection h with h;exact .inl ⟨a.symm,h.symm⟩
  ·rw[if_neg c]at h;cases h
 ·rw[if_neg a]at h;exact .inr ⟨fun e=>a e.symm,h⟩
theorem Dis.set {B:Nat}{w p:World}{g:List Value}(h:Dis B w g){i:Nat}{v o:Value}(r:g[i]?=some v)(q:w.grownBy p v.ownBlock)
  (A:o.ownBlock=v.ownBlock\/∃k,o.ownBlock=some k/\w.heap.size<=k) (E:∀k,o.ownBlock=some k->B<=k/\k<p.heap.size) :
  Dis B p (g.set i o)/\Moved w p g (g.set i o)/\(∀(j:Nat) (u:Value),j≠i->g[j]?=some u->∀k,u.ownBlock=some k->p.heap[k]?=w.heap[k]?):=by
 have y:=List.mem_of_getElem? r;have C:∀(j:Nat) (u:Value),j≠i->g[j]?=some u->∀k,u.ownBlock=some k->o.ownBlock≠some k:=by
  intro j u d f k c e;rcases A with l|⟨m,l,F⟩
  ·rw[l]at e;exact h.ne j i u v d f r k c e
  ·rw[l]at e;injection e with e;have:=(h.lt u (List.mem_of_getElem? f) k c).2;omega
 refine⟨⟨?_,?_⟩,?_,?_⟩
 ·intro u f k c
  have⟨j,d⟩:=List.getElem?_of_mem f;rcases dQn d with⟨_,rfl⟩|⟨_,d⟩
  ·exact E k c
  ·have:=h.lt u (List.mem_of_getElem? d) k c
   exact⟨this.1,Ll this.2 q.size⟩
 ·intro a b u x s f n k c e
  rcases dQn f with⟨rfl,rfl⟩|⟨ha,z⟩
  ·rcases dQn n with⟨rfl,_⟩|⟨t,n⟩
   ·exact s rfl
   ·exact C b x t n k e c
  ·rcases dQn n with⟨rfl,rfl⟩|⟨t,n⟩
   ·exact C a u ha z k c e
   ·exact h.ne a b u x s z n k c e
 ·intro k c
  have G:some k≠v.ownBlock:=fun e=>c.2 v y e.symm;refine⟨⟨Ll c.1 q.size,fun u f=>?_⟩,q.block k c.1 G⟩;have⟨j,d⟩:=List.getElem?_of_mem f;rcases dQn d with⟨_,rfl⟩|⟨_,d⟩
  ·rcases A with l|⟨m,l,F⟩
   ·rw[l];exact c.2 v y
   ·rw[l];intro e;injection e with e;have:=c.1;omega
  ·exact c.2 u (List.mem_of_getElem? d)
 ·intro j u d f k c
  exact q.block k (h.lt u (List.mem_of_getElem? f) k c).2 (fun e=>h.ne j i u v d f r k c e.symm)
theorem Dis.below {B:Nat}{w w':World}{b:List Value}(h:Dis B w b)(c:Bw w w'):Dis B w' b/\Moved w w' b b:=
 ⟨⟨fun u d k a=>⟨(h.lt u d k a).1,Ll (h.lt u d k a).2 c.size⟩,h.ne⟩,fun k a=>⟨⟨Ll a.1 c.size,a.2⟩,c.block k a.1⟩⟩
theorem Dis.push {B:Nat}{w:World}{c:List Value}(h:Dis B w c):Dis B w (.slice none 0 0::c)/\Moved w w c (.slice none 0 0::c):=by
 refine⟨⟨fun u a k b=>?_,fun i j u v e a d k b=>?_⟩,fun k b=>⟨⟨b.1,fun u a=>?_⟩,rfl⟩⟩
 ·simp only[List.mem_cons]at a
  rcases a with rfl|a
  ·simp[Value.ownBlock]at b
  ·exact h.lt u a k b
 ·cases i with
  | zero=>simp at a;subst a;simp[Value.ownBlock]at b
  | succ i=>
   cases j with
   | zero=>simp at d;subst d;simp[Value.ownBlock]
   | succ j=>exact h.ne i j u v (by omega) (by simpa using a) (by simpa using d) k b
 ·simp only[List.mem_cons]at a
  rcases a with rfl|a
  ·simp[Value.ownBlock]
  ·exact b.2 u a
theorem Dis.pop {B:Nat}{w:World}{v:Value}{c:List Value}(h:Dis B w (v::c)):Dis B w c/\Moved w w (v::c) c/\(∀k,v.ownBlock=some k->P9 w c k):=by
 refine⟨⟨fun u a=>h.lt u (by simp[a]),fun i j u x f a e=>h.ne (i+1) (j+1) u x (by omega) (by simpa using a) (by simpa using e)⟩,fun k b=>⟨⟨b.1,fun u a=>b.2 u (by simp[a])⟩,rfl⟩,fun k b=>⟨(h.lt v (by simp) k b).2,fun u a=>?_⟩⟩;have⟨j,d⟩:=List.getElem?_of_mem a;exact h.ne 0 (j+1) v u (by omega) (by simp) (by simpa using d) k b
theorem I3 {w c:World}{a:Nat}{e:TypeId}{b:Nat}{v:Value}{n:Nat}{d:List Value}(h:w.ownsRow a e b v n d)(l:∀k,v.ownBlock=some k->c.heap[k]?=w.heap[k]?):c.ownsRow a e b v n d:=by
 refine⟨h.1,?_⟩;rcases h.2 with j|⟨g,f,i,rfl,m,o,r⟩
 ·exact .inl j
 ·exact .inr ⟨g,f,i,rfl,m,by rw[l g rfl];exact o,r⟩
def VV (w:World)(G:Nat->Prop)(v:Value)(xs:List Value):Prop:=
 (v=.slice none 0 0/\xs=[])\/∃g cap,G g/\v=.slice (some ⟨g,0,none⟩) xs.length cap/\∀i (h:i<xs.length),w.cell? ⟨g,i,none⟩=some xs[i]
theorem VV.mono {w w':World}{G G':Nat->Prop}(b:∀k,G k->G' k/\w'.heap[k]?=w.heap[k]?){v:Value}{c:List Value}(h:VV w G v c):VV w' G' v c:=by
 rcases h with h|⟨g,d,a,rfl,e⟩
 ·exact .inl h
 ·exact .inr ⟨g,d,(b g a).1,rfl,fun i f=>by rw[Y3 (b g a).2];exact e i f⟩
theorem VV.of_own {w:World}{G:Nat->Prop}{base:Nat}{e:TypeId}{v:Value}{a:List Value}(h:w.ownsRow base e 1 v a.length a)(j:∀k,v.ownBlock=some k->G k):VV w G v a:=by
 rcases O0 h with⟨d,f⟩|⟨g,c,rfl⟩
 ·exact .inl ⟨d,List.eq_nil_of_length_eq_zero f⟩
 ·refine .inr ⟨g,c,j g rfl,rfl,fun i b=>?_⟩
  rw[h.cellAt i (by simpa using b)];simp[b]
abbrev aQy (l:List Nat):List Value:=l.map fun (n:Nat)=>Value.int .i64 (n:Int)
theorem VV.ints {w:World}{G:Nat->Prop}{v:Value}{l:List Nat}(h:VV w G v (aQy l)):IV w G v l:=by
 rcases h with⟨rfl,b⟩|⟨g,a,d,rfl,c⟩
 ·exact .inl ⟨rfl,by simpa using b⟩
 ·refine .inr ⟨g,a,d,by simp,fun i e=>?_⟩
  have:=c i (by simpa using e);simpa using this
def II (w:World)(G:Nat->Prop)(v:Value)(ll:List (List Nat)):Prop:=∃xs:List Value,VV w G v xs/\xs.length=ll.length/\∀(i:Nat) (x:Value) (l:List Nat),xs[i]?=some x->ll[i]?=some l->IV w G x l
def III (w:World)(G:Nat->Prop)(v:Value)(ll:List (List (List Nat))):Prop:=∃xs:List Value,VV w G v xs/\xs.length=ll.length/\∀(i:Nat) (x:Value) (l:List (List Nat)),xs[i]?=some x->ll[i]?=some l->II w G x l
theorem IV.mono2 {w d:World}{G b:Nat->Prop}(c:∀k,G k->b k/\d.heap[k]?=w.heap[k]?){v:Value}{l:List Nat}(h:IV w G v l):IV d b v l:=
 h.mono (fun k a=>(c k a).1) (fun k a=>(c k a).2)
theorem II.mono {w w':World}{G G':Nat->Prop}(a:∀k,G k->G' k/\w'.heap[k]?=w.heap[k]?){v:Value}{l:List (List Nat)}(h:II w G v l):II w' G' v l:=by
 have⟨g,b,c,d⟩:=h;exact⟨g,b.mono a,c,fun i x l f e=>(d i x l f e).mono2 a⟩
theorem III.mono {w w':World}{G G':Nat->Prop}(a:∀k,G k->G' k/\w'.heap[k]?=w.heap[k]?){v:Value}{l:List (List (List Nat))}(h:III w G v l):III w' G' v l:=by
 have⟨g,b,c,d⟩:=h;exact⟨g,b.mono a,c,fun i x l f e=>(d i x l f e).mono a⟩
theorem PV.mono2 {w d:World}{G b:Nat->Prop}(c:∀k,G k->b k/\d.heap[k]?=w.heap[k]?){p:Pat}{v:Value}(h:PV w G p v):PV d b p v:=
 PV.mono (fun k a=>(c k a).1) (fun k a=>(c k a).2) _ _ h
def TV (w:World)(G:Nat->Prop)(tb:Nat)(t:Tab):Prop:=
 G tb/\∃vT vE,w.heap[tb]?=some (.cells #[vT,vE] 73 (0,0))/\III w G vT t.to/\VV w G vE (t.ends.map Value.bool)
theorem TV.mono {w w':World}{G G':Nat->Prop}(a:∀k,G k->G' k/\w'.heap[k]?=w.heap[k]?){b:Nat}{t:Tab}(h:TV w G b t):TV w' G' b t:=by
 have⟨c,i,g,d,e,f⟩:=h;exact⟨(a b c).1,i,g,by rw[(a b c).2];exact d,e.mono a,f.mono a⟩
abbrev J0 (tb:Nat):Value:=.slice (some ⟨tb,0,none⟩) 0 0
def Z7 (B:Nat)(w:World)(vs:List Value)(k:Nat):Prop:=P9 w vs k/\B<=k
theorem Moved.fixB {w b:World}{c d:List Value}(h:Moved w b c d)(B:Nat):∀k,Z7 B w c k->Z7 B b d k/\b.heap[k]?=w.heap[k]?:=fun k a=>⟨⟨(h k a.1).1,a.2⟩,(h k a.1).2⟩
structure TS (w0 w:World)(tb:Nat)(vS vK vE vT cT cE:Value)(ex:List Value)(qs:List (Pat × Value))(ks:List (Lu))(ends:List Bool)(tt:List (List (List Nat))):Prop where
 bel:Bw w0 w
 dis:Dis w0.heap.size w (ex++[vS,vK,vE,vT,J0 tb])
 ownS:w.ownsRow w0.heap.size 27 3 vS qs.length (N9 qs)
 each:∀q,q∈qs->PV w (P9 w (ex++[vS,vK,vE,vT,J0 tb])) q.1 q.2
 keys:SV w w0.heap.size vK ks
 ownE:w.ownsRow w0.heap.size 4 1 vE ends.length (ends.map Value.bool)
 rows:∃xs:List Value,w.ownsRow w0.heap.size 76 1 vT xs.length xs/\xs.length=tt.length/\∀(i:Nat) (x:Value) (l:List (List Nat)),xs[i]?=some x->tt[i]?=some l->II w (Z7 w0.heap.size w (ex++[vS,vK,vE,vT,J0 tb])) x l
 tab:w.heap[tb]?=some (.cells #[cT,cE] 73 (0,0))
section
variable {w0 w w':World} {tb:Nat} {vS vK vE vT cT cE:Value} {ex:List Value} {qs:List (Pat × Value)} {ks:List (Lu)} {ends:List Bool} {tt:List (List (List Nat))}
theorem at0 (f:List Value)(a b c d e:Value):(f++[a,b,c,d,e])[f.length]?=some a:=by simp
theorem j5 (f:List Value)(a b c d e:Value):(f++[a,b,c,d,e])[f.length+1]?=some b:=by rw[List.getElem?_append_right (by omega)];simp
theorem aQq (f:List Value)(a b c d e:Value):(f++[a,b,c,d,e])[f.length+2]?=some c:=by rw[List.getElem?_append_right (by omega)];simp
theorem aQr (f:List Value)(a b c d e:Value):(f++[a,b,c,d,e])[f.length+3]?=some d:=by rw[List.getElem?_append_right (by omega)];simp
theorem j6 (f:List Value)(a b c d e:Value):(f++[a,b,c,d,e])[f.length+4]?=some e:=by rw[List.getElem?_append_right (by omega)];simp
theorem dQm (a l:List Value)(i:Nat)(v:Value):(a++l).set (a.length+i) v=a++l.set i v:=by rw[List.set_append_right _ _ (by omega)];simp
theorem TS.size (h:TS w0 w tb vS vK vE vT cT cE ex qs ks ends tt):w0.heap.size<=w.heap.size:=h.bel.size
theorem TS.below (h:TS w0 w tb vS vK vE vT cT cE ex qs ks ends tt)(b:Bw w w'):TS w0 w' tb vS vK vE vT cT cE ex qs ks ends tt:=by
 have⟨d,m⟩:=h.dis.below b;have a:∀(i:Nat) (v:Value),(ex++[vS,vK,vE,vT,J0 tb])[i]?=some v->∀k,v.ownBlock=some k->w'.heap[k]?=w.heap[k]?:=fun i v c k e=>b.block k (h.dis.lt v (List.mem_of_getElem? c) k e).2;have⟨r,n,o,p⟩:=h.rows;exact⟨h.bel.trans (b.mono h.size),d,I3 h.ownS (a _ _ (at0 ..)),fun q g=>(h.each q g).mono2 m,⟨I3 h.keys.own (a _ _ (j5 ..)),h.keys.nil⟩,I3 h.ownE (a _ _ (aQq ..)),
  ⟨r,I3 n (a _ _ (aQr ..)),o,fun i x l j f=>(p i x l j f).mono (m.fixB _)⟩,by rw[a _ _ (j6 ..) tb rfl];exact h.tab⟩
structure Appd (w w':World)(base:Nat)(e:TypeId)(size:Nat)(v v':Value)(n:Nat)(xs:List Value):Prop where
 own:w'.ownsRow base e size v' n xs
 grown:w.grownBy w' v.ownBlock
 place:v'.ownBlock=v.ownBlock\/∃k,v'.ownBlock=some k/\w.heap.size<=k
theorem TS.bel' (h:TS w0 w tb vS vK vE vT cT cE ex qs ks ends tt){i:Nat}{v:Value}(b:(ex++[vS,vK,vE,vT,J0 tb])[i]?=some v)(a:w.grownBy w' v.ownBlock):Bw w0 w':=
 h.bel.grown a h.size (fun k e=>(h.dis.lt v (List.mem_of_getElem? b) k e).1)
theorem TS.state (h:TS w0 w tb vS vK vE vT cT cE ex qs ks ends tt){b:Value}{p:Pat}{y:Value}(f:PV w (P9 w (ex++[vS,vK,vE,vT,J0 tb])) p y)
  (ha:Appd w w' w0.heap.size 27 3 vS b (qs.length+1) (N9 qs++C2 p y)):TS w0 w' tb b vK vE vT cT cE ex (qs++[(p,y)]) ks ends tt:=by
 have⟨d,m,o⟩:=h.dis.set (at0 ex vS vK vE vT (J0 tb)) ha.grown ha.place (fun k e=>ha.own.lt k e);rw[show ex.length=ex.length+0 from rfl,dQm]at d m;have⟨s,j,n,r⟩:=h.rows;refine⟨h.bel' (at0 ..) ha.grown,d,?_,?_,⟨I3 h.keys.own (o _ _ (by omega) (j5 ..)),h.keys.nil⟩,I3 h.ownE (o _ _ (by omega) (aQq ..)),
  ⟨s,I3 j (o _ _ (by omega) (aQr ..)),n,fun i x l g c=>(r i x l g c).mono (m.fixB _)⟩,by rw[o _ _ (by omega) (j6 ..) tb rfl];exact h.tab⟩
 ·rw[kQg,List.length_append];exact ha.own
 ·intro q a
  rcases List.mem_append.1 a with a|a
  ·exact(h.each q a).mono2 m
  ·simp only[List.mem_singleton]at a
   subst a;exact f.mono2 m
theorem TS.key (h:TS w0 w tb vS vK vE vT cT cE ex qs ks ends tt){a:Value}{c:List (Lu)}(hs:SV w' w0.heap.size a c)(b:w.grownBy w' vK.ownBlock)(j:a.ownBlock=vK.ownBlock\/∃k,a.ownBlock=some k/\w.heap.size<=k) :
  TS w0 w' tb vS a vE vT cT cE ex qs c ends tt:=by
 have⟨d,m,o⟩:=h.dis.set (j5 ex vS vK vE vT (J0 tb)) b j (fun k e=>hs.own.lt k e);rw[dQm]at d m;have⟨t,p,r,s⟩:=h.rows;exact⟨h.bel' (j5 ..) b,d,I3 h.ownS (o _ _ (by omega) (at0 ..)),fun q g=>(h.each q g).mono2 m,hs,I3 h.ownE (o _ _ (by omega) (aQq ..)),
  ⟨t,I3 p (o _ _ (by omega) (aQr ..)),r,fun i x l n f=>(s i x l n f).mono (m.fixB _)⟩,by rw[o _ _ (by omega) (j6 ..) tb rfl];exact h.tab⟩
theorem TS.endd (h:TS w0 w tb vS vK vE vT cT cE ex qs ks ends tt){a:Value}{b:Bool}(ha:Appd w w' w0.heap.size 4 1 vE a (ends.length+1) (ends.map Value.bool++[.bool b])) :
  TS w0 w' tb vS vK a vT cT cE ex qs ks (ends++[b]) tt:=by
 have⟨d,m,o⟩:=h.dis.set (aQq ex vS vK vE vT (J0 tb)) ha.grown ha.place (fun k e=>ha.own.lt k e);rw[dQm]at d m;have⟨r,j,n,p⟩:=h.rows;exact⟨h.bel' (aQq ..) ha.grown,d,I3 h.ownS (o _ _ (by omega) (at0 ..)),fun q f=>(h.each q f).mono2 m,⟨I3 h.keys.own (o _ _ (by omega) (j5 ..)),h.keys.nil⟩,
  by rw[List.map_append,List.length_append];exact ha.own,
  ⟨r,I3 j (o _ _ (by omega) (aQr ..)),n,fun i x l g c=>(p i x l g c).mono (m.fixB _)⟩,by rw[o _ _ (by omega) (j6 ..) tb rfl];exact h.tab⟩
theorem TS.row (h:TS w0 w tb vS vK vE vT cT cE ex qs ks ends tt){g:Value}{x:Value}{l:List (List Nat)}(s:II w (Z7 w0.heap.size w (ex++[vS,vK,vE,vT,J0 tb])) x l)
  (ha:∀a:List Value,w.ownsRow w0.heap.size 76 1 vT a.length a->a.length=tt.length->Appd w w' w0.heap.size 76 1 vT g (a.length+1) (a++[x])) :
  TS w0 w' tb vS vK vE g cT cE ex qs ks ends (tt++[l]):=by
 have⟨a,u,f,v⟩:=h.rows;have ha:=ha a u f;have⟨d,m,o⟩:=h.dis.set (aQr ex vS vK vE vT (J0 tb)) ha.grown ha.place (fun k e=>ha.own.lt k e);rw[dQm]at d m;refine⟨h.bel' (aQr ..) ha.grown,d,I3 h.ownS (o _ _ (by omega) (at0 ..)),fun q r=>(h.each q r).mono2 m,⟨I3 h.keys.own (o _ _ (by omega) (j5 ..)),h.keys.nil⟩,I3 h.ownE (o _ _ (by omega) (aQq ..)),
  ⟨a++[x],by rw[List.length_append];exact ha.own,by simp[f],?_⟩,by rw[o _ _ (by omega) (j6 ..) tb rfl];exact h.tab⟩
 intro i y t c b
 by_cases j:i<a.length
 ·rw[List.getElem?_append_left j]at c
  rw[List.getElem?_append_left (by omega)]at b;exact(v i y t c b).mono (m.fixB _)
 ·have n:=(List.getElem?_eq_some_iff.1 c).1
  have p:i=a.length:=by simp at n;omega
  subst p;rw[f]at b;simp at c b;subst c b;exact s.mono (m.fixB _)
theorem uQ9 (w:World)(g o:Nat)(v:Value):w.grownBy (w.setCell ⟨g,o,none⟩ v) (some g):=
 ⟨rfl,rfl,rfl,by simp[World.setCell],fun k _ a=>Below.heap_setCell _ _ _ _ (fun e=>a (by rw[e]))⟩
theorem TS.store (h:TS w0 w tb vS vK vE vT cT cE ex qs ks ends tt)(o:Nat)(v c b:Value)(g:(#[cT,cE]:Array Value).set! o v=#[c,b]):TS w0 (w.setCell ⟨tb,o,none⟩ v) tb vS vK vE vT c b ex qs ks ends tt:=by
 have a:=uQ9 w tb o v;have f:=h.dis.lt (J0 tb) (List.mem_of_getElem? (j6 ex vS vK vE vT (J0 tb))) tb rfl;have⟨d,m,s⟩:=h.dis.set (j6 ex vS vK vE vT (J0 tb)) a (.inl rfl) (fun k e=>by injection e with e;subst e;exact⟨f.1,Ll f.2 a.size⟩);rw[dQm]at d m;have⟨y,r,t,u⟩:=h.rows;refine⟨h.bel' (j6 ..) a,d,I3 h.ownS (s _ _ (by omega) (at0 ..)),fun q n=>(h.each q n).mono2 m,⟨I3 h.keys.own (s _ _ (by omega) (j5 ..)),h.keys.nil⟩,I3 h.ownE (s _ _ (by omega) (aQq ..)),
  ⟨y,I3 r (s _ _ (by omega) (aQr ..)),t,fun i x l p j=>(u i x l p j).mono (m.fixB _)⟩,?_⟩
 have:=h.tab;simp[World.setCell,Array.getElem?_modify,this,<-g]
theorem TS.push (h:TS w0 w tb vS vK vE vT cT cE ex qs ks ends tt):TS w0 w tb vS vK vE vT cT cE (.slice none 0 0::ex) qs ks ends tt:=by
 have⟨d,m⟩:=h.dis.push;have⟨j,e,f,g⟩:=h.rows;exact⟨h.bel,d,h.ownS,fun q b=>(h.each q b).mono2 m,h.keys,h.ownE,⟨j,e,f,fun i x l c a=>(g i x l c a).mono (m.fixB _)⟩,h.tab⟩
theorem TS.pop {v:Value}(h:TS w0 w tb vS vK vE vT cT cE (v::ex) qs ks ends tt):TS w0 w tb vS vK vE vT cT cE ex qs ks ends tt/\Moved w w (v::(ex++[vS,vK,vE,vT,J0 tb])) (ex++[vS,vK,vE,vT,J0 tb])/\(∀k,v.ownBlock=some k->Z7 w0.heap.size w (ex++[vS,vK,vE,vT,J0 tb]) k):=by
 have⟨d,m,f⟩:=Dis.pop h.dis;have⟨o,g,j,n⟩:=h.rows;exact⟨⟨h.bel,d,h.ownS,fun q b=>(h.each q b).mono2 m,h.keys,h.ownE,⟨o,g,j,fun i x l c a=>(n i x l c a).mono (m.fixB _)⟩,h.tab⟩,m,fun k e=>⟨f k e,(h.dis.lt v (by simp) k e).1⟩⟩
theorem TS.grow {v a:Value}(h:TS w0 w tb vS vK vE vT cT cE (v::ex) qs ks ends tt)(f:w.grownBy w' v.ownBlock)(j:a.ownBlock=v.ownBlock\/∃k,a.ownBlock=some k/\w.heap.size<=k)(b:∀k,a.ownBlock=some k->w0.heap.size<=k/\k<w'.heap.size) :
  TS w0 w' tb vS vK vE vT cT cE (a::ex) qs ks ends tt/\Moved w w' (v::(ex++[vS,vK,vE,vT,J0 tb])) (a::(ex++[vS,vK,vE,vT,J0 tb])):=by
 have c:((v::ex)++[vS,vK,vE,vT,J0 tb])[0]?=some v:=rfl;have⟨d,m,o⟩:=h.dis.set c f j b;have e:(v::ex).length=ex.length+1:=rfl;have⟨t,p,r,s⟩:=h.rows;exact⟨⟨h.bel' c f,d,I3 h.ownS (o _ _ (by omega) (at0 (v::ex) ..)),fun q g=>(h.each q g).mono2 m,⟨I3 h.keys.own (o _ _ (by omega) (j5 (v::ex) ..)),h.keys.nil⟩,I3 h.ownE (o _ _ (by omega) (aQq (v::ex) ..)),
  ⟨t,I3 p (o _ _ (by omega) (aQr (v::ex) ..)),r,fun i x l n b=>(s i x l n b).mono (m.fixB _)⟩,by rw[o _ _ (by omega) (j6 (v::ex) ..) tb rfl];exact h.tab⟩,m⟩
theorem TS.done (h:TS w0 w tb vS vK vE vT vT vE [] qs ks ends tt):TV w (fun k=>w0.heap.size<=k/\k<w.heap.size) tb ⟨tt,ends⟩:=by
 have⟨j,b,f,g⟩:=h.rows;refine⟨h.dis.lt (J0 tb) (by simp) tb rfl,vT,vE,h.tab,⟨j,VV.of_own b (fun k e=>b.lt k e),f,fun i x l d c=>(g i x l d c).mono (fun k a=>⟨⟨a.2,a.1.1⟩,rfl⟩)⟩,?_⟩;have:=h.ownE;rw[show ends.length=(ends.map Value.bool).length by simp]at this;exact VV.of_own this (fun k e=>h.ownE.lt k e)
end
end Go.Proofs.YtfklinjaajafgaaGreatDoor
namespace Ls
variable {L:Lu}{R sts:List Pat}{ends:List Bool}{l:List Nat}{m n:Nat}{p q:Pat}{r:List (List Nat)}{tt:List (List (List Nat))}(x:Pat)
def RowOk (L:Lu)(sts:List Pat)(r:List (List Nat))(q:Pat):Prop:=∀(k:Nat) (c:UInt8),k<r.length->L[k]?=some c->∃l:List Nat,r[k]?=some l/\l.map (fun j=>sts[j]?)=(behind q c).map some
structure TInv (p:Pat)(L:Lu)(R:List Pat)(sts:List Pat)(n:Nat)(ends:List Bool)(m:Nat)(tt:List (List (List Nat))):Prop where
 first:sts[0]?=some p
 room:∀x,x∈sts->x∈R
 kd:KD sts
 le:n<=sts.length
 ends:ends=(sts.take n).map empty
 lenT:tt.length=m
 rows:∀(i:Nat) (q:Pat) (r:List (List Nat)),sts[i]?=some q->tt[i]?=some r->r.length=L.length/\RowOk L sts r q
theorem kXu {m:List Pat}(h:l.map (fun j=>sts[j]?)=m.map some):l.map (fun j=>(sts++[x])[j]?)=m.map some:=by
 rw[<-h];apply List.map_congr_left
 intro j a;have:sts[j]?∈m.map some:=by rw[<-h];exact List.mem_map.2 ⟨j,a,rfl⟩
 have⟨y,_,c⟩:=List.mem_map.1 this;have b:=(List.getElem?_eq_some_iff.1 c.symm).1;rw[List.getElem?_append_left b]
theorem RowOk.mono (h:RowOk L sts r q)(x:Pat):RowOk L (sts++[x]) r q:=fun k c e d=>by
 have⟨l,a,b⟩:=h k c e d;exact⟨l,a,kXu x b⟩
theorem TInv.push (h:TInv p L R sts n ends m tt)(s:m<=sts.length){x:Pat}(l:x∈R)(k:∀y,y∈sts->key y≠key x):TInv p L R (sts++[x]) n ends m tt:=by
 refine⟨?_,?_,?_,?_,?_,h.lenT,?_⟩
 ·rw[List.getElem?_append_left ((List.getElem?_eq_some_iff.1 h.first).1)];exact h.first
 ·intro y c
  rw[List.mem_append]at c;rcases c with c|c
  ·exact h.room y c
  ·simp only[List.mem_singleton]at c;subst c;exact l
 ·unfold KD
  rw[List.map_append,List.nodup_append];refine⟨h.kd,by simp,?_⟩;intro a ha b d;simp only[List.map_cons,List.map_nil,List.mem_singleton]at d;subst d;obtain⟨y,c,rfl⟩:=List.mem_map.1 ha;exact k y c
 ·have:=h.le;simp;omega
 ·rw[List.take_append_of_le_length h.le];exact h.ends
 ·intro i q r e f
  have o:i<m:=by have:=(List.getElem?_eq_some_iff.1 f).1;have:=h.lenT;omega
  rw[List.getElem?_append_left (by omega)]at e;have⟨g,j⟩:=h.rows i q r e f;exact⟨g,j.mono x⟩
theorem TInv.endd (h:TInv p L R sts n ends m tt)(a:n<sts.length):TInv p L R sts (n+1) (ends++[empty sts[n]]) m tt:=by
 refine⟨h.first,h.room,h.kd,a,?_,h.lenT,h.rows⟩;rw[List.take_succ_eq_append_getElem a,List.map_append,<-h.ends];simp
theorem TInv.row (h:TInv p L R sts n ends m tt)(g:sts[m]?=some q)(j:r.length=L.length)(f:RowOk L sts r q):TInv p L R sts n ends (m+1) (tt++[r]):=by
 refine⟨h.first,h.room,h.kd,h.le,h.ends,by simp[h.lenT],?_⟩;intro i k l b a
 by_cases e:i<tt.length
 ·rw[List.getElem?_append_left e]at a;exact h.rows i k l b a
 ·have c:=(List.getElem?_eq_some_iff.1 a).1
  have d:i=tt.length:=by simp at c;omega
  subst d;rw[h.lenT,g]at b;simp at a;cases b;subst a;exact⟨j,f⟩
theorem RowOk.snoc (h:RowOk L sts r q){c:UInt8}(i:L[r.length]?=some c)(n:l.map (fun j=>sts[j]?)=(behind q c).map some):RowOk L sts (r++[l]) q:=by
 intro k d m a
 by_cases b:k<r.length
 ·have⟨o,e,f⟩:=h k d b a
  exact⟨o,by rw[List.getElem?_append_left b];exact e,f⟩
 ·have g:k=r.length:=by simp at m;omega
  subst g;rw[i]at a;cases a;exact⟨l,by simp,n⟩
theorem TInv.done (h:TInv p L R sts sts.length ends sts.length tt)(g:∀x,x∈R->wf x):TabOf p L ⟨tt,ends⟩ sts:=by
 refine⟨h.first,fun q a=>g q (h.room q a),h.lenT,?_,?_,?_⟩
 ·show ends.length=_
  rw[h.ends];simp
 ·intro i q a
  show ends[i]?=_;rw[h.ends,List.take_length,List.getElem?_map,a];rfl
 ·intro i q a
  have d:i<tt.length:=by have:=(List.getElem?_eq_some_iff.1 a).1;have:=h.lenT;omega
  have⟨e,f⟩:=h.rows i q tt[i] a (by simp[d]);refine⟨tt[i],by simp[d],e,fun k c b=>f k c ?_ b⟩;have:=(List.getElem?_eq_some_iff.1 b).1;omega
end Ls
namespace Go.Proofs.YtfklinjaajafgaaGreatDoor
open Ls
open Go.RowKit
def MV (w:World)(G:Nat->Prop)(v:Value)(qm:List (Pat × Value)):Prop:=
 ((v=.slice none 0 0/\qm=[])\/∃g cap,G g/\v=.slice (some ⟨g,0,none⟩) qm.length cap/\∀i (h:i<qm.length),w.cell? ⟨g,i*3,none⟩=some (.int .i64 qm[i].1.kind)/\w.cell? ⟨g,i*3+1,none⟩=some (.string ⟨qm[i].1.signs.toArray⟩)/\w.cell? ⟨g,i*3+2,none⟩=some qm[i].2)/\
 ∀q,q∈qm->PV w G q.1 q.2
theorem MV.mono {w w':World}{G G':Nat->Prop}(a:∀k,G k->G' k/\w'.heap[k]?=w.heap[k]?){v:Value}{c:List (Pat × Value)}(h:MV w G v c):MV w' G' v c:=by
 refine⟨?_,fun q j=>(h.2 q j).mono2 a⟩;rcases h.1 with h|⟨g,d,b,rfl,e⟩
 ·exact .inl h
 ·refine .inr ⟨g,d,(a g b).1,rfl,fun i f=>?_⟩
  simp only[Y3 (a g b).2];exact e i f
theorem MV.shape {w:World}{G:Nat->Prop}{v:Value}{a:List (Pat × Value)}(h:MV w G v a):∃b c,v=.slice b a.length c/\(0<a.length->∃g,b=some ⟨g,0,none⟩):=by
 rcases h.1 with⟨rfl,rfl⟩|⟨g,c,_,rfl,_⟩
 ·exact⟨_,_,rfl,by simp⟩
 ·exact⟨_,_,rfl,fun _=>⟨g,rfl⟩⟩
theorem MV.cells {w:World}{G:Nat->Prop}{g n b:Nat}{a:List (Pat × Value)}(h:MV w G (Sl g n b) a)(i:Nat)(d:i<a.length) :
  w.cell? ⟨g,i*3,none⟩=some (Iv a[i].1.kind)/\w.cell? ⟨g,i*3+1,none⟩=some (.string ⟨a[i].1.signs.toArray⟩)/\w.cell? ⟨g,i*3+2,none⟩=some a[i].2:=by
 rcases h.1 with⟨e,_⟩|⟨j,f,_,e,c⟩
 ·cases e
 ·cases e;exact c i d
theorem rQq {W a:World}{B:Nat}{b:List Value}(o:Dis B W b){p:Pat}{c:UInt8}{e:Ending}(h:fQ2 p c W (P9 W b) e a):∃v f,e=.returned v/\f.map (·.1)=Ls.behind p c/\MV a (P9 a b) v f/\Bw W a:=by
 have⟨v,f,x,z,d,n⟩:=h;have t:∀k,W.heap.size<=k->k<a.heap.size->P9 a b k:=fun k l j=>⟨j,fun u C e=>by have:=(o.lt u C k e).2;omega⟩;have m:=(o.below n).2;have E:∀k,GG (P9 W b) (Hz W) a v k->P9 a b k/\a.heap[k]?=a.heap[k]?:=fun k s=>by
  refine⟨?_,rfl⟩;rcases s.1 with h|h
  ·exact(m k h).1
  ·exact t k h s.2.1
 refine⟨v,f,x,z,⟨?_,fun q A=>(d.each q A).mono2 E⟩,n⟩;rcases O0 d.own with⟨l,j⟩|⟨g,w,rfl⟩
 ·exact .inl ⟨l,List.eq_nil_of_length_eq_zero j⟩
 ·have r:=d.own.lt g rfl
  exact .inr ⟨g,w,t g r.1 r.2,rfl,fun i y=>Y4 i d.own rfl y⟩
abbrev aQj (ex:List Value)(vS vK vE vT:Value)(tb:Nat):List Value:=ex++[vS,vK,vE,vT,J0 tb]
def OW (w0 w:World)(vs:List Value)(ov:Value)(ll:List (List Nat)):Prop:=
 ∃xs:List Value,w.ownsRow w0.heap.size 75 1 ov xs.length xs/\xs.length=ll.length/\∀(i:Nat) (x:Value) (l:List Nat),xs[i]?=some x->ll[i]?=some l->IV w (Z7 w0.heap.size w vs) x l
theorem OW.moved {f w b:World}{d e:List Value}{a:Value}{c:List (List Nat)}(h:OW f w d a c)(m:Moved w b d e)(o:∀k,a.ownBlock=some k->b.heap[k]?=w.heap[k]?):OW f b e a c:=by
 have⟨r,g,j,n⟩:=h;exact⟨r,I3 g o,j,fun i x l q p=>(n i x l q p).mono2 (m.fixB _)⟩
structure TK (w0 w:World)(tb:Nat)(vS vK vE vT ov:Value)(qs:List (Pat × Value))(ends:List Bool)(tt:List (List (List Nat)))(ll:List (List Nat)):Prop where
 ts:TS w0 w tb vS vK vE vT vT vE [ov] qs (qs.map fun q=>Ls.key q.1) ends tt
 ow:OW w0 w (aQj [ov] vS vK vE vT tb) ov ll
structure TJ (w0 w:World)(tb:Nat)(vS vK vE vT ov lv vm:Value)(qs:List (Pat × Value))(ks:List (Lu))(ends:List Bool)(tt:List (List (List Nat)))(ll:List (List Nat))(ns:List Nat)(qm:List (Pat × Value)):Prop where
 ts:TS w0 w tb vS vK vE vT vT vE [lv,ov] qs ks ends tt
 ow:OW w0 w (aQj [lv,ov] vS vK vE vT tb) ov ll
 lw:w.ownsRow w0.heap.size 3 1 lv ns.length (aQy ns)
 mv:MV w (P9 w (aQj [lv,ov] vS vK vE vT tb)) vm qm
section
variable {w0 w w':World} {tb:Nat} {vS vK vE vT ov lv vm:Value} {qs qm:List (Pat × Value)} {ks:List (Lu)} {ends:List Bool} {tt:List (List (List Nat))} {ll:List (List Nat)} {ns:List Nat}
theorem TK.below (h:TK w0 w tb vS vK vE vT ov qs ends tt ll)(a:Bw w w'):TK w0 w' tb vS vK vE vT ov qs ends tt ll:=
 ⟨h.ts.below a,h.ow.moved (h.ts.dis.below a).2 (fun k e=>a.block k (h.ts.dis.lt ov (by simp) k e).2)⟩
theorem TJ.below (h:TJ w0 w tb vS vK vE vT ov lv vm qs ks ends tt ll ns qm)(a:Bw w w'):TJ w0 w' tb vS vK vE vT ov lv vm qs ks ends tt ll ns qm:=
 ⟨h.ts.below a,h.ow.moved (h.ts.dis.below a).2 (fun k e=>a.block k (h.ts.dis.lt ov (by simp) k e).2),I3 h.lw (fun k e=>a.block k (h.ts.dis.lt lv (by simp) k e).2),h.mv.mono (h.ts.dis.below a).2⟩
theorem TK.open' (h:TK w0 w tb vS vK vE vT ov qs ends tt ll)(a:MV w (P9 w (aQj [ov] vS vK vE vT tb)) vm qm):TJ w0 w tb vS vK vE vT ov (.slice none 0 0) vm qs (qs.map fun q=>Ls.key q.1) ends tt ll [] qm:=
 ⟨h.ts.push,h.ow.moved h.ts.dis.push.2 (fun _ _=>rfl),World.ownsRow_nil _ _ _ _,a.mono h.ts.dis.push.2⟩
theorem TJ.state (h:TJ w0 w tb vS vK vE vT ov lv vm qs ks ends tt ll ns qm){a:Value}{p:Pat}{y:Value}(b:PV w (P9 w (aQj [lv,ov] vS vK vE vT tb)) p y)
  (ha:Appd w w' w0.heap.size 27 3 vS a (qs.length+1) (N9 qs++C2 p y)):TJ w0 w' tb a vK vE vT ov lv vm (qs++[(p,y)]) ks ends tt ll ns qm:=by
 have⟨_,m,o⟩:=h.ts.dis.set (at0 [lv,ov] vS vK vE vT (J0 tb)) ha.grown ha.place (fun k e=>ha.own.lt k e);exact⟨h.ts.state b ha,h.ow.moved m (o 1 ov (by simp) rfl),I3 h.lw (o 0 lv (by simp) rfl),h.mv.mono m⟩
theorem TJ.key (h:TJ w0 w tb vS vK vE vT ov lv vm qs ks ends tt ll ns qm){a:Value}{d:List (Lu)}(hs:SV w' w0.heap.size a d)(b:w.grownBy w' vK.ownBlock)(c:a.ownBlock=vK.ownBlock\/∃k,a.ownBlock=some k/\w.heap.size<=k) :
  TJ w0 w' tb vS a vE vT ov lv vm qs d ends tt ll ns qm:=by
 have⟨_,m,o⟩:=h.ts.dis.set (j5 [lv,ov] vS vK vE vT (J0 tb)) b c (fun k e=>hs.own.lt k e);exact⟨h.ts.key hs b c,h.ow.moved m (o 1 ov (by simp) rfl),I3 h.lw (o 0 lv (by simp) rfl),h.mv.mono m⟩
theorem TJ.number (h:TJ w0 w tb vS vK vE vT ov lv vm qs ks ends tt ll ns qm){a:Value}{n:Nat}(ha:Appd w w' w0.heap.size 3 1 lv a (ns.length+1) (aQy ns++[Iv n])) :
  TJ w0 w' tb vS vK vE vT ov a vm qs ks ends tt ll (ns++[n]) qm:=by
 have⟨_,m,o⟩:=h.ts.dis.set (i:=0) (v:=lv) rfl ha.grown ha.place (fun k e=>ha.own.lt k e);exact⟨(h.ts.grow ha.grown ha.place (fun k e=>ha.own.lt k e)).1,h.ow.moved m (o 1 ov (by simp) rfl),by rw[show aQy (ns++[n])=aQy ns++[Iv n] by simp,List.length_append];exact ha.own,h.mv.mono m⟩
theorem TJ.close (h:TJ w0 w tb vS vK vE vT ov lv vm qs (qs.map fun q=>Ls.key q.1) ends tt ll ns qm):TK w0 w tb vS vK vE vT ov qs ends tt ll/\IV w (Z7 w0.heap.size w (aQj [ov] vS vK vE vT tb)) lv ns:=by
 have⟨t,m,f⟩:=h.ts.pop;refine⟨⟨t,h.ow.moved m (fun _ _=>rfl)⟩,VV.ints (VV.of_own (e:=3) (base:=Hz w0) (by have:=h.lw;rw[show ns.length=(aQy ns).length by simp]at this;exact this) f)⟩
theorem TK.more (h:TK w0 w tb vS vK vE vT ov qs ends tt ll){f x:Value}{l:List Nat}(o:IV w (Z7 w0.heap.size w (aQj [ov] vS vK vE vT tb)) x l)
  (ha:∀a:List Value,w.ownsRow w0.heap.size 75 1 ov a.length a->a.length=ll.length->Appd w w' w0.heap.size 75 1 ov f (a.length+1) (a++[x])) :
  TK w0 w' tb vS vK vE vT f qs ends tt (ll++[l]):=by
 have⟨a,q,d,r⟩:=h.ow;have ha:=ha a q d;have⟨_,m,_⟩:=h.ts.dis.set (i:=0) (v:=ov) rfl ha.grown ha.place (fun k e=>ha.own.lt k e);refine⟨(h.ts.grow ha.grown ha.place (fun k e=>ha.own.lt k e)).1,⟨a++[x],by rw[List.length_append];exact ha.own,by simp[d],?_⟩⟩;intro i y p c b
 by_cases g:i<a.length
 ·rw[List.getElem?_append_left g]at c
  rw[List.getElem?_append_left (by omega)]at b;exact(r i y p c b).mono2 (m.fixB _)
 ·have j:=(List.getElem?_eq_some_iff.1 c).1
  have n:i=a.length:=by simp at j;omega
  subst n;rw[d]at b;simp at c b;subst c b;exact o.mono2 (m.fixB _)
theorem TK.close (h:TK w0 w tb vS vK vE vT ov qs ends tt ll):TS w0 w tb vS vK vE vT vT vE [] qs (qs.map fun q=>Ls.key q.1) ends tt/\II w (Z7 w0.heap.size w (aQj [] vS vK vE vT tb)) ov ll:=by
 have⟨t,m,f⟩:=h.ts.pop;have⟨g,c,d,e⟩:=h.ow;exact⟨t,⟨g,VV.of_own c f,d,fun i x l b a=>(e i x l b a).mono2 (m.fixB _)⟩⟩
theorem TK.start (h:TS w0 w tb vS vK vE vT vT vE [] qs (qs.map fun q=>Ls.key q.1) ends tt):TK w0 w tb vS vK vE vT (.slice none 0 0) qs ends tt []:=
 ⟨h.push,⟨[],World.ownsRow_nil _ _ _ _,rfl,by simp⟩⟩
end
end Go.Proofs.YtfklinjaajafgaaGreatDoor
namespace Ls
variable {L:Lu}{i k:Nat}{p:Pat}{sts:List Pat}{t:Tab}
theorem lX1 (p:Pat)(d:wf p)(c:UInt8):KD (behind p c):=by
 refine ind (P:=fun p=>KD (behind p c)) ?_ ?_ ?_ ?_ ?_ p d
 ·rw[behind_none];exact jX6
 ·intro s _;rw[behind_set];split
  ·simp[KD]
  ·exact jX6
 ·intro a b _ _ _ _ _ _
  rw[behind_rowB];split
  ·exact gX6 (gX6 jX6 _) _
  ·exact gX6 jX6 _
 ·intro a b _ _ ha _;rw[behind_any];exact gX6 ha _
 ·intro a _ _;rw[behind_star];exact gX6 jX6 _
def Tab.row (t:Tab)(i k:Nat):List Nat:=match t.to[i]? with
 | .none=>[]
 | some r=>match r[k]? with
  | .none=>[]
  | some l=>l
theorem Tab.mem_row (t:Tab)(i k j:Nat):j∈t.row i k↔t.go i k j:=by
 unfold Tab.row Tab.go;cases b:t.to[i]? with
 | none=>simp
 | some r=>
  cases a:r[k]? with
  | none=>simp[a]
  | some l=>simp[a]
theorem TabOf.row_lt (h:TabOf p L t sts)(c:i<sts.length)(d:k<L.length):∀j,j∈t.row i k->j<sts.length:=by
 intro j a;rw[Tab.mem_row]at a;have⟨e,b,_⟩:=h.fwd (List.getElem?_eq_getElem c) d a;exact(List.getElem?_eq_some_iff.1 b).1
theorem TabOf.row_length (h:TabOf p L t sts){R:List Pat}(b:Room R)(hs:∀x,x∈sts->x∈R)(c:i<sts.length)(n:k<L.length):(t.row i k).length<=R.length:=by
 have⟨r,e,_,f⟩:=h.row i sts[i] (List.getElem?_eq_getElem c);have⟨l,g,j⟩:=f k L[k] (List.getElem?_eq_getElem n);have m:t.row i k=l:=by unfold Tab.row;rw[e];dsimp only;rw[g]
 have d:=hs _ (List.getElem_mem c);have a:=congrArg List.length j;simp only[List.length_map]at a;rw[m,a];exact iXq (lX1 _ (b.ok _ d).1 _) (fun x o=>b.closed _ d _ x o)
end Ls
namespace Go.Proofs.YtfklinjaajafgaaGreatDoor
open Ls
variable {A I:Pr->Prop}{E:Pr->Pr->Prop}{N i:Nat}{ps:List Pr}(l:List Pr)(x:Pr)(m:List Pr)(y:Pr)
theorem qQi:y∈M2 l x↔y∈l\/y=x:=by
 unfold M2;split
 ·rename_i h
  constructor
  ·exact .inl
  ·rintro (a|rfl)
   ·exact a
   ·exact h
 ·simp
theorem cQm:y∈E3 l m↔y∈l\/y∈m:=by
 induction m generalizing l with
 | nil=>simp[E3]
 | cons x m a=>
  show y∈E3 (M2 l x) m↔_;rw[a,qQi];simp only[List.mem_cons];constructor
  ·rintro ((h|h)|h)
   ·exact .inl h
   ·exact .inr (.inl h)
   ·exact .inr (.inr h)
  ·rintro (h|h|h)
   ·exact .inl (.inl h)
   ·exact .inl (.inr h)
   ·exact .inr h
theorem qQk {l:List Pr}(h:l.Nodup):(M2 l x).Nodup:=by
 unfold M2;split
 ·exact h
 ·rename_i d
  rw[List.nodup_append];refine⟨h,by simp,?_⟩;intro a ha b c;simp only[List.mem_singleton]at c;subst c;rintro rfl;exact d ha
theorem iQ0 {l:List Pr}(h:l.Nodup):(E3 l m).Nodup:=by
 induction m generalizing l with
 | nil=>exact h
 | cons x m a=>exact a (qQk x h)
theorem qQl:l <+: M2 l x:=by
 unfold M2;split
 ·exact List.prefix_refl _
 ·exact List.prefix_append _ _
theorem qQf:l <+: E3 l m:=by
 induction m generalizing l with
 | nil=>exact List.prefix_refl _
 | cons x m a=>exact(qQl l x).trans (a _)
def gQl (N:Nat):List Pr:=[0,1,2].flatMap fun ph=>(List.range N).flatMap fun x=>(List.range N).map fun y=>(ph,x,y)
theorem kQe {α:Type}(l:List α)(f:α->List Pr)(n:Nat)(h:∀a,(f a).length=n):(l.flatMap f).length=l.length*n:=by
 induction l with
 | nil=>simp
 | cons x l b=>rw[List.flatMap_cons,List.length_append,b,h];simp[Nat.add_mul];omega
theorem qQ1 (N:Nat):(gQl N).length=3*(N*N):=by
 unfold gQl;rw[kQe _ _ (N*N) (fun a=>by rw[kQe _ _ N (fun x=>by simp)];simp)];rfl
theorem kQq {l:List Pr}(h:l.Nodup)(e:∀a,a∈l->(a.1=0\/a.1=1\/a.1=2)/\a.2.1<N/\a.2.2<N):l.length<=3*(N*N):=by
 rw[<-qQ1];refine jXh _ _ h (fun a ha=>?_);have⟨b,c,d⟩:=e a ha;have⟨p,x,y⟩:=a;unfold gQl;simp only[List.mem_flatMap,List.mem_map,List.mem_range];refine⟨p,?_,x,c,y,d,rfl⟩;simp only at b;rcases b with rfl|rfl|rfl<;>simp
structure BF (E:Pr->Pr->Prop)(A I:Pr->Prop)(ps:List Pr)(i:Nat):Prop where
 le:i<=ps.length
 first:(0,0,0)∈ps
 sound:nXr E A ps
 nodup:ps.Nodup
 inR:∀a,a∈ps->I a
 closed:∀j (h:j<ps.length),j<i->∀b,E ps[j] b->b∈ps
 none:∀j (h:j<ps.length),j<i->¬A ps[j]
theorem BF.start (E:Pr->Pr->Prop)(A:Pr->Prop)(b:I (0,0,0)):BF E A I [(0,0,0)] 0:=by
 refine⟨by simp,by simp,?_,by simp,?_,fun j _ h=>by omega,fun j _ h=>by omega⟩
 ·intro a ha h
  simp only[List.mem_singleton]at ha;subst ha;exact h
 ·intro a ha
  simp only[List.mem_singleton]at ha;subst ha;exact b
theorem BF.length (h:BF E A I ps i)(b:∀a,I a->(a.1=0\/a.1=1\/a.1=2)/\a.2.1<N/\a.2.2<N):ps.length<=3*(N*N):=kQq h.nodup (fun a ha=>b a (h.inR a ha))
theorem BF.part (h:BF E A I ps i)(f:i<ps.length){m:List Pr}(d:∀b,b∈m->E ps[i] b)(e:∀b,E ps[i] b->I b)(c:∀a,I a->(a.1=0\/a.1=1\/a.1=2)/\a.2.1<N/\a.2.2<N):(E3 ps m).length<=3*(N*N):=by
 refine kQq (iQ0 m h.nodup) (fun a ha=>c a ?_);rw[cQm]at ha;rcases ha with ha|ha
 ·exact h.inR a ha
 ·exact e a (d a ha)
theorem aXg {a:List Pr}(h:ps <+: a){j:Nat}(b:j<ps.length):∃c:j<a.length,a[j]=ps[j]:=by
 obtain⟨t,rfl⟩:=h;exact⟨by simp;omega,by rw[List.getElem_append_left b]⟩
theorem BF.next (h:BF E A I ps i)(s:i<ps.length){m:List Pr}(l:∀b,b∈m↔E ps[i] b)(u:∀b,E ps[i] b->I b)(r:¬A ps[i]):BF E A I (E3 ps m) (i+1):=by
 have p:=qQf ps m;have v:=p.length_le;have key:∀j (_:j<(E3 ps m).length),j<i+1->∃c:j<ps.length,(E3 ps m)[j]=ps[j]:=fun j f g=>by
  have c:j<ps.length:=by omega
  have⟨d,q⟩:=aXg p c;exact⟨c,q⟩
 refine⟨by omega,?_,?_,iQ0 m h.nodup,?_,?_,?_⟩
 ·rw[cQm];exact .inl h.first
 ·intro a ha o
  rw[cQm]at ha;rcases ha with ha|ha
  ·exact h.sound a ha o
  ·have⟨n,t⟩:=o
   exact h.sound ps[i] (List.getElem_mem s) ⟨n+1,a,(l a).1 ha,t⟩
 ·intro a ha
  rw[cQm]at ha;rcases ha with ha|ha
  ·exact h.inR a ha
  ·exact u a ((l a).1 ha)
 ·intro j f g b k
  have⟨c,e⟩:=key j f g;rw[e]at k;rw[cQm];rcases Nat.lt_or_ge j i with d|d
  ·exact .inl (h.closed j c d b k)
  ·have:j=i:=by omega
   subst this;exact .inr ((l b).2 k)
 ·intro j f g
  have⟨c,e⟩:=key j f g;rw[e];rcases Nat.lt_or_ge j i with d|d
  ·exact h.none j c d
  ·have:j=i:=by omega
   subst this;exact r
theorem BF.done (h:BF E A I ps ps.length):¬∃n,Hit E A n (0,0,0):=by
 rintro ⟨n,e⟩;refine mXs (l:=ps) ?_ ?_ n (0,0,0) h.first e
 ·intro a ha b d
  obtain⟨j,c,rfl⟩:=List.getElem_of_mem ha;exact h.closed j c c b d
 ·intro a ha
  obtain⟨j,c,rfl⟩:=List.getElem_of_mem ha;exact h.none j c c
theorem BF.found (h:BF E A I ps i)(b:i<ps.length)(a:A ps[i]):∃n,Hit E A n (0,0,0):=h.sound ps[i] (List.getElem_mem b) ⟨0,a⟩
end Go.Proofs.YtfklinjaajafgaaGreatDoor
