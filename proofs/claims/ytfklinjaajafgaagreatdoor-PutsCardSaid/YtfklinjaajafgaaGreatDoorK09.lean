import Derived.Test.YtfklinjaajafgaaGreatDoorK06
import Derived.Deep.DeepCutAuto
import Derived.Deep.CutBlock
import Derived.Laws.EntriesVeiled
set_option maxRecDepth 100000
set_option maxHeartbeats 4000000
namespace Go.Proofs.YtfklinjaajafgaaGreatDoor
open Ls
open Go.RowKit
theorem cXp {P:Lu->Rd}{r:Lu}{s:By}{d:Ls.D}{j:Nat}(h:P r=some (d,rest s j))(a:A7 s j 47=true):fXj P r=some (d,rest s (j+1)):=by
 unfold fXj;rw[h];dsimp only
 rw[if_pos (C4.2 a),E7]
theorem cXn {P:Lu->Rd}{r:Lu}{s:By}{d:Ls.D}{j:Nat}(h:P r=some (d,rest s j))(a:A7 s j 47=false):fXj P r=.none:=by
 unfold fXj;rw[h];dsimp only
 rw[if_neg (by rw[C4,a];simp)]
theorem cXo {P:Lu->Rd}{r:Lu}(h:P r=.none):fXj P r=.none:=by
 unfold fXj;rw[h]
theorem mQk (s:By)(hs:s.size<=1048576)(k:Addr)(z:Nat)(I:z<=12)(a i:Nat)(w:World)(h:RB w a s i z)(u:Env w a k)(F:i<=s.size) :
  Calls Tryz.prog 166 #[D3 a] w (RPost w a s i z k (fXj (pat (13-z)) (rest s i))):=by
 have g:Hid _:=In.enter 167 h;have H:=h.lt;have t:=aX2 s hs k z I a i _ g.out.lies (g.out.env u) F;go_enter Tryz.func166,Tryz.ntmps166;go_wp2_with fail;refine t.mono ?_;rintro e m (⟨d,j,v,l,K,L,rfl,p,G⟩|⟨l,rfl,o⟩)
 ·have c:=g.out.go G
  have J:=c.cell;obtain⟨A,x,rfl⟩:=p.iface;have r:Hid _:=l;have E:Hid _:=p;have C:Hid (w.heap.size<=(w.alloc (H0 167 a)).heap.size):=by show _<=_;simp
  cases b:A7 s j 47 with
  | true=>
   have f:Hid _:=cXp r.out b;have M:=(D9 b).1;have n:=eQr a s j z 47 m c.lies hs b;go_wp2_with fail;refine n.mono ?_;rintro e q ⟨rfl,y⟩;have B:Hid _:=E.out.grown H C.out y.grown;go_wp2;go_ret;exact .inl ⟨d,j+1,_,f.out,by omega,by omega,rfl,B.out,(c.go y).left⟩
  | false=>
   have f:Hid _:=cXn r.out b;have n:=eQq a s j z 47 k m c.lies (c.env u) hs (by omega) b;clear b;go_wp2_with fail;refine n.mono ?_;rintro e q ⟨rfl,o⟩;go_wp2_with fail;exact⟨rfl,.inr ⟨f.out,rfl,c.threw rfl o⟩⟩
 ·have f:Hid (fXj (pat (13-z)) (rest s i)=.none):=cXo l
  go_wp2_with fail;exact⟨rfl,.inr ⟨f.out,rfl,g.out.threw rfl o⟩⟩
def R8 (c:UInt8):Bool:=gXu c&&c != 10
theorem eXu (s:By)(hs:s.size<=1048576)(z b i:Nat)(w:World)(h:RB w b s i z)(j:i<s.size)(a:R8 (nx s i)=true) :
  Calls Tryz.prog 202 #[D3 b] w fun e m=>e=.returned (.int .u8 (nx s i).toNat)/\RLeft w b s (i+1) z m:=by
 have d:Hid _:=In.enter 167 h;have l:=O2 b s i z _ d.out.lies hs j;have f:gXu (nx s i)=true:=by unfold R8 at a;simp at a;exact a.1
 have n:(((nx s i).toNat:Int)==10)=false:=by
  rw[beq_eq_false_iff_ne];intro e;unfold R8 at a;simp at a;exact a.2 (UInt8.toNat_inj.1 (by simpa using (by omega:(nx s i).toNat=10)))
 have c:=fun W=>eQw (nx s i) W;rw[f]at c;have g:Hid _:=c;go_enter Tryz.func202,Tryz.ntmps202;go_wp2_with fail;refine l.mono ?_;rintro e o ⟨rfl,k⟩;go_wp2_with fail;refine(g.out _).mono ?_;rintro e p ⟨rfl,rfl⟩;go_wp2;go_ret;exact⟨rfl,(d.out.go k).left⟩
theorem eXt (s:By)(hs:s.size<=1048576)(d:Addr)(z a i:Nat)(w:World)(h:RB w a s i z)(m:Env w a d)(y:i<=s.size)(o:i<s.size->R8 (nx s i)=false) :
  Calls Tryz.prog 202 #[D3 a] w (K6 w a d):=by
 have c:Hid _:=In.enter 167 h;rcases Nat.lt_or_ge i s.size with j|j
 ·have g:=o j
  have k:=O2 a s i z _ c.out.lies hs j
  by_cases f:nx s i=10
  ·have u:(((nx s i).toNat:Int)==10)=true:=by rw[f];rfl
   go_enter Tryz.func202,Tryz.ntmps202;go_wp2_with fail;refine k.mono ?_;rintro e q ⟨rfl,n⟩;have b:=c.out.go n;have t:=b.cell;go_wp2_with fail;refine(V7 _ d _ (b.env m).sc).mono ?_;rintro e x ⟨rfl,rfl⟩;go_wp2;exact⟨rfl,rfl,b.left.grown⟩
  ·have p:gXu (nx s i)=false:=by unfold R8 at g;simp[f]at g;exact g
   have u:(((nx s i).toNat:Int)==10)=false:=by
    rw[beq_eq_false_iff_ne];intro e;exact f (UInt8.toNat_inj.1 (by simpa using (by omega:(nx s i).toNat=10)))
   have l:=fun W=>eQw (nx s i) W;rw[p]at l;have r:Hid _:=l;go_enter Tryz.func202,Tryz.ntmps202;go_wp2_with fail;refine k.mono ?_;rintro e q ⟨rfl,n⟩;have b:=c.out.go n;have t:=b.cell;go_wp2_with fail;refine(r.out _).mono ?_;rintro e A ⟨rfl,rfl⟩;go_wp2_with fail;refine(V7 _ d _ (b.env m).sc).mono ?_;rintro e x ⟨rfl,rfl⟩;go_wp2_with fail;exact⟨rfl,rfl,b.left.grown⟩
 ·have k:=dQi a s i z d _ c.out.lies (c.out.env m) hs j (by omega)
  clear o;go_enter Tryz.func202,Tryz.ntmps202;go_wp2_with fail;refine k.mono ?_;rintro e q ⟨rfl,v⟩;go_wp2_with fail;exact⟨rfl,rfl,c.out.threw rfl v⟩
def S6 (ws r:Lu):Option (Lu × Lu):=
 match fX4 r with
 | .none=>.none
 | some (u,t)=>some (ws++u,t)
theorem eXx (r:Lu):S6 [] r=fX4 r:=by
 unfold S6;cases fX4 r with
 | none=>rfl
 | some q=>rfl
theorem eXw {a:Lu}{s:By}{k:Nat}(h:A7 s k 34=true):S6 a (rest s k)=some (a,rest s (k+1)):=by
 unfold S6;rw[mQ5 h,fX4,if_pos rfl];simp
theorem eXy {c:Lu}{s:By}{k:Nat}(b:k<s.size)(h:A7 s k 34=false)(a:R8 (nx s k)=true):S6 c (rest s k)=S6 (c++[nx s k]) (rest s (k+1)):=by
 unfold S6;have d:nx s k≠34:=by intro e;simp[A7,b,e]at h
 unfold R8 at a;simp at a;rw[D4 b,fX4,if_neg d,if_neg (by rw[a.1];simp[a.2])];cases fX4 (rest s (k+1)) with
 | none=>rfl
 | some q=>simp
theorem eXv {f:Lu}{s:By}{k:Nat}(h:A7 s k 34=false)(d:k<s.size->R8 (nx s k)=false):S6 f (rest s k)=.none:=by
 unfold S6;rcases Nat.lt_or_ge k s.size with a|a
 ·have c:nx s k≠34:=by intro e;simp[A7,a,e]at h
  have b:=d a;rw[D4 a,fX4,if_neg c,if_pos ?_];unfold R8 at b;cases hs:gXu (nx s k) with
  | false=>exact .inl rfl
  | true=>simp[hs]at b;exact .inr b
 ·rw[P4 a];rfl
def qQc (w:World)(rb:Nat)(s:By)(i z:Nat)(a1:Addr):Ending->World->Prop:=fun e w'=>
 (∃ws j,fX1 (rest s i)=some (ws,rest s j)/\i+ws.length<j/\j<=s.size/\e=.returned (.string ⟨ws.toArray⟩)/\RLeft w rb s j z w')\/
 (fX1 (rest s i)=.none/\K6 w rb a1 e w')
abbrev aQu (ws:Lu):List Value:=ws.map fun c=>Value.int .u8 c.toNat
theorem infoByte:(Tryz.prog.info? 5).map (fun i=>(i.zero,i.size,i.bytes))=some (some (.int .u8 0),1,1):=by kernel_rfl
theorem xQ1 (w:World):(convert 105 9 (.slice none 0 0)).run Tryz.prog w=.ok (.string ⟨#[]⟩) w:=by
 rw[run_convert_bytes_string w 105 9 5 none 0 0 Tryz.underlying105 Tryz.underlying5 Tryz.underlying9];simp[Conv.bytesToString];rfl
theorem jQg {w:World}{b:Nat}{v:Value}{a:Lu}(h:w.ownsRow b 5 1 v a.length (aQu a)):(convert 105 9 v).run Tryz.prog w=.ok (Sv a) w:=by
 rcases h.2 with⟨rfl,d⟩|⟨g,c,f,rfl,_⟩
 ·obtain rfl:a=[]:=List.eq_nil_of_length_eq_zero d
  exact xQ1 w
 ·refine run_convert_bytes_back w 105 9 5 ⟨g,0,none⟩ c a Tryz.underlying105 Tryz.underlying5 Tryz.underlying9 (fun j e=>?_)
  have:=h.cellAt j (by omega);rw[show ((⟨g,0,none⟩:Addr).add j)=⟨g,j,none⟩ from by unfold Addr.add;split<;>simp_all];rw[this];simp[e]
theorem Z3 {w:World}{b:Nat}{e:TypeId}{d:Nat}{v:Value}{n:Nat}{f:List Value}(h:w.ownsRow b e d v n f):∃a k c,v=.slice a k c:=by
 rcases h.2 with⟨e,_⟩|⟨_,_,_,e,_⟩<;>exact⟨_,_,_,e⟩
theorem mQv (s:By)(hs:s.size<=1048576)(u:Addr)(z a i:Nat)(w:World)(h:RB w a s i z)(E:Env w a u)(hi:i<=s.size) :
  Calls Tryz.prog 176 #[D3 a] w (qQc w a s i z u):=by
 have t:Hid _:=In.enter 167 h;have a8:(w.alloc (H0 167 a)).heap.size=w.heap.size+1:=by simp
 have V:Hid _:=E;cases c:A7 s i 34 with
 | false=>
  have o:Hid (fX1 (rest s i)=.none):=by
   show _=_;unfold fX1;rw[if_neg (by rw[C4,c];simp)]
  have v:=eQq a s i z 34 u _ t.out.lies (t.out.env E) hs (by omega) c;go_enter Tryz.func176,Tryz.ntmps176;go_wp2_with fail;refine v.mono ?_;rintro e w1 ⟨rfl,r⟩;go_wp2;exact⟨rfl,.inr ⟨o.out,rfl,t.out.threw rfl r⟩⟩
 | true=>
  have b4:=(D9 c).1;have J:Hid (fX1 (rest s i)=S6 [] (rest s (i+1))):=by
   show _=_;unfold fX1;rw[if_pos (C4.2 c),E7,eXx]
  have v:=eQr a s i z 34 _ t.out.lies hs c;go_enter Tryz.func176,Tryz.ntmps176;go_wp2_with fail;refine v.mono ?_;rintro e w1 ⟨rfl,O⟩;have Z:=t.out.go O;have a9:=O.grown.size;go_wp2;generalize w.alloc (H0 167 a)=q at *;go_loopw [3] (fun b2 wr=>∃(k:Nat) (b:Lu),i+1+b.length=k/\k<=s.size/\fX1 (rest s i)=S6 b (rest s k)/\In 167 w a s k z wr/\q.heap.size<=wr.heap.size/\wr.ownsRow q.heap.size 5 1 b2 b.length (aQu b)) (fun _ wr=>s.size+1-U8 wr a)
  case atStart=>exact⟨i+1,[],rfl,by omega,J.out,Z,a9,World.ownsRow_nil _ _ _ _⟩
  case round=>
   obtain⟨k,b,hk,a2,T,g,b7,y⟩:=hrel;have C:Hid (fX1 (rest s i)=S6 b (rest s k)):=T;have a4:U8 wr a=k:=aQs g.lies;have K:=g.cell;obtain⟨j,l,n,rfl⟩:=Z3 y;have I:Hid (wr.ownsRow q.heap.size 5 1 (.slice j l n) b.length (aQu b)):=y;have S:∀m,(Value.slice j l n).ownBlock=some m->q.heap.size<=m/\m<wr.heap.size:=fun m hm=>y.lt m hm;have P:(Value.slice j l n).ownBlock=none\/(Value.slice j l n).ownBlock≠some a:=by
    cases hv:(Value.slice j l n).ownBlock with
    | none=>exact .inl rfl
    | some m=>
     have:=S m hv;have:=g.old;exact .inr (by simp;omega)
   have H:Hid ((Value.slice j l n).ownBlock=none\/(Value.slice j l n).ownBlock≠some a):=P;clear T J y S P;cases c:A7 s k 34 with
   | true=>
    have x:=Z5 a s k z 34 wr g.lies hs c;have N:=(D9 c).1;have o:Hid (fX1 (rest s i)=some (b,rest s (k+1))):=C.out.trans (eXw c);clear c;go_wp2_with fail;refine x.mono ?_;rintro e A ⟨rfl,f⟩;have b3:=jQg (I.out.kept f.grown H.out);go_wp2_with fail;go_ret;exact .inl ⟨b,k+1,o.out,by omega,by omega,rfl,(g.go f).left⟩
   | false=>
    have x:=X5 a s k z 34 wr g.lies hs (by omega) c
    by_cases p:k<s.size/\R8 (nx s k)=true
    ·have o:Hid (fX1 (rest s i)=S6 (b++[nx s k]) (rest s (k+1))):=C.out.trans (eXy p.1 c p.2)
     have N:=p.1;have Y:Hid (R8 (nx s k)=true):=p.2;clear c p;go_wp2_with fail;refine x.mono ?_;rintro e A ⟨rfl,f⟩;have d:=g.go f;have L:=d.cell;clear K;go_wp2_with fail;refine(eXu s hs z a k A d.lies N Y.out).mono ?_;rintro e B ⟨rfl,F⟩;have a0:=d.go F;have Q:=I.out.kept (f.trans F).grown H.out;have R:=Q.alloc (.cells #[.int .u8 (nx s k).toNat] 5);have a1:=bQa B (.int .u8 (nx s k).toNat) 5;obtain⟨b1,hq,a5,a6,a7⟩:=info_parts infoByte;have b6:=(f.trans F).grown.size;clear Q L;go_wp2_with (at_builtin;refine P8 _ rfl _ _ 105 rfl q.heap.size 5 b1 _ 1 1 Tryz.underlying105 hq a5 a6 a7 rfl (by omega) (.slice j l n) b.length (aQu b) rfl R ⟨B.heap.size,0,none⟩ 1 1 [.int .u8 (nx s k).toNat] rfl ?l1 a1 ?l0 ?l2 ?l3 ?l4 ?l5 ?_)
     case l1=>rfl
     case l0=>intro b8 U;simp at U;subst U;rfl
     case l2=>unfold maxLen;omega
     case l3=>omega
     case l4=>simp;omega
     case l5=>omega
     intro v' w' ho r b5;have M:=(a0.below (A5 B (.cells #[.int .u8 (nx s k).toNat] 5))).own r (fun m e=>by have:=(R.lt m e).1;omega);have b0:=r.size;simp at b0;have W:Hid (w'.ownsRow q.heap.size 5 1 v' (b++[nx s k]).length (aQu (b++[nx s k]))):=by
      show World.ownsRow _ _ _ _ _ _ _;rw[List.length_append,show aQu (b++[nx s k])=aQu b++[.int .u8 (nx s k).toNat] from by simp[aQu],a8];exact ho
     go_wp2_with fail;go_roundw
     case rel=>exact⟨k+1,b++[nx s k],by simp;omega,by omega,o.out,M,by omega,W.out⟩
     case measure=>
      rw[a4,aQs M.lies];omega
    ·have G:k<s.size->R8 (nx s k)=false:=fun a3=>by
      cases hh:R8 (nx s k) with
      | true=>exact absurd ⟨a3,hh⟩ p
      | false=>rfl
     have o:Hid (fX1 (rest s i)=.none):=C.out.trans (eXv c G);have X:Hid (k<s.size->R8 (nx s k)=false):=G;clear c p G;go_wp2_with fail;refine x.mono ?_;rintro e A ⟨rfl,f⟩;have d:=g.go f;have L:=d.cell;clear K;go_wp2_with fail;refine(eXt s hs u z a k A d.lies (d.env V.out) a2 X.out).mono ?_;rintro e B ⟨rfl,r⟩;go_wp2_with fail;exact⟨rfl,.inr ⟨o.out,rfl,d.threw rfl r⟩⟩
def S1 (k:Nat):Nat:=if k=3 then 132 else if k=4 then 170 else 122
def N7 (k:Nat):Nat:=if k=7 then 149 else 165
def Blk (w:World)(g:Nat)(cs:Array Value)(T:TypeId):Prop:=w.heap[g]?=some (.cells cs T (0,0))
theorem Blk.lt {w:World}{g:Nat}{a:Array Value}{T:TypeId}(h:Blk w g a T):g<w.heap.size:=(Array.getElem?_eq_some_iff.1 h).1
theorem Blk.below {w w':World}{g B:Nat}{a:Array Value}{T:TypeId}(h:Blk w g a T)(b:Below B w w')(c:g<B):Blk w' g a T:=by
 unfold Blk at h ⊢;rw[b.block g c];exact h
theorem Blk.of {w b:World}{g:Nat}{a:Array Value}{T:TypeId}(h:Blk w g a T)(c:b.heap[g]?=w.heap[g]?):Blk b g a T:=by
 unfold Blk at h ⊢;rw[c];exact h
theorem Blk.cell {w:World}{g:Nat}{a:Array Value}{T:TypeId}(h:Blk w g a T)(j:Nat):w.cell? ⟨g,j,none⟩=a[j]?:=by
 unfold Blk at h;simp[World.cell?,h]
theorem Blk.fr {w:World}{g:Nat}{a:Array Value}{T:TypeId}(h:Blk w g a T)(j:Nat):w.frozen? ⟨g,j,none⟩=false:=by
 unfold Blk at h;simp[World.frozen?,h]
theorem Blk.one {w:World}{g:Nat}{x:Value}{T:TypeId}(h:Blk w g #[x] T):Ce w g 0 x/\w.frozen? ⟨g,0,none⟩=false:=⟨h.cell 0,h.fr 0⟩
theorem Blk.two {w:World}{g:Nat}{x y:Value}{T:TypeId}(h:Blk w g #[x,y] T):Ce w g 0 x/\Ce w g 1 y/\w.frozen? ⟨g,0,none⟩=false/\w.frozen? ⟨g,1,none⟩=false:=⟨h.cell 0,h.cell 1,h.fr 0,h.fr 1⟩
theorem Blk.new (w:World)(a:Array Value)(T:TypeId):Blk (w.alloc (.cells a T)) w.heap.size a T:=heap_alloc_new _ _
def PlanV (w:World)(G:Nat->Prop):Ln->Value->Prop
 | ⟨k,d,ws,[]⟩,b=>
  (k=0/\∃g v,G g/\b=.func (.func 167) #[] #[.pointer (some ⟨g,0,none⟩)]/\Blk w g #[v] 89/\Rep w G 0 d [v])\/
  (k=1/\∃g h v,G g/\G h/\b=.func (.func 177) #[] #[.pointer (some ⟨g,0,none⟩),.pointer (some ⟨h,0,none⟩)]/\Blk w g #[v] 89/\Rep w G 0 d [v]/\Blk w h #[.string ⟨ws.toArray⟩] 9)\/
  (k=2/\∃g,G g/\b=.func (.func 179) #[] #[.pointer (some ⟨g,0,none⟩)]/\Blk w g #[.string ⟨ws.toArray⟩] 9)
 | ⟨k,_,_,[a]⟩,b=>(k=6\/k=7)/\∃(gj g n:Nat) (x:Value),G gj/\G g/\b=.func (.func 172) #[] #[.pointer (some ⟨gj,0,none⟩),.pointer (some ⟨g,0,none⟩)]/\Blk w gj #[.func (.func (N7 k)) #[] #[]] 215/\Blk w g #[.int .i64 n,x] 130/\PlanV w G a x
 | ⟨k,_,_,[a,c]⟩,b=>(k=3\/k=4\/k=5)/\∃(gj g h n m:Nat) (x y:Value),G gj/\G g/\G h/\b=.func (.func 133) #[] #[.pointer (some ⟨gj,0,none⟩),.pointer (some ⟨g,0,none⟩),.pointer (some ⟨h,0,none⟩)]/\
   Blk w gj #[.func (.func (S1 k)) #[] #[]] 192/\Blk w g #[.int .i64 n,x] 130/\Blk w h #[.int .i64 m,y] 130/\PlanV w G a x/\PlanV w G c y
 | _,_=>False
theorem PlanV.mono {w w':World}{G G':Nat->Prop}(f:∀k,G k->G' k)(i:∀k,G k->w'.heap[k]?=w.heap[k]?):(l:Ln)->(b:Value)->PlanV w G l b->PlanV w' G' l b
 | ⟨k,d,ws,[]⟩,b,h=>by
  rw[PlanV]at h ⊢;rcases h with⟨p,g,v,e,j,o,s⟩|⟨p,g,q,v,e,j,o,s,u,z⟩|⟨p,g,e,j,o⟩
  ·exact .inl ⟨p,g,v,f g e,j,o.of (i g e),s.mono f i⟩
  ·exact .inr (.inl ⟨p,g,q,v,f g e,f q j,o,s.of (i g e),u.mono f i,z.of (i q j)⟩)
  ·exact .inr (.inr ⟨p,g,f g e,j,o.of (i g e)⟩)
 | ⟨k,d,ws,[a]⟩,b,h=>by
  rw[PlanV]at h ⊢;obtain⟨p,r,g,n,x,t,e,j,u,o,s⟩:=h;exact⟨p,r,g,n,x,f r t,f g e,j,u.of (i r t),o.of (i g e),PlanV.mono f i a x s⟩
 | ⟨k,d,ws,[a,c]⟩,b,h=>by
  rw[PlanV]at h ⊢;obtain⟨p,r,g,q,n,m,x,y,t,e,j,o,s,u,z,A,B⟩:=h;exact⟨p,r,g,q,n,m,x,y,f r t,f g e,f q j,o,s.of (i r t),u.of (i g e),z.of (i q j),PlanV.mono f i a x A,PlanV.mono f i c y B⟩
 | ⟨k,d,ws,_::_::_::_⟩,b,h=>by simp[PlanV]at h
theorem PlanV.func {w:World}{G:Nat->Prop}:(l:Ln)->(b:Value)->PlanV w G l b->∃f q,b=.func (.func f) #[] q
 | ⟨k,d,ws,[]⟩,b,h=>by
  rw[PlanV]at h;rcases h with⟨o,g,v,j,e,i,p⟩|⟨o,g,r,v,j,e,i,p,u,z⟩|⟨o,g,j,e,i⟩
  ·exact⟨_,_,e⟩
  ·exact⟨_,_,i⟩
  ·exact⟨_,_,e⟩
 | ⟨k,d,ws,[a]⟩,b,h=>by
  rw[PlanV]at h;obtain⟨o,s,g,n,x,t,j,e,i,p⟩:=h;exact⟨_,_,e⟩
 | ⟨k,d,ws,[a,c]⟩,b,h=>by
  rw[PlanV]at h;obtain⟨o,s,g,r,n,m,x,y,t,j,e,i,p⟩:=h;exact⟨_,_,i⟩
 | ⟨k,d,ws,_::_::_::_⟩,b,h=>by simp[PlanV]at h
theorem PlanV.later {w a:World}{G:Nat->Prop}{l:Ln}{b:Value}(h:PlanV w G l b)(c:Old w G)(d:Bw w a):PlanV a G l b:=
 PlanV.mono (fun _ h=>h) (fun k e=>d.block k (c k e)) l b h
abbrev C5 (n:Nat)(b:Value):Value:=.agg #[.int .i64 n,b]
def cQk (w:World)(G:Nat->Prop)(n:Nat)(l:Ln):Ending->World->Prop:=fun e w'=>
 ∃f caps,e=.returned (C5 n (.func (.func f) #[] caps))/\PlanV w' (fun k=>G k\/(w.heap.size<=k/\k<w'.heap.size)) l (.func (.func f) #[] caps)/\Bw w w'
theorem L9 (w:World)(g:Nat)(x y:Value)(k:Nat)(h:k≠g):((w.setCell ⟨g,0,none⟩ x).setCell ⟨g,1,none⟩ y).heap[k]?=w.heap[k]?:=by
 rw[Below.heap_setCell _ _ _ _ (by show k≠g;exact h),Below.heap_setCell _ _ _ _ (by show k≠g;exact h)]
theorem X4 (w:World)(g:Nat)(x y:Value):((w.setCell ⟨g,0,none⟩ x).setCell ⟨g,1,none⟩ y).heap.size=w.heap.size:=by simp[World.setCell]
theorem aQd {w W:World}{g:Nat}(h:Bw w W)(a:w.heap.size<=g)(x y:Value):Bw w ((W.setCell ⟨g,0,none⟩ x).setCell ⟨g,1,none⟩ y):=
 (h.setCell (p:=⟨g,0,none⟩) a x).setCell (p:=⟨g,1,none⟩) a y
theorem lQ6 (k:Nat)(s:k=6\/k=7)(a:Ln)(n f:Nat)(b:Array Value)(y:n<=1048576)(w:World)(G:Nat->Prop)(l:Old w G)(h:PlanV w G a (.func (.func f) #[] b)) :
  Calls Tryz.prog 147 #[C5 n (.func (.func f) #[] b),.func (.func (N7 k)) #[] #[]] w (cQk w G (n+1) ⟨k,rnil,[],[a]⟩):=by
 have x:∀(i:Fn) (first g:Array Value) (w:World),(Instr.makeFunc i first g).run Tryz.prog w=.ok (.func i first g) w:=fun _ _ _ _=>rfl;have d:Bw w (((w.alloc (.cells #[Iv n,.func (.func f) #[] b] 130)).alloc (.cells #[.func (.func (N7 k)) #[] #[]] 215)).alloc (.cells #[Iv (0:Nat),.nilFunc] 130)):=Q0 w _ _ _;have e:Blk (((w.alloc (.cells #[Iv n,.func (.func f) #[] b] 130)).alloc (.cells #[.func (.func (N7 k)) #[] #[]] 215)).alloc (.cells #[Iv (0:Nat),.nilFunc] 130)) w.heap.size #[Iv n,.func (.func f) #[] b] 130:=((Blk.new w _ _).of (Below.heap_alloc _ _ _ (by simp))).of (Below.heap_alloc _ _ _ (by simp;omega));have m:Blk (((w.alloc (.cells #[Iv n,.func (.func f) #[] b] 130)).alloc (.cells #[.func (.func (N7 k)) #[] #[]] 215)).alloc (.cells #[Iv (0:Nat),.nilFunc] 130)) (w.heap.size+1) #[.func (.func (N7 k)) #[] #[]] 215:=by
  have:=Blk.new (w.alloc (.cells #[Iv n,.func (.func f) #[] b] 130)) #[.func (.func (N7 k)) #[] #[]] 215;rw[World.size_alloc]at this;exact this.of (Below.heap_alloc _ _ _ (by simp))
 have o:Blk (((w.alloc (.cells #[Iv n,.func (.func f) #[] b] 130)).alloc (.cells #[.func (.func (N7 k)) #[] #[]] 215)).alloc (.cells #[Iv (0:Nat),.nilFunc] 130)) (w.heap.size+1+1) #[Iv (0:Nat),.nilFunc] 130:=by
  have:=Blk.new ((w.alloc (.cells #[Iv n,.func (.func f) #[] b] 130)).alloc (.cells #[.func (.func (N7 k)) #[] #[]] 215)) #[Iv (0:Nat),.nilFunc] 130;rw[World.size_alloc,World.size_alloc]at this;exact this
 have p:(((w.alloc (.cells #[Iv n,.func (.func f) #[] b] 130)).alloc (.cells #[.func (.func (N7 k)) #[] #[]] 215)).alloc (.cells #[Iv (0:Nat),.nilFunc] 130)).heap.size=w.heap.size+1+1+1:=by simp
 have r:Hid _:=h;go_enter Tryz.func147,Tryz.ntmps147;go_upto_region 1 with (fail);generalize (((w.alloc (.cells #[Iv n,.func (.func f) #[] b] 130)).alloc (.cells #[.func (.func (N7 k)) #[] #[]] 215)).alloc (.cells #[Iv (0:Nat),.nilFunc] 130))=W at *;have q:Hid (cQk w G (n+1) ⟨k,rnil,[],[a]⟩ (.returned (C5 (n+1) (.func (.func 172) #[] #[.pointer (some ⟨(w.heap.size+1),0,none⟩),Pt w.heap.size])))
   ((W.setCell ⟨w.heap.size+1+1,0,none⟩ (Iv ((n+1:Nat):Int))).setCell ⟨w.heap.size+1+1,1,none⟩ (.func (.func 172) #[] #[.pointer (some ⟨(w.heap.size+1),0,none⟩),Pt w.heap.size]))):=by
  refine⟨_,_,rfl,?_,aQd d (by omega) _ _⟩;rw[PlanV];refine⟨s,w.heap.size+1,w.heap.size,n,.func (.func f) #[] b,.inr ⟨by omega,by rw[X4,p];omega⟩,.inr ⟨Nat.le_refl _,by rw[X4,p];omega⟩,rfl,m.of (L9 _ _ _ _ _ (by omega)),e.of (L9 _ _ _ _ _ (by omega)),PlanV.mono (fun j c=>.inl c) (fun j c=>?_) _ _ r.out⟩;rw[L9 _ _ _ _ _ (by have:=l j c;omega)];exact d.block j (l j c)
 obtain⟨t,u,z,s1⟩:=o.two;obtain⟨A,B,C,E⟩:=e.two;go_wp2;exact bodyPost_ret (v:=C5 (n+1) (.func (.func 172) #[] #[.pointer (some ⟨(w.heap.size+1),0,none⟩),Pt w.heap.size])) (by simp[results,Tryz.results147,go_sem,t,u]) rfl q.out
theorem kQz (k:Nat)(C:k=3\/k=4\/k=5)(a c:Ln)(n m f g:Nat)(b d:Array Value)(L:n<=1048576)(J:m<=1048576)(w:World)(G:Nat->Prop)(u:Old w G)(h:PlanV w G a (.func (.func f) #[] b))(t:PlanV w G c (.func (.func g) #[] d)) :
  Calls Tryz.prog 121 #[C5 n (.func (.func f) #[] b),C5 m (.func (.func g) #[] d),.func (.func (S1 k)) #[] #[]] w (cQk w G (n+m) ⟨k,rnil,[],[a,c]⟩):=by
 have K:∀(s:Fn) (first r:Array Value) (w:World),(Instr.makeFunc s first r).run Tryz.prog w=.ok (.func s first r) w:=fun _ _ _ _=>rfl;have i:Bw w ((((w.alloc (.cells #[Iv n,.func (.func f) #[] b] 130)).alloc (.cells #[Iv m,.func (.func g) #[] d] 130)).alloc (.cells #[.func (.func (S1 k)) #[] #[]] 192)).alloc (.cells #[Iv (0:Nat),.nilFunc] 130)):=(Q0 w _ _ _).alloc (by simp;omega) _;have o:Blk ((((w.alloc (.cells #[Iv n,.func (.func f) #[] b] 130)).alloc (.cells #[Iv m,.func (.func g) #[] d] 130)).alloc (.cells #[.func (.func (S1 k)) #[] #[]] 192)).alloc (.cells #[Iv (0:Nat),.nilFunc] 130)) w.heap.size #[Iv n,.func (.func f) #[] b] 130:=(((Blk.new w _ _).of (Below.heap_alloc _ _ _ (by simp))).of (Below.heap_alloc _ _ _ (by simp;omega))).of (Below.heap_alloc _ _ _ (by simp;omega));have p:Blk ((((w.alloc (.cells #[Iv n,.func (.func f) #[] b] 130)).alloc (.cells #[Iv m,.func (.func g) #[] d] 130)).alloc (.cells #[.func (.func (S1 k)) #[] #[]] 192)).alloc (.cells #[Iv (0:Nat),.nilFunc] 130)) (w.heap.size+1) #[Iv m,.func (.func g) #[] d] 130:=by
  have:=Blk.new (w.alloc (.cells #[Iv n,.func (.func f) #[] b] 130)) #[Iv m,.func (.func g) #[] d] 130;rw[World.size_alloc]at this;exact(this.of (Below.heap_alloc _ _ _ (by simp))).of (Below.heap_alloc _ _ _ (by simp))
 have y:Blk ((((w.alloc (.cells #[Iv n,.func (.func f) #[] b] 130)).alloc (.cells #[Iv m,.func (.func g) #[] d] 130)).alloc (.cells #[.func (.func (S1 k)) #[] #[]] 192)).alloc (.cells #[Iv (0:Nat),.nilFunc] 130)) (w.heap.size+1+1) #[.func (.func (S1 k)) #[] #[]] 192:=by
  have:=Blk.new ((w.alloc (.cells #[Iv n,.func (.func f) #[] b] 130)).alloc (.cells #[Iv m,.func (.func g) #[] d] 130)) #[.func (.func (S1 k)) #[] #[]] 192;rw[World.size_alloc,World.size_alloc]at this;exact this.of (Below.heap_alloc _ _ _ (by simp))
 have z:Blk ((((w.alloc (.cells #[Iv n,.func (.func f) #[] b] 130)).alloc (.cells #[Iv m,.func (.func g) #[] d] 130)).alloc (.cells #[.func (.func (S1 k)) #[] #[]] 192)).alloc (.cells #[Iv (0:Nat),.nilFunc] 130)) (w.heap.size+1+1+1) #[Iv (0:Nat),.nilFunc] 130:=by
  have:=Blk.new (((w.alloc (.cells #[Iv n,.func (.func f) #[] b] 130)).alloc (.cells #[Iv m,.func (.func g) #[] d] 130)).alloc (.cells #[.func (.func (S1 k)) #[] #[]] 192)) #[Iv (0:Nat),.nilFunc] 130;rw[World.size_alloc,World.size_alloc,World.size_alloc]at this;exact this
 have E:((((w.alloc (.cells #[Iv n,.func (.func f) #[] b] 130)).alloc (.cells #[Iv m,.func (.func g) #[] d] 130)).alloc (.cells #[.func (.func (S1 k)) #[] #[]] 192)).alloc (.cells #[Iv (0:Nat),.nilFunc] 130)).heap.size=w.heap.size+1+1+1+1:=by simp
 have q:Hid (PlanV w G a (.func (.func f) #[] b)/\PlanV w G c (.func (.func g) #[] d)):=⟨h,t⟩;go_enter Tryz.func121,Tryz.ntmps121;go_upto_region 1 with (fail);generalize ((((w.alloc (.cells #[Iv n,.func (.func f) #[] b] 130)).alloc (.cells #[Iv m,.func (.func g) #[] d] 130)).alloc (.cells #[.func (.func (S1 k)) #[] #[]] 192)).alloc (.cells #[Iv (0:Nat),.nilFunc] 130))=W at *;have A:Hid (cQk w G (n+m) ⟨k,rnil,[],[a,c]⟩ (.returned (C5 (n+m) (.func (.func 133) #[] #[.pointer (some ⟨w.heap.size+1+1,0,none⟩),Pt w.heap.size,.pointer (some ⟨w.heap.size+1,0,none⟩)])))
   ((W.setCell ⟨w.heap.size+1+1+1,0,none⟩ (Iv ((n+m:Nat):Int))).setCell ⟨w.heap.size+1+1+1,1,none⟩ (.func (.func 133) #[] #[.pointer (some ⟨w.heap.size+1+1,0,none⟩),Pt w.heap.size,.pointer (some ⟨w.heap.size+1,0,none⟩)]))):=by
  refine⟨_,_,rfl,?_,aQd i (by omega) _ _⟩;have l:∀j,w.heap.size<=j->j<w.heap.size+1+1+1->G j\/(w.heap.size<=j/\j<((W.setCell ⟨w.heap.size+1+1+1,0,none⟩ (Iv ((n+m:Nat):Int))).setCell ⟨w.heap.size+1+1+1,1,none⟩ (.func (.func 133) #[] #[.pointer (some ⟨w.heap.size+1+1,0,none⟩),Pt w.heap.size,.pointer (some ⟨w.heap.size+1,0,none⟩)])).heap.size):=fun j B I=>.inr ⟨B,by rw[X4,E];omega⟩;have x:∀j,G j->((W.setCell ⟨w.heap.size+1+1+1,0,none⟩ (Iv ((n+m:Nat):Int))).setCell ⟨w.heap.size+1+1+1,1,none⟩ (.func (.func 133) #[] #[.pointer (some ⟨w.heap.size+1+1,0,none⟩),Pt w.heap.size,.pointer (some ⟨w.heap.size+1,0,none⟩)])).heap[j]?=w.heap[j]?:=fun j e=>by
   rw[L9 _ _ _ _ _ (by have:=u j e;omega)];exact i.block j (u j e)
  rw[PlanV];exact⟨C,w.heap.size+1+1,w.heap.size,w.heap.size+1,n,m,_,_,l _ (by omega) (by omega),l _ (by omega) (by omega),l _ (by omega) (by omega),rfl,y.of (L9 _ _ _ _ _ (by omega)),o.of (L9 _ _ _ _ _ (by omega)),p.of (L9 _ _ _ _ _ (by omega)),PlanV.mono (fun j e=>.inl e) x _ _ q.out.1,PlanV.mono (fun j e=>.inl e) x _ _ q.out.2⟩
 obtain⟨F,H,M,s1⟩:=z.two;obtain⟨R,S,T,U⟩:=o.two;obtain⟨N,O,P,Q⟩:=p.two;go_wp2;exact bodyPost_ret (v:=C5 (n+m) (.func (.func 133) #[] #[.pointer (some ⟨w.heap.size+1+1,0,none⟩),Pt w.heap.size,.pointer (some ⟨w.heap.size+1,0,none⟩)])) (by simp[results,Tryz.results121,go_sem,F,H]) rfl A.out
def PlPost (w:World)(rb:Nat)(s:By)(i z:Nat)(a1:Addr)(res:Rl):Ending->World->Prop:=fun e w'=>
 (∃l j f caps,res=some (l,rest s j)/\i+eX7 l<=j/\j<=s.size/\e=.returned (C5 (eX7 l) (.func (.func f) #[] caps))/\PlanV w' (B8 w w') l (.func (.func f) #[] caps)/\RLeft w rb s j z w')\/
 (res=.none/\K6 w rb a1 e w')
structure Inp (w:World)(rb:Nat)(s:By)(at_ dep:Nat)(w':World):Prop where
 inn:In 167 w rb s at_ dep w'
 res:Blk w' (w.heap.size+1) #[.int .i64 (0:Nat),.nilFunc] 130
abbrev I9 (w:World)(rb:Nat):World:=(w.alloc (H0 167 rb)).alloc (.cells #[.int .i64 (0:Nat),.nilFunc] 130)
section
variable {w w1 w2:World} {rb:Nat} {s:By} {a z a' z':Nat}
theorem Inp.enter (h:RB w rb s a z):Inp w rb s a z (I9 w rb):=by
 refine⟨(In.enter _ h).below (A5 _ _),?_⟩;have:=Blk.new (w.alloc (H0 167 rb)) #[Iv (0:Nat),.nilFunc] 130;rw[World.size_alloc]at this;exact this
theorem Inp.go (h:Inp w rb s a z w1)(k:RLeft w1 rb s a' z' w2):Inp w rb s a' z' w2:=
 ⟨h.inn.go k,h.res.of (k.grown.block _ h.res.lt (by have:=h.inn.old;simp;omega))⟩
theorem Inp.below (h:Inp w rb s a z w1)(b:Bw w1 w2):Inp w rb s a z w2:=⟨h.inn.below b,h.res.below b h.res.lt⟩
theorem Inp.lies (h:Inp w rb s a z w1):RB w1 rb s a z:=h.inn.lies
theorem Inp.cell (h:Inp w rb s a z w1):Ce w1 w.heap.size 0 (Pt rb):=h.inn.cell
theorem Inp.env (h:Inp w rb s a z w1){b:Addr}(c:Env w rb b):Env w1 rb b:=h.inn.env c
theorem Inp.threw (h:Inp w rb s a z w1){r:Option Nat}(c:r=some rb)(b:w1.grownBy w2 r):w.grownBy w2 (some rb):=h.inn.threw c b
theorem Inp.size (h:Inp w rb s a z w1):w.heap.size+1<w1.heap.size:=h.res.lt
theorem Inp.ret (h:Inp w rb s a z w1){i:Nat}{a1:Addr}{c:Rl}{l:Ln}{f:Nat}{caps:Array Value}(e:c=some (l,rest s a))(g:i+eX7 l<=a)(ha:a<=s.size)
  (d:PlanV w1 (fun k=>w.heap.size+1<k/\k<w1.heap.size) l (.func (.func f) #[] caps)) :
  PlPost w rb s i z a1 c (.returned (C5 (eX7 l) (.func (.func f) #[] caps))) ((w1.setCell ⟨w.heap.size+1,0,none⟩ (Iv (eX7 l))).setCell ⟨w.heap.size+1,1,none⟩ (.func (.func f) #[] caps)):=by
 refine .inl ⟨l,a,f,caps,e,g,ha,rfl,PlanV.mono (fun _ b=>⟨by omega,by rw[X4];exact b.2⟩) (fun _ b=>L9 _ _ _ _ _ (by omega)) _ _ d,h.inn.left.res2 (by omega) h.inn.old _ _⟩
end
theorem nQm {z:Nat}{r:Lu}{d:Ls.D}{u:Lu}(h:fXj (pat z) r=some (d,u)):dn d<=4*r.length+2/\dsize d+u.length<=r.length:=by
 unfold fXj at h;split at h
 ·cases h
 ·rename_i c t a
  split at h
  ·rename_i b
   simp at h;obtain⟨rfl,rfl⟩:=h;have e:=hQ0 _ _ _ _ a;have f:=hXk _ _ _ _ a;have g:=fXr b;omega
  ·cases h
def Y5 (P:Lu->Rd)(r:Lu):Rl:=
 match fXj P r with
 | .none=>.none
 | some (d,u)=>some (fXs d,u)
theorem zQv (s:By)(hs:s.size<=120)(a1:Addr)(z:Nat)(U:z<=12)(c i:Nat)(w:World)(h:RB w c s i z)(P:Env w c a1)(S:i<=s.size) :
  Calls Tryz.prog 145 #[D3 c] w (PlPost w c s i z a1 (Y5 (pat (13-z)) (rest s i))):=by
 have a0:∀(B:Fn) (first A:Array Value) (w:World),(Instr.makeFunc B first A).run Tryz.prog w=.ok (.func B first A) w:=fun _ _ _ _=>rfl;have o:Hid _:=Inp.enter h;have C:=mQk s (by omega) a1 z U c i _ o.out.lies (o.out.env P) S;have a2:(I9 w c).heap.size=w.heap.size+1+1:=by simp
 go_enter Tryz.func145,Tryz.ntmps145;go_wp2_with fail;refine C.mono ?_;generalize I9 w c=q at *;rintro e a (⟨d,j,v,n,Z,T,rfl,t,I⟩|⟨n,rfl,R⟩)
 ·have E:=o.out.go I
  obtain⟨g,x,rfl⟩:=t.iface;have Q:=nQm n;rw[F4,F4]at Q;have M:Hid (Y5 (pat (13-z)) (rest s i)=some (fXs d,rest s j)):=by
   show _=_;unfold Y5;rw[n]
  have r:=A5 a (.cells #[.iface g x] 89);have y:=Blk.new a #[.iface g x] 89;have a3:(a.alloc (.cells #[.iface g x] 89)).heap.size=a.heap.size+1:=by simp
  have F:=E.below r;have u:Rep (a.alloc (.cells #[.iface g x] 89)) (B8 q (a.alloc (.cells #[.iface g x] 89))) 0 d [.iface g x]:=t.mono (fun k b=>⟨b.1,by have:=b.2;omega⟩) (fun k b=>r.block k b.2);have a5:=I.grown.size;go_upto_region 2 with (fail);generalize a.alloc (.cells #[.iface g x] 89)=m at *;obtain⟨q0,q1⟩:=y.one;obtain⟨f,hm,Y,H⟩:=iQj (dn d) d (Nat.le_refl _) (by omega) (by omega) m (B8 q m) g x (fun k b=>b.2) u;have O:Hid (Blk m a.heap.size #[.iface g x] 89):=y;have N:Hid _:=u;have J:Hid _:=F;go_wp2;refine H.mono ?_;rintro e X ⟨rfl,p⟩;have G:=J.out.below p;obtain⟨V,W,s0,s1⟩:=G.res.two;have a4:=p.size;have L:Hid (PlPost w c s i z a1 (Y5 (pat (13-z)) (rest s i)) (.returned (C5 (dsize d) (.func (.func 167) #[] #[Pt a.heap.size]))) ((X.setCell ⟨w.heap.size+1,0,none⟩ (Iv (dsize d))).setCell ⟨w.heap.size+1,1,none⟩ (.func (.func 167) #[] #[Pt a.heap.size]))):=by
   have:=G.ret (i:=i) (a1:=a1) (l:=fXs d) (f:=167) (caps:=#[Pt a.heap.size]) M.out (by rw[hX8];omega) T (by
    unfold fXs;rw[PlanV];exact .inl ⟨rfl,a.heap.size,.iface g x,⟨by omega,by omega⟩,rfl,O.out.of (p.block _ (by omega)),N.out.mono (fun k b=>⟨by have:=b.1;omega,by have:=b.2;omega⟩) (fun k b=>p.block k b.2)⟩)
   rw[hX8]at this;exact this
  go_wp2;exact bodyPost_ret (v:=C5 (dsize d) (.func (.func 167) #[] #[Pt a.heap.size])) (by simp[results,Tryz.results145,go_sem,V,W]) rfl L.out
 ·have K:Hid (Y5 (pat (13-z)) (rest s i)=.none):=by
   show _=_;unfold Y5;rw[n]
  go_wp2;exact⟨rfl,.inr ⟨K.out,rfl,o.out.threw rfl R⟩⟩
def aQb (r:Lu):Rl:=
 match fX1 r with
 | .none=>.none
 | some (ws,u)=>some (iXp ws,u)
theorem aXe (s:By)(hs:s.size<=120)(a1:Addr)(z b i:Nat)(w:World)(h:RB w b s i z)(A:Env w b a1)(C:i<=s.size) :
  Calls Tryz.prog 151 #[D3 b] w (PlPost w b s i z a1 (aQb (rest s i))):=by
 have K:∀(o:Fn) (first n:Array Value) (w:World),(Instr.makeFunc o first n).run Tryz.prog w=.ok (.func o first n) w:=fun _ _ _ _=>rfl;have d:Hid _:=Inp.enter h;have p:=mQv s (by omega) a1 z b i _ d.out.lies (d.out.env A) C;have M:(I9 w b).heap.size=w.heap.size+1+1:=by simp
 go_enter Tryz.func151,Tryz.ntmps151;go_wp2_with fail;refine p.mono ?_;generalize I9 w b=I at *;rintro e c (⟨a,j,g,J,E,rfl,t⟩|⟨g,rfl,B⟩)
 ·have q:=d.out.go t
  have y:Hid (aQb (rest s i)=some (iXp a,rest s j)):=by
   show _=_;unfold aQb;rw[g]
  have r:=A5 c (.cells #[Sv a] 9);have m:=Blk.new c #[Sv a] 9;have N:(c.alloc (.cells #[Sv a] 9)).heap.size=c.heap.size+1:=by simp
  have k:=q.below r;have O:=t.grown.size;go_upto_region 2 with (fail);generalize c.alloc (.cells #[Sv a] 9)=H at *;obtain⟨P,Q⟩:=m.one;obtain⟨F,G,R,s1⟩:=k.res.two;have x:Hid (PlPost w b s i z a1 (aQb (rest s i)) (.returned (C5 a.length (.func (.func 179) #[] #[Pt c.heap.size]))) ((H.setCell ⟨w.heap.size+1,0,none⟩ (Iv a.length)).setCell ⟨w.heap.size+1,1,none⟩ (.func (.func 179) #[] #[Pt c.heap.size]))):=by
   have:=k.ret (i:=i) (a1:=a1) (l:=iXp a) (f:=179) (caps:=#[Pt c.heap.size]) y.out (by rw[iXv];omega) E (by
    unfold iXp;rw[PlanV];exact .inr (.inr ⟨rfl,c.heap.size,⟨by omega,by omega⟩,rfl,m⟩))
   rw[iXv]at this;exact this
  have L:(ByteArray.mk a.toArray).size=a.length:=by simp[ByteArray.size]
  go_wp2;exact bodyPost_ret (v:=C5 a.length (.func (.func 179) #[] #[Pt c.heap.size])) (by simp[results,Tryz.results151,go_sem,F,G]) rfl x.out
 ·have u:Hid (aQb (rest s i)=.none):=by
   show _=_;unfold aQb;rw[g]
  go_wp2;exact⟨rfl,.inr ⟨u.out,rfl,d.out.threw rfl B⟩⟩
end Go.Proofs.YtfklinjaajafgaaGreatDoor
