import Derived.Test.YtfklinjaajafgaaGreatDoorRows
import Derived.WalkSpells
import Derived.WalkLawsBesides
import Derived.BigQuiet
import Derived.Test.YtfklinjaajafgaaGreatDoorK01
import Derived.Handy
set_option maxRecDepth 100000
set_option maxHeartbeats 4000000
namespace Go.Proofs.YtfklinjaajafgaaGreatDoor
open Ls hiding none
open Go.RowKit
abbrev Bw (w w':World):Prop:=Below w.heap.size w w'
abbrev Ce (w:World)(b o:Nat)(v:Value):Prop:=w.cell? ⟨b,o,none⟩=some v
abbrev Pt (b:Nat):Value:=.pointer (some ⟨b,0,none⟩)
abbrev Ca:=Calls Tryz.prog
abbrev Rt (v:Value)(W:World):Ending->World->Prop:=fun e w'=>e=.returned v/\Below W.heap.size W w'
theorem Br {B:Nat}{w:World}:Below B w w:=Below.refl B w
theorem Ll {a b c:Nat}(h:a<b)(k:b<=c):a<c:=Nat.lt_of_lt_of_le h k
theorem Lq {a b c:Nat}(h:a<=b)(k:b<=c):a<=c:=Nat.le_trans h k
abbrev Iv (n:Int):Value:=.int .i64 n
abbrev Sl (g n c:Nat):Value:=.slice (some ⟨g,0,none⟩) n c
abbrev Sv (x:Lu):Value:=.string ⟨x.toArray⟩
abbrev Ba (x:Lu):By:=⟨x.toArray⟩
abbrev Hz (w:World):Nat:=w.heap.size
abbrev Dl (s:By):Lu:=s.data.toList
variable {B B0 base g i:Nat}{G H:Nat->Prop}{W w w' w1 w2:World}{p:Pat}{qs:List (Pat × Value)}{s:By}{v v0:Value}(acc:Lu)(q b:Pat)(j:Nat)(a:Pat)(x:List Value)(t:TypeId)(k:Nat)(y z:Value)(e:TypeId)(n:Nat)(c:UInt8)(size bytes:Nat)(xs:List Value)(m:Nat)(news:List Value)
theorem R5 {a b:Bool}(h:a=b):Ending.returned (.bool a)=.returned (.bool b):=by rw[h]
theorem M7 (w:World) :
  Calls Tryz.prog 71 #[.int .u8 c.toNat] w fun e a=>e=.returned (.bool (gXu c))/\a=w:=by
 go_enter Tryz.func71,Tryz.ntmps71;go_wp2
 all_goals
  go_ret;refine⟨R5 ?_,rfl⟩;rw[Bool.eq_iff_iff];simp[gXu];omega
theorem lQp (w:World) :
  Calls Tryz.prog 142 #[.int .u8 c.toNat] w fun e a=>e=.returned (.bool (iXl c))/\a=w:=by
 go_enter Tryz.func142,Tryz.ntmps142;go_wp2
 all_goals
  go_ret;refine⟨R5 ?_,rfl⟩;rw[Bool.eq_iff_iff];simp[iXl];omega
theorem nQ4 (s:By)(h:k<s.size):s.data.toList.take (k+1)=s.data.toList.take k++[s[k]]:=by
 rw[List.take_succ_eq_append_getElem (by simpa using h)];rfl
theorem xQu (s:By)(h:k<s.size):s[k]∈s.data.toList:=by
 rw[ByteArray.getElem_eq_getElem_data];simp
theorem gQ6 (s:By)(w:World)(hs:s.size<=maxLen) :
  Calls Tryz.prog 72 #[.string s,.int .u8 c.toNat] w fun e n=>e=.returned (.bool (Ls.has s.data.toList c))/\n=w:=by
 unfold maxLen at hs;go_enter Tryz.func72,Tryz.ntmps72;go_wp2
 go_loop [5] (fun i=>∃k:Nat,k<=s.size/\i=Iv k/\Ls.has (s.data.toList.take k) c=false) (fun i=>s.size-(intOf i).toNat)
 case atStart=>exact⟨0,Nat.zero_le _,rfl,rfl⟩
 case round=>
  obtain⟨k,o,rfl,j⟩:=hrel;have f:Hid _:=j
  by_cases g:k<s.size
  ·have l:Hid _:=nQ4 k s g
   by_cases a:s[k]=c
   ·have m:((s[k].toNat:Int)==(c.toNat:Int))=true:=by simp[a]
    have d:Hid _:=a;go_wp2
    go_ret;refine⟨R5 ?_,rfl⟩;symm
    rw[Ls.has,List.any_eq_true];exact⟨s[k],xQu k s g,by simp[d.out]⟩
   ·have m:((s[k].toNat:Int)==(c.toNat:Int))=false:=by
     rw[beq_eq_false_iff_ne];intro h;exact a (UInt8.toNat_inj.1 (by omega))
    have d:Hid (¬s[k]=c):=a;go_wp2
    go_round
    case rel=>exact⟨k+1,by omega,by go_num,by rw[l.out,Ls.has,List.any_append];have b:=f.out;rw[Ls.has]at b;simp[b,d.out]⟩
    case measure=>simp[intOf];omega
  ·go_wp2
   go_ret;have b:=f.out;rw[List.take_of_length_le (by simp;omega)]at b;exact⟨R5 b.symm,rfl⟩
abbrev C2 (p:Pat)(sl:Value):List Value:=[.int .i64 p.kind,.string ⟨p.signs.toArray⟩,sl]
abbrev B4 (p:Pat)(sl:Value):Value:=.agg #[.int .i64 p.kind,.string ⟨p.signs.toArray⟩,sl]
def Lies (w:World)(g:Nat)(x:List Value):Prop:=w.heap[g]?=some (.cells x.toArray 27 (0,0))
theorem Lies.cell {x:List Value}(h:Lies w g x)(j:Nat):w.cell? ⟨g,j,none⟩=x[j]?:=by
 unfold Lies at h;simp[World.cell?,h]
theorem Lies.lt {x:List Value}(h:Lies w g x):g<w.heap.size:=(Array.getElem?_eq_some_iff.1 h).1
def Old (w:World)(G:Nat->Prop):Prop:=∀k,G k->k<w.heap.size
def PV (w:World)(G:Nat->Prop):Pat->Value->Prop
 | ⟨_,_,[]⟩,sl=>sl=.slice none 0 0
 | ⟨_,_,[a]⟩,sl=>∃g y,G g/\sl=.slice (some ⟨g,0,none⟩) 1 1/\Lies w g (C2 a y)/\PV w G a y
 | ⟨_,_,[a,b]⟩,sl=>∃g y z,G g/\sl=.slice (some ⟨g,0,none⟩) 2 2/\Lies w g (C2 a y++C2 b z)/\PV w G a y/\PV w G b z
 | _,_=>False
theorem PV.mono {w w':World}{G G':Nat->Prop}(d:∀k,G k->G' k)(e:∀k,G k->w'.heap[k]?=w.heap[k]?):(p:Pat)->(x:Value)->PV w G p x->PV w' G' p x
 | ⟨k,s,[]⟩,x,h=>by simpa [PV] using h
 | ⟨k,s,[a]⟩,x,h=>by
  rw[PV]at h ⊢;obtain⟨g,y,c,i,j,f⟩:=h;exact⟨g,y,d g c,i,by unfold Lies at j ⊢;rw[e g c];exact j,PV.mono d e a y f⟩
 | ⟨k,s,[a,b]⟩,x,h=>by
  rw[PV]at h ⊢;obtain⟨g,y,z,c,i,f,l,m⟩:=h;exact⟨g,y,z,d g c,i,by unfold Lies at f ⊢;rw[e g c];exact f,PV.mono d e a y l,PV.mono d e b z m⟩
 | ⟨k,s,_::_::_::_⟩,x,h=>by simp[PV]at h
theorem PV.slice {w:World}{G:Nat->Prop}:(p:Pat)->(x:Value)->PV w G p x->∃a n c,x=.slice a n c
 | ⟨k,s,[]⟩,x,h=>⟨_,_,_,by simpa [PV] using h⟩
 | ⟨k,s,[a]⟩,x,h=>by rw[PV]at h;obtain⟨g,y,e,d,i,f⟩:=h;exact⟨_,_,_,d⟩
 | ⟨k,s,[a,b]⟩,x,h=>by rw[PV]at h;obtain⟨g,y,z,e,d,f,j,l⟩:=h;exact⟨_,_,_,d⟩
 | ⟨k,s,_::_::_::_⟩,x,h=>by simp[PV]at h
theorem PV.below {G':Nat->Prop}(c:Below B w w')(a:∀k,G k->k<B)(b:∀k,G k->G' k){x:Value}(h:PV w G p x):PV w' G' p x:=
 PV.mono b (fun k d=>c.block k (a k d)) p x h
def F5 (G:Nat->Prop)(w w':World):Nat->Prop:=fun k=>G k\/(w.heap.size<=k/\k<w'.heap.size)
theorem C7 (w:World)(x:List Value):Lies (w.alloc (.cells x.toArray 27)) w.heap.size x:=by
 unfold Lies;exact heap_alloc_new w _
theorem fQp (w:World)(a b c:Obj):(((w.alloc a).alloc b).alloc c).heap.size=w.heap.size+1+1+1:=by simp
theorem PV.two {q:Pat}{y z:Value}(e:PV w G p y)(f:PV w G q z)(a:Old w G)(b:Bw w w')(d:w.heap.size<=g)(c:Lies w' g (C2 p y++C2 q z))(k:Nat)(s:Lu) :
  PV w' (F5 G w w') ⟨k,s,[p,q]⟩ (Sl g 2 2):=by
 rw[PV];exact⟨g,y,z,.inr ⟨d,c.lt⟩,rfl,c,e.below b a fun _=>.inl,f.below b a fun _=>.inl⟩
theorem PV.one {y:Value}(e:PV w G p y)(b:Old w G)(c:Bw w w')(d:w.heap.size<=g)(a:Lies w' g (C2 p y))(k:Nat)(s:Lu) :
  PV w' (F5 G w w') ⟨k,s,[p]⟩ (Sl g 1 1):=by
 rw[PV];exact⟨g,y,.inr ⟨d,a.lt⟩,rfl,a,e.below c b fun _=>.inl⟩
theorem A5 (w:World)(a:Obj):Bw w (w.alloc a):=Br.alloc (Nat.le_refl _) _
theorem C6 (w:World)(a b:Obj):Bw w ((w.alloc a).alloc b):=(A5 w a).alloc (by simp) _
theorem Q0 (w:World)(a b c:Obj):Bw w (((w.alloc a).alloc b).alloc c):=(C6 w a b).alloc (by simp;omega) _
theorem bQx (w:World)(a b c d:Obj):Bw w ((((w.alloc a).alloc b).alloc c).alloc d):=(Q0 w a b c).alloc (by simp;omega) _
theorem xQb (w:World)(a b:Obj):Lies (((w.alloc a).alloc b).alloc (.cells x.toArray 27)) (w.heap.size+1+1) x:=by
 have:=C7 ((w.alloc a).alloc b) x;simpa using this
theorem lQf (w:World)(a b c:Obj):Lies ((((w.alloc a).alloc b).alloc c).alloc (.cells x.toArray 27)) (w.heap.size+1+1+1) x:=by
 have:=C7 (((w.alloc a).alloc b).alloc c) x;rwa [fQp]at this
theorem eQl (p:Pat)(w:World)(G:Nat->Prop)(g:Old w G)(b:PV w G p y)(c:PV w G q z) :
  Calls Tryz.prog 69 #[B4 p y,B4 q z] w fun e a=>∃x,e=.returned (B4 (Ls.any p q) x)/\PV a (F5 G w a) (Ls.any p q) x/\Bw w a:=by
 have d:Hid _:=b;have f:Hid _:=c;go_enter Tryz.func69,Tryz.ntmps69;go_wp2
 refine bodyPost_ret (v:=B4 (Ls.any p q) (.slice (some ⟨w.heap.size+1+1+1,0,none⟩) 2 2)) (by simp[results,Tryz.results69,go_sem,Ls.any]) rfl ⟨_,rfl,?_,?_⟩
 ·exact PV.two d.out f.out g (bQx _ _ _ _ _) (by omega) (lQf (C2 p y++C2 q z) w _ _ _) 3 []
 ·exact bQx _ _ _ _ _
theorem aQ5 (p:Pat)(w:World)(G:Nat->Prop)(d:Old w G)(b:PV w G p y) :
  Calls Tryz.prog 85 #[B4 p y] w fun e a=>∃x,e=.returned (B4 (fXl p) x)/\PV a (F5 G w a) (fXl p) x/\Bw w a:=by
 have c:Hid _:=b;go_enter Tryz.func85,Tryz.ntmps85;go_wp2
 refine bodyPost_ret (v:=B4 (fXl p) (.slice (some ⟨w.heap.size+1+1,0,none⟩) 1 1)) (by simp[results,Tryz.results85,go_sem,fXl]) rfl ⟨_,rfl,?_,?_⟩
 ·exact PV.one c.out d (Q0 _ _ _ _) (by omega) (xQb (C2 p y) w _ _) 4 []
 ·exact Q0 _ _ _ _
theorem aQc (p q:Pat)(y z:Value)(w:World)(G:Nat->Prop)(d:Old w G)(f:PV w G p y)(g:PV w G q z) :
  Calls Tryz.prog 84 #[B4 p y,B4 q z] w fun e h=>∃x,e=.returned (B4 (Ls.row p q) x)/\PV h (F5 G w h) (Ls.row p q) x/\Bw w h:=by
 obtain⟨m,n,o,rfl⟩:=PV.slice _ _ f;obtain⟨r,s,t,rfl⟩:=PV.slice _ _ g;have i:Hid _:=f;have j:Hid _:=g
 by_cases a:p.kind=0
 ·have k:((p.kind:Int)==0)=true:=by simp[a]
  have b:Hid (Ls.row p q=q):=by unfold Ls.row;rw[if_pos a];rfl
  go_enter Tryz.func84,Tryz.ntmps84;go_wp2
  (try simp only[Exit.inBlock,Exit.then])
  refine bodyPost_ret (v:=B4 q (.slice r s t)) (by simp[results,Tryz.results84,go_sem]) rfl ⟨_,by rw[b.out],?_,?_⟩
  ·rw[b.out];exact j.out.below (Q0 _ _ _ _) d fun _=>.inl
  ·exact Q0 _ _ _ _
 ·have k:((p.kind:Int)==0)=false:=by simp[a]
  by_cases c:q.kind=0
  ·have l:((q.kind:Int)==0)=true:=by simp[c]
   have b:Hid (Ls.row p q=p):=by unfold Ls.row;rw[if_neg a,if_pos c];rfl
   go_enter Tryz.func84,Tryz.ntmps84;go_wp2
   (try simp only[Exit.inBlock,Exit.then])
   refine bodyPost_ret (v:=B4 p (.slice m n o)) (by simp[results,Tryz.results84,go_sem]) rfl ⟨_,by rw[b.out],?_,?_⟩
   ·rw[b.out];exact i.out.below (Q0 _ _ _ _) d fun _=>.inl
   ·exact Q0 _ _ _ _
  ·have l:((q.kind:Int)==0)=false:=by simp[c]
   have b:Hid (Ls.row p q=gX4 p q):=by unfold Ls.row;rw[if_neg a,if_neg c];rfl
   go_enter Tryz.func84,Tryz.ntmps84;go_wp2
   refine bodyPost_ret (v:=B4 (gX4 p q) (.slice (some ⟨w.heap.size+1+1+1,0,none⟩) 2 2)) (by simp[results,Tryz.results84,go_sem,gX4]) rfl ⟨_,by rw[b.out],?_,?_⟩
   ·rw[b.out];exact PV.two i.out j.out d (bQx _ _ _ _ _) (by omega) (lQf (C2 p _++C2 q _) w _ _ _) 2 []
   ·exact bQx _ _ _ _ _
theorem Lies.six {a b:Pat}{y z:Value}(h:Lies w g (C2 a y++C2 b z)) :
  Ce w g 0 (Iv a.kind)/\Ce w g 1 (Sv a.signs)/\Ce w g 2 y/\
  Ce w g 3 (Iv b.kind)/\Ce w g 4 (Sv b.signs)/\Ce w g 5 z:=
 ⟨h.cell 0,h.cell 1,h.cell 2,h.cell 3,h.cell 4,h.cell 5⟩
theorem Lies.three {a:Pat}{y:Value}(h:Lies w g (C2 a y)) :
  Ce w g 0 (Iv a.kind)/\Ce w g 1 (Sv a.signs)/\Ce w g 2 y:=
 ⟨h.cell 0,h.cell 1,h.cell 2⟩
theorem O9 (a:Bw W w1):(∀b o,b<W.heap.size->w1.cell? ⟨b,o,none⟩=W.cell? ⟨b,o,none⟩)/\(∀b o,b<W.heap.size->w1.frozen? ⟨b,o,none⟩=W.frozen? ⟨b,o,none⟩):=
 ⟨fun b o h=>a.cell (p:=⟨b,o,none⟩) h,fun b o h=>a.frozen (p:=⟨b,o,none⟩) h⟩
theorem Old.alloc (h:Old w G)(o:Obj):Old (w.alloc o) G:=fun k a=>by have:=h k a;simp;omega
theorem Old.below (h:Old w G)(a:Below B w w'):Old w' G:=fun k b=>by have:=h k b;have:=a.size;omega
def Y0 (p:Pat):Prop:=∀(y:Value) (w:World) (G:Nat->Prop),Old w G->PV w G p y->
  Ca 74 #[B4 p y] w (Rt (.bool (Ls.empty p)) w)
theorem uQb:Y0 Ls.none:=by
 intro y w G a b;show Calls _ _ #[.agg #[Iv 0,.string ⟨#[]⟩,y]] w _;go_enter Tryz.func74,Tryz.ntmps74;go_wp2;go_ret;exact⟨rfl,A5 _ _⟩
theorem uQe (s:Lu):Y0 (Ls.set s):=by
 intro y w G a b;show Calls _ _ #[.agg #[Iv 1,Sv s,y]] w _;go_enter Tryz.func74,Tryz.ntmps74;go_wp2;go_ret;exact⟨rfl,A5 _ _⟩
theorem uQf:Y0 (fXl a):=by
 intro y w G b c;show Calls _ _ #[.agg #[Iv 4,.string ⟨#[]⟩,y]] w _;go_enter Tryz.func74,Tryz.ntmps74;go_wp2;go_ret;exact⟨rfl,A5 _ _⟩
theorem uQd (ha:Y0 a)(k:Y0 b):Y0 (gX4 a b):=by
 intro A w G c n;obtain⟨g,y,z,m,rfl,f,i,j⟩:=n;have x:=f.lt;obtain⟨o,p,q,r,s,t⟩:=f.six;show Calls _ _ #[.agg #[Iv 2,.string ⟨#[]⟩,Sl g 2 2]] w _;go_enter Tryz.func74,Tryz.ntmps74;go_wp2_with fail;refine(ha y _ G (Old.alloc c _) (i.below (A5 _ _) c fun _ h=>h)).mono ?_;rintro e B ⟨rfl,d⟩;obtain⟨u,v⟩:=O9 d;go_wp2_with fail;refine(k z _ G (Old.below (Old.alloc c _) d) ((j.below (A5 _ _) c fun _ h=>h).below d (Old.alloc c _) fun _ h=>h)).mono ?_;rintro e C ⟨rfl,l⟩;go_wp2
 all_goals
  go_ret;refine⟨R5 (by simp[Ls.empty,gX4, *]),((A5 _ _).trans (d.mono (by simp))).trans (l.mono ?_)⟩;have:=d.size;simp at this;omega
theorem uQc (ha:Y0 a)(k:Y0 b):Y0 (Ls.any a b):=by
 intro A w G c n;obtain⟨g,y,z,m,rfl,f,i,j⟩:=n;have x:=f.lt;obtain⟨o,p,q,r,s,t⟩:=f.six;show Calls _ _ #[.agg #[Iv 3,.string ⟨#[]⟩,Sl g 2 2]] w _;go_enter Tryz.func74,Tryz.ntmps74;go_wp2_with fail;refine(ha y _ G (Old.alloc c _) (i.below (A5 _ _) c fun _ h=>h)).mono ?_;rintro e B ⟨rfl,d⟩;obtain⟨u,v⟩:=O9 d;go_wp2_with fail;refine(k z _ G (Old.below (Old.alloc c _) d) ((j.below (A5 _ _) c fun _ h=>h).below d (Old.alloc c _) fun _ h=>h)).mono ?_;rintro e C ⟨rfl,l⟩;go_wp2
 all_goals
  go_ret;refine⟨R5 (by simp[Ls.empty,Ls.any, *]),((A5 _ _).trans (d.mono (by simp))).trans (l.mono ?_)⟩;have:=d.size;simp at this;omega
theorem eQm (p:Pat)(h:wf p):Y0 p:=
 Ls.ind uQb (fun s _=>uQe s) (fun a b _ _ _ _=>uQd b a) (fun a b _ _=>uQc b a) (fun a _ _=>uQf a) p h
theorem K5 (w:World)(b c:Nat)(n:Int)(h:w.cell? ⟨b,0,none⟩=some (.int .u8 n)) :
  (convert 105 9 (.slice (some ⟨b,0,none⟩) 1 c)).run Tryz.prog w=.ok (.string ⟨#[UInt8.ofNat n.toNat]⟩) w:=by
 rw[run_convert_bytes_string w 105 9 5 _ _ _ Tryz.underlying105 Tryz.underlying5 Tryz.underlying9];rw[run_bytesToString w _ 1 c [n] (by
  have:=run_loadCells_list (P:=Tryz.prog) w ⟨b,0,none⟩ [.int .u8 n] (by
   intro j v a;match j,a with
   | 0,a=>simp at a;subst a;exact h)
  simpa using this)]
 rfl
def U5 (p:Pat):Prop:=(Ls.key p).length<=4611686018427387904->∀(y:Value) (w:World) (G:Nat->Prop),Old w G->PV w G p y->
  Ca 73 #[B4 p y] w (Rt (.string ⟨(Ls.key p).toArray⟩) w)
theorem cQq (b:Bw w W)(c:Bw W w1)(a:g<w.heap.size):∀o,w1.cell? ⟨g,o,none⟩=w.cell? ⟨g,o,none⟩:=fun o=>
 (c.cell (p:=⟨g,o,none⟩) (Ll a b.size)).trans (b.cell (p:=⟨g,o,none⟩) a)
theorem Bj {a b c:World}(h:Bw a b)(k:Bw b c):Bw a c:=h.trans (k.mono h.size)
theorem dQh {a b:By}(h:a.data.toList=b.data.toList):Ending.returned (.string a)=.returned (.string b):=by
 rw[show a=b from ByteArray.ext (Array.toList_inj.1 h)]
theorem vQ8:U5 Ls.none:=by
 intro b y w G d a;have c:=a;subst c;show Calls _ _ #[.agg #[Iv 0,.string ⟨#[]⟩,.slice none 0 0]] w _;have e:=K5;go_enter Tryz.func73,Tryz.ntmps73;go_wp2;refine wp_loop_rounds 1 ?_;rw[rounds_succ];go_wp2;go_ret;refine⟨dQh ?_,C6 _ _ _⟩;simp[Ls.key,Ls.none]
theorem wQb (s:Lu):U5 (Ls.set s):=by
 intro a y w G d b;have c:=b;subst c;have hs:s.length<=4611686018427387904:=by simp[Ls.set,Ls.key]at a;omega
 show Calls _ _ #[.agg #[Iv 1,Sv s,.slice none 0 0]] w _;have e:=K5;go_enter Tryz.func73,Tryz.ntmps73;go_wp2;refine wp_loop_rounds 1 ?_;rw[rounds_succ];go_wp2;go_ret;refine⟨dQh ?_,C6 _ _ _⟩;simp[Ls.key,Ls.set]
theorem wQc (ha:U5 a):U5 (fXl a):=by
 intro d t w G c m;obtain⟨g,y,k,rfl,f,i⟩:=m;have l:=f.lt;obtain⟨n,o,p⟩:=f.three;have hs:(Ls.key a).length<=4611686018427387901:=by simp[fXl,Ls.key]at d;omega
 show Calls _ _ #[.agg #[Iv 4,.string ⟨#[]⟩,Sl g 1 1]] w _;have j:=K5;go_enter Tryz.func73,Tryz.ntmps73;go_wp2;refine wp_loop_rounds 2 ?_;rw[rounds_succ];go_wp2_with fail;refine(ha (by omega) y _ G (Old.alloc (Old.alloc c _) _) (i.below (C6 _ _ _) c fun _ h=>h)).mono ?_;rintro e u ⟨rfl,b⟩;obtain⟨q,r⟩:=O9 b;have s:=cQq (C6 _ _ _) b l;go_wp2;rw[rounds_succ];go_wp2;go_ret;refine⟨dQh ?_,Bj (C6 _ _ _) b⟩;simp[Ls.key,fXl]
theorem wQa (ha:U5 a)(m:U5 b):U5 (gX4 a b):=by
 intro i K w G d q;obtain⟨g,y,z,o,rfl,j,k,l⟩:=q;have p:=j.lt;obtain⟨t,u,v,x,A,B⟩:=j.six;have hs:(Ls.key a).length+(Ls.key b).length<=4611686018427387901:=by simp[gX4,Ls.key]at i;omega
 show Calls _ _ #[.agg #[Iv 2,.string ⟨#[]⟩,Sl g 2 2]] w _;have n:=K5;go_enter Tryz.func73,Tryz.ntmps73;go_wp2;refine wp_loop_rounds 3 ?_;rw[rounds_succ];go_wp2_with fail;refine(ha (by omega) y _ G (Old.alloc (Old.alloc d _) _) (k.below (C6 _ _ _) d fun _ h=>h)).mono ?_;rintro e s ⟨rfl,c⟩;obtain⟨C,E⟩:=O9 c;have F:=cQq (C6 _ _ _) c p;go_wp2;rw[rounds_succ];go_wp2_with fail;refine(m (by omega) z _ G (Old.below (Old.alloc (Old.alloc d _) _) c) ((l.below (C6 _ _ _) d fun _ h=>h).below c (Old.alloc (Old.alloc d _) _) fun _ h=>h)).mono ?_;rintro e L ⟨rfl,f⟩;have r:=c.size;simp at r;have J:w.heap.size<s.heap.size:=by omega
 obtain⟨H,I⟩:=O9 f;go_wp2;rw[rounds_succ];go_wp2;go_ret;refine⟨dQh ?_,Bj (Bj (C6 _ _ _) c) f⟩;simp[Ls.key,gX4]
theorem vQ9 (ha:U5 a)(m:U5 b):U5 (Ls.any a b):=by
 intro i K w G d q;obtain⟨g,y,z,o,rfl,j,k,l⟩:=q;have p:=j.lt;obtain⟨t,u,v,x,A,B⟩:=j.six;have hs:(Ls.key a).length+(Ls.key b).length<=4611686018427387901:=by simp[Ls.any,Ls.key]at i;omega
 show Calls _ _ #[.agg #[Iv 3,.string ⟨#[]⟩,Sl g 2 2]] w _;have n:=K5;go_enter Tryz.func73,Tryz.ntmps73;go_wp2;refine wp_loop_rounds 3 ?_;rw[rounds_succ];go_wp2_with fail;refine(ha (by omega) y _ G (Old.alloc (Old.alloc d _) _) (k.below (C6 _ _ _) d fun _ h=>h)).mono ?_;rintro e s ⟨rfl,c⟩;obtain⟨C,E⟩:=O9 c;have F:=cQq (C6 _ _ _) c p;go_wp2;rw[rounds_succ];go_wp2_with fail;refine(m (by omega) z _ G (Old.below (Old.alloc (Old.alloc d _) _) c) ((l.below (C6 _ _ _) d fun _ h=>h).below c (Old.alloc (Old.alloc d _) _) fun _ h=>h)).mono ?_;rintro e L ⟨rfl,f⟩;have r:=c.size;simp at r;have J:w.heap.size<s.heap.size:=by omega
 obtain⟨H,I⟩:=O9 f;go_wp2;rw[rounds_succ];go_wp2;go_ret;refine⟨dQh ?_,Bj (Bj (C6 _ _ _) c) f⟩;simp[Ls.key,Ls.any]
theorem cQy (p:Pat)(h:wf p):U5 p:=
 Ls.ind vQ8 (fun s _=>wQb s) (fun a b _ _ _ _=>wQa b a) (fun a b _ _=>vQ9 b a) (fun a _=>wQc a) p h
theorem cXa {P:Program}(w:World)(q:Nat)(o:TypeId)(i:TypeInfo)(y:P.underlying t=some (.slice e))(r:P.info? e=some i)(E:i.zero=some z)
  (J:i.size=size) (H:i.bytes=bytes) (W:z.cells.size=size) (U:0<size)
  (v:Value)   (h:w.ownsRow q e size v n xs)
  (a:Addr) (c:Nat)  (f:news.length=m*size) (s:∀j u,news[j]?=some u->w.cell? (a.add j)=some u) (G:∀u∈news,u.oneCell'=true)
  (B:n+m<=maxLen) (C:(n+m)*bytes<=140737488355328) (N:q<=w.heap.size) (hm:0<m) :
  ∃d p,(Builtin.append_ #[t,t] o #[v,.slice (some a) m c]).run P w=.ok d p/\p.ownsRow q e size d (n+m) (xs++news)/\w.grownBy p v.ownBlock/\
   (d.ownBlock=v.ownBlock\/∃k,d.ownBlock=some k/\w.heap.size<=k):=by
 obtain⟨d,p,x,K,L,X⟩:=run_append_own (P:=P) w q t o e i z size bytes y r E J H W U v n xs h a m c news f s G B C N;refine⟨d,p,x,K,L,?_⟩;subst J;subst H
 rcases h.2 with⟨rfl,rfl⟩|⟨g,A,F,rfl,Y,R,a0,Z,O,a1⟩
 ·have V:=List.eq_nil_of_length_eq_zero (by simpa using h.1)
  subst V;have T:m<=9223372036854775807:=by simp only[maxLen]at B;omega
  have b:=run_append_nil (P:=P) w t o e i z y r E a m c news f s (by omega) (by omega) (by have M:=C;simp only[Nat.zero_add]at M;omega);rw[x]at b;injection b with l _;subst l;exact .inr ⟨_,rfl,Nat.le_refl _⟩
 ·have T:n+m<=9223372036854775807:=by simp only[maxLen]at B;omega
  by_cases I:n+m<=A
  ·have Q:n*i.size+news.length<=F.size:=by rw[f,O,<-Nat.add_mul];exact Nat.mul_le_mul_right _ I
   have b:=run_append_room (P:=P) w t o e i y r g n A F R a m c news f s G I Q;rw[x]at b;injection b with l _;subst l;exact .inl rfl
  ·have S:=h.cells (g:=g) rfl
   have b:=run_append_grow (P:=P) w t o e i z y r E ⟨g,0,none⟩ n A xs h.1 S a m c news f s (by omega) (by omega) (growslice_fits (by omega) C);rw[x]at b;injection b with l _;subst l;exact .inr ⟨_,rfl,Nat.le_refl _⟩
theorem P8 {P:Program}(w:World){y:Array Oper}{rest:List Oper}{o:Oper}{a:Act}{Q:Exit->Act->World->Prop}(H:o.guard=none)(s x:Operand)(t:TypeId)
  (M:o.op=.call {callee:=.builtin .append,args:=#[s,x],argTypes:=#[t,t]})
  (l:Nat) (e:TypeId) (i:TypeInfo) (z:Value) (b q:Nat) (T:P.underlying t=some (.slice e)) (I:P.info? e=some i) (V:i.zero=some z)
  (R:i.size=b) (F:i.bytes=q) (W:z.cells.size=b) (S:0<b)
  (v:Value) (n:Nat) (r:List Value) (hs:a.eval s=v) (N:w.ownsRow l e b v n r)
  (p:Addr) (m c:Nat) (f:List Value) (U:a.eval x=.slice (some p) m c) (J:f.length=m*b) (L:∀j u,f[j]?=some u->w.cell? (p.add j)=some u) (A:∀u∈f,u.oneCell'=true)
  (B:n+m<=maxLen) (G:(n+m)*q<=140737488355328) (E:l<=w.heap.size) (K:0<m)
  (h:∀d g,g.ownsRow l e b d (n+m) (r++f)->w.grownBy g v.ownBlock->(d.ownBlock=v.ownBlock\/∃k,d.ownBlock=some k/\w.heap.size<=k)->wpList P y Q rest (a.put o.dst d) g):wpList P y Q (o::rest) a w:=by
 refine wpList_plain H fun a0 C=>?_;obtain⟨d,g,O,X,Y,Z⟩:=cXa (P:=P) t z e n b q r m f w l o.type i T I V R F W S v N p c J L A B G E K;unfold Oper.wp;simp[execOp,M,resolve,invoke,builtin,hs,U,O,Result.andThen];exact C _ _ (h d g X Y Z)
theorem gQ7:(Tryz.prog.info? 27).map (fun i=>(i.zero,i.size,i.bytes))=some (some (.agg #[Iv 0,.string ⟨#[]⟩,.slice none 0 0]),3,48):=by kernel_rfl
def N9 (qs:List (Pat × Value)):List Value:=qs.flatMap fun q=>C2 q.1 q.2
theorem kQg (a b:List (Pat × Value)):N9 (a++b)=N9 a++N9 b:=by simp[N9]
theorem bQ8 (a:List (Pat × Value))(i:Nat)(d:j<3)(b:i<a.length):(N9 a)[i*3+j]?=(C2 a[i].1 a[i].2)[j]?:=by
 induction a generalizing i with
 | nil=>simp at b
 | cons q r c=>
  show (C2 q.1 q.2++N9 r)[i*3+j]?=_;cases i with
  | zero=>rw[List.getElem?_append_left (by simp;omega)];simp
  | succ i=>
   rw[List.getElem?_append_right (by simp;omega)];rw[show (i+1)*3+j-(C2 q.1 q.2).length=i*3+j from by simp;omega];rw[c i (by simpa using b)];simp
structure LV (w:World)(base:Nat)(G:Nat->Prop)(v:Value)(qs:List (Pat × Value)):Prop where
 own:w.ownsRow base 27 3 v qs.length (N9 qs)
 each:∀q,q∈qs->PV w G q.1 q.2
 apart:∀k,G k->some k≠v.ownBlock
 old:Old w G
theorem L5 (h:Bw w w')(r:Option Nat):w.grownBy w' r:=⟨h.os,h.tape,h.output,h.size,fun k a _=>h.block k a⟩
theorem J8 {a b c:World}{r:Option Nat}(h:a.grownBy b r)(k:b.grownBy c r):a.grownBy c r:=
 ⟨k.os.trans h.os,k.tape.trans h.tape,k.output.trans h.output,Lq h.size k.size,fun i d e=>(k.block i (Ll d h.size) e).trans (h.block i d e)⟩
theorem LV.cells {b:Nat}(h:LV w base G (Sl g qs.length b) qs)(i:Nat)(a:i<qs.length) :
  w.cell? ⟨g,i*3,none⟩=some (Iv qs[i].1.kind)/\w.cell? ⟨g,i*3+1,none⟩=some (.string ⟨qs[i].1.signs.toArray⟩)/\w.cell? ⟨g,i*3+2,none⟩=some qs[i].2:=by
 refine⟨?_,?_,?_⟩
 ·rw[h.own.cellAt (i*3) (by omega)];have:=bQ8 0 qs i (by omega) a;simpa using this
 ·rw[h.own.cellAt (i*3+1) (by omega),bQ8 1 qs i (by omega) a];rfl
 ·rw[h.own.cellAt (i*3+2) (by omega),bQ8 2 qs i (by omega) a];rfl
theorem LV.kept (h:LV w base G v qs)(a:Bw w w'):LV w' base G v qs:=
 ⟨h.own.kept (L5 a none) (by cases c:v.ownBlock<;>simp),fun q b=>(h.each q b).below a h.old fun _ h=>h,h.apart,h.old.below a⟩
theorem LV.pushed {f:Value}(h:LV w base G v qs){y:Value}(j:PV w G p y)(g:w.grownBy w' v.ownBlock)
  (i:w'.ownsRow base 27 3 f (qs.length+1) (N9 qs++C2 p y)) (c:f.ownBlock=v.ownBlock\/∃k,f.ownBlock=some k/\w.heap.size<=k):LV w' base G f (qs++[(p,y)]):=by
 have b:∀k,G k->w'.heap[k]?=w.heap[k]?:=fun k b=>g.block k (h.old k b) (h.apart k b);refine⟨?_,?_,?_,?_⟩
 ·rw[kQg,List.length_append];exact i
 ·intro q a
  rcases List.mem_append.1 a with a|a
  ·exact PV.mono (fun _ h=>h) b _ _ (h.each q a)
  ·simp only[List.mem_singleton]at a
   subst a;exact PV.mono (fun _ h=>h) b _ _ j
 ·intro k d
  rcases c with c|⟨m,c,l⟩
  ·rw[c];exact h.apart k d
  ·rw[c];have:=h.old k d;intro e;injection e with e;omega
 ·exact fun k d=>Ll (h.old k d) g.size
theorem hQz {y:Value}(d:PV w G p y):∀u∈C2 p y,u.oneCell'=true:=by
 obtain⟨a,n,c,rfl⟩:=PV.slice _ _ d;intro u b;simp only[List.mem_cons,List.not_mem_nil,or_false]at b;rcases b with rfl|rfl|rfl<;>rfl
theorem gQp (w:World)(p:Pat)(y:Value):∀j u,(C2 p y)[j]?=some u->(w.alloc (.cells #[Iv p.kind,Sv p.signs,y] 27)).cell? ((⟨w.heap.size,0,none⟩:Addr).add j)=some u:=by
 intro j u b;have a:=C7 w (C2 p y);have:=a.cell j;rw[b]at this;rw[<-this];unfold Addr.add;split
 ·subst_vars;rfl
 ·simp
def dQ0 (w:World)(base:Nat)(G:Nat->Prop)(v:Value)(qs:List (Pat × Value))(p:Pat):Ending->World->Prop:=fun e w'=>
 ∃v' qs',e=.returned v'/\qs'.map (·.1)=Ls.put (qs.map (·.1)) p/\LV w' base G v' qs'/\w.grownBy w' v.ownBlock/\(v'.ownBlock=v.ownBlock\/∃k,v'.ownBlock=some k/\w.heap.size<=k)
theorem aXn {k:Nat}(a:k<qs.length)(h:Ls.key qs[k].1=Ls.key p):Ls.put (qs.map (·.1)) p=qs.map (·.1):=by
 unfold Ls.put;rw[if_pos];rw[List.any_eq_true];exact⟨qs[k].1,List.mem_map.2 ⟨qs[k],List.getElem_mem a,rfl⟩,by simp[h]⟩
theorem mQu (h:∀q,q∈qs->Ls.key q.1≠Ls.key p):(qs++[(p,y)]).map (·.1)=Ls.put (qs.map (·.1)) p:=by
 unfold Ls.put;rw[if_neg]
 ·simp
 ·rw[List.any_eq_true]
  rintro ⟨x,c,a⟩;obtain⟨q,b,rfl⟩:=List.mem_map.1 c;exact h q b (by simpa using a)
theorem aXr (w:World)(r:Nat)(a0:r<=w.heap.size)(G:Nat->Prop)(g s:Nat)(a:List (Pat × Value))(h:LV w r G (Sl g a.length s) a)(hn:a.length<=1000000000)
  (b:∀q,q∈a->wf q.1/\(Ls.key q.1).length<=4611686018427387904) (p:Pat)  (z:PV w G p y) (V:wf p) (Q:(Ls.key p).length<=4611686018427387904) :
  Calls Tryz.prog 92 #[Sl g a.length s,B4 p y] w (dQ0 w r G (Sl g a.length s) a p):=by
 have H:Hid _:=b;go_enter Tryz.func92,Tryz.ntmps92;go_wp2_with fail;refine(cQy p V Q y _ G (Old.alloc h.old _) (z.below (A5 _ _) h.old fun _ h=>h)).mono ?_;rintro e u ⟨rfl,l⟩;have L:=Bj (A5 w (.cells #[Iv p.kind,Sv p.signs,y] 27)) l;have A:=l.size;simp at A;have I:=(l.cell (p:=⟨w.heap.size,0,none⟩) (by simp)).trans ((C7 w (C2 p y)).cell 0);have J:=(l.cell (p:=⟨w.heap.size,1,none⟩) (by simp)).trans ((C7 w (C2 p y)).cell 1);have K:=(l.cell (p:=⟨w.heap.size,2,none⟩) (by simp)).trans ((C7 w (C2 p y)).cell 2);go_wp2;go_loopw [6] (fun i wr=>∃k:Nat,k<=a.length/\i=Iv k/\Bw u wr/\∀q,q∈a.take k->Ls.key q.1≠Ls.key p) (fun i _=>a.length-(intOf i).toNat)
 case atStart=>exact⟨0,Nat.zero_le _,rfl,Br,by simp⟩
 case round=>
  obtain⟨k,hk,rfl,c,o⟩:=hrel;have B:Hid _:=o;have t:=Bj L c;have f:=h.kept t
  by_cases n:k<a.length
  ·obtain⟨Z,c1,c2⟩:=f.cells k n
   go_wp2_with fail;have F:=H.out a[k] (List.getElem_mem n);refine(cQy a[k].1 F.1 F.2 a[k].2 _ G f.old (f.each _ (List.getElem_mem n))).mono ?_;rintro e w3 ⟨rfl,x⟩
   by_cases d:Ls.key a[k].1=Ls.key p
   ·have P:(Ls.key a[k].1==Ls.key p)=true:=by simp[d]
    have v:Hid _:=d;go_wp2;go_ret;exact⟨_,a,rfl,(aXn n v.out).symm,f.kept x,L5 (Bj t x) _,.inl rfl⟩
   ·have P:(Ls.key a[k].1==Ls.key p)=false:=by simp[d]
    have v:Hid _:=d;go_wp2;go_roundw
    case rel=>
     refine⟨k+1,by omega,by go_num,Bj c x,fun q b=>?_⟩;rw[List.take_succ_eq_append_getElem n]at b;rcases List.mem_append.1 b with b|b
     ·exact B.out q b
     ·simp only[List.mem_singleton]at b
      rw[b];exact v.out
    case measure=>simp[intOf];omega
  ·have r0:=(c.cell (p:=⟨w.heap.size,0,none⟩) (by show w.heap.size<_;omega)).trans I
   have r1:=(c.cell (p:=⟨w.heap.size,1,none⟩) (by show w.heap.size<_;omega)).trans J;have r2:=(c.cell (p:=⟨w.heap.size,2,none⟩) (by show w.heap.size<_;omega)).trans K;have a1:=c.size;obtain⟨i,N,A,W,X⟩:=info_parts gQ7;have S:=f.own.alloc (.cells #[Iv p.kind,Sv p.signs,y] 27);have M:=gQp wr p y;have T:=hQz z;go_wp2_with (at_builtin;refine P8 _ rfl _ _ 25 rfl r 27 i _ 3 48 Tryz.underlying25 N A W X rfl (by omega) (Sl g a.length s) a.length (N9 a) rfl S ⟨wr.heap.size,0,none⟩ 1 1 (C2 p y) rfl ?l1 M T ?l2 ?l3 ?l4 ?l5 ?_)
   case l1=>rfl
   case l2=>unfold maxLen;omega
   case l3=>omega
   case l4=>simp;omega
   case l5=>omega
   intro Y w' R E j;go_wp2;go_ret;have O:k=a.length:=by omega
   have o:=B.out;rw[O,List.take_length]at o;have U:=f.kept (A5 wr (.cells #[Iv p.kind,Sv p.signs,y] 27));have C:=Bj t (A5 wr (.cells #[Iv p.kind,Sv p.signs,y] 27));refine⟨Y,a++[(p,y)],rfl,mQu y o,U.pushed (z.below C h.old fun _ h=>h) E R (by simpa using j),J8 (L5 C _) E,?_⟩;rcases j with j|⟨m,j,hm⟩
   ·exact .inl j
   ·exact .inr ⟨m,j,by have:=t.size;omega⟩
theorem aXo (w:World)(d:Nat)(I:d<=w.heap.size)(G:Nat->Prop)(h:LV w d G (.slice none 0 0) [])
  (p:Pat)  (f:PV w G p y) (A:wf p) (t:(Ls.key p).length<=4611686018427387904) :
  Calls Tryz.prog 92 #[.slice none 0 0,B4 p y] w (dQ0 w d G (.slice none 0 0) [] p):=by
 go_enter Tryz.func92,Tryz.ntmps92;go_wp2_with fail;refine(cQy p A t y _ G (Old.alloc h.old _) (f.below (A5 _ _) h.old fun _ h=>h)).mono ?_;rintro e a ⟨rfl,c⟩;have g:=Bj (A5 w (.cells #[Iv p.kind,Sv p.signs,y] 27)) c;have B:=c.size;simp at B;have E:=(c.cell (p:=⟨w.heap.size,0,none⟩) (by simp)).trans ((C7 w (C2 p y)).cell 0);have F:=(c.cell (p:=⟨w.heap.size,1,none⟩) (by simp)).trans ((C7 w (C2 p y)).cell 1);have H:=(c.cell (p:=⟨w.heap.size,2,none⟩) (by simp)).trans ((C7 w (C2 p y)).cell 2);have l:=h.kept g;obtain⟨i,o,q,r,s⟩:=info_parts gQ7;have v:=l.own.alloc (.cells #[Iv p.kind,Sv p.signs,y] 27);have n:=gQp a p y;have x:=hQz f;go_wp2;refine wp_loop_rounds 1 ?_;rw[rounds_succ];go_wp2_with (at_builtin;refine P8 _ rfl _ _ 25 rfl d 27 i _ 3 48 Tryz.underlying25 o q r s rfl (by omega) (.slice none 0 0) 0 (N9 []) rfl v ⟨a.heap.size,0,none⟩ 1 1 (C2 p y) rfl ?l1 n x ?l2 ?l3 ?l4 ?l5 ?_)
 case l1=>rfl
 case l2=>unfold maxLen;omega
 case l3=>omega
 case l4=>simp;omega
 case l5=>omega
 intro C K u k b;go_wp2;go_ret;have z:=l.kept (A5 a (.cells #[Iv p.kind,Sv p.signs,y] 27));have j:=Bj g (A5 a (.cells #[Iv p.kind,Sv p.signs,y] 27));refine⟨C,[]++[(p,y)],rfl,mQu y (by simp),z.pushed (f.below j h.old fun _ h=>h) k u (by simpa using b),J8 (L5 j _) k,?_⟩;rcases b with b|⟨m,b,J⟩
 ·exact .inl b
 ·exact .inr ⟨m,b,by omega⟩
theorem dQd (w:World)(b:Nat)(c:b<=w.heap.size)(G:Nat->Prop)(v:Value)(a:List (Pat × Value))(h:LV w b G v a)(k:a.length<=1000000000)
  (l:∀q,q∈a->wf q.1/\(Ls.key q.1).length<=4611686018427387904) (p:Pat) (y:Value) (e:PV w G p y) (f:wf p) (d:(Ls.key p).length<=4611686018427387904) :
  Calls Tryz.prog 92 #[v,B4 p y] w (dQ0 w b G v a p):=by
 rcases h.own.2 with⟨rfl,j⟩|⟨g,i,m,rfl,_⟩
 ·have:a=[]:=List.eq_nil_of_length_eq_zero j
  subst this;exact aXo y w b c G h p e f d
 ·exact aXr y w b c G g i a h k l p e f d
def GG (G:Nat->Prop)(B0:Nat)(w:World)(v:Value):Nat->Prop:=fun k=>(G k\/B0<=k)/\k<w.heap.size/\some k≠v.ownBlock
abbrev LW (G:Nat->Prop)(B0:Nat)(w:World)(base:Nat)(v:Value)(qs:List (Pat × Value)):Prop:=LV w base (GG G B0 w v) v qs
theorem LW.of (h:LV w base H v qs)(b:∀k,H k->G k\/B0<=k):LW G B0 w base v qs:=
 ⟨h.own,fun q c=>PV.mono (fun k a=>⟨b k a,h.old k a,h.apart k a⟩) (fun _ _=>rfl) _ _ (h.each q c),fun _ a=>a.2.2,fun _ a=>a.2.1⟩
theorem LW.nil (G:Nat->Prop)(b:Nat)(w:World)(c:Nat):LW G b w c (.slice none 0 0) []:=
 ⟨World.ownsRow_nil _ _ _ _,by simp,fun _ a=>a.2.2,fun _ a=>a.2.1⟩
theorem LW.below (h:LW G B0 w base v qs)(a:Bw w w'):LW G B0 w' base v qs:=
 LW.of (h.kept a) fun _ b=>b.1
structure Grows (G:Nat->Prop)(B0:Nat)(w2:World)(base:Nat)(v0:Value)(w:World)(v:Value)(qs:List (Pat × Value)):Prop where
 lw:LW G B0 w base v qs
 grown:w2.grownBy w v0.ownBlock
 row:v.ownBlock=v0.ownBlock\/∃k,v.ownBlock=some k/\w2.heap.size<=k
theorem Grows.start (h:LW G B0 w2 base v0 qs):Grows G B0 w2 base v0 w2 v0 qs:=
 ⟨h,World.grownBy.refl _ _,.inl rfl⟩
theorem Grows.below (h:Grows G B0 w2 base v0 w v qs)(a:Bw w w'):Grows G B0 w2 base v0 w' v qs:=
 ⟨h.lw.below a,J8 h.grown (L5 a _),h.row⟩
theorem Grows.block (h:Grows G B0 w2 base v0 w v qs){k:Nat}(c:k<w2.heap.size)(b:some k≠v0.ownBlock):w.heap[k]?=w2.heap[k]?/\some k≠v.ownBlock:=by
 refine⟨h.grown.block k c b,?_⟩;rcases h.row with e|⟨m,e,d⟩
 ·rw[e];exact b
 ·rw[e];intro a;injection a with a;omega
theorem Grows.fits (h:Grows G B0 w2 base v0 w v qs)(b:∀k,H k->(G k\/B0<=k)/\k<w2.heap.size/\some k≠v0.ownBlock)
   {y:Value} (c:PV w2 H p y):PV w (GG G B0 w v) p y:=
 PV.mono (fun k a=>⟨(b k a).1,Ll (b k a).2.1 h.grown.size,(h.block (b k a).2.1 (b k a).2.2).2⟩) (fun k a=>(h.block (b k a).2.1 (b k a).2.2).1) _ _ c
theorem Grows.put (h:Grows G B0 w2 base v0 w v qs){e:Ending}(o:dQ0 w base (GG G B0 w v) v qs p e w') :
  ∃d c,e=.returned d/\c.map (·.1)=Ls.put (qs.map (·.1)) p/\Grows G B0 w2 base v0 w' d c:=by
 obtain⟨d,c,j,f,l,a,q⟩:=o;refine⟨d,c,j,f,LW.of l fun _ b=>b.1,?_,?_⟩
 ·refine⟨a.os.trans h.grown.os,a.tape.trans h.grown.tape,a.output.trans h.grown.output,Lq h.grown.size a.size,fun k b n=>?_⟩
  obtain⟨g,i⟩:=h.block b n;exact(a.block k (Ll b h.grown.size) i).trans g
 ·rcases q with e|⟨m,e,f⟩
  ·rw[e];exact h.row
  ·exact .inr ⟨m,e,Lq h.grown.size f⟩
theorem Grows.other (h:Grows G B0 w2 base v0 w v qs){b:Nat}{a:Value}{n:Nat}{c:List Value}(d:w2.ownsRow b 27 3 a n c)(e:a.ownBlock=none\/a.ownBlock≠v0.ownBlock):w.ownsRow b 27 3 a n c:=
 d.kept h.grown e
def nx (s:By)(i:Nat):UInt8:=s.data.toList[i]?.getD 0
theorem M6 (h:i<s.size):nx s i=s[i]:=by
 unfold nx;rw[List.getElem?_eq_getElem (by simpa using h)];rfl
theorem dQa (h:s.size<=i):nx s i=0:=by
 unfold nx;rw[List.getElem?_eq_none (by simpa using h)];rfl
theorem E5:Bw w (w.drewN n):=by
 exact⟨rfl,rfl,rfl,Nat.le_refl _,fun _ _=>rfl⟩
theorem V8 (w:World)(a o:Nat)(v:Value):w.grownBy (w.setCell ⟨a,o,none⟩ v) (some a):=
 ⟨rfl,rfl,rfl,by simp[World.setCell],fun k _ b=>Below.heap_setCell _ _ _ _ (fun e=>b (by simp[e]))⟩
def A7 (s:By)(i:Nat)(c:UInt8):Bool:=decide (i<s.size)&&nx s i==c
abbrev rest (s:By)(i:Nat):Lu:=s.data.toList.drop i
theorem D4 (h:i<s.size):rest s i=nx s i::rest s (i+1):=by
 rw[M6 h];exact List.drop_eq_getElem_cons (by simpa using h)
theorem P4 (h:s.size<=i):rest s i=[]:=List.drop_eq_nil_of_le (by simpa using h)
theorem F4 (s:By)(i:Nat):(rest s i).length=s.size-i:=by simp
theorem q9 (h:iXl (nx s i)=true):i<s.size:=by
 rcases Nat.lt_or_ge i s.size with a|a
 ·exact a
 ·rw[dQa a]at h;exact absurd h (by decide)
theorem mQw (h:iXl (nx s i)=false):gXc (rest s i)=.none:=by
 rcases Nat.lt_or_ge i s.size with a|a
 ·rw[D4 a];unfold gXc;dsimp only;rw[if_pos h]
 ·rw[P4 a];rfl
theorem D9 {c:UInt8}(h:A7 s i c=true):i<s.size/\nx s i=c:=by simpa [A7] using h
theorem mQ5 {c:UInt8}(h:A7 s i c=true):rest s i=c::rest s (i+1):=by
 obtain⟨a,b⟩:=D9 h;rw[D4 a,b]
theorem C4 {c:UInt8}:((rest s i).head?=some c)↔A7 s i c=true:=by
 rcases Nat.lt_or_ge i s.size with a|a
 ·rw[D4 a];simp[A7,a]
 ·rw[P4 a];simp[A7];omega
theorem E7 (s:By)(i:Nat):(rest s i).tail=rest s (i+1):=by simp
theorem mQx (h:iXl (nx s i)=true)(a:A7 s (i+1) 45=false):gXc (rest s i)=some (nx s i,nx s i,rest s (i+1)):=by
 rw[D4 (q9 h)];unfold gXc;dsimp only;rw[if_neg (by simp[h]),if_neg (by rw[C4,a];simp)]
theorem hQ8 (h:iXl (nx s i)=true)(b:A7 s (i+1) 45=true)(c:iXl (nx s (i+1+1))=false\/(nx s (i+1+1)).toNat<(nx s i).toNat):gXc (rest s i)=.none:=by
 rw[D4 (q9 h)];unfold gXc;dsimp only;rw[if_neg (by simp[h]),if_pos (C4.2 b),E7];rcases Nat.lt_or_ge (i+1+1) s.size with a|a
 ·rw[D4 a];dsimp only;rw[if_pos c]
 ·rw[P4 a]
theorem mQy (h:iXl (nx s i)=true)(b:A7 s (i+1) 45=true)(a:iXl (nx s (i+1+1))=true)(c:¬(nx s (i+1+1)).toNat<(nx s i).toNat):gXc (rest s i)=some (nx s i,nx s (i+1+1),rest s (i+1+1+1)):=by
 rw[D4 (q9 h)];unfold gXc;dsimp only;rw[if_neg (by simp[h]),if_pos (C4.2 b),E7,D4 (q9 a)];dsimp only
 rw[if_neg (by rw[a];simp;omega)]
theorem cQh (a b:UInt8):gXo acc a b (n+1)=if a.toNat<=n/\n<=b.toNat/\Ls.has (gXo acc a b n) (UInt8.ofNat n)=false then gXo acc a b n++[UInt8.ofNat n] else gXo acc a b n:=by
 unfold gXo;rw[List.range_succ,List.foldl_append];rfl
theorem bXl (a b:UInt8):(gXo acc a b n).length<=acc.length+n:=by
 induction n with
 | zero=>simp[gXo]
 | succ n c=>
  rw[cQh];split
  ·rw[List.length_append];simp only[List.length_cons,List.length_nil];omega
  ·omega
def B8 (w w':World):Nat->Prop:=fun k=>w.heap.size<=k/\k<w'.heap.size
theorem yQv {e:TypeId}{d:Nat}{n:Nat}{f:List Value}(h:w.ownsRow base e d v n f):(v=.slice none 0 0/\n=0)\/∃g a,v=Sl g n a:=by
 rcases h.2 with⟨b,c⟩|⟨g,a,i,e,_⟩
 ·exact .inl ⟨b,c⟩
 ·exact .inr ⟨g,a,e⟩
def gQm (N:Nat):List Pr:=[0,1,2].flatMap fun ph=>(List.range N).flatMap fun x=>(List.range N).map fun y=>(ph,x,y)
theorem kQf {α:Type}(l:List α)(f:α->List Pr)(h:∀a,(f a).length=n):(l.flatMap f).length=l.length*n:=by
 induction l with
 | nil=>simp
 | cons x l b=>rw[List.flatMap_cons,List.length_append,b,h];simp[Nat.add_mul];omega
theorem qQ2 (N:Nat):(gQm N).length=3*(N*N):=by
 unfold gQm;rw[kQf (N*N) _ _ (fun a=>by rw[kQf N _ _ (fun x=>by simp)];simp)];rfl
theorem cXx {N:Nat}{l:List Pr}(h:l.Nodup)(e:∀a,a∈l->(a.1=0\/a.1=1\/a.1=2)/\a.2.1<N/\a.2.2<N):l.length<=3*(N*N):=by
 rw[<-qQ2];refine jXh _ _ h (fun a ha=>?_);obtain⟨b,c,d⟩:=e a ha;obtain⟨p,x,y⟩:=a;unfold gQm;simp only[List.mem_flatMap,List.mem_map,List.mem_range];refine⟨p,?_,x,c,y,d,rfl⟩;simp only at b;rcases b with rfl|rfl|rfl<;>simp
end Go.Proofs.YtfklinjaajafgaaGreatDoor
namespace Go.Proofs.YtfklinjaajafgaaGreatDoor
open Ls hiding none
variable {l:Ln}{s:By}
def E6 (s:Lu):Option Ln:=match fXa 13 s with
 | some (l,[])=>some l
 | _=>.none
def CompIs (s:Lu)(r:Nat):Prop:=
 (120<s.length/\r=1)\/(s.length<=120/\((E6 s=.none/\r=2)\/∃l,E6 s=some l/\((24<eX7 l/\r=3)\/(eX7 l<=24/\((¬B5 l/\r=4)\/(B5 l/\r=0))))))
theorem CompIs.one {s:Lu}{r t:Nat}(h:CompIs s r)(k:CompIs s t):r=t:=by
 rcases h with⟨i,rfl⟩|⟨i,j⟩
 ·rcases k with⟨_,rfl⟩|⟨q,_⟩
  ·rfl
  ·omega
 ·rcases k with⟨q,_⟩|⟨_,e⟩
  ·omega
  ·rcases j with⟨b,rfl⟩|⟨l,b,n⟩
   ·rcases e with⟨_,rfl⟩|⟨m,a,_⟩
    ·rfl
    ·rw[b]at a;cases a
   ·rcases e with⟨a,_⟩|⟨m,a,f⟩
    ·rw[b]at a;cases a
    ·obtain rfl:l=m:=Option.some.inj (b.symm.trans a)
     rcases n with⟨o,rfl⟩|⟨o,p⟩
     ·rcases f with⟨_,rfl⟩|⟨u,_⟩
      ·rfl
      ·omega
     ·rcases f with⟨u,_⟩|⟨_,g⟩
      ·omega
      ·rcases p with⟨c,rfl⟩|⟨c,rfl⟩
       ·rcases g with⟨_,rfl⟩|⟨d,_⟩
        ·rfl
        ·exact absurd d c
       ·rcases g with⟨d,_⟩|⟨_,rfl⟩
        ·exact absurd c d
        ·rfl
theorem hQ9 (s:By):rest s 0=s.data.toList:=rfl
theorem mQo (h:fXa 13 (rest s 0)=.none):E6 s.data.toList=.none:=by
 unfold E6;rw[<-hQ9,h]
theorem mQp (h:fXa 13 (rest s 0)=some (l,rest s s.size)):E6 s.data.toList=some l:=by
 unfold E6;rw[<-hQ9,h,P4 (Nat.le_refl _)]
theorem mQn {i:Nat}(h:fXa 13 (rest s 0)=some (l,rest s i))(a:i<s.size):E6 s.data.toList=.none:=by
 unfold E6;rw[<-hQ9,h,D4 a]
end Go.Proofs.YtfklinjaajafgaaGreatDoor
