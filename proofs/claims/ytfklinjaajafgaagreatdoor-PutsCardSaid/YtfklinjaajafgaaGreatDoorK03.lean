import Derived.WalkSpells
import Derived.WalkLawsBesides
import Derived.BigQuiet
import Derived.Test.YtfklinjaajafgaaGreatDoorK01
import Derived.Handy
import Derived.Test.YtfklinjaajafgaaGreatDoorTie
import Derived.Test.YtfklinjaajafgaaGreatDoorCards
import Derived.ShutString
import Derived.LaidMore
import Derived.Stop.LaidErr
import Derived.Stop.Asserts
set_option maxRecDepth 100000
set_option maxHeartbeats 4000000
namespace Go.Proofs.YtfklinjaajafgaaGreatDoor
open Ls
open Go.RowKit
abbrev Bw (w w':World):Prop:=Below w.heap.size w w'
abbrev Ce (w:World)(b o:Nat)(v:Value):Prop:=w.cell? ⟨b,o,none⟩=some v
abbrev Pt (b:Nat):Value:=.pointer (some ⟨b,0,none⟩)
abbrev Ca:=Calls Tryz.prog
abbrev Rt (v:Value)(W:World):Ending->World->Prop:=fun e w'=>e=.returned v/\Below W.heap.size W w'
theorem Br {B:Nat}{w:World}:Below B w w:=Below.refl B w
theorem Ll {a b c:Nat}(h:a<b)(k:b<=c):a<c:=Nat.lt_of_lt_of_le h k
theorem Lq {a b c:Nat}(h:a<=b)(k:b<=c):a<=c:=Nat.le_trans h k
abbrev Iv (n:Int):Value:=.int .i64 n
abbrev Sl (g n c:Nat):Value:=.slice (some ⟨g,0,none⟩) n c
abbrev Sv (x:Lu):Value:=.string ⟨x.toArray⟩
abbrev Ba (x:Lu):By:=⟨x.toArray⟩
abbrev Hz (w:World):Nat:=w.heap.size
abbrev Dl (s:By):Lu:=s.data.toList
abbrev Zl:Value:=.slice none 0 0
abbrev Ez:Value:=.string ⟨#[]⟩
abbrev Fv (f:Nat)(c:Array Value):Value:=.func (.func f) #[] c
abbrev Uc:Obj:=.cells #[.int .u32 (0:Nat),.int .u32 (0:Nat),.bool false] 150
abbrev Zp:Obj:=.cells #[.int .i64 0,.string ⟨#[]⟩,.slice none 0 0] 27
theorem Nr {a:Nat}:a<=a:=Nat.le_refl a
variable {B B0 base g i:Nat}{G H:Nat->Prop}{W w w' w1 w2:World}{p:Pat}{qs:List (Pat × Value)}{s:By}{v v0:Value}(acc:Lu)(q b:Pat)(j:Nat)(a:Pat)(x:List Value)(t:TypeId)(k:Nat)(y z:Value)(e:TypeId)(n:Nat)(c:UInt8)(size bytes:Nat)(xs:List Value)(m:Nat)(news:List Value)
theorem R5 {a b:Bool}(h:a=b):Ending.returned (.bool a)=.returned (.bool b):=by rw[h]
theorem M7 (w:World) :
  Calls Tryz.prog 71 #[.int .u8 c.toNat] w fun e a=>e=.returned (.bool (gXu c))/\a=w:=by
 go_enter Tryz.func71,Tryz.ntmps71;go_wp2
 all_goals
  go_ret;refine⟨R5 ?_,rfl⟩;rw[Bool.eq_iff_iff];simp[gXu];omega
theorem lQp (w:World) :
  Calls Tryz.prog 142 #[.int .u8 c.toNat] w fun e a=>e=.returned (.bool (iXl c))/\a=w:=by
 go_enter Tryz.func142,Tryz.ntmps142;go_wp2
 all_goals
  go_ret;refine⟨R5 ?_,rfl⟩;rw[Bool.eq_iff_iff];simp[iXl];omega
theorem nQ4 (s:By)(h:k<s.size):s.data.toList.take (k+1)=s.data.toList.take k++[s[k]]:=by
 rw[List.take_succ_eq_append_getElem (by simpa using h)];rfl
theorem xQu (s:By)(h:k<s.size):s[k]∈s.data.toList:=by
 rw[ByteArray.getElem_eq_getElem_data];simp
theorem gQ6 (s:By)(w:World)(hs:s.size<=maxLen) :
  Calls Tryz.prog 72 #[.string s,.int .u8 c.toNat] w fun e n=>e=.returned (.bool (Ls.has s.data.toList c))/\n=w:=by
 unfold maxLen at hs;go_enter Tryz.func72,Tryz.ntmps72;go_wp2
 go_loop [5] (fun i=>∃k:Nat,k<=s.size/\i=Iv k/\Ls.has ((Dl s).take k) c=false) (fun i=>s.size-(intOf i).toNat)
 case atStart=>exact⟨0,Nat.zero_le _,rfl,rfl⟩
 case round=>
  obtain⟨k,o,rfl,j⟩:=hrel;have f:Hid _:=j
  by_cases g:k<s.size
  ·have l:Hid _:=nQ4 k s g
   by_cases a:s[k]=c
   ·have m:((s[k].toNat:Int)==(c.toNat:Int))=true:=by simp[a]
    have d:Hid _:=a;go_wp2
    go_ret;refine⟨R5 ?_,rfl⟩;symm
    rw[Ls.has,List.any_eq_true];exact⟨s[k],xQu k s g,by simp[d.out]⟩
   ·have m:((s[k].toNat:Int)==(c.toNat:Int))=false:=by
     rw[beq_eq_false_iff_ne];intro h;exact a (UInt8.toNat_inj.1 (by omega))
    have d:Hid (¬s[k]=c):=a;go_wp2
    go_round
    case rel=>exact⟨k+1,by omega,by go_num,by rw[l.out,Ls.has,List.any_append];have b:=f.out;rw[Ls.has]at b;simp[b,d.out]⟩
    case measure=>simp[intOf];omega
  ·go_wp2
   go_ret;have b:=f.out;rw[List.take_of_length_le (by simp;omega)]at b;exact⟨R5 b.symm,rfl⟩
abbrev C2 (p:Pat)(sl:Value):List Value:=[.int .i64 p.kind,.string ⟨p.signs.toArray⟩,sl]
abbrev B4 (p:Pat)(sl:Value):Value:=.agg #[.int .i64 p.kind,.string ⟨p.signs.toArray⟩,sl]
def Lies (w:World)(g:Nat)(x:List Value):Prop:=w.heap[g]?=some (.cells x.toArray 27 (0,0))
theorem Lies.cell {x:List Value}(h:Lies w g x)(j:Nat):w.cell? ⟨g,j,none⟩=x[j]?:=by
 unfold Lies at h;simp[World.cell?,h]
theorem Lies.lt {x:List Value}(h:Lies w g x):g<w.heap.size:=(Array.getElem?_eq_some_iff.1 h).1
def Old (w:World)(G:Nat->Prop):Prop:=∀k,G k->k<w.heap.size
def PV (w:World)(G:Nat->Prop):Pat->Value->Prop
 | ⟨_,_,[]⟩,sl=>sl=.slice none 0 0
 | ⟨_,_,[a]⟩,sl=>∃g y,G g/\sl=.slice (some ⟨g,0,none⟩) 1 1/\Lies w g (C2 a y)/\PV w G a y
 | ⟨_,_,[a,b]⟩,sl=>∃g y z,G g/\sl=.slice (some ⟨g,0,none⟩) 2 2/\Lies w g (C2 a y++C2 b z)/\PV w G a y/\PV w G b z
 | _,_=>False
theorem PV.mono {w w':World}{G G':Nat->Prop}(d:∀k,G k->G' k)(e:∀k,G k->w'.heap[k]?=w.heap[k]?):(p:Pat)->(x:Value)->PV w G p x->PV w' G' p x
 | ⟨k,s,[]⟩,x,h=>by simpa [PV] using h
 | ⟨k,s,[a]⟩,x,h=>by
  rw[PV]at h ⊢;obtain⟨g,y,c,i,j,f⟩:=h;exact⟨g,y,d g c,i,by unfold Lies at j ⊢;rw[e g c];exact j,PV.mono d e a y f⟩
 | ⟨k,s,[a,b]⟩,x,h=>by
  rw[PV]at h ⊢;obtain⟨g,y,z,c,i,f,l,m⟩:=h;exact⟨g,y,z,d g c,i,by unfold Lies at f ⊢;rw[e g c];exact f,PV.mono d e a y l,PV.mono d e b z m⟩
 | ⟨k,s,_::_::_::_⟩,x,h=>by simp[PV]at h
theorem PV.slice {w:World}{G:Nat->Prop}:(p:Pat)->(x:Value)->PV w G p x->∃a n c,x=.slice a n c
 | ⟨k,s,[]⟩,x,h=>⟨_,_,_,by simpa [PV] using h⟩
 | ⟨k,s,[a]⟩,x,h=>by rw[PV]at h;obtain⟨g,y,e,d,i,f⟩:=h;exact⟨_,_,_,d⟩
 | ⟨k,s,[a,b]⟩,x,h=>by rw[PV]at h;obtain⟨g,y,z,e,d,f,j,l⟩:=h;exact⟨_,_,_,d⟩
 | ⟨k,s,_::_::_::_⟩,x,h=>by simp[PV]at h
theorem PV.below {G':Nat->Prop}(c:Below B w w')(a:∀k,G k->k<B)(b:∀k,G k->G' k){x:Value}(h:PV w G p x):PV w' G' p x:=
 PV.mono b (fun k d=>c.block k (a k d)) p x h
def F5 (G:Nat->Prop)(w w':World):Nat->Prop:=fun k=>G k\/(w.heap.size<=k/\k<w'.heap.size)
theorem C7 (w:World)(x:List Value):Lies (w.alloc (.cells x.toArray 27)) w.heap.size x:=by
 unfold Lies;exact heap_alloc_new w _
theorem fQp (w:World)(a b c:Obj):(((w.alloc a).alloc b).alloc c).heap.size=w.heap.size+1+1+1:=by simp
theorem PV.two {q:Pat}{y z:Value}(e:PV w G p y)(f:PV w G q z)(a:Old w G)(b:Bw w w')(d:w.heap.size<=g)(c:Lies w' g (C2 p y++C2 q z))(k:Nat)(s:Lu) :
  PV w' (F5 G w w') ⟨k,s,[p,q]⟩ (Sl g 2 2):=by
 rw[PV];exact⟨g,y,z,.inr ⟨d,c.lt⟩,rfl,c,e.below b a fun _=>.inl,f.below b a fun _=>.inl⟩
theorem PV.one {y:Value}(e:PV w G p y)(b:Old w G)(c:Bw w w')(d:w.heap.size<=g)(a:Lies w' g (C2 p y))(k:Nat)(s:Lu) :
  PV w' (F5 G w w') ⟨k,s,[p]⟩ (Sl g 1 1):=by
 rw[PV];exact⟨g,y,.inr ⟨d,a.lt⟩,rfl,a,e.below c b fun _=>.inl⟩
theorem A5 (w:World)(a:Obj):Bw w (w.alloc a):=Br.alloc Nr _
theorem C6 (w:World)(a b:Obj):Bw w ((w.alloc a).alloc b):=(A5 w a).alloc (by simp) _
theorem Q0 (w:World)(a b c:Obj):Bw w (((w.alloc a).alloc b).alloc c):=(C6 w a b).alloc (by simp;omega) _
theorem bQx (w:World)(a b c d:Obj):Bw w ((((w.alloc a).alloc b).alloc c).alloc d):=(Q0 w a b c).alloc (by simp;omega) _
theorem xQb (w:World)(a b:Obj):Lies (((w.alloc a).alloc b).alloc (.cells x.toArray 27)) (w.heap.size+1+1) x:=by
 have:=C7 ((w.alloc a).alloc b) x;simpa using this
theorem lQf (w:World)(a b c:Obj):Lies ((((w.alloc a).alloc b).alloc c).alloc (.cells x.toArray 27)) (w.heap.size+1+1+1) x:=by
 have:=C7 (((w.alloc a).alloc b).alloc c) x;rwa [fQp]at this
theorem eQl (p:Pat)(w:World)(G:Nat->Prop)(g:Old w G)(b:PV w G p y)(c:PV w G q z) :
  Calls Tryz.prog 69 #[B4 p y,B4 q z] w fun e a=>∃x,e=.returned (B4 (Ls.any p q) x)/\PV a (F5 G w a) (Ls.any p q) x/\Bw w a:=by
 have d:Hid _:=b;have f:Hid _:=c;go_enter Tryz.func69,Tryz.ntmps69;go_wp2
 refine bodyPost_ret (v:=B4 (Ls.any p q) (.slice (some ⟨Hz w+1+1+1,0,none⟩) 2 2)) (by simp[results,Tryz.results69,go_sem,Ls.any]) rfl ⟨_,rfl,?_,?_⟩
 ·exact PV.two d.out f.out g (bQx _ _ _ _ _) (by omega) (lQf (C2 p y++C2 q z) w _ _ _) 3 []
 ·exact bQx _ _ _ _ _
theorem aQ5 (p:Pat)(w:World)(G:Nat->Prop)(d:Old w G)(b:PV w G p y) :
  Calls Tryz.prog 85 #[B4 p y] w fun e a=>∃x,e=.returned (B4 (fXl p) x)/\PV a (F5 G w a) (fXl p) x/\Bw w a:=by
 have c:Hid _:=b;go_enter Tryz.func85,Tryz.ntmps85;go_wp2
 refine bodyPost_ret (v:=B4 (fXl p) (.slice (some ⟨Hz w+1+1,0,none⟩) 1 1)) (by simp[results,Tryz.results85,go_sem,fXl]) rfl ⟨_,rfl,?_,?_⟩
 ·exact PV.one c.out d (Q0 _ _ _ _) (by omega) (xQb (C2 p y) w _ _) 4 []
 ·exact Q0 _ _ _ _
theorem aQc (p q:Pat)(y z:Value)(w:World)(G:Nat->Prop)(d:Old w G)(f:PV w G p y)(g:PV w G q z) :
  Calls Tryz.prog 84 #[B4 p y,B4 q z] w fun e h=>∃x,e=.returned (B4 (Ls.row p q) x)/\PV h (F5 G w h) (Ls.row p q) x/\Bw w h:=by
 obtain⟨m,n,o,rfl⟩:=PV.slice _ _ f;obtain⟨r,s,t,rfl⟩:=PV.slice _ _ g;have i:Hid _:=f;have j:Hid _:=g
 by_cases a:p.kind=0
 ·have k:((p.kind:Int)==0)=true:=by simp[a]
  have b:Hid (Ls.row p q=q):=by unfold Ls.row;rw[if_pos a];rfl
  go_enter Tryz.func84,Tryz.ntmps84;go_wp2
  (try simp only[Exit.inBlock,Exit.then])
  refine bodyPost_ret (v:=B4 q (.slice r s t)) (by simp[results,Tryz.results84,go_sem]) rfl ⟨_,by rw[b.out],?_,?_⟩
  ·rw[b.out];exact j.out.below (Q0 _ _ _ _) d fun _=>.inl
  ·exact Q0 _ _ _ _
 ·have k:((p.kind:Int)==0)=false:=by simp[a]
  by_cases c:q.kind=0
  ·have l:((q.kind:Int)==0)=true:=by simp[c]
   have b:Hid (Ls.row p q=p):=by unfold Ls.row;rw[if_neg a,if_pos c];rfl
   go_enter Tryz.func84,Tryz.ntmps84;go_wp2
   (try simp only[Exit.inBlock,Exit.then])
   refine bodyPost_ret (v:=B4 p (.slice m n o)) (by simp[results,Tryz.results84,go_sem]) rfl ⟨_,by rw[b.out],?_,?_⟩
   ·rw[b.out];exact i.out.below (Q0 _ _ _ _) d fun _=>.inl
   ·exact Q0 _ _ _ _
  ·have l:((q.kind:Int)==0)=false:=by simp[c]
   have b:Hid (Ls.row p q=gX4 p q):=by unfold Ls.row;rw[if_neg a,if_neg c];rfl
   go_enter Tryz.func84,Tryz.ntmps84;go_wp2
   refine bodyPost_ret (v:=B4 (gX4 p q) (.slice (some ⟨Hz w+1+1+1,0,none⟩) 2 2)) (by simp[results,Tryz.results84,go_sem,gX4]) rfl ⟨_,by rw[b.out],?_,?_⟩
   ·rw[b.out];exact PV.two i.out j.out d (bQx _ _ _ _ _) (by omega) (lQf (C2 p _++C2 q _) w _ _ _) 2 []
   ·exact bQx _ _ _ _ _
theorem Lies.six {a b:Pat}{y z:Value}(h:Lies w g (C2 a y++C2 b z)) :
  Ce w g 0 (Iv a.kind)/\Ce w g 1 (Sv a.signs)/\Ce w g 2 y/\
  Ce w g 3 (Iv b.kind)/\Ce w g 4 (Sv b.signs)/\Ce w g 5 z:=
 ⟨h.cell 0,h.cell 1,h.cell 2,h.cell 3,h.cell 4,h.cell 5⟩
theorem Lies.three {a:Pat}{y:Value}(h:Lies w g (C2 a y)) :
  Ce w g 0 (Iv a.kind)/\Ce w g 1 (Sv a.signs)/\Ce w g 2 y:=
 ⟨h.cell 0,h.cell 1,h.cell 2⟩
theorem O9 (a:Bw W w1):(∀b o,b<W.heap.size->w1.cell? ⟨b,o,none⟩=W.cell? ⟨b,o,none⟩)/\(∀b o,b<W.heap.size->w1.frozen? ⟨b,o,none⟩=W.frozen? ⟨b,o,none⟩):=
 ⟨fun b o h=>a.cell (p:=⟨b,o,none⟩) h,fun b o h=>a.frozen (p:=⟨b,o,none⟩) h⟩
theorem Old.alloc (h:Old w G)(o:Obj):Old (w.alloc o) G:=fun k a=>by have:=h k a;simp;omega
theorem Old.below (h:Old w G)(a:Below B w w'):Old w' G:=fun k b=>by have:=h k b;have:=a.size;omega
def Y0 (p:Pat):Prop:=∀(y:Value) (w:World) (G:Nat->Prop),Old w G->PV w G p y->
  Ca 74 #[B4 p y] w (Rt (.bool (Ls.empty p)) w)
theorem uQb:Y0 nN:=by
 intro y w G a b;show Calls _ _ #[.agg #[Iv 0,Ez,y]] w _;go_enter Tryz.func74,Tryz.ntmps74;go_wp2;go_ret;exact⟨rfl,A5 _ _⟩
theorem uQe (s:Lu):Y0 (Ls.set s):=by
 intro y w G a b;show Calls _ _ #[.agg #[Iv 1,Sv s,y]] w _;go_enter Tryz.func74,Tryz.ntmps74;go_wp2;go_ret;exact⟨rfl,A5 _ _⟩
theorem uQf:Y0 (fXl a):=by
 intro y w G b c;show Calls _ _ #[.agg #[Iv 4,Ez,y]] w _;go_enter Tryz.func74,Tryz.ntmps74;go_wp2;go_ret;exact⟨rfl,A5 _ _⟩
theorem uQd (ha:Y0 a)(k:Y0 b):Y0 (gX4 a b):=by
 intro A w G c n;obtain⟨g,y,z,m,rfl,f,i,j⟩:=n;have x:=f.lt;obtain⟨o,p,q,r,s,t⟩:=f.six;show Calls _ _ #[.agg #[Iv 2,Ez,Sl g 2 2]] w _;go_enter Tryz.func74,Tryz.ntmps74;go_wp2_with fail;refine(ha y _ G (Old.alloc c _) (i.below (A5 _ _) c fun _ h=>h)).mono ?_;rintro e B ⟨rfl,d⟩;obtain⟨u,v⟩:=O9 d;go_wp2_with fail;refine(k z _ G (Old.below (Old.alloc c _) d) ((j.below (A5 _ _) c fun _ h=>h).below d (Old.alloc c _) fun _ h=>h)).mono ?_;rintro e C ⟨rfl,l⟩;go_wp2
 all_goals
  go_ret;refine⟨R5 (by simp[Ls.empty,gX4, *]),((A5 _ _).trans (d.mono (by simp))).trans (l.mono ?_)⟩;have:=d.size;simp at this;omega
theorem uQc (ha:Y0 a)(k:Y0 b):Y0 (Ls.any a b):=by
 intro A w G c n;obtain⟨g,y,z,m,rfl,f,i,j⟩:=n;have x:=f.lt;obtain⟨o,p,q,r,s,t⟩:=f.six;show Calls _ _ #[.agg #[Iv 3,Ez,Sl g 2 2]] w _;go_enter Tryz.func74,Tryz.ntmps74;go_wp2_with fail;refine(ha y _ G (Old.alloc c _) (i.below (A5 _ _) c fun _ h=>h)).mono ?_;rintro e B ⟨rfl,d⟩;obtain⟨u,v⟩:=O9 d;go_wp2_with fail;refine(k z _ G (Old.below (Old.alloc c _) d) ((j.below (A5 _ _) c fun _ h=>h).below d (Old.alloc c _) fun _ h=>h)).mono ?_;rintro e C ⟨rfl,l⟩;go_wp2
 all_goals
  go_ret;refine⟨R5 (by simp[Ls.empty,Ls.any, *]),((A5 _ _).trans (d.mono (by simp))).trans (l.mono ?_)⟩;have:=d.size;simp at this;omega
theorem eQm (p:Pat)(h:wf p):Y0 p:=
 Ls.ind uQb (fun s _=>uQe s) (fun a b _ _ _ _=>uQd b a) (fun a b _ _=>uQc b a) (fun a _ _=>uQf a) p h
theorem K5 (w:World)(b c:Nat)(n:Int)(h:w.cell? ⟨b,0,none⟩=some (.int .u8 n)) :
  (convert 105 9 (.slice (some ⟨b,0,none⟩) 1 c)).run Tryz.prog w=.ok (.string ⟨#[UInt8.ofNat n.toNat]⟩) w:=by
 rw[run_convert_bytes_string w 105 9 5 _ _ _ Tryz.underlying105 Tryz.underlying5 Tryz.underlying9];rw[run_bytesToString w _ 1 c [n] (by
  have:=run_loadCells_list (P:=Tryz.prog) w ⟨b,0,none⟩ [.int .u8 n] (by
   intro j v a;match j,a with
   | 0,a=>simp at a;subst a;exact h)
  simpa using this)]
 rfl
def U5 (p:Pat):Prop:=(Ls.key p).length<=4611686018427387904->∀(y:Value) (w:World) (G:Nat->Prop),Old w G->PV w G p y->
  Ca 73 #[B4 p y] w (Rt (.string ⟨(Ls.key p).toArray⟩) w)
theorem cQq (b:Bw w W)(c:Bw W w1)(a:g<w.heap.size):∀o,w1.cell? ⟨g,o,none⟩=w.cell? ⟨g,o,none⟩:=fun o=>
 (c.cell (p:=⟨g,o,none⟩) (Ll a b.size)).trans (b.cell (p:=⟨g,o,none⟩) a)
theorem Bj {a b c:World}(h:Bw a b)(k:Bw b c):Bw a c:=h.trans (k.mono h.size)
theorem dQh {a b:By}(h:a.data.toList=b.data.toList):Ending.returned (.string a)=.returned (.string b):=by
 rw[show a=b from ByteArray.ext (Array.toList_inj.1 h)]
theorem vQ8:U5 nN:=by
 intro b y w G d a;have c:=a;subst c;show Calls _ _ #[.agg #[Iv 0,Ez,Zl]] w _;have e:=K5;go_enter Tryz.func73,Tryz.ntmps73;go_wp2;refine wp_loop_rounds 1 ?_;rw[rounds_succ];go_wp2;go_ret;refine⟨dQh ?_,C6 _ _ _⟩;simp[Ls.key,nN]
theorem wQb (s:Lu):U5 (Ls.set s):=by
 intro a y w G d b;have c:=b;subst c;have hs:s.length<=4611686018427387904:=by simp[Ls.set,Ls.key]at a;omega
 show Calls _ _ #[.agg #[Iv 1,Sv s,Zl]] w _;have e:=K5;go_enter Tryz.func73,Tryz.ntmps73;go_wp2;refine wp_loop_rounds 1 ?_;rw[rounds_succ];go_wp2;go_ret;refine⟨dQh ?_,C6 _ _ _⟩;simp[Ls.key,Ls.set]
theorem wQc (ha:U5 a):U5 (fXl a):=by
 intro d t w G c m;obtain⟨g,y,k,rfl,f,i⟩:=m;have l:=f.lt;obtain⟨n,o,p⟩:=f.three;have hs:(Ls.key a).length<=4611686018427387901:=by simp[fXl,Ls.key]at d;omega
 show Calls _ _ #[.agg #[Iv 4,Ez,Sl g 1 1]] w _;have j:=K5;go_enter Tryz.func73,Tryz.ntmps73;go_wp2;refine wp_loop_rounds 2 ?_;rw[rounds_succ];go_wp2_with fail;refine(ha (by omega) y _ G (Old.alloc (Old.alloc c _) _) (i.below (C6 _ _ _) c fun _ h=>h)).mono ?_;rintro e u ⟨rfl,b⟩;obtain⟨q,r⟩:=O9 b;have s:=cQq (C6 _ _ _) b l;go_wp2;rw[rounds_succ];go_wp2;go_ret;refine⟨dQh ?_,Bj (C6 _ _ _) b⟩;simp[Ls.key,fXl]
theorem wQa (ha:U5 a)(m:U5 b):U5 (gX4 a b):=by
 intro i K w G d q;obtain⟨g,y,z,o,rfl,j,k,l⟩:=q;have p:=j.lt;obtain⟨t,u,v,x,A,B⟩:=j.six;have hs:(Ls.key a).length+(Ls.key b).length<=4611686018427387901:=by simp[gX4,Ls.key]at i;omega
 show Calls _ _ #[.agg #[Iv 2,Ez,Sl g 2 2]] w _;have n:=K5;go_enter Tryz.func73,Tryz.ntmps73;go_wp2;refine wp_loop_rounds 3 ?_;rw[rounds_succ];go_wp2_with fail;refine(ha (by omega) y _ G (Old.alloc (Old.alloc d _) _) (k.below (C6 _ _ _) d fun _ h=>h)).mono ?_;rintro e s ⟨rfl,c⟩;obtain⟨C,E⟩:=O9 c;have F:=cQq (C6 _ _ _) c p;go_wp2;rw[rounds_succ];go_wp2_with fail;refine(m (by omega) z _ G (Old.below (Old.alloc (Old.alloc d _) _) c) ((l.below (C6 _ _ _) d fun _ h=>h).below c (Old.alloc (Old.alloc d _) _) fun _ h=>h)).mono ?_;rintro e L ⟨rfl,f⟩;have r:=c.size;simp at r;have J:w.heap.size<s.heap.size:=by omega
 obtain⟨H,I⟩:=O9 f;go_wp2;rw[rounds_succ];go_wp2;go_ret;refine⟨dQh ?_,Bj (Bj (C6 _ _ _) c) f⟩;simp[Ls.key,gX4]
theorem vQ9 (ha:U5 a)(m:U5 b):U5 (Ls.any a b):=by
 intro i K w G d q;obtain⟨g,y,z,o,rfl,j,k,l⟩:=q;have p:=j.lt;obtain⟨t,u,v,x,A,B⟩:=j.six;have hs:(Ls.key a).length+(Ls.key b).length<=4611686018427387901:=by simp[Ls.any,Ls.key]at i;omega
 show Calls _ _ #[.agg #[Iv 3,Ez,Sl g 2 2]] w _;have n:=K5;go_enter Tryz.func73,Tryz.ntmps73;go_wp2;refine wp_loop_rounds 3 ?_;rw[rounds_succ];go_wp2_with fail;refine(ha (by omega) y _ G (Old.alloc (Old.alloc d _) _) (k.below (C6 _ _ _) d fun _ h=>h)).mono ?_;rintro e s ⟨rfl,c⟩;obtain⟨C,E⟩:=O9 c;have F:=cQq (C6 _ _ _) c p;go_wp2;rw[rounds_succ];go_wp2_with fail;refine(m (by omega) z _ G (Old.below (Old.alloc (Old.alloc d _) _) c) ((l.below (C6 _ _ _) d fun _ h=>h).below c (Old.alloc (Old.alloc d _) _) fun _ h=>h)).mono ?_;rintro e L ⟨rfl,f⟩;have r:=c.size;simp at r;have J:w.heap.size<s.heap.size:=by omega
 obtain⟨H,I⟩:=O9 f;go_wp2;rw[rounds_succ];go_wp2;go_ret;refine⟨dQh ?_,Bj (Bj (C6 _ _ _) c) f⟩;simp[Ls.key,Ls.any]
theorem cQy (p:Pat)(h:wf p):U5 p:=
 Ls.ind vQ8 (fun s _=>wQb s) (fun a b _ _ _ _=>wQa b a) (fun a b _ _=>vQ9 b a) (fun a _=>wQc a) p h
theorem cXa {P:Program}(w:World)(q:Nat)(o:TypeId)(i:TypeInfo)(y:P.underlying t=some (.slice e))(r:P.info? e=some i)(E:i.zero=some z)
  (J:i.size=size) (H:i.bytes=bytes) (W:z.cells.size=size) (U:0<size)
  (v:Value)   (h:w.ownsRow q e size v n xs)
  (a:Addr) (c:Nat)  (f:news.length=m*size) (s:∀j u,news[j]?=some u->w.cell? (a.add j)=some u) (G:∀u∈news,u.oneCell'=true)
  (B:n+m<=maxLen) (C:(n+m)*bytes<=140737488355328) (N:q<=w.heap.size) (hm:0<m) :
  ∃d p,(Builtin.append_ #[t,t] o #[v,.slice (some a) m c]).run P w=.ok d p/\p.ownsRow q e size d (n+m) (xs++news)/\w.grownBy p v.ownBlock/\
   (d.ownBlock=v.ownBlock\/∃k,d.ownBlock=some k/\w.heap.size<=k):=by
 obtain⟨d,p,x,K,L,X⟩:=run_append_own (P:=P) w q t o e i z size bytes y r E J H W U v n xs h a m c news f s G B C N;refine⟨d,p,x,K,L,?_⟩;subst J;subst H
 rcases h.2 with⟨rfl,rfl⟩|⟨g,A,F,rfl,Y,R,a0,Z,O,a1⟩
 ·have V:=List.eq_nil_of_length_eq_zero (by simpa using h.1)
  subst V;have T:m<=9223372036854775807:=by simp only[maxLen]at B;omega
  have b:=run_append_nil (P:=P) w t o e i z y r E a m c news f s (by omega) (by omega) (by have M:=C;simp only[Nat.zero_add]at M;omega);rw[x]at b;injection b with l _;subst l;exact .inr ⟨_,rfl,Nr⟩
 ·have T:n+m<=9223372036854775807:=by simp only[maxLen]at B;omega
  by_cases I:n+m<=A
  ·have Q:n*i.size+news.length<=F.size:=by rw[f,O,<-Nat.add_mul];exact Nat.mul_le_mul_right _ I
   have b:=run_append_room (P:=P) w t o e i y r g n A F R a m c news f s G I Q;rw[x]at b;injection b with l _;subst l;exact .inl rfl
  ·have S:=h.cells (g:=g) rfl
   have b:=run_append_grow (P:=P) w t o e i z y r E ⟨g,0,none⟩ n A xs h.1 S a m c news f s (by omega) (by omega) (growslice_fits (by omega) C);rw[x]at b;injection b with l _;subst l;exact .inr ⟨_,rfl,Nr⟩
theorem P8 {P:Program}(w:World){y:Array Oper}{rest:List Oper}{o:Oper}{a:Act}{Q:Exit->Act->World->Prop}(H:o.guard=none)(s x:Operand)(t:TypeId)
  (M:o.op=.call {callee:=.builtin .append,args:=#[s,x],argTypes:=#[t,t]})
  (l:Nat) (e:TypeId) (i:TypeInfo) (z:Value) (b q:Nat) (T:P.underlying t=some (.slice e)) (I:P.info? e=some i) (V:i.zero=some z)
  (R:i.size=b) (F:i.bytes=q) (W:z.cells.size=b) (S:0<b)
  (v:Value) (n:Nat) (r:List Value) (hs:a.eval s=v) (N:w.ownsRow l e b v n r)
  (p:Addr) (m c:Nat) (f:List Value) (U:a.eval x=.slice (some p) m c) (J:f.length=m*b) (L:∀j u,f[j]?=some u->w.cell? (p.add j)=some u) (A:∀u∈f,u.oneCell'=true)
  (B:n+m<=maxLen) (G:(n+m)*q<=140737488355328) (E:l<=w.heap.size) (K:0<m)
  (h:∀d g,g.ownsRow l e b d (n+m) (r++f)->w.grownBy g v.ownBlock->(d.ownBlock=v.ownBlock\/∃k,d.ownBlock=some k/\w.heap.size<=k)->wpList P y Q rest (a.put o.dst d) g):wpList P y Q (o::rest) a w:=by
 refine wpList_plain H fun a0 C=>?_;obtain⟨d,g,O,X,Y,Z⟩:=cXa (P:=P) t z e n b q r m f w l o.type i T I V R F W S v N p c J L A B G E K;unfold Oper.wp;simp[execOp,M,resolve,invoke,builtin,hs,U,O,Result.andThen];exact C _ _ (h d g X Y Z)
theorem gQ7:(Tryz.prog.info? 27).map (fun i=>(i.zero,i.size,i.bytes))=some (some (.agg #[Iv 0,.string ⟨#[]⟩,.slice none 0 0]),3,48):=by kernel_rfl
def N9 (qs:List (Pat × Value)):List Value:=qs.flatMap fun q=>C2 q.1 q.2
theorem kQg (a b:List (Pat × Value)):N9 (a++b)=N9 a++N9 b:=by simp[N9]
theorem bQ8 (a:List (Pat × Value))(i:Nat)(d:j<3)(b:i<a.length):(N9 a)[i*3+j]?=(C2 a[i].1 a[i].2)[j]?:=by
 induction a generalizing i with
 | nil=>simp at b
 | cons q r c=>
  show (C2 q.1 q.2++N9 r)[i*3+j]?=_;cases i with
  | zero=>rw[List.getElem?_append_left (by simp;omega)];simp
  | succ i=>
   rw[List.getElem?_append_right (by simp;omega)];rw[show (i+1)*3+j-(C2 q.1 q.2).length=i*3+j from by simp;omega];rw[c i (by simpa using b)];simp
structure LV (w:World)(base:Nat)(G:Nat->Prop)(v:Value)(qs:List (Pat × Value)):Prop where
 own:w.ownsRow base 27 3 v qs.length (N9 qs)
 each:∀q,q∈qs->PV w G q.1 q.2
 apart:∀k,G k->some k≠v.ownBlock
 old:Old w G
theorem L5 (h:Bw w w')(r:Option Nat):w.grownBy w' r:=⟨h.os,h.tape,h.output,h.size,fun k a _=>h.block k a⟩
theorem J8 {a b c:World}{r:Option Nat}(h:a.grownBy b r)(k:b.grownBy c r):a.grownBy c r:=
 ⟨k.os.trans h.os,k.tape.trans h.tape,k.output.trans h.output,Lq h.size k.size,fun i d e=>(k.block i (Ll d h.size) e).trans (h.block i d e)⟩
theorem LV.cells {b:Nat}(h:LV w base G (Sl g qs.length b) qs)(i:Nat)(a:i<qs.length) :
  w.cell? ⟨g,i*3,none⟩=some (Iv qs[i].1.kind)/\w.cell? ⟨g,i*3+1,none⟩=some (.string ⟨qs[i].1.signs.toArray⟩)/\w.cell? ⟨g,i*3+2,none⟩=some qs[i].2:=by
 refine⟨?_,?_,?_⟩
 ·rw[h.own.cellAt (i*3) (by omega)];have:=bQ8 0 qs i (by omega) a;simpa using this
 ·rw[h.own.cellAt (i*3+1) (by omega),bQ8 1 qs i (by omega) a];rfl
 ·rw[h.own.cellAt (i*3+2) (by omega),bQ8 2 qs i (by omega) a];rfl
theorem LV.kept (h:LV w base G v qs)(a:Bw w w'):LV w' base G v qs:=
 ⟨h.own.kept (L5 a none) (by cases c:v.ownBlock<;>simp),fun q b=>(h.each q b).below a h.old fun _ h=>h,h.apart,h.old.below a⟩
theorem LV.pushed {f:Value}(h:LV w base G v qs){y:Value}(j:PV w G p y)(g:w.grownBy w' v.ownBlock)
  (i:w'.ownsRow base 27 3 f (qs.length+1) (N9 qs++C2 p y)) (c:f.ownBlock=v.ownBlock\/∃k,f.ownBlock=some k/\w.heap.size<=k):LV w' base G f (qs++[(p,y)]):=by
 have b:∀k,G k->w'.heap[k]?=w.heap[k]?:=fun k b=>g.block k (h.old k b) (h.apart k b);refine⟨?_,?_,?_,?_⟩
 ·rw[kQg,List.length_append];exact i
 ·intro q a
  rcases List.mem_append.1 a with a|a
  ·exact PV.mono (fun _ h=>h) b _ _ (h.each q a)
  ·simp only[List.mem_singleton]at a
   subst a;exact PV.mono (fun _ h=>h) b _ _ j
 ·intro k d
  rcases c with c|⟨m,c,l⟩
  ·rw[c];exact h.apart k d
  ·rw[c];have:=h.old k d;intro e;injection e with e;omega
 ·exact fun k d=>Ll (h.old k d) g.size
theorem hQz {y:Value}(d:PV w G p y):∀u∈C2 p y,u.oneCell'=true:=by
 obtain⟨a,n,c,rfl⟩:=PV.slice _ _ d;intro u b;simp only[List.mem_cons,List.not_mem_nil,or_false]at b;rcases b with rfl|rfl|rfl<;>rfl
theorem gQp (w:World)(p:Pat)(y:Value):∀j u,(C2 p y)[j]?=some u->(w.alloc (.cells #[Iv p.kind,Sv p.signs,y] 27)).cell? ((⟨w.heap.size,0,none⟩:Addr).add j)=some u:=by
 intro j u b;have a:=C7 w (C2 p y);have:=a.cell j;rw[b]at this;rw[<-this];unfold Addr.add;split
 ·subst_vars;rfl
 ·simp
def dQ0 (w:World)(base:Nat)(G:Nat->Prop)(v:Value)(qs:List (Pat × Value))(p:Pat):Ending->World->Prop:=fun e w'=>
 ∃v' qs',e=.returned v'/\qs'.map (·.1)=Ls.put (qs.map (·.1)) p/\LV w' base G v' qs'/\w.grownBy w' v.ownBlock/\(v'.ownBlock=v.ownBlock\/∃k,v'.ownBlock=some k/\w.heap.size<=k)
theorem aXn {k:Nat}(a:k<qs.length)(h:Ls.key qs[k].1=Ls.key p):Ls.put (qs.map (·.1)) p=qs.map (·.1):=by
 unfold Ls.put;rw[if_pos];rw[List.any_eq_true];exact⟨qs[k].1,List.mem_map.2 ⟨qs[k],List.getElem_mem a,rfl⟩,by simp[h]⟩
theorem mQu (h:∀q,q∈qs->Ls.key q.1≠Ls.key p):(qs++[(p,y)]).map (·.1)=Ls.put (qs.map (·.1)) p:=by
 unfold Ls.put;rw[if_neg]
 ·simp
 ·rw[List.any_eq_true]
  rintro ⟨x,c,a⟩;obtain⟨q,b,rfl⟩:=List.mem_map.1 c;exact h q b (by simpa using a)
theorem aXr (w:World)(r:Nat)(a0:r<=w.heap.size)(G:Nat->Prop)(g s:Nat)(a:List (Pat × Value))(h:LV w r G (Sl g a.length s) a)(hn:a.length<=1000000000)
  (b:∀q,q∈a->wf q.1/\(Ls.key q.1).length<=4611686018427387904) (p:Pat)  (z:PV w G p y) (V:wf p) (Q:(Ls.key p).length<=4611686018427387904) :
  Calls Tryz.prog 92 #[Sl g a.length s,B4 p y] w (dQ0 w r G (Sl g a.length s) a p):=by
 have H:Hid _:=b;go_enter Tryz.func92,Tryz.ntmps92;go_wp2_with fail;refine(cQy p V Q y _ G (Old.alloc h.old _) (z.below (A5 _ _) h.old fun _ h=>h)).mono ?_;rintro e u ⟨rfl,l⟩;have L:=Bj (A5 w (.cells #[Iv p.kind,Sv p.signs,y] 27)) l;have A:=l.size;simp at A;have I:=(l.cell (p:=⟨Hz w,0,none⟩) (by simp)).trans ((C7 w (C2 p y)).cell 0);have J:=(l.cell (p:=⟨Hz w,1,none⟩) (by simp)).trans ((C7 w (C2 p y)).cell 1);have K:=(l.cell (p:=⟨Hz w,2,none⟩) (by simp)).trans ((C7 w (C2 p y)).cell 2);go_wp2;go_loopw [6] (fun i wr=>∃k:Nat,k<=a.length/\i=Iv k/\Bw u wr/\∀q,q∈a.take k->Ls.key q.1≠Ls.key p) (fun i _=>a.length-(intOf i).toNat)
 case atStart=>exact⟨0,Nat.zero_le _,rfl,Br,by simp⟩
 case round=>
  obtain⟨k,hk,rfl,c,o⟩:=hrel;have B:Hid _:=o;have t:=Bj L c;have f:=h.kept t
  by_cases n:k<a.length
  ·obtain⟨Z,c1,c2⟩:=f.cells k n
   go_wp2_with fail;have F:=H.out a[k] (List.getElem_mem n);refine(cQy a[k].1 F.1 F.2 a[k].2 _ G f.old (f.each _ (List.getElem_mem n))).mono ?_;rintro e w3 ⟨rfl,x⟩
   by_cases d:Ls.key a[k].1=Ls.key p
   ·have P:(Ls.key a[k].1==Ls.key p)=true:=by simp[d]
    have v:Hid _:=d;go_wp2;go_ret;exact⟨_,a,rfl,(aXn n v.out).symm,f.kept x,L5 (Bj t x) _,.inl rfl⟩
   ·have P:(Ls.key a[k].1==Ls.key p)=false:=by simp[d]
    have v:Hid _:=d;go_wp2;go_roundw
    case rel=>
     refine⟨k+1,by omega,by go_num,Bj c x,fun q b=>?_⟩;rw[List.take_succ_eq_append_getElem n]at b;rcases List.mem_append.1 b with b|b
     ·exact B.out q b
     ·simp only[List.mem_singleton]at b
      rw[b];exact v.out
    case measure=>simp[intOf];omega
  ·have r0:=(c.cell (p:=⟨Hz w,0,none⟩) (by show w.heap.size<_;omega)).trans I
   have r1:=(c.cell (p:=⟨Hz w,1,none⟩) (by show w.heap.size<_;omega)).trans J;have r2:=(c.cell (p:=⟨Hz w,2,none⟩) (by show w.heap.size<_;omega)).trans K;have a1:=c.size;obtain⟨i,N,A,W,X⟩:=info_parts gQ7;have S:=f.own.alloc (.cells #[Iv p.kind,Sv p.signs,y] 27);have M:=gQp wr p y;have T:=hQz z;go_wp2_with (at_builtin;refine P8 _ rfl _ _ 25 rfl r 27 i _ 3 48 Tryz.underlying25 N A W X rfl (by omega) (Sl g a.length s) a.length (N9 a) rfl S ⟨Hz wr,0,none⟩ 1 1 (C2 p y) rfl ?l1 M T ?l2 ?l3 ?l4 ?l5 ?_)
   case l1=>rfl
   case l2=>unfold maxLen;omega
   case l3=>omega
   case l4=>simp;omega
   case l5=>omega
   intro Y w' R E j;go_wp2;go_ret;have O:k=a.length:=by omega
   have o:=B.out;rw[O,List.take_length]at o;have U:=f.kept (A5 wr (.cells #[Iv p.kind,Sv p.signs,y] 27));have C:=Bj t (A5 wr (.cells #[Iv p.kind,Sv p.signs,y] 27));refine⟨Y,a++[(p,y)],rfl,mQu y o,U.pushed (z.below C h.old fun _ h=>h) E R (by simpa using j),J8 (L5 C _) E,?_⟩;rcases j with j|⟨m,j,hm⟩
   ·exact .inl j
   ·exact .inr ⟨m,j,by have:=t.size;omega⟩
theorem aXo (w:World)(d:Nat)(I:d<=w.heap.size)(G:Nat->Prop)(h:LV w d G (.slice none 0 0) [])
  (p:Pat)  (f:PV w G p y) (A:wf p) (t:(Ls.key p).length<=4611686018427387904) :
  Calls Tryz.prog 92 #[.slice none 0 0,B4 p y] w (dQ0 w d G (.slice none 0 0) [] p):=by
 go_enter Tryz.func92,Tryz.ntmps92;go_wp2_with fail;refine(cQy p A t y _ G (Old.alloc h.old _) (f.below (A5 _ _) h.old fun _ h=>h)).mono ?_;rintro e a ⟨rfl,c⟩;have g:=Bj (A5 w (.cells #[Iv p.kind,Sv p.signs,y] 27)) c;have B:=c.size;simp at B;have E:=(c.cell (p:=⟨Hz w,0,none⟩) (by simp)).trans ((C7 w (C2 p y)).cell 0);have F:=(c.cell (p:=⟨Hz w,1,none⟩) (by simp)).trans ((C7 w (C2 p y)).cell 1);have H:=(c.cell (p:=⟨Hz w,2,none⟩) (by simp)).trans ((C7 w (C2 p y)).cell 2);have l:=h.kept g;obtain⟨i,o,q,r,s⟩:=info_parts gQ7;have v:=l.own.alloc (.cells #[Iv p.kind,Sv p.signs,y] 27);have n:=gQp a p y;have x:=hQz f;go_wp2;refine wp_loop_rounds 1 ?_;rw[rounds_succ];go_wp2_with (at_builtin;refine P8 _ rfl _ _ 25 rfl d 27 i _ 3 48 Tryz.underlying25 o q r s rfl (by omega) Zl 0 (N9 []) rfl v ⟨Hz a,0,none⟩ 1 1 (C2 p y) rfl ?l1 n x ?l2 ?l3 ?l4 ?l5 ?_)
 case l1=>rfl
 case l2=>unfold maxLen;omega
 case l3=>omega
 case l4=>simp;omega
 case l5=>omega
 intro C K u k b;go_wp2;go_ret;have z:=l.kept (A5 a (.cells #[Iv p.kind,Sv p.signs,y] 27));have j:=Bj g (A5 a (.cells #[Iv p.kind,Sv p.signs,y] 27));refine⟨C,[]++[(p,y)],rfl,mQu y (by simp),z.pushed (f.below j h.old fun _ h=>h) k u (by simpa using b),J8 (L5 j _) k,?_⟩;rcases b with b|⟨m,b,J⟩
 ·exact .inl b
 ·exact .inr ⟨m,b,by omega⟩
theorem dQd (w:World)(b:Nat)(c:b<=w.heap.size)(G:Nat->Prop)(v:Value)(a:List (Pat × Value))(h:LV w b G v a)(k:a.length<=1000000000)
  (l:∀q,q∈a->wf q.1/\(Ls.key q.1).length<=4611686018427387904) (p:Pat) (y:Value) (e:PV w G p y) (f:wf p) (d:(Ls.key p).length<=4611686018427387904) :
  Calls Tryz.prog 92 #[v,B4 p y] w (dQ0 w b G v a p):=by
 rcases h.own.2 with⟨rfl,j⟩|⟨g,i,m,rfl,_⟩
 ·have:a=[]:=List.eq_nil_of_length_eq_zero j
  subst this;exact aXo y w b c G h p e f d
 ·exact aXr y w b c G g i a h k l p e f d
def GG (G:Nat->Prop)(B0:Nat)(w:World)(v:Value):Nat->Prop:=fun k=>(G k\/B0<=k)/\k<w.heap.size/\some k≠v.ownBlock
abbrev LW (G:Nat->Prop)(B0:Nat)(w:World)(base:Nat)(v:Value)(qs:List (Pat × Value)):Prop:=LV w base (GG G B0 w v) v qs
theorem LW.of (h:LV w base H v qs)(b:∀k,H k->G k\/B0<=k):LW G B0 w base v qs:=
 ⟨h.own,fun q c=>PV.mono (fun k a=>⟨b k a,h.old k a,h.apart k a⟩) (fun _ _=>rfl) _ _ (h.each q c),fun _ a=>a.2.2,fun _ a=>a.2.1⟩
theorem LW.nil (G:Nat->Prop)(b:Nat)(w:World)(c:Nat):LW G b w c (.slice none 0 0) []:=
 ⟨World.ownsRow_nil _ _ _ _,by simp,fun _ a=>a.2.2,fun _ a=>a.2.1⟩
theorem LW.below (h:LW G B0 w base v qs)(a:Bw w w'):LW G B0 w' base v qs:=
 LW.of (h.kept a) fun _ b=>b.1
structure Grows (G:Nat->Prop)(B0:Nat)(w2:World)(base:Nat)(v0:Value)(w:World)(v:Value)(qs:List (Pat × Value)):Prop where
 lw:LW G B0 w base v qs
 grown:w2.grownBy w v0.ownBlock
 row:v.ownBlock=v0.ownBlock\/∃k,v.ownBlock=some k/\w2.heap.size<=k
theorem Grows.start (h:LW G B0 w2 base v0 qs):Grows G B0 w2 base v0 w2 v0 qs:=
 ⟨h,World.grownBy.refl _ _,.inl rfl⟩
theorem Grows.below (h:Grows G B0 w2 base v0 w v qs)(a:Bw w w'):Grows G B0 w2 base v0 w' v qs:=
 ⟨h.lw.below a,J8 h.grown (L5 a _),h.row⟩
theorem Grows.block (h:Grows G B0 w2 base v0 w v qs){k:Nat}(c:k<w2.heap.size)(b:some k≠v0.ownBlock):w.heap[k]?=w2.heap[k]?/\some k≠v.ownBlock:=by
 refine⟨h.grown.block k c b,?_⟩;rcases h.row with e|⟨m,e,d⟩
 ·rw[e];exact b
 ·rw[e];intro a;injection a with a;omega
theorem Grows.fits (h:Grows G B0 w2 base v0 w v qs)(b:∀k,H k->(G k\/B0<=k)/\k<w2.heap.size/\some k≠v0.ownBlock)
   {y:Value} (c:PV w2 H p y):PV w (GG G B0 w v) p y:=
 PV.mono (fun k a=>⟨(b k a).1,Ll (b k a).2.1 h.grown.size,(h.block (b k a).2.1 (b k a).2.2).2⟩) (fun k a=>(h.block (b k a).2.1 (b k a).2.2).1) _ _ c
theorem Grows.put (h:Grows G B0 w2 base v0 w v qs){e:Ending}(o:dQ0 w base (GG G B0 w v) v qs p e w') :
  ∃d c,e=.returned d/\c.map (·.1)=Ls.put (qs.map (·.1)) p/\Grows G B0 w2 base v0 w' d c:=by
 obtain⟨d,c,j,f,l,a,q⟩:=o;refine⟨d,c,j,f,LW.of l fun _ b=>b.1,?_,?_⟩
 ·refine⟨a.os.trans h.grown.os,a.tape.trans h.grown.tape,a.output.trans h.grown.output,Lq h.grown.size a.size,fun k b n=>?_⟩
  obtain⟨g,i⟩:=h.block b n;exact(a.block k (Ll b h.grown.size) i).trans g
 ·rcases q with e|⟨m,e,f⟩
  ·rw[e];exact h.row
  ·exact .inr ⟨m,e,Lq h.grown.size f⟩
theorem Grows.other (h:Grows G B0 w2 base v0 w v qs){b:Nat}{a:Value}{n:Nat}{c:List Value}(d:w2.ownsRow b 27 3 a n c)(e:a.ownBlock=none\/a.ownBlock≠v0.ownBlock):w.ownsRow b 27 3 a n c:=
 d.kept h.grown e
def nx (s:By)(i:Nat):UInt8:=s.data.toList[i]?.getD 0
theorem M6 (h:i<s.size):nx s i=s[i]:=by
 unfold nx;rw[List.getElem?_eq_getElem (by simpa using h)];rfl
theorem dQa (h:s.size<=i):nx s i=0:=by
 unfold nx;rw[List.getElem?_eq_none (by simpa using h)];rfl
theorem E5:Bw w (w.drewN n):=by
 exact⟨rfl,rfl,rfl,Nr,fun _ _=>rfl⟩
theorem V8 (w:World)(a o:Nat)(v:Value):w.grownBy (w.setCell ⟨a,o,none⟩ v) (some a):=
 ⟨rfl,rfl,rfl,by simp[World.setCell],fun k _ b=>Below.heap_setCell _ _ _ _ (fun e=>b (by simp[e]))⟩
def A7 (s:By)(i:Nat)(c:UInt8):Bool:=decide (i<s.size)&&nx s i==c
abbrev rest (s:By)(i:Nat):Lu:=s.data.toList.drop i
theorem D4 (h:i<s.size):rest s i=nx s i::rest s (i+1):=by
 rw[M6 h];exact List.drop_eq_getElem_cons (by simpa using h)
theorem P4 (h:s.size<=i):rest s i=[]:=List.drop_eq_nil_of_le (by simpa using h)
theorem F4 (s:By)(i:Nat):(rest s i).length=s.size-i:=by simp
theorem q9 (h:iXl (nx s i)=true):i<s.size:=by
 rcases Nat.lt_or_ge i s.size with a|a
 ·exact a
 ·rw[dQa a]at h;exact absurd h (by decide)
theorem mQw (h:iXl (nx s i)=false):gXc (rest s i)=.none:=by
 rcases Nat.lt_or_ge i s.size with a|a
 ·rw[D4 a];unfold gXc;dsimp only;rw[if_pos h]
 ·rw[P4 a];rfl
theorem D9 {c:UInt8}(h:A7 s i c=true):i<s.size/\nx s i=c:=by simpa [A7] using h
theorem mQ5 {c:UInt8}(h:A7 s i c=true):rest s i=c::rest s (i+1):=by
 obtain⟨a,b⟩:=D9 h;rw[D4 a,b]
theorem C4 {c:UInt8}:((rest s i).head?=some c)↔A7 s i c=true:=by
 rcases Nat.lt_or_ge i s.size with a|a
 ·rw[D4 a];simp[A7,a]
 ·rw[P4 a];simp[A7];omega
theorem E7 (s:By)(i:Nat):(rest s i).tail=rest s (i+1):=by simp
theorem mQx (h:iXl (nx s i)=true)(a:A7 s (i+1) 45=false):gXc (rest s i)=some (nx s i,nx s i,rest s (i+1)):=by
 rw[D4 (q9 h)];unfold gXc;dsimp only;rw[if_neg (by simp[h]),if_neg (by rw[C4,a];simp)]
theorem hQ8 (h:iXl (nx s i)=true)(b:A7 s (i+1) 45=true)(c:iXl (nx s (i+1+1))=false\/(nx s (i+1+1)).toNat<(nx s i).toNat):gXc (rest s i)=.none:=by
 rw[D4 (q9 h)];unfold gXc;dsimp only;rw[if_neg (by simp[h]),if_pos (C4.2 b),E7];rcases Nat.lt_or_ge (i+1+1) s.size with a|a
 ·rw[D4 a];dsimp only;rw[if_pos c]
 ·rw[P4 a]
theorem mQy (h:iXl (nx s i)=true)(b:A7 s (i+1) 45=true)(a:iXl (nx s (i+1+1))=true)(c:¬(nx s (i+1+1)).toNat<(nx s i).toNat):gXc (rest s i)=some (nx s i,nx s (i+1+1),rest s (i+1+1+1)):=by
 rw[D4 (q9 h)];unfold gXc;dsimp only;rw[if_neg (by simp[h]),if_pos (C4.2 b),E7,D4 (q9 a)];dsimp only
 rw[if_neg (by rw[a];simp;omega)]
theorem cQh (a b:UInt8):gXo acc a b (n+1)=if a.toNat<=n/\n<=b.toNat/\Ls.has (gXo acc a b n) (UInt8.ofNat n)=false then gXo acc a b n++[UInt8.ofNat n] else gXo acc a b n:=by
 unfold gXo;rw[List.range_succ,List.foldl_append];rfl
theorem bXl (a b:UInt8):(gXo acc a b n).length<=acc.length+n:=by
 induction n with
 | zero=>simp[gXo]
 | succ n c=>
  rw[cQh];split
  ·rw[List.length_append];simp only[List.length_cons,List.length_nil];omega
  ·omega
def B8 (w w':World):Nat->Prop:=fun k=>w.heap.size<=k/\k<w'.heap.size
theorem yQv {e:TypeId}{d:Nat}{n:Nat}{f:List Value}(h:w.ownsRow base e d v n f):(v=.slice none 0 0/\n=0)\/∃g a,v=Sl g n a:=by
 rcases h.2 with⟨b,c⟩|⟨g,a,i,e,_⟩
 ·exact .inl ⟨b,c⟩
 ·exact .inr ⟨g,a,e⟩
def gQm (N:Nat):List Pr:=[0,1,2].flatMap fun ph=>(List.range N).flatMap fun x=>(List.range N).map fun y=>(ph,x,y)
theorem kQf {α:Type}(l:List α)(f:α->List Pr)(h:∀a,(f a).length=n):(l.flatMap f).length=l.length*n:=by
 induction l with
 | nil=>simp
 | cons x l b=>rw[List.flatMap_cons,List.length_append,b,h];simp[Nat.add_mul];omega
theorem qQ2 (N:Nat):(gQm N).length=3*(N*N):=by
 unfold gQm;rw[kQf (N*N) _ _ (fun a=>by rw[kQf N _ _ (fun x=>by simp)];simp)];rfl
theorem cXx {N:Nat}{l:List Pr}(h:l.Nodup)(e:∀a,a∈l->(a.1=0\/a.1=1\/a.1=2)/\a.2.1<N/\a.2.2<N):l.length<=3*(N*N):=by
 rw[<-qQ2];refine jXh _ _ h (fun a ha=>?_);obtain⟨b,c,d⟩:=e a ha;obtain⟨p,x,y⟩:=a;unfold gQm;simp only[List.mem_flatMap,List.mem_map,List.mem_range];refine⟨p,?_,x,c,y,d,rfl⟩;simp only at b;rcases b with rfl|rfl|rfl<;>simp
end Go.Proofs.YtfklinjaajafgaaGreatDoor
namespace Go.Proofs.YtfklinjaajafgaaGreatDoor
open Ls
variable {l:Ln}{s:By}
def E6 (s:Lu):Option Ln:=match fXa 13 s with
 | some (l,[])=>some l
 | _=>.none
def CompIs (s:Lu)(r:Nat):Prop:=
 (120<s.length/\r=1)\/(s.length<=120/\((E6 s=.none/\r=2)\/∃l,E6 s=some l/\((24<eX7 l/\r=3)\/(eX7 l<=24/\((¬B5 l/\r=4)\/(B5 l/\r=0))))))
theorem CompIs.one {s:Lu}{r t:Nat}(h:CompIs s r)(k:CompIs s t):r=t:=by
 rcases h with⟨i,rfl⟩|⟨i,j⟩
 ·rcases k with⟨_,rfl⟩|⟨q,_⟩
  ·rfl
  ·omega
 ·rcases k with⟨q,_⟩|⟨_,e⟩
  ·omega
  ·rcases j with⟨b,rfl⟩|⟨l,b,n⟩
   ·rcases e with⟨_,rfl⟩|⟨m,a,_⟩
    ·rfl
    ·rw[b]at a;cases a
   ·rcases e with⟨a,_⟩|⟨m,a,f⟩
    ·rw[b]at a;cases a
    ·obtain rfl:l=m:=Option.some.inj (b.symm.trans a)
     rcases n with⟨o,rfl⟩|⟨o,p⟩
     ·rcases f with⟨_,rfl⟩|⟨u,_⟩
      ·rfl
      ·omega
     ·rcases f with⟨u,_⟩|⟨_,g⟩
      ·omega
      ·rcases p with⟨c,rfl⟩|⟨c,rfl⟩
       ·rcases g with⟨_,rfl⟩|⟨d,_⟩
        ·rfl
        ·exact absurd d c
       ·rcases g with⟨d,_⟩|⟨_,rfl⟩
        ·exact absurd c d
        ·rfl
theorem hQ9 (s:By):rest s 0=s.data.toList:=rfl
theorem mQo (h:fXa 13 (rest s 0)=.none):E6 s.data.toList=.none:=by
 unfold E6;rw[<-hQ9,h]
theorem mQp (h:fXa 13 (rest s 0)=some (l,rest s s.size)):E6 s.data.toList=some l:=by
 unfold E6;rw[<-hQ9,h,P4 Nr]
theorem mQn {i:Nat}(h:fXa 13 (rest s 0)=some (l,rest s i))(a:i<s.size):E6 s.data.toList=.none:=by
 unfold E6;rw[<-hQ9,h,D4 a]
end Go.Proofs.YtfklinjaajafgaaGreatDoor
namespace Go.Proofs.YtfklinjaajafgaaGreatDoor
open Ls
open Go.ChangeShapes Go.WideShapes Go.ChangeAt Go.RowKit
open Go.ChangeMaps (open_string shut_string)
theorem own:ownKnob Tryz.prog.godebug=none:=by kernel_rfl
theorem gLong : Tryz.prog.globalNamed "lenses/reading.ErrLong" = some 0 := by kernel_rfl
theorem gSyntax : Tryz.prog.globalNamed "lenses/reading.ErrSyntax" = some 3 := by kernel_rfl
theorem gSize : Tryz.prog.globalNamed "lenses/reading.ErrSize" = some 1 := by kernel_rfl
theorem cX3:(Tryz.prog.globals[0]?).map (·.type)=some 80:=by kernel_rfl
theorem cX5:(Tryz.prog.globals[3]?).map (·.type)=some 80:=by kernel_rfl
theorem cX4:(Tryz.prog.globals[1]?).map (·.type)=some 80:=by kernel_rfl
theorem gType : Tryz.prog.globalNamed "lenses/programs.ErrType" = some 2 := by kernel_rfl
theorem cX6:(Tryz.prog.globals[2]?).map (·.type)=some 80:=by kernel_rfl
theorem eQc:Tryz.prog.cellsOf 274=1:=by kernel_rfl
theorem eQd:Tryz.prog.cellsOf 9=1:=by kernel_rfl
theorem starE : "*" ++ "errors.errorString" = "*errors.errorString" := by decide
theorem rowE (u : TypeId) (h : Tryz.prog.typeName? 3 u = some "*errors.errorString") : u = 251 :=
 typeName_ptr_named (nm := "errors.errorString") (by rw [starE]; kernel_rfl) (by kernel_rfl) (by decide) u (by rw [starE]; exact h)
structure Sent (w:World)(a0 a1 a2 a3:Addr):Prop where
 c0:Ce w 0 0 (.iface 251 (.pointer (some a0)))
 c1:Ce w 3 0 (.iface 251 (.pointer (some a1)))
 c2:Ce w 1 0 (.iface 251 (.pointer (some a2)))
 c3:Ce w 2 0 (.iface 251 (.pointer (some a3)))
 n01:a0≠a1
 n02:a0≠a2
 n12:a1≠a2
 n03:a0≠a3
 n13:a1≠a3
 n23:a2≠a3
 b0:∃c t,w.heap[a0.block]?=some (.cells c t (0,0))
 b1:∃c t,w.heap[a1.block]?=some (.cells c t (0,0))
 b2:∃c t,w.heap[a2.block]?=some (.cells c t (0,0))
 b3:∃c t,w.heap[a3.block]?=some (.cells c t (0,0))
def laid4 : List (String × DataW Unit) := [("lenses/reading.ErrLong", Rows.laid_lenses_reading_ErrLong), ("lenses/reading.ErrSyntax", Rows.laid_lenses_reading_ErrSyntax), ("lenses/reading.ErrSize", Rows.laid_lenses_reading_ErrSize), ("lenses/programs.ErrType", Rows.laid_lenses_programs_ErrType)]
theorem aQ3 {W:World}(h:laidMetH Tryz.prog laid4 W):∃d f g i,Sent W d f g i:=by
 rw[MakeChecks.laidMetH_plain _ _ _ (by kernel_rfl)]at h;have⟨ps,⟨g0,t0,G,f0,p0,q0,n,X,B,Q,⟨g1,t1,H,f1,p1,q1,o,Y,C,R,⟨g2,t2,I,f2,p2,q2,p,Z,E,S,⟨g3,t3,J,f3,p3,q3,q,a0,F,T,U,N⟩,M⟩,L⟩,K⟩,a5,a⟩:=h;obtain rfl:=Option.some.inj (gLong.symm.trans n);obtain rfl:=Option.some.inj (gSyntax.symm.trans o);obtain rfl:=Option.some.inj (gSize.symm.trans p);obtain rfl:=Option.some.inj (gType.symm.trans q);obtain rfl:=Option.some.inj (cX3.symm.trans X);obtain rfl:=Option.some.inj (cX5.symm.trans Y);obtain rfl:=Option.some.inj (cX4.symm.trans Z);obtain rfl:=Option.some.inj (cX6.symm.trans a0);have V:=U;subst V;subst N;subst M;subst L;subst K;have⟨l0⟩:=G;have⟨l1⟩:=H;have⟨l2⟩:=I;have⟨l3⟩:=J;have a1:∀u v,l0=[.iface u v]->Value.okWide Tryz.prog W .any 0 u v:=fun u v e=>by
  subst e;exact(a 0 0 (by simp[MemPlace.row])).2 u v (by simpa using World.var?_cell n B 0)
 have a2:∀u v,l1=[.iface u v]->Value.okWide Tryz.prog W .any 0 u v:=fun u v e=>by
  subst e;exact(a 3 0 (by simp[MemPlace.row])).2 u v (by simpa using World.var?_cell o C 0)
 have a3:∀u v,l2=[.iface u v]->Value.okWide Tryz.prog W .any 0 u v:=fun u v e=>by
  subst e;exact(a 1 0 (by simp[MemPlace.row])).2 u v (by simpa using World.var?_cell p E 0)
 have a4:∀u v,l3=[.iface u v]->Value.okWide Tryz.prog W .any 0 u v:=fun u v e=>by
  subst e;exact(a 2 0 (by simp[MemPlace.row])).2 u v (by simpa using World.var?_cell q F 0)
 obtain⟨d,s0,rfl,j,r,a6,rfl⟩:=errorString_of_trod Tryz.underlying80 rowE Tryz.underlying251 Tryz.underlying274 rfl rfl Tryz.underlying9 eQc eQd Q a1;obtain⟨f,s1,rfl,k,w,a7,rfl⟩:=errorString_of_trod Tryz.underlying80 rowE Tryz.underlying251 Tryz.underlying274 rfl rfl Tryz.underlying9 eQc eQd R a2;obtain⟨g,s2,rfl,l,z,a8,rfl⟩:=errorString_of_trod Tryz.underlying80 rowE Tryz.underlying251 Tryz.underlying274 rfl rfl Tryz.underlying9 eQc eQd S a3;obtain⟨i,s3,rfl,m,A,a9,rfl⟩:=errorString_of_trod Tryz.underlying80 rowE Tryz.underlying251 Tryz.underlying274 rfl rfl Tryz.underlying9 eQc eQd T a4;have c:∀(x y:Addr) (s t:By),W.cell? x=some (.string s)->W.cell? y=some (.string t)->s.data.toList≠t.data.toList->x≠y:=by
  rintro x y s t O b P rfl;rw[O]at b;injection b with b;injection b with b;exact P (by rw[b])
 refine⟨d,f,g,i,?_,?_,?_,?_,c _ _ _ _ j k (by rw[r,w];decide),c _ _ _ _ j l (by rw[r,z];decide),c _ _ _ _ k l (by rw[w,z];decide),c _ _ _ _ j m (by rw[r,A];decide),c _ _ _ _ k m (by rw[w,A];decide),c _ _ _ _ l m (by rw[z,A];decide),(a d.block d.off (by simp[MemPlace.row])).1,(a f.block f.off (by simp[MemPlace.row])).1,(a g.block g.off (by simp[MemPlace.row])).1,(a i.block i.off (by simp[MemPlace.row])).1⟩
 ·simpa using World.var?_cell n B 0
 ·simpa using World.var?_cell o C 0
 ·simpa using World.var?_cell p E 0
 ·simpa using World.var?_cell q F 0
theorem Sent.below {w w':World}{i j l m:Addr}(h:Sent w i j l m)(a:Bw w w'):Sent w' i j l m:=by
 have d:∀{k:Nat} {o:Obj},w.heap[k]?=some o->k<w.heap.size:=fun h=>(Array.getElem?_eq_some_iff.1 h).1;have b:∀{g:Nat} {v:Value},w.cell? ⟨g,0,none⟩=some v->g<w.heap.size:=fun {g v} h=>by
  rcases Nat.lt_or_ge g (Hz w) with f|f
  ·exact f
  ·rw[World.cell?,Array.getElem?_eq_none f]at h;cases h
 refine⟨(a.cell (b h.c0)).trans h.c0,(a.cell (b h.c1)).trans h.c1,(a.cell (b h.c2)).trans h.c2,(a.cell (b h.c3)).trans h.c3,h.n01,h.n02,h.n12,h.n03,h.n13,h.n23,?_,?_,?_,?_⟩
 ·have⟨c,t,e⟩:=h.b0;exact⟨c,t,by rw[a.block _ (d e)];exact e⟩
 ·have⟨c,t,e⟩:=h.b1;exact⟨c,t,by rw[a.block _ (d e)];exact e⟩
 ·have⟨c,t,e⟩:=h.b2;exact⟨c,t,by rw[a.block _ (d e)];exact e⟩
 ·have⟨c,t,e⟩:=h.b3;exact⟨c,t,by rw[a.block _ (d e)];exact e⟩
theorem aQx (b:Os)(a:Array Value):laidMetH Tryz.prog laid4 ((World.doorLaid Tryz.prog 400 b).forCall (fun _ _=>0) ⟨#[],a,[]⟩).memory:=
 laidMetH_of_parts3 (fuel:=8) (laidMet_of_run' 8 (by kernel_rfl) (by kernel_rfl)) (by kernel_rfl) (by kernel_rfl)
end Go.Proofs.YtfklinjaajafgaaGreatDoor
namespace Go.Proofs.YtfklinjaajafgaaGreatDoor
open Ls
open Go.RowKit
def RB (w:World)(rb:Nat)(s:By)(at_ dep:Nat):Prop:=w.heap[rb]?=some (.cells #[.string s,.int .i64 at_,.int .i64 dep] 164 (0,0))
theorem RB.lt {w:World}{b:Nat}{s:By}{a z:Nat}(h:RB w b s a z):b<w.heap.size:=(Array.getElem?_eq_some_iff.1 h).1
theorem RB.c0 {w:World}{b:Nat}{s:By}{a z:Nat}(h:RB w b s a z):w.cell? ⟨b,0,none⟩=some (.string s):=by unfold RB at h;simp[World.cell?,h]
theorem RB.c1 {w:World}{b:Nat}{s:By}{a z:Nat}(h:RB w b s a z):w.cell? ⟨b,1,none⟩=some (.int .i64 a):=by unfold RB at h;simp[World.cell?,h]
theorem RB.c2 {w:World}{b:Nat}{s:By}{a z:Nat}(h:RB w b s a z):w.cell? ⟨b,2,none⟩=some (.int .i64 z):=by unfold RB at h;simp[World.cell?,h]
theorem RB.fr {w:World}{b:Nat}{s:By}{a z:Nat}(h:RB w b s a z)(o:Nat):w.frozen? ⟨b,o,none⟩=false:=by unfold RB at h;simp[World.frozen?,h]
theorem RB.set1 {w:World}{b:Nat}{s:By}{a z:Nat}(h:RB w b s a z)(c:Nat):RB (w.setCell ⟨b,1,none⟩ (Iv c)) b s c z:=by unfold RB at h ⊢;simp[World.setCell,Array.getElem?_modify,h]
theorem RB.set2 {w:World}{b:Nat}{s:By}{a z:Nat}(h:RB w b s a z)(c:Nat):RB (w.setCell ⟨b,2,none⟩ (Iv c)) b s a c:=by unfold RB at h ⊢;simp[World.setCell,Array.getElem?_modify,h]
theorem RB.below {w w':World}{b:Nat}{s:By}{a z:Nat}(h:RB w b s a z)(c:Bw w w'):RB w' b s a z:=by have:=h.lt;unfold RB at h ⊢;rw[c.block b this];exact h
structure RLeft (w:World)(rb:Nat)(s:By)(at_ dep:Nat)(w':World):Prop where
 lies:RB w' rb s at_ dep
 grown:w.grownBy w' (some rb)
theorem RLeft.of_below {w d:World}{c:Nat}{s:By}{a z:Nat}(h:RB w c s a z)(b:Bw w d):RLeft w c s a z d:=⟨h.below b,L5 b _⟩
theorem RLeft.trans {w w1 d:World}{b:Nat}{s:By}{a z c e:Nat}(h:RLeft w b s a z w1)(k:RLeft w1 b s c e d):RLeft w b s c e d:=⟨k.lies,J8 h.grown k.grown⟩
theorem RLeft.below {w d e:World}{c:Nat}{s:By}{a z:Nat}(h:RLeft w c s a z d)(b:Bw d e):RLeft w c s a z e:=⟨h.lies.below b,J8 h.grown (L5 b _)⟩
theorem RLeft.set1 {w d:World}{c:Nat}{s:By}{a z:Nat}(h:RLeft w c s a z d)(b:Nat):RLeft w c s b z (d.setCell ⟨c,1,none⟩ (Iv b)):=⟨h.lies.set1 b,J8 h.grown (V8 _ _ _ _)⟩
theorem RLeft.set2 {w d:World}{b:Nat}{s:By}{a z:Nat}(h:RLeft w b s a z d)(c:Nat):RLeft w b s a c (d.setCell ⟨b,2,none⟩ (Iv c)):=⟨h.lies.set2 c,J8 h.grown (V8 _ _ _ _)⟩
theorem eQk (a:Nat)(s:By)(i z:Nat)(w:World)(h:RB w a s i z)(_hs:s.size<=1048576)(_hi:i<=1048577) :
  Calls Tryz.prog 102 #[Pt a] w fun e b=>e=.returned (.bool (decide (s.size<=i)))/\∃n,b=w.drewN n:=by
 have c:=h.c0;have d:=h.c1;go_enter Tryz.func102,Tryz.ntmps102;go_wp2;go_quiet (fail)
 go_wp2;go_ret;exact⟨by simp,_,rfl⟩
abbrev C9 (a1:Addr):Value:=.iface 251 (.pointer (some a1))
theorem V7 (v:Value)(a:Addr)(w:World)(c:Ce w 3 0 (C9 a)) :
  Calls Tryz.prog 103 #[v] w fun e b=>e=.panicked [{v:=C9 a,recovered:=false}]/\b=w:=by
 go_enter Tryz.func103,Tryz.ntmps103;go_wp2;exact⟨rfl,rfl,rfl⟩
structure Env (w:World)(rb:Nat)(a1:Addr):Prop where
 sc:Ce w 3 0 (C9 a1)
 ne:rb≠3
theorem Env.grown {w c:World}{a:Nat}{b:Addr}(h:Env w a b)(d:w.grownBy c (some a)):Env c a b:=
 ⟨d.cell h.sc (by simp;exact fun e=>h.ne e.symm),h.ne⟩
theorem Env.below {w w':World}{b:Nat}{a:Addr}(h:Env w b a)(c:Bw w w'):Env w' b a:=h.grown (L5 c _)
def K6 (w:World)(rb:Nat)(a1:Addr):Ending->World->Prop:=fun e w'=>e=.panicked [{v:=C9 a1,recovered:=false}]/\w.grownBy w' (some rb)
theorem vQa (w:World)(n:Nat)(r:Option Nat):w.grownBy (w.drewN n) r:=⟨rfl,rfl,rfl,Nr,fun _ _ _=>rfl⟩
theorem mQ4 (f:Nat)(s:By)(i z:Nat)(a:Lu)(g:Nat)(w:World)(h:RB w f s i z)(P:a.length<=8)(K:g<w.heap.size)(E:∀k (F:k<a.length),Ce w g k (.int .u8 a[k].toNat))(hs:s.size<=1048576)(L:i<=1048577) :
  Calls Tryz.prog 131 #[Pt f,Sl g a.length a.length] w fun e j=>e=.returned (.bool (a.any (A7 s i)))/\Bw w j:=by
 have I:Hid _:=E;go_enter Tryz.func131,Tryz.ntmps131;go_wp2;go_loopw [9] (fun t wr=>∃k:Nat,k<=a.length/\t=Iv k/\Bw w wr/\(a.take k).any (A7 s i)=false) (fun t _=>a.length-(intOf t).toNat)
 ·exact⟨0,Nat.zero_le _,rfl,Br,by simp⟩
 ·
  obtain⟨k,F,rfl,l,B⟩:=hrel;have x:Hid _:=B;have r:=h.below l;have M:=r.c0;have N:=r.c1
  by_cases v:k<a.length
  ·have O:=(l.cell (p:=⟨g,k,none⟩) K).trans (I.out k v)
   have R:(0:Int)<=(k:Int):=by omega
   have S:(k:Int)<(a.length:Int):=by omega
   have J:Hid (a.any (A7 s i)=true\/A7 s i a[k]=false):=by
    cases b:A7 s i a[k] with
    | true=>exact .inl (List.any_eq_true.2 ⟨a[k],List.getElem_mem v,b⟩)
    | false=>exact .inr rfl
   have A:Hid (A7 s i a[k]=false->(a.take (k+1)).any (A7 s i)=false):=fun b=>by
    rw[List.take_succ_eq_append_getElem v,List.any_append,x.out];simp[b]
   have H:∀n,RB (wr.drewN n) f s i z:=fun n=>r;have o:Hid (∀n,Ca 102 #[Pt f] (wr.drewN n) fun e j=>e=.returned (.bool (decide (s.size<=i)))/\∃m,j=(wr.drewN n).drewN m):=fun n=>eQk f s i z _ (H n) hs L;generalize a[k]=c at *
   by_cases u:i<s.size
   ·have q:Hid (∀n,Ca 102 #[Pt f] (wr.drewN n) fun e j=>e=.returned (.bool false)/\∃m,j=(wr.drewN n).drewN m):=fun n=>by
     have:=o.out n;rw[show decide (s.size<=i)=false from by simp;omega]at this;exact this
    have Q:(i:Int)<(s.size:Int):=by omega
    have y:Hid (A7 s i c=(((s[i].toNat:Int)==(c.toNat:Int)))):=by
     show _=_;rw[Bool.eq_iff_iff];simp[A7,u,M6 u];rw[<-UInt8.toNat_inj];omega
    cases C:(((s[i].toNat:Int)==(c.toNat:Int))) with
    | true=>
     have d:Hid (a.any (A7 s i)=true):=by
      rcases J.out with b|b
      ·exact b
      ·rw[y.out,C]at b;cases b
     go_wp2;go_quiet ((go_at_call 102;exact Calls.quiet_of (q.out _)))
     go_wp2;go_ret;exact⟨by rw[d.out];rfl,Bj l (E5 _)⟩
    | false=>
     have d:Hid _:=A.out (by rw[y.out,C]);go_wp2;go_quiet ((go_at_call 102;exact Calls.quiet_of (q.out _)))
     go_wp2;go_roundw
     ·exact⟨k+1,by omega,by go_num,Bj l (E5 _),d.out⟩
     ·simp[intOf];omega
   ·have q:Hid (∀n,Ca 102 #[Pt f] (wr.drewN n) fun e j=>e=.returned (.bool true)/\∃m,j=(wr.drewN n).drewN m):=fun n=>by
     have:=o.out n;rw[show decide (s.size<=i)=true from by simp;omega]at this;exact this
    have d:Hid _:=A.out (by simp[A7,u]);go_wp2;go_quiet ((go_at_call 102;exact Calls.quiet_of (q.out _)))
    go_wp2;go_roundw
    ·exact⟨k+1,by omega,by go_num,Bj l (E5 _),d.out⟩
    ·simp[intOf];omega
  ·have G:k=a.length:=by omega
   have d:Hid (a.any (A7 s i)=false):=by
    have:=x.out;rwa [G,List.take_length]at this
   subst G;go_wp2;go_ret;exact⟨by rw[d.out];rfl,l⟩
theorem mQ3 (a:Nat)(s:By)(i z:Nat)(c:UInt8)(w:World)(t:TypeId)(h:RB w a s i z)(hs:s.size<=1048576)(f:i<=1048577) :
  Calls Tryz.prog 131 #[Pt a,Sl w.heap.size 1 1] (w.alloc (.cells #[.int .u8 c.toNat] t)) fun e g=>e=.returned (.bool (A7 s i c))/\RLeft w a s i z g:=by
 refine(mQ4 a s i z [c] (Hz w) (w.alloc (.cells #[.int .u8 c.toNat] t)) (h.below (A5 _ _)) (by simp) (by simp) (fun k b=>?_) hs f).mono ?_
 ·obtain rfl:k=0:=by simp at b;exact b
  have:=heap_alloc_new w (.cells #[.int .u8 c.toNat] t);show World.cell? _ ⟨Hz w,0,none⟩=_;unfold World.cell?;rw[this];rfl
 ·rintro e j ⟨rfl,d⟩
  exact⟨by simp,RLeft.of_below h (Bj (A5 _ _) d)⟩
theorem Z5 (rb:Nat)(s:By)(i z:Nat)(c:UInt8)(w:World)(h:RB w rb s i z)(hs:s.size<=1048576)(ht:A7 s i c=true) :
  Calls Tryz.prog 120 #[Pt rb,.int .u8 c.toNat] w fun e w'=>e=.returned (.bool true)/\RLeft w rb s (i+1) z w':=by
 have hi:=(D9 ht).1;have hS:=fun t=>mQ3 rb s i z c w t h hs (by omega);rw[ht]at hS;have HS:Hid _:=hS;go_enter Tryz.func120,Tryz.ntmps120;go_wp2_with fail;refine(HS.out _).mono ?_;rintro e w1 ⟨rfl,hl⟩;have c1:=hl.lies.c1;have f1:=hl.lies.fr 1;go_wp2;go_ret;exact⟨rfl,hl.set1 (i+1)⟩
theorem X5 (rb:Nat)(s:By)(i z:Nat)(c:UInt8)(w:World)(h:RB w rb s i z)(hs:s.size<=1048576)(hi:i<=1048577)(ht:A7 s i c=false) :
  Calls Tryz.prog 120 #[Pt rb,.int .u8 c.toNat] w fun e w'=>e=.returned (.bool false)/\RLeft w rb s i z w':=by
 have hS:=fun t=>mQ3 rb s i z c w t h hs hi;rw[ht]at hS;have HS:Hid _:=hS;go_enter Tryz.func120,Tryz.ntmps120;go_wp2_with fail;refine(HS.out _).mono ?_;rintro e w1 ⟨rfl,hl⟩;go_wp2;go_ret;exact⟨rfl,hl⟩
theorem nQk (a:Nat)(s:By)(i z:Nat)(c:UInt8)(w:World)(h:RB w a s i z)(hs:s.size<=1048576)(d:i<=1048577) :
  Calls Tryz.prog 120 #[Pt a,.int .u8 c.toNat] w fun e f=>e=.returned (.bool (A7 s i c))/\RLeft w a s (if A7 s i c=true then i+1 else i) z f:=by
 cases b:A7 s i c with
 | true=>simpa using Z5 a s i z c w h hs b
 | false=>simpa using X5 a s i z c w h hs d b
theorem O2 (b:Nat)(s:By)(i z:Nat)(w:World)(h:RB w b s i z)(hs:s.size<=1048576)(d:i<s.size) :
  Calls Tryz.prog 143 #[Pt b] w fun e j=>e=.returned (.int .u8 (nx s i).toNat)/\RLeft w b s (i+1) z j:=by
 have c:=eQk b s i z w h hs (by omega);rw[show decide (s.size<=i)=false from by simp;omega]at c;have g:Hid _:=M6 d;go_enter Tryz.func143,Tryz.ntmps143;go_wp2_with fail;refine c.mono ?_;rintro e k ⟨rfl,n,rfl⟩;have a:=RLeft.of_below h (E5 (w:=w) n);generalize w.drewN n=k at *;have m:=a.lies.c1;have o:=a.lies.fr 1;have q:=a.lies.lt;have l:=a.lies.c0;have p:(i:Int)<(s.size:Int):=by omega
 have f:=a.set1 (i+1);go_wp2;go_quiet (fail)
 go_wp2;go_ret;exact⟨by rw[g.out];simp,f.below (E5 nq)⟩
theorem dQi (a:Nat)(s:By)(i z:Nat)(b:Addr)(w:World)(h:RB w a s i z)(d:Env w a b)(hs:s.size<=1048576)(j:s.size<=i)(g:i<=1048577) :
  Calls Tryz.prog 143 #[Pt a] w (K6 w a b):=by
 have c:=eQk a s i z w h hs g;rw[show decide (s.size<=i)=true from by simp;omega]at c;go_enter Tryz.func143,Tryz.ntmps143;go_wp2_with fail;refine c.mono ?_;rintro e k ⟨rfl,n,rfl⟩;have f:=d.below (E5 (w:=w) n);go_wp2_with fail;refine(V7 _ b _ f.sc).mono ?_;rintro e l ⟨rfl,rfl⟩;go_wp2;exact⟨rfl,rfl,vQa _ _ _⟩
theorem eQr (a:Nat)(s:By)(i z:Nat)(c:UInt8)(w:World)(h:RB w a s i z)(hs:s.size<=1048576)(b:A7 s i c=true) :
  Calls Tryz.prog 175 #[Pt a,.int .u8 c.toNat] w fun e g=>e=.returned (.tuple #[])/\RLeft w a s (i+1) z g:=by
 have d:=Z5 a s i z c w h hs b;go_enter Tryz.func175,Tryz.ntmps175;go_wp2_with fail;refine d.mono ?_;rintro e j ⟨rfl,f⟩;go_wp2;go_end0;exact⟨rfl,f⟩
theorem eQq (a:Nat)(s:By)(i z:Nat)(c:UInt8)(b:Addr)(w:World)(h:RB w a s i z)(g:Env w a b)(hs:s.size<=1048576)(k:i<=1048577)(f:A7 s i c=false) :
  Calls Tryz.prog 175 #[Pt a,.int .u8 c.toNat] w (K6 w a b):=by
 have j:=X5 a s i z c w h hs k f;go_enter Tryz.func175,Tryz.ntmps175;go_wp2_with fail;refine j.mono ?_;rintro e l ⟨rfl,d⟩;go_wp2_with fail;refine(V7 _ b _ (g.grown d.grown).sc).mono ?_;rintro e m ⟨rfl,rfl⟩;go_wp2;exact⟨rfl,rfl,d.grown⟩
theorem hQx (a:Nat)(s:By)(i z:Nat)(w:World)(h:RB w a s i z)(k:z<=11) :
  Calls Tryz.prog 169 #[Pt a] w fun e c=>e=.returned (.tuple #[])/\RLeft w a s i (z+1) c:=by
 have d:=h.c2;have f:=h.fr 2;have j:=h.lt;have b:=(RLeft.of_below h Br).set2 (z+1);have g:¬(12:Int)<(z:Int)+1:=by omega
 go_enter Tryz.func169,Tryz.ntmps169;go_wp2;go_end0;exact⟨rfl,b⟩
theorem hQw (a:Nat)(s:By)(i:Nat)(b:Addr)(w:World)(h:RB w a s i 12)(d:Env w a b) :
  Calls Tryz.prog 169 #[Pt a] w (K6 w a b):=by
 have g:=h.c2;have j:=h.fr 2;have k:=h.lt;have c:=(RLeft.of_below h Br).set2 13;have f:=d.grown c.grown;go_enter Tryz.func169,Tryz.ntmps169;go_wp2_with fail;refine(V7 _ b _ f.sc).mono ?_;rintro e l ⟨rfl,rfl⟩;go_wp2;exact⟨rfl,rfl,c.grown⟩
theorem eQg (b:Nat)(s:By)(i z:Nat)(c:UInt8)(w:World)(h:RB w b s i (z+1))(hs:s.size<=1048576)(n:z<=11)(d:A7 s i c=true) :
  Calls Tryz.prog 171 #[Pt b,.int .u8 c.toNat] w fun e j=>e=.returned (.tuple #[])/\RLeft w b s (i+1) z j:=by
 have f:=eQr b s i (z+1) c w h hs d;go_enter Tryz.func171,Tryz.ntmps171;go_wp2_with fail;refine f.mono ?_;rintro e o ⟨rfl,a⟩;have k:=a.lies.c2;have l:=a.lies.fr 2;have m:=a.lies.lt;have g:=a.set2 z;go_wp2;go_end0;exact⟨rfl,g⟩
theorem eQf (a:Nat)(s:By)(i z:Nat)(c:UInt8)(b:Addr)(w:World)(h:RB w a s i z)(f:Env w a b)(hs:s.size<=1048576)(k:i<=1048577)(d:A7 s i c=false) :
  Calls Tryz.prog 171 #[Pt a,.int .u8 c.toNat] w (K6 w a b):=by
 have g:=eQq a s i z c b w h f hs k d;go_enter Tryz.func171,Tryz.ntmps171;go_wp2_with fail;refine g.mono ?_;rintro e l ⟨rfl,j⟩;go_wp2;exact⟨rfl,rfl,j⟩
structure Bx (T:TypeId)(w:World)(g rb:Nat):Prop where
 lies:w.heap[g]?=some (.cells #[.pointer (some ⟨rb,0,none⟩)] T (0,0))
section
variable {T:TypeId} {w w':World} {g rb:Nat}
theorem Bx.lt (h:Bx T w g rb):g<w.heap.size:=(Array.getElem?_eq_some_iff.1 h.lies).1
theorem Bx.cell (h:Bx T w g rb):w.cell? ⟨g,0,none⟩=some (.pointer (some ⟨rb,0,none⟩)):=by simp[World.cell?,h.lies]
theorem Bx.grown (h:Bx T w g rb)(a:w.grownBy w' (some rb))(b:g≠rb):Bx T w' g rb:=⟨by rw[a.block g h.lt (by simpa using b)];exact h.lies⟩
theorem Bx.below (h:Bx T w g rb)(a:Bw w w'):Bx T w' g rb:=⟨by rw[a.block g h.lt];exact h.lies⟩
theorem Bx.new (w:World)(T:TypeId)(a:Nat):Bx T (w.alloc (.cells #[Pt a] T)) w.heap.size a:=⟨heap_alloc_new _ _⟩
end
abbrev H0 (T:TypeId)(rb:Nat):Obj:=.cells #[.pointer (some ⟨rb,0,none⟩)] T
structure In (T:TypeId)(w:World)(rb:Nat)(s:By)(at_ dep:Nat)(w':World):Prop where
 left:RLeft w rb s at_ dep w'
 box:Bx T w' w.heap.size rb
 old:rb<w.heap.size
section
variable {T:TypeId} {w w1 w2:World} {rb:Nat} {s:By} {a z a' z':Nat}
theorem In.enter (T:TypeId)(h:RB w rb s a z):In T w rb s a z (w.alloc (H0 T rb)):=⟨RLeft.of_below h (A5 _ _),Bx.new _ _ _,h.lt⟩
theorem In.go (h:In T w rb s a z w1)(k:RLeft w1 rb s a' z' w2):In T w rb s a' z' w2:=⟨h.left.trans k,h.box.grown k.grown (Nat.ne_of_gt h.old),h.old⟩
theorem In.below (h:In T w rb s a z w1)(b:Bw w1 w2):In T w rb s a z w2:=⟨h.left.below b,h.box.below b,h.old⟩
theorem In.lies (h:In T w rb s a z w1):RB w1 rb s a z:=h.left.lies
theorem In.cell (h:In T w rb s a z w1):Ce w1 w.heap.size 0 (Pt rb):=h.box.cell
theorem In.env (h:In T w rb s a z w1){b:Addr}(c:Env w rb b):Env w1 rb b:=c.grown h.left.grown
theorem In.threw (h:In T w rb s a z w1){r:Option Nat}(c:r=some rb)(b:w1.grownBy w2 r):w.grownBy w2 (some rb):=by
 subst c;exact J8 h.left.grown b
theorem In.size (h:In T w rb s a z w1):w.heap.size<w1.heap.size:=h.box.lt
end
theorem rQf (a:Addr)(w:World):(Instr.typeAssert (C9 a) 20 80 true).run Tryz.prog w=.ok (.tuple #[C9 a,.bool true]) w:=
 run_typeAssert_hasB Tryz.underlying80 (by kernel_rfl) _ _ w
theorem sQl (p:Nat)(a:Addr)(h:Value)(b:List PanicEntry)(w:World)(d:Ce w p 0 h)(c:w.frozen? ⟨p,0,none⟩=false) :
  CallsD Tryz.prog 105 #[Pt p] (.panicking ({v:=C9 a,recovered:=false}::b)) w fun e g i=>
   e=.returned (.tuple #[])/\g=.panicking ({v:=C9 a,recovered:=true}::b)/\i=w.setCell ⟨p,0,none⟩ (C9 a):=by
 have ha:=rQf a;refine callsD_of_wpS Tryz.func105 rfl fun k j f=>?_;apply wpS_seq
 apply wpS_region
 simp[wpOpsS,go_sem,recoverD,f,Tryz.ntmps105,Exit.thenS,ha];apply wpS_seq
 apply wpS_region
 simp[wpOpsS,go_sem,Exit.thenS,Array.replicate,Act.eval];refine wpS_cond (t:=true) (by simp[Act.eval]) ?_;simp only[if_true];apply wpS_region
 simp[wpOpsS,go_sem,d,c,bodyPostS,results,Tryz.results105,Act.eval]
theorem sQk (p:Nat)(w:World) :
  CallsD Tryz.prog 105 #[Pt p] .returning w fun e c d=>e=.returned (.tuple #[])/\c=.returning/\d=w:=by
 have ha:∀w,(Instr.typeAssert .nilIface 20 80 true).run Tryz.prog w=.ok (.tuple #[.nilIface,.bool false]) w:=fun w=>by kernel_rfl
 refine callsD_of_wpS Tryz.func105 rfl fun a f b=>?_;apply wpS_seq
 apply wpS_region
 simp[wpOpsS,go_sem,recoverD,b,Tryz.ntmps105,Exit.thenS,ha];apply wpS_seq
 apply wpS_region
 simp[wpOpsS,go_sem,Exit.thenS,Array.replicate,Act.eval];refine wpS_cond (t:=false) (by simp[Act.eval]) ?_;simp only[Bool.false_eq_true,if_false];refine wpS_of_wp (wp_skip ?_);cases a;simp_all [bodyPostS,results,Tryz.results105]
theorem lQz {w:World}{g:Nat}{v:Value}{t:TypeId}(h:w.heap[g]?=some (.cells #[v] t (0,0))):w.cell? ⟨g,0,none⟩=some v/\w.frozen? ⟨g,0,none⟩=false:=by
 constructor
 ·simp[World.cell?,h]
 ·simp[World.frozen?,h]
def oQv (w:World)(Q:Ending->World->Prop):Ending->World->Prop:=fun e w2=>
 ∃e1 w1,Q e1 w1/\((e1=.returned (.tuple #[])/\e=.returned .nilIface/\w2=w1.setCell ⟨w.heap.size,0,none⟩ .nilIface)\/(∃a,e1=.panicked [{v:=C9 a,recovered:=false}]/\e=.returned (C9 a)/\w2=w1.setCell ⟨w.heap.size,0,none⟩ (C9 a)))
theorem jQl (f:Nat)(h:Array Value)(t:∀w,(callFunc f h).run Tryz.prog w=.ok (.enter f h) w)(w:World)(Q:Ending->World->Prop)
  (k:Calls Tryz.prog f h (w.alloc (.cells #[.nilIface] 80)) Q)
  (n:∀e d,Q e d->d.heap[w.heap.size]?=some (.cells #[.nilIface] 80 (0,0))/\(e=.returned (.tuple #[])\/∃a,e=.panicked [{v:=C9 a,recovered:=false}])) :
  Calls Tryz.prog 78 #[.func (.func f) #[] h] w (oQv w Q):=by
 have u:∀(m:Fn) (first l:Array Value) (w:World),(Instr.makeFunc m first l).run Tryz.prog w=.ok (.func m first l) w:=fun _ _ _ _=>rfl;have p:Hid _:=n;go_enter_defers Tryz.func78,Tryz.ntmps78
 go_wp2;refine k.mono ?_;intro e g c;obtain⟨b,rfl|⟨a,rfl⟩⟩:=p.out e g c
 ·have⟨i,o⟩:=lQz b
  have j:Hid _:=c;have q:=(Array.getElem?_eq_some_iff.1 b).1;go_wp2;refine leaves_cons (f:=105) (args:=#[Pt w.heap.size]) (by simp) (by simp[go_sem]) ?_;refine(sQk (Hz w) _).mono ?_;rintro e r s ⟨rfl,rfl,rfl⟩;simp[Leaves,settle,results,Tryz.results78,go_sem,i];exact⟨_,g,j.out,.inl ⟨rfl,rfl,rfl⟩⟩
 ·have⟨i,o⟩:=lQz b
  have j:Hid _:=c;have q:=(Array.getElem?_eq_some_iff.1 b).1;go_wp2;refine leaves_cons (f:=105) (args:=#[Pt w.heap.size]) (by simp) (by simp[go_sem]) ?_;refine(sQl (Hz w) a _ [] _ i o).mono ?_;rintro e r s ⟨rfl,rfl,rfl⟩;simp[Leaves,settle,results,Tryz.results78,go_sem,i];exact⟨_,g,j.out,.inr ⟨a,rfl,rfl,rfl⟩⟩
theorem eQw (c:UInt8)(w:World) :
  Calls Tryz.prog 184 #[.int .u8 c.toNat] w fun e a=>e=.returned (.bool (gXu c))/\a=w:=by
 go_enter Tryz.func184,Tryz.ntmps184;go_wp2
 all_goals
  go_ret;refine⟨R5 ?_,rfl⟩;rw[Bool.eq_iff_iff];simp[gXu];omega
theorem kQx (c:UInt8)(w:World) :
  Calls Tryz.prog 201 #[.int .u8 c.toNat] w fun e a=>e=.returned (.bool (decide (97<=c.toNat/\c.toNat<=122)))/\a=w:=by
 go_enter Tryz.func201,Tryz.ntmps201;go_wp2
 all_goals
  go_ret;refine⟨R5 ?_,rfl⟩;rw[Bool.eq_iff_iff];simp;omega
theorem kQu (c:UInt8)(w:World) :
  Calls Tryz.prog 213 #[.int .u8 c.toNat] w fun e f=>e=.returned (.bool (iXl c))/\f=w:=by
 have b:=kQx c w;cases a:decide (97<=c.toNat/\c.toNat<=122) with
 | true=>
  rw[a]at b;have d:Hid (iXl c=true):=by show _=_;simp at a;simp[iXl];omega
  go_enter Tryz.func213,Tryz.ntmps213;go_wp2_with fail;refine b.mono ?_;rintro e g ⟨rfl,rfl⟩;go_wp2;go_ret;exact⟨by rw[d.out];rfl,rfl⟩
 | false=>
  rw[a]at b;have d:Hid (¬(97<=c.toNat/\c.toNat<=122)):=of_decide_eq_false a;go_enter Tryz.func213,Tryz.ntmps213;go_wp2_with fail;refine b.mono ?_;rintro e g ⟨rfl,rfl⟩;go_wp2
  all_goals
   go_ret;refine⟨R5 ?_,rfl⟩;have:=d.out;rw[Bool.eq_iff_iff];simp[iXl];omega
abbrev D3 (rb:Nat):Value:=.agg #[.pointer (some ⟨rb,0,none⟩)]
theorem lQl (a:Nat)(s:By)(i z:Nat)(w:World)(h:RB w a s i z)(hs:s.size<=1048576)(c:iXl (nx s i)=true) :
  Calls Tryz.prog 206 #[D3 a] w fun e l=>e=.returned (.int .u8 (nx s i).toNat)/\RLeft w a s (i+1) z l:=by
 have j:=q9 c;have b:=fun W=>kQu (nx s i) W;rw[c]at b;have g:Hid _:=b;have f:=RLeft.of_below h (A5 w (.cells #[Pt a] 177));have d:Hid _:=f;go_enter Tryz.func206,Tryz.ntmps206;go_wp2_with fail;refine(O2 a s i z _ d.out.lies hs j).mono ?_;rintro e m ⟨rfl,k⟩;go_wp2_with fail;refine(g.out _).mono ?_;rintro e n ⟨rfl,rfl⟩;go_wp2;go_ret;exact⟨rfl,d.out.trans k⟩
theorem lQk (a:Nat)(s:By)(i z:Nat)(c:Addr)(w:World)(h:RB w a s i z)(p:Env w a c)(hs:s.size<=1048576)(r:i<=1048577)(l:iXl (nx s i)=false) :
  Calls Tryz.prog 206 #[D3 a] w (K6 w a c):=by
 have d:=fun W=>kQu (nx s i) W;rw[l]at d;have n:Hid _:=d;have v:=h.lt;have f:=A5 w (.cells #[Pt a] 177);have b:Hid _:=RLeft.of_below h f;have k:Hid _:=p.below f;have m:=Bx.new w 177 a;have o:Hid _:=m;rcases Nat.lt_or_ge i s.size with g|g
 ·go_enter Tryz.func206,Tryz.ntmps206
  go_wp2_with fail;refine(O2 a s i z _ b.out.lies hs g).mono ?_;rintro e t ⟨rfl,j⟩;have u:=(o.out.grown j.grown (by omega)).cell;go_wp2_with fail;refine(n.out _).mono ?_;rintro e x ⟨rfl,rfl⟩;go_wp2_with fail;refine(V7 _ c _ (k.out.grown j.grown).sc).mono ?_;rintro e y ⟨rfl,rfl⟩;go_wp2;exact⟨rfl,rfl,(b.out.trans j).grown⟩
 ·go_enter Tryz.func206,Tryz.ntmps206
  go_wp2_with fail;refine(dQi a s i z c _ b.out.lies k.out hs g r).mono ?_;rintro e t ⟨rfl,q⟩;go_wp2;exact⟨rfl,rfl,J8 b.out.grown q⟩
def G4 (lo hi c:Nat):Bool:=if c<64 then lo.testBit c else hi.testBit (c-64)
theorem lQ1 (x k:Nat)(e:x<18446744073709551616)(d:k<64):bits .or .u64 (x:Int) (IntKind.u64.wrap (2 ^ k))=((x ||| 2 ^ k:Nat):Int):=by
 have b:(2:Nat) ^ k<18446744073709551616:=by
  have:=Nat.pow_lt_pow_right (a:=2) (by omega) d;simpa using this
 have c:IntKind.u64.wrap (2 ^ k)=((2 ^ k:Nat):Int):=by
  rw[IntKind.wrap_u64,show ((2:Int) ^ k)=((2 ^ k:Nat):Int) from by simp];generalize 2 ^ k=y at *;omega
 rw[c,u64_or_nat x (2 ^ k) e b]
theorem lQ2 (x k:Nat)(c:x<18446744073709551616)(b:k<64):x ||| 2 ^ k<18446744073709551616:=by
 have a:(2:Nat) ^ k<2 ^ 64:=Nat.pow_lt_pow_right (by omega) b;have:=Nat.or_lt_two_pow (n:=64) (by simpa using c) a;simpa using this
theorem cXc (lo a k:Nat)(b:k<64)(c:Nat):G4 (lo ||| 2 ^ k) a c=(G4 lo a c||c==k):=by
 unfold G4;split
 ·rw[Nat.testBit_or,Nat.testBit_two_pow]
  by_cases h:k=c
  ·simp[h]
  ·simp[h,Ne.symm h]
 ·have:(c==k)=false:=by simp;omega
  simp[this]
theorem cXb (lo a k:Nat)(d:64<=k)(c:Nat):G4 lo (a ||| 2 ^ (k-64)) c=(G4 lo a c||c==k):=by
 unfold G4;split
 ·have:(c==k)=false:=by simp;omega
  simp[this]
 ·rw[Nat.testBit_or,Nat.testBit_two_pow]
  by_cases h:k=c
  ·simp[h]
  ·have b:¬k-64=c-64:=by omega
   simp[b,Ne.symm h]
theorem aQi {w:World}{g lo a:Nat}{t:TypeId}(h:w.heap[g]?=some (.cells #[.int .u64 lo,.int .u64 a] t (0,0))):w.cell? ⟨g,0,none⟩=some (.int .u64 lo)/\w.cell? ⟨g,1,none⟩=some (.int .u64 a)/\w.frozen? ⟨g,0,none⟩=false/\w.frozen? ⟨g,1,none⟩=false:=by
 refine⟨?_,?_,?_,?_⟩
 ·simp[World.cell?,h]
 ·simp[World.cell?,h]
 ·simp[World.frozen?,h]
 ·simp[World.frozen?,h]
def qQb (lo hi:Nat)(a b:UInt8)(w:World):Ending->World->Prop:=fun e w'=>
 ∃lo' hi':Nat,e=.returned (.agg #[.int .u64 lo',.int .u64 hi'])/\lo'<18446744073709551616/\hi'<18446744073709551616/\(∀c,G4 lo' hi' c=(G4 lo hi c||decide (a.toNat<=c/\c<=b.toNat)))/\Bw w w'
theorem fQz (lo f:Nat)(a b:UInt8)(w:World)(N:a.toNat<=b.toNat)(O:b.toNat<=126)(E:lo<18446744073709551616)(B:f<18446744073709551616) :
  Calls Tryz.prog 162 #[.agg #[.int .u64 lo,.int .u64 f],.int .u8 a.toNat,.int .u8 b.toNat] w (qQb lo f a b w):=by
 go_enter Tryz.func162,Tryz.ntmps162;go_wp2;go_loopw [7] (fun c wr=>∃(k e d:Nat),c=.int .u8 k/\a.toNat<=k/\k<=b.toNat+1/\Bw w wr/\e<18446744073709551616/\d<18446744073709551616/\wr.heap[w.heap.size]?=some (.cells #[.int .u64 e,.int .u64 d] 157 (0,0))/\wr.heap[w.heap.size+1]?=some (.cells #[.int .u64 (0:Nat),.int .u64 (0:Nat)] 157 (0,0))/\∀c,G4 e d c=(G4 lo f c||decide (a.toNat<=c/\c<k))) (fun c _=>128-(intOf c).toNat)
 ·
  refine⟨a.toNat,lo,f,rfl,Nr,by omega,C6 _ _ _,E,B,?_,?_,fun c=>?_⟩
  ·rw[Below.heap_alloc _ _ _ (by simp)];exact heap_alloc_new _ _
  ·have:=heap_alloc_new (w.alloc (.cells #[.int .u64 lo,.int .u64 f] 157)) (.cells #[.int .u64 (0:Nat),.int .u64 (0:Nat)] 157)
   simpa using this
  ·have:¬(a.toNat<=c/\c<a.toNat):=by omega
   simp[this]
 ·
  obtain⟨k,e,d,rfl,A,P,n,g,i,o,q,u⟩:=hrel;have l:Hid _:=u;have⟨J,K,L,M⟩:=aQi o;have⟨H,I,R,s1⟩:=aQi q;have r:Hid _:=o;have s:Hid _:=q;have x:∀c,(G4 lo f c||decide (a.toNat<=c/\c<k)||c==k)=(G4 lo f c||decide (a.toNat<=c/\c<k+1)):=fun c=>by
   by_cases h:c=k
   ·subst h;simp[A]
   ·have y:(c==k)=false:=by simp[h]
    have z:decide (a.toNat<=c/\c<k+1)=decide (a.toNat<=c/\c<k):=by
     rw[decide_eq_decide];omega
    rw[y,z];simp
  have t:Hid _:=x
  by_cases Q:k<=b.toNat
  ·by_cases m:k<64
   ·have F:(k:Int) / 64=0:=by omega
    have G:(k:Int) % 64=k:=by omega
    have j:Hid _:=lQ1 e k g m;go_wp2;go_roundw
    ·
     rw[j.out];refine⟨k+1,e ||| 2 ^ k,d,by go_num,by omega,by omega,n.setCell Nr _,lQ2 _ _ g m,i,?_,?_,fun c=>?_⟩
     ·have:=r.out;simp[World.setCell,Array.getElem?_modify,this]
     ·rw[Below.heap_setCell _ _ _ _ (by show _≠_;simp)];exact s.out
     ·rw[cXc _ _ _ m,l.out c,t.out c]
    ·simp[intOf];omega
   ·have F:(k:Int) / 64=1:=by omega
    have G:(k:Int) % 64=((k-64:Nat):Int):=by omega
    have j:Hid _:=lQ1 d (k-64) i (by omega);go_wp2;go_roundw
    ·
     rw[j.out];refine⟨k+1,e,d ||| 2 ^ (k-64),by go_num,by omega,by omega,n.setCell Nr _,g,lQ2 _ _ i (by omega),?_,?_,fun c=>?_⟩
     ·have:=r.out;simp[World.setCell,Array.getElem?_modify,this]
     ·rw[Below.heap_setCell _ _ _ _ (by show _≠_;simp)];exact s.out
     ·rw[cXb _ _ _ (by omega),l.out c,t.out c]
    ·simp[intOf];omega
  ·have C:k=b.toNat+1:=by omega
   go_wp2;refine bodyPost_ret (v:=.agg #[.int .u64 e,.int .u64 d]) (by simp[results,Tryz.results162,go_sem,H,I]) rfl ⟨e,d,rfl,g,i,fun c=>?_,?_⟩
   ·rw[l.out c,C]
    congr 1
    rw[decide_eq_decide];omega
   ·exact(n.setCell (p:=⟨Hz w+1,0,none⟩) (by show _<=w.heap.size+1;omega) _).setCell (p:=⟨w.heap.size+1,1,none⟩) (by show _<=w.heap.size+1;omega) _
structure SB (g:Lu)(lo hi:Nat):Prop where
 loLt:lo<18446744073709551616
 hiLt:hi<18446744073709551616
 bit:∀c:UInt8,c.toNat<128->G4 lo hi c.toNat=Ls.has g c
 none:∀c:UInt8,128<=c.toNat->Ls.has g c=false
theorem kQn (g h:Lu)(c:UInt8):Ls.has (g++h) c=(Ls.has g c||Ls.has h c):=by simp[Ls.has]
theorem cQx (d c:UInt8):Ls.has [d] c=(d==c):=by simp[Ls.has]
theorem SB.empty:SB [] 0 0:=⟨by omega,by omega,fun c _=>by simp[G4,Ls.has],fun c _=>by simp[Ls.has]⟩
theorem eQt (d:Lu)(a b c:UInt8):(n:Nat)->n<=128->Ls.has (gXo d a b n) c=(Ls.has d c||decide (a.toNat<=c.toNat/\c.toNat<=b.toNat/\c.toNat<n))
 | 0,_=>by simp[gXo]
 | n+1,hn=>by
  have g:=eQt d a b c n (by omega);have p:(UInt8.ofNat n).toNat=n:=by simp;omega
  rw[cQh]
  by_cases o:c.toNat=n
  ·have i:c=UInt8.ofNat n:=UInt8.toNat_inj.1 (by omega)
   split
   ·rename_i h
    rw[kQn,cQx,<-i];have e:decide (a.toNat<=c.toNat/\c.toNat<=b.toNat/\c.toNat<n+1)=true:=by simp;omega
    rw[e];simp
   ·rename_i h
    rw[g]
    by_cases e:a.toNat<=n/\n<=b.toNat
    ·have f:Ls.has (gXo d a b n) (UInt8.ofNat n)=true:=by
      cases j:Ls.has (gXo d a b n) (UInt8.ofNat n) with
      | true=>rfl
      | false=>exact absurd ⟨e.1,e.2,j⟩ h
     rw[<-i,g]at f;have k:decide (a.toNat<=c.toNat/\c.toNat<=b.toNat/\c.toNat<n)=false:=by simp;omega
     rw[k]at f ⊢;simp at f;simp[f]
    ·congr 1
     rw[decide_eq_decide];omega
  ·have l:decide (a.toNat<=c.toNat/\c.toNat<=b.toNat/\c.toNat<n+1)=decide (a.toNat<=c.toNat/\c.toNat<=b.toNat/\c.toNat<n):=by
    rw[decide_eq_decide];omega
   rw[l];split
   ·rw[kQn,cQx,g]
    have m:(UInt8.ofNat n==c)=false:=by
     rw[beq_eq_false_iff_ne];rintro rfl;exact o p
    rw[m];simp
   ·exact g
theorem SB.with {g:Lu}{lo i f e:Nat}{a b:UInt8}(h:SB g lo i)(l:f<18446744073709551616)(k:e<18446744073709551616)(_hb:b.toNat<=127)(j:∀c,G4 f e c=(G4 lo i c||decide (a.toNat<=c/\c<=b.toNat))):SB (rng g a b) f e:=by
 refine⟨l,k,fun c d=>?_,fun c d=>?_⟩
 ·rw[j,h.bit c d]
  unfold rng;rw[eQt g a b c 128 Nr];congr 1
  rw[decide_eq_decide];omega
 ·unfold rng
  rw[eQt g a b c 128 Nr,h.none c d];have:decide (a.toNat<=c.toNat/\c.toNat<=b.toNat/\c.toNat<128)=false:=by simp;omega
  rw[this];rfl
theorem SB.congr {g b:Lu}{lo e:Nat}(h:SB g lo e)(d:∀c,Ls.has b c=Ls.has g c):SB b lo e:=
 ⟨h.loLt,h.hiLt,fun c a=>by rw[d];exact h.bit c a,fun c a=>by rw[d];exact h.none c a⟩
theorem vQe (c d:UInt8)(h:c.toNat<128):Ls.has (rng [] c c) d=Ls.has [c] d:=by
 unfold rng;rw[eQt [] c c d 128 Nr,cQx]
 by_cases e:c=d
 ·subst e;simp[Ls.has,h]
 ·have a:(c==d)=false:=by simp[e]
  have b:decide (c.toNat<=d.toNat/\d.toNat<=c.toNat/\d.toNat<128)=false:=by
   simp only[decide_eq_false_iff_not];intro f;exact e (UInt8.toNat_inj.1 (by omega))
  rw[a,b];rfl
theorem vQd (d:UInt8):Ls.has (rng [] 97 122) d=Ls.has az d:=by
 have a:rng [] 97 122=az:=by decide +kernel
 rw[a]
abbrev K3 (lo hi:Nat):Value:=.iface 180 (.agg #[.int .u64 lo,.int .u64 hi])
theorem cXk {c:UInt8}(h:gXu c=true):c.toNat<=126:=by simp[gXu]at h;omega
theorem lQ0 (c:UInt8)(w:World)(k:c.toNat<=126) :
  Calls Tryz.prog 185 #[.int .u8 c.toNat] w fun e j=>(∃lo a,e=.returned (K3 lo a)/\SB [c] lo a)/\Bw w j:=by
 go_enter Tryz.func185,Tryz.ntmps185;go_wp2_with fail;refine(fQz 0 0 c c _ Nr (by omega) (by omega) (by omega)).mono ?_;rintro e l ⟨lo,a,rfl,f,g,b,i⟩;have h:=(SB.with SB.empty f g (by omega) b).congr (fun d=>(vQe c d (by omega)).symm);go_wp2;go_ret;exact⟨⟨lo,a,rfl,h⟩,i⟩
theorem mQ2 (f:Nat)(c:UInt8)(w:World)(d:gXu c=true) :
  Calls Tryz.prog 163 #[D3 f,.int .u8 c.toNat] w fun e l=>(∃lo a,e=.returned (K3 lo a)/\SB [c] lo a)/\Bw w l:=by
 have k:=cXk d;have b:=fun W=>eQw c W;rw[d]at b;have h:Hid _:=b;have g:Hid _:=A5 w (.cells #[Pt f] 177);go_enter Tryz.func163,Tryz.ntmps163;go_wp2_with fail;refine(h.out _).mono ?_;rintro e m ⟨rfl,rfl⟩;go_wp2_with fail;refine(lQ0 c _ k).mono ?_;rintro e n ⟨⟨lo,a,rfl,i⟩,j⟩;go_wp2;go_ret;exact⟨⟨lo,a,rfl,i⟩,Bj g.out j⟩
theorem mQ1 (a:Nat)(c:UInt8)(d:Addr)(w:World)(k:Env w a d)(g:gXu c=false) :
  Calls Tryz.prog 163 #[D3 a,.int .u8 c.toNat] w (K6 w a d):=by
 have b:=fun W=>eQw c W;rw[g]at b;have j:Hid _:=b;have f:=A5 w (.cells #[Pt a] 177);have i:Hid _:=k.below f;have h:Hid _:=f;go_enter Tryz.func163,Tryz.ntmps163;go_wp2_with fail;refine(j.out _).mono ?_;rintro e l ⟨rfl,rfl⟩;go_wp2_with fail;refine(V7 _ d _ i.out.sc).mono ?_;rintro e m ⟨rfl,rfl⟩;go_wp2;exact⟨rfl,rfl,L5 h.out _⟩
theorem RLeft.res2 {w W:World}{b:Nat}{s:By}{a z:Nat}(h:RLeft w b s a z W){g:Nat}(e:w.heap.size<=g)(f:b<w.heap.size)(x y:Value):RLeft w b s a z ((W.setCell ⟨g,0,none⟩ x).setCell ⟨g,1,none⟩ y):=by
 refine⟨?_,?_⟩
 ·have:=h.lies
  unfold RB at this ⊢;rw[Below.heap_setCell _ _ _ _ (by show b≠g;omega),Below.heap_setCell _ _ _ _ (by show b≠g;omega)];exact this
 ·refine⟨h.grown.os,h.grown.tape,h.grown.output,by simpa [World.setCell] using h.grown.size,fun k c d=>?_⟩
  rw[Below.heap_setCell _ _ _ _ (by show k≠g;omega),Below.heap_setCell _ _ _ _ (by show k≠g;omega)];exact h.grown.block k c d
def pQb (w:World)(rb:Nat)(s:By)(i z:Nat)(a1:Addr)(g:Lu):Ending->World->Prop:=fun e w'=>
 (∃a b j lo hi,gXc (rest s i)=some (a,b,rest s j)/\j<=s.size/\i<j/\e=.returned (.agg #[.int .u64 (lo:Nat),.int .u64 (hi:Nat)])/\SB (rng g a b) lo hi/\RLeft w rb s j z w')\/
 (gXc (rest s i)=.none/\K6 w rb a1 e w')
abbrev U9 (w:World)(rb lo hi:Nat):World:=((w.alloc (.cells #[.pointer (some ⟨rb,0,none⟩)] 177)).alloc (.cells #[.int .u64 lo,.int .u64 hi] 157)).alloc (.cells #[.int .u64 (0:Nat),.int .u64 (0:Nat)] 157)
theorem jQt (a:Nat)(s:By)(i z:Nat)(h:Addr)(a0:Lu)(lo b:Nat)(w:World)(a1:RB w a s i z)(hE:Env w a h)(hs:s.size<=1048576)(c9:i<=s.size)(n:SB a0 lo b) :
  Calls Tryz.prog 183 #[D3 a,.agg #[.int .u64 lo,.int .u64 b]] w (pQb w a s i z h a0):=by
 have b0:=a1.lt;have d2:¬a=w.heap.size:=by omega
 have O:¬w.heap.size=a:=by omega
 have a9:¬w.heap.size+1=a:=by omega
 have J:=Q0 w (.cells #[Pt a] 177) (.cells #[.int .u64 lo,.int .u64 b] 157) (.cells #[.int .u64 (0:Nat),.int .u64 (0:Nat)] 157);have a7:=RLeft.of_below a1 J;have a3:=hE.below J;have b1:Bx 177 (U9 w a lo b) (Hz w) a:=((Bx.new w 177 a).below (A5 _ _)).below (A5 _ _);have b4:(U9 w a lo b).heap[w.heap.size+1]?=some (.cells #[.int .u64 lo,.int .u64 b] 157 (0,0)):=by
  rw[Below.heap_alloc _ _ _ (by simp)];have:=heap_alloc_new (w.alloc (.cells #[Pt a] 177)) (.cells #[.int .u64 lo,.int .u64 b] 157);simpa using this
 have b5:(U9 w a lo b).heap[w.heap.size+1+1]?=some (.cells #[.int .u64 (0:Nat),.int .u64 (0:Nat)] 157 (0,0)):=by
  have:=heap_alloc_new ((w.alloc (.cells #[Pt a] 177)).alloc (.cells #[.int .u64 lo,.int .u64 b] 157)) (.cells #[.int .u64 (0:Nat),.int .u64 (0:Nat)] 157);rw[World.size_alloc,World.size_alloc]at this;exact this
 have c6:(U9 w a lo b).heap.size=w.heap.size+1+1+1:=by simp
 have t:Hid (RLeft w a s i z (U9 w a lo b)):=a7;have W:Hid _:=a3;have b6:Hid _:=b1;have b7:Hid _:=b4;have b9:Hid _:=b5;cases k:iXl (nx s i) with
 | false=>
  have c:Hid _:=mQw k;have u:=lQk a s i z h _ t.out.lies W.out hs (by omega) k;clear k;go_enter Tryz.func183,Tryz.ntmps183;go_wp2_with fail;refine u.mono ?_;rintro e w1 ⟨rfl,M⟩;go_wp2_with fail;exact⟨rfl,.inr ⟨c.out,rfl,J8 t.out.grown M⟩⟩
 | true=>
  have d0:=q9 k;have p:Hid (iXl (nx s i)=true):=k;have u:=lQl a s i z _ t.out.lies hs k;clear k;go_enter Tryz.func183,Tryz.ntmps183;go_wp2_with fail;refine u.mono ?_;rintro e w1 ⟨rfl,j⟩;clear u;have c1:=W.out.grown j.grown;have b2:=b6.out.grown j.grown O;have k1:=b2.cell;have a2:=nQk a s (i+1) z 45 w1 j.lies hs (by omega);go_wp2_with fail;refine a2.mono ?_;rintro e w2 ⟨rfl,f⟩;clear a2 k1;have a4:=c1.grown f.grown;have b3:=b2.grown f.grown O;have k2:=b3.cell;have d:=t.out.trans (j.trans f);have Q:=b7.out;rw[<-(j.trans f).grown.block _ (by omega) (by simpa using a9)]at Q;have S:=b9.out;rw[<-(j.trans f).grown.block _ (by omega) (by simp;omega)]at S;have c7:=(j.trans f).grown.size;rw[c6]at c7;have Y:Hid (w2.heap[w.heap.size+1]?=some (.cells #[.int .u64 lo,.int .u64 b] 157 (0,0))):=Q;have Z:Hid (w2.heap[w.heap.size+1+1]?=some (.cells #[.int .u64 (0:Nat),.int .u64 (0:Nat)] 157 (0,0))):=S;clear Q S;cases o:A7 s (i+1) 45 with
  | false=>
   have c:Hid (gXc (rest s i)=some (nx s i,nx s i,rest s (i+1))):=mQx p.out o;rw[o]at d;simp only[Bool.false_eq_true,if_false]at d;have⟨B,C,E,F⟩:=aQi Y.out;have c4:=kXo p.out;clear o;go_wp2_with fail;refine(fQz lo b (nx s i) (nx s i) _ Nr (by omega) n.loLt n.hiLt).mono ?_;rintro e y ⟨r,N,rfl,G,H,q,K⟩;have I:=SB.with n G H (by omega) q;clear q;have g:=d.below K;have c8:=K.size;have m:=Z.out;rw[<-K.block _ (by omega)]at m;have⟨U,V,s0,s1⟩:=aQi m;clear m B C E F;go_wp2_with fail;refine bodyPost_ret (v:=.agg #[.int .u64 r,.int .u64 N]) (by simp[results,Tryz.results183,go_sem,U,V]) rfl (.inl ⟨nx s i,nx s i,i+1,r,N,c.out,by omega,by omega,rfl,I,g.res2 (by omega) b0 _ _⟩)
  | true=>
   have P:=o;rw[o]at d f;simp only[if_true]at d f;have d1:=(D9 P).1;have A:Hid (A7 s (i+1) 45=true):=P;clear o P;cases l:iXl (nx s (i+1+1)) with
   | false=>
    have c:Hid (gXc (rest s i)=.none):=hQ8 p.out A.out (.inl l);have x:=lQk a s (i+1+1) z h _ d.lies a4 hs (by omega) l;clear l;go_wp2_with fail;refine x.mono ?_;rintro e y ⟨rfl,M⟩;go_wp2_with fail;exact⟨rfl,.inr ⟨c.out,rfl,J8 d.grown M⟩⟩
   | true=>
    have N:=q9 l;have X:Hid (iXl (nx s (i+1+1))=true):=l;have x:=lQl a s (i+1+1) z _ d.lies hs l;clear l;go_wp2_with fail;refine x.mono ?_;rintro e y ⟨rfl,g⟩;clear x k2;have a8:=d.trans g;have c2:=a4.grown g.grown;have c5:=b3.grown g.grown O;have k3:=c5.cell;have c8:=g.grown.size;have R:=Y.out;rw[<-g.grown.block _ (by omega) (by simpa using a9)]at R;have m:=Z.out;rw[<-g.grown.block _ (by omega) (by simp;omega)]at m;have b8:Hid (y.heap[w.heap.size+1]?=some (.cells #[.int .u64 lo,.int .u64 b] 157 (0,0))):=R;have c0:Hid (y.heap[w.heap.size+1+1]?=some (.cells #[.int .u64 (0:Nat),.int .u64 (0:Nat)] 157 (0,0))):=m;clear R m
    by_cases a5:(nx s (i+1+1)).toNat<(nx s i).toNat
    ·have c:Hid (gXc (rest s i)=.none):=hQ8 p.out A.out (.inr a5)
     go_wp2_with fail;refine(V7 _ h _ c2.sc).mono ?_;rintro e w4 ⟨rfl,rfl⟩;go_wp2_with fail;exact⟨rfl,.inr ⟨c.out,rfl,a8.grown⟩⟩
    ·have c:Hid (gXc (rest s i)=some (nx s i,nx s (i+1+1),rest s (i+1+1+1))):=mQy p.out A.out X.out a5
     have⟨B,C,E,F⟩:=aQi b8.out;have c4:=kXo X.out;go_wp2_with fail;refine(fQz lo b (nx s i) (nx s (i+1+1)) _ (by omega) (by omega) n.loLt n.hiLt).mono ?_;rintro e w4 ⟨r,a6,rfl,G,H,q,L⟩;have I:=SB.with n G H (by omega) q;clear q;have c3:=a8.below L;have d3:=L.size;have T:=c0.out;rw[<-L.block _ (by omega)]at T;have⟨U,V,s0,s1⟩:=aQi T;clear T B C E F;go_wp2_with fail;refine bodyPost_ret (v:=.agg #[.int .u64 r,.int .u64 a6]) (by simp[results,Tryz.results183,go_sem,U,V]) rfl (.inl ⟨nx s i,nx s (i+1+1),i+1+1+1,r,a6,c.out,by omega,by omega,rfl,I,c3.res2 (by omega) b0 _ _⟩)
theorem vQg (c:UInt8)(s:By)(w:World):(callFunc 207 #[.string s,.int .u8 c.toNat]).run Tryz.prog w=.ok (.value (.int .i64 (firstIdx s c))) w:=by
 rw[run_callFunc_indexByte Tryz.func207 (by kernel_rfl) (by kernel_rfl) (by kernel_rfl) (by kernel_rfl),run_indexByte_string];simp[Result.andThen]
theorem vQj (c:UInt8)(s:By)(w:World) :
  Calls Tryz.prog 164 #[.string s,.int .u8 c.toNat] w fun e a=>e=.returned (Iv (firstIdx s c))/\a=w:=by
 have b:=vQg;go_enter Tryz.func164,Tryz.ntmps164;go_wp2
 go_ret;exact⟨rfl,rfl⟩
abbrev P5 (sl:Value):Value:=.iface 184 (.agg #[sl])
abbrev bQb (sl:Value):Value:=.iface 187 (.agg #[sl])
abbrev T8 (v:Value)(m a:Bool):Value:=.iface 189 (.agg #[v,.bool m,.bool a])
structure Shows (w:World)(G:Nat->Prop)(sl:Value)(vs:List Value):Prop where
 own:w.ownsRow 0 89 1 sl vs.length vs
 inG:∀k,sl.ownBlock=some k->G k
structure RepC (w:World)(G:Nat->Prop)(P:Nat->Ls.D->List Value->Prop):Prop where
 place:∀{s:Lu} {lo hi:Nat},SB s lo hi->P 0 (Ls.place s) [K3 lo hi]
 rep:∀{t:Nat} {a:Ls.D} {v:Value},t=5\/t=6\/t=7->P 0 a [v]->P 0 (Ls.rep t a) [T8 v (t != 6) (t != 7)]
 row:∀{d:Ls.D} {sl:Value} {vs:List Value},Shows w G sl vs->P 1 d vs->P 0 d [P5 sl]
 choice:∀{d:Ls.D} {sl:Value} {vs:List Value},Shows w G sl vs->P 2 d vs->P 0 d [bQb sl]
 rnil:P 1 Ls.rnil []
 rcons:∀{a r:Ls.D} {v:Value} {vs:List Value},P 0 a [v]->P 1 r vs->P 1 (Ls.rcons a r) (v::vs)
 clast:∀{r:Ls.D} {v:Value},P 0 r [v]->P 2 (Ls.clast r) [v]
 ccons:∀{r c:Ls.D} {v:Value} {vs:List Value},P 0 r [v]->P 2 c vs->P 2 (Ls.ccons r c) (v::vs)
structure Rep (w:World)(G:Nat->Prop)(r:Nat)(d:Ls.D)(vs:List Value):Prop where
 all:∀P,RepC w G P->P r d vs
section
variable {w:World} {G:Nat->Prop}
theorem Rep.place {s:Lu}{lo a:Nat}(h:SB s lo a):Rep w G 0 (Ls.place s) [K3 lo a]:=⟨fun _ c=>c.place h⟩
theorem Rep.rep {t:Nat}{a:Ls.D}{v:Value}(b:t=5\/t=6\/t=7)(h:Rep w G 0 a [v]):Rep w G 0 (Ls.rep t a) [T8 v (t != 6) (t != 7)]:=⟨fun P c=>c.rep b (h.all P c)⟩
theorem Rep.row {d:Ls.D}{a:Value}{b:List Value}(hs:Shows w G a b)(h:Rep w G 1 d b):Rep w G 0 d [P5 a]:=⟨fun P c=>c.row hs (h.all P c)⟩
theorem Rep.choice {d:Ls.D}{a:Value}{b:List Value}(hs:Shows w G a b)(h:Rep w G 2 d b):Rep w G 0 d [bQb a]:=⟨fun P c=>c.choice hs (h.all P c)⟩
theorem Rep.rnil:Rep w G 1 rnil []:=⟨fun _ c=>c.rnil⟩
theorem Rep.rcons {a r:Ls.D}{v:Value}{b:List Value}(d:Rep w G 0 a [v])(e:Rep w G 1 r b):Rep w G 1 (rcons a r) (v::b):=⟨fun P c=>c.rcons (d.all P c) (e.all P c)⟩
theorem Rep.clast {r:Ls.D}{v:Value}(h:Rep w G 0 r [v]):Rep w G 2 (clast r) [v]:=⟨fun P c=>c.clast (h.all P c)⟩
theorem Rep.ccons {r d:Ls.D}{v:Value}{a:List Value}(b:Rep w G 0 r [v])(e:Rep w G 2 d a):Rep w G 2 (ccons r d) (v::a):=⟨fun P c=>c.ccons (b.all P c) (e.all P c)⟩
theorem Rep.ind {motive:(r:Nat)->(d:Ls.D)->(vs:List Value)->Rep w G r d vs->Prop}
  (place:∀{s:Lu} {lo hi:Nat} (h:SB s lo hi),motive 0 (Ls.place s) [K3 lo hi] (.place h))
  (rep:∀{t:Nat} {a:Ls.D} {v:Value} (ht:t=5\/t=6\/t=7) (h:Rep w G 0 a [v]),motive 0 a [v] h->motive 0 (Ls.rep t a) [T8 v (t != 6) (t != 7)] (.rep ht h))
  (row:∀{d:Ls.D} {sl:Value} {vs:List Value} (hs:Shows w G sl vs) (h:Rep w G 1 d vs),motive 1 d vs h->motive 0 d [P5 sl] (.row hs h))
  (choice:∀{d:Ls.D} {sl:Value} {vs:List Value} (hs:Shows w G sl vs) (h:Rep w G 2 d vs),motive 2 d vs h->motive 0 d [bQb sl] (.choice hs h))
  (rnil:motive 1 Ls.rnil [] .rnil)
  (rcons:∀{a r:Ls.D} {v:Value} {vs:List Value} (h1:Rep w G 0 a [v]) (h2:Rep w G 1 r vs),motive 0 a [v] h1->motive 1 r vs h2->motive 1 (Ls.rcons a r) (v::vs) (.rcons h1 h2))
  (clast:∀{r:Ls.D} {v:Value} (h:Rep w G 0 r [v]),motive 0 r [v] h->motive 2 (Ls.clast r) [v] (.clast h))
  (ccons:∀{r c:Ls.D} {v:Value} {vs:List Value} (h1:Rep w G 0 r [v]) (h2:Rep w G 2 c vs),motive 0 r [v] h1->motive 2 c vs h2->motive 2 (Ls.ccons r c) (v::vs) (.ccons h1 h2))
  {r:Nat} {d:Ls.D} {vs:List Value} (h:Rep w G r d vs):motive r d vs h:=
 (h.all (fun r d vs=>∃h:Rep w G r d vs,motive r d vs h)
  ⟨fun h=>⟨_,place h⟩,fun ht ⟨_,m⟩=>⟨_,rep ht _ m⟩,fun hs ⟨_,m⟩=>⟨_,row hs _ m⟩,fun hs ⟨_,m⟩=>⟨_,choice hs _ m⟩,⟨_,rnil⟩,
   fun ⟨_,m1⟩ ⟨_,m2⟩=>⟨_,rcons _ _ m1 m2⟩,fun ⟨_,m⟩=>⟨_,clast _ m⟩,fun ⟨_,m1⟩ ⟨_,m2⟩=>⟨_,ccons _ _ m1 m2⟩⟩).2
end
theorem Shows.mono {w w':World}{G G':Nat->Prop}(i:∀k,G k->G' k)(n:∀k,G k->w'.heap[k]?=w.heap[k]?){a:Value}{b:List Value}(h:Shows w G a b):Shows w' G' a b:=by
 refine⟨⟨h.own.1,?_⟩,fun k m=>i k (h.inG k m)⟩;rcases h.own.2 with e|⟨g,c,d,rfl,j,l,f⟩
 ·exact .inl e
 ·exact .inr ⟨g,c,d,rfl,j,by rw[n g (h.inG g rfl)];exact l,f⟩
theorem Rep.mono {w w':World}{G G':Nat->Prop}(e:∀k,G k->G' k)(f:∀k,G k->w'.heap[k]?=w.heap[k]?){r:Nat}{d:Ls.D}{g:List Value}(h:Rep w G r d g):Rep w' G' r d g:=by
 induction h using Rep.ind with
 | place h=>exact .place h
 | rep i _ a=>exact .rep i a
 | row hs _ a=>exact .row (hs.mono e f) a
 | choice hs _ a=>exact .choice (hs.mono e f) a
 | rnil=>exact .rnil
 | rcons _ _ b c=>exact .rcons b c
 | clast _ a=>exact .clast a
 | ccons _ _ b c=>exact .ccons b c
theorem Rep.at0 {w:World}{G:Nat->Prop}{d:Ls.D}{v:Value}(h:Rep w G 0 d [v]) :
  (∃s lo g,SB s lo g/\d=Ls.place s/\v=K3 lo g)\/(∃t a i,(t=5\/t=6\/t=7)/\Rep w G 0 a [i]/\d=Ls.rep t a/\v=T8 i (t != 6) (t != 7))\/
  (∃e c,Shows w G e c/\Rep w G 1 d c/\v=P5 e)\/(∃e c,Shows w G e c/\Rep w G 2 d c/\v=bQb e):=by
 generalize f:0=r,b:[v]=c at h;induction h using Rep.ind with
 | place h=>injection b with b;exact .inl ⟨_,_,_,h,rfl,b⟩
 | rep j h=>injection b with b;exact .inr (.inl ⟨_,_,_,j,h,rfl,b⟩)
 | row hs h=>injection b with b;exact .inr (.inr (.inl ⟨_,_,hs,h,b⟩))
 | choice hs h=>injection b with b;exact .inr (.inr (.inr ⟨_,_,hs,h,b⟩))
 | rnil=>cases f
 | rcons=>cases f
 | clast=>cases f
 | ccons=>cases f
def RPost (w:World)(rb:Nat)(s:By)(i z:Nat)(a1:Addr)(res:Rd):Ending->World->Prop:=fun e w'=>
 (∃d j v,res=some (d,rest s j)/\i<=j/\j<=s.size/\e=.returned v/\Rep w' (B8 w w') 0 d [v]/\RLeft w rb s j z w')\/
 (res=.none/\K6 w rb a1 e w')
def U8 (w:World)(rb:Nat):Nat:=(intOf ((w.cell? ⟨rb,1,none⟩).getD (.int .i64 0))).toNat
theorem aQs {w:World}{b:Nat}{s:By}{a z:Nat}(h:RB w b s a z):U8 w b=a:=by
 unfold U8;rw[h.c1];simp[intOf]
def bQc (n:Nat)(acc r:Lu):Option (Lu × Lu):=if r.head?=some 93 then some (acc,r.tail) else cls n acc r
theorem jQx {n:Nat}{c r:Lu}{a b:UInt8}{t:Lu}(h:gXc r=some (a,b,t)):cls (n+1) c r=bQc n (rng c a b) t:=by
 rw[cls,h];rfl
theorem jQw {n:Nat}{a r:Lu}(h:gXc r=.none):cls n a r=.none:=by
 cases n with
 | zero=>rfl
 | succ n=>rw[cls,h]
def pQa (w:World)(rb:Nat)(s:By)(i z:Nat)(a1:Addr):Ending->World->Prop:=fun e w'=>
 (∃g j lo hi,cls ((rest s i).length+1) [] (rest s i)=some (g,rest s j)/\i<=j/\j<=s.size/\e=.returned (K3 lo hi)/\SB g lo hi/\RLeft w rb s j z w')\/
 (cls ((rest s i).length+1) [] (rest s i)=.none/\K6 w rb a1 e w')
theorem aXz (a:Nat)(s:By)(i z:Nat)(t:Addr)(w:World)(h:RB w a s i z)(I:Env w a t)(hs:s.size<=1048576)(a9:i<=s.size) :
  Calls Tryz.prog 161 #[D3 a] w (pQa w a s i z t):=by
 have P:=h.lt;have C:w.heap.size≠a:=by omega
 have K:=A5 w (.cells #[Pt a] 177);have y:Hid _:=RLeft.of_below h K;have X:Hid _:=Bx.new w 177 a;have H:=jQt a s i z t [] 0 0 _ y.out.lies (I.below K) hs a9 SB.empty;go_enter Tryz.func161,Tryz.ntmps161;go_wp2_with fail;refine H.mono ?_;rintro e d (⟨a2,a3,j,lo,u,v,hj,b0,rfl,a6,A⟩|⟨v,rfl,hg⟩)
 ·have G:Hid (cls ((rest s i).length+1) [] (rest s i)=bQc (rest s i).length (rng [] a2 a3) (rest s j)):=jQx v
  have hl:=y.out.trans A;have b5:=X.out.grown A.grown C;have b7:=A.grown.size;simp at b7;go_wp2;go_loopw [] (fun wr=>∃(k n:Nat) (c:Lu) (lo u:Nat),SB c lo u/\i<k/\k<=s.size/\(rest s k).length<n+1/\cls ((rest s i).length+1) [] (rest s i)=bQc n c (rest s k)/\RLeft w a s k z wr/\Bx 177 wr (Hz w) a/\wr.heap[d.heap.size]?=some (.cells #[.int .u64 lo,.int .u64 u] 157 (0,0))) (fun wr=>s.size+1-U8 wr a)
  ·
   refine⟨j,(rest s i).length,_,lo,u,a6,b0,hj,?_,G.out,hl.below (A5 _ _),b5.below (A5 _ _),heap_alloc_new _ _⟩;rw[F4,F4];omega
  ·
   have⟨k,n,c,r,o,J,c2,b2,hn,L,g,Q,S⟩:=hrel;have E:Hid _:=L;have a5:=I.grown g.grown;have Hx:Hid _:=S;have b3:=aQs g.lies;have U:=Q.cell;go_wp2_with fail;refine(nQk a s k z 93 _ g.lies hs (by omega)).mono ?_;rintro e w3 ⟨rfl,b⟩;have R:=Q.grown b.grown C;have U:=R.cell;have O:some d.heap.size≠some a:=by simp;omega
   have l:=Hx.out;rw[<-b.grown.block _ (Array.getElem?_eq_some_iff.1 l).1 O]at l;have⟨c0,c1,f0,f1⟩:=aQi l;have b8:=(Array.getElem?_eq_some_iff.1 l).1;have a0:Hid _:=l;cases f:A7 s k 93 with
   | true=>
    rw[f]at b;simp only[if_true]at b;have c3:=(D9 f).1;have m:Hid (cls ((rest s i).length+1) [] (rest s i)=some (c,rest s (k+1))):=by
     show _=_;rw[E.out,bQc,if_pos (C4.2 f),E7]
    clear f;go_wp2_with fail;go_ret;exact .inl ⟨c,k+1,r,o,m.out,by omega,by omega,rfl,J,g.trans b⟩
   | false=>
    rw[f]at b;simp only[Bool.false_eq_true,if_false]at b;have F:Hid (cls ((rest s i).length+1) [] (rest s i)=cls n c (rest s k)):=by
     show _=_;rw[E.out,bQc,if_neg (by rw[C4,f];simp)]
    clear f;go_wp2_with fail;refine(jQt a s k z t c r o _ b.lies (a5.grown b.grown) hs b2 J).mono ?_;rintro e W (⟨a4,b4,T,V,M,p,b1,b9,rfl,a7,B⟩|⟨p,rfl,a8⟩)
    ·obtain⟨x,rfl⟩:∃x,n=x+1:=by
      cases n with
      | zero=>
       have:=iX9 p;omega
      | succ n=>exact⟨n,rfl⟩
     have Z:Hid (cls ((rest s i).length+1) [] (rest s i)=bQc x (rng c a4 b4) (rest s T)):=by
      show _=_;rw[F.out,jQx p]
     clear p;have b6:=R.grown B.grown C;have q:=a0.out;rw[<-B.grown.block _ b8 O]at q;have⟨c0,c1,f0,f1⟩:=aQi q;have c4:=(Array.getElem?_eq_some_iff.1 q).1;have a1:Hid (W.heap[d.heap.size]?=some (.cells #[.int .u64 r,.int .u64 o] 157 (0,0))):=q;clear q;have N:=g.trans (b.trans B);have Y:Hid (Bx 177 ((W.setCell ⟨Hz d,0,none⟩ (.int .u64 V)).setCell ⟨Hz d,1,none⟩ (.int .u64 M)) (Hz w) a):=⟨by
      rw[Below.heap_setCell _ _ _ _ (by show w.heap.size≠d.heap.size;omega),Below.heap_setCell _ _ _ _ (by show w.heap.size≠d.heap.size;omega)];exact b6.lies⟩
     go_wp2_with fail;go_roundw
     ·
      refine⟨T,x,_,V,M,a7,by omega,b1,?_,Z.out,N.res2 (by omega) P _ _,Y.out,?_⟩
      ·rw[F4]at hn ⊢;omega
      ·have:=a1.out
       simp[World.setCell,Array.getElem?_modify,this]
     ·
      rw[b3,aQs (N.res2 (by omega) P _ _).lies];omega
    ·have m:Hid (cls ((rest s i).length+1) [] (rest s i)=.none):=by
      show _=_;rw[F.out,jQw p]
     go_wp2_with fail;exact⟨rfl,.inr ⟨m.out,rfl,J8 (J8 g.grown b.grown) a8⟩⟩
 ·have m:Hid (cls ((rest s i).length+1) [] (rest s i)=.none):=jQw v
  go_wp2_with fail;exact⟨rfl,.inr ⟨m.out,rfl,J8 y.out.grown hg⟩⟩
end Go.Proofs.YtfklinjaajafgaaGreatDoor
