import Derived.Test.YtfklinjaajafgaaGreatDoorK60
import Derived.Test.YtfklinjaajafgaaGreatDoorK65
set_option maxRecDepth 100000
set_option maxHeartbeats 4000000
namespace Ls
theorem read_room {r:Lu}{d:D}{t:Lu}(h:pat 13 r=some (d,t))(hr:r.length<=120):Room (eX5 d::pds (eX5 d)):=by
 obtain⟨c,h1,h2,h3,h4,h5⟩:=mX5 13 r d t h;have hc:c+1<=121:=by omega
 have e13:(2:Nat) ^ 13=8192:=by decide
 rw[e13]at h3 h4;have n1:(c+1)*8192<=121*8192:=Nat.mul_le_mul_right _ hc;have n2:(c+1)*(143*8192-12)<=121*(143*8192-12):=Nat.mul_le_mul_right _ hc;have m1:nd (eX5 d)<=991232:=by omega
 have m2:hs (eX5 d)<=121:=by omega
 have n3:=Nat.mul_le_mul m1 m2;exact room _ h2 (by omega) (by omega) (nXi _ h2)
theorem read_few {r:Lu}{d:D}{t:Lu}(h:pat 13 r=some (d,t))(hr:r.length<=120):(eX5 d::pds (eX5 d)).length<=991233:=by
 obtain⟨c,h1,h2,h3,_,_⟩:=mX5 13 r d t h;have e13:(2:Nat) ^ 13=8192:=by decide
 rw[e13]at h3;have n1:(c+1)*8192<=121*8192:=Nat.mul_le_mul_right _ (by omega);have:=kXa (eX5 d) h2;simp only[List.length_cons];omega
end Ls
namespace Go.Proofs.YtfklinjaajafgaaGreatDoor
open Ls
open Go.RowKit
def aJa (l:Lu):Option Ls.D:=
 match pat 13 l with
 | .none=>.none
 | some (d,t)=>if t=[] then some d else .none
def aJb (l:Lu):Nat:=
 if 120<l.length then 1 else
 match aJa l with
 | .none=>2
 | some d=>if 24<dsize d then 3 else 0
end Go.Proofs.YtfklinjaajafgaaGreatDoor
namespace Go.Proofs.YtfklinjaajafgaaGreatDoor
open Ls
open Go.RowKit Go.Extern
theorem aJc {l:Lu}{d:Ls.D}(h:aJa l=some d):dn d<=4*l.length+2/\dsize d<=l.length:=by
 unfold aJa at h;split at h
 ·cases h
 ·rename_i b t a
  split at h
  ·simp at h;subst h
   have c:=hQ0 _ _ _ _ a;have e:=hXk _ _ _ _ a;omega
  ·cases h
end Go.Proofs.YtfklinjaajafgaaGreatDoor
namespace Go.Proofs.YtfklinjaajafgaaGreatDoor
open Ls
open Go.RowKit
theorem aJd {s:By}{d:Ls.D}{j:Nat}(h:pat 13 (rest s 0)=some (d,rest s j))(a:s.size<=j):aJa s.data.toList=some d:=by
  unfold aJa;rw[show pat 13 s.data.toList=some (d,rest s j) from h];dsimp only
  rw[if_pos (P4 a)]
theorem aJe {s:By}{d:Ls.D}{j:Nat}(h:pat 13 (rest s 0)=some (d,rest s j))(a:j<s.size):aJa s.data.toList=.none:=by
  unfold aJa;rw[show pat 13 s.data.toList=some (d,rest s j) from h];dsimp only
  rw[if_neg (by rw[D4 a];simp)]
theorem aJf {s:By}(h:pat 13 (rest s 0)=.none):aJa s.data.toList=.none:=by
  unfold aJa;rw[show pat 13 s.data.toList=.none from h]
structure Three (w:World)(H:Nat)(s:By)(f:Nat)(T F:TypeId)(v:Value):Prop where
  text:w.heap[H]?=some (.cells #[.string s] 9 (0,0))
  read:w.heap[H+1]?=some (.cells #[.func (.func f) #[] #[]] F (0,0))
  whole:w.heap[H+1+1]?=some (.cells #[v] T (0,0))
theorem Three.below {w b:World}{H:Nat}{s:By}{f:Nat}{T F:TypeId}{v:Value}(h:Three w H s f T F v)(a:Bw w b):Three b H s f T F v:=⟨by rw[a.block _ (Array.getElem?_eq_some_iff.1 h.text).1];exact h.text,by rw[a.block _ (Array.getElem?_eq_some_iff.1 h.read).1];exact h.read,by rw[a.block _ (Array.getElem?_eq_some_iff.1 h.whole).1];exact h.whole⟩
theorem Three.set {w:World}{H:Nat}{s:By}{f:Nat}{T F:TypeId}{v:Value}(h:Three w H s f T F v)(x:Value):Three (w.setCell ⟨H+1+1,0,none⟩ x) H s f T F x:=by
  refine⟨?_,?_,?_⟩
  · rw[Below.heap_setCell _ _ _ _ (by show H≠H+1+1;omega)];exact h.text
  · rw[Below.heap_setCell _ _ _ _ (by show H+1≠H+1+1;omega)];exact h.read
  · have:=h.whole;simp[World.setCell,Array.getElem?_modify,this]
def aJg (s:By)(a1:Addr)(w w0:World):Ending->World->Prop:=fun e w'=>
  (∀k,k<w0.heap.size->k≠w.heap.size+1+1->w'.heap[k]?=w0.heap[k]?)/\Bw w w'/\w0.heap.size<=w'.heap.size/\
  ((∃d v,aJa s.data.toList=some d/\e=.returned (.tuple #[])/\w'.heap[w.heap.size+1+1]?=some (.cells #[v] 89 (0,0))/\Rep w' (B8 w0 w') 0 d [v])\/
   (aJa s.data.toList=.none/\e=.panicked [{v:=C9 a1,recovered:=false}]))
theorem aJh (s:By)(I:s.size<=1048576)(i:Addr)(w a:World)(F:Below w.heap.size w a)(t:Three a w.heap.size s 94 89 144 .nilIface)(G:w.cell? ⟨3,0,none⟩=some (C9 i)) :
    Calls Tryz.prog 112 #[.pointer (some ⟨w.heap.size,0,none⟩),.pointer (some ⟨w.heap.size+1,0,none⟩),.pointer (some ⟨w.heap.size+1+1,0,none⟩)] a (aJg s i w a):=by
  have a4:∀(v:Value) w,(callFunc 94 #[v]).run Tryz.prog w=.ok (.enter 94 #[v]) w:=fun v w=>by kernel_rfl
  have a1:3<w.heap.size:=by
    rcases Nat.lt_or_ge 3 w.heap.size with h|h
    · exact h
    · rw[World.cell?,Array.getElem?_eq_none h]at G;cases G
  obtain⟨t0,t1⟩:=lQz t.text;obtain⟨f0,f1⟩:=lQz t.read;have a8:=(Array.getElem?_eq_some_iff.1 t.whole).1;have x:=A5 a (.cells #[.string s,.int .i64 (0:Nat),.int .i64 (0:Nat)] 164);have Q:RB (a.alloc (.cells #[.string s,.int .i64 (0:Nat),.int .i64 (0:Nat)] 164)) a.heap.size s 0 0:=heap_alloc_new _ _;have Z:=(F.cell (p:=⟨3,0,none⟩) a1).trans G;have E:Env (a.alloc (.cells #[.string s,.int .i64 (0:Nat),.int .i64 (0:Nat)] 164)) a.heap.size i:=⟨(x.cell (p:=⟨3,0,none⟩) (by show 3<a.heap.size;omega)).trans Z,by omega⟩;have C:=aX2 s I i 0 (by omega) a.heap.size 0 _ Q E (Nat.zero_le _);have B:=t.below x;obtain⟨u0,u1⟩:=lQz B.read;have a9:(a.alloc (.cells #[.string s,.int .i64 (0:Nat),.int .i64 (0:Nat)] 164)).heap.size=a.heap.size+1:=by simp
  have J:Hid (Below a.heap.size a (a.alloc (.cells #[.string s,.int .i64 (0:Nat),.int .i64 (0:Nat)] 164))):=x;have A:Hid (Three (a.alloc (.cells #[.string s,.int .i64 (0:Nat),.int .i64 (0:Nat)] 164)) w.heap.size s 94 89 144 .nilIface):=B;have U:Hid (Env (a.alloc (.cells #[.string s,.int .i64 (0:Nat),.int .i64 (0:Nat)] 164)) a.heap.size i):=E;have a6:w.heap.size+1<a.heap.size:=by omega
  have a7:¬w.heap.size+1=a.heap.size:=by omega
  clear Q x B E u1;go_enter Tryz.func112,Tryz.ntmps112;go_wp2_with fail;generalize a.alloc (.cells #[.string s,.int .i64 (0:Nat),.int .i64 (0:Nat)] 164)=W1 at *;refine C.mono ?_;rintro e f (⟨d,j,v,q,a5,hj,rfl,H,m⟩|⟨q,rfl,hg⟩)
  · have L:Hid (pat 13 (rest s 0)=some (d,rest s j)):=q
    obtain⟨c,y,rfl⟩:=H.iface;have b0:=m.grown.size;have u:Three f w.heap.size s 94 89 144 .nilIface:=by
      have h:=A.out;refine⟨?_,?_,?_⟩
      · rw[m.grown.block _ (Array.getElem?_eq_some_iff.1 h.text).1 (by simp;omega)];exact h.text
      · rw[m.grown.block _ (Array.getElem?_eq_some_iff.1 h.read).1 (by simp;omega)];exact h.read
      · rw[m.grown.block _ (Array.getElem?_eq_some_iff.1 h.whole).1 (by simp;omega)];exact h.whole
    obtain⟨q0,q1⟩:=lQz u.whole;have l:Below a.heap.size a f:=J.out.grown m.grown (by omega) (fun k b=>by cases b;omega);have z:RB (f.setCell ⟨w.heap.size+1+1,0,none⟩ (.iface c y)) a.heap.size s j 0:=by
      have:=m.lies;unfold RB at this ⊢;rw[Below.heap_setCell _ _ _ _ (by show a.heap.size≠w.heap.size+1+1;omega)];exact this
    have N:(f.setCell ⟨w.heap.size+1+1,0,none⟩ (.iface c y)).cell? ⟨3,0,none⟩=some (C9 i):=by
      rw[World.cell?_setCell_far _ _ _ _ (by show w.heap.size+1+1≠3;omega)];exact(U.out.grown m.grown).sc
    have M:=u.set (.iface c y);have O:Below w.heap.size w (f.setCell ⟨w.heap.size+1+1,0,none⟩ (.iface c y)):=(Bj F l).setCell (p:=⟨w.heap.size+1+1,0,none⟩) (by show w.heap.size<=w.heap.size+1+1;omega) _;have P:∀k,k<a.heap.size->k≠w.heap.size+1+1->(f.setCell ⟨w.heap.size+1+1,0,none⟩ (.iface c y)).heap[k]?=a.heap[k]?:=fun k b o=>by
      rw[Below.heap_setCell _ _ _ _ o];exact l.block k b
    have R:Rep (f.setCell ⟨w.heap.size+1+1,0,none⟩ (.iface c y)) (fun k=>a.heap.size<k/\k<(f.setCell ⟨w.heap.size+1+1,0,none⟩ (.iface c y)).heap.size) 0 d [.iface c y]:=H.mono (fun k b=>⟨by have:=b.1;omega,by have:=b.2;simp[World.setCell];exact this⟩) (fun k b=>Below.heap_setCell _ _ _ _ (by have:=b.1;show k≠w.heap.size+1+1;omega));have b1:a.heap.size<=(f.setCell ⟨w.heap.size+1+1,0,none⟩ (.iface c y)).heap.size:=by simp[World.setCell];omega
    have r:Hid (Below w.heap.size w (f.setCell ⟨w.heap.size+1+1,0,none⟩ (.iface c y))):=O;have K:Hid (∀k,k<a.heap.size->k≠w.heap.size+1+1->(f.setCell ⟨w.heap.size+1+1,0,none⟩ (.iface c y)).heap[k]?=a.heap[k]?):=P;have W:Hid (Rep (f.setCell ⟨w.heap.size+1+1,0,none⟩ (.iface c y)) (fun k=>a.heap.size<k/\k<(f.setCell ⟨w.heap.size+1+1,0,none⟩ (.iface c y)).heap.size) 0 d [.iface c y]):=R;have T:Hid (Three (f.setCell ⟨w.heap.size+1+1,0,none⟩ (.iface c y)) w.heap.size s 94 89 144 (.iface c y)):=M;have V:Hid ((f.setCell ⟨w.heap.size+1+1,0,none⟩ (.iface c y)).cell? ⟨3,0,none⟩=some (C9 i)):=N;clear q C H R O P M N l;rcases Nat.lt_or_ge j s.size with a2|a0
    · have n:Hid (aJa s.data.toList=.none):=aJe L.out a2
      have D:=bQ3 a.heap.size s j 0 _ z I (by omega) false (by simp;omega);clear z u A;go_wp2_with fail;generalize f.setCell ⟨w.heap.size+1+1,0,none⟩ (.iface c y)=X at *;refine D.mono ?_;rintro e S ⟨rfl,g⟩;have Y:S.cell? ⟨3,0,none⟩=some (C9 i):=g.grown.cell V.out (by simp;omega);have a3:=g.grown.size;go_wp2_with fail;refine(V7 _ i _ Y).mono ?_;rintro e w4 ⟨rfl,rfl⟩;go_wp2_with fail;refine⟨rfl,fun k b o=>?_,r.out.grown g.grown (by have:=r.out.size;omega) (fun k b=>by cases b;omega),by omega,.inr ⟨n.out,rfl⟩⟩;rw[g.grown.block k (by omega) (by simp;omega)];exact K.out k b o
    · have n:Hid (aJa s.data.toList=some d):=aJd L.out a0
      have D:=bQ3 a.heap.size s j 0 _ z I (by omega) true (by simp;omega);clear z u A;go_wp2_with fail;generalize f.setCell ⟨w.heap.size+1+1,0,none⟩ (.iface c y)=X at *;refine D.mono ?_;rintro e S ⟨rfl,g⟩;have a3:=g.grown.size;go_wp2_with fail;go_end0;refine⟨fun k b o=>?_,r.out.grown g.grown (by have:=r.out.size;omega) (fun k b=>by cases b;omega),by omega,.inl ⟨d,.iface c y,n.out,rfl,?_,?_⟩⟩
      · rw[g.grown.block k (by omega) (by simp;omega)]
        exact K.out k b o
      · rw[g.grown.block _ (by omega) (by simp;omega)]
        exact T.out.whole
      · exact W.out.mono (fun k b=>⟨Nat.le_of_lt b.1,Nat.lt_of_lt_of_le b.2 g.grown.size⟩) (fun k b=>g.grown.block k b.2 (by have:=b.1;simp;omega))
  · have n:Hid (aJa s.data.toList=.none):=aJf q
    have l:Below a.heap.size a f:=J.out.grown hg (by omega) (fun k b=>by cases b;omega);clear q C;go_wp2_with fail;exact⟨rfl,fun k b _=>l.block k b,Bj F l,l.size,.inr ⟨n.out,rfl⟩⟩
def aJi (s:By)(a0 a1 a2 a3:Addr)(w:World):Ending->World->Prop:=fun e w'=>Bw w w'/\
  ((aJb s.data.toList=0/\∃d v,aJa s.data.toList=some d/\e=.returned (.tuple #[v,.nilIface])/\Rep w' (B8 w w') 0 d [v])\/
   (aJb s.data.toList≠0/\e=.returned (.tuple #[.nilIface,C9 (bQ6 a0 a1 a2 a3 (aJb s.data.toList))])))
theorem aJj (s:By)(hs:s.size<=1048576)(w:World)(r g t u:Addr)(v:Sent w r g t u) :
    Calls Tryz.prog 93 #[.string s,.func (.func 94) #[] #[]] w (aJi s r g t u w):=by
  have a8:∀(J:Fn) (first I:Array Value) (w:World),(Instr.makeFunc J first I).run Tryz.prog w=.ok (.func J first I) w:=fun _ _ _ _=>rfl;have Y:=v.c0
  by_cases K:120<s.size
  · have hd:(120:Int)<(s.size:Int):=by omega
    have i:Hid (aJb s.data.toList=1):=by show _=_;unfold aJb;rw[if_pos (by simpa using K)]
    have V:Hid (Sent ((w.alloc (.cells #[.string s] 9)).alloc (.cells #[.func (.func 94) #[] #[]] 144)) r g t u):=v.below (C6 _ _ _);have a5:=V.out.c0;go_enter Tryz.func93,Tryz.ntmps93;go_wp2_with fail;go_quiet (fail)
    go_wp2_with fail;go_ret2;refine⟨Bj (C6 _ _ _) (E5 _),.inr ⟨by rw[i.out];omega,by rw[i.out];rfl⟩⟩
  · have hd:¬(120:Int)<(s.size:Int):=by omega
    have i:Hid (aJb s.data.toList=match aJa s.data.toList with|.none=>2|some d=>if 24<dsize d then 3 else 0):=by
      show _=_;unfold aJb;rw[if_neg (by simpa using K)]
    have H:Hid (Sent w r g t u):=v;clear v Y;have a9:∀w,(binOp .neq 80 (C9 g) .nilIface).run Tryz.prog w=.ok (.bool true) w:=fun w=>by kernel_rfl
    have b1:∀w,(binOp .neq 80 .nilIface .nilIface).run Tryz.prog w=.ok (.bool false) w:=fun w=>by kernel_rfl
    have f:Bw w (((w.alloc (.cells #[.string s] 9)).alloc (.cells #[.func (.func 94) #[] #[]] 144)).alloc (.cells #[.nilIface] 89)):=Q0 _ _ _ _;have a2:(((w.alloc (.cells #[.string s] 9)).alloc (.cells #[.func (.func 94) #[] #[]] 144)).alloc (.cells #[.nilIface] 89)).heap.size=w.heap.size+1+1+1:=by simp
    have M:Three (((w.alloc (.cells #[.string s] 9)).alloc (.cells #[.func (.func 94) #[] #[]] 144)).alloc (.cells #[.nilIface] 89)) w.heap.size s 94 89 144 .nilIface:=by
      refine⟨?_,?_,?_⟩
      · rw[Below.heap_alloc _ _ _ (by simp;omega),Below.heap_alloc _ _ _ (by simp)];exact heap_alloc_new _ _
      · rw[Below.heap_alloc _ _ _ (by simp)]
        have:=heap_alloc_new (w.alloc (.cells #[.string s] 9)) (.cells #[.func (.func 94) #[] #[]] 144);rw[World.size_alloc]at this;exact this
      · have:=heap_alloc_new ((w.alloc (.cells #[.string s] 9)).alloc (.cells #[.func (.func 94) #[] #[]] 144)) (.cells #[.nilIface] 89)
        rw[World.size_alloc,World.size_alloc]at this;exact this
    have U:Hid (Bw w (((w.alloc (.cells #[.string s] 9)).alloc (.cells #[.func (.func 94) #[] #[]] 144)).alloc (.cells #[.nilIface] 89))):=f;have T:Hid (Three (((w.alloc (.cells #[.string s] 9)).alloc (.cells #[.func (.func 94) #[] #[]] 144)).alloc (.cells #[.nilIface] 89)) w.heap.size s 94 89 144 .nilIface):=M;clear f M;go_enter Tryz.func93,Tryz.ntmps93;go_wp2_with fail;generalize (((w.alloc (.cells #[.string s] 9)).alloc (.cells #[.func (.func 94) #[] #[]] 144)).alloc (.cells #[.nilIface] 89))=b at *;have z:=A5 b (.cells #[.nilIface] 80);have b3:(b.alloc (.cells #[.nilIface] 80)).heap.size=w.heap.size+1+1+1+1:=by simp;omega
    have D:(b.alloc (.cells #[.nilIface] 80)).heap[b.heap.size]?=some (.cells #[.nilIface] 80 (0,0)):=heap_alloc_new _ _;have P:=aJh s hs g w (b.alloc (.cells #[.nilIface] 80)) (Bj U.out z) (T.out.below z) H.out.c1;have C:=jQl 112 _ (fun w=>by kernel_rfl) b _ P (fun e w' A=>⟨by rw[A.1 _ (by omega) (by omega)];exact D,by
      rcases A.2.2.2 with⟨d,a4,_,h,_⟩|⟨_,h⟩
      · exact .inl h
      · exact .inr ⟨g,h⟩⟩)
    clear P;refine C.mono ?_;rintro e o ⟨e1,n,A,O⟩;obtain⟨c,y,b2,a1⟩:=A;have b0:¬b.heap.size=w.heap.size+1+1:=by omega
    rcases a1 with⟨d,a4,l,rfl,R,E⟩|⟨l,rfl⟩
    · rcases O with⟨_,rfl,rfl⟩|⟨a,h,_⟩
      rotate_left
      · cases h
      obtain⟨B,x,rfl⟩:=E.iface;rw[l]at i;have W:Hid (aJa s.data.toList=some d):=l;have Q:=aJc l;have G:(n.setCell ⟨b.heap.size,0,none⟩ .nilIface).heap[w.heap.size+1+1]?=some (.cells #[.iface B x] 89 (0,0)):=by
        rw[Below.heap_setCell _ _ _ _ (by show w.heap.size+1+1≠b.heap.size;omega)];exact R
      have N:Bw w (n.setCell ⟨b.heap.size,0,none⟩ .nilIface):=y.setCell (p:=⟨b.heap.size,0,none⟩) (by show w.heap.size<=b.heap.size;omega) _;have F:Rep (n.setCell ⟨b.heap.size,0,none⟩ .nilIface) (B8 w (n.setCell ⟨b.heap.size,0,none⟩ .nilIface)) 0 d [.iface B x]:=E.mono (fun k c=>⟨by have:=c.1;omega,by have:=c.2;simp[World.setCell];exact this⟩) (fun k c=>Below.heap_setCell _ _ _ _ (by have:=c.1;show k≠b.heap.size;omega));clear l C E R c D z;generalize n.setCell ⟨b.heap.size,0,none⟩ .nilIface=o at *;obtain⟨q0,q1⟩:=lQz G;obtain⟨a6,hm,a7,hf⟩:=iQj (dn d) d (Nat.le_refl _) (by have:=Q.1;simp at this;omega) (by have:=Q.2;simp at this;omega) o (B8 w o) B x (fun k c=>c.2) F;have X:Hid (Rep o (B8 w o) 0 d [.iface B x]):=F;have m:Hid (Bw w o):=N;have a3:=(Array.getElem?_eq_some_iff.1 G).1;clear F N y;go_wp2_with fail;refine hf.mono ?_;rintro e w3 ⟨rfl,f⟩;have Z:=H.out.below (Bj m.out f);have c2:=Z.c2;have S:=G;rw[<-f.block _ a3]at S;obtain⟨r0,r1⟩:=lQz S
      by_cases L:24<dsize d
      · have a0:(24:Int)<(dsize d:Int):=by omega
        have j:Hid (aJb s.data.toList=3):=by show _=_;rw[i.out,if_pos L]
        go_wp2_with fail;go_quiet (fail)
        go_wp2_with fail;go_ret2;exact⟨Bj (Bj m.out f) (E5 _),.inr ⟨by rw[j.out];omega,by rw[j.out];rfl⟩⟩
      · have a0:¬(24:Int)<(dsize d:Int):=by omega
        have j:Hid (aJb s.data.toList=0):=by show _=_;rw[i.out,if_neg L]
        go_wp2_with fail;go_ret2;exact⟨Bj m.out f,.inl ⟨j.out,d,_,W.out,rfl,X.out.mono (fun k c=>⟨c.1,Ll c.2 f.size⟩) (fun k c=>f.block k c.2)⟩⟩
    · rcases O with⟨h,_⟩|⟨a,h,rfl,rfl⟩
      · cases h
      injection h with h;injection h with h;injection h with h;injection h with h q;injection q with q;injection q with q;subst q;have j:Hid (aJb s.data.toList=2):=by show _=_;rw[i.out,l]
      have m:Hid (Bw w (n.setCell ⟨b.heap.size,0,none⟩ (C9 g))):=y.setCell (p:=⟨b.heap.size,0,none⟩) (by show w.heap.size<=b.heap.size;omega) _;clear l C c D z y;go_wp2_with fail;go_ret2;rw[a2]at m;exact⟨m.out,.inr ⟨by rw[j.out];omega,by rw[j.out];rfl⟩⟩
theorem aJk (s:By)(o:s.size<=1048576)(w:World)(a b c f:Addr)(j:Sent w a b c f) :
    Calls Tryz.prog 60 #[.string s] w (aJi s a b c f w):=by
  have i:=aJj s o w a b c f j;clear j;go_enter Tryz.func60,Tryz.ntmps60;go_wp2_with fail;refine i.mono ?_;rintro e n ⟨k,⟨g,d,v,l,rfl,m⟩|⟨g,rfl⟩⟩
  · have h:Hid (aJi s a b c f w (.returned (.tuple #[v,.nilIface])) n):=⟨k,.inl ⟨g,d,v,l,rfl,m⟩⟩
    clear g l m i;go_wp2_with fail;go_ret2;exact h.out
  · have h:Hid (aJi s a b c f w (.returned (.tuple #[.nilIface,C9 (bQ6 a b c f (aJb s.data.toList))])) n):=⟨k,.inr ⟨g,rfl⟩⟩
    clear g i;generalize bQ6 a b c f (aJb s.data.toList)=p at *;go_wp2_with fail;go_ret2;exact h.out
end Go.Proofs.YtfklinjaajafgaaGreatDoor
namespace Ls
end Ls
namespace Go.Proofs.YtfklinjaajafgaaGreatDoor
open Ls
open Go.RowKit
theorem aJl {l:Lu}(h:aJb l=0){d:Ls.D}(a:aJa l=some d):l.length<=120/\dsize d<=24/\wf (eX5 d):=by
 unfold aJb at h;have c:¬120<l.length:=by intro b;rw[if_pos b]at h;cases h
 rw[if_neg c,a]at h;have g:¬24<dsize d:=by intro b;simp[b]at h
 refine⟨by omega,by omega,?_⟩;unfold aJa at a;split at a
 ·cases a
 ·rename_i f i e
  split at a
  ·simp at a;subst a
   exact((read_room e (by omega)).ok _ (by simp)).1
  ·cases a
theorem aJm {l:Lu}(h:aJb l≠0):aJb l=1\/aJb l=2\/aJb l=3\/aJb l=4:=by
 have:aJb l<=3:=by
  unfold aJb;split
  ·omega
  ·split
   ·omega
   ·split<;>omega
 omega
def aJn (s:By)(w:World):Ending->World->Prop:=fun e w'=>
  Bw w w'/\
  ((aJb s.data.toList=0/\∃d y,aJa s.data.toList=some d/\e=.returned (.tuple #[B4 (eX5 d) y,.int .i64 0])/\PV w' (B8 w w') (eX5 d) y)\/
   (aJb s.data.toList≠0/\e=.returned (.tuple #[B4 nN (.slice none 0 0),.int .i64 (aJb s.data.toList)])))
theorem aJo (s:By)(w:World)(b:120<s.size)(d:s.size<=1048576) :
    Calls Tryz.prog 15 #[.string s] w (aJn s w):=by
  have c:(120:Int)<(s.size:Int):=by omega
  have a:Hid (aJb s.data.toList=1):=by show _=_;unfold aJb;rw[if_pos (by simpa using b)]
  go_enter Tryz.func15,Tryz.ntmps15;go_wp2_with fail;refine bodyPost_ret (v:=.tuple #[B4 nN (.slice none 0 0),Iv 1]) (by simp[results,Tryz.results15,go_sem,nN]) rfl ⟨A5 _ _,.inr ⟨by rw[a.out];omega,by rw[a.out];rfl⟩⟩
theorem aJp {w e:World}(d:Bw w e)(a b c:Value)(o:Obj):Bw w ((((e.setCell ⟨w.heap.size,0,none⟩ a).setCell ⟨w.heap.size,1,none⟩ b).setCell ⟨w.heap.size,2,none⟩ c).alloc o):=
  (((d.setCell (p:=⟨w.heap.size,0,none⟩) (Nat.le_refl _) a).setCell (p:=⟨w.heap.size,1,none⟩) (Nat.le_refl _) b).setCell (p:=⟨w.heap.size,2,none⟩) (Nat.le_refl _) c).alloc (by have:=d.size;simpa [World.setCell] using this) o
theorem aJq (s:By)(w:World)(q:s.size<=120) :
    Calls Tryz.prog 15 #[.string s] w (aJn s w):=by
  have W:¬(120:Int)<(s.size:Int):=by omega
  have L:PB ((w.alloc (.cells #[Iv 0,.string ⟨#[]⟩,.slice none 0 0] 27)).alloc (.cells #[.string s,Iv 0,Iv 0,.bool false] 62)) (w.heap.size+1) s 0 0 false:=by
    unfold PB;have:=heap_alloc_new (w.alloc (.cells #[Iv 0,.string ⟨#[]⟩,.slice none 0 0] 27)) (.cells #[.string s,Iv 0,Iv 0,.bool false] 62);simpa using this
  have K:Lies ((w.alloc (.cells #[Iv 0,.string ⟨#[]⟩,.slice none 0 0] 27)).alloc (.cells #[.string s,Iv 0,Iv 0,.bool false] 62)) w.heap.size [Iv 0,.string ⟨#[]⟩,.slice none 0 0]:=(C7 w _).below (A5 _ _) (by simp);have J:=C6 w (.cells #[Iv 0,.string ⟨#[]⟩,.slice none 0 0] 27) (.cells #[.string s,Iv 0,Iv 0,.bool false] 62);go_enter Tryz.func15,Tryz.ntmps15;go_wp2_with fail;have A:=mQf s (by omega) 13 (Nat.le_refl _) (w.heap.size+1) 0 0 _ L (Nat.zero_le _) (by omega);refine A.mono ?_;clear A;rintro e E C;obtain⟨p,P,Q,R,j,S,F,rfl,M,X,Y,O,i,o⟩:=C.mid (fun d a0 f=>⟨hXa _ _ _ _ f,hXk _ _ _ _ f⟩) (Nat.zero_le _);clear C;have n:Bw w E:=J.grown i.grown (by simp;omega) (by simp);have m:=K.grown i.grown (by simp);have N:=i.grown.size;simp at N;have r:=m.lt;have k1:=i.lies.c1;have k2:=i.lies.c2;have k3:=i.lies.c3;obtain⟨t,u,x⟩:=m.three (a:=nN);have T:=m.fr 0;have U:=m.fr 1;have V:=m.fr 2;have O:w.heap.size+1<E.heap.size:=by omega
  cases F with
  | true=>
    have c:Hid (aJb s.data.toList=2):=by
      rcases o with⟨_,f⟩|⟨h,_⟩
      · show _=_;unfold aJb;rw[if_neg (by simpa using q)];unfold aJa;rw[show s.data.toList=rest s 0 from rfl,show (13:Nat)=13-0 from rfl,f]
      · cases h
    clear o;go_wp2_with fail;exact bodyPost_ret (v:=.tuple #[B4 nN (.slice none 0 0),Iv 2]) (by simp[results,Tryz.results15,go_sem,t,u,x,r,nN]) rfl ⟨aJp n _ _ _ _,.inr ⟨by rw[c.out];omega,by rw[c.out];rfl⟩⟩
  | false=>
    obtain⟨d,f,rfl,rfl,Z⟩:∃d,pat (13-(13-13)) (rest s 0)=some (d,rest s j)/\p=eX5 d/\S=0+dsize d/\j<=s.size:=by
      rcases o with⟨h,_⟩|⟨_,h⟩
      · cases h
      · exact h
    clear o
    by_cases B:j=s.size
    · have H:((j:Int) != (s.size:Int))=false:=by rw[bne_eq_false_iff_eq];omega
      have y:Hid (aJa s.data.toList=some d):=by
        show _=_;unfold aJa;rw[show s.data.toList=rest s 0 from rfl,show (13:Nat)=13-(13-13) from rfl,f];dsimp only
        rw[if_pos (P4 (by omega))]
      clear B f
      by_cases D:24<dsize d
      · have I:(24:Int)<((0+dsize d:Nat):Int):=by omega
        have c:Hid (aJb s.data.toList=3):=by
          show _=_;unfold aJb;rw[if_neg (by simpa using q),y.out];dsimp only;rw[if_pos D]
        go_wp2_with fail;exact bodyPost_ret (v:=.tuple #[B4 nN (.slice none 0 0),Iv 3]) (by simp[results,Tryz.results15,go_sem,t,u,x,r,nN]) rfl ⟨aJp n _ _ _ _,.inr ⟨by rw[c.out];omega,by rw[c.out];rfl⟩⟩
      · have I:¬(24:Int)<((0+dsize d:Nat):Int):=by omega
        have c:Hid (aJb s.data.toList=0):=by
          show _=_;unfold aJb;rw[if_neg (by simpa using q),y.out];dsimp only;rw[if_neg D]
        go_wp2_with fail;refine bodyPost_ret (v:=.tuple #[B4 (eX5 d) (.slice P Q R),Iv 0]) (by simp[results,Tryz.results15,go_sem,t,u,x,r]) rfl ⟨aJp n _ _ _ _,.inl ⟨c.out,d,_,y.out,rfl,?_⟩⟩;refine PV.mono ?g ?b _ _ M
        case g=>
          intro k l;have z:=l.1;have G:=l.2;simp at z;exact⟨by omega,by simp[World.setCell];omega⟩
        case b=>
          intro k l;have z:=l.1;have G:=l.2;simp at z;rw[Below.heap_alloc _ _ _ (by simp[World.setCell];omega),dQl _ _ _ _ _ _ (by omega)]
    · have H:((j:Int) != (s.size:Int))=true:=by rw[bne_iff_ne];omega
      have c:Hid (aJb s.data.toList=2):=by
        show _=_;unfold aJb;rw[if_neg (by simpa using q)];unfold aJa;rw[show s.data.toList=rest s 0 from rfl,show (13:Nat)=13-(13-13) from rfl,f];dsimp only
        rw[if_neg (by intro h;have:=F4 s j;rw[h]at this;simp at this;omega)]
      clear B f;go_wp2_with fail;exact bodyPost_ret (v:=.tuple #[B4 nN (.slice none 0 0),Iv 2]) (by simp[results,Tryz.results15,go_sem,t,u,x,r,nN]) rfl ⟨aJp n _ _ _ _,.inr ⟨by rw[c.out];omega,by rw[c.out];rfl⟩⟩
theorem aJr (s:By)(w:World)(a:s.size<=1048576):Calls Tryz.prog 15 #[.string s] w (aJn s w):=by
  by_cases h:120<s.size
  · exact aJo s w h a
  · exact aJq s w (by omega)
def aJs (p t:Lu):Nat:=if 60<t.length then 1 else aJb p
def aJt (p t:Lu):Bool:=
 match aJa p with
 | .none=>false
 | some d=>decide (aJs p t=0)&&Ls.is (eX5 d) t
def aJu (p t:By)(w:World):Ending->World->Prop:=fun e w'=>
 e=.returned (.tuple #[.bool (aJt p.data.toList t.data.toList),.int .i64 (aJs p.data.toList t.data.toList)])/\Bw w w'
theorem aJv {p t:Lu}(h:aJs p t≠0):aJt p t=false:=by
 unfold aJt;split
 ·rfl
 ·simp[h]
theorem aJw (p:Lu):aJb p<=3:=by
 unfold aJb;split
 ·omega
 ·split
  ·omega
  ·split<;>omega
theorem aJx (p t:By)(w:World)(a:p.size<=maxLen)(h:1048576<p.size) :
  Calls Tryz.prog 31 #[.string p,.string t] w fun e b=>e=.returned (.bool true)/\Bw w b:=by
 unfold maxLen at a;have c:(1048576:Int)<(p.size:Int):=by omega
 go_enter Tryz.func31,Tryz.ntmps31;go_wp2_with fail;go_ret;exact⟨rfl,Br⟩
theorem aJy (p t:By)(w:World)(f:p.size<=1048576)(a:t.size<=maxLen)(h:1048576<t.size) :
  Calls Tryz.prog 31 #[.string p,.string t] w fun e b=>e=.returned (.bool true)/\Bw w b:=by
 unfold maxLen at a;have c:¬(1048576:Int)<(p.size:Int):=by omega
 have d:(1048576:Int)<(t.size:Int):=by omega
 go_enter Tryz.func31,Tryz.ntmps31;go_wp2_with fail;go_ret;exact⟨rfl,Br⟩
theorem aJz (p t:By)(w:World)(G:p.size<=1048576)(U:t.size<=1048576)(s:Calls Tryz.prog 58 #[.string p,.string t] w (aJu p t w)) :
  Calls Tryz.prog 31 #[.string p,.string t] w fun e M=>e=.returned (.bool true)/\Bw w M:=by
 have P:¬(1048576:Int)<(p.size:Int):=by omega
 have Q:¬(1048576:Int)<(t.size:Int):=by omega
 have B:Hid (Ca 58 #[.string p,.string t] w (aJu p t w)):=s;clear s;go_enter Tryz.func31,Tryz.ntmps31;go_wp2_with fail;refine B.out.mono ?_;rintro e N ⟨rfl,g⟩;go_wp2_with fail;refine(aJr p _ G).mono ?_;rintro e v ⟨i,E⟩;rcases E with⟨f,d,y,q,rfl,u⟩|⟨f,rfl⟩
 ·have n:Hid (aJa p.data.toList=some d):=q
  have o:Hid (aJb p.data.toList=0):=f;clear q f;obtain⟨x,z,A,rfl⟩:=PV.slice _ _ u
  by_cases c:60<t.size
  ·have l:(60:Int)<(t.size:Int):=by omega
   have a:aJs p.data.toList t.data.toList=1:=by unfold aJs;rw[if_pos (by simpa using c)]
   have ha:=aJv (p:=p.data.toList) (t:=t.data.toList) (by rw[a];omega);go_wp2_with fail;go_ret;exact⟨rfl,Bj (Bj g i) (A5 _ _)⟩
  ·have l:¬(60:Int)<(t.size:Int):=by omega
   have a:aJs p.data.toList t.data.toList=0:=by unfold aJs;rw[if_neg (by simpa using c),o.out]
   have ha:aJt p.data.toList t.data.toList=Ls.is (eX5 d) t.data.toList:=by unfold aJt;rw[n.out];simp[a]
   have I:Room (eX5 d::pds (eX5 d)):=by
    have j:=o.out;have b:=n.out;unfold aJb at j;have R:¬120<p.data.toList.length:=by intro h;rw[if_pos h]at j;cases j
    unfold aJa at b;split at b
    ·cases b
    ·rename_i O V H
     split at b
     ·simp at b;subst b;exact read_room H (by omega)
     ·cases b
   have F:=(C7 v (C2 (eX5 d) (.slice x z A)));obtain⟨J,K,L⟩:=F.three;have C:Hid (aJt p.data.toList t.data.toList=Ls.is (eX5 d) t.data.toList):=ha;clear ha J K L;go_wp2_with fail;refine(kQy (eX5 d) t (.slice x z A) _ I (by simp) (by unfold maxLen;omega) _ (B8 N v) (fun k m=>by have:=m.2;simp;omega) (u.below (A5 _ _) (fun k m=>m.2) (fun _ h=>h))).mono ?_;rintro e W ⟨rfl,D⟩;have ha:=C.out;rw[ha];go_wp2_with fail
   all_goals
    go_ret;exact⟨R5 (by simp),Bj (Bj (Bj g i) (A5 _ _)) D⟩
 ·have S:=aJw p.data.toList
  by_cases c:60<t.size
  ·have l:(60:Int)<(t.size:Int):=by omega
   have a:aJs p.data.toList t.data.toList=1:=by unfold aJs;rw[if_pos (by simpa using c)]
   have ha:=aJv (p:=p.data.toList) (t:=t.data.toList) (by rw[a];omega);go_wp2_with fail;go_ret;exact⟨rfl,Bj (Bj g i) (A5 _ _)⟩
  ·have l:¬(60:Int)<(t.size:Int):=by omega
   have a:aJs p.data.toList t.data.toList=aJb p.data.toList:=by unfold aJs;rw[if_neg (by simpa using c)]
   have ha:=aJv (p:=p.data.toList) (t:=t.data.toList) (by rw[a];exact f);have T:(((aJb p.data.toList:Nat):Int) != 0)=true:=by rw[bne_iff_ne];omega
   rw[a,ha];clear a ha;generalize aJb p.data.toList=r at *;go_wp2_with fail;go_ret;exact⟨R5 (by simp),Bj (Bj g i) (A5 _ _)⟩
theorem aJ0 (p:Lu):aJb p<=3:=by
 unfold aJb;split
 ·omega
 ·split
  ·omega
  ·split<;>omega
def aJ1 (a b:Lu):Nat:=if aJb a=0 then aJb b else aJb a
def aJ2 (F:Pat->Pat->Prop)(a b:By)(w:World):Ending->World->Prop:=fun e w'=>
 ∃x:Bool,e=.returned (.tuple #[.bool x,.int .i64 (aJ1 a.data.toList b.data.toList)])/\(aJ1 a.data.toList b.data.toList≠0->x=false)/\
  (∀c d,aJa a.data.toList=some c->aJa b.data.toList=some d->aJ1 a.data.toList b.data.toList=0->(x=true↔¬F (eX5 c) (eX5 d)))/\Bw w w'
theorem aJ3 {s:Lu}{d:Ls.D}(b:aJb s=0)(a:aJa s=some d):Room (eX5 d::pds (eX5 d))/\fXx (eX5 d)/\(eX5 d::pds (eX5 d)).length<=991233:=by
 unfold aJb at b;have f:¬120<s.length:=by intro h;rw[if_pos h]at b;cases b
 unfold aJa at a;split at a
 ·cases a
 ·rename_i e g c
  split at a
  ·simp at a;subst a
   exact⟨read_room c (by omega),mX6 13 _ _ _ c,read_few c (by omega)⟩
  ·cases a
theorem aJ4 (p t:By)(w:World)(h i j k:Addr)(u:Sent w h i j k)(V:p.size<=1048576)(W:t.size<=1048576):Calls Tryz.prog 58 #[.string p,.string t] w (aJu p t w):=by
 by_cases C:60<t.size
 ·have T:(60:Int)<(t.size:Int):=by omega
  have y:aJs p.data.toList t.data.toList=1:=by unfold aJs;rw[if_pos (by simpa using C)]
  have A:Hid (aJs p.data.toList t.data.toList=1/\aJt p.data.toList t.data.toList=false):=⟨y,aJv (by rw[y];omega)⟩;clear y;go_enter Tryz.func58,Tryz.ntmps58;go_wp2_with fail;go_ret2;exact⟨by rw[A.out.1,A.out.2];rfl,Br⟩
 ·have T:¬(60:Int)<(t.size:Int):=by omega
  have E:aJs p.data.toList t.data.toList=aJb p.data.toList:=by unfold aJs;rw[if_neg (by simpa using C)]
  have q:Hid _:=E;clear E;have a3:∀w,(binOp .neq 80 .nilIface .nilIface).run Tryz.prog w=.ok (.bool false) w:=fun w=>by kernel_rfl
  have a2:∀(a:Addr) w,(binOp .neq 80 (C9 a) .nilIface).run Tryz.prog w=.ok (.bool true) w:=fun a w=>by kernel_rfl
  have s:=aJk p V w h i j k u;have J:Hid _:=u;clear u;go_enter Tryz.func58,Tryz.ntmps58;go_wp2_with fail;refine s.mono ?_;rintro e o ⟨v,⟨c,d,a5,l,rfl,m⟩|⟨c,rfl⟩⟩
  ·obtain⟨a0,L,G⟩:=aJl c l
   have a1:=(aJc l).1;have z:=m.wd;have f:Hid (aJt p.data.toList t.data.toList=Ls.is (eX5 d) t.data.toList/\aJs p.data.toList t.data.toList=0):=by
    have B:aJs p.data.toList t.data.toList=0:=by rw[q.out,c]
    refine⟨?_,B⟩;unfold aJt;rw[l];simp[B]
   have I:Hid (∀b:Bool,(b=true↔cQ0 (Ls.add d I7).1 (Ls.add d I7).2 t.data.toList)->b=Ls.is (eX5 d) t.data.toList):=by
    intro b g;rw[lQc z,<-gXb _ G]at g;rw[Bool.eq_iff_iff];exact g
   obtain⟨R,S,_,_⟩:=bQw z (n:=I7) rfl (by simp[I7];omega);obtain⟨Y,x,rfl⟩:=m.iface;have D:=oQ8 d o (B8 w o) Y x (by omega) L (fun a4 U=>U.2) m;clear c l s G z m;go_wp2_with fail;refine D.mono ?_;rintro e H ⟨X,P,Q,rfl,F,N⟩;clear D;go_wp2_with fail;refine(oQ6 H o.heap.size X P _ Q t _ F R S W).mono ?_;rintro e w3 ⟨b,rfl,g,O⟩;have K:Hid _:=I.out b g;clear g F;go_wp2_with fail;go_ret2;exact⟨by rw[f.out.1,f.out.2,<-K.out];rfl,Bj (Bj v N) O⟩
  ·have M:=uQk h o i j k (J.out.below v) _ (aJm c)
   have f:Hid (aJt p.data.toList t.data.toList=false/\aJs p.data.toList t.data.toList=aJb p.data.toList):=⟨aJv (by rw[q.out];exact c),q.out⟩;clear c s;generalize aJb p.data.toList=r at *;generalize bQ6 h i j k r=Z at *;go_wp2_with fail;refine M.mono ?_;rintro e H ⟨rfl,rfl⟩;go_wp2_with fail;go_ret2;exact⟨by rw[f.out.1,f.out.2];rfl,v⟩
theorem aJ5 (p t:By)(w:World)(h:p.size<=maxLen)(j:t.size<=maxLen){a b c d:Addr}(i:Sent w a b c d) :
  Calls Tryz.prog 31 #[.string p,.string t] w fun e k=>e=.returned (.bool true)/\Bw w k:=by
 by_cases f:1048576<p.size
 ·exact aJx p t w h f
 ·by_cases g:1048576<t.size
  ·exact aJy p t w (by omega) j g
  ·exact aJz p t w (by omega) (by omega) (aJ4 p t w a b c d i (by omega) (by omega))
theorem aJ6 {a b:Lu}(h:aJb a≠0):aJ1 a b=aJb a:=by unfold aJ1;rw[if_neg h]
theorem aJ7 {a b:Lu}(h:aJb a=0):aJ1 a b=aJb b:=by unfold aJ1;rw[if_pos h]
theorem aJ8 {f9:Nat}{F9:Pat->Pat->Prop}(hf:f9=37\/f9=38)(hN:iQw f9 F9)(a b:By)(ha:a.size<=1048576)(hb:b.size<=1048576)(w:World)(g i j l:Addr)(H:Sent w g i j l) :
  Calls Tryz.prog 36 #[.string a,.string b,.func (.func f9) #[] #[]] w (aJ2 F9 a b w):=by
 have b8:∀w,(binOp .neq 80 .nilIface .nilIface).run Tryz.prog w=.ok (.bool false) w:=fun w=>by kernel_rfl
 have b7:∀(a:Addr) w,(binOp .neq 80 (C9 a) .nilIface).run Tryz.prog w=.ok (.bool true) w:=fun a w=>by kernel_rfl
 have F:=aJk a ha w g i j l H;have D:Hid _:=H;clear H;rcases hf with rfl|rfl
 all_goals
  go_enter Tryz.func36,Tryz.ntmps36;go_wp2_with fail;refine F.mono ?_;rintro e x ⟨q,⟨m,d,b9,M,rfl,J⟩|⟨m,rfl⟩⟩
  ·have G:=aJk b hb x g i j l (D.out.below q)
   obtain⟨ty,b2,rfl⟩:=J.iface;have B:Hid (aJb a.data.toList=0):=m;have A:Hid (aJa a.data.toList=some d):=M;have C:Hid _:=J;clear m M J F;go_wp2_with fail;refine G.mono ?_;rintro e y ⟨s,⟨o,t,v2,u,rfl,v⟩|⟨o,rfl⟩⟩
   ·obtain⟨b1,x2,rfl⟩:=v.iface
    obtain⟨b3,a3,a6⟩:=aJl B.out A.out;obtain⟨b4,a4,a7⟩:=aJl o u;have b5:=(aJc A.out).1;have b6:=(aJc u).1;have K:=C.out.wd;have L:=v.wd;obtain⟨q1,q2,_,_⟩:=bQw K (n:=I7) rfl (by simp[I7];omega);obtain⟨a9,b0,_,_⟩:=bQw L (n:=I7) rfl (by simp[I7];omega);have O:=oQ8 d y (B8 w x) ty b2 (by omega) a3 (fun k p=>Ll p.2 s.size) (C.out.later (fun k p=>p.2) s);have f:Hid (aJ1 a.data.toList b.data.toList=0):=(aJ7 B.out).trans o;have V:Hid (aJa b.data.toList=some t):=u;have X:Hid _:=v;have Z:Hid _:=K;have a0:Hid _:=L;clear o u v a6 a7 K L G;go_wp2_with fail;refine O.mono ?_;rintro e U ⟨nb,a1,a2,rfl,R,I⟩;have P:=oQ8 t U (B8 x y) b1 x2 (by omega) a4 (fun k p=>Ll p.2 I.size) (X.out.later (fun k p=>p.2) I);have W:Hid _:=R;clear R O;go_wp2_with fail;refine P.mono ?_;rintro e w4 ⟨a8,P',Q',rfl,S,Q⟩;have N:=hN w4 nb a8 a1 a2 P' Q' d t Z.out a0.out ((W.out.below Q).nt q1 q2) (S.nt a9 b0);clear S P;go_wp2_with fail;refine N.mono ?_;rintro e w5 ⟨z,rfl,T,a5⟩;have Y:Hid (z=true↔¬F9 (eX5 d) (eX5 t)):=T;clear T N;go_wp2_with fail;go_ret2;refine⟨z,by rw[f.out];rfl,fun h=>absurd f.out h,fun c e hc he _=>?_,Bj (Bj (Bj (Bj q s) I) Q) a5⟩;obtain rfl:=Option.some.inj (A.out.symm.trans hc);obtain rfl:=Option.some.inj (V.out.symm.trans he);exact Y.out
   ·have E:=uQk g y i j l (D.out.below (Bj q s)) _ (aJm o)
    have f:Hid (aJ1 a.data.toList b.data.toList=aJb b.data.toList/\aJb b.data.toList≠0):=⟨aJ7 B.out,o⟩;clear o G C;generalize aJb b.data.toList=r at *;generalize bQ6 g i j l r=ad at *;go_wp2_with fail;refine E.mono ?_;rintro e U ⟨rfl,rfl⟩;go_wp2_with fail;go_ret2;exact⟨false,by rw[f.out.1];rfl,fun _=>rfl,fun c e _ _ h=>absurd (f.out.1.symm.trans h) f.out.2,Bj q s⟩
  ·have E:=uQk g x i j l (D.out.below q) _ (aJm m)
   have f:Hid (aJ1 a.data.toList b.data.toList=aJb a.data.toList/\aJb a.data.toList≠0):=⟨aJ6 m,m⟩;clear m F;generalize aJb a.data.toList=r at *;generalize bQ6 g i j l r=ad at *;go_wp2_with fail;refine E.mono ?_;rintro e y ⟨rfl,rfl⟩;go_wp2_with fail;go_ret2;exact⟨false,by rw[f.out.1];rfl,fun _=>rfl,fun c e _ _ h=>absurd (f.out.1.symm.trans h) f.out.2,q⟩
theorem aJ9 (a b:By)(ha:a.size<=1048576)(m:b.size<=1048576)(w:World)(c d f g:Addr)(l:Sent w c d f g) :
  Calls Tryz.prog 13 #[.string a,.string b] w (aJ2 fXb a b w):=by
 have k:=aJ8 (.inl rfl) jQd a b ha m w c d f g l;go_enter Tryz.func13,Tryz.ntmps13;go_wp2_with fail;refine k.mono ?_;rintro e n ⟨z,rfl,h,i,j⟩;go_wp2_with fail;go_ret2;exact⟨z,rfl,h,i,j⟩
theorem bJb (a b:By)(ha:a.size<=1048576)(m:b.size<=1048576)(w:World)(c d f g:Addr)(l:Sent w c d f g) :
  Calls Tryz.prog 14 #[.string a,.string b] w (aJ2 jX2 a b w):=by
 have k:=aJ8 (.inr rfl) rQn a b ha m w c d f g l;go_enter Tryz.func14,Tryz.ntmps14;go_wp2_with fail;refine k.mono ?_;rintro e n ⟨z,rfl,h,i,j⟩;go_wp2_with fail;go_ret2;exact⟨z,rfl,h,i,j⟩
theorem bJc (a b:By)(w:World)(c:a.size<=maxLen)(h:1048576<a.size) :
  Calls Tryz.prog 3 #[.string a,.string b] w fun e d=>e=.returned (.bool true)/\Bw w d:=by
 unfold maxLen at c;have f:(1048576:Int)<(a.size:Int):=by omega
 go_enter Tryz.func3,Tryz.ntmps3;go_wp2_with fail;go_ret;exact⟨rfl,Br⟩
theorem bJd (a b:By)(w:World)(i:a.size<=1048576)(c:b.size<=maxLen)(h:1048576<b.size) :
  Calls Tryz.prog 3 #[.string a,.string b] w fun e d=>e=.returned (.bool true)/\Bw w d:=by
 unfold maxLen at c;have f:¬(1048576:Int)<(a.size:Int):=by omega
 have g:(1048576:Int)<(b.size:Int):=by omega
 go_enter Tryz.func3,Tryz.ntmps3;go_wp2_with fail;go_ret;exact⟨rfl,Br⟩
theorem bJe (a b:By)(w:World)(hp:a.size<=1048576)(ht:b.size<=1048576)(hO:Calls Tryz.prog 13 #[.string a,.string b] w (aJ2 fXb a b w))(hA:∀m,Bw w m->Calls Tryz.prog 14 #[.string a,.string b] m (aJ2 jX2 a b m)) :
  Calls Tryz.prog 3 #[.string a,.string b] w fun e w'=>e=.returned (.bool true)/\Bw w w':=by
 have hd:¬(1048576:Int)<(a.size:Int):=by omega
 have c6:¬(1048576:Int)<(b.size:Int):=by omega
 have HO:Hid (Ca 13 #[.string a,.string b] w (aJ2 fXb a b w)):=hO;have HA:Hid (∀m,Bw w m->Ca 14 #[.string a,.string b] m (aJ2 jX2 a b m)):=hA;clear hO hA;go_enter Tryz.func3,Tryz.ntmps3;go_wp2_with fail;refine HO.out.mono ?_;rintro e m ⟨x,rfl,a3,a4,a2⟩;have W:Hid (aJ1 a.data.toList b.data.toList≠0->x=false):=a3;have b3:Hid (∀c d,aJa a.data.toList=some c->aJa b.data.toList=some d->aJ1 a.data.toList b.data.toList=0->(x=true↔¬fXb (eX5 c) (eX5 d))):=a4;clear a3 a4;go_wp2_with fail;refine(HA.out _ a2).mono ?_;rintro e R ⟨y,rfl,a5,a6,b5⟩;have Y:Hid (aJ1 a.data.toList b.data.toList≠0->y=false):=a5;have b4:Hid (∀c d,aJa a.data.toList=some c->aJa b.data.toList=some d->aJ1 a.data.toList b.data.toList=0->(y=true↔¬jX2 (eX5 c) (eX5 d))):=a6;clear a5 a6;go_wp2_with fail;refine(aJr a _ hp).mono ?_;rintro e j ⟨b6,F⟩;have a1:=Bj (Bj a2 b5) b6;rcases F with⟨o,c,v,hC,rfl,O⟩|⟨o,rfl⟩
 ·have J:Hid (aJa a.data.toList=some c):=hC
  have K:Hid (aJb a.data.toList=0):=o;clear hC o;obtain⟨t,u,z,rfl⟩:=PV.slice _ _ O;go_wp2_with fail;refine(aJr b _ ht).mono ?_;rintro e l ⟨p,F⟩;have H:=A5 j (.cells #[Iv (eX5 c).kind,.string ⟨(eX5 c).signs.toArray⟩,.slice t u z] 27);have E:=Bj (Bj a1 H) p;rcases F with⟨i,d,v,n,rfl,s⟩|⟨i,rfl⟩
  ·have f:aJ1 a.data.toList b.data.toList=0:=by unfold aJ1;rw[if_pos K.out];exact i
   have V:=b3.out c d J.out n f;have X:=b4.out c d J.out n f;obtain⟨a9,b1,Z⟩:=aJ3 K.out J.out;obtain⟨b0,b2,a0⟩:=aJ3 i n;obtain⟨A,B,C,rfl⟩:=PV.slice _ _ s;have L:=(C7 j (C2 (eX5 c) (.slice t u z))).below p (by simp);have I:=A5 l (.cells #[Iv (eX5 d).kind,.string ⟨(eX5 d).signs.toArray⟩,.slice A B C] 27);have M:=L.below I L.lt;have N:=C7 l (C2 (eX5 d) (.slice A B C));have c4:=p.size;simp at c4;have S:∀k,(B8 R j k\/B8 (j.alloc (.cells #[Iv (eX5 c).kind,.string ⟨(eX5 c).signs.toArray⟩,.slice t u z] 27)) l k)->k<l.heap.size:=by
    rintro k (h|h)
    ·have:=h.2;omega
    ·exact h.2
   have a7:PV (l.alloc (.cells #[Iv (eX5 d).kind,.string ⟨(eX5 d).signs.toArray⟩,.slice A B C] 27)) (fun k=>B8 R j k\/B8 (j.alloc (.cells #[Iv (eX5 c).kind,.string ⟨(eX5 c).signs.toArray⟩,.slice t u z] 27)) l k) (eX5 c) (.slice t u z):=
    O.below (Bj (Bj H p) I) (fun k g=>g.2) (fun _ h=>.inl h)
   have a8:PV (l.alloc (.cells #[Iv (eX5 d).kind,.string ⟨(eX5 d).signs.toArray⟩,.slice A B C] 27)) (fun k=>B8 R j k\/B8 (j.alloc (.cells #[Iv (eX5 c).kind,.string ⟨(eX5 c).signs.toArray⟩,.slice t u z] 27)) l k) (eX5 d) (.slice A B C):=
    s.below I (fun k g=>g.2) (fun _ h=>.inr h)
   have G:Hid _:=S;have T:Hid _:=a7;have U:Hid _:=a8;have HX:Hid _:=V;have HY:Hid _:=X;obtain⟨m0,m1,m2⟩:=M.three;obtain⟨n0,n1,n2⟩:=N.three;clear S a7 a8 V X L O s i n;rw[f];go_wp2_with fail;refine(xQ8 (eX5 c) (eX5 d) _ _ a9 b0 (by simp) (by simp) Z a0 b1 b2 _ _ _ _ (fun k g=>by have:=G.out k g;simp;omega) T.out U.out).mono ?_;rintro e w5 ⟨c5,rfl,hu,q⟩;have c2:x=c5:=by
    have D:=HX.out;rw[<-hu]at D;exact Bool.eq_iff_iff.2 D
   subst c2;have b8:=M.below q M.lt;have b9:=N.below q N.lt;obtain⟨r0,r1,r2⟩:=b8.three;obtain⟨s0,s1,s2⟩:=b9.three;clear m0 m1 m2 n0 n1 n2;go_wp2_with fail;refine(rQa (eX5 c) (eX5 d) _ _ a9 b0 (by simp) (by simp) Z a0 b1 b2 _ _ _ _ (fun k g=>by have:=G.out k g;have:=q.size;simp at this;omega) (T.out.below q (fun k g=>by have:=G.out k g;simp;omega) (fun _ h=>h)) (U.out.below q (fun k g=>by have:=G.out k g;simp;omega) (fun _ h=>h))).mono ?_;rintro e w6 ⟨v,rfl,c1,b7⟩;have c3:y=v:=by
    have D:=HY.out;rw[<-c1]at D;exact Bool.eq_iff_iff.2 D
   subst c3;go_wp2_with fail
   all_goals
    go_ret;exact⟨R5 (by simp),Bj (Bj (Bj E I) q) b7⟩
  ·have f:aJ1 a.data.toList b.data.toList=aJb b.data.toList:=by unfold aJ1;rw[if_pos K.out]
   have P:=W.out (by rw[f];exact i);have Q:=Y.out (by rw[f];exact i);subst P Q;have hn:(((aJb b.data.toList:Nat):Int) != 0)=true:=by rw[bne_iff_ne];omega
   have c0:=aJ0 b.data.toList;rw[f];clear f;generalize aJb b.data.toList=r at *;go_wp2_with fail
   all_goals
    go_ret;exact⟨R5 (by simp),Bj E (A5 _ _)⟩
 ·have f:aJ1 a.data.toList b.data.toList=aJb a.data.toList:=by unfold aJ1;rw[if_neg o]
  have P:=W.out (by rw[f];exact o);have Q:=Y.out (by rw[f];exact o);subst P Q;have c0:=aJ0 a.data.toList;rw[f];clear f;generalize aJb a.data.toList=r at *;have hn:((r:Int) != 0)=true:=by rw[bne_iff_ne];omega
  have c7:((r:Int)==0)=false:=by simp;omega
  go_wp2_with fail;refine(aJr b _ ht).mono ?_;rintro e l ⟨p,F⟩;have H:=A5 j (.cells #[Iv nN.kind,Sv nN.signs,.slice none 0 0] 27);have E:=Bj (Bj a1 H) p;rcases F with⟨i,d,v,n,rfl,s⟩|⟨i,rfl⟩
  ·obtain⟨A,B,C,rfl⟩:=PV.slice _ _ s
   clear s i n;go_wp2_with fail
   all_goals
    go_ret;exact⟨R5 (by simp),Bj E (A5 _ _)⟩
  ·go_wp2_with fail
   all_goals
    go_ret;exact⟨R5 (by simp),Bj E (A5 _ _)⟩
end Go.Proofs.YtfklinjaajafgaaGreatDoor
namespace Go.Proofs.YtfklinjaajafgaaGreatDoor
open Ls
open Go.ChangeShapes Go.WideShapes Go.ChangeAt Go.RowKit
open Go.ChangeMaps (open_string shut_string)
theorem bJf (a b:By)(w:World)(ha:a.size<=maxLen)(k:b.size<=maxLen){c d f g:Addr}(h:Sent w c d f g) :
  Calls Tryz.prog 3 #[.string a,.string b] w fun e m=>e=.returned (.bool true)/\Bw w m:=by
 by_cases i:1048576<a.size
 ·exact bJc a b w ha i
 ·by_cases j:1048576<b.size
  ·exact bJd a b w (by omega) k j
  ·exact bJe a b w (by omega) (by omega) (aJ9 a b (by omega) (by omega) w c d f g h) (fun n l=>bJb a b (by omega) (by omega) n c d f g (h.below l))
end Go.Proofs.YtfklinjaajafgaaGreatDoor
namespace Go.Proofs.YtfklinjaajafgaaGreatDoor
open Ls
open Go.RowKit
theorem aX6 (s:By)(a:Option Addr)(n c:Nat)(w:World)(h:1048576<s.size\/4096<n) :
  Calls Tryz.prog 5 #[.string s,.slice a n c] w fun e d=>e=.returned (.bool true)/\Bw w d:=by
 by_cases f:1048576<s.size
 ·have b:(1048576:Int)<(s.size:Int):=by omega
  go_enter Tryz.func5,Tryz.ntmps5;go_wp2_with fail;go_ret;exact⟨rfl,Br⟩
 ·have b:¬(1048576:Int)<(s.size:Int):=by omega
  have g:(4096:Int)<(n:Int):=by omega
  go_enter Tryz.func5,Tryz.ntmps5;go_wp2_with fail;go_ret;exact⟨rfl,Br⟩
theorem aX8 (s:By)(a3:Option Addr)(n b8:Nat)(w:World)(hs:s.size<=1048576)(hn:n<=4096)(f:Nat->By)(hX:∀W,Bw w W->∀i,i<n->∃d,a3=some d/\W.cell? (d.add i)=some (.string (f i)))(x:Calls Tryz.prog 18 #[.string s] w (CompilePost s w)) :
  Calls Tryz.prog 5 #[.string s,.slice a3 n b8] w fun e c=>e=.returned (.bool true)/\Bw w c:=by
 have hd:¬(1048576:Int)<(s.size:Int):=by omega
 have c7:¬(4096:Int)<(n:Int):=by omega
 have U:Hid (∀W,Bw w W->∀i,i<n->∃d,a3=some d/\W.cell? (d.add i)=some (.string (f i))):=hX;clear hX;go_enter Tryz.func5,Tryz.ntmps5;go_wp2_with fail;refine x.mono ?_;rintro e Q ⟨v0,r,rfl,hr,c8,b5,a5,b2⟩;have HR:Hid (CompIs s.data.toList r):=hr;have HV:Hid (v0.isSome=true↔r=0):=b5;have HP:Hid (r=0->∃l L p,v0=some ⟨L,0,none⟩/\E6 s.data.toList=some l/\OkL 120 l/\cn l<=30000/\eX7 l<=24/\w.heap.size<=L/\Blk Q L #[Pt p] 85/\PartV Q (B8 w Q) p l):=b2;clear hr b5 x b2;go_wp2_with fail;refine(bQz s Q).mono ?_;rintro e b ⟨a7,p,ws,m,o,q,h,j,k,r2,rfl,b3,a6,P⟩;have c3:r2=r:=b3.one HR.out;subst c3;have HN:Hid (r2=0->∃l,E6 s.data.toList=some l/\l.kind=a7/\eX5 l.p=p/\l.w=ws/\NV b (B8 Q b) l (.slice m o q) (.slice h j k)):=P;clear b3 HR P
 by_cases h0:r2=0
 ·subst h0
  obtain⟨l,L,p0,rfl,h1,G,h3,h4,h5,h6,h7⟩:=HP.out rfl;obtain⟨a,k1,rfl,rfl,rfl,k5⟩:=HN.out rfl;obtain⟨rfl,V⟩:=gQv a5 h1 k1 G h3 h4 h6 h7 a6;have b0:=A5 b (B7 a.kind (eX5 a.p) a.w (.slice m o q) (.slice h j k));have a4:Blk (b.alloc (B7 a.kind (eX5 a.p) a.w (.slice m o q) (.slice h j k))) b.heap.size #[Iv a.kind,Iv (eX5 a.p).kind,.string ⟨(eX5 a.p).signs.toArray⟩,.slice m o q,Sv a.w,.slice h j k] 37:=Blk.new b _ _;have b6:=aQk a 120 G (by omega);have HD:Hid (∀W (t:By),t.size<=1048576->Bw b W->
    (Ca 20 #[Pt L,.string t] W (Rt (.bool (B6 (eX8 a) t.data.toList)) W))/\
    (Ca 22 #[Pt L,.string t] W (Rt (.bool (B6 (eX6 a) t.data.toList)) W))/\
    (Ca 24 #[Pt L,.string t] W (Rt (if B6 (eX8 a) t.data.toList=true then .tuple #[Sv (A6 a t.data.toList),Iv 0] else .tuple #[.string ⟨#[]⟩,Iv 5]) W))):=fun W t H v=>⟨eQv t W L a H _ p0 (V.below v),eQy t W L a H _ p0 (V.below v),bQf t W L a H _ p0 (V.below v)⟩
  have HE:Hid (∀W (t:By),t.size<=1048576->Bw b W->
    (Ca 21 #[F0 a (.slice m o q) (.slice h j k),.string t] W (Rt (.bool (B6 (eX8 a) t.data.toList)) W))/\
    (Ca 23 #[F0 a (.slice m o q) (.slice h j k),.string t] W (Rt (.bool (B6 (eX6 a) t.data.toList)) W))/\
    (Ca 25 #[F0 a (.slice m o q) (.slice h j k),.string t] W (Rt (if B6 (eX8 a) t.data.toList=true then .tuple #[Sv (A6 a t.data.toList),Iv 0] else .tuple #[.string ⟨#[]⟩,Iv 5]) W))):=fun W t H v=>by
   have hO:Old W (B8 Q b):=fun a7 hk=>Ll hk.2 v.size;have P:=k5.below v (fun a7 hk=>hk.2) (fun _ b9=>b9);exact⟨gQ9 a G (G6 a G) t H _ _ W _ hO P,hQa a G (G9 a G b6) t H _ _ W _ hO P,kQj a G (G6 a G) (bQo a G (j9 G h4 (by omega))) t H _ _ W _ hO P⟩
  have a0:Hid (Bw b (b.alloc (B7 a.kind (eX5 a.p) a.w (.slice m o q) (.slice h j k)))):=b0;have a2:Hid (∀W,Below (b.alloc (B7 a.kind (eX5 a.p) a.w (.slice m o q) (.slice h j k))).heap.size (b.alloc (B7 a.kind (eX5 a.p) a.w (.slice m o q) (.slice h j k))) W->Blk W b.heap.size #[Iv a.kind,Iv (eX5 a.p).kind,.string ⟨(eX5 a.p).signs.toArray⟩,.slice m o q,Sv a.w,.slice h j k] 37):=fun W v=>a4.below v a4.lt;have b7:Hid (Bw w b):=Bj a5 a6;clear HP HN HV k1 k5 h1 G h3 h4 h5 h6 h7 V b6 b0 a4;go_wp2_with fail;generalize b.alloc (B7 a.kind (eX5 a.p) a.w (.slice m o q) (.slice h j k))=y at *;go_loopw [9] (fun t wr=>∃i:Nat,i<=n/\t=Iv i/\Bw y wr) (fun t _=>n-(intOf t).toNat)
  case atStart=>exact⟨0,Nat.zero_le _,rfl,Br⟩
  case round=>
   obtain⟨i,hi,rfl,O⟩:=hrel;have a1:Hid (∀W,Bw y W->Bw w W):=fun W v=>Bj (Bj b7.out a0.out) v
   by_cases b1:i<n
   ·have c9:(0:Int)<=(i:Int):=by omega
    have c4:(i:Int)<(n:Int):=by omega
    obtain⟨d,rfl,z⟩:=U.out wr (a1.out wr O) i b1;have u:Hid (∀W:World,Bw y W->(Ce W b.heap.size 0 (Iv a.kind)/\Ce W b.heap.size 1 (Iv (eX5 a.p).kind)/\Ce W b.heap.size 2 (.string ⟨(eX5 a.p).signs.toArray⟩)/\Ce W b.heap.size 3 (.slice m o q)/\Ce W b.heap.size 4 (Sv a.w)/\Ce W b.heap.size 5 (.slice h j k))/\W.cell? (d.add i)=some (.string (f i))):=fun W v=>by
     obtain⟨d',c2,c1⟩:=U.out W (a1.out W v) i b1;cases c2;exact⟨(a2.out W v).six,c1⟩
    have J:Hid ((f i).size<=1048576->∀W,Bw y W->
      (Ca 20 #[Pt L,.string (f i)] W (Rt (.bool (B6 (eX8 a) (f i).data.toList)) W))/\
      (Ca 22 #[Pt L,.string (f i)] W (Rt (.bool (B6 (eX6 a) (f i).data.toList)) W))/\
      (Ca 24 #[Pt L,.string (f i)] W (Rt (if B6 (eX8 a) (f i).data.toList=true then .tuple #[Sv (A6 a (f i).data.toList),Iv 0] else .tuple #[.string ⟨#[]⟩,Iv 5]) W))):=fun H W v=>HD.out W (f i) H (Bj a0.out v)
    have K:Hid ((f i).size<=1048576->∀W,Bw y W->
      (Ca 21 #[F0 a (.slice m o q) (.slice h j k),.string (f i)] W (Rt (.bool (B6 (eX8 a) (f i).data.toList)) W))/\
      (Ca 23 #[F0 a (.slice m o q) (.slice h j k),.string (f i)] W (Rt (.bool (B6 (eX6 a) (f i).data.toList)) W))/\
      (Ca 25 #[F0 a (.slice m o q) (.slice h j k),.string (f i)] W (Rt (if B6 (eX8 a) (f i).data.toList=true then .tuple #[Sv (A6 a (f i).data.toList),Iv 0] else .tuple #[.string ⟨#[]⟩,Iv 5]) W))):=fun H W v=>HE.out W (f i) H (Bj a0.out v)
    generalize A6 a (f i).data.toList=gv at *;generalize B6 (eX8 a) (f i).data.toList=zs at *;generalize B6 (eX6 a) (f i).data.toList=zv at *;generalize f i=t at *;clear HD HE U a2
    by_cases c6:1048576<t.size
    ·have c0:(1048576:Int)<(t.size:Int):=by omega
     clear J K u;go_wp2_with fail;go_roundw
     case rel=>exact⟨i+1,by omega,by go_num,O⟩
     case measure=>simp[intOf];omega
    ·have c0:¬(1048576:Int)<(t.size:Int):=by omega
     have b4:t.size<=1048576:=by omega
     have a8:=J.out b4;have a9:=K.out b4;clear J K;have J:Hid _:=a8;have K:Hid _:=a9;clear a8 a9 z;obtain⟨⟨A,B,C,D,E,F⟩,z⟩:=u.out wr O;have x:=(J.out wr O).1;go_wp2_with fail;refine x.mono ?_;clear x A B C D E F z;rintro e w4 ⟨rfl,g⟩;have X:Bw y w4:=Bj O g;clear g;obtain⟨⟨A,B,C,D,E,F⟩,z⟩:=u.out w4 X;go_wp2_with fail;go_region_held (fun c=>(Ce c b.heap.size 0 (Iv a.kind)/\Ce c b.heap.size 1 (Iv (eX5 a.p).kind)/\Ce c b.heap.size 2 (.string ⟨(eX5 a.p).signs.toArray⟩)/\Ce c b.heap.size 3 (.slice m o q)/\Ce c b.heap.size 4 (Sv a.w)/\Ce c b.heap.size 5 (.slice h j k))/\c.cell? (d.add i)=some (.string t)) (first|with_reducible assumption|with_reducible exact u.out _ X.drew|with_reducible exact u.out _ N)
      (first
       | (go_at_call 21;refine(K.out _ ?_).1.mono ?_;exact X.drew;rintro e w5 ⟨rfl,g⟩;have Y:Bw y w5:=Bj X.drew g;have N:=Y;clear g))
     all_goals
      obtain⟨⟨A,B,C,D,E,F⟩,z⟩:=u.out w5 Y;have x:=(J.out w5 Y).2.1;go_wp2_with fail;refine x.mono ?_;clear x A B C D E F z;rintro e w6 ⟨rfl,g⟩;have Z:Bw y w6:=Bj Y g;clear g;obtain⟨⟨A,B,C,D,E,F⟩,z⟩:=u.out w6 Z;go_wp2_with fail;go_region_held (fun c=>(Ce c b.heap.size 0 (Iv a.kind)/\Ce c b.heap.size 1 (Iv (eX5 a.p).kind)/\Ce c b.heap.size 2 (.string ⟨(eX5 a.p).signs.toArray⟩)/\Ce c b.heap.size 3 (.slice m o q)/\Ce c b.heap.size 4 (Sv a.w)/\Ce c b.heap.size 5 (.slice h j k))/\c.cell? (d.add i)=some (.string t)) (first|with_reducible assumption|with_reducible exact u.out _ Z.drew|with_reducible exact u.out _ N)
       (first
        | (go_at_call 23;refine(K.out _ ?_).2.1.mono ?_;exact Z.drew;rintro e S ⟨rfl,g⟩;have M:Bw y S:=Bj Z.drew g;have N:=M;clear g))
      all_goals
       cases zs with
       | true=>
        obtain⟨⟨A,B,C,D,E,F⟩,z⟩:=u.out S M;have x:=(J.out S M).2.2;go_wp2_with fail;refine x.mono ?_;clear x A B C D E F z;rintro e T ⟨rfl,g⟩;have I:Bw y T:=Bj M g;clear g;obtain⟨⟨A,B,C,D,E,F⟩,z⟩:=u.out T I;go_wp2_with fail;go_region_held (fun c=>(Ce c b.heap.size 0 (Iv a.kind)/\Ce c b.heap.size 1 (Iv (eX5 a.p).kind)/\Ce c b.heap.size 2 (.string ⟨(eX5 a.p).signs.toArray⟩)/\Ce c b.heap.size 3 (.slice m o q)/\Ce c b.heap.size 4 (Sv a.w)/\Ce c b.heap.size 5 (.slice h j k))/\c.cell? (d.add i)=some (.string t)) (first|with_reducible assumption|with_reducible exact u.out _ I.drew|with_reducible exact u.out _ N)
         (first
          | (go_at_call 25;refine(K.out _ ?_).2.2.mono ?_;exact I.drew;rintro e w9 ⟨rfl,g⟩;have R:Bw y w9:=Bj I.drew g;have N:=R;clear g))
        all_goals
         go_wp2_with fail;go_roundw
         case rel=>exact⟨i+1,by omega,by go_num,R⟩
         case measure=>simp[intOf];omega
       | false=>
        obtain⟨⟨A,B,C,D,E,F⟩,z⟩:=u.out S M;have x:=(J.out S M).2.2;go_wp2_with fail;refine x.mono ?_;clear x A B C D E F z;rintro e T ⟨rfl,g⟩;have I:Bw y T:=Bj M g;clear g;obtain⟨⟨A,B,C,D,E,F⟩,z⟩:=u.out T I;go_wp2_with fail;go_region_held (fun c=>(Ce c b.heap.size 0 (Iv a.kind)/\Ce c b.heap.size 1 (Iv (eX5 a.p).kind)/\Ce c b.heap.size 2 (.string ⟨(eX5 a.p).signs.toArray⟩)/\Ce c b.heap.size 3 (.slice m o q)/\Ce c b.heap.size 4 (Sv a.w)/\Ce c b.heap.size 5 (.slice h j k))/\c.cell? (d.add i)=some (.string t)) (first|with_reducible assumption|with_reducible exact u.out _ I.drew|with_reducible exact u.out _ N)
         (first
          | (go_at_call 25;refine(K.out _ ?_).2.2.mono ?_;exact I.drew;rintro e w9 ⟨rfl,g⟩;have R:Bw y w9:=Bj I.drew g;have N:=R;clear g))
        all_goals
         go_wp2_with fail;go_roundw
         case rel=>exact⟨i+1,by omega,by go_num,R⟩
         case measure=>simp[intOf];omega
   ·have c4:¬(i:Int)<(n:Int):=by omega
    clear HD HE U a2;go_wp2_with fail;go_ret;exact⟨rfl,a1.out wr O⟩
 ·have c5:¬((r2:Int)=0):=by omega
  cases v0 with
  | some ad=>exact absurd (HV.out.1 rfl) h0
  | none=>
   clear HP HN HV;go_wp2_with fail;go_ret;exact⟨by simp,Bj (Bj a5 a6) (A5 _ _)⟩
end Go.Proofs.YtfklinjaajafgaaGreatDoor
namespace Go.Proofs.YtfklinjaajafgaaGreatDoor
open Ls
open Go.ChangeShapes Go.WideShapes Go.ChangeAt Go.RowKit
open Go.ChangeMaps (open_string shut_string)
theorem aX4 (b:By)(a:Option Addr)(n c:Nat)(w:World)(f:Nat->By)(m:∀W,Bw w W->∀i,i<n->∃d,a=some d/\W.cell? (d.add i)=some (.string (f i))){g j k l:Addr}(o:Sent w g j k l) :
  Calls Tryz.prog 5 #[.string b,.slice a n c] w fun e p=>e=.returned (.bool true)/\Bw w p:=by
 by_cases h:1048576<b.size\/4096<n
 ·exact aX6 b a n c w h
 ·exact aX8 b a n c w (by omega) (by omega) f m (j8 b g j w k l (by omega) o)
end Go.Proofs.YtfklinjaajafgaaGreatDoor
namespace Go.Proofs.YtfklinjaajafgaaGreatDoor
open Ls
open Go.RowKit
theorem tQq (s v:By)(w:World)(h:1048576<s.size\/1048576<v.size) :
  Calls Tryz.prog 6 #[.string s,.string v] w fun e b=>e=.returned (.bool true)/\Bw w b:=by
 by_cases c:1048576<s.size
 ·have a:(1048576:Int)<(s.size:Int):=by omega
  go_enter Tryz.func6,Tryz.ntmps6;go_wp2_with fail;go_ret;exact⟨rfl,Br⟩
 ·have a:¬(1048576:Int)<(s.size:Int):=by omega
  have d:(1048576:Int)<(v.size:Int):=by omega
  go_enter Tryz.func6,Tryz.ntmps6;go_wp2_with fail;go_ret;exact⟨rfl,Br⟩
theorem tQs (s v:By)(w:World)(hs:s.size<=1048576)(hv:v.size<=1048576)(P:Calls Tryz.prog 18 #[.string s] w (CompilePost s w)) :
  Calls Tryz.prog 6 #[.string s,.string v] w fun e w'=>e=.returned (.bool true)/\Bw w w':=by
 have hd:¬(1048576:Int)<(s.size:Int):=by omega
 have b3:¬(1048576:Int)<(v.size:Int):=by omega
 go_enter Tryz.func6,Tryz.ntmps6;go_wp2_with fail;refine P.mono ?_;rintro e m ⟨F,r,rfl,hr,b4,a7,y,Z⟩;have H:Hid (CompIs s.data.toList r):=hr;have u:Hid (F.isSome=true↔r=0):=a7;have t:Hid (r=0->∃l L p,F=some ⟨L,0,none⟩/\E6 s.data.toList=some l/\OkL 120 l/\cn l<=30000/\eX7 l<=24/\w.heap.size<=L/\Blk m L #[Pt p] 85/\PartV m (B8 w m) p l):=Z;clear hr a7 P Z;go_wp2_with fail;refine(bQz s m).mono ?_;rintro e b ⟨k,p,ws,g,h,i,c,d,f,o,rfl,a6,z,Y⟩;have b0:o=r:=a6.one H.out;subst b0;have q:Hid (o=0->∃l,E6 s.data.toList=some l/\l.kind=k/\eX5 l.p=p/\l.w=ws/\NV b (B8 m b) l (.slice g h i) (.slice c d f)):=Y;clear a6 H Y
 by_cases J:o=0
 ·subst J
  obtain⟨l,L,p0,rfl,K,j,M,x,h5,N,O⟩:=t.out rfl;obtain⟨a,k1,rfl,rfl,rfl,k5⟩:=q.out rfl;obtain⟨rfl,R⟩:=gQv y K k1 j M x N O z;have a9:a.kind=a.kind:=rfl;have A:=A5 b (B7 a.kind (eX5 a.p) a.w (.slice g h i) (.slice c d f));have U:Blk (b.alloc (B7 a.kind (eX5 a.p) a.w (.slice g h i) (.slice c d f))) b.heap.size #[Iv a.kind,Iv (eX5 a.p).kind,.string ⟨(eX5 a.p).signs.toArray⟩,.slice g h i,Sv a.w,.slice c d f] 37:=Blk.new b _ _;have Q:=eQj v _ L a hv _ p0 (R.below A);have E:=aQk a 120 j (by omega);have S:Hid (∀W,Bw b W->Ca 27 #[F0 a (.slice g h i) (.slice c d f),.string v] W (Rt (if B6 (eX6 a) v.data.toList=true then .tuple #[Sv (A8 a v.data.toList),Iv 0] else .tuple #[.string ⟨#[]⟩,Iv 6]) W)):=fun W T=>
   jQ1 v _ W _ (B8 m b) a j (G9 a j E) (aQm a j E (j9 j x (by omega))) hv (fun k D=>Ll D.2 T.size) (k5.below T (fun k D=>D.2) (fun _ a8=>a8))
  have G:Hid (Bw b (b.alloc (B7 a.kind (eX5 a.p) a.w (.slice g h i) (.slice c d f)))):=A;have I:Hid (Blk (b.alloc (B7 a.kind (eX5 a.p) a.w (.slice g h i) (.slice c d f))) b.heap.size #[Iv a.kind,Iv (eX5 a.p).kind,.string ⟨(eX5 a.p).signs.toArray⟩,.slice g h i,Sv a.w,.slice c d f] 37):=U;clear t q u k1 k5 K j M x h5 N O R E A U a9;generalize A8 a v.data.toList=cr at *;generalize B6 (eX6 a) v.data.toList=b1 at *;go_wp2_with fail;refine Q.mono ?_;clear Q;generalize b.alloc (B7 a.kind (eX5 a.p) a.w (.slice g h i) (.slice c d f))=W3 at *;rintro e w4 ⟨rfl,B⟩;have V:=I.out.below B I.out.lt;obtain⟨a0,a1,a2,a3,a4,a5⟩:=V.six;have X:=Bj (Bj y z) (Bj G.out B);have n:=S.out w4 (Bj G.out B);clear V S;cases b1 with
  | true=>
   go_wp2_with fail;refine n.mono ?_;clear n;rintro e w5 ⟨rfl,C⟩;go_wp2_with fail;go_ret;exact⟨by simp,Bj X C⟩
  | false=>
   go_wp2_with fail;refine n.mono ?_;clear n;rintro e w5 ⟨rfl,C⟩;go_wp2_with fail;go_ret;exact⟨by simp,Bj X C⟩
 ·have b2:¬((o:Int)=0):=by omega
  cases F with
  | some ad=>exact absurd (u.out.1 rfl) J
  | none=>
   clear t q u;go_wp2_with fail;go_ret;exact⟨by simp,Bj (Bj y z) (A5 _ _)⟩
end Go.Proofs.YtfklinjaajafgaaGreatDoor
namespace Go.Proofs.YtfklinjaajafgaaGreatDoor
open Ls
open Go.ChangeShapes Go.WideShapes Go.ChangeAt Go.RowKit
open Go.ChangeMaps (open_string shut_string)
theorem tQo (a b:By)(w:World){c d f g:Addr}(i:Sent w c d f g) :
  Calls Tryz.prog 6 #[.string a,.string b] w fun e j=>e=.returned (.bool true)/\Bw w j:=by
 by_cases h:1048576<a.size\/1048576<b.size
 ·exact tQq a b w h
 ·exact tQs a b w (by omega) (by omega) (j8 a c d w f g (by omega) i)
end Go.Proofs.YtfklinjaajafgaaGreatDoor
namespace Go.Proofs.YtfklinjaajafgaaGreatDoor
open Ls
open Go.RowKit
theorem aXv (s v u:By)(w:World)(h:1048576<s.size\/1048576<v.size\/1048576<u.size) :
  Calls Tryz.prog 7 #[.string s,.string v,.string u] w fun e c=>e=.returned (.bool true)/\Bw w c:=by
 by_cases d:1048576<s.size
 ·have a:(1048576:Int)<(s.size:Int):=by omega
  go_enter Tryz.func7,Tryz.ntmps7;go_wp2_with fail;go_ret;exact⟨rfl,Br⟩
 ·have a:¬(1048576:Int)<(s.size:Int):=by omega
  by_cases f:1048576<v.size
  ·have b:(1048576:Int)<(v.size:Int):=by omega
   go_enter Tryz.func7,Tryz.ntmps7;go_wp2_with fail;go_ret;exact⟨rfl,Br⟩
  ·have b:¬(1048576:Int)<(v.size:Int):=by omega
   have g:(1048576:Int)<(u.size:Int):=by omega
   go_enter Tryz.func7,Tryz.ntmps7;go_wp2_with fail;go_ret;exact⟨rfl,Br⟩
theorem aXy (s v u:By)(w:World)(hs:s.size<=1048576)(hv:v.size<=1048576)(hu:u.size<=1048576)(S:Calls Tryz.prog 18 #[.string s] w (CompilePost s w)) :
  Calls Tryz.prog 7 #[.string s,.string v,.string u] w fun e w'=>e=.returned (.bool true)/\Bw w w':=by
 have hd:¬(1048576:Int)<(s.size:Int):=by omega
 have b4:¬(1048576:Int)<(v.size:Int):=by omega
 have b5:¬(1048576:Int)<(u.size:Int):=by omega
 go_enter Tryz.func7,Tryz.ntmps7;go_wp2_with fail;refine S.mono ?_;rintro e n ⟨I,r,rfl,hr,b6,a8,B,a6⟩;have K:Hid (CompIs s.data.toList r):=hr;have y:Hid (I.isSome=true↔r=0):=a8;have x:Hid (r=0->∃l L p,I=some ⟨L,0,none⟩/\E6 s.data.toList=some l/\OkL 120 l/\cn l<=30000/\eX7 l<=24/\w.heap.size<=L/\Blk n L #[Pt p] 85/\PartV n (B8 w n) p l):=a6;clear hr a8 S a6;go_wp2_with fail;refine(bQz s n).mono ?_;rintro e b ⟨k,p,ws,g,h,i,c,d,f,q,rfl,a7,C,Z⟩;have b1:q=r:=a7.one K.out;subst b1;have t:Hid (q=0->∃l,E6 s.data.toList=some l/\l.kind=k/\eX5 l.p=p/\l.w=ws/\NV b (B8 n b) l (.slice g h i) (.slice c d f)):=Z;clear a7 K Z
 by_cases N:q=0
 ·subst N
  obtain⟨l,L,p0,rfl,O,j,P,z,h5,Q,R⟩:=x.out rfl;obtain⟨a,k1,rfl,rfl,rfl,k5⟩:=t.out rfl;obtain⟨rfl,T⟩:=gQv B O k1 j P z Q R C;have b0:a.kind=a.kind:=rfl;have D:=A5 b (B7 a.kind (eX5 a.p) a.w (.slice g h i) (.slice c d f));have X:Blk (b.alloc (B7 a.kind (eX5 a.p) a.w (.slice g h i) (.slice c d f))) b.heap.size #[Iv a.kind,Iv (eX5 a.p).kind,.string ⟨(eX5 a.p).signs.toArray⟩,.slice g h i,Sv a.w,.slice c d f] 37:=Blk.new b _ _;have A:=cQf u _ L a v hv hu _ p0 (T.below D);have H:=aQk a 120 j (by omega);have U:Hid (∀W,Bw b W->Ca 29 #[F0 a (.slice g h i) (.slice c d f),.string v,.string u] W (Rt (if B6 (eX6 a) v.data.toList=true then (if B6 (eX8 a) u.data.toList=true then .tuple #[Sv (A9 a v.data.toList u.data.toList),Iv 0] else .tuple #[.string ⟨#[]⟩,Iv 5]) else .tuple #[.string ⟨#[]⟩,Iv 6]) W)):=fun W V=>
   aXw v u _ _ W (B8 n b) a j (G6 a j) (G9 a j H) (dQ1 a j H (j9 j z (by omega))) hv hu (fun k G=>Ll G.2 V.size) (k5.below V (fun k G=>G.2) (fun _ a9=>a9))
  have J:Hid (Bw b (b.alloc (B7 a.kind (eX5 a.p) a.w (.slice g h i) (.slice c d f)))):=D;have M:Hid (Blk (b.alloc (B7 a.kind (eX5 a.p) a.w (.slice g h i) (.slice c d f))) b.heap.size #[Iv a.kind,Iv (eX5 a.p).kind,.string ⟨(eX5 a.p).signs.toArray⟩,.slice g h i,Sv a.w,.slice c d f] 37):=X;clear x t y k1 k5 O j P z h5 Q R T H D X b0;unfold bQk at A;generalize A9 a v.data.toList u.data.toList=cr at *;generalize B6 (eX6 a) v.data.toList=b2 at *;generalize B6 (eX8 a) u.data.toList=zs at *;go_wp2_with fail;refine A.mono ?_;clear A;generalize b.alloc (B7 a.kind (eX5 a.p) a.w (.slice g h i) (.slice c d f))=W3 at *;rintro e w4 ⟨rfl,E⟩;have Y:=M.out.below E M.out.lt;obtain⟨a0,a1,a2,a3,a4,a5⟩:=Y.six;have F:=Bj (Bj B C) (Bj J.out E);have m:=U.out w4 (Bj J.out E);clear Y U;cases b2 with
  | true=>
   cases zs with
   | true=>
    go_wp2_with fail;refine m.mono ?_;clear m;rintro e w5 ⟨rfl,o⟩;go_wp2_with fail;go_ret;exact⟨by simp,Bj F o⟩
   | false=>
    go_wp2_with fail;refine m.mono ?_;clear m;rintro e w5 ⟨rfl,o⟩;go_wp2_with fail;go_ret;exact⟨by simp,Bj F o⟩
  | false=>
   go_wp2_with fail;refine m.mono ?_;clear m;rintro e w5 ⟨rfl,o⟩;go_wp2_with fail;go_ret;exact⟨by simp,Bj F o⟩
 ·have b3:¬((q:Int)=0):=by omega
  cases I with
  | some ad=>exact absurd (y.out.1 rfl) N
  | none=>
   clear x t y;go_wp2_with fail;go_ret;exact⟨by simp,Bj (Bj B C) (A5 _ _)⟩
end Go.Proofs.YtfklinjaajafgaaGreatDoor
namespace Go.Proofs.YtfklinjaajafgaaGreatDoor
open Ls
open Go.ChangeShapes Go.WideShapes Go.ChangeAt Go.RowKit
open Go.ChangeMaps (open_string shut_string)
theorem aXt (a b d:By)(w:World){c f g i:Addr}(j:Sent w c f g i) :
  Calls Tryz.prog 7 #[.string a,.string b,.string d] w fun e k=>e=.returned (.bool true)/\Bw w k:=by
 by_cases h:1048576<a.size\/1048576<b.size\/1048576<d.size
 ·exact aXv a b d w h
 ·exact aXy a b d w (by omega) (by omega) (by omega) (j8 a c f w g i (by omega) j)
end Go.Proofs.YtfklinjaajafgaaGreatDoor
namespace Go.Proofs.YtfklinjaajafgaaGreatDoor
open Ls
open Go.RowKit
theorem tQg (s v u:By)(w:World)(h:1048576<s.size\/1048576<v.size\/1048576<u.size) :
  Calls Tryz.prog 8 #[.string s,.string v,.string u] w fun e c=>e=.returned (.bool true)/\Bw w c:=by
 by_cases d:1048576<s.size
 ·have a:(1048576:Int)<(s.size:Int):=by omega
  go_enter Tryz.func8,Tryz.ntmps8;go_wp2_with fail;go_ret;exact⟨rfl,Br⟩
 ·have a:¬(1048576:Int)<(s.size:Int):=by omega
  by_cases f:1048576<v.size
  ·have b:(1048576:Int)<(v.size:Int):=by omega
   go_enter Tryz.func8,Tryz.ntmps8;go_wp2_with fail;go_ret;exact⟨rfl,Br⟩
  ·have b:¬(1048576:Int)<(v.size:Int):=by omega
   have g:(1048576:Int)<(u.size:Int):=by omega
   go_enter Tryz.func8,Tryz.ntmps8;go_wp2_with fail;go_ret;exact⟨rfl,Br⟩
theorem CompilePost.lens {s:By}{w:World}{e:Ending}{a:World}(h:CompilePost s w e a):∃(v:Option Addr) (r:Nat),e=.returned (.tuple #[.pointer v,Iv r])/\CompIs s.data.toList r/\r<=4/\(v.isSome=true↔r=0)/\Bw w a/\(r=0->∃l L p,v=some ⟨L,0,none⟩/\E6 s.data.toList=some l/\LensV a (B8 w a) L p l):=by
 obtain⟨v,r,b,c,d,f,g,i⟩:=h;refine⟨v,r,b,c,d,f,g,fun h=>?_⟩;obtain⟨l,L,p,rfl,k,m,n,o,u,q,t⟩:=i h;exact⟨l,L,p,rfl,k,q,t,fun _ j=>j.2,m,o,n⟩
theorem tQi (s t u:By)(w:World)(hs:s.size<=1048576)(ht:t.size<=1048576)(hu:u.size<=1048576)(hC:∀W,Bw w W->∀b7:By,b7.size<=1048576->Calls Tryz.prog 18 #[.string b7] W (CompilePost b7 W)) :
  Calls Tryz.prog 8 #[.string s,.string t,.string u] w fun e w'=>e=.returned (.bool true)/\Bw w w':=by
 have hd:¬(1048576:Int)<(s.size:Int):=by omega
 have g2:¬(1048576:Int)<(t.size:Int):=by omega
 have g3:¬(1048576:Int)<(u.size:Int):=by omega
 have HC:Hid (∀W,Bw w W->Ca 18 #[.string t] W (CompilePost t W)):=fun W r=>hC W r t ht;have c9:=hC w Br s hs;clear hC;go_enter Tryz.func8,Tryz.ntmps8;go_wp2_with fail;refine c9.mono ?_;clear c9;intro e w1 d1;obtain⟨v0,a8,rfl,hr,g4,e4,d3,d9⟩:=d1.lens;have HR:Hid (CompIs s.data.toList a8):=hr;have G:Hid (v0.isSome=true↔a8=0):=e4;have Q:Hid (a8=0->∃l L p,v0=some ⟨L,0,none⟩/\E6 s.data.toList=some l/\LensV w1 (B8 w w1) L p l):=d9;have d0:=HC.out w1 d3;clear hr e4 d9 d1 HC;go_wp2_with fail;refine d0.mono ?_;clear d0;intro e M d2;obtain⟨Y,r',rfl,e1,g5,e5,d4,e0⟩:=d2.lens;have c7:Hid (CompIs t.data.toList r'):=e1;have E:Hid (Y.isSome=true↔r'=0):=e5;have R:Hid (r'=0->∃l L p,Y=some ⟨L,0,none⟩/\E6 t.data.toList=some l/\LensV M (B8 w1 M) L p l):=e0;clear e1 e5 e0 d2;have f2:=Bj d3 d4;go_wp2_with fail;refine(bQz s M).mono ?_;rintro e f ⟨k,p,N,z,A,B,v,x,y,r2,rfl,e2,d6,d7⟩;have f5:r2=a8:=e2.one HR.out;subst f5;have O:Hid (r2=0->∃l,E6 s.data.toList=some l/\l.kind=k/\eX5 l.p=p/\l.w=N/\NV f (B8 M f) l (.slice z A B) (.slice v x y)):=d7;clear e2 HR d7;have f1:Bw w (f.alloc (B7 k (p) N (.slice z A B) (.slice v x y))):=Bj (Bj f2 d6) (A5 _ _);have C:Hid (Blk (f.alloc (B7 k (p) N (.slice z A B) (.slice v x y))) f.heap.size #[Iv k,Iv p.kind,Sv p.signs,.slice z A B,Sv N,.slice v x y] 37):=Blk.new f _ _;have b8:Hid (Bw f (f.alloc (B7 k (p) N (.slice z A B) (.slice v x y)))):=A5 _ _;go_wp2_with fail;refine(bQz t _).mono ?_;generalize f.alloc (B7 k (p) N (.slice z A B) (.slice v x y))=e8 at *;rintro e c ⟨X,J,Z,n,o,q,i,j,m,K,rfl,e3,U,d8⟩;have f6:K=r':=e3.one c7.out;subst f6;have P:Hid (K=0->∃l,E6 t.data.toList=some l/\l.kind=X/\eX5 l.p=J/\l.w=Z/\NV c (B8 e8 c) l (.slice n o q) (.slice i j m)):=d8;clear e3 c7 d8;have f3:Bw w c:=Bj f1 U;have V:Bw w (c.alloc (B7 X J Z (.slice n o q) (.slice i j m))):=Bj f3 (A5 _ _);have b9:Hid (Bw c (c.alloc (B7 X J Z (.slice n o q) (.slice i j m)))):=A5 _ _;have D:Hid (Blk (c.alloc (B7 X J Z (.slice n o q) (.slice i j m))) c.heap.size #[Iv X,Iv J.kind,Sv J.signs,.slice n o q,Sv Z,.slice i j m] 37):=Blk.new c _ _
 by_cases S:r2=0
 ·by_cases H:K=0
  ·subst S
   subst H;obtain⟨l,L,f9,rfl,h1,d⟩:=Q.out rfl;obtain⟨a,k1,rfl,rfl,rfl,k5⟩:=O.out rfl;obtain rfl:a=l:=Option.some.inj (k1.symm.trans h1);obtain⟨f8,L',q',rfl,c8,g⟩:=R.out rfl;obtain⟨b,e6,rfl,rfl,rfl,e7⟩:=P.out rfl;obtain rfl:b=f8:=Option.some.inj (e6.symm.trans c8);have d5:Bw M c:=Bj (Bj d6 b8.out) U;have b1:=Bj d5 b9.out;have b0:=jQz u _ L a hu _ _ f9 L' q' b ((d.below d4).below b1) (g.below b1);have f7:=aQk a 120 d.ok (by have:=d.size;omega);have b6:=aQk b 120 g.ok (by have:=g.size;omega);have HG:Hid (∀W,Bw c W->Ca 25 #[F0 a (.slice z A B) (.slice v x y),.string u] W (Rt (if B6 (eX8 a) u.data.toList=true then .tuple #[Sv (A6 a u.data.toList),Iv 0] else .tuple #[.string ⟨#[]⟩,Iv 5]) W)):=fun W r=>by
    have hj:=Bj (Bj b8.out U) r;exact kQj a d.ok (G6 a d.ok) (bQo a d.ok (j9 d.ok d.size (by have:=d.few;omega))) u hu _ _ W (B8 M f) (fun k F=>Ll F.2 hj.size) (k5.below hj (fun k F=>F.2) (fun _ a9=>a9))
   have HK:Hid (B6 (eX8 a) u.data.toList=true->∀W,Bw c W->Ca 27 #[F0 b (.slice n o q) (.slice i j m),Sv (A6 a u.data.toList)] W (Rt (if B6 (eX6 b) (A6 a u.data.toList)=true then .tuple #[Sv (A8 b (A6 a u.data.toList)),Iv 0] else .tuple #[.string ⟨#[]⟩,Iv 6]) W)):=fun ho W r=>by
    have f4:=kQi d.few (s:=u.data.toList) (by unfold B6 at ho;rw[Bool.and_eq_true,decide_eq_true_eq]at ho;exact ho.2);exact jQ1 ⟨(A6 a u.data.toList).toArray⟩ _ W _ (B8 e8 c) b g.ok (G9 b g.ok b6) (aQm b g.ok b6 (j9 g.ok g.size (by have:=g.few;omega))) (by simpa [ByteArray.size] using f4) (fun k F=>Ll F.2 r.size) (e7.below r (fun k F=>F.2) (fun _ a9=>a9))
   have e9:Hid (∀W,Bw c W->Blk W f.heap.size #[Iv a.kind,Iv (eX5 a.p).kind,.string ⟨(eX5 a.p).signs.toArray⟩,.slice z A B,Sv a.w,.slice v x y] 37):=fun W r=>(C.out.below U C.out.lt).below r (Ll C.out.lt U.size);have HE:Hid (Bw w (c.alloc (B7 b.kind (eX5 b.p) b.w (.slice n o q) (.slice i j m)))):=V;clear Q O G R P E h1 c8 k1 e6 k5 e7 d g f7 b6 C d5 b1 V;unfold eQi at b0;generalize A8 b (A6 a u.data.toList)=cr at *;generalize B6 (eX6 b) (A6 a u.data.toList)=zv at *;generalize A6 a u.data.toList=gv at *;generalize B6 (eX8 a) u.data.toList=zs at *;go_wp2_with fail;refine b0.mono ?_;clear b0;generalize c.alloc (B7 b.kind (eX5 b.p) b.w (.slice n o q) (.slice i j m))=W4 at *;rintro e w5 ⟨rfl,a7⟩;have a6:=Bj b9.out a7;obtain⟨a0,a1,a2,a3,a4,a5⟩:=(e9.out w5 a6).six;have I:=HG.out w5 a6;have b4:=Bj HE.out a7;cases zs with
   | false=>
    clear HG HK;go_wp2_with fail
    all_goals
     refine I.mono ?_;clear I;rintro e w6 ⟨rfl,h⟩;go_wp2_with fail;go_ret;exact⟨by simp,Bj b4 h⟩
   | true=>
    have c6:Hid (∀W,Bw c W->Ca 27 #[F0 b (.slice n o q) (.slice i j m),Sv gv] W (Rt (if zv=true then .tuple #[Sv cr,Iv 0] else .tuple #[.string ⟨#[]⟩,Iv 6]) W)):=HK.out rfl;clear HG HK;cases zv with
    | true=>
     go_wp2_with fail;refine I.mono ?_;clear I a0 a1 a2 a3 a4 a5;rintro e w6 ⟨rfl,h⟩;have b2:=Bj a6 h;obtain⟨c0,c1,c2,c3,c4,c5⟩:=(D.out.below (Bj a7 h) D.out.lt).six;have T:=c6.out w6 b2;have b5:=Bj b4 h;go_wp2_with fail;refine T.mono ?_;clear T;rintro e w7 ⟨rfl,b3⟩;go_wp2_with fail;go_ret;exact⟨by simp,Bj b5 b3⟩
    | false=>
     go_wp2_with fail;refine I.mono ?_;clear I a0 a1 a2 a3 a4 a5;rintro e w6 ⟨rfl,h⟩;have b2:=Bj a6 h;obtain⟨c0,c1,c2,c3,c4,c5⟩:=(D.out.below (Bj a7 h) D.out.lt).six;have T:=c6.out w6 b2;have b5:=Bj b4 h;go_wp2_with fail;refine T.mono ?_;clear T;rintro e w7 ⟨rfl,b3⟩;go_wp2_with fail;go_ret;exact⟨by simp,Bj b5 b3⟩
  ·have f0:¬((K:Int)=0):=by omega
   subst S;cases v0 with
   | none=>exact absurd (G.out.2 rfl) (by simp)
   | some ad=>
    cases Y with
    | some g0=>exact absurd (E.out.1 rfl) H
    | none=>
     clear Q O G R P E C D;go_wp2_with fail;go_ret;exact⟨by simp,V⟩
 ·have f0:¬((r2:Int)=0):=by omega
  cases v0 with
  | some ad=>exact absurd (G.out.1 rfl) S
  | none=>
   by_cases H:K=0
   ·subst H
    cases Y with
    | none=>exact absurd (E.out.2 rfl) (by simp)
    | some ad=>
     clear Q O G R P E C D;go_wp2_with fail;go_ret;exact⟨by simp[S],V⟩
   ·have g1:¬((K:Int)=0):=by omega
    cases Y with
    | some ad=>exact absurd (E.out.1 rfl) H
    | none=>
     clear Q O G R P E C D;go_wp2_with fail;go_ret;exact⟨by simp[S,H],V⟩
end Go.Proofs.YtfklinjaajafgaaGreatDoor
namespace Go.Proofs.YtfklinjaajafgaaGreatDoor
open Ls
open Go.ChangeShapes Go.WideShapes Go.ChangeAt Go.RowKit
open Go.ChangeMaps (open_string shut_string)
theorem tQe (a b d:By)(w:World){c f g i:Addr}(k:Sent w c f g i) :
  Calls Tryz.prog 8 #[.string a,.string b,.string d] w fun e l=>e=.returned (.bool true)/\Bw w l:=by
 by_cases h:1048576<a.size\/1048576<b.size\/1048576<d.size
 ·exact tQg a b d w h
 ·exact tQi a b d w (by omega) (by omega) (by omega) (fun W j z m=>j8 z c f W g i (by omega) (k.below j))
end Go.Proofs.YtfklinjaajafgaaGreatDoor
namespace Go.Proofs.YtfklinjaajafgaaGreatDoor
open Ls
open Go.RowKit
theorem bJg (g s v p:By)(W:World){d f j k:Addr}(n:Sent W d f j k) :
  Calls Tryz.prog 5 #[.string g,Sl W.heap.size 3 3] (W.alloc (.cells #[.string s,.string v,.string p] 9)) fun e c=>e=.returned (.bool true)/\Bw W c:=by
 have b:=A5 W (.cells #[.string s,.string v,.string p] 9);refine(aX4 g _ 3 3 (W.alloc (.cells #[.string s,.string v,.string p] 9)) (fun i=>[s,v,p].getD i p) (fun o l i m=>⟨_,rfl,?_⟩) (n.below b)).mono fun e c h=>⟨h.1,Bj b h.2⟩;have a:=(Blk.new W #[.string s,.string v,.string p] 9).below l (by simp);match i,m with
 | 0,_=>exact a.cell 0
 | 1,_=>exact a.cell 1
 | 2,_=>exact a.cell 2
theorem bJh (p o g t v s:By)(w:World)(u:p.size<=maxLen)(G:o.size<=maxLen)(H:s.size<=maxLen){f h j k:Addr}(y:Sent w f h j k) :
  Calls Tryz.prog 9 #[.string p,.string o,.string g,.string t,.string v,.string s] w fun e J=>e=.returned (.bool true)/\Bw w J:=by
 have c:Hid (∀W,Bw w W->Sent W f h j k):=fun W E=>y.below E;clear y;go_enter Tryz.func9,Tryz.ntmps9;go_wp2_with fail;go_loopw [13] (fun x wr=>∃i:Nat,i<=2/\x=Iv i/\Bw w wr) (fun x _=>2-(intOf x).toNat)
 case atStart=>exact⟨0,Nat.zero_le _,rfl,Br⟩
 case round=>
  obtain⟨i,K,rfl,d⟩:=hrel
  by_cases L:i<2
  ·have I:(i:Int)<(2:Int):=by omega
   have a:=aJ5 p s wr u H (c.out wr d);go_wp2_with fail;refine a.mono ?_;clear a;rintro e z ⟨rfl,b⟩;have l:=Bj d b;clear b;have a:=bJf p o z u G (c.out z l);go_wp2_with fail;refine a.mono ?_;clear a;rintro e A ⟨rfl,b⟩;have m:=Bj l b;clear b;have a:=bJg g s v p A (c.out A m);go_wp2_with fail;refine a.mono ?_;clear a;rintro e B ⟨rfl,b⟩;have n:=Bj m b;clear b;have a:=tQo g v B (c.out B n);go_wp2_with fail;refine a.mono ?_;clear a;rintro e C ⟨rfl,b⟩;have q:=Bj n b;clear b;have a:=aXt g v s C (c.out C q);go_wp2_with fail;refine a.mono ?_;clear a;rintro e D ⟨rfl,b⟩;have r:=Bj q b;clear b;have a:=tQe g t s D (c.out D r);go_wp2_with fail;refine a.mono ?_;clear a;rintro e M ⟨rfl,b⟩;have F:=Bj r b;clear b;go_wp2_with fail;go_roundw
   case rel=>exact⟨i+1,by omega,by go_num,F⟩
   case measure=>simp[intOf];omega
  ·have I:¬(i:Int)<(2:Int):=by omega
   go_wp2_with fail;go_ret;exact⟨rfl,d⟩
end Go.Proofs.YtfklinjaajafgaaGreatDoor
namespace Go.Proofs.YtfklinjaajafgaaGreatDoor
open Ls
open Go.ChangeShapes Go.WideShapes Go.ChangeAt Go.RowKit
open Go.ChangeMaps (open_string shut_string)
theorem bJi (os:Os)(a0:os.Started)(H:Type)(enc:TypeId × Value->H) :
  ReturnsInHanded {} Tryz.checked os 9 .any (fun w a=>(Rows.allSpec.pre enc Tryz.prog Tryz.f9 [] false w a/\laidMetH Tryz.prog laid4 w)/\sizedMet enc Tryz.prog Tryz.f9 (OpenSpec.ofChange Rows.allSpec) false w a)
   (Rows.allSpec.post enc Tryz.prog Tryz.f9 false true false false):=by
 refine returnsInHanded_of_change_and (C:=Tryz.checked) (X:=fun w _=>laidMetH Tryz.prog laid4 w) (fun _ _ _ Q h=>h.of_heap Q) own a0 (by kernel_rfl) Tryz.func9
  (ChangeSpec.witness_shaped (enc:=enc) (C:=Tryz.checked) (os:=os) (X:=fun w _=>laidMetH Tryz.prog laid4 w) false (World.doorLaid Tryz.prog 400 os) #[.string ByteArray.empty,.string ByteArray.empty,.string ByteArray.empty,.string ByteArray.empty,.string ByteArray.empty,.string ByteArray.empty] 8 rfl (World.shaped_of_RefB (by kernel_rfl) (by kernel_rfl)) (by kernel_rfl) (by kernel_rfl) (by kernel_rfl) (aQx os _)) ?_
 intro W D a E gs a2 g e _ _ M _;have b:∀(j:Nat) t v,Tryz.f9.params[j]?=some t->a[j]?=some v->Value.okWide Tryz.prog W .any D t v:=g;have f:=e;obtain⟨p,b3,d,N,rfl,b1,b2⟩:=e;have c:DataW.TrodAll enc Tryz.prog W 0 (fun _=>true) true Tryz.f9.params.toList a.toList E p:=d;rw[Tryz.params9]at c b;obtain⟨i,b4,d0,a3,p0,q0,b0,rfl,rfl,F,S⟩:=trodAll_cons c;obtain⟨k,b5,d1,a4,p1,q1,rfl,rfl,rfl,G,T⟩:=trodAll_cons S;obtain⟨l,b6,d2,a5,p2,q2,rfl,rfl,rfl,I,U⟩:=trodAll_cons T;obtain⟨m,b7,d3,a6,p3,q3,rfl,rfl,rfl,J,V⟩:=trodAll_cons U;obtain⟨n,b8,d4,a7,p4,q4,rfl,rfl,rfl,K,Y⟩:=trodAll_cons V;obtain⟨o,a1,d5,a8,p5,q5,rfl,rfl,rfl,L,Z⟩:=trodAll_cons Y;obtain⟨rfl,rfl,rfl⟩:=trodAll_nil Z;obtain rfl:a=#[i,k,l,m,n,o]:=by cases a;simp_all
 obtain⟨rfl,rfl⟩:=trodVars_none N;obtain⟨u,rfl,rfl,rfl,q⟩:=open_string Tryz.underlying9 (b 0 9 i rfl rfl) F;obtain⟨x,rfl,rfl,rfl,r⟩:=open_string Tryz.underlying9 (b 1 9 k rfl rfl) G;obtain⟨y,rfl,rfl,rfl,w2⟩:=open_string Tryz.underlying9 (b 2 9 l rfl rfl) I;obtain⟨z,rfl,rfl,rfl,w3⟩:=open_string Tryz.underlying9 (b 3 9 m rfl rfl) J;obtain⟨A,rfl,rfl,rfl,w4⟩:=open_string Tryz.underlying9 (b 4 9 n rfl rfl) K;obtain⟨B,rfl,rfl,rfl,s⟩:=open_string Tryz.underlying9 (b 5 9 o rfl rfl) L;obtain⟨x0,x1,x2,x3,R⟩:=aQ3 M;clear d g;simp only[List.append_nil]at f;refine(bJh u x y z A B W q r s R).mono fun a9 W' ⟨O,P⟩=>?_;subst O;refine⟨_,rfl,_,_,_,[],[],[],f,?_,?_,?_,P.frame _,fun h=>by cases h⟩
 ·exact trodAll_cons_mk (shut_bool Tryz.underlying4 _) trodAll_mk0
 ·exact trodAll_cons_mk (shut_string Tryz.underlying9 q) (trodAll_cons_mk (shut_string Tryz.underlying9 r) (trodAll_cons_mk (shut_string Tryz.underlying9 w2) (trodAll_cons_mk (shut_string Tryz.underlying9 w3) (trodAll_cons_mk (shut_string Tryz.underlying9 w4) (trodAll_cons_mk (shut_string Tryz.underlying9 s) trodAll_mk0)))))
 ·rfl
theorem bJj:Rows.AllSaid:=
 OpenClaim.holds_of_wide 9 Tryz.f9 rfl rfl rfl rfl rfl rfl rfl ⟨rfl,rfl,rfl,rfl,rfl⟩ rfl rfl rfl rfl rfl (by kernel_rfl) Tryz.func9 (by kernel_rfl)
  (of_decide_eq_true (by kernel_rfl)) (by unfold Func.isWrapper;first|(rw[if_pos (by decide +kernel)];kernel_rfl)|(rw[if_neg (by decide +kernel)];exact⟨rfl,rfl⟩))
  (fun b c H a _=>bJi b c H a)
theorem all_holds:Rows.AllCardSaid:=
 Claim7.holds_tied_plain_at .later [] [.sentinel,.sentinel,.sentinel,.sentinel] true Rows.allCard.stood.harness true
  bJj (fun _ h=>by cases h) (by kernel_rfl) (fun _ h=>by cases h) all_row_tie rfl ⟨rfl,rfl⟩ (by kernel_rfl) rfl
  (fun f fn hf hfn=>by
   obtain rfl : f = 9 := Option.some.inj ((show Tryz.prog.funcNamed "lenses/lenseslaw.All" = some 9 by kernel_rfl).symm.trans hf) |>.symm
   obtain rfl:fn=Tryz.f9:=(Option.some.inj (Tryz.func9.symm.trans hfn)).symm;exact⟨by kernel_rfl,fun j t ht=>by
    rw[Tryz.params9]at ht;have hm:t∈[9,9,9,9,9,9]:=by simpa using Array.mem_of_getElem? ht
    have hall:([9,9,9,9,9,9].all fun u=>!Tryz.prog.wantsStandIn u)=true:=by kernel_rfl
    exact(show Tryz.prog.wantsStandIn t=false by simpa using List.all_eq_true.1 hall t hm)⟩) (by kernel_rfl)
end Go.Proofs.YtfklinjaajafgaaGreatDoor
