import Derived.Test.YtfklinjaajafgaaGreatDoorK09
import Derived.Test.YtfklinjaajafgaaGreatDoorK47
import Derived.Shelf.Strings.BuilderK
import Derived.Shelf.Strconv.Clone
set_option maxRecDepth 100000
set_option maxHeartbeats 4000000
namespace Go.Proofs.YtfklinjaajafgaaGreatDoor
open Ls
open Go.RowKit
variable {G G':Nat->Prop}{W w w':World}{b d:Ls.D}{nb:Nat}{v x y:Value}(a:Ls.D)(s:By)(a3:Addr)(t1 t2:TypeId)(y1 y2:Value)(n1 n2:Nat)
theorem fQb (w:World):Calls Tryz.prog 134 #[.bool true] w fun e w'=>e=.returned (.tuple #[])/\w'=w:=by
 go_enter Tryz.func134,Tryz.ntmps134;go_wp2;go_end0;exact⟨rfl,rfl⟩
theorem cQ8 (w:World)(a:Ce w 2 0 (C9 a3)) :
  Calls Tryz.prog 134 #[.bool false] w fun e w'=>e=.panicked [{v:=C9 a3,recovered:=false}]/\w'=w:=by
 go_enter Tryz.func134,Tryz.ntmps134;go_wp2;exact⟨rfl,rfl,rfl⟩
abbrev Gn (w:World)(G:Nat->Prop)(w':World):Nat->Prop:=fun k=>G k\/(w.heap.size<=k/\k<w'.heap.size)
structure Tx (w:World)(G:Nat->Prop)(v:Value)(nb:Nat)(d:Ls.D):Prop where
 rep:Rep w G 0 d [v]
 net:∃B P Q,NetL w B nb P Q (Ls.add d I7).1 (Ls.add d I7).2/\G nb/\(∀k,P.ownBlock=some k->G k)/\(∀k,Q.ownBlock=some k->G k)
theorem Tx.mono (b:∀k,G k->G' k)(c:∀k,G k->w'.heap[k]?=w.heap[k]?)(h:Tx w G v nb d):Tx w' G' v nb d:=by
 have⟨B,P,Q,i,e,f,g⟩:=h.net;exact⟨h.rep.mono b c,B,P,Q,i.same (c _ e) (fun k a=>c k (f k a)) (fun k a=>c k (g k a)),b _ e,fun k a=>b k (f k a),fun k a=>b k (g k a)⟩
theorem Tx.below (h:Tx w G v nb d)(a:Old w G)(b:Bw w w'):Tx w' G v nb d:=h.mono (fun _ h=>h) (fun k c=>b.block k (a k c))
theorem Tx.wd (h:Tx w G v nb d):Wd 0 d:=h.rep.wd
theorem Tx.nt (h:Tx w G v nb d)(_hG:Old w G)(f:dsize d<=24):∃P Q,Nt w w.heap.size nb P Q (Ls.add d I7).1 (Ls.add d I7).2:=by
 have⟨B,P,Q,a,e,g,i⟩:=h.net;have⟨b,c,_,_⟩:=bQw h.wd (n:=I7) rfl (by simp[I7];omega);exact⟨P,Q,a.nt b c⟩
theorem Gn.old (a:Old w G)(b:w.heap.size<=w'.heap.size):Old w' (Gn w G w'):=fun k c=>by
 rcases c with h|h
 ·exact Ll (a k h) b
 ·exact h.2
abbrev C8 (v:Value)(nb:Nat):Value:=.agg #[v,.pointer (some ⟨nb,0,none⟩)]
def TxPost (w:World)(G:Nat->Prop)(d:Ls.D):Ending->World->Prop:=fun e w'=>
 ∃ty y nb,e=.returned (C8 (.iface ty y) nb)/\Tx w' (Gn w G w') (.iface ty y) nb d/\Bw w w'
theorem aQ6 (d:Ls.D)(A:dn d<=1048576)(x:dsize d<=24)(w:World)(G:Nat->Prop)(i:Old w G)(b:TypeId)(y:Value)(h:Rep w G 0 d [.iface b y]) :
  Calls Tryz.prog 157 #[.iface b y] w (TxPost w G d):=by
 have j:=A5 w (.cells #[.nilIface,.pointer none] 92);have o:=Blk.new w #[.nilIface,.pointer none] 92;have E:(w.alloc (.cells #[.nilIface,.pointer none] 92)).heap.size=w.heap.size+1:=by simp
 have n:=oQ8 d _ G b y A x (fun k a=>Ll (i k a) j.size) (h.later i j);have r:Hid _:=h;have t:Hid (Blk (w.alloc (.cells #[.nilIface,.pointer none] 92)) w.heap.size #[.nilIface,.pointer none] 92):=o;have m:Hid _:=j;go_enter Tryz.func157,Tryz.ntmps157;go_wp2_with fail;refine n.mono ?_;generalize w.alloc (.cells #[.nilIface,.pointer none] 92)=u at *;rintro e g ⟨f,P,Q,rfl,c,l⟩;have F:=l.size;have p:=t.out.below l (by omega);have⟨B,C,I,s1⟩:=p.two;have s:Hid (Tx ((g.setCell ⟨w.heap.size,0,none⟩ (.iface b y)).setCell ⟨Hz w,1,none⟩ (Pt f)) (Gn w G ((g.setCell ⟨w.heap.size,0,none⟩ (.iface b y)).setCell ⟨w.heap.size,1,none⟩ (Pt f))) (.iface b y) f d):=by
  refine Tx.mono (w:=g) (G:=fun k=>G k\/(w.heap.size<k/\k<g.heap.size)) (fun k a=>?_) (fun k a=>L9 _ _ _ _ _ ?_) ⟨?_,u.heap.size,P,Q,c,?_,fun k a=>?_,fun k a=>?_⟩
  ·rcases a with h|h
   ·exact .inl h
   ·exact .inr ⟨by omega,by rw[X4];exact h.2⟩
  ·rcases a with h|h
   ·have:=i k h;omega
   ·omega
  ·exact r.out.mono (fun k a=>.inl a) (fun k a=>by
    have:=i k a;rw[l.block k (by omega)];exact m.out.block k this)
  ·exact .inr ⟨by have:=c.base;omega,c.lt⟩
  ·obtain⟨H,_,_,z⟩:=c.pls
   have:=z.lt k a;exact .inr ⟨by omega,this.2⟩
  ·have:=c.bhs.lt k a
   exact .inr ⟨by omega,this.2⟩
 have q:Hid (Bw w ((g.setCell ⟨w.heap.size,0,none⟩ (.iface b y)).setCell ⟨w.heap.size,1,none⟩ (Pt f))):=aQd (Bj m.out l) (Nat.le_refl _) _ _;clear p c;go_wp2_with fail;exact bodyPost_ret (v:=C8 (.iface b y) f) (by simp[results,Tryz.results157,go_sem,B,C]) rfl ⟨b,y,f,rfl,s.out,q.out⟩
theorem zQu (w:World) :
  Calls Tryz.prog 181 #[.iface t1 y1,.iface t2 y2] w fun e w'=>e=.returned (P5 (Sl w.heap.size 2 2))/\w'=w.alloc (.cells #[.iface t1 y1,.iface t2 y2] 89):=by
 go_enter Tryz.func181,Tryz.ntmps181;go_wp2;go_ret;exact⟨rfl,rfl⟩
theorem zQw (w:World) :
  Calls Tryz.prog 158 #[.iface t1 y1,.iface t2 y2] w fun e w'=>e=.returned (bQb (Sl w.heap.size 2 2))/\w'=w.alloc (.cells #[.iface t1 y1,.iface t2 y2] 89):=by
 go_enter Tryz.func158,Tryz.ntmps158;go_wp2;go_ret;exact⟨rfl,rfl⟩
theorem nQb (w:World)(x y:Value)(G:Nat->Prop)(b:G w.heap.size):Shows (w.alloc (.cells #[x,y] 89)) G (Sl w.heap.size 2 2) [x,y]:=⟨World.ownsRow_lit (e:=89) (size:=1) w #[x,y] 2 (Nat.zero_le _) (by unfold maxLen;omega) rfl,fun k a=>by
  simp[Value.ownBlock]at a;subst a;exact b⟩
theorem bXa (c:Old w G){a:Ls.D}(ha:Rep w G 0 a [x])(f:Rep w G 0 b [y]) :
  Rep (w.alloc (.cells #[x,y] 89)) (Gn w G (w.alloc (.cells #[x,y] 89))) 0 (fXi a b) [P5 (Sl w.heap.size 2 2)]:=by
 have d:=A5 w (.cells #[x,y] 89);have e:=(ha.later c d).mono (G':=Gn w G (w.alloc (.cells #[x,y] 89))) (fun _ h=>.inl h) (fun _ _=>rfl);have g:=(f.later c d).mono (G':=Gn w G (w.alloc (.cells #[x,y] 89))) (fun _ h=>.inl h) (fun _ _=>rfl);exact .row (nQb w x y _ (.inr ⟨Nr,by simp⟩)) (.rcons e (.rcons g .rnil))
theorem bXb (c:Old w G){a:Ls.D}(ha:Rep w G 0 a [x])(f:Rep w G 0 b [y]) :
  Rep (w.alloc (.cells #[x,y] 89)) (Gn w G (w.alloc (.cells #[x,y] 89))) 0 (fXv a b) [bQb (Sl w.heap.size 2 2)]:=by
 have d:=A5 w (.cells #[x,y] 89);have e:=(ha.later c d).mono (G':=Gn w G (w.alloc (.cells #[x,y] 89))) (fun _ h=>.inl h) (fun _ _=>rfl);have g:=(f.later c d).mono (G':=Gn w G (w.alloc (.cells #[x,y] 89))) (fun _ h=>.inl h) (fun _ _=>rfl);exact .choice (nQb w x y _ (.inr ⟨Nr,by simp⟩)) (.ccons e (.clast g))
def aQp (w:World)(G:Nat->Prop)(a3:Addr)(ok:Prop)(d:Ls.D):Ending->World->Prop:=fun e w'=>
 (ok/\TxPost w G d e w')\/(¬ok/\e=.panicked [{v:=C9 a3,recovered:=false}]/\Bw w w')
abbrev E2 (v:Value)(nb:Nat):Obj:=.cells #[v,.pointer (some ⟨nb,0,none⟩)] 92
abbrev O7:Obj:=.cells #[.nilIface,.pointer none] 92
abbrev EType (w:World)(a3:Addr):Prop:=Ce w 2 0 (C9 a3)
theorem EType.below {a:Addr}(h:EType w a)(b:Bw w w'):EType w' a:=
 (b.cell (p:=⟨2,0,none⟩) (World.block_lt_of_cell? w _ h)).trans h
theorem TxPost.up {b:World}{a:TypeId}{g:Nat}(l:Tx b G' (.iface a y) nb d)(e:∀k,G' k->k≠g/\(G k\/(w.heap.size<=k/\k<b.heap.size)))(i:Bw w b)(j:w.heap.size<=g)(f:W=(b.setCell ⟨g,0,none⟩ (.iface a y)).setCell ⟨g,1,none⟩ (Pt nb)) :
  TxPost w G d (.returned (C8 (.iface a y) nb)) W:=by
 subst f;refine⟨a,y,nb,rfl,l.mono (fun k c=>?_) (fun k c=>L9 _ _ _ _ _ (e k c).1),aQd i j _ _⟩;exact(e k c).2.imp id (fun h=>⟨h.1,by rw[X4];exact h.2⟩)
structure Vars3 (w W:World)(x1 x2:Value)(n1 n2:Nat):Prop where
 v1:Blk W w.heap.size #[x1,.pointer (some ⟨n1,0,none⟩)] 92
 v2:Blk W (w.heap.size+1) #[x2,.pointer (some ⟨n2,0,none⟩)] 92
 r:Blk W (w.heap.size+1+1) #[.nilIface,.pointer none] 92
theorem Vars3.start (w:World)(c d:Value)(a b:Nat):Vars3 w (((w.alloc (E2 c a)).alloc (E2 d b)).alloc O7) c d a b:=by
 refine⟨((Blk.new w _ _).of (Below.heap_alloc _ _ _ (by simp))).of (Below.heap_alloc _ _ _ (by simp;omega)),?_,?_⟩
 ·have:=Blk.new (w.alloc (E2 c a)) #[d,Pt b] 92
  rw[World.size_alloc]at this;exact this.of (Below.heap_alloc _ _ _ (by simp))
 ·have:=Blk.new ((w.alloc (E2 c a)).alloc (E2 d b)) #[.nilIface,.pointer none] 92
  rw[World.size_alloc,World.size_alloc]at this;exact this
theorem Vars3.below {b:World}{e f:Value}{c d:Nat}(h:Vars3 w W e f c d)(a:Bw W b):Vars3 w b e f c d:=⟨h.v1.below a h.v1.lt,h.v2.below a h.v2.lt,h.r.below a h.r.lt⟩
theorem eQa (b:Ls.D)(a5:dsize a+dsize b<=24)(hn:dn a+dn b<=100000)(w:World)(G:Nat->Prop)(f:Old w G)(hc:EType w a3)(i:Tx w G (.iface t1 y1) n1 a)(j:Tx w G (.iface t2 y2) n2 b) :
  Calls Tryz.prog 152 #[C8 (.iface t1 y1) n1,C8 (.iface t2 y2) n2] w (aQp w G a3 (¬fXb (eX5 a) (eX5 b)) (fXi a b)):=by
 have h:Bw w (((w.alloc (E2 (.iface t1 y1) n1)).alloc (E2 (.iface t2 y2) n2)).alloc O7):=Q0 w _ _ _;have a7:(((w.alloc (E2 (.iface t1 y1) n1)).alloc (E2 (.iface t2 y2) n2)).alloc O7).heap.size=w.heap.size+1+1+1:=by simp
 have l:=Vars3.start w (.iface t1 y1) (.iface t2 y2) n1 n2;have A:Old (((w.alloc (E2 (.iface t1 y1) n1)).alloc (E2 (.iface t2 y2) n2)).alloc O7) G:=fun k c=>Ll (f k c) h.size;have⟨a1,a2,L⟩:=(i.below f h).nt A (by omega);have⟨P',Q',M⟩:=(j.below f h).nt A (by omega);have K:=jQd _ n1 n2 a1 a2 P' Q' a b i.wd j.wd L M;have⟨n,o,p,q⟩:=l.v1.two;have⟨s,t,u,x⟩:=l.v2.two;have I:Hid (∀W,Bw w W->Tx W G (.iface t1 y1) n1 a/\Tx W G (.iface t2 y2) n2 b):=fun W O=>⟨i.below f O,j.below f O⟩;have Z:Hid _:=l;have V:Hid _:=h;go_enter Tryz.func152,Tryz.ntmps152;go_wp2_with fail;refine K.mono ?_;generalize ((w.alloc (E2 (.iface t1 y1) n1)).alloc (E2 (.iface t2 y2) n2)).alloc O7=W0 at *;rintro e U ⟨z,rfl,T,C⟩;have g:=Bj V.out C;have J:Hid (z=true↔¬fXb (eX5 a) (eX5 b)):=T;have a8:=C.size;clear T;cases z with
 | false=>
  have a6:=cQ8 a3 U (hc.below g);go_wp2_with fail;refine a6.mono ?_;rintro e d ⟨rfl,rfl⟩;go_wp2_with fail;exact⟨rfl,.inr ⟨fun a4=>(by have:=J.out.2 a4;cases this),rfl,g⟩⟩
 | true=>
  have m:=Z.out.below C;clear n o p q s t u x;have⟨n,o,p,q⟩:=m.v1.two;obtain⟨s,t,u,x⟩:=m.v2.two;have a0:Hid _:=m;clear m;go_wp2_with fail;refine(fQb U).mono ?_;rintro e d ⟨rfl,rfl⟩;go_wp2_with fail;refine(zQu t1 t2 y1 y2 d).mono ?_;rintro e w3 ⟨rfl,rfl⟩;have B:Old d G:=fun k c=>Ll (f k c) g.size;have E:=A5 d (.cells #[.iface t1 y1,.iface t2 y2] 89);have N:=aQ6 (fXi a b) (by rw[fXi,Y8,Y8,V5];omega) (by rw[hXp];exact a5) (d.alloc (.cells #[.iface t1 y1,.iface t2 y2] 89)) _ (Gn.old B E.size) _ _ (bXa B (I.out d g).1.rep (I.out d g).2.rep);have a9:(d.alloc (.cells #[.iface t1 y1,.iface t2 y2] 89)).heap.size=d.heap.size+1:=by simp
  have X:Hid _:=E;clear E B;go_wp2_with fail;refine N.mono ?_;clear N;generalize d.alloc (.cells #[.iface t1 y1,.iface t2 y2] 89)=w3 at *;rintro e w4 ⟨H,y,F,rfl,R,P⟩;have Q:=Bj X.out P;have S:=a0.out.below Q;obtain⟨r0,r1,s0,s1⟩:=S.r.two;have Y:Hid (TxPost w G (fXi a b) (.returned (C8 (.iface H y) F)) ((w4.setCell ⟨w.heap.size+1+1,0,none⟩ (.iface H y)).setCell ⟨w.heap.size+1+1,1,none⟩ (Pt F))):=by
   have b0:=P.size;refine TxPost.up R (fun k c=>?_) (Bj g Q) (by omega) rfl;rcases c with (c|c)|c
   ·have:=f k c;exact⟨by omega,.inl c⟩
   ·exact⟨by omega,.inr ⟨by omega,by omega⟩⟩
   ·exact⟨by omega,.inr ⟨by omega,by omega⟩⟩
  clear S R n o p q s t u x;go_wp2_with fail;exact bodyPost_ret (v:=C8 (.iface H y) F) (by simp[results,Tryz.results152,go_sem,r0,r1]) rfl (.inl ⟨J.out.1 (by simp),Y.out⟩)
theorem kQa (b:Ls.D)(Q:dsize a+dsize b<=24)(V:dn a+dn b<=100000)(w:World)(G:Nat->Prop)(g:Old w G)(p:Tx w G (.iface t1 y1) n1 a)(q:Tx w G (.iface t2 y2) n2 b) :
  Calls Tryz.prog 135 #[C8 (.iface t1 y1) n1,C8 (.iface t2 y2) n2] w (TxPost w G (fXv a b)):=by
 have u:Bw w (((w.alloc (E2 (.iface t1 y1) n1)).alloc (E2 (.iface t2 y2) n2)).alloc O7):=Q0 w _ _ _;have l:(((w.alloc (E2 (.iface t1 y1) n1)).alloc (E2 (.iface t2 y2) n2)).alloc O7).heap.size=w.heap.size+1+1+1:=by simp
 have h:=Vars3.start w (.iface t1 y1) (.iface t2 y2) n1 n2;have⟨I,J,K,L⟩:=h.v1.two;have⟨M,N,O,P⟩:=h.v2.two;have o:Hid (∀W,Bw w W->Tx W G (.iface t1 y1) n1 a/\Tx W G (.iface t2 y2) n2 b):=fun W t=>⟨p.below g t,q.below g t⟩;have H:Hid _:=l;have F:Hid _:=h;have f:Hid _:=u;clear p q h u l;go_enter Tryz.func135,Tryz.ntmps135;go_wp2_with fail;generalize ((w.alloc (E2 (.iface t1 y1) n1)).alloc (E2 (.iface t2 y2) n2)).alloc O7=c at *;refine(zQw t1 t2 y1 y2 c).mono ?_;rintro e T ⟨rfl,rfl⟩;have i:Old c G:=fun k d=>Ll (g k d) f.out.size;have j:=A5 c (.cells #[.iface t1 y1,.iface t2 y2] 89);have s:=aQ6 (fXv a b) (by rw[fXv,bQ1,bQ2];omega) (by rw[hXq];exact Q) (c.alloc (.cells #[.iface t1 y1,.iface t2 y2] 89)) _ (Gn.old i j.size) _ _ (bXb i (o.out c f.out).1.rep (o.out c f.out).2.rep);have X:(c.alloc (.cells #[.iface t1 y1,.iface t2 y2] 89)).heap.size=c.heap.size+1:=by simp
 have C:Hid _:=j;go_wp2_with fail;refine s.mono ?_;clear s;generalize c.alloc (.cells #[.iface t1 y1,.iface t2 y2] 89)=T at *;rintro e U ⟨n,y,m,rfl,A,x⟩;have z:=Bj C.out x;have B:=F.out.below z;have⟨R,S,Z,s1⟩:=B.r.two;have E:Hid (TxPost w G (fXv a b) (.returned (C8 (.iface n y) m)) ((U.setCell ⟨w.heap.size+1+1,0,none⟩ (.iface n y)).setCell ⟨w.heap.size+1+1,1,none⟩ (Pt m))):=by
  have Y:=x.size;have l:=H.out;refine TxPost.up A (fun k d=>?_) (Bj f.out z) (by omega) rfl;rcases d with (d|d)|d
  ·have:=g k d;exact⟨by omega,.inl d⟩
  ·exact⟨by omega,.inr ⟨by omega,by omega⟩⟩
  ·exact⟨by omega,.inr ⟨by omega,by omega⟩⟩
 clear B A I J K L M N O P;go_wp2_with fail;exact bodyPost_ret (v:=C8 (.iface n y) m) (by simp[results,Tryz.results135,go_sem,R,S]) rfl E.out
theorem cQ6 (h:Tx w G v nb d)(j:dsize d<=24)(hs:s.size<=1048576) :
  Calls Tryz.prog 83 #[Pt nb,.string s] w fun e w'=>∃b:Bool,e=.returned (.bool b)/\(b=true↔inL (eX5 d) s.data.toList)/\Bw w w':=by
 have⟨B,P,Q,a,_⟩:=h.net;have⟨g,i,_,_⟩:=bQw h.wd (n:=I7) rfl (by simp[I7];omega);refine(oQ6 w B nb P _ Q s _ a g i hs).mono ?_;rintro e w' ⟨b,rfl,c,f⟩;exact⟨b,rfl,c.trans (lQc h.wd _),f⟩
theorem lQo (E:dsize a<=24)(hn:dn a<=100000)(w:World)(G:Nat->Prop)(i:Old w G)(hc:EType w a3)(h1:Tx w G (.iface t1 y1) n1 a) :
  Calls Tryz.prog 193 #[C8 (.iface t1 y1) n1] w (aQp w G a3 (¬inL (eX5 a) []/\¬fXb (eX5 a) (eX5 (Ls.rep 5 a))) (Ls.rep 5 a)):=by
 have F:Bw w ((w.alloc (E2 (.iface t1 y1) n1)).alloc O7):=C6 w _ _;have c0:((w.alloc (E2 (.iface t1 y1) n1)).alloc O7).heap.size=w.heap.size+1+1:=by simp
 have S:Blk ((w.alloc (E2 (.iface t1 y1) n1)).alloc O7) (Hz w) #[.iface t1 y1,Pt n1] 92:=(Blk.new w _ _).of (Below.heap_alloc _ _ _ (by simp));have hr:Blk ((w.alloc (E2 (.iface t1 y1) n1)).alloc O7) (Hz w+1) #[.nilIface,.pointer none] 92:=by
  have:=Blk.new (w.alloc (E2 (.iface t1 y1) n1)) #[.nilIface,.pointer none] 92;rw[World.size_alloc]at this;exact this
 have hO:Old ((w.alloc (E2 (.iface t1 y1) n1)).alloc O7) G:=fun k c=>Ll (i k c) F.size;have t:Hid (∀W,Bw w W->Tx W G (.iface t1 y1) n1 a):=fun W hW=>h1.below i hW;have a2:=aQ6 (Ls.rep 5 a) (by rw[aQw];omega) (by rw[fX5];exact E) _ G hO _ _ (Rep.rep (.inl rfl) (t.out _ F).rep);have⟨n,o,p,q⟩:=S.two;have HV:Hid (Blk ((w.alloc (E2 (.iface t1 y1) n1)).alloc O7) w.heap.size #[.iface t1 y1,Pt n1] 92):=S;have b4:Hid (Blk ((w.alloc (E2 (.iface t1 y1) n1)).alloc O7) (w.heap.size+1) #[.nilIface,.pointer none] 92):=hr;have V:Hid _:=F;clear h1 S hr F hO;go_enter Tryz.func193,Tryz.ntmps193;go_wp2_with fail;refine(lQn t1 y1 _).mono ?_;rintro e w0 ⟨rfl,rfl⟩;go_wp2_with fail;refine a2.mono ?_;clear a2;generalize (w.alloc (E2 (.iface t1 y1) n1)).alloc O7=Z at *;rintro e g ⟨f,y,d,rfl,ht,H⟩;have b7:=Bj V.out H;have r:=A5 g (E2 (.iface f y) d);have U:Blk (g.alloc (E2 (.iface f y) d)) g.heap.size #[.iface f y,Pt d] 92:=Blk.new g _ _;have b8:=H.size;have c1:(g.alloc (E2 (.iface f y) d)).heap.size=g.heap.size+1:=by simp
 have Q:=Bj b7 r;have T:=HV.out.below (Bj H r) (by omega);have a5:=b4.out.below (Bj H r) (by omega);have a7:=ht.below (Gn.old (fun k c=>Ll (i k c) V.out.size) b8) r;clear n o p q ht r;go_upto_region 2 with (fail);generalize g.alloc (E2 (.iface f y) d)=m at *;obtain⟨n,o,p,q⟩:=T.two;obtain⟨z,A,B,C⟩:=U.two;have Y:Hid (Blk m w.heap.size #[.iface t1 y1,Pt n1] 92):=T;have u:Hid (Blk m g.heap.size #[.iface f y,Pt d] 92):=U;have X:Hid (Blk m (w.heap.size+1) #[.nilIface,.pointer none] 92):=a5;have M:Hid (Tx m (Gn Z G g) (.iface f y) d (Ls.rep 5 a)):=a7;have L:Hid (Old m (Gn Z G g)):=fun k c=>by
  rcases c with h|h
  ·exact Ll (i k h) Q.size
  ·have:=h.2;omega
 have hM:=cQ6 ⟨#[]⟩ (t.out m Q) E (by decide);clear T U a5 a7;go_wp2_with fail;refine hM.mono ?_;clear hM;rintro e I ⟨b,rfl,a4,j⟩;have s:Hid (b=true↔inL (eX5 a) []):=a4;have l:=Bj Q j;have b9:=j.size;have a8:=Y.out.below j Y.out.lt;have a9:=u.out.below j u.out.lt;clear a4 n o p q z A B C;cases b with
 | true=>
  have K:Hid (¬(¬inL (eX5 a) []/\¬fXb (eX5 a) (eX5 (Ls.rep 5 a)))):=fun h=>h.1 (s.out.1 (by simp));have N:=cQ8 a3 I (hc.below l);clear s;go_wp2_with fail;refine N.mono ?_;rintro e J ⟨rfl,rfl⟩;go_wp2_with fail;exact⟨rfl,.inr ⟨K.out,rfl,l⟩⟩
 | false=>
  have K:Hid (¬inL (eX5 a) []):=fun h=>(by have:=s.out.2 h;cases this);obtain⟨n,o,p,q⟩:=a8.two;obtain⟨z,A,B,C⟩:=a9.two;obtain⟨b5,b6,a0⟩:=(t.out I l).nt (fun k c=>Ll (i k c) l.size) E;obtain⟨P',Q',a1⟩:=(M.out.below L.out j).nt (fun k c=>Ll (L.out k c) b9) (by rw[fX5];exact E);have hK:=jQd I n1 d b5 b6 P' Q' a (Ls.rep 5 a) (t.out I l).wd M.out.wd a0 a1;clear s a0 a1 a8 a9;go_wp2_with fail;refine hK.mono ?_;clear hK;rintro e J ⟨b1,rfl,hz,P⟩;have x:Hid (b1=true↔¬fXb (eX5 a) (eX5 (Ls.rep 5 a))):=hz;have R:=Bj l P;clear hz;cases b1 with
  | false=>
   have b2:Hid (¬(¬inL (eX5 a) []/\¬fXb (eX5 a) (eX5 (Ls.rep 5 a)))):=fun h=>(by have:=x.out.2 h.2;cases this);have N:=cQ8 a3 J (hc.below R);clear x;go_wp2_with fail;refine N.mono ?_;rintro e w5 ⟨rfl,rfl⟩;go_wp2_with fail;exact⟨rfl,.inr ⟨b2.out,rfl,R⟩⟩
  | true=>
   have b3:Hid (¬inL (eX5 a) []/\¬fXb (eX5 a) (eX5 (Ls.rep 5 a))):=⟨K.out,x.out.1 (by simp)⟩;have O:=Bj j P;have b0:=u.out.below O u.out.lt;have a6:=X.out.below O X.out.lt;clear n o p q z A B C x;obtain⟨z,A,B,C⟩:=b0.two;obtain⟨r0,r1,s0,s1⟩:=a6.two;have HP:Hid (TxPost w G (Ls.rep 5 a) (.returned (C8 (.iface f y) d)) ((J.setCell ⟨w.heap.size+1,0,none⟩ (.iface f y)).setCell ⟨w.heap.size+1,1,none⟩ (Pt d))):=by
    have c2:=P.size;refine TxPost.up (M.out.below L.out O) (fun k c=>?_) R (by omega) rfl;rcases c with c|c
    ·have:=i k c;exact⟨by omega,.inl c⟩
    ·exact⟨by omega,.inr ⟨by omega,by omega⟩⟩
   clear b0 a6;go_wp2_with fail;refine(fQb J).mono ?_;rintro e w5 ⟨rfl,rfl⟩;go_wp2_with fail;exact bodyPost_ret (v:=C8 (.iface f y) d) (by simp[results,Tryz.results193,go_sem,r0,r1]) rfl (.inl ⟨b3.out,HP.out⟩)
theorem Parts.below {d:World}{l:List Ls.D}{c:List Value}(h:Parts d w v l c)(b:Bw w w'):Parts d w' v l c:=by
 refine⟨h.own.kept (L5 b none) ?_,h.each.mono (fun k a=>⟨a.1,Ll a.2.1 b.size,a.2.2⟩) (fun k a=>b.block k a.2.1)⟩;cases e:v.ownBlock with
 | none=>exact .inl rfl
 | some k=>exact .inr (by simp)
theorem eXm (l:Lu):iXg l=(l.map fun c=>Ls.place [c]).foldr rcons rnil:=by
 induction l with
 | nil=>rfl
 | cons c l a=>rw[iXg,a];rfl
theorem lQ5 (hs:s.size<=120)(o:∀c∈s.data.toList,c.toNat<=126)(w:World) :
  Calls Tryz.prog 203 #[.string s] w fun e w'=>∃K,e=.returned (P5 K)/\Rep w' (B8 w w') 0 (iXg s.data.toList) [P5 K]/\Bw w w':=by
 have a4:Hid _:=o;have P:Hid (∀k (h:k<s.size),(Dl s).take (k+1)=(Dl s).take k++[s[k]]):=fun k h=>by
  have:=List.take_succ_eq_append_getElem (l:=Dl s) (i:=k) (by simpa using h);rw[this];rfl
 have M:Hid (∀k (h:k<s.size),s[k].toNat<=126):=fun k h=>o _ (by
  have:s[k]=s.data.toList[k]'(by simpa using h):=rfl;rw[this];exact List.getElem_mem _)
 have L:Hid ((Dl s).length=s.size):=by show _=_;simp
 have⟨a2,V,W,X,Y⟩:=info_parts gQ8;go_enter Tryz.func203,Tryz.ntmps203;go_wp2;go_loopw [3,7] (fun a3 t wr=>∃(k:Nat) (b:List Value),k<=s.size/\t=Iv k/\Bw w wr/\b.length=k/\Parts w wr a3 (((Dl s).take k).map fun c=>Ls.place [c]) b) (fun _ t _=>s.size-(intOf t).toNat)
 ·exact⟨0,[],Nat.zero_le _,rfl,Br,rfl,Parts.nil _ _⟩
 ·
  obtain⟨k,b,hk,rfl,z,E,p⟩:=hrel;obtain⟨f,g,j,rfl⟩:=p.slice;have r:Hid _:=p
  by_cases F:k<s.size
  ·have a5:(0:Int)<=(k:Int):=by omega
   have Z:(k:Int)<(s.size:Int):=by omega
   have v:=lQ0 s[k] wr (M.out k F);have Q:Hid _:=P.out k F;go_wp2_with fail;refine v.mono ?_;generalize s[k]=c at *;rintro e d ⟨⟨lo,a,rfl,x⟩,y⟩;have A:=Bj z y;have a0:=A.size;have q:=(r.out.below y).alloc (.cells #[K3 lo a] 89);have C:Rep (d.alloc (.cells #[K3 lo a] 89)) (S7 w (d.alloc (.cells #[K3 lo a] 89)) (.slice f g j)) 0 (Ls.place [c]) [K3 lo a]:=.place x;have n:=q.own;have B:=bQa d (K3 lo a) 89;have S:Hid _:=q;have R:Hid _:=C;go_wp2_with (at_builtin;refine P8 _ rfl _ _ 182 rfl w.heap.size 89 a2 _ 1 16 Tryz.underlying182 V W X Y rfl (by omega) (.slice f g j) b.length b rfl n ⟨Hz d,0,none⟩ 1 1 [K3 lo a] rfl ?l1 B ?l0 ?l2 ?l3 ?l4 ?l5 ?_)
   case l1=>rfl
   case l0=>intro a6 I;simp at I;subst I;rfl
   case l2=>unfold maxLen;omega
   case l3=>omega
   case l4=>simp;omega
   case l5=>omega
   intro v' w' G m J;have T:=(A.alloc a0 (.cells #[K3 lo a] 89)).grown m (by simp;omega) (fun a1 e=>(n.lt a1 e).1);have N:Hid (Parts w w' v' (((Dl s).take (k+1)).map fun c=>Ls.place [c]) (b++[K3 lo a])):=by
    show Parts _ _ _ _ _;rw[Q.out,List.map_append];exact S.out.push R.out m (by rw[E];exact G) (by simpa using J)
   go_wp2;go_roundw
   ·exact⟨k+1,b++[K3 lo a],by omega,by go_num,T,by simp[E],N.out⟩
   ·simp[intOf];omega
  ·have Z:¬(k:Int)<(s.size:Int):=by omega
   have U:k=s.size:=by omega
   have O:Hid (Rep wr (B8 w wr) 0 (iXg (Dl s)) [P5 (.slice f g j)]):=by
    have H:=r.out.shows;show Rep _ _ _ _ _;rw[eXm];have u:=H.2.row;rw[List.take_of_length_le (by rw[L.out];omega)]at u;exact .row H.1 u
   go_wp2;go_ret;exact⟨_,rfl,O.out,z⟩
variable (n1:Nat)(s:By)(n2:Nat)(w:World)
theorem uQq:s.extract 0 s.size=s:=by
 apply ByteArray.ext
 rw[ByteArray.data_extract];exact Array.extract_size
theorem uQs:s.extract s.size s.size=⟨#[]⟩:=by
 apply ByteArray.ext
 rw[ByteArray.data_extract];simp
theorem tQv (hs:s.size<=1048576)(A B:Nat->Prop)(i:Nat)(I:i<=s.size)(u:∀k,k<i->A k->B k->False)(q:i<s.size->A i/\B i)
  (o:∀W k,k<=s.size->Bw w W->Calls Tryz.prog 83 #[Pt n1,.string (s.extract 0 k)] W fun e c=>∃b:Bool,e=.returned (.bool b)/\(b=true↔A k)/\Bw W c)
  (p:∀W k,k<=s.size->Bw w W->Calls Tryz.prog 83 #[Pt n2,.string (s.extract k s.size)] W fun e c=>∃b:Bool,e=.returned (.bool b)/\(b=true↔B k)/\Bw W c) :
  Calls Tryz.prog 182 #[Pt n1,Pt n2,.string s] w fun e c=>e=.returned (.tuple #[.string (s.extract 0 i),.string (s.extract i s.size)])/\Bw w c:=by
 have x:Hid _:=o;have y:Hid _:=p;have C:Hid _:=u;have n:Hid _:=q;go_enter Tryz.func182,Tryz.ntmps182;go_wp2;go_loopw [11] (fun t wr=>∃k:Nat,k<=i/\t=Iv k/\Bw w wr) (fun t _=>s.size-(intOf t).toNat)
 ·exact⟨0,Nat.zero_le _,rfl,Br⟩
 ·
  obtain⟨k,J,rfl,l⟩:=hrel
  by_cases v:k<s.size
  ·have G:(k:Int)<(s.size:Int):=by omega
   have K:(0:Int)<=(k:Int):=by omega
   have L:(k:Int)<=(s.size:Int):=by omega
   have f:=x.out wr k (by omega) l;go_wp2_with fail;refine f.mono ?_;rintro e H ⟨b,rfl,g,E⟩;have a:Hid _:=g;have m:=Bj l E;clear g;cases b with
   | false=>
    have j:Hid (¬A k):=fun h=>(by have:=a.out.2 h;cases this);have d:Hid (k≠i):=fun e=>j.out (by subst e;exact(n.out v).1);clear a;go_wp2_with fail;go_roundw
    ·exact⟨k+1,by have:=d.out;omega,by go_num,m⟩
    ·simp[intOf];omega
   | true=>
    have z:Hid (A k):=a.out.1 rfl;have f:=y.out H k (by omega) m;clear a;go_wp2_with fail;refine f.mono ?_;clear f;rintro e M ⟨b,rfl,g,F⟩;have a:Hid (b=true↔B k):=g;have r:=Bj m F;clear g;cases b with
    | false=>
     have j:Hid (¬B k):=fun h=>(by have:=a.out.2 h;cases this);have d:Hid (k≠i):=fun e=>j.out (by subst e;exact(n.out v).2);clear a;go_wp2_with fail;go_roundw
     ·exact⟨k+1,by have:=d.out;omega,by go_num,r⟩
     ·simp[intOf];omega
    | true=>
     have d:Hid (k=i):=by
      show k=i;rcases Nat.lt_or_ge k i with h|h
      ·exact absurd (C.out k h z.out (a.out.1 rfl)) (by simp)
      ·omega
     clear a;go_wp2_with fail;go_region
     all_goals
      go_wp2_with fail;go_ret2;exact⟨by rw[d.out];rfl,Bj r Br.drew⟩
  ·have G:¬(k:Int)<(s.size:Int):=by omega
   have d:Hid (i=s.size):=by show i=s.size;omega
   go_wp2_with fail;go_ret2;exact⟨by rw[d.out,uQq,uQs];rfl,l⟩
theorem vQs:(Tryz.prog.info? 9).map (fun i=>(i.zero,i.size,i.bytes))=some (some (.string ⟨#[]⟩),1,16):=by kernel_rfl
theorem dQj {w:World}{b:Nat}{e:TypeId}{d:Nat}{v:Value}{n:Nat}{f:List Value}(h:w.ownsRow b e d v n f):∃a k c,v=.slice a k c:=by
 rcases h.2 with⟨rfl,_⟩|⟨g,i,j,rfl,_⟩
 ·exact⟨_,_,_,rfl⟩
 ·exact⟨_,_,_,rfl⟩
abbrev A4 (x:Lu):Value:=.string ⟨x.toArray⟩
def dQp:Value->Nat
 | .string t=>t.size
 | _=>0
theorem nQw (x:Lu):dQp (A4 x)=x.length:=by simp[dQp,ByteArray.size]
theorem zQx (a:List (Lu))(C:∀x,x∈a->x≠[])(a0:a.length<=1048576)
  (p:∀W j (B:j<a.length),Bw w W->Calls Tryz.prog 182 #[Pt n1,Pt n2,A4 (a.drop j).flatten] W (Rt (.tuple #[A4 a[j],A4 (a.drop (j+1)).flatten]) W)) :
  Calls Tryz.prog 211 #[Pt n1,Pt n2,A4 a.flatten] w fun e b=>∃v,e=.returned v/\b.ownsRow w.heap.size 9 1 v a.length (a.map A4)/\Bw w b:=by
 have I:Hid _:=p;have L:Hid _:=C;have⟨q,S,T,U,V⟩:=info_parts vQs;go_enter Tryz.func211,Tryz.ntmps211;go_wp2;go_loopw [7,8] (fun Z o wr=>∃j:Nat,j<=a.length/\o=A4 (a.drop j).flatten/\wr.ownsRow (Hz w) 9 1 Z j ((a.take j).map A4)/\Bw w wr) (fun _ o _=>(dQp o))
 ·exact⟨0,Nat.zero_le _,rfl,World.ownsRow_nil _ _ _ _,Br⟩
 ·
  obtain⟨j,B,rfl,n,i⟩:=hrel;obtain⟨c,d,f,rfl⟩:=dQj n;have g:Hid (wr.ownsRow (Hz w) 9 1 (.slice c d f) j ((a.take j).map A4)):=n
  by_cases k:j<a.length
  ·have t:=I.out wr j k i
   have r:Hid ((a.drop j).flatten=a[j]++(a.drop (j+1)).flatten):=by
    show _=_;rw[List.drop_eq_getElem_cons k,List.flatten_cons]
   have O:Hid _:=List.take_succ_eq_append_getElem k;have s:Hid (a[j]≠[]):=L.out _ (List.getElem_mem _);have N:Hid ((a.drop j).flatten≠[]):=by
    intro e;rw[r.out]at e;exact s.out (List.append_eq_nil_iff.1 e).1
   have K:Hid (dQp (A4 (a.drop (j+1)).flatten)<dQp (A4 (a.drop j).flatten)):=by
    show _<_;rw[nQw,nQw,r.out,List.length_append];have:=List.length_pos_iff.2 s.out;omega
   have R:(a.drop j).flatten.isEmpty=false:=by rw[List.isEmpty_eq_false_iff];exact N.out
   generalize a[j]=x at *;generalize (a.drop j).flatten=r1 at *;generalize F:(a.drop (j+1)).flatten=r2 at *;have M:Hid (r2=(a.drop (j+1)).flatten):=F.symm;clear F;go_wp2_with fail;refine t.mono ?_;clear t;rintro e H ⟨rfl,u⟩;have y:=Bj i u;have Y:=y.size;have l:=(g.out.kept (L5 u none) (by
    cases hv:(Value.slice c d f).ownBlock with
    | none=>exact .inl rfl
    | some m=>exact .inr (by simp))).alloc (.cells #[A4 x] 9)
   have z:=bQa H (A4 x) 9;go_wp2_with (at_builtin;refine P8 _ rfl _ _ 41 rfl w.heap.size 9 q _ 1 16 Tryz.underlying41 S T U V rfl (by omega) (.slice c d f) j ((a.take j).map A4) rfl l ⟨Hz H,0,none⟩ 1 1 [A4 x] rfl ?l1 z ?l0 ?l2 ?l3 ?l4 ?l5 ?_)
   case l1=>rfl
   case l0=>intro a1 G;simp at G;subst G;rfl
   case l2=>unfold maxLen;omega
   case l3=>omega
   case l4=>simp;omega
   case l5=>omega
   intro v' b E A X;have P:Bw w b:=(y.alloc Y (.cells #[A4 x] 9)).grown A (by simp;omega) (fun m e=>(l.lt m e).1);have h:Hid (b.ownsRow (Hz w) 9 1 v' (j+1) ((a.take (j+1)).map A4)):=by
    show World.ownsRow _ _ _ _ _ _ _;rw[O.out,List.map_append,List.map_take];exact E
   clear A E X l z g;go_wp2_with fail;go_roundw
   ·exact⟨j+1,by omega,by rw[M.out],h.out,P⟩
   ·exact K.out
  ·have Q:j=a.length:=by omega
   subst Q;have J:Hid ((a.drop a.length).flatten=[]):=by show _=_;simp
   have h:Hid (wr.ownsRow (Hz w) 9 1 (.slice c d f) a.length (a.map A4)):=by
    have:=g.out;rw[List.take_of_length_le Nr]at this;exact this
   have R:(a.drop a.length).flatten.isEmpty=true:=by rw[J.out];rfl
   generalize (a.drop a.length).flatten=r1 at *;go_wp2_with fail;go_ret;exact⟨_,rfl,h.out,i⟩
end Go.Proofs.YtfklinjaajafgaaGreatDoor
namespace Go.Proofs
open Go.Shelf
def Tryz.lays169_ren:Go.Shelf.Ren:=⟨fun|169=>210|n=>n,fun|70=>241|9=>9|0=>0|72=>243|37=>105|127=>176|3=>3|5=>5|n=>n,fun|n=>n⟩
theorem Tryz.lays169:Go.Proofs.Lays.n169 Tryz.prog Tryz.lays169_ren:={
 mixed:=by kernel_rfl
 f169:=Tryz.func210.trans (congrArg some (by kernel_rfl))
 t0:=Tryz.underlying0
 a0:=Tryz.isAgg0
 z0:=Tryz.sizeOf0
 v0:=Tryz.zeroValue0
 t3:=Tryz.underlying3
 a3:=Tryz.isAgg3
 z3:=Tryz.sizeOf3
 v3:=Tryz.zeroValue3
 t9:=Tryz.underlying9
 a9:=Tryz.isAgg9
 z9:=Tryz.sizeOf9
 v9:=Tryz.zeroValue9
 t37:=Tryz.underlying105
 a37:=Tryz.isAgg105
 z37:=Tryz.sizeOf105
 v37:=Tryz.zeroValue105
 t70:=Tryz.underlying241
 a70:=Tryz.isAgg241
 z70:=Tryz.sizeOf241
 v70:=Tryz.zeroValue241
 t72:=Tryz.underlying243
 a72:=Tryz.isAgg243
 z72:=Tryz.sizeOf243
 v72:=Tryz.zeroValue243
 t127:=Tryz.underlying176
 a127:=Tryz.isAgg176
 z127:=Tryz.sizeOf176
 v127:=Tryz.zeroValue176}
theorem Tryz.Builder_Extra_169:Builder.Extra Tryz.prog Tryz.lays169_ren:={
 sizeBuilder:=by kernel_rfl
 liesBuilder:=by kernel_rfl
 t5:=Tryz.underlying5
 a5:=Tryz.isAgg5
 z5:=Tryz.sizeOf5
 v5:=Tryz.zeroValue5
 infoByte:=by kernel_rfl
 cellsByte:=by kernel_rfl
 sizeByte:=by kernel_rfl
 neB5:=by decide}
open Go.RowKit in
theorem Tryz.Builder_String_any_k (B b:Nat)(l:List UInt8)(w:World)(h:Lib.IsBuilderF 243 5 B b (Lib.byteCells l) w)(c:B<=w.heap.size) :
  Calls Tryz.prog 210 #[.pointer (some ⟨b,0,none⟩)] w fun e a=>e=.returned (.string ⟨l.toArray⟩)/\(Lib.IsBuilderF 243 5 B b (Lib.byteCells l) a/\Below B w a/\Lib.OthersKept 5 (some b) w a):=Any.Builder_String_any_k Tryz.lays169 Tryz.Builder_Extra_169 B b l w h c
def Tryz.laysM316_ren:Go.Shelf.Ren:=⟨fun|316=>87|n=>n,fun|9=>9|3=>3|4=>4|37=>105|0=>0|127=>176|5=>5|n=>n,fun|n=>n⟩
theorem Tryz.laysM316:Go.Proofs.LaysM.n316 Tryz.prog Tryz.laysM316_ren:={
 mixed:=by kernel_rfl
 f316:=Tryz.func87.trans (congrArg some (by kernel_rfl))
 t0:=Tryz.underlying0
 a0:=Tryz.isAgg0
 z0:=Tryz.sizeOf0
 v0:=Tryz.zeroValue0
 t3:=Tryz.underlying3
 a3:=Tryz.isAgg3
 z3:=Tryz.sizeOf3
 v3:=Tryz.zeroValue3
 t4:=Tryz.underlying4
 a4:=Tryz.isAgg4
 z4:=Tryz.sizeOf4
 v4:=Tryz.zeroValue4
 t9:=Tryz.underlying9
 a9:=Tryz.isAgg9
 z9:=Tryz.sizeOf9
 v9:=Tryz.zeroValue9
 t37:=Tryz.underlying105
 a37:=Tryz.isAgg105
 z37:=Tryz.sizeOf105
 v37:=Tryz.zeroValue105
 t127:=Tryz.underlying176
 a127:=Tryz.isAgg176
 z127:=Tryz.sizeOf176
 v127:=Tryz.zeroValue176
 t5:=Tryz.underlying5
 a5:=Tryz.isAgg5
 z5:=Tryz.sizeOf5
 v5:=Tryz.zeroValue5
 i0:=by kernel_rfl
 i3:=by kernel_rfl
 i4:=by kernel_rfl
 i5:=by kernel_rfl
 i9:=by kernel_rfl
 i37:=by kernel_rfl
 i127:=by kernel_rfl}
open Go.RowKit in
theorem Tryz.stringslite_Clone (s:ByteArray)(w:World)(a:s.size<=281474976710656) :
  Calls Tryz.prog 87 #[.string s] w fun e b=>e=.returned (.string s)/\Below w.heap.size w b:=Any.stringslite_Clone Tryz.laysM316 s w a
def Tryz.lays166_ren:Go.Shelf.Ren:=⟨fun|166=>209|240=>214|276=>215|n=>n,fun|0=>0|3=>3|4=>4|9=>9|20=>20|37=>105|70=>241|72=>243|75=>80|164=>249|5=>5|80=>205|n=>n,fun|n=>n⟩
theorem Tryz.lays166:Go.Proofs.Lays.n166 Tryz.prog Tryz.lays166_ren:={
 mixed:=by kernel_rfl
 f166:=Tryz.func209.trans (congrArg some (by kernel_rfl))
 f240:=Tryz.func214.trans (congrArg some (by kernel_rfl))
 f276:=Tryz.func215.trans (congrArg some (by kernel_rfl))
 t0:=Tryz.underlying0
 a0:=Tryz.isAgg0
 z0:=Tryz.sizeOf0
 v0:=Tryz.zeroValue0
 t3:=Tryz.underlying3
 a3:=Tryz.isAgg3
 z3:=Tryz.sizeOf3
 v3:=Tryz.zeroValue3
 t4:=Tryz.underlying4
 a4:=Tryz.isAgg4
 z4:=Tryz.sizeOf4
 v4:=Tryz.zeroValue4
 t9:=Tryz.underlying9
 a9:=Tryz.isAgg9
 z9:=Tryz.sizeOf9
 v9:=Tryz.zeroValue9
 t20:=Tryz.underlying20
 a20:=Tryz.isAgg20
 z20:=Tryz.sizeOf20
 v20:=Tryz.zeroValue20
 t37:=Tryz.underlying105
 a37:=Tryz.isAgg105
 z37:=Tryz.sizeOf105
 v37:=Tryz.zeroValue105
 t70:=Tryz.underlying241
 a70:=Tryz.isAgg241
 z70:=Tryz.sizeOf241
 v70:=Tryz.zeroValue241
 t72:=Tryz.underlying243
 a72:=Tryz.isAgg243
 z72:=Tryz.sizeOf243
 v72:=Tryz.zeroValue243
 t75:=Tryz.underlying80
 a75:=Tryz.isAgg80
 z75:=Tryz.sizeOf80
 v75:=Tryz.zeroValue80
 t164:=Tryz.underlying249
 a164:=Tryz.isAgg249
 z164:=Tryz.sizeOf249
 v164:=Tryz.zeroValue249}
theorem Tryz.Builder_Extra_166:Builder.Extra Tryz.prog Tryz.lays166_ren:={
 sizeBuilder:=by kernel_rfl
 liesBuilder:=by kernel_rfl
 t5:=Tryz.underlying5
 a5:=Tryz.isAgg5
 z5:=Tryz.sizeOf5
 v5:=Tryz.zeroValue5
 infoByte:=by kernel_rfl
 cellsByte:=by kernel_rfl
 sizeByte:=by kernel_rfl
 neB5:=by decide}
open Go.RowKit in
theorem Tryz.Builder_WriteString_k (B b:Nat)(a:List Value)(s:ByteArray)(w:World)(h:Lib.IsBuilderF 243 5 B b a w)(f:a.length+s.size<=140737488355328)(d:B<=w.heap.size) :
  Calls Tryz.prog 209 #[.pointer (some ⟨b,0,none⟩),.string s] w fun e c=>e=.returned (.tuple #[.int .i64 s.size,.nilIface])/\(Lib.BuilderAtF 243 5 B b (.pointer (some ⟨b,0,none⟩)) (a++Lib.strCells s) c/\Below B w c/\Lib.OthersKept 5 (some b) w c):=
 Any.Builder_WriteString_k Tryz.lays166 Tryz.Builder_Extra_166 B b a s w h f d
end Go.Proofs
namespace Go.Proofs.YtfklinjaajafgaaGreatDoor
open Ls
open Go.RowKit
variable {B n1 n2:Nat}{G G' S:Nat->Prop}{T e t1 t2:TypeId}{a:Ls.D}{b x1 x2 y1 y2:Value}{p q:Lu->Prop}{u v:Lu}{val:Lu->Lu->Lu}{w w':World}(l:Lu)(ps:List (Lu))(k f:Nat)(caps:Array Value)(base:Nat)
theorem gQ4 {l:List (Lu)}{j:Nat}(h:j<l.length):l.getD j []=l[j]:=by simp[List.getD,h]
structure Kept (S:Nat->Prop)(w w':World):Prop where
 os:w'.os=w.os
 tape:w'.tape=w.tape
 output:w'.output=w.output
 size:w.heap.size<=w'.heap.size
 block:∀k,k<w.heap.size->¬S k->w'.heap[k]?=w.heap[k]?
theorem Kept.refl (S:Nat->Prop)(w:World):Kept S w w:=⟨rfl,rfl,rfl,Nr,fun _ _ _=>rfl⟩
theorem Kept.trans {a b c:World}(h:Kept S a b)(k:Kept S b c):Kept S a c:=⟨k.os.trans h.os,k.tape.trans h.tape,k.output.trans h.output,Lq h.size k.size,fun i e d=>(k.block i (Ll e h.size) d).trans (h.block i e d)⟩
theorem Kept.of (h:Bw w w'):Kept S w w':=⟨h.os,h.tape,h.output,h.size,fun k a _=>h.block k a⟩
theorem Kept.mono {a:Nat->Prop}(h:Kept S w w')(b:∀k,S k->a k):Kept a w w':=⟨h.os,h.tape,h.output,h.size,fun k c d=>h.block k c (fun hs=>d (b k hs))⟩
theorem Kept.below (h:Kept S w w')(b:B<=w.heap.size)(a:∀k,S k->B<=k):Below B w w':=⟨h.os,h.tape,h.output,h.size,fun k c=>h.block k (by omega) (fun hs=>by have:=a k hs;omega)⟩
theorem Kept.none (h:Kept (fun _=>False) w w'):Bw w w':=h.below Nr (fun _ h=>h.elim)
theorem rQ3 {b:Nat}{a:List Value}(h:Lib.IsBuilderF T e B b a w)(x:Kept S w w')(u:∀k,S k->k<B):Lib.IsBuilderF T e B b a w':=by
 have l:∀k,B<=k->k<w.heap.size->w'.heap[k]?=w.heap[k]?:=fun k d c=>x.block k c (fun hs=>by have:=u k hs;omega);have key:∀p,Lib.BuilderAtF T e B b p a w->Lib.BuilderAtF T e B b p a w':=by
  rintro p ⟨d,v,c,⟨s,f⟩,t⟩;refine⟨d,v,?_,⟨s,?_⟩,t⟩
  ·rw[l b d (Array.getElem?_eq_some_iff.1 c).1];exact c
  ·rcases f with f|⟨g,m,n,r,o,i,j,q⟩
   ·exact .inl f
   ·exact .inr ⟨g,m,n,r,o,i,by rw[l g i (Array.getElem?_eq_some_iff.1 j).1];exact j,q⟩
 exact h.imp (key _) (key _)
theorem lQw (b:List (Lu))(b6:ps.length<=1048576)(U:b.length=ps.length)(T:b.flatten.length<=70368744177664)(f:Nat)(o:Array Value)(v:Value)(w:World)(a4:Nat)(m:w.ownsRow a4 9 1 v ps.length (ps.map A4))
  (S:Nat->Prop) (p:∀k,S k->k<w.heap.size) (V:∀k,v.ownBlock=some k->¬S k) (I:Nat->World->Prop) (N:I 0 w) (F:∀j W n,I j W->(∀k,k<w.heap.size->n.heap[k]?=W.heap[k]?)->I j n)
  (b5:∀(x:Value) (W:World),(callFunc f (#[x]++o)).run Tryz.prog W=.ok (.enter f (#[x]++o)) W)
  (s:∀W j (d:j<ps.length),Kept S w W->I j W->Calls Tryz.prog f (#[A4 ps[j]]++o) W fun e w'=>e=.returned (A4 (b.getD j []))/\Kept S W w'/\I (j+1) w') :
  Calls Tryz.prog 195 #[v,.func (.func f) #[] o] w fun e w'=>e=.returned (A4 b.flatten)/\Kept S w w':=by
 have X:Hid _:=s;have a2:Hid _:=F;have a3:Hid _:=p;obtain⟨v1,v2,v3,rfl⟩:=dQj m;have b1:v2=ps.length:=by
  rcases m.2 with⟨e,h0⟩|⟨g,a5,a6,e,_⟩
  ·injection e with C J E;omega
  ·injection e with C J E
 subst b1;have HX:Hid (∀W,Kept S w W->∀j (d:j<ps.length),∃g,v1=some ⟨g,0,none⟩/\W.cell? ⟨g,j,none⟩=some (A4 ps[j])):=fun W u j d=>by
  rcases m.2 with⟨e,h0⟩|⟨g,a5,a6,e,_⟩
  ·omega
  ·injection e with C J E
   subst C;subst E;refine⟨g,rfl,?_⟩;have r:=(m.lt g rfl).2;rw[World.cell?_of_block (w:=w) (a:=⟨g,j,none⟩) (u.block g r (V g rfl)),m.cellAt j (by omega),List.getElem?_map,List.getElem?_eq_getElem d];rfl
 have L:Lib.IsBuilderF 243 5 (Hz w) (Hz w) (Lib.byteCells (b.take 0).flatten) (w.alloc (.cells #[.pointer none,Zl] 243)):=Lib.IsBuilderF.of (Lib.fresh_isBuilder _ _ w);have Y:Hid _:=L;have a7:Kept S w (w.alloc (.cells #[.pointer none,Zl] 243)):=Kept.of (A5 w _);have Z:Hid (I 0 (w.alloc (.cells #[.pointer none,Zl] 243))):=F 0 w _ N (fun k h=>Below.heap_alloc _ _ _ h);have HL:Hid (∀j (d:j<ps.length),(b.take j).flatten.length+(b.getD j []).length<=70368744177664):=fun j d=>by
  have h1:(b.take (j+1)).flatten=(b.take j).flatten++b.getD j []:=by
   rw[List.take_succ_eq_append_getElem (by omega),List.flatten_append,gQ4 (by omega)];simp
  have h2:b.flatten=(b.take (j+1)).flatten++(b.drop (j+1)).flatten:=by
   rw[<-List.flatten_append,List.take_append_drop]
  rw[h2,h1,List.length_append,List.length_append]at T;omega
 have B:Hid (b.length=ps.length):=U;clear s m L T F N p V U;go_enter Tryz.func195,Tryz.ntmps195;go_wp2_with fail;generalize w.alloc (.cells #[.pointer none,Zl] 243)=W0 at *;go_loopw [10] (fun t wr=>∃j:Nat,j<=ps.length/\t=Iv j/\Lib.IsBuilderF 243 5 (Hz w) (Hz w) (Lib.byteCells (b.take j).flatten) wr/\Kept S w wr/\I j wr) (fun t _=>ps.length-(intOf t).toNat)
 ·exact⟨0,Nat.zero_le _,rfl,Y.out,a7,Z.out⟩
 ·
  obtain⟨j,d,rfl,R,c,P⟩:=hrel;have a1:Hid (I j wr):=P;have z:Hid (Lib.IsBuilderF 243 5 (Hz w) (Hz w) (Lib.byteCells (b.take j).flatten) wr):=R;clear R P
  by_cases r:j<ps.length
  ·have b2:(j:Int)<(ps.length:Int):=by omega
   have b7:(0:Int)<=(j:Int):=by omega
   obtain⟨g,rfl,b4⟩:=HX.out wr c j r;have M:=X.out wr j r c a1.out;have s:Hid ((b.take (j+1)).flatten=(b.take j).flatten++b.getD j []):=by
    show _=_;rw[List.take_succ_eq_append_getElem (by have:=B.out;omega),List.flatten_append,gQ4 (by have:=B.out;omega)];simp
   have b3:=HL.out j r;generalize ps[j]=x at *;generalize b.getD j []=y at *;go_wp2_with fail;refine M.mono ?_;clear M;rintro e w2 ⟨rfl,Q,O⟩;have l:=c.trans Q;have u:=Tryz.Builder_WriteString_k (Hz w) (Hz w) _ ⟨y.toArray⟩ w2 (rQ3 z.out Q a3.out) (by rw[Lib.byteCells_length];show _+y.toArray.size<=_;rw[List.size_toArray];omega) l.size;have HS:Hid (Lib.byteCells (b.take j).flatten++Lib.strCells ⟨y.toArray⟩=Lib.byteCells (b.take (j+1)).flatten):=by
    show _=_;rw[s.out,Lib.strCells_eq,Lib.byteCells_append]
   go_wp2_with fail;refine u.mono ?_;clear u;rintro e H ⟨rfl,K,i,_⟩;have a8:Kept S w H:=⟨i.os.trans l.os,i.tape.trans l.tape,i.output.trans l.output,Lq l.size i.size,fun k h G=>(i.block k h).trans (l.block k h G)⟩;have a0:Hid (I (j+1) H):=a2.out _ _ _ O i.block;clear O;have A:Hid (Lib.IsBuilderF 243 5 (Hz w) (Hz w) (Lib.byteCells (b.take (j+1)).flatten) H):=by
    show Lib.IsBuilderF _ _ _ _ _ _;rw[<-HS.out];exact .inr K
   clear K z;go_wp2_with fail;go_roundw
   ·exact⟨j+1,by omega,by go_num,A.out,a8,a0.out⟩
   ·simp[intOf];omega
  ·have b2:¬(j:Int)<(ps.length:Int):=by omega
   have b0:j=ps.length:=by omega
   subst b0;have A:Hid (Lib.IsBuilderF 243 5 (Hz w) (Hz w) (Lib.byteCells b.flatten) wr):=by
    have:=z.out;rw[List.take_of_length_le (Nat.le_of_eq B.out)]at this;exact this
   have p:=Tryz.Builder_String_any_k (Hz w) (Hz w) _ wr A.out c.size;go_wp2_with fail;refine p.mono ?_;rintro e w4 ⟨rfl,_,q,_⟩;have a9:Kept S w w4:=⟨q.os.trans c.os,q.tape.trans c.tape,q.output.trans c.output,Lq c.size q.size,fun k h G=>(q.block k h).trans (c.block k h G)⟩;clear p;go_wp2_with fail;go_ret;exact⟨rfl,a9⟩
theorem lQx (l:ps.length<=1048576)(a:Lu->Lu)(i:((ps.map a).flatten).length<=70368744177664)(v:Value)(w:World)(k:w.ownsRow base 9 1 v ps.length (ps.map A4))
  (g:∀(x:Value) (W:World),(callFunc f (#[x]++caps)).run Tryz.prog W=.ok (.enter f (#[x]++caps)) W)
  (c:∀W j (b:j<ps.length),Bw w W->Calls Tryz.prog f (#[A4 ps[j]]++caps) W (Rt (A4 (a ps[j])) W)) :
  Calls Tryz.prog 195 #[v,.func (.func f) #[] caps] w fun e w'=>e=.returned (A4 (ps.map a).flatten)/\Bw w w':=by
 refine(lQw ps (ps.map a) l (by simp) i f caps v w base k (fun _=>False) (fun _ h=>h.elim) (fun _ _ h=>h) (fun _ _=>True) trivial (fun _ _ _ _ _=>trivial) g (fun W j b d _=>?_)).mono (fun e w' h=>⟨h.1,h.2.none⟩);refine(c W j b d.none).mono (fun e w' h=>⟨?_,Kept.of h.2,trivial⟩);rw[gQ4 (by simpa using b),List.getElem_map];exact h.1
theorem gQ1:(Ba l).extract 0 k=⟨(l.take k).toArray⟩:=by
 apply ByteArray.ext
 rw[ByteArray.data_extract];simp
theorem kQc:(Ba l).extract k (Ba l).size=⟨(l.drop k).toArray⟩:=by
 have:(Ba l).size=l.length:=by simp[ByteArray.size]
 rw[this];apply ByteArray.ext
 rw[ByteArray.data_extract];simp;exact List.take_of_length_le (by rw[List.length_drop];omega)
theorem rQo {b a:Nat}{c:Nat}{v:Value}{n:Nat}{d:List Value}(h:w.ownsRow b e c v n d)(l:a<=b):w.ownsRow a e c v n d:=by
 refine⟨h.1,?_⟩;rcases h.2 with j|⟨g,f,i,o,m,k⟩
 ·exact .inl j
 ·exact .inr ⟨g,f,i,o,Lq l m,k⟩
theorem xQ5 {p q:Pat}(c:¬fXb p q)(d:inL p u)(f:inL q v){i:Nat}(g:i<u.length)(a:inL p ((u++v).take i))(b:inL q ((u++v).drop i)):False:=by
 rw[List.take_append_of_le_length (by omega)]at a;rw[List.drop_append_of_le_length (by omega)]at b;refine c ⟨u.take i,u.drop i,v,?_,a,by rw[List.take_append_drop];exact d,b,f⟩;intro e;have:=congrArg List.length e;rw[List.length_drop,List.length_nil]at this;omega
theorem iQx (f:Old w G){b:Ls.D}(ha:dsize a<=24)(l:dsize b<=24)(n:¬fXb (eX5 a) (eX5 b))(g:inL (eX5 a) u)(h:inL (eX5 b) v)(o:u.length+v.length<=1048576)(i:Tx w G x1 n1 a)(j:Tx w G x2 n2 b) :
  Calls Tryz.prog 182 #[Pt n1,Pt n2,A4 (u++v)] w fun e w'=>e=.returned (.tuple #[A4 u,A4 v])/\Bw w w':=by
 have p:(⟨(u++v).toArray⟩:By).size=u.length+v.length:=by simp[ByteArray.size]
 refine(tQv n1 ⟨(u++v).toArray⟩ n2 w (by omega) (fun k=>inL (eX5 a) ((u++v).take k)) (fun k=>inL (eX5 b) ((u++v).drop k)) u.length (by omega) (fun k d x y=>xQ5 n g h d x y) (fun _=>⟨by rw[List.take_left];exact g,by rw[List.drop_left];exact h⟩) (fun W k d c=>?_) (fun W k d c=>?_)).mono ?_
 ·rw[gQ1]
  exact cQ6 ⟨((u++v).take k).toArray⟩ (i.below f c) ha (by simp[ByteArray.size];omega)
 ·rw[kQc]
  exact cQ6 ⟨((u++v).drop k).toArray⟩ (j.below f c) l (by simp[ByteArray.size];omega)
 ·rintro e w' ⟨rfl,m⟩
  rw[gQ1,kQc,List.take_left,List.drop_left];exact⟨rfl,m⟩
theorem oQ9 (d:Old w G)(ha:dsize a<=24)(p:¬inL (eX5 a) [])(A:¬fXb (eX5 a) (eX5 (Ls.rep 5 a))){b:List (Lu)}(g:∀x,x∈b->inL (eX5 a) x)(t:b.flatten.length<=1048576)(l:Tx w G x1 n1 a)(m:Tx w G x2 n2 (Ls.rep 5 a)) :
  Calls Tryz.prog 211 #[Pt n1,Pt n2,A4 b.flatten] w fun e w'=>∃v,e=.returned v/\w'.ownsRow w.heap.size 9 1 v b.length (b.map A4)/\Bw w w':=by
 have o:∀x,x∈b->x≠[]:=fun x i e=>p (by have:=g x i;rw[e]at this;exact this);have z:∀c:List (Lu),(∀x,x∈c->x≠[])->c.length<=c.flatten.length:=by
  intro c;induction c with
  | nil=>simp
  | cons q c C=>
   intro h;have l:=List.length_pos_iff.2 (h q (List.mem_cons_self ..));have m:=C (fun x i=>h x (List.mem_cons_of_mem _ i));rw[List.flatten_cons,List.length_append,List.length_cons];omega
 refine zQx n1 n2 w b o (Lq (z b o) t) (fun W j r f=>?_);have n:(b.drop j).flatten=b[j]++(b.drop (j+1)).flatten:=by rw[List.drop_eq_getElem_cons r,List.flatten_cons]
 have E:(b.drop j).flatten.length<=b.flatten.length:=by
  have:b.flatten=(b.take j).flatten++(b.drop j).flatten:=by rw[<-List.flatten_append,List.take_append_drop]
  rw[this,List.length_append];omega
 have u:=congrArg List.length n;rw[List.length_append]at u;rw[n];refine iQx (G:=G) (fun k s=>Ll (d k s) f.size) ha (by rw[fX5];exact ha) A (g _ (List.getElem_mem _)) ?_ (by omega) (l.below d f) (m.below d f);rw[gXg];exact⟨b.drop (j+1),rfl,fun y B=>g y (List.mem_of_mem_drop B)⟩
theorem aQv (d:Old w G){b:Ls.D}(ha:dsize a<=24)(o:dsize b<=24)(j:¬fXb (eX5 a) (eX5 b))(l:inL (eX5 a) u)(m:inL (eX5 b) v)(i:u.length+v.length<=1048576)(f:Tx w G (.iface t1 y1) n1 a)(g:Tx w G (.iface t2 y2) n2 b) :
  Calls Tryz.prog 154 #[C8 (.iface t1 y1) n1,C8 (.iface t2 y2) n2,A4 (u++v)] w fun e w'=>e=.returned (.tuple #[A4 u,A4 v])/\Bw w w':=by
 have c:=C6 w (E2 (.iface t1 y1) n1) (E2 (.iface t2 y2) n2);have h:=iQx (w:=(w.alloc (E2 (.iface t1 y1) n1)).alloc (E2 (.iface t2 y2) n2)) (G:=G) (fun k q=>Ll (d k q) c.size) ha o j l m i (f.below d c) (g.below d c);have n:Hid _:=c;go_enter Tryz.func154,Tryz.ntmps154;go_wp2_with fail;refine h.mono ?_;rintro e r ⟨rfl,p⟩;go_wp2;go_ret2;exact⟨rfl,Bj n.out p⟩
theorem fQi (h:Old w G)(ha:dsize a<=24)(l:¬inL (eX5 a) [])(r:¬fXb (eX5 a) (eX5 (Ls.rep 5 a))){b:List (Lu)}(q:∀x,x∈b->inL (eX5 a) x)(p:b.flatten.length<=1048576)(m:Tx w G (.iface t1 y1) n1 a)(n:Tx w G (.iface t2 y2) n2 (Ls.rep 5 a)) :
  Calls Tryz.prog 196 #[C8 (.iface t1 y1) n1,C8 (.iface t2 y2) n2,A4 b.flatten] w fun e w'=>∃d f g,e=.returned (.slice d f g)/\w'.ownsRow w.heap.size 9 1 (.slice d f g) b.length (b.map A4)/\Bw w w':=by
 have c:=C6 w (E2 (.iface t1 y1) n1) (E2 (.iface t2 y2) n2);have o:=oQ9 (w:=(w.alloc (E2 (.iface t1 y1) n1)).alloc (E2 (.iface t2 y2) n2)) (G:=G) (fun k y=>Ll (h k y) c.size) ha l r q p (m.below h c) (n.below h c);have j:Hid _:=c;generalize b.flatten=s at *;go_enter Tryz.func196,Tryz.ntmps196;go_wp2_with fail;refine o.mono ?_;rintro e z ⟨v,rfl,i,u⟩;obtain⟨d,f,g,rfl⟩:=dQj i;have t:Hid _:=rQo i j.out.size;go_wp2;go_ret;exact⟨d,f,g,rfl,t.out,Bj j.out u⟩
def Turns (w:World)(G:Nat->Prop)(b:Value)(p:Lu->Prop)(val:Lu->Lu):Prop:=
 ∃(f:Nat) (caps:Array Value),b=.func (.func f) #[] caps/\(∀(x:Value) (W:World),(callFunc f (#[x]++caps)).run Tryz.prog W=.ok (.enter f (#[x]++caps)) W)/\
  ∀W,(∀k,G k->W.heap[k]?=w.heap[k]?)->Old W G->∀x:Lu,x.length<=60->p x->Ca f (#[A4 x]++caps) W (Rt (A4 (val x)) W)
theorem Turns.mono (c:∀k,G k->G' k)(n:∀k,G k->w'.heap[k]?=w.heap[k]?){d:Lu->Lu}(h:Turns w G b p d):Turns w' G' b p d:=by
 have⟨f,e,g,i,j⟩:=h;exact⟨f,e,g,i,fun W m l=>j W (fun k a=>(m k (c k a)).trans (n k a)) (fun k a=>l k (c k a))⟩
def Turns2 (w:World)(G:Nat->Prop)(b:Value)(p q:Lu->Prop)(val:Lu->Lu->Lu):Prop:=
 ∃(f:Nat) (caps:Array Value),b=.func (.func f) #[] caps/\(∀(x y:Value) (W:World),(callFunc f (#[x,y]++caps)).run Tryz.prog W=.ok (.enter f (#[x,y]++caps)) W)/\
  ∀W,(∀k,G k->W.heap[k]?=w.heap[k]?)->Old W G->∀x y:Lu,x.length<=60->y.length<=60->p x->q y->Ca f (#[A4 x,A4 y]++caps) W (Rt (A4 (val x y)) W)
theorem Turns2.mono (c:∀k,G k->G' k)(m:∀k,G k->w'.heap[k]?=w.heap[k]?)(h:Turns2 w G b p q val):Turns2 w' G' b p q val:=by
 have⟨f,d,e,g,i⟩:=h;exact⟨f,d,e,g,fun W l j=>i W (fun k a=>(l k (c k a)).trans (m k a)) (fun k a=>j k (c k a))⟩
def KeyV (w:World)(G:Nat->Prop)(b:Value)(κ:Lu->Lu):Prop:=
 ∃(f:Nat) (caps:Array Value),b=.func (.func f) #[] caps/\(∀(x:Value) (W:World),(callFunc f (#[x]++caps)).run Tryz.prog W=.ok (.enter f (#[x]++caps)) W)/\
  ∀W,(∀k,G k->W.heap[k]?=w.heap[k]?)->∀x:Lu,x.length<=70368744177664->Ca f (#[A4 x]++caps) W (Rt (A4 (κ x)) W)
theorem KeyV.mono (i:∀k,G k->G' k)(l:∀k,G k->w'.heap[k]?=w.heap[k]?){κ:Lu->Lu}(h:KeyV w G b κ):KeyV w' G' b κ:=by
 have⟨f,c,d,e,g⟩:=h;exact⟨f,c,d,e,fun W j=>g W (fun k a=>(j k (i k a)).trans (l k a))⟩
abbrev J2 (t1:TypeId)(y1:Value)(n1:Nat)(t2:TypeId)(y2:Value)(n2:Nat)(g c u:Value):Array Value:=#[.iface t1 y1,.pointer (some ⟨n1,0,none⟩),.iface t2 y2,.pointer (some ⟨n2,0,none⟩),g,c,u]
def PartV (w:World)(G:Nat->Prop)(p:Nat)(l:Ln):Prop:=
 ∃t1 y1 n1 t2 y2 n2 g c u,G p/\Blk w p (J2 t1 y1 n1 t2 y2 n2 g c u) 98/\Tx w G (.iface t1 y1) n1 (dS l)/\Tx w G (.iface t2 y2) n2 (dV l)/\
  Turns w G g (inL (eX5 (dS l))) (A6 l)/\Turns w G c (inL (eX5 (dV l))) (A8 l)/\Turns2 w G u (inL (eX5 (dV l))) (inL (eX5 (dS l))) (A9 l)
theorem PartV.mono (a:∀k,G k->G' k)(b:∀k,G k->w'.heap[k]?=w.heap[k]?){p:Nat}{l:Ln}(h:PartV w G p l):PartV w' G' p l:=by
 have⟨r,t,o,s,v,q,g,c,u,d,e,f,i,j,m,n⟩:=h;exact⟨r,t,o,s,v,q,g,c,u,a _ d,e.of (b _ d),f.mono a b,i.mono a b,j.mono a b,m.mono a b,n.mono a b⟩
theorem PartV.below {p:Nat}{l:Ln}(h:PartV w G p l)(a:Old w G)(b:Bw w w'):PartV w' G p l:=h.mono (fun _ h=>h) (fun k c=>b.block k (a k c))
theorem Turns.at (d:Old w G){i:Lu->Lu}(h:Turns w G b p i):∃(f:Nat) (a:Array Value),b=.func (.func f) #[] a/\(∀(x:Value) (W:World),(callFunc f (#[x]++a)).run Tryz.prog W=.ok (.enter f (#[x]++a)) W)/\
  ∀W,Bw w W->∀x:Lu,x.length<=60->p x->Calls Tryz.prog f (#[A4 x]++a) W fun e w'=>e=.returned (A4 (i x))/\Bw W w':=by
 have⟨f,a,j,l,m⟩:=h;exact⟨f,a,j,l,fun W g=>m W (fun k c=>g.block k (d k c)) (fun k c=>Ll (d k c) g.size)⟩
theorem Turns2.at (d:Old w G)(h:Turns2 w G b p q val):∃(f:Nat) (a:Array Value),b=.func (.func f) #[] a/\(∀(x y:Value) (W:World),(callFunc f (#[x,y]++a)).run Tryz.prog W=.ok (.enter f (#[x,y]++a)) W)/\
  ∀W,Bw w W->∀x y:Lu,x.length<=60->y.length<=60->p x->q y->Calls Tryz.prog f (#[A4 x,A4 y]++a) W fun e w'=>e=.returned (A4 (val x y))/\Bw W w':=by
 have⟨f,a,i,j,l⟩:=h;exact⟨f,a,i,j,fun W g=>l W (fun k c=>g.block k (d k c)) (fun k c=>Ll (d k c) g.size)⟩
theorem Blk.seven {g:Nat}{x y u v s t r:Value}(h:Blk w g #[x,y,u,v,s,t,r] T):Ce w g 0 x/\Ce w g 1 y/\Ce w g 2 u/\Ce w g 3 v/\Ce w g 4 s/\Ce w g 5 t/\Ce w g 6 r:=⟨h.cell 0,h.cell 1,h.cell 2,h.cell 3,h.cell 4,h.cell 5,h.cell 6⟩
theorem O4 (X Y:Lu):(Ba X)++⟨Y.toArray⟩=⟨(X++Y).toArray⟩:=by
 apply ByteArray.ext
 rw[ByteArray.data_append];simp
end Go.Proofs.YtfklinjaajafgaaGreatDoor
namespace Go.Proofs.YtfklinjaajafgaaGreatDoor
open Ls
section
variable {P:Program} {md:Region.Mode} {ops:Array Oper} {Q:Exit->Act->World->Prop} {S:World->Prop}
theorem tk (i:Nat){v:Value}{b:Oper}{f:Nat}{e:Array Bool}{a:Act}{w:World}(h:wpAnyH P md ops Q S f (e.setIfInBounds i true) (a.put b.dst v) w)(k:ops[i]?=some b:=by rfl)(m:∀w,S w->(execOp a.eval b).run P w=.ok (.value v) w:=by intro _ c;go_simp;try with_reducible rfl)
  (d:(Region.noSelect ops&&(Region.free md ops e i&&(Region.ready md ops e).contains i))=true:=by kernel_rfl)
  (g:∀c a w,Q (.panic c) (a.put b.dst v) w->Q (.panic c) a w:=by exact fun _ _ _ h=>h) (l:Region.wanted b (yielded ops a.tmps)=true:=by rfl) (j:S w:=by assumption):wpAnyH P md ops Q S (f+1) e a w:=by
 simp only[Bool.and_eq_true]at d;exact wpAnyH_take k d.1 d.2.1 d.2.2 g (Or.inl ⟨l,m⟩) j h
theorem sp (i:Nat){o:Oper}{d:Nat}{c:Array Bool}{a:Act}{w:World}(f:Region.ready md ops c=[i])(e:ops[i]?=some o)
  (h:∀b:Act->World->Prop,Shut (∀a w,S w->(S w->wpAnyH P md ops Q S d (c.setIfInBounds i true) a w)->b a w)->if Region.wanted o (yielded ops a.tmps)=true then Oper.wp P o a w b Q else b (a.put o.dst undef) w):wpAnyH P md ops Q S (d+1) c a w:=
 wpAnyH_ready f (by simp) (AllReadyH.cons e h AllReadyH.nil)
theorem iQl (i j:Nat){o d:Oper}{e:Nat}{c:Array Bool}{a:Act}{w:World}(l:Region.ready md ops c=[i,j])(g:ops[i]?=some o)(k:ops[j]?=some d)
  (h:∀b:Act->World->Prop,Shut (∀a w,S w->(S w->wpAnyH P md ops Q S e (c.setIfInBounds i true) a w)->b a w)->if Region.wanted o (yielded ops a.tmps)=true then Oper.wp P o a w b Q else b (a.put o.dst undef) w)
  (f:∀b:Act->World->Prop,Shut (∀a w,S w->(S w->wpAnyH P md ops Q S e (c.setIfInBounds j true) a w)->b a w)->if Region.wanted d (yielded ops a.tmps)=true then Oper.wp P d a w b Q else b (a.put d.dst undef) w):wpAnyH P md ops Q S (e+1) c a w:=
 wpAnyH_ready l (by simp) (AllReadyH.cons g h (AllReadyH.cons k f AllReadyH.nil))
end
end Go.Proofs.YtfklinjaajafgaaGreatDoor
