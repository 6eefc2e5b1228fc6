import Derived.Test.YtfklinjaajafgaaGreatDoorK09
import Derived.Test.YtfklinjaajafgaaGreatDoorK49
set_option maxRecDepth 100000
set_option maxHeartbeats 4000000
namespace Go.Proofs.YtfklinjaajafgaaGreatDoor
open Go.RowKit
variable {G G':Nat->Prop}{W w w':World}{b d:Ls.D}{nb:Nat}{v x y:Value}(a:Ls.D)(s:ByteArray)(a3:Addr)(t1 t2:TypeId)(y1 y2:Value)(n1 n2:Nat)
theorem fQb (w:World):Calls Tryz.prog 134 #[.bool true] w fun e w'=>e=.returned (.tuple #[])/\w'=w:=by
 go_enter Tryz.func134,Tryz.ntmps134;go_wp2_with fail;go_end0;exact⟨rfl,rfl⟩
theorem cQ8 (w:World)(a:Ce w 2 0 (C9 a3)) :
  Calls Tryz.prog 134 #[.bool false] w fun e w'=>e=.panicked [{v:=C9 a3,recovered:=false}]/\w'=w:=by
 go_enter Tryz.func134,Tryz.ntmps134;go_wp2_with fail;exact⟨rfl,rfl,rfl⟩
abbrev Gn (w:World)(G:Nat->Prop)(w':World):Nat->Prop:=fun k=>G k\/(w.heap.size<=k/\k<w'.heap.size)
structure Tx (w:World)(G:Nat->Prop)(v:Value)(nb:Nat)(d:Ls.D):Prop where
 rep:Rep w G 0 d [v]
 net:∃B P Q,NetL w B nb P Q (Ls.add d I7).1 (Ls.add d I7).2/\G nb/\(∀k,P.ownBlock=some k->G k)/\(∀k,Q.ownBlock=some k->G k)
theorem Tx.mono (b:∀k,G k->G' k)(c:∀k,G k->w'.heap[k]?=w.heap[k]?)(h:Tx w G v nb d):Tx w' G' v nb d:=by
 obtain⟨B,P,Q,i,e,f,g⟩:=h.net;exact⟨h.rep.mono b c,B,P,Q,i.same (c _ e) (fun k a=>c k (f k a)) (fun k a=>c k (g k a)),b _ e,fun k a=>b k (f k a),fun k a=>b k (g k a)⟩
theorem Tx.below (h:Tx w G v nb d)(a:Old w G)(b:Bw w w'):Tx w' G v nb d:=h.mono (fun _ h=>h) (fun k c=>b.block k (a k c))
theorem Tx.wd (h:Tx w G v nb d):Ls.Wd 0 d:=h.rep.wd
theorem Tx.nt (h:Tx w G v nb d)(_hG:Old w G)(f:Ls.dsize d<=24):∃P Q,Nt w w.heap.size nb P Q (Ls.add d I7).1 (Ls.add d I7).2:=by
 obtain⟨B,P,Q,a,e,g,i⟩:=h.net;obtain⟨b,c,_,_⟩:=bQw h.wd (n:=I7) rfl (by simp[I7];omega);exact⟨P,Q,a.nt b c⟩
theorem Gn.old (a:Old w G)(b:w.heap.size<=w'.heap.size):Old w' (Gn w G w'):=fun k c=>by
 rcases c with h|h
 ·exact Ll (a k h) b
 ·exact h.2
abbrev C8 (v:Value)(nb:Nat):Value:=.agg #[v,.pointer (some ⟨nb,0,none⟩)]
def TxPost (w:World)(G:Nat->Prop)(d:Ls.D):Ending->World->Prop:=fun e w'=>
 ∃ty y nb,e=.returned (C8 (.iface ty y) nb)/\Tx w' (Gn w G w') (.iface ty y) nb d/\Bw w w'
theorem aQ6 (d:Ls.D)(A:dn d<=1048576)(x:Ls.dsize d<=24)(w:World)(G:Nat->Prop)(i:Old w G)(b:TypeId)(y:Value)(h:Rep w G 0 d [.iface b y]) :
  Calls Tryz.prog 157 #[.iface b y] w (TxPost w G d):=by
 have j:=A5 w (.cells #[.nilIface,.pointer none] 92);have o:=Blk.new w #[.nilIface,.pointer none] 92;have E:(w.alloc (.cells #[.nilIface,.pointer none] 92)).heap.size=w.heap.size+1:=by simp
 have n:=oQ8 d _ G b y A x (fun k a=>Ll (i k a) j.size) (h.later i j);have r:Hid (Rep w G 0 d [.iface b y]):=h;have t:Hid (Blk (w.alloc (.cells #[.nilIface,.pointer none] 92)) w.heap.size #[.nilIface,.pointer none] 92):=o;have m:Hid _:=j;clear h o j;go_enter Tryz.func157,Tryz.ntmps157;go_wp2_with fail;refine n.mono ?_;clear n;generalize w.alloc (.cells #[.nilIface,.pointer none] 92)=u at *;rintro e g ⟨f,P,Q,rfl,c,l⟩;have F:=l.size;have p:=t.out.below l (by omega);obtain⟨B,C,I,s1⟩:=p.two;have s:Hid (Tx ((g.setCell ⟨w.heap.size,0,none⟩ (.iface b y)).setCell ⟨w.heap.size,1,none⟩ (Pt f)) (Gn w G ((g.setCell ⟨w.heap.size,0,none⟩ (.iface b y)).setCell ⟨w.heap.size,1,none⟩ (Pt f))) (.iface b y) f d):=by
  refine Tx.mono (w:=g) (G:=fun k=>G k\/(w.heap.size<k/\k<g.heap.size)) (fun k a=>?_) (fun k a=>L9 _ _ _ _ _ ?_) ⟨?_,u.heap.size,P,Q,c,?_,fun k a=>?_,fun k a=>?_⟩
  ·rcases a with h|h
   ·exact .inl h
   ·exact .inr ⟨by omega,by rw[X4];exact h.2⟩
  ·rcases a with h|h
   ·have:=i k h;omega
   ·omega
  ·exact r.out.mono (fun k a=>.inl a) (fun k a=>by
    have:=i k a;rw[l.block k (by omega)];exact m.out.block k this)
  ·exact .inr ⟨by have:=c.base;omega,c.lt⟩
  ·obtain⟨H,_,_,z⟩:=c.pls
   have:=z.lt k a;exact .inr ⟨by omega,this.2⟩
  ·have:=c.bhs.lt k a
   exact .inr ⟨by omega,this.2⟩
 have q:Hid (Bw w ((g.setCell ⟨w.heap.size,0,none⟩ (.iface b y)).setCell ⟨w.heap.size,1,none⟩ (Pt f))):=aQd (Bj m.out l) (Nat.le_refl _) _ _;clear p c;go_wp2_with fail;exact bodyPost_ret (v:=C8 (.iface b y) f) (by simp[results,Tryz.results157,go_sem,B,C]) rfl ⟨b,y,f,rfl,s.out,q.out⟩
theorem zQu (w:World) :
  Calls Tryz.prog 181 #[.iface t1 y1,.iface t2 y2] w fun e w'=>e=.returned (P5 (Sl w.heap.size 2 2))/\w'=w.alloc (.cells #[.iface t1 y1,.iface t2 y2] 89):=by
 go_enter Tryz.func181,Tryz.ntmps181;go_wp2_with fail;go_ret;exact⟨rfl,rfl⟩
theorem zQw (w:World) :
  Calls Tryz.prog 158 #[.iface t1 y1,.iface t2 y2] w fun e w'=>e=.returned (bQb (Sl w.heap.size 2 2))/\w'=w.alloc (.cells #[.iface t1 y1,.iface t2 y2] 89):=by
 go_enter Tryz.func158,Tryz.ntmps158;go_wp2_with fail;go_ret;exact⟨rfl,rfl⟩
theorem nQb (w:World)(x y:Value)(G:Nat->Prop)(b:G w.heap.size):Shows (w.alloc (.cells #[x,y] 89)) G (Sl w.heap.size 2 2) [x,y]:=⟨World.ownsRow_lit (e:=89) (size:=1) w #[x,y] 2 (Nat.zero_le _) (by unfold maxLen;omega) rfl,fun k a=>by
  simp[Value.ownBlock]at a;subst a;exact b⟩
theorem bXa (c:Old w G){a:Ls.D}(ha:Rep w G 0 a [x])(f:Rep w G 0 b [y]) :
  Rep (w.alloc (.cells #[x,y] 89)) (Gn w G (w.alloc (.cells #[x,y] 89))) 0 (Ls.fXi a b) [P5 (Sl w.heap.size 2 2)]:=by
 have d:=A5 w (.cells #[x,y] 89);have e:=(ha.later c d).mono (G':=Gn w G (w.alloc (.cells #[x,y] 89))) (fun _ h=>.inl h) (fun _ _=>rfl);have g:=(f.later c d).mono (G':=Gn w G (w.alloc (.cells #[x,y] 89))) (fun _ h=>.inl h) (fun _ _=>rfl);exact .row (nQb w x y _ (.inr ⟨Nat.le_refl _,by simp⟩)) (.rcons e (.rcons g .rnil))
theorem bXb (c:Old w G){a:Ls.D}(ha:Rep w G 0 a [x])(f:Rep w G 0 b [y]) :
  Rep (w.alloc (.cells #[x,y] 89)) (Gn w G (w.alloc (.cells #[x,y] 89))) 0 (Ls.fXv a b) [bQb (Sl w.heap.size 2 2)]:=by
 have d:=A5 w (.cells #[x,y] 89);have e:=(ha.later c d).mono (G':=Gn w G (w.alloc (.cells #[x,y] 89))) (fun _ h=>.inl h) (fun _ _=>rfl);have g:=(f.later c d).mono (G':=Gn w G (w.alloc (.cells #[x,y] 89))) (fun _ h=>.inl h) (fun _ _=>rfl);exact .choice (nQb w x y _ (.inr ⟨Nat.le_refl _,by simp⟩)) (.ccons e (.clast g))
def aQp (w:World)(G:Nat->Prop)(a3:Addr)(ok:Prop)(d:Ls.D):Ending->World->Prop:=fun e w'=>
 (ok/\TxPost w G d e w')\/(¬ok/\e=.panicked [{v:=C9 a3,recovered:=false}]/\Bw w w')
abbrev E2 (v:Value)(nb:Nat):Obj:=.cells #[v,.pointer (some ⟨nb,0,none⟩)] 92
abbrev O7:Obj:=.cells #[.nilIface,.pointer none] 92
abbrev EType (w:World)(a3:Addr):Prop:=Ce w 2 0 (C9 a3)
theorem EType.below {a:Addr}(h:EType w a)(b:Bw w w'):EType w' a:=
 (b.cell (p:=⟨2,0,none⟩) (World.block_lt_of_cell? w _ h)).trans h
theorem TxPost.up {b:World}{a:TypeId}{g:Nat}(l:Tx b G' (.iface a y) nb d)(e:∀k,G' k->k≠g/\(G k\/(w.heap.size<=k/\k<b.heap.size)))(i:Bw w b)(j:w.heap.size<=g)(f:W=(b.setCell ⟨g,0,none⟩ (.iface a y)).setCell ⟨g,1,none⟩ (Pt nb)) :
  TxPost w G d (.returned (C8 (.iface a y) nb)) W:=by
 subst f;refine⟨a,y,nb,rfl,l.mono (fun k c=>?_) (fun k c=>L9 _ _ _ _ _ (e k c).1),aQd i j _ _⟩;exact(e k c).2.imp id (fun h=>⟨h.1,by rw[X4];exact h.2⟩)
structure Vars3 (w W:World)(x1 x2:Value)(n1 n2:Nat):Prop where
 v1:Blk W w.heap.size #[x1,.pointer (some ⟨n1,0,none⟩)] 92
 v2:Blk W (w.heap.size+1) #[x2,.pointer (some ⟨n2,0,none⟩)] 92
 r:Blk W (w.heap.size+1+1) #[.nilIface,.pointer none] 92
theorem Vars3.start (w:World)(c d:Value)(a b:Nat):Vars3 w (((w.alloc (E2 c a)).alloc (E2 d b)).alloc O7) c d a b:=by
 refine⟨((Blk.new w _ _).of (Below.heap_alloc _ _ _ (by simp))).of (Below.heap_alloc _ _ _ (by simp;omega)),?_,?_⟩
 ·have:=Blk.new (w.alloc (E2 c a)) #[d,Pt b] 92
  rw[World.size_alloc]at this;exact this.of (Below.heap_alloc _ _ _ (by simp))
 ·have:=Blk.new ((w.alloc (E2 c a)).alloc (E2 d b)) #[.nilIface,.pointer none] 92
  rw[World.size_alloc,World.size_alloc]at this;exact this
theorem Vars3.below {b:World}{e f:Value}{c d:Nat}(h:Vars3 w W e f c d)(a:Bw W b):Vars3 w b e f c d:=⟨h.v1.below a h.v1.lt,h.v2.below a h.v2.lt,h.r.below a h.r.lt⟩
theorem eQa (b:Ls.D)(a5:Ls.dsize a+Ls.dsize b<=24)(hn:dn a+dn b<=100000)(w:World)(G:Nat->Prop)(f:Old w G)(hc:EType w a3)(i:Tx w G (.iface t1 y1) n1 a)(j:Tx w G (.iface t2 y2) n2 b) :
  Calls Tryz.prog 152 #[C8 (.iface t1 y1) n1,C8 (.iface t2 y2) n2] w (aQp w G a3 (¬Ls.fXb (Ls.eX5 a) (Ls.eX5 b)) (Ls.fXi a b)):=by
 have h:Bw w (((w.alloc (E2 (.iface t1 y1) n1)).alloc (E2 (.iface t2 y2) n2)).alloc O7):=Q0 w _ _ _;have a7:(((w.alloc (E2 (.iface t1 y1) n1)).alloc (E2 (.iface t2 y2) n2)).alloc O7).heap.size=w.heap.size+1+1+1:=by simp
 have l:=Vars3.start w (.iface t1 y1) (.iface t2 y2) n1 n2;have A:Old (((w.alloc (E2 (.iface t1 y1) n1)).alloc (E2 (.iface t2 y2) n2)).alloc O7) G:=fun k c=>Ll (f k c) h.size;obtain⟨a1,a2,L⟩:=(i.below f h).nt A (by omega);obtain⟨P',Q',M⟩:=(j.below f h).nt A (by omega);have K:=jQd _ n1 n2 a1 a2 P' Q' a b i.wd j.wd L M;obtain⟨n,o,p,q⟩:=l.v1.two;obtain⟨s,t,u,x⟩:=l.v2.two;have I:Hid (∀W,Bw w W->Tx W G (.iface t1 y1) n1 a/\Tx W G (.iface t2 y2) n2 b):=fun W O=>⟨i.below f O,j.below f O⟩;have Z:Hid _:=l;have V:Hid _:=h;clear i j L M l h A;go_enter Tryz.func152,Tryz.ntmps152;go_wp2_with fail;refine K.mono ?_;clear K;generalize ((w.alloc (E2 (.iface t1 y1) n1)).alloc (E2 (.iface t2 y2) n2)).alloc O7=W0 at *;rintro e U ⟨z,rfl,T,C⟩;have g:=Bj V.out C;have J:Hid (z=true↔¬Ls.fXb (Ls.eX5 a) (Ls.eX5 b)):=T;have a8:=C.size;clear T;cases z with
 | false=>
  have a6:=cQ8 a3 U (hc.below g);go_wp2_with fail;refine a6.mono ?_;rintro e d ⟨rfl,rfl⟩;go_wp2_with fail;exact⟨rfl,.inr ⟨fun a4=>(by have:=J.out.2 a4;cases this),rfl,g⟩⟩
 | true=>
  have m:=Z.out.below C;clear n o p q s t u x;obtain⟨n,o,p,q⟩:=m.v1.two;obtain⟨s,t,u,x⟩:=m.v2.two;have a0:Hid _:=m;clear m;go_wp2_with fail;refine(fQb U).mono ?_;rintro e d ⟨rfl,rfl⟩;go_wp2_with fail;refine(zQu t1 t2 y1 y2 d).mono ?_;rintro e w3 ⟨rfl,rfl⟩;have B:Old d G:=fun k c=>Ll (f k c) g.size;have E:=A5 d (.cells #[.iface t1 y1,.iface t2 y2] 89);have N:=aQ6 (Ls.fXi a b) (by rw[Ls.fXi,Y8,Y8,V5];omega) (by rw[Ls.hXp];exact a5) (d.alloc (.cells #[.iface t1 y1,.iface t2 y2] 89)) _ (Gn.old B E.size) _ _ (bXa B (I.out d g).1.rep (I.out d g).2.rep);have a9:(d.alloc (.cells #[.iface t1 y1,.iface t2 y2] 89)).heap.size=d.heap.size+1:=by simp
  have X:Hid _:=E;clear E B;go_wp2_with fail;refine N.mono ?_;clear N;generalize d.alloc (.cells #[.iface t1 y1,.iface t2 y2] 89)=w3 at *;rintro e w4 ⟨H,y,F,rfl,R,P⟩;have Q:=Bj X.out P;have S:=a0.out.below Q;obtain⟨r0,r1,s0,s1⟩:=S.r.two;have Y:Hid (TxPost w G (Ls.fXi a b) (.returned (C8 (.iface H y) F)) ((w4.setCell ⟨w.heap.size+1+1,0,none⟩ (.iface H y)).setCell ⟨w.heap.size+1+1,1,none⟩ (Pt F))):=by
   have b0:=P.size;refine TxPost.up R (fun k c=>?_) (Bj g Q) (by omega) rfl;rcases c with (c|c)|c
   ·have:=f k c;exact⟨by omega,.inl c⟩
   ·exact⟨by omega,.inr ⟨by omega,by omega⟩⟩
   ·exact⟨by omega,.inr ⟨by omega,by omega⟩⟩
  clear S R n o p q s t u x;go_wp2_with fail;exact bodyPost_ret (v:=C8 (.iface H y) F) (by simp[results,Tryz.results152,go_sem,r0,r1]) rfl (.inl ⟨J.out.1 (by simp),Y.out⟩)
theorem kQa (b:Ls.D)(Q:Ls.dsize a+Ls.dsize b<=24)(V:dn a+dn b<=100000)(w:World)(G:Nat->Prop)(g:Old w G)(p:Tx w G (.iface t1 y1) n1 a)(q:Tx w G (.iface t2 y2) n2 b) :
  Calls Tryz.prog 135 #[C8 (.iface t1 y1) n1,C8 (.iface t2 y2) n2] w (TxPost w G (Ls.fXv a b)):=by
 have u:Bw w (((w.alloc (E2 (.iface t1 y1) n1)).alloc (E2 (.iface t2 y2) n2)).alloc O7):=Q0 w _ _ _;have l:(((w.alloc (E2 (.iface t1 y1) n1)).alloc (E2 (.iface t2 y2) n2)).alloc O7).heap.size=w.heap.size+1+1+1:=by simp
 have h:=Vars3.start w (.iface t1 y1) (.iface t2 y2) n1 n2;obtain⟨I,J,K,L⟩:=h.v1.two;obtain⟨M,N,O,P⟩:=h.v2.two;have o:Hid (∀W,Bw w W->Tx W G (.iface t1 y1) n1 a/\Tx W G (.iface t2 y2) n2 b):=fun W t=>⟨p.below g t,q.below g t⟩;have H:Hid ((((w.alloc (E2 (.iface t1 y1) n1)).alloc (E2 (.iface t2 y2) n2)).alloc O7).heap.size=w.heap.size+1+1+1):=l;have F:Hid _:=h;have f:Hid _:=u;clear p q h u l;go_enter Tryz.func135,Tryz.ntmps135;go_wp2_with fail;generalize ((w.alloc (E2 (.iface t1 y1) n1)).alloc (E2 (.iface t2 y2) n2)).alloc O7=c at *;refine(zQw t1 t2 y1 y2 c).mono ?_;rintro e T ⟨rfl,rfl⟩;have i:Old c G:=fun k d=>Ll (g k d) f.out.size;have j:=A5 c (.cells #[.iface t1 y1,.iface t2 y2] 89);have s:=aQ6 (Ls.fXv a b) (by rw[Ls.fXv,bQ1,bQ2];omega) (by rw[Ls.hXq];exact Q) (c.alloc (.cells #[.iface t1 y1,.iface t2 y2] 89)) _ (Gn.old i j.size) _ _ (bXb i (o.out c f.out).1.rep (o.out c f.out).2.rep);have X:(c.alloc (.cells #[.iface t1 y1,.iface t2 y2] 89)).heap.size=c.heap.size+1:=by simp
 have C:Hid _:=j;clear j i;go_wp2_with fail;refine s.mono ?_;clear s;generalize c.alloc (.cells #[.iface t1 y1,.iface t2 y2] 89)=T at *;rintro e U ⟨n,y,m,rfl,A,x⟩;have z:=Bj C.out x;have B:=F.out.below z;obtain⟨R,S,Z,s1⟩:=B.r.two;have E:Hid (TxPost w G (Ls.fXv a b) (.returned (C8 (.iface n y) m)) ((U.setCell ⟨w.heap.size+1+1,0,none⟩ (.iface n y)).setCell ⟨w.heap.size+1+1,1,none⟩ (Pt m))):=by
  have Y:=x.size;have l:=H.out;refine TxPost.up A (fun k d=>?_) (Bj f.out z) (by omega) rfl;rcases d with (d|d)|d
  ·have:=g k d;exact⟨by omega,.inl d⟩
  ·exact⟨by omega,.inr ⟨by omega,by omega⟩⟩
  ·exact⟨by omega,.inr ⟨by omega,by omega⟩⟩
 clear B A I J K L M N O P;go_wp2_with fail;exact bodyPost_ret (v:=C8 (.iface n y) m) (by simp[results,Tryz.results135,go_sem,R,S]) rfl E.out
theorem cQ6 (h:Tx w G v nb d)(j:Ls.dsize d<=24)(hs:s.size<=1048576) :
  Calls Tryz.prog 83 #[Pt nb,.string s] w fun e w'=>∃b:Bool,e=.returned (.bool b)/\(b=true↔Ls.inL (Ls.eX5 d) s.data.toList)/\Bw w w':=by
 obtain⟨B,P,Q,a,_⟩:=h.net;obtain⟨g,i,_,_⟩:=bQw h.wd (n:=I7) rfl (by simp[I7];omega);refine(oQ6 w B nb P _ Q s _ a g i hs).mono ?_;rintro e w' ⟨b,rfl,c,f⟩;exact⟨b,rfl,c.trans (lQc h.wd _),f⟩
theorem lQo (E:Ls.dsize a<=24)(hn:dn a<=100000)(w:World)(G:Nat->Prop)(i:Old w G)(hc:EType w a3)(h1:Tx w G (.iface t1 y1) n1 a) :
  Calls Tryz.prog 193 #[C8 (.iface t1 y1) n1] w (aQp w G a3 (¬Ls.inL (Ls.eX5 a) []/\¬Ls.fXb (Ls.eX5 a) (Ls.eX5 (Ls.rep 5 a))) (Ls.rep 5 a)):=by
 have F:Bw w ((w.alloc (E2 (.iface t1 y1) n1)).alloc O7):=C6 w _ _;have c0:((w.alloc (E2 (.iface t1 y1) n1)).alloc O7).heap.size=w.heap.size+1+1:=by simp
 have S:Blk ((w.alloc (E2 (.iface t1 y1) n1)).alloc O7) w.heap.size #[.iface t1 y1,Pt n1] 92:=(Blk.new w _ _).of (Below.heap_alloc _ _ _ (by simp));have hr:Blk ((w.alloc (E2 (.iface t1 y1) n1)).alloc O7) (w.heap.size+1) #[.nilIface,.pointer none] 92:=by
  have:=Blk.new (w.alloc (E2 (.iface t1 y1) n1)) #[.nilIface,.pointer none] 92;rw[World.size_alloc]at this;exact this
 have hO:Old ((w.alloc (E2 (.iface t1 y1) n1)).alloc O7) G:=fun k c=>Ll (i k c) F.size;have t:Hid (∀W,Bw w W->Tx W G (.iface t1 y1) n1 a):=fun W hW=>h1.below i hW;have a2:=aQ6 (Ls.rep 5 a) (by rw[aQw];omega) (by rw[Ls.fX5];exact E) _ G hO _ _ (Rep.rep (.inl rfl) (t.out _ F).rep);obtain⟨n,o,p,q⟩:=S.two;have HV:Hid (Blk ((w.alloc (E2 (.iface t1 y1) n1)).alloc O7) w.heap.size #[.iface t1 y1,Pt n1] 92):=S;have b4:Hid (Blk ((w.alloc (E2 (.iface t1 y1) n1)).alloc O7) (w.heap.size+1) #[.nilIface,.pointer none] 92):=hr;have V:Hid _:=F;clear h1 S hr F hO;go_enter Tryz.func193,Tryz.ntmps193;go_wp2_with fail;refine(lQn t1 y1 _).mono ?_;rintro e w0 ⟨rfl,rfl⟩;go_wp2_with fail;refine a2.mono ?_;clear a2;generalize (w.alloc (E2 (.iface t1 y1) n1)).alloc O7=Z at *;rintro e g ⟨f,y,d,rfl,ht,H⟩;have b7:=Bj V.out H;have r:=A5 g (E2 (.iface f y) d);have U:Blk (g.alloc (E2 (.iface f y) d)) g.heap.size #[.iface f y,Pt d] 92:=Blk.new g _ _;have b8:=H.size;have c1:(g.alloc (E2 (.iface f y) d)).heap.size=g.heap.size+1:=by simp
 have Q:=Bj b7 r;have T:=HV.out.below (Bj H r) (by omega);have a5:=b4.out.below (Bj H r) (by omega);have a7:=ht.below (Gn.old (fun k c=>Ll (i k c) V.out.size) b8) r;clear n o p q ht r;go_upto_region 2 with (fail);generalize g.alloc (E2 (.iface f y) d)=m at *;obtain⟨n,o,p,q⟩:=T.two;obtain⟨z,A,B,C⟩:=U.two;have Y:Hid (Blk m w.heap.size #[.iface t1 y1,Pt n1] 92):=T;have u:Hid (Blk m g.heap.size #[.iface f y,Pt d] 92):=U;have X:Hid (Blk m (w.heap.size+1) #[.nilIface,.pointer none] 92):=a5;have M:Hid (Tx m (Gn Z G g) (.iface f y) d (Ls.rep 5 a)):=a7;have L:Hid (Old m (Gn Z G g)):=fun k c=>by
  rcases c with h|h
  ·exact Ll (i k h) Q.size
  ·have:=h.2;omega
 have hM:=cQ6 ⟨#[]⟩ (t.out m Q) E (by decide);clear T U a5 a7;go_wp2_with fail;refine hM.mono ?_;clear hM;rintro e I ⟨b,rfl,a4,j⟩;have s:Hid (b=true↔Ls.inL (Ls.eX5 a) []):=a4;have l:=Bj Q j;have b9:=j.size;have a8:=Y.out.below j Y.out.lt;have a9:=u.out.below j u.out.lt;clear a4 n o p q z A B C;cases b with
 | true=>
  have K:Hid (¬(¬Ls.inL (Ls.eX5 a) []/\¬Ls.fXb (Ls.eX5 a) (Ls.eX5 (Ls.rep 5 a)))):=fun h=>h.1 (s.out.1 (by simp));have N:=cQ8 a3 I (hc.below l);clear s;go_wp2_with fail;refine N.mono ?_;rintro e J ⟨rfl,rfl⟩;go_wp2_with fail;exact⟨rfl,.inr ⟨K.out,rfl,l⟩⟩
 | false=>
  have K:Hid (¬Ls.inL (Ls.eX5 a) []):=fun h=>(by have:=s.out.2 h;cases this);obtain⟨n,o,p,q⟩:=a8.two;obtain⟨z,A,B,C⟩:=a9.two;obtain⟨b5,b6,a0⟩:=(t.out I l).nt (fun k c=>Ll (i k c) l.size) E;obtain⟨P',Q',a1⟩:=(M.out.below L.out j).nt (fun k c=>Ll (L.out k c) b9) (by rw[Ls.fX5];exact E);have hK:=jQd I n1 d b5 b6 P' Q' a (Ls.rep 5 a) (t.out I l).wd M.out.wd a0 a1;clear s a0 a1 a8 a9;go_wp2_with fail;refine hK.mono ?_;clear hK;rintro e J ⟨b1,rfl,hz,P⟩;have x:Hid (b1=true↔¬Ls.fXb (Ls.eX5 a) (Ls.eX5 (Ls.rep 5 a))):=hz;have R:=Bj l P;clear hz;cases b1 with
  | false=>
   have b2:Hid (¬(¬Ls.inL (Ls.eX5 a) []/\¬Ls.fXb (Ls.eX5 a) (Ls.eX5 (Ls.rep 5 a)))):=fun h=>(by have:=x.out.2 h.2;cases this);have N:=cQ8 a3 J (hc.below R);clear x;go_wp2_with fail;refine N.mono ?_;rintro e w5 ⟨rfl,rfl⟩;go_wp2_with fail;exact⟨rfl,.inr ⟨b2.out,rfl,R⟩⟩
  | true=>
   have b3:Hid (¬Ls.inL (Ls.eX5 a) []/\¬Ls.fXb (Ls.eX5 a) (Ls.eX5 (Ls.rep 5 a))):=⟨K.out,x.out.1 (by simp)⟩;have O:=Bj j P;have b0:=u.out.below O u.out.lt;have a6:=X.out.below O X.out.lt;clear n o p q z A B C x;obtain⟨z,A,B,C⟩:=b0.two;obtain⟨r0,r1,s0,s1⟩:=a6.two;have HP:Hid (TxPost w G (Ls.rep 5 a) (.returned (C8 (.iface f y) d)) ((J.setCell ⟨w.heap.size+1,0,none⟩ (.iface f y)).setCell ⟨w.heap.size+1,1,none⟩ (Pt d))):=by
    have c2:=P.size;refine TxPost.up (M.out.below L.out O) (fun k c=>?_) R (by omega) rfl;rcases c with c|c
    ·have:=i k c;exact⟨by omega,.inl c⟩
    ·exact⟨by omega,.inr ⟨by omega,by omega⟩⟩
   clear b0 a6;go_wp2_with fail;refine(fQb J).mono ?_;rintro e w5 ⟨rfl,rfl⟩;go_wp2_with fail;exact bodyPost_ret (v:=C8 (.iface f y) d) (by simp[results,Tryz.results193,go_sem,r0,r1]) rfl (.inl ⟨b3.out,HP.out⟩)
theorem Parts.below {d:World}{l:List Ls.D}{c:List Value}(h:Parts d w v l c)(b:Bw w w'):Parts d w' v l c:=by
 refine⟨h.own.kept (L5 b none) ?_,h.each.mono (fun k a=>⟨a.1,Ll a.2.1 b.size,a.2.2⟩) (fun k a=>b.block k a.2.1)⟩;cases e:v.ownBlock with
 | none=>exact .inl rfl
 | some k=>exact .inr (by simp)
theorem eXm (l:List UInt8):Ls.iXg l=(l.map fun c=>Ls.place [c]).foldr Ls.rcons Ls.rnil:=by
 induction l with
 | nil=>rfl
 | cons c l a=>rw[Ls.iXg,a];rfl
theorem lQ5 (hs:s.size<=120)(o:∀c∈s.data.toList,c.toNat<=126)(w:World) :
  Calls Tryz.prog 203 #[.string s] w fun e w'=>∃K,e=.returned (P5 K)/\Rep w' (B8 w w') 0 (Ls.iXg s.data.toList) [P5 K]/\Bw w w':=by
 have a4:Hid (∀c∈s.data.toList,c.toNat<=126):=o;have P:Hid (∀k (h:k<s.size),s.data.toList.take (k+1)=s.data.toList.take k++[s[k]]):=fun k h=>by
  have:=List.take_succ_eq_append_getElem (l:=s.data.toList) (i:=k) (by simpa using h);rw[this];rfl
 have M:Hid (∀k (h:k<s.size),s[k].toNat<=126):=fun k h=>o _ (by
  have:s[k]=s.data.toList[k]'(by simpa using h):=rfl;rw[this];exact List.getElem_mem _)
 have L:Hid (s.data.toList.length=s.size):=by show _=_;simp
 obtain⟨a2,V,W,X,Y⟩:=info_parts gQ8;clear o;go_enter Tryz.func203,Tryz.ntmps203;go_wp2_with fail;go_loopw [3,7] (fun a3 t wr=>∃(k:Nat) (b:List Value),k<=s.size/\t=Iv k/\Bw w wr/\b.length=k/\Parts w wr a3 ((s.data.toList.take k).map fun c=>Ls.place [c]) b) (fun _ t _=>s.size-(intOf t).toNat)
 case atStart=>exact⟨0,[],Nat.zero_le _,rfl,Br,rfl,Parts.nil _ _⟩
 case round=>
  obtain⟨k,b,hk,rfl,z,E,p⟩:=hrel;obtain⟨f,g,j,rfl⟩:=p.slice;have r:Hid (Parts w wr (.slice f g j) ((s.data.toList.take k).map fun c=>Ls.place [c]) b):=p;clear p
  by_cases F:k<s.size
  ·have a5:(0:Int)<=(k:Int):=by omega
   have Z:(k:Int)<(s.size:Int):=by omega
   have v:=lQ0 s[k] wr (M.out k F);have Q:Hid (s.data.toList.take (k+1)=s.data.toList.take k++[s[k]]):=P.out k F;go_wp2_with fail;refine v.mono ?_;generalize s[k]=c at *;rintro e d ⟨⟨lo,a,rfl,x⟩,y⟩;have A:=Bj z y;have a0:=A.size;have q:=(r.out.below y).alloc (.cells #[K3 lo a] 89);have C:Rep (d.alloc (.cells #[K3 lo a] 89)) (S7 w (d.alloc (.cells #[K3 lo a] 89)) (.slice f g j)) 0 (Ls.place [c]) [K3 lo a]:=.place x;have n:=q.own;have B:=bQa d (K3 lo a) 89;have S:Hid (Parts w (d.alloc (.cells #[K3 lo a] 89)) (.slice f g j) ((s.data.toList.take k).map fun c=>Ls.place [c]) b):=q;have R:Hid (Rep (d.alloc (.cells #[K3 lo a] 89)) (S7 w (d.alloc (.cells #[K3 lo a] 89)) (.slice f g j)) 0 (Ls.place [c]) [K3 lo a]):=C;clear q C v x;go_wp2_with (at_builtin;refine P8 _ rfl _ _ 182 rfl w.heap.size 89 a2 _ 1 16 Tryz.underlying182 V W X Y rfl (by omega) (.slice f g j) b.length b rfl n ⟨d.heap.size,0,none⟩ 1 1 [K3 lo a] rfl ?l1 B ?l0 ?l2 ?l3 ?l4 ?l5 ?_)
   case l1=>rfl
   case l0=>intro a6 I;simp at I;subst I;rfl
   case l2=>unfold maxLen;omega
   case l3=>omega
   case l4=>simp;omega
   case l5=>omega
   intro v' w' G m J;have T:Bw w w':=(A.alloc a0 (.cells #[K3 lo a] 89)).grown m (by simp;omega) (fun a1 e=>(n.lt a1 e).1);have N:Hid (Parts w w' v' ((s.data.toList.take (k+1)).map fun c=>Ls.place [c]) (b++[K3 lo a])):=by
    show Parts _ _ _ _ _;rw[Q.out,List.map_append];exact S.out.push R.out m (by rw[E];exact G) (by simpa using J)
   clear m G J n B;go_wp2_with fail;go_roundw
   case rel=>exact⟨k+1,b++[K3 lo a],by omega,by go_num,T,by simp[E],N.out⟩
   case measure=>simp[intOf];omega
  ·have Z:¬(k:Int)<(s.size:Int):=by omega
   have U:k=s.size:=by omega
   have O:Hid (Rep wr (B8 w wr) 0 (Ls.iXg s.data.toList) [P5 (.slice f g j)]):=by
    have H:=r.out.shows;show Rep _ _ _ _ _;rw[eXm];have u:=H.2.row;rw[List.take_of_length_le (by rw[L.out];omega)]at u;exact .row H.1 u
   clear U;go_wp2_with fail;go_ret;exact⟨_,rfl,O.out,z⟩
end Go.Proofs.YtfklinjaajafgaaGreatDoor
