import Derived.Test.YtfklinjaajafgaaGreatDoorK18
set_option maxRecDepth 100000
set_option maxHeartbeats 4000000
namespace Go.Proofs.YtfklinjaajafgaaGreatDoor
open Ls hiding none
open Go.RowKit
variable {W:World}{res:Rd}(s:By)(D:Nat)(c:UInt8)(pb i z:Nat)(w:World)
def PPost (w:World)(pb:Nat)(s:By)(i z:Nat)(res:Rd):Ending->World->Prop:=fun e w'=>
 (∃d t y,res=some (d,t)/\e=.returned (B4 (eX5 d) y)/\PV w' (B8 w w') (eX5 d) y/\Left w pb s (s.size-t.length) (z+dsize d) false w')\/
 (res=.none/\∃p y i' z',e=.returned (B4 p y)/\PV w' (B8 w w') p y/\i<=i'/\i'<=s.size+1/\z'<=z+(i'-i)/\Left w pb s i' z' true w')
def Y1 (s:By)(D:Nat):Prop:=∀(pb i z:Nat) (w:World),PB w pb s i z false->i<=s.size->z<=1048576+i->
 Ca 39 #[.pointer (some ⟨pb,0,none⟩),.int .i64 (D:Int)] w (PPost w pb s i z (pat (13-D) (rest s i)))
def iQy (s:By)(D:Nat):Prop:=∀(pb i z:Nat) (w:World),PB w pb s i z false->i<s.size->z<=1048576+i->
 Ca 118 #[.pointer (some ⟨pb,0,none⟩),.int .i64 (D:Int)] w (PPost w pb s i z (fXg (pat (12-D)) (rest s i)))
theorem R4 (G:Nat->Prop)(k:Nat)(s:Lu):PV w G ⟨k,s,[]⟩ (.slice none 0 0):=by simp[PV]
theorem fQj {w:World}{a:Nat}{s:By}{i z j:Nat}{b:Lu}(d:res=some (Ls.place b,rest s j))(e:j<=s.size)(c:Left w a s j (z+1) false W) :
  PPost w a s i z res (.returned (B4 (Ls.set b) (.slice none 0 0))) W:=by
 refine .inl ⟨_,_,_,d,by rw[fX7],by rw[fX7];exact R4 _ _ _ _,?_⟩;rw[F4,gXe,show s.size-(s.size-j)=j from by omega];exact c
theorem T6 {w:World}{c:Nat}{s:By}{i z a b:Nat}(h:res=.none)(g:Left w c s a b true W)(d:i<=a)(e:a<=s.size+1)(f:b<=z+(a-i)) :
  PPost w c s i z res (.returned (B4 Ls.none (.slice none 0 0))) W:=
 .inr ⟨h,_,_,a,b,rfl,R4 _ _ _ _,d,e,f,g⟩
theorem yQk (hs:s.size<=1048576)(h:PB w pb s i z false)(k:i<s.size)(C:z<=1048576+i)(d:nx s i=46) :
  Calls Tryz.prog 118 #[Pt pb,Iv (D:Int)] w (PPost w pb s i z (fXg (pat (12-D)) (rest s i))):=by
 have l:=h.lt;have A:¬w.heap.size=pb:=by omega
 have B:¬pb=w.heap.size:=by omega
 have g:Hid (fXg (pat (12-D)) (rest s i)=some (Ls.place az,rest s (i+1))):=by
  show _=_;rw[D4 k,d];rfl
 have j:Hid (nx s i=46):=d;clear d;have y:=K5;go_enter Tryz.func118,Tryz.ntmps118;go_wp2_with fail;refine(G5 i pb s z false _ (h.below (A5 _ _)) (by omega) (by omega)).mono ?_;rw[j.out];rintro e I ⟨rfl,f⟩;go_wp2_with fail;refine(M7 46 _).mono ?_;rintro e J ⟨rfl,rfl⟩;have b:=(Left.of_below h (A5 w (.cells #[Iv 0,.string ⟨#[]⟩,.slice none 0 0] 27))).below f;have c:=(C7 w [Iv 0,.string ⟨#[]⟩,.slice none 0 0]).below f (by simp);have E:=c.lt;obtain⟨m,n,o⟩:=c.three (a:=Ls.none);have t:=c.fr 0;have u:=c.fr 1;have x:=c.fr 2;have p:=b.lies.fr 1;have F:=b.lies.c1;have q:=b.lies.fr 2;have G:=b.lies.c2;have r:=b.lies.fr 3;have H:=b.lies.c3;go_wp2_with fail;exact bodyPost_ret (v:=B4 (Ls.set az) (.slice none 0 0)) (by simp[results,Tryz.results118,go_sem,m,n,o,Ls.set,az]) rfl (fQj g.out (by omega) (((b.set1 (i+1)).set2 (z+1)).res (Nat.le_refl _) l _ _ _))
theorem yQp (hs:s.size<=1048576)(h:PB w pb s i z false)(n:i<s.size)(J:z<=1048576+i)(b:∀x,x∈([40,91,46,92,41,93,42,43,63,124,47,34]:Lu)->c≠x)(p:gXu c=true)(j:nx s i=c) :
  Calls Tryz.prog 118 #[Pt pb,Iv (D:Int)] w (PPost w pb s i z (fXg (pat (12-D)) (rest s i))):=by
 have o:=h.lt;have H:¬w.heap.size=pb:=by omega
 have I:¬pb=w.heap.size:=by omega
 have l:Hid (fXg (pat (12-D)) (rest s i)=some (Ls.place [c],rest s (i+1))):=by
  show _=_;rw[D4 n,j];unfold fXg;dsimp only;rw[if_neg (b 40 (by decide)),if_neg (b 91 (by decide)),if_neg (b 46 (by decide)),if_neg (b 92 (by decide)),if_neg];rintro (d|d)
  ·simp only[jX8,Bool.or_eq_true,beq_iff_eq]at d
   rcases d with ((((((d|d)|d)|d)|d)|d)|d)|d<;>exact b _ (by decide) d
  ·rw[p]at d;cases d
 have P:((c.toNat:Int)==40)=false:=by rw[beq_eq_false_iff_ne];intro e;exact b 40 (by decide) (UInt8.toNat_inj.1 (by simp;omega))
 have W:((c.toNat:Int)==91)=false:=by rw[beq_eq_false_iff_ne];intro e;exact b 91 (by decide) (UInt8.toNat_inj.1 (by simp;omega))
 have T:((c.toNat:Int)==46)=false:=by rw[beq_eq_false_iff_ne];intro e;exact b 46 (by decide) (UInt8.toNat_inj.1 (by simp;omega))
 have X:((c.toNat:Int)==92)=false:=by rw[beq_eq_false_iff_ne];intro e;exact b 92 (by decide) (UInt8.toNat_inj.1 (by simp;omega))
 have Q:((c.toNat:Int)==41)=false:=by rw[beq_eq_false_iff_ne];intro e;exact b 41 (by decide) (UInt8.toNat_inj.1 (by simp;omega))
 have Y:((c.toNat:Int)==93)=false:=by rw[beq_eq_false_iff_ne];intro e;exact b 93 (by decide) (UInt8.toNat_inj.1 (by simp;omega))
 have R:((c.toNat:Int)==42)=false:=by rw[beq_eq_false_iff_ne];intro e;exact b 42 (by decide) (UInt8.toNat_inj.1 (by simp;omega))
 have S:((c.toNat:Int)==43)=false:=by rw[beq_eq_false_iff_ne];intro e;exact b 43 (by decide) (UInt8.toNat_inj.1 (by simp;omega))
 have V:((c.toNat:Int)==63)=false:=by rw[beq_eq_false_iff_ne];intro e;exact b 63 (by decide) (UInt8.toNat_inj.1 (by simp;omega))
 have N:((c.toNat:Int)==124)=false:=by rw[beq_eq_false_iff_ne];intro e;exact b 124 (by decide) (UInt8.toNat_inj.1 (by simp;omega))
 have U:((c.toNat:Int)==47)=false:=by rw[beq_eq_false_iff_ne];intro e;exact b 47 (by decide) (UInt8.toNat_inj.1 (by simp;omega))
 have O:((c.toNat:Int)==34)=false:=by rw[beq_eq_false_iff_ne];intro e;exact b 34 (by decide) (UInt8.toNat_inj.1 (by simp;omega))
 clear b;have m:Hid (nx s i=c):=j;clear j;have G:=K5;go_enter Tryz.func118,Tryz.ntmps118;go_wp2_with fail;refine(G5 i pb s z false _ (h.below (A5 _ _)) (by omega) (by omega)).mono ?_;rw[m.out];rintro e Z ⟨rfl,k⟩;go_wp2_with fail;refine(M7 c _).mono ?_;rintro e w2 ⟨rfl,rfl⟩;have f:=(Left.of_below h (A5 w (.cells #[Iv 0,.string ⟨#[]⟩,.slice none 0 0] 27))).below k;have g:=(C7 w [Iv 0,.string ⟨#[]⟩,.slice none 0 0]).below k (by simp);have q:=g.lt;obtain⟨r,t,u⟩:=g.three (a:=Ls.none);have C:=g.fr 0;have E:=g.fr 1;have F:=g.fr 2;have y:=f.lies.fr 1;have K:=f.lies.c1;have A:=f.lies.fr 2;have L:=f.lies.c2;have B:=f.lies.fr 3;have M:=f.lies.c3;go_wp2_with fail;exact bodyPost_ret (v:=B4 (Ls.set [c]) (.slice none 0 0)) (by simp[results,Tryz.results118,go_sem,r,t,u,q,Ls.set]) rfl (fQj l.out (by omega) ((((f.set1 (i+1)).set2 (z+1)).res (Nat.le_refl _) o _ _ _).below (A5 _ _)))
theorem yQn (hs:s.size<=1048576)(h:PB w pb s i z false)(m:i<s.size)(H:z<=1048576+i)(b:∀x,x∈([40,91,46,92,41,93,42,43,63,124,47,34]:Lu)->c≠x)(o:gXu c=false)(g:nx s i=c) :
  Calls Tryz.prog 118 #[Pt pb,Iv (D:Int)] w (PPost w pb s i z (fXg (pat (12-D)) (rest s i))):=by
 have n:=h.lt;have F:¬w.heap.size=pb:=by omega
 have G:¬pb=w.heap.size:=by omega
 have k:Hid (fXg (pat (12-D)) (rest s i)=.none):=by
  show _=_;rw[D4 m,g];unfold fXg;dsimp only;rw[if_neg (b 40 (by decide)),if_neg (b 91 (by decide)),if_neg (b 46 (by decide)),if_neg (b 92 (by decide)),if_pos (Or.inr o)]
 have O:((c.toNat:Int)==40)=false:=by rw[beq_eq_false_iff_ne];intro e;exact b 40 (by decide) (UInt8.toNat_inj.1 (by simp;omega))
 have V:((c.toNat:Int)==91)=false:=by rw[beq_eq_false_iff_ne];intro e;exact b 91 (by decide) (UInt8.toNat_inj.1 (by simp;omega))
 have S:((c.toNat:Int)==46)=false:=by rw[beq_eq_false_iff_ne];intro e;exact b 46 (by decide) (UInt8.toNat_inj.1 (by simp;omega))
 have W:((c.toNat:Int)==92)=false:=by rw[beq_eq_false_iff_ne];intro e;exact b 92 (by decide) (UInt8.toNat_inj.1 (by simp;omega))
 have P:((c.toNat:Int)==41)=false:=by rw[beq_eq_false_iff_ne];intro e;exact b 41 (by decide) (UInt8.toNat_inj.1 (by simp;omega))
 have X:((c.toNat:Int)==93)=false:=by rw[beq_eq_false_iff_ne];intro e;exact b 93 (by decide) (UInt8.toNat_inj.1 (by simp;omega))
 have Q:((c.toNat:Int)==42)=false:=by rw[beq_eq_false_iff_ne];intro e;exact b 42 (by decide) (UInt8.toNat_inj.1 (by simp;omega))
 have R:((c.toNat:Int)==43)=false:=by rw[beq_eq_false_iff_ne];intro e;exact b 43 (by decide) (UInt8.toNat_inj.1 (by simp;omega))
 have U:((c.toNat:Int)==63)=false:=by rw[beq_eq_false_iff_ne];intro e;exact b 63 (by decide) (UInt8.toNat_inj.1 (by simp;omega))
 have M:((c.toNat:Int)==124)=false:=by rw[beq_eq_false_iff_ne];intro e;exact b 124 (by decide) (UInt8.toNat_inj.1 (by simp;omega))
 have T:((c.toNat:Int)==47)=false:=by rw[beq_eq_false_iff_ne];intro e;exact b 47 (by decide) (UInt8.toNat_inj.1 (by simp;omega))
 have N:((c.toNat:Int)==34)=false:=by rw[beq_eq_false_iff_ne];intro e;exact b 34 (by decide) (UInt8.toNat_inj.1 (by simp;omega))
 clear b;have l:Hid (nx s i=c):=g;clear g;have E:=K5;go_enter Tryz.func118,Tryz.ntmps118;go_wp2_with fail;refine(G5 i pb s z false _ (h.below (A5 _ _)) (by omega) (by omega)).mono ?_;rw[l.out];rintro e Y ⟨rfl,j⟩;go_wp2_with fail;refine(M7 c _).mono ?_;rintro e Z ⟨rfl,rfl⟩;have d:=(Left.of_below h (A5 w (.cells #[Iv 0,.string ⟨#[]⟩,.slice none 0 0] 27))).below j;have f:=(C7 w [Iv 0,.string ⟨#[]⟩,.slice none 0 0]).below j (by simp);have I:=f.lt;obtain⟨p,q,r⟩:=f.three (a:=Ls.none);have A:=f.fr 0;have B:=f.fr 1;have C:=f.fr 2;have t:=d.lies.fr 1;have J:=d.lies.c1;have u:=d.lies.fr 2;have K:=d.lies.c2;have y:=d.lies.fr 3;have L:=d.lies.c3;go_wp2_with fail;exact bodyPost_ret (v:=B4 Ls.none (.slice none 0 0)) (by simp[results,Tryz.results118,go_sem,p,q,r,Ls.none]) rfl (T6 k.out ((((d.set1 (i+1)).set2 (z+1)).set3 true).res (Nat.le_refl _) n _ _ _) (by omega) (by omega) (by omega))
theorem yQd (hs:s.size<=1048576)(h:PB w pb s i z false)(k:i<s.size)(C:z<=1048576+i)(d:nx s i=41) :
  Calls Tryz.prog 118 #[Pt pb,Iv (D:Int)] w (PPost w pb s i z (fXg (pat (12-D)) (rest s i))):=by
 have l:=h.lt;have A:¬w.heap.size=pb:=by omega
 have B:¬pb=w.heap.size:=by omega
 have g:Hid (fXg (pat (12-D)) (rest s i)=.none):=by
  show _=_;rw[D4 k,d];rfl
 have j:Hid (nx s i=41):=d;clear d;have y:=K5;go_enter Tryz.func118,Tryz.ntmps118;go_wp2_with fail;refine(G5 i pb s z false _ (h.below (A5 _ _)) (by omega) (by omega)).mono ?_;rw[j.out];rintro e I ⟨rfl,f⟩;go_wp2_with fail;refine(M7 41 _).mono ?_;rintro e J ⟨rfl,rfl⟩;have b:=(Left.of_below h (A5 w (.cells #[Iv 0,.string ⟨#[]⟩,.slice none 0 0] 27))).below f;have c:=(C7 w [Iv 0,.string ⟨#[]⟩,.slice none 0 0]).below f (by simp);have E:=c.lt;obtain⟨m,n,o⟩:=c.three (a:=Ls.none);have t:=c.fr 0;have u:=c.fr 1;have x:=c.fr 2;have p:=b.lies.fr 1;have F:=b.lies.c1;have q:=b.lies.fr 2;have G:=b.lies.c2;have r:=b.lies.fr 3;have H:=b.lies.c3;go_wp2_with fail;exact bodyPost_ret (v:=B4 Ls.none (.slice none 0 0)) (by simp[results,Tryz.results118,go_sem,m,n,o,Ls.none]) rfl (T6 g.out ((((b.set1 (i+1)).set2 (z+1)).set3 true).res (Nat.le_refl _) l _ _ _) (by omega) (by omega) (by omega))
theorem yQi (hs:s.size<=1048576)(h:PB w pb s i z false)(k:i<s.size)(C:z<=1048576+i)(d:nx s i=93) :
  Calls Tryz.prog 118 #[Pt pb,Iv (D:Int)] w (PPost w pb s i z (fXg (pat (12-D)) (rest s i))):=by
 have l:=h.lt;have A:¬w.heap.size=pb:=by omega
 have B:¬pb=w.heap.size:=by omega
 have g:Hid (fXg (pat (12-D)) (rest s i)=.none):=by
  show _=_;rw[D4 k,d];rfl
 have j:Hid (nx s i=93):=d;clear d;have y:=K5;go_enter Tryz.func118,Tryz.ntmps118;go_wp2_with fail;refine(G5 i pb s z false _ (h.below (A5 _ _)) (by omega) (by omega)).mono ?_;rw[j.out];rintro e I ⟨rfl,f⟩;go_wp2_with fail;refine(M7 93 _).mono ?_;rintro e J ⟨rfl,rfl⟩;have b:=(Left.of_below h (A5 w (.cells #[Iv 0,.string ⟨#[]⟩,.slice none 0 0] 27))).below f;have c:=(C7 w [Iv 0,.string ⟨#[]⟩,.slice none 0 0]).below f (by simp);have E:=c.lt;obtain⟨m,n,o⟩:=c.three (a:=Ls.none);have t:=c.fr 0;have u:=c.fr 1;have x:=c.fr 2;have p:=b.lies.fr 1;have F:=b.lies.c1;have q:=b.lies.fr 2;have G:=b.lies.c2;have r:=b.lies.fr 3;have H:=b.lies.c3;go_wp2_with fail;exact bodyPost_ret (v:=B4 Ls.none (.slice none 0 0)) (by simp[results,Tryz.results118,go_sem,m,n,o,Ls.none]) rfl (T6 g.out ((((b.set1 (i+1)).set2 (z+1)).set3 true).res (Nat.le_refl _) l _ _ _) (by omega) (by omega) (by omega))
theorem yQe (hs:s.size<=1048576)(h:PB w pb s i z false)(k:i<s.size)(C:z<=1048576+i)(d:nx s i=42) :
  Calls Tryz.prog 118 #[Pt pb,Iv (D:Int)] w (PPost w pb s i z (fXg (pat (12-D)) (rest s i))):=by
 have l:=h.lt;have A:¬w.heap.size=pb:=by omega
 have B:¬pb=w.heap.size:=by omega
 have g:Hid (fXg (pat (12-D)) (rest s i)=.none):=by
  show _=_;rw[D4 k,d];rfl
 have j:Hid (nx s i=42):=d;clear d;have y:=K5;go_enter Tryz.func118,Tryz.ntmps118;go_wp2_with fail;refine(G5 i pb s z false _ (h.below (A5 _ _)) (by omega) (by omega)).mono ?_;rw[j.out];rintro e I ⟨rfl,f⟩;go_wp2_with fail;refine(M7 42 _).mono ?_;rintro e J ⟨rfl,rfl⟩;have b:=(Left.of_below h (A5 w (.cells #[Iv 0,.string ⟨#[]⟩,.slice none 0 0] 27))).below f;have c:=(C7 w [Iv 0,.string ⟨#[]⟩,.slice none 0 0]).below f (by simp);have E:=c.lt;obtain⟨m,n,o⟩:=c.three (a:=Ls.none);have t:=c.fr 0;have u:=c.fr 1;have x:=c.fr 2;have p:=b.lies.fr 1;have F:=b.lies.c1;have q:=b.lies.fr 2;have G:=b.lies.c2;have r:=b.lies.fr 3;have H:=b.lies.c3;go_wp2_with fail;exact bodyPost_ret (v:=B4 Ls.none (.slice none 0 0)) (by simp[results,Tryz.results118,go_sem,m,n,o,Ls.none]) rfl (T6 g.out ((((b.set1 (i+1)).set2 (z+1)).set3 true).res (Nat.le_refl _) l _ _ _) (by omega) (by omega) (by omega))
theorem yQf (hs:s.size<=1048576)(h:PB w pb s i z false)(k:i<s.size)(C:z<=1048576+i)(d:nx s i=43) :
  Calls Tryz.prog 118 #[Pt pb,Iv (D:Int)] w (PPost w pb s i z (fXg (pat (12-D)) (rest s i))):=by
 have l:=h.lt;have A:¬w.heap.size=pb:=by omega
 have B:¬pb=w.heap.size:=by omega
 have g:Hid (fXg (pat (12-D)) (rest s i)=.none):=by
  show _=_;rw[D4 k,d];rfl
 have j:Hid (nx s i=43):=d;clear d;have y:=K5;go_enter Tryz.func118,Tryz.ntmps118;go_wp2_with fail;refine(G5 i pb s z false _ (h.below (A5 _ _)) (by omega) (by omega)).mono ?_;rw[j.out];rintro e I ⟨rfl,f⟩;go_wp2_with fail;refine(M7 43 _).mono ?_;rintro e J ⟨rfl,rfl⟩;have b:=(Left.of_below h (A5 w (.cells #[Iv 0,.string ⟨#[]⟩,.slice none 0 0] 27))).below f;have c:=(C7 w [Iv 0,.string ⟨#[]⟩,.slice none 0 0]).below f (by simp);have E:=c.lt;obtain⟨m,n,o⟩:=c.three (a:=Ls.none);have t:=c.fr 0;have u:=c.fr 1;have x:=c.fr 2;have p:=b.lies.fr 1;have F:=b.lies.c1;have q:=b.lies.fr 2;have G:=b.lies.c2;have r:=b.lies.fr 3;have H:=b.lies.c3;go_wp2_with fail;exact bodyPost_ret (v:=B4 Ls.none (.slice none 0 0)) (by simp[results,Tryz.results118,go_sem,m,n,o,Ls.none]) rfl (T6 g.out ((((b.set1 (i+1)).set2 (z+1)).set3 true).res (Nat.le_refl _) l _ _ _) (by omega) (by omega) (by omega))
theorem yQh (hs:s.size<=1048576)(h:PB w pb s i z false)(k:i<s.size)(C:z<=1048576+i)(d:nx s i=63) :
  Calls Tryz.prog 118 #[Pt pb,Iv (D:Int)] w (PPost w pb s i z (fXg (pat (12-D)) (rest s i))):=by
 have l:=h.lt;have A:¬w.heap.size=pb:=by omega
 have B:¬pb=w.heap.size:=by omega
 have g:Hid (fXg (pat (12-D)) (rest s i)=.none):=by
  show _=_;rw[D4 k,d];rfl
 have j:Hid (nx s i=63):=d;clear d;have y:=K5;go_enter Tryz.func118,Tryz.ntmps118;go_wp2_with fail;refine(G5 i pb s z false _ (h.below (A5 _ _)) (by omega) (by omega)).mono ?_;rw[j.out];rintro e I ⟨rfl,f⟩;go_wp2_with fail;refine(M7 63 _).mono ?_;rintro e J ⟨rfl,rfl⟩;have b:=(Left.of_below h (A5 w (.cells #[Iv 0,.string ⟨#[]⟩,.slice none 0 0] 27))).below f;have c:=(C7 w [Iv 0,.string ⟨#[]⟩,.slice none 0 0]).below f (by simp);have E:=c.lt;obtain⟨m,n,o⟩:=c.three (a:=Ls.none);have t:=c.fr 0;have u:=c.fr 1;have x:=c.fr 2;have p:=b.lies.fr 1;have F:=b.lies.c1;have q:=b.lies.fr 2;have G:=b.lies.c2;have r:=b.lies.fr 3;have H:=b.lies.c3;go_wp2_with fail;exact bodyPost_ret (v:=B4 Ls.none (.slice none 0 0)) (by simp[results,Tryz.results118,go_sem,m,n,o,Ls.none]) rfl (T6 g.out ((((b.set1 (i+1)).set2 (z+1)).set3 true).res (Nat.le_refl _) l _ _ _) (by omega) (by omega) (by omega))
theorem yQb (hs:s.size<=1048576)(h:PB w pb s i z false)(k:i<s.size)(C:z<=1048576+i)(d:nx s i=124) :
  Calls Tryz.prog 118 #[Pt pb,Iv (D:Int)] w (PPost w pb s i z (fXg (pat (12-D)) (rest s i))):=by
 have l:=h.lt;have A:¬w.heap.size=pb:=by omega
 have B:¬pb=w.heap.size:=by omega
 have g:Hid (fXg (pat (12-D)) (rest s i)=.none):=by
  show _=_;rw[D4 k,d];rfl
 have j:Hid (nx s i=124):=d;clear d;have y:=K5;go_enter Tryz.func118,Tryz.ntmps118;go_wp2_with fail;refine(G5 i pb s z false _ (h.below (A5 _ _)) (by omega) (by omega)).mono ?_;rw[j.out];rintro e I ⟨rfl,f⟩;go_wp2_with fail;refine(M7 124 _).mono ?_;rintro e J ⟨rfl,rfl⟩;have b:=(Left.of_below h (A5 w (.cells #[Iv 0,.string ⟨#[]⟩,.slice none 0 0] 27))).below f;have c:=(C7 w [Iv 0,.string ⟨#[]⟩,.slice none 0 0]).below f (by simp);have E:=c.lt;obtain⟨m,n,o⟩:=c.three (a:=Ls.none);have t:=c.fr 0;have u:=c.fr 1;have x:=c.fr 2;have p:=b.lies.fr 1;have F:=b.lies.c1;have q:=b.lies.fr 2;have G:=b.lies.c2;have r:=b.lies.fr 3;have H:=b.lies.c3;go_wp2_with fail;exact bodyPost_ret (v:=B4 Ls.none (.slice none 0 0)) (by simp[results,Tryz.results118,go_sem,m,n,o,Ls.none]) rfl (T6 g.out ((((b.set1 (i+1)).set2 (z+1)).set3 true).res (Nat.le_refl _) l _ _ _) (by omega) (by omega) (by omega))
theorem yQg (hs:s.size<=1048576)(h:PB w pb s i z false)(k:i<s.size)(C:z<=1048576+i)(d:nx s i=47) :
  Calls Tryz.prog 118 #[Pt pb,Iv (D:Int)] w (PPost w pb s i z (fXg (pat (12-D)) (rest s i))):=by
 have l:=h.lt;have A:¬w.heap.size=pb:=by omega
 have B:¬pb=w.heap.size:=by omega
 have g:Hid (fXg (pat (12-D)) (rest s i)=.none):=by
  show _=_;rw[D4 k,d];rfl
 have j:Hid (nx s i=47):=d;clear d;have y:=K5;go_enter Tryz.func118,Tryz.ntmps118;go_wp2_with fail;refine(G5 i pb s z false _ (h.below (A5 _ _)) (by omega) (by omega)).mono ?_;rw[j.out];rintro e I ⟨rfl,f⟩;go_wp2_with fail;refine(M7 47 _).mono ?_;rintro e J ⟨rfl,rfl⟩;have b:=(Left.of_below h (A5 w (.cells #[Iv 0,.string ⟨#[]⟩,.slice none 0 0] 27))).below f;have c:=(C7 w [Iv 0,.string ⟨#[]⟩,.slice none 0 0]).below f (by simp);have E:=c.lt;obtain⟨m,n,o⟩:=c.three (a:=Ls.none);have t:=c.fr 0;have u:=c.fr 1;have x:=c.fr 2;have p:=b.lies.fr 1;have F:=b.lies.c1;have q:=b.lies.fr 2;have G:=b.lies.c2;have r:=b.lies.fr 3;have H:=b.lies.c3;go_wp2_with fail;exact bodyPost_ret (v:=B4 Ls.none (.slice none 0 0)) (by simp[results,Tryz.results118,go_sem,m,n,o,Ls.none]) rfl (T6 g.out ((((b.set1 (i+1)).set2 (z+1)).set3 true).res (Nat.le_refl _) l _ _ _) (by omega) (by omega) (by omega))
theorem yQc (hs:s.size<=1048576)(h:PB w pb s i z false)(k:i<s.size)(C:z<=1048576+i)(d:nx s i=34) :
  Calls Tryz.prog 118 #[Pt pb,Iv (D:Int)] w (PPost w pb s i z (fXg (pat (12-D)) (rest s i))):=by
 have l:=h.lt;have A:¬w.heap.size=pb:=by omega
 have B:¬pb=w.heap.size:=by omega
 have g:Hid (fXg (pat (12-D)) (rest s i)=.none):=by
  show _=_;rw[D4 k,d];rfl
 have j:Hid (nx s i=34):=d;clear d;have y:=K5;go_enter Tryz.func118,Tryz.ntmps118;go_wp2_with fail;refine(G5 i pb s z false _ (h.below (A5 _ _)) (by omega) (by omega)).mono ?_;rw[j.out];rintro e I ⟨rfl,f⟩;go_wp2_with fail;refine(M7 34 _).mono ?_;rintro e J ⟨rfl,rfl⟩;have b:=(Left.of_below h (A5 w (.cells #[Iv 0,.string ⟨#[]⟩,.slice none 0 0] 27))).below f;have c:=(C7 w [Iv 0,.string ⟨#[]⟩,.slice none 0 0]).below f (by simp);have E:=c.lt;obtain⟨m,n,o⟩:=c.three (a:=Ls.none);have t:=c.fr 0;have u:=c.fr 1;have x:=c.fr 2;have p:=b.lies.fr 1;have F:=b.lies.c1;have q:=b.lies.fr 2;have G:=b.lies.c2;have r:=b.lies.fr 3;have H:=b.lies.c3;go_wp2_with fail;exact bodyPost_ret (v:=B4 Ls.none (.slice none 0 0)) (by simp[results,Tryz.results118,go_sem,m,n,o,Ls.none]) rfl (T6 g.out ((((b.set1 (i+1)).set2 (z+1)).set3 true).res (Nat.le_refl _) l _ _ _) (by omega) (by omega) (by omega))
end Go.Proofs.YtfklinjaajafgaaGreatDoor
