import Derived.Test.YtfklinjaajafgaaGreatDoorTie
import Derived.Test.YtfklinjaajafgaaGreatDoorCards
import Derived.ShutString
import Derived.LaidMore
import Derived.Stop.LaidErr
import Derived.Test.YtfklinjaajafgaaGreatDoorK03
import Derived.Stop.Asserts
set_option maxRecDepth 100000
set_option maxHeartbeats 4000000
namespace Go.Proofs.YtfklinjaajafgaaGreatDoor
open Ls hiding none
open Go.ChangeShapes Go.WideShapes Go.ChangeAt Go.RowKit
open Go.ChangeMaps (open_string shut_string)
theorem own:ownKnob Tryz.prog.godebug=none:=by kernel_rfl
theorem gLong : Tryz.prog.globalNamed "lenses/reading.ErrLong" = some 0 := by kernel_rfl
theorem gSyntax : Tryz.prog.globalNamed "lenses/reading.ErrSyntax" = some 3 := by kernel_rfl
theorem gSize : Tryz.prog.globalNamed "lenses/reading.ErrSize" = some 1 := by kernel_rfl
theorem cX3:(Tryz.prog.globals[0]?).map (·.type)=some 80:=by kernel_rfl
theorem cX5:(Tryz.prog.globals[3]?).map (·.type)=some 80:=by kernel_rfl
theorem cX4:(Tryz.prog.globals[1]?).map (·.type)=some 80:=by kernel_rfl
theorem gType : Tryz.prog.globalNamed "lenses/programs.ErrType" = some 2 := by kernel_rfl
theorem cX6:(Tryz.prog.globals[2]?).map (·.type)=some 80:=by kernel_rfl
theorem eQc:Tryz.prog.cellsOf 274=1:=by kernel_rfl
theorem eQd:Tryz.prog.cellsOf 9=1:=by kernel_rfl
theorem starE : "*" ++ "errors.errorString" = "*errors.errorString" := by decide
theorem rowE (u : TypeId) (h : Tryz.prog.typeName? 3 u = some "*errors.errorString") : u = 251 :=
 typeName_ptr_named (nm := "errors.errorString") (by rw [starE]; kernel_rfl) (by kernel_rfl) (by decide) u (by rw [starE]; exact h)
structure Sent (w:World)(a0 a1 a2 a3:Addr):Prop where
 c0:Ce w 0 0 (.iface 251 (.pointer (some a0)))
 c1:Ce w 3 0 (.iface 251 (.pointer (some a1)))
 c2:Ce w 1 0 (.iface 251 (.pointer (some a2)))
 c3:Ce w 2 0 (.iface 251 (.pointer (some a3)))
 n01:a0≠a1
 n02:a0≠a2
 n12:a1≠a2
 n03:a0≠a3
 n13:a1≠a3
 n23:a2≠a3
 b0:∃c t,w.heap[a0.block]?=some (.cells c t (0,0))
 b1:∃c t,w.heap[a1.block]?=some (.cells c t (0,0))
 b2:∃c t,w.heap[a2.block]?=some (.cells c t (0,0))
 b3:∃c t,w.heap[a3.block]?=some (.cells c t (0,0))
def laid4 : List (String × DataW Unit) := [("lenses/reading.ErrLong", Rows.laid_lenses_reading_ErrLong), ("lenses/reading.ErrSyntax", Rows.laid_lenses_reading_ErrSyntax), ("lenses/reading.ErrSize", Rows.laid_lenses_reading_ErrSize), ("lenses/programs.ErrType", Rows.laid_lenses_programs_ErrType)]
theorem aQ3 {W:World}(h:laidMetH Tryz.prog laid4 W):∃d f g i,Sent W d f g i:=by
 rw[MakeChecks.laidMetH_plain _ _ _ (by kernel_rfl)]at h;obtain⟨ps,⟨g0,t0,G,f0,p0,q0,n,X,B,Q,⟨g1,t1,H,f1,p1,q1,o,Y,C,R,⟨g2,t2,I,f2,p2,q2,p,Z,E,S,⟨g3,t3,J,f3,p3,q3,q,a0,F,T,U,N⟩,M⟩,L⟩,K⟩,a5,a⟩:=h;obtain rfl:=Option.some.inj (gLong.symm.trans n);obtain rfl:=Option.some.inj (gSyntax.symm.trans o);obtain rfl:=Option.some.inj (gSize.symm.trans p);obtain rfl:=Option.some.inj (gType.symm.trans q);obtain rfl:=Option.some.inj (cX3.symm.trans X);obtain rfl:=Option.some.inj (cX5.symm.trans Y);obtain rfl:=Option.some.inj (cX4.symm.trans Z);obtain rfl:=Option.some.inj (cX6.symm.trans a0);have V:=U;subst V;subst N;subst M;subst L;subst K;obtain⟨l0⟩:=G;obtain⟨l1⟩:=H;obtain⟨l2⟩:=I;obtain⟨l3⟩:=J;have a1:∀u v,l0=[.iface u v]->Value.okWide Tryz.prog W .any 0 u v:=fun u v e=>by
  subst e;exact(a 0 0 (by simp[MemPlace.row])).2 u v (by simpa using World.var?_cell n B 0)
 have a2:∀u v,l1=[.iface u v]->Value.okWide Tryz.prog W .any 0 u v:=fun u v e=>by
  subst e;exact(a 3 0 (by simp[MemPlace.row])).2 u v (by simpa using World.var?_cell o C 0)
 have a3:∀u v,l2=[.iface u v]->Value.okWide Tryz.prog W .any 0 u v:=fun u v e=>by
  subst e;exact(a 1 0 (by simp[MemPlace.row])).2 u v (by simpa using World.var?_cell p E 0)
 have a4:∀u v,l3=[.iface u v]->Value.okWide Tryz.prog W .any 0 u v:=fun u v e=>by
  subst e;exact(a 2 0 (by simp[MemPlace.row])).2 u v (by simpa using World.var?_cell q F 0)
 obtain⟨d,s0,rfl,j,r,a6,rfl⟩:=errorString_of_trod Tryz.underlying80 rowE Tryz.underlying251 Tryz.underlying274 rfl rfl Tryz.underlying9 eQc eQd Q a1;obtain⟨f,s1,rfl,k,w,a7,rfl⟩:=errorString_of_trod Tryz.underlying80 rowE Tryz.underlying251 Tryz.underlying274 rfl rfl Tryz.underlying9 eQc eQd R a2;obtain⟨g,s2,rfl,l,z,a8,rfl⟩:=errorString_of_trod Tryz.underlying80 rowE Tryz.underlying251 Tryz.underlying274 rfl rfl Tryz.underlying9 eQc eQd S a3;obtain⟨i,s3,rfl,m,A,a9,rfl⟩:=errorString_of_trod Tryz.underlying80 rowE Tryz.underlying251 Tryz.underlying274 rfl rfl Tryz.underlying9 eQc eQd T a4;have c:∀(x y:Addr) (s t:By),W.cell? x=some (.string s)->W.cell? y=some (.string t)->s.data.toList≠t.data.toList->x≠y:=by
  rintro x y s t O b P rfl;rw[O]at b;injection b with b;injection b with b;exact P (by rw[b])
 refine⟨d,f,g,i,?_,?_,?_,?_,c _ _ _ _ j k (by rw[r,w];decide),c _ _ _ _ j l (by rw[r,z];decide),c _ _ _ _ k l (by rw[w,z];decide),c _ _ _ _ j m (by rw[r,A];decide),c _ _ _ _ k m (by rw[w,A];decide),c _ _ _ _ l m (by rw[z,A];decide),(a d.block d.off (by simp[MemPlace.row])).1,(a f.block f.off (by simp[MemPlace.row])).1,(a g.block g.off (by simp[MemPlace.row])).1,(a i.block i.off (by simp[MemPlace.row])).1⟩
 ·simpa using World.var?_cell n B 0
 ·simpa using World.var?_cell o C 0
 ·simpa using World.var?_cell p E 0
 ·simpa using World.var?_cell q F 0
theorem Sent.below {w w':World}{i j l m:Addr}(h:Sent w i j l m)(a:Bw w w'):Sent w' i j l m:=by
 have d:∀{k:Nat} {o:Obj},w.heap[k]?=some o->k<w.heap.size:=fun h=>(Array.getElem?_eq_some_iff.1 h).1;have b:∀{g:Nat} {v:Value},w.cell? ⟨g,0,none⟩=some v->g<w.heap.size:=fun {g v} h=>by
  rcases Nat.lt_or_ge g w.heap.size with f|f
  ·exact f
  ·rw[World.cell?,Array.getElem?_eq_none f]at h;cases h
 refine⟨(a.cell (b h.c0)).trans h.c0,(a.cell (b h.c1)).trans h.c1,(a.cell (b h.c2)).trans h.c2,(a.cell (b h.c3)).trans h.c3,h.n01,h.n02,h.n12,h.n03,h.n13,h.n23,?_,?_,?_,?_⟩
 ·obtain⟨c,t,e⟩:=h.b0;exact⟨c,t,by rw[a.block _ (d e)];exact e⟩
 ·obtain⟨c,t,e⟩:=h.b1;exact⟨c,t,by rw[a.block _ (d e)];exact e⟩
 ·obtain⟨c,t,e⟩:=h.b2;exact⟨c,t,by rw[a.block _ (d e)];exact e⟩
 ·obtain⟨c,t,e⟩:=h.b3;exact⟨c,t,by rw[a.block _ (d e)];exact e⟩
theorem aQx (b:Os)(a:Array Value):laidMetH Tryz.prog laid4 ((World.doorLaid Tryz.prog 400 b).forCall (fun _ _=>0) ⟨#[],a,[]⟩).memory:=
 laidMetH_of_parts3 (fuel:=8) (laidMet_of_run' 8 (by kernel_rfl) (by kernel_rfl)) (by kernel_rfl) (by kernel_rfl)
end Go.Proofs.YtfklinjaajafgaaGreatDoor
namespace Go.Proofs.YtfklinjaajafgaaGreatDoor
open Ls hiding none
open Go.RowKit
def RB (w:World)(rb:Nat)(s:By)(at_ dep:Nat):Prop:=w.heap[rb]?=some (.cells #[.string s,.int .i64 at_,.int .i64 dep] 164 (0,0))
theorem RB.lt {w:World}{b:Nat}{s:By}{a z:Nat}(h:RB w b s a z):b<w.heap.size:=(Array.getElem?_eq_some_iff.1 h).1
theorem RB.c0 {w:World}{b:Nat}{s:By}{a z:Nat}(h:RB w b s a z):w.cell? ⟨b,0,none⟩=some (.string s):=by unfold RB at h;simp[World.cell?,h]
theorem RB.c1 {w:World}{b:Nat}{s:By}{a z:Nat}(h:RB w b s a z):w.cell? ⟨b,1,none⟩=some (.int .i64 a):=by unfold RB at h;simp[World.cell?,h]
theorem RB.c2 {w:World}{b:Nat}{s:By}{a z:Nat}(h:RB w b s a z):w.cell? ⟨b,2,none⟩=some (.int .i64 z):=by unfold RB at h;simp[World.cell?,h]
theorem RB.fr {w:World}{b:Nat}{s:By}{a z:Nat}(h:RB w b s a z)(o:Nat):w.frozen? ⟨b,o,none⟩=false:=by unfold RB at h;simp[World.frozen?,h]
theorem RB.set1 {w:World}{b:Nat}{s:By}{a z:Nat}(h:RB w b s a z)(c:Nat):RB (w.setCell ⟨b,1,none⟩ (Iv c)) b s c z:=by unfold RB at h ⊢;simp[World.setCell,Array.getElem?_modify,h]
theorem RB.set2 {w:World}{b:Nat}{s:By}{a z:Nat}(h:RB w b s a z)(c:Nat):RB (w.setCell ⟨b,2,none⟩ (Iv c)) b s a c:=by unfold RB at h ⊢;simp[World.setCell,Array.getElem?_modify,h]
theorem RB.below {w w':World}{b:Nat}{s:By}{a z:Nat}(h:RB w b s a z)(c:Bw w w'):RB w' b s a z:=by have:=h.lt;unfold RB at h ⊢;rw[c.block b this];exact h
structure RLeft (w:World)(rb:Nat)(s:By)(at_ dep:Nat)(w':World):Prop where
 lies:RB w' rb s at_ dep
 grown:w.grownBy w' (some rb)
theorem RLeft.of_below {w d:World}{c:Nat}{s:By}{a z:Nat}(h:RB w c s a z)(b:Bw w d):RLeft w c s a z d:=⟨h.below b,L5 b _⟩
theorem RLeft.trans {w w1 d:World}{b:Nat}{s:By}{a z c e:Nat}(h:RLeft w b s a z w1)(k:RLeft w1 b s c e d):RLeft w b s c e d:=⟨k.lies,J8 h.grown k.grown⟩
theorem RLeft.below {w d e:World}{c:Nat}{s:By}{a z:Nat}(h:RLeft w c s a z d)(b:Bw d e):RLeft w c s a z e:=⟨h.lies.below b,J8 h.grown (L5 b _)⟩
theorem RLeft.set1 {w d:World}{c:Nat}{s:By}{a z:Nat}(h:RLeft w c s a z d)(b:Nat):RLeft w c s b z (d.setCell ⟨c,1,none⟩ (Iv b)):=⟨h.lies.set1 b,J8 h.grown (V8 _ _ _ _)⟩
theorem RLeft.set2 {w d:World}{b:Nat}{s:By}{a z:Nat}(h:RLeft w b s a z d)(c:Nat):RLeft w b s a c (d.setCell ⟨b,2,none⟩ (Iv c)):=⟨h.lies.set2 c,J8 h.grown (V8 _ _ _ _)⟩
theorem eQk (a:Nat)(s:By)(i z:Nat)(w:World)(h:RB w a s i z)(_hs:s.size<=1048576)(_hi:i<=1048577) :
  Calls Tryz.prog 102 #[Pt a] w fun e b=>e=.returned (.bool (decide (s.size<=i)))/\∃n,b=w.drewN n:=by
 have c:=h.c0;have d:=h.c1;go_enter Tryz.func102,Tryz.ntmps102;go_wp2;go_quiet (fail)
 go_wp2;go_ret;exact⟨by simp,_,rfl⟩
abbrev C9 (a1:Addr):Value:=.iface 251 (.pointer (some a1))
theorem V7 (v:Value)(a:Addr)(w:World)(c:Ce w 3 0 (C9 a)) :
  Calls Tryz.prog 103 #[v] w fun e b=>e=.panicked [{v:=C9 a,recovered:=false}]/\b=w:=by
 go_enter Tryz.func103,Tryz.ntmps103;go_wp2;exact⟨rfl,rfl,rfl⟩
structure Env (w:World)(rb:Nat)(a1:Addr):Prop where
 sc:Ce w 3 0 (C9 a1)
 ne:rb≠3
theorem Env.grown {w c:World}{a:Nat}{b:Addr}(h:Env w a b)(d:w.grownBy c (some a)):Env c a b:=
 ⟨d.cell h.sc (by simp;exact fun e=>h.ne e.symm),h.ne⟩
theorem Env.below {w w':World}{b:Nat}{a:Addr}(h:Env w b a)(c:Bw w w'):Env w' b a:=h.grown (L5 c _)
def K6 (w:World)(rb:Nat)(a1:Addr):Ending->World->Prop:=fun e w'=>e=.panicked [{v:=C9 a1,recovered:=false}]/\w.grownBy w' (some rb)
theorem vQa (w:World)(n:Nat)(r:Option Nat):w.grownBy (w.drewN n) r:=⟨rfl,rfl,rfl,Nat.le_refl _,fun _ _ _=>rfl⟩
theorem mQ4 (f:Nat)(s:By)(i z:Nat)(a:Lu)(g:Nat)(w:World)(h:RB w f s i z)(P:a.length<=8)(K:g<w.heap.size)(E:∀k (F:k<a.length),Ce w g k (.int .u8 a[k].toNat))(hs:s.size<=1048576)(L:i<=1048577) :
  Calls Tryz.prog 131 #[Pt f,Sl g a.length a.length] w fun e j=>e=.returned (.bool (a.any (A7 s i)))/\Bw w j:=by
 have I:Hid _:=E;go_enter Tryz.func131,Tryz.ntmps131;go_wp2;go_loopw [9] (fun t wr=>∃k:Nat,k<=a.length/\t=Iv k/\Bw w wr/\(a.take k).any (A7 s i)=false) (fun t _=>a.length-(intOf t).toNat)
 case atStart=>exact⟨0,Nat.zero_le _,rfl,Br,by simp⟩
 case round=>
  obtain⟨k,F,rfl,l,B⟩:=hrel;have x:Hid _:=B;have r:=h.below l;have M:=r.c0;have N:=r.c1
  by_cases v:k<a.length
  ·have O:=(l.cell (p:=⟨g,k,none⟩) K).trans (I.out k v)
   have R:(0:Int)<=(k:Int):=by omega
   have S:(k:Int)<(a.length:Int):=by omega
   have J:Hid (a.any (A7 s i)=true\/A7 s i a[k]=false):=by
    cases b:A7 s i a[k] with
    | true=>exact .inl (List.any_eq_true.2 ⟨a[k],List.getElem_mem v,b⟩)
    | false=>exact .inr rfl
   have A:Hid (A7 s i a[k]=false->(a.take (k+1)).any (A7 s i)=false):=fun b=>by
    rw[List.take_succ_eq_append_getElem v,List.any_append,x.out];simp[b]
   have H:∀n,RB (wr.drewN n) f s i z:=fun n=>r;have o:Hid (∀n,Ca 102 #[Pt f] (wr.drewN n) fun e j=>e=.returned (.bool (decide (s.size<=i)))/\∃m,j=(wr.drewN n).drewN m):=fun n=>eQk f s i z _ (H n) hs L;generalize a[k]=c at *
   by_cases u:i<s.size
   ·have q:Hid (∀n,Ca 102 #[Pt f] (wr.drewN n) fun e j=>e=.returned (.bool false)/\∃m,j=(wr.drewN n).drewN m):=fun n=>by
     have:=o.out n;rw[show decide (s.size<=i)=false from by simp;omega]at this;exact this
    have Q:(i:Int)<(s.size:Int):=by omega
    have y:Hid (A7 s i c=(((s[i].toNat:Int)==(c.toNat:Int)))):=by
     show _=_;rw[Bool.eq_iff_iff];simp[A7,u,M6 u];rw[<-UInt8.toNat_inj];omega
    cases C:(((s[i].toNat:Int)==(c.toNat:Int))) with
    | true=>
     have d:Hid (a.any (A7 s i)=true):=by
      rcases J.out with b|b
      ·exact b
      ·rw[y.out,C]at b;cases b
     go_wp2;go_quiet ((go_at_call 102;exact Calls.quiet_of (q.out _)))
     go_wp2;go_ret;exact⟨by rw[d.out];rfl,Bj l (E5 _)⟩
    | false=>
     have d:Hid _:=A.out (by rw[y.out,C]);go_wp2;go_quiet ((go_at_call 102;exact Calls.quiet_of (q.out _)))
     go_wp2;go_roundw
     case rel=>exact⟨k+1,by omega,by go_num,Bj l (E5 _),d.out⟩
     case measure=>simp[intOf];omega
   ·have q:Hid (∀n,Ca 102 #[Pt f] (wr.drewN n) fun e j=>e=.returned (.bool true)/\∃m,j=(wr.drewN n).drewN m):=fun n=>by
     have:=o.out n;rw[show decide (s.size<=i)=true from by simp;omega]at this;exact this
    have d:Hid _:=A.out (by simp[A7,u]);go_wp2;go_quiet ((go_at_call 102;exact Calls.quiet_of (q.out _)))
    go_wp2;go_roundw
    case rel=>exact⟨k+1,by omega,by go_num,Bj l (E5 _),d.out⟩
    case measure=>simp[intOf];omega
  ·have G:k=a.length:=by omega
   have d:Hid (a.any (A7 s i)=false):=by
    have:=x.out;rwa [G,List.take_length]at this
   subst G;go_wp2;go_ret;exact⟨by rw[d.out];rfl,l⟩
theorem mQ3 (a:Nat)(s:By)(i z:Nat)(c:UInt8)(w:World)(t:TypeId)(h:RB w a s i z)(hs:s.size<=1048576)(f:i<=1048577) :
  Calls Tryz.prog 131 #[Pt a,Sl w.heap.size 1 1] (w.alloc (.cells #[.int .u8 c.toNat] t)) fun e g=>e=.returned (.bool (A7 s i c))/\RLeft w a s i z g:=by
 refine(mQ4 a s i z [c] w.heap.size (w.alloc (.cells #[.int .u8 c.toNat] t)) (h.below (A5 _ _)) (by simp) (by simp) (fun k b=>?_) hs f).mono ?_
 ·obtain rfl:k=0:=by simp at b;exact b
  have:=heap_alloc_new w (.cells #[.int .u8 c.toNat] t);show World.cell? _ ⟨w.heap.size,0,none⟩=_;unfold World.cell?;rw[this];rfl
 ·rintro e j ⟨rfl,d⟩
  exact⟨by simp,RLeft.of_below h (Bj (A5 _ _) d)⟩
theorem Z5 (rb:Nat)(s:By)(i z:Nat)(c:UInt8)(w:World)(h:RB w rb s i z)(hs:s.size<=1048576)(ht:A7 s i c=true) :
  Calls Tryz.prog 120 #[Pt rb,.int .u8 c.toNat] w fun e w'=>e=.returned (.bool true)/\RLeft w rb s (i+1) z w':=by
 have hi:=(D9 ht).1;have hS:=fun t=>mQ3 rb s i z c w t h hs (by omega);rw[ht]at hS;have HS:Hid _:=hS;go_enter Tryz.func120,Tryz.ntmps120;go_wp2_with fail;refine(HS.out _).mono ?_;rintro e w1 ⟨rfl,hl⟩;have c1:=hl.lies.c1;have f1:=hl.lies.fr 1;go_wp2;go_ret;exact⟨rfl,hl.set1 (i+1)⟩
theorem X5 (rb:Nat)(s:By)(i z:Nat)(c:UInt8)(w:World)(h:RB w rb s i z)(hs:s.size<=1048576)(hi:i<=1048577)(ht:A7 s i c=false) :
  Calls Tryz.prog 120 #[Pt rb,.int .u8 c.toNat] w fun e w'=>e=.returned (.bool false)/\RLeft w rb s i z w':=by
 have hS:=fun t=>mQ3 rb s i z c w t h hs hi;rw[ht]at hS;have HS:Hid _:=hS;go_enter Tryz.func120,Tryz.ntmps120;go_wp2_with fail;refine(HS.out _).mono ?_;rintro e w1 ⟨rfl,hl⟩;go_wp2;go_ret;exact⟨rfl,hl⟩
theorem nQk (a:Nat)(s:By)(i z:Nat)(c:UInt8)(w:World)(h:RB w a s i z)(hs:s.size<=1048576)(d:i<=1048577) :
  Calls Tryz.prog 120 #[Pt a,.int .u8 c.toNat] w fun e f=>e=.returned (.bool (A7 s i c))/\RLeft w a s (if A7 s i c=true then i+1 else i) z f:=by
 cases b:A7 s i c with
 | true=>simpa using Z5 a s i z c w h hs b
 | false=>simpa using X5 a s i z c w h hs d b
theorem O2 (b:Nat)(s:By)(i z:Nat)(w:World)(h:RB w b s i z)(hs:s.size<=1048576)(d:i<s.size) :
  Calls Tryz.prog 143 #[Pt b] w fun e j=>e=.returned (.int .u8 (nx s i).toNat)/\RLeft w b s (i+1) z j:=by
 have c:=eQk b s i z w h hs (by omega);rw[show decide (s.size<=i)=false from by simp;omega]at c;have g:Hid _:=M6 d;go_enter Tryz.func143,Tryz.ntmps143;go_wp2_with fail;refine c.mono ?_;rintro e k ⟨rfl,n,rfl⟩;have a:=RLeft.of_below h (E5 (w:=w) n);generalize w.drewN n=k at *;have m:=a.lies.c1;have o:=a.lies.fr 1;have q:=a.lies.lt;have l:=a.lies.c0;have p:(i:Int)<(s.size:Int):=by omega
 have f:=a.set1 (i+1);go_wp2;go_quiet (fail)
 go_wp2;go_ret;exact⟨by rw[g.out];simp,f.below (E5 nq)⟩
theorem dQi (a:Nat)(s:By)(i z:Nat)(b:Addr)(w:World)(h:RB w a s i z)(d:Env w a b)(hs:s.size<=1048576)(j:s.size<=i)(g:i<=1048577) :
  Calls Tryz.prog 143 #[Pt a] w (K6 w a b):=by
 have c:=eQk a s i z w h hs g;rw[show decide (s.size<=i)=true from by simp;omega]at c;go_enter Tryz.func143,Tryz.ntmps143;go_wp2_with fail;refine c.mono ?_;rintro e k ⟨rfl,n,rfl⟩;have f:=d.below (E5 (w:=w) n);go_wp2_with fail;refine(V7 _ b _ f.sc).mono ?_;rintro e l ⟨rfl,rfl⟩;go_wp2;exact⟨rfl,rfl,vQa _ _ _⟩
theorem eQr (a:Nat)(s:By)(i z:Nat)(c:UInt8)(w:World)(h:RB w a s i z)(hs:s.size<=1048576)(b:A7 s i c=true) :
  Calls Tryz.prog 175 #[Pt a,.int .u8 c.toNat] w fun e g=>e=.returned (.tuple #[])/\RLeft w a s (i+1) z g:=by
 have d:=Z5 a s i z c w h hs b;go_enter Tryz.func175,Tryz.ntmps175;go_wp2_with fail;refine d.mono ?_;rintro e j ⟨rfl,f⟩;go_wp2;go_end0;exact⟨rfl,f⟩
theorem eQq (a:Nat)(s:By)(i z:Nat)(c:UInt8)(b:Addr)(w:World)(h:RB w a s i z)(g:Env w a b)(hs:s.size<=1048576)(k:i<=1048577)(f:A7 s i c=false) :
  Calls Tryz.prog 175 #[Pt a,.int .u8 c.toNat] w (K6 w a b):=by
 have j:=X5 a s i z c w h hs k f;go_enter Tryz.func175,Tryz.ntmps175;go_wp2_with fail;refine j.mono ?_;rintro e l ⟨rfl,d⟩;go_wp2_with fail;refine(V7 _ b _ (g.grown d.grown).sc).mono ?_;rintro e m ⟨rfl,rfl⟩;go_wp2;exact⟨rfl,rfl,d.grown⟩
theorem hQx (a:Nat)(s:By)(i z:Nat)(w:World)(h:RB w a s i z)(k:z<=11) :
  Calls Tryz.prog 169 #[Pt a] w fun e c=>e=.returned (.tuple #[])/\RLeft w a s i (z+1) c:=by
 have d:=h.c2;have f:=h.fr 2;have j:=h.lt;have b:=(RLeft.of_below h Br).set2 (z+1);have g:¬(12:Int)<(z:Int)+1:=by omega
 go_enter Tryz.func169,Tryz.ntmps169;go_wp2;go_end0;exact⟨rfl,b⟩
theorem hQw (a:Nat)(s:By)(i:Nat)(b:Addr)(w:World)(h:RB w a s i 12)(d:Env w a b) :
  Calls Tryz.prog 169 #[Pt a] w (K6 w a b):=by
 have g:=h.c2;have j:=h.fr 2;have k:=h.lt;have c:=(RLeft.of_below h Br).set2 13;have f:=d.grown c.grown;go_enter Tryz.func169,Tryz.ntmps169;go_wp2_with fail;refine(V7 _ b _ f.sc).mono ?_;rintro e l ⟨rfl,rfl⟩;go_wp2;exact⟨rfl,rfl,c.grown⟩
theorem eQg (b:Nat)(s:By)(i z:Nat)(c:UInt8)(w:World)(h:RB w b s i (z+1))(hs:s.size<=1048576)(n:z<=11)(d:A7 s i c=true) :
  Calls Tryz.prog 171 #[Pt b,.int .u8 c.toNat] w fun e j=>e=.returned (.tuple #[])/\RLeft w b s (i+1) z j:=by
 have f:=eQr b s i (z+1) c w h hs d;go_enter Tryz.func171,Tryz.ntmps171;go_wp2_with fail;refine f.mono ?_;rintro e o ⟨rfl,a⟩;have k:=a.lies.c2;have l:=a.lies.fr 2;have m:=a.lies.lt;have g:=a.set2 z;go_wp2;go_end0;exact⟨rfl,g⟩
theorem eQf (a:Nat)(s:By)(i z:Nat)(c:UInt8)(b:Addr)(w:World)(h:RB w a s i z)(f:Env w a b)(hs:s.size<=1048576)(k:i<=1048577)(d:A7 s i c=false) :
  Calls Tryz.prog 171 #[Pt a,.int .u8 c.toNat] w (K6 w a b):=by
 have g:=eQq a s i z c b w h f hs k d;go_enter Tryz.func171,Tryz.ntmps171;go_wp2_with fail;refine g.mono ?_;rintro e l ⟨rfl,j⟩;go_wp2;exact⟨rfl,rfl,j⟩
structure Bx (T:TypeId)(w:World)(g rb:Nat):Prop where
 lies:w.heap[g]?=some (.cells #[.pointer (some ⟨rb,0,none⟩)] T (0,0))
section
variable {T:TypeId} {w w':World} {g rb:Nat}
theorem Bx.lt (h:Bx T w g rb):g<w.heap.size:=(Array.getElem?_eq_some_iff.1 h.lies).1
theorem Bx.cell (h:Bx T w g rb):w.cell? ⟨g,0,none⟩=some (.pointer (some ⟨rb,0,none⟩)):=by simp[World.cell?,h.lies]
theorem Bx.grown (h:Bx T w g rb)(a:w.grownBy w' (some rb))(b:g≠rb):Bx T w' g rb:=⟨by rw[a.block g h.lt (by simpa using b)];exact h.lies⟩
theorem Bx.below (h:Bx T w g rb)(a:Bw w w'):Bx T w' g rb:=⟨by rw[a.block g h.lt];exact h.lies⟩
theorem Bx.new (w:World)(T:TypeId)(a:Nat):Bx T (w.alloc (.cells #[Pt a] T)) w.heap.size a:=⟨heap_alloc_new _ _⟩
end
abbrev H0 (T:TypeId)(rb:Nat):Obj:=.cells #[.pointer (some ⟨rb,0,none⟩)] T
structure In (T:TypeId)(w:World)(rb:Nat)(s:By)(at_ dep:Nat)(w':World):Prop where
 left:RLeft w rb s at_ dep w'
 box:Bx T w' w.heap.size rb
 old:rb<w.heap.size
section
variable {T:TypeId} {w w1 w2:World} {rb:Nat} {s:By} {a z a' z':Nat}
theorem In.enter (T:TypeId)(h:RB w rb s a z):In T w rb s a z (w.alloc (H0 T rb)):=⟨RLeft.of_below h (A5 _ _),Bx.new _ _ _,h.lt⟩
theorem In.go (h:In T w rb s a z w1)(k:RLeft w1 rb s a' z' w2):In T w rb s a' z' w2:=⟨h.left.trans k,h.box.grown k.grown (Nat.ne_of_gt h.old),h.old⟩
theorem In.below (h:In T w rb s a z w1)(b:Bw w1 w2):In T w rb s a z w2:=⟨h.left.below b,h.box.below b,h.old⟩
theorem In.lies (h:In T w rb s a z w1):RB w1 rb s a z:=h.left.lies
theorem In.cell (h:In T w rb s a z w1):Ce w1 w.heap.size 0 (Pt rb):=h.box.cell
theorem In.env (h:In T w rb s a z w1){b:Addr}(c:Env w rb b):Env w1 rb b:=c.grown h.left.grown
theorem In.threw (h:In T w rb s a z w1){r:Option Nat}(c:r=some rb)(b:w1.grownBy w2 r):w.grownBy w2 (some rb):=by
 subst c;exact J8 h.left.grown b
theorem In.size (h:In T w rb s a z w1):w.heap.size<w1.heap.size:=h.box.lt
end
theorem rQf (a:Addr)(w:World):(Instr.typeAssert (C9 a) 20 80 true).run Tryz.prog w=.ok (.tuple #[C9 a,.bool true]) w:=
 run_typeAssert_hasB Tryz.underlying80 (by kernel_rfl) _ _ w
theorem sQl (p:Nat)(a:Addr)(h:Value)(b:List PanicEntry)(w:World)(d:Ce w p 0 h)(c:w.frozen? ⟨p,0,none⟩=false) :
  CallsD Tryz.prog 105 #[Pt p] (.panicking ({v:=C9 a,recovered:=false}::b)) w fun e g i=>
   e=.returned (.tuple #[])/\g=.panicking ({v:=C9 a,recovered:=true}::b)/\i=w.setCell ⟨p,0,none⟩ (C9 a):=by
 have ha:=rQf a;refine callsD_of_wpS Tryz.func105 rfl fun k j f=>?_;apply wpS_seq
 apply wpS_region
 simp[wpOpsS,go_sem,recoverD,f,Tryz.ntmps105,Exit.thenS,ha];apply wpS_seq
 apply wpS_region
 simp[wpOpsS,go_sem,Exit.thenS,Array.replicate,Act.eval];refine wpS_cond (t:=true) (by simp[Act.eval]) ?_;simp only[if_true];apply wpS_region
 simp[wpOpsS,go_sem,d,c,bodyPostS,results,Tryz.results105,Act.eval]
theorem sQk (p:Nat)(w:World) :
  CallsD Tryz.prog 105 #[Pt p] .returning w fun e c d=>e=.returned (.tuple #[])/\c=.returning/\d=w:=by
 have ha:∀w,(Instr.typeAssert .nilIface 20 80 true).run Tryz.prog w=.ok (.tuple #[.nilIface,.bool false]) w:=fun w=>by kernel_rfl
 refine callsD_of_wpS Tryz.func105 rfl fun a f b=>?_;apply wpS_seq
 apply wpS_region
 simp[wpOpsS,go_sem,recoverD,b,Tryz.ntmps105,Exit.thenS,ha];apply wpS_seq
 apply wpS_region
 simp[wpOpsS,go_sem,Exit.thenS,Array.replicate,Act.eval];refine wpS_cond (t:=false) (by simp[Act.eval]) ?_;simp only[Bool.false_eq_true,if_false];refine wpS_of_wp (wp_skip ?_);cases a;simp_all [bodyPostS,results,Tryz.results105]
theorem lQz {w:World}{g:Nat}{v:Value}{t:TypeId}(h:w.heap[g]?=some (.cells #[v] t (0,0))):w.cell? ⟨g,0,none⟩=some v/\w.frozen? ⟨g,0,none⟩=false:=by
 constructor
 ·simp[World.cell?,h]
 ·simp[World.frozen?,h]
def oQv (w:World)(Q:Ending->World->Prop):Ending->World->Prop:=fun e w2=>
 ∃e1 w1,Q e1 w1/\((e1=.returned (.tuple #[])/\e=.returned .nilIface/\w2=w1.setCell ⟨w.heap.size,0,none⟩ .nilIface)\/(∃a,e1=.panicked [{v:=C9 a,recovered:=false}]/\e=.returned (C9 a)/\w2=w1.setCell ⟨w.heap.size,0,none⟩ (C9 a)))
theorem jQl (f:Nat)(h:Array Value)(t:∀w,(callFunc f h).run Tryz.prog w=.ok (.enter f h) w)(w:World)(Q:Ending->World->Prop)
  (k:Calls Tryz.prog f h (w.alloc (.cells #[.nilIface] 80)) Q)
  (n:∀e d,Q e d->d.heap[w.heap.size]?=some (.cells #[.nilIface] 80 (0,0))/\(e=.returned (.tuple #[])\/∃a,e=.panicked [{v:=C9 a,recovered:=false}])) :
  Calls Tryz.prog 78 #[.func (.func f) #[] h] w (oQv w Q):=by
 have u:∀(m:Fn) (first l:Array Value) (w:World),(Instr.makeFunc m first l).run Tryz.prog w=.ok (.func m first l) w:=fun _ _ _ _=>rfl;have p:Hid _:=n;go_enter_defers Tryz.func78,Tryz.ntmps78
 go_wp2;refine k.mono ?_;intro e g c;obtain⟨b,rfl|⟨a,rfl⟩⟩:=p.out e g c
 ·obtain⟨i,o⟩:=lQz b
  have j:Hid _:=c;have q:=(Array.getElem?_eq_some_iff.1 b).1;go_wp2;refine leaves_cons (f:=105) (args:=#[Pt w.heap.size]) (by simp) (by simp[go_sem]) ?_;refine(sQk w.heap.size _).mono ?_;rintro e r s ⟨rfl,rfl,rfl⟩;simp[Leaves,settle,results,Tryz.results78,go_sem,i];exact⟨_,g,j.out,.inl ⟨rfl,rfl,rfl⟩⟩
 ·obtain⟨i,o⟩:=lQz b
  have j:Hid _:=c;have q:=(Array.getElem?_eq_some_iff.1 b).1;go_wp2;refine leaves_cons (f:=105) (args:=#[Pt w.heap.size]) (by simp) (by simp[go_sem]) ?_;refine(sQl w.heap.size a _ [] _ i o).mono ?_;rintro e r s ⟨rfl,rfl,rfl⟩;simp[Leaves,settle,results,Tryz.results78,go_sem,i];exact⟨_,g,j.out,.inr ⟨a,rfl,rfl,rfl⟩⟩
theorem eQw (c:UInt8)(w:World) :
  Calls Tryz.prog 184 #[.int .u8 c.toNat] w fun e a=>e=.returned (.bool (gXu c))/\a=w:=by
 go_enter Tryz.func184,Tryz.ntmps184;go_wp2
 all_goals
  go_ret;refine⟨R5 ?_,rfl⟩;rw[Bool.eq_iff_iff];simp[gXu];omega
theorem kQx (c:UInt8)(w:World) :
  Calls Tryz.prog 201 #[.int .u8 c.toNat] w fun e a=>e=.returned (.bool (decide (97<=c.toNat/\c.toNat<=122)))/\a=w:=by
 go_enter Tryz.func201,Tryz.ntmps201;go_wp2
 all_goals
  go_ret;refine⟨R5 ?_,rfl⟩;rw[Bool.eq_iff_iff];simp;omega
theorem kQu (c:UInt8)(w:World) :
  Calls Tryz.prog 213 #[.int .u8 c.toNat] w fun e f=>e=.returned (.bool (iXl c))/\f=w:=by
 have b:=kQx c w;cases a:decide (97<=c.toNat/\c.toNat<=122) with
 | true=>
  rw[a]at b;have d:Hid (iXl c=true):=by show _=_;simp at a;simp[iXl];omega
  go_enter Tryz.func213,Tryz.ntmps213;go_wp2_with fail;refine b.mono ?_;rintro e g ⟨rfl,rfl⟩;go_wp2;go_ret;exact⟨by rw[d.out];rfl,rfl⟩
 | false=>
  rw[a]at b;have d:Hid (¬(97<=c.toNat/\c.toNat<=122)):=of_decide_eq_false a;go_enter Tryz.func213,Tryz.ntmps213;go_wp2_with fail;refine b.mono ?_;rintro e g ⟨rfl,rfl⟩;go_wp2
  all_goals
   go_ret;refine⟨R5 ?_,rfl⟩;have:=d.out;rw[Bool.eq_iff_iff];simp[iXl];omega
abbrev D3 (rb:Nat):Value:=.agg #[.pointer (some ⟨rb,0,none⟩)]
theorem lQl (a:Nat)(s:By)(i z:Nat)(w:World)(h:RB w a s i z)(hs:s.size<=1048576)(c:iXl (nx s i)=true) :
  Calls Tryz.prog 206 #[D3 a] w fun e l=>e=.returned (.int .u8 (nx s i).toNat)/\RLeft w a s (i+1) z l:=by
 have j:=q9 c;have b:=fun W=>kQu (nx s i) W;rw[c]at b;have g:Hid _:=b;have f:=RLeft.of_below h (A5 w (.cells #[Pt a] 177));have d:Hid _:=f;go_enter Tryz.func206,Tryz.ntmps206;go_wp2_with fail;refine(O2 a s i z _ d.out.lies hs j).mono ?_;rintro e m ⟨rfl,k⟩;go_wp2_with fail;refine(g.out _).mono ?_;rintro e n ⟨rfl,rfl⟩;go_wp2;go_ret;exact⟨rfl,d.out.trans k⟩
theorem lQk (a:Nat)(s:By)(i z:Nat)(c:Addr)(w:World)(h:RB w a s i z)(p:Env w a c)(hs:s.size<=1048576)(r:i<=1048577)(l:iXl (nx s i)=false) :
  Calls Tryz.prog 206 #[D3 a] w (K6 w a c):=by
 have d:=fun W=>kQu (nx s i) W;rw[l]at d;have n:Hid _:=d;have v:=h.lt;have f:=A5 w (.cells #[Pt a] 177);have b:Hid _:=RLeft.of_below h f;have k:Hid _:=p.below f;have m:=Bx.new w 177 a;have o:Hid _:=m;rcases Nat.lt_or_ge i s.size with g|g
 ·go_enter Tryz.func206,Tryz.ntmps206
  go_wp2_with fail;refine(O2 a s i z _ b.out.lies hs g).mono ?_;rintro e t ⟨rfl,j⟩;have u:=(o.out.grown j.grown (by omega)).cell;go_wp2_with fail;refine(n.out _).mono ?_;rintro e x ⟨rfl,rfl⟩;go_wp2_with fail;refine(V7 _ c _ (k.out.grown j.grown).sc).mono ?_;rintro e y ⟨rfl,rfl⟩;go_wp2;exact⟨rfl,rfl,(b.out.trans j).grown⟩
 ·go_enter Tryz.func206,Tryz.ntmps206
  go_wp2_with fail;refine(dQi a s i z c _ b.out.lies k.out hs g r).mono ?_;rintro e t ⟨rfl,q⟩;go_wp2;exact⟨rfl,rfl,J8 b.out.grown q⟩
def G4 (lo hi c:Nat):Bool:=if c<64 then lo.testBit c else hi.testBit (c-64)
theorem lQ1 (x k:Nat)(e:x<18446744073709551616)(d:k<64):bits .or .u64 (x:Int) (IntKind.u64.wrap (2 ^ k))=((x ||| 2 ^ k:Nat):Int):=by
 have b:(2:Nat) ^ k<18446744073709551616:=by
  have:=Nat.pow_lt_pow_right (a:=2) (by omega) d;simpa using this
 have c:IntKind.u64.wrap (2 ^ k)=((2 ^ k:Nat):Int):=by
  rw[IntKind.wrap_u64,show ((2:Int) ^ k)=((2 ^ k:Nat):Int) from by simp];generalize 2 ^ k=y at *;omega
 rw[c,u64_or_nat x (2 ^ k) e b]
theorem lQ2 (x k:Nat)(c:x<18446744073709551616)(b:k<64):x ||| 2 ^ k<18446744073709551616:=by
 have a:(2:Nat) ^ k<2 ^ 64:=Nat.pow_lt_pow_right (by omega) b;have:=Nat.or_lt_two_pow (n:=64) (by simpa using c) a;simpa using this
theorem cXc (lo a k:Nat)(b:k<64)(c:Nat):G4 (lo ||| 2 ^ k) a c=(G4 lo a c||c==k):=by
 unfold G4;split
 ·rw[Nat.testBit_or,Nat.testBit_two_pow]
  by_cases h:k=c
  ·simp[h]
  ·simp[h,Ne.symm h]
 ·have:(c==k)=false:=by simp;omega
  simp[this]
theorem cXb (lo a k:Nat)(d:64<=k)(c:Nat):G4 lo (a ||| 2 ^ (k-64)) c=(G4 lo a c||c==k):=by
 unfold G4;split
 ·have:(c==k)=false:=by simp;omega
  simp[this]
 ·rw[Nat.testBit_or,Nat.testBit_two_pow]
  by_cases h:k=c
  ·simp[h]
  ·have b:¬k-64=c-64:=by omega
   simp[b,Ne.symm h]
theorem aQi {w:World}{g lo a:Nat}{t:TypeId}(h:w.heap[g]?=some (.cells #[.int .u64 lo,.int .u64 a] t (0,0))):w.cell? ⟨g,0,none⟩=some (.int .u64 lo)/\w.cell? ⟨g,1,none⟩=some (.int .u64 a)/\w.frozen? ⟨g,0,none⟩=false/\w.frozen? ⟨g,1,none⟩=false:=by
 refine⟨?_,?_,?_,?_⟩
 ·simp[World.cell?,h]
 ·simp[World.cell?,h]
 ·simp[World.frozen?,h]
 ·simp[World.frozen?,h]
def qQb (lo hi:Nat)(a b:UInt8)(w:World):Ending->World->Prop:=fun e w'=>
 ∃lo' hi':Nat,e=.returned (.agg #[.int .u64 lo',.int .u64 hi'])/\lo'<18446744073709551616/\hi'<18446744073709551616/\(∀c,G4 lo' hi' c=(G4 lo hi c||decide (a.toNat<=c/\c<=b.toNat)))/\Bw w w'
theorem fQz (lo f:Nat)(a b:UInt8)(w:World)(N:a.toNat<=b.toNat)(O:b.toNat<=126)(E:lo<18446744073709551616)(B:f<18446744073709551616) :
  Calls Tryz.prog 162 #[.agg #[.int .u64 lo,.int .u64 f],.int .u8 a.toNat,.int .u8 b.toNat] w (qQb lo f a b w):=by
 go_enter Tryz.func162,Tryz.ntmps162;go_wp2;go_loopw [7] (fun c wr=>∃(k e d:Nat),c=.int .u8 k/\a.toNat<=k/\k<=b.toNat+1/\Bw w wr/\e<18446744073709551616/\d<18446744073709551616/\wr.heap[w.heap.size]?=some (.cells #[.int .u64 e,.int .u64 d] 157 (0,0))/\wr.heap[w.heap.size+1]?=some (.cells #[.int .u64 (0:Nat),.int .u64 (0:Nat)] 157 (0,0))/\∀c,G4 e d c=(G4 lo f c||decide (a.toNat<=c/\c<k))) (fun c _=>128-(intOf c).toNat)
 case atStart=>
  refine⟨a.toNat,lo,f,rfl,Nat.le_refl _,by omega,C6 _ _ _,E,B,?_,?_,fun c=>?_⟩
  ·rw[Below.heap_alloc _ _ _ (by simp)];exact heap_alloc_new _ _
  ·have:=heap_alloc_new (w.alloc (.cells #[.int .u64 lo,.int .u64 f] 157)) (.cells #[.int .u64 (0:Nat),.int .u64 (0:Nat)] 157)
   simpa using this
  ·have:¬(a.toNat<=c/\c<a.toNat):=by omega
   simp[this]
 case round=>
  obtain⟨k,e,d,rfl,A,P,n,g,i,o,q,u⟩:=hrel;have l:Hid _:=u;obtain⟨J,K,L,M⟩:=aQi o;obtain⟨H,I,R,s1⟩:=aQi q;have r:Hid _:=o;have s:Hid _:=q;have x:∀c,(G4 lo f c||decide (a.toNat<=c/\c<k)||c==k)=(G4 lo f c||decide (a.toNat<=c/\c<k+1)):=fun c=>by
   by_cases h:c=k
   ·subst h;simp[A]
   ·have y:(c==k)=false:=by simp[h]
    have z:decide (a.toNat<=c/\c<k+1)=decide (a.toNat<=c/\c<k):=by
     rw[decide_eq_decide];omega
    rw[y,z];simp
  have t:Hid _:=x
  by_cases Q:k<=b.toNat
  ·by_cases m:k<64
   ·have F:(k:Int) / 64=0:=by omega
    have G:(k:Int) % 64=k:=by omega
    have j:Hid _:=lQ1 e k g m;go_wp2;go_roundw
    case rel=>
     rw[j.out];refine⟨k+1,e ||| 2 ^ k,d,by go_num,by omega,by omega,n.setCell (Nat.le_refl _) _,lQ2 _ _ g m,i,?_,?_,fun c=>?_⟩
     ·have:=r.out;simp[World.setCell,Array.getElem?_modify,this]
     ·rw[Below.heap_setCell _ _ _ _ (by show _≠_;simp)];exact s.out
     ·rw[cXc _ _ _ m,l.out c,t.out c]
    case measure=>simp[intOf];omega
   ·have F:(k:Int) / 64=1:=by omega
    have G:(k:Int) % 64=((k-64:Nat):Int):=by omega
    have j:Hid _:=lQ1 d (k-64) i (by omega);go_wp2;go_roundw
    case rel=>
     rw[j.out];refine⟨k+1,e,d ||| 2 ^ (k-64),by go_num,by omega,by omega,n.setCell (Nat.le_refl _) _,g,lQ2 _ _ i (by omega),?_,?_,fun c=>?_⟩
     ·have:=r.out;simp[World.setCell,Array.getElem?_modify,this]
     ·rw[Below.heap_setCell _ _ _ _ (by show _≠_;simp)];exact s.out
     ·rw[cXb _ _ _ (by omega),l.out c,t.out c]
    case measure=>simp[intOf];omega
  ·have C:k=b.toNat+1:=by omega
   go_wp2;refine bodyPost_ret (v:=.agg #[.int .u64 e,.int .u64 d]) (by simp[results,Tryz.results162,go_sem,H,I]) rfl ⟨e,d,rfl,g,i,fun c=>?_,?_⟩
   ·rw[l.out c,C]
    congr 1
    rw[decide_eq_decide];omega
   ·exact(n.setCell (p:=⟨w.heap.size+1,0,none⟩) (by show _<=w.heap.size+1;omega) _).setCell (p:=⟨w.heap.size+1,1,none⟩) (by show _<=w.heap.size+1;omega) _
structure SB (g:Lu)(lo hi:Nat):Prop where
 loLt:lo<18446744073709551616
 hiLt:hi<18446744073709551616
 bit:∀c:UInt8,c.toNat<128->G4 lo hi c.toNat=Ls.has g c
 none:∀c:UInt8,128<=c.toNat->Ls.has g c=false
theorem kQn (g h:Lu)(c:UInt8):Ls.has (g++h) c=(Ls.has g c||Ls.has h c):=by simp[Ls.has]
theorem cQx (d c:UInt8):Ls.has [d] c=(d==c):=by simp[Ls.has]
theorem SB.empty:SB [] 0 0:=⟨by omega,by omega,fun c _=>by simp[G4,Ls.has],fun c _=>by simp[Ls.has]⟩
theorem eQt (d:Lu)(a b c:UInt8):(n:Nat)->n<=128->Ls.has (gXo d a b n) c=(Ls.has d c||decide (a.toNat<=c.toNat/\c.toNat<=b.toNat/\c.toNat<n))
 | 0,_=>by simp[gXo]
 | n+1,hn=>by
  have g:=eQt d a b c n (by omega);have p:(UInt8.ofNat n).toNat=n:=by simp;omega
  rw[cQh]
  by_cases o:c.toNat=n
  ·have i:c=UInt8.ofNat n:=UInt8.toNat_inj.1 (by omega)
   split
   ·rename_i h
    rw[kQn,cQx,<-i];have e:decide (a.toNat<=c.toNat/\c.toNat<=b.toNat/\c.toNat<n+1)=true:=by simp;omega
    rw[e];simp
   ·rename_i h
    rw[g]
    by_cases e:a.toNat<=n/\n<=b.toNat
    ·have f:Ls.has (gXo d a b n) (UInt8.ofNat n)=true:=by
      cases j:Ls.has (gXo d a b n) (UInt8.ofNat n) with
      | true=>rfl
      | false=>exact absurd ⟨e.1,e.2,j⟩ h
     rw[<-i,g]at f;have k:decide (a.toNat<=c.toNat/\c.toNat<=b.toNat/\c.toNat<n)=false:=by simp;omega
     rw[k]at f ⊢;simp at f;simp[f]
    ·congr 1
     rw[decide_eq_decide];omega
  ·have l:decide (a.toNat<=c.toNat/\c.toNat<=b.toNat/\c.toNat<n+1)=decide (a.toNat<=c.toNat/\c.toNat<=b.toNat/\c.toNat<n):=by
    rw[decide_eq_decide];omega
   rw[l];split
   ·rw[kQn,cQx,g]
    have m:(UInt8.ofNat n==c)=false:=by
     rw[beq_eq_false_iff_ne];rintro rfl;exact o p
    rw[m];simp
   ·exact g
theorem SB.with {g:Lu}{lo i f e:Nat}{a b:UInt8}(h:SB g lo i)(l:f<18446744073709551616)(k:e<18446744073709551616)(_hb:b.toNat<=127)(j:∀c,G4 f e c=(G4 lo i c||decide (a.toNat<=c/\c<=b.toNat))):SB (rng g a b) f e:=by
 refine⟨l,k,fun c d=>?_,fun c d=>?_⟩
 ·rw[j,h.bit c d]
  unfold rng;rw[eQt g a b c 128 (Nat.le_refl _)];congr 1
  rw[decide_eq_decide];omega
 ·unfold rng
  rw[eQt g a b c 128 (Nat.le_refl _),h.none c d];have:decide (a.toNat<=c.toNat/\c.toNat<=b.toNat/\c.toNat<128)=false:=by simp;omega
  rw[this];rfl
theorem SB.congr {g b:Lu}{lo e:Nat}(h:SB g lo e)(d:∀c,Ls.has b c=Ls.has g c):SB b lo e:=
 ⟨h.loLt,h.hiLt,fun c a=>by rw[d];exact h.bit c a,fun c a=>by rw[d];exact h.none c a⟩
theorem vQe (c d:UInt8)(h:c.toNat<128):Ls.has (rng [] c c) d=Ls.has [c] d:=by
 unfold rng;rw[eQt [] c c d 128 (Nat.le_refl _),cQx]
 by_cases e:c=d
 ·subst e;simp[Ls.has,h]
 ·have a:(c==d)=false:=by simp[e]
  have b:decide (c.toNat<=d.toNat/\d.toNat<=c.toNat/\d.toNat<128)=false:=by
   simp only[decide_eq_false_iff_not];intro f;exact e (UInt8.toNat_inj.1 (by omega))
  rw[a,b];rfl
theorem vQd (d:UInt8):Ls.has (rng [] 97 122) d=Ls.has az d:=by
 have a:rng [] 97 122=az:=by decide +kernel
 rw[a]
abbrev K3 (lo hi:Nat):Value:=.iface 180 (.agg #[.int .u64 lo,.int .u64 hi])
theorem cXk {c:UInt8}(h:gXu c=true):c.toNat<=126:=by simp[gXu]at h;omega
theorem lQ0 (c:UInt8)(w:World)(k:c.toNat<=126) :
  Calls Tryz.prog 185 #[.int .u8 c.toNat] w fun e j=>(∃lo a,e=.returned (K3 lo a)/\SB [c] lo a)/\Bw w j:=by
 go_enter Tryz.func185,Tryz.ntmps185;go_wp2_with fail;refine(fQz 0 0 c c _ (Nat.le_refl _) (by omega) (by omega) (by omega)).mono ?_;rintro e l ⟨lo,a,rfl,f,g,b,i⟩;have h:=(SB.with SB.empty f g (by omega) b).congr (fun d=>(vQe c d (by omega)).symm);go_wp2;go_ret;exact⟨⟨lo,a,rfl,h⟩,i⟩
theorem mQ2 (f:Nat)(c:UInt8)(w:World)(d:gXu c=true) :
  Calls Tryz.prog 163 #[D3 f,.int .u8 c.toNat] w fun e l=>(∃lo a,e=.returned (K3 lo a)/\SB [c] lo a)/\Bw w l:=by
 have k:=cXk d;have b:=fun W=>eQw c W;rw[d]at b;have h:Hid _:=b;have g:Hid _:=A5 w (.cells #[Pt f] 177);go_enter Tryz.func163,Tryz.ntmps163;go_wp2_with fail;refine(h.out _).mono ?_;rintro e m ⟨rfl,rfl⟩;go_wp2_with fail;refine(lQ0 c _ k).mono ?_;rintro e n ⟨⟨lo,a,rfl,i⟩,j⟩;go_wp2;go_ret;exact⟨⟨lo,a,rfl,i⟩,Bj g.out j⟩
theorem mQ1 (a:Nat)(c:UInt8)(d:Addr)(w:World)(k:Env w a d)(g:gXu c=false) :
  Calls Tryz.prog 163 #[D3 a,.int .u8 c.toNat] w (K6 w a d):=by
 have b:=fun W=>eQw c W;rw[g]at b;have j:Hid _:=b;have f:=A5 w (.cells #[Pt a] 177);have i:Hid _:=k.below f;have h:Hid _:=f;go_enter Tryz.func163,Tryz.ntmps163;go_wp2_with fail;refine(j.out _).mono ?_;rintro e l ⟨rfl,rfl⟩;go_wp2_with fail;refine(V7 _ d _ i.out.sc).mono ?_;rintro e m ⟨rfl,rfl⟩;go_wp2;exact⟨rfl,rfl,L5 h.out _⟩
theorem RLeft.res2 {w W:World}{b:Nat}{s:By}{a z:Nat}(h:RLeft w b s a z W){g:Nat}(e:w.heap.size<=g)(f:b<w.heap.size)(x y:Value):RLeft w b s a z ((W.setCell ⟨g,0,none⟩ x).setCell ⟨g,1,none⟩ y):=by
 refine⟨?_,?_⟩
 ·have:=h.lies
  unfold RB at this ⊢;rw[Below.heap_setCell _ _ _ _ (by show b≠g;omega),Below.heap_setCell _ _ _ _ (by show b≠g;omega)];exact this
 ·refine⟨h.grown.os,h.grown.tape,h.grown.output,by simpa [World.setCell] using h.grown.size,fun k c d=>?_⟩
  rw[Below.heap_setCell _ _ _ _ (by show k≠g;omega),Below.heap_setCell _ _ _ _ (by show k≠g;omega)];exact h.grown.block k c d
def pQb (w:World)(rb:Nat)(s:By)(i z:Nat)(a1:Addr)(g:Lu):Ending->World->Prop:=fun e w'=>
 (∃a b j lo hi,gXc (rest s i)=some (a,b,rest s j)/\j<=s.size/\i<j/\e=.returned (.agg #[.int .u64 (lo:Nat),.int .u64 (hi:Nat)])/\SB (rng g a b) lo hi/\RLeft w rb s j z w')\/
 (gXc (rest s i)=.none/\K6 w rb a1 e w')
abbrev U9 (w:World)(rb lo hi:Nat):World:=((w.alloc (.cells #[.pointer (some ⟨rb,0,none⟩)] 177)).alloc (.cells #[.int .u64 lo,.int .u64 hi] 157)).alloc (.cells #[.int .u64 (0:Nat),.int .u64 (0:Nat)] 157)
theorem jQt (a:Nat)(s:By)(i z:Nat)(h:Addr)(a0:Lu)(lo b:Nat)(w:World)(a1:RB w a s i z)(hE:Env w a h)(hs:s.size<=1048576)(c9:i<=s.size)(n:SB a0 lo b) :
  Calls Tryz.prog 183 #[D3 a,.agg #[.int .u64 lo,.int .u64 b]] w (pQb w a s i z h a0):=by
 have b0:=a1.lt;have d2:¬a=w.heap.size:=by omega
 have O:¬w.heap.size=a:=by omega
 have a9:¬w.heap.size+1=a:=by omega
 have J:=Q0 w (.cells #[Pt a] 177) (.cells #[.int .u64 lo,.int .u64 b] 157) (.cells #[.int .u64 (0:Nat),.int .u64 (0:Nat)] 157);have a7:=RLeft.of_below a1 J;have a3:=hE.below J;have b1:Bx 177 (U9 w a lo b) w.heap.size a:=((Bx.new w 177 a).below (A5 _ _)).below (A5 _ _);have b4:(U9 w a lo b).heap[w.heap.size+1]?=some (.cells #[.int .u64 lo,.int .u64 b] 157 (0,0)):=by
  rw[Below.heap_alloc _ _ _ (by simp)];have:=heap_alloc_new (w.alloc (.cells #[Pt a] 177)) (.cells #[.int .u64 lo,.int .u64 b] 157);simpa using this
 have b5:(U9 w a lo b).heap[w.heap.size+1+1]?=some (.cells #[.int .u64 (0:Nat),.int .u64 (0:Nat)] 157 (0,0)):=by
  have:=heap_alloc_new ((w.alloc (.cells #[Pt a] 177)).alloc (.cells #[.int .u64 lo,.int .u64 b] 157)) (.cells #[.int .u64 (0:Nat),.int .u64 (0:Nat)] 157);rw[World.size_alloc,World.size_alloc]at this;exact this
 have c6:(U9 w a lo b).heap.size=w.heap.size+1+1+1:=by simp
 have t:Hid (RLeft w a s i z (U9 w a lo b)):=a7;have W:Hid _:=a3;have b6:Hid _:=b1;have b7:Hid _:=b4;have b9:Hid _:=b5;cases k:iXl (nx s i) with
 | false=>
  have c:Hid _:=mQw k;have u:=lQk a s i z h _ t.out.lies W.out hs (by omega) k;clear k;go_enter Tryz.func183,Tryz.ntmps183;go_wp2_with fail;refine u.mono ?_;rintro e w1 ⟨rfl,M⟩;go_wp2_with fail;exact⟨rfl,.inr ⟨c.out,rfl,J8 t.out.grown M⟩⟩
 | true=>
  have d0:=q9 k;have p:Hid (iXl (nx s i)=true):=k;have u:=lQl a s i z _ t.out.lies hs k;clear k;go_enter Tryz.func183,Tryz.ntmps183;go_wp2_with fail;refine u.mono ?_;rintro e w1 ⟨rfl,j⟩;clear u;have c1:=W.out.grown j.grown;have b2:=b6.out.grown j.grown O;have k1:=b2.cell;have a2:=nQk a s (i+1) z 45 w1 j.lies hs (by omega);go_wp2_with fail;refine a2.mono ?_;rintro e w2 ⟨rfl,f⟩;clear a2 k1;have a4:=c1.grown f.grown;have b3:=b2.grown f.grown O;have k2:=b3.cell;have d:=t.out.trans (j.trans f);have Q:=b7.out;rw[<-(j.trans f).grown.block _ (by omega) (by simpa using a9)]at Q;have S:=b9.out;rw[<-(j.trans f).grown.block _ (by omega) (by simp;omega)]at S;have c7:=(j.trans f).grown.size;rw[c6]at c7;have Y:Hid (w2.heap[w.heap.size+1]?=some (.cells #[.int .u64 lo,.int .u64 b] 157 (0,0))):=Q;have Z:Hid (w2.heap[w.heap.size+1+1]?=some (.cells #[.int .u64 (0:Nat),.int .u64 (0:Nat)] 157 (0,0))):=S;clear Q S;cases o:A7 s (i+1) 45 with
  | false=>
   have c:Hid (gXc (rest s i)=some (nx s i,nx s i,rest s (i+1))):=mQx p.out o;rw[o]at d;simp only[Bool.false_eq_true,if_false]at d;obtain⟨B,C,E,F⟩:=aQi Y.out;have c4:=kXo p.out;clear o;go_wp2_with fail;refine(fQz lo b (nx s i) (nx s i) _ (Nat.le_refl _) (by omega) n.loLt n.hiLt).mono ?_;rintro e y ⟨r,N,rfl,G,H,q,K⟩;have I:=SB.with n G H (by omega) q;clear q;have g:=d.below K;have c8:=K.size;have m:=Z.out;rw[<-K.block _ (by omega)]at m;obtain⟨U,V,s0,s1⟩:=aQi m;clear m B C E F;go_wp2_with fail;refine bodyPost_ret (v:=.agg #[.int .u64 r,.int .u64 N]) (by simp[results,Tryz.results183,go_sem,U,V]) rfl (.inl ⟨nx s i,nx s i,i+1,r,N,c.out,by omega,by omega,rfl,I,g.res2 (by omega) b0 _ _⟩)
  | true=>
   have P:=o;rw[o]at d f;simp only[if_true]at d f;have d1:=(D9 P).1;have A:Hid (A7 s (i+1) 45=true):=P;clear o P;cases l:iXl (nx s (i+1+1)) with
   | false=>
    have c:Hid (gXc (rest s i)=.none):=hQ8 p.out A.out (.inl l);have x:=lQk a s (i+1+1) z h _ d.lies a4 hs (by omega) l;clear l;go_wp2_with fail;refine x.mono ?_;rintro e y ⟨rfl,M⟩;go_wp2_with fail;exact⟨rfl,.inr ⟨c.out,rfl,J8 d.grown M⟩⟩
   | true=>
    have N:=q9 l;have X:Hid (iXl (nx s (i+1+1))=true):=l;have x:=lQl a s (i+1+1) z _ d.lies hs l;clear l;go_wp2_with fail;refine x.mono ?_;rintro e y ⟨rfl,g⟩;clear x k2;have a8:=d.trans g;have c2:=a4.grown g.grown;have c5:=b3.grown g.grown O;have k3:=c5.cell;have c8:=g.grown.size;have R:=Y.out;rw[<-g.grown.block _ (by omega) (by simpa using a9)]at R;have m:=Z.out;rw[<-g.grown.block _ (by omega) (by simp;omega)]at m;have b8:Hid (y.heap[w.heap.size+1]?=some (.cells #[.int .u64 lo,.int .u64 b] 157 (0,0))):=R;have c0:Hid (y.heap[w.heap.size+1+1]?=some (.cells #[.int .u64 (0:Nat),.int .u64 (0:Nat)] 157 (0,0))):=m;clear R m
    by_cases a5:(nx s (i+1+1)).toNat<(nx s i).toNat
    ·have c:Hid (gXc (rest s i)=.none):=hQ8 p.out A.out (.inr a5)
     go_wp2_with fail;refine(V7 _ h _ c2.sc).mono ?_;rintro e w4 ⟨rfl,rfl⟩;go_wp2_with fail;exact⟨rfl,.inr ⟨c.out,rfl,a8.grown⟩⟩
    ·have c:Hid (gXc (rest s i)=some (nx s i,nx s (i+1+1),rest s (i+1+1+1))):=mQy p.out A.out X.out a5
     obtain⟨B,C,E,F⟩:=aQi b8.out;have c4:=kXo X.out;go_wp2_with fail;refine(fQz lo b (nx s i) (nx s (i+1+1)) _ (by omega) (by omega) n.loLt n.hiLt).mono ?_;rintro e w4 ⟨r,a6,rfl,G,H,q,L⟩;have I:=SB.with n G H (by omega) q;clear q;have c3:=a8.below L;have d3:=L.size;have T:=c0.out;rw[<-L.block _ (by omega)]at T;obtain⟨U,V,s0,s1⟩:=aQi T;clear T B C E F;go_wp2_with fail;refine bodyPost_ret (v:=.agg #[.int .u64 r,.int .u64 a6]) (by simp[results,Tryz.results183,go_sem,U,V]) rfl (.inl ⟨nx s i,nx s (i+1+1),i+1+1+1,r,a6,c.out,by omega,by omega,rfl,I,c3.res2 (by omega) b0 _ _⟩)
theorem vQg (c:UInt8)(s:By)(w:World):(callFunc 207 #[.string s,.int .u8 c.toNat]).run Tryz.prog w=.ok (.value (.int .i64 (firstIdx s c))) w:=by
 rw[run_callFunc_indexByte Tryz.func207 (by kernel_rfl) (by kernel_rfl) (by kernel_rfl) (by kernel_rfl),run_indexByte_string];simp[Result.andThen]
theorem vQj (c:UInt8)(s:By)(w:World) :
  Calls Tryz.prog 164 #[.string s,.int .u8 c.toNat] w fun e a=>e=.returned (Iv (firstIdx s c))/\a=w:=by
 have b:=vQg;go_enter Tryz.func164,Tryz.ntmps164;go_wp2
 go_ret;exact⟨rfl,rfl⟩
abbrev P5 (sl:Value):Value:=.iface 184 (.agg #[sl])
abbrev bQb (sl:Value):Value:=.iface 187 (.agg #[sl])
abbrev T8 (v:Value)(m a:Bool):Value:=.iface 189 (.agg #[v,.bool m,.bool a])
structure Shows (w:World)(G:Nat->Prop)(sl:Value)(vs:List Value):Prop where
 own:w.ownsRow 0 89 1 sl vs.length vs
 inG:∀k,sl.ownBlock=some k->G k
structure RepC (w:World)(G:Nat->Prop)(P:Nat->Ls.D->List Value->Prop):Prop where
 place:∀{s:Lu} {lo hi:Nat},SB s lo hi->P 0 (Ls.place s) [K3 lo hi]
 rep:∀{t:Nat} {a:Ls.D} {v:Value},t=5\/t=6\/t=7->P 0 a [v]->P 0 (Ls.rep t a) [T8 v (t != 6) (t != 7)]
 row:∀{d:Ls.D} {sl:Value} {vs:List Value},Shows w G sl vs->P 1 d vs->P 0 d [P5 sl]
 choice:∀{d:Ls.D} {sl:Value} {vs:List Value},Shows w G sl vs->P 2 d vs->P 0 d [bQb sl]
 rnil:P 1 Ls.rnil []
 rcons:∀{a r:Ls.D} {v:Value} {vs:List Value},P 0 a [v]->P 1 r vs->P 1 (Ls.rcons a r) (v::vs)
 clast:∀{r:Ls.D} {v:Value},P 0 r [v]->P 2 (Ls.clast r) [v]
 ccons:∀{r c:Ls.D} {v:Value} {vs:List Value},P 0 r [v]->P 2 c vs->P 2 (Ls.ccons r c) (v::vs)
structure Rep (w:World)(G:Nat->Prop)(r:Nat)(d:Ls.D)(vs:List Value):Prop where
 all:∀P,RepC w G P->P r d vs
section
variable {w:World} {G:Nat->Prop}
theorem Rep.place {s:Lu}{lo a:Nat}(h:SB s lo a):Rep w G 0 (Ls.place s) [K3 lo a]:=⟨fun _ c=>c.place h⟩
theorem Rep.rep {t:Nat}{a:Ls.D}{v:Value}(b:t=5\/t=6\/t=7)(h:Rep w G 0 a [v]):Rep w G 0 (Ls.rep t a) [T8 v (t != 6) (t != 7)]:=⟨fun P c=>c.rep b (h.all P c)⟩
theorem Rep.row {d:Ls.D}{a:Value}{b:List Value}(hs:Shows w G a b)(h:Rep w G 1 d b):Rep w G 0 d [P5 a]:=⟨fun P c=>c.row hs (h.all P c)⟩
theorem Rep.choice {d:Ls.D}{a:Value}{b:List Value}(hs:Shows w G a b)(h:Rep w G 2 d b):Rep w G 0 d [bQb a]:=⟨fun P c=>c.choice hs (h.all P c)⟩
theorem Rep.rnil:Rep w G 1 rnil []:=⟨fun _ c=>c.rnil⟩
theorem Rep.rcons {a r:Ls.D}{v:Value}{b:List Value}(d:Rep w G 0 a [v])(e:Rep w G 1 r b):Rep w G 1 (rcons a r) (v::b):=⟨fun P c=>c.rcons (d.all P c) (e.all P c)⟩
theorem Rep.clast {r:Ls.D}{v:Value}(h:Rep w G 0 r [v]):Rep w G 2 (clast r) [v]:=⟨fun P c=>c.clast (h.all P c)⟩
theorem Rep.ccons {r d:Ls.D}{v:Value}{a:List Value}(b:Rep w G 0 r [v])(e:Rep w G 2 d a):Rep w G 2 (ccons r d) (v::a):=⟨fun P c=>c.ccons (b.all P c) (e.all P c)⟩
theorem Rep.ind {motive:(r:Nat)->(d:Ls.D)->(vs:List Value)->Rep w G r d vs->Prop}
  (place:∀{s:Lu} {lo hi:Nat} (h:SB s lo hi),motive 0 (Ls.place s) [K3 lo hi] (.place h))
  (rep:∀{t:Nat} {a:Ls.D} {v:Value} (ht:t=5\/t=6\/t=7) (h:Rep w G 0 a [v]),motive 0 a [v] h->motive 0 (Ls.rep t a) [T8 v (t != 6) (t != 7)] (.rep ht h))
  (row:∀{d:Ls.D} {sl:Value} {vs:List Value} (hs:Shows w G sl vs) (h:Rep w G 1 d vs),motive 1 d vs h->motive 0 d [P5 sl] (.row hs h))
  (choice:∀{d:Ls.D} {sl:Value} {vs:List Value} (hs:Shows w G sl vs) (h:Rep w G 2 d vs),motive 2 d vs h->motive 0 d [bQb sl] (.choice hs h))
  (rnil:motive 1 Ls.rnil [] .rnil)
  (rcons:∀{a r:Ls.D} {v:Value} {vs:List Value} (h1:Rep w G 0 a [v]) (h2:Rep w G 1 r vs),motive 0 a [v] h1->motive 1 r vs h2->motive 1 (Ls.rcons a r) (v::vs) (.rcons h1 h2))
  (clast:∀{r:Ls.D} {v:Value} (h:Rep w G 0 r [v]),motive 0 r [v] h->motive 2 (Ls.clast r) [v] (.clast h))
  (ccons:∀{r c:Ls.D} {v:Value} {vs:List Value} (h1:Rep w G 0 r [v]) (h2:Rep w G 2 c vs),motive 0 r [v] h1->motive 2 c vs h2->motive 2 (Ls.ccons r c) (v::vs) (.ccons h1 h2))
  {r:Nat} {d:Ls.D} {vs:List Value} (h:Rep w G r d vs):motive r d vs h:=
 (h.all (fun r d vs=>∃h:Rep w G r d vs,motive r d vs h)
  ⟨fun h=>⟨_,place h⟩,fun ht ⟨_,m⟩=>⟨_,rep ht _ m⟩,fun hs ⟨_,m⟩=>⟨_,row hs _ m⟩,fun hs ⟨_,m⟩=>⟨_,choice hs _ m⟩,⟨_,rnil⟩,
   fun ⟨_,m1⟩ ⟨_,m2⟩=>⟨_,rcons _ _ m1 m2⟩,fun ⟨_,m⟩=>⟨_,clast _ m⟩,fun ⟨_,m1⟩ ⟨_,m2⟩=>⟨_,ccons _ _ m1 m2⟩⟩).2
end
theorem Shows.mono {w w':World}{G G':Nat->Prop}(i:∀k,G k->G' k)(n:∀k,G k->w'.heap[k]?=w.heap[k]?){a:Value}{b:List Value}(h:Shows w G a b):Shows w' G' a b:=by
 refine⟨⟨h.own.1,?_⟩,fun k m=>i k (h.inG k m)⟩;rcases h.own.2 with e|⟨g,c,d,rfl,j,l,f⟩
 ·exact .inl e
 ·exact .inr ⟨g,c,d,rfl,j,by rw[n g (h.inG g rfl)];exact l,f⟩
theorem Rep.mono {w w':World}{G G':Nat->Prop}(e:∀k,G k->G' k)(f:∀k,G k->w'.heap[k]?=w.heap[k]?){r:Nat}{d:Ls.D}{g:List Value}(h:Rep w G r d g):Rep w' G' r d g:=by
 induction h using Rep.ind with
 | place h=>exact .place h
 | rep i _ a=>exact .rep i a
 | row hs _ a=>exact .row (hs.mono e f) a
 | choice hs _ a=>exact .choice (hs.mono e f) a
 | rnil=>exact .rnil
 | rcons _ _ b c=>exact .rcons b c
 | clast _ a=>exact .clast a
 | ccons _ _ b c=>exact .ccons b c
theorem Rep.at0 {w:World}{G:Nat->Prop}{d:Ls.D}{v:Value}(h:Rep w G 0 d [v]) :
  (∃s lo g,SB s lo g/\d=Ls.place s/\v=K3 lo g)\/(∃t a i,(t=5\/t=6\/t=7)/\Rep w G 0 a [i]/\d=Ls.rep t a/\v=T8 i (t != 6) (t != 7))\/
  (∃e c,Shows w G e c/\Rep w G 1 d c/\v=P5 e)\/(∃e c,Shows w G e c/\Rep w G 2 d c/\v=bQb e):=by
 generalize f:0=r,b:[v]=c at h;induction h using Rep.ind with
 | place h=>injection b with b;exact .inl ⟨_,_,_,h,rfl,b⟩
 | rep j h=>injection b with b;exact .inr (.inl ⟨_,_,_,j,h,rfl,b⟩)
 | row hs h=>injection b with b;exact .inr (.inr (.inl ⟨_,_,hs,h,b⟩))
 | choice hs h=>injection b with b;exact .inr (.inr (.inr ⟨_,_,hs,h,b⟩))
 | rnil=>cases f
 | rcons=>cases f
 | clast=>cases f
 | ccons=>cases f
def RPost (w:World)(rb:Nat)(s:By)(i z:Nat)(a1:Addr)(res:Rd):Ending->World->Prop:=fun e w'=>
 (∃d j v,res=some (d,rest s j)/\i<=j/\j<=s.size/\e=.returned v/\Rep w' (B8 w w') 0 d [v]/\RLeft w rb s j z w')\/
 (res=.none/\K6 w rb a1 e w')
def U8 (w:World)(rb:Nat):Nat:=(intOf ((w.cell? ⟨rb,1,none⟩).getD (.int .i64 0))).toNat
theorem aQs {w:World}{b:Nat}{s:By}{a z:Nat}(h:RB w b s a z):U8 w b=a:=by
 unfold U8;rw[h.c1];simp[intOf]
def bQc (n:Nat)(acc r:Lu):Option (Lu × Lu):=if r.head?=some 93 then some (acc,r.tail) else cls n acc r
theorem jQx {n:Nat}{c r:Lu}{a b:UInt8}{t:Lu}(h:gXc r=some (a,b,t)):cls (n+1) c r=bQc n (rng c a b) t:=by
 rw[cls,h];rfl
theorem jQw {n:Nat}{a r:Lu}(h:gXc r=.none):cls n a r=.none:=by
 cases n with
 | zero=>rfl
 | succ n=>rw[cls,h]
def pQa (w:World)(rb:Nat)(s:By)(i z:Nat)(a1:Addr):Ending->World->Prop:=fun e w'=>
 (∃g j lo hi,cls ((rest s i).length+1) [] (rest s i)=some (g,rest s j)/\i<=j/\j<=s.size/\e=.returned (K3 lo hi)/\SB g lo hi/\RLeft w rb s j z w')\/
 (cls ((rest s i).length+1) [] (rest s i)=.none/\K6 w rb a1 e w')
theorem aXz (a:Nat)(s:By)(i z:Nat)(t:Addr)(w:World)(h:RB w a s i z)(I:Env w a t)(hs:s.size<=1048576)(a9:i<=s.size) :
  Calls Tryz.prog 161 #[D3 a] w (pQa w a s i z t):=by
 have P:=h.lt;have C:w.heap.size≠a:=by omega
 have K:=A5 w (.cells #[Pt a] 177);have y:Hid _:=RLeft.of_below h K;have X:Hid _:=Bx.new w 177 a;have H:=jQt a s i z t [] 0 0 _ y.out.lies (I.below K) hs a9 SB.empty;go_enter Tryz.func161,Tryz.ntmps161;go_wp2_with fail;refine H.mono ?_;rintro e d (⟨a2,a3,j,lo,u,v,hj,b0,rfl,a6,A⟩|⟨v,rfl,hg⟩)
 ·have G:Hid (cls ((rest s i).length+1) [] (rest s i)=bQc (rest s i).length (rng [] a2 a3) (rest s j)):=jQx v
  have hl:=y.out.trans A;have b5:=X.out.grown A.grown C;have b7:=A.grown.size;simp at b7;go_wp2;go_loopw [] (fun wr=>∃(k n:Nat) (c:Lu) (lo u:Nat),SB c lo u/\i<k/\k<=s.size/\(rest s k).length<n+1/\cls ((rest s i).length+1) [] (rest s i)=bQc n c (rest s k)/\RLeft w a s k z wr/\Bx 177 wr w.heap.size a/\wr.heap[d.heap.size]?=some (.cells #[.int .u64 lo,.int .u64 u] 157 (0,0))) (fun wr=>s.size+1-U8 wr a)
  case atStart=>
   refine⟨j,(rest s i).length,_,lo,u,a6,b0,hj,?_,G.out,hl.below (A5 _ _),b5.below (A5 _ _),heap_alloc_new _ _⟩;rw[F4,F4];omega
  case round=>
   obtain⟨k,n,c,r,o,J,c2,b2,hn,L,g,Q,S⟩:=hrel;have E:Hid _:=L;have a5:=I.grown g.grown;have Hx:Hid _:=S;have b3:=aQs g.lies;have U:=Q.cell;go_wp2_with fail;refine(nQk a s k z 93 _ g.lies hs (by omega)).mono ?_;rintro e w3 ⟨rfl,b⟩;have R:=Q.grown b.grown C;have U:=R.cell;have O:some d.heap.size≠some a:=by simp;omega
   have l:=Hx.out;rw[<-b.grown.block _ (Array.getElem?_eq_some_iff.1 l).1 O]at l;obtain⟨c0,c1,f0,f1⟩:=aQi l;have b8:=(Array.getElem?_eq_some_iff.1 l).1;have a0:Hid _:=l;cases f:A7 s k 93 with
   | true=>
    rw[f]at b;simp only[if_true]at b;have c3:=(D9 f).1;have m:Hid (cls ((rest s i).length+1) [] (rest s i)=some (c,rest s (k+1))):=by
     show _=_;rw[E.out,bQc,if_pos (C4.2 f),E7]
    clear f;go_wp2_with fail;go_ret;exact .inl ⟨c,k+1,r,o,m.out,by omega,by omega,rfl,J,g.trans b⟩
   | false=>
    rw[f]at b;simp only[Bool.false_eq_true,if_false]at b;have F:Hid (cls ((rest s i).length+1) [] (rest s i)=cls n c (rest s k)):=by
     show _=_;rw[E.out,bQc,if_neg (by rw[C4,f];simp)]
    clear f;go_wp2_with fail;refine(jQt a s k z t c r o _ b.lies (a5.grown b.grown) hs b2 J).mono ?_;rintro e W (⟨a4,b4,T,V,M,p,b1,b9,rfl,a7,B⟩|⟨p,rfl,a8⟩)
    ·obtain⟨x,rfl⟩:∃x,n=x+1:=by
      cases n with
      | zero=>
       have:=iX9 p;omega
      | succ n=>exact⟨n,rfl⟩
     have Z:Hid (cls ((rest s i).length+1) [] (rest s i)=bQc x (rng c a4 b4) (rest s T)):=by
      show _=_;rw[F.out,jQx p]
     clear p;have b6:=R.grown B.grown C;have q:=a0.out;rw[<-B.grown.block _ b8 O]at q;obtain⟨c0,c1,f0,f1⟩:=aQi q;have c4:=(Array.getElem?_eq_some_iff.1 q).1;have a1:Hid (W.heap[d.heap.size]?=some (.cells #[.int .u64 r,.int .u64 o] 157 (0,0))):=q;clear q;have N:=g.trans (b.trans B);have Y:Hid (Bx 177 ((W.setCell ⟨d.heap.size,0,none⟩ (.int .u64 V)).setCell ⟨d.heap.size,1,none⟩ (.int .u64 M)) w.heap.size a):=⟨by
      rw[Below.heap_setCell _ _ _ _ (by show w.heap.size≠d.heap.size;omega),Below.heap_setCell _ _ _ _ (by show w.heap.size≠d.heap.size;omega)];exact b6.lies⟩
     go_wp2_with fail;go_roundw
     case rel=>
      refine⟨T,x,_,V,M,a7,by omega,b1,?_,Z.out,N.res2 (by omega) P _ _,Y.out,?_⟩
      ·rw[F4]at hn ⊢;omega
      ·have:=a1.out
       simp[World.setCell,Array.getElem?_modify,this]
     case measure=>
      rw[b3,aQs (N.res2 (by omega) P _ _).lies];omega
    ·have m:Hid (cls ((rest s i).length+1) [] (rest s i)=.none):=by
      show _=_;rw[F.out,jQw p]
     go_wp2_with fail;exact⟨rfl,.inr ⟨m.out,rfl,J8 (J8 g.grown b.grown) a8⟩⟩
 ·have m:Hid (cls ((rest s i).length+1) [] (rest s i)=.none):=jQw v
  go_wp2_with fail;exact⟨rfl,.inr ⟨m.out,rfl,J8 y.out.grown hg⟩⟩
end Go.Proofs.YtfklinjaajafgaaGreatDoor
