import Derived.Test.YtfklinjaajafgaaGreatDoorK01
import Derived.Test.YtfklinjaajafgaaGreatDoorTie
import Derived.Test.YtfklinjaajafgaaGreatDoorCards
import Derived.ProofKit
import Derived.OpenShut
import Derived.ShutString
import Derived.LaidMore
import Derived.Stop.LaidErr
import Derived.Stop.Joined
import Derived.Test.YtfklinjaajafgaaGreatDoorK03
import Derived.Laws.StandIn
import Derived.Laws.Runes
import Derived.Defers
import Derived.Recover
import Derived.Stop.Asserts
set_option maxRecDepth 100000
set_option maxHeartbeats 4000000
namespace Go.Proofs.YtfklinjaajafgaaGreatDoor
open Go.ChangeShapes Go.WideShapes Go.ChangeAt Go.RowKit
open Go.ChangeMaps (open_string shut_string)
theorem own:ownKnob Tryz.prog.godebug=none:=by kernel_rfl
theorem gLong : Tryz.prog.globalNamed "lenses/reading.ErrLong" = some 0 := by kernel_rfl
theorem gSyntax : Tryz.prog.globalNamed "lenses/reading.ErrSyntax" = some 3 := by kernel_rfl
theorem gSize : Tryz.prog.globalNamed "lenses/reading.ErrSize" = some 1 := by kernel_rfl
theorem cX3:(Tryz.prog.globals[0]?).map (·.type)=some 80:=by kernel_rfl
theorem cX5:(Tryz.prog.globals[3]?).map (·.type)=some 80:=by kernel_rfl
theorem cX4:(Tryz.prog.globals[1]?).map (·.type)=some 80:=by kernel_rfl
theorem gType : Tryz.prog.globalNamed "lenses/programs.ErrType" = some 2 := by kernel_rfl
theorem cX6:(Tryz.prog.globals[2]?).map (·.type)=some 80:=by kernel_rfl
theorem eQc:Tryz.prog.cellsOf 274=1:=by kernel_rfl
theorem eQd:Tryz.prog.cellsOf 9=1:=by kernel_rfl
theorem starE : "*" ++ "errors.errorString" = "*errors.errorString" := by decide
theorem rowE (u : TypeId) (h : Tryz.prog.typeName? 3 u = some "*errors.errorString") : u = 251 :=
 typeName_ptr_named (nm := "errors.errorString") (by rw [starE]; kernel_rfl) (by kernel_rfl) (by decide) u (by rw [starE]; exact h)
structure Sent (w:World)(a0 a1 a2 a3:Addr):Prop where
 c0:Ce w 0 0 (.iface 251 (.pointer (some a0)))
 c1:Ce w 3 0 (.iface 251 (.pointer (some a1)))
 c2:Ce w 1 0 (.iface 251 (.pointer (some a2)))
 c3:Ce w 2 0 (.iface 251 (.pointer (some a3)))
 n01:a0≠a1
 n02:a0≠a2
 n12:a1≠a2
 n03:a0≠a3
 n13:a1≠a3
 n23:a2≠a3
 b0:∃c t,w.heap[a0.block]?=some (.cells c t (0,0))
 b1:∃c t,w.heap[a1.block]?=some (.cells c t (0,0))
 b2:∃c t,w.heap[a2.block]?=some (.cells c t (0,0))
 b3:∃c t,w.heap[a3.block]?=some (.cells c t (0,0))
def laid4 : List (String × DataW Unit) := [("lenses/reading.ErrLong", Rows.laid_lenses_reading_ErrLong), ("lenses/reading.ErrSyntax", Rows.laid_lenses_reading_ErrSyntax), ("lenses/reading.ErrSize", Rows.laid_lenses_reading_ErrSize), ("lenses/programs.ErrType", Rows.laid_lenses_programs_ErrType)]
theorem aQ3 {W:World}(h:laidMetH Tryz.prog laid4 W):∃d f g i,Sent W d f g i:=by
 rw[MakeChecks.laidMetH_plain _ _ _ (by kernel_rfl)]at h;obtain⟨ps,⟨g0,t0,G,f0,p0,q0,n,X,B,Q,⟨g1,t1,H,f1,p1,q1,o,Y,C,R,⟨g2,t2,I,f2,p2,q2,p,Z,E,S,⟨g3,t3,J,f3,p3,q3,q,a0,F,T,U,N⟩,M⟩,L⟩,K⟩,a5,a⟩:=h;obtain rfl:=Option.some.inj (gLong.symm.trans n);obtain rfl:=Option.some.inj (gSyntax.symm.trans o);obtain rfl:=Option.some.inj (gSize.symm.trans p);obtain rfl:=Option.some.inj (gType.symm.trans q);obtain rfl:=Option.some.inj (cX3.symm.trans X);obtain rfl:=Option.some.inj (cX5.symm.trans Y);obtain rfl:=Option.some.inj (cX4.symm.trans Z);obtain rfl:=Option.some.inj (cX6.symm.trans a0);have V:q3=[]:=U;subst V;subst N;subst M;subst L;subst K;obtain⟨l0⟩:=G;obtain⟨l1⟩:=H;obtain⟨l2⟩:=I;obtain⟨l3⟩:=J;have a1:∀u v,l0=[.iface u v]->Value.okWide Tryz.prog W .any 0 u v:=fun u v e=>by
  subst e;exact(a 0 0 (by simp[MemPlace.row])).2 u v (by simpa using World.var?_cell n B 0)
 have a2:∀u v,l1=[.iface u v]->Value.okWide Tryz.prog W .any 0 u v:=fun u v e=>by
  subst e;exact(a 3 0 (by simp[MemPlace.row])).2 u v (by simpa using World.var?_cell o C 0)
 have a3:∀u v,l2=[.iface u v]->Value.okWide Tryz.prog W .any 0 u v:=fun u v e=>by
  subst e;exact(a 1 0 (by simp[MemPlace.row])).2 u v (by simpa using World.var?_cell p E 0)
 have a4:∀u v,l3=[.iface u v]->Value.okWide Tryz.prog W .any 0 u v:=fun u v e=>by
  subst e;exact(a 2 0 (by simp[MemPlace.row])).2 u v (by simpa using World.var?_cell q F 0)
 obtain⟨d,s0,rfl,j,r,a6,rfl⟩:=errorString_of_trod Tryz.underlying80 rowE Tryz.underlying251 Tryz.underlying274 rfl rfl Tryz.underlying9 eQc eQd Q a1;obtain⟨f,s1,rfl,k,w,a7,rfl⟩:=errorString_of_trod Tryz.underlying80 rowE Tryz.underlying251 Tryz.underlying274 rfl rfl Tryz.underlying9 eQc eQd R a2;obtain⟨g,s2,rfl,l,z,a8,rfl⟩:=errorString_of_trod Tryz.underlying80 rowE Tryz.underlying251 Tryz.underlying274 rfl rfl Tryz.underlying9 eQc eQd S a3;obtain⟨i,s3,rfl,m,A,a9,rfl⟩:=errorString_of_trod Tryz.underlying80 rowE Tryz.underlying251 Tryz.underlying274 rfl rfl Tryz.underlying9 eQc eQd T a4;have c:∀(x y:Addr) (s t:ByteArray),W.cell? x=some (.string s)->W.cell? y=some (.string t)->s.data.toList≠t.data.toList->x≠y:=by
  rintro x y s t O b P rfl;rw[O]at b;injection b with b;injection b with b;exact P (by rw[b])
 refine⟨d,f,g,i,?_,?_,?_,?_,c _ _ _ _ j k (by rw[r,w];decide),c _ _ _ _ j l (by rw[r,z];decide),c _ _ _ _ k l (by rw[w,z];decide),c _ _ _ _ j m (by rw[r,A];decide),c _ _ _ _ k m (by rw[w,A];decide),c _ _ _ _ l m (by rw[z,A];decide),(a d.block d.off (by simp[MemPlace.row])).1,(a f.block f.off (by simp[MemPlace.row])).1,(a g.block g.off (by simp[MemPlace.row])).1,(a i.block i.off (by simp[MemPlace.row])).1⟩
 ·simpa using World.var?_cell n B 0
 ·simpa using World.var?_cell o C 0
 ·simpa using World.var?_cell p E 0
 ·simpa using World.var?_cell q F 0
theorem Sent.below {w w':World}{i j l m:Addr}(h:Sent w i j l m)(a:Bw w w'):Sent w' i j l m:=by
 have d:∀{k:Nat} {o:Obj},w.heap[k]?=some o->k<w.heap.size:=fun h=>(Array.getElem?_eq_some_iff.1 h).1;have b:∀{g:Nat} {v:Value},w.cell? ⟨g,0,none⟩=some v->g<w.heap.size:=fun {g v} h=>by
  rcases Nat.lt_or_ge g w.heap.size with f|f
  ·exact f
  ·rw[World.cell?,Array.getElem?_eq_none f]at h;cases h
 refine⟨(a.cell (b h.c0)).trans h.c0,(a.cell (b h.c1)).trans h.c1,(a.cell (b h.c2)).trans h.c2,(a.cell (b h.c3)).trans h.c3,h.n01,h.n02,h.n12,h.n03,h.n13,h.n23,?_,?_,?_,?_⟩
 ·obtain⟨c,t,e⟩:=h.b0;exact⟨c,t,by rw[a.block _ (d e)];exact e⟩
 ·obtain⟨c,t,e⟩:=h.b1;exact⟨c,t,by rw[a.block _ (d e)];exact e⟩
 ·obtain⟨c,t,e⟩:=h.b2;exact⟨c,t,by rw[a.block _ (d e)];exact e⟩
 ·obtain⟨c,t,e⟩:=h.b3;exact⟨c,t,by rw[a.block _ (d e)];exact e⟩
theorem aQx (b:Os)(a:Array Value):laidMetH Tryz.prog laid4 ((World.doorLaid Tryz.prog 400 b).forCall (fun _ _=>0) ⟨#[],a,[]⟩).memory:=
 laidMetH_of_parts3 (fuel:=8) (laidMet_of_run' 8 (by kernel_rfl) (by kernel_rfl)) (by kernel_rfl) (by kernel_rfl)
end Go.Proofs.YtfklinjaajafgaaGreatDoor
namespace Go.Proofs.YtfklinjaajafgaaGreatDoor
open Go.RowKit
def RB (w:World)(rb:Nat)(s:ByteArray)(at_ dep:Nat):Prop:=w.heap[rb]?=some (.cells #[.string s,.int .i64 at_,.int .i64 dep] 164 (0,0))
theorem RB.lt {w:World}{b:Nat}{s:ByteArray}{a z:Nat}(h:RB w b s a z):b<w.heap.size:=(Array.getElem?_eq_some_iff.1 h).1
theorem RB.c0 {w:World}{b:Nat}{s:ByteArray}{a z:Nat}(h:RB w b s a z):w.cell? ⟨b,0,none⟩=some (.string s):=by unfold RB at h;simp[World.cell?,h]
theorem RB.c1 {w:World}{b:Nat}{s:ByteArray}{a z:Nat}(h:RB w b s a z):w.cell? ⟨b,1,none⟩=some (.int .i64 a):=by unfold RB at h;simp[World.cell?,h]
theorem RB.c2 {w:World}{b:Nat}{s:ByteArray}{a z:Nat}(h:RB w b s a z):w.cell? ⟨b,2,none⟩=some (.int .i64 z):=by unfold RB at h;simp[World.cell?,h]
theorem RB.fr {w:World}{b:Nat}{s:ByteArray}{a z:Nat}(h:RB w b s a z)(o:Nat):w.frozen? ⟨b,o,none⟩=false:=by unfold RB at h;simp[World.frozen?,h]
theorem RB.set1 {w:World}{b:Nat}{s:ByteArray}{a z:Nat}(h:RB w b s a z)(c:Nat):RB (w.setCell ⟨b,1,none⟩ (Iv c)) b s c z:=by unfold RB at h ⊢;simp[World.setCell,Array.getElem?_modify,h]
theorem RB.set2 {w:World}{b:Nat}{s:ByteArray}{a z:Nat}(h:RB w b s a z)(c:Nat):RB (w.setCell ⟨b,2,none⟩ (Iv c)) b s a c:=by unfold RB at h ⊢;simp[World.setCell,Array.getElem?_modify,h]
theorem RB.below {w w':World}{b:Nat}{s:ByteArray}{a z:Nat}(h:RB w b s a z)(c:Bw w w'):RB w' b s a z:=by have:=h.lt;unfold RB at h ⊢;rw[c.block b this];exact h
structure RLeft (w:World)(rb:Nat)(s:ByteArray)(at_ dep:Nat)(w':World):Prop where
 lies:RB w' rb s at_ dep
 grown:w.grownBy w' (some rb)
theorem RLeft.of_below {w d:World}{c:Nat}{s:ByteArray}{a z:Nat}(h:RB w c s a z)(b:Bw w d):RLeft w c s a z d:=⟨h.below b,L5 b _⟩
theorem RLeft.trans {w w1 d:World}{b:Nat}{s:ByteArray}{a z c e:Nat}(h:RLeft w b s a z w1)(k:RLeft w1 b s c e d):RLeft w b s c e d:=⟨k.lies,J8 h.grown k.grown⟩
theorem RLeft.below {w d e:World}{c:Nat}{s:ByteArray}{a z:Nat}(h:RLeft w c s a z d)(b:Bw d e):RLeft w c s a z e:=⟨h.lies.below b,J8 h.grown (L5 b _)⟩
theorem RLeft.set1 {w d:World}{c:Nat}{s:ByteArray}{a z:Nat}(h:RLeft w c s a z d)(b:Nat):RLeft w c s b z (d.setCell ⟨c,1,none⟩ (Iv b)):=⟨h.lies.set1 b,J8 h.grown (V8 _ _ _ _)⟩
theorem RLeft.set2 {w d:World}{b:Nat}{s:ByteArray}{a z:Nat}(h:RLeft w b s a z d)(c:Nat):RLeft w b s a c (d.setCell ⟨b,2,none⟩ (Iv c)):=⟨h.lies.set2 c,J8 h.grown (V8 _ _ _ _)⟩
theorem eQk (a:Nat)(s:ByteArray)(i z:Nat)(w:World)(h:RB w a s i z)(_hs:s.size<=1048576)(_hi:i<=1048577) :
  Calls Tryz.prog 102 #[Pt a] w fun e b=>e=.returned (.bool (decide (s.size<=i)))/\∃n,b=w.drewN n:=by
 have c:=h.c0;have d:=h.c1;go_enter Tryz.func102,Tryz.ntmps102;go_wp2_with fail;go_quiet (fail)
 go_wp2_with fail;go_ret;exact⟨by simp,_,rfl⟩
abbrev C9 (a1:Addr):Value:=.iface 251 (.pointer (some a1))
theorem V7 (v:Value)(a:Addr)(w:World)(c:Ce w 3 0 (C9 a)) :
  Calls Tryz.prog 103 #[v] w fun e b=>e=.panicked [{v:=C9 a,recovered:=false}]/\b=w:=by
 go_enter Tryz.func103,Tryz.ntmps103;go_wp2_with fail;exact⟨rfl,rfl,rfl⟩
structure Env (w:World)(rb:Nat)(a1:Addr):Prop where
 sc:Ce w 3 0 (C9 a1)
 ne:rb≠3
theorem Env.grown {w c:World}{a:Nat}{b:Addr}(h:Env w a b)(d:w.grownBy c (some a)):Env c a b:=
 ⟨d.cell h.sc (by simp;exact fun e=>h.ne e.symm),h.ne⟩
theorem Env.below {w w':World}{b:Nat}{a:Addr}(h:Env w b a)(c:Bw w w'):Env w' b a:=h.grown (L5 c _)
def K6 (w:World)(rb:Nat)(a1:Addr):Ending->World->Prop:=fun e w'=>e=.panicked [{v:=C9 a1,recovered:=false}]/\w.grownBy w' (some rb)
theorem vQa (w:World)(n:Nat)(r:Option Nat):w.grownBy (w.drewN n) r:=⟨rfl,rfl,rfl,Nat.le_refl _,fun _ _ _=>rfl⟩
theorem mQ4 (f:Nat)(s:ByteArray)(i z:Nat)(a:List UInt8)(g:Nat)(w:World)(h:RB w f s i z)(P:a.length<=8)(K:g<w.heap.size)(E:∀k (F:k<a.length),Ce w g k (.int .u8 a[k].toNat))(hs:s.size<=1048576)(L:i<=1048577) :
  Calls Tryz.prog 131 #[Pt f,Sl g a.length a.length] w fun e j=>e=.returned (.bool (a.any (A7 s i)))/\Bw w j:=by
 have I:Hid (∀k (F:k<a.length),Ce w g k (.int .u8 a[k].toNat)):=E;clear E;go_enter Tryz.func131,Tryz.ntmps131;go_wp2_with fail;go_loopw [9] (fun t wr=>∃k:Nat,k<=a.length/\t=Iv k/\Bw w wr/\(a.take k).any (A7 s i)=false) (fun t _=>a.length-(intOf t).toNat)
 case atStart=>exact⟨0,Nat.zero_le _,rfl,Br,by simp⟩
 case round=>
  obtain⟨k,F,rfl,l,B⟩:=hrel;have x:Hid ((a.take k).any (A7 s i)=false):=B;have r:=h.below l;have M:=r.c0;have N:=r.c1;clear B
  by_cases v:k<a.length
  ·have O:Ce wr g k (.int .u8 a[k].toNat):=(l.cell (p:=⟨g,k,none⟩) K).trans (I.out k v)
   have R:(0:Int)<=(k:Int):=by omega
   have S:(k:Int)<(a.length:Int):=by omega
   have J:Hid (a.any (A7 s i)=true\/A7 s i a[k]=false):=by
    cases b:A7 s i a[k] with
    | true=>exact .inl (List.any_eq_true.2 ⟨a[k],List.getElem_mem v,b⟩)
    | false=>exact .inr rfl
   have A:Hid (A7 s i a[k]=false->(a.take (k+1)).any (A7 s i)=false):=fun b=>by
    rw[List.take_succ_eq_append_getElem v,List.any_append,x.out];simp[b]
   have H:∀n,RB (wr.drewN n) f s i z:=fun n=>r;have o:Hid (∀n,Ca 102 #[Pt f] (wr.drewN n) fun e j=>e=.returned (.bool (decide (s.size<=i)))/\∃m,j=(wr.drewN n).drewN m):=fun n=>eQk f s i z _ (H n) hs L;clear H r;generalize a[k]=c at *
   by_cases u:i<s.size
   ·have q:Hid (∀n,Ca 102 #[Pt f] (wr.drewN n) fun e j=>e=.returned (.bool false)/\∃m,j=(wr.drewN n).drewN m):=fun n=>by
     have:=o.out n;rw[show decide (s.size<=i)=false from by simp;omega]at this;exact this
    have Q:(i:Int)<(s.size:Int):=by omega
    have y:Hid (A7 s i c=(((s[i].toNat:Int)==(c.toNat:Int)))):=by
     show _=_;rw[Bool.eq_iff_iff];simp[A7,u,M6 u];rw[<-UInt8.toNat_inj];omega
    clear o;cases C:(((s[i].toNat:Int)==(c.toNat:Int))) with
    | true=>
     have d:Hid (a.any (A7 s i)=true):=by
      rcases J.out with b|b
      ·exact b
      ·rw[y.out,C]at b;cases b
     go_wp2_with fail;go_quiet ((go_at_call 102;exact Calls.quiet_of (q.out _)))
     go_wp2_with fail;go_ret;exact⟨by rw[d.out];rfl,Bj l (E5 _)⟩
    | false=>
     have d:Hid ((a.take (k+1)).any (A7 s i)=false):=A.out (by rw[y.out,C]);go_wp2_with fail;go_quiet ((go_at_call 102;exact Calls.quiet_of (q.out _)))
     go_wp2_with fail;go_roundw
     case rel=>exact⟨k+1,by omega,by go_num,Bj l (E5 _),d.out⟩
     case measure=>simp[intOf];omega
   ·have q:Hid (∀n,Ca 102 #[Pt f] (wr.drewN n) fun e j=>e=.returned (.bool true)/\∃m,j=(wr.drewN n).drewN m):=fun n=>by
     have:=o.out n;rw[show decide (s.size<=i)=true from by simp;omega]at this;exact this
    have d:Hid ((a.take (k+1)).any (A7 s i)=false):=A.out (by simp[A7,u]);clear o;go_wp2_with fail;go_quiet ((go_at_call 102;exact Calls.quiet_of (q.out _)))
    go_wp2_with fail;go_roundw
    case rel=>exact⟨k+1,by omega,by go_num,Bj l (E5 _),d.out⟩
    case measure=>simp[intOf];omega
  ·have G:k=a.length:=by omega
   have d:Hid (a.any (A7 s i)=false):=by
    have:=x.out;rwa [G,List.take_length]at this
   subst G;go_wp2_with fail;go_ret;exact⟨by rw[d.out];rfl,l⟩
theorem mQ3 (a:Nat)(s:ByteArray)(i z:Nat)(c:UInt8)(w:World)(t:TypeId)(h:RB w a s i z)(hs:s.size<=1048576)(f:i<=1048577) :
  Calls Tryz.prog 131 #[Pt a,Sl w.heap.size 1 1] (w.alloc (.cells #[.int .u8 c.toNat] t)) fun e g=>e=.returned (.bool (A7 s i c))/\RLeft w a s i z g:=by
 refine(mQ4 a s i z [c] w.heap.size (w.alloc (.cells #[.int .u8 c.toNat] t)) (h.below (A5 _ _)) (by simp) (by simp) (fun k b=>?_) hs f).mono ?_
 ·obtain rfl:k=0:=by simp at b;exact b
  have:=heap_alloc_new w (.cells #[.int .u8 c.toNat] t);show World.cell? _ ⟨w.heap.size,0,none⟩=_;unfold World.cell?;rw[this];rfl
 ·rintro e j ⟨rfl,d⟩
  exact⟨by simp,RLeft.of_below h (Bj (A5 _ _) d)⟩
theorem Z5 (rb:Nat)(s:ByteArray)(i z:Nat)(c:UInt8)(w:World)(h:RB w rb s i z)(hs:s.size<=1048576)(ht:A7 s i c=true) :
  Calls Tryz.prog 120 #[Pt rb,.int .u8 c.toNat] w fun e w'=>e=.returned (.bool true)/\RLeft w rb s (i+1) z w':=by
 have hi:=(D9 ht).1;have hS:=fun t=>mQ3 rb s i z c w t h hs (by omega);rw[ht]at hS;have HS:Hid _:=hS;clear ht hS;go_enter Tryz.func120,Tryz.ntmps120;go_wp2_with fail;refine(HS.out _).mono ?_;rintro e w1 ⟨rfl,hl⟩;have c1:=hl.lies.c1;have f1:=hl.lies.fr 1;go_wp2_with fail;go_ret;exact⟨rfl,hl.set1 (i+1)⟩
theorem X5 (rb:Nat)(s:ByteArray)(i z:Nat)(c:UInt8)(w:World)(h:RB w rb s i z)(hs:s.size<=1048576)(hi:i<=1048577)(ht:A7 s i c=false) :
  Calls Tryz.prog 120 #[Pt rb,.int .u8 c.toNat] w fun e w'=>e=.returned (.bool false)/\RLeft w rb s i z w':=by
 have hS:=fun t=>mQ3 rb s i z c w t h hs hi;rw[ht]at hS;have HS:Hid _:=hS;clear ht hS;go_enter Tryz.func120,Tryz.ntmps120;go_wp2_with fail;refine(HS.out _).mono ?_;rintro e w1 ⟨rfl,hl⟩;go_wp2_with fail;go_ret;exact⟨rfl,hl⟩
theorem nQk (a:Nat)(s:ByteArray)(i z:Nat)(c:UInt8)(w:World)(h:RB w a s i z)(hs:s.size<=1048576)(d:i<=1048577) :
  Calls Tryz.prog 120 #[Pt a,.int .u8 c.toNat] w fun e f=>e=.returned (.bool (A7 s i c))/\RLeft w a s (if A7 s i c=true then i+1 else i) z f:=by
 cases b:A7 s i c with
 | true=>simpa using Z5 a s i z c w h hs b
 | false=>simpa using X5 a s i z c w h hs d b
theorem O2 (b:Nat)(s:ByteArray)(i z:Nat)(w:World)(h:RB w b s i z)(hs:s.size<=1048576)(d:i<s.size) :
  Calls Tryz.prog 143 #[Pt b] w fun e j=>e=.returned (.int .u8 (nx s i).toNat)/\RLeft w b s (i+1) z j:=by
 have c:=eQk b s i z w h hs (by omega);rw[show decide (s.size<=i)=false from by simp;omega]at c;have g:Hid (nx s i=s[i]):=M6 d;go_enter Tryz.func143,Tryz.ntmps143;go_wp2_with fail;refine c.mono ?_;rintro e k ⟨rfl,n,rfl⟩;have a:=RLeft.of_below h (E5 (w:=w) n);clear c h;generalize w.drewN n=k at *;have m:=a.lies.c1;have o:=a.lies.fr 1;have q:=a.lies.lt;have l:=a.lies.c0;have p:(i:Int)<(s.size:Int):=by omega
 have f:=a.set1 (i+1);go_wp2_with fail;go_quiet (fail)
 go_wp2_with fail;go_ret;exact⟨by rw[g.out];simp,f.below (E5 nq)⟩
theorem dQi (a:Nat)(s:ByteArray)(i z:Nat)(b:Addr)(w:World)(h:RB w a s i z)(d:Env w a b)(hs:s.size<=1048576)(j:s.size<=i)(g:i<=1048577) :
  Calls Tryz.prog 143 #[Pt a] w (K6 w a b):=by
 have c:=eQk a s i z w h hs g;rw[show decide (s.size<=i)=true from by simp;omega]at c;go_enter Tryz.func143,Tryz.ntmps143;go_wp2_with fail;refine c.mono ?_;rintro e k ⟨rfl,n,rfl⟩;have f:=d.below (E5 (w:=w) n);go_wp2_with fail;refine(V7 _ b _ f.sc).mono ?_;rintro e l ⟨rfl,rfl⟩;go_wp2_with fail;exact⟨rfl,rfl,vQa _ _ _⟩
theorem eQr (a:Nat)(s:ByteArray)(i z:Nat)(c:UInt8)(w:World)(h:RB w a s i z)(hs:s.size<=1048576)(b:A7 s i c=true) :
  Calls Tryz.prog 175 #[Pt a,.int .u8 c.toNat] w fun e g=>e=.returned (.tuple #[])/\RLeft w a s (i+1) z g:=by
 have d:=Z5 a s i z c w h hs b;clear b;go_enter Tryz.func175,Tryz.ntmps175;go_wp2_with fail;refine d.mono ?_;rintro e j ⟨rfl,f⟩;go_wp2_with fail;go_end0;exact⟨rfl,f⟩
theorem eQq (a:Nat)(s:ByteArray)(i z:Nat)(c:UInt8)(b:Addr)(w:World)(h:RB w a s i z)(g:Env w a b)(hs:s.size<=1048576)(k:i<=1048577)(f:A7 s i c=false) :
  Calls Tryz.prog 175 #[Pt a,.int .u8 c.toNat] w (K6 w a b):=by
 have j:=X5 a s i z c w h hs k f;clear f;go_enter Tryz.func175,Tryz.ntmps175;go_wp2_with fail;refine j.mono ?_;rintro e l ⟨rfl,d⟩;go_wp2_with fail;refine(V7 _ b _ (g.grown d.grown).sc).mono ?_;rintro e m ⟨rfl,rfl⟩;go_wp2_with fail;exact⟨rfl,rfl,d.grown⟩
theorem hQx (a:Nat)(s:ByteArray)(i z:Nat)(w:World)(h:RB w a s i z)(k:z<=11) :
  Calls Tryz.prog 169 #[Pt a] w fun e c=>e=.returned (.tuple #[])/\RLeft w a s i (z+1) c:=by
 have d:=h.c2;have f:=h.fr 2;have j:=h.lt;have b:=(RLeft.of_below h Br).set2 (z+1);have g:¬(12:Int)<(z:Int)+1:=by omega
 go_enter Tryz.func169,Tryz.ntmps169;go_wp2_with fail;go_end0;exact⟨rfl,b⟩
theorem hQw (a:Nat)(s:ByteArray)(i:Nat)(b:Addr)(w:World)(h:RB w a s i 12)(d:Env w a b) :
  Calls Tryz.prog 169 #[Pt a] w (K6 w a b):=by
 have g:=h.c2;have j:=h.fr 2;have k:=h.lt;have c:=(RLeft.of_below h Br).set2 13;have f:=d.grown c.grown;go_enter Tryz.func169,Tryz.ntmps169;go_wp2_with fail;refine(V7 _ b _ f.sc).mono ?_;rintro e l ⟨rfl,rfl⟩;go_wp2_with fail;exact⟨rfl,rfl,c.grown⟩
theorem eQg (b:Nat)(s:ByteArray)(i z:Nat)(c:UInt8)(w:World)(h:RB w b s i (z+1))(hs:s.size<=1048576)(n:z<=11)(d:A7 s i c=true) :
  Calls Tryz.prog 171 #[Pt b,.int .u8 c.toNat] w fun e j=>e=.returned (.tuple #[])/\RLeft w b s (i+1) z j:=by
 have f:=eQr b s i (z+1) c w h hs d;clear d;go_enter Tryz.func171,Tryz.ntmps171;go_wp2_with fail;refine f.mono ?_;rintro e o ⟨rfl,a⟩;have k:=a.lies.c2;have l:=a.lies.fr 2;have m:=a.lies.lt;have g:=a.set2 z;go_wp2_with fail;go_end0;exact⟨rfl,g⟩
theorem eQf (a:Nat)(s:ByteArray)(i z:Nat)(c:UInt8)(b:Addr)(w:World)(h:RB w a s i z)(f:Env w a b)(hs:s.size<=1048576)(k:i<=1048577)(d:A7 s i c=false) :
  Calls Tryz.prog 171 #[Pt a,.int .u8 c.toNat] w (K6 w a b):=by
 have g:=eQq a s i z c b w h f hs k d;clear d;go_enter Tryz.func171,Tryz.ntmps171;go_wp2_with fail;refine g.mono ?_;rintro e l ⟨rfl,j⟩;go_wp2_with fail;exact⟨rfl,rfl,j⟩
structure Bx (T:TypeId)(w:World)(g rb:Nat):Prop where
 lies:w.heap[g]?=some (.cells #[.pointer (some ⟨rb,0,none⟩)] T (0,0))
section
variable {T:TypeId} {w w':World} {g rb:Nat}
theorem Bx.lt (h:Bx T w g rb):g<w.heap.size:=(Array.getElem?_eq_some_iff.1 h.lies).1
theorem Bx.cell (h:Bx T w g rb):w.cell? ⟨g,0,none⟩=some (.pointer (some ⟨rb,0,none⟩)):=by simp[World.cell?,h.lies]
theorem Bx.grown (h:Bx T w g rb)(a:w.grownBy w' (some rb))(b:g≠rb):Bx T w' g rb:=⟨by rw[a.block g h.lt (by simpa using b)];exact h.lies⟩
theorem Bx.below (h:Bx T w g rb)(a:Bw w w'):Bx T w' g rb:=⟨by rw[a.block g h.lt];exact h.lies⟩
theorem Bx.new (w:World)(T:TypeId)(a:Nat):Bx T (w.alloc (.cells #[Pt a] T)) w.heap.size a:=⟨heap_alloc_new _ _⟩
end
abbrev H0 (T:TypeId)(rb:Nat):Obj:=.cells #[.pointer (some ⟨rb,0,none⟩)] T
structure In (T:TypeId)(w:World)(rb:Nat)(s:ByteArray)(at_ dep:Nat)(w':World):Prop where
 left:RLeft w rb s at_ dep w'
 box:Bx T w' w.heap.size rb
 old:rb<w.heap.size
section
variable {T:TypeId} {w w1 w2:World} {rb:Nat} {s:ByteArray} {a z a' z':Nat}
theorem In.enter (T:TypeId)(h:RB w rb s a z):In T w rb s a z (w.alloc (H0 T rb)):=⟨RLeft.of_below h (A5 _ _),Bx.new _ _ _,h.lt⟩
theorem In.go (h:In T w rb s a z w1)(k:RLeft w1 rb s a' z' w2):In T w rb s a' z' w2:=⟨h.left.trans k,h.box.grown k.grown (Nat.ne_of_gt h.old),h.old⟩
theorem In.below (h:In T w rb s a z w1)(b:Bw w1 w2):In T w rb s a z w2:=⟨h.left.below b,h.box.below b,h.old⟩
theorem In.lies (h:In T w rb s a z w1):RB w1 rb s a z:=h.left.lies
theorem In.cell (h:In T w rb s a z w1):Ce w1 w.heap.size 0 (Pt rb):=h.box.cell
theorem In.env (h:In T w rb s a z w1){b:Addr}(c:Env w rb b):Env w1 rb b:=c.grown h.left.grown
theorem In.threw (h:In T w rb s a z w1){r:Option Nat}(c:r=some rb)(b:w1.grownBy w2 r):w.grownBy w2 (some rb):=by
 subst c;exact J8 h.left.grown b
theorem In.size (h:In T w rb s a z w1):w.heap.size<w1.heap.size:=h.box.lt
end
theorem rQf (a:Addr)(w:World):(Instr.typeAssert (C9 a) 20 80 true).run Tryz.prog w=.ok (.tuple #[C9 a,.bool true]) w:=
 run_typeAssert_hasB Tryz.underlying80 (by kernel_rfl) _ _ w
theorem sQl (p:Nat)(a:Addr)(h:Value)(b:List PanicEntry)(w:World)(d:Ce w p 0 h)(c:w.frozen? ⟨p,0,none⟩=false) :
  CallsD Tryz.prog 105 #[Pt p] (.panicking ({v:=C9 a,recovered:=false}::b)) w fun e g i=>
   e=.returned (.tuple #[])/\g=.panicking ({v:=C9 a,recovered:=true}::b)/\i=w.setCell ⟨p,0,none⟩ (C9 a):=by
 have ha:=rQf a;refine callsD_of_wpS Tryz.func105 rfl fun k j f=>?_;apply wpS_seq
 apply wpS_region
 simp[wpOpsS,go_sem,recoverD,f,Tryz.ntmps105,Exit.thenS,ha];apply wpS_seq
 apply wpS_region
 simp[wpOpsS,go_sem,Exit.thenS,Array.replicate,Act.eval];refine wpS_cond (t:=true) (by simp[Act.eval]) ?_;simp only[if_true];apply wpS_region
 simp[wpOpsS,go_sem,d,c,bodyPostS,results,Tryz.results105,Act.eval]
theorem sQk (p:Nat)(w:World) :
  CallsD Tryz.prog 105 #[Pt p] .returning w fun e c d=>e=.returned (.tuple #[])/\c=.returning/\d=w:=by
 have ha:∀w,(Instr.typeAssert .nilIface 20 80 true).run Tryz.prog w=.ok (.tuple #[.nilIface,.bool false]) w:=fun w=>by kernel_rfl
 refine callsD_of_wpS Tryz.func105 rfl fun a f b=>?_;apply wpS_seq
 apply wpS_region
 simp[wpOpsS,go_sem,recoverD,b,Tryz.ntmps105,Exit.thenS,ha];apply wpS_seq
 apply wpS_region
 simp[wpOpsS,go_sem,Exit.thenS,Array.replicate,Act.eval];refine wpS_cond (t:=false) (by simp[Act.eval]) ?_;simp only[Bool.false_eq_true,if_false];refine wpS_of_wp (wp_skip ?_);cases a;simp_all [bodyPostS,results,Tryz.results105]
theorem lQz {w:World}{g:Nat}{v:Value}{t:TypeId}(h:w.heap[g]?=some (.cells #[v] t (0,0))):w.cell? ⟨g,0,none⟩=some v/\w.frozen? ⟨g,0,none⟩=false:=by
 constructor
 ·simp[World.cell?,h]
 ·simp[World.frozen?,h]
def oQv (w:World)(Q:Ending->World->Prop):Ending->World->Prop:=fun e w2=>
 ∃e1 w1,Q e1 w1/\((e1=.returned (.tuple #[])/\e=.returned .nilIface/\w2=w1.setCell ⟨w.heap.size,0,none⟩ .nilIface)\/(∃a,e1=.panicked [{v:=C9 a,recovered:=false}]/\e=.returned (C9 a)/\w2=w1.setCell ⟨w.heap.size,0,none⟩ (C9 a)))
theorem jQl (f:Nat)(h:Array Value)(t:∀w,(callFunc f h).run Tryz.prog w=.ok (.enter f h) w)(w:World)(Q:Ending->World->Prop)
  (k:Calls Tryz.prog f h (w.alloc (.cells #[.nilIface] 80)) Q)
  (n:∀e d,Q e d->d.heap[w.heap.size]?=some (.cells #[.nilIface] 80 (0,0))/\(e=.returned (.tuple #[])\/∃a,e=.panicked [{v:=C9 a,recovered:=false}])) :
  Calls Tryz.prog 78 #[.func (.func f) #[] h] w (oQv w Q):=by
 have u:∀(m:Fn) (first l:Array Value) (w:World),(Instr.makeFunc m first l).run Tryz.prog w=.ok (.func m first l) w:=fun _ _ _ _=>rfl;have p:Hid (∀e d,Q e d->d.heap[w.heap.size]?=some (.cells #[.nilIface] 80 (0,0))/\(e=.returned (.tuple #[])\/∃a,e=.panicked [{v:=C9 a,recovered:=false}])):=n;clear n;go_enter_defers Tryz.func78,Tryz.ntmps78
 go_wp2_with fail;refine k.mono ?_;intro e g c;obtain⟨b,rfl|⟨a,rfl⟩⟩:=p.out e g c
 ·obtain⟨i,o⟩:=lQz b
  have j:Hid (Q (.returned (.tuple #[])) g):=c;have q:=(Array.getElem?_eq_some_iff.1 b).1;clear c b k;go_wp2_with fail;refine leaves_cons (f:=105) (args:=#[Pt w.heap.size]) (by simp) (by simp[go_sem]) ?_;refine(sQk w.heap.size _).mono ?_;rintro e r s ⟨rfl,rfl,rfl⟩;simp[Leaves,settle,results,Tryz.results78,go_sem,i];exact⟨_,g,j.out,.inl ⟨rfl,rfl,rfl⟩⟩
 ·obtain⟨i,o⟩:=lQz b
  have j:Hid (Q (.panicked [{v:=C9 a,recovered:=false}]) g):=c;have q:=(Array.getElem?_eq_some_iff.1 b).1;clear c b k;go_wp2_with fail;refine leaves_cons (f:=105) (args:=#[Pt w.heap.size]) (by simp) (by simp[go_sem]) ?_;refine(sQl w.heap.size a _ [] _ i o).mono ?_;rintro e r s ⟨rfl,rfl,rfl⟩;simp[Leaves,settle,results,Tryz.results78,go_sem,i];exact⟨_,g,j.out,.inr ⟨a,rfl,rfl,rfl⟩⟩
end Go.Proofs.YtfklinjaajafgaaGreatDoor
