import Derived.Test.YtfklinjaajafgaaGreatDoorK01
import Derived.Test.YtfklinjaajafgaaGreatDoorTie
import Derived.Test.YtfklinjaajafgaaGreatDoorCards
import Derived.ProofKit
import Derived.OpenShut
import Derived.ShutString
import Derived.LaidMore
import Derived.Stop.LaidErr
import Derived.Stop.Joined
import Derived.Test.YtfklinjaajafgaaGreatDoorK03
import Derived.Laws.StandIn
import Derived.Laws.Runes
import Derived.Defers
import Derived.Recover
import Derived.Stop.Asserts
set_option maxRecDepth 100000
set_option maxHeartbeats 4000000
namespace Go.Proofs.YtfklinjaajafgaaGreatDoor
open Go.ChangeShapes Go.WideShapes Go.ChangeAt Go.RowKit
open Go.ChangeMaps (open_string shut_string)
theorem own:ownKnob Tryz.prog.godebug=none:=by kernel_rfl
theorem gLong : Tryz.prog.globalNamed "lenses/reading.ErrLong" = some 0 := by kernel_rfl
theorem gSyntax : Tryz.prog.globalNamed "lenses/reading.ErrSyntax" = some 3 := by kernel_rfl
theorem gSize : Tryz.prog.globalNamed "lenses/reading.ErrSize" = some 1 := by kernel_rfl
theorem bXs:(Tryz.prog.globals[0]?).map (·.type)=some 80:=by kernel_rfl
theorem bXu:(Tryz.prog.globals[3]?).map (·.type)=some 80:=by kernel_rfl
theorem bXt:(Tryz.prog.globals[1]?).map (·.type)=some 80:=by kernel_rfl
theorem gType : Tryz.prog.globalNamed "lenses/programs.ErrType" = some 2 := by kernel_rfl
theorem bXv:(Tryz.prog.globals[2]?).map (·.type)=some 80:=by kernel_rfl
theorem dQp:Tryz.prog.cellsOf 274=1:=by kernel_rfl
theorem dQq:Tryz.prog.cellsOf 9=1:=by kernel_rfl
theorem starE : "*" ++ "errors.errorString" = "*errors.errorString" := by decide
theorem rowE (u : TypeId) (h : Tryz.prog.typeName? 3 u = some "*errors.errorString") : u = 251 :=
 typeName_ptr_named (nm := "errors.errorString") (by rw [starE]; kernel_rfl) (by kernel_rfl) (by decide) u (by rw [starE]; exact h)
structure Sent (w:World)(a0 a1 a2 a3:Addr):Prop where
 c0:w.cell? ⟨0,0,none⟩=some (.iface 251 (.pointer (some a0)))
 c1:w.cell? ⟨3,0,none⟩=some (.iface 251 (.pointer (some a1)))
 c2:w.cell? ⟨1,0,none⟩=some (.iface 251 (.pointer (some a2)))
 c3:w.cell? ⟨2,0,none⟩=some (.iface 251 (.pointer (some a3)))
 n01:a0≠a1
 n02:a0≠a2
 n12:a1≠a2
 n03:a0≠a3
 n13:a1≠a3
 n23:a2≠a3
 b0:∃c t,w.heap[a0.block]?=some (.cells c t (0,0))
 b1:∃c t,w.heap[a1.block]?=some (.cells c t (0,0))
 b2:∃c t,w.heap[a2.block]?=some (.cells c t (0,0))
 b3:∃c t,w.heap[a3.block]?=some (.cells c t (0,0))
def laid4 : List (String × DataW Unit) := [("lenses/reading.ErrLong", Rows.laid_lenses_reading_ErrLong), ("lenses/reading.ErrSyntax", Rows.laid_lenses_reading_ErrSyntax), ("lenses/reading.ErrSize", Rows.laid_lenses_reading_ErrSize), ("lenses/programs.ErrType", Rows.laid_lenses_programs_ErrType)]
theorem aQ2 {W:World}(h:laidMetH Tryz.prog laid4 W):∃a0 a1 a2 a3,Sent W a0 a1 a2 a3:=by
 rw[MakeChecks.laidMetH_plain _ _ _ (by kernel_rfl)]at h;obtain⟨ps,⟨g0,t0,cs0,f0,p0,q0,hg0,ht0,hv0,hd0,⟨g1,t1,cs1,f1,p1,q1,hg1,ht1,hv1,hd1,⟨g2,t2,cs2,f2,p2,q2,hg2,ht2,hv2,hd2,⟨g3,t3,cs3,f3,p3,q3,hg3,ht3,hv3,hd3,hq3,e3⟩,e2⟩,e1⟩,e0⟩,hnd,hrows⟩:=h;obtain rfl:=Option.some.inj (gLong.symm.trans hg0);obtain rfl:=Option.some.inj (gSyntax.symm.trans hg1);obtain rfl:=Option.some.inj (gSize.symm.trans hg2);obtain rfl:=Option.some.inj (gType.symm.trans hg3);obtain rfl:=Option.some.inj (bXs.symm.trans ht0);obtain rfl:=Option.some.inj (bXu.symm.trans ht1);obtain rfl:=Option.some.inj (bXt.symm.trans ht2);obtain rfl:=Option.some.inj (bXv.symm.trans ht3);have hq3':q3=[]:=hq3;subst hq3';subst e3;subst e2;subst e1;subst e0;obtain⟨l0⟩:=cs0;obtain⟨l1⟩:=cs1;obtain⟨l2⟩:=cs2;obtain⟨l3⟩:=cs3;have ok0:∀u v,l0=[.iface u v]->Value.okWide Tryz.prog W .any 0 u v:=fun u v e=>by
  subst e;exact(hrows 0 0 (by simp[MemPlace.row])).2 u v (by simpa using World.var?_cell hg0 hv0 0)
 have ok1:∀u v,l1=[.iface u v]->Value.okWide Tryz.prog W .any 0 u v:=fun u v e=>by
  subst e;exact(hrows 3 0 (by simp[MemPlace.row])).2 u v (by simpa using World.var?_cell hg1 hv1 0)
 have ok2:∀u v,l2=[.iface u v]->Value.okWide Tryz.prog W .any 0 u v:=fun u v e=>by
  subst e;exact(hrows 1 0 (by simp[MemPlace.row])).2 u v (by simpa using World.var?_cell hg2 hv2 0)
 have ok3:∀u v,l3=[.iface u v]->Value.okWide Tryz.prog W .any 0 u v:=fun u v e=>by
  subst e;exact(hrows 2 0 (by simp[MemPlace.row])).2 u v (by simpa using World.var?_cell hg3 hv3 0)
 obtain⟨a0,s0,rfl,hc0,hs0,hz0,rfl⟩:=errorString_of_trod Tryz.underlying80 rowE Tryz.underlying251 Tryz.underlying274 rfl rfl Tryz.underlying9 dQp dQq hd0 ok0;obtain⟨a1,s1,rfl,hc1,hs1,hz1,rfl⟩:=errorString_of_trod Tryz.underlying80 rowE Tryz.underlying251 Tryz.underlying274 rfl rfl Tryz.underlying9 dQp dQq hd1 ok1;obtain⟨a2,s2,rfl,hc2,hs2,hz2,rfl⟩:=errorString_of_trod Tryz.underlying80 rowE Tryz.underlying251 Tryz.underlying274 rfl rfl Tryz.underlying9 dQp dQq hd2 ok2;obtain⟨a3,s3,rfl,hc3,hs3,hz3,rfl⟩:=errorString_of_trod Tryz.underlying80 rowE Tryz.underlying251 Tryz.underlying274 rfl rfl Tryz.underlying9 dQp dQq hd3 ok3;have text:∀(x y:Addr) (s t:ByteArray),W.cell? x=some (.string s)->W.cell? y=some (.string t)->s.data.toList≠t.data.toList->x≠y:=by
  rintro x y s t h1 h2 h3 rfl;rw[h1]at h2;injection h2 with h2;injection h2 with h2;exact h3 (by rw[h2])
 refine⟨a0,a1,a2,a3,?_,?_,?_,?_,text _ _ _ _ hc0 hc1 (by rw[hs0,hs1];decide),text _ _ _ _ hc0 hc2 (by rw[hs0,hs2];decide),text _ _ _ _ hc1 hc2 (by rw[hs1,hs2];decide),text _ _ _ _ hc0 hc3 (by rw[hs0,hs3];decide),text _ _ _ _ hc1 hc3 (by rw[hs1,hs3];decide),text _ _ _ _ hc2 hc3 (by rw[hs2,hs3];decide),(hrows a0.block a0.off (by simp[MemPlace.row])).1,(hrows a1.block a1.off (by simp[MemPlace.row])).1,(hrows a2.block a2.off (by simp[MemPlace.row])).1,(hrows a3.block a3.off (by simp[MemPlace.row])).1⟩
 ·simpa using World.var?_cell hg0 hv0 0
 ·simpa using World.var?_cell hg1 hv1 0
 ·simpa using World.var?_cell hg2 hv2 0
 ·simpa using World.var?_cell hg3 hv3 0
theorem Sent.below {w w':World}{a0 a1 a2 a3:Addr}(h:Sent w a0 a1 a2 a3)(hb:Below w.heap.size w w'):Sent w' a0 a1 a2 a3:=by
 have lt:∀{k:Nat} {o:Obj},w.heap[k]?=some o->k<w.heap.size:=fun h=>(Array.getElem?_eq_some_iff.1 h).1;have cl:∀{g:Nat} {v:Value},w.cell? ⟨g,0,none⟩=some v->g<w.heap.size:=fun {g v} h=>by
  rcases Nat.lt_or_ge g w.heap.size with h1|h1
  ·exact h1
  ·rw[World.cell?,Array.getElem?_eq_none h1]at h;cases h
 refine⟨(hb.cell (cl h.c0)).trans h.c0,(hb.cell (cl h.c1)).trans h.c1,(hb.cell (cl h.c2)).trans h.c2,(hb.cell (cl h.c3)).trans h.c3,h.n01,h.n02,h.n12,h.n03,h.n13,h.n23,?_,?_,?_,?_⟩
 ·obtain⟨c,t,e⟩:=h.b0;exact⟨c,t,by rw[hb.block _ (lt e)];exact e⟩
 ·obtain⟨c,t,e⟩:=h.b1;exact⟨c,t,by rw[hb.block _ (lt e)];exact e⟩
 ·obtain⟨c,t,e⟩:=h.b2;exact⟨c,t,by rw[hb.block _ (lt e)];exact e⟩
 ·obtain⟨c,t,e⟩:=h.b3;exact⟨c,t,by rw[hb.block _ (lt e)];exact e⟩
theorem aQx (os:Os)(args:Array Value):laidMetH Tryz.prog laid4 ((World.doorLaid Tryz.prog 400 os).forCall (fun _ _=>0) ⟨#[],args,[]⟩).memory:=
 laidMetH_of_parts3 (fuel:=8) (laidMet_of_run' 8 (by kernel_rfl) (by kernel_rfl)) (by kernel_rfl) (by kernel_rfl)
end Go.Proofs.YtfklinjaajafgaaGreatDoor
namespace Go.Proofs.YtfklinjaajafgaaGreatDoor
open Go.RowKit
def RB (w:World)(rb:Nat)(s:ByteArray)(at_ dep:Nat):Prop:=w.heap[rb]?=some (.cells #[.string s,.int .i64 at_,.int .i64 dep] 164 (0,0))
theorem RB.lt {w:World}{rb:Nat}{s:ByteArray}{a z:Nat}(h:RB w rb s a z):rb<w.heap.size:=(Array.getElem?_eq_some_iff.1 h).1
theorem RB.c0 {w:World}{rb:Nat}{s:ByteArray}{a z:Nat}(h:RB w rb s a z):w.cell? ⟨rb,0,none⟩=some (.string s):=by unfold RB at h;simp[World.cell?,h]
theorem RB.c1 {w:World}{rb:Nat}{s:ByteArray}{a z:Nat}(h:RB w rb s a z):w.cell? ⟨rb,1,none⟩=some (.int .i64 a):=by unfold RB at h;simp[World.cell?,h]
theorem RB.c2 {w:World}{rb:Nat}{s:ByteArray}{a z:Nat}(h:RB w rb s a z):w.cell? ⟨rb,2,none⟩=some (.int .i64 z):=by unfold RB at h;simp[World.cell?,h]
theorem RB.fr {w:World}{rb:Nat}{s:ByteArray}{a z:Nat}(h:RB w rb s a z)(o:Nat):w.frozen? ⟨rb,o,none⟩=false:=by unfold RB at h;simp[World.frozen?,h]
theorem RB.set1 {w:World}{rb:Nat}{s:ByteArray}{a z:Nat}(h:RB w rb s a z)(a':Nat):RB (w.setCell ⟨rb,1,none⟩ (.int .i64 a')) rb s a' z:=by unfold RB at h ⊢;simp[World.setCell,Array.getElem?_modify,h]
theorem RB.set2 {w:World}{rb:Nat}{s:ByteArray}{a z:Nat}(h:RB w rb s a z)(z':Nat):RB (w.setCell ⟨rb,2,none⟩ (.int .i64 z')) rb s a z':=by unfold RB at h ⊢;simp[World.setCell,Array.getElem?_modify,h]
theorem RB.below {w w':World}{rb:Nat}{s:ByteArray}{a z:Nat}(h:RB w rb s a z)(hb:Below w.heap.size w w'):RB w' rb s a z:=by have:=h.lt;unfold RB at h ⊢;rw[hb.block rb this];exact h
structure RLeft (w:World)(rb:Nat)(s:ByteArray)(at_ dep:Nat)(w':World):Prop where
 lies:RB w' rb s at_ dep
 grown:w.grownBy w' (some rb)
theorem RLeft.of_below {w w':World}{rb:Nat}{s:ByteArray}{a z:Nat}(h:RB w rb s a z)(hb:Below w.heap.size w w'):RLeft w rb s a z w':=⟨h.below hb,K3 hb _⟩
theorem RLeft.trans {w w1 w2:World}{rb:Nat}{s:ByteArray}{a z a' z':Nat}(h:RLeft w rb s a z w1)(k:RLeft w1 rb s a' z' w2):RLeft w rb s a' z' w2:=⟨k.lies,I7 h.grown k.grown⟩
theorem RLeft.below {w w1 w2:World}{rb:Nat}{s:ByteArray}{a z:Nat}(h:RLeft w rb s a z w1)(hb:Below w1.heap.size w1 w2):RLeft w rb s a z w2:=⟨h.lies.below hb,I7 h.grown (K3 hb _)⟩
theorem RLeft.set1 {w w1:World}{rb:Nat}{s:ByteArray}{a z:Nat}(h:RLeft w rb s a z w1)(a':Nat):RLeft w rb s a' z (w1.setCell ⟨rb,1,none⟩ (.int .i64 a')):=⟨h.lies.set1 a',I7 h.grown (T9 _ _ _ _)⟩
theorem RLeft.set2 {w w1:World}{rb:Nat}{s:ByteArray}{a z:Nat}(h:RLeft w rb s a z w1)(z':Nat):RLeft w rb s a z' (w1.setCell ⟨rb,2,none⟩ (.int .i64 z')):=⟨h.lies.set2 z',I7 h.grown (T9 _ _ _ _)⟩
theorem dQv (rb:Nat)(s:ByteArray)(i z:Nat)(w:World)(h:RB w rb s i z)(_hs:s.size<=1048576)(_hi:i<=1048577) :
  Calls Tryz.prog 102 #[.pointer (some ⟨rb,0,none⟩)] w fun e w'=>e=.returned (.bool (decide (s.size<=i)))/\∃n,w'=w.drewN n:=by
 have c0:=h.c0;have c1:=h.c1;go_enter Tryz.func102,Tryz.ntmps102;go_wp2_with fail;go_quiet (fail)
 go_wp2_with fail;go_ret;exact⟨by simp,_,rfl⟩
abbrev D0 (a1:Addr):Value:=.iface 251 (.pointer (some a1))
theorem T8 (v:Value)(a1:Addr)(w:World)(hc:w.cell? ⟨3,0,none⟩=some (D0 a1)) :
  Calls Tryz.prog 103 #[v] w fun e w'=>e=.panicked [{v:=D0 a1,recovered:=false}]/\w'=w:=by
 go_enter Tryz.func103,Tryz.ntmps103;go_wp2_with fail;exact⟨rfl,rfl,rfl⟩
structure Env (w:World)(rb:Nat)(a1:Addr):Prop where
 sc:w.cell? ⟨3,0,none⟩=some (D0 a1)
 ne:rb≠3
theorem Env.grown {w w':World}{rb:Nat}{a1:Addr}(h:Env w rb a1)(hg:w.grownBy w' (some rb)):Env w' rb a1:=
 ⟨hg.cell h.sc (by simp;exact fun e=>h.ne e.symm),h.ne⟩
theorem Env.below {w w':World}{rb:Nat}{a1:Addr}(h:Env w rb a1)(hb:Below w.heap.size w w'):Env w' rb a1:=h.grown (K3 hb _)
def J7 (w:World)(rb:Nat)(a1:Addr):Ending->World->Prop:=fun e w'=>e=.panicked [{v:=D0 a1,recovered:=false}]/\w.grownBy w' (some rb)
theorem tQ3 (w:World)(n:Nat)(r:Option Nat):w.grownBy (w.drewN n) r:=⟨rfl,rfl,rfl,Nat.le_refl _,fun _ _ _=>rfl⟩
theorem lQ4 (rb:Nat)(s:ByteArray)(i z:Nat)(cs:List UInt8)(g:Nat)(w:World)(h:RB w rb s i z)(hcs:cs.length<=8)(hgl:g<w.heap.size)(hg:∀k (hk:k<cs.length),w.cell? ⟨g,k,none⟩=some (.int .u8 cs[k].toNat))(hs:s.size<=1048576)(hi:i<=1048577) :
  Calls Tryz.prog 131 #[.pointer (some ⟨rb,0,none⟩),.slice (some ⟨g,0,none⟩) cs.length cs.length] w fun e w'=>e=.returned (.bool (cs.any (A7 s i)))/\Below w.heap.size w w':=by
 have HG:Hid (∀k (hk:k<cs.length),w.cell? ⟨g,k,none⟩=some (.int .u8 cs[k].toNat)):=hg;clear hg;go_enter Tryz.func131,Tryz.ntmps131;go_wp2_with fail;go_loopw [9] (fun t wr=>∃k:Nat,k<=cs.length/\t=.int .i64 k/\Below w.heap.size w wr/\(cs.take k).any (A7 s i)=false) (fun t _=>cs.length-(intOf t).toNat)
 case atStart=>exact⟨0,Nat.zero_le _,rfl,Below.refl _ _,by simp⟩
 case round=>
  obtain⟨k,hk,rfl,hbw,hany⟩:=hrel;have HA:Hid ((cs.take k).any (A7 s i)=false):=hany;have hRB:=h.below hbw;have c0:=hRB.c0;have c1:=hRB.c1;clear hany
  by_cases hlt:k<cs.length
  ·have ck:wr.cell? ⟨g,k,none⟩=some (.int .u8 cs[k].toNat):=(hbw.cell (p:=⟨g,k,none⟩) hgl).trans (HG.out k hlt)
   have hz1:(0:Int)<=(k:Int):=by omega
   have hz2:(k:Int)<(cs.length:Int):=by omega
   have hT:Hid (cs.any (A7 s i)=true\/A7 s i cs[k]=false):=by
    cases h1:A7 s i cs[k] with
    | true=>exact .inl (List.any_eq_true.2 ⟨cs[k],List.getElem_mem hlt,h1⟩)
    | false=>exact .inr rfl
   have hF:Hid (A7 s i cs[k]=false->(cs.take (k+1)).any (A7 s i)=false):=fun h1=>by
    rw[List.take_succ_eq_append_getElem hlt,List.any_append,HA.out];simp[h1]
   have hq:∀n,RB (wr.drewN n) rb s i z:=fun n=>hRB;have HD:Hid (∀n,Calls Tryz.prog 102 #[.pointer (some ⟨rb,0,none⟩)] (wr.drewN n) fun e w'=>e=.returned (.bool (decide (s.size<=i)))/\∃m,w'=(wr.drewN n).drewN m):=fun n=>dQv rb s i z _ (hq n) hs hi;clear hq hRB;generalize cs[k]=c at *
   by_cases hin:i<s.size
   ·have HD2:Hid (∀n,Calls Tryz.prog 102 #[.pointer (some ⟨rb,0,none⟩)] (wr.drewN n) fun e w'=>e=.returned (.bool false)/\∃m,w'=(wr.drewN n).drewN m):=fun n=>by
     have:=HD.out n;rw[show decide (s.size<=i)=false from by simp;omega]at this;exact this
    have hd2:(i:Int)<(s.size:Int):=by omega
    have HS:Hid (A7 s i c=(((s[i].toNat:Int)==(c.toNat:Int)))):=by
     show _=_;rw[Bool.eq_iff_iff];simp[A7,hin,L3 hin];rw[<-UInt8.toNat_inj];omega
    clear HD;cases hb:(((s[i].toNat:Int)==(c.toNat:Int))) with
    | true=>
     have HR:Hid (cs.any (A7 s i)=true):=by
      rcases hT.out with h1|h1
      ·exact h1
      ·rw[HS.out,hb]at h1;cases h1
     go_wp2_with fail;go_quiet ((go_at_call 102;exact Calls.quiet_of (HD2.out _)))
     go_wp2_with fail;go_ret;exact⟨by rw[HR.out];rfl,Below.join hbw (E1 _)⟩
    | false=>
     have HR:Hid ((cs.take (k+1)).any (A7 s i)=false):=hF.out (by rw[HS.out,hb]);go_wp2_with fail;go_quiet ((go_at_call 102;exact Calls.quiet_of (HD2.out _)))
     go_wp2_with fail;go_roundw
     case rel=>exact⟨k+1,by omega,by go_num,Below.join hbw (E1 _),HR.out⟩
     case measure=>simp[intOf];omega
   ·have HD2:Hid (∀n,Calls Tryz.prog 102 #[.pointer (some ⟨rb,0,none⟩)] (wr.drewN n) fun e w'=>e=.returned (.bool true)/\∃m,w'=(wr.drewN n).drewN m):=fun n=>by
     have:=HD.out n;rw[show decide (s.size<=i)=true from by simp;omega]at this;exact this
    have HR:Hid ((cs.take (k+1)).any (A7 s i)=false):=hF.out (by simp[A7,hin]);clear HD;go_wp2_with fail;go_quiet ((go_at_call 102;exact Calls.quiet_of (HD2.out _)))
    go_wp2_with fail;go_roundw
    case rel=>exact⟨k+1,by omega,by go_num,Below.join hbw (E1 _),HR.out⟩
    case measure=>simp[intOf];omega
  ·have hke:k=cs.length:=by omega
   have HR:Hid (cs.any (A7 s i)=false):=by
    have:=HA.out;rwa [hke,List.take_length]at this
   subst hke;go_wp2_with fail;go_ret;exact⟨by rw[HR.out];rfl,hbw⟩
theorem lQ3 (rb:Nat)(s:ByteArray)(i z:Nat)(c:UInt8)(w:World)(t:TypeId)(h:RB w rb s i z)(hs:s.size<=1048576)(hi:i<=1048577) :
  Calls Tryz.prog 131 #[.pointer (some ⟨rb,0,none⟩),.slice (some ⟨w.heap.size,0,none⟩) 1 1] (w.alloc (.cells #[.int .u8 c.toNat] t)) fun e w'=>e=.returned (.bool (A7 s i c))/\RLeft w rb s i z w':=by
 refine(lQ4 rb s i z [c] w.heap.size (w.alloc (.cells #[.int .u8 c.toNat] t)) (h.below (A5 _ _)) (by simp) (by simp) (fun k hk=>?_) hs hi).mono ?_
 ·obtain rfl:k=0:=by simp at hk;exact hk
  have:=heap_alloc_new w (.cells #[.int .u8 c.toNat] t);show World.cell? _ ⟨w.heap.size,0,none⟩=_;unfold World.cell?;rw[this];rfl
 ·rintro e w1 ⟨rfl,hb⟩
  exact⟨by simp,RLeft.of_below h (Below.join (A5 _ _) hb)⟩
theorem Y1 (rb:Nat)(s:ByteArray)(i z:Nat)(c:UInt8)(w:World)(h:RB w rb s i z)(hs:s.size<=1048576)(ht:A7 s i c=true) :
  Calls Tryz.prog 120 #[.pointer (some ⟨rb,0,none⟩),.int .u8 c.toNat] w fun e w'=>e=.returned (.bool true)/\RLeft w rb s (i+1) z w':=by
 have hi:=(D6 ht).1;have hS:=fun t=>lQ3 rb s i z c w t h hs (by omega);rw[ht]at hS;have HS:Hid _:=hS;clear ht hS;go_enter Tryz.func120,Tryz.ntmps120;go_wp2_with fail;refine(HS.out _).mono ?_;rintro e w1 ⟨rfl,hl⟩;have c1:=hl.lies.c1;have f1:=hl.lies.fr 1;go_wp2_with fail;go_ret;exact⟨rfl,hl.set1 (i+1)⟩
theorem U6 (rb:Nat)(s:ByteArray)(i z:Nat)(c:UInt8)(w:World)(h:RB w rb s i z)(hs:s.size<=1048576)(hi:i<=1048577)(ht:A7 s i c=false) :
  Calls Tryz.prog 120 #[.pointer (some ⟨rb,0,none⟩),.int .u8 c.toNat] w fun e w'=>e=.returned (.bool false)/\RLeft w rb s i z w':=by
 have hS:=fun t=>lQ3 rb s i z c w t h hs hi;rw[ht]at hS;have HS:Hid _:=hS;clear ht hS;go_enter Tryz.func120,Tryz.ntmps120;go_wp2_with fail;refine(HS.out _).mono ?_;rintro e w1 ⟨rfl,hl⟩;go_wp2_with fail;go_ret;exact⟨rfl,hl⟩
theorem mQk (rb:Nat)(s:ByteArray)(i z:Nat)(c:UInt8)(w:World)(h:RB w rb s i z)(hs:s.size<=1048576)(hi:i<=1048577) :
  Calls Tryz.prog 120 #[.pointer (some ⟨rb,0,none⟩),.int .u8 c.toNat] w fun e w'=>e=.returned (.bool (A7 s i c))/\RLeft w rb s (if A7 s i c=true then i+1 else i) z w':=by
 cases ht:A7 s i c with
 | true=>simpa using Y1 rb s i z c w h hs ht
 | false=>simpa using U6 rb s i z c w h hs hi ht
theorem N0 (rb:Nat)(s:ByteArray)(i z:Nat)(w:World)(h:RB w rb s i z)(hs:s.size<=1048576)(hi:i<s.size) :
  Calls Tryz.prog 143 #[.pointer (some ⟨rb,0,none⟩)] w fun e w'=>e=.returned (.int .u8 (nx s i).toNat)/\RLeft w rb s (i+1) z w':=by
 have hS:=dQv rb s i z w h hs (by omega);rw[show decide (s.size<=i)=false from by simp;omega]at hS;have hx:Hid (nx s i=s[i]):=L3 hi;go_enter Tryz.func143,Tryz.ntmps143;go_wp2_with fail;refine hS.mono ?_;rintro e w1 ⟨rfl,n,rfl⟩;have hl:=RLeft.of_below h (E1 (w:=w) n);clear hS h;generalize w.drewN n=w1 at *;have c1:=hl.lies.c1;have f1:=hl.lies.fr 1;have hlt:=hl.lies.lt;have c0:=hl.lies.c0;have hd2:(i:Int)<(s.size:Int):=by omega
 have hl2:=hl.set1 (i+1);go_wp2_with fail;go_quiet (fail)
 go_wp2_with fail;go_ret;exact⟨by rw[hx.out];simp,hl2.below (E1 nq)⟩
theorem cQx (rb:Nat)(s:ByteArray)(i z:Nat)(a1:Addr)(w:World)(h:RB w rb s i z)(hE:Env w rb a1)(hs:s.size<=1048576)(hi:s.size<=i)(hi2:i<=1048577) :
  Calls Tryz.prog 143 #[.pointer (some ⟨rb,0,none⟩)] w (J7 w rb a1):=by
 have hS:=dQv rb s i z w h hs hi2;rw[show decide (s.size<=i)=true from by simp;omega]at hS;go_enter Tryz.func143,Tryz.ntmps143;go_wp2_with fail;refine hS.mono ?_;rintro e w1 ⟨rfl,n,rfl⟩;have hE2:=hE.below (E1 (w:=w) n);go_wp2_with fail;refine(T8 _ a1 _ hE2.sc).mono ?_;rintro e w2 ⟨rfl,rfl⟩;go_wp2_with fail;exact⟨rfl,rfl,tQ3 _ _ _⟩
theorem dQ0 (rb:Nat)(s:ByteArray)(i z:Nat)(c:UInt8)(w:World)(h:RB w rb s i z)(hs:s.size<=1048576)(ht:A7 s i c=true) :
  Calls Tryz.prog 175 #[.pointer (some ⟨rb,0,none⟩),.int .u8 c.toNat] w fun e w'=>e=.returned (.tuple #[])/\RLeft w rb s (i+1) z w':=by
 have hS:=Y1 rb s i z c w h hs ht;clear ht;go_enter Tryz.func175,Tryz.ntmps175;go_wp2_with fail;refine hS.mono ?_;rintro e w1 ⟨rfl,hl⟩;go_wp2_with fail;go_end0;exact⟨rfl,hl⟩
theorem dQz (rb:Nat)(s:ByteArray)(i z:Nat)(c:UInt8)(a1:Addr)(w:World)(h:RB w rb s i z)(hE:Env w rb a1)(hs:s.size<=1048576)(hi:i<=1048577)(ht:A7 s i c=false) :
  Calls Tryz.prog 175 #[.pointer (some ⟨rb,0,none⟩),.int .u8 c.toNat] w (J7 w rb a1):=by
 have hS:=U6 rb s i z c w h hs hi ht;clear ht;go_enter Tryz.func175,Tryz.ntmps175;go_wp2_with fail;refine hS.mono ?_;rintro e w1 ⟨rfl,hl⟩;go_wp2_with fail;refine(T8 _ a1 _ (hE.grown hl.grown).sc).mono ?_;rintro e w2 ⟨rfl,rfl⟩;go_wp2_with fail;exact⟨rfl,rfl,hl.grown⟩
theorem gQ2 (rb:Nat)(s:ByteArray)(i z:Nat)(w:World)(h:RB w rb s i z)(hz:z<=11) :
  Calls Tryz.prog 169 #[.pointer (some ⟨rb,0,none⟩)] w fun e w'=>e=.returned (.tuple #[])/\RLeft w rb s i (z+1) w':=by
 have c2:=h.c2;have f2:=h.fr 2;have hrl:=h.lt;have hl0:=(RLeft.of_below h (Below.refl _ _)).set2 (z+1);have hd:¬(12:Int)<(z:Int)+1:=by omega
 go_enter Tryz.func169,Tryz.ntmps169;go_wp2_with fail;go_end0;exact⟨rfl,hl0⟩
theorem gQ1 (rb:Nat)(s:ByteArray)(i:Nat)(a1:Addr)(w:World)(h:RB w rb s i 12)(hE:Env w rb a1) :
  Calls Tryz.prog 169 #[.pointer (some ⟨rb,0,none⟩)] w (J7 w rb a1):=by
 have c2:=h.c2;have f2:=h.fr 2;have hrl:=h.lt;have hl0:=(RLeft.of_below h (Below.refl _ _)).set2 13;have hE0:=hE.grown hl0.grown;go_enter Tryz.func169,Tryz.ntmps169;go_wp2_with fail;refine(T8 _ a1 _ hE0.sc).mono ?_;rintro e w2 ⟨rfl,rfl⟩;go_wp2_with fail;exact⟨rfl,rfl,hl0.grown⟩
theorem dQs (rb:Nat)(s:ByteArray)(i z:Nat)(c:UInt8)(w:World)(h:RB w rb s i (z+1))(hs:s.size<=1048576)(hz:z<=11)(ht:A7 s i c=true) :
  Calls Tryz.prog 171 #[.pointer (some ⟨rb,0,none⟩),.int .u8 c.toNat] w fun e w'=>e=.returned (.tuple #[])/\RLeft w rb s (i+1) z w':=by
 have hS:=dQ0 rb s i (z+1) c w h hs ht;clear ht;go_enter Tryz.func171,Tryz.ntmps171;go_wp2_with fail;refine hS.mono ?_;rintro e w1 ⟨rfl,hl⟩;have c2:=hl.lies.c2;have f2:=hl.lies.fr 2;have hrl:=hl.lies.lt;have hl2:=hl.set2 z;go_wp2_with fail;go_end0;exact⟨rfl,hl2⟩
theorem dQr (rb:Nat)(s:ByteArray)(i z:Nat)(c:UInt8)(a1:Addr)(w:World)(h:RB w rb s i z)(hE:Env w rb a1)(hs:s.size<=1048576)(hi:i<=1048577)(ht:A7 s i c=false) :
  Calls Tryz.prog 171 #[.pointer (some ⟨rb,0,none⟩),.int .u8 c.toNat] w (J7 w rb a1):=by
 have hS:=dQz rb s i z c a1 w h hE hs hi ht;clear ht;go_enter Tryz.func171,Tryz.ntmps171;go_wp2_with fail;refine hS.mono ?_;rintro e w1 ⟨rfl,hg⟩;go_wp2_with fail;exact⟨rfl,rfl,hg⟩
structure Bx (T:TypeId)(w:World)(g rb:Nat):Prop where
 lies:w.heap[g]?=some (.cells #[.pointer (some ⟨rb,0,none⟩)] T (0,0))
section
variable {T:TypeId} {w w':World} {g rb:Nat}
theorem Bx.lt (h:Bx T w g rb):g<w.heap.size:=(Array.getElem?_eq_some_iff.1 h.lies).1
theorem Bx.cell (h:Bx T w g rb):w.cell? ⟨g,0,none⟩=some (.pointer (some ⟨rb,0,none⟩)):=by simp[World.cell?,h.lies]
theorem Bx.grown (h:Bx T w g rb)(hg:w.grownBy w' (some rb))(hn:g≠rb):Bx T w' g rb:=⟨by rw[hg.block g h.lt (by simpa using hn)];exact h.lies⟩
theorem Bx.below (h:Bx T w g rb)(hb:Below w.heap.size w w'):Bx T w' g rb:=⟨by rw[hb.block g h.lt];exact h.lies⟩
theorem Bx.new (w:World)(T:TypeId)(rb:Nat):Bx T (w.alloc (.cells #[.pointer (some ⟨rb,0,none⟩)] T)) w.heap.size rb:=⟨heap_alloc_new _ _⟩
end
abbrev G7 (T:TypeId)(rb:Nat):Obj:=.cells #[.pointer (some ⟨rb,0,none⟩)] T
structure In (T:TypeId)(w:World)(rb:Nat)(s:ByteArray)(at_ dep:Nat)(w':World):Prop where
 left:RLeft w rb s at_ dep w'
 box:Bx T w' w.heap.size rb
 old:rb<w.heap.size
section
variable {T:TypeId} {w w1 w2:World} {rb:Nat} {s:ByteArray} {a z a' z':Nat}
theorem In.enter (T:TypeId)(h:RB w rb s a z):In T w rb s a z (w.alloc (G7 T rb)):=⟨RLeft.of_below h (A5 _ _),Bx.new _ _ _,h.lt⟩
theorem In.go (h:In T w rb s a z w1)(k:RLeft w1 rb s a' z' w2):In T w rb s a' z' w2:=⟨h.left.trans k,h.box.grown k.grown (Nat.ne_of_gt h.old),h.old⟩
theorem In.below (h:In T w rb s a z w1)(hb:Below w1.heap.size w1 w2):In T w rb s a z w2:=⟨h.left.below hb,h.box.below hb,h.old⟩
theorem In.lies (h:In T w rb s a z w1):RB w1 rb s a z:=h.left.lies
theorem In.cell (h:In T w rb s a z w1):w1.cell? ⟨w.heap.size,0,none⟩=some (.pointer (some ⟨rb,0,none⟩)):=h.box.cell
theorem In.env (h:In T w rb s a z w1){a1:Addr}(hE:Env w rb a1):Env w1 rb a1:=hE.grown h.left.grown
theorem In.threw (h:In T w rb s a z w1){r:Option Nat}(hr:r=some rb)(hg:w1.grownBy w2 r):w.grownBy w2 (some rb):=by
 subst hr;exact I7 h.left.grown hg
theorem In.size (h:In T w rb s a z w1):w.heap.size<w1.heap.size:=h.box.lt
end
theorem pQ6 (a1:Addr)(w:World):(Instr.typeAssert (D0 a1) 20 80 true).run Tryz.prog w=.ok (.tuple #[D0 a1,.bool true]) w:=
 run_typeAssert_hasB Tryz.underlying80 (by kernel_rfl) _ _ w
theorem rQc (p:Nat)(a1:Addr)(vp:Value)(older:List PanicEntry)(w:World)(hp:w.cell? ⟨p,0,none⟩=some vp)(fp:w.frozen? ⟨p,0,none⟩=false) :
  CallsD Tryz.prog 105 #[.pointer (some ⟨p,0,none⟩)] (.panicking ({v:=D0 a1,recovered:=false}::older)) w fun e u' w'=>
   e=.returned (.tuple #[])/\u'=.panicking ({v:=D0 a1,recovered:=true}::older)/\w'=w.setCell ⟨p,0,none⟩ (D0 a1):=by
 have ha:=pQ6 a1;refine callsD_of_wpS Tryz.func105 rfl fun c₀ cs hu=>?_;apply wpS_seq
 apply wpS_region
 simp[wpOpsS,go_sem,recoverD,hu,Tryz.ntmps105,Exit.thenS,ha];apply wpS_seq
 apply wpS_region
 simp[wpOpsS,go_sem,Exit.thenS,Array.replicate,Act.eval];refine wpS_cond (t:=true) (by simp[Act.eval]) ?_;simp only[if_true];apply wpS_region
 simp[wpOpsS,go_sem,hp,fp,bodyPostS,results,Tryz.results105,Act.eval]
theorem rQb (p:Nat)(w:World) :
  CallsD Tryz.prog 105 #[.pointer (some ⟨p,0,none⟩)] .returning w fun e u' w'=>e=.returned (.tuple #[])/\u'=.returning/\w'=w:=by
 have ha:∀w,(Instr.typeAssert .nilIface 20 80 true).run Tryz.prog w=.ok (.tuple #[.nilIface,.bool false]) w:=fun w=>by kernel_rfl
 refine callsD_of_wpS Tryz.func105 rfl fun c₀ cs hu=>?_;apply wpS_seq
 apply wpS_region
 simp[wpOpsS,go_sem,recoverD,hu,Tryz.ntmps105,Exit.thenS,ha];apply wpS_seq
 apply wpS_region
 simp[wpOpsS,go_sem,Exit.thenS,Array.replicate,Act.eval];refine wpS_cond (t:=false) (by simp[Act.eval]) ?_;simp only[Bool.false_eq_true,if_false];refine wpS_of_wp (wp_skip ?_);cases c₀;simp_all [bodyPostS,results,Tryz.results105]
theorem kQ0 {w:World}{g:Nat}{v:Value}{t:TypeId}(h:w.heap[g]?=some (.cells #[v] t (0,0))):w.cell? ⟨g,0,none⟩=some v/\w.frozen? ⟨g,0,none⟩=false:=by
 constructor
 ·simp[World.cell?,h]
 ·simp[World.frozen?,h]
def nQn (w:World)(Q:Ending->World->Prop):Ending->World->Prop:=fun e w2=>
 ∃e1 w1,Q e1 w1/\((e1=.returned (.tuple #[])/\e=.returned .nilIface/\w2=w1.setCell ⟨w.heap.size,0,none⟩ .nilIface)\/(∃a,e1=.panicked [{v:=D0 a,recovered:=false}]/\e=.returned (D0 a)/\w2=w1.setCell ⟨w.heap.size,0,none⟩ (D0 a)))
theorem iQm (f:Nat)(caps:Array Value)(hcf:∀w,(callFunc f caps).run Tryz.prog w=.ok (.enter f caps) w)(w:World)(Q:Ending->World->Prop)
  (hdo:Calls Tryz.prog f caps (w.alloc (.cells #[.nilIface] 80)) Q)
  (hQ:∀e w',Q e w'->w'.heap[w.heap.size]?=some (.cells #[.nilIface] 80 (0,0))/\(e=.returned (.tuple #[])\/∃a,e=.panicked [{v:=D0 a,recovered:=false}])) :
  Calls Tryz.prog 78 #[.func (.func f) #[] caps] w (nQn w Q):=by
 have hmf:∀(fn:Fn) (first cap:Array Value) (w:World),(Instr.makeFunc fn first cap).run Tryz.prog w=.ok (.func fn first cap) w:=fun _ _ _ _=>rfl;have HQ:Hid (∀e w',Q e w'->w'.heap[w.heap.size]?=some (.cells #[.nilIface] 80 (0,0))/\(e=.returned (.tuple #[])\/∃a,e=.panicked [{v:=D0 a,recovered:=false}])):=hQ;clear hQ;go_enter_defers Tryz.func78,Tryz.ntmps78
 go_wp2_with fail;refine hdo.mono ?_;intro e w1 hq;obtain⟨hx,rfl|⟨a,rfl⟩⟩:=HQ.out e w1 hq
 ·obtain⟨p0,p1⟩:=kQ0 hx
  have HX:Hid (Q (.returned (.tuple #[])) w1):=hq;have hz:=(Array.getElem?_eq_some_iff.1 hx).1;clear hq hx hdo;go_wp2_with fail;refine leaves_cons (f:=105) (args:=#[.pointer (some ⟨w.heap.size,0,none⟩)]) (by simp) (by simp[go_sem]) ?_;refine(rQb w.heap.size _).mono ?_;rintro e u' w2 ⟨rfl,rfl,rfl⟩;simp[Leaves,settle,results,Tryz.results78,go_sem,p0];exact⟨_,w1,HX.out,.inl ⟨rfl,rfl,rfl⟩⟩
 ·obtain⟨p0,p1⟩:=kQ0 hx
  have HX:Hid (Q (.panicked [{v:=D0 a,recovered:=false}]) w1):=hq;have hz:=(Array.getElem?_eq_some_iff.1 hx).1;clear hq hx hdo;go_wp2_with fail;refine leaves_cons (f:=105) (args:=#[.pointer (some ⟨w.heap.size,0,none⟩)]) (by simp) (by simp[go_sem]) ?_;refine(rQc w.heap.size a _ [] _ p0 p1).mono ?_;rintro e u' w2 ⟨rfl,rfl,rfl⟩;simp[Leaves,settle,results,Tryz.results78,go_sem,p0];exact⟨_,w1,HX.out,.inr ⟨a,rfl,rfl,rfl⟩⟩
end Go.Proofs.YtfklinjaajafgaaGreatDoor
