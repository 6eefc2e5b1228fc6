import Derived.Test.YtfklinjaajafgaaGreatDoorK54
import Derived.Test.YtfklinjaajafgaaGreatDoorK39
set_option maxRecDepth 100000
set_option maxHeartbeats 4000000
namespace Go.Proofs.YtfklinjaajafgaaGreatDoor
open Go.RowKit
theorem Blk.six {w:World}{g:Nat}{x y u v s t:Value}{T:TypeId}(h:Blk w g #[x,y,u,v,s,t] T):Ce w g 0 x/\Ce w g 1 y/\Ce w g 2 u/\Ce w g 3 v/\Ce w g 4 s/\Ce w g 5 t:=⟨h.cell 0,h.cell 1,h.cell 2,h.cell 3,h.cell 4,h.cell 5⟩
theorem gQv {s:ByteArray}{w a c:World}{l b:Ls.Ln}{L p:Nat}(_hb1:Bw w a)(d:E6 s.data.toList=some l)(e:E6 s.data.toList=some b)(m:Ls.OkL 120 l)(i:cn l<=30000)(f:Ls.eX7 l<=24)
  (g:Blk a L #[Pt p] 85) (k:PartV a (B8 w a) p l) (h:Bw a c):b=l/\LensV c (B8 w a) L p l:=⟨(Option.some.inj (d.symm.trans e)).symm,LensV.below ⟨g,k,fun _ j=>j.2,m,f,i⟩ h⟩
end Go.Proofs.YtfklinjaajafgaaGreatDoor
