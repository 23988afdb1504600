import Derived.Test.YtcfhleenecfghaaGreatDoorRows
import Derived.Lib.LaidU8
import Derived.ProofKit
import Derived.JoinedOf
set_option linter.all false
set_option maxHeartbeats 4000000
set_option maxRecDepth 100000
open Bool renaming true->A0
open Go renaming joinedFacts->aA9
open Go.Lib.laidMet renaming reads->aU4
open Go.Proofs.Tryz renaming prog->A4
open Go.Proofs.YtcfhleenecfghaaGreatDoor.Rows renaming leastRow->RG
open Option renaming some->Z
open Option.some renaming inj->D3
namespace Go.Proofs.YtcfhleenecfghaaGreatDoor
section
open Go Go.RowKit
def aS':List Int:=[0,1,56,2,57,49,28,3,61,58,42,50,38,29,17,4,62,47,59,36,45,43,51,22,53,39,33,30,24,18,12,5,63,55,48,27,60,41,37,16,46,35,44,21,52,32,23,11,54,26,40,15,34,20,31,10,25,14,19,9,13,8,7,6]
theorem aS0{W:World}(h:laidMet A4 RG.laid W):W.cell? ⟨5,15,none⟩=Z (.int .u8 4):=by
 obtain⟨g,t,cs,f,p,y,z,hv,x⟩:=aU4 h (n:= "math/bits.deBruijn64tab") (d:=Rows.laid_math_bits_deBruijn64tab) (by simp[RG]);have b:A4.globalNamed "math/bits.deBruijn64tab"=Z 5:=by kernel_rfl
 obtain rfl:=D3 (b.symm.trans y);have m:A4.globals[5]?.map (·.type)=Z 538:=by kernel_rfl
 obtain rfl:=D3 (m.symm.trans z);have s:A4.underlying 538=Z (.array 64 5):=by kernel_rfl
 have hu:A4.underlying 5=Z (.int .u8):=by kernel_rfl
 have e:=Lib.cells_of_tab (k:=.u8) (zs:=aS') s hu (by kernel_rfl) (by kernel_rfl) x;have hc:=World.var?_cell b hv 15;rw[hc];have e2:cs[15]?=cs.toList[15]?:=by simp
 rw[e2,e];rfl
end
section
open Go
theorem both{a b:Bool}(e:a=A0)(f:b=A0):(a&&b)=A0:=by rw[e,f];rfl
theorem aKQ:(RG.inPlace==A4.inPlace 7)=A0:=by kernel_rfl
theorem aKY:(RG.unfollowed==A4.unfollowed 7)=A0:=by kernel_rfl
theorem aKU:(RG.recurses==A4.recurses 7)=A0:=by kernel_rfl
theorem aKT:(RG.named==A4.varsNamed 7)=A0:=by kernel_rfl
theorem aKP:aA9 A4 7 Tryz.f7 Rows.leastSpec RG=A0:=by
 unfold aA9;refine both (both (both (both (both (both (both (both (both (both (both (both (both (both (both (both (both (both (both (both (both (both (both (both (both (both (both (both (both (both (both ?_ ?_) ?_) ?_) ?_) ?_) ?_) ?_) ?_) ?_) ?_) ?_) ?_) ?_) ?_) ?_) ?_) ?_) ?_) ?_) ?_) ?_) ?_) ?_) ?_) ?_) ?_) ?_) ?_) ?_) ?_) ?_;case refine_10=>exact aKQ
 case refine_11=>exact aKY
 case refine_12=>exact aKU
 case refine_13=>exact aKT
 all_goals as_aux_lemma=>kernel_rfl
end
end Go.Proofs.YtcfhleenecfghaaGreatDoor
