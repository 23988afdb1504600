/- The closed facts of Printed's row, each by itself. -/
import Derived.Test.YtcfhleenecfghaaGreatDoorRows
import Derived.ProofKit
import Derived.JoinedCond
namespace Go.Proofs.YtcfhleenecfghaaGreatDoor.printed
open Go

theorem both {a b : Bool} (ha : a = true) (hb : b = true) : (a && b) = true := by rw [ha, hb]; rfl

theorem row_inPlace : (Rows.printedUptoRow.inPlace == Tryz.prog.inPlace 5) = true := by kernel_rfl
theorem row_unfollowed : (Rows.printedUptoRow.unfollowed == Tryz.prog.unfollowed 5) = true := by kernel_rfl
theorem row_recurses : (Rows.printedUptoRow.recurses == Tryz.prog.recurses 5) = true := by kernel_rfl
theorem row_named : (Rows.printedUptoRow.named == Tryz.prog.varsNamed 5) = true := by kernel_rfl

set_option maxRecDepth 100000 in
theorem row_closed : joinedFacts Tryz.prog 5 Tryz.f5 (Rows.OpenSpec.upto Rows.printedSpec).bare { Rows.printedUptoRow with leaving := false } = true := by
  unfold joinedFacts
  refine both (both (both (both (both (both (both (both (both (both (both (both (both (both (both (both (both (both (both (both (both (both (both (both (both (both (both (both (both (both (both ?_ ?_) ?_) ?_) ?_) ?_) ?_) ?_) ?_) ?_) ?_) ?_) ?_) ?_) ?_) ?_) ?_) ?_) ?_) ?_) ?_) ?_) ?_) ?_) ?_) ?_) ?_) ?_) ?_) ?_) ?_) ?_
  case refine_10 => exact row_inPlace
  case refine_11 => exact row_unfollowed
  case refine_12 => exact row_recurses
  case refine_13 => exact row_named
  all_goals kernel_rfl

end Go.Proofs.YtcfhleenecfghaaGreatDoor.printed
