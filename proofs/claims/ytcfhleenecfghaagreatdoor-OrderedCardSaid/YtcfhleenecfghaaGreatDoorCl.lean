/- The closed facts of Ordered's row, each by itself. -/
import Derived.Test.YtcfhleenecfghaaGreatDoorRows
import Derived.ProofKit
import Derived.JoinedOf
namespace Go.Proofs.YtcfhleenecfghaaGreatDoor
open Go

theorem both {a b : Bool} (ha : a = true) (hb : b = true) : (a && b) = true := by rw [ha, hb]; rfl

theorem ordered_inPlace : (Rows.orderedRow.inPlace == Tryz.prog.inPlace 3) = true := by kernel_rfl
theorem ordered_unfollowed : (Rows.orderedRow.unfollowed == Tryz.prog.unfollowed 3) = true := by kernel_rfl
theorem ordered_recurses : (Rows.orderedRow.recurses == Tryz.prog.recurses 3) = true := by kernel_rfl
theorem ordered_named : (Rows.orderedRow.named == Tryz.prog.varsNamed 3) = true := by kernel_rfl

theorem ordered_closed : joinedFacts Tryz.prog 3 Tryz.f3 Rows.orderedSpec Rows.orderedRow = true := by
  unfold joinedFacts
  refine both (both (both (both (both (both (both (both (both (both (both (both (both (both (both (both (both (both (both (both (both (both (both (both (both (both (both (both (both (both (both ?_ ?_) ?_) ?_) ?_) ?_) ?_) ?_) ?_) ?_) ?_) ?_) ?_) ?_) ?_) ?_) ?_) ?_) ?_) ?_) ?_) ?_) ?_) ?_) ?_) ?_) ?_) ?_) ?_) ?_) ?_) ?_
  case refine_10 => exact ordered_inPlace
  case refine_11 => exact ordered_unfollowed
  case refine_12 => exact ordered_recurses
  case refine_13 => exact ordered_named
  all_goals kernel_rfl

end Go.Proofs.YtcfhleenecfghaaGreatDoor
