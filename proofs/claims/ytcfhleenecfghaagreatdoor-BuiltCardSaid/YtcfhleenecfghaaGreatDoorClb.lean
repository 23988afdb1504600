/- The closed facts of Built's row, each by itself. -/
import Derived.Test.YtcfhleenecfghaaGreatDoorRows
import Derived.ProofKit
import Derived.JoinedOf
namespace Go.Proofs.YtcfhleenecfghaaGreatDoor
open Go

theorem both {a b : Bool} (ha : a = true) (hb : b = true) : (a && b) = true := by rw [ha, hb]; rfl

theorem built_inPlace : (Rows.builtRow.inPlace == Tryz.prog.inPlace 12) = true := by kernel_rfl
theorem built_unfollowed : (Rows.builtRow.unfollowed == Tryz.prog.unfollowed 12) = true := by kernel_rfl
theorem built_recurses : (Rows.builtRow.recurses == Tryz.prog.recurses 12) = true := by kernel_rfl
theorem built_named : (Rows.builtRow.named == Tryz.prog.varsNamed 12) = true := by kernel_rfl

theorem built_closed : joinedFacts Tryz.prog 12 Tryz.f12 Rows.builtSpec Rows.builtRow = true := by
  unfold joinedFacts
  refine both (both (both (both (both (both (both (both (both (both (both (both (both (both (both (both (both (both (both (both (both (both (both (both (both (both (both (both (both (both (both ?_ ?_) ?_) ?_) ?_) ?_) ?_) ?_) ?_) ?_) ?_) ?_) ?_) ?_) ?_) ?_) ?_) ?_) ?_) ?_) ?_) ?_) ?_) ?_) ?_) ?_) ?_) ?_) ?_) ?_) ?_) ?_
  case refine_10 => exact built_inPlace
  case refine_11 => exact built_unfollowed
  case refine_12 => exact built_recurses
  case refine_13 => exact built_named
  all_goals kernel_rfl

end Go.Proofs.YtcfhleenecfghaaGreatDoor
