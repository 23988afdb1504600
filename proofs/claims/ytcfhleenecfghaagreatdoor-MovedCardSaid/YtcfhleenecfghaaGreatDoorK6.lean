import Derived.Test.YtcfhleenecfghaaGreatDoorRows
import Derived.ProofKit
namespace Go.Proofs.YtcfhleenecfghaaGreatDoor
theorem fN10:Tryz.prog.funcNamed Tryz.f10.name=some 10:=by kernel_rfl
end Go.Proofs.YtcfhleenecfghaaGreatDoor
