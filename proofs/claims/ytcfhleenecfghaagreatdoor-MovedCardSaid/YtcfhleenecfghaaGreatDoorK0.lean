import GoSem.Core.Machine
namespace Go.Proofs
abbrev zz:=ByteArray
abbrev zy:=Nat->Prop
abbrev zx:=List UInt8
abbrev zw:=Array Go.Value
abbrev zv:=(Nat->Prop)->Go.Goroutine->Go.World->Prop
end Go.Proofs
