/-
  DERIVED. GIVEN WITH THE SEED: THE CARDS: each row of YtcfhleenecfghaaDoorRows.lean that lists a variable, with what it lists TIED to the program's text (the seventh form; the later family's looks); each row that meets fmt, with fmt's text TOLD by the authors' own Lean function (tested against real Go, not proved from fmt's source: count such statements apart). THE CARD IS WHAT COUNTS. Prove the row's statement (the work); the ties are given (YtcfhleenecfghaaDoorTie.lean); close each card by the builder's one call (the guide's Derived/Test/ToyasCard.lean, 'card_holds'). Laid BY PROGRAM, IN A SANDBOX (cutbox-door.mjs). By AI agents, Wed Nov 11 2026. No macro, syntax, notation, axiom, sorry.
-/
import Derived.Test.YtcfhleenecfghaaDoorRows
import GoSem.ClaimSeven
namespace Go.Proofs.YtcfhleenecfghaaDoor
namespace Rows

/-- THE TIED CARD OF 'trellislaw.Compares'. -/
def comparesCard : Claim7 := { stood := { row := comparesRow, standIns := [], harness := (true, "54ce3d1d65ed0428a762e792e38e2154e5ef1dc0d7aa91eb776883c62420ec11"), looks := true }, kinds := [], alts := [], laidByText := true, laidKinds := [.data, .pinned], laidTests := true, laidLooks := .later }
def ComparesCardSaid : Prop := Claim7.holds Tryd.pinned (.plain (OpenSpec.ofChange comparesSpec)) comparesCard

/-- THE TIED CARD OF 'trellislaw.Digests'. -/
def digestsCard : Claim7 := { stood := { row := digestsRow, standIns := [], harness := (true, "54ce3d1d65ed0428a762e792e38e2154e5ef1dc0d7aa91eb776883c62420ec11"), looks := true }, kinds := [], alts := [], laidByText := true, laidKinds := [.data, .data, .data], laidTests := true, laidLooks := .later }
def DigestsCardSaid : Prop := Claim7.holds Tryd.pinned (.plain (OpenSpec.ofChange digestsSpec)) digestsCard

/-- THE SECOND FORM's CARD OF 'trellislaw.Compares'. -/
def comparesUptoCard : Claim7 := { stood := { row := comparesUptoRow, standIns := [], harness := (true, "54ce3d1d65ed0428a762e792e38e2154e5ef1dc0d7aa91eb776883c62420ec11"), looks := true }, kinds := [], alts := [], laidByText := true, laidKinds := [.data, .pinned], laidTests := true, laidLooks := .later }
def ComparesUptoCardSaid : Prop := Claim7.holds Tryd.pinned (.plain (OpenSpec.upto comparesSpec)) comparesUptoCard

/-- THE SECOND FORM's CARD OF 'trellislaw.Digests'. -/
def digestsUptoCard : Claim7 := { stood := { row := digestsUptoRow, standIns := [], harness := (true, "54ce3d1d65ed0428a762e792e38e2154e5ef1dc0d7aa91eb776883c62420ec11"), looks := true }, kinds := [], alts := [], laidByText := true, laidKinds := [.data, .data, .data], laidTests := true, laidLooks := .later }
def DigestsUptoCardSaid : Prop := Claim7.holds Tryd.pinned (.plain (OpenSpec.upto digestsSpec)) digestsUptoCard
end Rows
end Go.Proofs.YtcfhleenecfghaaDoor
