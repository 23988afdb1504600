/- Places as the keys of a map. -/
import Derived.Test.YtcfhleenecfghaaGreatDoorXf
import Derived.DeepKeys4
namespace Go.Proofs.YtcfhleenecfghaaGreatDoor
open Go.RowKit

theorem at114 : Tryz.prog.keyTypeAt 3 184 = true := by kernel_rfl
theorem tiled114 : Tryz.prog.tiled 3 184 = true := by kernel_rfl
theorem law114 : WideMaps.KeyLaw Tryz.prog 184 := deep_law (m := 3) (by omega) at114 tiled114 (by rw [Tryz.underlying184])
theorem keyType114 : Tryz.prog.keyType 184 = true := by kernel_rfl
theorem cellsOf114 : Tryz.prog.cellsOf 184 = 3 := by kernel_rfl
theorem formed114 (a b c : Value) : (Value.agg #[a, b, c]).formed Tryz.prog 184 = true := by
  simp [Value.formed, Tryz.underlying184, cellsOf114]
/-- A place that may be a key. -/
def V.Keyable (p : Int × ByteArray × ByteArray) : Prop := (Lit.int .i64 p.1).wf = true ∧ p.2.1.size ≤ maxLen ∧ p.2.2.size ≤ maxLen
theorem cells112 : Tryz.prog.cellsOf 182 = 1 := by kernel_rfl
theorem cells9 : Tryz.prog.cellsOf 9 = 1 := by kernel_rfl
theorem size_pos : 0 < Tryz.prog.types.size := of_decide_eq_true (by kernel_rfl)
theorem key_place (p : Int × ByteArray × ByteArray) (h : V.Keyable p) : ∃ l, keyOf Tryz.prog 184 (placeV p) = some l := by
  obtain ⟨h1, h2, h3⟩ := h
  have hl : ∃ ls, Tryz.prog.keyLits (Tryz.prog.types.size + 1) 184 [.int .i64 p.1, .string p.2.1, .string p.2.2] = some ls := by
    obtain ⟨d, hd⟩ : ∃ d, Tryz.prog.types.size = d + 1 := ⟨Tryz.prog.types.size - 1, by have := size_pos; omega⟩
    rw [hd]
    simp only [Program.keyLits, Tryz.underlying184, cellsOf114]
    simp [Tryz.underlying182, Tryz.underlying9, cells112, cells9, h1, h2, h3]
  obtain ⟨ls, hl⟩ := hl
  refine ⟨.string (keyBytes ls), ?_⟩
  unfold keyOf placeV
  rw [Tryz.underlying184]
  simp only [keyType114, formed114, Bool.and_self, if_true]
  show (Tryz.prog.keyLits (Tryz.prog.types.size + 1) 184 [.int .i64 p.1, .string p.2.1, .string p.2.2]).map _ = _
  rw [hl]; rfl

theorem placeV_inj {p q : Int × ByteArray × ByteArray} (h : placeV p = placeV q) : p = q := by
  obtain ⟨a, b, c⟩ := p
  obtain ⟨x, y, z⟩ := q
  simp [placeV] at h
  obtain ⟨rfl, rfl, rfl⟩ := h
  rfl

/-- The entries of a map of places to line numbers, in the order in which they came. -/
def takenEntries (l : List ((Int × ByteArray × ByteArray) × Nat)) : Array MapEntry := (l.zipIdx.map fun x => ({ key := placeV x.1.1, val := .int .i64 (x.1.2 : Int), born := x.2 } : MapEntry)).toArray

end Go.Proofs.YtcfhleenecfghaaGreatDoor
