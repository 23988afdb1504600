/- The sum of a release, as the document has it; nothing of the program is named here. -/
import Derived.Test.YtcfhleenecfghaaDoorDgi
import Derived.Test.YtcfhleenecfghaaDoorDgr
import Derived.Test.YtcfhleenecfghaaDoorDgs
namespace Go.Proofs.YtcfhleenecfghaaDoor

def V.start : Int := 14695981039346656037
/-- Path, version, manifest. -/
def V.head (p v m : List UInt8) : Int := V.mixT (V.mixT (V.mixT V.start p) v) m
/-- .. and a file. -/
def V.mixF (h : Int) (f : Fil) : Int := V.mixT (V.mixT h f.1.data.toList) f.2.data.toList
/-- The sum of a release, as a number. -/
def V.sumOf (p v m : List UInt8) (L : List Fil) : Int := (V.files L).foldl V.mixF (V.head p v m)
theorem V.head_eq (p v m : List UInt8) : V.mixL V.start (p ++ [0] ++ v ++ [0] ++ m ++ [0]) = V.head p v m := by
  unfold V.head V.mixT
  simp only [V.mixL_append]
theorem V.mixF_eq (h : Int) (f : Fil) : V.mixL h (f.1.data.toList ++ [0] ++ f.2.data.toList ++ [0]) = V.mixF h f := by
  unfold V.mixF V.mixT
  simp only [V.mixL_append]
theorem V.mixB_range (h b : Int) : 0 ≤ V.mixB h b ∧ V.mixB h b < 18446744073709551616 := by
  unfold V.mixB
  rw [IntKind.wrap_u64]
  omega
theorem V.mixL_range : ∀ (s : List UInt8) (h : Int), 0 ≤ h ∧ h < 18446744073709551616 → 0 ≤ V.mixL h s ∧ V.mixL h s < 18446744073709551616
  | [], _, hh => hh
  | _ :: r, _, _ => V.mixL_range r _ (V.mixB_range _ _)
theorem V.mixT_range (h : Int) (s : List UInt8) : 0 ≤ V.mixT h s ∧ V.mixT h s < 18446744073709551616 := by
  rw [V.mixT_eq]; exact V.mixB_range _ _
theorem V.mixF_range (h : Int) (f : Fil) : 0 ≤ V.mixF h f ∧ V.mixF h f < 18446744073709551616 := V.mixT_range _ _
theorem V.fold_range : ∀ (L : List Fil) (h : Int), 0 ≤ h ∧ h < 18446744073709551616 → 0 ≤ L.foldl V.mixF h ∧ L.foldl V.mixF h < 18446744073709551616
  | [], _, hh => hh
  | f :: r, h, _ => V.fold_range r _ (V.mixF_range h f)
theorem V.sumOf_range (p v m : List UInt8) (L : List Fil) : 0 ≤ V.sumOf p v m L ∧ V.sumOf p v m L < 18446744073709551616 := V.fold_range _ _ (V.mixT_range _ _)
theorem V.fold_snoc (L : List Fil) (h : Int) (k : Nat) (hk : k < L.length) : (L.take (k + 1)).foldl V.mixF h = V.mixF ((L.take k).foldl V.mixF h) L[k] := by
  rw [List.take_succ_eq_append_getElem hk, List.foldl_append]; rfl
end Go.Proofs.YtcfhleenecfghaaDoor
