/- A stable sort in place, on rows of elements that each bear a number: what exchanging two ranges and turning a range about does, and how two sorted parts become one; nothing of the program is named here. -/
import Derived.Sort.LotA
import Derived.Sort.Row
namespace Go.Proofs.YtcfhleenecfghaaDoor
open Go.Sort

section
variable {α : Type} [Inhabited α]

theorem swp_size (d : Array α) (i j : Nat) : (swp d i j).size = d.size := by simp [swp]
theorem swp_get (d : Array α) (i j k : Nat) (hi : i < d.size) (hj : j < d.size) : (swp d i j)[k]! = if k = i then d[j]! else if k = j then d[i]! else d[k]! := by
  unfold swp
  by_cases h2 : k = j
  · subst h2
    rw [getElem!_set_same _ _ _ (by simpa using hj)]
    by_cases h1 : k = i
    · subst h1; rw [if_pos rfl]
    · rw [if_neg h1, if_pos rfl]
  · rw [getElem!_set_other _ _ _ _ h2]
    by_cases h1 : k = i
    · subst h1
      rw [getElem!_set_same _ _ _ hi, if_pos rfl]
    · rw [getElem!_set_other _ _ _ _ h1, if_neg h1, if_neg h2]

/-- Two ranges of n elements are exchanged. -/
def swr (d : Array α) (a b : Nat) : Nat → Array α
  | 0 => d
  | n + 1 => swp (swr d a b n) (a + n) (b + n)
theorem swr_size (d : Array α) (a b : Nat) : ∀ n, (swr d a b n).size = d.size
  | 0 => rfl
  | n + 1 => by rw [swr, swp_size, swr_size d a b n]
theorem swr_get (d : Array α) (a b : Nat) : ∀ n k, a + n ≤ b → b + n ≤ d.size → (swr d a b n)[k]! = if a ≤ k ∧ k < a + n then d[k - a + b]! else if b ≤ k ∧ k < b + n then d[k - b + a]! else d[k]!
  | 0, k, _, _ => by rw [swr, if_neg (by omega), if_neg (by omega)]
  | n + 1, k, h1, h2 => by
    have hs := swr_size d a b n
    rw [swr, swp_get _ _ _ _ (by omega) (by omega), swr_get d a b n (b + n) (by omega) (by omega), swr_get d a b n (a + n) (by omega) (by omega), swr_get d a b n k (by omega) (by omega)]
    by_cases e1 : k = a + n
    · rw [if_pos e1, if_neg (by omega), if_neg (by omega), if_pos (by omega)]
      congr 1; omega
    · rw [if_neg e1]
      by_cases e2 : k = b + n
      · rw [if_pos e2, if_neg (by omega), if_neg (by omega), if_neg (by omega), if_pos (by omega)]
        congr 1; omega
      · rw [if_neg e2]
        by_cases e3 : a ≤ k ∧ k < a + n
        · rw [if_pos e3, if_pos (by omega)]
        · rw [if_neg e3, if_neg (by omega : ¬ (a ≤ k ∧ k < a + (n + 1)))]
          by_cases e4 : b ≤ k ∧ k < b + n
          · rw [if_pos e4, if_pos (by omega)]
          · rw [if_neg e4, if_neg (by omega)]

/-- Of a range its second part comes first. -/
def rotA (d : Array α) (a m b : Nat) : Array α :=
  d.mapIdx fun k x => if a ≤ k ∧ k < a + (b - m) then d[k + (m - a)]! else if a + (b - m) ≤ k ∧ k < b then d[k - (b - m)]! else x
theorem rotA_size (d : Array α) (a m b : Nat) : (rotA d a m b).size = d.size := by simp [rotA]
theorem rotA_get (d : Array α) (a m b k : Nat) (hb : b ≤ d.size) (ham : a ≤ m) (hmb : m ≤ b) : (rotA d a m b)[k]! = if a ≤ k ∧ k < a + (b - m) then d[k + (m - a)]! else if a + (b - m) ≤ k ∧ k < b then d[k - (b - m)]! else d[k]! := by
  by_cases hk : k < d.size
  · rw [getElem!_pos _ k (by rw [rotA_size]; exact hk), getElem!_pos d k hk]
    unfold rotA
    rw [Array.getElem_mapIdx]
  · rw [getElem!_neg _ k (by rw [rotA_size]; exact hk), if_neg (by omega), if_neg (by omega), getElem!_neg d k hk]
theorem row_ext {d e : Array α} (hs : d.size = e.size) (h : ∀ k, k < d.size → d[k]! = e[k]!) : d = e := by
  apply Array.ext hs
  intro i h1 h2
  have := h i h1
  rwa [getElem!_pos d i h1, getElem!_pos e i h2] at this
theorem rotA_none (d : Array α) (a m b : Nat) (hb : b ≤ d.size) (ham : a ≤ m) (hmb : m ≤ b) (h : a = m ∨ m = b) : rotA d a m b = d := by
  refine row_ext (rotA_size ..) fun k _ => ?_
  rw [rotA_get d a m b k hb ham hmb]
  split
  · congr 1; omega
  · split
    · congr 1; omega
    · rfl
/-- The longer first part: its head and the second part are exchanged. -/
theorem rotA_left (d : Array α) (m i j : Nat) (hi : i ≤ m) (hj : m + j ≤ d.size) (hij : j < i) : rotA (swr d (m - i) m j) (m - (i - j)) m (m + j) = rotA d (m - i) m (m + j) := by
  refine row_ext (by rw [rotA_size, rotA_size, swr_size]) fun k _ => ?_
  rw [rotA_get _ _ _ _ _ (by rw [swr_size]; omega) (by omega) (by omega), rotA_get _ _ _ _ _ (by omega) (by omega) (by omega)]
  rw [swr_get d _ _ _ _ (by omega) (by omega), swr_get d _ _ _ _ (by omega) (by omega), swr_get d _ _ _ _ (by omega) (by omega)]
  repeat' split
  all_goals first | rfl | (congr 1; omega) | omega
/-- The longer second part: the first part and its tail are exchanged. -/
theorem rotA_right (d : Array α) (m i j : Nat) (hi : i ≤ m) (hj : m + j ≤ d.size) (hij : i < j) : rotA (swr d (m - i) (m + j - i) i) (m - i) m (m + (j - i)) = rotA d (m - i) m (m + j) := by
  refine row_ext (by rw [rotA_size, rotA_size, swr_size]) fun k _ => ?_
  rw [rotA_get _ _ _ _ _ (by rw [swr_size]; omega) (by omega) (by omega), rotA_get _ _ _ _ _ (by omega) (by omega) (by omega)]
  rw [swr_get d _ _ _ _ (by omega) (by omega), swr_get d _ _ _ _ (by omega) (by omega), swr_get d _ _ _ _ (by omega) (by omega)]
  repeat' split
  all_goals first | rfl | (congr 1; omega) | omega
/-- Two parts of one length are exchanged. -/
theorem rotA_same (d : Array α) (m i : Nat) (hi : i ≤ m) (hj : m + i ≤ d.size) : swr d (m - i) m i = rotA d (m - i) m (m + i) := by
  refine row_ext (by rw [rotA_size, swr_size]) fun k _ => ?_
  rw [rotA_get _ _ _ _ _ (by omega) (by omega) (by omega), swr_get d _ _ _ _ (by omega) (by omega)]
  repeat' split
  all_goals first | rfl | (congr 1; omega) | omega
end

end Go.Proofs.YtcfhleenecfghaaDoor
