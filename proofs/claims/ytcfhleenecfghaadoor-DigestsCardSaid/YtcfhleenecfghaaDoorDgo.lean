/- Neighbours that are alike are left out in place: what is known from round to round; nothing of the program is named here. -/
import Derived.Test.YtcfhleenecfghaaDoorDgm
namespace Go.Proofs.YtcfhleenecfghaaDoor
open Go.Sort

section
variable {α : Type} [Inhabited α] {eq : α → α → Bool}
/-- Place j is kept: it is the first, or not like the one ahead. -/
def keepsE (eq : α → α → Bool) (d : Array α) (j : Nat) : Bool := decide (j = 0) || !eq d[j]! d[j - 1]!
/-- Of the first m places those that are kept. -/
def compE (eq : α → α → Bool) (d : Array α) (m : Nat) : List α := ((List.range m).filter (keepsE eq d)).map (d[·]!)
theorem keepsE_zero (d : Array α) {j : Nat} (h : j < 1) : keepsE eq d j = true := by
  have : j = 0 := by omega
  subst this; rfl
theorem keepsE_pos {d : Array α} {m : Nat} (h : eq d[m]! d[m - 1]! = false) : keepsE eq d m = true := by
  unfold keepsE; rw [h]; simp
theorem keepsE_neg {d : Array α} {m : Nat} (hm : 0 < m) (h : eq d[m]! d[m - 1]! = true) : keepsE eq d m = false := by
  unfold keepsE; rw [h, decide_eq_false (by omega)]; rfl
theorem compE_succ (d : Array α) (m : Nat) : compE eq d (m + 1) = compE eq d m ++ (if keepsE eq d m then [d[m]!] else []) := by
  unfold compE
  rw [List.range_succ, List.filter_append, List.map_append]
  congr 1
  by_cases h : keepsE eq d m <;> simp [h]
theorem compE_all (d : Array α) (m : Nat) (h : ∀ j, j < m → keepsE eq d j = true) : compE eq d m = (List.range m).map (d[·]!) := by
  unfold compE
  rw [List.filter_eq_self.2 (fun j hj => h j (List.mem_range.1 hj))]
theorem compE_le (d : Array α) : ∀ m, (compE eq d m).length ≤ m
  | 0 => Nat.le_refl 0
  | m + 1 => by
    rw [compE_succ, List.length_append]
    have := compE_le d m
    split <;> simp <;> omega

/-- m places have been looked at; what is kept of them, kk elements, lies at the head; from place kk on all is as it was. -/
structure CInv (eq : α → α → Bool) (d : Array α) (m kk : Nat) (dk : Array α) : Prop where
  size : dk.size = d.size
  len : (compE eq d m).length = kk
  lt : kk < m
  low : ∀ j, j < kk → (compE eq d m)[j]? = some dk[j]!
  high : ∀ j, kk ≤ j → dk[j]! = d[j]!
theorem CInv.start {d : Array α} {k0 : Nat} (hall : ∀ j, j < k0 → keepsE eq d j = true) (hdup : keepsE eq d k0 = false) : CInv eq d (k0 + 1) k0 d where
  size := rfl
  len := by rw [compE_succ, hdup, compE_all d k0 hall]; simp
  lt := Nat.lt_succ_self _
  low := fun j hj => by rw [compE_succ, hdup, compE_all d k0 hall]; simp [hj]
  high := fun _ _ => rfl
theorem CInv.keep {d dk : Array α} {m kk : Nat} (h : CInv eq d m kk dk) (hm : m < d.size) (hk : keepsE eq d m = true) : CInv eq d (m + 1) (kk + 1) (dk.setIfInBounds kk d[m]!) where
  size := by simp [h.size]
  len := by rw [compE_succ, hk]; simp [h.len]
  lt := by have := h.lt; omega
  low := fun j hj => by
    rw [compE_succ, hk, if_pos rfl]
    by_cases e : j = kk
    · subst e
      rw [List.getElem?_append_right (by rw [h.len]; exact Nat.le_refl _), h.len, Nat.sub_self, getElem!_set_same dk j _ (by have := h.lt; have := h.size; omega)]
      rfl
    · rw [List.getElem?_append_left (by rw [h.len]; omega), h.low j (by omega), getElem!_set_other dk kk j _ e]
  high := fun j hj => by rw [getElem!_set_other dk kk j _ (by omega), h.high j (by omega)]
theorem CInv.skip {d dk : Array α} {m kk : Nat} (h : CInv eq d m kk dk) (hk : keepsE eq d m = false) : CInv eq d (m + 1) kk dk where
  size := h.size
  len := by rw [compE_succ, hk]; simpa using h.len
  lt := by have := h.lt; omega
  low := fun j hj => by rw [compE_succ, hk]; simpa using h.low j hj
  high := h.high
end

/-- Of one name. -/
def eqF (x y : Fil × Nat) : Bool := x.1.1.data.toList == y.1.1.data.toList
theorem V.compFrom_snoc : ∀ (r : List Fil) (p x : Fil), V.compFrom p (r ++ [x]) = V.compFrom p r ++ if x.1.data.toList = ((p :: r).getLast (by simp)).1.data.toList then [] else [x]
  | [], p, x => by
    rw [List.nil_append, V.compFrom, V.compFrom]
    simp only [List.getLast_singleton, List.nil_append]
    rfl
  | b :: r, p, x => by
    have e : (p :: b :: r).getLast (by simp) = (b :: r).getLast (by simp) := List.getLast_cons (by simp)
    rw [List.cons_append, V.compFrom, V.compFrom, V.compFrom_snoc r b x, e]
    by_cases hb : b.1.data.toList = p.1.data.toList
    · rw [if_pos hb, if_pos hb]
    · rw [if_neg hb, if_neg hb]; rfl
theorem V.comp_upto (S : List (Fil × Nat)) : ∀ m, m ≤ S.length → (compE eqF S.toArray m).map (·.1) = V.comp ((S.take m).map (·.1))
  | 0, _ => rfl
  | 1, h => by
    cases S with
    | nil => simp at h
    | cons a r => rfl
  | m + 2, h => by
    have ih := V.comp_upto S (m + 1) (by omega)
    rw [compE_succ, List.map_append, ih]
    have e1 : S.take (m + 2) = S.take (m + 1) ++ [S[m + 1]] := by rw [List.take_succ_eq_append_getElem (by omega)]
    have g1 : S.toArray[m + 1]! = S[m + 1] := by rw [getElem!_pos _ _ (by simpa using (by omega : m + 1 < S.length))]; simp
    have g0 : S.toArray[m + 1 - 1]! = S[m] := by rw [getElem!_pos _ _ (by simp; omega)]; simp
    rw [e1, List.map_append]
    obtain ⟨a, r, hS⟩ : ∃ a r, S = a :: r := by
      cases S with
      | nil => simp at h
      | cons a r => exact ⟨a, r, rfl⟩
    have e2 : (S.take (m + 1)).map (·.1) = a.1 :: (r.take m).map (·.1) := by rw [hS]; rfl
    have hlast : ((a.1 :: (r.take m).map (·.1)).getLast (by simp)) = S[m].1 := by
      have h3 : (S.take (m + 1)).map (·.1) ≠ [] := by rw [e2]; simp
      have h4 : ((S.take (m + 1)).map (·.1)).getLast h3 = S[m].1 := by
        rw [List.getLast_eq_getElem]
        simp [show min (m + 1) S.length = m + 1 by omega]
      rw [← h4]
      congr 1
      exact e2.symm
    rw [e2]
    show _ = V.comp (a.1 :: ((r.take m).map (·.1) ++ [S[m + 1].1]))
    rw [V.comp, V.comp, V.compFrom_snoc, hlast, List.cons_append]
    unfold keepsE eqF
    rw [g1, g0]
    by_cases hq : S[m + 1].1.1.data.toList = S[m].1.1.data.toList
    · rw [if_pos hq, hq, beq_self_eq_true, decide_eq_false (by omega)]
      rfl
    · have hb : (S[m + 1].1.1.data.toList == S[m].1.1.data.toList) = false := by rw [beq_eq_false_iff_ne]; exact hq
      rw [if_neg hq, hb, Bool.not_false, Bool.or_true]
      rfl
end Go.Proofs.YtcfhleenecfghaaDoor
