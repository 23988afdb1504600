/- A stable sort in place: two sorted parts become one; nothing of the program is named here. -/
import Derived.Test.YtcfhleenecfghaaDoorStab
namespace Go.Proofs.YtcfhleenecfghaaDoor
open Go.Sort

section
variable {β : Type}

/-- Less, or else not greater and of a lower number. -/
def tlt (lt : β → β → Bool) (x y : β × Nat) : Bool := lt x.1 y.1 || (!lt y.1 x.1 && decide (x.2 < y.2))
theorem tlt_low {lt : β → β → Bool} {x y : β × Nat} (h : x.2 < y.2) : tlt lt y x = lt y.1 x.1 := by
  unfold tlt
  rw [decide_eq_false (by omega), Bool.and_false, Bool.or_false]
theorem tlt_lt {lt : β → β → Bool} {x y : β × Nat} (h : tlt lt x y = false) : lt x.1 y.1 = false := by
  unfold tlt at h
  rw [Bool.or_eq_false_iff] at h; exact h.1
theorem asym {lt : β → β → Bool} (hO : SWO lt) {x y : β} (h : lt x y = true) : lt y x = false := by
  cases h2 : lt y x
  · rfl
  · have := hO.trans x y x h h2
    rw [hO.irrefl] at this; cases this
theorem tlt_rev {lt : β → β → Bool} (hO : SWO lt) {x y : β × Nat} (h : lt x.1 y.1 = true) : tlt lt y x = false := by
  unfold tlt
  rw [asym hO h, h]; rfl
theorem tlt_swo {lt : β → β → Bool} (hO : SWO lt) : SWO (tlt lt) where
  irrefl x := by
    unfold tlt
    rw [hO.irrefl, decide_eq_false (by omega)]; rfl
  trans x y z h1 h2 := by
    unfold tlt at *
    rw [Bool.or_eq_true, Bool.and_eq_true, Bool.not_eq_true', decide_eq_true_eq] at *
    rcases h1 with h1 | ⟨h1, h1'⟩
    · rcases h2 with h2 | ⟨h2, _⟩
      · exact Or.inl (hO.trans _ _ _ h1 h2)
      · left
        cases h3 : lt x.1 z.1
        · have := hO.ntrans _ _ _ h3 h2
          rw [h1] at this; cases this
        · rfl
    · rcases h2 with h2 | ⟨h2, h2'⟩
      · left
        cases h3 : lt x.1 z.1
        · have := hO.ntrans _ _ _ h1 h3
          rw [h2] at this; cases this
        · rfl
      · exact Or.inr ⟨hO.ntrans _ _ _ h2 h1, by omega⟩
  ntrans x y z h1 h2 := by
    unfold tlt at *
    rw [Bool.or_eq_false_iff, Bool.and_eq_false_iff, Bool.not_eq_false', decide_eq_false_iff_not] at *
    refine ⟨hO.ntrans _ _ _ h1.1 h2.1, ?_⟩
    rcases h1.2 with g1 | g1
    · left
      cases h3 : lt z.1 x.1
      · have := hO.ntrans _ _ _ h2.1 h3
        rw [g1] at this; cases this
      · rfl
    · rcases h2.2 with g2 | g2
      · left
        cases h3 : lt z.1 x.1
        · have := hO.ntrans _ _ _ h3 h1.1
          rw [g2] at this; cases this
        · rfl
      · right; omega

theorem chain {lt : β → β → Bool} (hO : SWO lt) {w x y z : β} (h1 : lt w x = false) (h2 : lt x y = false) (h3 : lt y z = false) : lt w z = false := hO.ntrans _ _ _ (hO.ntrans _ _ _ h1 h2) h3
end

section
variable {β : Type} [Inhabited β]
/-- What a merge asks of two parts: each sorted, the first one's numbers the lower ones. -/
structure Parts (lt : β → β → Bool) (d : Array (β × Nat)) (a m b : Nat) : Prop where
  left : SortedIn (tlt lt) a m d
  right : SortedIn (tlt lt) m b d
  low : ∀ i j, a ≤ i → i < m → m ≤ j → j < b → (d[i]!).2 < (d[j]!).2

theorem sorted_le {lt : β → β → Bool} (hO : SWO lt) {d : Array (β × Nat)} {a b i j : Nat} (h : SortedIn (tlt lt) a b d) (hi : a ≤ i) (hij : i ≤ j) (hj : j < b) : lt (d[j]!).1 (d[i]!).1 = false := by
  by_cases e : i = j
  · subst e; exact hO.irrefl _
  · exact tlt_lt (h i j hi (by omega) hj)

variable {lt : β → β → Bool}

/-- Across the cut: nothing behind it goes ahead of what is ahead of it. -/
theorem cross (hO : SWO lt) {d : Array (β × Nat)} {a s m e b mid : Nat} (hp : Parts lt d a m b) (hs1 : a ≤ s) (hs2 : s ≤ m) (he1 : m ≤ e) (he2 : e ≤ b) (hb : b ≤ d.size) (hmid : s + e = mid + m)
    (h1 : s < m → m < e → lt (d[e - 1]!).1 (d[s]!).1 = true) (h2 : a < s → e < b → lt (d[e]!).1 (d[s - 1]!).1 = false) :
    ∀ i j, a ≤ i → i < mid → mid ≤ j → j < b → tlt lt ((rotA d s m e)[j]!) ((rotA d s m e)[i]!) = false := by
  intro i j hi1 hi2 hj1 hj2
  rw [rotA_get d s m e j (by omega) hs2 he1, rotA_get d s m e i (by omega) hs2 he1]
  have hms : s + (e - m) = mid := by omega
  rw [hms]
  by_cases ci : i < s
  · rw [if_neg (by omega : ¬ (s ≤ i ∧ i < mid)), if_neg (by omega : ¬ (mid ≤ i ∧ i < e)), if_neg (by omega : ¬ (s ≤ j ∧ j < mid))]
    by_cases cj : j < e
    · rw [if_pos ⟨hj1, cj⟩]
      exact hp.left i (j - (e - m)) hi1 (by omega) (by omega)
    · rw [if_neg (by omega)]
      rw [tlt_low (hp.low i j hi1 (by omega) (by omega) hj2)]
      exact chain hO (sorted_le hO hp.right (by omega : m ≤ e) (by omega) hj2) (h2 (by omega) (by omega)) (sorted_le hO hp.left hi1 (by omega : i ≤ s - 1) (by omega))
  · rw [if_pos (⟨by omega, hi2⟩ : s ≤ i ∧ i < mid), if_neg (by omega : ¬ (s ≤ j ∧ j < mid))]
    by_cases cj : j < e
    · rw [if_pos ⟨hj1, cj⟩]
      refine tlt_rev hO ?_
      cases h3 : lt (d[i + (m - s)]!).1 (d[j - (e - m)]!).1
      · have g1 := sorted_le hO hp.right (by omega : m ≤ i + (m - s)) (by omega : i + (m - s) ≤ e - 1) (by omega)
        have g2 := sorted_le hO hp.left (by omega : a ≤ s) (by omega : s ≤ j - (e - m)) (by omega)
        have := chain hO g1 h3 g2
        rw [h1 (by omega) (by omega)] at this; cases this
      · rfl
    · rw [if_neg (by omega)]
      exact hp.right (i + (m - s)) j (by omega) (by omega) hj2

/-- The two parts ahead of the cut. -/
theorem parts_ahead {d : Array (β × Nat)} {a s m e b mid : Nat} (hp : Parts lt d a m b) (_hs1 : a ≤ s) (hs2 : s ≤ m) (he1 : m ≤ e) (he2 : e ≤ b) (hb : b ≤ d.size) (hmid : s + e = mid + m) : Parts lt (rotA d s m e) a s mid := by
  have hms : s + (e - m) = mid := by omega
  have g := fun k => rotA_get d s m e k (by omega) hs2 he1
  rw [hms] at g
  refine ⟨fun i j hi hij hj => ?_, fun i j hi hij hj => ?_, fun i j hi1 hi2 hj1 hj2 => ?_⟩
  · rw [g, g, if_neg (by omega : ¬ (s ≤ j ∧ j < mid)), if_neg (by omega : ¬ (mid ≤ j ∧ j < e)), if_neg (by omega : ¬ (s ≤ i ∧ i < mid)), if_neg (by omega : ¬ (mid ≤ i ∧ i < e))]
    exact hp.left i j hi hij (by omega)
  · rw [g, g, if_pos (⟨by omega, hj⟩ : s ≤ j ∧ j < mid), if_pos (⟨hi, by omega⟩ : s ≤ i ∧ i < mid)]
    exact hp.right _ _ (by omega) (by omega) (by omega)
  · rw [g, g, if_pos (⟨hj1, hj2⟩ : s ≤ j ∧ j < mid), if_neg (by omega : ¬ (s ≤ i ∧ i < mid)), if_neg (by omega : ¬ (mid ≤ i ∧ i < e))]
    exact hp.low _ _ hi1 (by omega) (by omega) (by omega)
/-- The two parts behind the cut. -/
theorem parts_behind {d : Array (β × Nat)} {a s m e b mid : Nat} (hp : Parts lt d a m b) (hs1 : a ≤ s) (hs2 : s ≤ m) (he1 : m ≤ e) (he2 : e ≤ b) (hb : b ≤ d.size) (hmid : s + e = mid + m) : Parts lt (rotA d s m e) mid e b := by
  have hms : s + (e - m) = mid := by omega
  have g := fun k => rotA_get d s m e k (by omega) hs2 he1
  rw [hms] at g
  refine ⟨fun i j hi hij hj => ?_, fun i j hi hij hj => ?_, fun i j hi1 hi2 hj1 hj2 => ?_⟩
  · rw [g, g, if_neg (by omega : ¬ (s ≤ j ∧ j < mid)), if_pos (⟨by omega, hj⟩ : mid ≤ j ∧ j < e), if_neg (by omega : ¬ (s ≤ i ∧ i < mid)), if_pos (⟨hi, by omega⟩ : mid ≤ i ∧ i < e)]
    exact hp.left _ _ (by omega) (by omega) (by omega)
  · rw [g, g, if_neg (by omega : ¬ (s ≤ j ∧ j < mid)), if_neg (by omega : ¬ (mid ≤ j ∧ j < e)), if_neg (by omega : ¬ (s ≤ i ∧ i < mid)), if_neg (by omega : ¬ (mid ≤ i ∧ i < e))]
    exact hp.right i j (by omega) hij hj
  · rw [g, g, if_neg (by omega : ¬ (s ≤ j ∧ j < mid)), if_neg (by omega : ¬ (mid ≤ j ∧ j < e)), if_neg (by omega : ¬ (s ≤ i ∧ i < mid)), if_pos (⟨hi1, hi2⟩ : mid ≤ i ∧ i < e)]
    exact hp.low _ _ (by omega) (by omega) (by omega) hj2

end
end Go.Proofs.YtcfhleenecfghaaDoor
