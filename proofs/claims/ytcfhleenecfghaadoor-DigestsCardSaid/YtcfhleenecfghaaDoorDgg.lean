/- A list of files is sorted stably. -/
import Derived.Test.YtcfhleenecfghaaDoorDgf
import Derived.Deep.Cut
import Derived.Deep.LoopGhost
namespace Go.Proofs.YtcfhleenecfghaaDoor
open Go.Shelf Go.RowKit Go.Lib Go.Sort
variable {P : Program} {k : Nat} {β : Type} [Inhabited β]

/-- Ahead of a all blocks of s are good; from a on each element is where it was. -/
structure Fresh (lt : β → β → Bool) (n s a : Nat) (d : Array (β × Nat)) : Prop where
  dvd : s ∣ a
  good : ∀ x, s ∣ x → x < a → x < n → Good lt n s d x
  tags : ∀ p, a ≤ p → p < n → (d[p]!).2 = p
theorem fresh_step {lt : β → β → Bool} (hO : SWO lt) {n s a b : Nat} {d : Array (β × Nat)} (h : Fresh lt n s a d) (hn : n = d.size) (_hs : 0 < s) (hb : b = min (a + s) n) (hab : a ≤ b) :
    PermIn a b d (Sort.insertionSort (flt lt) d a b) ∧ (∀ x, s ∣ x → x < a + s → x < n → Good lt n s (Sort.insertionSort (flt lt) d a b) x) ∧ ∀ p, b ≤ p → p < n → ((Sort.insertionSort (flt lt) d a b)[p]!).2 = p := by
  have e : Sort.insertionSort (flt lt) d a b = Sort.insertionSort (tlt lt) d a b := by
    unfold Sort.insertionSort
    by_cases hlt : ¬ a < b
    · rw [ins_stop _ _ _ _ _ (by omega), ins_stop _ _ _ _ _ (by omega)]
    refine insOuter_same a b (b - (a + 1)) (a + 1) d (Nat.le_refl _) (by omega) (by omega) (fun p h1 h2 => ?_) (fun p h1 h2 => ?_)
    · rw [h.tags p h1 (by omega)]; exact h2
    · exact h.tags p (by omega) (by omega)
  rw [e]
  obtain ⟨p1, p2⟩ := insertionSort_holds (tlt_swo hO) d a b hab (by omega)
  refine ⟨p1, fun x h1 h2 h3 => ?_, fun p h1 h2 => ?_⟩
  · by_cases hx : x < a
    · have := step_le h1 h.dvd hx
      exact (h.good x h1 hx h3).same fun p hp1 hp2 => p1.2.1 p (Or.inl (by omega))
    · have hxa : x = a := by
        by_cases hxa : x = a
        · exact hxa
        · have := step_le h.dvd h1 (by omega); omega
      subst hxa
      unfold Good
      rw [← hb]
      refine ⟨p2, fun p hp1 hp2 => ?_⟩
      exact permIn_all d _ x b (fun y => x ≤ y.2 ∧ y.2 < x + s) (by omega) p1 (fun i hi1 hi2 => by rw [h.tags i hi1 (by omega)]; omega) p hp1 hp2
  · rw [p1.2.1 p (Or.inr h1)]; exact h.tags p (by omega) h2

/-- Ahead of a all blocks of twice s are good, from a on those of s. -/
structure Midway (lt : β → β → Bool) (n s a : Nat) (d : Array (β × Nat)) : Prop where
  dvd : 2 * s ∣ a
  big : ∀ x, 2 * s ∣ x → x < a → x < n → Good lt n (2 * s) d x
  small : ∀ x, s ∣ x → a ≤ x → x < n → Good lt n s d x
theorem midway_parts {lt : β → β → Bool} {n s a b : Nat} {d : Array (β × Nat)} (h : Midway lt n s a d) (hm : a + s < n) (hb : b = min (a + 2 * s) n) : Parts lt d a (a + s) b := by
  have d1 : s ∣ a := Nat.dvd_trans ⟨2, by omega⟩ h.dvd
  exact good_parts (h.small a d1 (Nat.le_refl _) (by omega)) (h.small (a + s) ((Nat.dvd_add_right d1).2 (Nat.dvd_refl _)) (by omega) hm) hm hb
theorem midway_step {lt : β → β → Bool} {n s a b : Nat} {d d' : Array (β × Nat)} (h : Midway lt n s a d) (hn : n = d.size) (hs : 0 < s) (hm : a + s < n) (hb : b = min (a + 2 * s) n) (hp : PermIn a b d d') (hq : SortedIn (tlt lt) a b d') :
    (∀ x, 2 * s ∣ x → x < a + 2 * s → x < n → Good lt n (2 * s) d' x) ∧ Midway lt n s (a + 2 * s) d' := by
  have d1 : s ∣ a := Nat.dvd_trans ⟨2, by omega⟩ h.dvd
  have key : ∀ x, 2 * s ∣ x → x < a + 2 * s → x < n → Good lt n (2 * s) d' x := by
    intro x h1 h2 h3
    by_cases hx : x < a
    · have := step_le h1 h.dvd hx
      exact (h.big x h1 hx h3).same fun p hp1 hp2 => hp.2.1 p (Or.inl (by omega))
    · have hxa : x = a := by
        by_cases hxa : x = a
        · exact hxa
        · have := step_le h.dvd h1 (by omega); omega
      subst hxa
      exact good_merge (h.small x d1 (Nat.le_refl _) h3) (h.small (x + s) ((Nat.dvd_add_right d1).2 (Nat.dvd_refl _)) (by omega) hm) (by omega) hm hb hp hq
  refine ⟨key, (Nat.dvd_add_right h.dvd).2 (Nat.dvd_refl _), key, fun x h1 h2 h3 => ?_⟩
  exact (h.small x h1 (by omega) h3).same fun p hp1 hp2 => hp.2.1 p (Or.inr (by omega))
theorem midway_last {lt : β → β → Bool} {n s a : Nat} {d : Array (β × Nat)} (h : Midway lt n s a d) (hm : n ≤ a + s) : ∀ x, 2 * s ∣ x → x < n → Good lt n (2 * s) d x := by
  intro x h1 h3
  by_cases hx : x < a
  · exact h.big x h1 hx h3
  · have hxa : x = a := by
      by_cases hxa : x = a
      · exact hxa
      · have := step_le h.dvd h1 (by omega); omega
    subst hxa
    exact good_last (h.small x (Nat.dvd_trans ⟨2, by omega⟩ h.dvd) (Nat.le_refl _) h3) hm
end Go.Proofs.YtcfhleenecfghaaDoor
