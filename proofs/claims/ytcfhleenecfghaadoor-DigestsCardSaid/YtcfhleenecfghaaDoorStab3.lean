/- A stable sort in place: what is turned about is the same elements; two parts become one; insertion keeps the order; nothing of the program is named here. -/
import Derived.Test.YtcfhleenecfghaaDoorStab2
namespace Go.Proofs.YtcfhleenecfghaaDoor
open Go.Sort

section
variable {α : Type} [Inhabited α]

theorem swr_perm (d : Array α) (a b lo hi : Nat) : ∀ n, lo ≤ a → a + n ≤ b → b + n ≤ hi → hi ≤ d.size → PermIn lo hi d (swr d a b n)
  | 0, _, _, _, _ => permIn_refl d lo hi
  | n + 1, h1, h2, h3, h4 => by
    have ih := swr_perm d a b lo hi n h1 (by omega) (by omega) h4
    exact permIn_trans d _ _ lo hi ih (swp_permIn (swr d a b n) lo hi (a + n) (b + n) (by omega) (by omega) (by omega) (by omega) (by rw [swr_size]; omega))
theorem rotA_permN : ∀ (f : Nat) (d : Array α) (m i j : Nat), i + j ≤ f → i ≤ m → m + j ≤ d.size → PermIn (m - i) (m + j) d (rotA d (m - i) m (m + j))
  | 0, d, m, i, j, hf, hi, hj => by
    rw [rotA_none d (m - i) m (m + j) hj (by omega) (by omega) (by omega)]
    exact permIn_refl _ _ _
  | f + 1, d, m, i, j, hf, hi, hj => by
    by_cases h0 : i = 0 ∨ j = 0
    · rw [rotA_none d (m - i) m (m + j) hj (by omega) (by omega) (by omega)]
      exact permIn_refl _ _ _
    · rcases Nat.lt_trichotomy i j with h | h | h
      · rw [← rotA_right d m i j hi hj h]
        have p1 := swr_perm d (m - i) (m + j - i) (m - i) (m + j) i (by omega) (by omega) (by omega) hj
        have p2 := rotA_permN f (swr d (m - i) (m + j - i) i) m i (j - i) (by omega) hi (by rw [swr_size]; omega)
        exact permIn_trans _ _ _ _ _ p1 (permIn_mono _ _ _ _ _ _ (by omega) (by omega) (by rw [swr_size]; omega) p2)
      · subst h
        rw [← rotA_same d m i hi hj]
        exact swr_perm d (m - i) m (m - i) (m + i) i (by omega) (by omega) (by omega) hj
      · rw [← rotA_left d m i j hi hj h]
        have p1 := swr_perm d (m - i) m (m - i) (m + j) j (by omega) (by omega) (by omega) hj
        have p2 := rotA_permN f (swr d (m - i) m j) m (i - j) j (by omega) (by omega) (by rw [swr_size]; omega)
        exact permIn_trans _ _ _ _ _ p1 (permIn_mono _ _ _ _ _ _ (by omega) (by omega) (by rw [swr_size]; omega) p2)
theorem rotA_perm (d : Array α) (a m b : Nat) (ham : a ≤ m) (hmb : m ≤ b) (hb : b ≤ d.size) : PermIn a b d (rotA d a m b) := by
  have h := rotA_permN (m - a + (b - m)) d m (m - a) (b - m) (Nat.le_refl _) (by omega) (by omega)
  rw [show m - (m - a) = a by omega, show m + (b - m) = b by omega] at h
  exact h
/-- One element goes up, place by place. -/
theorem rotA_up (d : Array α) (a k : Nat) (hk : a ≤ k) (hs : k + 2 ≤ d.size) : swp (rotA d a (a + 1) (k + 1)) k (k + 1) = rotA d a (a + 1) (k + 2) := by
  refine row_ext (by rw [swp_size, rotA_size, rotA_size]) fun x _ => ?_
  rw [swp_get _ _ _ _ (by rw [rotA_size]; omega) (by rw [rotA_size]; omega)]
  rw [rotA_get _ _ _ _ _ (by omega) (by omega) (by omega), rotA_get _ _ _ _ _ (by omega) (by omega) (by omega), rotA_get _ _ _ _ _ (by omega) (by omega) (by omega), rotA_get _ _ _ _ _ (by omega) (by omega) (by omega)]
  repeat' split
  all_goals first | rfl | (congr 1; omega) | omega
/-- One element goes down, place by place. -/
theorem rotA_down (d : Array α) (m k : Nat) (hk : k + 1 ≤ m) (hs : m + 1 ≤ d.size) : swp (rotA d (k + 1) m (m + 1)) (k + 1) k = rotA d k m (m + 1) := by
  refine row_ext (by rw [swp_size, rotA_size, rotA_size]) fun x _ => ?_
  rw [swp_get _ _ _ _ (by rw [rotA_size]; omega) (by rw [rotA_size]; omega)]
  rw [rotA_get _ _ _ _ _ (by omega) (by omega) (by omega), rotA_get _ _ _ _ _ (by omega) (by omega) (by omega), rotA_get _ _ _ _ _ (by omega) (by omega) (by omega), rotA_get _ _ _ _ _ (by omega) (by omega) (by omega)]
  repeat' split
  all_goals first | rfl | (congr 1; omega) | omega
end

section
variable {β : Type} [Inhabited β] {lt : β → β → Bool}

theorem parts_same {d d' : Array (β × Nat)} {a m b : Nat} (h : Parts lt d a m b) (he : ∀ k, a ≤ k → k < b → d'[k]! = d[k]!) (ham : a ≤ m) (hmb : m ≤ b) : Parts lt d' a m b := by
  refine ⟨fun i j hi hij hj => ?_, fun i j hi hij hj => ?_, fun i j hi1 hi2 hj1 hj2 => ?_⟩
  · rw [he i hi (by omega), he j (by omega) (by omega)]; exact h.left i j hi hij hj
  · rw [he i (by omega) (by omega), he j (by omega) hj]; exact h.right i j hi hij hj
  · rw [he i hi1 (by omega), he j (by omega) hj2]; exact h.low i j hi1 hi2 hj1 hj2
/-- Two parts that lie as they should already. -/
theorem parts_join (hO : SWO lt) {d : Array (β × Nat)} {a m b : Nat} (h : Parts lt d a m b) (hc : a < m → m < b → lt (d[m]!).1 (d[m - 1]!).1 = false) : SortedIn (tlt lt) a b d := by
  intro i j hi hij hj
  by_cases h1 : j < m
  · exact h.left i j hi hij h1
  · by_cases h2 : m ≤ i
    · exact h.right i j h2 hij hj
    · rw [tlt_low (h.low i j hi (by omega) (by omega) hj)]
      exact chain hO (sorted_le hO h.right (Nat.le_refl m) (by omega) hj) (hc (by omega) (by omega)) (sorted_le hO h.left hi (by omega : i ≤ m - 1) (by omega))
/-- What is sorted ahead of a cut and behind it, with nothing across, is sorted. -/
theorem glue {d0 d1 d2 d3 : Array (β × Nat)} {a mid b : Nat} (ham : a ≤ mid) (hmb : mid ≤ b) (hb : b ≤ d0.size) (p1 : PermIn a b d0 d1) (hx : ∀ i j, a ≤ i → i < mid → mid ≤ j → j < b → tlt lt (d1[j]!) (d1[i]!) = false)
    (p2 : PermIn a mid d1 d2) (q2 : SortedIn (tlt lt) a mid d2) (p3 : PermIn mid b d2 d3) (q3 : SortedIn (tlt lt) mid b d3) : PermIn a b d0 d3 ∧ SortedIn (tlt lt) a b d3 := by
  have s1 : d1.size = d0.size := p1.1
  have s2 : d2.size = d1.size := p2.1
  refine ⟨permIn_trans _ _ _ _ _ p1 (permIn_trans _ _ _ _ _ (permIn_mono _ _ _ _ _ _ (Nat.le_refl _) hmb (by omega) p2) (permIn_mono _ _ _ _ _ _ ham (Nat.le_refl _) (by omega) p3)), ?_⟩
  have x2 : ∀ i j, a ≤ i → i < mid → mid ≤ j → j < b → tlt lt (d2[j]!) (d2[i]!) = false := by
    intro i j hi1 hi2 hj1 hj2
    rw [p2.2.1 j (Or.inr hj1)]
    exact permIn_all d1 d2 a mid (fun x => tlt lt (d1[j]!) x = false) (by omega) p2 (fun k hk1 hk2 => hx k j hk1 hk2 hj1 hj2) i hi1 hi2
  have x3 : ∀ i j, a ≤ i → i < mid → mid ≤ j → j < b → tlt lt (d3[j]!) (d3[i]!) = false := by
    intro i j hi1 hi2 hj1 hj2
    rw [p3.2.1 i (Or.inl hi2)]
    exact permIn_all d2 d3 mid b (fun x => tlt lt x (d2[i]!) = false) (by omega) p3 (fun k hk1 hk2 => x2 i k hi1 hi2 hk1 hk2) j hj1 hj2
  intro i j hi hij hj
  by_cases h1 : j < mid
  · rw [p3.2.1 i (Or.inl (by omega)), p3.2.1 j (Or.inl h1)]; exact q2 i j hi hij h1
  · by_cases h2 : mid ≤ i
    · exact q3 i j h2 hij hj
    · exact x3 i j hi (by omega) (by omega) hj
/-- One element against a sorted part behind it. -/
theorem merge_one_left (hO : SWO lt) {d : Array (β × Nat)} {a b i : Nat} (hp : Parts lt d a (a + 1) b) (hb : b ≤ d.size) (hi1 : a + 1 ≤ i) (hi2 : i ≤ b) (h1 : a + 1 < i → lt (d[i - 1]!).1 (d[a]!).1 = true) (h2 : i < b → lt (d[i]!).1 (d[a]!).1 = false) :
    PermIn a b d (rotA d a (a + 1) i) ∧ SortedIn (tlt lt) a b (rotA d a (a + 1) i) := by
  have hmid : a + i = (i - 1) + (a + 1) := by omega
  have pa := parts_ahead (s := a) (e := i) hp (Nat.le_refl _) (by omega) hi1 hi2 hb hmid
  have pb := parts_behind (s := a) (e := i) hp (Nat.le_refl _) (by omega) hi1 hi2 hb hmid
  have cr := cross hO (s := a) (e := i) hp (Nat.le_refl _) (by omega) hi1 hi2 hb hmid (fun _ h => h1 h) (fun h _ => absurd h (by omega))
  refine glue (mid := i - 1) (by omega) (by omega) hb (permIn_mono _ _ _ _ _ _ (Nat.le_refl _) hi2 hb (rotA_perm d a (a + 1) i (by omega) hi1 (by omega))) cr (permIn_refl _ _ _) pa.right (permIn_refl _ _ _) (parts_join hO pb fun _ h => ?_)
  rw [rotA_get _ _ _ _ _ (by omega) (by omega) hi1, rotA_get _ _ _ _ _ (by omega) (by omega) hi1, if_neg (by omega), if_neg (by omega), if_neg (by omega), if_pos (by omega)]
  rw [show i - 1 - (i - (a + 1)) = a by omega]
  exact h2 h
/-- A sorted part against one element behind it. -/
theorem merge_one_right (hO : SWO lt) {d : Array (β × Nat)} {a m i : Nat} (hp : Parts lt d a m (m + 1)) (hb : m + 1 ≤ d.size) (hi1 : a ≤ i) (hi2 : i ≤ m) (h1 : i < m → lt (d[m]!).1 (d[i]!).1 = true) (h2 : a < i → lt (d[m]!).1 (d[i - 1]!).1 = false) :
    PermIn a (m + 1) d (rotA d i m (m + 1)) ∧ SortedIn (tlt lt) a (m + 1) (rotA d i m (m + 1)) := by
  have hmid : i + (m + 1) = (i + 1) + m := by omega
  have pa := parts_ahead (s := i) (e := m + 1) hp hi1 hi2 (by omega) (Nat.le_refl _) hb hmid
  have pb := parts_behind (s := i) (e := m + 1) hp hi1 hi2 (by omega) (Nat.le_refl _) hb hmid
  have cr := cross hO (s := i) (e := m + 1) hp hi1 hi2 (by omega) (Nat.le_refl _) hb hmid (fun h _ => h1 h) (fun _ h => absurd h (by omega))
  refine glue (mid := i + 1) (by omega) (by omega) hb (permIn_mono _ _ _ _ _ _ hi1 (Nat.le_refl _) hb (rotA_perm d i m (m + 1) hi2 (by omega) hb)) cr (permIn_refl _ _ _) (parts_join hO pa fun h _ => ?_) (permIn_refl _ _ _) pb.left
  rw [rotA_get _ _ _ _ _ hb hi2 (by omega), rotA_get _ _ _ _ _ hb hi2 (by omega), if_pos (by omega), if_neg (by omega), if_neg (by omega)]
  rw [show i + (m - i) = m by omega]
  exact h2 h

theorem insInner_perm (ltx : β → β → Bool) (a b : Nat) : ∀ (j : Nat) (d : Array β), j < b → b ≤ d.size → PermIn a b d (insInner ltx a j d)
  | 0, d, _, _ => permIn_refl d a b
  | j + 1, d, hj, hb => by
    rw [insInner]
    split
    · next h =>
      rw [Bool.and_eq_true, decide_eq_true_eq] at h
      exact permIn_trans _ _ _ _ _ (swp_permIn d a b (j + 1) j (by omega) (by omega) (by omega) (by omega) hb) (insInner_perm ltx a b j (swp d (j + 1) j) (by omega) (by rw [swp_size]; exact hb))
    · exact permIn_refl d a b
theorem ins_in (ltx : β → β → Bool) (a j : Nat) (d : Array β) : insInner ltx a (j + 1) d = if j + 1 > a && ltx d[j + 1]! d[j]! then insInner ltx a j (swp d (j + 1) j) else d := rfl
theorem ins_go (ltx : β → β → Bool) (a b i : Nat) (d : Array β) (h : i < b) : insOuter ltx a b i d = insOuter ltx a b (i + 1) (insInner ltx a i d) := by rw [insOuter, if_pos h]
theorem ins_stop (ltx : β → β → Bool) (a b i : Nat) (d : Array β) (h : ¬ i < b) : insOuter ltx a b i d = d := by rw [insOuter, if_neg h]
/-- Less by the element alone. -/
def flt (lt : β → β → Bool) (x y : β × Nat) : Bool := lt x.1 y.1
/-- Insertion takes the later one for the greater of two equals: so it is insertion by the order with numbers. -/
theorem insInner_same (a : Nat) : ∀ (j : Nat) (d : Array (β × Nat)), j < d.size → (∀ i, a ≤ i → i < j → (d[i]!).2 < (d[j]!).2) → insInner (flt lt) a j d = insInner (tlt lt) a j d
  | 0, d, _, _ => rfl
  | j + 1, d, hs, h => by
    rw [ins_in, ins_in]
    by_cases ha : a < j + 1
    · rw [tlt_low (h j (by omega) (by omega)), flt]
      by_cases hl : lt (d[j + 1]!).1 (d[j]!).1 = true
      · rw [hl]
        have hs' := swp_size d (j + 1) j
        have ih := insInner_same a j (swp d (j + 1) j) (by omega) (fun i hi1 hi2 => by
          rw [swp_get _ _ _ _ hs (by omega), swp_get _ _ _ _ hs (by omega), if_neg (by omega), if_neg (by omega), if_neg (by omega), if_pos rfl]
          exact h i hi1 (by omega))
        rw [ih]
      · rw [Bool.not_eq_true] at hl
        rw [hl, Bool.and_false]; rfl
    · have e : decide (j + 1 > a) = false := decide_eq_false (by omega)
      rw [e]; rfl
theorem insOuter_same (a b : Nat) : ∀ (f i : Nat) (d : Array (β × Nat)), b - i ≤ f → a < i → b ≤ d.size → (∀ k, a ≤ k → k < i → (d[k]!).2 < i) → (∀ k, i ≤ k → k < b → (d[k]!).2 = k) → insOuter (flt lt) a b i d = insOuter (tlt lt) a b i d
  | 0, i, d, hf, _, _, _, _ => by rw [ins_stop _ _ _ _ _ (by omega), ins_stop _ _ _ _ _ (by omega)]
  | f + 1, i, d, hf, hai, hb, h1, h2 => by
    by_cases hi : i < b
    · rw [ins_go _ _ _ _ _ hi, ins_go _ _ _ _ _ hi]
      have e := insInner_same (lt := lt) a i d (by omega) (fun k hk1 hk2 => by rw [h2 i (Nat.le_refl _) hi]; exact h1 k hk1 hk2)
      rw [e]
      have hp : PermIn a (i + 1) d (insInner (tlt lt) a i d) := insInner_perm (tlt lt) a (i + 1) i d (by omega) (by omega)
      refine insOuter_same a b f (i + 1) _ (by omega) (by omega) (by rw [hp.1]; exact hb) (fun k hk1 hk2 => ?_) (fun k hk1 hk2 => ?_)
      · exact permIn_all d _ a (i + 1) (fun x => x.2 < i + 1) (by omega) hp (fun x hx1 hx2 => by
          by_cases hxi : x = i
          · subst hxi; rw [h2 x (Nat.le_refl _) hi]; omega
          · have := h1 x hx1 (by omega); omega) k hk1 hk2
      · rw [hp.2.1 k (Or.inr hk1)]; exact h2 k (by omega) hk2
    · rw [ins_stop _ _ _ _ _ hi, ins_stop _ _ _ _ _ hi]
end
end Go.Proofs.YtcfhleenecfghaaDoor
