/- A stably sorted list without the later ones of a name is what the reference builds; nothing of the program is named here. -/
import Derived.Test.YtcfhleenecfghaaDoorDgl
namespace Go.Proofs.YtcfhleenecfghaaDoor
open Go.Sort

/-- Behind a file, those whose name is not that of the one ahead. -/
def V.compFrom (p : Fil) : List Fil → List Fil
  | [] => []
  | b :: r => if b.1.data.toList = p.1.data.toList then V.compFrom b r else b :: V.compFrom b r
def V.comp : List Fil → List Fil
  | [] => []
  | a :: r => a :: V.compFrom a r
/-- In order: by name, and of one name by number. -/
def V.InTags (S : List (Fil × Nat)) : Prop := S.Pairwise fun x y => tlt (ltOf cfF) y x = false

theorem cfF_name {x y z : Fil} (h : x.1.data.toList = y.1.data.toList) : cfF x z = cfF y z := by unfold cfF; rw [h]
theorem tags_name {x y : Fil × Nat} (h : tlt (ltOf cfF) y x = false) : ¬ cfF y.1 x.1 < 0 := by
  have := tlt_lt h
  unfold ltOf at this
  exact of_decide_eq_false this
theorem tags_num {x y : Fil × Nat} (h : tlt (ltOf cfF) y x = false) (hn : y.1.1.data.toList = x.1.1.data.toList) : x.2 ≤ y.2 := by
  unfold tlt at h
  rw [Bool.or_eq_false_iff, Bool.and_eq_false_iff] at h
  have e : ltOf cfF x.1 y.1 = false := by
    unfold ltOf cfF
    rw [hn, cb_refl]; rfl
  rcases h.2 with h2 | h2
  · rw [e] at h2; cases h2
  · have := of_decide_eq_false h2
    omega
theorem V.comp_from : ∀ (r : List (Fil × Nat)) (p : Fil × Nat), V.InTags (p :: r) → (∀ x ∈ r, ∀ y ∈ r, x.2 = y.2 → x = y) →
    V.Strict (V.compFrom p.1 (r.map (·.1))) ∧ (∀ y ∈ V.compFrom p.1 (r.map (·.1)), cfF p.1 y < 0) ∧ ∀ f, f ∈ V.compFrom p.1 (r.map (·.1)) ↔ ∃ t, (f, t) ∈ r ∧ ¬ f.1.data.toList = p.1.1.data.toList ∧ ∀ x ∈ r, x.1.1.data.toList = f.1.data.toList → t ≤ x.2
  | [], p, _, _ => by
    refine ⟨List.Pairwise.nil, fun y hy => absurd hy List.not_mem_nil, fun f => ?_⟩
    simp [V.compFrom]
  | b :: r, p, hs, hi => by
    obtain ⟨hp, hs'⟩ := List.pairwise_cons.1 hs
    obtain ⟨hb, _⟩ := List.pairwise_cons.1 hs'
    obtain ⟨i1, i2, i3⟩ := V.comp_from r b hs' (fun x hx y hy => hi x (List.mem_cons_of_mem _ hx) y (List.mem_cons_of_mem _ hy))
    rw [List.map_cons, V.compFrom]
    by_cases hn : b.1.1.data.toList = p.1.1.data.toList
    · rw [if_pos hn]
      refine ⟨i1, fun y hy => by rw [← cfF_name hn]; exact i2 y hy, fun f => ?_⟩
      rw [i3]
      constructor
      · rintro ⟨t, h1, h2, h3⟩
        refine ⟨t, List.mem_cons_of_mem _ h1, by rw [← hn]; exact h2, fun x hx hxn => ?_⟩
        rcases List.mem_cons.1 hx with rfl | hx
        · exact absurd hxn.symm h2
        · exact h3 x hx hxn
      · rintro ⟨t, h1, h2, h3⟩
        rw [← hn] at h2
        rcases List.mem_cons.1 h1 with e | h1
        · rw [← e] at h2; exact absurd rfl h2
        · exact ⟨t, h1, h2, fun x hx => h3 x (List.mem_cons_of_mem _ hx)⟩
    · rw [if_neg hn]
      have hpb : cfF p.1 b.1 < 0 := by
        by_cases h : cfF p.1 b.1 < 0
        · exact h
        · exact absurd (cb_zero _ _ (tags_name (hp b (List.mem_cons_self ..))) h) hn
      refine ⟨List.pairwise_cons.2 ⟨i2, i1⟩, fun y hy => ?_, fun f => ?_⟩
      · rcases List.mem_cons.1 hy with rfl | hy
        · exact hpb
        · exact cb_trans _ _ _ hpb (i2 y hy)
      · rw [List.mem_cons]
        constructor
        · rintro (rfl | hf)
          · refine ⟨b.2, List.mem_cons_self .., hn, fun x hx hxn => ?_⟩
            rcases List.mem_cons.1 hx with rfl | hx
            · exact Nat.le_refl _
            · exact tags_num (hb x hx) hxn
          · obtain ⟨t, h1, h2, h3⟩ := (i3 f).1 hf
            refine ⟨t, List.mem_cons_of_mem _ h1, fun e => ?_, fun x hx hxn => ?_⟩
            · have := cb_trans _ _ _ hpb (i2 f hf)
              rw [e, cb_refl] at this
              omega
            · rcases List.mem_cons.1 hx with rfl | hx
              · exact absurd hxn.symm h2
              · exact h3 x hx hxn
        · rintro ⟨t, h1, h2, h3⟩
          rcases List.mem_cons.1 h1 with e | h1'
          · left; rw [← e]
          · by_cases hfb : f.1.data.toList = b.1.1.data.toList
            · left
              have x1 := h3 b (List.mem_cons_self ..) hfb.symm
              have x2 := tags_num (hb _ h1') hfb
              have := hi (f, t) h1 b (List.mem_cons_self ..) (Nat.le_antisymm x1 x2)
              rw [← this]
            · right
              exact (i3 f).2 ⟨t, h1', hfb, fun x hx => h3 x (List.mem_cons_of_mem _ hx)⟩
theorem V.comp_is (S : List (Fil × Nat)) (hs : V.InTags S) (hi : ∀ x ∈ S, ∀ y ∈ S, x.2 = y.2 → x = y) :
    V.Strict (V.comp (S.map (·.1))) ∧ ∀ f, f ∈ V.comp (S.map (·.1)) ↔ ∃ t, (f, t) ∈ S ∧ ∀ x ∈ S, x.1.1.data.toList = f.1.data.toList → t ≤ x.2 := by
  cases S with
  | nil => exact ⟨List.Pairwise.nil, fun f => by simp [V.comp]⟩
  | cons p r =>
    obtain ⟨hp, _⟩ := List.pairwise_cons.1 hs
    obtain ⟨i1, i2, i3⟩ := V.comp_from r p hs (fun x hx y hy => hi x (List.mem_cons_of_mem _ hx) y (List.mem_cons_of_mem _ hy))
    rw [List.map_cons, V.comp]
    refine ⟨List.pairwise_cons.2 ⟨i2, i1⟩, fun f => ?_⟩
    rw [List.mem_cons]
    constructor
    · rintro (rfl | hf)
      · refine ⟨p.2, List.mem_cons_self .., fun x hx hxn => ?_⟩
        rcases List.mem_cons.1 hx with rfl | hx
        · exact Nat.le_refl _
        · exact tags_num (hp x hx) hxn
      · obtain ⟨t, h1, h2, h3⟩ := (i3 f).1 hf
        refine ⟨t, List.mem_cons_of_mem _ h1, fun x hx hxn => ?_⟩
        rcases List.mem_cons.1 hx with rfl | hx
        · exact absurd hxn.symm h2
        · exact h3 x hx hxn
    · rintro ⟨t, h1, h3⟩
      rcases List.mem_cons.1 h1 with e | h1'
      · left; rw [← e]
      · by_cases hfb : f.1.data.toList = p.1.1.data.toList
        · left
          have x1 := h3 p (List.mem_cons_self ..) hfb.symm
          have x2 := tags_num (hp _ h1') hfb
          have := hi (f, t) h1 p (List.mem_cons_self ..) (Nat.le_antisymm x1 x2)
          rw [← this]
        · right
          exact (i3 f).2 ⟨t, h1', hfb, fun x hx => h3 x (List.mem_cons_of_mem _ hx)⟩
theorem V.first_at (L : List Fil) (f : Fil) : V.FirstOf L f ↔ ∃ t : Nat, L[t]? = some f ∧ ∀ (u : Nat) (g : Fil), L[u]? = some g → g.1.data.toList = f.1.data.toList → t ≤ u := by
  unfold V.FirstOf
  rw [List.find?_eq_some_iff_getElem]
  constructor
  · rintro ⟨_, i, hi, h1, h2⟩
    refine ⟨i, by rw [List.getElem?_eq_getElem hi, h1], fun u g hu hg => ?_⟩
    by_cases h : i ≤ u
    · exact h
    · have h3 := h2 u (by omega)
      obtain ⟨hlt, e⟩ := List.getElem?_eq_some_iff.1 hu
      rw [e] at h3
      simp [hg] at h3
  · rintro ⟨t, h1, h2⟩
    obtain ⟨hlt, e⟩ := List.getElem?_eq_some_iff.1 h1
    refine ⟨by simp, t, hlt, e, fun j hj => ?_⟩
    rw [Bool.not_eq_true', beq_eq_false_iff_ne]
    intro e2
    have := h2 j L[j] (List.getElem?_eq_getElem (by omega)) e2
    omega
/-- What is sorted by name and place, without the later ones of a name. -/
theorem V.comp_files (L : List Fil) (S : List (Fil × Nat)) (hs : V.InTags S) (hm : ∀ g u, (g, u) ∈ S ↔ L[u]? = some g) : V.comp (S.map (·.1)) = V.files L := by
  obtain ⟨c1, c2⟩ := V.comp_is S hs (fun x hx y hy e => by
    have h1 := (hm x.1 x.2).1 hx
    have h2 := (hm y.1 y.2).1 hy
    rw [e, h2] at h1
    injection h1 with h1
    exact Prod.ext h1.symm e)
  obtain ⟨f1, f2⟩ := V.files_is L
  refine V.strict_uniq _ _ c1 f1 fun f => ?_
  rw [c2, f2, V.first_at]
  constructor
  · rintro ⟨t, h1, h2⟩
    exact ⟨t, (hm f t).1 h1, fun u g hu hg => h2 (g, u) ((hm g u).2 hu) hg⟩
  · rintro ⟨t, h1, h2⟩
    exact ⟨t, (hm f t).2 h1, fun x hx hxn => h2 x.2 x.1 ((hm x.1 x.2).1 hx) hxn⟩
end Go.Proofs.YtcfhleenecfghaaDoor
