/- Lists of files, one of each name, in the order of names: such a list is fixed by its members; how the reference builds it; nothing of the program is named here. -/
import Derived.Test.YtcfhleenecfghaaDoorDgj
namespace Go.Proofs.YtcfhleenecfghaaDoor

/-- One of each name, in the order of names. -/
def V.Strict (L : List Fil) : Prop := L.Pairwise fun x y => cfF x y < 0
theorem cfF_irr (x : Fil) : ¬ cfF x x < 0 := by unfold cfF; rw [cb_refl]; omega
theorem cfF_asym {x y : Fil} (h : cfF x y < 0) : ¬ cfF y x < 0 := fun h2 => cfF_irr x (cb_trans _ _ _ h h2)
theorem V.strict_uniq : ∀ (A B : List Fil), V.Strict A → V.Strict B → (∀ f, f ∈ A ↔ f ∈ B) → A = B
  | [], [], _, _, _ => rfl
  | [], b :: B, _, _, h => absurd ((h b).2 (List.mem_cons_self ..)) List.not_mem_nil
  | a :: A, [], _, _, h => absurd ((h a).1 (List.mem_cons_self ..)) List.not_mem_nil
  | a :: A, b :: B, hA, hB, h => by
    have hA' := List.pairwise_cons.1 hA
    have hB' := List.pairwise_cons.1 hB
    have e : a = b := by
      rcases List.mem_cons.1 ((h a).1 (List.mem_cons_self ..)) with e | h1
      · exact e
      · rcases List.mem_cons.1 ((h b).2 (List.mem_cons_self ..)) with e | h2
        · exact e.symm
        · exact absurd (hB'.1 a h1) (cfF_asym (hA'.1 b h2))
    subst e
    rw [V.strict_uniq A B hA'.2 hB'.2 fun f => ?_]
    constructor
    · intro hf
      rcases List.mem_cons.1 ((h f).1 (List.mem_cons_of_mem _ hf)) with e | h1
      · subst e; exact absurd (hA'.1 f hf) (cfF_irr f)
      · exact h1
    · intro hf
      rcases List.mem_cons.1 ((h f).2 (List.mem_cons_of_mem _ hf)) with e | h1
      · subst e; exact absurd (hB'.1 f hf) (cfF_irr f)
      · exact h1

/-- Has a list a file of that name? -/
def V.named (L : List Fil) (f : Fil) : Bool := L.any fun g => g.1.data.toList == f.1.data.toList
/-- The file is the first one of its name. -/
def V.FirstOf (L : List Fil) (f : Fil) : Prop := L.find? (fun g => g.1.data.toList == f.1.data.toList) = some f
theorem V.first_snoc (L : List Fil) (g f : Fil) : V.FirstOf (L ++ [g]) f ↔ V.FirstOf L f ∨ (f = g ∧ V.named L g = false) := by
  unfold V.FirstOf V.named
  rw [List.find?_append]
  cases h : L.find? (fun g => g.1.data.toList == f.1.data.toList) with
  | some x =>
    rw [Option.some_or]
    constructor
    · intro e; exact Or.inl e
    · rintro (e | ⟨rfl, h2⟩)
      · exact e
      · have h3 := List.find?_some h
        have h4 := List.mem_of_find?_eq_some h
        rw [List.any_eq_false] at h2
        exact absurd h3 (h2 x h4)
  | none =>
    rw [Option.none_or]
    constructor
    · intro e
      right
      have h3 := List.find?_some e
      have h4 := List.mem_of_find?_eq_some e
      have e2 : f = g := by simpa using h4
      subst e2
      refine ⟨rfl, ?_⟩
      rw [List.find?_eq_none] at h
      rw [List.any_eq_false]
      exact h
    · rintro (e | ⟨rfl, h2⟩)
      · cases e
      · simp

/-- How many stand ahead of a file of that name. -/
def V.spot : List Fil → Fil → Nat
  | [], _ => 0
  | g :: r, f => if cfF f g < 0 then 0 else V.spot r f + 1
/-- A file is put in where it belongs, unless its name is there. -/
def V.putF (out : List Fil) (f : Fil) : List Fil := if V.named out f then out else out.take (V.spot out f) ++ [f] ++ out.drop (V.spot out f)
/-- What the reference builds. -/
def V.files (L : List Fil) : List Fil := L.foldl V.putF []
theorem V.named_iff (L : List Fil) (f : Fil) : V.named L f = true ↔ ∃ g ∈ L, g.1.data.toList = f.1.data.toList := by
  unfold V.named
  rw [List.any_eq_true]
  simp
theorem V.spot_put : ∀ (out : List Fil) (f : Fil), V.Strict out → V.named out f = false → V.Strict (out.take (V.spot out f) ++ [f] ++ out.drop (V.spot out f)) ∧ ∀ x, x ∈ out.take (V.spot out f) ++ [f] ++ out.drop (V.spot out f) ↔ x = f ∨ x ∈ out
  | [], f, _, _ => by
    refine ⟨by simp [V.Strict, V.spot], fun x => by simp [V.spot]⟩
  | g :: r, f, hs, hn => by
    have hs' := List.pairwise_cons.1 hs
    have hn' : V.named r f = false ∧ ¬ g.1.data.toList = f.1.data.toList := by
      rw [← Bool.not_eq_true, V.named_iff] at hn ⊢
      exact ⟨fun ⟨x, h1, h2⟩ => hn ⟨x, List.mem_cons_of_mem _ h1, h2⟩, fun h => hn ⟨g, List.mem_cons_self .., h⟩⟩
    by_cases hl : cfF f g < 0
    · rw [V.spot, if_pos hl]
      refine ⟨?_, fun x => by simp⟩
      show V.Strict ([] ++ [f] ++ g :: r)
      refine List.pairwise_cons.2 ⟨fun x hx => ?_, hs⟩
      rcases List.mem_cons.1 hx with rfl | hx
      · exact hl
      · exact cb_trans _ _ _ hl (hs'.1 x hx)
    · rw [V.spot, if_neg hl]
      obtain ⟨i1, i2⟩ := V.spot_put r f hs'.2 hn'.1
      refine ⟨?_, fun x => ?_⟩
      · show V.Strict (g :: (r.take (V.spot r f) ++ [f] ++ r.drop (V.spot r f)))
        refine List.pairwise_cons.2 ⟨fun x hx => ?_, i1⟩
        rcases (i2 x).1 hx with rfl | hx
        · by_cases h2 : cfF g x < 0
          · exact h2
          · exact absurd (cb_zero _ _ h2 hl) hn'.2
        · exact hs'.1 x hx
      · show x ∈ g :: (r.take (V.spot r f) ++ [f] ++ r.drop (V.spot r f)) ↔ _
        rw [List.mem_cons, i2, List.mem_cons]
        constructor
        · rintro (h | h | h) <;> simp [h]
        · rintro (h | h | h) <;> simp [h]
theorem V.named_of_first {L : List Fil} {f : Fil} : V.named L f = true ↔ ∃ g, V.FirstOf L g ∧ g.1.data.toList = f.1.data.toList := by
  rw [V.named_iff]
  constructor
  · rintro ⟨g, h1, h2⟩
    cases h : L.find? (fun x => x.1.data.toList == f.1.data.toList) with
    | none =>
      rw [List.find?_eq_none] at h
      exact absurd (by simpa using h2) (h g h1)
    | some x =>
      have h3 : x.1.data.toList = f.1.data.toList := by simpa using List.find?_some h
      refine ⟨x, ?_, h3⟩
      unfold V.FirstOf
      rw [h3]; exact h
  · rintro ⟨g, h1, h2⟩
    exact ⟨g, List.mem_of_find?_eq_some h1, h2⟩
theorem V.files_is (L : List Fil) : V.Strict (V.files L) ∧ ∀ f, f ∈ V.files L ↔ V.FirstOf L f := by
  have key : ∀ (R P out : List Fil), (V.Strict out ∧ ∀ f, f ∈ out ↔ V.FirstOf P f) → V.Strict (R.foldl V.putF out) ∧ ∀ f, f ∈ R.foldl V.putF out ↔ V.FirstOf (P ++ R) f := by
    intro R
    induction R with
    | nil => intro P out h; rw [List.append_nil]; exact h
    | cons g R ih =>
      intro P out h
      rw [List.foldl_cons, show P ++ g :: R = (P ++ [g]) ++ R by simp]
      refine ih (P ++ [g]) (V.putF out g) ?_
      have en : V.named out g = V.named P g := by
        rw [Bool.eq_iff_iff, V.named_iff out, V.named_of_first (L := P)]
        constructor
        · rintro ⟨x, h1, h2⟩; exact ⟨x, (h.2 x).1 h1, h2⟩
        · rintro ⟨x, h1, h2⟩; exact ⟨x, (h.2 x).2 h1, h2⟩
      unfold V.putF
      cases hn : V.named out g
      · rw [if_neg (by simp)]
        obtain ⟨i1, i2⟩ := V.spot_put out g h.1 hn
        refine ⟨i1, fun f => ?_⟩
        rw [i2, V.first_snoc, ← h.2, ← en, hn]
        constructor
        · rintro (h | h)
          · exact Or.inr ⟨h, rfl⟩
          · exact Or.inl h
        · rintro (h | h)
          · exact Or.inr h
          · exact Or.inl h.1
      · rw [if_pos rfl]
        refine ⟨h.1, fun f => ?_⟩
        rw [V.first_snoc, ← h.2, ← en, hn]
        simp
  have := key L [] [] ⟨List.Pairwise.nil, fun f => by simp [V.FirstOf]⟩
  rw [List.nil_append] at this
  exact this
end Go.Proofs.YtcfhleenecfghaaDoor
