/- Where a file belongs in a list: what the reference's loop comes by; nothing of the program is named here. -/
import Derived.Test.YtcfhleenecfghaaDoorDgl
namespace Go.Proofs.YtcfhleenecfghaaDoor

theorem V.spot_le : ∀ (out : List Fil) (f : Fil), V.spot out f ≤ out.length
  | [], _ => Nat.le_refl 0
  | g :: r, f => by
    rw [V.spot]
    have := V.spot_le r f
    split
    · omega
    · simp only [List.length_cons]; omega
theorem V.spot_before : ∀ (out : List Fil) (f : Fil) (k : Nat) (h : k < out.length), k < V.spot out f → ¬ cfF f out[k] < 0
  | [], _, _, h, _ => absurd h (Nat.not_lt_zero _)
  | g :: r, f, k, h, hk => by
    rw [V.spot] at hk
    split at hk
    · omega
    · cases k with
      | zero => assumption
      | succ k => exact V.spot_before r f k (by simpa using h) (by omega)
theorem V.spot_at : ∀ (out : List Fil) (f : Fil) (h : V.spot out f < out.length), cfF f out[V.spot out f] < 0
  | [], _, h => absurd h (Nat.not_lt_zero _)
  | g :: r, f, h => by
    by_cases hl : cfF f g < 0
    · simp only [V.spot, if_pos hl]
      exact hl
    · simp only [V.spot, if_neg hl]
      rw [V.spot, if_neg hl] at h
      exact V.spot_at r f (by simpa using h)
theorem V.named_snoc (L : List Fil) (g f : Fil) : V.named (L ++ [g]) f = (V.named L f || g.1.data.toList == f.1.data.toList) := by
  unfold V.named
  rw [List.any_append]; simp
theorem V.named_spot (out : List Fil) (f : Fil) (hs : V.Strict out) : V.named (out.take (V.spot out f)) f = V.named out f := by
  rw [Bool.eq_iff_iff, V.named_iff, V.named_iff]
  constructor
  · rintro ⟨g, h1, h2⟩; exact ⟨g, List.mem_of_mem_take h1, h2⟩
  · rintro ⟨g, h1, h2⟩
    obtain ⟨j, hj, rfl⟩ := List.getElem_of_mem h1
    rcases Nat.lt_or_ge j (V.spot out f) with h | h
    · exact ⟨_, List.mem_take_iff_getElem.2 ⟨j, by omega, rfl⟩, h2⟩
    · exfalso
      have hsp : V.spot out f < out.length := by omega
      have h3 := V.spot_at out f hsp
      have h4 : cfF f out[j] < 0 := by
        rcases Nat.lt_or_eq_of_le h with h5 | h5
        · exact cb_trans _ _ _ h3 ((List.pairwise_iff_getElem.1 hs) _ _ hsp hj h5)
        · simpa [h5] using h3
      unfold cfF at h4
      rw [h2, cb_refl] at h4
      omega
theorem V.files_snoc (L : List Fil) (k : Nat) (h : k < L.length) : V.files (L.take (k + 1)) = V.putF (V.files (L.take k)) L[k] := by
  unfold V.files
  rw [List.take_succ_eq_append_getElem h, List.foldl_append]; rfl
theorem V.files_len (L : List Fil) : (V.files L).length ≤ L.length := by
  have key : ∀ (R out : List Fil), (R.foldl V.putF out).length ≤ out.length + R.length := by
    intro R
    induction R with
    | nil => intro out; simp
    | cons g R ih =>
      intro out
      rw [List.foldl_cons]
      refine Nat.le_trans (ih _) ?_
      have : (V.putF out g).length ≤ out.length + 1 := by
        unfold V.putF
        split
        · omega
        · simp only [List.length_append, List.length_take, List.length_drop, List.length_cons, List.length_nil]; omega
      simp only [List.length_cons]; omega
  have := key L []
  simpa [V.files] using this
end Go.Proofs.YtcfhleenecfghaaDoor
