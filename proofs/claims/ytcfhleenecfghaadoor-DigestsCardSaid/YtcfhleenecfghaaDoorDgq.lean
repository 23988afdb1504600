/- One element of a row of cells is laid anew. -/
import Derived.Test.YtcfhleenecfghaaDoorDgc
namespace Go.Proofs.YtcfhleenecfghaaDoor
open Go.Shelf Go.RowKit Go.Lib Go.Sort
variable {k : Nat} {α : Type} [Inhabited α]

theorem set_flatK (enc : α → List Value) (hk : ∀ x, (enc x).length = k) (d : Array α) (i : Nat) (x : α) (hi : i < d.size) : setMany (flatK enc k d) (i * k) (enc x) = flatK enc k (d.setIfInBounds i x) := by
  refine row_ext (by simp) fun t ht => ?_
  rw [size_setMany, size_flatK] at ht
  have h0 : 0 < k := by
    rcases Nat.eq_zero_or_pos k with h | h
    · rw [h] at ht; omega
    · exact h
  rw [get_setMany _ _ _ _ (by rw [size_flatK]; exact ht), get_flatK enc k d t ht, get_flatK enc k _ t (by simpa using ht), hk]
  have e1 := Nat.div_add_mod t k
  have e2 := Nat.mod_lt t h0
  by_cases hc : t / k = i
  · rw [hc, Nat.mul_comm] at e1
    rw [if_pos (by omega), hc, getElem!_set_same d i x hi, show t - i * k = t % k by omega]
  · rw [if_neg (fun h => hc (Nat.div_eq_of_lt_le h.1 (by rw [Nat.add_mul, Nat.one_mul]; exact h.2))), getElem!_set_other d i _ x hc]
theorem set_sortWorldK (enc : α → List Value) (hk : ∀ x, (enc x).length = k) (w : World) (blk off m : Nat) (dk : Array α) (os : Array Obj) (hblk : blk < w.heap.size) (i : Nat) (x : α) (hi : i < dk.size) :
    (sortWorldK enc k w blk off m dk os).setCells blk (off + i * k) (enc x) = sortWorldK enc k w blk off m (dk.setIfInBounds i x) os := by
  have bnd : i * k + k ≤ dk.size * k := by
    have := Nat.mul_le_mul_right k (show i + 1 ≤ dk.size from hi); rwa [Nat.add_mul, Nat.one_mul] at this
  unfold sortWorldK
  rw [setCells_grow os blk _ _ _ (by rw [size_putRowK]; exact hblk)]
  unfold putRowK
  rw [setCells_putRow _ _ _ _ _ _ (by rw [hk, size_flatK]; exact bnd), set_flatK enc hk dk i x hi]

/-- From place kk on all is the element ze. -/
def fillA (d : Array α) (kk : Nat) (ze : α) : Array α := d.mapIdx fun j x => if kk ≤ j then ze else x
theorem fillA_size {γ : Type} (d : Array γ) (kk : Nat) (ze : γ) : (fillA d kk ze).size = d.size := by simp [fillA]
theorem fillA_get (d : Array α) (kk : Nat) (ze : α) (j : Nat) (h : j < d.size) : (fillA d kk ze)[j]! = if kk ≤ j then ze else d[j]! := by
  rw [getElem!_pos _ j (by rw [fillA_size]; exact h), getElem!_pos d j h]
  unfold fillA
  rw [Array.getElem_mapIdx]
theorem clear_flatK (enc : α → List Value) (hk : ∀ x, (enc x).length = k) (d : Array α) (kk : Nat) (ze : α) (hkk : kk ≤ d.size) (zc : Array Value) (hz : zc = (enc ze).toArray) :
    setMany (flatK enc k d) (kk * k) (Builtin.zeroCells zc (d.size - kk)).toList = flatK enc k (fillA d kk ze) := by
  refine row_ext (by simp [fillA_size]) fun t ht => ?_
  rw [size_setMany, size_flatK] at ht
  have h0 : 0 < k := by
    rcases Nat.eq_zero_or_pos k with h | h
    · rw [h] at ht; omega
    · exact h
  have hd : t / k < d.size := (Nat.div_lt_iff_lt_mul h0).2 ht
  have hzs : zc.size = k := by rw [hz]; simp [hk]
  have hlen : (Builtin.zeroCells zc (d.size - kk)).toList.length = (d.size - kk) * k := by simp [Builtin.zeroCells, hzs]
  have hsum : kk * k + (d.size - kk) * k = d.size * k := by rw [← Nat.add_mul]; congr 1; omega
  rw [get_setMany _ _ _ _ (by rw [size_flatK]; exact ht), get_flatK enc k d t ht, get_flatK enc k _ t (by rw [fillA_size]; exact ht), fillA_get d kk ze _ hd, hlen]
  by_cases hc : kk * k ≤ t
  · rw [if_pos ⟨hc, by omega⟩, if_pos ((Nat.le_div_iff_mul_le h0).2 hc)]
    obtain ⟨r, rfl⟩ := Nat.exists_eq_add_of_le hc
    rw [Nat.add_sub_cancel_left, Nat.mul_add_mod']
    have hr : r < (d.size - kk) * k := by omega
    rw [getElem!_pos _ r (by rw [hlen]; exact hr)]
    simp only [Builtin.zeroCells, hzs, Array.getElem_toList, Array.getElem_map, Array.getElem_range]
    rw [hz]
    have hm : r % k < (enc ze).length := by rw [hk]; exact Nat.mod_lt _ h0
    simp [hm]
  · rw [if_neg (fun h => hc h.1), if_neg (fun h => hc ((Nat.le_div_iff_mul_le h0).1 h))]
theorem clear_sortWorldK (P : Program) (enc : α → List Value) (hk : ∀ x, (enc x).length = k) (h1 : ∀ x, ∀ v ∈ enc x, v.oneCell' = true) (w : World) (blk off m : Nat) (d0 dk : Array α) (os : Array Obj) (hblk : blk < w.heap.size) (hH : HoldsK enc k w blk off d0) (hs : dk.size = d0.size) (kk : Nat) (ze : α) (hkk : kk < dk.size) (zv : Value) (hz : zv.cells = (enc ze).toArray) (t27 : P.underlying 27 = some (TypeDesc.slice 69)) (v69 : ∀ w, (zeroValue 69).run P w = .ok zv w) (ty : TypeId) (c : Nat) :
    (Builtin.clear_ #[27] ty #[.slice (some ⟨blk, off + kk * k, none⟩) (dk.size - kk) c]).run P (sortWorldK enc k w blk off m dk os) = .ok (.tuple #[]) (sortWorldK enc k w blk off m (fillA dk kk ze) os) := by
  have hHc : HoldsK enc k (sortWorldK enc k w blk off m dk os) blk off dk := holdsK_sortWorldK_c enc k w blk off d0 dk m os hH hblk hs
  have hzs : zv.cells.size = k := by rw [hz]; simp [hk]
  have hlen : (Builtin.zeroCells zv.cells (dk.size - kk)).toList.length = (dk.size - kk) * k := by simp [Builtin.zeroCells, hzs]
  have hsum : kk * k + (dk.size - kk) * k = dk.size * k := by rw [← Nat.add_mul]; congr 1; omega
  have hone : ∀ v ∈ (Builtin.zeroCells zv.cells (dk.size - kk)).toList, v.oneCell' = true := by
    intro v hv
    simp only [Builtin.zeroCells, hzs, Array.toList_map, List.mem_map] at hv
    obtain ⟨r, hr, rfl⟩ := hv
    have h0 : 0 < k := by
      rcases Nat.eq_zero_or_pos k with h | h
      · subst h; simp at hr
      · exact h
    have hm : r % k < (enc ze).length := by rw [hk]; exact Nat.mod_lt _ h0
    rw [hz]
    refine h1 ze _ ?_
    simp [hm]
  have hst := stores_of_holds P hHc (kk * k) _ (by rw [hlen, size_flatK]; omega) hone
  have hw : (sortWorldK enc k w blk off m dk os).setCells blk (off + kk * k) (Builtin.zeroCells zv.cells (dk.size - kk)).toList = sortWorldK enc k w blk off m (fillA dk kk ze) os := by
    unfold sortWorldK
    rw [setCells_grow os blk _ _ _ (by rw [size_putRowK]; exact hblk)]
    unfold putRowK
    rw [setCells_putRow _ _ _ _ _ _ (by rw [hlen, size_flatK]; omega), clear_flatK enc hk dk kk ze (by omega) _ hz]
  rw [hw] at hst
  obtain ⟨n, hn⟩ : ∃ n, dk.size - kk = n + 1 := ⟨dk.size - kk - 1, by omega⟩
  rw [hn] at hst ⊢
  simp [Builtin.clear_, run_underlying t27, v69, hst]
end Go.Proofs.YtcfhleenecfghaaDoor
