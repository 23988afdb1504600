/- Where the numbers and the marks of a text stand, place by place; nothing of the program is named here. -/
import Derived.Test.YtcfhleenecfghaaGreatDoorPlain
namespace Go.Proofs.YtcfhleenecfghaaGreatDoor
namespace V

theorem cut_none {l : List UInt8} {c : UInt8} (h : ∀ j : Nat, l[j]? ≠ some c) : Lib.cut l [c] = (l, [], false) := by
  rcases Lib.index_spec l [c] with ⟨h1, _⟩ | ⟨i, h1, _⟩
  · unfold Lib.cut; rw [h1, if_neg (by omega)]
  · rw [Lib.index_one] at h1
    exact absurd (Lib.indexByte_some h1).1 (h i)
theorem cut_some {l : List UInt8} {c : UInt8} {o : Nat} (h : l[o]? = some c) (hk : ∀ j : Nat, j < o → l[j]? ≠ some c) : Lib.cut l [c] = (l.take o, l.drop (o + 1), true) := by
  rcases Lib.index_spec l [c] with ⟨h1, _⟩ | ⟨i, h1, _⟩
  · rw [Lib.index_one] at h1
    exact absurd h (Lib.indexByte_none h1 o)
  · have h2 := h1
    rw [Lib.index_one] at h2
    obtain ⟨ha, hb⟩ := Lib.indexByte_some h2
    have e : i = o := by
      rcases Nat.lt_trichotomy i o with hlt | he | hgt
      · exact absurd ha (hk i hlt)
      · exact he
      · exact absurd h (hb o hgt)
    subst e
    unfold Lib.cut
    rw [h1, if_pos (by omega)]
    simp
theorem trim_v {l : List UInt8} (h : l.head? = some 118) : Lib.trimPrefix l [118] = l.drop 1 := by
  cases l with
  | nil => cases h
  | cons a r =>
    have e : a = 118 := by simpa using h
    subst e
    simp [Lib.trimPrefix, Lib.hasPrefix]
theorem prefix_v {l : List UInt8} : Lib.hasPrefix l [118] = (l.head? == some 118) := by
  cases l with
  | nil => rfl
  | cons a r =>
    rw [Bool.eq_iff_iff]
    simp [Lib.hasPrefix]
    exact eq_comm
theorem parts_end {l : List UInt8} (h : l.head? = some 118) (hk : ∀ j : Nat, 1 ≤ j → j < l.length → l[j]? ≠ some 45) : parts l = (pieces 46 (l.drop 1), []) := by
  unfold parts
  rw [trim_v h, cut_none (fun j => ?_)]
  · rfl
  · rw [List.getElem?_drop]
    by_cases hj : 1 + j < l.length
    · exact hk _ (by omega) hj
    · rw [List.getElem?_eq_none (by omega)]; simp
theorem parts_dash {l : List UInt8} {e : Nat} (h : l.head? = some 118) (he : 1 ≤ e) (hd : l[e]? = some 45) (hk : ∀ j : Nat, 1 ≤ j → j < e → l[j]? ≠ some 45) : parts l = (pieces 46 ((l.drop 1).take (e - 1)), pieces 46 (l.drop (e + 1))) := by
  unfold parts
  rw [trim_v h, cut_some (o := e - 1) (by rw [List.getElem?_drop, show 1 + (e - 1) = e by omega]; exact hd) (fun j hj => by rw [List.getElem?_drop]; exact hk _ (by omega) (by omega))]
  rw [List.drop_drop, show 1 + (e - 1 + 1) = e + 1 by omega]
  rfl
theorem ver_head {l : List UInt8} (h : (l.head? == some 118) = false) : ver l = false := by
  unfold ver
  rw [prefix_v, h]; simp
theorem ver_long {l : List UInt8} (h : 40 < l.length) : ver l = false := by
  unfold ver; rw [decide_eq_false (by omega)]; rfl
theorem ver_of {l : List UInt8} (h40 : l.length ≤ 40) (h : l.head? = some 118) : ver l = ((parts l).1.length == 3 && (parts l).1.all number && (parts l).2.all mark) := by
  unfold ver
  rw [prefix_v, h, decide_eq_true h40]; simp

theorem ver_three {l : List UInt8} (h : ver l = true) : (parts l).1.length = 3 := by
  unfold ver at h
  simp at h
  exact h.2.2.1.1

end V
end Go.Proofs.YtcfhleenecfghaaGreatDoor
