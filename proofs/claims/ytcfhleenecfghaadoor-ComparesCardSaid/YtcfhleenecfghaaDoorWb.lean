/- What the reference's small functions on texts answer: is a byte among some, is a text of some bytes alone, is it a number; which of two texts, and of two numbers, is greater. -/
import Derived.Test.YtcfhleenecfghaaDoorWa
namespace Go.Proofs.YtcfhleenecfghaaDoor
open Go.RowKit

theorem eq_byte (a b : UInt8) : ((a.toNat : Int) == (b.toNat : Int)) = (a == b) := by
  rw [Bool.eq_iff_iff]
  simp only [beq_iff_eq]
  constructor
  · intro h; exact UInt8.toNat_inj.1 (by omega)
  · intro h; rw [h]

set_option maxHeartbeats 400000 in
theorem among_any (s : ByteArray) (c : UInt8) (w : World) (hs : s.size ≤ maxLen) :
    Calls Tryd.prog 60 #[.string s, .int .u8 (c.toNat : Int)] w fun e w' => e = .returned (.bool (V.has s.data.toList c)) ∧ w' = w := by
  unfold maxLen at hs
  go_enter Tryd.func60, Tryd.ntmps60
  go_wp2
  go_loop [5] (fun i => ∃ k : Nat, k ≤ s.size ∧ i = .int .i64 k ∧ Hid (V.has (s.data.toList.take k) c = false)) (fun i => s.size - (intOf i).toNat)
  case atStart => exact ⟨0, Nat.zero_le _, rfl, hide rfl⟩
  case round =>
    obtain ⟨k, hk, rfl, H⟩ := hrel
    by_cases hlt : k < s.size
    · cases hd : ((s[k].toNat : Int) == (c.toNat : Int))
      · go_wp2
        go_round
        case rel =>
          refine ⟨k + 1, by omega, by go_num, hide ?_⟩
          rw [eq_byte] at hd
          have : (c == s[k]) = false := by rw [← hd]; exact BEq.comm
          rw [take_snoc s k hlt, V.has_snoc, H.out, this]; rfl
        case measure => simp [intOf]; omega
      · go_wp2
        go_ret
        refine ⟨ret_bool ?_, rfl⟩
        rw [eq_byte] at hd
        rw [← eq_of_beq hd]
        exact (V.has_at s.data.toList k (by simpa using hlt)).symm
    · go_wp2
      go_ret
      refine ⟨ret_bool ?_, rfl⟩
      have := H.out
      rw [List.take_of_length_le (l := s.data.toList) (i := k) (by simp; omega)] at this
      exact this.symm

set_option maxHeartbeats 400000 in
theorem only_any (s bs : ByteArray) (w : World) (hs : s.size ≤ maxLen) (hb : bs.size ≤ maxLen) :
    Calls Tryd.prog 46 #[.string s, .string bs] w fun e w' => e = .returned (.bool (V.only s.data.toList bs.data.toList)) ∧ w' = w := by
  have hs' := hs
  unfold maxLen at hs'
  go_enter Tryd.func46, Tryd.ntmps46
  go_wp2
  go_loop [5] (fun i => ∃ k : Nat, k ≤ s.size ∧ i = .int .i64 k ∧ Hid ((s.data.toList.take k).all (fun b => V.has bs.data.toList b) = true)) (fun i => s.size - (intOf i).toNat)
  case atStart => exact ⟨0, Nat.zero_le _, rfl, hide (by simp)⟩
  case round =>
    obtain ⟨k, hk, rfl, H⟩ := hrel
    by_cases hlt : k < s.size
    · cases hd : V.has bs.data.toList s[k]
      · go_wp2_with (go_at_call 60; refine (among_any _ _ _ hb).mono ?_; rintro e w' ⟨rfl, rfl⟩; rw [hd])
        go_ret
        exact ⟨ret_bool (V.only_not _ _ k (by simpa using hlt) hd).symm, rfl⟩
      · go_wp2_with (go_at_call 60; refine (among_any _ _ _ hb).mono ?_; rintro e w' ⟨rfl, rfl⟩; rw [hd])
        go_round
        case rel => exact ⟨k + 1, by omega, by go_num, hide (by rw [take_snoc s k hlt, List.all_append, H.out]; simpa using hd)⟩
        case measure => simp [intOf]; omega
    · go_wp2
      go_ret
      refine ⟨ret_bool ?_, rfl⟩
      unfold V.only
      have := H.out
      rw [List.take_of_length_le (l := s.data.toList) (i := k) (by simp; omega)] at this
      rw [this, Lib.toList_data]; simp

theorem only_digs_any (s : ByteArray) (w : World) (hs : s.size ≤ maxLen) :
    Calls Tryd.prog 46 #[.string s, .string ⟨#[48, 49, 50, 51, 52, 53, 54, 55, 56, 57]⟩] w fun e w' => e = .returned (.bool (V.digits s.data.toList)) ∧ w' = w := by
  have h := only_any s ⟨#[48, 49, 50, 51, 52, 53, 54, 55, 56, 57]⟩ w hs (by unfold maxLen; decide)
  rw [← V.only_digs]
  exact h
theorem only_marks_any (s : ByteArray) (w : World) (hs : s.size ≤ maxLen) :
    Calls Tryd.prog 46 #[.string s, .string ⟨#[48, 49, 50, 51, 52, 53, 54, 55, 56, 57, 97, 98, 99, 100, 101, 102, 103, 104, 105, 106, 107, 108, 109, 110, 111, 112, 113, 114, 115, 116, 117, 118, 119, 120, 121, 122, 65, 66, 67, 68, 69, 70, 71, 72, 73, 74, 75, 76, 77, 78, 79, 80, 81, 82, 83, 84, 85, 86, 87, 88, 89, 90, 45]⟩] w fun e w' => e = .returned (.bool (V.only s.data.toList V.marks)) ∧ w' = w :=
  only_any s ⟨#[48, 49, 50, 51, 52, 53, 54, 55, 56, 57, 97, 98, 99, 100, 101, 102, 103, 104, 105, 106, 107, 108, 109, 110, 111, 112, 113, 114, 115, 116, 117, 118, 119, 120, 121, 122, 65, 66, 67, 68, 69, 70, 71, 72, 73, 74, 75, 76, 77, 78, 79, 80, 81, 82, 83, 84, 85, 86, 87, 88, 89, 90, 45]⟩ w hs (by unfold maxLen; decide)

set_option maxHeartbeats 400000 in
theorem number_any (s : ByteArray) (w : World) (hs : s.size ≤ maxLen) :
    Calls Tryd.prog 59 #[.string s] w fun e w' => e = .returned (.bool (V.number s.data.toList)) ∧ w' = w := by
  cases hd : V.digits s.data.toList
  · go_enter Tryd.func59, Tryd.ntmps59
    go_wp2_with (go_at_call 46; refine (only_digs_any _ _ hs).mono ?_; rintro e w' ⟨rfl, rfl⟩; rw [hd])
    go_ret
    exact ⟨ret_bool (by simp [V.number, hd]), rfl⟩
  · have hne : 0 < s.size := by
      have := V.digits_ne hd
      have := List.length_pos_iff.2 this
      simpa using this
    have hh := head_of s hne
    have HN : Hid (V.number s.data.toList = (((s.size : Int) == 1) || ((s[0].toNat : Int) != 48))) := by
      refine hide ?_
      unfold V.number
      rw [hd, hh, show (48 : Int) = ((48 : Nat) : Int) from rfl, ne_byte s[0] 48 48 rfl]
      have hz : s.size = s.data.toList.length := by simp
      rw [hz]
      revert hh
      generalize s[0] = c
      generalize s.data.toList = l
      intro hh
      match l, hh with
      | [a], hh =>
        simp at hh; subst hh
        by_cases e : a = 48 <;> simp [e, bne]
      | a :: b :: r, hh =>
        simp at hh; subst hh
        have h1 : (((a :: b :: r).length : Int) == 1) = false := by
          rw [beq_eq_false_iff_ne]; simp only [List.length_cons]; omega
        rw [h1]
        simp [bne]
    clear hh
    cases h0 : ((s.size : Int) == 1)
    all_goals
      go_enter Tryd.func59, Tryd.ntmps59
      go_wp2_with (go_at_call 46; refine (only_digs_any _ _ hs).mono ?_; rintro e w' ⟨rfl, rfl⟩; rw [hd])
      go_ret
      exact ⟨ret_bool (by rw [HN.out, h0]; simp), rfl⟩

set_option maxHeartbeats 400000 in
theorem texts_any (a b : ByteArray) (w : World) :
    Calls Tryd.prog 47 #[.string a, .string b] w fun e w' => e = .returned (.int .i64 (Lib.compareBytes a.data.toList b.data.toList)) ∧ w' = w := by
  have HC : Hid (Lib.compareBytes a.data.toList b.data.toList = if Op.bytesLess a.toList b.toList then -1 else if !(Op.bytesLess a.toList b.toList || a.toList == b.toList) then 1 else 0) := by
    refine hide ?_
    rw [V.compare_less, Lib.toList_data, Lib.toList_data]
  cases h1 : Op.bytesLess a.toList b.toList
  · cases h2 : (a.toList == b.toList)
    all_goals
      go_enter Tryd.func47, Tryd.ntmps47
      go_wp2
      go_ret
      exact ⟨ret_int (by rw [HC.out, h1, h2]; rfl), rfl⟩
  · go_enter Tryd.func47, Tryd.ntmps47
    go_wp2
    go_ret
    exact ⟨ret_int (by rw [HC.out, h1]; rfl), rfl⟩

end Go.Proofs.YtcfhleenecfghaaDoor
