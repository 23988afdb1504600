/- What the small functions on bytes and texts answer: is a byte a digit, a letter; is a text digits, a number, a mark. -/
import Derived.Test.YtcfhleenecfghaaGreatDoorProg
import Derived.Test.YtcfhleenecfghaaGreatDoorPlain
import Derived.WalkKit
import Derived.WalkSpells
import Derived.WalkLawsBesides
import Derived.Deep.QuietTactic
import Derived.BigQuiet
namespace Go.Proofs.YtcfhleenecfghaaGreatDoor
open Go.RowKit

theorem hide {p : Prop} (h : p) : Hid p := h
theorem ret_bool {a b : Bool} (h : a = b) : Ending.returned (.bool a) = .returned (.bool b) := by rw [h]
theorem ret_int {k : IntKind} {a b : Int} (h : a = b) : Ending.returned (.int k a) = .returned (.int k b) := by rw [h]

set_option maxHeartbeats 400000 in
theorem isDigit_any (b : UInt8) (w : World) :
    Calls Tryz.prog 243 #[.int .u8 (b.toNat : Int)] w fun e w' => e = .returned (.bool (V.isDig b)) ∧ w' = w := by
  by_cases h1 : 48 ≤ (b.toNat : Int) <;> by_cases h2 : (b.toNat : Int) ≤ 57
  all_goals
    go_enter Tryz.func243, Tryz.ntmps243
    go_wp2
    go_ret
    exact ⟨ret_bool (by simp [V.isDig]; omega), rfl⟩

set_option maxHeartbeats 400000 in
theorem isLetter_any (b : UInt8) (w : World) :
    Calls Tryz.prog 244 #[.int .u8 (b.toNat : Int)] w fun e w' => e = .returned (.bool (V.isLet b)) ∧ w' = w := by
  by_cases h1 : 97 ≤ (b.toNat : Int) <;> by_cases h2 : (b.toNat : Int) ≤ 122 <;> by_cases h3 : 65 ≤ (b.toNat : Int) <;> by_cases h4 : (b.toNat : Int) ≤ 90
  all_goals first
    | omega
    | (go_enter Tryz.func244, Tryz.ntmps244
       go_wp2
       go_ret
       exact ⟨ret_bool (by simp [V.isLet]; omega), rfl⟩)

theorem take_snoc (s : ByteArray) (k : Nat) (h : k < s.size) : s.data.toList.take (k + 1) = s.data.toList.take k ++ [s[k]] := by
  rw [List.take_succ_eq_append_getElem (by simpa using h)]; rfl

set_option maxHeartbeats 400000 in
theorem isDigits_any (s : ByteArray) (w : World) (hs : s.size ≤ maxLen) :
    Calls Tryz.prog 176 #[.string s] w fun e w' => e = .returned (.bool (V.digits s.data.toList)) ∧ w' = w := by
  unfold maxLen at hs
  go_enter Tryz.func176, Tryz.ntmps176
  go_wp2
  go_loop [6] (fun i => ∃ k : Nat, k ≤ s.size ∧ i = .int .i64 k ∧ Hid ((s.data.toList.take k).all V.isDig = true)) (fun i => s.size - (intOf i).toNat)
  case atStart => exact ⟨0, Nat.zero_le _, rfl, hide (by simp)⟩
  case round =>
    obtain ⟨k, hk, rfl, H⟩ := hrel
    by_cases hlt : k < s.size
    · cases hd : V.isDig s[k]
      · go_wp2_with (go_at_call 243; refine (isDigit_any _ _).mono ?_; rintro e w' ⟨rfl, rfl⟩)
        go_ret
        exact ⟨ret_bool (V.digits_not s.data.toList k (by simpa using hlt) hd).symm, rfl⟩
      · go_wp2_with (go_at_call 243; refine (isDigit_any _ _).mono ?_; rintro e w' ⟨rfl, rfl⟩)
        go_round
        case rel => exact ⟨k + 1, by omega, by go_num, hide (by rw [take_snoc s k hlt, List.all_append, H.out]; simp [hd])⟩
        case measure => simp [intOf]; omega
    · go_wp2
      go_ret
      exact ⟨ret_bool (by rw [V.digits, Lib.toList_data, ← List.take_of_length_le (l := s.data.toList) (i := k) (by simp; omega), H.out]; simp), rfl⟩

theorem head_of (s : ByteArray) (h : 0 < s.size) : s.data.toList.head? = some s[0] := by
  have := Lib.data_getElem? s 0 h
  rw [← this, List.head?_eq_getElem?]
theorem ne_byte (b : UInt8) (n : Nat) (c : UInt8) (h : c.toNat = n) : ((b.toNat : Int) != (n : Int)) = (b != c) := by
  subst h
  rw [Bool.eq_iff_iff]
  simp only [bne_iff_ne, ne_eq]
  constructor
  · intro h e; subst e; exact h rfl
  · intro h e; exact h (UInt8.toNat_inj.1 (by omega))

set_option maxHeartbeats 400000 in
theorem isNumber_any (s : ByteArray) (w : World) (hs : s.size ≤ maxLen) :
    Calls Tryz.prog 170 #[.string s] w fun e w' => e = .returned (.bool (V.number s.data.toList)) ∧ w' = w := by
  cases hd : V.digits s.data.toList
  · go_enter Tryz.func170, Tryz.ntmps170
    go_wp2_with (go_at_call 176; refine (isDigits_any _ _ hs).mono ?_; rintro e w' ⟨rfl, rfl⟩; rw [hd])
    go_ret
    exact ⟨ret_bool (by simp [V.number, hd]), rfl⟩
  · have hne : 0 < s.size := by
      have := V.digits_ne hd
      have := List.length_pos_iff.2 this
      simpa using this
    have hh := head_of s hne
    have HN : Hid (V.number s.data.toList = (s.toList == [48] || ((s[0].toNat : Int) != 48))) := by
      refine hide ?_
      unfold V.number
      rw [hd, hh, Lib.toList_data, show (48 : Int) = ((48 : Nat) : Int) from rfl, ne_byte s[0] 48 48 rfl]
      simp [bne]
    clear hh
    cases h0 : (s.toList == [48])
    all_goals
      go_enter Tryz.func170, Tryz.ntmps170
      go_wp2_with (go_at_call 176; refine (isDigits_any _ _ hs).mono ?_; rintro e w' ⟨rfl, rfl⟩; rw [hd])
      go_ret
      exact ⟨ret_bool (by rw [HN.out, h0]; simp), rfl⟩

set_option maxHeartbeats 800000 in
theorem isMark_any (s : ByteArray) (w : World) (hs : s.size ≤ maxLen) :
    Calls Tryz.prog 171 #[.string s] w fun e w' => e = .returned (.bool (V.mark s.data.toList)) ∧ w' = w := by
  have hs' := hs
  unfold maxLen at hs'
  cases hd : V.digits s.data.toList
  · have HM : Hid (V.mark s.data.toList = (s.data.toList.all V.markByte && !s.data.toList.isEmpty)) := by
      unfold V.mark; rw [hd]; rfl
    go_enter Tryz.func171, Tryz.ntmps171
    go_wp2_with (go_at_call 176; refine (isDigits_any _ _ hs).mono ?_; rintro e w' ⟨rfl, rfl⟩; rw [hd])
    go_loop [10] (fun i => ∃ k : Nat, k ≤ s.size ∧ i = .int .i64 k ∧ Hid ((s.data.toList.take k).all V.markByte = true)) (fun i => s.size - (intOf i).toNat)
    case atStart => exact ⟨0, Nat.zero_le _, rfl, hide (by simp)⟩
    case round =>
      obtain ⟨k, hk, rfl, H⟩ := hrel
      by_cases hlt : k < s.size
      · have HB : Hid (V.markByte s[k] = (V.isDig s[k] || V.isLet s[k] || !((s[k].toNat : Int) != 45))) := by
          refine hide ?_
          unfold V.markByte
          rw [show (45 : Int) = ((45 : Nat) : Int) from rfl, ne_byte s[k] 45 45 rfl]
          simp [bne]
        have HL : Hid (V.markByte s[k] = false → s.data.toList.all V.markByte = false) := by
          intro hf
          rw [List.all_eq_false]
          exact ⟨s[k], by rw [show s[k] = s.data.toList[k]'(by simpa using hlt) from rfl]; exact List.getElem_mem _, by simp [hf]⟩
        have HR : Hid (V.markByte s[k] = true → (s.data.toList.take (k + 1)).all V.markByte = true) := by
          intro ht
          rw [take_snoc s k hlt, List.all_append, H.out]; simp [ht]
        cases h1 : V.isDig s[k]
        · cases h2 : V.isLet s[k]
          · cases h3 : ((s[k].toNat : Int) != 45)
            · go_wp2_with (first | (go_at_call 243; refine (isDigit_any _ _).mono ?_; rintro e w' ⟨rfl, rfl⟩) | (go_at_call 244; refine (isLetter_any _ _).mono ?_; rintro e w' ⟨rfl, rfl⟩))
              go_round
              case rel => exact ⟨k + 1, by omega, by go_num, hide (HR.out (by rw [HB.out, h1, h2, h3]; rfl))⟩
              case measure => simp [intOf]; omega
            · go_wp2_with (first | (go_at_call 243; refine (isDigit_any _ _).mono ?_; rintro e w' ⟨rfl, rfl⟩) | (go_at_call 244; refine (isLetter_any _ _).mono ?_; rintro e w' ⟨rfl, rfl⟩))
              go_ret
              exact ⟨ret_bool (by rw [HM.out, HL.out (by rw [HB.out, h1, h2, h3]; rfl)]; rfl), rfl⟩
          · go_wp2_with (first | (go_at_call 243; refine (isDigit_any _ _).mono ?_; rintro e w' ⟨rfl, rfl⟩) | (go_at_call 244; refine (isLetter_any _ _).mono ?_; rintro e w' ⟨rfl, rfl⟩))
            go_round
            case rel => exact ⟨k + 1, by omega, by go_num, hide (HR.out (by rw [HB.out, h1, h2]; rfl))⟩
            case measure => simp [intOf]; omega
        · go_wp2_with (first | (go_at_call 243; refine (isDigit_any _ _).mono ?_; rintro e w' ⟨rfl, rfl⟩) | (go_at_call 244; refine (isLetter_any _ _).mono ?_; rintro e w' ⟨rfl, rfl⟩))
          go_round
          case rel => exact ⟨k + 1, by omega, by go_num, hide (HR.out (by rw [HB.out, h1]; rfl))⟩
          case measure => simp [intOf]; omega
      · have HT : Hid (s.data.toList.all V.markByte = true) := by
          rw [← List.take_of_length_le (l := s.data.toList) (i := k) (by simp; omega)]; exact H.out
        go_wp2
        go_ret
        exact ⟨ret_bool (by rw [HM.out, HT.out, Lib.toList_data]; simp), rfl⟩
  · have HM : Hid (V.mark s.data.toList = V.number s.data.toList) := by
      unfold V.mark; rw [hd]; rfl
    go_enter Tryz.func171, Tryz.ntmps171
    go_wp2_with (first | (go_at_call 176; refine (isDigits_any _ _ hs).mono ?_; rintro e w' ⟨rfl, rfl⟩; rw [hd]) | (go_at_call 170; refine (isNumber_any _ _ hs).mono ?_; rintro e w' ⟨rfl, rfl⟩))
    go_ret
    exact ⟨ret_bool HM.out.symm, rfl⟩

end Go.Proofs.YtcfhleenecfghaaGreatDoor
