/- Is any text a path? -/
import Derived.Test.YtcfhleenecfghaaGreatDoorXa
namespace Go.Proofs.YtcfhleenecfghaaGreatDoor
open Go.RowKit


theorem int_beq (a b : Nat) : ((a : Int) == (b : Int)) = (a == b) := by
  rw [Bool.eq_iff_iff]; simp only [beq_iff_eq]; omega

set_option maxHeartbeats 1600000 in
theorem isPathByte_any (b : UInt8) (w : World) :
    Calls Tryz.prog 411 #[.int .u8 (b.toNat : Int)] w fun e w' => e = .returned (.bool (V.pathByte b)) ∧ w' = w := by
  have HV : Hid (V.pathByte b = ((b.toNat : Int) == 46 || (b.toNat : Int) == 45 || (b.toNat : Int) == 95 || (decide (97 ≤ (b.toNat : Int)) && decide ((b.toNat : Int) ≤ 122)) || (decide (48 ≤ (b.toNat : Int)) && decide ((b.toNat : Int) ≤ 57)))) := by
    refine hide ?_
    unfold V.pathByte
    rw [show (46 : Int) = ((46 : Nat) : Int) from rfl, show (45 : Int) = ((45 : Nat) : Int) from rfl, show (95 : Int) = ((95 : Nat) : Int) from rfl, int_beq, int_beq, int_beq]
    congr 2
    · congr 1 <;> rw [decide_eq_decide] <;> omega
    · rw [decide_eq_decide]; omega
    · rw [decide_eq_decide]; omega
  generalize (b.toNat : Int) = x at HV ⊢
  cases h1 : (x == 46)
  · cases h2 : (x == 45)
    · cases h3 : (x == 95)
      · by_cases h4 : 97 ≤ x <;> by_cases h5 : x ≤ 122 <;> by_cases h6 : 48 ≤ x <;> by_cases h7 : x ≤ 57
        all_goals
          go_enter Tryz.func411, Tryz.ntmps411
          go_wp2
          go_ret
          exact ⟨ret_bool (by rw [HV.out, h1, h2, h3]; simp [h4, h5, h6, h7]), rfl⟩
      · go_enter Tryz.func411, Tryz.ntmps411
        go_wp2
        go_ret
        exact ⟨ret_bool (by rw [HV.out, h1, h2, h3]; rfl), rfl⟩
    · go_enter Tryz.func411, Tryz.ntmps411
      go_wp2
      go_ret
      exact ⟨ret_bool (by rw [HV.out, h1, h2]; rfl), rfl⟩
  · go_enter Tryz.func411, Tryz.ntmps411
    go_wp2
    go_ret
    exact ⟨ret_bool (by rw [HV.out, h1]; rfl), rfl⟩

set_option maxHeartbeats 1600000 in
set_option maxRecDepth 100000 in
theorem isSegment_any (s : ByteArray) (w : World) (hs : s.size ≤ maxLen) :
    Calls Tryz.prog 354 #[.string s] w fun e w' => e = .returned (.bool (V.segment s.data.toList)) ∧ w' = w := by
  have hs' := hs
  unfold maxLen at hs'
  have HM : Hid (V.segment s.data.toList = (s.data.toList.all V.pathByte && (!(s.toList == []) && (!(s.toList == [46]) && !(s.toList == [46, 46]))))) := by
    refine hide ?_
    rw [Lib.toList_data]; rfl
  go_enter Tryz.func354, Tryz.ntmps354
  go_wp2
  go_loop [6] (fun i => ∃ k : Nat, k ≤ s.size ∧ i = .int .i64 k ∧ Hid ((s.data.toList.take k).all V.pathByte = true)) (fun i => s.size - (intOf i).toNat)
  case atStart => exact ⟨0, Nat.zero_le _, rfl, hide (by simp)⟩
  case round =>
    obtain ⟨k, hk, rfl, H⟩ := hrel
    by_cases hlt : k < s.size
    · have HL : Hid (V.pathByte s[k] = false → s.data.toList.all V.pathByte = false) := by
        intro hf
        rw [List.all_eq_false]
        exact ⟨s[k], by rw [show s[k] = s.data.toList[k]'(by simpa using hlt) from rfl]; exact List.getElem_mem _, by simp [hf]⟩
      have HR : Hid (V.pathByte s[k] = true → (s.data.toList.take (k + 1)).all V.pathByte = true) := by
        intro ht
        rw [take_snoc s k hlt, List.all_append, H.out]; simp [ht]
      cases h1 : V.pathByte s[k]
      · go_wp2_with (go_at_call 411; refine (isPathByte_any _ _).mono ?_; rintro e w' ⟨rfl, rfl⟩)
        go_ret
        exact ⟨ret_bool (by rw [HM.out, HL.out h1]; rfl), rfl⟩
      · go_wp2_with (go_at_call 411; refine (isPathByte_any _ _).mono ?_; rintro e w' ⟨rfl, rfl⟩)
        go_round
        case rel => exact ⟨k + 1, by omega, by go_num, hide (HR.out h1)⟩
        case measure => simp [intOf]; omega
    · have HA : Hid (s.data.toList.all V.pathByte = true) := by
        refine hide ?_
        rw [← List.take_of_length_le (l := s.data.toList) (i := k) (by simp; omega)]; exact H.out
      cases h0 : (s.toList == [])
      · cases h1 : (s.toList == [46])
        · cases h2 : (s.toList == [46, 46])
          all_goals
            go_wp2
            go_ret
            exact ⟨ret_bool (by rw [HM.out, HA.out, h0, h1, h2]; rfl), rfl⟩
        · go_wp2
          go_ret
          exact ⟨ret_bool (by rw [HM.out, HA.out, h0, h1]; rfl), rfl⟩
      · go_wp2
        go_ret
        exact ⟨ret_bool (by rw [HM.out, HA.out, h0]; rfl), rfl⟩

end Go.Proofs.YtcfhleenecfghaaGreatDoor
