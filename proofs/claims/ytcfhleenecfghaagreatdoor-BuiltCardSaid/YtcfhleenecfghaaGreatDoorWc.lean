/- What the program's functions on lists of texts answer: do all of some texts hold; which of two lists is greater. -/
import Derived.Test.YtcfhleenecfghaaGreatDoorWa
import Derived.Test.YtcfhleenecfghaaGreatDoorShelf
namespace Go.Proofs.YtcfhleenecfghaaGreatDoor
open Go.RowKit

theorem compareInt_nat (a b : Nat) : Lib.compareInt (a : Int) (b : Int) = V.cmpInt a b := by
  unfold Lib.compareInt V.cmpInt
  by_cases h1 : a < b
  · have h2 : (a : Int) < b := by omega
    simp [h1, h2]
  · by_cases h3 : b < a
    · have h2 : ¬ (a : Int) < b := by omega
      have h4 : (b : Int) < a := by omega
      simp [h1, h2, h3, h4]
    · have h2 : ¬ (a : Int) < b := by omega
      have h4 : ¬ (b : Int) < a := by omega
      simp [h1, h2, h3, h4]

set_option maxHeartbeats 400000 in
theorem compareNumbers_any (a b : ByteArray) (w : World) :
    Calls Tryz.prog 89 #[.string a, .string b] w fun e w' => e = .returned (.int .i64 (V.cmpNum a.data.toList b.data.toList)) ∧ w' = w := by
  have HC : Hid (V.cmpNum a.data.toList b.data.toList = if V.cmpInt a.size b.size != 0 then V.cmpInt a.size b.size else Lib.compareBytes a.data.toList b.data.toList) := by
    refine hide ?_
    unfold V.cmpNum
    rw [show a.size = a.data.toList.length from by simp, show b.size = b.data.toList.length from by simp]
  cases h : (V.cmpInt a.size b.size != 0)
  all_goals
    go_enter Tryz.func89, Tryz.ntmps89
    go_wp2_with (first | (go_at_call 90; refine (Tryz.cmp_Compare_int _ _ _).mono ?_; rintro e w' ⟨rfl, rfl⟩; rw [compareInt_nat]) | (go_at_call 153; refine (Tryz.strings_Compare _ _ _).mono ?_; rintro e w' ⟨rfl, rfl⟩))
    go_ret
    exact ⟨ret_int (by rw [HC.out, h]; rfl), rfl⟩

set_option maxHeartbeats 400000 in
theorem compareMarks_any (a b : ByteArray) (w : World) (ha : a.size ≤ maxLen) (hb : b.size ≤ maxLen) :
    Calls Tryz.prog 91 #[.string a, .string b] w fun e w' => e = .returned (.int .i64 (V.cmpMark a.data.toList b.data.toList)) ∧ w' = w := by
  cases h1 : V.digits a.data.toList <;> cases h2 : V.digits b.data.toList
  all_goals
    go_enter Tryz.func91, Tryz.ntmps91
    go_wp2_with fail
    refine (isDigits_any _ _ ha).mono ?_
    rintro e w' ⟨rfl, rfl⟩
    rw [h1]
    go_wp2_with fail
    refine (isDigits_any _ _ hb).mono ?_
    rintro e w' ⟨rfl, rfl⟩
    rw [h2]
    go_wp2_with (first | (go_at_call 89; refine (compareNumbers_any _ _ _).mono ?_; rintro e w' ⟨rfl, rfl⟩) | (go_at_call 153; refine (Tryz.strings_Compare _ _ _).mono ?_; rintro e w' ⟨rfl, rfl⟩))
    go_ret
    exact ⟨ret_int (by unfold V.cmpMark; rw [h1, h2]; rfl), rfl⟩

set_option maxHeartbeats 400000 in
theorem all35_any (b c : Nat) (ls : List ByteArray) (w : World) (hl : ls.length ≤ maxLen) (hsz : ∀ x ∈ ls, x.size ≤ maxLen)
    (hc : ∀ j, j < ls.length → w.cell? ⟨b, j, none⟩ = some (.string (ls.getD j ByteArray.empty))) :
    Calls Tryz.prog 169 #[.slice (some ⟨b, 0, none⟩) ls.length c, .func (.func 170) #[] #[]] w fun e w' => e = .returned (.bool (V.allOf V.number ls)) ∧ w' = w := by
  unfold maxLen at hl
  go_enter Tryz.func169, Tryz.ntmps169
  go_wp2
  go_loop [9] (fun i => ∃ k : Nat, k ≤ ls.length ∧ i = .int .i64 k ∧ Hid (V.allOf V.number (ls.take k) = true)) (fun i => ls.length - (intOf i).toNat)
  case atStart => exact ⟨0, Nat.zero_le _, rfl, hide rfl⟩
  case round =>
    obtain ⟨k, hk, rfl, H⟩ := hrel
    by_cases hlt : k < ls.length
    · have hck := hc k hlt
      have hzk : (ls.getD k ByteArray.empty).size ≤ maxLen := by
        rw [V.getD_at _ _ hlt]; exact hsz _ (List.getElem_mem hlt)
      generalize hx : ls.getD k ByteArray.empty = x at hck hzk
      have HX : Hid (ls.getD k ByteArray.empty = x) := hide hx
      clear hx hc hsz
      cases hd : V.number x.data.toList
      · go_wp2_with (go_at_call 170; refine (isNumber_any _ _ hzk).mono ?_; rintro e w' ⟨rfl, rfl⟩; rw [hd])
        go_ret
        exact ⟨ret_bool (V.allOf_not _ ls k hlt (by rw [HX.out, hd])).symm, rfl⟩
      · go_wp2_with (go_at_call 170; refine (isNumber_any _ _ hzk).mono ?_; rintro e w' ⟨rfl, rfl⟩; rw [hd])
        go_round
        case rel => exact ⟨k + 1, by omega, by go_num, hide (V.allOf_snoc _ ls k hlt H.out (by rw [HX.out, hd]))⟩
        case measure => simp [intOf]; omega
    · go_wp2
      go_ret
      exact ⟨ret_bool (by rw [← List.take_of_length_le (l := ls) (i := k) (by omega)]; exact H.out.symm), rfl⟩

set_option maxHeartbeats 400000 in
theorem all36_any (b c : Nat) (ls : List ByteArray) (w : World) (hl : ls.length ≤ maxLen) (hsz : ∀ x ∈ ls, x.size ≤ maxLen)
    (hc : ∀ j, j < ls.length → w.cell? ⟨b, j, none⟩ = some (.string (ls.getD j ByteArray.empty))) :
    Calls Tryz.prog 169 #[.slice (some ⟨b, 0, none⟩) ls.length c, .func (.func 171) #[] #[]] w fun e w' => e = .returned (.bool (V.allOf V.mark ls)) ∧ w' = w := by
  unfold maxLen at hl
  go_enter Tryz.func169, Tryz.ntmps169
  go_wp2
  go_loop [9] (fun i => ∃ k : Nat, k ≤ ls.length ∧ i = .int .i64 k ∧ Hid (V.allOf V.mark (ls.take k) = true)) (fun i => ls.length - (intOf i).toNat)
  case atStart => exact ⟨0, Nat.zero_le _, rfl, hide rfl⟩
  case round =>
    obtain ⟨k, hk, rfl, H⟩ := hrel
    by_cases hlt : k < ls.length
    · have hck := hc k hlt
      have hzk : (ls.getD k ByteArray.empty).size ≤ maxLen := by
        rw [V.getD_at _ _ hlt]; exact hsz _ (List.getElem_mem hlt)
      generalize hx : ls.getD k ByteArray.empty = x at hck hzk
      have HX : Hid (ls.getD k ByteArray.empty = x) := hide hx
      clear hx hc hsz
      cases hd : V.mark x.data.toList
      · go_wp2_with (go_at_call 171; refine (isMark_any _ _ hzk).mono ?_; rintro e w' ⟨rfl, rfl⟩; rw [hd])
        go_ret
        exact ⟨ret_bool (V.allOf_not _ ls k hlt (by rw [HX.out, hd])).symm, rfl⟩
      · go_wp2_with (go_at_call 171; refine (isMark_any _ _ hzk).mono ?_; rintro e w' ⟨rfl, rfl⟩; rw [hd])
        go_round
        case rel => exact ⟨k + 1, by omega, by go_num, hide (V.allOf_snoc _ ls k hlt H.out (by rw [HX.out, hd]))⟩
        case measure => simp [intOf]; omega
    · go_wp2
      go_ret
      exact ⟨ret_bool (by rw [← List.take_of_length_le (l := ls) (i := k) (by omega)]; exact H.out.symm), rfl⟩

set_option maxHeartbeats 400000 in
theorem all36_nil (w : World) :
    Calls Tryz.prog 169 #[.slice none 0 0, .func (.func 171) #[] #[]] w fun e w' => e = .returned (.bool true) ∧ w' = w := by
  go_enter Tryz.func169, Tryz.ntmps169
  go_wp2
  refine wp_loop_rounds 1 ?_
  rw [rounds_succ]
  go_wp2
  go_ret
  exact ⟨rfl, rfl⟩

set_option maxHeartbeats 800000 in
theorem compareFunc21_any (b1 c1 b2 c2 : Nat) (l1 l2 : List ByteArray) (w : World) (hl1 : l1.length ≤ maxLen) (_hl2 : l2.length ≤ maxLen) (hs1 : ∀ x ∈ l1, x.size ≤ maxLen) (hs2 : ∀ x ∈ l2, x.size ≤ maxLen)
    (hc1 : ∀ j, j < l1.length → w.cell? ⟨b1, j, none⟩ = some (.string (l1.getD j ByteArray.empty)))
    (hc2 : ∀ j, j < l2.length → w.cell? ⟨b2, j, none⟩ = some (.string (l2.getD j ByteArray.empty))) :
    Calls Tryz.prog 88 #[.slice (some ⟨b1, 0, none⟩) l1.length c1, .slice (some ⟨b2, 0, none⟩) l2.length c2, .func (.func 89) #[] #[]] w fun e w' => e = .returned (.int .i64 (V.lexB V.cmpNum l1 l2)) ∧ w' = w := by
  unfold maxLen at hl1 _hl2
  go_enter Tryz.func88, Tryz.ntmps88
  go_wp2
  go_loop [13] (fun i => ∃ k : Nat, k ≤ l1.length ∧ k ≤ l2.length ∧ i = .int .i64 k ∧ Hid (V.lexB V.cmpNum l1 l2 = V.lexB V.cmpNum (l1.drop k) (l2.drop k))) (fun i => l1.length - (intOf i).toNat)
  case atStart => exact ⟨0, Nat.zero_le _, Nat.zero_le _, rfl, hide rfl⟩
  case round =>
    obtain ⟨k, hk1, hk2, rfl, H⟩ := hrel
    by_cases hlt1 : k < l1.length
    · have hck1 := hc1 k hlt1
      have hz1 : (l1.getD k ByteArray.empty).size ≤ maxLen := by
        rw [V.getD_at _ _ hlt1]; exact hs1 _ (List.getElem_mem hlt1)
      generalize hx1 : l1.getD k ByteArray.empty = x1 at hck1 hz1
      have HX1 : Hid (l1.getD k ByteArray.empty = x1) := hide hx1
      clear hx1
      by_cases hlt2 : k < l2.length
      · have hck2 := hc2 k hlt2
        have hz2 : (l2.getD k ByteArray.empty).size ≤ maxLen := by
          rw [V.getD_at _ _ hlt2]; exact hs2 _ (List.getElem_mem hlt2)
        generalize hx2 : l2.getD k ByteArray.empty = x2 at hck2 hz2
        have HX2 : Hid (l2.getD k ByteArray.empty = x2) := hide hx2
        clear hx2 hc1 hc2 hs1 hs2
        cases hd : (V.cmpNum x1.data.toList x2.data.toList != 0)
        · go_wp2_with (go_at_call 89; refine (compareNumbers_any _ _ _).mono ?_; rintro e w' ⟨rfl, rfl⟩)
          go_round
          case rel => exact ⟨k + 1, by omega, by omega, by go_num, hide (H.out.trans (V.lexB_step _ l1 l2 k hlt1 hlt2 (by rw [HX1.out, HX2.out]; exact hd)))⟩
          case measure => simp [intOf]; omega
        · go_wp2_with (go_at_call 89; refine (compareNumbers_any _ _ _).mono ?_; rintro e w' ⟨rfl, rfl⟩)
          go_ret
          exact ⟨ret_int (by rw [H.out, V.lexB_hit _ l1 l2 k hlt1 hlt2 (by rw [HX1.out, HX2.out]; exact hd), HX1.out, HX2.out]), rfl⟩
      · clear hc1 hc2 hs1 hs2
        go_wp2
        go_ret
        exact ⟨ret_int (by rw [H.out, V.lexB_over _ l1 l2 k hlt1 (by omega)]), rfl⟩
    · by_cases hlt2 : l1.length < l2.length
      · go_wp2
        go_ret
        exact ⟨ret_int (by rw [H.out, V.lexB_less _ l1 l2 k (by omega) (by omega)]), rfl⟩
      · go_wp2
        go_ret
        exact ⟨ret_int (by rw [H.out, V.lexB_same _ l1 l2 k (by omega) (by omega)]), rfl⟩

set_option maxHeartbeats 800000 in
theorem compareFunc23_any (b1 c1 b2 c2 : Nat) (l1 l2 : List ByteArray) (w : World) (hl1 : l1.length ≤ maxLen) (_hl2 : l2.length ≤ maxLen) (hs1 : ∀ x ∈ l1, x.size ≤ maxLen) (hs2 : ∀ x ∈ l2, x.size ≤ maxLen)
    (hc1 : ∀ j, j < l1.length → w.cell? ⟨b1, j, none⟩ = some (.string (l1.getD j ByteArray.empty)))
    (hc2 : ∀ j, j < l2.length → w.cell? ⟨b2, j, none⟩ = some (.string (l2.getD j ByteArray.empty))) :
    Calls Tryz.prog 88 #[.slice (some ⟨b1, 0, none⟩) l1.length c1, .slice (some ⟨b2, 0, none⟩) l2.length c2, .func (.func 91) #[] #[]] w fun e w' => e = .returned (.int .i64 (V.lexB V.cmpMark l1 l2)) ∧ w' = w := by
  unfold maxLen at hl1 _hl2
  go_enter Tryz.func88, Tryz.ntmps88
  go_wp2
  go_loop [13] (fun i => ∃ k : Nat, k ≤ l1.length ∧ k ≤ l2.length ∧ i = .int .i64 k ∧ Hid (V.lexB V.cmpMark l1 l2 = V.lexB V.cmpMark (l1.drop k) (l2.drop k))) (fun i => l1.length - (intOf i).toNat)
  case atStart => exact ⟨0, Nat.zero_le _, Nat.zero_le _, rfl, hide rfl⟩
  case round =>
    obtain ⟨k, hk1, hk2, rfl, H⟩ := hrel
    by_cases hlt1 : k < l1.length
    · have hck1 := hc1 k hlt1
      have hz1 : (l1.getD k ByteArray.empty).size ≤ maxLen := by
        rw [V.getD_at _ _ hlt1]; exact hs1 _ (List.getElem_mem hlt1)
      generalize hx1 : l1.getD k ByteArray.empty = x1 at hck1 hz1
      have HX1 : Hid (l1.getD k ByteArray.empty = x1) := hide hx1
      clear hx1
      by_cases hlt2 : k < l2.length
      · have hck2 := hc2 k hlt2
        have hz2 : (l2.getD k ByteArray.empty).size ≤ maxLen := by
          rw [V.getD_at _ _ hlt2]; exact hs2 _ (List.getElem_mem hlt2)
        generalize hx2 : l2.getD k ByteArray.empty = x2 at hck2 hz2
        have HX2 : Hid (l2.getD k ByteArray.empty = x2) := hide hx2
        clear hx2 hc1 hc2 hs1 hs2
        cases hd : (V.cmpMark x1.data.toList x2.data.toList != 0)
        · go_wp2_with (go_at_call 91; refine (compareMarks_any _ _ _ hz1 hz2).mono ?_; rintro e w' ⟨rfl, rfl⟩)
          go_round
          case rel => exact ⟨k + 1, by omega, by omega, by go_num, hide (H.out.trans (V.lexB_step _ l1 l2 k hlt1 hlt2 (by rw [HX1.out, HX2.out]; exact hd)))⟩
          case measure => simp [intOf]; omega
        · go_wp2_with (go_at_call 91; refine (compareMarks_any _ _ _ hz1 hz2).mono ?_; rintro e w' ⟨rfl, rfl⟩)
          go_ret
          exact ⟨ret_int (by rw [H.out, V.lexB_hit _ l1 l2 k hlt1 hlt2 (by rw [HX1.out, HX2.out]; exact hd), HX1.out, HX2.out]), rfl⟩
      · clear hc1 hc2 hs1 hs2
        go_wp2
        go_ret
        exact ⟨ret_int (by rw [H.out, V.lexB_over _ l1 l2 k hlt1 (by omega)]), rfl⟩
    · by_cases hlt2 : l1.length < l2.length
      · go_wp2
        go_ret
        exact ⟨ret_int (by rw [H.out, V.lexB_less _ l1 l2 k (by omega) (by omega)]), rfl⟩
      · go_wp2
        go_ret
        exact ⟨ret_int (by rw [H.out, V.lexB_same _ l1 l2 k (by omega) (by omega)]), rfl⟩

end Go.Proofs.YtcfhleenecfghaaGreatDoor
