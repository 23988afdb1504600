/- The reference's Parts: a text's numbers and marks, where it is a version; nothing, where it is none. -/
import Derived.Test.YtcfhleenecfghaaDoorWf
import Derived.Test.YtcfhleenecfghaaDoorPlan2
namespace Go.Proofs.YtcfhleenecfghaaDoor
open Go.RowKit

theorem pieces_dot (s : ByteArray) (w : World) (hs : s.size ≤ 40) :
    Calls Tryd.prog 58 #[.string s, .int .u8 46] w fun e w' => ∃ v, e = .returned v ∧ Txt w.heap.size w' v (V.pieces 46 s.data.toList) ∧ Below w.heap.size w w' := by
  have h := pieces_any s 46 w hs
  rw [show (((46 : UInt8).toNat : Nat) : Int) = 46 from rfl] at h
  exact h

/-- What Parts answers. -/
def PartsPost (s : ByteArray) (w : World) (e : Ending) (w' : World) : Prop :=
  ((V.ver s.data.toList = true ∧ ∃ v1 v2, e = .returned (.tuple #[v1, v2, .bool true]) ∧ Txt w.heap.size w' v1 (V.parts s.data.toList).1 ∧ ((v2 = .slice none 0 0 ∧ (V.parts s.data.toList).2 = []) ∨ Txt w.heap.size w' v2 (V.parts s.data.toList).2)) ∨ (V.ver s.data.toList = false ∧ e = .returned (.tuple #[.slice none 0 0, .slice none 0 0, .bool false]))) ∧ Below w.heap.size w w'

theorem extract_one (s : ByteArray) : (s.extract 1 s.size).data.toList = s.data.toList.drop 1 := Lib.extract_to_end s 1

set_option maxHeartbeats 3200000 in
theorem Parts_any (s : ByteArray) (w : World) : Calls Tryd.prog 44 #[.string s] w (PartsPost s w) := by
  have hlen : s.data.toList.length = s.size := by simp
  by_cases h40 : 40 < s.size
  · have HV := hide (V.ver_long (l := s.data.toList) (by omega))
    clear hlen
    go_enter Tryd.func44, Tryd.ntmps44
    go_wp2
    go_ret3
    exact ⟨Or.inr ⟨HV.out, rfl⟩, Below.refl _ _⟩
  by_cases h0 : s.size = 0
  · have HV : Hid (V.ver s.data.toList = false) := by
      refine hide (V.ver_head ?_)
      rw [List.length_eq_zero_iff.1 (hlen.trans h0)]; rfl
    have h0' : ((s.size : Int) == 0) = true := beq_iff_eq.2 (by omega)
    clear hlen h0
    go_enter Tryd.func44, Tryd.ntmps44
    go_wp2
    go_ret3
    exact ⟨Or.inr ⟨HV.out, rfl⟩, Below.refl _ _⟩
  have hpos : 0 < s.size := by omega
  have h0' : ((s.size : Int) == 0) = false := beq_eq_false_iff_ne.2 (by omega)
  have HH := hide (head_of s hpos)
  cases h118 : ((s[0].toNat : Int) != 118)
  rotate_left
  · have HV : Hid (V.ver s.data.toList = false) := by
      refine hide (V.ver_head ?_)
      rw [HH.out]
      rw [show (118 : Int) = ((118 : Nat) : Int) from rfl, ne_byte s[0] 118 118 rfl] at h118
      have := bne_iff_ne.1 h118
      simp [this]
    clear hlen h0
    go_enter Tryd.func44, Tryd.ntmps44
    go_wp2
    go_ret3
    exact ⟨Or.inr ⟨HV.out, rfl⟩, Below.refl _ _⟩
  have HH8 : Hid (s.data.toList.head? = some 118) := by
    refine hide ?_
    rw [HH.out]
    rw [show (118 : Int) = ((118 : Nat) : Int) from rfl, ne_byte s[0] 118 118 rfl] at h118
    rw [bne_eq_false_iff_eq.1 h118]
  have HV := hide (V.ver_of (l := s.data.toList) (by omega) HH8.out)
  have HLEN := hide hlen
  clear hlen h0
  go_enter Tryd.func44, Tryd.ntmps44
  go_wp2
  go_loop [5] (fun t => ∃ e : Nat, 1 ≤ e ∧ e ≤ s.size ∧ t = .int .i64 e ∧ Hid (∀ j, 1 ≤ j → j < e → s.data.toList[j]? ≠ some 45)) (fun t => s.size - (intOf t).toNat)
  case atStart => exact ⟨1, Nat.le_refl _, by omega, rfl, hide (fun j h1 h2 => by omega)⟩
  case round =>
    obtain ⟨e, h1, h2, rfl, HK⟩ := hrel
    by_cases hlt : e < s.size
    · have HG : Hid (s.data.toList[e]? = some s[e]) := hide (Lib.data_getElem? s e hlt)
      cases h45 : ((s[e].toNat : Int) != 45)
      · have HP : Hid (V.parts s.data.toList = (V.pieces 46 ((s.data.toList.drop 1).take (e - 1)), V.pieces 46 (s.data.toList.drop (e + 1)))) := by
          refine hide (V.parts_dash HH8.out h1 ?_ HK.out)
          rw [HG.out]
          rw [show (45 : Int) = ((45 : Nat) : Int) from rfl, ne_byte s[e] 45 45 rfl] at h45
          rw [bne_eq_false_iff_eq.1 h45]
        have hne : ((e : Int) == (s.size : Int)) = false := beq_eq_false_iff_ne.2 (by omega)
        go_wp2_with fail
        refine (pieces_dot (s.extract 1 e) _ (by rw [ByteArray.size_extract]; omega)).mono ?_
        rintro e1 w1 ⟨v1, rfl, hv1, hb1⟩
        have HB1 := hide hb1
        have hw1 := hb1.size
        have HV1 := hide hv1
        obtain ⟨b1, c1, ls1, e1, hL1, hB1, hlt1, hl1, hz1, hc1⟩ := hv1
        have HP1 : Hid ((V.parts s.data.toList).1 = ls1.map (·.data.toList)) := by
          refine hide ?_
          rw [HP.out, hL1, extract_list]
        have HC1 := hide hc1
        have HZ1 := hide hz1
        clear hL1 hc1 hz1 hb1
        subst e1
        cases h3 : ((ls1.length : Int) != 3)
        rotate_left
        · go_wp2
          go_ret3
          refine ⟨Or.inr ⟨?_, rfl⟩, HB1.out⟩
          have : (ls1.length == 3) = false := by
            rw [beq_eq_false_iff_ne]; have := bne_iff_ne.1 h3; omega
          rw [HV.out, HP1.out, List.length_map, this]; rfl
        have hl3 : ls1.length = 3 := by
          have := bne_eq_false_iff_eq.1 h3; omega
        have HL3 := hide hl3
        have hl3' : 3 ≤ ls1.length := by omega
        clear hl3
        go_wp2
        go_loop [7] (fun t => ∃ k : Nat, k ≤ 3 ∧ t = .int .i64 k ∧ Hid (V.allOf V.number (ls1.take k) = true)) (fun t => 3 - (intOf t).toNat)
        case atStart => exact ⟨0, Nat.zero_le _, rfl, hide rfl⟩
        case round =>
          obtain ⟨k, hk, rfl, H⟩ := hrel
          by_cases hk3 : k < 3
          · have hkl : k < ls1.length := by omega
            have hck := HC1.out k hkl
            have hzk : (ls1.getD k ByteArray.empty).size ≤ maxLen := by
              rw [V.getD_at _ _ hkl]; exact HZ1.out _ (List.getElem_mem hkl)
            generalize hx : ls1.getD k ByteArray.empty = x at hck hzk
            have HX : Hid (ls1.getD k ByteArray.empty = x) := hide hx
            clear hx
            cases hd : V.number x.data.toList
            · go_wp2_with (go_at_call 59; refine (number_any _ _ hzk).mono ?_; rintro e w' ⟨rfl, rfl⟩; rw [hd])
              go_ret3
              refine ⟨Or.inr ⟨?_, rfl⟩, HB1.out⟩
              rw [HV.out, HP1.out, ← V.allOf_map, V.allOf_not _ ls1 k hkl (by rw [HX.out, hd])]; simp
            · go_wp2_with (go_at_call 59; refine (number_any _ _ hzk).mono ?_; rintro e w' ⟨rfl, rfl⟩; rw [hd])
              go_round
              case rel => exact ⟨k + 1, by omega, by go_num, hide (V.allOf_snoc _ ls1 k hkl H.out (by rw [HX.out, hd]))⟩
              case measure => simp [intOf]; omega
          · have HA : Hid (V.allOf V.number ls1 = true) := by
              refine hide ?_
              rw [← List.take_of_length_le (l := ls1) (i := k) (by have := HL3.out; omega)]; exact H.out
            clear H
            go_wp2_with fail
            refine (pieces_dot (s.extract (e + 1) s.size) _ (by rw [ByteArray.size_extract]; omega)).mono ?_
            rintro e2 w2 ⟨v2, rfl, hv2, hb2⟩
            have HB2 := hide hb2
            have HT1 := hide (HV1.out.later hb2)
            have HV2 := hide hv2
            obtain ⟨b2, c2, ls2, e2, hL2, hB2, hlt2, hl2, hz2, hc2⟩ := hv2
            have HP2 : Hid ((V.parts s.data.toList).2 = ls2.map (·.data.toList)) := by
              refine hide ?_
              rw [HP.out, hL2, Lib.extract_to_end]
            have HC2 := hide hc2
            have HZ2 := hide hz2
            have hl2' : ls2.length ≤ 2 ^ 63 - 1 := by unfold maxLen at hl2; exact hl2
            clear hL2 hc2 hz2 hb2
            subst e2
            have HBB : Hid (Below w.heap.size w w2) := hide (HB1.out.trans (HB2.out.mono hw1))
            have HVN : Hid (V.ver s.data.toList = V.allOf V.mark ls2) := by
              refine hide ?_
              rw [HV.out, HP1.out, List.length_map, ← V.allOf_map, HA.out, HP2.out, ← V.allOf_map, HL3.out]; simp
            go_wp2
            go_loop [10] (fun t => ∃ k : Nat, k ≤ ls2.length ∧ t = .int .i64 k ∧ Hid (V.allOf V.mark (ls2.take k) = true)) (fun t => ls2.length - (intOf t).toNat)
            case atStart => exact ⟨0, Nat.zero_le _, rfl, hide rfl⟩
            case round =>
              obtain ⟨k2, hk2, rfl, H2⟩ := hrel
              by_cases hkl : k2 < ls2.length
              · have hck := HC2.out k2 hkl
                have hzk : (ls2.getD k2 ByteArray.empty).size ≤ maxLen := by
                  rw [V.getD_at _ _ hkl]; exact HZ2.out _ (List.getElem_mem hkl)
                generalize hx : ls2.getD k2 ByteArray.empty = x at hck hzk
                have HX : Hid (ls2.getD k2 ByteArray.empty = x) := hide hx
                clear hx
                have HM := hide (V.mark_only x.data.toList)
                cases ha : V.only x.data.toList V.marks <;> cases hd : V.digits x.data.toList <;> cases hn : V.number x.data.toList
                all_goals
                  go_wp2_with fail
                  refine (only_marks_any _ _ hzk).mono ?_
                  rintro e w' ⟨rfl, rfl⟩
                  rw [ha]
                  go_wp2_with fail
                  refine (only_digs_any _ _ hzk).mono ?_
                  rintro e w' ⟨rfl, rfl⟩
                  rw [hd]
                  go_wp2_with fail
                  refine (number_any _ _ hzk).mono ?_
                  rintro e w' ⟨rfl, rfl⟩
                  rw [hn]
                  go_wp2
                  first
                    | (go_round
                       case rel => exact ⟨k2 + 1, by omega, by go_num, hide (V.allOf_snoc _ ls2 k2 hkl H2.out (by rw [HX.out, HM.out, ha, hd, hn]; rfl))⟩
                       case measure => simp [intOf]; omega)
                    | (go_ret3
                       refine ⟨Or.inr ⟨?_, rfl⟩, HBB.out⟩
                       rw [HVN.out, V.allOf_not _ ls2 k2 hkl (by rw [HX.out, HM.out, ha, hd, hn]; rfl)])
              · have HA2 : Hid (V.allOf V.mark ls2 = true) := by
                  refine hide ?_
                  rw [← List.take_of_length_le (l := ls2) (i := k2) (by omega)]; exact H2.out
                go_wp2
                go_ret3
                refine ⟨Or.inl ⟨?_, _, _, rfl, ?_, Or.inr ?_⟩, HBB.out⟩
                · rw [HVN.out, HA2.out]
                · rw [HP.out, ← extract_list]; exact HT1.out
                · have ht := HV2.out.mono hw1
                  rw [Lib.extract_to_end] at ht
                  rw [HP.out]
                  exact ht
      · have HN : Hid (s.data.toList[e]? ≠ some 45) := by
          refine hide ?_
          rw [HG.out]
          intro ee
          injection ee with ee
          rw [ee] at h45
          simp at h45
        go_wp2
        go_round
        case rel =>
          refine ⟨e + 1, by omega, by omega, by go_num, hide (fun j hj hl => ?_)⟩
          by_cases ej : j = e
          · subst ej; exact HN.out
          · exact HK.out j hj (by omega)
        case measure => simp [intOf]; omega
    · have he : e = s.size := by omega
      subst he
      have HP : Hid (V.parts s.data.toList = (V.pieces 46 (s.data.toList.drop 1), [])) :=
        hide (V.parts_end HH8.out (fun j hj hl => HK.out j hj (by have := HLEN.out; omega)))
      have heq : ((s.size : Int) == (s.size : Int)) = true := beq_self_eq_true _
      go_wp2_with fail
      refine (pieces_dot (s.extract 1 s.size) _ (by rw [ByteArray.size_extract]; omega)).mono ?_
      rintro e1 w1 ⟨v1, rfl, hv1, hb1⟩
      have HB1 := hide hb1
      have hw1 := hb1.size
      have HV1 := hide hv1
      obtain ⟨b1, c1, ls1, e1, hL1, hB1, hlt1, hl1, hz1, hc1⟩ := hv1
      have HP1 : Hid ((V.parts s.data.toList).1 = ls1.map (·.data.toList)) := by
        refine hide ?_
        rw [HP.out, hL1, extract_one]
      have HC1 := hide hc1
      have HZ1 := hide hz1
      clear hL1 hc1 hz1 hb1
      subst e1
      cases h3 : ((ls1.length : Int) != 3)
      rotate_left
      · go_wp2
        go_ret3
        refine ⟨Or.inr ⟨?_, rfl⟩, HB1.out⟩
        have : (ls1.length == 3) = false := by
          rw [beq_eq_false_iff_ne]; have := bne_iff_ne.1 h3; omega
        rw [HV.out, HP1.out, List.length_map, this]; rfl
      have hl3 : ls1.length = 3 := by
        have := bne_eq_false_iff_eq.1 h3; omega
      have HL3 := hide hl3
      have hl3' : 3 ≤ ls1.length := by omega
      clear hl3
      go_wp2
      go_loop [7] (fun t => ∃ k : Nat, k ≤ 3 ∧ t = .int .i64 k ∧ Hid (V.allOf V.number (ls1.take k) = true)) (fun t => 3 - (intOf t).toNat)
      case atStart => exact ⟨0, Nat.zero_le _, rfl, hide rfl⟩
      case round =>
        obtain ⟨k, hk, rfl, H⟩ := hrel
        by_cases hk3 : k < 3
        · have hkl : k < ls1.length := by omega
          have hck := HC1.out k hkl
          have hzk : (ls1.getD k ByteArray.empty).size ≤ maxLen := by
            rw [V.getD_at _ _ hkl]; exact HZ1.out _ (List.getElem_mem hkl)
          generalize hx : ls1.getD k ByteArray.empty = x at hck hzk
          have HX : Hid (ls1.getD k ByteArray.empty = x) := hide hx
          clear hx
          cases hd : V.number x.data.toList
          · go_wp2_with (go_at_call 59; refine (number_any _ _ hzk).mono ?_; rintro e w' ⟨rfl, rfl⟩; rw [hd])
            go_ret3
            refine ⟨Or.inr ⟨?_, rfl⟩, HB1.out⟩
            rw [HV.out, HP1.out, ← V.allOf_map, V.allOf_not _ ls1 k hkl (by rw [HX.out, hd])]; simp
          · go_wp2_with (go_at_call 59; refine (number_any _ _ hzk).mono ?_; rintro e w' ⟨rfl, rfl⟩; rw [hd])
            go_round
            case rel => exact ⟨k + 1, by omega, by go_num, hide (V.allOf_snoc _ ls1 k hkl H.out (by rw [HX.out, hd]))⟩
            case measure => simp [intOf]; omega
        · have HA : Hid (V.allOf V.number ls1 = true) := by
            refine hide ?_
            rw [← List.take_of_length_le (l := ls1) (i := k) (by have := HL3.out; omega)]; exact H.out
          clear H
          go_wp2
          go_ret3
          refine ⟨Or.inl ⟨?_, _, _, rfl, ?_, Or.inl ⟨rfl, ?_⟩⟩, HB1.out⟩
          · rw [HV.out, HP1.out, List.length_map, ← V.allOf_map, HA.out, HP.out, HL3.out]; rfl
          · rw [HP.out, ← extract_one]; exact HV1.out
          · rw [HP.out]

end Go.Proofs.YtcfhleenecfghaaDoor
