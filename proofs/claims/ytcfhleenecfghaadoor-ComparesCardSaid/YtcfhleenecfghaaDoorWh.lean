/- The reference's order of two versions. -/
import Derived.Test.YtcfhleenecfghaaDoorWg
import Derived.Test.YtcfhleenecfghaaDoorWe
namespace Go.Proofs.YtcfhleenecfghaaDoor
open Go.RowKit

set_option maxHeartbeats 400000 in
theorem refIsVersion_any (s : ByteArray) (w : World) :
    Calls Tryd.prog 24 #[.string s] w fun e w' => e = .returned (.bool (V.ver s.data.toList)) ∧ Below w.heap.size w w' := by
  go_enter Tryd.func24, Tryd.ntmps24
  go_wp2_with fail
  refine (Parts_any s _).mono ?_
  rintro e w1 ⟨⟨hv, v1, v2, rfl, _, _⟩ | ⟨hv, rfl⟩, hb⟩
  all_goals
    have HB := hide hb
    have HV := hide hv
    clear hb hv
    go_wp2
    go_ret
    exact ⟨ret_bool HV.out.symm, HB.out⟩

set_option maxHeartbeats 400000 in
theorem numbers_any (a b : ByteArray) (w : World) :
    Calls Tryd.prog 45 #[.string a, .string b] w fun e w' => e = .returned (.int .i64 (V.cmpNum a.data.toList b.data.toList)) ∧ w' = w := by
  have HC : Hid (V.cmpNum a.data.toList b.data.toList = if V.cmpInt a.size b.size != 0 then V.cmpInt a.size b.size else Lib.compareBytes a.data.toList b.data.toList) := by
    refine hide ?_
    unfold V.cmpNum
    rw [show a.size = a.data.toList.length from by simp, show b.size = b.data.toList.length from by simp]
  by_cases h1 : a.size < b.size
  · have HI : Hid (V.cmpInt a.size b.size = -1) := by
      refine hide ?_
      unfold V.cmpInt; rw [if_pos h1]
    go_enter Tryd.func45, Tryd.ntmps45
    go_wp2
    go_ret
    exact ⟨ret_int (by rw [HC.out, HI.out]; rfl), rfl⟩
  · by_cases h2 : b.size < a.size
    · have HI : Hid (V.cmpInt a.size b.size = 1) := by
        refine hide ?_
        unfold V.cmpInt; rw [if_neg h1, if_pos h2]
      go_enter Tryd.func45, Tryd.ntmps45
      go_wp2
      go_ret
      exact ⟨ret_int (by rw [HC.out, HI.out]; rfl), rfl⟩
    · have HI : Hid (V.cmpInt a.size b.size = 0) := by
        refine hide ?_
        unfold V.cmpInt; rw [if_neg h1, if_neg h2]
      go_enter Tryd.func45, Tryd.ntmps45
      go_wp2_with (go_at_call 47; refine (texts_any _ _ _).mono ?_; rintro e w' ⟨rfl, rfl⟩)
      go_ret
      exact ⟨ret_int (by rw [HC.out, HI.out]; rfl), rfl⟩

set_option maxRecDepth 100000 in
set_option maxHeartbeats 3200000 in
theorem Order_any (a b : ByteArray) (w : World) (hva : V.ver a.data.toList = true) (hvb : V.ver b.data.toList = true) :
    Calls Tryd.prog 25 #[.string a, .string b] w fun e w' => e = .returned (.int .i64 (V.order a.data.toList b.data.toList)) ∧ Below w.heap.size w w' := by
  have HVA := hide hva
  have HVB := hide hvb
  clear hva hvb
  go_enter Tryd.func25, Tryd.ntmps25
  go_wp2_with fail
  refine (Parts_any a _).mono ?_
  rintro e w1 ⟨⟨hv, v1, v2, rfl, hv1, hv2⟩ | ⟨hv, rfl⟩, hb1⟩
  rotate_left
  · rw [HVA.out] at hv; cases hv
  have HB1 := hide hb1
  clear hv hb1
  go_wp2_with fail
  refine (Parts_any b _).mono ?_
  rintro e w2 ⟨⟨hv, u1, u2, rfl, hu1, hu2⟩ | ⟨hv, rfl⟩, hb2⟩
  rotate_left
  · rw [HVB.out] at hv; cases hv
  have HB2 := hide hb2
  replace hv1 := hv1.later hb2
  replace hv2 : (v2 = .slice none 0 0 ∧ (V.parts a.data.toList).2 = []) ∨ Txt w.heap.size w2 v2 (V.parts a.data.toList).2 := by
    rcases hv2 with h | h
    · exact Or.inl h
    · exact Or.inr (h.later hb2)
  clear hb2 hv
  have hBB : Below w.heap.size w w2 := HB1.out.trans (HB2.out.mono HB1.out.size)
  have HBB := hide hBB
  have hsz : w.heap.size ≤ w2.heap.size := hBB.size
  clear hBB
  obtain ⟨b1, c1, l1, e1, hL1, hB1, hlt1, hl1, hz1, hc1⟩ := hv1
  obtain ⟨b2, c2, l2, e2, hL2, hB2, hlt2, hl2, hz2, hc2⟩ := hu1
  have HX : Hid (V.lex V.cmpNum (V.parts a.data.toList).1 (V.parts b.data.toList).1 = V.lexB V.cmpNum l1 l2) := by
    refine hide ?_
    rw [← hL1, ← hL2]; rfl
  have h3 : l1.length = 3 ∧ l2.length = 3 := by
    have q1 := V.ver_three HVA.out
    have q2 := V.ver_three HVB.out
    rw [← hL1, List.length_map] at q1
    rw [← hL2, List.length_map] at q2
    exact ⟨q1, q2⟩
  have g1 : 3 ≤ l1.length ∧ l1.length ≤ 3 := by omega
  have g2 : 3 ≤ l2.length ∧ l2.length ≤ 3 := by omega
  obtain ⟨g1a, g1b⟩ := g1
  obtain ⟨g2a, g2b⟩ := g2
  have HC1 := hide hc1
  have HC2 := hide hc2
  have HZ1 := hide hz1
  have HZ2 := hide hz2
  clear hL1 hL2 hc1 hc2 hz1 hz2 h3
  subst e1 e2
  obtain ⟨a3, c3, l3, e3, hL3, hl3, hz3, hc3⟩ := marks_of hv2
  obtain ⟨a4, c4, l4, e4, hL4, hl4, hz4, hc4⟩ := marks_of hu2
  have HL3 := hide hL3
  have HL4 := hide hL4
  have HC3 := hide hc3
  have HC4 := hide hc4
  have HZ3 := hide hz3
  have HZ4 := hide hz4
  clear hv2 hu2 hL3 hL4 hc3 hc4 hz3 hz4
  subst e3 e4
  have HE : Hid (((V.parts a.data.toList).2.isEmpty || (V.parts b.data.toList).2.isEmpty) = (((l3.length : Int) == 0) || ((l4.length : Int) == 0))) := by
    refine hide ?_
    rw [empty_int, empty_int, ← HL3.out, ← HL4.out, List.length_map, List.length_map]
  have HI : Hid (V.cmpInt (V.parts b.data.toList).2.length (V.parts a.data.toList).2.length = V.cmpInt l4.length l3.length) := by
    refine hide ?_
    rw [← HL3.out, ← HL4.out, List.length_map, List.length_map]
  go_wp2
  go_loopw [11] (fun t wr => ∃ k : Nat, k ≤ 3 ∧ t = .int .i64 k ∧ Below w2.heap.size w2 wr ∧ Hid (V.lexB V.cmpNum l1 l2 = V.lexB V.cmpNum (l1.drop k) (l2.drop k))) (fun t _ => 3 - (intOf t).toNat)
  case atStart => exact ⟨0, Nat.zero_le _, rfl, Below.refl _ _, hide rfl⟩
  case round =>
    obtain ⟨k, hk, rfl, hbr, H⟩ := hrel
    by_cases hk3 : k < 3
    · have hk1 : k < l1.length := by omega
      have hk2 : k < l2.length := by omega
      have i1 : (k : Int) < (l1.length : Int) := by omega
      have i2 : (k : Int) < (l2.length : Int) := by omega
      have hck1 := keep hbr (HC1.out k hk1)
      have hck2 := keep hbr (HC2.out k hk2)
      have HBR := hide hbr
      clear hbr
      generalize hx1 : l1.getD k ByteArray.empty = x1 at hck1
      have HX1 : Hid (l1.getD k ByteArray.empty = x1) := hide hx1
      clear hx1
      generalize hx2 : l2.getD k ByteArray.empty = x2 at hck2
      have HX2 : Hid (l2.getD k ByteArray.empty = x2) := hide hx2
      clear hx2
      cases hd : (V.cmpNum x1.data.toList x2.data.toList != 0)
      · go_wp2_with fail
        go_quiet ((go_at_call 45; exact Calls.quiet_of_same (numbers_any _ _ _)))
        go_wp2
        exact ⟨⟨k + 1, by omega, by go_num, below_drewN HBR.out _, hide (H.out.trans (V.lexB_step _ l1 l2 k hk1 hk2 (by rw [HX1.out, HX2.out]; exact hd)))⟩, by simp [intOf]; omega⟩
      · have HO := hide (order_first (a := a.data.toList) (b := b.data.toList) (by rw [HX.out, H.out, V.lexB_hit _ l1 l2 k hk1 hk2 (by rw [HX1.out, HX2.out]; exact hd), HX1.out, HX2.out]; exact hd))
        have HW := hide (HBB.out.trans (HBR.out.mono hsz))
        go_wp2_with fail
        go_quiet ((go_at_call 45; exact Calls.quiet_of_same (numbers_any _ _ _)))
        go_wp2
        go_ret
        exact ⟨ret_int (by rw [HO.out, HX.out, H.out, V.lexB_hit _ l1 l2 k hk1 hk2 (by rw [HX1.out, HX2.out]; exact hd), HX1.out, HX2.out]), below_drewN HW.out _⟩
    · have HO := hide (order_second (a := a.data.toList) (b := b.data.toList) (by rw [HX.out, H.out, V.lexB_same _ l1 l2 k (by omega) (by omega)]; rfl))
      have j1 : ¬ (k : Int) < (l1.length : Int) := by omega
      have HBR := hide hbr
      have HW := hide (HBB.out.trans (hbr.mono hsz))
      clear hbr H
      by_cases h3 : l3.length = 0
      · have h3' : ((l3.length : Int) == 0) = true := beq_iff_eq.2 (by omega)
        have h3a : ¬ (0 : Int) < (l3.length : Int) := by omega
        have h3b : ¬ (0 : Nat) < l3.length := by omega
        by_cases h4 : l4.length = 0
        · have h4' : ((l4.length : Int) == 0) = true := beq_iff_eq.2 (by omega)
          have h4a : ¬ (0 : Int) < (l4.length : Int) := by omega
          have HF : Hid (V.cmpInt l4.length l3.length = 0) := by
            refine hide ?_
            rw [h3, h4]; rfl
          have hq1 : ¬ (l3.length : Int) < (l4.length : Int) := by omega
          have hq2 : ¬ (l4.length : Int) < (l3.length : Int) := by omega
          clear h3 h4
          go_wp2
          refine wp_loop_rounds 1 ?_
          rw [rounds_succ]
          go_wp2
          go_ret
          exact ⟨ret_int (by rw [HO.out, HE.out, h3', if_pos (by simp), HI.out, HF.out]), HW.out⟩
        · have h4a : (0 : Int) < (l4.length : Int) := by omega
          have HF : Hid (V.cmpInt l4.length l3.length = 1) := by
            refine hide ?_
            unfold V.cmpInt; rw [if_neg (by omega), if_pos (by omega)]
          clear h3 h4
          go_wp2
          go_ret
          exact ⟨ret_int (by rw [HO.out, HE.out, h3', if_pos (by simp), HI.out, HF.out]), HW.out⟩
      · have h3' : ((l3.length : Int) == 0) = false := beq_eq_false_iff_ne.2 (by omega)
        have h3a : (0 : Int) < (l3.length : Int) := by omega
        by_cases h4 : l4.length = 0
        · have h4' : ((l4.length : Int) == 0) = true := beq_iff_eq.2 (by omega)
          have HF : Hid (V.cmpInt l4.length l3.length = -1) := by
            refine hide ?_
            unfold V.cmpInt; rw [if_pos (by omega)]
          clear h3 h4
          go_wp2
          go_ret
          exact ⟨ret_int (by rw [HO.out, HE.out, h3', h4', if_pos (by simp), HI.out, HF.out]), HW.out⟩
        · have h4' : ((l4.length : Int) == 0) = false := beq_eq_false_iff_ne.2 (by omega)
          have h4a : (0 : Int) < (l4.length : Int) := by omega
          obtain ⟨b3, e3, hc3⟩ := HC3.out h3
          obtain ⟨b4, e4, hc4⟩ := HC4.out h4
          have HC3' : Hid (∀ j, j < l3.length → wr.cell? ⟨b3, j, none⟩ = some (.string (l3.getD j ByteArray.empty))) := hide (fun j hj => keep HBR.out (hc3 j hj))
          have HC4' : Hid (∀ j, j < l4.length → wr.cell? ⟨b4, j, none⟩ = some (.string (l4.getD j ByteArray.empty))) := hide (fun j hj => keep HBR.out (hc4 j hj))
          have HO2 : Hid (V.order a.data.toList b.data.toList = V.lexB V.cmpMark l3 l4) := by
            refine hide ?_
            rw [HO.out, HE.out, h3', h4', if_neg (by simp), ← HL3.out, ← HL4.out]; rfl
          unfold maxLen at hl3 hl4
          have p3 : 0 < l3.length := by omega
          have p4 : 0 < l4.length := by omega
          clear hc3 hc4 HC3 HC4 h3 h4 HO HE HI HL3 HL4 HC1 HC2 HZ1 HZ2 HX hB1 hB2 hlt1 hlt2 hl1 hl2 g1a g1b g2a g2b
          subst e3 e4
          go_wp2
          go_loopw [13] (fun t wq => ∃ k : Nat, k ≤ l3.length ∧ k ≤ l4.length ∧ t = .int .i64 k ∧ Below wr.heap.size wr wq ∧ Hid (V.lexB V.cmpMark l3 l4 = V.lexB V.cmpMark (l3.drop k) (l4.drop k))) (fun t _ => l3.length - (intOf t).toNat)
          case atStart => exact ⟨0, Nat.zero_le _, Nat.zero_le _, rfl, Below.refl _ _, hide rfl⟩
          case round =>
            rename_i wq _ _ _ _
            obtain ⟨k2, hq3, hq4, rfl, hbq, H2⟩ := hrel
            have HBQ := hide hbq
            have HWQ := hide (HW.out.trans (hbq.mono HW.out.size))
            by_cases hk3 : k2 < l3.length
            · by_cases hk4 : k2 < l4.length
              · have i1 : (k2 : Int) < (l3.length : Int) := by omega
                have i2 : (k2 : Int) < (l4.length : Int) := by omega
                have hck1 := keep hbq (HC3'.out k2 hk3)
                have hck2 := keep hbq (HC4'.out k2 hk4)
                have hz1 : (l3.getD k2 ByteArray.empty).size ≤ maxLen := by
                  rw [V.getD_at _ _ hk3]; exact HZ3.out _ (List.getElem_mem hk3)
                have hz2 : (l4.getD k2 ByteArray.empty).size ≤ maxLen := by
                  rw [V.getD_at _ _ hk4]; exact HZ4.out _ (List.getElem_mem hk4)
                clear hbq
                generalize hx1 : l3.getD k2 ByteArray.empty = x1 at hck1 hz1
                have HX1 : Hid (l3.getD k2 ByteArray.empty = x1) := hide hx1
                clear hx1
                generalize hx2 : l4.getD k2 ByteArray.empty = x2 at hck2 hz2
                have HX2 : Hid (l4.getD k2 ByteArray.empty = x2) := hide hx2
                clear hx2
                cases d1 : V.digits x1.data.toList <;> cases d2 : V.digits x2.data.toList
                · have HM : Hid (V.cmpMark x1.data.toList x2.data.toList = Lib.compareBytes x1.data.toList x2.data.toList) := by
                    refine hide ?_
                    unfold V.cmpMark; rw [d1, d2]; rfl
                  cases hd : (Lib.compareBytes x1.data.toList x2.data.toList != 0)
                  · go_wp2_with fail
                    refine (only_digs_any _ _ hz1).mono ?_
                    rintro e w' ⟨rfl, rfl⟩
                    rw [d1]
                    go_wp2_with fail
                    refine (only_digs_any _ _ hz2).mono ?_
                    rintro e w' ⟨rfl, rfl⟩
                    rw [d2]
                    go_wp2_with fail
                    go_quiet ((go_at_call 47; exact Calls.quiet_of_same (texts_any _ _ _)))
                    go_wp2
                    exact ⟨⟨k2 + 1, by omega, by omega, by go_num, below_drewN HBQ.out _, hide (H2.out.trans (V.lexB_step _ l3 l4 k2 hk3 hk4 (by rw [HX1.out, HX2.out, HM.out]; exact hd)))⟩, by simp [intOf]; omega⟩
                  · go_wp2_with fail
                    refine (only_digs_any _ _ hz1).mono ?_
                    rintro e w' ⟨rfl, rfl⟩
                    rw [d1]
                    go_wp2_with fail
                    refine (only_digs_any _ _ hz2).mono ?_
                    rintro e w' ⟨rfl, rfl⟩
                    rw [d2]
                    go_wp2_with fail
                    go_quiet ((go_at_call 47; exact Calls.quiet_of_same (texts_any _ _ _)))
                    go_wp2
                    go_ret
                    exact ⟨ret_int (by rw [HO2.out, H2.out, V.lexB_hit _ l3 l4 k2 hk3 hk4 (by rw [HX1.out, HX2.out, HM.out]; exact hd), HX1.out, HX2.out, HM.out]), below_drewN HWQ.out _⟩
                · have HM : Hid (V.cmpMark x1.data.toList x2.data.toList = 1) := by
                    refine hide ?_
                    unfold V.cmpMark; rw [d1, d2]; rfl
                  have hd : ((1 : Int) != 0) = true := rfl
                  go_wp2_with fail
                  refine (only_digs_any _ _ hz1).mono ?_
                  rintro e w' ⟨rfl, rfl⟩
                  rw [d1]
                  go_wp2_with fail
                  refine (only_digs_any _ _ hz2).mono ?_
                  rintro e w' ⟨rfl, rfl⟩
                  rw [d2]
                  go_wp2
                  go_ret
                  exact ⟨ret_int (by rw [HO2.out, H2.out, V.lexB_hit _ l3 l4 k2 hk3 hk4 (by rw [HX1.out, HX2.out, HM.out]; exact hd), HX1.out, HX2.out, HM.out]), HWQ.out⟩
                · have HM : Hid (V.cmpMark x1.data.toList x2.data.toList = -1) := by
                    refine hide ?_
                    unfold V.cmpMark; rw [d1, d2]; rfl
                  have hd : ((-1 : Int) != 0) = true := rfl
                  go_wp2_with fail
                  refine (only_digs_any _ _ hz1).mono ?_
                  rintro e w' ⟨rfl, rfl⟩
                  rw [d1]
                  go_wp2_with fail
                  refine (only_digs_any _ _ hz2).mono ?_
                  rintro e w' ⟨rfl, rfl⟩
                  rw [d2]
                  go_wp2
                  go_ret
                  exact ⟨ret_int (by rw [HO2.out, H2.out, V.lexB_hit _ l3 l4 k2 hk3 hk4 (by rw [HX1.out, HX2.out, HM.out]; exact hd), HX1.out, HX2.out, HM.out]), HWQ.out⟩
                · have HM : Hid (V.cmpMark x1.data.toList x2.data.toList = V.cmpNum x1.data.toList x2.data.toList) := by
                    refine hide ?_
                    unfold V.cmpMark; rw [d1, d2]; rfl
                  cases hd : (V.cmpNum x1.data.toList x2.data.toList != 0)
                  · go_wp2_with fail
                    refine (only_digs_any _ _ hz1).mono ?_
                    rintro e w' ⟨rfl, rfl⟩
                    rw [d1]
                    go_wp2_with fail
                    refine (only_digs_any _ _ hz2).mono ?_
                    rintro e w' ⟨rfl, rfl⟩
                    rw [d2]
                    go_wp2_with fail
                    go_quiet ((go_at_call 45; exact Calls.quiet_of_same (numbers_any _ _ _)))
                    go_wp2
                    exact ⟨⟨k2 + 1, by omega, by omega, by go_num, below_drewN HBQ.out _, hide (H2.out.trans (V.lexB_step _ l3 l4 k2 hk3 hk4 (by rw [HX1.out, HX2.out, HM.out]; exact hd)))⟩, by simp [intOf]; omega⟩
                  · go_wp2_with fail
                    refine (only_digs_any _ _ hz1).mono ?_
                    rintro e w' ⟨rfl, rfl⟩
                    rw [d1]
                    go_wp2_with fail
                    refine (only_digs_any _ _ hz2).mono ?_
                    rintro e w' ⟨rfl, rfl⟩
                    rw [d2]
                    go_wp2_with fail
                    go_quiet ((go_at_call 45; exact Calls.quiet_of_same (numbers_any _ _ _)))
                    go_wp2
                    go_ret
                    exact ⟨ret_int (by rw [HO2.out, H2.out, V.lexB_hit _ l3 l4 k2 hk3 hk4 (by rw [HX1.out, HX2.out, HM.out]; exact hd), HX1.out, HX2.out, HM.out]), below_drewN HWQ.out _⟩
              · clear hbq
                have i3 : ¬ (k2 : Int) < (l4.length : Int) := by omega
                have i4 : ¬ (l3.length : Int) < (l4.length : Int) := by omega
                have i5 : (l4.length : Int) < (l3.length : Int) := by omega
                go_wp2
                go_ret
                exact ⟨ret_int (by rw [HO2.out, H2.out, V.lexB_over _ l3 l4 k2 hk3 (by omega)]), HWQ.out⟩
            · clear hbq
              have i3 : ¬ (k2 : Int) < (l3.length : Int) := by omega
              by_cases hk4 : l3.length < l4.length
              · go_wp2
                go_ret
                exact ⟨ret_int (by rw [HO2.out, H2.out, V.lexB_less _ l3 l4 k2 (by omega) (by omega)]), HWQ.out⟩
              · go_wp2
                go_ret
                exact ⟨ret_int (by rw [HO2.out, H2.out, V.lexB_same _ l3 l4 k2 (by omega) (by omega)]), HWQ.out⟩

end Go.Proofs.YtcfhleenecfghaaDoor
