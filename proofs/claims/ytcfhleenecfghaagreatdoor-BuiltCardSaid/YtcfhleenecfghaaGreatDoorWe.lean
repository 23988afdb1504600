/- Whether a text is a version, what the fault of one that is none is, the order of two versions, and what Compare answers: the program's own. -/
import Derived.Test.YtcfhleenecfghaaGreatDoorWd
namespace Go.Proofs.YtcfhleenecfghaaGreatDoor
open Go.RowKit

theorem ver_long {l : List UInt8} (h : 40 < l.length) : V.ver l = false := by
  unfold V.ver; rw [decide_eq_false (by omega)]; rfl
theorem ver_short {l : List UInt8} (h : l.length ≤ 40) : V.ver l = (Lib.hasPrefix l [118] && ((V.parts l).1.length == 3 && (V.parts l).1.all V.number && (V.parts l).2.all V.mark)) := by
  unfold V.ver; rw [decide_eq_true h]; simp

set_option maxHeartbeats 800000 in
theorem isVersion_any (s : ByteArray) (m : Int) (w : World) (_hs : s.size ≤ maxLen) (hm : w.cell? ⟨0, 0, none⟩ = some (.int .i64 m)) :
    Calls Tryz.prog 85 #[.string s] w fun e w' => e = .returned (.bool (V.ver s.data.toList)) ∧ Below w.heap.size w w' := by
  have hlen : s.data.toList.length = s.size := by simp
  by_cases h40 : 40 < s.size
  · have HV := hide (ver_long (l := s.data.toList) (by omega))
    clear hlen
    go_enter Tryz.func85, Tryz.ntmps85
    go_wp2
    go_ret
    exact ⟨ret_bool HV.out.symm, Below.refl _ _⟩
  · have HV := hide (ver_short (l := s.data.toList) (by omega))
    clear hlen
    cases hp : Lib.hasPrefix s.data.toList [118]
    · go_enter Tryz.func85, Tryz.ntmps85
      go_wp2_with (go_at_call 168; refine (Tryz.strings_HasPrefix _ _ _).mono ?_; rintro e w' ⟨rfl, rfl⟩; rw [show Lib.hasPrefix s.data.toList _ = false from hp])
      go_ret
      exact ⟨ret_bool (by rw [HV.out, hp]; rfl), Below.refl _ _⟩
    · go_enter Tryz.func85, Tryz.ntmps85
      go_wp2_with (go_at_call 168; refine (Tryz.strings_HasPrefix _ _ _).mono ?_; rintro e w' ⟨rfl, rfl⟩; rw [show Lib.hasPrefix s.data.toList _ = true from hp])
      refine (split_any s m _ (by omega) hm).mono ?_
      rintro e w1 ⟨v1, v2, rfl, hv1, hv2, hb⟩
      have HB := hide hb
      obtain ⟨b1, c1, ls1, e1, hL1, hB1, hlt1, hl1, hz1, hc1⟩ := hv1
      have HL1 := hide hL1
      have HC1 := hide hc1
      have HZ1 := hide hz1
      clear hL1 hc1 hz1 hb
      subst e1
      have HN : Hid (((V.parts s.data.toList).1.length == 3) = ((ls1.length : Int) == 3) ∧ (V.parts s.data.toList).1.all V.number = V.allOf V.number ls1) := by
        refine hide ⟨?_, ?_⟩
        · rw [← HL1.out, List.length_map, Bool.eq_iff_iff, beq_iff_eq, beq_iff_eq]; omega
        · rw [← HL1.out, V.allOf_map]
      rcases hv2 with ⟨rfl, hL2⟩ | ⟨b2, c2, ls2, e2, hL2, hB2, hlt2, hl2, hz2, hc2⟩
      · have HL2 := hide hL2
        clear hL2
        cases h3 : ((ls1.length : Int) == 3)
        · go_wp2
          go_ret
          exact ⟨ret_bool (by rw [HV.out, HN.out.1, h3, hp]; rfl), HB.out.alloc (by omega) _⟩
        · cases hn : V.allOf V.number ls1
          · go_wp2_with (go_at_call 169; refine (all35_any b1 c1 ls1 _ hl1 HZ1.out (fun j hj => keepA (HC1.out j hj) _)).mono ?_; rintro e w' ⟨rfl, rfl⟩; rw [hn])
            go_ret
            exact ⟨ret_bool (by rw [HV.out, HN.out.1, HN.out.2, h3, hn, hp]; rfl), HB.out.alloc (by omega) _⟩
          · go_wp2_with fail
            refine (all35_any b1 c1 ls1 _ hl1 HZ1.out (fun j hj => keepA (HC1.out j hj) _)).mono ?_
            rintro e w' ⟨rfl, rfl⟩
            rw [hn]
            go_wp2_with fail
            refine (all36_nil _).mono ?_
            rintro e w' ⟨rfl, rfl⟩
            go_wp2
            go_ret
            exact ⟨ret_bool (by rw [HV.out, HN.out.1, HN.out.2, h3, hn, HL2.out, hp]; rfl), HB.out.alloc (by omega) _⟩
      · have HM : Hid ((V.parts s.data.toList).2.all V.mark = V.allOf V.mark ls2) := by
          refine hide ?_
          rw [← hL2, V.allOf_map]
        have HC2 := hide hc2
        have HZ2 := hide hz2
        clear hL2 hc2 hz2
        subst e2
        cases h3 : ((ls1.length : Int) == 3)
        · go_wp2
          go_ret
          exact ⟨ret_bool (by rw [HV.out, HN.out.1, h3, hp]; rfl), HB.out.alloc (by omega) _⟩
        · cases hn : V.allOf V.number ls1
          · go_wp2_with (go_at_call 169; refine (all35_any b1 c1 ls1 _ hl1 HZ1.out (fun j hj => keepA (HC1.out j hj) _)).mono ?_; rintro e w' ⟨rfl, rfl⟩; rw [hn])
            go_ret
            exact ⟨ret_bool (by rw [HV.out, HN.out.1, HN.out.2, h3, hn, hp]; rfl), HB.out.alloc (by omega) _⟩
          · go_wp2_with fail
            refine (all35_any b1 c1 ls1 _ hl1 HZ1.out (fun j hj => keepA (HC1.out j hj) _)).mono ?_
            rintro e w' ⟨rfl, rfl⟩
            rw [hn]
            go_wp2_with fail
            refine (all36_any b2 c2 ls2 _ hl2 HZ2.out (fun j hj => keepA (HC2.out j hj) _)).mono ?_
            rintro e w' ⟨rfl, rfl⟩
            go_wp2
            go_ret
            exact ⟨ret_bool (by rw [HV.out, HN.out.1, HN.out.2, h3, hn, HM.out, hp]; rfl), HB.out.alloc (by omega) _⟩

set_option maxHeartbeats 400000 in
theorem check_yes (s : ByteArray) (m : Int) (w : World) (hs : s.size ≤ maxLen) (hm : w.cell? ⟨0, 0, none⟩ = some (.int .i64 m)) (hv : V.ver s.data.toList = true) :
    Calls Tryz.prog 43 #[.string s] w fun e w' => e = .returned (.pointer none) ∧ Below w.heap.size w w' := by
  go_enter Tryz.func43, Tryz.ntmps43
  go_wp2_with fail
  refine (isVersion_any s m _ hs hm).mono ?_
  rintro e w1 ⟨rfl, hb⟩
  have HB := hide hb
  clear hb
  rw [hv]
  go_wp2
  go_ret
  exact ⟨rfl, HB.out⟩

/-- A fault in memory: kind, line, path, version. -/
def IsFault (w : World) (v : Value) (k : Int) (n : Int) (p q : ByteArray) : Prop :=
  ∃ b, v = .pointer (some ⟨b, 0, none⟩) ∧ w.cell? ⟨b, 0, none⟩ = some (.int .i64 k) ∧ w.cell? ⟨b, 1, none⟩ = some (.int .i64 n) ∧ w.cell? ⟨b, 2, none⟩ = some (.string p) ∧ w.cell? ⟨b, 3, none⟩ = some (.string q)

set_option maxHeartbeats 400000 in
theorem clone_any (s : ByteArray) (w : World) (hlim : s.size ≤ 281474976710656) :
    Calls Tryz.prog 86 #[.string s] w fun e w' => e = .returned (.string s) ∧ Below w.heap.size w w' := by
  go_enter Tryz.func86, Tryz.ntmps86
  go_wp2_with fail
  refine (Tryz.stringslite_Clone s _ hlim).mono ?_
  rintro e w1 ⟨rfl, hb⟩
  have HB := hide hb
  clear hb
  go_wp2
  go_ret
  exact ⟨rfl, HB.out⟩

set_option maxHeartbeats 400000 in
theorem check_no (s : ByteArray) (m : Int) (w : World) (hs : s.size ≤ 281474976710656) (hm : w.cell? ⟨0, 0, none⟩ = some (.int .i64 m)) (hv : V.ver s.data.toList = false) :
    Calls Tryz.prog 43 #[.string s] w fun e w' => ∃ v, e = .returned v ∧ IsFault w' v 2 0 ⟨#[]⟩ s ∧ Below w.heap.size w w' := by
  go_enter Tryz.func43, Tryz.ntmps43
  go_wp2_with fail
  refine (isVersion_any s m _ (by unfold maxLen; omega) hm).mono ?_
  rintro e w1 ⟨rfl, hb⟩
  have HB := hide hb
  clear hb
  rw [hv]
  go_wp2_with fail
  refine (clone_any s _ hs).mono ?_
  rintro e w2 ⟨rfl, hb⟩
  have HB2 := hide hb
  clear hb
  go_wp2
  go_ret
  exact ⟨_, rfl, ⟨w2.heap.size, rfl, by simp, by simp, by simp, by simp⟩, (HB.out.trans (HB2.out.mono HB.out.size)).alloc (by have := HB.out.size; have := HB2.out.size; omega) _⟩

theorem order_first {a b : List UInt8} (h : (V.lex V.cmpNum (V.parts a).1 (V.parts b).1 != 0) = true) : V.order a b = V.lex V.cmpNum (V.parts a).1 (V.parts b).1 := by
  unfold V.order; rw [if_pos h]
theorem order_second {a b : List UInt8} (h : (V.lex V.cmpNum (V.parts a).1 (V.parts b).1 != 0) = false) : V.order a b = if (V.parts a).2.isEmpty || (V.parts b).2.isEmpty then V.cmpInt (V.parts b).2.length (V.parts a).2.length else V.lex V.cmpMark (V.parts a).2 (V.parts b).2 := by
  unfold V.order; rw [if_neg (by rw [h]; simp)]
theorem empty_int (L : List (List UInt8)) : L.isEmpty = ((L.length : Int) == 0) := by
  cases L with
  | nil => rfl
  | cons x r =>
    have : (((x :: r).length : Int) == 0) = false := by rw [beq_eq_false_iff_ne]; simp only [List.length_cons]; omega
    rw [this]; rfl

theorem marks_of {B : Nat} {w : World} {v : Value} {L : List (List UInt8)} (h : (v = .slice none 0 0 ∧ L = []) ∨ Txt B w v L) :
    ∃ (a : Option Addr) (c : Nat) (ls : List ByteArray), v = .slice a ls.length c ∧ ls.map (·.data.toList) = L ∧ ls.length ≤ maxLen ∧ (∀ x ∈ ls, x.size ≤ maxLen) ∧ (ls.length ≠ 0 → ∃ b, a = some ⟨b, 0, none⟩ ∧ ∀ j, j < ls.length → w.cell? ⟨b, j, none⟩ = some (.string (ls.getD j ByteArray.empty))) := by
  rcases h with ⟨rfl, rfl⟩ | ⟨b, c, ls, e1, e2, _, _, h1, h2, h3⟩
  · exact ⟨none, 0, [], rfl, rfl, Nat.zero_le _, by simp, fun h => absurd rfl h⟩
  · exact ⟨some ⟨b, 0, none⟩, c, ls, e1, e2, h1, h2, fun _ => ⟨b, rfl, h3⟩⟩

set_option maxHeartbeats 1600000 in
theorem vcompare_anyD (a b : ByteArray) (m : Int) (w : World) (ha : a.size ≤ 40) (hb : b.size ≤ 40) (hm : w.cell? ⟨0, 0, none⟩ = some (.int .i64 m)) :
    Calls Tryz.prog 44 #[.string a, .string b] w fun e w' => e = .returned (.int .i64 (V.order a.data.toList b.data.toList)) ∧ Below w.heap.size w w' ∧ w.drawn ≤ w'.drawn := by
  go_enter Tryz.func44, Tryz.ntmps44
  go_wp2_with fail
  refine (split_anyD a m _ ha hm).mono ?_
  rintro e w1 ⟨v1, v2, rfl, hv1, hv2, hb1, hd1⟩
  have HD1 := hide hd1
  clear hd1
  have HB1 := hide hb1
  have hm1 := keep hb1 hm
  clear hb1
  go_wp2_with fail
  refine (split_anyD b m _ hb hm1).mono ?_
  rintro e w2 ⟨u1, u2, rfl, hu1, hu2, hb2, hd2⟩
  have HD2 := hide (Nat.le_trans HD1.out hd2)
  clear hd2
  have HB2 := hide hb2
  replace hv1 := hv1.later hb2
  replace hv2 : (v2 = .slice none 0 0 ∧ (V.parts a.data.toList).2 = []) ∨ Txt w.heap.size w2 v2 (V.parts a.data.toList).2 := by
    rcases hv2 with h | h
    · exact Or.inl h
    · exact Or.inr (h.later hb2)
  clear hb2 hm1 hm
  have hBB : Below w.heap.size w w2 := HB1.out.trans (HB2.out.mono HB1.out.size)
  have HBB := hide hBB
  have hsz : w.heap.size ≤ w2.heap.size := hBB.size
  clear hBB
  obtain ⟨b1, c1, l1, e1, hL1, hB1, hlt1, hl1, hz1, hc1⟩ := hv1
  obtain ⟨b2, c2, l2, e2, hL2, hB2, hlt2, hl2, hz2, hc2⟩ := hu1
  have HX : Hid (V.lex V.cmpNum (V.parts a.data.toList).1 (V.parts b.data.toList).1 = V.lexB V.cmpNum l1 l2) := by
    refine hide ?_
    rw [← hL1, ← hL2]; rfl
  have HC1 := hide hc1
  have HC2 := hide hc2
  have HZ1 := hide hz1
  have HZ2 := hide hz2
  clear hL1 hL2 hc1 hc2 hz1 hz2
  subst e1 e2
  have HW : Hid (∀ o1 o2, Below w.heap.size w ((w2.alloc o1).alloc o2)) := hide (fun o1 o2 => (HBB.out.alloc hsz _).alloc (by simp; omega) _)
  obtain ⟨a3, c3, l3, e3, hL3, hl3, hz3, hc3⟩ := marks_of hv2
  obtain ⟨a4, c4, l4, e4, hL4, hl4, hz4, hc4⟩ := marks_of hu2
  have HL3 := hide hL3
  have HL4 := hide hL4
  have HC3 := hide hc3
  have HC4 := hide hc4
  have HZ3 := hide hz3
  have HZ4 := hide hz4
  clear hv2 hu2 hL3 hL4 hc3 hc4 hz3 hz4
  subst e3 e4
  have HE : Hid (((V.parts a.data.toList).2.isEmpty || (V.parts b.data.toList).2.isEmpty) = (((l3.length : Int) == 0) || ((l4.length : Int) == 0))) := by
    refine hide ?_
    rw [empty_int, empty_int, ← HL3.out, ← HL4.out, List.length_map, List.length_map]
  have HI : Hid (V.cmpInt (V.parts b.data.toList).2.length (V.parts a.data.toList).2.length = V.cmpInt l4.length l3.length) := by
    refine hide ?_
    rw [← HL3.out, ← HL4.out, List.length_map, List.length_map]
  cases hx : (V.lexB V.cmpNum l1 l2 != 0)
  · have HO := hide (order_second (a := a.data.toList) (b := b.data.toList) (by rw [HX.out]; exact hx))
    go_wp2_with fail
    refine (compareFunc21_any b1 c1 b2 c2 l1 l2 _ hl1 hl2 HZ1.out HZ2.out (fun j hj => keepA (keepA (HC1.out j hj) _) _) (fun j hj => keepA (keepA (HC2.out j hj) _) _)).mono ?_
    rintro e w' ⟨rfl, rfl⟩
    cases h3 : ((l3.length : Int) == 0)
    · cases h4 : ((l4.length : Int) == 0)
      · obtain ⟨b3, e3, hc3⟩ := HC3.out (by have := beq_eq_false_iff_ne.1 h3; omega)
        obtain ⟨b4, e4, hc4⟩ := HC4.out (by have := beq_eq_false_iff_ne.1 h4; omega)
        have HC3' := hide hc3
        have HC4' := hide hc4
        clear hc3 hc4
        subst e3 e4
        go_wp2_with fail
        refine (compareFunc23_any b3 c3 b4 c4 l3 l4 _ hl3 hl4 HZ3.out HZ4.out (fun j hj => keepA (keepA (HC3'.out j hj) _) _) (fun j hj => keepA (keepA (HC4'.out j hj) _) _)).mono ?_
        rintro e w' ⟨rfl, rfl⟩
        go_wp2
        go_ret
        exact ⟨ret_int (by rw [HO.out, HE.out, h3, h4, if_neg (by decide), ← HL3.out, ← HL4.out]; rfl), HW.out _ _, HD2.out⟩
      · go_wp2_with (go_at_call 90; refine (Tryz.cmp_Compare_int _ _ _).mono ?_; rintro e w' ⟨rfl, rfl⟩; rw [compareInt_nat])
        go_ret
        exact ⟨ret_int (by rw [HO.out, HE.out, h3, h4, if_pos (by decide), HI.out]), HW.out _ _, HD2.out⟩
    · go_wp2_with (go_at_call 90; refine (Tryz.cmp_Compare_int _ _ _).mono ?_; rintro e w' ⟨rfl, rfl⟩; rw [compareInt_nat])
      go_ret
      exact ⟨ret_int (by rw [HO.out, HE.out, h3, if_pos (by simp), HI.out]), HW.out _ _, HD2.out⟩
  · have HO := hide (order_first (a := a.data.toList) (b := b.data.toList) (by rw [HX.out]; exact hx))
    go_wp2_with fail
    refine (compareFunc21_any b1 c1 b2 c2 l1 l2 _ hl1 hl2 HZ1.out HZ2.out (fun j hj => keepA (keepA (HC1.out j hj) _) _) (fun j hj => keepA (keepA (HC2.out j hj) _) _)).mono ?_
    rintro e w' ⟨rfl, rfl⟩
    go_wp2
    go_ret
    exact ⟨ret_int (by rw [HO.out, HX.out]), HW.out _ _, HD2.out⟩

theorem vcompare_any (a b : ByteArray) (m : Int) (w : World) (ha : a.size ≤ 40) (hb : b.size ≤ 40) (hm : w.cell? ⟨0, 0, none⟩ = some (.int .i64 m)) :
    Calls Tryz.prog 44 #[.string a, .string b] w fun e w' => e = .returned (.int .i64 (V.order a.data.toList b.data.toList)) ∧ Below w.heap.size w w' :=
  (vcompare_anyD a b m w ha hb hm).mono fun _ _ ⟨h1, h2, _⟩ => ⟨h1, h2⟩

theorem ver_len {s : ByteArray} (h : V.ver s.data.toList = true) : s.size ≤ 40 := by
  have hlen : s.data.toList.length = s.size := by simp
  by_cases h40 : s.data.toList.length ≤ 40
  · omega
  · rw [ver_long (by omega)] at h; cases h

set_option maxHeartbeats 800000 in
theorem tcompare_yes (a b : ByteArray) (m : Int) (w : World) (hm : w.cell? ⟨0, 0, none⟩ = some (.int .i64 m)) (hva : V.ver a.data.toList = true) (hvb : V.ver b.data.toList = true) :
    Calls Tryz.prog 14 #[.string a, .string b] w fun e w' => e = .returned (.tuple #[.int .i64 (V.order a.data.toList b.data.toList), .nilIface]) ∧ Below w.heap.size w w' := by
  have ha := ver_len hva
  have hb := ver_len hvb
  go_enter Tryz.func14, Tryz.ntmps14
  go_wp2_with fail
  refine (check_yes a m _ (by unfold maxLen; omega) hm hva).mono ?_
  rintro e w1 ⟨rfl, hb1⟩
  have HB1 := hide hb1
  have hm1 := keep hb1 hm
  clear hb1
  go_wp2_with fail
  refine (check_yes b m _ (by unfold maxLen; omega) hm1 hvb).mono ?_
  rintro e w2 ⟨rfl, hb2⟩
  have HB2 := hide hb2
  have hm2 := keep hb2 hm1
  clear hb2
  go_wp2_with fail
  refine (vcompare_any a b m _ ha hb hm2).mono ?_
  rintro e w3 ⟨rfl, hb3⟩
  have HB3 := hide hb3
  clear hb3
  go_wp2
  go_ret2
  exact ⟨rfl, (HB1.out.trans (HB2.out.mono HB1.out.size)).trans (HB3.out.mono (Nat.le_trans HB1.out.size HB2.out.size))⟩

set_option maxHeartbeats 800000 in
theorem tcompare_no1 (a b : ByteArray) (m : Int) (w : World) (ha : a.size ≤ 281474976710656) (hm : w.cell? ⟨0, 0, none⟩ = some (.int .i64 m)) (hva : V.ver a.data.toList = false) :
    Calls Tryz.prog 14 #[.string a, .string b] w fun e w' => ∃ v, e = .returned (.tuple #[.int .i64 0, .iface 96 v]) ∧ IsFault w' v 2 0 ⟨#[]⟩ a ∧ Below w.heap.size w w' := by
  go_enter Tryz.func14, Tryz.ntmps14
  go_wp2_with fail
  refine (check_no a m _ ha hm hva).mono ?_
  rintro e w1 ⟨v, rfl, hf, hb1⟩
  have HB1 := hide hb1
  have HF := hide hf
  obtain ⟨bf, rfl, _⟩ := hf
  clear hb1
  go_wp2
  go_ret2
  exact ⟨_, rfl, HF.out, HB1.out⟩

set_option maxHeartbeats 800000 in
theorem tcompare_no2 (a b : ByteArray) (m : Int) (w : World) (hb : b.size ≤ 281474976710656) (hm : w.cell? ⟨0, 0, none⟩ = some (.int .i64 m)) (hva : V.ver a.data.toList = true) (hvb : V.ver b.data.toList = false) :
    Calls Tryz.prog 14 #[.string a, .string b] w fun e w' => ∃ v, e = .returned (.tuple #[.int .i64 0, .iface 96 v]) ∧ IsFault w' v 2 0 ⟨#[]⟩ b ∧ Below w.heap.size w w' := by
  have ha := ver_len hva
  go_enter Tryz.func14, Tryz.ntmps14
  go_wp2_with fail
  refine (check_yes a m _ (by unfold maxLen; omega) hm hva).mono ?_
  rintro e w1 ⟨rfl, hb1⟩
  have HB1 := hide hb1
  have hm1 := keep hb1 hm
  clear hb1
  go_wp2_with fail
  refine (check_no b m _ hb hm1 hvb).mono ?_
  rintro e w2 ⟨v, rfl, hf, hb2⟩
  have HB2 := hide hb2
  have HF := hide hf
  obtain ⟨bf, rfl, _⟩ := hf
  clear hb2
  go_wp2
  go_ret2
  exact ⟨_, rfl, HF.out, HB1.out.trans (HB2.out.mono HB1.out.size)⟩

end Go.Proofs.YtcfhleenecfghaaGreatDoor
