/- The statement Ordered by itself, given what its beginning answers: whatever the three texts and the two numbers, it answers true and turns nothing that was there. -/
import Derived.Test.YtcfhleenecfghaaGreatDoorWk
namespace Go.Proofs.YtcfhleenecfghaaGreatDoor
open Go.RowKit

theorem drawn_below {w w' : World} (h : ∃ q, w' = w.drewN q) : Below w.heap.size w w' := by
  obtain ⟨q, rfl⟩ := h; exact below_drewN (Below.refl _ _) q
theorem tcompare_no (a b : ByteArray) (m : Int) (w : World) (ha : a.size ≤ 281474976710656) (hb : b.size ≤ 281474976710656) (hm : w.cell? ⟨0, 0, none⟩ = some (.int .i64 m)) (h : (V.ver a.data.toList && V.ver b.data.toList) = false) :
    Calls Tryz.prog 14 #[.string a, .string b] w fun e w' => ∃ bf, e = .returned (.tuple #[.int .i64 0, .iface 96 (.pointer (some ⟨bf, 0, none⟩))]) ∧ Below w.heap.size w w' := by
  cases hva : V.ver a.data.toList
  · refine (tcompare_no1 a b m w ha hm hva).mono ?_
    rintro e w' ⟨v, rfl, ⟨bf, rfl, _⟩, hq⟩
    exact ⟨bf, rfl, hq⟩
  · have hvb : V.ver b.data.toList = false := by rw [hva] at h; simpa using h
    refine (tcompare_no2 a b m w hb hm hva hvb).mono ?_
    rintro e w' ⟨v, rfl, ⟨bf, rfl, _⟩, hq⟩
    exact ⟨bf, rfl, hq⟩

theorem tcompare_some (a b : ByteArray) (m : Int) (w : World) (ha : a.size ≤ 281474976710656) (hb : b.size ≤ 281474976710656) (hm : w.cell? ⟨0, 0, none⟩ = some (.int .i64 m)) :
    Calls Tryz.prog 14 #[.string a, .string b] w fun e w' => ∃ (o : Int) (v : Value), e = .returned (.tuple #[.int .i64 o, v]) ∧ Below w.heap.size w w' := by
  cases h : (V.ver a.data.toList && V.ver b.data.toList)
  · refine (tcompare_no a b m w ha hb hm h).mono ?_
    rintro e w' ⟨bf, rfl, hq⟩
    exact ⟨_, _, rfl, hq⟩
  · simp only [Bool.and_eq_true] at h
    refine (tcompare_yes a b m w hm h.1 h.2).mono ?_
    rintro e w' ⟨rfl, hq⟩
    exact ⟨_, _, rfl, hq⟩

theorem order_ge (a b c : List UInt8) (h1 : 0 ≤ V.order a b) (h2 : 0 ≤ V.order b c) : 0 ≤ V.order a c := by
  have e1 := V.order_turn a b
  have e2 := V.order_turn b c
  have e3 := V.order_turn a c
  have := V.order_le c b a (by omega) (by omega)
  omega

theorem verA_bytes (f n : Nat) : (ByteArray.mk #[118, 48, 46] ++ decB f n ++ ByteArray.mk #[46, 57]).data.toList = V.verA (V.decF f n) := by
  simp [decB, V.verA, ByteArray.data_append]
theorem verB_bytes (f n : Nat) : (ByteArray.mk #[118, 48, 46, 48, 46, 48, 45, 120, 46] ++ decB f n).data.toList = V.verB (V.decF f n) := by
  simp [decB, V.verB, ByteArray.data_append]
theorem decB_size (f n : Nat) : (decB f n).size ≤ f + 1 := (V.decF_len f n).2

/-- What two numbers' order is. -/
theorem cmp_of (n k : Int) (hn : 0 ≤ n) (hk : 0 ≤ k) : V.cmpInt n.toNat k.toNat = if n < k then -1 else if k < n then 1 else 0 := by
  unfold V.cmpInt
  by_cases h1 : n < k
  · rw [if_pos h1, if_pos (by omega)]
  · by_cases h2 : k < n
    · rw [if_neg h1, if_pos h2, if_neg (by omega), if_pos (by omega)]
    · rw [if_neg h1, if_neg h2, if_neg (by omega), if_neg (by omega)]

set_option maxRecDepth 100000 in
set_option maxHeartbeats 6400000 in
theorem Ordered_any (a b c : ByteArray) (x y m : Int) (w : World) (ha : a.size ≤ 281474976710656) (hb : b.size ≤ 281474976710656) (hc : c.size ≤ 281474976710656)
    (hx1 : -9223372036854775808 ≤ x) (hx2 : x ≤ 9223372036854775807) (hy1 : -9223372036854775808 ≤ y) (hy2 : y ≤ 9223372036854775807) (hm : w.cell? ⟨0, 0, none⟩ = some (.int .i64 m))
    (hbegin : Calls Tryz.prog 13 #[] w fun e w' => e = .returned (.bool true) ∧ Below w.heap.size w w') :
    Calls Tryz.prog 3 #[.string a, .string b, .string c, .int .i64 x, .int .i64 y] w fun e w' => e = .returned (.bool true) ∧ Below w.heap.size w w' := by
  have HBG := hide hbegin
  clear hbegin
  obtain ⟨hn0, hn1⟩ := pickN_range x
  obtain ⟨hk0, hk1⟩ := pickN_range y
  have hd1 := V.decF_digits 4 (pickN x).toNat (by omega)
  have hd2 := V.decF_digits 4 (pickN y).toNat (by omega)
  have hu1 := (V.decF_number 4 (pickN x).toNat (by omega)).1
  have hu2 := (V.decF_number 4 (pickN y).toNat (by omega)).1
  have hl1 := (V.decF_len 4 (pickN x).toNat).2
  have hl2 := (V.decF_len 4 (pickN y).toNat).2
  have hcm := V.decF_cmp 4 (pickN x).toNat (pickN y).toNat (by omega) (by omega)
  rw [cmp_of _ _ hn0 hk0] at hcm
  obtain ⟨o, ho, hcase⟩ : ∃ o : Int, (if pickN x < pickN y then -1 else if pickN y < pickN x then 1 else 0 : Int) = o ∧ ((pickN x < pickN y ∧ o = -1) ∨ (¬ pickN x < pickN y ∧ pickN y < pickN x ∧ o = 1) ∨ (¬ pickN x < pickN y ∧ ¬ pickN y < pickN x ∧ o = 0)) := by
    by_cases h1 : pickN x < pickN y
    · exact ⟨-1, by rw [if_pos h1], Or.inl ⟨h1, rfl⟩⟩
    · by_cases h2 : pickN y < pickN x
      · exact ⟨1, by rw [if_neg h1, if_pos h2], Or.inr (Or.inl ⟨h1, h2, rfl⟩)⟩
      · exact ⟨0, by rw [if_neg h1, if_neg h2], Or.inr (Or.inr ⟨h1, h2, rfl⟩)⟩
  rw [ho] at hcm
  have HA1 : Hid (V.ver (ByteArray.mk #[118, 48, 46] ++ decB 4 (pickN x).toNat ++ ByteArray.mk #[46, 57]).data.toList = true) := by
    refine hide ?_
    rw [verA_bytes]; exact V.verA_ok hd1 hu1 (by omega)
  have HA2 : Hid (V.ver (ByteArray.mk #[118, 48, 46] ++ decB 4 (pickN y).toNat ++ ByteArray.mk #[46, 57]).data.toList = true) := by
    refine hide ?_
    rw [verA_bytes]; exact V.verA_ok hd2 hu2 (by omega)
  have HC1 : Hid (V.ver (ByteArray.mk #[118, 48, 46, 48, 46, 48, 45, 120, 46] ++ decB 4 (pickN x).toNat).data.toList = true) := by
    refine hide ?_
    rw [verB_bytes]; exact V.verB_ok hd1 hu1 (by omega)
  have HC2 : Hid (V.ver (ByteArray.mk #[118, 48, 46, 48, 46, 48, 45, 120, 46] ++ decB 4 (pickN y).toNat).data.toList = true) := by
    refine hide ?_
    rw [verB_bytes]; exact V.verB_ok hd2 hu2 (by omega)
  have HA3 : Hid (V.order (ByteArray.mk #[118, 48, 46] ++ decB 4 (pickN x).toNat ++ ByteArray.mk #[46, 57]).data.toList (ByteArray.mk #[118, 48, 46] ++ decB 4 (pickN y).toNat ++ ByteArray.mk #[46, 57]).data.toList = o) := by
    refine hide ?_
    rw [verA_bytes, verA_bytes, V.orderA hd1 hd2, hcm]
  have HC3 : Hid (V.order (ByteArray.mk #[118, 48, 46, 48, 46, 48, 45, 120, 46] ++ decB 4 (pickN x).toNat).data.toList (ByteArray.mk #[118, 48, 46, 48, 46, 48, 45, 120, 46] ++ decB 4 (pickN y).toNat).data.toList = o) := by
    refine hide ?_
    rw [verB_bytes, verB_bytes, V.orderB hd1 hd2, hcm]
  have hs1 := decB_size 4 (pickN x).toNat
  have hs2 := decB_size 4 (pickN y).toNat
  clear hd1 hd2 hu1 hu2 hl1 hl2 hcm ho
  have hcat := fun (wx : World) (u v : ByteArray) (h : u.size + v.size ≤ 9223372036854775807) => run_string_add_sum (P := Tryz.prog) wx u v h
  have k1 := fun wx => hcat wx (ByteArray.mk #[118, 48, 46]) (decB 4 (pickN x).toNat) (by show 3 + _ ≤ _; omega)
  have k2 := fun wx => hcat wx (ByteArray.mk #[118, 48, 46]) (decB 4 (pickN y).toNat) (by show 3 + _ ≤ _; omega)
  have k3 := fun wx => hcat wx (ByteArray.mk #[118, 48, 46] ++ decB 4 (pickN x).toNat) (ByteArray.mk #[46, 57]) (by rw [ByteArray.size_append]; show 3 + _ + 2 ≤ _; omega)
  have k4 := fun wx => hcat wx (ByteArray.mk #[118, 48, 46] ++ decB 4 (pickN y).toNat) (ByteArray.mk #[46, 57]) (by rw [ByteArray.size_append]; show 3 + _ + 2 ≤ _; omega)
  have k5 := fun wx => hcat wx (ByteArray.mk #[118, 48, 46, 48, 46, 48, 45, 120, 46]) (decB 4 (pickN x).toNat) (by show 9 + _ ≤ _; omega)
  have k6 := fun wx => hcat wx (ByteArray.mk #[118, 48, 46, 48, 46, 48, 45, 120, 46]) (decB 4 (pickN y).toNat) (by show 9 + _ ≤ _; omega)
  clear hcat hs1 hs2
  have key : Hid ((V.ver a.data.toList && V.ver b.data.toList) = true → V.ver a.data.toList = true ∧ V.ver b.data.toList = true) := hide (fun h => by simpa using h)
  rcases hcase with ⟨z1, rfl⟩ | ⟨z1, z2, rfl⟩ | ⟨z1, z2, rfl⟩
  all_goals
    go_enter Tryz.func3, Tryz.ntmps3
    go_wp2_with fail
    refine HBG.out.mono ?_
    rintro e w0 ⟨rfl, hq⟩
    have HB0 := hide hq
    have hm0 := keep hq hm
    clear hq hm
    cases hv : (V.ver a.data.toList && V.ver b.data.toList)
    · have HVS : Hid ((V.ver b.data.toList && V.ver a.data.toList) = false) := hide (by rw [Bool.and_comm]; exact hv)
      have HV := hide hv
      clear hv
      go_wp2_with fail
      refine (tcompare_no a b m _ ha hb hm0 HV.out).mono ?_
      rintro e w1 ⟨bf1, rfl, hq⟩
      have HB1 := hide (HB0.out.trans (hq.mono HB0.out.size))
      have hm1 := keep hq hm0
      clear hq hm0
      go_wp2_with fail
      refine (tcompare_no b a m _ hb ha hm1 HVS.out).mono ?_
      rintro e w2 ⟨bf2, rfl, hq⟩
      have HB2 := hide (HB1.out.trans (hq.mono HB1.out.size))
      have hm2 := keep hq hm1
      clear hq hm1
      go_wp2_with fail
      refine (tcompare_some b c m _ hb hc hm2).mono ?_
      rintro e w3 ⟨o3, v3, rfl, hq⟩
      have HB3 := hide (HB2.out.trans (hq.mono HB2.out.size))
      have hm3 := keep hq hm2
      clear hq hm2
      go_wp2_with fail
      refine (tcompare_some a c m _ ha hc hm3).mono ?_
      rintro e w4 ⟨o4, v4, rfl, hq⟩
      have HB4 := hide (HB3.out.trans (hq.mono HB3.out.size))
      have hm4 := keep hq hm3
      clear hq hm3
      go_wp2_with fail
      go_quiet (fail)
      have HB5 := hide (below_drewN HB4.out nq)
      have hm5 : (w4.drewN nq).cell? ⟨0, 0, none⟩ = some (.int .i64 m) := hm4
      clear HB4 hm4
      generalize w4.drewN nq = w4q at HB5 hm5 ⊢
      go_wp2_with fail
      refine (pick_any x _ hx1 hx2).mono ?_
      rintro e w5 ⟨rfl, rfl⟩
      go_wp2_with fail
      refine (pick_any y _ hy1 hy2).mono ?_
      rintro e w6 ⟨rfl, rfl⟩
      go_wp2_with fail
      refine (decimal_any 4 (by omega) (pickN x) _ hn0 (by omega) (by omega)).mono ?_
      rintro e w7 ⟨rfl, hq⟩
      replace hq := drawn_below hq
      have HB7 := hide (HB5.out.trans (hq.mono HB5.out.size))
      replace hm5 := keep hq hm5
      clear hq
      go_wp2_with fail
      refine (decimal_any 4 (by omega) (pickN y) _ hk0 (by omega) (by omega)).mono ?_
      rintro e w8 ⟨rfl, hq⟩
      replace hq := drawn_below hq
      have HB8 := hide (HB7.out.trans (hq.mono HB7.out.size))
      replace hm5 := keep hq hm5
      clear hq
      go_wp2_with fail
      refine (tcompare_yes _ _ m _ hm5 HA1.out HA2.out).mono ?_
      rintro e w9 ⟨rfl, hq⟩
      rw [HA3.out]
      have HB9 := hide (HB8.out.trans (hq.mono HB8.out.size))
      replace hm5 := keep hq hm5
      clear hq
      go_wp2_with fail
      refine (decimal_any 4 (by omega) (pickN x) _ hn0 (by omega) (by omega)).mono ?_
      rintro e w10 ⟨rfl, hq⟩
      replace hq := drawn_below hq
      have HB10 := hide (HB9.out.trans (hq.mono HB9.out.size))
      replace hm5 := keep hq hm5
      clear hq
      go_wp2_with fail
      refine (decimal_any 4 (by omega) (pickN y) _ hk0 (by omega) (by omega)).mono ?_
      rintro e w11 ⟨rfl, hq⟩
      replace hq := drawn_below hq
      have HB11 := hide (HB10.out.trans (hq.mono HB10.out.size))
      replace hm5 := keep hq hm5
      clear hq
      go_wp2_with fail
      refine (tcompare_yes _ _ m _ hm5 HC1.out HC2.out).mono ?_
      rintro e w12 ⟨rfl, hq⟩
      rw [HC3.out]
      have HB12 := hide (HB11.out.trans (hq.mono HB11.out.size))
      clear hq
      go_wp2
      go_ret
      exact ⟨rfl, HB12.out⟩
    · have HVA := hide (key.out hv).1
      have HVB := hide (key.out hv).2
      clear hv
      have HT := hide (V.order_turn a.data.toList b.data.toList)
      have HZ := hide (V.order_zero HVA.out HVB.out)
      rcases V.order_range a.data.toList b.data.toList with e1 | e1 | e1
      · have E1 := hide e1
        have E2 : Hid (V.order b.data.toList a.data.toList = 1) := hide (by have := HT.out; omega)
        have hab : (a.toList == b.toList) = false := by
          rw [Lib.toList_data, Lib.toList_data]
          refine beq_eq_false_iff_ne.2 (fun e => ?_); have := HZ.out.2 e; omega
        have L1 : Hid (V.order a.data.toList b.data.toList ≤ 0) := hide (by rw [e1]; decide)
        clear e1
        cases hvc : V.ver c.data.toList
        · have HVC1 : Hid ((V.ver b.data.toList && V.ver c.data.toList) = false) := hide (by rw [hvc]; simp)
          have HVC2 : Hid ((V.ver a.data.toList && V.ver c.data.toList) = false) := hide (by rw [hvc]; simp)
          clear hvc
          go_wp2_with fail
          refine (tcompare_yes a b m _ hm0 HVA.out HVB.out).mono ?_
          rintro e w1 ⟨rfl, hq⟩
          rw [E1.out]
          have HB1 := hide (HB0.out.trans (hq.mono HB0.out.size))
          have hm1 := keep hq hm0
          clear hq hm0
          go_wp2_with fail
          refine (tcompare_yes b a m _ hm1 HVB.out HVA.out).mono ?_
          rintro e w2 ⟨rfl, hq⟩
          rw [E2.out]
          have HB2 := hide (HB1.out.trans (hq.mono HB1.out.size))
          have hm2 := keep hq hm1
          clear hq hm1
          go_wp2_with fail
          refine (tcompare_no b c m _ hb hc hm2 HVC1.out).mono ?_
          rintro e w3 ⟨bf3, rfl, hq⟩
          have HB3 := hide (HB2.out.trans (hq.mono HB2.out.size))
          have hm3 := keep hq hm2
          clear hq hm2
          go_wp2_with fail
          refine (tcompare_no a c m _ ha hc hm3 HVC2.out).mono ?_
          rintro e w4 ⟨bf4, rfl, hq⟩
          have HB4 := hide (HB3.out.trans (hq.mono HB3.out.size))
          have hm4 := keep hq hm3
          clear hq hm3
          go_wp2_with fail
          go_quiet (fail)
          have HB5 := hide (below_drewN HB4.out nq)
          have hm5 : (w4.drewN nq).cell? ⟨0, 0, none⟩ = some (.int .i64 m) := hm4
          clear HB4 hm4
          generalize w4.drewN nq = w4q at HB5 hm5 ⊢
          go_wp2_with fail
          refine (pick_any x _ hx1 hx2).mono ?_
          rintro e w5 ⟨rfl, rfl⟩
          go_wp2_with fail
          refine (pick_any y _ hy1 hy2).mono ?_
          rintro e w6 ⟨rfl, rfl⟩
          go_wp2_with fail
          refine (decimal_any 4 (by omega) (pickN x) _ hn0 (by omega) (by omega)).mono ?_
          rintro e w7 ⟨rfl, hq⟩
          replace hq := drawn_below hq
          have HB7 := hide (HB5.out.trans (hq.mono HB5.out.size))
          replace hm5 := keep hq hm5
          clear hq
          go_wp2_with fail
          refine (decimal_any 4 (by omega) (pickN y) _ hk0 (by omega) (by omega)).mono ?_
          rintro e w8 ⟨rfl, hq⟩
          replace hq := drawn_below hq
          have HB8 := hide (HB7.out.trans (hq.mono HB7.out.size))
          replace hm5 := keep hq hm5
          clear hq
          go_wp2_with fail
          refine (tcompare_yes _ _ m _ hm5 HA1.out HA2.out).mono ?_
          rintro e w9 ⟨rfl, hq⟩
          rw [HA3.out]
          have HB9 := hide (HB8.out.trans (hq.mono HB8.out.size))
          replace hm5 := keep hq hm5
          clear hq
          go_wp2_with fail
          refine (decimal_any 4 (by omega) (pickN x) _ hn0 (by omega) (by omega)).mono ?_
          rintro e w10 ⟨rfl, hq⟩
          replace hq := drawn_below hq
          have HB10 := hide (HB9.out.trans (hq.mono HB9.out.size))
          replace hm5 := keep hq hm5
          clear hq
          go_wp2_with fail
          refine (decimal_any 4 (by omega) (pickN y) _ hk0 (by omega) (by omega)).mono ?_
          rintro e w11 ⟨rfl, hq⟩
          replace hq := drawn_below hq
          have HB11 := hide (HB10.out.trans (hq.mono HB10.out.size))
          replace hm5 := keep hq hm5
          clear hq
          go_wp2_with fail
          refine (tcompare_yes _ _ m _ hm5 HC1.out HC2.out).mono ?_
          rintro e w12 ⟨rfl, hq⟩
          rw [HC3.out]
          have HB12 := hide (HB11.out.trans (hq.mono HB11.out.size))
          clear hq
          go_wp2
          go_ret
          exact ⟨rfl, HB12.out⟩
        · have HVC := hide hvc
          clear hvc
          rcases V.order_range b.data.toList c.data.toList with f | f | f
          · have F := hide f
            have g1 : V.order a.data.toList c.data.toList ≤ 0 := V.order_le _ _ _ L1.out (by omega)
            clear f
            go_wp2_with fail
            refine (tcompare_yes a b m _ hm0 HVA.out HVB.out).mono ?_
            rintro e w1 ⟨rfl, hq⟩
            rw [E1.out]
            have HB1 := hide (HB0.out.trans (hq.mono HB0.out.size))
            have hm1 := keep hq hm0
            clear hq hm0
            go_wp2_with fail
            refine (tcompare_yes b a m _ hm1 HVB.out HVA.out).mono ?_
            rintro e w2 ⟨rfl, hq⟩
            rw [E2.out]
            have HB2 := hide (HB1.out.trans (hq.mono HB1.out.size))
            have hm2 := keep hq hm1
            clear hq hm1
            go_wp2_with fail
            refine (tcompare_yes b c m _ hm2 HVB.out HVC.out).mono ?_
            rintro e w3 ⟨rfl, hq⟩
            rw [F.out]
            have HB3 := hide (HB2.out.trans (hq.mono HB2.out.size))
            have hm3 := keep hq hm2
            clear hq hm2
            go_wp2_with fail
            refine (tcompare_yes a c m _ hm3 HVA.out HVC.out).mono ?_
            rintro e w4 ⟨rfl, hq⟩
            have HB4 := hide (HB3.out.trans (hq.mono HB3.out.size))
            have hm4 := keep hq hm3
            clear hq hm3
            go_wp2_with fail
            go_quiet (fail)
            have HB5 := hide (below_drewN HB4.out nq)
            have hm5 : (w4.drewN nq).cell? ⟨0, 0, none⟩ = some (.int .i64 m) := hm4
            clear HB4 hm4
            generalize w4.drewN nq = w4q at HB5 hm5 ⊢
            go_wp2_with fail
            refine (pick_any x _ hx1 hx2).mono ?_
            rintro e w5 ⟨rfl, rfl⟩
            go_wp2_with fail
            refine (pick_any y _ hy1 hy2).mono ?_
            rintro e w6 ⟨rfl, rfl⟩
            go_wp2_with fail
            refine (decimal_any 4 (by omega) (pickN x) _ hn0 (by omega) (by omega)).mono ?_
            rintro e w7 ⟨rfl, hq⟩
            replace hq := drawn_below hq
            have HB7 := hide (HB5.out.trans (hq.mono HB5.out.size))
            replace hm5 := keep hq hm5
            clear hq
            go_wp2_with fail
            refine (decimal_any 4 (by omega) (pickN y) _ hk0 (by omega) (by omega)).mono ?_
            rintro e w8 ⟨rfl, hq⟩
            replace hq := drawn_below hq
            have HB8 := hide (HB7.out.trans (hq.mono HB7.out.size))
            replace hm5 := keep hq hm5
            clear hq
            go_wp2_with fail
            refine (tcompare_yes _ _ m _ hm5 HA1.out HA2.out).mono ?_
            rintro e w9 ⟨rfl, hq⟩
            rw [HA3.out]
            have HB9 := hide (HB8.out.trans (hq.mono HB8.out.size))
            replace hm5 := keep hq hm5
            clear hq
            go_wp2_with fail
            refine (decimal_any 4 (by omega) (pickN x) _ hn0 (by omega) (by omega)).mono ?_
            rintro e w10 ⟨rfl, hq⟩
            replace hq := drawn_below hq
            have HB10 := hide (HB9.out.trans (hq.mono HB9.out.size))
            replace hm5 := keep hq hm5
            clear hq
            go_wp2_with fail
            refine (decimal_any 4 (by omega) (pickN y) _ hk0 (by omega) (by omega)).mono ?_
            rintro e w11 ⟨rfl, hq⟩
            replace hq := drawn_below hq
            have HB11 := hide (HB10.out.trans (hq.mono HB10.out.size))
            replace hm5 := keep hq hm5
            clear hq
            go_wp2_with fail
            refine (tcompare_yes _ _ m _ hm5 HC1.out HC2.out).mono ?_
            rintro e w12 ⟨rfl, hq⟩
            rw [HC3.out]
            have HB12 := hide (HB11.out.trans (hq.mono HB11.out.size))
            clear hq
            go_wp2
            go_ret
            exact ⟨rfl, HB12.out⟩
          · have F := hide f
            have g1 : V.order a.data.toList c.data.toList ≤ 0 := V.order_le _ _ _ L1.out (by omega)
            clear f
            go_wp2_with fail
            refine (tcompare_yes a b m _ hm0 HVA.out HVB.out).mono ?_
            rintro e w1 ⟨rfl, hq⟩
            rw [E1.out]
            have HB1 := hide (HB0.out.trans (hq.mono HB0.out.size))
            have hm1 := keep hq hm0
            clear hq hm0
            go_wp2_with fail
            refine (tcompare_yes b a m _ hm1 HVB.out HVA.out).mono ?_
            rintro e w2 ⟨rfl, hq⟩
            rw [E2.out]
            have HB2 := hide (HB1.out.trans (hq.mono HB1.out.size))
            have hm2 := keep hq hm1
            clear hq hm1
            go_wp2_with fail
            refine (tcompare_yes b c m _ hm2 HVB.out HVC.out).mono ?_
            rintro e w3 ⟨rfl, hq⟩
            rw [F.out]
            have HB3 := hide (HB2.out.trans (hq.mono HB2.out.size))
            have hm3 := keep hq hm2
            clear hq hm2
            go_wp2_with fail
            refine (tcompare_yes a c m _ hm3 HVA.out HVC.out).mono ?_
            rintro e w4 ⟨rfl, hq⟩
            have HB4 := hide (HB3.out.trans (hq.mono HB3.out.size))
            have hm4 := keep hq hm3
            clear hq hm3
            go_wp2_with fail
            go_quiet (fail)
            have HB5 := hide (below_drewN HB4.out nq)
            have hm5 : (w4.drewN nq).cell? ⟨0, 0, none⟩ = some (.int .i64 m) := hm4
            clear HB4 hm4
            generalize w4.drewN nq = w4q at HB5 hm5 ⊢
            go_wp2_with fail
            refine (pick_any x _ hx1 hx2).mono ?_
            rintro e w5 ⟨rfl, rfl⟩
            go_wp2_with fail
            refine (pick_any y _ hy1 hy2).mono ?_
            rintro e w6 ⟨rfl, rfl⟩
            go_wp2_with fail
            refine (decimal_any 4 (by omega) (pickN x) _ hn0 (by omega) (by omega)).mono ?_
            rintro e w7 ⟨rfl, hq⟩
            replace hq := drawn_below hq
            have HB7 := hide (HB5.out.trans (hq.mono HB5.out.size))
            replace hm5 := keep hq hm5
            clear hq
            go_wp2_with fail
            refine (decimal_any 4 (by omega) (pickN y) _ hk0 (by omega) (by omega)).mono ?_
            rintro e w8 ⟨rfl, hq⟩
            replace hq := drawn_below hq
            have HB8 := hide (HB7.out.trans (hq.mono HB7.out.size))
            replace hm5 := keep hq hm5
            clear hq
            go_wp2_with fail
            refine (tcompare_yes _ _ m _ hm5 HA1.out HA2.out).mono ?_
            rintro e w9 ⟨rfl, hq⟩
            rw [HA3.out]
            have HB9 := hide (HB8.out.trans (hq.mono HB8.out.size))
            replace hm5 := keep hq hm5
            clear hq
            go_wp2_with fail
            refine (decimal_any 4 (by omega) (pickN x) _ hn0 (by omega) (by omega)).mono ?_
            rintro e w10 ⟨rfl, hq⟩
            replace hq := drawn_below hq
            have HB10 := hide (HB9.out.trans (hq.mono HB9.out.size))
            replace hm5 := keep hq hm5
            clear hq
            go_wp2_with fail
            refine (decimal_any 4 (by omega) (pickN y) _ hk0 (by omega) (by omega)).mono ?_
            rintro e w11 ⟨rfl, hq⟩
            replace hq := drawn_below hq
            have HB11 := hide (HB10.out.trans (hq.mono HB10.out.size))
            replace hm5 := keep hq hm5
            clear hq
            go_wp2_with fail
            refine (tcompare_yes _ _ m _ hm5 HC1.out HC2.out).mono ?_
            rintro e w12 ⟨rfl, hq⟩
            rw [HC3.out]
            have HB12 := hide (HB11.out.trans (hq.mono HB11.out.size))
            clear hq
            go_wp2
            go_ret
            exact ⟨rfl, HB12.out⟩
          · have F := hide f
            clear f
            go_wp2_with fail
            refine (tcompare_yes a b m _ hm0 HVA.out HVB.out).mono ?_
            rintro e w1 ⟨rfl, hq⟩
            rw [E1.out]
            have HB1 := hide (HB0.out.trans (hq.mono HB0.out.size))
            have hm1 := keep hq hm0
            clear hq hm0
            go_wp2_with fail
            refine (tcompare_yes b a m _ hm1 HVB.out HVA.out).mono ?_
            rintro e w2 ⟨rfl, hq⟩
            rw [E2.out]
            have HB2 := hide (HB1.out.trans (hq.mono HB1.out.size))
            have hm2 := keep hq hm1
            clear hq hm1
            go_wp2_with fail
            refine (tcompare_yes b c m _ hm2 HVB.out HVC.out).mono ?_
            rintro e w3 ⟨rfl, hq⟩
            rw [F.out]
            have HB3 := hide (HB2.out.trans (hq.mono HB2.out.size))
            have hm3 := keep hq hm2
            clear hq hm2
            go_wp2_with fail
            refine (tcompare_yes a c m _ hm3 HVA.out HVC.out).mono ?_
            rintro e w4 ⟨rfl, hq⟩
            have HB4 := hide (HB3.out.trans (hq.mono HB3.out.size))
            have hm4 := keep hq hm3
            clear hq hm3
            go_wp2_with fail
            go_quiet (fail)
            have HB5 := hide (below_drewN HB4.out nq)
            have hm5 : (w4.drewN nq).cell? ⟨0, 0, none⟩ = some (.int .i64 m) := hm4
            clear HB4 hm4
            generalize w4.drewN nq = w4q at HB5 hm5 ⊢
            go_wp2_with fail
            refine (pick_any x _ hx1 hx2).mono ?_
            rintro e w5 ⟨rfl, rfl⟩
            go_wp2_with fail
            refine (pick_any y _ hy1 hy2).mono ?_
            rintro e w6 ⟨rfl, rfl⟩
            go_wp2_with fail
            refine (decimal_any 4 (by omega) (pickN x) _ hn0 (by omega) (by omega)).mono ?_
            rintro e w7 ⟨rfl, hq⟩
            replace hq := drawn_below hq
            have HB7 := hide (HB5.out.trans (hq.mono HB5.out.size))
            replace hm5 := keep hq hm5
            clear hq
            go_wp2_with fail
            refine (decimal_any 4 (by omega) (pickN y) _ hk0 (by omega) (by omega)).mono ?_
            rintro e w8 ⟨rfl, hq⟩
            replace hq := drawn_below hq
            have HB8 := hide (HB7.out.trans (hq.mono HB7.out.size))
            replace hm5 := keep hq hm5
            clear hq
            go_wp2_with fail
            refine (tcompare_yes _ _ m _ hm5 HA1.out HA2.out).mono ?_
            rintro e w9 ⟨rfl, hq⟩
            rw [HA3.out]
            have HB9 := hide (HB8.out.trans (hq.mono HB8.out.size))
            replace hm5 := keep hq hm5
            clear hq
            go_wp2_with fail
            refine (decimal_any 4 (by omega) (pickN x) _ hn0 (by omega) (by omega)).mono ?_
            rintro e w10 ⟨rfl, hq⟩
            replace hq := drawn_below hq
            have HB10 := hide (HB9.out.trans (hq.mono HB9.out.size))
            replace hm5 := keep hq hm5
            clear hq
            go_wp2_with fail
            refine (decimal_any 4 (by omega) (pickN y) _ hk0 (by omega) (by omega)).mono ?_
            rintro e w11 ⟨rfl, hq⟩
            replace hq := drawn_below hq
            have HB11 := hide (HB10.out.trans (hq.mono HB10.out.size))
            replace hm5 := keep hq hm5
            clear hq
            go_wp2_with fail
            refine (tcompare_yes _ _ m _ hm5 HC1.out HC2.out).mono ?_
            rintro e w12 ⟨rfl, hq⟩
            rw [HC3.out]
            have HB12 := hide (HB11.out.trans (hq.mono HB11.out.size))
            clear hq
            go_wp2
            go_ret
            exact ⟨rfl, HB12.out⟩
      · have E1 := hide e1
        have E2 : Hid (V.order b.data.toList a.data.toList = 0) := hide (by have := HT.out; omega)
        have hab : (a.toList == b.toList) = true := by
          rw [Lib.toList_data, Lib.toList_data]
          exact beq_iff_eq.2 (HZ.out.1 e1)
        have L1 : Hid (V.order a.data.toList b.data.toList ≤ 0 ∧ 0 ≤ V.order a.data.toList b.data.toList) := hide (by rw [e1]; decide)
        clear e1
        cases hvc : V.ver c.data.toList
        · have HVC1 : Hid ((V.ver b.data.toList && V.ver c.data.toList) = false) := hide (by rw [hvc]; simp)
          have HVC2 : Hid ((V.ver a.data.toList && V.ver c.data.toList) = false) := hide (by rw [hvc]; simp)
          clear hvc
          go_wp2_with fail
          refine (tcompare_yes a b m _ hm0 HVA.out HVB.out).mono ?_
          rintro e w1 ⟨rfl, hq⟩
          rw [E1.out]
          have HB1 := hide (HB0.out.trans (hq.mono HB0.out.size))
          have hm1 := keep hq hm0
          clear hq hm0
          go_wp2_with fail
          refine (tcompare_yes b a m _ hm1 HVB.out HVA.out).mono ?_
          rintro e w2 ⟨rfl, hq⟩
          rw [E2.out]
          have HB2 := hide (HB1.out.trans (hq.mono HB1.out.size))
          have hm2 := keep hq hm1
          clear hq hm1
          go_wp2_with fail
          refine (tcompare_no b c m _ hb hc hm2 HVC1.out).mono ?_
          rintro e w3 ⟨bf3, rfl, hq⟩
          have HB3 := hide (HB2.out.trans (hq.mono HB2.out.size))
          have hm3 := keep hq hm2
          clear hq hm2
          go_wp2_with fail
          refine (tcompare_no a c m _ ha hc hm3 HVC2.out).mono ?_
          rintro e w4 ⟨bf4, rfl, hq⟩
          have HB4 := hide (HB3.out.trans (hq.mono HB3.out.size))
          have hm4 := keep hq hm3
          clear hq hm3
          go_wp2_with fail
          go_quiet (fail)
          have HB5 := hide (below_drewN HB4.out nq)
          have hm5 : (w4.drewN nq).cell? ⟨0, 0, none⟩ = some (.int .i64 m) := hm4
          clear HB4 hm4
          generalize w4.drewN nq = w4q at HB5 hm5 ⊢
          go_wp2_with fail
          refine (pick_any x _ hx1 hx2).mono ?_
          rintro e w5 ⟨rfl, rfl⟩
          go_wp2_with fail
          refine (pick_any y _ hy1 hy2).mono ?_
          rintro e w6 ⟨rfl, rfl⟩
          go_wp2_with fail
          refine (decimal_any 4 (by omega) (pickN x) _ hn0 (by omega) (by omega)).mono ?_
          rintro e w7 ⟨rfl, hq⟩
          replace hq := drawn_below hq
          have HB7 := hide (HB5.out.trans (hq.mono HB5.out.size))
          replace hm5 := keep hq hm5
          clear hq
          go_wp2_with fail
          refine (decimal_any 4 (by omega) (pickN y) _ hk0 (by omega) (by omega)).mono ?_
          rintro e w8 ⟨rfl, hq⟩
          replace hq := drawn_below hq
          have HB8 := hide (HB7.out.trans (hq.mono HB7.out.size))
          replace hm5 := keep hq hm5
          clear hq
          go_wp2_with fail
          refine (tcompare_yes _ _ m _ hm5 HA1.out HA2.out).mono ?_
          rintro e w9 ⟨rfl, hq⟩
          rw [HA3.out]
          have HB9 := hide (HB8.out.trans (hq.mono HB8.out.size))
          replace hm5 := keep hq hm5
          clear hq
          go_wp2_with fail
          refine (decimal_any 4 (by omega) (pickN x) _ hn0 (by omega) (by omega)).mono ?_
          rintro e w10 ⟨rfl, hq⟩
          replace hq := drawn_below hq
          have HB10 := hide (HB9.out.trans (hq.mono HB9.out.size))
          replace hm5 := keep hq hm5
          clear hq
          go_wp2_with fail
          refine (decimal_any 4 (by omega) (pickN y) _ hk0 (by omega) (by omega)).mono ?_
          rintro e w11 ⟨rfl, hq⟩
          replace hq := drawn_below hq
          have HB11 := hide (HB10.out.trans (hq.mono HB10.out.size))
          replace hm5 := keep hq hm5
          clear hq
          go_wp2_with fail
          refine (tcompare_yes _ _ m _ hm5 HC1.out HC2.out).mono ?_
          rintro e w12 ⟨rfl, hq⟩
          rw [HC3.out]
          have HB12 := hide (HB11.out.trans (hq.mono HB11.out.size))
          clear hq
          go_wp2
          go_ret
          exact ⟨rfl, HB12.out⟩
        · have HVC := hide hvc
          clear hvc
          rcases V.order_range b.data.toList c.data.toList with f | f | f
          · have F := hide f
            have g1 : V.order a.data.toList c.data.toList ≤ 0 := V.order_le _ _ _ L1.out.1 (by omega)
            clear f
            go_wp2_with fail
            refine (tcompare_yes a b m _ hm0 HVA.out HVB.out).mono ?_
            rintro e w1 ⟨rfl, hq⟩
            rw [E1.out]
            have HB1 := hide (HB0.out.trans (hq.mono HB0.out.size))
            have hm1 := keep hq hm0
            clear hq hm0
            go_wp2_with fail
            refine (tcompare_yes b a m _ hm1 HVB.out HVA.out).mono ?_
            rintro e w2 ⟨rfl, hq⟩
            rw [E2.out]
            have HB2 := hide (HB1.out.trans (hq.mono HB1.out.size))
            have hm2 := keep hq hm1
            clear hq hm1
            go_wp2_with fail
            refine (tcompare_yes b c m _ hm2 HVB.out HVC.out).mono ?_
            rintro e w3 ⟨rfl, hq⟩
            rw [F.out]
            have HB3 := hide (HB2.out.trans (hq.mono HB2.out.size))
            have hm3 := keep hq hm2
            clear hq hm2
            go_wp2_with fail
            refine (tcompare_yes a c m _ hm3 HVA.out HVC.out).mono ?_
            rintro e w4 ⟨rfl, hq⟩
            have HB4 := hide (HB3.out.trans (hq.mono HB3.out.size))
            have hm4 := keep hq hm3
            clear hq hm3
            go_wp2_with fail
            go_quiet (fail)
            have HB5 := hide (below_drewN HB4.out nq)
            have hm5 : (w4.drewN nq).cell? ⟨0, 0, none⟩ = some (.int .i64 m) := hm4
            clear HB4 hm4
            generalize w4.drewN nq = w4q at HB5 hm5 ⊢
            go_wp2_with fail
            refine (pick_any x _ hx1 hx2).mono ?_
            rintro e w5 ⟨rfl, rfl⟩
            go_wp2_with fail
            refine (pick_any y _ hy1 hy2).mono ?_
            rintro e w6 ⟨rfl, rfl⟩
            go_wp2_with fail
            refine (decimal_any 4 (by omega) (pickN x) _ hn0 (by omega) (by omega)).mono ?_
            rintro e w7 ⟨rfl, hq⟩
            replace hq := drawn_below hq
            have HB7 := hide (HB5.out.trans (hq.mono HB5.out.size))
            replace hm5 := keep hq hm5
            clear hq
            go_wp2_with fail
            refine (decimal_any 4 (by omega) (pickN y) _ hk0 (by omega) (by omega)).mono ?_
            rintro e w8 ⟨rfl, hq⟩
            replace hq := drawn_below hq
            have HB8 := hide (HB7.out.trans (hq.mono HB7.out.size))
            replace hm5 := keep hq hm5
            clear hq
            go_wp2_with fail
            refine (tcompare_yes _ _ m _ hm5 HA1.out HA2.out).mono ?_
            rintro e w9 ⟨rfl, hq⟩
            rw [HA3.out]
            have HB9 := hide (HB8.out.trans (hq.mono HB8.out.size))
            replace hm5 := keep hq hm5
            clear hq
            go_wp2_with fail
            refine (decimal_any 4 (by omega) (pickN x) _ hn0 (by omega) (by omega)).mono ?_
            rintro e w10 ⟨rfl, hq⟩
            replace hq := drawn_below hq
            have HB10 := hide (HB9.out.trans (hq.mono HB9.out.size))
            replace hm5 := keep hq hm5
            clear hq
            go_wp2_with fail
            refine (decimal_any 4 (by omega) (pickN y) _ hk0 (by omega) (by omega)).mono ?_
            rintro e w11 ⟨rfl, hq⟩
            replace hq := drawn_below hq
            have HB11 := hide (HB10.out.trans (hq.mono HB10.out.size))
            replace hm5 := keep hq hm5
            clear hq
            go_wp2_with fail
            refine (tcompare_yes _ _ m _ hm5 HC1.out HC2.out).mono ?_
            rintro e w12 ⟨rfl, hq⟩
            rw [HC3.out]
            have HB12 := hide (HB11.out.trans (hq.mono HB11.out.size))
            clear hq
            go_wp2
            go_ret
            exact ⟨rfl, HB12.out⟩
          · have F := hide f
            have g1 : V.order a.data.toList c.data.toList ≤ 0 := V.order_le _ _ _ L1.out.1 (by omega)
            have g2 : 0 ≤ V.order a.data.toList c.data.toList := order_ge _ _ _ L1.out.2 (by omega)
            clear f
            go_wp2_with fail
            refine (tcompare_yes a b m _ hm0 HVA.out HVB.out).mono ?_
            rintro e w1 ⟨rfl, hq⟩
            rw [E1.out]
            have HB1 := hide (HB0.out.trans (hq.mono HB0.out.size))
            have hm1 := keep hq hm0
            clear hq hm0
            go_wp2_with fail
            refine (tcompare_yes b a m _ hm1 HVB.out HVA.out).mono ?_
            rintro e w2 ⟨rfl, hq⟩
            rw [E2.out]
            have HB2 := hide (HB1.out.trans (hq.mono HB1.out.size))
            have hm2 := keep hq hm1
            clear hq hm1
            go_wp2_with fail
            refine (tcompare_yes b c m _ hm2 HVB.out HVC.out).mono ?_
            rintro e w3 ⟨rfl, hq⟩
            rw [F.out]
            have HB3 := hide (HB2.out.trans (hq.mono HB2.out.size))
            have hm3 := keep hq hm2
            clear hq hm2
            go_wp2_with fail
            refine (tcompare_yes a c m _ hm3 HVA.out HVC.out).mono ?_
            rintro e w4 ⟨rfl, hq⟩
            have HB4 := hide (HB3.out.trans (hq.mono HB3.out.size))
            have hm4 := keep hq hm3
            clear hq hm3
            go_wp2_with fail
            go_quiet (fail)
            have HB5 := hide (below_drewN HB4.out nq)
            have hm5 : (w4.drewN nq).cell? ⟨0, 0, none⟩ = some (.int .i64 m) := hm4
            clear HB4 hm4
            generalize w4.drewN nq = w4q at HB5 hm5 ⊢
            go_wp2_with fail
            refine (pick_any x _ hx1 hx2).mono ?_
            rintro e w5 ⟨rfl, rfl⟩
            go_wp2_with fail
            refine (pick_any y _ hy1 hy2).mono ?_
            rintro e w6 ⟨rfl, rfl⟩
            go_wp2_with fail
            refine (decimal_any 4 (by omega) (pickN x) _ hn0 (by omega) (by omega)).mono ?_
            rintro e w7 ⟨rfl, hq⟩
            replace hq := drawn_below hq
            have HB7 := hide (HB5.out.trans (hq.mono HB5.out.size))
            replace hm5 := keep hq hm5
            clear hq
            go_wp2_with fail
            refine (decimal_any 4 (by omega) (pickN y) _ hk0 (by omega) (by omega)).mono ?_
            rintro e w8 ⟨rfl, hq⟩
            replace hq := drawn_below hq
            have HB8 := hide (HB7.out.trans (hq.mono HB7.out.size))
            replace hm5 := keep hq hm5
            clear hq
            go_wp2_with fail
            refine (tcompare_yes _ _ m _ hm5 HA1.out HA2.out).mono ?_
            rintro e w9 ⟨rfl, hq⟩
            rw [HA3.out]
            have HB9 := hide (HB8.out.trans (hq.mono HB8.out.size))
            replace hm5 := keep hq hm5
            clear hq
            go_wp2_with fail
            refine (decimal_any 4 (by omega) (pickN x) _ hn0 (by omega) (by omega)).mono ?_
            rintro e w10 ⟨rfl, hq⟩
            replace hq := drawn_below hq
            have HB10 := hide (HB9.out.trans (hq.mono HB9.out.size))
            replace hm5 := keep hq hm5
            clear hq
            go_wp2_with fail
            refine (decimal_any 4 (by omega) (pickN y) _ hk0 (by omega) (by omega)).mono ?_
            rintro e w11 ⟨rfl, hq⟩
            replace hq := drawn_below hq
            have HB11 := hide (HB10.out.trans (hq.mono HB10.out.size))
            replace hm5 := keep hq hm5
            clear hq
            go_wp2_with fail
            refine (tcompare_yes _ _ m _ hm5 HC1.out HC2.out).mono ?_
            rintro e w12 ⟨rfl, hq⟩
            rw [HC3.out]
            have HB12 := hide (HB11.out.trans (hq.mono HB11.out.size))
            clear hq
            go_wp2
            go_ret
            exact ⟨rfl, HB12.out⟩
          · have F := hide f
            have g2 : 0 ≤ V.order a.data.toList c.data.toList := order_ge _ _ _ L1.out.2 (by omega)
            clear f
            go_wp2_with fail
            refine (tcompare_yes a b m _ hm0 HVA.out HVB.out).mono ?_
            rintro e w1 ⟨rfl, hq⟩
            rw [E1.out]
            have HB1 := hide (HB0.out.trans (hq.mono HB0.out.size))
            have hm1 := keep hq hm0
            clear hq hm0
            go_wp2_with fail
            refine (tcompare_yes b a m _ hm1 HVB.out HVA.out).mono ?_
            rintro e w2 ⟨rfl, hq⟩
            rw [E2.out]
            have HB2 := hide (HB1.out.trans (hq.mono HB1.out.size))
            have hm2 := keep hq hm1
            clear hq hm1
            go_wp2_with fail
            refine (tcompare_yes b c m _ hm2 HVB.out HVC.out).mono ?_
            rintro e w3 ⟨rfl, hq⟩
            rw [F.out]
            have HB3 := hide (HB2.out.trans (hq.mono HB2.out.size))
            have hm3 := keep hq hm2
            clear hq hm2
            go_wp2_with fail
            refine (tcompare_yes a c m _ hm3 HVA.out HVC.out).mono ?_
            rintro e w4 ⟨rfl, hq⟩
            have HB4 := hide (HB3.out.trans (hq.mono HB3.out.size))
            have hm4 := keep hq hm3
            clear hq hm3
            go_wp2_with fail
            go_quiet (fail)
            have HB5 := hide (below_drewN HB4.out nq)
            have hm5 : (w4.drewN nq).cell? ⟨0, 0, none⟩ = some (.int .i64 m) := hm4
            clear HB4 hm4
            generalize w4.drewN nq = w4q at HB5 hm5 ⊢
            go_wp2_with fail
            refine (pick_any x _ hx1 hx2).mono ?_
            rintro e w5 ⟨rfl, rfl⟩
            go_wp2_with fail
            refine (pick_any y _ hy1 hy2).mono ?_
            rintro e w6 ⟨rfl, rfl⟩
            go_wp2_with fail
            refine (decimal_any 4 (by omega) (pickN x) _ hn0 (by omega) (by omega)).mono ?_
            rintro e w7 ⟨rfl, hq⟩
            replace hq := drawn_below hq
            have HB7 := hide (HB5.out.trans (hq.mono HB5.out.size))
            replace hm5 := keep hq hm5
            clear hq
            go_wp2_with fail
            refine (decimal_any 4 (by omega) (pickN y) _ hk0 (by omega) (by omega)).mono ?_
            rintro e w8 ⟨rfl, hq⟩
            replace hq := drawn_below hq
            have HB8 := hide (HB7.out.trans (hq.mono HB7.out.size))
            replace hm5 := keep hq hm5
            clear hq
            go_wp2_with fail
            refine (tcompare_yes _ _ m _ hm5 HA1.out HA2.out).mono ?_
            rintro e w9 ⟨rfl, hq⟩
            rw [HA3.out]
            have HB9 := hide (HB8.out.trans (hq.mono HB8.out.size))
            replace hm5 := keep hq hm5
            clear hq
            go_wp2_with fail
            refine (decimal_any 4 (by omega) (pickN x) _ hn0 (by omega) (by omega)).mono ?_
            rintro e w10 ⟨rfl, hq⟩
            replace hq := drawn_below hq
            have HB10 := hide (HB9.out.trans (hq.mono HB9.out.size))
            replace hm5 := keep hq hm5
            clear hq
            go_wp2_with fail
            refine (decimal_any 4 (by omega) (pickN y) _ hk0 (by omega) (by omega)).mono ?_
            rintro e w11 ⟨rfl, hq⟩
            replace hq := drawn_below hq
            have HB11 := hide (HB10.out.trans (hq.mono HB10.out.size))
            replace hm5 := keep hq hm5
            clear hq
            go_wp2_with fail
            refine (tcompare_yes _ _ m _ hm5 HC1.out HC2.out).mono ?_
            rintro e w12 ⟨rfl, hq⟩
            rw [HC3.out]
            have HB12 := hide (HB11.out.trans (hq.mono HB11.out.size))
            clear hq
            go_wp2
            go_ret
            exact ⟨rfl, HB12.out⟩
      · have E1 := hide e1
        have E2 : Hid (V.order b.data.toList a.data.toList = -1) := hide (by have := HT.out; omega)
        have hab : (a.toList == b.toList) = false := by
          rw [Lib.toList_data, Lib.toList_data]
          refine beq_eq_false_iff_ne.2 (fun e => ?_); have := HZ.out.2 e; omega
        have L1 : Hid (0 ≤ V.order a.data.toList b.data.toList) := hide (by rw [e1]; decide)
        clear e1
        cases hvc : V.ver c.data.toList
        · have HVC1 : Hid ((V.ver b.data.toList && V.ver c.data.toList) = false) := hide (by rw [hvc]; simp)
          have HVC2 : Hid ((V.ver a.data.toList && V.ver c.data.toList) = false) := hide (by rw [hvc]; simp)
          clear hvc
          go_wp2_with fail
          refine (tcompare_yes a b m _ hm0 HVA.out HVB.out).mono ?_
          rintro e w1 ⟨rfl, hq⟩
          rw [E1.out]
          have HB1 := hide (HB0.out.trans (hq.mono HB0.out.size))
          have hm1 := keep hq hm0
          clear hq hm0
          go_wp2_with fail
          refine (tcompare_yes b a m _ hm1 HVB.out HVA.out).mono ?_
          rintro e w2 ⟨rfl, hq⟩
          rw [E2.out]
          have HB2 := hide (HB1.out.trans (hq.mono HB1.out.size))
          have hm2 := keep hq hm1
          clear hq hm1
          go_wp2_with fail
          refine (tcompare_no b c m _ hb hc hm2 HVC1.out).mono ?_
          rintro e w3 ⟨bf3, rfl, hq⟩
          have HB3 := hide (HB2.out.trans (hq.mono HB2.out.size))
          have hm3 := keep hq hm2
          clear hq hm2
          go_wp2_with fail
          refine (tcompare_no a c m _ ha hc hm3 HVC2.out).mono ?_
          rintro e w4 ⟨bf4, rfl, hq⟩
          have HB4 := hide (HB3.out.trans (hq.mono HB3.out.size))
          have hm4 := keep hq hm3
          clear hq hm3
          go_wp2_with fail
          go_quiet (fail)
          have HB5 := hide (below_drewN HB4.out nq)
          have hm5 : (w4.drewN nq).cell? ⟨0, 0, none⟩ = some (.int .i64 m) := hm4
          clear HB4 hm4
          generalize w4.drewN nq = w4q at HB5 hm5 ⊢
          go_wp2_with fail
          refine (pick_any x _ hx1 hx2).mono ?_
          rintro e w5 ⟨rfl, rfl⟩
          go_wp2_with fail
          refine (pick_any y _ hy1 hy2).mono ?_
          rintro e w6 ⟨rfl, rfl⟩
          go_wp2_with fail
          refine (decimal_any 4 (by omega) (pickN x) _ hn0 (by omega) (by omega)).mono ?_
          rintro e w7 ⟨rfl, hq⟩
          replace hq := drawn_below hq
          have HB7 := hide (HB5.out.trans (hq.mono HB5.out.size))
          replace hm5 := keep hq hm5
          clear hq
          go_wp2_with fail
          refine (decimal_any 4 (by omega) (pickN y) _ hk0 (by omega) (by omega)).mono ?_
          rintro e w8 ⟨rfl, hq⟩
          replace hq := drawn_below hq
          have HB8 := hide (HB7.out.trans (hq.mono HB7.out.size))
          replace hm5 := keep hq hm5
          clear hq
          go_wp2_with fail
          refine (tcompare_yes _ _ m _ hm5 HA1.out HA2.out).mono ?_
          rintro e w9 ⟨rfl, hq⟩
          rw [HA3.out]
          have HB9 := hide (HB8.out.trans (hq.mono HB8.out.size))
          replace hm5 := keep hq hm5
          clear hq
          go_wp2_with fail
          refine (decimal_any 4 (by omega) (pickN x) _ hn0 (by omega) (by omega)).mono ?_
          rintro e w10 ⟨rfl, hq⟩
          replace hq := drawn_below hq
          have HB10 := hide (HB9.out.trans (hq.mono HB9.out.size))
          replace hm5 := keep hq hm5
          clear hq
          go_wp2_with fail
          refine (decimal_any 4 (by omega) (pickN y) _ hk0 (by omega) (by omega)).mono ?_
          rintro e w11 ⟨rfl, hq⟩
          replace hq := drawn_below hq
          have HB11 := hide (HB10.out.trans (hq.mono HB10.out.size))
          replace hm5 := keep hq hm5
          clear hq
          go_wp2_with fail
          refine (tcompare_yes _ _ m _ hm5 HC1.out HC2.out).mono ?_
          rintro e w12 ⟨rfl, hq⟩
          rw [HC3.out]
          have HB12 := hide (HB11.out.trans (hq.mono HB11.out.size))
          clear hq
          go_wp2
          go_ret
          exact ⟨rfl, HB12.out⟩
        · have HVC := hide hvc
          clear hvc
          rcases V.order_range b.data.toList c.data.toList with f | f | f
          · have F := hide f
            clear f
            go_wp2_with fail
            refine (tcompare_yes a b m _ hm0 HVA.out HVB.out).mono ?_
            rintro e w1 ⟨rfl, hq⟩
            rw [E1.out]
            have HB1 := hide (HB0.out.trans (hq.mono HB0.out.size))
            have hm1 := keep hq hm0
            clear hq hm0
            go_wp2_with fail
            refine (tcompare_yes b a m _ hm1 HVB.out HVA.out).mono ?_
            rintro e w2 ⟨rfl, hq⟩
            rw [E2.out]
            have HB2 := hide (HB1.out.trans (hq.mono HB1.out.size))
            have hm2 := keep hq hm1
            clear hq hm1
            go_wp2_with fail
            refine (tcompare_yes b c m _ hm2 HVB.out HVC.out).mono ?_
            rintro e w3 ⟨rfl, hq⟩
            rw [F.out]
            have HB3 := hide (HB2.out.trans (hq.mono HB2.out.size))
            have hm3 := keep hq hm2
            clear hq hm2
            go_wp2_with fail
            refine (tcompare_yes a c m _ hm3 HVA.out HVC.out).mono ?_
            rintro e w4 ⟨rfl, hq⟩
            have HB4 := hide (HB3.out.trans (hq.mono HB3.out.size))
            have hm4 := keep hq hm3
            clear hq hm3
            go_wp2_with fail
            go_quiet (fail)
            have HB5 := hide (below_drewN HB4.out nq)
            have hm5 : (w4.drewN nq).cell? ⟨0, 0, none⟩ = some (.int .i64 m) := hm4
            clear HB4 hm4
            generalize w4.drewN nq = w4q at HB5 hm5 ⊢
            go_wp2_with fail
            refine (pick_any x _ hx1 hx2).mono ?_
            rintro e w5 ⟨rfl, rfl⟩
            go_wp2_with fail
            refine (pick_any y _ hy1 hy2).mono ?_
            rintro e w6 ⟨rfl, rfl⟩
            go_wp2_with fail
            refine (decimal_any 4 (by omega) (pickN x) _ hn0 (by omega) (by omega)).mono ?_
            rintro e w7 ⟨rfl, hq⟩
            replace hq := drawn_below hq
            have HB7 := hide (HB5.out.trans (hq.mono HB5.out.size))
            replace hm5 := keep hq hm5
            clear hq
            go_wp2_with fail
            refine (decimal_any 4 (by omega) (pickN y) _ hk0 (by omega) (by omega)).mono ?_
            rintro e w8 ⟨rfl, hq⟩
            replace hq := drawn_below hq
            have HB8 := hide (HB7.out.trans (hq.mono HB7.out.size))
            replace hm5 := keep hq hm5
            clear hq
            go_wp2_with fail
            refine (tcompare_yes _ _ m _ hm5 HA1.out HA2.out).mono ?_
            rintro e w9 ⟨rfl, hq⟩
            rw [HA3.out]
            have HB9 := hide (HB8.out.trans (hq.mono HB8.out.size))
            replace hm5 := keep hq hm5
            clear hq
            go_wp2_with fail
            refine (decimal_any 4 (by omega) (pickN x) _ hn0 (by omega) (by omega)).mono ?_
            rintro e w10 ⟨rfl, hq⟩
            replace hq := drawn_below hq
            have HB10 := hide (HB9.out.trans (hq.mono HB9.out.size))
            replace hm5 := keep hq hm5
            clear hq
            go_wp2_with fail
            refine (decimal_any 4 (by omega) (pickN y) _ hk0 (by omega) (by omega)).mono ?_
            rintro e w11 ⟨rfl, hq⟩
            replace hq := drawn_below hq
            have HB11 := hide (HB10.out.trans (hq.mono HB10.out.size))
            replace hm5 := keep hq hm5
            clear hq
            go_wp2_with fail
            refine (tcompare_yes _ _ m _ hm5 HC1.out HC2.out).mono ?_
            rintro e w12 ⟨rfl, hq⟩
            rw [HC3.out]
            have HB12 := hide (HB11.out.trans (hq.mono HB11.out.size))
            clear hq
            go_wp2
            go_ret
            exact ⟨rfl, HB12.out⟩
          · have F := hide f
            have g2 : 0 ≤ V.order a.data.toList c.data.toList := order_ge _ _ _ L1.out (by omega)
            clear f
            go_wp2_with fail
            refine (tcompare_yes a b m _ hm0 HVA.out HVB.out).mono ?_
            rintro e w1 ⟨rfl, hq⟩
            rw [E1.out]
            have HB1 := hide (HB0.out.trans (hq.mono HB0.out.size))
            have hm1 := keep hq hm0
            clear hq hm0
            go_wp2_with fail
            refine (tcompare_yes b a m _ hm1 HVB.out HVA.out).mono ?_
            rintro e w2 ⟨rfl, hq⟩
            rw [E2.out]
            have HB2 := hide (HB1.out.trans (hq.mono HB1.out.size))
            have hm2 := keep hq hm1
            clear hq hm1
            go_wp2_with fail
            refine (tcompare_yes b c m _ hm2 HVB.out HVC.out).mono ?_
            rintro e w3 ⟨rfl, hq⟩
            rw [F.out]
            have HB3 := hide (HB2.out.trans (hq.mono HB2.out.size))
            have hm3 := keep hq hm2
            clear hq hm2
            go_wp2_with fail
            refine (tcompare_yes a c m _ hm3 HVA.out HVC.out).mono ?_
            rintro e w4 ⟨rfl, hq⟩
            have HB4 := hide (HB3.out.trans (hq.mono HB3.out.size))
            have hm4 := keep hq hm3
            clear hq hm3
            go_wp2_with fail
            go_quiet (fail)
            have HB5 := hide (below_drewN HB4.out nq)
            have hm5 : (w4.drewN nq).cell? ⟨0, 0, none⟩ = some (.int .i64 m) := hm4
            clear HB4 hm4
            generalize w4.drewN nq = w4q at HB5 hm5 ⊢
            go_wp2_with fail
            refine (pick_any x _ hx1 hx2).mono ?_
            rintro e w5 ⟨rfl, rfl⟩
            go_wp2_with fail
            refine (pick_any y _ hy1 hy2).mono ?_
            rintro e w6 ⟨rfl, rfl⟩
            go_wp2_with fail
            refine (decimal_any 4 (by omega) (pickN x) _ hn0 (by omega) (by omega)).mono ?_
            rintro e w7 ⟨rfl, hq⟩
            replace hq := drawn_below hq
            have HB7 := hide (HB5.out.trans (hq.mono HB5.out.size))
            replace hm5 := keep hq hm5
            clear hq
            go_wp2_with fail
            refine (decimal_any 4 (by omega) (pickN y) _ hk0 (by omega) (by omega)).mono ?_
            rintro e w8 ⟨rfl, hq⟩
            replace hq := drawn_below hq
            have HB8 := hide (HB7.out.trans (hq.mono HB7.out.size))
            replace hm5 := keep hq hm5
            clear hq
            go_wp2_with fail
            refine (tcompare_yes _ _ m _ hm5 HA1.out HA2.out).mono ?_
            rintro e w9 ⟨rfl, hq⟩
            rw [HA3.out]
            have HB9 := hide (HB8.out.trans (hq.mono HB8.out.size))
            replace hm5 := keep hq hm5
            clear hq
            go_wp2_with fail
            refine (decimal_any 4 (by omega) (pickN x) _ hn0 (by omega) (by omega)).mono ?_
            rintro e w10 ⟨rfl, hq⟩
            replace hq := drawn_below hq
            have HB10 := hide (HB9.out.trans (hq.mono HB9.out.size))
            replace hm5 := keep hq hm5
            clear hq
            go_wp2_with fail
            refine (decimal_any 4 (by omega) (pickN y) _ hk0 (by omega) (by omega)).mono ?_
            rintro e w11 ⟨rfl, hq⟩
            replace hq := drawn_below hq
            have HB11 := hide (HB10.out.trans (hq.mono HB10.out.size))
            replace hm5 := keep hq hm5
            clear hq
            go_wp2_with fail
            refine (tcompare_yes _ _ m _ hm5 HC1.out HC2.out).mono ?_
            rintro e w12 ⟨rfl, hq⟩
            rw [HC3.out]
            have HB12 := hide (HB11.out.trans (hq.mono HB11.out.size))
            clear hq
            go_wp2
            go_ret
            exact ⟨rfl, HB12.out⟩
          · have F := hide f
            have g2 : 0 ≤ V.order a.data.toList c.data.toList := order_ge _ _ _ L1.out (by omega)
            clear f
            go_wp2_with fail
            refine (tcompare_yes a b m _ hm0 HVA.out HVB.out).mono ?_
            rintro e w1 ⟨rfl, hq⟩
            rw [E1.out]
            have HB1 := hide (HB0.out.trans (hq.mono HB0.out.size))
            have hm1 := keep hq hm0
            clear hq hm0
            go_wp2_with fail
            refine (tcompare_yes b a m _ hm1 HVB.out HVA.out).mono ?_
            rintro e w2 ⟨rfl, hq⟩
            rw [E2.out]
            have HB2 := hide (HB1.out.trans (hq.mono HB1.out.size))
            have hm2 := keep hq hm1
            clear hq hm1
            go_wp2_with fail
            refine (tcompare_yes b c m _ hm2 HVB.out HVC.out).mono ?_
            rintro e w3 ⟨rfl, hq⟩
            rw [F.out]
            have HB3 := hide (HB2.out.trans (hq.mono HB2.out.size))
            have hm3 := keep hq hm2
            clear hq hm2
            go_wp2_with fail
            refine (tcompare_yes a c m _ hm3 HVA.out HVC.out).mono ?_
            rintro e w4 ⟨rfl, hq⟩
            have HB4 := hide (HB3.out.trans (hq.mono HB3.out.size))
            have hm4 := keep hq hm3
            clear hq hm3
            go_wp2_with fail
            go_quiet (fail)
            have HB5 := hide (below_drewN HB4.out nq)
            have hm5 : (w4.drewN nq).cell? ⟨0, 0, none⟩ = some (.int .i64 m) := hm4
            clear HB4 hm4
            generalize w4.drewN nq = w4q at HB5 hm5 ⊢
            go_wp2_with fail
            refine (pick_any x _ hx1 hx2).mono ?_
            rintro e w5 ⟨rfl, rfl⟩
            go_wp2_with fail
            refine (pick_any y _ hy1 hy2).mono ?_
            rintro e w6 ⟨rfl, rfl⟩
            go_wp2_with fail
            refine (decimal_any 4 (by omega) (pickN x) _ hn0 (by omega) (by omega)).mono ?_
            rintro e w7 ⟨rfl, hq⟩
            replace hq := drawn_below hq
            have HB7 := hide (HB5.out.trans (hq.mono HB5.out.size))
            replace hm5 := keep hq hm5
            clear hq
            go_wp2_with fail
            refine (decimal_any 4 (by omega) (pickN y) _ hk0 (by omega) (by omega)).mono ?_
            rintro e w8 ⟨rfl, hq⟩
            replace hq := drawn_below hq
            have HB8 := hide (HB7.out.trans (hq.mono HB7.out.size))
            replace hm5 := keep hq hm5
            clear hq
            go_wp2_with fail
            refine (tcompare_yes _ _ m _ hm5 HA1.out HA2.out).mono ?_
            rintro e w9 ⟨rfl, hq⟩
            rw [HA3.out]
            have HB9 := hide (HB8.out.trans (hq.mono HB8.out.size))
            replace hm5 := keep hq hm5
            clear hq
            go_wp2_with fail
            refine (decimal_any 4 (by omega) (pickN x) _ hn0 (by omega) (by omega)).mono ?_
            rintro e w10 ⟨rfl, hq⟩
            replace hq := drawn_below hq
            have HB10 := hide (HB9.out.trans (hq.mono HB9.out.size))
            replace hm5 := keep hq hm5
            clear hq
            go_wp2_with fail
            refine (decimal_any 4 (by omega) (pickN y) _ hk0 (by omega) (by omega)).mono ?_
            rintro e w11 ⟨rfl, hq⟩
            replace hq := drawn_below hq
            have HB11 := hide (HB10.out.trans (hq.mono HB10.out.size))
            replace hm5 := keep hq hm5
            clear hq
            go_wp2_with fail
            refine (tcompare_yes _ _ m _ hm5 HC1.out HC2.out).mono ?_
            rintro e w12 ⟨rfl, hq⟩
            rw [HC3.out]
            have HB12 := hide (HB11.out.trans (hq.mono HB11.out.size))
            clear hq
            go_wp2
            go_ret
            exact ⟨rfl, HB12.out⟩

end Go.Proofs.YtcfhleenecfghaaGreatDoor
