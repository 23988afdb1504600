/- The order of two lines of a manifest, and each line as it is written. -/
import Derived.Test.YtcfhleenecfghaaGreatDoorXf
import Derived.Test.YtcfhleenecfghaaGreatDoorAnew
import Derived.Lib.SmallJoins
namespace Go.Proofs.YtcfhleenecfghaaGreatDoor
open Go.RowKit

set_option maxHeartbeats 400000 in
theorem isNaNrank_any (x : Int) (w : World) : Calls Tryz.prog 266 #[.int .i64 x] w fun e w' => e = .returned (.bool false) ∧ w' = w := by
  go_enter Tryz.func266, Tryz.ntmps266
  go_wp2
  go_ret
  exact ⟨by simp, rfl⟩

set_option maxHeartbeats 800000 in
theorem compareRank_any (x y : Int) (w : World) : Calls Tryz.prog 183 #[.int .i64 x, .int .i64 y] w fun e w' => e = .returned (.int .i64 (Lib.compareInt x y)) ∧ w' = w := by
  have HC : Hid (Lib.compareInt x y = if x < y then -1 else if x > y then 1 else 0) := hide rfl
  go_enter Tryz.func183, Tryz.ntmps183
  go_wp2_with (go_at_call 266; refine (isNaNrank_any _ _).mono ?_; rintro e w' ⟨rfl, rfl⟩)
  all_goals
    go_ret
    refine ⟨ret_int ?_, rfl⟩
    rw [HC.out]
    repeat' split
    all_goals first | rfl | omega

theorem ord_rank' {p q : Int × ByteArray × ByteArray} (h : (Lib.compareInt p.1 q.1 != 0) = true) : V.ord p q = Lib.compareInt p.1 q.1 := by
  unfold V.ord V.thenC; rw [if_pos h]
theorem ord_path' {p q : Int × ByteArray × ByteArray} (h : (Lib.compareInt p.1 q.1 != 0) = false) (h2 : (Lib.compareBytes p.2.1.data.toList q.2.1.data.toList != 0) = true) : V.ord p q = Lib.compareBytes p.2.1.data.toList q.2.1.data.toList := by
  unfold V.ord V.thenC; rw [if_neg (by rw [h]; simp), if_pos h2]
theorem ord_ver' {p q : Int × ByteArray × ByteArray} (h : (Lib.compareInt p.1 q.1 != 0) = false) (h2 : (Lib.compareBytes p.2.1.data.toList q.2.1.data.toList != 0) = false) : V.ord p q = V.vord p.2.2.data.toList q.2.2.data.toList := by
  unfold V.ord V.thenC; rw [if_neg (by rw [h]; simp), if_neg (by rw [h2]; simp)]
theorem vord_len {a b : ByteArray} (h : (a.toList == []) = true ∨ (b.toList == []) = true) : V.vord a.data.toList b.data.toList = V.cmpInt a.size b.size := by
  have e1 : a.data.toList.length = a.size := by simp
  have e2 : b.data.toList.length = b.size := by simp
  unfold V.vord
  rw [← e1, ← e2, if_pos]
  rw [Bool.or_eq_true, ← ByteArray.toList_eq, ← ByteArray.toList_eq]; exact h
theorem vord_order {a b : ByteArray} (h1 : (a.toList == []) = false) (h2 : (b.toList == []) = false) : V.vord a.data.toList b.data.toList = V.order a.data.toList b.data.toList := by
  unfold V.vord
  rw [if_neg]
  rw [← ByteArray.toList_eq, ← ByteArray.toList_eq, h1, h2]; simp

set_option maxHeartbeats 1600000 in
set_option maxRecDepth 100000 in
theorem comparePlaces_any (p q : Int × ByteArray × ByteArray) (m : Int) (w : World) (hp : p.2.2.size ≤ 40) (hq : q.2.2.size ≤ 40) (hm : w.cell? ⟨0, 0, none⟩ = some (.int .i64 m)) :
    Calls Tryz.prog 99 #[placeV p, placeV q] w fun e w' => e = .returned (.int .i64 (V.ord p q)) ∧ Below w.heap.size w w' ∧ w.drawn ≤ w'.drawn := by
  have HB0 : Hid (∀ o1 o2, Below w.heap.size w ((w.alloc o1).alloc o2)) := hide fun o1 o2 => ((Below.refl _ w).alloc (Nat.le_refl _) o1).alloc (by simp) o2
  have h1 := @ord_rank' p q
  have h2 := @ord_path' p q
  have h3 := @ord_ver' p q
  obtain ⟨pr, pp, pv⟩ := p
  obtain ⟨qr, qp, qv⟩ := q
  simp only at hp hq h1 h2 h3
  rw [placeV, placeV]
  simp only
  generalize V.ord (pr, pp, pv) (qr, qp, qv) = R at h1 h2 h3 ⊢
  have H1 := hide h1
  have H2 := hide h2
  have H3 := hide h3
  clear h1 h2 h3
  cases hr : (Lib.compareInt pr qr != 0)
  · cases hpp : (Lib.compareBytes pp.data.toList qp.data.toList != 0)
    · have HR := hide (H3.out hr hpp)
      cases hv : (pv.toList == [])
      · cases hu : (qv.toList == [])
        · have HV := hide (vord_order hv hu)
          go_enter Tryz.func99, Tryz.ntmps99
          go_wp2_with fail
          refine (compareRank_any _ _ _).mono ?_
          rintro e w' ⟨rfl, rfl⟩
          go_wp2_with fail
          refine (Tryz.strings_Compare _ _ _).mono ?_
          rintro e w' ⟨rfl, rfl⟩
          go_wp2_with fail
          refine (vcompare_anyD pv qv m _ hp hq (keepA (keepA hm _) _)).mono ?_
          rintro e w3 ⟨rfl, hb3, hd3⟩
          have HB3 := hide ((HB0.out _ _).trans (hb3.mono (by simp; omega)))
          have HD3 : Hid (w.drawn ≤ w3.drawn) := hide hd3
          clear hb3 hd3
          go_wp2
          go_ret
          exact ⟨ret_int (by rw [HR.out, HV.out]), HB3.out, HD3.out⟩
        · have HV := hide (vord_len (a := pv) (b := qv) (Or.inr hu))
          go_enter Tryz.func99, Tryz.ntmps99
          go_wp2_with fail
          refine (compareRank_any _ _ _).mono ?_
          rintro e w' ⟨rfl, rfl⟩
          go_wp2_with fail
          refine (Tryz.strings_Compare _ _ _).mono ?_
          rintro e w' ⟨rfl, rfl⟩
          go_wp2_with (go_at_call 90; refine (Tryz.cmp_Compare_int _ _ _).mono ?_; rintro e w' ⟨rfl, rfl⟩; rw [compareInt_nat])
          go_ret
          exact ⟨ret_int (by rw [HR.out, HV.out]), HB0.out _ _, Nat.le_refl _⟩
      · have HV := hide (vord_len (a := pv) (b := qv) (Or.inl hv))
        go_enter Tryz.func99, Tryz.ntmps99
        go_wp2_with fail
        refine (compareRank_any _ _ _).mono ?_
        rintro e w' ⟨rfl, rfl⟩
        go_wp2_with fail
        refine (Tryz.strings_Compare _ _ _).mono ?_
        rintro e w' ⟨rfl, rfl⟩
        go_wp2_with (go_at_call 90; refine (Tryz.cmp_Compare_int _ _ _).mono ?_; rintro e w' ⟨rfl, rfl⟩; rw [compareInt_nat])
        go_ret
        exact ⟨ret_int (by rw [HR.out, HV.out]), HB0.out _ _, Nat.le_refl _⟩
    · have HR := hide (H2.out hr hpp)
      go_enter Tryz.func99, Tryz.ntmps99
      go_wp2_with fail
      refine (compareRank_any _ _ _).mono ?_
      rintro e w' ⟨rfl, rfl⟩
      go_wp2_with fail
      refine (Tryz.strings_Compare _ _ _).mono ?_
      rintro e w' ⟨rfl, rfl⟩
      go_wp2
      go_ret
      exact ⟨ret_int HR.out.symm, HB0.out _ _, Nat.le_refl _⟩
  · have HR := hide (H1.out hr)
    go_enter Tryz.func99, Tryz.ntmps99
    go_wp2_with fail
    refine (compareRank_any _ _ _).mono ?_
    rintro e w' ⟨rfl, rfl⟩
    go_wp2
    go_ret
    exact ⟨ret_int HR.out.symm, HB0.out _ _, Nat.le_refl _⟩

/-- The version of a line's place is short. -/
theorem V.place_short {t : Nat} {fs : List ByteArray} (h : V.Valid t fs) : (V.place t fs).2.2.size ≤ 40 := by
  have e : (V.place t fs).2.2.data.toList.length = (V.place t fs).2.2.size := by simp
  rcases V.valid_place h with h | h
  · rw [h] at e; simp at e; omega
  · exact ver_len h

set_option maxHeartbeats 800000 in
set_option maxRecDepth 100000 in
/-- The order of two lines that are as they should be. -/
theorem closure_any (x y : Nat × List ByteArray) (m : Int) (w : World) (hx : V.Valid x.1 x.2) (hy : V.Valid y.1 y.2) (hm : w.cell? ⟨0, 0, none⟩ = some (.int .i64 m)) :
    Calls Tryz.prog 98 #[.iface x.1 (.agg (x.2.map Value.string).toArray), .iface y.1 (.agg (y.2.map Value.string).toArray)] w fun e w' => e = .returned (.int .i64 (V.ord (V.place x.1 x.2) (V.place y.1 y.2))) ∧ Below w.heap.size w w' ∧ w.drawn ≤ w'.drawn := by
  obtain ⟨t, fs⟩ := x
  obtain ⟨u, gs⟩ := y
  simp only at hx hy ⊢
  go_enter Tryz.func98, Tryz.ntmps98
  go_wp2_with fail
  refine (placeOf_any 0 t fs _ hx.1).mono ?_
  rintro e w1 ⟨rfl, hb1, hd1⟩
  have HB1 := hide hb1
  have HD1 := hide hd1
  have hm1 := keep hb1 hm
  clear hb1 hd1
  go_wp2_with fail
  refine (placeOf_any 0 u gs _ hy.1).mono ?_
  rintro e w2 ⟨rfl, hb2, hd2⟩
  have HB2 := hide (HB1.out.trans (hb2.mono HB1.out.size))
  have HD2 := hide (Nat.le_trans HD1.out hd2)
  have hm2 := keep hb2 hm1
  clear hb2 hd2
  go_wp2_with fail
  refine (comparePlaces_any _ _ m _ (V.place_short hx) (V.place_short hy) hm2).mono ?_
  rintro e w3 ⟨rfl, hb3, hd3⟩
  have HB3 := hide (HB2.out.trans (hb3.mono HB2.out.size))
  have HD3 := hide (Nat.le_trans HD2.out hd3)
  clear hb3 hd3
  go_wp2
  go_ret
  exact ⟨rfl, HB3.out, HD3.out⟩

end Go.Proofs.YtcfhleenecfghaaGreatDoor
