/- The law Compares by itself: whatever the two texts, it answers true and turns nothing that was there. -/
import Derived.Test.YtcfhleenecfghaaDoorWi
namespace Go.Proofs.YtcfhleenecfghaaDoor
open Go.RowKit

theorem IsFault.later {w w' : World} {v : Value} {k n : Int} {p q : ByteArray} (h : IsFault w v k n p q) (hb : Below w.heap.size w w') : IsFault w' v k n p q := by
  obtain ⟨b, e, h0, h1, h2, h3⟩ := h
  exact ⟨b, e, keep hb h0, keep hb h1, keep hb h2, keep hb h3⟩
theorem IsFault.alloc {w : World} {v : Value} {k n : Int} {p q : ByteArray} (h : IsFault w v k n p q) (o : Obj) : IsFault (w.alloc o) v k n p q :=
  h.later ((Below.refl _ _).alloc (Nat.le_refl _) _)

set_option maxRecDepth 100000 in
set_option maxHeartbeats 1600000 in
theorem compares_any (a b : ByteArray) (m : Int) (w : World) (ha : a.size ≤ 281474976710656) (hb : b.size ≤ 281474976710656) (hm : w.cell? ⟨0, 0, none⟩ = some (.int .i64 m)) :
    Calls Tryd.prog 6 #[.string a, .string b] w fun e w' => e = .returned (.bool true) ∧ Below w.heap.size w w' := by
  cases hva : V.ver a.data.toList
  · go_enter Tryd.func6, Tryd.ntmps6
    go_wp2_with fail
    refine (tcompare_no1 a b m _ ha hm hva).mono ?_
    rintro e w1 ⟨v, rfl, hf, hb1⟩
    have HB1 := hide hb1
    skip
    clear hb1
    go_wp2_with fail
    refine (rcompare_no1 a b _ hva).mono ?_
    rintro e w2 ⟨rfl, hb2⟩
    have HW := hide (HB1.out.trans (hb2.mono HB1.out.size))
    replace hf := hf.later hb2; have HF := hide hf; obtain ⟨bf, rfl, _⟩ := hf
    clear hb2
    go_wp2_with fail
    refine (agree_fault a _ _ (HF.out.alloc _)).mono ?_
    rintro e w3 ⟨rfl, hb3⟩
    have HW3 : Hid (Below w.heap.size w w3) := by
      refine hide ?_
      have h1 := HW.out.size
      exact (HW.out.alloc h1 _).trans (hb3.mono (by simp; omega))
    clear hb3
    go_wp2
    go_ret
    exact ⟨rfl, HW3.out⟩
  · cases hvb : V.ver b.data.toList
    · go_enter Tryd.func6, Tryd.ntmps6
      go_wp2_with fail
      refine (tcompare_no2 a b m _ hb hm hva hvb).mono ?_
      rintro e w1 ⟨v, rfl, hf, hb1⟩
      have HB1 := hide hb1
      skip
      clear hb1
      go_wp2_with fail
      refine (rcompare_no2 a b _ hva hvb).mono ?_
      rintro e w2 ⟨rfl, hb2⟩
      have HW := hide (HB1.out.trans (hb2.mono HB1.out.size))
      replace hf := hf.later hb2; have HF := hide hf; obtain ⟨bf, rfl, _⟩ := hf
      clear hb2
      go_wp2_with fail
      refine (agree_fault b _ _ (HF.out.alloc _)).mono ?_
      rintro e w3 ⟨rfl, hb3⟩
      have HW3 : Hid (Below w.heap.size w w3) := by
        refine hide ?_
        have h1 := HW.out.size
        exact (HW.out.alloc h1 _).trans (hb3.mono (by simp; omega))
      clear hb3
      go_wp2
      go_ret
      exact ⟨rfl, HW3.out⟩
    · have hoo : (V.order a.data.toList b.data.toList == V.order a.data.toList b.data.toList) = true := beq_self_eq_true _
      go_enter Tryd.func6, Tryd.ntmps6
      go_wp2_with fail
      refine (tcompare_yes a b m _ hm hva hvb).mono ?_
      rintro e w1 ⟨rfl, hb1⟩
      have HB1 := hide hb1
      skip
      clear hb1
      go_wp2_with fail
      refine (rcompare_yes a b _ hva hvb).mono ?_
      rintro e w2 ⟨rfl, hb2⟩
      have HW := hide (HB1.out.trans (hb2.mono HB1.out.size))
      skip
      clear hb2
      go_wp2_with fail
      refine (agree_nil _ _ _ _).mono ?_
      rintro e w3 ⟨rfl, hb3⟩
      have HW3 : Hid (Below w.heap.size w w3) := by
        refine hide ?_
        have h1 := HW.out.size
        exact (HW.out.alloc h1 _).trans (hb3.mono (by simp; omega))
      clear hb3
      go_wp2
      go_ret
      exact ⟨rfl, HW3.out⟩

theorem v123 : V.ver (ByteArray.mk #[118, 49, 46, 50, 46, 51]).data.toList = true := by decide
theorem v1100 : V.ver (ByteArray.mk #[118, 49, 46, 49, 48, 46, 48]).data.toList = true := by decide
theorem vless : V.order (ByteArray.mk #[118, 49, 46, 50, 46, 51]).data.toList (ByteArray.mk #[118, 49, 46, 49, 48, 46, 48]).data.toList = -1 := by decide

set_option maxRecDepth 100000 in
set_option maxHeartbeats 1600000 in
theorem Compares_any (a b : ByteArray) (m : Int) (w : World) (ha : a.size ≤ 281474976710656) (hb : b.size ≤ 281474976710656) (hm : w.cell? ⟨0, 0, none⟩ = some (.int .i64 m)) :
    Calls Tryd.prog 3 #[.string a, .string b] w fun e w' => e = .returned (.bool true) ∧ Below w.heap.size w w' := by
  go_enter Tryd.func3, Tryd.ntmps3
  go_wp2_with fail
  refine (tcompare_yes (ByteArray.mk #[118, 49, 46, 50, 46, 51]) (ByteArray.mk #[118, 49, 46, 49, 48, 46, 48]) m _ hm v123 v1100).mono ?_
  rintro e w1 ⟨rfl, hb1⟩
  rw [vless]
  have HB1 := hide hb1
  have hm1 := keep hb1 hm
  clear hb1
  go_wp2_with fail
  refine (compares_any a b m _ ha hb hm1).mono ?_
  rintro e w2 ⟨rfl, hb2⟩
  have HW := hide (HB1.out.trans (hb2.mono HB1.out.size))
  clear hb2
  go_wp2
  go_ret
  exact ⟨rfl, HW.out⟩

end Go.Proofs.YtcfhleenecfghaaDoor
