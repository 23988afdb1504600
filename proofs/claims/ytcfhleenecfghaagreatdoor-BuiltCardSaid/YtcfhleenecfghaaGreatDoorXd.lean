/- The fault of a line's words, whatever it says. -/
import Derived.Test.YtcfhleenecfghaaGreatDoorXc
namespace Go.Proofs.YtcfhleenecfghaaGreatDoor
open Go.RowKit

/-- A fault, or none, from a block on. -/
def FaultAt (B : Nat) (w : World) (v : Value) : Option (Int × Int × ByteArray × ByteArray) → Prop
  | none => v = .pointer none
  | some (k, n, p, q) => ∃ b, B ≤ b ∧ v = .pointer (some ⟨b, 0, none⟩) ∧ w.heap[b]? = some (.cells #[.int .i64 k, .int .i64 n, .string p, .string q] 150 (0, 0))

theorem FaultAt.mono {B B' : Nat} {w : World} {v : Value} {f : Option (Int × Int × ByteArray × ByteArray)} (h : FaultAt B w v f) (hB : B' ≤ B) : FaultAt B' w v f := by
  cases f with
  | none => exact h
  | some x =>
    obtain ⟨b, h1, h2⟩ := h
    exact ⟨b, by omega, h2⟩

set_option maxHeartbeats 800000 in
theorem pathFault_any (s : ByteArray) (m : Int) (w : World) (hs : s.size ≤ 281474976710656) (hm : w.cell? ⟨0, 0, none⟩ = some (.int .i64 m)) :
    Calls Tryz.prog 196 #[.string s] w fun e w' => ∃ v, e = .returned v ∧ FaultAt w.heap.size w' v (V.fPath s) ∧ Below w.heap.size w w' := by
  cases hv : V.path s.data.toList
  · have HF : Hid (V.fPath s = some (3, 0, s, ⟨#[]⟩)) := hide (by unfold V.fPath; rw [hv]; rfl)
    go_enter Tryz.func196, Tryz.ntmps196
    go_wp2_with fail
    refine (isPath_any s m _ hs hm).mono ?_
    rintro e w1 ⟨rfl, hb⟩
    have HB := hide hb
    clear hb
    rw [hv]
    go_wp2_with fail
    refine (clone_any s _ hs).mono ?_
    rintro e w2 ⟨rfl, hb⟩
    have HB2 := hide hb
    clear hb
    go_wp2
    go_ret
    refine ⟨_, rfl, ?_, (HB.out.trans (HB2.out.mono HB.out.size)).alloc (by have := HB.out.size; have := HB2.out.size; omega) _⟩
    rw [HF.out]
    exact ⟨w2.heap.size, Nat.le_trans HB.out.size HB2.out.size, rfl, heap_alloc_new w2 _⟩
  · refine (pathCheck_yes s m w hs hm hv).mono ?_
    rintro e w1 ⟨rfl, hb⟩
    exact ⟨_, rfl, by unfold V.fPath; rw [hv]; rfl, hb⟩
set_option maxHeartbeats 800000 in
theorem verFault_any (s : ByteArray) (m : Int) (w : World) (hs : s.size ≤ 281474976710656) (hm : w.cell? ⟨0, 0, none⟩ = some (.int .i64 m)) :
    Calls Tryz.prog 43 #[.string s] w fun e w' => ∃ v, e = .returned v ∧ FaultAt w.heap.size w' v (V.fVer s) ∧ Below w.heap.size w w' := by
  cases hv : V.ver s.data.toList
  · have HF : Hid (V.fVer s = some (2, 0, ⟨#[]⟩, s)) := hide (by unfold V.fVer; rw [hv]; rfl)
    go_enter Tryz.func43, Tryz.ntmps43
    go_wp2_with fail
    refine (isVersion_any s m _ (by unfold maxLen; omega) hm).mono ?_
    rintro e w1 ⟨rfl, hb⟩
    have HB := hide hb
    clear hb
    rw [hv]
    go_wp2_with fail
    refine (clone_any s _ hs).mono ?_
    rintro e w2 ⟨rfl, hb⟩
    have HB2 := hide hb
    clear hb
    go_wp2
    go_ret
    refine ⟨_, rfl, ?_, (HB.out.trans (HB2.out.mono HB.out.size)).alloc (by have := HB.out.size; have := HB2.out.size; omega) _⟩
    rw [HF.out]
    exact ⟨w2.heap.size, Nat.le_trans HB.out.size HB2.out.size, rfl, heap_alloc_new w2 _⟩
  · refine (check_yes s m w (by unfold maxLen; omega) hm hv).mono ?_
    rintro e w1 ⟨rfl, hb⟩
    exact ⟨_, rfl, by unfold V.fVer; rw [hv]; rfl, hb⟩

set_option maxHeartbeats 800000 in
theorem mcheck_any (p v : ByteArray) (m : Int) (w : World) (hp : p.size ≤ 281474976710656) (hv : v.size ≤ 281474976710656) (hm : w.cell? ⟨0, 0, none⟩ = some (.int .i64 m)) :
    Calls Tryz.prog 123 #[.agg #[.string p, .string v]] w fun e w' => ∃ r, e = .returned r ∧ FaultAt w.heap.size w' r (V.fModule p v) ∧ Below w.heap.size w w' := by
  cases hf : V.fPath p with
  | none =>
    have HF : Hid (V.fModule p v = V.fVer v) := hide (by unfold V.fModule; rw [hf])
    go_enter Tryz.func123, Tryz.ntmps123
    go_wp2_with fail
    refine (pathFault_any p m _ hp (keepA hm _)).mono ?_
    rintro e w1 ⟨r, rfl, hr, hb⟩
    rw [hf] at hr
    obtain rfl : r = .pointer none := hr
    have s1 : w1.cell? ⟨w.heap.size, 1, none⟩ = some (.string v) := keep hb (by simp)
    have hm1 := keep hb (keepA hm _)
    have HB := hide (((Below.refl _ w).alloc (Nat.le_refl _) _).trans (hb.mono (by simp)))
    clear hb
    go_wp2_with fail
    refine (verFault_any v m _ hv hm1).mono ?_
    rintro e w2 ⟨r, rfl, hr, hb2⟩
    have HR := hide hr
    have HB2 := hide hb2
    clear hr hb2
    go_wp2
    go_ret
    exact ⟨r, rfl, by rw [HF.out]; exact HR.out.mono HB.out.size, HB.out.trans (HB2.out.mono HB.out.size)⟩
  | some f =>
    have HF : Hid (V.fModule p v = some f) := hide (by unfold V.fModule; rw [hf])
    obtain ⟨k, n, fp, fq⟩ := f
    go_enter Tryz.func123, Tryz.ntmps123
    go_wp2_with fail
    refine (pathFault_any p m _ hp (keepA hm _)).mono ?_
    rintro e w1 ⟨r, rfl, hr, hb⟩
    rw [hf] at hr
    obtain ⟨bb, h1, rfl, h3⟩ := hr
    have HB := hide (((Below.refl _ w).alloc (Nat.le_refl _) _).trans (hb.mono (by simp)))
    have HR := hide h3
    have HL : Hid (w.heap.size ≤ bb) := hide (by simp at h1; omega)
    clear hb h1 h3
    go_wp2
    go_ret
    exact ⟨_, rfl, by rw [HF.out]; exact ⟨bb, HL.out, rfl, HR.out⟩, HB.out⟩

set_option maxHeartbeats 800000 in
theorem checkModule_any (p v : ByteArray) (m : Int) (w : World) (hp : p.size ≤ 281474976710656) (hv : v.size ≤ 281474976710656) (hm : w.cell? ⟨0, 0, none⟩ = some (.int .i64 m)) :
    Calls Tryz.prog 254 #[.string p, .string v] w fun e w' => ∃ r, e = .returned r ∧ FaultAt w.heap.size w' r (V.fModule p v) ∧ Below w.heap.size w w' := by
  go_enter Tryz.func254, Tryz.ntmps254
  go_wp2_with fail
  refine (mcheck_any p v m _ hp hv hm).mono ?_
  rintro e w1 ⟨r, rfl, hr, hb⟩
  have HR := hide hr
  have HB := hide hb
  clear hr hb
  go_wp2
  go_ret
  exact ⟨r, rfl, HR.out, HB.out⟩

end Go.Proofs.YtcfhleenecfghaaGreatDoor
