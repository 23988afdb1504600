/- The fault of a line's words, whatever it says; and its place. -/
import Derived.Test.YtcfhleenecfghaaGreatDoorXd
namespace Go.Proofs.YtcfhleenecfghaaGreatDoor
open Go.RowKit

theorem assert55 (v : Value) (w : World) : (Instr.typeAssert (.iface 221 v) 179 221 true).run Tryz.prog w = .ok (.tuple #[v, .bool true]) w := by kernel_rfl
theorem assert65 (v : Value) (w : World) : (Instr.typeAssert (.iface 222 v) 179 221 true).run Tryz.prog w = .ok (.tuple #[.agg #[.string ⟨#[]⟩, .string ⟨#[]⟩], .bool false]) w := by kernel_rfl
theorem assert66 (v : Value) (w : World) : (Instr.typeAssert (.iface 222 v) 179 222 true).run Tryz.prog w = .ok (.tuple #[v, .bool true]) w := by kernel_rfl
theorem assert85 (v : Value) (w : World) : (Instr.typeAssert (.iface 224 v) 179 221 true).run Tryz.prog w = .ok (.tuple #[.agg #[.string ⟨#[]⟩, .string ⟨#[]⟩], .bool false]) w := by kernel_rfl
theorem assert86 (v : Value) (w : World) : (Instr.typeAssert (.iface 224 v) 179 222 true).run Tryz.prog w = .ok (.tuple #[.agg #[.string ⟨#[]⟩, .string ⟨#[]⟩], .bool false]) w := by kernel_rfl
theorem assert88 (v : Value) (w : World) : (Instr.typeAssert (.iface 224 v) 179 224 true).run Tryz.prog w = .ok (.tuple #[v, .bool true]) w := by kernel_rfl

set_option maxHeartbeats 800000 in
set_option maxRecDepth 100000 in
theorem checkReplaced_any (a b c d : ByteArray) (m : Int) (w : World) (ha : a.size ≤ 281474976710656) (hb : b.size ≤ 281474976710656) (hm : w.cell? ⟨0, 0, none⟩ = some (.int .i64 m)) :
    Calls Tryz.prog 255 #[.agg #[.string a, .string b, .string c, .string d]] w fun e w' => ∃ r, e = .returned r ∧ FaultAt w.heap.size w' r (V.fReplaced a b) ∧ Below w.heap.size w w' := by
  cases he : (b.toList == [])
  · have HF : Hid (V.fReplaced a b = V.fModule a b) := hide (by unfold V.fReplaced; rw [he]; rfl)
    go_enter Tryz.func255, Tryz.ntmps255
    go_wp2_with fail
    refine (checkModule_any a b m _ ha hb (keepA hm _)).mono ?_
    rintro e w1 ⟨r, rfl, hr, hb1⟩
    have HR := hide (hr.mono (B' := w.heap.size) (by simp))
    have HB := hide (((Below.refl _ w).alloc (Nat.le_refl _) _).trans (hb1.mono (by simp)))
    clear hr hb1
    go_wp2
    go_ret
    exact ⟨r, rfl, by rw [HF.out]; exact HR.out, HB.out⟩
  · have HF : Hid (V.fReplaced a b = V.fPath a) := hide (by unfold V.fReplaced; rw [he]; rfl)
    go_enter Tryz.func255, Tryz.ntmps255
    go_wp2_with fail
    refine (pathFault_any a m _ ha (keepA hm _)).mono ?_
    rintro e w1 ⟨r, rfl, hr, hb1⟩
    have HR := hide (hr.mono (B' := w.heap.size) (by simp))
    have HB := hide (((Below.refl _ w).alloc (Nat.le_refl _) _).trans (hb1.mono (by simp)))
    clear hr hb1
    go_wp2
    go_ret
    exact ⟨r, rfl, by rw [HF.out]; exact HR.out, HB.out⟩

set_option maxHeartbeats 800000 in
set_option maxRecDepth 100000 in
theorem words154 (a : ByteArray) (m : Int) (w : World) (ha : a.size ≤ 281474976710656) (hm : w.cell? ⟨0, 0, none⟩ = some (.int .i64 m)) :
    Calls Tryz.prog 180 #[.iface 123 (.agg #[.string a])] w fun e w' => ∃ r, e = .returned r ∧ FaultAt w.heap.size w' r (V.fPath a) ∧ Below w.heap.size w w' := by
  have h1 := asserts154
  go_enter Tryz.func180, Tryz.ntmps180
  go_wp2_with fail
  refine (pathFault_any a m _ ha (keepA hm _)).mono ?_
  rintro e w1 ⟨r, rfl, hr, hb1⟩
  have HR := hide (hr.mono (B' := w.heap.size) (by simp))
  have HB := hide (((Below.refl _ w).alloc (Nat.le_refl _) _).trans (hb1.mono (by simp)))
  clear hr hb1
  go_wp2
  go_ret
  exact ⟨r, rfl, HR.out, HB.out⟩
set_option maxHeartbeats 800000 in
set_option maxRecDepth 100000 in
theorem words155 (a b : ByteArray) (m : Int) (w : World) (ha : a.size ≤ 281474976710656) (hb : b.size ≤ 281474976710656) (hm : w.cell? ⟨0, 0, none⟩ = some (.int .i64 m)) :
    Calls Tryz.prog 180 #[.iface 221 (.agg #[.string a, .string b])] w fun e w' => ∃ r, e = .returned r ∧ FaultAt w.heap.size w' r (V.fModule a b) ∧ Below w.heap.size w w' := by
  have h1 := asserts155
  have h2 := assert55
  go_enter Tryz.func180, Tryz.ntmps180
  go_wp2_with fail
  refine (checkModule_any a b m _ ha hb (keepA hm _)).mono ?_
  rintro e w1 ⟨r, rfl, hr, hb1⟩
  have HR := hide (hr.mono (B' := w.heap.size) (by simp))
  have HB := hide (((Below.refl _ w).alloc (Nat.le_refl _) _).trans (hb1.mono (by simp)))
  clear hr hb1
  go_wp2
  go_ret
  exact ⟨r, rfl, HR.out, HB.out⟩
set_option maxHeartbeats 800000 in
set_option maxRecDepth 100000 in
theorem words156 (a b : ByteArray) (m : Int) (w : World) (ha : a.size ≤ 281474976710656) (hb : b.size ≤ 281474976710656) (hm : w.cell? ⟨0, 0, none⟩ = some (.int .i64 m)) :
    Calls Tryz.prog 180 #[.iface 222 (.agg #[.string a, .string b])] w fun e w' => ∃ r, e = .returned r ∧ FaultAt w.heap.size w' r (V.fModule a b) ∧ Below w.heap.size w w' := by
  have h1 := asserts156
  have h2 := assert65
  have h3 := assert66
  go_enter Tryz.func180, Tryz.ntmps180
  go_wp2_with fail
  refine (checkModule_any a b m _ ha hb (keepA hm _)).mono ?_
  rintro e w1 ⟨r, rfl, hr, hb1⟩
  have HR := hide (hr.mono (B' := w.heap.size) (by simp))
  have HB := hide (((Below.refl _ w).alloc (Nat.le_refl _) _).trans (hb1.mono (by simp)))
  clear hr hb1
  go_wp2
  go_ret
  exact ⟨r, rfl, HR.out, HB.out⟩

end Go.Proofs.YtcfhleenecfghaaGreatDoor
