/- The reference's Compare, the agreement of an error with a fault, and the law Compares by itself. -/
import Derived.Test.YtcfhleenecfghaaDoorWh
namespace Go.Proofs.YtcfhleenecfghaaDoor
open Go.RowKit

set_option maxHeartbeats 800000 in
theorem rcompare_no1 (a b : ByteArray) (w : World) (hva : V.ver a.data.toList = false) :
    Calls Tryd.prog 11 #[.string a, .string b] w fun e w' => e = .returned (.tuple #[.int .i64 0, .agg #[.int .i64 2, .int .i64 0, .string ⟨#[]⟩, .string a]]) ∧ Below w.heap.size w w' := by
  go_enter Tryd.func11, Tryd.ntmps11
  go_wp2_with fail
  refine (refIsVersion_any a _).mono ?_
  rintro e w1 ⟨rfl, hb1⟩
  rw [hva]
  have hz : w.heap.size < w1.heap.size := by have := hb1.size; simp at this; omega
  have r0 : w1.cell? ⟨w.heap.size, 0, none⟩ = some (.int .i64 0) := keep hb1 (by simp)
  have r1 : w1.cell? ⟨w.heap.size, 1, none⟩ = some (.int .i64 0) := keep hb1 (by simp)
  have r2 : w1.cell? ⟨w.heap.size, 2, none⟩ = some (.string ⟨#[]⟩) := keep hb1 (by simp)
  have r3 : w1.cell? ⟨w.heap.size, 3, none⟩ = some (.string ⟨#[]⟩) := keep hb1 (by simp)
  have q0 : w1.frozen? ⟨w.heap.size, 0, none⟩ = false := keepF hb1 (by simp) (by simp)
  have q1 : w1.frozen? ⟨w.heap.size, 1, none⟩ = false := keepF hb1 (by simp) (by simp)
  have q2 : w1.frozen? ⟨w.heap.size, 2, none⟩ = false := keepF hb1 (by simp) (by simp)
  have q3 : w1.frozen? ⟨w.heap.size, 3, none⟩ = false := keepF hb1 (by simp) (by simp)
  have HB1 := hide hb1
  clear hb1
  go_wp2
  refine bodyPost_ret (v := .tuple #[.int .i64 0, .agg #[.int .i64 2, .int .i64 0, .string ⟨#[]⟩, .string a]]) (by simp [results, Tryd.results11, go_sem, r0, r1, r2, r3]) rfl ⟨rfl, ?_⟩
  exact (((((Below.refl _ w).alloc (Nat.le_refl _) _).trans (HB1.out.mono (by simp))).setCell (p := ⟨w.heap.size, 0, none⟩) (Nat.le_refl _) _).setCell (p := ⟨w.heap.size, 1, none⟩) (Nat.le_refl _) _).setCell (p := ⟨w.heap.size, 2, none⟩) (Nat.le_refl _) _ |>.setCell (p := ⟨w.heap.size, 3, none⟩) (Nat.le_refl _) _

set_option maxHeartbeats 400000 in
theorem num_any (k : Int) (w : World) : Calls Tryd.prog 26 #[.int .i64 k] w fun e w' => e = .returned (.int .i64 k) ∧ w' = w := by
  go_enter Tryd.func26, Tryd.ntmps26
  go_wp2
  go_ret
  exact ⟨rfl, rfl⟩

set_option maxHeartbeats 400000 in
theorem agree_nil (p q : ByteArray) (n : Int) (w : World) :
    Calls Tryd.prog 12 #[.nilIface, .agg #[.int .i64 0, .int .i64 n, .string p, .string q]] w fun e w' => e = .returned (.bool true) ∧ Below w.heap.size w w' := by
  go_enter Tryd.func12, Tryd.ntmps12
  go_wp2
  go_ret
  exact ⟨rfl, (Below.refl _ _).alloc (Nat.le_refl _) _⟩

theorem assert40 (a : Addr) (w : World) : (Instr.typeAssert (.iface 40 (.pointer (some a))) 23 40 true).run Tryd.prog w = .ok (.tuple #[.pointer (some a), .bool true]) w := by kernel_rfl

set_option maxRecDepth 100000 in
set_option maxHeartbeats 1600000 in
theorem agree_fault (q : ByteArray) (v : Value) (w : World) (hf : IsFault w v 2 0 ⟨#[]⟩ q) :
    Calls Tryd.prog 12 #[.iface 40 v, .agg #[.int .i64 2, .int .i64 0, .string ⟨#[]⟩, .string q]] w fun e w' => e = .returned (.bool true) ∧ Below w.heap.size w w' := by
  obtain ⟨b, rfl, f0, f1, f2, f3⟩ := hf
  have hlt : b < w.heap.size := World.block_lt_of_cell? (h := f0)
  have hqq : (q.toList == q.toList) = true := beq_self_eq_true _
  have hta := assert40
  have g0 := fun o => keepA f0 o
  have g1 := fun o => keepA f1 o
  have g2 := fun o => keepA f2 o
  have g3 := fun o => keepA f3 o
  go_enter Tryd.func12, Tryd.ntmps12
  go_wp2_with fail
  go_quiet ((go_at_call 26; exact Calls.quiet_of_same (num_any _ _)))
  go_wp2
  go_ret
  exact ⟨rfl, below_drewN ((Below.refl _ _).alloc (Nat.le_refl _) _) _⟩

set_option maxHeartbeats 800000 in
theorem rcompare_no2 (a b : ByteArray) (w : World) (hva : V.ver a.data.toList = true) (hvb : V.ver b.data.toList = false) :
    Calls Tryd.prog 11 #[.string a, .string b] w fun e w' => e = .returned (.tuple #[.int .i64 0, .agg #[.int .i64 2, .int .i64 0, .string ⟨#[]⟩, .string b]]) ∧ Below w.heap.size w w' := by
  go_enter Tryd.func11, Tryd.ntmps11
  go_wp2_with fail
  refine (refIsVersion_any a _).mono ?_
  rintro e w1 ⟨rfl, hb1⟩
  rw [hva]
  have hz : w.heap.size < w1.heap.size := by have := hb1.size; simp at this; omega
  have r0 : w1.cell? ⟨w.heap.size, 0, none⟩ = some (.int .i64 0) := keep hb1 (by simp)
  have r1 : w1.cell? ⟨w.heap.size, 1, none⟩ = some (.int .i64 0) := keep hb1 (by simp)
  have r2 : w1.cell? ⟨w.heap.size, 2, none⟩ = some (.string ⟨#[]⟩) := keep hb1 (by simp)
  have r3 : w1.cell? ⟨w.heap.size, 3, none⟩ = some (.string ⟨#[]⟩) := keep hb1 (by simp)
  have q0 : w1.frozen? ⟨w.heap.size, 0, none⟩ = false := keepF hb1 (by simp) (by simp)
  have q1 : w1.frozen? ⟨w.heap.size, 1, none⟩ = false := keepF hb1 (by simp) (by simp)
  have q2 : w1.frozen? ⟨w.heap.size, 2, none⟩ = false := keepF hb1 (by simp) (by simp)
  have q3 : w1.frozen? ⟨w.heap.size, 3, none⟩ = false := keepF hb1 (by simp) (by simp)
  have HB1 := hide (((Below.refl _ w).alloc (Nat.le_refl _) _).trans (hb1.mono (by simp)))
  clear hb1
  go_wp2_with fail
  refine (refIsVersion_any b _).mono ?_
  rintro e w2 ⟨rfl, hb2⟩
  rw [hvb]
  have HW := hide (HB1.out.trans (hb2.mono (Nat.le_of_lt hz)))
  replace r0 := keep hb2 r0
  replace r1 := keep hb2 r1
  replace r2 := keep hb2 r2
  replace r3 := keep hb2 r3
  replace q0 := keepF hb2 hz q0
  replace q1 := keepF hb2 hz q1
  replace q2 := keepF hb2 hz q2
  replace q3 := keepF hb2 hz q3
  replace hz := Nat.lt_of_lt_of_le hz hb2.size
  have HB2 := hide hb2
  clear hb2
  go_wp2
  refine bodyPost_ret (v := .tuple #[.int .i64 0, .agg #[.int .i64 2, .int .i64 0, .string ⟨#[]⟩, .string b]]) (by simp [results, Tryd.results11, go_sem, r0, r1, r2, r3]) rfl ⟨rfl, ?_⟩
  exact HW.out |>.setCell (p := ⟨w.heap.size, 0, none⟩) (Nat.le_refl _) _ |>.setCell (p := ⟨w.heap.size, 1, none⟩) (Nat.le_refl _) _ |>.setCell (p := ⟨w.heap.size, 2, none⟩) (Nat.le_refl _) _ |>.setCell (p := ⟨w.heap.size, 3, none⟩) (Nat.le_refl _) _

set_option maxHeartbeats 800000 in
theorem rcompare_yes (a b : ByteArray) (w : World) (hva : V.ver a.data.toList = true) (hvb : V.ver b.data.toList = true) :
    Calls Tryd.prog 11 #[.string a, .string b] w fun e w' => e = .returned (.tuple #[.int .i64 (V.order a.data.toList b.data.toList), .agg #[.int .i64 0, .int .i64 0, .string ⟨#[]⟩, .string ⟨#[]⟩]]) ∧ Below w.heap.size w w' := by
  go_enter Tryd.func11, Tryd.ntmps11
  go_wp2_with fail
  refine (refIsVersion_any a _).mono ?_
  rintro e w1 ⟨rfl, hb1⟩
  rw [hva]
  have hz : w.heap.size < w1.heap.size := by have := hb1.size; simp at this; omega
  have r0 : w1.cell? ⟨w.heap.size, 0, none⟩ = some (.int .i64 0) := keep hb1 (by simp)
  have r1 : w1.cell? ⟨w.heap.size, 1, none⟩ = some (.int .i64 0) := keep hb1 (by simp)
  have r2 : w1.cell? ⟨w.heap.size, 2, none⟩ = some (.string ⟨#[]⟩) := keep hb1 (by simp)
  have r3 : w1.cell? ⟨w.heap.size, 3, none⟩ = some (.string ⟨#[]⟩) := keep hb1 (by simp)
  have q0 : w1.frozen? ⟨w.heap.size, 0, none⟩ = false := keepF hb1 (by simp) (by simp)
  have q1 : w1.frozen? ⟨w.heap.size, 1, none⟩ = false := keepF hb1 (by simp) (by simp)
  have q2 : w1.frozen? ⟨w.heap.size, 2, none⟩ = false := keepF hb1 (by simp) (by simp)
  have q3 : w1.frozen? ⟨w.heap.size, 3, none⟩ = false := keepF hb1 (by simp) (by simp)
  have HB1 := hide (((Below.refl _ w).alloc (Nat.le_refl _) _).trans (hb1.mono (by simp)))
  clear hb1
  go_wp2_with fail
  refine (refIsVersion_any b _).mono ?_
  rintro e w2 ⟨rfl, hb2⟩
  rw [hvb]
  have HW := hide (HB1.out.trans (hb2.mono (Nat.le_of_lt hz)))
  replace r0 := keep hb2 r0
  replace r1 := keep hb2 r1
  replace r2 := keep hb2 r2
  replace r3 := keep hb2 r3
  replace q0 := keepF hb2 hz q0
  replace q1 := keepF hb2 hz q1
  replace q2 := keepF hb2 hz q2
  replace q3 := keepF hb2 hz q3
  replace hz := Nat.lt_of_lt_of_le hz hb2.size
  have HB2 := hide hb2
  clear hb2
  go_wp2_with fail
  refine (Order_any a b _ hva hvb).mono ?_
  rintro e w3 ⟨rfl, hb3⟩
  have HW3 := hide (HW.out.trans (hb3.mono (Nat.le_of_lt hz)))
  replace r0 := keep hb3 r0
  replace r1 := keep hb3 r1
  replace r2 := keep hb3 r2
  replace r3 := keep hb3 r3
  replace q0 := keepF hb3 hz q0
  replace q1 := keepF hb3 hz q1
  replace q2 := keepF hb3 hz q2
  replace q3 := keepF hb3 hz q3
  replace hz := Nat.lt_of_lt_of_le hz hb3.size
  have HB3 := hide hb3
  clear hb3
  go_wp2
  refine bodyPost_ret (v := .tuple #[.int .i64 (V.order a.data.toList b.data.toList), .agg #[.int .i64 0, .int .i64 0, .string ⟨#[]⟩, .string ⟨#[]⟩]]) (by simp [results, Tryd.results11, go_sem, r0, r1, r2, r3]) rfl ⟨rfl, ?_⟩
  exact HW3.out |>.setCell (p := ⟨w.heap.size, 0, none⟩) (Nat.le_refl _) _ |>.setCell (p := ⟨w.heap.size, 1, none⟩) (Nat.le_refl _) _ |>.setCell (p := ⟨w.heap.size, 2, none⟩) (Nat.le_refl _) _ |>.setCell (p := ⟨w.heap.size, 3, none⟩) (Nat.le_refl _) _

end Go.Proofs.YtcfhleenecfghaaDoor
