/- The one short manifest that each keeping statement begins with: it is checked, and its lines are told. -/
import Derived.Test.YtdoilpolaikgnaaGreatDoorWp
import Derived.WideMake
namespace Go.Proofs.YtdoilpolaikgnaaGreatDoor
open Go.RowKit

theorem key_ok (e : Bool) (s t : ByteArray) (w : World) : (Instr.checkKey e 10000 155 (.agg #[.int .i64 0, .string s, .string t])).run Tryz.prog w = .ok () w := by kernel_rfl
theorem zero3 (w : World) : (zeroValue 3).run Tryz.prog w = .ok (.int .i64 0) w := by kernel_rfl
theorem find_none (k : Value) (w : World) : (Instr.findKey 155 k []).run Tryz.prog w = .ok none w := by
  simp [Instr.findKey, Instr.findNow, run_underlying Tryz.underlying155]
theorem look_empty (r c : Nat) (s t : ByteArray) (w : World) (hb : w.heap[r]? = some (.map #[] c)) :
    (Instr.lookup 229 (.map (some r)) (.agg #[.int .i64 0, .string s, .string t]) false).run Tryz.prog w = .ok (.int .i64 0) w := by
  simp [Instr.lookup, run_underlying Tryz.underlying229, MapKept.run_getObj_map hb, key_ok, find_none, Result.andThen]
theorem put_first (r c : Nat) (s t : ByteArray) (x : Value) (w : World) (hb : w.heap[r]? = some (.map #[] c)) :
    (Instr.mapUpdate 229 (.map (some r)) (.agg #[.int .i64 0, .string s, .string t]) x).run Tryz.prog w = .ok () { w with heap := w.heap.setIfInBounds r (.map #[{ key := .agg #[.int .i64 0, .string s, .string t], val := x, born := c }] (c + 1)) } := by
  simp [Instr.mapUpdate, run_underlying Tryz.underlying229, MapKept.run_getObj_map hb, key_ok, find_none, MapKept.run_setObj_map _ hb, Result.andThen]

set_option maxHeartbeats 400000 in
theorem isPathByte_a (w : World) : Calls Tryz.prog 312 #[.int .u8 97] w fun e w' => e = .returned (.bool true) ∧ w' = w := by
  go_enter Tryz.func312, Tryz.ntmps312
  go_wp2
  go_ret
  exact ⟨rfl, rfl⟩
set_option maxHeartbeats 800000 in
set_option maxRecDepth 100000 in
theorem isSegment_a (w : World) : Calls Tryz.prog 296 #[.string ⟨#[97]⟩] w fun e w' => e = .returned (.bool true) ∧ w' = w := by
  go_enter Tryz.func296, Tryz.ntmps296
  go_wp2
  go_loop [6] (fun i => ∃ k : Nat, k ≤ 1 ∧ i = .int .i64 k) (fun i => 1 - (intOf i).toNat)
  case atStart => exact ⟨0, by omega, rfl⟩
  case round =>
    obtain ⟨k, hk, rfl⟩ := hrel
    match k, hk with
    | 0, _ =>
      go_wp2_with (go_at_call 312; refine (isPathByte_a _).mono ?_; rintro e w' ⟨rfl, rfl⟩)
      go_round
      case rel => exact ⟨1, by omega, rfl⟩
      case measure => simp [intOf]
    | 1, _ =>
      go_wp2
      go_ret
      exact ⟨rfl, rfl⟩

theorem split_a : Lib.countB ⟨#[97]⟩ ⟨#[47]⟩ = 0 ∧ Lib.splitB ⟨#[47]⟩ 0 0 ⟨#[97]⟩ = [⟨#[97]⟩] := by decide +kernel
theorem splitA_any (m : Int) (w : World) (hm : w.cell? ⟨0, 0, none⟩ = some (.int .i64 m)) :
    Calls Tryz.prog 118 #[.string ⟨#[97]⟩, .string ⟨#[47]⟩] w fun e w' => e = .returned (.slice (some ⟨w.heap.size, 0, none⟩) 1 1) ∧ w'.cell? ⟨w.heap.size, 0, none⟩ = some (.string ⟨#[97]⟩) ∧ Below w.heap.size w w' := by
  refine (Tryz.strings_Split ⟨#[97]⟩ ⟨#[47]⟩ m w (by decide) hm (by decide)).mono ?_
  rintro e w' ⟨rfl, rfl⟩
  rw [split_a.1, split_a.2]
  exact ⟨rfl, by simp, (Below.refl _ _).alloc (Nat.le_refl _) _⟩

set_option maxHeartbeats 800000 in
set_option maxRecDepth 100000 in
theorem isPath_a (m : Int) (w : World) (hm : w.cell? ⟨0, 0, none⟩ = some (.int .i64 m)) :
    Calls Tryz.prog 252 #[.string ⟨#[97]⟩] w fun e w' => e = .returned (.bool true) ∧ Below w.heap.size w w' := by
  go_enter Tryz.func252, Tryz.ntmps252
  go_wp2_with fail
  refine (splitA_any m _ hm).mono ?_
  rintro e w1 ⟨rfl, hs, hb1⟩
  have HB1 := hide hb1
  clear hb1
  go_wp2
  go_loop [11] (fun i => ∃ k : Nat, k ≤ 1 ∧ i = .int .i64 k) (fun i => 1 - (intOf i).toNat)
  case atStart => exact ⟨0, by omega, rfl⟩
  case round =>
    obtain ⟨k, hk, rfl⟩ := hrel
    match k, hk with
    | 0, _ =>
      go_wp2_with (go_at_call 296; refine (isSegment_a _).mono ?_; rintro e w' ⟨rfl, rfl⟩)
      go_round
      case rel => exact ⟨1, by omega, rfl⟩
      case measure => simp [intOf]
    | 1, _ =>
      go_wp2
      go_ret
      exact ⟨rfl, HB1.out⟩

set_option maxHeartbeats 400000 in
theorem pathCheck_a (m : Int) (w : World) (hm : w.cell? ⟨0, 0, none⟩ = some (.int .i64 m)) :
    Calls Tryz.prog 178 #[.string sA] w fun e w' => e = .returned (.pointer none) ∧ Below w.heap.size w w' := by
  go_enter Tryz.func178, Tryz.ntmps178
  go_wp2_with fail
  refine (isPath_a m _ hm).mono ?_
  rintro e w1 ⟨rfl, hb1⟩
  have HB1 := hide hb1
  clear hb1
  go_wp2
  go_ret
  exact ⟨rfl, HB1.out⟩

set_option maxHeartbeats 400000 in
set_option maxRecDepth 100000 in
theorem checkWords_a (m : Int) (w : World) (hm : w.cell? ⟨0, 0, none⟩ = some (.int .i64 m)) :
    Calls Tryz.prog 125 #[.iface 110 (.agg #[.string sA])] w fun e w' => e = .returned (.pointer none) ∧ Below w.heap.size w w' := by
  have ha := assert154
  go_enter Tryz.func125, Tryz.ntmps125
  go_wp2_with fail
  refine (pathCheck_a m _ (keepA hm _)).mono ?_
  rintro e w1 ⟨rfl, hb1⟩
  have HB1 := hide (((Below.refl _ w).alloc (Nat.le_refl _) _).trans (hb1.mono (by simp)))
  clear hb1
  go_wp2
  go_ret
  exact ⟨rfl, HB1.out⟩

set_option maxHeartbeats 400000 in
set_option maxRecDepth 100000 in
theorem placeOf_a (w : World) :
    Calls Tryz.prog 70 #[.iface 110 (.agg #[.string sA])] w fun e w' => e = .returned (.agg #[.int .i64 0, .string sA, .string ⟨#[]⟩]) ∧ Below w.heap.size w w' := by
  have ha := assert154
  go_enter Tryz.func70, Tryz.ntmps70
  go_wp2
  refine bodyPost_ret (v := .agg #[.int .i64 0, .string sA, .string ⟨#[]⟩]) (by simp [results, Tryz.results70, go_sem]) rfl ⟨rfl, ?_⟩
  exact ((Below.refl _ _).alloc (Nat.le_refl _) _).alloc (by simp) _

set_option maxHeartbeats 400000 in
theorem without_a (gg c : Nat) (w : World) (h0 : w.cell? ⟨gg, 0, none⟩ = some (.int .i64 1)) :
    Calls Tryz.prog 64 #[.slice (some ⟨gg, 0, none⟩) 1 c, .int .i64 0] w fun e w' => e = .returned (.slice (some ⟨gg, 0, none⟩) 1 c) ∧ w' = w := by
  go_enter Tryz.func64, Tryz.ntmps64
  go_wp2
  go_ret
  exact ⟨rfl, rfl⟩

end Go.Proofs.YtdoilpolaikgnaaGreatDoor
