/- What the calls answer that have nothing to do: no registry, no needs. -/
import Derived.Test.YtcfhleenecfghaaGreatDoorBb
import Derived.Deep.RegionWith
import Derived.Test.YtcfhleenecfghaaGreatDoorShelf2
namespace Go.Proofs.YtcfhleenecfghaaGreatDoor
open Go.RowKit

theorem below1 (w : World) (a : Obj) : Below w.heap.size w (w.alloc a) := (Below.refl _ w).alloc (Nat.le_refl _) _
theorem below2 (w : World) (a b : Obj) : Below w.heap.size w ((w.alloc a).alloc b) := (below1 w a).alloc (by simp only [alloc_size]; omega) _
theorem below3 (w : World) (a b c : Obj) : Below w.heap.size w (((w.alloc a).alloc b).alloc c) := (below2 w a b).alloc (by simp only [alloc_size]; omega) _
theorem below4 (w : World) (a b c d : Obj) : Below w.heap.size w ((((w.alloc a).alloc b).alloc c).alloc d) := (below3 w a b c).alloc (by simp only [alloc_size]; omega) _
theorem below5 (w : World) (a b c d e : Obj) : Below w.heap.size w (((((w.alloc a).alloc b).alloc c).alloc d).alloc e) := (below4 w a b c d).alloc (by simp only [alloc_size]; omega) _
theorem heap2_0 (w : World) (a b : Obj) : ((w.alloc a).alloc b).heap[w.heap.size]? = some a := by
  rw [alloc_else _ _ _ (by simp only [alloc_size]; omega)]; exact alloc_last _ _ _ rfl
theorem heap5_1 (w : World) (a b c d e : Obj) : (((((w.alloc a).alloc b).alloc c).alloc d).alloc e).heap[w.heap.size + 1]? = some b := by
  rw [alloc_else _ _ _ (by simp only [alloc_size]; omega), alloc_else _ _ _ (by simp only [alloc_size]; omega), alloc_else _ _ _ (by simp only [alloc_size]; omega)]; exact alloc_last _ _ _ (by simp only [alloc_size])
theorem make131 (w : World) : (Instr.makeMap 131 (some (.int .i64 0))).run Tryz.prog w = .ok (.map (some w.heap.size)) (w.alloc (.map #[] 0)) := by kernel_rfl
theorem make131' (w : World) : (Instr.makeMap 131 none).run Tryz.prog w = .ok (.map (some w.heap.size)) (w.alloc (.map #[] 0)) := by kernel_rfl
theorem make132' (w : World) : (Instr.makeMap 132 none).run Tryz.prog w = .ok (.map (some w.heap.size)) (w.alloc (.map #[] 0)) := by kernel_rfl

set_option maxHeartbeats 1600000 in
set_option maxRecDepth 100000 in
theorem catalog_none (w : World) :
    Calls Tryz.prog 60 #[.slice none 0 0] w fun e w' => ∃ r, e = .returned (.agg #[.slice none 0 0, .map (some r)]) ∧ Below w.heap.size w w' := by
  have hm := make131
  go_enter Tryz.func60, Tryz.ntmps60
  go_wp2
  go_loopw [14] (fun i wr => i = .int .i64 0 ∧ wr = (w.alloc (Obj.cells #[Value.slice none 0 0, Value.map none] 136)).alloc (.map #[] 0)) (fun _ _ => 0)
  case atStart => exact ⟨rfl, rfl⟩
  case round =>
    obtain ⟨rfl, rfl⟩ := hrel
    go_wp2
    (try simp only [Exit.inBlock, Exit.then])
    refine bodyPost_ret (results_cell_row rfl _ _ w.heap.size 136 #[.slice none 0 0, .map (some (w.heap.size + 1))] (0, 0) _ rfl (heap2_0 _ _ _) Tryz.underlying136 rfl (by kernel_rfl)) rfl ?_
    exact ⟨w.heap.size + 1, rfl, below2 _ _ _⟩

set_option maxHeartbeats 1600000 in
set_option maxRecDepth 100000 in
theorem view_none (x : ByteArray) (w : World) :
    Calls Tryz.prog 121 #[.agg #[.string x, .slice none 0 0, .slice none 0 0, .slice none 0 0]] w fun e w' => ∃ r1 r2, e = .returned (.agg #[.string x, .map (some r1), .map (some r2)]) ∧ Below w.heap.size w w' := by
  have hm := make131'
  have hm2 := make132'
  go_enter Tryz.func121, Tryz.ntmps121
  go_wp2
  go_loopw [17] (fun i wr => i = .int .i64 0 ∧ wr = (((((w.alloc (Obj.cells #[Value.string x, Value.slice none 0 0, Value.slice none 0 0, Value.slice none 0 0] 128)).alloc (Obj.cells #[Value.string { data := #[] }, Value.map none, Value.map none] 134)).alloc (Obj.map #[] 0)).alloc (Obj.map #[] 0)).alloc (Obj.cells #[Value.string x, Value.map (some (w.heap.size + 1 + 1)), Value.map (some (w.heap.size + 1 + 1 + 1))] 134))) (fun _ _ => 0)
  case atStart => exact ⟨rfl, rfl⟩
  case round =>
    obtain ⟨rfl, rfl⟩ := hrel
    go_wp2
    go_loopw [32] (fun i wr => i = .int .i64 0 ∧ wr = (((((w.alloc (Obj.cells #[Value.string x, Value.slice none 0 0, Value.slice none 0 0, Value.slice none 0 0] 128)).alloc (Obj.cells #[Value.string { data := #[] }, Value.map none, Value.map none] 134)).alloc (Obj.map #[] 0)).alloc (Obj.map #[] 0)).alloc (Obj.cells #[Value.string x, Value.map (some (w.heap.size + 1 + 1)), Value.map (some (w.heap.size + 1 + 1 + 1))] 134))) (fun _ _ => 0)
    case atStart => exact ⟨rfl, rfl⟩
    case round =>
      obtain ⟨rfl, rfl⟩ := hrel
      go_wp2
      (try simp only [Exit.inBlock, Exit.then])
      refine bodyPost_ret (results_cell_row rfl _ _ (w.heap.size + 1) 134 #[.string x, .map (some (w.heap.size + 1 + 1)), .map (some (w.heap.size + 1 + 1 + 1))] (0, 0) _ rfl (heap5_1 _ _ _ _ _ _) Tryz.underlying134 rfl (by kernel_rfl)) rfl ?_
      refine ⟨_, _, rfl, ?_⟩
      exact below5 _ _ _ _ _ _

set_option maxHeartbeats 1600000 in
set_option maxRecDepth 100000 in
theorem failing_none (w : World) :
    Calls Tryz.prog 62 #[.slice none 0 0] w fun e w' => e = .returned .nilIface ∧ Below w.heap.size w w' := by
  go_enter Tryz.func62, Tryz.ntmps62
  go_wp2
  go_loopw [7] (fun i wr => i = .int .i64 0 ∧ Below w.heap.size w wr) (fun _ _ => 0)
  case atStart => exact ⟨rfl, Below.refl _ _⟩
  case round =>
    obtain ⟨rfl, hb⟩ := hrel
    go_wp2
    go_ret
    exact ⟨rfl, hb⟩

set_option maxHeartbeats 1600000 in
set_option maxRecDepth 100000 in
theorem taken_none (w : World) :
    Calls Tryz.prog 66 #[.slice none 0 0] w fun e w' => e = .returned (.slice none 0 0) ∧ Below w.heap.size w w' := by
  go_enter Tryz.func66, Tryz.ntmps66
  go_wp2
  go_loopw [3, 8] (fun v i wr => v = .slice none 0 0 ∧ i = .int .i64 0 ∧ Below w.heap.size w wr) (fun _ _ _ => 0)
  case atStart => exact ⟨rfl, rfl, Below.refl _ _⟩
  case round =>
    obtain ⟨rfl, rfl, hb⟩ := hrel
    go_wp2
    go_ret
    exact ⟨rfl, hb⟩

set_option maxHeartbeats 1600000 in
set_option maxRecDepth 100000 in
theorem needs_none (x : ByteArray) (r1 r2 : Nat) (w : World) :
    Calls Tryz.prog 125 #[.agg #[.string x, .map (some r1), .map (some r2)], .slice none 0 0] w fun e w' => e = .returned (.slice none 0 0) ∧ Below w.heap.size w w' := by
  go_enter Tryz.func125, Tryz.ntmps125
  go_wp2
  go_loopw [5, 11] (fun v i wr => v = .slice none 0 0 ∧ i = .int .i64 0 ∧ Below w.heap.size w wr) (fun _ _ _ => 0)
  case atStart => exact ⟨rfl, rfl, (Below.refl _ w).alloc (Nat.le_refl _) _⟩
  case round =>
    obtain ⟨rfl, rfl, hb⟩ := hrel
    go_wp2
    go_ret
    exact ⟨rfl, hb⟩
set_option maxHeartbeats 1600000 in
set_option maxRecDepth 100000 in
theorem addNew_none (r1 : Nat) (w : World) :
    Calls Tryz.prog 124 #[.map (some r1), .slice none 0 0] w fun e w' => e = .returned (.slice none 0 0) ∧ Below w.heap.size w w' := by
  go_enter Tryz.func124, Tryz.ntmps124
  go_wp2
  go_loopw [5, 10] (fun v i wr => v = .slice none 0 0 ∧ i = .int .i64 0 ∧ Below w.heap.size w wr) (fun _ _ _ => 0)
  case atStart => exact ⟨rfl, rfl, Below.refl _ w⟩
  case round =>
    obtain ⟨rfl, rfl, hb⟩ := hrel
    go_wp2
    go_ret
    exact ⟨rfl, hb⟩
set_option maxHeartbeats 1600000 in
set_option maxRecDepth 100000 in
theorem reader_none (x : ByteArray) (r : Nat) (w : World) :
    Calls Tryz.prog 59 #[.agg #[.string x, .slice none 0 0, .slice none 0 0, .slice none 0 0], .agg #[.slice none 0 0, .map (some r)]] w fun e w' => ∃ r1 r2, e = .returned (.agg #[.string x, .map (some r1), .map (some r2), .slice none 0 0, .map (some r)]) ∧ Below w.heap.size w w' := by
  generalize hW : (((w.alloc (Obj.cells #[Value.string x, Value.slice none 0 0, Value.slice none 0 0, Value.slice none 0 0] 128)).alloc (Obj.cells #[Value.slice none 0 0, Value.map (some r)] 136)).alloc (Obj.cells #[Value.string { data := #[] }, Value.map none, Value.map none, Value.slice none 0 0, Value.map none] 138)) = W
  have HA := hide hW
  have a0 : W.heap[w.heap.size]? = some (Obj.cells #[Value.string x, Value.slice none 0 0, Value.slice none 0 0, Value.slice none 0 0] 128 (0, 0)) := by
    rw [← hW, alloc_else _ _ _ (by simp only [alloc_size]; omega), alloc_else _ _ _ (by simp only [alloc_size]; omega)]; exact alloc_last _ _ _ rfl
  have a1 : W.heap[w.heap.size + 1]? = some (Obj.cells #[Value.slice none 0 0, Value.map (some r)] 136 (0, 0)) := by
    rw [← hW, alloc_else _ _ _ (by simp only [alloc_size]; omega)]; exact alloc_last _ _ _ (by simp only [alloc_size])
  have a2 : W.heap[w.heap.size + 1 + 1]? = some (Obj.cells #[Value.string { data := #[] }, Value.map none, Value.map none, Value.slice none 0 0, Value.map none] 138 (0, 0)) := by
    rw [← hW]; exact alloc_last _ _ _ (by simp only [alloc_size])
  have hsz : W.heap.size = w.heap.size + 3 := by rw [← hW]; simp only [alloc_size]
  have HB := hide (show Below w.heap.size w W by rw [← hW]; exact below3 _ _ _ _)
  clear hW
  go_enter Tryz.func59, Tryz.ntmps59
  go_wp2_with fail
  rw [HA.out]
  have HT : Hid (∀ w1, Below W.heap.size W w1 → w1.cell? ⟨w.heap.size + 1, 0, none⟩ = some (.slice none 0 0) ∧ w1.cell? ⟨w.heap.size + 1, 1, none⟩ = some (.map (some r)) ∧
      w1.heap[w.heap.size + 1 + 1]? = some (Obj.cells #[Value.string { data := #[] }, Value.map none, Value.map none, Value.slice none 0 0, Value.map none] 138 (0, 0)) ∧
      w1.cell? ⟨w.heap.size + 1 + 1, 0, none⟩ = some (.string ⟨#[]⟩) ∧ w1.cell? ⟨w.heap.size + 1 + 1, 1, none⟩ = some (.map none) ∧ w1.cell? ⟨w.heap.size + 1 + 1, 2, none⟩ = some (.map none) ∧ w1.cell? ⟨w.heap.size + 1 + 1, 3, none⟩ = some (.slice none 0 0) ∧ w1.cell? ⟨w.heap.size + 1 + 1, 4, none⟩ = some (.map none) ∧
      w1.frozen? ⟨w.heap.size + 1 + 1, 0, none⟩ = false ∧ w1.frozen? ⟨w.heap.size + 1 + 1, 1, none⟩ = false ∧ w1.frozen? ⟨w.heap.size + 1 + 1, 2, none⟩ = false ∧ w1.frozen? ⟨w.heap.size + 1 + 1, 3, none⟩ = false ∧ w1.frozen? ⟨w.heap.size + 1 + 1, 4, none⟩ = false) := by
    refine hide fun w1 hb => ?_
    have b1 : w1.heap[w.heap.size + 1]? = some (Obj.cells #[Value.slice none 0 0, Value.map (some r)] 136 (0, 0)) := by rw [hb.block _ (by omega)]; exact a1
    have b2 : w1.heap[w.heap.size + 1 + 1]? = some (Obj.cells #[Value.string { data := #[] }, Value.map none, Value.map none, Value.slice none 0 0, Value.map none] 138 (0, 0)) := by rw [hb.block _ (by omega)]; exact a2
    exact ⟨by rw [Lib.cell_of_heap b1]; rfl, by rw [Lib.cell_of_heap b1]; rfl, b2, by rw [Lib.cell_of_heap b2]; rfl, by rw [Lib.cell_of_heap b2]; rfl, by rw [Lib.cell_of_heap b2]; rfl, by rw [Lib.cell_of_heap b2]; rfl, by rw [Lib.cell_of_heap b2]; rfl, Lib.frozen_of_heap b2 _, Lib.frozen_of_heap b2 _, Lib.frozen_of_heap b2 _, Lib.frozen_of_heap b2 _, Lib.frozen_of_heap b2 _⟩
  have c0 : W.cell? ⟨w.heap.size, 0, none⟩ = some (.string x) := by rw [Lib.cell_of_heap a0]; rfl
  have c1 : W.cell? ⟨w.heap.size, 1, none⟩ = some (.slice none 0 0) := by rw [Lib.cell_of_heap a0]; rfl
  have c2 : W.cell? ⟨w.heap.size, 2, none⟩ = some (.slice none 0 0) := by rw [Lib.cell_of_heap a0]; rfl
  have c3 : W.cell? ⟨w.heap.size, 3, none⟩ = some (.slice none 0 0) := by rw [Lib.cell_of_heap a0]; rfl
  have c4 : W.cell? ⟨w.heap.size + 1, 0, none⟩ = some (.slice none 0 0) := by rw [Lib.cell_of_heap a1]; rfl
  have c5 : W.cell? ⟨w.heap.size + 1, 1, none⟩ = some (.map (some r)) := by rw [Lib.cell_of_heap a1]; rfl
  clear a0 a1 a2 hsz HA
  go_region_with (go_at_call 121; refine (view_none x _).mono ?_; rintro e w1 ⟨r1, r2, rfl, hb1⟩; have hb2 : Below W.heap.size W w1 := ⟨hb1.os, hb1.tape, hb1.output, hb1.size, hb1.block⟩; obtain ⟨d0, d1, d2, d3, d4, d5, d6, d7, d8, d9, d10, d11, d12⟩ := HT.out w1 hb2; have D2 := hide d2; have HB1 := hide hb2; clear d2 hb1 hb2)
  all_goals
    go_wp2
    (try simp only [Exit.inBlock, Exit.then])
    have D3 := heap_setCell_same _ _ 4 _ _ (.map (some r)) (heap_setCell_same _ _ 3 _ _ (.slice none 0 0) (heap_setCell_same _ _ 2 _ _ (.map (some r2)) (heap_setCell_same _ _ 1 _ _ (.map (some r1)) (heap_setCell_same _ _ 0 _ _ (.string x) D2.out))))
    refine bodyPost_ret (results_cell_row rfl _ _ (w.heap.size + 1 + 1) 138 #[.string x, .map (some r1), .map (some r2), .slice none 0 0, .map (some r)] (0, 0) _ rfl D3 Tryz.underlying138 rfl (by kernel_rfl)) rfl ?_
    refine ⟨r1, r2, rfl, ?_⟩
    have HB2 := ((((HB.out.trans (HB1.out.mono HB.out.size)).setCell (p := ⟨w.heap.size + 1 + 1, 0, none⟩) (by show _ ≤ w.heap.size + 1 + 1; omega) (.string x)).setCell (p := ⟨w.heap.size + 1 + 1, 1, none⟩) (by show _ ≤ w.heap.size + 1 + 1; omega) (.map (some r1))).setCell (p := ⟨w.heap.size + 1 + 1, 2, none⟩) (by show _ ≤ w.heap.size + 1 + 1; omega) (.map (some r2))).setCell (p := ⟨w.heap.size + 1 + 1, 3, none⟩) (by show _ ≤ w.heap.size + 1 + 1; omega) (.slice none 0 0) |>.setCell (p := ⟨w.heap.size + 1 + 1, 4, none⟩) (by show _ ≤ w.heap.size + 1 + 1; omega) (.map (some r))
    exact ⟨HB2.os, HB2.tape, HB2.output, HB2.size, HB2.block⟩
set_option maxHeartbeats 1600000 in
set_option maxRecDepth 100000 in
theorem insort_none (f : Value) (w : World) :
    Calls Tryz.prog 295 #[.slice none 0 0, .int .i64 0, .int .i64 0, f] w fun e w' => e = .returned (.tuple #[]) ∧ Below w.heap.size w w' := by
  go_enter Tryz.func295, Tryz.ntmps295
  go_wp2_with fail
  go_loopw [8] (fun i wr => i = .int .i64 1 ∧ wr = w) (fun _ _ => 0)
  case atStart => exact ⟨rfl, rfl⟩
  case round =>
    obtain ⟨rfl, rfl⟩ := hrel
    go_wp2
    go_end0
    exact ⟨rfl, Below.refl _ _⟩
set_option maxHeartbeats 1600000 in
set_option maxRecDepth 100000 in
theorem pdq_none (f : Value) (l : Int) (w : World) :
    Calls Tryz.prog 202 #[.slice none 0 0, .int .i64 0, .int .i64 0, .int .i64 l, f] w fun e w' => e = .returned (.tuple #[]) ∧ Below w.heap.size w w' := by
  go_enter Tryz.func202, Tryz.ntmps202
  go_wp2_with fail
  go_loopw [1, 2] (fun a b wr => a = .int .i64 0 ∧ b = .int .i64 0 ∧ wr = w) (fun _ _ _ => 0)
  case atStart => exact ⟨rfl, rfl, rfl⟩
  case round =>
    obtain ⟨rfl, rfl, rfl⟩ := hrel
    go_wp2_with fail
    refine (insort_none f _).mono ?_
    rintro e w1 ⟨rfl, hb⟩
    go_wp2
    (try simp only [Exit.inBlock, Exit.then])
    refine bodyPost_ret (results_none rfl _ _ _) rfl ?_
    exact ⟨rfl, hb⟩
set_option maxHeartbeats 1600000 in
set_option maxRecDepth 100000 in
theorem sort_none (f : Value) (w : World) :
    Calls Tryz.prog 128 #[.slice none 0 0, f] w fun e w' => e = .returned (.tuple #[]) ∧ Below w.heap.size w w' := by
  go_enter Tryz.func128, Tryz.ntmps128
  go_wp2_with (go_at_call 182; refine (Tryz.bits_Len 0 _ (by omega) (by omega)).mono ?_; rintro e w' ⟨rfl, rfl⟩)
  refine (pdq_none f _ _).mono ?_
  rintro e w1 ⟨rfl, hb⟩
  go_wp2
  go_end0
  exact ⟨rfl, hb⟩
end Go.Proofs.YtcfhleenecfghaaGreatDoor
