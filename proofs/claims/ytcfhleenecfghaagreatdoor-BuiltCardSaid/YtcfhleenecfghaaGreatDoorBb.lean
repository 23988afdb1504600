/- What the law's own look at a ring answers. -/
import Derived.Test.YtcfhleenecfghaaGreatDoorWa
import Derived.Test.YtcfhleenecfghaaGreatDoorBa
import Derived.Test.YtcfhleenecfghaaGreatDoorPlan4
import Derived.Great.BuildSlice
import Derived.Laws.CopyOwn
import Derived.RegionTactic
import Derived.BigRegion
namespace Go.Proofs.YtcfhleenecfghaaGreatDoor
open Go.RowKit

/-- Booleans in memory. -/
def bools (f : Nat → Bool) (n : Nat) : Array Value := ((List.range n).map fun x => Value.bool (f x)).toArray
theorem bools_size (f : Nat → Bool) (n : Nat) : (bools f n).size = n := by simp [bools]
theorem bools_get (f : Nat → Bool) (n x : Nat) (h : x < n) : (bools f n)[x]? = some (.bool (f x)) := by
  simp [bools, h]
theorem bools_set (f : Nat → Bool) (n x : Nat) (v : Bool) : (bools f n).setIfInBounds x (.bool v) = bools (B.updB f x v) n := by
  apply Array.ext_getElem?
  intro j
  by_cases hj : j < n
  · rw [bools_get _ _ _ hj, Array.getElem?_setIfInBounds]
    by_cases e : x = j
    · subst e; simp [bools_size, hj, B.updB]
    · rw [if_neg e, bools_get _ _ _ hj]; simp [B.updB, Ne.symm e]
  · rw [Array.getElem?_eq_none (by rw [Array.size_setIfInBounds, bools_size]; omega), Array.getElem?_eq_none (by rw [bools_size]; omega)]
theorem bools_one (f : Nat → Bool) (n : Nat) : (bools f n).all (·.oneCell') = true := by
  simp [bools, Value.oneCell']
/-- A square of booleans, row behind row. -/
def flat8 (I : B.Mat) : Nat → Bool := fun x => I (x / 8) (x % 8)
theorem flat8_at (I : B.Mat) (i j : Nat) (hj : j < 8) : flat8 I (i * 8 + j) = I i j := by
  unfold flat8; rw [show (i * 8 + j) / 8 = i by omega, show (i * 8 + j) % 8 = j by omega]
theorem flat8_set (I : B.Mat) (i j : Nat) (v : Bool) (hj : j < 8) : B.updB (flat8 I) (i * 8 + j) v = flat8 (B.upd2 I i j v) := by
  funext x
  unfold B.updB flat8 B.upd2
  by_cases h : x = i * 8 + j
  · rw [if_pos h, if_pos (by omega)]
  · rw [if_neg h, if_neg (by omega)]
/-- The path of one of the eight. -/
def xpath (a : Nat) : ByteArray := ⟨#[120, 47, V.dig a]⟩
theorem xpath_facts (a : Nat) (h : a < 8) : (xpath a).extract 0 2 = ⟨#[120, 47]⟩ ∧ ∃ h2 : 2 < (xpath a).size, (xpath a)[2].toNat = 48 + a := by
  have : ∀ a : Fin 8, (xpath a.val).extract 0 2 = ⟨#[120, 47]⟩ ∧ ∃ h2 : 2 < (xpath a.val).size, (xpath a.val)[2].toNat = 48 + a.val := by decide
  exact this ⟨a, h⟩

/-- How the look at a ring stands. -/
def RingAt (I : B.Mat) (W : Nat → Bool) (w : World) (g h : Nat) (n i j k : Nat) (wr : World) : Prop :=
  ∃ R, B.Ge I n i j k R ∧ wr.heap[g]? = some (.cells (bools (flat8 R) 64) 93 (0, 0)) ∧ wr.heap[h]? = some (.cells (bools W 8) 92 (0, 0)) ∧ Below w.heap.size w wr
theorem RingAt.step {I : B.Mat} {W : Nat → Bool} {w wr : World} {g h n i j k : Nat} {R : B.Mat} (hg : w.heap.size ≤ g) (hgh : g ≠ h) (hj : j < 8) (hk : k < 8)
    (h1 : B.Ge I n i j k R) (h2 : wr.heap[g]? = some (.cells (bools (flat8 R) 64) 93 (0, 0))) (h3 : wr.heap[h]? = some (.cells (bools W 8) 92 (0, 0))) (h4 : Below w.heap.size w wr) (v : Bool) (hv : v = (R i j || (R i k && R k j))) :
    RingAt I W w g h n i j (k + 1) (wr.setCell ⟨g, i * 8 + j, none⟩ (.bool v)).drew := by
  refine ⟨_, h1.k hk, ?_, ?_, ?_⟩
  · show (wr.setCell ⟨g, i * 8 + j, none⟩ (.bool v)).heap[g]? = _
    rw [heap_setCell_same wr _ _ _ _ _ h2, bools_set, flat8_set _ _ _ _ hj, hv]
  · show (wr.setCell ⟨g, i * 8 + j, none⟩ (.bool v)).heap[h]? = _
    rw [Below.heap_setCell wr _ _ _ (show h ≠ g from Ne.symm hgh)]; exact h3
  · have := h4.setCell (p := ⟨g, i * 8 + j, none⟩) hg (.bool v)
    exact ⟨this.os, this.tape, this.output, this.size, this.block⟩

theorem alloc_last (w : World) (o : Obj) (n : Nat) (h : n = w.heap.size) : (w.alloc o).heap[n]? = some o := by
  subst h
  show (w.heap.push o)[w.heap.size]? = some o
  rw [Array.getElem?_push, if_pos rfl]
theorem alloc_else (w : World) (o : Obj) (n : Nat) (h : n < w.heap.size) : (w.alloc o).heap[n]? = w.heap[n]? := by
  show (w.heap.push o)[n]? = w.heap[n]?
  rw [Array.getElem?_push, if_neg (by omega)]
theorem alloc_size (w : World) (o : Obj) : (w.alloc o).heap.size = w.heap.size + 1 := Array.size_push _

theorem ring_start (I : B.Mat) (W : Nat → Bool) (w : World) (z : Array Value) : RingAt I W w (w.heap.size + 1 + 1) (w.heap.size + 1) 0 0 0 0
    ((((w.alloc (Obj.cells (bools (flat8 I) 64) 93)).alloc (Obj.cells (bools W 8) 92)).alloc (Obj.cells z 93)).setRow (w.heap.size + 1 + 1) (bools (flat8 I) 64)) := by
  refine ⟨I, B.Ge.start I, ?_, ?_, ?_⟩
  · exact setRow_heap _ _ z _ _ _ (alloc_last _ _ _ (by rw [alloc_size, alloc_size]))
  · rw [setRow_other _ _ _ _ (by omega), alloc_else _ _ _ (by rw [alloc_size, alloc_size]; omega)]
    exact alloc_last _ _ _ (by rw [alloc_size])
  · exact below_setRow ((((Below.refl _ w).alloc (Nat.le_refl _) _).alloc (by rw [alloc_size]; omega) _).alloc (by rw [alloc_size, alloc_size]; omega) _) (by omega) _

set_option maxHeartbeats 3200000 in
set_option maxRecDepth 100000 in
theorem ring_any (I : B.Mat) (W : Nat → Bool) (a n : Nat) (ha : a < 8) (hn : n ≤ 8) (hp : B.Path I n a a) (hW : W a = true) (w : World) :
    Calls Tryz.prog 42 #[.agg (bools (flat8 I) 64), .agg (bools W 8), .string (xpath a)] w fun e w' => e = .returned (.bool true) ∧ Below w.heap.size w w' := by
  obtain ⟨x1, x2, x3⟩ := xpath_facts a ha
  have HP := hide hp
  have hA : ((w.alloc (Obj.cells (bools (flat8 I) 64) 93)).alloc (Obj.cells (bools W 8) 92)).heap[w.heap.size]? = some (Obj.cells (bools (flat8 I) 64) 93) := by
    rw [alloc_else _ _ _ (by rw [alloc_size]; omega)]; exact alloc_last _ _ _ rfl
  clear hp
  go_enter Tryz.func42, Tryz.ntmps42
  go_wp2_with (first
    | refine wpList_load_row rfl 93 _ rfl w.heap.size rfl 93 (bools (flat8 I) 64) (0, 0) _ hA Tryz.underlying93 rfl (by rw [bools_size]; kernel_rfl) ?_
    | refine wpList_store_rowTo rfl 93 _ _ rfl rfl (w.heap.size + 1 + 1) (bools (flat8 I) 64) rfl rfl 93 _ (alloc_last _ _ _ (by rw [alloc_size, alloc_size])) (by rw [bools_size]; kernel_rfl) rfl (bools_one _ _) ?_)
  clear hA
  go_loopw [9] (fun i wr => ∃ n : Nat, n ≤ 8 ∧ i = .int .i64 n ∧ Hid (RingAt I W w (w.heap.size + 1 + 1) (w.heap.size + 1) n 0 0 0 wr)) (fun i _ => 8 - (intOf i).toNat)
  case atStart => exact ⟨0, by omega, rfl, hide (ring_start I W w _)⟩
  case round =>
    obtain ⟨m, hm, rfl, H⟩ := hrel
    by_cases hlt : m < 8
    · go_wp2
      rw [show decide ((m : Int) < 8) = true from decide_eq_true (by omega)]
      go_loopw [10] (fun i wr => ∃ n : Nat, n ≤ 8 ∧ i = .int .i64 n ∧ Hid (RingAt I W w (w.heap.size + 1 + 1) (w.heap.size + 1) m n 0 0 wr)) (fun i _ => 8 - (intOf i).toNat)
      case atStart => exact ⟨0, by omega, rfl, H⟩
      case round =>
        obtain ⟨i, hi, rfl, H2⟩ := hrel
        by_cases hilt : i < 8
        · go_wp2
          rw [show decide ((i : Int) < 8) = true from decide_eq_true (by omega)]
          go_loopw [11] (fun x wr => ∃ n : Nat, n ≤ 8 ∧ x = .int .i64 n ∧ Hid (RingAt I W w (w.heap.size + 1 + 1) (w.heap.size + 1) m i n 0 wr)) (fun i _ => 8 - (intOf i).toNat)
          case atStart => exact ⟨0, by omega, rfl, H2⟩
          case round =>
            obtain ⟨j, hj, rfl, H3⟩ := hrel
            by_cases hjlt : j < 8
            · go_wp2
              rw [show decide ((j : Int) < 8) = true from decide_eq_true (by omega)]
              go_loopw [12] (fun x wr => ∃ n : Nat, n ≤ 8 ∧ x = .int .i64 n ∧ Hid (RingAt I W w (w.heap.size + 1 + 1) (w.heap.size + 1) m i j n wr)) (fun i _ => 8 - (intOf i).toNat)
              case atStart => exact ⟨0, by omega, rfl, H3⟩
              case round =>
                obtain ⟨k, hk, rfl, H4⟩ := hrel
                by_cases hklt : k < 8
                · obtain ⟨R, h1, h2, h3, h4⟩ := H4.out
                  have c1 : wr.cell? ⟨w.heap.size + 1 + 1, i * 8 + j, none⟩ = some (.bool (R i j)) := by
                    rw [Lib.cell_of_heap h2, bools_get _ _ _ (by omega), flat8_at _ _ _ hjlt]
                  have c2 : wr.cell? ⟨w.heap.size + 1 + 1, i * 8 + k, none⟩ = some (.bool (R i k)) := by
                    rw [Lib.cell_of_heap h2, bools_get _ _ _ (by omega), flat8_at _ _ _ hklt]
                  have c3 : wr.cell? ⟨w.heap.size + 1 + 1, k * 8 + j, none⟩ = some (.bool (R k j)) := by
                    rw [Lib.cell_of_heap h2, bools_get _ _ _ (by omega), flat8_at _ _ _ hjlt]
                  have f1 : wr.frozen? ⟨w.heap.size + 1 + 1, i * 8 + j, none⟩ = false := Lib.frozen_of_heap h2 _
                  have HS := hide (fun v hv => RingAt.step (W := W) (w := w) (g := w.heap.size + 1 + 1) (h := w.heap.size + 1) (by omega) (by omega) hjlt hklt h1 h2 h3 h4 v hv)
                  clear h1 h2 h3 h4 H4
                  generalize R i j = b1 at c1 HS
                  generalize R i k = b2 at c2 HS
                  generalize R k j = b3 at c3 HS
                  cases b1 <;> cases b2 <;> cases b3
                  all_goals
                    go_wp2_with fail
                    go_region
                    go_wp2
                    first
                      | exact ⟨⟨k + 1, by omega, by go_num, hide (HS.out _ rfl)⟩, by simp [intOf]; omega⟩
                      | (go_roundw
                         case rel => exact ⟨k + 1, by omega, by go_num, hide (HS.out _ rfl)⟩
                         case measure => simp [intOf]; omega)
                · have he : k = 8 := by omega
                  have R := hide (show RingAt I W w (w.heap.size + 1 + 1) (w.heap.size + 1) m i (j + 1) 0 wr from by
                    obtain ⟨R, h1, h2, h3, h4⟩ := H4.out
                    exact ⟨R, (he ▸ h1).j, h2, h3, h4⟩)
                  go_wp2
                  first
                    | exact ⟨⟨j + 1, by omega, by go_num, R⟩, by simp [intOf]; omega⟩
                    | (go_roundw
                       case rel => exact ⟨j + 1, by omega, by go_num, R⟩
                       case measure => simp [intOf]; omega)
            · have he : j = 8 := by omega
              have R := hide (show RingAt I W w (w.heap.size + 1 + 1) (w.heap.size + 1) m (i + 1) 0 0 wr from by
                obtain ⟨R, h1, h2, h3, h4⟩ := H3.out
                exact ⟨R, (he ▸ h1).i, h2, h3, h4⟩)
              go_wp2
              first
                | exact ⟨⟨i + 1, by omega, by go_num, R⟩, by simp [intOf]; omega⟩
                | (go_roundw
                   case rel => exact ⟨i + 1, by omega, by go_num, R⟩
                   case measure => simp [intOf]; omega)
        · have he : i = 8 := by omega
          have R := hide (show RingAt I W w (w.heap.size + 1 + 1) (w.heap.size + 1) (m + 1) 0 0 0 wr from by
            obtain ⟨R, h1, h2, h3, h4⟩ := H2.out
            exact ⟨R, (he ▸ h1).n, h2, h3, h4⟩)
          go_wp2
          first
            | exact ⟨⟨m + 1, by omega, by go_num, R⟩, by simp [intOf]; omega⟩
            | (go_roundw
               case rel => exact ⟨m + 1, by omega, by go_num, R⟩
               case measure => simp [intOf]; omega)
    · obtain ⟨R, h1, h2, h3, h4⟩ := H.out
      have c1 : wr.cell? ⟨w.heap.size + 1 + 1, a * 8 + a, none⟩ = some (.bool true) := by
        rw [Lib.cell_of_heap h2, bools_get _ _ _ (by omega), flat8_at _ _ _ ha, h1.all a a n (by omega) HP.out]
      have c2 : wr.cell? ⟨w.heap.size + 1, a, none⟩ = some (.bool true) := by
        rw [Lib.cell_of_heap h3, bools_get _ _ _ ha, hW]
      have HB := hide h4
      clear h1 h2 h3 h4 H
      have hsub : (48 : Int) + a - 48 = a := by omega
      go_wp2_with fail
      go_ret
      exact ⟨rfl, HB.out⟩
end Go.Proofs.YtcfhleenecfghaaGreatDoor
