/- Gathering the parts of a manifest of one line; no needs; one module. -/
/- Texts that rise, each once: what is made of a list of paths. -/
import Derived.Test.YtcfhleenecfghaaGreatDoorBc
import Derived.Test.YtcfhleenecfghaaGreatDoorWy
import Derived.Test.YtcfhleenecfghaaGreatDoorShelf4
import Derived.Sort.OwnSorted
import Derived.Sort.Grow
import Derived.Lib.OwnBridge
namespace Go.Proofs.YtcfhleenecfghaaGreatDoor
open Go.RowKit

set_option maxHeartbeats 1600000 in
set_option maxRecDepth 100000 in
theorem gather_one (g c : Nat) (x : ByteArray) (w : World) (h : w.cell? ⟨g, 0, none⟩ = some (.iface 123 (.agg #[.string x]))) :
    Calls Tryz.prog 58 #[.slice (some ⟨g, 0, none⟩) 1 c] w fun e w' => e = .returned (.agg #[.string x, .slice none 0 0, .slice none 0 0, .slice none 0 0]) ∧ Below w.heap.size w w' := by
  have a1 := asserts154
  have hg : g < w.heap.size := World.block_lt_of_cell? (h := h)
  have hx : ∀ o : Obj, ((w.alloc (Obj.cells #[Value.string { data := #[] }, Value.slice none 0 0, Value.slice none 0 0, Value.slice none 0 0] 128)).alloc o).cell? ⟨g, 0, none⟩ = some (.iface 123 (.agg #[.string x])) := by
    intro o
    rw [← h]
    exact World.cell?_of_block (w := w) ((below2 w _ _).block g hg)
  have hx1 := hx (Obj.cells #[Value.string { data := #[] }, Value.slice none 0 0, Value.slice none 0 0, Value.slice none 0 0] 128)
  have hx2 := hx (Obj.cells #[Value.string x, Value.slice none 0 0, Value.slice none 0 0, Value.slice none 0 0] 128)
  clear hx h
  go_enter Tryz.func58, Tryz.ntmps58
  go_wp2
  go_loopw [12] (fun i wr => (i = .int .i64 0 ∧ wr = (w.alloc (Obj.cells #[Value.string { data := #[] }, Value.slice none 0 0, Value.slice none 0 0, Value.slice none 0 0] 128)).alloc (Obj.cells #[Value.string { data := #[] }, Value.slice none 0 0, Value.slice none 0 0, Value.slice none 0 0] 128)) ∨ (i = .int .i64 1 ∧ wr = ((w.alloc (Obj.cells #[Value.string { data := #[] }, Value.slice none 0 0, Value.slice none 0 0, Value.slice none 0 0] 128)).alloc (Obj.cells #[Value.string x, Value.slice none 0 0, Value.slice none 0 0, Value.slice none 0 0] 128)).alloc (Obj.cells #[Value.string x] 123))) (fun i _ => 1 - (intOf i).toNat)
  case atStart => exact Or.inl ⟨rfl, rfl⟩
  case round =>
    rcases hrel with ⟨rfl, rfl⟩ | ⟨rfl, rfl⟩
    · go_wp2
      first
        | exact ⟨Or.inr ⟨rfl, trivial⟩, by simp [intOf]⟩
        | exact ⟨Or.inr ⟨rfl, rfl⟩, by simp [intOf]⟩
        | (go_roundw
           case rel => first | exact Or.inr ⟨rfl, trivial⟩ | exact Or.inr ⟨rfl, rfl⟩
           case measure => simp [intOf])
    · go_wp2
      (try simp only [Exit.inBlock, Exit.then])
      refine bodyPost_ret (results_cell_row rfl _ _ w.heap.size 128 #[.string x, .slice none 0 0, .slice none 0 0, .slice none 0 0] (0, 0) _ rfl (by rw [alloc_else _ _ _ (by simp only [alloc_size]; omega)]; exact heap2_0 _ _ _) Tryz.underlying128 rfl (by kernel_rfl)) rfl ?_
      exact ⟨rfl, below3 _ _ _ _⟩

set_option maxHeartbeats 1600000 in
set_option maxRecDepth 100000 in
theorem needed_none (x : ByteArray) (r1 r2 r : Nat) (w : World) :
    Calls Tryz.prog 61 #[.agg #[.string x, .map (some r1), .map (some r2), .slice none 0 0, .map (some r)], .slice none 0 0] w fun e w' => e = .returned (.slice none 0 0) ∧ Below w.heap.size w w' := by
  have hm := make131'
  go_enter Tryz.func61, Tryz.ntmps61
  go_wp2_with (go_at_call 125; refine (needs_none x r1 r2 _).mono ?_; rintro e w1 ⟨rfl, hb1⟩)
  have HB1 := hide ((below2 w _ _).trans (hb1.mono (below2 w _ _).size))
  clear hb1
  refine (addNew_none _ _).mono ?_
  rintro e w2 ⟨rfl, hb2⟩
  have HB2 := hide (HB1.out.trans (hb2.mono HB1.out.size))
  clear hb2 HB1
  go_wp2
  go_loopw [5, 7] (fun a v wr => a = .slice none 0 0 ∧ v = .slice none 0 0 ∧ wr = w2) (fun _ _ _ => 0)
  case atStart => exact ⟨rfl, rfl, rfl⟩
  case round =>
    obtain ⟨rfl, rfl, rfl⟩ := hrel
    go_wp2_with fail
    refine (sort_none _ _).mono ?_
    rintro e w3 ⟨rfl, hb3⟩
    have HB3 := hide (HB2.out.trans (hb3.mono HB2.out.size))
    clear hb3
    go_wp2
    go_ret
    exact ⟨rfl, HB3.out⟩

set_option maxHeartbeats 1600000 in
set_option maxRecDepth 100000 in
theorem modules_one (x : ByteArray) (fb n fc : Nat) (w : World) :
    Calls Tryz.prog 80 #[.string x, .slice (some ⟨fb, 0, none⟩) n fc, .slice none 0 0] w fun e w' => ∃ g c, e = .returned (.slice (some ⟨g, 0, none⟩) 1 c) ∧ w'.cell? ⟨g, 0, none⟩ = some (.string x) ∧ w'.cell? ⟨g, 1, none⟩ = some (.slice (some ⟨fb, 0, none⟩) n fc) ∧ Below w.heap.size w w' := by
  go_enter Tryz.func80, Tryz.ntmps80
  go_wp2
  go_loopw [7, 16] (fun v i wr => v = .slice (some ⟨w.heap.size, 0, none⟩) 1 1 ∧ i = .int .i64 0 ∧ wr = w.alloc (Obj.cells #[Value.string x, Value.slice (some ⟨fb, 0, none⟩) n fc] 280)) (fun _ _ _ => 0)
  case atStart => exact ⟨rfl, rfl, rfl⟩
  case round =>
    obtain ⟨rfl, rfl, rfl⟩ := hrel
    go_wp2
    go_ret
    have h0 := alloc_last w (Obj.cells #[Value.string x, Value.slice (some ⟨fb, 0, none⟩) n fc] 280) _ rfl
    exact ⟨w.heap.size, 1, rfl, by rw [Lib.cell_of_heap h0]; rfl, by rw [Lib.cell_of_heap h0]; rfl, below1 _ _⟩
end Go.Proofs.YtcfhleenecfghaaGreatDoor

namespace Go.Proofs.YtcfhleenecfghaaGreatDoor
open Go.RowKit Go.Shelf Go.Sort

/-- Paths in memory. -/
def TRow (B : Nat) (w : World) (v : Value) (l : List Nat) : Prop :=
  (l = [] ∧ ∃ a c, v = .slice a 0 c) ∨ ∃ g off c, v = .slice (some ⟨g, off, none⟩) l.length c ∧ B ≤ g ∧ g < w.heap.size ∧ l.length ≤ c ∧ c ≤ maxLen ∧ ∀ j (h : j < l.length), w.cell? ⟨g, off + j, none⟩ = some (.string (xpath l[j]))
theorem xpath_inj {a b : Nat} (ha : a < 8) (hb : b < 8) (h : (xpath a).data.toList = (xpath b).data.toList) : a = b := by
  have : ∀ a b : Fin 8, (xpath a.val).data.toList = (xpath b.val).data.toList → a = b := by decide
  exact congrArg Fin.val (this ⟨a, ha⟩ ⟨b, hb⟩ h)
theorem mem_compact {α : Type} [Inhabited α] [DecidableEq α] {zs : List α} {x : α} (h : x ∈ Lib.compact zs) : x ∈ zs := by
  unfold Lib.compact Lib.compactUpTo at h
  obtain ⟨i, hi, rfl⟩ := List.mem_map.1 h
  have hi' : i < zs.length := List.mem_range.1 (List.mem_filter.1 hi).1
  simp [getElem!_pos, hi']
/-- All that stands there stays there, once. -/
theorem mem_compact' {α : Type} [Inhabited α] [DecidableEq α] {zs : List α} {x : α} (h : x ∈ zs) : x ∈ Lib.compact zs := by
  obtain ⟨k, hk, rfl⟩ := List.mem_iff_getElem.1 h
  clear h
  unfold Lib.compact Lib.compactUpTo
  induction k with
  | zero => exact List.mem_map.2 ⟨0, List.mem_filter.2 ⟨List.mem_range.2 hk, Lib.keeps_lt_one _ 0 (by omega)⟩, by simp [getElem!_pos, hk]⟩
  | succ k ih =>
    by_cases hkeep : Lib.keeps zs.toArray (k + 1) = true
    · exact List.mem_map.2 ⟨k + 1, List.mem_filter.2 ⟨List.mem_range.2 hk, hkeep⟩, by simp [getElem!_pos, hk]⟩
    · have e : zs[k + 1] = zs[k] := by
        unfold Lib.keeps at hkeep
        have h1 : k < zs.length := by omega
        simp only [Nat.add_one_ne_zero, false_or, decide_eq_true_eq, Decidable.not_not, Nat.add_sub_cancel] at hkeep
        simpa [getElem!_pos, hk, h1] using hkeep
      rw [e]; exact ih (by omega)
/-- A list of paths is one of numbers. -/
theorem paths_of {D : List Nat} : ∀ (R : List (List UInt8)), (∀ x ∈ R, ∃ d ∈ D, x = (xpath d).data.toList) → ∃ D' : List Nat, R = D'.map (fun d => (xpath d).data.toList) ∧ ∀ d ∈ D', d ∈ D
  | [], _ => ⟨[], rfl, fun d h => absurd h (List.not_mem_nil)⟩
  | x :: R, h => by
    obtain ⟨d, hd, rfl⟩ := h x (by simp)
    obtain ⟨D', e, hm⟩ := paths_of R fun y hy => h y (by simp [hy])
    exact ⟨d :: D', by rw [e]; rfl, fun y hy => by
      rcases List.mem_cons.1 hy with rfl | hy
      · exact hd
      · exact hm y hy⟩

def Left (w : World) (ss : List (List UInt8)) (e : Ending) (w' : World) : Prop :=
  ∃ g cap, e = .returned (.slice (some ⟨g, 0, none⟩) (Lib.compact (ss.mergeSort fun x y => decide (x ≤ y))).length cap) ∧
    w'.ownsRow w.heap.size 9 1 (.slice (some ⟨g, 0, none⟩) (Lib.compact (ss.mergeSort fun x y => decide (x ≤ y))).length cap) (Lib.compact (ss.mergeSort fun x y => decide (x ≤ y))).length ((Lib.compact (ss.mergeSort fun x y => decide (x ≤ y))).map encStr) ∧ Below w.heap.size w w'
theorem left_of {w w1 : World} {g cap n nn q : Nat} {os : Array Obj} {ss : List (List UInt8)} (hown : w1.ownsRow w.heap.size 9 1 (.slice (some ⟨g, 0, none⟩) n cap) n (ss.map encStr)) (hbel : Below w.heap.size w w1) (hbg : w.heap.size ≤ g) (hlen : ss.length = n) :
    Left w ss (.returned (.slice (some ⟨g, 0, none⟩) (Lib.compact (ss.mergeSort fun x y => decide (x ≤ y))).length cap))
      (putRow encStr (Sort.ahead (grow (putRow encStr (Sort.ahead w1 nn) g 0 (ss.mergeSort fun x y => decide (x ≤ y)).toArray) os) q) g 0 (Lib.compact (ss.mergeSort fun x y => decide (x ≤ y)) ++ List.replicate (n - (Lib.compact (ss.mergeSort fun x y => decide (x ≤ y))).length) []).toArray) := by
  have hl2 : (ss.mergeSort fun x y => decide (x ≤ y)).length = ss.length := List.length_mergeSort ss
  have hle := Lib.compact_length_le (ss.mergeSort fun x y => decide (x ≤ y))
  subst hlen
  rcases hown.2 with ⟨h0, _⟩ | ⟨g', cap', cur, hv, hbase, hb, h1, h2, h3, h4⟩
  · cases h0
  cases hv
  have hs := ownsRow_sorted (n := nn) (os := os) (ts := ss.mergeSort fun x y => decide (x ≤ y)) hl2 hbase hb h1 h2 h3
  have hc := Lib.ownsRow_putRow (q := q) (k := (Lib.compact (ss.mergeSort fun x y => decide (x ≤ y))).length) (ys := Lib.compact (ss.mergeSort fun x y => decide (x ≤ y)) ++ List.replicate (ss.length - (Lib.compact (ss.mergeSort fun x y => decide (x ≤ y))).length) []) hs (by simp; omega) (by omega)
  rw [List.take_left] at hc
  exact ⟨g, cap, rfl, hc, Lib.below_putRow (hbel.grown (grownBy_sorted _) hbel.size (fun j hj => by cases hj; exact hbase)) hbg⟩

/-- What is left of a list of paths. -/
def Risen (D : List Nat) (w : World) (e : Ending) (w' : World) : Prop :=
  ∃ D' v, e = .returned v ∧ TRow w.heap.size w' v D' ∧ (∀ d, d ∈ D' ↔ d ∈ D) ∧ D'.length ≤ D.length ∧ Below w.heap.size w w'
theorem risen_of {D : List Nat} (hD : ∀ d ∈ D, d < 8) {w w' : World} {e : Ending} (h : Left w (D.map fun d => (xpath d).data.toList) e w') : Risen D w e w' := by
  obtain ⟨g, cap, rfl, hown, hb⟩ := h
  have hmem : ∀ x, x ∈ Lib.compact ((D.map fun d => (xpath d).data.toList).mergeSort fun x y => decide (x ≤ y)) ↔ x ∈ D.map fun d => (xpath d).data.toList := fun x =>
    ⟨fun hx => (List.mergeSort_perm _ _).subset (mem_compact hx), fun hx => mem_compact' ((List.mergeSort_perm _ _).symm.subset hx)⟩
  have hlen : (Lib.compact ((D.map fun d => (xpath d).data.toList).mergeSort fun x y => decide (x ≤ y))).length ≤ D.length := by
    have := Lib.compact_length_le ((D.map fun d => (xpath d).data.toList).mergeSort fun x y => decide (x ≤ y))
    rw [List.length_mergeSort, List.length_map] at this
    exact this
  generalize Lib.compact ((D.map fun d => (xpath d).data.toList).mergeSort fun x y => decide (x ≤ y)) = R at hown hmem hlen ⊢
  obtain ⟨D', rfl, hD'⟩ := paths_of (D := D) R fun x hx => by
    obtain ⟨d, hd, rfl⟩ := List.mem_map.1 ((hmem x).1 hx)
    exact ⟨d, hd, rfl⟩
  obtain ⟨g', cap', e1, hb1, hg1, hc1, hm1, hl1, hH⟩ := Lib.holds_of_ownsRow hown (by intro h; cases h)
  injection e1 with e1 e2 e3
  injection e1 with e1
  injection e1 with e1
  subst e1 e3
  rw [List.length_map] at hlen hc1 hl1
  refine ⟨D', _, rfl, Or.inr ⟨g, 0, cap, by rw [List.length_map], hb1, hg1, hc1, hm1, fun j hj => ?_⟩, fun d => ⟨hD' d, fun hd => ?_⟩, hlen, hb⟩
  · have := (hH j (by simpa using hj)).1
    rw [this]
    simp [getElem!_pos, hj, encStr]
  · obtain ⟨d', h1, h2⟩ := List.mem_map.1 ((hmem _).2 (List.mem_map.2 ⟨d, hd, rfl⟩))
    rw [← xpath_inj (hD d' (hD' d' h1)) (hD d hd) h2]; exact h1

set_option maxHeartbeats 2000000 in
set_option maxRecDepth 100000 in
theorem rising_tail (n : Nat) (arg : Value) (ss : List (List UInt8)) (w : World) (hn : n ≤ 4611686018427387903)
    (hclone : Calls Tryz.prog 235 #[arg] w fun e w' => ∃ v', e = .returned v' ∧ w'.ownsRow w.heap.size 9 1 v' n (ss.map encStr) ∧ v' ≠ .slice none 0 0 ∧ Below w.heap.size w w') :
    Calls Tryz.prog 164 #[arg] w (Left w ss) := by
  go_enter Tryz.func164, Tryz.ntmps164
  go_wp2_with (first
    | (go_at_call 235; refine hclone.mono ?_; rintro e w1 ⟨v1, rfl, hown, hnn, hbel⟩
       obtain ⟨g, cap, rfl, hbg, hgl, hncap, hcm, hlen, hH⟩ := Lib.holds_of_ownsRow hown hnn
       have hsort := Tryz.slices_Sort_string g 0 cap ss w1 hH hgl (by omega)
       rw [hlen] at hsort
       have X : Hid (w1.ownsRow w.heap.size 9 1 (.slice (some ⟨g, 0, none⟩) n cap) n (ss.map encStr) ∧ Below w.heap.size w w1 ∧ w.heap.size ≤ g ∧ g < w1.heap.size ∧ n ≤ cap ∧ cap ≤ maxLen ∧ ss.length = n ∧ Holds encStr w1 g 0 ss.toArray) := hide ⟨hown, hbel, hbg, hgl, hncap, hcm, hlen, hH⟩
       clear hown hbel hH hnn)
    | (go_at_call 236; refine hsort.mono ?_; rintro e w2 ⟨rfl, nn, os, rfl⟩
       have hl2 : (ss.mergeSort fun x y => decide (x ≤ y)).length = n := by rw [List.length_mergeSort]; exact X.out.2.2.2.2.2.2.1
       have hH2 : Holds encStr (grow (putRow encStr (Sort.ahead w1 nn) g 0 (ss.mergeSort fun x y => decide (x ≤ y)).toArray) os) g 0 (ss.mergeSort fun x y => decide (x ≤ y)).toArray :=
         holds_grow encStr _ os g 0 _ (by simpa [putRow, mapBlock, Sort.ahead] using X.out.2.2.2.1) (holds_putRow encStr _ g 0 _ _ (holds_ahead encStr w1 nn g 0 _ X.out.2.2.2.2.2.2.2) (by simp))
       have hcomp := Tryz.slices_Compact_string g 0 cap (ss.mergeSort fun x y => decide (x ≤ y)) _ hH2 (by omega) (by have := X.out.2.2.2.2.1; omega)
       rw [hl2] at hcomp
       clear hH2 hsort)
    | (go_at_call 237; refine hcomp.mono ?_; rintro e w3 ⟨rfl, q, rfl⟩))
  go_ret
  exact left_of X.out.1 X.out.2.1 X.out.2.2.1 X.out.2.2.2.2.2.2.1

set_option maxHeartbeats 2000000 in
set_option maxRecDepth 100000 in
/-- Of no paths nothing is left. -/
theorem rising_nil (w : World) : Calls Tryz.prog 164 #[.slice none 0 0] w (Risen [] w) := by
  go_enter Tryz.func164, Tryz.ntmps164
  go_wp2_with (first
    | (go_at_call 235; refine (Tryz.slices_Clone_string_nil 0 0 _).mono ?_; rintro e w1 ⟨rfl, rfl⟩)
    | (go_at_call 236; refine (Tryz.slices_Sort_string_none none 0 _).mono ?_; rintro e w1 ⟨rfl, rfl⟩)
    | (go_at_call 237; refine (Tryz.slices_Compact_string_empty none 0 _).mono ?_; rintro e w1 ⟨rfl, rfl⟩))
  go_ret
  exact ⟨[], _, rfl, Or.inl ⟨rfl, none, 0, rfl⟩, fun d => Iff.rfl, Nat.le_refl _, Below.refl _ _⟩

/-- What is left of paths. -/
theorem rising_any (D : List Nat) (hD : ∀ d ∈ D, d < 8) (hl : D.length ≤ 1000) (b off c : Nat) (w : World) (hc : ∀ j (h : j < D.length), w.cell? ⟨b, off + j, none⟩ = some (.string (xpath D[j]))) :
    Calls Tryz.prog 164 #[.slice (some ⟨b, off, none⟩) D.length c] w (Risen D w) := by
  refine (rising_tail D.length _ (D.map fun d => (xpath d).data.toList) w (by omega) ?_).mono fun e w' h => risen_of hD h
  refine (Tryz.slices_Clone_string b off D.length c (D.map xpath) w (by simp) (by omega) fun j hj => ?_).mono ?_
  · rw [hc j (by simpa using hj)]
    simp at hj
    simp [List.getD, hj]
  · rintro e w' ⟨v, rfl, h1, h2, h3⟩
    refine ⟨v, rfl, ?_, h2, h3⟩
    rw [List.take_of_length_le (by simp), ← Lib.map_encStr, List.map_map, List.map_map] at h1
    rw [List.map_map]
    exact h1
end Go.Proofs.YtcfhleenecfghaaGreatDoor
