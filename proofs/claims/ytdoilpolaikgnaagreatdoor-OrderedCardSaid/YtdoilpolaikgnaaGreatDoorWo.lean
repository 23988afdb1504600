/- The one short manifest that each keeping statement begins with: what its one line says. -/
import Derived.Test.YtdoilpolaikgnaaGreatDoorWn
namespace Go.Proofs.YtdoilpolaikgnaaGreatDoor
open Go.RowKit

set_option maxHeartbeats 400000 in
theorem fit_one (g off c b : Nat) (w : World) (h0 : w.cell? ⟨g, off, none⟩ = some (.int .i64 0)) (h1 : w.cell? ⟨b, 0, none⟩ = some (.int .i64 0)) :
    Calls Tryz.prog 250 #[.slice (some ⟨g, off, none⟩) 1 c, .slice (some ⟨b, 0, none⟩) 1 1] w fun e w' => e = .returned (.bool true) ∧ w' = w := by
  go_enter Tryz.func250, Tryz.ntmps250
  go_wp2
  go_loop [14] (fun i => ∃ k : Nat, k ≤ 1 ∧ i = .int .i64 k) (fun i => 1 - (intOf i).toNat)
  case atStart => exact ⟨0, by omega, rfl⟩
  case round =>
    obtain ⟨k, hk, rfl⟩ := hrel
    match k, hk with
    | 0, _ =>
      go_wp2
      go_round
      case rel => exact ⟨1, by omega, rfl⟩
      case measure => simp [intOf]
    | 1, _ =>
      go_wp2
      go_ret
      exact ⟨rfl, rfl⟩

set_option maxHeartbeats 800000 in
set_option maxRecDepth 100000 in
theorem meaning_one (g off c : Nat) (w : World) (h0 : w.cell? ⟨g, off, none⟩ = some (.int .i64 0)) (h1 : w.cell? ⟨g, off + 1, none⟩ = some (.string sA)) :
    Calls Tryz.prog 251 #[.int .i64 1, .slice (some ⟨g, off, none⟩) 1 c] w fun e w' => e = .returned (.tuple #[.iface 110 (.agg #[.string sA]), .bool true]) ∧ Below w.heap.size w w' := by
  have hlt : g < w.heap.size := World.block_lt_of_cell? (h := h0)
  have k0 := fun o => keepA h0 o
  have k1 := fun o => keepA h1 o
  go_enter Tryz.func251, Tryz.ntmps251
  go_wp2_with fail
  refine (fit_one g off c _ _ (k0 _) (by simp)).mono ?_
  rintro e w1 ⟨rfl, rfl⟩
  go_wp2
  go_ret2
  exact ⟨rfl, (Below.refl _ _).alloc (Nat.le_refl _) _⟩

theorem info147 : (Tryz.prog.info? 231).map (fun i => (i.zero, i.size, i.bytes)) = some (some (.agg #[.int .i64 0, .nilIface]), 2, 24) := by kernel_rfl

set_option maxHeartbeats 1600000 in
set_option maxRecDepth 100000 in
theorem add_one (g off c pb : Nat) (w : World) (h0 : w.cell? ⟨g, off, none⟩ = some (.int .i64 0)) (h1 : w.cell? ⟨g, off + 1, none⟩ = some (.string sA))
    (hp : w.heap[pb]? = some (.cells #[.int .i64 1, .int .i64 0, .slice none 0 0] 225 (0, 0))) :
    Calls Tryz.prog 174 #[.pointer (some ⟨pb, 0, none⟩), .int .i64 1, .int .i64 1, .slice (some ⟨g, off, none⟩) 1 c] w fun e w' => ∃ v, e = .returned (.bool true) ∧ w'.heap[pb]? = some (.cells #[.int .i64 1, .int .i64 0, v] 225 (0, 0)) ∧ w'.ownsRow (pb + 1) 231 2 v 1 [.int .i64 1, .iface 110 (.agg #[.string sA])] ∧ Below pb w w' := by
  obtain ⟨i0, hi, hz0, hz1, hz2⟩ := info_parts info147
  have hpl : pb < w.heap.size := (Array.getElem?_eq_some_iff.1 hp).1
  go_enter Tryz.func174, Tryz.ntmps174
  go_wp2_with fail
  refine (meaning_one g off c _ h0 h1).mono ?_
  rintro e w1 ⟨rfl, hb1⟩
  have hp1 : w1.heap[pb]? = some (.cells #[.int .i64 1, .int .i64 0, .slice none 0 0] 225 (0, 0)) := by rw [hb1.block pb hpl]; exact hp
  have hz : w.heap.size ≤ w1.heap.size := hb1.size
  have HB1 := hide hb1
  clear hb1
  have c2 : w1.cell? ⟨pb, 2, none⟩ = some (.slice none 0 0) := by rw [Lib.cell_of_heap hp1]; rfl
  have hown : w1.ownsRow (pb + 1) 231 2 (.slice none 0 0) 0 [] := ⟨rfl, Or.inl ⟨rfl, rfl⟩⟩
  go_wp2_with (at_builtin; refine wpList_append_own _ rfl _ _ 142 rfl (pb + 1) 231 i0 (.agg #[.int .i64 0, .nilIface]) 2 24 Tryz.underlying142 hi hz0 hz1 hz2 rfl (by decide) _ _ _ rfl (hown.alloc _) ⟨w1.heap.size, 0, none⟩ 1 1 [.int .i64 1, .iface 110 (.agg #[.string sA])] rfl rfl ?c1 ?c2 ?c3 ?c4 ?c5 ?_)
  case c1 =>
    intro j u hj
    match j, hj with
    | 0, hj => simp at hj; subst hj; simp [Addr.add]
    | 1, hj => simp at hj; subst hj; simp [Addr.add]
  case c2 => intro u hu; simp at hu; rcases hu with rfl | rfl <;> rfl
  case c3 => unfold maxLen; omega
  case c4 => omega
  case c5 => simp; omega
  intro v' w2 hown' hgrow _
  have hp2 : w2.heap[pb]? = some (.cells #[.int .i64 1, .int .i64 0, .slice none 0 0] 225 (0, 0)) := by
    rw [hgrow.block pb (by simp; omega) (fun e => by cases e), Lib.alloc_old w1 _ pb (by omega)]
    exact hp1
  have d2 : w2.cell? ⟨pb, 2, none⟩ = some (.slice none 0 0) := by rw [Lib.cell_of_heap hp2]; rfl
  have f2 : w2.frozen? ⟨pb, 2, none⟩ = false := Lib.frozen_of_heap hp2 2
  obtain ⟨gg, cap, rfl⟩ : ∃ gg cap, v' = .slice (some ⟨gg, 0, none⟩) 1 cap := by
    rcases hown'.2 with ⟨_, h0⟩ | ⟨gg, cap, cur, hv, _⟩
    · omega
    · exact ⟨_, _, hv⟩
  go_wp2
  go_ret
  refine ⟨.slice (some ⟨gg, 0, none⟩) 1 cap, rfl, ?_, ?_, ?_⟩
  · rw [heap_setCell_same _ _ _ _ _ _ hp2]; rfl
  · exact ownsRow_setCell_below hown' (by simp) _
  · exact (((HB1.out.mono (Nat.le_of_lt hpl)).alloc (by omega) _).grown hgrow (by simp; omega) (fun k hk => by cases hk)).setCell (p := ⟨pb, 2, none⟩) (Nat.le_refl _) _

end Go.Proofs.YtdoilpolaikgnaaGreatDoor
