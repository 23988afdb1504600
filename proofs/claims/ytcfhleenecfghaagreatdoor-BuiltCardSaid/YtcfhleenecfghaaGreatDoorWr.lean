/- The one short manifest that each keeping statement begins with: it is read. -/
import Derived.Test.YtcfhleenecfghaaGreatDoorWo2
namespace Go.Proofs.YtcfhleenecfghaaGreatDoor
open Go.RowKit

theorem below_set {B k : Nat} {a w : World} (h : Below B a w) (hk : B ≤ k) (o : Obj) : Below B a { w with heap := w.heap.setIfInBounds k o } :=
  ⟨h.os, h.tape, h.output, by simpa using h.size, fun j hj => by
    rw [← h.block j hj]
    show (w.heap.setIfInBounds k o)[j]? = w.heap[j]?
    rw [Array.getElem?_setIfInBounds_ne (by omega)]⟩

set_option maxHeartbeats 1600000 in
set_option maxRecDepth 100000 in
theorem check_a (gg c : Nat) (m : Int) (w : World) (hm : w.cell? ⟨0, 0, none⟩ = some (.int .i64 m)) (h0 : w.cell? ⟨gg, 0, none⟩ = some (.int .i64 1)) (h1 : w.cell? ⟨gg, 1, none⟩ = some (.iface 123 (.agg #[.string sA]))) :
    Calls Tryz.prog 93 #[.slice (some ⟨gg, 0, none⟩) 1 c] w fun e w' => e = .returned (.pointer none) ∧ Below w.heap.size w w' := by
  have hmm := @run_makeMap Tryz.prog
  have hglt : gg < w.heap.size := World.block_lt_of_cell? (h := h0)
  go_enter Tryz.func93, Tryz.ntmps93
  go_wp2
  go_loopw [11] (fun i wr => (i = .int .i64 0 ∧ wr = w.alloc (.map #[] 0)) ∨ (i = .int .i64 1 ∧ Below w.heap.size w wr)) (fun i _ => 1 - (intOf i).toNat)
  case atStart => exact Or.inl ⟨rfl, rfl⟩
  case round =>
    rcases hrel with ⟨rfl, hwr⟩ | ⟨rfl, hb⟩
    · subst hwr
      have k0 := keepA h0 (.map #[] 0)
      have k1 := keepA h1 (.map #[] 0)
      go_wp2_with fail
      refine (checkWords_a m _ (keepA (keepA hm _) _)).mono ?_
      rintro e w2 ⟨rfl, hb2⟩
      have hm2 : w2.heap[w.heap.size]? = some (.map #[] 0) := by
        rw [hb2.block w.heap.size (by simp; omega), Below.heap_alloc _ _ _ (by simp)]; exact heap_alloc_new w _
      have hs2 : w.heap.size + 1 < w2.heap.size := by have := hb2.size; simp at this; omega
      have s1 : w2.cell? ⟨w.heap.size + 1, 1, none⟩ = some (.iface 123 (.agg #[.string sA])) := keep hb2 (by simp)
      have s0 : w2.cell? ⟨w.heap.size + 1, 0, none⟩ = some (.int .i64 1) := keep hb2 (by simp)
      have HB2 := hide ((((Below.refl _ w).alloc (Nat.le_refl _) _).alloc (by simp) _).trans (hb2.mono (by simp; omega)))
      have HM2 := hide hm2
      clear hb2 hm2
      go_wp2_with fail
      refine (placeOf_a _).mono ?_
      rintro e w3 ⟨rfl, hb3⟩
      have hm3 : w3.heap[w.heap.size]? = some (.map #[] 0) := by rw [hb3.block w.heap.size (by omega)]; exact HM2.out
      have hm4 : (w3.alloc (.cells #[.int .i64 0, .string sA, .string ⟨#[]⟩] 184)).heap[w.heap.size]? = some (.map #[] 0) := by
        rw [Below.heap_alloc _ _ _ (by have := hb3.size; omega)]; exact hm3
      have s1' := keep hb3 s1
      have s0' := keep hb3 s0
      have s0'' := keepA s0' (.cells #[.int .i64 0, .string sA, .string ⟨#[]⟩] 184)
      have HB3 := hide ((HB2.out.trans (hb3.mono HB2.out.size)))
      have HZ3 : Hid (w.heap.size ≤ w3.heap.size) := hide HB3.out.size
      have hl := look_empty w.heap.size 0 sA ⟨#[]⟩ _ hm4
      have hu := put_first w.heap.size 0 sA ⟨#[]⟩ (.int .i64 1) _ hm4
      clear hm3 hm4 hb3 s0 s1 HM2
      go_wp2
      exact ⟨Or.inr ⟨rfl, below_set (HB3.out.alloc HZ3.out _) (Nat.le_refl _) _⟩, by simp [intOf]⟩
    · go_wp2
      go_ret
      exact ⟨rfl, hb⟩

theorem info109 : (Tryz.prog.info? 179).map (fun i => (i.zero, i.size, i.bytes)) = some (some .nilIface, 1, 16) := by kernel_rfl
theorem make75 (w : World) : (Instr.makeSlice 99 (.int .i64 0) (.int .i64 1)).run Tryz.prog w = .ok (.slice (some ⟨w.heap.size, 0, none⟩) 0 1) (w.alloc (.cells #[.nilIface] 179)) := by kernel_rfl

set_option maxHeartbeats 1600000 in
set_option maxRecDepth 100000 in
theorem linesOf_a (gg c : Nat) (w : World) (h0 : w.cell? ⟨gg, 0, none⟩ = some (.int .i64 1)) (h1 : w.cell? ⟨gg, 1, none⟩ = some (.iface 123 (.agg #[.string sA]))) :
    Calls Tryz.prog 95 #[.slice (some ⟨gg, 0, none⟩) 1 c] w fun e w' => ∃ lg lc, e = .returned (.slice (some ⟨lg, 0, none⟩) 1 lc) ∧ w'.cell? ⟨lg, 0, none⟩ = some (.iface 123 (.agg #[.string sA])) ∧ Below w.heap.size w w' := by
  obtain ⟨i0, hi, hz0, hz1, hz2⟩ := info_parts info109
  have hmk := make75
  have hglt : gg < w.heap.size := World.block_lt_of_cell? (h := h0)
  go_enter Tryz.func95, Tryz.ntmps95
  go_wp2
  go_loopw [3, 11] (fun v i wr => (v = .slice (some ⟨w.heap.size, 0, none⟩) 0 1 ∧ i = .int .i64 0 ∧ wr = w.alloc (.cells #[.nilIface] 179)) ∨ (i = .int .i64 1 ∧ wr.ownsRow w.heap.size 179 1 v 1 [.iface 123 (.agg #[.string sA])] ∧ Below w.heap.size w wr)) (fun _ i _ => 1 - (intOf i).toNat)
  case atStart => exact Or.inl ⟨rfl, rfl, rfl⟩
  case round =>
    rcases hrel with ⟨rfl, rfl, hwr⟩ | ⟨rfl, hown, hb⟩
    · subst hwr
      have k0 := keepA h0 (.cells #[.nilIface] 179)
      have k1 := keepA h1 (.cells #[.nilIface] 179)
      have hown : (w.alloc (.cells #[.nilIface] 179)).ownsRow w.heap.size 179 1 (.slice (some ⟨w.heap.size, 0, none⟩) 0 1) 0 [] :=
        ⟨rfl, Or.inr ⟨w.heap.size, 1, #[.nilIface], rfl, Nat.le_refl _, heap_alloc_new w _, by omega, by unfold maxLen; omega, rfl, rfl⟩⟩
      go_wp2_with (at_builtin; refine wpList_append_own _ rfl _ _ 99 rfl w.heap.size 179 i0 .nilIface 1 16 Tryz.underlying99 hi hz0 hz1 hz2 rfl (by decide) _ _ _ rfl ((hown.alloc _).alloc _) ⟨w.heap.size + 1 + 1, 0, none⟩ 1 1 [.iface 123 (.agg #[.string sA])] rfl rfl ?c1 ?c2 ?c3 ?c4 ?c5 ?_)
      case c1 =>
        intro j u hj
        match j, hj with
        | 0, hj => simp at hj; subst hj; exact World.cell?_alloc_at _ _ _ _ (by simp)
      case c2 => intro u hu; simp at hu; subst hu; rfl
      case c3 => unfold maxLen; omega
      case c4 => omega
      case c5 => simp; omega
      intro v' w2 hown' hgrow _
      have hb2 : Below w.heap.size w w2 := ((((Below.refl _ w).alloc (Nat.le_refl _) _).alloc (by simp) _).alloc (by simp; omega) _).grown hgrow (by simp; omega) (fun k hk => by simp [Value.ownBlock] at hk; omega)
      clear hgrow
      go_wp2
      first
        | exact ⟨Or.inr ⟨rfl, hown', hb2⟩, by simp [intOf]⟩
        | (go_roundw
           case rel => exact Or.inr ⟨rfl, hown', hb2⟩
           case measure => simp [intOf])
    · obtain ⟨lg, lc, hv⟩ : ∃ lg lc, u3 = .slice (some ⟨lg, 0, none⟩) 1 lc := by
        rcases hown.2 with ⟨_, h0⟩ | ⟨lg, lc, cur, hv, _⟩
        · omega
        · exact ⟨lg, lc, hv⟩
      subst hv
      have hcs := hown.cells (g := lg) rfl
      have t0 : wr.cell? ⟨lg, 0, none⟩ = some (.iface 123 (.agg #[.string sA])) := by simpa [Addr.add] using hcs 0 _ rfl
      have HT0 := hide t0
      clear hcs hown t0
      go_wp2
      go_ret
      exact ⟨lg, lc, rfl, HT0.out, hb⟩

set_option maxHeartbeats 800000 in
set_option maxRecDepth 100000 in
theorem read_ma (m : Int) (w : World) (hm : w.cell? ⟨0, 0, none⟩ = some (.int .i64 m)) :
    Calls Tryz.prog 45 #[.string sMa] w fun e w' => ∃ lg lc, e = .returned (.tuple #[.slice (some ⟨lg, 0, none⟩) 1 lc, .nilIface]) ∧ w'.cell? ⟨lg, 0, none⟩ = some (.iface 123 (.agg #[.string sA])) ∧ Below w.heap.size w w' := by
  go_enter Tryz.func45, Tryz.ntmps45
  go_wp2_with fail
  refine (parse_ma m _ hm).mono ?_
  rintro e w1 ⟨gg, c, rfl, t0, t1, hb1⟩
  have HB1 := hide hb1
  have hm1 := keep hb1 hm
  have HT0 := hide t0
  have HT1 := hide t1
  clear t0 t1 hb1
  go_wp2_with fail
  refine (without_a gg c _ HT0.out).mono ?_
  rintro e w2 ⟨rfl, rfl⟩
  go_wp2_with fail
  refine (check_a gg c m _ hm1 HT0.out HT1.out).mono ?_
  rintro e w3 ⟨rfl, hb3⟩
  have HB3 := hide (HB1.out.trans (hb3.mono HB1.out.size))
  have HU0 := hide (keep hb3 HT0.out)
  have HU1 := hide (keep hb3 HT1.out)
  clear hb3
  go_wp2_with fail
  refine (linesOf_a gg c _ HU0.out HU1.out).mono ?_
  rintro e w4 ⟨lg, lc, rfl, t0, hb4⟩
  have HB4 := hide (HB3.out.trans (hb4.mono HB3.out.size))
  have HT4 := hide t0
  clear t0 hb4
  go_wp2
  go_ret2
  exact ⟨lg, lc, rfl, HT4.out, HB4.out⟩

end Go.Proofs.YtcfhleenecfghaaGreatDoor
