/- The one short manifest that each keeping statement begins with: it is parsed. -/
import Derived.Test.YtdoilpolaikgnaaGreatDoorWo
namespace Go.Proofs.YtdoilpolaikgnaaGreatDoor
open Go.RowKit

theorem key_mod : (sMod.toList == [109, 111, 100, 117, 108, 101]) = true := by decide +kernel
set_option maxHeartbeats 400000 in
theorem keyword_mod (w : World) : Calls Tryz.prog 172 #[.string sMod] w fun e w' => e = .returned (.int .i64 1) ∧ w' = w := by
  have h := key_mod
  go_enter Tryz.func172, Tryz.ntmps172
  go_wp2
  go_ret
  exact ⟨rfl, rfl⟩
set_option maxHeartbeats 400000 in
theorem opens_one (v : Value) (w : World) : Calls Tryz.prog 173 #[.int .i64 1, v] w fun e w' => e = .returned (.bool false) ∧ w' = w := by
  go_enter Tryz.func173, Tryz.ntmps173
  go_wp2
  go_ret
  exact ⟨rfl, rfl⟩

set_option maxHeartbeats 1600000 in
set_option maxRecDepth 100000 in
theorem take_one (g c pb : Nat) (w : World) (_h0 : w.cell? ⟨g, 0, none⟩ = some (.int .i64 0)) (h1 : w.cell? ⟨g, 1, none⟩ = some (.string sMod)) (h2 : w.cell? ⟨g, 2, none⟩ = some (.int .i64 0)) (h3 : w.cell? ⟨g, 3, none⟩ = some (.string sA)) (hgp : pb < g) (hc : 2 ≤ c)
    (hp : w.heap[pb]? = some (.cells #[.int .i64 0, .int .i64 0, .slice none 0 0] 225 (0, 0))) :
    Calls Tryz.prog 122 #[.pointer (some ⟨pb, 0, none⟩), .int .i64 1, .slice (some ⟨g, 0, none⟩) 2 c] w fun e w' => ∃ v, e = .returned (.bool true) ∧ w'.heap[pb]? = some (.cells #[.int .i64 1, .int .i64 0, v] 225 (0, 0)) ∧ w'.ownsRow (pb + 1) 231 2 v 1 [.int .i64 1, .iface 110 (.agg #[.string sA])] ∧ Below pb w w' := by
  have d0 : w.cell? ⟨pb, 0, none⟩ = some (.int .i64 0) := by rw [Lib.cell_of_heap hp]; rfl
  have f0 : w.frozen? ⟨pb, 0, none⟩ = false := Lib.frozen_of_heap hp 0
  have HP := hide hp
  clear hp
  go_enter Tryz.func122, Tryz.ntmps122
  go_wp2_with fail
  go_quiet ((go_at_call 172; exact Calls.quiet_of_same (keyword_mod _)))
  have HPq : Hid ((w.drewN nq).heap[pb]? = some (.cells #[.int .i64 0, .int .i64 0, .slice none 0 0] 225 (0, 0))) := HP
  have q0 : (w.drewN nq).cell? ⟨pb, 0, none⟩ = some (.int .i64 0) := d0
  have g0 : (w.drewN nq).frozen? ⟨pb, 0, none⟩ = false := f0
  have r2 : (w.drewN nq).cell? ⟨g, 2, none⟩ = some (.int .i64 0) := h2
  have r3 : (w.drewN nq).cell? ⟨g, 3, none⟩ = some (.string sA) := h3
  have HBq := hide (below_drewN (Below.refl pb w) nq)
  clear _h0 h1 h2 h3 d0 f0 HP
  generalize w.drewN nq = wq at HPq q0 g0 r2 r3 HBq ⊢
  go_wp2_with (go_at_call 173; refine (opens_one _ _).mono ?_; rintro e w' ⟨rfl, rfl⟩)
  refine (add_one g 2 _ pb _ (by rw [World.cell?_setCell_other _ _ _ _ (fun e => by injection e; omega)]; exact r2) (by rw [World.cell?_setCell_other _ _ _ _ (fun e => by injection e; omega)]; exact r3) (by rw [heap_setCell_same _ _ _ _ _ _ HPq.out]; rfl)).mono ?_
  rintro e w2 ⟨v, rfl, hv, hown, hb⟩
  have HV := hide hv
  have HO := hide hown
  have HB := hide ((HBq.out.setCell (p := ⟨pb, 0, none⟩) (Nat.le_refl _) (.int .i64 1)).trans hb)
  clear hv hown hb
  go_wp2
  go_ret
  exact ⟨v, rfl, HV.out, HO.out, HB.out⟩

theorem assert154 (s : ByteArray) (w : World) : (Instr.typeAssert (.iface 110 (.agg #[.string s])) 150 110 true).run Tryz.prog w = .ok (.tuple #[.agg #[.string s], .bool true]) w := by kernel_rfl

set_option maxHeartbeats 800000 in
set_option maxRecDepth 100000 in
theorem mayEnd_one (pb gg c : Nat) (w : World) (hp : w.heap[pb]? = some (.cells #[.int .i64 1, .int .i64 0, .slice (some ⟨gg, 0, none⟩) 1 c] 225 (0, 0))) (h1 : w.cell? ⟨gg, 1, none⟩ = some (.iface 110 (.agg #[.string sA]))) :
    Calls Tryz.prog 124 #[.pointer (some ⟨pb, 0, none⟩)] w fun e w' => e = .returned (.bool true) ∧ Below w.heap.size w w' := by
  have d0 : w.cell? ⟨pb, 0, none⟩ = some (.int .i64 1) := by rw [Lib.cell_of_heap hp]; rfl
  have d2 : w.cell? ⟨pb, 2, none⟩ = some (.slice (some ⟨gg, 0, none⟩) 1 c) := by rw [Lib.cell_of_heap hp]; rfl
  have ha := assert154
  clear hp
  go_enter Tryz.func124, Tryz.ntmps124
  go_wp2
  go_ret
  exact ⟨rfl, (Below.refl _ _).alloc (Nat.le_refl _) _⟩

theorem split_ma : Lib.countB sMa ⟨#[10]⟩ = 0 ∧ Lib.splitB ⟨#[10]⟩ 0 0 sMa = [sMa] := by decide +kernel
theorem splitMa_any (m : Int) (w : World) (hm : w.cell? ⟨0, 0, none⟩ = some (.int .i64 m)) :
    Calls Tryz.prog 118 #[.string sMa, .string ⟨#[10]⟩] w fun e w' => e = .returned (.slice (some ⟨w.heap.size, 0, none⟩) 1 1) ∧ w'.cell? ⟨w.heap.size, 0, none⟩ = some (.string sMa) ∧ Below w.heap.size w w' := by
  refine (Tryz.strings_Split sMa ⟨#[10]⟩ m w (by decide) hm (by decide)).mono ?_
  rintro e w' ⟨rfl, rfl⟩
  rw [split_ma.1, split_ma.2]
  exact ⟨rfl, by simp, (Below.refl _ _).alloc (Nat.le_refl _) _⟩

set_option maxHeartbeats 1600000 in
set_option maxRecDepth 100000 in
theorem parse_ma (m : Int) (w : World) (hm : w.cell? ⟨0, 0, none⟩ = some (.int .i64 m)) :
    Calls Tryz.prog 62 #[.string sMa] w fun e w' => ∃ gg c, e = .returned (.tuple #[.slice (some ⟨gg, 0, none⟩) 1 c, .int .i64 0]) ∧ w'.cell? ⟨gg, 0, none⟩ = some (.int .i64 1) ∧ w'.cell? ⟨gg, 1, none⟩ = some (.iface 110 (.agg #[.string sA])) ∧ Below w.heap.size w w' := by
  have h0 := pos_of_cell hm
  go_enter Tryz.func62, Tryz.ntmps62
  go_wp2_with fail
  refine (splitMa_any m _ (keepA hm _)).mono ?_
  rintro e w1 ⟨rfl, hs, hb1⟩
  have hp1 : w1.heap[w.heap.size]? = some (.cells #[.int .i64 0, .int .i64 0, .slice none 0 0] 225 (0, 0)) := by
    rw [hb1.block w.heap.size (by simp)]; exact heap_alloc_new w _
  have hm1 := keep hb1 (keepA hm _)
  have HB1 := hide (((Below.refl _ w).alloc (Nat.le_refl _) _).trans (hb1.mono (by simp)))
  have hz1 : w.heap.size < w1.heap.size := by have := hb1.size; simp at this; omega
  clear hb1
  have HP1 := hide hp1
  have hs' : w1.cell? ⟨w.heap.size + 1, 0, none⟩ = some (.string sMa) := by simpa using hs
  clear hp1 hs
  go_wp2
  go_loopw [12] (fun i wr => (i = .int .i64 0 ∧ wr = w1) ∨ (i = .int .i64 1 ∧ ∃ v, wr.heap[w.heap.size]? = some (.cells #[.int .i64 1, .int .i64 0, v] 225 (0, 0)) ∧ wr.ownsRow (w.heap.size + 1) 231 2 v 1 [.int .i64 1, .iface 110 (.agg #[.string sA])] ∧ Below w.heap.size w wr)) (fun i _ => 1 - (intOf i).toNat)
  case atStart => exact Or.inl ⟨rfl, rfl⟩
  case round =>
    rcases hrel with ⟨rfl, hwr⟩ | ⟨rfl, v, hp, hown, hb⟩
    · subst hwr
      go_wp2_with fail
      refine (tokensMa_any m _ hm1).mono ?_
      rintro e w2 ⟨v, rfl, hown, hb2⟩
      obtain ⟨g, cap, hv, hg, hcap⟩ : ∃ g cap, v = .slice (some ⟨g, 0, none⟩) 2 cap ∧ wr.heap.size ≤ g ∧ 2 ≤ cap := by
        rcases hown.2 with ⟨_, h0⟩ | ⟨g, cap, cur, hv, hg, _, hc, _⟩
        · omega
        · exact ⟨g, cap, hv, hg, hc⟩
      subst hv
      have hcs := hown.cells (g := g) rfl
      have t0 : w2.cell? ⟨g, 0, none⟩ = some (.int .i64 0) := by simpa [Addr.add] using hcs 0 _ rfl
      have t1 : w2.cell? ⟨g, 1, none⟩ = some (.string sMod) := by simpa [Addr.add] using hcs 1 _ rfl
      have t2 : w2.cell? ⟨g, 2, none⟩ = some (.int .i64 0) := by simpa [Addr.add] using hcs 2 _ rfl
      have t3 : w2.cell? ⟨g, 3, none⟩ = some (.string sA) := by simpa [Addr.add] using hcs 3 _ rfl
      have hp2 : w2.heap[w.heap.size]? = some (.cells #[.int .i64 0, .int .i64 0, .slice none 0 0] 225 (0, 0)) := by
        rw [hb2.block w.heap.size hz1]; exact HP1.out
      have HB2 := hide (HB1.out.trans (hb2.mono (Nat.le_of_lt hz1)))
      have HT0 := hide t0
      have HT1 := hide t1
      have HT2 := hide t2
      have HT3 := hide t3
      have HP2 := hide hp2
      clear hcs hown hb2 t0 t1 t2 t3 hp2
      go_wp2_with fail
      refine (take_one g cap w.heap.size _ HT0.out HT1.out HT2.out HT3.out (by omega) hcap HP2.out).mono ?_
      rintro e w3 ⟨v, rfl, hp3, hown3, hb3⟩
      have HP3 := hide hp3
      have HO3 := hide hown3
      have HB3 := hide (HB2.out.trans hb3)
      clear hp3 hown3 hb3
      go_wp2
      first
        | exact ⟨Or.inr ⟨rfl, v, HP3.out, HO3.out, HB3.out⟩, by simp [intOf]⟩
        | (go_roundw
           case rel => exact Or.inr ⟨rfl, v, HP3.out, HO3.out, HB3.out⟩
           case measure => simp [intOf])
    · obtain ⟨gg, cap, hv⟩ : ∃ gg cap, v = .slice (some ⟨gg, 0, none⟩) 1 cap := by
        rcases hown.2 with ⟨_, h0⟩ | ⟨gg, cap, cur, hv, _⟩
        · omega
        · exact ⟨gg, cap, hv⟩
      subst hv
      have hcs := hown.cells (g := gg) rfl
      have t0 : wr.cell? ⟨gg, 0, none⟩ = some (.int .i64 1) := by simpa [Addr.add] using hcs 0 _ rfl
      have t1 : wr.cell? ⟨gg, 1, none⟩ = some (.iface 110 (.agg #[.string sA])) := by simpa [Addr.add] using hcs 1 _ rfl
      have d2 : wr.cell? ⟨w.heap.size, 2, none⟩ = some (.slice (some ⟨gg, 0, none⟩) 1 cap) := by rw [Lib.cell_of_heap hp]; rfl
      have HP := hide hp
      have HB := hide hb
      have HT0 := hide t0
      have HT1 := hide t1
      have HD2 := hide d2
      clear hcs hown hp hb t0 t1 d2
      go_wp2_with fail
      refine (mayEnd_one w.heap.size gg cap _ HP.out HT1.out).mono ?_
      rintro e w4 ⟨rfl, hb4⟩
      have d2 := keep hb4 HD2.out
      have HU0 := hide (keep hb4 HT0.out)
      have HU1 := hide (keep hb4 HT1.out)
      have HB4 := hide (HB.out.trans (hb4.mono HB.out.size))
      clear hb4
      go_wp2
      go_ret2
      exact ⟨gg, cap, rfl, HU0.out, HU1.out, HB4.out⟩

end Go.Proofs.YtdoilpolaikgnaaGreatDoor
