/- The one short manifest that each keeping statement begins with: its tokens, its parse, its words and place. -/
import Derived.Test.YtcfhleenecfghaaGreatDoorWn
import Derived.WideMake
namespace Go.Proofs.YtcfhleenecfghaaGreatDoor
open Go.RowKit

set_option maxHeartbeats 400000 in
theorem fit_one (g off c b : Nat) (w : World) (h0 : w.cell? ⟨g, off, none⟩ = some (.int .i64 0)) (h1 : w.cell? ⟨b, 0, none⟩ = some (.int .i64 0)) :
    Calls Tryz.prog 342 #[.slice (some ⟨g, off, none⟩) 1 c, .slice (some ⟨b, 0, none⟩) 1 1] w fun e w' => e = .returned (.bool true) ∧ w' = w := by
  go_enter Tryz.func342, Tryz.ntmps342
  go_wp2
  go_loop [14] (fun i => ∃ k : Nat, k ≤ 1 ∧ i = .int .i64 k) (fun i => 1 - (intOf i).toNat)
  case atStart => exact ⟨0, by omega, rfl⟩
  case round =>
    obtain ⟨k, hk, rfl⟩ := hrel
    match k, hk with
    | 0, _ =>
      go_wp2
      go_round
      case rel => exact ⟨1, by omega, rfl⟩
      case measure => simp [intOf]
    | 1, _ =>
      go_wp2
      go_ret
      exact ⟨rfl, rfl⟩

set_option maxHeartbeats 800000 in
set_option maxRecDepth 100000 in
theorem meaning_one (g off c : Nat) (w : World) (h0 : w.cell? ⟨g, off, none⟩ = some (.int .i64 0)) (h1 : w.cell? ⟨g, off + 1, none⟩ = some (.string sA)) :
    Calls Tryz.prog 343 #[.int .i64 1, .slice (some ⟨g, off, none⟩) 1 c] w fun e w' => e = .returned (.tuple #[.iface 123 (.agg #[.string sA]), .bool true]) ∧ Below w.heap.size w w' := by
  have hlt : g < w.heap.size := World.block_lt_of_cell? (h := h0)
  have k0 := fun o => keepA h0 o
  have k1 := fun o => keepA h1 o
  go_enter Tryz.func343, Tryz.ntmps343
  go_wp2_with fail
  refine (fit_one g off c _ _ (k0 _) (by simp)).mono ?_
  rintro e w1 ⟨rfl, rfl⟩
  go_wp2
  go_ret2
  exact ⟨rfl, (Below.refl _ _).alloc (Nat.le_refl _) _⟩

theorem info147 : (Tryz.prog.info? 301).map (fun i => (i.zero, i.size, i.bytes)) = some (some (.agg #[.int .i64 0, .nilIface]), 2, 24) := by kernel_rfl

set_option maxHeartbeats 1600000 in
set_option maxRecDepth 100000 in
theorem add_one (g off c pb : Nat) (w : World) (h0 : w.cell? ⟨g, off, none⟩ = some (.int .i64 0)) (h1 : w.cell? ⟨g, off + 1, none⟩ = some (.string sA))
    (hp : w.heap[pb]? = some (.cells #[.int .i64 1, .int .i64 0, .slice none 0 0] 295 (0, 0))) :
    Calls Tryz.prog 250 #[.pointer (some ⟨pb, 0, none⟩), .int .i64 1, .int .i64 1, .slice (some ⟨g, off, none⟩) 1 c] w fun e w' => ∃ v, e = .returned (.bool true) ∧ w'.heap[pb]? = some (.cells #[.int .i64 1, .int .i64 0, v] 295 (0, 0)) ∧ w'.ownsRow (pb + 1) 301 2 v 1 [.int .i64 1, .iface 123 (.agg #[.string sA])] ∧ Below pb w w' := by
  obtain ⟨i0, hi, hz0, hz1, hz2⟩ := info_parts info147
  have hpl : pb < w.heap.size := (Array.getElem?_eq_some_iff.1 hp).1
  go_enter Tryz.func250, Tryz.ntmps250
  go_wp2_with fail
  refine (meaning_one g off c _ h0 h1).mono ?_
  rintro e w1 ⟨rfl, hb1⟩
  have hp1 : w1.heap[pb]? = some (.cells #[.int .i64 1, .int .i64 0, .slice none 0 0] 295 (0, 0)) := by rw [hb1.block pb hpl]; exact hp
  have hz : w.heap.size ≤ w1.heap.size := hb1.size
  have HB1 := hide hb1
  clear hb1
  have c2 : w1.cell? ⟨pb, 2, none⟩ = some (.slice none 0 0) := by rw [Lib.cell_of_heap hp1]; rfl
  have hown : w1.ownsRow (pb + 1) 301 2 (.slice none 0 0) 0 [] := ⟨rfl, Or.inl ⟨rfl, rfl⟩⟩
  go_wp2_with (at_builtin; refine wpList_append_own _ rfl _ _ 171 rfl (pb + 1) 301 i0 (.agg #[.int .i64 0, .nilIface]) 2 24 Tryz.underlying171 hi hz0 hz1 hz2 rfl (by decide) _ _ _ rfl (hown.alloc _) ⟨w1.heap.size, 0, none⟩ 1 1 [.int .i64 1, .iface 123 (.agg #[.string sA])] rfl rfl ?c1 ?c2 ?c3 ?c4 ?c5 ?_)
  case c1 =>
    intro j u hj
    match j, hj with
    | 0, hj => simp at hj; subst hj; simp [Addr.add]
    | 1, hj => simp at hj; subst hj; simp [Addr.add]
  case c2 => intro u hu; simp at hu; rcases hu with rfl | rfl <;> rfl
  case c3 => unfold maxLen; omega
  case c4 => omega
  case c5 => simp; omega
  intro v' w2 hown' hgrow _
  have hp2 : w2.heap[pb]? = some (.cells #[.int .i64 1, .int .i64 0, .slice none 0 0] 295 (0, 0)) := by
    rw [hgrow.block pb (by simp; omega) (fun e => by cases e), Lib.alloc_old w1 _ pb (by omega)]
    exact hp1
  have d2 : w2.cell? ⟨pb, 2, none⟩ = some (.slice none 0 0) := by rw [Lib.cell_of_heap hp2]; rfl
  have f2 : w2.frozen? ⟨pb, 2, none⟩ = false := Lib.frozen_of_heap hp2 2
  obtain ⟨gg, cap, rfl⟩ : ∃ gg cap, v' = .slice (some ⟨gg, 0, none⟩) 1 cap := by
    rcases hown'.2 with ⟨_, h0⟩ | ⟨gg, cap, cur, hv, _⟩
    · omega
    · exact ⟨_, _, hv⟩
  go_wp2
  go_ret
  refine ⟨.slice (some ⟨gg, 0, none⟩) 1 cap, rfl, ?_, ?_, ?_⟩
  · rw [heap_setCell_same _ _ _ _ _ _ hp2]; rfl
  · exact ownsRow_setCell_below hown' (by simp) _
  · exact (((HB1.out.mono (Nat.le_of_lt hpl)).alloc (by omega) _).grown hgrow (by simp; omega) (fun k hk => by cases hk)).setCell (p := ⟨pb, 2, none⟩) (Nat.le_refl _) _

end Go.Proofs.YtcfhleenecfghaaGreatDoor

namespace Go.Proofs.YtcfhleenecfghaaGreatDoor
open Go.RowKit

theorem key_mod : (sMod.toList == [109, 111, 100, 117, 108, 101]) = true := by decide +kernel
set_option maxHeartbeats 400000 in
theorem keyword_mod (w : World) : Calls Tryz.prog 248 #[.string sMod] w fun e w' => e = .returned (.int .i64 1) ∧ w' = w := by
  have h := key_mod
  go_enter Tryz.func248, Tryz.ntmps248
  go_wp2
  go_ret
  exact ⟨rfl, rfl⟩
set_option maxHeartbeats 400000 in
theorem opens_one (v : Value) (w : World) : Calls Tryz.prog 249 #[.int .i64 1, v] w fun e w' => e = .returned (.bool false) ∧ w' = w := by
  go_enter Tryz.func249, Tryz.ntmps249
  go_wp2
  go_ret
  exact ⟨rfl, rfl⟩

set_option maxHeartbeats 1600000 in
set_option maxRecDepth 100000 in
theorem take_one (g c pb : Nat) (w : World) (_h0 : w.cell? ⟨g, 0, none⟩ = some (.int .i64 0)) (h1 : w.cell? ⟨g, 1, none⟩ = some (.string sMod)) (h2 : w.cell? ⟨g, 2, none⟩ = some (.int .i64 0)) (h3 : w.cell? ⟨g, 3, none⟩ = some (.string sA)) (hgp : pb < g) (hc : 2 ≤ c)
    (hp : w.heap[pb]? = some (.cells #[.int .i64 0, .int .i64 0, .slice none 0 0] 295 (0, 0))) :
    Calls Tryz.prog 177 #[.pointer (some ⟨pb, 0, none⟩), .int .i64 1, .slice (some ⟨g, 0, none⟩) 2 c] w fun e w' => ∃ v, e = .returned (.bool true) ∧ w'.heap[pb]? = some (.cells #[.int .i64 1, .int .i64 0, v] 295 (0, 0)) ∧ w'.ownsRow (pb + 1) 301 2 v 1 [.int .i64 1, .iface 123 (.agg #[.string sA])] ∧ Below pb w w' := by
  have d0 : w.cell? ⟨pb, 0, none⟩ = some (.int .i64 0) := by rw [Lib.cell_of_heap hp]; rfl
  have f0 : w.frozen? ⟨pb, 0, none⟩ = false := Lib.frozen_of_heap hp 0
  have HP := hide hp
  clear hp
  go_enter Tryz.func177, Tryz.ntmps177
  go_wp2_with fail
  go_quiet ((go_at_call 248; exact Calls.quiet_of_same (keyword_mod _)))
  have HPq : Hid ((w.drewN nq).heap[pb]? = some (.cells #[.int .i64 0, .int .i64 0, .slice none 0 0] 295 (0, 0))) := HP
  have q0 : (w.drewN nq).cell? ⟨pb, 0, none⟩ = some (.int .i64 0) := d0
  have g0 : (w.drewN nq).frozen? ⟨pb, 0, none⟩ = false := f0
  have r2 : (w.drewN nq).cell? ⟨g, 2, none⟩ = some (.int .i64 0) := h2
  have r3 : (w.drewN nq).cell? ⟨g, 3, none⟩ = some (.string sA) := h3
  have HBq := hide (below_drewN (Below.refl pb w) nq)
  clear _h0 h1 h2 h3 d0 f0 HP
  generalize w.drewN nq = wq at HPq q0 g0 r2 r3 HBq ⊢
  go_wp2_with (go_at_call 249; refine (opens_one _ _).mono ?_; rintro e w' ⟨rfl, rfl⟩)
  refine (add_one g 2 _ pb _ (by rw [World.cell?_setCell_other _ _ _ _ (fun e => by injection e; omega)]; exact r2) (by rw [World.cell?_setCell_other _ _ _ _ (fun e => by injection e; omega)]; exact r3) (by rw [heap_setCell_same _ _ _ _ _ _ HPq.out]; rfl)).mono ?_
  rintro e w2 ⟨v, rfl, hv, hown, hb⟩
  have HV := hide hv
  have HO := hide hown
  have HB := hide ((HBq.out.setCell (p := ⟨pb, 0, none⟩) (Nat.le_refl _) (.int .i64 1)).trans hb)
  clear hv hown hb
  go_wp2
  go_ret
  exact ⟨v, rfl, HV.out, HO.out, HB.out⟩

theorem assert154 (s : ByteArray) (w : World) : (Instr.typeAssert (.iface 123 (.agg #[.string s])) 179 123 true).run Tryz.prog w = .ok (.tuple #[.agg #[.string s], .bool true]) w := by kernel_rfl

set_option maxHeartbeats 800000 in
set_option maxRecDepth 100000 in
theorem mayEnd_one (pb gg c : Nat) (w : World) (hp : w.heap[pb]? = some (.cells #[.int .i64 1, .int .i64 0, .slice (some ⟨gg, 0, none⟩) 1 c] 295 (0, 0))) (h1 : w.cell? ⟨gg, 1, none⟩ = some (.iface 123 (.agg #[.string sA]))) :
    Calls Tryz.prog 179 #[.pointer (some ⟨pb, 0, none⟩)] w fun e w' => e = .returned (.bool true) ∧ Below w.heap.size w w' := by
  have d0 : w.cell? ⟨pb, 0, none⟩ = some (.int .i64 1) := by rw [Lib.cell_of_heap hp]; rfl
  have d2 : w.cell? ⟨pb, 2, none⟩ = some (.slice (some ⟨gg, 0, none⟩) 1 c) := by rw [Lib.cell_of_heap hp]; rfl
  have ha := assert154
  clear hp
  go_enter Tryz.func179, Tryz.ntmps179
  go_wp2
  go_ret
  exact ⟨rfl, (Below.refl _ _).alloc (Nat.le_refl _) _⟩

theorem split_ma : Lib.countB sMa ⟨#[10]⟩ = 0 ∧ Lib.splitB ⟨#[10]⟩ 0 0 sMa = [sMa] := by decide +kernel
theorem splitMa_any (m : Int) (w : World) (hm : w.cell? ⟨0, 0, none⟩ = some (.int .i64 m)) :
    Calls Tryz.prog 174 #[.string sMa, .string ⟨#[10]⟩] w fun e w' => e = .returned (.slice (some ⟨w.heap.size, 0, none⟩) 1 1) ∧ w'.cell? ⟨w.heap.size, 0, none⟩ = some (.string sMa) ∧ Below w.heap.size w w' := by
  refine (Tryz.strings_Split sMa ⟨#[10]⟩ m w (by decide) hm (by decide)).mono ?_
  rintro e w' ⟨rfl, rfl⟩
  rw [split_ma.1, split_ma.2]
  exact ⟨rfl, by simp, (Below.refl _ _).alloc (Nat.le_refl _) _⟩

set_option maxHeartbeats 1600000 in
set_option maxRecDepth 100000 in
theorem parse_ma (m : Int) (w : World) (hm : w.cell? ⟨0, 0, none⟩ = some (.int .i64 m)) :
    Calls Tryz.prog 92 #[.string sMa] w fun e w' => ∃ gg c, e = .returned (.tuple #[.slice (some ⟨gg, 0, none⟩) 1 c, .int .i64 0]) ∧ w'.cell? ⟨gg, 0, none⟩ = some (.int .i64 1) ∧ w'.cell? ⟨gg, 1, none⟩ = some (.iface 123 (.agg #[.string sA])) ∧ Below w.heap.size w w' := by
  have h0 := pos_of_cell hm
  go_enter Tryz.func92, Tryz.ntmps92
  go_wp2_with fail
  refine (splitMa_any m _ (keepA hm _)).mono ?_
  rintro e w1 ⟨rfl, hs, hb1⟩
  have hp1 : w1.heap[w.heap.size]? = some (.cells #[.int .i64 0, .int .i64 0, .slice none 0 0] 295 (0, 0)) := by
    rw [hb1.block w.heap.size (by simp)]; exact heap_alloc_new w _
  have hm1 := keep hb1 (keepA hm _)
  have HB1 := hide (((Below.refl _ w).alloc (Nat.le_refl _) _).trans (hb1.mono (by simp)))
  have hz1 : w.heap.size < w1.heap.size := by have := hb1.size; simp at this; omega
  clear hb1
  have HP1 := hide hp1
  have hs' : w1.cell? ⟨w.heap.size + 1, 0, none⟩ = some (.string sMa) := by simpa using hs
  clear hp1 hs
  go_wp2
  go_loopw [12] (fun i wr => (i = .int .i64 0 ∧ wr = w1) ∨ (i = .int .i64 1 ∧ ∃ v, wr.heap[w.heap.size]? = some (.cells #[.int .i64 1, .int .i64 0, v] 295 (0, 0)) ∧ wr.ownsRow (w.heap.size + 1) 301 2 v 1 [.int .i64 1, .iface 123 (.agg #[.string sA])] ∧ Below w.heap.size w wr)) (fun i _ => 1 - (intOf i).toNat)
  case atStart => exact Or.inl ⟨rfl, rfl⟩
  case round =>
    rcases hrel with ⟨rfl, hwr⟩ | ⟨rfl, v, hp, hown, hb⟩
    · subst hwr
      go_wp2_with fail
      refine (tokensMa_any m _ hm1).mono ?_
      rintro e w2 ⟨v, rfl, hown, hb2⟩
      obtain ⟨g, cap, hv, hg, hcap⟩ : ∃ g cap, v = .slice (some ⟨g, 0, none⟩) 2 cap ∧ wr.heap.size ≤ g ∧ 2 ≤ cap := by
        rcases hown.2 with ⟨_, h0⟩ | ⟨g, cap, cur, hv, hg, _, hc, _⟩
        · omega
        · exact ⟨g, cap, hv, hg, hc⟩
      subst hv
      have hcs := hown.cells (g := g) rfl
      have t0 : w2.cell? ⟨g, 0, none⟩ = some (.int .i64 0) := by simpa [Addr.add] using hcs 0 _ rfl
      have t1 : w2.cell? ⟨g, 1, none⟩ = some (.string sMod) := by simpa [Addr.add] using hcs 1 _ rfl
      have t2 : w2.cell? ⟨g, 2, none⟩ = some (.int .i64 0) := by simpa [Addr.add] using hcs 2 _ rfl
      have t3 : w2.cell? ⟨g, 3, none⟩ = some (.string sA) := by simpa [Addr.add] using hcs 3 _ rfl
      have hp2 : w2.heap[w.heap.size]? = some (.cells #[.int .i64 0, .int .i64 0, .slice none 0 0] 295 (0, 0)) := by
        rw [hb2.block w.heap.size hz1]; exact HP1.out
      have HB2 := hide (HB1.out.trans (hb2.mono (Nat.le_of_lt hz1)))
      have HT0 := hide t0
      have HT1 := hide t1
      have HT2 := hide t2
      have HT3 := hide t3
      have HP2 := hide hp2
      clear hcs hown hb2 t0 t1 t2 t3 hp2
      go_wp2_with fail
      refine (take_one g cap w.heap.size _ HT0.out HT1.out HT2.out HT3.out (by omega) hcap HP2.out).mono ?_
      rintro e w3 ⟨v, rfl, hp3, hown3, hb3⟩
      have HP3 := hide hp3
      have HO3 := hide hown3
      have HB3 := hide (HB2.out.trans hb3)
      clear hp3 hown3 hb3
      go_wp2
      first
        | exact ⟨Or.inr ⟨rfl, v, HP3.out, HO3.out, HB3.out⟩, by simp [intOf]⟩
        | (go_roundw
           case rel => exact Or.inr ⟨rfl, v, HP3.out, HO3.out, HB3.out⟩
           case measure => simp [intOf])
    · obtain ⟨gg, cap, hv⟩ : ∃ gg cap, v = .slice (some ⟨gg, 0, none⟩) 1 cap := by
        rcases hown.2 with ⟨_, h0⟩ | ⟨gg, cap, cur, hv, _⟩
        · omega
        · exact ⟨gg, cap, hv⟩
      subst hv
      have hcs := hown.cells (g := gg) rfl
      have t0 : wr.cell? ⟨gg, 0, none⟩ = some (.int .i64 1) := by simpa [Addr.add] using hcs 0 _ rfl
      have t1 : wr.cell? ⟨gg, 1, none⟩ = some (.iface 123 (.agg #[.string sA])) := by simpa [Addr.add] using hcs 1 _ rfl
      have d2 : wr.cell? ⟨w.heap.size, 2, none⟩ = some (.slice (some ⟨gg, 0, none⟩) 1 cap) := by rw [Lib.cell_of_heap hp]; rfl
      have HP := hide hp
      have HB := hide hb
      have HT0 := hide t0
      have HT1 := hide t1
      have HD2 := hide d2
      clear hcs hown hp hb t0 t1 d2
      go_wp2_with fail
      refine (mayEnd_one w.heap.size gg cap _ HP.out HT1.out).mono ?_
      rintro e w4 ⟨rfl, hb4⟩
      have d2 := keep hb4 HD2.out
      have HU0 := hide (keep hb4 HT0.out)
      have HU1 := hide (keep hb4 HT1.out)
      have HB4 := hide (HB.out.trans (hb4.mono HB.out.size))
      clear hb4
      go_wp2
      go_ret2
      exact ⟨gg, cap, rfl, HU0.out, HU1.out, HB4.out⟩

end Go.Proofs.YtcfhleenecfghaaGreatDoor

namespace Go.Proofs.YtcfhleenecfghaaGreatDoor
open Go.RowKit

theorem key_ok (e : Bool) (s t : ByteArray) (w : World) : (Instr.checkKey e 10000 184 (.agg #[.int .i64 0, .string s, .string t])).run Tryz.prog w = .ok () w := by kernel_rfl
theorem zero3 (w : World) : (zeroValue 3).run Tryz.prog w = .ok (.int .i64 0) w := by kernel_rfl
theorem find_none (k : Value) (w : World) : (Instr.findKey 184 k []).run Tryz.prog w = .ok none w := by
  simp [Instr.findKey, Instr.findNow, run_underlying Tryz.underlying184]
theorem look_empty (r c : Nat) (s t : ByteArray) (w : World) (hb : w.heap[r]? = some (.map #[] c)) :
    (Instr.lookup 299 (.map (some r)) (.agg #[.int .i64 0, .string s, .string t]) false).run Tryz.prog w = .ok (.int .i64 0) w := by
  simp [Instr.lookup, run_underlying Tryz.underlying299, MapKept.run_getObj_map hb, key_ok, find_none, Result.andThen]
theorem put_first (r c : Nat) (s t : ByteArray) (x : Value) (w : World) (hb : w.heap[r]? = some (.map #[] c)) :
    (Instr.mapUpdate 299 (.map (some r)) (.agg #[.int .i64 0, .string s, .string t]) x).run Tryz.prog w = .ok () { w with heap := w.heap.setIfInBounds r (.map #[{ key := .agg #[.int .i64 0, .string s, .string t], val := x, born := c }] (c + 1)) } := by
  simp [Instr.mapUpdate, run_underlying Tryz.underlying299, MapKept.run_getObj_map hb, key_ok, find_none, MapKept.run_setObj_map _ hb, Result.andThen]

set_option maxHeartbeats 400000 in
theorem isPathByte_a (w : World) : Calls Tryz.prog 411 #[.int .u8 97] w fun e w' => e = .returned (.bool true) ∧ w' = w := by
  go_enter Tryz.func411, Tryz.ntmps411
  go_wp2
  go_ret
  exact ⟨rfl, rfl⟩
set_option maxHeartbeats 800000 in
set_option maxRecDepth 100000 in
theorem isSegment_a (w : World) : Calls Tryz.prog 354 #[.string ⟨#[97]⟩] w fun e w' => e = .returned (.bool true) ∧ w' = w := by
  go_enter Tryz.func354, Tryz.ntmps354
  go_wp2
  go_loop [6] (fun i => ∃ k : Nat, k ≤ 1 ∧ i = .int .i64 k) (fun i => 1 - (intOf i).toNat)
  case atStart => exact ⟨0, by omega, rfl⟩
  case round =>
    obtain ⟨k, hk, rfl⟩ := hrel
    match k, hk with
    | 0, _ =>
      go_wp2_with (go_at_call 411; refine (isPathByte_a _).mono ?_; rintro e w' ⟨rfl, rfl⟩)
      go_round
      case rel => exact ⟨1, by omega, rfl⟩
      case measure => simp [intOf]
    | 1, _ =>
      go_wp2
      go_ret
      exact ⟨rfl, rfl⟩

theorem split_a : Lib.countB ⟨#[97]⟩ ⟨#[47]⟩ = 0 ∧ Lib.splitB ⟨#[47]⟩ 0 0 ⟨#[97]⟩ = [⟨#[97]⟩] := by decide +kernel
theorem splitA_any (m : Int) (w : World) (hm : w.cell? ⟨0, 0, none⟩ = some (.int .i64 m)) :
    Calls Tryz.prog 174 #[.string ⟨#[97]⟩, .string ⟨#[47]⟩] w fun e w' => e = .returned (.slice (some ⟨w.heap.size, 0, none⟩) 1 1) ∧ w'.cell? ⟨w.heap.size, 0, none⟩ = some (.string ⟨#[97]⟩) ∧ Below w.heap.size w w' := by
  refine (Tryz.strings_Split ⟨#[97]⟩ ⟨#[47]⟩ m w (by decide) hm (by decide)).mono ?_
  rintro e w' ⟨rfl, rfl⟩
  rw [split_a.1, split_a.2]
  exact ⟨rfl, by simp, (Below.refl _ _).alloc (Nat.le_refl _) _⟩

set_option maxHeartbeats 800000 in
set_option maxRecDepth 100000 in
theorem isPath_a (m : Int) (w : World) (hm : w.cell? ⟨0, 0, none⟩ = some (.int .i64 m)) :
    Calls Tryz.prog 275 #[.string ⟨#[97]⟩] w fun e w' => e = .returned (.bool true) ∧ Below w.heap.size w w' := by
  go_enter Tryz.func275, Tryz.ntmps275
  go_wp2_with fail
  refine (splitA_any m _ hm).mono ?_
  rintro e w1 ⟨rfl, hs, hb1⟩
  have HB1 := hide hb1
  clear hb1
  go_wp2
  go_loop [11] (fun i => ∃ k : Nat, k ≤ 1 ∧ i = .int .i64 k) (fun i => 1 - (intOf i).toNat)
  case atStart => exact ⟨0, by omega, rfl⟩
  case round =>
    obtain ⟨k, hk, rfl⟩ := hrel
    match k, hk with
    | 0, _ =>
      go_wp2_with (go_at_call 354; refine (isSegment_a _).mono ?_; rintro e w' ⟨rfl, rfl⟩)
      go_round
      case rel => exact ⟨1, by omega, rfl⟩
      case measure => simp [intOf]
    | 1, _ =>
      go_wp2
      go_ret
      exact ⟨rfl, HB1.out⟩

set_option maxHeartbeats 400000 in
theorem pathCheck_a (m : Int) (w : World) (hm : w.cell? ⟨0, 0, none⟩ = some (.int .i64 m)) :
    Calls Tryz.prog 196 #[.string sA] w fun e w' => e = .returned (.pointer none) ∧ Below w.heap.size w w' := by
  go_enter Tryz.func196, Tryz.ntmps196
  go_wp2_with fail
  refine (isPath_a m _ hm).mono ?_
  rintro e w1 ⟨rfl, hb1⟩
  have HB1 := hide hb1
  clear hb1
  go_wp2
  go_ret
  exact ⟨rfl, HB1.out⟩

set_option maxHeartbeats 400000 in
set_option maxRecDepth 100000 in
theorem checkWords_a (m : Int) (w : World) (hm : w.cell? ⟨0, 0, none⟩ = some (.int .i64 m)) :
    Calls Tryz.prog 180 #[.iface 123 (.agg #[.string sA])] w fun e w' => e = .returned (.pointer none) ∧ Below w.heap.size w w' := by
  have ha := assert154
  go_enter Tryz.func180, Tryz.ntmps180
  go_wp2_with fail
  refine (pathCheck_a m _ (keepA hm _)).mono ?_
  rintro e w1 ⟨rfl, hb1⟩
  have HB1 := hide (((Below.refl _ w).alloc (Nat.le_refl _) _).trans (hb1.mono (by simp)))
  clear hb1
  go_wp2
  go_ret
  exact ⟨rfl, HB1.out⟩

set_option maxHeartbeats 400000 in
set_option maxRecDepth 100000 in
theorem placeOf_a (w : World) :
    Calls Tryz.prog 100 #[.iface 123 (.agg #[.string sA])] w fun e w' => e = .returned (.agg #[.int .i64 0, .string sA, .string ⟨#[]⟩]) ∧ Below w.heap.size w w' := by
  have ha := assert154
  go_enter Tryz.func100, Tryz.ntmps100
  go_wp2
  refine bodyPost_ret (v := .agg #[.int .i64 0, .string sA, .string ⟨#[]⟩]) (by simp [results, Tryz.results100, go_sem]) rfl ⟨rfl, ?_⟩
  exact ((Below.refl _ _).alloc (Nat.le_refl _) _).alloc (by simp) _

set_option maxHeartbeats 400000 in
theorem without_a (gg c : Nat) (w : World) (h0 : w.cell? ⟨gg, 0, none⟩ = some (.int .i64 1)) :
    Calls Tryz.prog 94 #[.slice (some ⟨gg, 0, none⟩) 1 c, .int .i64 0] w fun e w' => e = .returned (.slice (some ⟨gg, 0, none⟩) 1 c) ∧ w' = w := by
  go_enter Tryz.func94, Tryz.ntmps94
  go_wp2
  go_ret
  exact ⟨rfl, rfl⟩

end Go.Proofs.YtcfhleenecfghaaGreatDoor
