/- The parser takes any line, outside a block and in one. -/
import Derived.Test.YtcfhleenecfghaaGreatDoorWv
namespace Go.Proofs.YtcfhleenecfghaaGreatDoor
open Go.RowKit

theorem ParserAt.lt {w : World} {pb base : Nat} {st blk : Int} {l : List (Nat × Nat × List ByteArray)} (h : ParserAt w pb base st blk l) : pb < w.heap.size := by
  obtain ⟨_, _, v, hpb, _⟩ := h
  exact (Array.getElem?_eq_some_iff.1 hpb).1
theorem ParserAt.later {w w' : World} {pb base : Nat} {st blk : Int} {l : List (Nat × Nat × List ByteArray)} (h : ParserAt w pb base st blk l) (hb : Below w.heap.size w w') : ParserAt w' pb base st blk l := by
  have hl := h.lt
  obtain ⟨hpbb, hbase, v, hpb, ho⟩ := h
  refine ⟨hpbb, Nat.le_trans hbase hb.size, v, by rw [hb.block pb hl]; exact hpb, ho.1, ?_⟩
  rcases ho.2 with h | ⟨gg, cap, cur, e, hbb, hg, hr⟩
  · exact Or.inl h
  · exact Or.inr ⟨gg, cap, cur, e, hbb, by rw [hb.block gg (Array.getElem?_eq_some_iff.1 hg).1]; exact hg, hr⟩
theorem ParserAt.state {w : World} {pb base : Nat} {st blk : Int} {l : List (Nat × Nat × List ByteArray)} (h : ParserAt w pb base st blk l) (x : Int) : ParserAt (w.setCell ⟨pb, 0, none⟩ (.int .i64 x)) pb base x blk l := by
  obtain ⟨hpbb, hbase, v, hpb, ho⟩ := h
  refine ⟨hpbb, by simpa [World.setCell] using hbase, v, ?_, ownsRow_setCell_below ho hpbb _⟩
  rw [heap_setCell_same _ _ _ _ _ _ hpb]; rfl
theorem ParserAt.block {w : World} {pb base : Nat} {st blk : Int} {l : List (Nat × Nat × List ByteArray)} (h : ParserAt w pb base st blk l) (x : Int) : ParserAt (w.setCell ⟨pb, 1, none⟩ (.int .i64 x)) pb base st x l := by
  obtain ⟨hpbb, hbase, v, hpb, ho⟩ := h
  refine ⟨hpbb, by simpa [World.setCell] using hbase, v, ?_, ownsRow_setCell_below ho hpbb _⟩
  rw [heap_setCell_same _ _ _ _ _ _ hpb]; rfl
theorem ParserAt.cell0 {w : World} {pb base : Nat} {st blk : Int} {l : List (Nat × Nat × List ByteArray)} (h : ParserAt w pb base st blk l) : w.cell? ⟨pb, 0, none⟩ = some (.int .i64 st) := by
  obtain ⟨_, _, v, hpb, _⟩ := h
  rw [Lib.cell_of_heap hpb]; rfl
theorem ParserAt.cell1 {w : World} {pb base : Nat} {st blk : Int} {l : List (Nat × Nat × List ByteArray)} (h : ParserAt w pb base st blk l) : w.cell? ⟨pb, 1, none⟩ = some (.int .i64 blk) := by
  obtain ⟨_, _, v, hpb, _⟩ := h
  rw [Lib.cell_of_heap hpb]; rfl
theorem ParserAt.soft {w : World} {pb base : Nat} {st blk : Int} {l : List (Nat × Nat × List ByteArray)} (h : ParserAt w pb base st blk l) (k : Nat) : w.frozen? ⟨pb, k, none⟩ = false := by
  obtain ⟨_, _, v, hpb, _⟩ := h
  exact Lib.frozen_of_heap hpb k
theorem Toks.set {w : World} {g off pb k : Nat} {ws : List ByteArray} {v : Value} (h : Toks w g off ws) (hne : pb ≠ g) : Toks (w.setCell ⟨pb, k, none⟩ v) g off ws := by
  intro j hj
  refine ⟨?_, ?_⟩
  · rw [World.cell?_setCell_other _ _ _ _ (fun e => by injection e; omega)]; exact (h j hj).1
  · rw [World.cell?_setCell_other _ _ _ _ (fun e => by injection e; omega)]; exact (h j hj).2


set_option maxHeartbeats 1600000 in
set_option maxRecDepth 100000 in
theorem opens_any (kw : Int) (hkw : kw = 0 ∨ kw = 1 ∨ kw = 2 ∨ kw = 3 ∨ kw = 4) (g off c : Nat) (ws : List ByteArray) (w : World) (hl : ws.length ≤ 1000000000000) (ht : Toks w g off ws) :
    Calls Tryz.prog 249 #[.int .i64 kw, .slice (some ⟨g, off, none⟩) ws.length c] w fun e w' => e = .returned (.bool (V.opens kw ws)) ∧ Below w.heap.size w w' := by
  have HT := hide ht
  clear ht
  have H2 : Hid (V.opens 2 ws = V.fit ws [1] ∧ V.opens 3 ws = V.fit ws [1] ∧ V.opens 4 ws = V.fit ws [1]) := hide ⟨rfl, rfl, rfl⟩
  rcases hkw with rfl | rfl | rfl | rfl | rfl
  · go_enter Tryz.func249, Tryz.ntmps249
    go_wp2
    go_ret
    exact ⟨rfl, Below.refl _ _⟩
  · go_enter Tryz.func249, Tryz.ntmps249
    go_wp2
    go_ret
    exact ⟨rfl, Below.refl _ _⟩
  · go_enter Tryz.func249, Tryz.ntmps249
    go_wp2_with fail
    refine (fit_any g off c _ 1 ws [1] _ hl (by decide) (HT.out.alloc _) (fun j hj => by match j, hj with | 0, _ => simp)).mono ?_
    rintro e w1 ⟨rfl, hw1⟩
    rw [hw1]
    clear hw1 w1
    go_wp2
    go_ret
    exact ⟨ret_bool H2.out.1.symm, (Below.refl _ _).alloc (Nat.le_refl _) _⟩
  · go_enter Tryz.func249, Tryz.ntmps249
    go_wp2_with fail
    refine (fit_any g off c _ 1 ws [1] _ hl (by decide) (HT.out.alloc _) (fun j hj => by match j, hj with | 0, _ => simp)).mono ?_
    rintro e w1 ⟨rfl, hw1⟩
    rw [hw1]
    clear hw1 w1
    go_wp2
    go_ret
    exact ⟨ret_bool H2.out.2.1.symm, (Below.refl _ _).alloc (Nat.le_refl _) _⟩
  · go_enter Tryz.func249, Tryz.ntmps249
    go_wp2_with fail
    refine (fit_any g off c _ 1 ws [1] _ hl (by decide) (HT.out.alloc _) (fun j hj => by match j, hj with | 0, _ => simp)).mono ?_
    rintro e w1 ⟨rfl, hw1⟩
    rw [hw1]
    clear hw1 w1
    go_wp2
    go_ret
    exact ⟨ret_bool H2.out.2.2.symm, (Below.refl _ _).alloc (Nat.le_refl _) _⟩


set_option maxHeartbeats 1600000 in
set_option maxRecDepth 100000 in
theorem takeIn_any (n : Nat) (blk : Int) (hkw : blk = 0 ∨ blk = 1 ∨ blk = 2 ∨ blk = 3 ∨ blk = 4) (g c pb base : Nat) (ws : List ByteArray) (l : List (Nat × Nat × List ByteArray)) (w : World) (hl : ws.length ≤ 1000000000000) (hll : l.length ≤ 1000000000000) (ht : Toks w g 0 ws) (hp : ParserAt w pb base 2 blk l) :
    Calls Tryz.prog 247 #[.pointer (some ⟨pb, 0, none⟩), .int .i64 (n : Int), .slice (some ⟨g, 0, none⟩) ws.length c] w fun e w' => e = .returned (.bool (V.tookIn n ws blk l).1) ∧ ParserAt w' pb base (V.tookIn n ws blk l).2.1 (V.tookIn n ws blk l).2.2.1 (V.tookIn n ws blk l).2.2.2 ∧ Beyond pb base w w' := by
  have HT := hide ht
  have HP := hide hp
  clear ht hp
  cases hf : V.fit ws [2]
  · have HM : Hid (V.tookIn n ws blk l = ((V.added n blk ws l).1, 2, blk, (V.added n blk ws l).2)) := by
      refine hide ?_
      unfold V.tookIn; rw [hf]; rfl
    have c1 : ∀ o, (w.alloc o).cell? ⟨pb, 1, none⟩ = some (.int .i64 blk) := fun o => keepA HP.out.cell1 o
    go_enter Tryz.func247, Tryz.ntmps247
    go_wp2_with fail
    refine (fit_any g 0 c _ 1 ws [2] _ hl (by decide) (HT.out.alloc _) (fun j hj => by match j, hj with | 0, _ => simp)).mono ?_
    rintro e w1 ⟨rfl, hw1⟩
    rw [hw1, hf]
    clear hw1 w1
    go_wp2_with fail
    refine (add_any n blk 2 blk hkw g 0 c pb base ws l _ hl hll (HT.out.alloc _) (HP.out.later ((Below.refl _ _).alloc (Nat.le_refl _) _))).mono ?_
    rintro e w2 ⟨rfl, hp2, hb2⟩
    have HP2 := hide hp2
    have HB2 := hide hb2
    clear hp2 hb2
    go_wp2
    go_ret
    rw [HM.out]
    exact ⟨rfl, HP2.out, ((Beyond.refl _ _ _).alloc HP.out.1 HP.out.2.1 _).trans HB2.out⟩
  · have HM : Hid (V.tookIn n ws blk l = (true, 1, blk, l)) := by
      refine hide ?_
      unfold V.tookIn; rw [hf]; rfl
    have c0 : ∀ o, (w.alloc o).cell? ⟨pb, 0, none⟩ = some (.int .i64 2) := fun o => keepA HP.out.cell0 o
    have f0 : ∀ o, (w.alloc o).frozen? ⟨pb, 0, none⟩ = false := fun o => (HP.out.later ((Below.refl _ _).alloc (Nat.le_refl _) o)).soft 0
    go_enter Tryz.func247, Tryz.ntmps247
    go_wp2_with fail
    refine (fit_any g 0 c _ 1 ws [2] _ hl (by decide) (HT.out.alloc _) (fun j hj => by match j, hj with | 0, _ => simp)).mono ?_
    rintro e w1 ⟨rfl, hw1⟩
    rw [hw1, hf]
    clear hw1 w1
    go_wp2
    go_ret
    rw [HM.out]
    exact ⟨rfl, (HP.out.later ((Below.refl _ _).alloc (Nat.le_refl _) _)).state 1, ((Beyond.refl _ _ _).alloc HP.out.1 HP.out.2.1 _).setCell 0 _⟩

end Go.Proofs.YtcfhleenecfghaaGreatDoor
