/- The parser takes in any line: what it has said so far lies in memory, and each line is put behind it or refused. -/
import Derived.Test.YtcfhleenecfghaaGreatDoorWu
namespace Go.Proofs.YtcfhleenecfghaaGreatDoor
open Go.RowKit

/-- The cells of some statements: a line's number, and what it says. -/
def stmtCells (l : List (Nat × Nat × List ByteArray)) : List Value := l.flatMap fun x => [.int .i64 (x.1 : Int), .iface x.2.1 (.agg (x.2.2.map Value.string).toArray)]
theorem stmtCells_snoc (l : List (Nat × Nat × List ByteArray)) (x : Nat × Nat × List ByteArray) : stmtCells (l ++ [x]) = stmtCells l ++ [.int .i64 (x.1 : Int), .iface x.2.1 (.agg (x.2.2.map Value.string).toArray)] := by
  unfold stmtCells; rw [List.flatMap_append]; rfl
/-- Of what was there below a line nothing has turned but one block. -/
structure Beyond (pb base : Nat) (w w' : World) : Prop where
  below : Below pb w w'
  mid : ∀ k, pb < k → k < base → w'.heap[k]? = w.heap[k]?
theorem Beyond.refl (pb base : Nat) (w : World) : Beyond pb base w w := ⟨Below.refl _ _, fun _ _ _ => rfl⟩
theorem Beyond.trans {pb base : Nat} {a b c : World} (h : Beyond pb base a b) (k : Beyond pb base b c) : Beyond pb base a c :=
  ⟨h.below.trans k.below, fun i h1 h2 => (k.mid i h1 h2).trans (h.mid i h1 h2)⟩
theorem Beyond.new {pb base B : Nat} {w w' : World} (h1 : pb < base) (h2 : base ≤ B) (h : Below B w w') : Beyond pb base w w' :=
  ⟨h.mono (by omega), fun i _ hi => h.block i (by omega)⟩
theorem Beyond.alloc {pb base : Nat} {a w : World} (h : Beyond pb base a w) (h1 : pb < base) (h2 : base ≤ w.heap.size) (o : Obj) : Beyond pb base a (w.alloc o) :=
  h.trans (Beyond.new h1 h2 ((Below.refl _ _).alloc (Nat.le_refl _) o))
theorem Beyond.setCell {pb base : Nat} {a w : World} (h : Beyond pb base a w) (k : Nat) (v : Value) : Beyond pb base a (w.setCell ⟨pb, k, none⟩ v) :=
  h.trans ⟨(Below.refl _ _).setCell (p := ⟨pb, k, none⟩) (Nat.le_refl _) v, fun i hi _ => Below.heap_setCell _ _ _ _ (by show i ≠ pb; omega)⟩
theorem Beyond.grown {pb base : Nat} {a w w' : World} {row : Option Nat} (h : Beyond pb base a w) (hg : w.grownBy w' row) (h1 : pb < base) (h2 : base ≤ w.heap.size) (hr : ∀ k, row = some k → base ≤ k) : Beyond pb base a w' :=
  h.trans (Beyond.new h1 (Nat.le_refl _) ((Below.refl base w).grown hg h2 hr))
/-- The parser in memory: its state, the block's keyword, what was said so far. -/
def ParserAt (w : World) (pb base : Nat) (st blk : Int) (l : List (Nat × Nat × List ByteArray)) : Prop :=
  pb < base ∧ base ≤ w.heap.size ∧ ∃ v, w.heap[pb]? = some (.cells #[.int .i64 st, .int .i64 blk, v] 295 (0, 0)) ∧ w.ownsRow base 301 2 v l.length (stmtCells l)

theorem meaning_any (kw : Int) (hkw : kw = 0 ∨ kw = 1 ∨ kw = 2 ∨ kw = 3 ∨ kw = 4) (g off c : Nat) (ws : List ByteArray) (w : World) (hl : ws.length ≤ 1000000000000) (ht : Toks w g off ws) :
    Calls Tryz.prog 343 #[.int .i64 kw, .slice (some ⟨g, off, none⟩) ws.length c] w fun e w' => e = .returned (saysV (V.meaning kw ws)) ∧ Below w.heap.size w w' := by
  rcases hkw with rfl | rfl | rfl | rfl | rfl
  · exact meaning_none _ ws w
  · exact meaning_module g off c ws w hl ht
  · exact meaning_require g off c ws w hl ht
  · exact meaning_exclude g off c ws w hl ht
  · exact meaning_replace g off c ws w hl ht


set_option maxHeartbeats 3200000 in
set_option maxRecDepth 100000 in
theorem add_any (n : Nat) (kw st blk : Int) (hkw : kw = 0 ∨ kw = 1 ∨ kw = 2 ∨ kw = 3 ∨ kw = 4) (g off c pb base : Nat) (ws : List ByteArray) (l : List (Nat × Nat × List ByteArray)) (w : World) (hl : ws.length ≤ 1000000000000) (hll : l.length ≤ 1000000000000) (ht : Toks w g off ws) (hp : ParserAt w pb base st blk l) :
    Calls Tryz.prog 250 #[.pointer (some ⟨pb, 0, none⟩), .int .i64 (n : Int), .int .i64 kw, .slice (some ⟨g, off, none⟩) ws.length c] w fun e w' => e = .returned (.bool (V.added n kw ws l).1) ∧ ParserAt w' pb base st blk (V.added n kw ws l).2 ∧ Beyond pb base w w' := by
  obtain ⟨i0, hi, hz0, hz1, hz2⟩ := info_parts info147
  obtain ⟨hpbb, hbase, v, hpb, hown⟩ := hp
  have hpl : pb < w.heap.size := (Array.getElem?_eq_some_iff.1 hpb).1
  cases hmean : V.meaning kw ws with
  | none =>
    have HA : Hid (V.added n kw ws l = (false, l)) := by
      refine hide ?_
      unfold V.added; rw [hmean]
    have HPB := hide hpb
    have HO := hide hown
    clear hpb hown
    go_enter Tryz.func250, Tryz.ntmps250
    go_wp2_with fail
    refine (meaning_any kw hkw g off c ws _ hl ht).mono ?_
    rintro e w1 ⟨rfl, hb1⟩
    rw [hmean, saysV]
    have HB1 := hide hb1
    clear hb1
    go_wp2
    go_ret
    refine ⟨ret_bool (by rw [HA.out]), ?_, Beyond.new hpbb hbase HB1.out⟩
    rw [HA.out]
    refine ⟨hpbb, Nat.le_trans hbase HB1.out.size, v, by rw [HB1.out.block pb hpl]; exact HPB.out, HO.out.1, ?_⟩
    rcases HO.out.2 with h | ⟨gg, cap, cur, e, hb, hg, hr⟩
    · exact Or.inl h
    · exact Or.inr ⟨gg, cap, cur, e, hb, by rw [HB1.out.block gg (Array.getElem?_eq_some_iff.1 hg).1]; exact hg, hr⟩
  | some x =>
    obtain ⟨t, fs⟩ := x
    have HA : Hid (V.added n kw ws l = (true, l ++ [(n, t, fs)])) := by
      refine hide ?_
      unfold V.added; rw [hmean]
    have HPB := hide hpb
    have HO := hide hown
    clear hpb hown
    go_enter Tryz.func250, Tryz.ntmps250
    go_wp2_with fail
    refine (meaning_any kw hkw g off c ws _ hl ht).mono ?_
    rintro e w1 ⟨rfl, hb1⟩
    rw [hmean, saysV]
    have hp1 : w1.heap[pb]? = some (.cells #[.int .i64 st, .int .i64 blk, v] 295 (0, 0)) := by rw [hb1.block pb hpl]; exact HPB.out
    have hown : w1.ownsRow base 301 2 v l.length (stmtCells l) := by
      refine ⟨HO.out.1, ?_⟩
      rcases HO.out.2 with h | ⟨gg, cap, cur, e, hb, hg, hr⟩
      · exact Or.inl h
      · exact Or.inr ⟨gg, cap, cur, e, hb, by rw [hb1.block gg (Array.getElem?_eq_some_iff.1 hg).1]; exact hg, hr⟩
    have hz : w.heap.size ≤ w1.heap.size := hb1.size
    have HB1 := hide hb1
    clear hb1
    have c2 : w1.cell? ⟨pb, 2, none⟩ = some v := by rw [Lib.cell_of_heap hp1]; rfl
    have HO1 := hide hown
    go_wp2_with (at_builtin; refine wpList_append_own _ rfl _ _ 171 rfl base 301 i0 (.agg #[.int .i64 0, .nilIface]) 2 24 Tryz.underlying171 hi hz0 hz1 hz2 rfl (by decide) _ _ _ rfl (HO1.out.alloc _) ⟨w1.heap.size, 0, none⟩ 1 1 [.int .i64 (n : Int), .iface t (.agg (fs.map Value.string).toArray)] rfl rfl ?c1 ?c2 ?c3 ?c4 ?c5 ?_)
    case c1 =>
      intro j u hj
      match j, hj with
      | 0, hj => simp at hj; subst hj; simp [Addr.add]
      | 1, hj => simp at hj; subst hj; simp [Addr.add]
    case c2 => intro u hu; simp at hu; rcases hu with rfl | rfl <;> rfl
    case c3 => unfold maxLen; omega
    case c4 => omega
    case c5 => simp; omega
    intro v' w2 hown' hgrow _
    have hlt := HO1.out.lt
    have hp2 : w2.heap[pb]? = some (.cells #[.int .i64 st, .int .i64 blk, v] 295 (0, 0)) := by
      rw [hgrow.block pb (by simp; omega) (fun e => by have := (hlt pb e.symm).1; omega), Lib.alloc_old w1 _ pb (by omega)]
      exact hp1
    have d2 : w2.cell? ⟨pb, 2, none⟩ = some v := by rw [Lib.cell_of_heap hp2]; rfl
    have f2 : w2.frozen? ⟨pb, 2, none⟩ = false := Lib.frozen_of_heap hp2 2
    obtain ⟨gg, cap, rfl⟩ : ∃ gg cap, v' = .slice (some ⟨gg, 0, none⟩) (l.length + 1) cap := by
      rcases hown'.2 with ⟨_, h0⟩ | ⟨gg, cap, cur, hv, _⟩
      · omega
      · exact ⟨_, _, hv⟩
    go_wp2
    go_ret
    rw [HA.out]
    have hg2 := hgrow.size
    refine ⟨rfl, ⟨hpbb, by simp at hg2; simp [World.setCell]; omega, .slice (some ⟨gg, 0, none⟩) (l.length + 1) cap, ?_, ?_⟩, ?_⟩
    · rw [heap_setCell_same _ _ _ _ _ _ hp2]; rfl
    · rw [stmtCells_snoc, List.length_append]; exact ownsRow_setCell_below hown' hpbb _
    · exact (((Beyond.new hpbb hbase HB1.out).alloc hpbb (by omega) _).grown hgrow hpbb (by simp; omega) (fun k hk => (hlt k hk).1)).setCell 2 _

end Go.Proofs.YtcfhleenecfghaaGreatDoor
