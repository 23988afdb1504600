/- The law's own walk, its first parts: which imports which, the files, what is asked for. -/
import Derived.Test.YtcfhleenecfghaaGreatDoorBs
import Derived.Test.YtcfhleenecfghaaGreatDoorWk
import Derived.Test.YtcfhleenecfghaaGreatDoorWs
import Derived.Deep.CutBlock
import Derived.Deep.CutRange
namespace Go.Proofs.YtcfhleenecfghaaGreatDoor
open Go.RowKit

/-- Raw numbers. -/
def IntRow (w : World) (ra : Option Addr) (n : Nat) : Prop :=
  n = 0 ∨ ∃ rg off, ra = some ⟨rg, off, none⟩ ∧ ∀ j, j < n → ∃ x, w.cell? ⟨rg, off + j, none⟩ = some (.int .i64 x) ∧ -9223372036854775808 ≤ x ∧ x ≤ 9223372036854775807
theorem IntRow.later {w w' : World} {ra : Option Addr} {n : Nat} (h : IntRow w ra n) (hb : Below w.heap.size w w') : IntRow w' ra n := by
  rcases h with h | ⟨rg, off, h1, h2⟩
  · exact Or.inl h
  · refine Or.inr ⟨rg, off, h1, fun j hj => ?_⟩
    obtain ⟨x, hx, hr⟩ := h2 j hj
    exact ⟨x, keep hb hx, hr⟩
/-- Which of eight things a raw number speaks of. -/
def pickE (x : Int) : Int := if x < 0 then (-(x + 1)) % 8 else x % 8
theorem pickE_range (x : Int) : ∃ r : Nat, pickE x = (r : Int) ∧ r < 8 := by
  refine ⟨(pickE x).toNat, ?_⟩
  unfold pickE; split <;> omega
set_option maxHeartbeats 400000 in
theorem pickE_any (x : Int) (w : World) (h1 : -9223372036854775808 ≤ x) (h2 : x ≤ 9223372036854775807) :
    Calls Tryz.prog 15 #[.int .i64 x, .int .i64 8] w fun e w' => e = .returned (.int .i64 (pickE x)) ∧ w' = w := by
  by_cases h : x < 0
  · go_enter Tryz.func15, Tryz.ntmps15
    go_wp2
    go_ret
    exact ⟨ret_int (by unfold pickE; rw [if_pos h, ← Int.neg_tmod, Int.tmod_eq_emod_of_nonneg (by omega)]), rfl⟩
  · go_enter Tryz.func15, Tryz.ntmps15
    go_wp2
    go_ret
    exact ⟨ret_int (by unfold pickE; rw [if_neg (by omega)]), rfl⟩
theorem pick8_any (x : Int) (w : World) (h1 : -9223372036854775808 ≤ x) (h2 : x ≤ 9223372036854775807) :
    Calls Tryz.prog 15 #[.int .i64 x, .int .i64 8] w fun e w' => ∃ r : Nat, e = .returned (.int .i64 (r : Int)) ∧ r < 8 ∧ w' = w := by
  refine (pickE_any x w h1 h2).mono ?_
  rintro e w' ⟨rfl, rfl⟩
  obtain ⟨r, h3, h4⟩ := pickE_range x
  exact ⟨r, by rw [h3], h4, rfl⟩
/-- Imports in memory. -/
def ImpAt (w : World) (ib : Nat) (I : B.Mat) (wr : World) : Prop := wr.heap[ib]? = some (.cells (bools (flat8 I) 64) 93 (0, 0)) ∧ Below w.heap.size w wr
theorem ImpAt.set {w : World} {ib : Nat} {I : B.Mat} {wr : World} (h : ImpAt w ib I wr) (hib : w.heap.size ≤ ib) (a b : Nat) (hb : b < 8) (v : Bool) : ImpAt w ib (B.upd2 I a b v) (wr.setCell ⟨ib, a * 8 + b, none⟩ (.bool v)) := by
  refine ⟨?_, h.2.setCell (p := ⟨ib, _, none⟩) hib _⟩
  rw [heap_setCell_same _ _ _ _ _ _ h.1, bools_set, flat8_set _ _ _ _ hb]

theorem ImpAt.drew {w : World} {ib : Nat} {I : B.Mat} {wr : World} (h : ImpAt w ib I wr) (q : Nat) : ImpAt w ib I (wr.drewN q) := ⟨h.1, h.2.os, h.2.tape, h.2.output, h.2.size, h.2.block⟩
theorem ImpAt.later {w : World} {ib : Nat} {I : B.Mat} {wr w' : World} (h : ImpAt w ib I wr) (hb : Below wr.heap.size wr w') : ImpAt w ib I w' := ⟨below_some hb h.1, h.2.trans (hb.mono h.2.size)⟩
/-- A row of one's own has grown: the imports are as they were. -/
theorem ImpAt.grown {w : World} {ib base : Nat} {I : B.Mat} {wr w3 : World} {o : Obj} {e : TypeId} {s n : Nat} {v : Value} {xs : List Value} (h : ImpAt w ib I wr) (he : e ≠ 93) (hbw : w.heap.size ≤ base) (ho : wr.ownsRow base e s v n xs) (hg : (wr.alloc o).grownBy w3 v.ownBlock) : ImpAt w ib I w3 := by
  have hlt : ib < wr.heap.size := (Array.getElem?_eq_some_iff.1 h.1).1
  refine ⟨?_, (h.2.alloc h.2.size o).grown hg (by have := h.2.size; rw [alloc_size]; omega) (fun j hj => by obtain ⟨_, _, h3⟩ := own_block ho hj; omega)⟩
  rw [hg.block ib (by rw [alloc_size]; omega) (fun e' => ?_), alloc_else _ _ _ hlt]
  · exact h.1
  · obtain ⟨cur, h1, _⟩ := own_block ho e'.symm
    rw [h.1] at h1
    injection h1 with h1
    injection h1 with _ h1
    exact he h1.symm
theorem catB (a b : ByteArray) (h : a.size + b.size ≤ 100000) (w : World) : (Op.stringOp .add a b).run Tryz.prog w = .ok (.string (a ++ b)) w := run_string_add_sum (P := Tryz.prog) w a b (by omega)
theorem mk_size (l : List UInt8) : (ByteArray.mk l.toArray).size = l.length := by show l.toArray.size = _; simp
theorem mk_cat (l r : List UInt8) : ByteArray.mk l.toArray ++ ByteArray.mk r.toArray = ByteArray.mk (l ++ r).toArray := by
  rw [ByteArray.mk_append_mk]
/-- The text of a source, as far as it is made. -/
def part (I : B.Mat) (a b : Nat) : List UInt8 := comment ++ [10] ++ ((List.range b).filter (I a)).flatMap fun x => impLine x ++ [10]
def partB (I : B.Mat) (a b : Nat) : ByteArray := ⟨(part I a b).toArray⟩
theorem part_len (I : B.Mat) (a : Nat) : ∀ b, (part I a b).length ≤ 13 + 13 * b
  | 0 => by simp [part, comment]
  | b + 1 => by
    have ih := part_len I a b
    have e : part I a (b + 1) = part I a b ++ (if I a b then impLine b ++ [10] else []) := by
      unfold part
      rw [List.range_succ, List.filter_append, List.flatMap_append, ← List.append_assoc]
      congr 1
      by_cases h : I a b = true <;> simp [h]
    rw [e, List.length_append]
    split <;> simp [impLine] <;> omega
theorem part_yes (I : B.Mat) (a b : Nat) (h : I a b = true) : partB I a b ++ ⟨#[105, 109, 112, 111, 114, 116, 32, 34, 120, 47]⟩ ++ ⟨#[V.dig b]⟩ ++ ⟨#[34, 10]⟩ = partB I a (b + 1) := by
  have e : part I a (b + 1) = part I a b ++ (impLine b ++ [10]) := by
    unfold part
    rw [List.range_succ, List.filter_append, List.flatMap_append, ← List.append_assoc]
    simp [h]
  have h1 := mk_cat (part I a b) [105, 109, 112, 111, 114, 116, 32, 34, 120, 47]
  have h2 := mk_cat (part I a b ++ [105, 109, 112, 111, 114, 116, 32, 34, 120, 47]) [V.dig b]
  have h3 := mk_cat (part I a b ++ [105, 109, 112, 111, 114, 116, 32, 34, 120, 47] ++ [V.dig b]) [34, 10]
  unfold partB
  show ByteArray.mk (part I a b).toArray ++ ByteArray.mk [105, 109, 112, 111, 114, 116, 32, 34, 120, 47].toArray ++ ByteArray.mk [V.dig b].toArray ++ ByteArray.mk [34, 10].toArray = _
  rw [h1, h2, h3, e]
  simp [impLine]
theorem part_no (I : B.Mat) (a b : Nat) (h : I a b = false) : partB I a (b + 1) = partB I a b := by
  unfold partB part
  rw [List.range_succ, List.filter_append, List.flatMap_append]
  simp [h]
theorem joinNL_imps : ∀ L : List Nat, joinNL (L.map impLine ++ [[], letLine]) = (L.flatMap fun x => impLine x ++ [10]) ++ 10 :: letLine
  | [] => rfl
  | x :: L => by
    rw [List.map_cons, List.cons_append, joinNL_cons _ _ (by simp), joinNL_imps L, List.flatMap_cons]
    simp
theorem part_end (I : B.Mat) (a : Nat) : partB I a 8 ++ ⟨#[10, 108, 101, 116]⟩ = fileData (B.imps I a) := by
  have h1 := mk_cat (part I a 8) [10, 108, 101, 116]
  unfold partB
  show ByteArray.mk (part I a 8).toArray ++ ByteArray.mk [10, 108, 101, 116].toArray = _
  rw [h1]
  unfold fileData
  congr 2
  unfold fileLines
  rw [joinNL_cons _ _ (by simp), joinNL_imps]
  unfold part B.imps
  simp [letLine]
theorem dec_dig (b : Nat) : decB 0 b = ⟨#[V.dig b]⟩ := rfl
theorem name_of (a : Nat) : (ByteArray.mk #[V.dig a]) ++ ⟨#[47, 102, 46, 116, 108]⟩ = fname a := mk_cat [V.dig a] [47, 102, 46, 116, 108]
theorem path_of (a : Nat) : (ByteArray.mk #[120, 47]) ++ ⟨#[V.dig a]⟩ = xpath a := mk_cat [120, 47] [V.dig a]
/-- A digit. -/
theorem dec8 (b : Nat) (hb : b < 8) (w : World) : Calls Tryz.prog 16 #[.int .i64 (b : Int)] w fun e w' => e = .returned (.string ⟨#[V.dig b]⟩) ∧ ∃ q, w' = w.drewN q := by
  have := decimal_any 0 (by omega) (b : Int) w (by omega) (by simp; omega) (by omega)
  rw [Int.toNat_natCast, dec_dig] at this
  exact this

/-- All that the law has made. -/
structure St (w : World) (ib wt : Nat) (I : B.Mat) (f t : Value) (Dn : List Nat) (W : Nat → Bool) (wx : World) : Prop where
  imp : ImpAt w ib I wx
  files : wx.ownsRow w.heap.size 77 2 f 8 (fcells (fun x => fileData (B.imps I x)) 8)
  want : wx.heap[wt]? = some (.cells (bools W 8) 92 (0, 0))
  texts : wx.ownsRow w.heap.size 9 1 t Dn.length (pcells Dn)
theorem own_same {w w' : World} {base : Nat} {e : TypeId} {s n : Nat} {v : Value} {xs : List Value} (h : w.ownsRow base e s v n xs) (hs : ∀ {b : Nat} {cur : Array Value}, w.heap[b]? = some (.cells cur e (0, 0)) → w'.heap[b]? = some (.cells cur e (0, 0))) : w'.ownsRow base e s v n xs := by
  refine ⟨h.1, ?_⟩
  rcases h.2 with h | ⟨g, cap, cur, e, h1, hg, hr⟩
  · exact Or.inl h
  · exact Or.inr ⟨g, cap, cur, e, h1, hs hg, hr⟩
theorem St.setW {w : World} {ib wt : Nat} {I : B.Mat} {f t : Value} {Dn : List Nat} {W : Nat → Bool} {wx : World} (h : St w ib wt I f t Dn W wx) (hwt : w.heap.size ≤ wt) (a : Nat) (v : Bool) : St w ib wt I f t Dn (B.updB W a v) (wx.setCell ⟨wt, a, none⟩ (.bool v)) := by
  have hs : ∀ {b : Nat} {x : Obj}, wx.heap[b]? = some x → (∀ cs, x ≠ .cells cs 92 (0, 0)) → (wx.setCell ⟨wt, a, none⟩ (.bool v)).heap[b]? = some x := fun {b x} hb hx => by
    rw [Below.heap_setCell _ _ _ _ (fun e => by subst e; rw [h.want] at hb; injection hb with hb; exact hx _ hb.symm)]; exact hb
  refine ⟨⟨hs h.imp.1 (fun cs e => by cases e), h.imp.2.setCell (p := ⟨wt, _, none⟩) hwt _⟩, own_same h.files (fun hb => hs hb (fun cs e => by cases e)), ?_, own_same h.texts (fun hb => hs hb (fun cs e => by cases e))⟩
  rw [heap_setCell_same _ _ _ _ _ _ h.want, bools_set]
theorem St.later {w : World} {ib wt : Nat} {I : B.Mat} {f t : Value} {Dn : List Nat} {W : Nat → Bool} {wx w' : World} (h : St w ib wt I f t Dn W wx) (hb : Below wx.heap.size wx w') : St w ib wt I f t Dn W w' :=
  ⟨h.imp.later hb, owns_later h.files hb, below_some hb h.want, owns_later h.texts hb⟩
theorem St.push {w : World} {ib wt : Nat} {I : B.Mat} {f t t' : Value} {Dn : List Nat} {W : Nat → Bool} {wx w3 : World} {o : Obj} (h : St w ib wt I f t Dn W wx) (a : Nat) (hg : (wx.alloc o).grownBy w3 t.ownBlock) (ho : w3.ownsRow w.heap.size 9 1 t' (Dn.length + 1) (pcells Dn ++ [.string (xpath a)])) : St w ib wt I f t' (Dn ++ [a]) W w3 := by
  have hs : ∀ {b : Nat} {x : Obj}, wx.heap[b]? = some x → (∀ cs, x ≠ .cells cs 9 (0, 0)) → w3.heap[b]? = some x := fun {b x} hb hx => by
    have hlt : b < wx.heap.size := (Array.getElem?_eq_some_iff.1 hb).1
    rw [hg.block b (by rw [alloc_size]; omega) (fun e => ?_), alloc_else _ _ _ hlt]
    · exact hb
    · obtain ⟨cur, h1, _⟩ := own_block h.texts e.symm
      rw [hb] at h1
      injection h1 with h1
      exact hx cur h1
  refine ⟨h.imp.grown (by decide) (Nat.le_refl _) h.texts hg, own_same h.files (fun hb => hs hb (fun cs e => by cases e)), hs h.want (fun cs e => by cases e), ?_⟩
  have e1 : pcells (Dn ++ [a]) = pcells Dn ++ [.string (xpath a)] := by simp [pcells]
  rw [e1, List.length_append]
  exact ho
theorem St.cell {w : World} {ib wt : Nat} {I : B.Mat} {f t : Value} {Dn : List Nat} {W : Nat → Bool} {wx : World} (h : St w ib wt I f t Dn W wx) (a : Nat) (ha : a < 8) : wx.cell? ⟨wt, a, none⟩ = some (.bool (W a)) ∧ wx.frozen? ⟨wt, a, none⟩ = false := by
  refine ⟨?_, Lib.frozen_of_heap h.want _⟩
  rw [Lib.cell_of_heap h.want, bools_get _ _ _ ha]
theorem St.icell {w : World} {ib wt : Nat} {I : B.Mat} {f t : Value} {Dn : List Nat} {W : Nat → Bool} {wx : World} (h : St w ib wt I f t Dn W wx) (a b : Nat) (ha : a < 8) (hb : b < 8) : wx.cell? ⟨ib, a * 8 + b, none⟩ = some (.bool (I a b)) := by
  rw [Lib.cell_of_heap h.imp.1, bools_get _ _ _ (by omega), flat8_at _ _ _ hb]

theorem wpList_load_want {P : Program} {ops : Array Oper} {rest : List Oper} {o : Oper} {a : Act} {w : World} {Q : Exit → Act → World → Prop} (ty : TypeId) (x : Operand) (ho : o.op = .load ty x) (hw : Region.wanted o (yielded ops a.tmps) = true)
    (g : Nat) (hx : a.eval x = .pointer (some ⟨g, 0, none⟩)) (t : TypeId) (cs : Array Value) (fr : Nat × Nat) (d : TypeDesc) (hg : w.heap[g]? = some (.cells cs t fr))
    (hu : P.underlying ty = some d) (hd : (match d with | .struct _ | .array _ _ => true | _ => false) = true) (hi : (P.info? ty).map (·.size) = some cs.size)
    (h : wpList P ops Q rest (a.put o.dst (.agg cs)) w) : wpList P ops Q (o :: rest) a w := BigFrame.wpList_want hw fun _ hK => wp_load_row ty x ho g hx t cs fr d hg hu hd hi (hK _ _ h)
theorem bools_congr {f g : Nat → Bool} {n : Nat} (h : ∀ x, x < n → f x = g x) : bools f n = bools g n := by
  unfold bools
  congr 1
  apply List.map_congr_left
  intro x hx
  rw [h x (List.mem_range.1 hx)]
/-- What is told so far. -/
def toldB (l : List Nat) (k : Nat) : Nat → Bool := fun x => decide (x ∈ l.take k)
theorem told_next (l : List Nat) (k : Nat) (hk : k < l.length) : B.updB (toldB l k) l[k] true = toldB l (k + 1) := by
  funext x
  show (if x = l[k] then true else decide (x ∈ l.take k)) = decide (x ∈ l.take (k + 1))
  rw [List.take_succ_eq_append_getElem hk]
  by_cases h : x = l[k]
  · rw [if_pos h]
    exact (decide_eq_true (List.mem_append_right _ (by rw [h]; exact List.mem_singleton.2 rfl))).symm
  · rw [if_neg h]
    apply decide_eq_decide.2
    refine ⟨List.mem_append_left _, fun hm => ?_⟩
    rcases List.mem_append.1 hm with hm | hm
    · exact hm
    · exact absurd (List.mem_singleton.1 hm) h
theorem eq92' (a b c d e f g h : Bool) (w : World) : (binOp .eql 92 (.agg #[.bool a, .bool b, .bool c, .bool d, .bool e, .bool f, .bool g, .bool h]) (.agg #[.bool a, .bool b, .bool c, .bool d, .bool e, .bool f, .bool g, .bool h])).run Tryz.prog w = .ok (.bool true) w := by
  cases a <;> cases b <;> cases c <;> cases d <;> cases e <;> cases f <;> cases g <;> cases h <;> kernel_rfl
theorem eq92 (f : Nat → Bool) (w : World) : (binOp .eql 92 (.agg (bools f 8)) (.agg (bools f 8))).run Tryz.prog w = .ok (.bool true) w := eq92' (f 0) (f 1) (f 2) (f 3) (f 4) (f 5) (f 6) (f 7) w

theorem St.other {w : World} {ib wt tb : Nat} {I : B.Mat} {f t : Value} {Dn : List Nat} {W : Nat → Bool} {wx : World} {cur : Array Value} (h : St w ib wt I f t Dn W wx) (ht : wx.heap[tb]? = some (.cells cur 92 (0, 0))) (hne : wt ≠ tb) (htw : w.heap.size ≤ tb) (i : Nat) (v : Value) : St w ib wt I f t Dn W (wx.setCell ⟨tb, i, none⟩ v) := by
  have hs : ∀ {b : Nat} {x : Obj}, wx.heap[b]? = some x → (∀ cs, x ≠ .cells cs 92 (0, 0)) → (wx.setCell ⟨tb, i, none⟩ v).heap[b]? = some x := fun {b x} hb hx => by
    rw [Below.heap_setCell _ _ _ _ (fun e => by subst e; rw [ht] at hb; injection hb with hb; exact hx _ hb.symm)]; exact hb
  exact ⟨⟨hs h.imp.1 (fun cs e => by cases e), h.imp.2.setCell (p := ⟨tb, _, none⟩) htw _⟩, own_same h.files (fun hb => hs hb (fun cs e => by cases e)), by rw [Below.heap_setCell _ _ _ _ hne]; exact h.want, own_same h.texts (fun hb => hs hb (fun cs e => by cases e))⟩
/-- How the look at what is told stands. -/
structure Told (w : World) (ib wt tb wcs : Nat) (I : B.Mat) (f t v : Value) (Dn : List Nat) (W : Nat → Bool) (l : List Nat) (k : Nat) (wx : World) : Prop where
  st : St w ib wt I f t Dn W wx
  told : wx.heap[tb]? = some (.cells (bools (toldB l k) 8) 92 (0, 0))
  list : wx.ownsRow wcs 9 1 v l.length (pcells l)
theorem Told.next {w : World} {ib wt tb wcs : Nat} {I : B.Mat} {f t v : Value} {Dn : List Nat} {W : Nat → Bool} {l : List Nat} {k : Nat} {wx : World} (h : Told w ib wt tb wcs I f t v Dn W l k wx) (hne : wt ≠ tb) (htw : w.heap.size ≤ tb) (hk : k < l.length) : Told w ib wt tb wcs I f t v Dn W l (k + 1) (wx.setCell ⟨tb, l[k], none⟩ (.bool true)) := by
  refine ⟨h.st.other h.told hne htw _ _, ?_, own_same h.list (fun {b cur} hb => ?_)⟩
  · rw [heap_setCell_same _ _ _ _ _ _ h.told, bools_set, told_next l k hk]
  · rw [Below.heap_setCell _ _ _ _ (fun e => by subst e; rw [h.told] at hb; cases hb)]; exact hb
theorem Told.cell {w : World} {ib wt tb wcs : Nat} {I : B.Mat} {f t v : Value} {Dn : List Nat} {W : Nat → Bool} {l : List Nat} {k : Nat} {wx : World} (h : Told w ib wt tb wcs I f t v Dn W l k wx) (a : Nat) (ha : a < 8) : wx.cell? ⟨tb, a, none⟩ = some (.bool (toldB l k a)) ∧ wx.frozen? ⟨tb, a, none⟩ = false := by
  refine ⟨?_, Lib.frozen_of_heap h.told _⟩
  rw [Lib.cell_of_heap h.told, bools_get _ _ _ ha]

set_option maxHeartbeats 6400000 in
set_option maxRecDepth 100000 in
theorem Built_any (n1 c1 n2 c2 : Nat) (r1 r2 : Option Addr) (up : Bool) (m : Int) (w : World) (hr1 : IntRow w r1 n1) (hr2 : IntRow w r2 n2) (hm : w.cell? ⟨0, 0, none⟩ = some (.int .i64 m)) :
    Calls Tryz.prog 12 #[.slice r1 n1 c1, .slice r2 n2 c2, .bool up] w fun e w' => e = .returned (.bool true) ∧ Below w.heap.size w w' := by
  have HR1 := hide hr1
  have HR2 := hide hr2
  clear hr1 hr2
  go_enter Tryz.func12, Tryz.ntmps12
  go_wp2_with fail
  refine (begin_any m _ hm).mono ?_
  rintro e w1 ⟨rfl, hb1⟩
  have HB1 := hide hb1
  clear hb1
  go_upto_block 0 with fail
  have H0 : Hid (ImpAt w w1.heap.size (fun _ _ => false) (w1.alloc (.cells (bools (flat8 fun _ _ => false) 64) 93))) := hide ⟨alloc_last _ _ _ rfl, HB1.out.alloc HB1.out.size _⟩
  have hib : w.heap.size ≤ w1.heap.size := HB1.out.size
  generalize w1.heap.size = ib at H0 hib ⊢
  go_cut [9, 10, 11] from 32 (fun _ _ _ wx => ∃ I, Hid (ImpAt w ib I wx))
  case first => as_aux_lemma =>
    go_wp2_with fail
    go_loopw [9] (fun i wr => ∃ k : Nat, k ≤ n1 ∧ i = .int .i64 k ∧ ∃ I, Hid (ImpAt w ib I wr)) (fun i _ => n1 - (intOf i).toNat)
    case atStart => exact ⟨0, by omega, rfl, _, H0⟩
    case round =>
      obtain ⟨k, hk, rfl, I, H⟩ := hrel
      by_cases hlt : k < n1 ∧ k < 40
      · obtain ⟨hl1, hl2⟩ := hlt
        have g1 : (k : Int) < (n1 : Int) := by omega
        have g2 : (k : Int) < 40 := by omega
        have g3 : 0 ≤ (k : Int) ∧ (k : Int) < (n1 : Int) := ⟨by omega, g1⟩
        rcases HR1.out.later H.out.2 with h0 | ⟨rg, off, rfl, hx⟩
        · omega
        obtain ⟨x, c0, x1, x2⟩ := hx k hl1
        clear hx
        have HQ : Hid (-9223372036854775808 ≤ x.tdiv 8 ∧ x.tdiv 8 ≤ 9223372036854775807) := hide (by
          rcases Int.le_total 0 x with h | h
          · rw [Int.tdiv_eq_ediv_of_nonneg h]; omega
          · have h1 := Int.neg_tdiv (a := x) (b := 8)
            rw [Int.tdiv_eq_ediv_of_nonneg (by omega)] at h1
            omega)
        go_wp2_with fail
        refine (pick8_any x _ x1 x2).mono ?_
        rintro e w' ⟨a, rfl, ha, rfl⟩
        go_wp2_with fail
        refine (pick8_any _ _ HQ.out.1 HQ.out.2).mono ?_
        rintro e w'' ⟨b, rfl, hb, rfl⟩
        have i0 : w''.cell? ⟨ib, a * 8 + b, none⟩ = some (.bool (I a b)) := by rw [Lib.cell_of_heap H.out.1, bools_get _ _ _ (by omega), flat8_at _ _ _ hb]
        have i1 : w''.frozen? ⟨ib, a * 8 + b, none⟩ = false := Lib.frozen_of_heap H.out.1 _
        have HN := hide (H.out.set hib a b hb true)
        have a1 : (a : Int) < 8 := by omega
        have b1 : (b : Int) < 8 := by omega
        by_cases hc : up = true ∧ a ≤ b
        · obtain ⟨rfl, hab⟩ := hc
          have hab' : (a : Int) ≤ (b : Int) := by omega
          go_wp2_with fail
          first
            | exact ⟨⟨k + 1, by omega, by go_num, I, H⟩, by simp [intOf]; omega⟩
            | (go_roundw
               case rel => exact ⟨k + 1, by omega, by go_num, I, H⟩
               case measure => simp [intOf]; omega)
        · cases up
          · go_wp2_with fail
            first
              | exact ⟨⟨k + 1, by omega, by go_num, _, HN⟩, by simp [intOf]; omega⟩
              | (go_roundw
                 case rel => exact ⟨k + 1, by omega, by go_num, _, HN⟩
                 case measure => simp [intOf]; omega)
          · have hab' : ¬ (a : Int) ≤ (b : Int) := fun h => hc ⟨rfl, by omega⟩
            have hab'' : (b : Int) < (a : Int) := by omega
            go_wp2_with fail
            first
              | exact ⟨⟨k + 1, by omega, by go_num, _, HN⟩, by simp [intOf]; omega⟩
              | (go_roundw
                 case rel => exact ⟨k + 1, by omega, by go_num, _, HN⟩
                 case measure => simp [intOf]; omega)
      · rcases Nat.lt_or_ge k n1 with h1 | h1
        · have g1 : (k : Int) < (n1 : Int) := by omega
          have g2 : ¬ (k : Int) < 40 := by omega
          go_wp2_with fail
          go_meet
          case rel => exact ⟨I, H⟩
        · have g1 : ¬ (k : Int) < (n1 : Int) := by omega
          go_wp2_with fail
          go_meet
          case rel => exact ⟨I, H⟩
  case rest =>
    obtain ⟨I, HI⟩ := hcut
    clear H0
    go_upto_block 2 with fail
    go_cut [12, 13, 14, 15] from 32 (fun f _ _ _ wx => Hid (wx.ownsRow w.heap.size 77 2 f 8 (fcells (fun x => fileData (B.imps I x)) 8) ∧ ImpAt w ib I wx))
    case first => as_aux_lemma =>
      obtain ⟨i0, hi, hz0, hz1, hz2⟩ := info_parts info77
      go_wp2_with fail
      go_loopw [12, 13] (fun f i wr => ∃ k : Nat, k ≤ 8 ∧ i = .int .i64 k ∧ Hid (wr.ownsRow w.heap.size 77 2 f k (fcells (fun x => fileData (B.imps I x)) k) ∧ ImpAt w ib I wr)) (fun _ i _ => 8 - (intOf i).toNat)
      case atStart => exact ⟨0, by omega, rfl, hide ⟨World.ownsRow_nil _ _ _ _, HI.out⟩⟩
      case round =>
        obtain ⟨a, ha, rfl, H⟩ := hrel
        by_cases hlt : a < 8
        · have a1 : (a : Int) < 8 := by omega
          obtain ⟨fa, fc, rfl⟩ := own_form H.out.1
          go_wp2_with fail
          go_loopw [14, 15] (fun sv i wx => ∃ b : Nat, b ≤ 8 ∧ i = .int .i64 b ∧ sv = .string (partB I a b) ∧ Hid (wx.ownsRow w.heap.size 77 2 (.slice fa a fc) a (fcells (fun x => fileData (B.imps I x)) a) ∧ ImpAt w ib I wx)) (fun _ i _ => 8 - (intOf i).toNat)
          case atStart => exact ⟨0, by omega, rfl, rfl, H⟩
          case round =>
            obtain ⟨b, hb, rfl, rfl, HX⟩ := hrel
            by_cases hblt : b < 8
            · have b1 : (b : Int) < 8 := by omega
              have i0' : wr.cell? ⟨ib, a * 8 + b, none⟩ = some (.bool (I a b)) := by rw [Lib.cell_of_heap HX.out.2.1, bools_get _ _ _ (by omega), flat8_at _ _ _ hblt]
              cases hIab : I a b
              · rw [hIab] at i0'
                have HP := hide (part_no I a b hIab)
                go_wp2_with fail
                first
                  | exact ⟨⟨b + 1, by omega, by go_num, by rw [HP.out], HX⟩, by simp [intOf]; omega⟩
                  | (go_roundw
                     case rel => exact ⟨b + 1, by omega, by go_num, by rw [HP.out], HX⟩
                     case measure => simp [intOf]; omega)
              · rw [hIab] at i0'
                have HP := hide (part_yes I a b hIab)
                have hpl := part_len I a b
                have hps : (partB I a b).size ≤ 200 := by unfold partB; rw [mk_size]; omega
                have k1 := catB (partB I a b) ⟨#[105, 109, 112, 111, 114, 116, 32, 34, 120, 47]⟩ (by show _ + 10 ≤ _; omega)
                have k2 := catB (partB I a b ++ ⟨#[105, 109, 112, 111, 114, 116, 32, 34, 120, 47]⟩) ⟨#[V.dig b]⟩ (by rw [ByteArray.size_append]; show _ + 10 + 1 ≤ _; omega)
                have k3 := catB (partB I a b ++ ⟨#[105, 109, 112, 111, 114, 116, 32, 34, 120, 47]⟩ ++ ⟨#[V.dig b]⟩) ⟨#[34, 10]⟩ (by rw [ByteArray.size_append, ByteArray.size_append]; show _ + 10 + 1 + 2 ≤ _; omega)
                clear hpl hps
                go_wp2_with fail
                refine (dec8 b hblt _).mono ?_
                rintro e w' ⟨rfl, q, rfl⟩
                have HX' : Hid ((wr.drewN q).ownsRow w.heap.size 77 2 (.slice fa a fc) a (fcells (fun x => fileData (B.imps I x)) a) ∧ ImpAt w ib I (wr.drewN q)) := hide ⟨HX.out.1, HX.out.2.drew q⟩
                generalize wr.drewN q = wq at HX'
                go_wp2_with fail
                first
                  | exact ⟨⟨b + 1, by omega, by go_num, by rw [HP.out], HX'⟩, by simp [intOf]; omega⟩
                  | (go_roundw
                     case rel => exact ⟨b + 1, by omega, by go_num, by rw [HP.out], HX'⟩
                     case measure => simp [intOf]; omega)
            · have he : b = 8 := by omega
              subst he
              have hpl := part_len I a 8
              have hps : (partB I a 8).size ≤ 200 := by unfold partB; rw [mk_size]; omega
              have k1 := catB ⟨#[V.dig a]⟩ ⟨#[47, 102, 46, 116, 108]⟩ (by show 1 + 5 ≤ _; omega)
              have k2 := catB (partB I a 8) ⟨#[10, 108, 101, 116]⟩ (by show _ + 4 ≤ _; omega)
              rw [part_end] at k2
              rw [name_of] at k1
              clear hpl hps
              go_wp2_with fail
              refine (dec8 a hlt _).mono ?_
              rintro e w' ⟨rfl, q, rfl⟩
              have HX' : Hid ((wr.drewN q).ownsRow w.heap.size 77 2 (.slice fa a fc) a (fcells (fun x => fileData (B.imps I x)) a) ∧ ImpAt w ib I (wr.drewN q)) := hide ⟨HX.out.1, HX.out.2.drew q⟩
              generalize wr.drewN q = wq at HX'
              go_wp2_with (at_builtin; refine wpList_append_own _ rfl _ _ 73 rfl w.heap.size 77 i0 (.agg #[.string ⟨#[]⟩, .string ⟨#[]⟩]) 2 32 Tryz.underlying73 hi hz0 hz1 hz2 rfl (by decide) _ _ _ rfl (HX'.out.1.alloc _) ⟨wq.heap.size, 0, none⟩ 1 1 [.string (fname a), .string (fileData (B.imps I a))] rfl rfl ?c1 ?c2 ?c3 ?c4 ?c5 ?_)
              case c1 =>
                intro j u hj
                match j, hj with
                | 0, hj => simp at hj; subst hj; simp [Addr.add]
                | 1, hj => simp at hj; subst hj; simp [Addr.add]
              case c2 => intro u hu; simp at hu; rcases hu with rfl | rfl <;> rfl
              case c3 => unfold maxLen; omega
              case c4 => omega
              case c5 => have := HX'.out.2.2.size; rw [alloc_size]; omega
              intro v' w3 hown' hgrow _
              have R : Hid (w3.ownsRow w.heap.size 77 2 v' (a + 1) (fcells (fun x => fileData (B.imps I x)) (a + 1)) ∧ ImpAt w ib I w3) := by
                refine hide ⟨?_, HX'.out.2.grown (by decide) (Nat.le_refl _) HX'.out.1 hgrow⟩
                rw [fcells_succ]; exact hown'
              clear hown' hgrow
              go_wp2_with fail
              first
                | exact ⟨⟨a + 1, by omega, by go_num, R⟩, by simp [intOf]; omega⟩
                | (go_roundw
                   case rel => exact ⟨a + 1, by omega, by go_num, R⟩
                   case measure => simp [intOf]; omega)
        · have he : a = 8 := by omega
          subst he
          go_wp2_with fail
          go_meet
          case rel => exact H
    case rest =>
      have HF := hcut
      clear hcut HI
      go_upto_block 6 with fail
      have H0 : Hid (St w ib wc.heap.size I u12 (.slice none 0 0) [] (fun _ => false) (wc.alloc (.cells (bools (fun _ => false) 8) 92))) := hide ⟨HF.out.2.later (below1 _ _), owns_later HF.out.1 (below1 _ _), alloc_last _ _ _ rfl, World.ownsRow_nil _ _ _ _⟩
      have hwt : w.heap.size ≤ wc.heap.size := HF.out.2.2.size
      generalize wc.heap.size = wt at H0 hwt ⊢
      go_cut [17, 18, 19] from 32 (fun t _ _ wx => ∃ Dn W0, Hid (St w ib wt I u12 t Dn W0 wx ∧ Dn.length ≤ 8 ∧ (∀ d ∈ Dn, d < 8 ∧ W0 d = true) ∧ ∀ x, W0 x = true → x ∈ Dn))
      case first => as_aux_lemma =>
        obtain ⟨i0, hi, hz0, hz1, hz2⟩ := info_parts info9
        go_wp2_with fail
        go_loopw [17, 18] (fun t i wr => ∃ (k : Nat) (Dn : List Nat) (W0 : Nat → Bool), k ≤ n2 ∧ k ≤ 8 ∧ i = .int .i64 k ∧ Hid (St w ib wt I u12 t Dn W0 wr ∧ Dn.length = k ∧ (∀ d ∈ Dn, d < 8 ∧ W0 d = true) ∧ ∀ x, W0 x = true → x ∈ Dn)) (fun _ i _ => n2 - (intOf i).toNat)
        case atStart => exact ⟨0, [], fun _ => false, by omega, by omega, rfl, hide ⟨H0.out, rfl, fun d hd => by simp at hd, fun x hx => by simp at hx⟩⟩
        case round =>
          obtain ⟨k, Dn, W0, hk, hk8, rfl, H⟩ := hrel
          by_cases hlt : k < n2 ∧ k < 8
          · obtain ⟨hl1, hl2⟩ := hlt
            have g1 : (k : Int) < (n2 : Int) := by omega
            have g2 : (k : Int) < 8 := by omega
            have g3 : 0 ≤ (k : Int) ∧ (k : Int) < (n2 : Int) := ⟨by omega, g1⟩
            rcases HR2.out.later H.out.1.imp.2 with h0 | ⟨rg, off, rfl, hx⟩
            · omega
            obtain ⟨x, c0, x1, x2⟩ := hx k hl1
            clear hx
            obtain ⟨ta, tc, rfl⟩ := own_form H.out.1.texts
            go_wp2_with fail
            refine (pick8_any x _ x1 x2).mono ?_
            rintro e w' ⟨a, rfl, ha, rfl⟩
            obtain ⟨d0, d1⟩ := H.out.1.cell a ha
            have a1 : (a : Int) < 8 := by omega
            have HN := hide (H.out.1.setW hwt a true)
            have hcat := catB ⟨#[120, 47]⟩ ⟨#[V.dig a]⟩ (by show 2 + 1 ≤ _; omega)
            rw [path_of] at hcat
            go_wp2_with fail
            refine (dec8 a ha _).mono ?_
            rintro e w2 ⟨rfl, q, rfl⟩
            have HN2 : Hid (St w ib wt I u12 (.slice ta Dn.length tc) Dn (B.updB W0 a true) ((w'.setCell ⟨wt, a, none⟩ (.bool true)).drewN q)) := hide ⟨HN.out.imp.drew q, HN.out.files, HN.out.want, HN.out.texts⟩
            generalize (w'.setCell ⟨wt, a, none⟩ (.bool true)).drewN q = wq at HN2
            have hDn : Dn.length ≤ 8 := by have := H.out.2.1; omega
            go_wp2_with (at_builtin; refine wpList_append_own _ rfl _ _ 50 rfl w.heap.size 9 i0 (.string ⟨#[]⟩) 1 16 Tryz.underlying50 hi hz0 hz1 hz2 rfl (by decide) _ _ _ rfl (HN2.out.texts.alloc _) ⟨wq.heap.size, 0, none⟩ 1 1 [.string (xpath a)] rfl rfl ?c1 ?c2 ?c3 ?c4 ?c5 ?_)
            case c1 =>
              intro j u hj
              match j, hj with
              | 0, hj => simp at hj; subst hj; simp [Addr.add]
            case c2 => intro u hu; simp at hu; subst hu; rfl
            case c3 => unfold maxLen; omega
            case c4 => omega
            case c5 => have := HN2.out.imp.2.size; rw [alloc_size]; omega
            intro v' w3 hown' hgrow _
            have R : Hid (St w ib wt I u12 v' (Dn ++ [a]) (B.updB W0 a true) w3 ∧ (Dn ++ [a]).length = k + 1 ∧ (∀ d ∈ Dn ++ [a], d < 8 ∧ B.updB W0 a true d = true) ∧ ∀ x, B.updB W0 a true x = true → x ∈ Dn ++ [a]) := by
              refine hide ⟨HN2.out.push a hgrow hown', by rw [List.length_append, H.out.2.1]; rfl, fun d hd => ?_, fun x hx => ?_⟩
              · rcases List.mem_append.1 hd with hd | hd
                · obtain ⟨e1, e2⟩ := H.out.2.2.1 d hd
                  refine ⟨e1, ?_⟩
                  unfold B.updB; split
                  · rfl
                  · exact e2
                · rw [List.mem_singleton] at hd
                  subst hd
                  exact ⟨ha, by unfold B.updB; rw [if_pos rfl]⟩
              · unfold B.updB at hx
                split at hx
                · rename_i e; rw [e]; simp
                · exact List.mem_append_left _ (H.out.2.2.2 x hx)
            clear hown' hgrow
            go_wp2_with fail
            first
              | exact ⟨⟨k + 1, _, _, by omega, by omega, by go_num, R⟩, by simp [intOf]; omega⟩
              | (go_roundw
                 case rel => exact ⟨k + 1, _, _, by omega, by omega, by go_num, R⟩
                 case measure => simp [intOf]; omega)
          · have R : Hid (St w ib wt I u12 u17 Dn W0 wr ∧ Dn.length ≤ 8 ∧ (∀ d ∈ Dn, d < 8 ∧ W0 d = true) ∧ ∀ x, W0 x = true → x ∈ Dn) := hide ⟨H.out.1, by have := H.out.2.1; omega, H.out.2.2⟩
            rcases Nat.lt_or_ge k n2 with h1 | h1
            · have g1 : (k : Int) < (n2 : Int) := by omega
              have g2 : ¬ (k : Int) < 8 := by omega
              go_wp2_with fail
              go_meet
              case rel => exact ⟨_, _, R⟩
            · have g1 : ¬ (k : Int) < (n2 : Int) := by omega
              go_wp2_with fail
              go_meet
              case rel => exact ⟨_, _, R⟩
      case rest =>
        obtain ⟨Dn, W0, HS⟩ := hcut
        clear H0 HF
        go_upto_block 8 with fail
        go_cut [20, 21, 22] from 32 (fun _ _ _ wx => Hid (St w ib wt I u12 u17 Dn (B.rnds I W0 8) wx))
        case first => as_aux_lemma =>
          have HS0 := hide HS.out.1
          clear HS
          go_wp2_with fail
          go_loopw [20] (fun i wr => ∃ n : Nat, n ≤ 8 ∧ i = .int .i64 n ∧ Hid (St w ib wt I u12 u17 Dn (B.rnds I W0 n) wr)) (fun i _ => 8 - (intOf i).toNat)
          case atStart => exact ⟨0, by omega, rfl, HS0⟩
          case round =>
            obtain ⟨n, hn, rfl, H⟩ := hrel
            by_cases hlt : n < 8
            · have n1' : (n : Int) < 8 := by omega
              go_wp2_with fail
              go_loopw [21] (fun i wr => ∃ a : Nat, a ≤ 8 ∧ i = .int .i64 a ∧ Hid (St w ib wt I u12 u17 Dn (B.rnd I (B.rnds I W0 n) a) wr)) (fun i _ => 8 - (intOf i).toNat)
              case atStart => exact ⟨0, by omega, rfl, H⟩
              case round =>
                obtain ⟨a, ha, rfl, H2⟩ := hrel
                by_cases halt : a < 8
                · have a1' : (a : Int) < 8 := by omega
                  go_wp2_with fail
                  go_loopw [22] (fun i wr => ∃ b : Nat, b ≤ 8 ∧ i = .int .i64 b ∧ Hid (St w ib wt I u12 u17 Dn (B.row I (B.rnd I (B.rnds I W0 n) a) a b) wr)) (fun i _ => 8 - (intOf i).toNat)
                  case atStart => exact ⟨0, by omega, rfl, H2⟩
                  case round =>
                    obtain ⟨b, hb, rfl, H3⟩ := hrel
                    by_cases hblt : b < 8
                    · have b1' : (b : Int) < 8 := by omega
                      obtain ⟨d0, d1⟩ := H3.out.cell b hblt
                      obtain ⟨d2, -⟩ := H3.out.cell a halt
                      have d3 := H3.out.icell a b halt hblt
                      have HN : Hid (∀ v, v = (B.row I (B.rnd I (B.rnds I W0 n) a) a b b || (B.row I (B.rnd I (B.rnds I W0 n) a) a b a && I a b)) → St w ib wt I u12 u17 Dn (B.row I (B.rnd I (B.rnds I W0 n) a) a (b + 1)) (wr.setCell ⟨wt, b, none⟩ (.bool v))) := hide fun v hv => by
                        rw [B.row_succ]
                        unfold B.relax
                        rw [← hv]
                        exact H3.out.setW hwt b v
                      generalize B.row I (B.rnd I (B.rnds I W0 n) a) a b b = x1 at d0 HN
                      generalize B.row I (B.rnd I (B.rnds I W0 n) a) a b a = x2 at d2 HN
                      generalize I a b = x3 at d3 HN
                      clear H3
                      cases x1 <;> cases x2 <;> cases x3
                      all_goals
                        go_wp2_with fail
                        first
                          | exact ⟨⟨b + 1, by omega, by go_num, hide (HN.out _ rfl)⟩, by simp [intOf]; omega⟩
                          | (go_roundw
                             case rel => exact ⟨b + 1, by omega, by go_num, hide (HN.out _ rfl)⟩
                             case measure => simp [intOf]; omega)
                    · have he : b = 8 := by omega
                      subst he
                      have R : Hid (St w ib wt I u12 u17 Dn (B.rnd I (B.rnds I W0 n) (a + 1)) wr) := hide (by rw [B.rnd_succ]; exact H3.out)
                      go_wp2_with fail
                      first
                        | exact ⟨⟨a + 1, by omega, by go_num, R⟩, by simp [intOf]; omega⟩
                        | (go_roundw
                           case rel => exact ⟨a + 1, by omega, by go_num, R⟩
                           case measure => simp [intOf]; omega)
                · have he : a = 8 := by omega
                  subst he
                  have R : Hid (St w ib wt I u12 u17 Dn (B.rnds I W0 (n + 1)) wr) := H2
                  go_wp2_with fail
                  first
                    | exact ⟨⟨n + 1, by omega, by go_num, R⟩, by simp [intOf]; omega⟩
                    | (go_roundw
                       case rel => exact ⟨n + 1, by omega, by go_num, R⟩
                       case measure => simp [intOf]; omega)
            · have he : n = 8 := by omega
              subst he
              go_wp2_with fail
              go_meet
              case rel => exact H
        case rest =>
          have HC := hcut
          clear hcut
          obtain ⟨fb, fc, rfl⟩ := own_some HC.out.files (by omega)
          have hmc := keep HC.out.imp.2 hm
          have HPK := hide (packages_any I (B.rnds I W0 8) (B.imps I) Dn (B.wanted_closed I W0) (fun a b => B.mem_imps) (fun a => B.imps_len I a) (fun d hd => ⟨(HS.out.2.2.1 d hd).1, B.rnds_le I W0 d (HS.out.2.2.1 d hd).2 8⟩) HS.out.2.1 fb fc w.heap.size u17 m wc hmc (fun j u hj => by rw [Nat.zero_add]; exact own_cells HC.out.files j u hj) HC.out.texts)
          have HSUB : Hid (∀ l, B.Topo I l → (∀ d ∈ Dn, d ∈ l) → ∀ x, B.rnds I W0 8 x = true → x ∈ l) := hide fun l ht hd x hx => by
            have := B.rnds_sub (I := I) ht.closed (w := W0) (fun y hy => decide_eq_true (hd y (HS.out.2.2.2 y hy))) 8 x hx
            exact of_decide_eq_true this
          unfold modX Orders_ at HPK
          generalize B.rnds I W0 8 = W at HC HPK HSUB
          clear HS hmc
          go_wp2_with fail
          refine HPK.out.mono ?_
          rintro e w2 ⟨hb2, hcase⟩
          have HC2 := hide (HC.out.later hb2)
          clear HPK hb2
          rcases hcase with ⟨v, l, rfl, hvo, htopo, hwl, hdl⟩ | ⟨v, b, nn, rfl, hf, hb8, hWb, hnn, hpath⟩
          · obtain ⟨va, vc, rfl⟩ := own_form hvo
            have HTP := hide htopo
            have HVO := hide hvo
            have HWL := hide hwl
            have HSB := hide (HSUB.out l htopo hdl)
            have hl8 : l.length ≤ 8 := B.len_lt 8 _ (topo_nodup htopo).1 (topo_nodup htopo).2
            clear htopo hvo hwl hdl HSUB HC
            go_upto_block 14 with fail
            have HT0 : Hid (Told w ib wt w2.heap.size wc.heap.size I (.slice (some ⟨fb, 0, none⟩) 8 fc) u17 (.slice va l.length vc) Dn W l 0 (w2.alloc (.cells (bools (toldB l 0) 8) 92))) := hide ⟨HC2.out.later (below1 _ _), alloc_last _ _ _ rfl, owns_later HVO.out (below1 _ _)⟩
            have htb : wt < w2.heap.size := (Array.getElem?_eq_some_iff.1 HC2.out.want).1
            have htw : w.heap.size ≤ w2.heap.size := HC2.out.imp.2.size
            generalize w2.heap.size = tb at HT0 htb htw ⊢
            clear HC2 HVO
            go_wp2_with fail
            go_loopw [29] (fun i wr => ∃ k : Nat, k ≤ l.length ∧ i = .int .i64 k ∧ Hid (Told w ib wt tb wc.heap.size I (.slice (some ⟨fb, 0, none⟩) 8 fc) u17 (.slice va l.length vc) Dn W l k wr)) (fun i _ => l.length - (intOf i).toNat)
            case atStart => exact ⟨0, by omega, rfl, HT0⟩
            case round =>
              obtain ⟨k, hk, rfl, H⟩ := hrel
              clear HT0
              by_cases hlt : k < l.length
              · obtain ⟨lg, lc, e⟩ := own_some H.out.list (by omega)
                injection e with e1 _ e3
                subst e1 e3
                have c0 := own_cells H.out.list k (.string (xpath l[k])) (by simp [pcells, hlt])
                have hkI : (k : Int) < (l.length : Int) := by omega
                have hkI' : 0 ≤ (k : Int) ∧ (k : Int) < (l.length : Int) := ⟨by omega, hkI⟩
                obtain ⟨hp8, hpn, hpi⟩ := HTP.out.at_ (l.take k) l[k] (l.drop (k + 1)) (by rw [← List.drop_eq_getElem_cons hlt, List.take_append_drop])
                obtain ⟨t0, t1⟩ := H.out.cell l[k] hp8
                have tf : toldB l k l[k] = false := decide_eq_false hpn
                rw [tf] at t0
                obtain ⟨q0, -⟩ := H.out.st.cell l[k] hp8
                rw [(HWL.out l[k] (List.getElem_mem hlt)).2] at q0
                have HNX := hide (H.out.next (by omega) htw hlt)
                have HIN : Hid (∀ b, b < 8 → wr.cell? ⟨ib, l[k] * 8 + b, none⟩ = some (.bool (I l[k] b)) ∧ wr.cell? ⟨tb, b, none⟩ = some (.bool (toldB l k b)) ∧ (I l[k] b = true → toldB l k b = true)) := hide fun b hb => ⟨H.out.st.icell _ b hp8 hb, (H.out.cell b hb).1, fun h => decide_eq_true (hpi b hb h)⟩
                clear hpn hpi tf
                generalize l[k] = p at c0 t0 t1 q0 HNX HIN hp8
                obtain ⟨y0, -, -, ⟨y5, y6⟩, -, -⟩ := xpath_more p hp8
                obtain ⟨y7, -⟩ := xpath_facts p hp8
                have p1 : (p : Int) < 8 := by omega
                have p2 : (48 : Int) + p - 48 = p := by omega
                have p3 : ¬ (48 : Int) + p < 48 := by omega
                have p4 : ¬ (55 : Int) < 48 + p := by omega
                go_wp2_with fail
                go_loopw [31] (fun i wy => ∃ b : Nat, b ≤ 8 ∧ i = .int .i64 b ∧ wy = wr) (fun i _ => 8 - (intOf i).toNat)
                case atStart => exact ⟨0, by omega, rfl, rfl⟩
                case round =>
                  obtain ⟨b, hb, rfl, hwr⟩ := hrel
                  have hwr' := hwr.symm
                  clear hwr
                  subst hwr'
                  by_cases hblt : b < 8
                  · obtain ⟨d0, d1, d2⟩ := HIN.out b hblt
                    have b1 : (b : Int) < 8 := by omega
                    cases hI : I p b
                    · rw [hI] at d0
                      clear d2 hI
                      go_wp2_with fail
                      first
                        | exact ⟨⟨b + 1, by omega, by go_num, trivial⟩, by simp [intOf]; omega⟩
                        | (go_roundw
                           case rel => first | exact ⟨b + 1, by omega, by go_num, trivial⟩ | exact ⟨b + 1, by omega, by go_num, rfl⟩
                           case measure => simp [intOf]; omega)
                    · rw [hI] at d0
                      rw [d2 hI] at d1
                      clear d2 hI
                      go_wp2_with fail
                      first
                        | exact ⟨⟨b + 1, by omega, by go_num, trivial⟩, by simp [intOf]; omega⟩
                        | (go_roundw
                           case rel => first | exact ⟨b + 1, by omega, by go_num, trivial⟩ | exact ⟨b + 1, by omega, by go_num, rfl⟩
                           case measure => simp [intOf]; omega)
                  · have he : b = 8 := by omega
                    subst he
                    clear HIN
                    go_wp2_with fail
                    first
                      | exact ⟨⟨k + 1, by omega, by go_num, HNX⟩, by simp [intOf]; omega⟩
                      | (go_roundw
                         case rel => exact ⟨k + 1, by omega, by go_num, HNX⟩
                         case measure => simp [intOf]; omega)
              · have he : k = l.length := by omega
                subst he
                have g1 := H.out.told
                have g2 := H.out.st.want
                have hbe : bools (toldB l l.length) 8 = bools W 8 := bools_congr fun x hx => by
                  unfold toldB
                  rw [List.take_length]
                  cases hw : W x
                  · exact decide_eq_false fun hm => by have := (HWL.out x hm).2; rw [hw] at this; cases this
                  · exact decide_eq_true (HSB.out x hw)
                rw [hbe] at g1
                have heq := eq92 W
                have R := hide H.out.st.imp.2
                have hkI : ¬ ((l.length : Int) < (l.length : Int)) := by omega
                clear H hbe
                go_wp2_with (first
                  | refine wpList_load_want 92 _ rfl rfl tb rfl 92 (bools W 8) (0, 0) _ g1 Tryz.underlying92 rfl (by rw [bools_size]; kernel_rfl) ?_
                  | refine wpList_load_want 92 _ rfl rfl wt rfl 92 (bools W 8) (0, 0) _ g2 Tryz.underlying92 rfl (by rw [bools_size]; kernel_rfl) ?_)
                go_ret
                exact ⟨rfl, R.out⟩
          · obtain ⟨v', rfl, hf'⟩ : ∃ bb, v = .pointer (some ⟨bb, 0, none⟩) ∧ IsFault w2 v 10 0 (xpath b) ⟨#[]⟩ := by
              obtain ⟨bb, h1, h2⟩ := id hf
              exact ⟨bb, h1, hf⟩
            obtain ⟨x0, -⟩ := xpath_more b hb8
            go_wp2_with fail
            refine (kind_fault 10 (xpath b) ⟨#[]⟩ _ _ hf').mono ?_
            rintro e w3 ⟨rfl, hb3⟩
            have HC3 := hide (HC2.out.later hb3)
            clear hb3
            have g1 := HC3.out.imp.1
            have g2 := HC3.out.want
            have HRG := hide (ring_any I W b nn hb8 hnn hpath hWb w3)
            go_wp2_with (first
              | refine wpList_load_want 93 _ rfl rfl ib rfl 93 (bools (flat8 I) 64) (0, 0) _ g1 Tryz.underlying93 rfl (by rw [bools_size]; kernel_rfl) ?_
              | refine wpList_load_want 92 _ rfl rfl wt rfl 92 (bools W 8) (0, 0) _ g2 Tryz.underlying92 rfl (by rw [bools_size]; kernel_rfl) ?_
              | (go_at_call 42; refine HRG.out.mono ?_; rintro e w4 ⟨rfl, hb4⟩))
            have R := hide (HC3.out.later hb4).imp.2
            clear hb4
            go_wp2_with fail
            go_ret
            exact ⟨rfl, R.out⟩
end Go.Proofs.YtcfhleenecfghaaGreatDoor
