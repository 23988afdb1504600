/- The lines of any statements; what is read of any text. -/
import Derived.Test.YtcfhleenecfghaaGreatDoorXj
import Derived.Test.YtcfhleenecfghaaGreatDoorAnew
import Derived.Laws.MakeOwn
namespace Go.Proofs.YtcfhleenecfghaaGreatDoor
open Go.RowKit

/-- Lines as they lie in memory. -/
def lineV (x : Nat × List ByteArray) : Value := .iface x.1 (.agg (x.2.map Value.string).toArray)
def lineCells (l : List (Nat × Nat × List ByteArray)) : List Value := l.map fun x => lineV x.2
theorem lineCells_snoc (l : List (Nat × Nat × List ByteArray)) (k : Nat) (h : k < l.length) : lineCells (l.take (k + 1)) = lineCells (l.take k) ++ [lineV l[k].2] := by
  unfold lineCells
  rw [List.take_succ_eq_append_getElem h, List.map_append]; rfl
theorem lineV_cell (x : Nat × List ByteArray) : lineV x = .iface x.1 (.agg (x.2.map Value.string).toArray) := rfl

set_option maxHeartbeats 1600000 in
set_option maxRecDepth 100000 in
theorem linesOf_any (gg c : Nat) (l : List (Nat × Nat × List ByteArray)) (w : World) (hl : l.length ≤ 1000000000000) (ht : Stmts w gg l) :
    Calls Tryz.prog 95 #[.slice (some ⟨gg, 0, none⟩) l.length c] w fun e w' => ∃ v, e = .returned v ∧ w'.ownsRow w.heap.size 179 1 v l.length (lineCells l) ∧ Below w.heap.size w w' := by
  obtain ⟨i0, hi, hz0, hz1, hz2⟩ := info_parts info109
  obtain ⟨w1, hmk, hown1, hgr1⟩ := run_make_own (P := Tryz.prog) w w.heap.size 99 179 i0 .nilIface 1 Tryz.underlying99 hi hz0 hz1 .i64 .i64 l.length (by rw [hz2]; omega) (by unfold maxLen; omega) (Nat.le_refl _)
  have HT := hide ht
  have HW1 := hide hown1
  have HB1 : Hid (Below w.heap.size w w1) := hide ((Below.refl _ w).grown hgr1 (Nat.le_refl _) (fun k hk => by cases hk))
  have hs1 : w.heap.size < w1.heap.size := (hown1.lt _ rfl).2
  clear ht hown1 hgr1
  go_enter Tryz.func95, Tryz.ntmps95
  go_wp2
  go_loopw [3, 11] (fun v i wr => ∃ k : Nat, k ≤ l.length ∧ i = .int .i64 k ∧ Hid (wr.ownsRow w.heap.size 179 1 v k (lineCells (l.take k)) ∧ Below w.heap.size w wr)) (fun _ i _ => l.length - (intOf i).toNat)
  case atStart => exact ⟨0, by omega, rfl, hide ⟨HW1.out, HB1.out⟩⟩
  case round =>
    obtain ⟨k, hk, rfl, H⟩ := hrel
    obtain ⟨hown, hb⟩ := H.out
    have HO := hide hown
    have HB := hide hb
    clear H hown hb
    by_cases hlt : k < l.length
    · have c0 := keep HB.out (HT.out k hlt).1
      have c1 := keep HB.out (HT.out k hlt).2
      have HS := hide (lineCells_snoc l k hlt)
      have hgs : w.heap.size ≤ wr.heap.size := HB.out.size
      generalize l[k] = x at c0 c1 HS
      obtain ⟨n, t, fs⟩ := x
      simp only at c0 c1
      go_wp2_with (at_builtin; refine wpList_append_own _ rfl _ _ 99 rfl w.heap.size 179 i0 .nilIface 1 16 Tryz.underlying99 hi hz0 hz1 hz2 rfl (by decide) _ _ _ rfl ((HO.out.alloc _).alloc _) ⟨wr.heap.size + 1, 0, none⟩ 1 1 [lineV (t, fs)] rfl rfl ?c1 ?c2 ?c3 ?c4 ?c5 ?_)
      case c1 =>
        intro j u hj
        match j, hj with
        | 0, hj => simp at hj; subst hj; rfl
      case c2 => rfl
      case c3 => unfold maxLen; omega
      case c4 => omega
      case c5 => omega
      intro v' w2 hown' hgrow _
      have hb2 : Below w.heap.size w w2 := ((HB.out.alloc hgs _).alloc (by simp; omega) _).grown hgrow (by simp; omega) (fun k hk => (HO.out.lt k hk).1)
      have R : Hid (w2.ownsRow w.heap.size 179 1 v' (k + 1) (lineCells (l.take (k + 1))) ∧ Below w.heap.size w w2) := by
        refine hide ⟨?_, hb2⟩
        rw [HS.out]; exact hown'
      clear hgrow hown' hb2
      go_wp2
      first
        | exact ⟨⟨k + 1, by omega, by go_num, R⟩, by simp [intOf]; omega⟩
        | (go_roundw
           case rel => exact ⟨k + 1, by omega, by go_num, R⟩
           case measure => simp [intOf]; omega)
    · have hke : k = l.length := by omega
      subst hke
      rw [List.take_length] at HO
      go_wp2
      go_ret
      exact ⟨_, rfl, HO.out, HB.out⟩

theorem stmtCells_get (l : List (Nat × Nat × List ByteArray)) : ∀ j (h : j < l.length), (stmtCells l)[j * 2]? = some (.int .i64 (l[j].1 : Int)) ∧ (stmtCells l)[j * 2 + 1]? = some (.iface l[j].2.1 (.agg (l[j].2.2.map Value.string).toArray)) := by
  induction l with
  | nil => intro j hj; simp at hj
  | cons x xs ih =>
    intro j hj
    have e : stmtCells (x :: xs) = [.int .i64 (x.1 : Int), .iface x.2.1 (.agg (x.2.2.map Value.string).toArray)] ++ stmtCells xs := rfl
    match j with
    | 0 => exact ⟨rfl, rfl⟩
    | j + 1 =>
      have := ih j (by simp at hj; omega)
      rw [e]
      refine ⟨?_, ?_⟩
      · rw [List.getElem?_append_right (by simp; omega), List.getElem_cons_succ, ← this.1]; congr 1; simp; omega
      · rw [List.getElem?_append_right (by simp; omega), List.getElem_cons_succ, ← this.2]; congr 1; simp; omega
theorem stmts_of {w : World} {B : Nat} {v : Value} {l : List (Nat × Nat × List ByteArray)} (h : w.ownsRow B 301 2 v l.length (stmtCells l)) : (v = .slice none 0 0 ∧ l = []) ∨ ∃ gg c, v = .slice (some ⟨gg, 0, none⟩) l.length c ∧ l.length ≤ c ∧ Stmts w gg l := by
  have hc := fun g => h.cells (g := g)
  rcases h.2 with ⟨h1, h2⟩ | ⟨gg, c, cur, h1, _, _, h4, _⟩
  · exact Or.inl ⟨h1, List.length_eq_zero_iff.1 h2⟩
  · refine Or.inr ⟨gg, c, h1, h4, fun j hj => ?_⟩
    have h2 := hc gg (by rw [h1]; rfl)
    have h3 := stmtCells_get l j hj
    have a1 := h2 _ _ h3.1
    have a2 := h2 _ _ h3.2
    rw [add_off] at a1 a2
    exact ⟨a1, a2⟩

set_option maxHeartbeats 800000 in
set_option maxRecDepth 100000 in
theorem without_none (a : Option Addr) (c : Nat) (n : Int) (w : World) :
    Calls Tryz.prog 94 #[.slice a 0 c, .int .i64 n] w fun e w' => e = .returned (.slice a 0 c) ∧ w' = w := by
  go_enter Tryz.func94, Tryz.ntmps94
  go_wp2
  go_ret
  exact ⟨rfl, rfl⟩
set_option maxHeartbeats 800000 in
set_option maxRecDepth 100000 in
theorem check_none (a : Option Addr) (c : Nat) (w : World) :
    Calls Tryz.prog 93 #[.slice a 0 c] w fun e w' => e = .returned (.pointer none) ∧ Below w.heap.size w w' := by
  have hmm := @run_makeMap Tryz.prog
  go_enter Tryz.func93, Tryz.ntmps93
  go_wp2
  refine wp_loop_rounds 1 ?_
  rw [rounds_succ]
  go_wp2
  go_ret
  exact ⟨rfl, (Below.refl _ _).alloc (Nat.le_refl _) _⟩

/-- A text without an error. -/
def V.good (s : ByteArray) : Prop := (V.parse s).2 = 0 ∧ V.checkGo (V.parse s).1 [] = none
/-- What Read answers. -/
def ReadSays (s : ByteArray) (w : World) (e : Ending) (w' : World) : Prop :=
  (V.good s ∧ ∃ v, e = .returned (.tuple #[v, .nilIface]) ∧ w'.ownsRow w.heap.size 179 1 v (V.parse s).1.length (lineCells (V.parse s).1)) ∨
    (¬ V.good s ∧ ∃ b, e = .returned (.tuple #[.slice none 0 0, .iface 96 (.pointer (some ⟨b, 0, none⟩))]))
theorem V.held_fine {M : Nat} (hM : M ≤ 281474976710656) {x : Nat × Nat × List ByteArray} (h : V.Held M x) : V.Fine x := ⟨h.1, h.2.1, fun a ha => Nat.le_trans (h.2.2 a ha) hM⟩
theorem V.without_cases (l : List (Nat × Nat × List ByteArray)) (n : Nat) : V.without l n = l ∨ V.without l n = l.dropLast := by
  unfold V.without
  split
  · split
    · exact Or.inr rfl
    · exact Or.inl rfl
  · exact Or.inl rfl
theorem V.without_len (l : List (Nat × Nat × List ByteArray)) (n : Nat) : (V.without l n).length ≤ l.length := by
  rcases V.without_cases l n with e | e <;> rw [e]
  · exact Nat.le_refl _
  · simp
theorem V.without_get (l : List (Nat × Nat × List ByteArray)) (n : Nat) (j : Nat) (h : j < (V.without l n).length) : (V.without l n)[j] = l[j]'(Nat.lt_of_lt_of_le h (V.without_len l n)) := by
  rcases V.without_cases l n with e | e
  · exact List.getElem_of_eq e h
  · rw [List.getElem_of_eq e h, List.getElem_dropLast]
theorem V.without_mem (l : List (Nat × Nat × List ByteArray)) (n : Nat) : ∀ x ∈ V.without l n, x ∈ l := by
  intro x hx
  obtain ⟨j, hj, rfl⟩ := List.getElem_of_mem hx
  rw [V.without_get]; exact List.getElem_mem _
theorem V.without_zero {l : List (Nat × Nat × List ByteArray)} (h : ∀ x ∈ l, x.1 ≠ 0) : V.without l 0 = l := by
  unfold V.without
  split
  · rename_i x hx
    rw [if_neg (h x (List.mem_of_getLast? hx))]
  · rfl

set_option maxHeartbeats 1600000 in
set_option maxRecDepth 100000 in
theorem read_any (s : ByteArray) (m : Int) (w : World) (hs : s.size ≤ 1073741824) (hm : w.cell? ⟨0, 0, none⟩ = some (.int .i64 m)) :
    Calls Tryz.prog 45 #[.string s] w fun e w' => ReadSays s w e w' ∧ Below w.heap.size w w' := by
  have HF : Hid (∀ x ∈ (V.parse s).1, V.Fine x) := hide fun x hx => V.held_fine (by omega) (V.parse_held s x hx)
  have hcnt := V.parse_count s
  have HG : Hid (V.good s ↔ ((V.parse s).2 = 0 ∧ V.checkGo (V.without (V.parse s).1 (V.parse s).2) [] = none)) := by
    refine hide ⟨fun h => ⟨h.1, ?_⟩, fun h => ⟨h.1, ?_⟩⟩
    · rw [h.1, V.without_zero (fun x hx => (HF.out x hx).2.1)]; exact h.2
    · have := h.2
      rw [h.1, V.without_zero (fun x hx => (HF.out x hx).2.1)] at this; exact this
  have HE : Hid ((V.parse s).1 = [] → (V.parse s).2 ≠ 0) := by
    refine hide fun h0 h1 => ?_
    obtain ⟨p, r, hf, _⟩ := (V.parse_whole h1 (by rw [h0]; rfl)).first
    rw [h0] at hf; cases hf
  unfold ReadSays
  go_enter Tryz.func45, Tryz.ntmps45
  go_wp2_with fail
  refine (parse_any s m _ (by omega) hm).mono ?_
  rintro e w1 ⟨v, rfl, hown, hb1⟩
  obtain ⟨l, n, hP⟩ : ∃ l n, V.parse s = (l, n) := ⟨_, _, rfl⟩
  rw [hP] at HF HG HE hcnt hown ⊢
  simp only at HF HG HE hcnt hown ⊢
  have HP := hide hP
  clear hP
  have hll : l.length ≤ 1000000000000 := by omega
  have HB1 := hide hb1
  have hm1 := keep hb1 hm
  clear hb1
  by_cases hl0 : l = []
  · have hv : ∃ a c, v = .slice a 0 c := by
      subst hl0
      rcases hown.2 with ⟨h, _⟩ | ⟨gg, cap, cur, h, _⟩
      · exact ⟨_, _, h⟩
      · exact ⟨_, _, h⟩
    obtain ⟨a, c, rfl⟩ := hv
    have hn0 := HE.out hl0
    have hne : ((n : Int) != 0) = true := by rw [bne_iff_ne]; omega
    have HNG : Hid (¬ V.good s) := hide fun h => hn0 (HG.out.1 h).1
    clear hown
    go_wp2_with fail
    refine (without_none a c _ _).mono ?_
    rintro e w2 ⟨rfl, rfl⟩
    go_wp2_with fail
    refine (check_none a c _).mono ?_
    rintro e w3 ⟨rfl, hb3⟩
    have HB3 := hide (HB1.out.trans (hb3.mono HB1.out.size))
    clear hb3
    go_wp2
    go_ret2
    exact ⟨Or.inr ⟨HNG.out, _, rfl⟩, HB3.out.alloc HB3.out.size _⟩
  · rcases stmts_of hown with ⟨rfl, h⟩ | ⟨gg, c, rfl, hlc, hst⟩
    · exact absurd h hl0
    have HST := hide hst
    have HST' : Hid (Stmts w1 gg (V.without l n)) := by
      refine hide fun j hj => ?_
      have := hst j (Nat.lt_of_lt_of_le hj (V.without_len l n))
      rw [V.without_get]; exact this
    clear hst hown
    go_wp2_with fail
    refine (without_some gg c n l _ hll hlc hl0 HST.out).mono ?_
    rintro e w2 ⟨rfl, rfl⟩
    go_wp2_with fail
    refine (check_any gg c m (V.without l n) _ hm1 (Nat.le_trans (V.without_len l n) hll) HST'.out (fun x hx => HF.out x (V.without_mem l n x hx))).mono ?_
    rintro e w3 ⟨r, rfl, hr, hb3⟩
    have HB3 := hide (HB1.out.trans (hb3.mono HB1.out.size))
    have HST3 : Hid (Stmts w3 gg l) := hide fun j hj => ⟨keep hb3 (HST.out j hj).1, keep hb3 (HST.out j hj).2⟩
    clear hb3
    cases hck : V.checkGo (V.without l n) [] with
    | some f =>
      have HNG : Hid (¬ V.good s) := hide fun h => by have := (HG.out.1 h).2; rw [hck] at this; cases this
      rw [hck] at hr
      obtain ⟨k, q, fp, fq⟩ := f
      obtain ⟨b, hbl, rfl, hcell⟩ := hr
      clear hcell
      go_wp2
      go_ret2
      exact ⟨Or.inr ⟨HNG.out, b, rfl⟩, HB3.out⟩
    | none =>
      rw [hck] at hr
      obtain rfl : r = .pointer none := hr
      cases hn : ((n : Int) != 0)
      · have hn0 : n = 0 := by
          rw [bne_eq_false_iff_eq] at hn; omega
        have HY : Hid (V.good s) := hide (HG.out.2 ⟨hn0, hck⟩)
        go_wp2_with fail
        refine (linesOf_any gg c l _ hll HST3.out).mono ?_
        rintro e w4 ⟨v4, rfl, hown4, hb4⟩
        have HO4 : Hid (w4.ownsRow w.heap.size 179 1 v4 l.length (lineCells l)) := by
          refine hide ⟨hown4.1, ?_⟩
          rcases hown4.2 with h | ⟨g, cp, cur, h1, h2, h3⟩
          · exact Or.inl h
          · exact Or.inr ⟨g, cp, cur, h1, Nat.le_trans HB3.out.size h2, h3⟩
        have HB4 := hide (HB3.out.trans (hb4.mono HB3.out.size))
        obtain ⟨a4, n4, c4, rfl⟩ : ∃ a n c, v4 = .slice a n c := by
          rcases hown4.2 with ⟨h, _⟩ | ⟨g, cp, cur, h, _⟩
          · exact ⟨_, _, _, h⟩
          · exact ⟨_, _, _, h⟩
        clear hown4 hb4
        go_wp2
        go_ret2
        exact ⟨Or.inl ⟨HY.out, _, rfl, by rw [HP.out]; exact HO4.out⟩, HB4.out⟩
      · have HNG : Hid (¬ V.good s) := hide fun h => by
          have := (HG.out.1 h).1
          rw [bne_iff_ne] at hn; omega
        go_wp2
        go_ret2
        exact ⟨Or.inr ⟨HNG.out, _, rfl⟩, HB3.out.alloc HB3.out.size _⟩

end Go.Proofs.YtcfhleenecfghaaGreatDoor
