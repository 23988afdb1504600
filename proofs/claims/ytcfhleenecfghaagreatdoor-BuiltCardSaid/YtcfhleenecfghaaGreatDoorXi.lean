/- Any statements are checked. -/
import Derived.Test.YtcfhleenecfghaaGreatDoorXh
namespace Go.Proofs.YtcfhleenecfghaaGreatDoor
open Go.RowKit

/-- Statements that lie in memory. -/
def Stmts (w : World) (gg : Nat) (l : List (Nat × Nat × List ByteArray)) : Prop :=
  ∀ j (h : j < l.length), w.cell? ⟨gg, j * 2, none⟩ = some (.int .i64 (l[j].1 : Int)) ∧ w.cell? ⟨gg, j * 2 + 1, none⟩ = some (.iface l[j].2.1 (.agg (l[j].2.2.map Value.string).toArray))
/-- A statement with a number, of one of the four kinds, with words that are not too long. -/
def V.Fine (x : Nat × Nat × List ByteArray) : Prop := V.Sound x ∧ x.1 ≠ 0 ∧ ∀ a ∈ x.2.2, a.size ≤ 281474976710656
theorem V.Fine.keyable {x : Nat × Nat × List ByteArray} (h : V.Fine x) : V.Keyable (V.place x.2.1 x.2.2) := by
  obtain ⟨hx, _, hs⟩ := h
  obtain ⟨n, t, fs⟩ := x
  have e0 : (⟨#[]⟩ : ByteArray).size ≤ maxLen := by decide
  rcases hx with ⟨h1, a, h2⟩ | ⟨h1, a, b, h2⟩ | ⟨h1, a, b, h2⟩ | ⟨h1, a, b, c, d, h2⟩
  all_goals
    simp only at h1 h2
    subst h1 h2
  · exact ⟨by show (Lit.int .i64 0).wf = true; decide, by have := hs a (by simp); show a.size ≤ maxLen; unfold maxLen; omega, e0⟩
  · exact ⟨by show (Lit.int .i64 1).wf = true; decide, by have := hs a (by simp); show a.size ≤ maxLen; unfold maxLen; omega, e0⟩
  · exact ⟨by show (Lit.int .i64 2).wf = true; decide, by have := hs a (by simp); show a.size ≤ maxLen; unfold maxLen; omega, by have := hs b (by simp); show b.size ≤ maxLen; unfold maxLen; omega⟩
  · exact ⟨by show (Lit.int .i64 3).wf = true; decide, by have := hs a (by simp); show a.size ≤ maxLen; unfold maxLen; omega, by have := hs b (by simp); show b.size ≤ maxLen; unfold maxLen; omega⟩

/-- How things stand ahead of a statement. -/
def Checking (l : List (Nat × Nat × List ByteArray)) (w : World) (k : Nat) (wr : World) : Prop :=
  ∃ seen : List ((Int × ByteArray × ByteArray) × Nat), wr.heap[w.heap.size]? = some (.map (takenEntries seen) seen.length) ∧ (∀ y ∈ seen, V.Keyable y.1 ∧ y.2 ≠ 0) ∧ Below w.heap.size w wr ∧ V.checkGo l [] = V.checkGo (l.drop k) seen

set_option maxHeartbeats 3200000 in
set_option maxRecDepth 100000 in
theorem check_any (gg c : Nat) (m : Int) (l : List (Nat × Nat × List ByteArray)) (w : World) (hm : w.cell? ⟨0, 0, none⟩ = some (.int .i64 m)) (hl : l.length ≤ 1000000000000) (ht : Stmts w gg l) (hf : ∀ x ∈ l, V.Fine x) :
    Calls Tryz.prog 93 #[.slice (some ⟨gg, 0, none⟩) l.length c] w fun e w' => ∃ r, e = .returned r ∧ FaultAt w.heap.size w' r (V.checkGo l []) ∧ Below w.heap.size w w' := by
  have hmm := @run_makeMap Tryz.prog
  have HT := hide ht
  have HF := hide hf
  clear ht hf
  go_enter Tryz.func93, Tryz.ntmps93
  go_wp2
  go_loopw [11] (fun i wr => ∃ k : Nat, k ≤ l.length ∧ i = .int .i64 k ∧ Hid (Checking l w k wr)) (fun i _ => l.length - (intOf i).toNat)
  case atStart => exact ⟨0, by omega, rfl, hide ⟨[], heap_alloc_new w _, fun y hy => absurd hy (List.not_mem_nil), (Below.refl _ _).alloc (Nat.le_refl _) _, by rw [List.drop_zero]⟩⟩
  case round =>
    obtain ⟨k, hk, rfl, H⟩ := hrel
    obtain ⟨seen, hmap, hseen, hb, hgo⟩ := H.out
    have HMAP := hide hmap
    have HSEEN := hide hseen
    have HB := hide hb
    have HGO := hide hgo
    have hszr : w.heap.size < wr.heap.size := (Array.getElem?_eq_some_iff.1 hmap).1
    clear H hmap hseen hb hgo
    by_cases hlt : k < l.length
    · have c0 := keep HB.out (HT.out k hlt).1
      have c1 := keep HB.out (HT.out k hlt).2
      have HFK := hide (HF.out l[k] (List.getElem_mem hlt))
      have HD : Hid (l.drop k = l[k] :: l.drop (k + 1)) := hide (List.drop_eq_getElem_cons hlt)
      have hggl : gg < wr.heap.size := World.block_lt_of_cell? (h := c0)
      generalize l[k] = x at c0 c1 HFK HD
      obtain ⟨n, t, fs⟩ := x
      simp only at c0 c1
      go_wp2_with fail
      refine (checkWords_any n t fs m _ HFK.out.1 HFK.out.2.2 (keepA (keep HB.out hm) _)).mono ?_
      rintro e w2 ⟨r, rfl, hr, hb2⟩
      have s0 : w2.cell? ⟨wr.heap.size, 0, none⟩ = some (.int .i64 (n : Int)) := keep hb2 (by simp)
      have s1 : w2.cell? ⟨wr.heap.size, 1, none⟩ = some (.iface t (.agg (fs.map Value.string).toArray)) := keep hb2 (by simp)
      have hs2 : wr.heap.size + 1 ≤ w2.heap.size := by have := hb2.size; simpa using this
      have HMAP2 : Hid (w2.heap[w.heap.size]? = some (.map (takenEntries seen) seen.length)) := by
        refine hide ?_
        rw [hb2.block w.heap.size (by simp; omega), Below.heap_alloc _ _ _ hszr]; exact HMAP.out
      have HB2 := hide ((HB.out.alloc (Nat.le_of_lt hszr) _).trans (hb2.mono (by simp; omega)))
      clear hb2 c0 c1
      cases hfw : V.fWords t fs with
      | some f =>
        obtain ⟨fk, fn, fp, fq⟩ := f
        have HY : Hid (V.checkGo l [] = some (fk, (n : Int), fp, fq)) := by
          refine hide ?_
          rw [HGO.out, HD.out, V.checkGo]
          simp only [hfw]
        rw [hfw] at hr
        obtain ⟨b, hbl, rfl, hcell⟩ := hr
        have d1 : w2.cell? ⟨b, 1, none⟩ = some (.int .i64 fn) := by rw [Lib.cell_of_heap hcell]; rfl
        have f1 : w2.frozen? ⟨b, 1, none⟩ = false := Lib.frozen_of_heap hcell 1
        have HC := hide hcell
        have hbl' : wr.heap.size + 1 ≤ b := by simpa using hbl
        clear hcell hbl
        go_wp2
        go_ret
        refine ⟨_, rfl, ?_, HB2.out.setCell (p := ⟨b, 1, none⟩) (by show w.heap.size ≤ b; omega) _⟩
        rw [HY.out]
        refine ⟨b, by omega, rfl, ?_⟩
        rw [heap_setCell_same _ _ _ _ _ _ HC.out]; rfl
      | none =>
        rw [hfw] at hr
        obtain rfl : r = .pointer none := hr
        have HW := hide hfw
        clear hfw
        go_wp2_with fail
        refine (placeOf_any n t fs _ HFK.out.1).mono ?_
        rintro e w3 ⟨rfl, hb3, _⟩
        have HKEY := hide HFK.out.keyable
        have hnz : n ≠ 0 := HFK.out.2.1
        have HG : Hid (V.checkGo l [] = if seen.any (fun y => decide (y.1 = V.place t fs)) then some (4, (n : Int), ⟨#[]⟩, ⟨#[]⟩) else V.checkGo (l.drop (k + 1)) (seen ++ [(V.place t fs, n)])) := by
          refine hide ?_
          rw [HGO.out, HD.out, V.checkGo]
          simp only [HW.out]
        simp only at HKEY
        generalize V.place t fs = pl at HKEY HG ⊢
        obtain ⟨pr, pp, pv⟩ := pl
        rw [placeV]
        simp only
        have hs3 : w2.heap.size ≤ w3.heap.size := hb3.size
        have hm4 : (w3.alloc (.cells #[.int .i64 pr, .string pp, .string pv] 184)).heap[w.heap.size]? = some (.map (takenEntries seen) seen.length) := by
          rw [Below.heap_alloc _ _ _ (by omega), hb3.block w.heap.size (by omega)]; exact HMAP2.out
        have s0' := keep hb3 s0
        have s0'' := keepA s0' (.cells #[.int .i64 pr, .string pp, .string pv] 184)
        have HB3 := hide (HB2.out.trans (hb3.mono HB2.out.size))
        have HB4 := hide (HB3.out.alloc HB3.out.size (.cells #[.int .i64 pr, .string pp, .string pv] 184))
        clear hb3 s0 s1
        rcases look_place w.heap.size seen.length seen (pr, pp, pv) _ HKEY.out (fun y hy => (HSEEN.out y hy).1) hm4 with ⟨hlk, hno⟩ | ⟨y, hy, hyp, hlk⟩
        · have hup := put_place w.heap.size seen (pr, pp, pv) n _ HKEY.out (fun y hy => (HSEEN.out y hy).1) hno hm4
          have HY : Hid (V.checkGo l [] = V.checkGo (l.drop (k + 1)) (seen ++ [((pr, pp, pv), n)])) := by
            refine hide ?_
            rw [HG.out, if_neg]
            rw [Bool.not_eq_true, List.any_eq_false]
            intro y hy
            simpa using hno y hy
          have R : Hid (Checking l w (k + 1) { w3.alloc (.cells #[.int .i64 pr, .string pp, .string pv] 184) with heap := (w3.alloc (.cells #[.int .i64 pr, .string pp, .string pv] 184)).heap.setIfInBounds w.heap.size (.map (takenEntries (seen ++ [((pr, pp, pv), n)])) (seen.length + 1)) }) := by
            refine hide ⟨seen ++ [((pr, pp, pv), n)], ?_, ?_, below_set HB4.out (Nat.le_refl _) _, HY.out⟩
            · rw [List.length_append]
              exact Array.getElem?_setIfInBounds_self_of_lt (Array.getElem?_eq_some_iff.1 hm4).1
            · intro y hy
              rcases List.mem_append.1 hy with hy | hy
              · exact HSEEN.out y hy
              · rw [List.mem_singleton.1 hy]; exact ⟨HKEY.out, hnz⟩
          simp only [placeV] at hlk hup
          clear hno hm4
          go_wp2
          first
            | exact ⟨⟨k + 1, by omega, by go_num, R⟩, by simp [intOf]; omega⟩
            | (go_roundw
               case rel => exact ⟨k + 1, by omega, by go_num, R⟩
               case measure => simp [intOf]; omega)
        · have hy2 : ((y.2 : Int) != 0) = true := by
            have := (HSEEN.out y hy).2
            rw [bne_iff_ne]; omega
          have HY : Hid (V.checkGo l [] = some (4, (n : Int), ⟨#[]⟩, ⟨#[]⟩)) := by
            refine hide ?_
            rw [HG.out, if_pos]
            rw [List.any_eq_true]
            exact ⟨y, hy, by simpa using hyp⟩
          simp only [placeV] at hlk
          clear hm4 hyp hy
          go_wp2
          go_ret
          refine ⟨_, rfl, ?_, HB4.out.alloc HB4.out.size _⟩
          rw [HY.out]
          refine ⟨w3.heap.size + 1, Nat.le_succ_of_le HB3.out.size, rfl, ?_⟩
          have h := heap_alloc_new (w3.alloc (.cells #[.int .i64 pr, .string pp, .string pv] 184)) (.cells #[.int .i64 4, .int .i64 (n : Int), .string ⟨#[]⟩, .string ⟨#[]⟩] 150)
          rw [show (w3.alloc (.cells #[.int .i64 pr, .string pp, .string pv] 184)).heap.size = w3.heap.size + 1 from by simp] at h
          exact h
    · have HY : Hid (V.checkGo l [] = none) := by
        refine hide ?_
        rw [HGO.out, List.drop_of_length_le (by omega)]; rfl
      go_wp2
      go_ret
      exact ⟨_, rfl, by rw [HY.out]; rfl, HB.out⟩

end Go.Proofs.YtcfhleenecfghaaGreatDoor
