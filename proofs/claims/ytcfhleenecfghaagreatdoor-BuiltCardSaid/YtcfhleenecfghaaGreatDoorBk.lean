/- The library of the law's files. -/
import Derived.Test.YtcfhleenecfghaaGreatDoorBi
import Derived.Test.YtcfhleenecfghaaGreatDoorBj
namespace Go.Proofs.YtcfhleenecfghaaGreatDoor
open Go.RowKit Go.Sort

theorem make270 (w : World) : (Instr.makeMap 270 none).run Tryz.prog w = .ok (.map (some w.heap.size)) (w.alloc (.map #[] 0)) := by kernel_rfl
theorem LibAt.later {B lb mb : Nat} {F : Nat → ByteArray} {k : Nat} {w w' : World} (h : LibAt B lb mb F k w) (hb : Below w.heap.size w w') : LibAt B lb mb F k w' := by
  obtain ⟨sv, ss, h1, h2, h3, h4⟩ := h
  have hs : ∀ {b : Nat} {x : Obj}, w.heap[b]? = some x → w'.heap[b]? = some x := fun h => by rw [hb.block _ (Array.getElem?_eq_some_iff.1 h).1]; exact h
  refine ⟨sv, ss, hs h1, hs h2, owns_later h3 hb, fun a ha => ?_⟩
  obtain ⟨v, hv, g, c, cur, g1, g2, g3, g4⟩ := h4 a ha
  exact ⟨v, hv, g, c, cur, g1, g2, hs g3, g4⟩
/-- How the library stands in its making. -/
structure LibRun (w : World) (F : Nat → ByteArray) (cg cc k : Nat) (wr : World) : Prop where
  lib : LibAt (w.heap.size + 3) (w.heap.size + 2) (w.heap.size + 1) F k wr
  res : wr.heap[w.heap.size]? = some (.cells #[.map none, .slice none 0 0] 272 (0, 0))
  mod : ∃ fv, wr.heap[w.heap.size + 3]? = some (.cells #[.string sX, fv] 280 (0, 0))
  own : wr.ownsRow (w.heap.size + 3) 77 2 (.slice (some ⟨cg, 0, none⟩) 8 cc) 8 (fcells F 8)
  below : Below w.heap.size w wr
theorem LibRun.later {w : World} {F : Nat → ByteArray} {cg cc k : Nat} {wr w' : World} (h : LibRun w F cg cc k wr) (hb : Below wr.heap.size wr w') : LibRun w F cg cc k w' := by
  have hs : ∀ {b : Nat} {x : Obj}, wr.heap[b]? = some x → w'.heap[b]? = some x := fun h => by rw [hb.block _ (Array.getElem?_eq_some_iff.1 h).1]; exact h
  obtain ⟨fv, hf⟩ := h.mod
  exact ⟨h.lib.later hb, hs h.res, ⟨fv, hs hf⟩, owns_later h.own hb, h.below.trans (hb.mono h.below.size)⟩
theorem LibRun.size {w : World} {F : Nat → ByteArray} {cg cc k : Nat} {wr : World} (h : LibRun w F cg cc k wr) : w.heap.size + 3 < wr.heap.size := by
  obtain ⟨fv, hf⟩ := h.mod
  exact (Array.getElem?_eq_some_iff.1 hf).1
theorem LibRun.next {w : World} {F : Nat → ByteArray} {cg cc k : Nat} {wr w' : World} (h : LibRun w F cg cc k wr) (hl : LibAt (w.heap.size + 3) (w.heap.size + 2) (w.heap.size + 1) F (k + 1) w') (hk : AddKept (w.heap.size + 3) (w.heap.size + 2) (w.heap.size + 1) wr w') : LibRun w F cg cc (k + 1) w' := by
  have hsz := h.size
  obtain ⟨fv, hf⟩ := h.mod
  refine ⟨hl, ?_, ⟨fv, ?_⟩, ⟨h.own.1, ?_⟩, ⟨hk.os.trans h.below.os, hk.tape.trans h.below.tape, hk.output.trans h.below.output, Nat.le_trans h.below.size hk.size, fun b hb => ?_⟩⟩
  · rw [hk.block _ (by omega) (by omega) (by omega) (Or.inl (by omega))]; exact h.res
  · rw [hk.block _ (by omega) (by omega) (by omega) (Or.inr fun cur e => by rw [hf] at e; cases e)]; exact hf
  · rcases h.own.2 with h0 | ⟨g, cap, cur, e, h1, h2, h3⟩
    · exact Or.inl h0
    · exact Or.inr ⟨g, cap, cur, e, h1, by rw [hk.block g (Array.getElem?_eq_some_iff.1 h2).1 (by omega) (by omega) (Or.inr fun cur' e => by rw [h2] at e; cases e)]; exact h2, h3⟩
  · rw [hk.block b (Nat.lt_of_lt_of_le hb h.below.size) (by omega) (by omega) (Or.inl (by omega))]; exact h.below.block b hb
/-- The finished library. -/
def Library (B : Nat) (F : Nat → ByteArray) (w : World) (v : Value) : Prop :=
  ∃ mb sv ss, v = .agg #[.map (some mb), sv] ∧ mb < w.heap.size ∧ w.heap[mb]? = some (.map (libEntries 8) 8) ∧ w.ownsRow B 73 1 sv 8 ss ∧ ∀ a, a < 8 → ∃ u, ss[a]? = some u ∧ Src w B F a u

set_option maxHeartbeats 3200000 in
set_option maxRecDepth 100000 in
theorem libraryOf_law (g c fb fc : Nat) (F : Nat → ByteArray) (w : World) (h0 : w.cell? ⟨g, 0, none⟩ = some (.string sX)) (h1 : w.cell? ⟨g, 1, none⟩ = some (.slice (some ⟨fb, 0, none⟩) 8 fc))
    (hc : ∀ j u, (fcells F 8)[j]? = some u → w.cell? ⟨fb, 0 + j, none⟩ = some u) :
    Calls Tryz.prog 163 #[.slice (some ⟨g, 0, none⟩) 1 c] w fun e w' => ∃ v, e = .returned v ∧ Library w.heap.size F w' v ∧ Below w.heap.size w w' := by
  have hm := make270
  have hgw : g < w.heap.size := World.block_lt_of_cell? (h := h0)
  generalize hW : (((w.alloc (Obj.cells #[Value.map none, Value.slice none 0 0] 272)).alloc (Obj.map #[] 0)).alloc (Obj.cells #[Value.map (some (w.heap.size + 1)), Value.slice none 0 0] 272)) = W
  have hbW : Below w.heap.size w W := by rw [← hW]; exact below3 _ _ _ _
  have hsW : W.heap.size = w.heap.size + 3 := by rw [← hW]; simp only [alloc_size]
  have w0 : W.heap[w.heap.size]? = some (.cells #[.map none, .slice none 0 0] 272 (0, 0)) := by
    rw [← hW, alloc_else _ _ _ (by simp only [alloc_size]; omega)]; exact heap2_0 _ _ _
  have w1 : W.heap[w.heap.size + 1]? = some (.map (libEntries 0) 0) := by
    rw [← hW, alloc_else _ _ _ (by simp only [alloc_size]; omega)]; exact alloc_last _ _ _ (by simp only [alloc_size])
  have w2 : W.heap[w.heap.size + 2]? = some (.cells #[.map (some (w.heap.size + 1)), .slice none 0 0] 272 (0, 0)) := by
    rw [← hW]; exact alloc_last _ _ _ (by simp only [alloc_size])
  have c0 : W.cell? ⟨g, 0, none⟩ = some (.string sX) := by rw [← h0]; exact hbW.cell (p := ⟨g, 0, none⟩) hgw
  have c1 : W.cell? ⟨g, 1, none⟩ = some (.slice (some ⟨fb, 0, none⟩) 8 fc) := by rw [← h1]; exact hbW.cell (p := ⟨g, 1, none⟩) hgw
  have HF : Hid (∀ j u, (fcells F 8)[j]? = some u → (W.alloc (.cells #[.string sX, .slice (some ⟨fb, 0, none⟩) 8 fc] 280)).cell? ⟨fb, 0 + j, none⟩ = some u) := hide fun j u hj => by
    have hh := hc j u hj
    exact keepA (by rw [← hh]; exact hbW.cell (p := ⟨fb, 0 + j, none⟩) (World.block_lt_of_cell? (h := hh))) _
  have HL : Hid (∀ cg cc w', w'.ownsRow (w.heap.size + 3 + 1) 77 2 (.slice (some ⟨cg, 0, none⟩) 8 cc) 8 (fcells F 8) → Below (w.heap.size + 3 + 1) (W.alloc (.cells #[.string sX, .slice (some ⟨fb, 0, none⟩) 8 fc] 280)) w' → LibRun w F cg cc 0 w') := by
    refine hide fun cg cc w' ho hb => ?_
    have hs : ∀ {b : Nat} {x : Obj}, W.heap[b]? = some x → w'.heap[b]? = some x := fun {b x} h => by
      have hlt : b < W.heap.size := (Array.getElem?_eq_some_iff.1 h).1
      rw [hb.block b (by omega), alloc_else _ _ _ hlt]; exact h
    refine ⟨⟨.slice none 0 0, [], hs w2, hs w1, World.ownsRow_nil _ _ _ _, fun a ha => by omega⟩, hs w0, ⟨.slice (some ⟨fb, 0, none⟩) 8 fc, ?_⟩, ⟨ho.1, ?_⟩, ?_⟩
    · rw [hb.block _ (by omega)]; exact alloc_last _ _ _ hsW.symm
    · rcases ho.2 with h | ⟨g, cap, cur, e, h1, h2⟩
      · exact Or.inl h
      · exact Or.inr ⟨g, cap, cur, e, by omega, h2⟩
    · exact (hbW.alloc (by omega) _).trans (hb.mono (by omega))
  have HM : Hid (∀ a b, Below (w.heap.size + 3 + 1) a b → Below (w.heap.size + 3 + 1) a b) := hide fun _ _ h => h
  clear w0 w1 w2 hbW h0 h1 hc hgw HM
  have HW := hide hW
  clear hW
  go_enter Tryz.func163, Tryz.ntmps163
  go_wp2_with fail
  rw [HW.out]
  go_loopw [12] (fun i wr => (i = .int .i64 0 ∧ wr = W) ∨ (i = .int .i64 1 ∧ ∃ cg cc, Hid (LibRun w F cg cc 8 wr))) (fun i _ => 1 - (intOf i).toNat)
  case atStart => exact Or.inl ⟨rfl, rfl⟩
  case round =>
    rcases hrel with ⟨rfl, hwr⟩ | ⟨rfl, cg, cc, H⟩
    · have hwr' := hwr.symm
      clear hwr
      subst hwr'
      have HS := hide hsW
      clear hsW
      go_wp2_with fail
      refine (inOrder_law fb fc F _ HF.out).mono ?_
      rintro e w1 ⟨cg, cc, rfl, hown, hb1⟩
      have H0 := hide (HL.out cg cc w1 (by rw [alloc_size, HS.out] at hown; exact hown) (by rw [alloc_size, HS.out] at hb1; exact hb1))
      clear hown hb1 HF HL
      go_wp2_with fail
      go_loopw [20] (fun i wr => ∃ k : Nat, k ≤ 8 ∧ i = .int .i64 k ∧ Hid (LibRun w F cg cc k wr)) (fun i _ => 8 - (intOf i).toNat)
      case atStart => exact ⟨0, by omega, rfl, H0⟩
      case round =>
        obtain ⟨k, hk, rfl, H⟩ := hrel
        by_cases hlt : k < 8
        · obtain ⟨c2, c3⟩ := files_of H.out.own k hlt
          have hk8 : (k : Int) < 8 := by omega
          have HSZ := hide H.out.size
          obtain ⟨fv, hf⟩ := H.out.mod
          have m0 : wr.cell? ⟨W.heap.size, 0, none⟩ = some (.string sX) := by rw [HS.out, Lib.cell_of_heap hf]; rfl
          have m1 := keepA m0 (.cells #[.string (fname k), .string (F k)] 77)
          have HA := hide (H.out.later (below1 wr (.cells #[.string (fname k), .string (F k)] 77)))
          have b0 : (wr.alloc (.cells #[.string (fname k), .string (F k)] 77)).cell? ⟨wr.heap.size, 0, none⟩ = some (.string (fname k)) := by rw [Lib.cell_of_heap (alloc_last _ _ _ rfl)]; rfl
          have b1 : (wr.alloc (.cells #[.string (fname k), .string (F k)] 77)).cell? ⟨wr.heap.size, 1, none⟩ = some (.string (F k)) := by rw [Lib.cell_of_heap (alloc_last _ _ _ rfl)]; rfl
          clear hf m0 H
          go_wp2_with (go_at_call 232; refine (isSource_any k hlt _).mono ?_; rintro e w' ⟨rfl, rfl⟩)
          have HST : Hid (∀ (X w1 : World), Below X.heap.size X w1 → X.heap = (wr.alloc (.cells #[.string (fname k), .string (F k)] 77)).heap → X.os = wr.os → X.tape = wr.tape → X.output = wr.output →
              LibRun w F cg cc k w1 ∧ w1.cell? ⟨W.heap.size, 0, none⟩ = some (.string sX) ∧ w1.cell? ⟨wr.heap.size, 0, none⟩ = some (.string (fname k)) ∧ w1.cell? ⟨wr.heap.size, 1, none⟩ = some (.string (F k))) := by
            refine hide fun X w1 hb e1 e2 e3 e4 => ?_
            have hb' : Below (wr.alloc (.cells #[.string (fname k), .string (F k)] 77)).heap.size (wr.alloc (.cells #[.string (fname k), .string (F k)] 77)) w1 :=
              ⟨hb.os.trans e2, hb.tape.trans e3, hb.output.trans e4, by rw [← e1]; exact hb.size, fun b h => by rw [hb.block b (by rw [e1]; exact h), e1]⟩
            exact ⟨HA.out.later hb', keep hb' m1, keep hb' b0, keep hb' b1⟩
          have HADD : Hid (∀ w1, LibRun w F cg cc k w1 → Calls Tryz.prog 233 #[.pointer (some ⟨w.heap.size + 2, 0, none⟩), plV (plOf k), .agg #[.string (fname k), .string (F k)]] w1 fun e w' => e = .returned (.tuple #[]) ∧ LibRun w F cg cc (k + 1) w') := by
            refine hide fun w1 h1 => ?_
            refine (libAdd_any _ _ _ k F w1 hlt (by omega) (by omega) (by have := h1.size; omega) (by omega) h1.lib).mono ?_
            rintro e w' ⟨rfl, h2, h3⟩
            exact ⟨rfl, h1.next h2 h3⟩
          unfold plV plOf at HADD
          simp only at HADD
          go_region_with (first
            | (go_at_call 234; refine (directory_any k hlt _).mono ?_; rintro e w1 ⟨rfl, hb1⟩; obtain ⟨hr1, t0, t1, t2⟩ := HST.out _ w1 hb1 rfl rfl rfl rfl; have HR1 := hide hr1; clear hr1 hb1)
            | (go_at_call 233; refine (HADD.out _ HR1.out).mono ?_; rintro e w2 ⟨rfl, hr2⟩; have HR2 := hide hr2; clear hr2))
          all_goals
            go_wp2
            first
              | exact ⟨⟨k + 1, by omega, by go_num, HR2⟩, by simp [intOf]; omega⟩
              | (go_roundw
                 case rel => exact ⟨k + 1, by omega, by go_num, HR2⟩
                 case measure => simp [intOf]; omega)
        · have he : k = 8 := by omega
          subst he
          go_wp2
          first
            | exact ⟨Or.inr ⟨rfl, cg, cc, H⟩, by simp [intOf]⟩
            | (go_roundw
               case rel => exact Or.inr ⟨rfl, cg, cc, H⟩
               case measure => simp [intOf])
    · have HR := hide H.out.res
      obtain ⟨sv, ss, hl, hmap, hown, hsrc⟩ := H.out.lib
      have l0 : wr.cell? ⟨w.heap.size + 2, 0, none⟩ = some (.map (some (w.heap.size + 1))) := by rw [Lib.cell_of_heap hl]; rfl
      have l1 : wr.cell? ⟨w.heap.size + 2, 1, none⟩ = some sv := by rw [Lib.cell_of_heap hl]; rfl
      have r0 : wr.cell? ⟨w.heap.size, 0, none⟩ = some (.map none) := by rw [Lib.cell_of_heap HR.out]; rfl
      have r1 : wr.cell? ⟨w.heap.size, 1, none⟩ = some (.slice none 0 0) := by rw [Lib.cell_of_heap HR.out]; rfl
      have f0 : wr.frozen? ⟨w.heap.size, 0, none⟩ = false := Lib.frozen_of_heap HR.out 0
      have f1 : wr.frozen? ⟨w.heap.size, 1, none⟩ = false := Lib.frozen_of_heap HR.out 1
      obtain ⟨sa, sc, rfl⟩ := own_form hown
      have D := hide (heap_setCell_same _ _ 1 _ _ (.slice sa 8 sc) (heap_setCell_same _ _ 0 _ _ (.map (some (w.heap.size + 1))) HR.out))
      have HX := hide (show wr.heap[w.heap.size + 1]? = some (.map (libEntries 8) 8) ∧ wr.ownsRow (w.heap.size + 3) 73 1 (.slice sa 8 sc) 8 ss ∧ (∀ a, a < 8 → ∃ v, ss[a]? = some v ∧ Src wr (w.heap.size + 3) F a v) ∧ Below w.heap.size w wr from ⟨hmap, hown, hsrc, H.out.below⟩)
      clear hl hmap hown hsrc H
      go_wp2
      (try simp only [Exit.inBlock, Exit.then])
      refine bodyPost_ret (results_cell_row rfl _ _ w.heap.size 272 #[.map (some (w.heap.size + 1)), .slice sa 8 sc] (0, 0) _ rfl D.out Tryz.underlying272 rfl (by kernel_rfl)) rfl ?_
      have hne : ∀ b, b ≠ w.heap.size → ((wr.setCell ⟨w.heap.size, 0, none⟩ (.map (some (w.heap.size + 1)))).setCell ⟨w.heap.size, 1, none⟩ (.slice sa 8 sc)).heap[b]? = wr.heap[b]? := fun b hb => by
        rw [Below.heap_setCell _ _ _ _ hb, Below.heap_setCell _ _ _ _ hb]
      have hmap' : ((wr.setCell ⟨w.heap.size, 0, none⟩ (.map (some (w.heap.size + 1)))).setCell ⟨w.heap.size, 1, none⟩ (.slice sa 8 sc)).heap[w.heap.size + 1]? = some (.map (libEntries 8) 8) := by
        rw [hne _ (by omega)]; exact HX.out.1
      refine ⟨_, rfl, ⟨w.heap.size + 1, .slice sa 8 sc, ss, rfl, (Array.getElem?_eq_some_iff.1 hmap').1, hmap', ⟨HX.out.2.1.1, ?_⟩, fun a ha => ?_⟩, ((HX.out.2.2.2).setCell (p := ⟨w.heap.size, 0, none⟩) (Nat.le_refl _) _).setCell (p := ⟨w.heap.size, 1, none⟩) (Nat.le_refl _) _⟩
      · rcases HX.out.2.1.2 with h | ⟨gg, cap, cur, e, h1, h2, h3⟩
        · exact Or.inl h
        · exact Or.inr ⟨gg, cap, cur, e, by omega, by rw [hne gg (by omega)]; exact h2, h3⟩
      · obtain ⟨u, hu, gg, cap, cur, e, h1, h2, h3⟩ := HX.out.2.2.1 a ha
        exact ⟨u, hu, gg, cap, cur, e, by omega, by rw [hne gg (by omega)]; exact h2, h3⟩
end Go.Proofs.YtcfhleenecfghaaGreatDoor
