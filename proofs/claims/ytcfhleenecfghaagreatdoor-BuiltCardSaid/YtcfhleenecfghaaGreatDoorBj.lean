/- The law's files in order: they are so already. -/
import Derived.Test.YtcfhleenecfghaaGreatDoorBg
import Derived.Lib.QuietBelow
import Derived.Deep.RegionWith
import Derived.Deep.QuietTactic
namespace Go.Proofs.YtcfhleenecfghaaGreatDoor
open Go.RowKit Go.Sort

/-- The cells of the first so many files. -/
def fcells (F : Nat → ByteArray) (n : Nat) : List Value := (List.range n).flatMap fun a => [.string (fname a), .string (F a)]
theorem fcells_succ (F : Nat → ByteArray) (n : Nat) : fcells F (n + 1) = fcells F n ++ [.string (fname n), .string (F n)] := by
  unfold fcells; rw [List.range_succ, List.flatMap_append]; simp
theorem fcells_len (F : Nat → ByteArray) : ∀ n, (fcells F n).length = n * 2
  | 0 => rfl
  | n + 1 => by rw [fcells_succ, List.length_append, fcells_len F n]; simp; omega
theorem fcells_one (F : Nat → ByteArray) (n : Nat) : ∀ u ∈ fcells F n, u.oneCell' = true := by
  intro u hu
  unfold fcells at hu
  obtain ⟨f, _, hf⟩ := List.mem_flatMap.1 hu
  simp at hf
  rcases hf with rfl | rfl <;> rfl
theorem fcells_at (F : Nat → ByteArray) : ∀ (n a : Nat), a < n → (fcells F n)[a * 2]? = some (.string (fname a)) ∧ (fcells F n)[a * 2 + 1]? = some (.string (F a))
  | 0, a, h => by omega
  | n + 1, a, h => by
    have hl := fcells_len F n
    rw [fcells_succ]
    by_cases e : a = n
    · subst e
      rw [List.getElem?_append_right (by omega), List.getElem?_append_right (by omega), hl]
      simp
    · obtain ⟨h1, h2⟩ := fcells_at F n a (by omega)
      rw [List.getElem?_append_left (by omega), List.getElem?_append_left (by omega)]
      exact ⟨h1, h2⟩
/-- Files in memory. -/
def Files (w : World) (g : Nat) (F : Nat → ByteArray) : Prop := ∀ a, a < 8 → w.cell? ⟨g, a * 2, none⟩ = some (.string (fname a)) ∧ w.cell? ⟨g, a * 2 + 1, none⟩ = some (.string (F a))
theorem Files.later {w w' : World} {g : Nat} {F : Nat → ByteArray} (h : Files w g F) (hb : Below w.heap.size w w') : Files w' g F := fun a ha => by
  obtain ⟨h1, h2⟩ := h a ha
  have hg : g < w.heap.size := World.block_lt_of_cell? (h := h1)
  exact ⟨by rw [← h1]; exact hb.cell (p := ⟨g, _, none⟩) hg, by rw [← h2]; exact hb.cell (p := ⟨g, _, none⟩) hg⟩
theorem files_of {w : World} {base g c : Nat} {F : Nat → ByteArray} (h : w.ownsRow base 77 2 (.slice (some ⟨g, 0, none⟩) 8 c) 8 (fcells F 8)) : Files w g F := fun a ha => by
  rcases h.2 with ⟨h0, _⟩ | ⟨g', cap, cur, e, h1, h2, h3, h4, h5, h6⟩
  · cases h0
  · injection e with e1 _ e3
    injection e1 with e1
    injection e1 with e1
    subst e1
    obtain ⟨k1, k2⟩ := fcells_at F 8 a ha
    rw [← h6, List.getElem?_take, if_pos (by omega), Array.getElem?_toList] at k1 k2
    exact ⟨by rw [Lib.cell_of_heap h2]; exact k1, by rw [Lib.cell_of_heap h2]; exact k2⟩
theorem eqnil73 (a : Addr) (n c : Nat) (w : World) : (binOp .eql 73 (.slice (some a) n c) (.slice none 0 0)).run Tryz.prog w = .ok (.bool false) w := by kernel_rfl
theorem build73 (w : World) : (Instr.buildSlice 73 0 #[]).run Tryz.prog w = .ok (.slice (some ⟨w.heap.size, 0, none⟩) 0 0) (w.alloc (.cells #[] 77)) := by kernel_rfl
theorem info77' : (Tryz.prog.info? 77).map (fun i => (i.zero, i.size, i.bytes)) = some (some (.agg #[.string ⟨#[]⟩, .string ⟨#[]⟩]), 2, 32) := by kernel_rfl

set_option maxHeartbeats 800000 in
set_option maxRecDepth 100000 in
theorem cloneFiles (lg lc : Nat) (F : Nat → ByteArray) (w : World) (hc : ∀ j u, (fcells F 8)[j]? = some u → w.cell? ⟨lg, 0 + j, none⟩ = some u) :
    Calls Tryz.prog 211 #[.slice (some ⟨lg, 0, none⟩) 8 lc] w fun e w' => ∃ cg cc, e = .returned (.slice (some ⟨cg, 0, none⟩) 8 cc) ∧ w'.ownsRow w.heap.size 77 2 (.slice (some ⟨cg, 0, none⟩) 8 cc) 8 (fcells F 8) ∧ Below w.heap.size w w' := by
  obtain ⟨i0, hi, hz0, hz1, hz2⟩ := info_parts info77'
  have hnil := eqnil73
  have hown0 : (w.alloc (.cells #[] 77)).ownsRow w.heap.size 77 2 (.slice (some ⟨w.heap.size, 0, none⟩) 0 0) 0 [] :=
    ⟨rfl, Or.inr ⟨w.heap.size, 0, #[], rfl, Nat.le_refl _, alloc_last w _ _ rfl, by omega, by unfold maxLen; omega, rfl, rfl⟩⟩
  have hbs := build73
  have HL : Hid ((fcells F 8).length = 8 * 2) := hide (fcells_len F 8)
  have HN : Hid (∀ j u, (fcells F 8)[j]? = some u → w.cell? ⟨lg, 0 + j, none⟩ = some u) := hide hc
  have HO : Hid (∀ u ∈ fcells F 8, u.oneCell' = true) := hide (fcells_one F 8)
  generalize fcells F 8 = xs at HL HN HO ⊢
  clear hc
  go_enter Tryz.func211, Tryz.ntmps211
  go_wp2_with (at_builtin; refine wpList_append_own _ rfl _ _ 73 rfl w.heap.size 77 i0 (.agg #[.string ⟨#[]⟩, .string ⟨#[]⟩]) 2 32 Tryz.underlying73 hi hz0 hz1 hz2 rfl (by decide) _ _ _ rfl hown0 ⟨lg, 0, none⟩ 8 lc xs rfl ?c0 ?c1 ?c2 ?c3 ?c4 ?c5 ?_)
  case c0 => exact HL.out
  case c1 =>
    intro j u hj
    rw [show (⟨lg, 0, none⟩ : Addr).add j = ⟨lg, 0 + j, none⟩ by first | rfl | (unfold Addr.add; split <;> first | rfl | simp_all)]
    exact keepA (HN.out j u hj) _
  case c2 => exact HO.out
  case c3 => unfold maxLen; omega
  case c4 => omega
  case c5 => simp
  intro v' w2 hown' hgrow _
  have hb2 : Below w.heap.size w w2 := ((Below.refl _ w).alloc (Nat.le_refl _) _).grown hgrow (by simp) (fun k hk => by simp [Value.ownBlock] at hk; omega)
  obtain ⟨cg, cc, hv⟩ : ∃ cg cc, v' = .slice (some ⟨cg, 0, none⟩) 8 cc := by
    rcases hown'.2 with ⟨_, h0⟩ | ⟨cg, cc, cur, hv, _⟩
    · omega
    · exact ⟨cg, cc, by simpa using hv⟩
  subst hv
  have HO' : Hid (w2.ownsRow w.heap.size 77 2 (.slice (some ⟨cg, 0, none⟩) 8 cc) 8 xs) := hide (by simpa using hown')
  have HB' := hide hb2
  clear hown' hgrow hb2
  go_wp2
  go_ret
  exact ⟨cg, cc, rfl, HO'.out, HB'.out⟩

set_option maxHeartbeats 800000 in
set_option maxRecDepth 100000 in
theorem cmpFiles (i j : Nat) (hi : i < 8) (hj : j < i) (x y : ByteArray) (w : World) :
    Calls Tryz.prog 213 #[.agg #[.string (fname i), .string x], .agg #[.string (fname j), .string y]] w fun e w' => e = .returned (.int .i64 1) ∧ Below w.heap.size w w' := by
  have hc : Lib.compareBytes (fname i).data.toList (fname j).data.toList = 1 := by
    have : ∀ i j : Fin 8, j.val < i.val → Lib.compareBytes (fname i.val).data.toList (fname j.val).data.toList = 1 := by decide
    exact this ⟨i, hi⟩ ⟨j, by omega⟩ hj
  go_enter Tryz.func213, Tryz.ntmps213
  go_wp2_with fail
  refine (Tryz.strings_Compare _ _ _).mono ?_
  rintro e w' ⟨rfl, rfl⟩
  rw [hc]
  go_wp2
  go_ret
  exact ⟨rfl, below2 _ _ _⟩
set_option maxHeartbeats 800000 in
set_option maxRecDepth 100000 in
theorem eqFiles (i j : Nat) (hi : i < 8) (hj : j < i) (x y : ByteArray) (w : World) :
    Calls Tryz.prog 215 #[.agg #[.string (fname i), .string x], .agg #[.string (fname j), .string y]] w fun e w' => e = .returned (.bool false) ∧ Below w.heap.size w w' := by
  have hne : ((fname i).toList == (fname j).toList) = false := by
    rw [ByteArray.toList_eq, ByteArray.toList_eq]
    have : ∀ i j : Fin 8, j.val < i.val → ((fname i.val).data.toList == (fname j.val).data.toList) = false := by decide
    exact this ⟨i, hi⟩ ⟨j, by omega⟩ hj
  go_enter Tryz.func215, Tryz.ntmps215
  go_wp2_with fail
  go_ret
  exact ⟨rfl, below2 _ _ _⟩
set_option maxHeartbeats 1600000 in
set_option maxRecDepth 100000 in
theorem insortFiles (g c : Nat) (F : Nat → ByteArray) (w : World) (hf : Files w g F) :
    Calls Tryz.prog 374 #[.slice (some ⟨g, 0, none⟩) 8 c, .int .i64 0, .int .i64 8, .func (.func 213) #[] #[]] w fun e w' => e = .returned (.tuple #[]) ∧ Below w.heap.size w w' := by
  have HF := hide hf
  clear hf
  go_enter Tryz.func374, Tryz.ntmps374
  go_wp2_with fail
  go_loopw [8] (fun i wr => ∃ k : Nat, 1 ≤ k ∧ k ≤ 8 ∧ i = .int .i64 k ∧ Hid (Below w.heap.size w wr)) (fun i _ => 8 - (intOf i).toNat)
  case atStart => exact ⟨1, by omega, by omega, rfl, hide (Below.refl _ _)⟩
  case round =>
    obtain ⟨k, hk1, hk8, rfl, HB⟩ := hrel
    by_cases hlt : k < 8
    · have hfr := HF.out.later HB.out
      obtain ⟨c0, c1⟩ := hfr k hlt
      obtain ⟨c2, c3⟩ := hfr (k - 1) (by omega)
      clear hfr
      go_wp2_with fail
      go_loopw [9] (fun j wx => j = .int .i64 k ∧ wx = wr) (fun _ _ => 0)
      case atStart => exact ⟨rfl, rfl⟩
      case round =>
        obtain ⟨rfl, rfl⟩ := hrel
        obtain ⟨d, rfl⟩ : ∃ d, k = d + 1 := ⟨k - 1, by omega⟩
        have hk0 : (0 : Int) < (d : Int) + 1 := by omega
        have hk7 : (d : Int) + 1 < 8 := by omega
        have hk8' : 0 ≤ (d : Int) + 1 ∧ (d : Int) + 1 < 8 := ⟨by omega, hk7⟩
        have HC := hide (fun wx => cmpFiles (d + 1) d hlt (by omega) (F (d + 1)) (F d) wx)
        simp only [Nat.add_sub_cancel] at c2 c3
        have e1 : (d : Int) + 1 - 1 = (d : Int) := by omega
        have e2 : (d : Int) < 8 := by omega
        have k0 := cell_regrown c0
        have k1 := cell_regrown c1
        have k2 := cell_regrown c2
        have k3 := cell_regrown c3
        have cC : ∀ dd os, Calls Tryz.prog 213 #[.agg #[.string (fname (d + 1)), .string (F (d + 1))], .agg #[.string (fname d), .string (F d)]] (grow (redrawn wr dd) os) fun e w'' => e = .returned (.int .i64 1) ∧ ∃ p : Regrown, w'' = grow (redrawn wr p.d) p.os := fun dd os => Calls.regrown_of (HC.out _)
        have hmix : Tryz.prog.follows .mixedOrders = true := by kernel_rfl
        clear HC
        go_wp2_with fail
        refine wp_region_quiet_below hmix (by kernel_rfl) ?_
        repeat (go_big_quiet_step ((go_at_call 213; exact cC _ _)))
        refine wpQuiet_nil ?_
        intro wq hwq
        obtain ⟨⟨dq, osq⟩, hw2⟩ := hwq
        have R : Hid (Below w.heap.size w wq) := hide (by rw [hw2]; exact HB.out.trans ((below_regrown wr dq osq).mono HB.out.size))
        clear hw2 cC k0 k1 k2 k3 c0 c1 c2 c3
        go_wp2
        first
          | exact ⟨⟨d + 1 + 1, by omega, by omega, by go_num, R⟩, by simp [intOf]; omega⟩
          | (go_roundw
             case rel => exact ⟨d + 1 + 1, by omega, by omega, by go_num, R⟩
             case measure => simp [intOf]; omega)
    · have he : k = 8 := by omega
      subst he
      go_wp2
      go_end0
      exact ⟨rfl, HB.out⟩

set_option maxHeartbeats 1600000 in
set_option maxRecDepth 100000 in
theorem stableFiles (g c : Nat) (F : Nat → ByteArray) (w : World) (hf : Files w g F) :
    Calls Tryz.prog 312 #[.slice (some ⟨g, 0, none⟩) 8 c, .int .i64 8, .func (.func 213) #[] #[]] w fun e w' => e = .returned (.tuple #[]) ∧ Below w.heap.size w w' := by
  go_enter Tryz.func312, Tryz.ntmps312
  go_wp2_with fail
  go_loopw [7, 8] (fun a b wr => a = .int .i64 0 ∧ b = .int .i64 20 ∧ wr = w) (fun _ _ _ => 0)
  case atStart => exact ⟨rfl, rfl, rfl⟩
  case round =>
    obtain ⟨rfl, rfl, rfl⟩ := hrel
    go_wp2_with fail
    refine (insortFiles g c F _ hf).mono ?_
    rintro e w1 ⟨rfl, hb⟩
    have HB := hide hb
    clear hb
    go_wp2_with fail
    go_loopw [6] (fun b wr => b = .int .i64 20 ∧ wr = w1) (fun _ _ => 0)
    case atStart => exact ⟨rfl, rfl⟩
    case round =>
      obtain ⟨rfl, rfl⟩ := hrel
      go_wp2
      go_end0
      exact ⟨rfl, HB.out⟩
set_option maxHeartbeats 1600000 in
set_option maxRecDepth 100000 in
theorem sortFiles (g c : Nat) (F : Nat → ByteArray) (w : World) (hf : Files w g F) :
    Calls Tryz.prog 212 #[.slice (some ⟨g, 0, none⟩) 8 c, .func (.func 213) #[] #[]] w fun e w' => e = .returned (.tuple #[]) ∧ Below w.heap.size w w' := by
  go_enter Tryz.func212, Tryz.ntmps212
  go_wp2_with fail
  refine (stableFiles g c F _ hf).mono ?_
  rintro e w1 ⟨rfl, hb⟩
  go_wp2
  go_end0
  exact ⟨rfl, hb⟩
set_option maxHeartbeats 1600000 in
set_option maxRecDepth 100000 in
theorem compactFiles (g c : Nat) (F : Nat → ByteArray) (w : World) (hf : Files w g F) :
    Calls Tryz.prog 214 #[.slice (some ⟨g, 0, none⟩) 8 c, .func (.func 215) #[] #[]] w fun e w' => e = .returned (.slice (some ⟨g, 0, none⟩) 8 c) ∧ Below w.heap.size w w' := by
  have HF := hide hf
  clear hf
  go_enter Tryz.func214, Tryz.ntmps214
  go_wp2_with fail
  go_loopw [5] (fun i wr => ∃ k : Nat, 1 ≤ k ∧ k ≤ 8 ∧ i = .int .i64 k ∧ Hid (Below w.heap.size w wr)) (fun i _ => 8 - (intOf i).toNat)
  case atStart => exact ⟨1, by omega, by omega, rfl, hide (Below.refl _ _)⟩
  case round =>
    obtain ⟨k, hk1, hk8, rfl, HB⟩ := hrel
    by_cases hlt : k < 8
    · have hfr := HF.out.later HB.out
      obtain ⟨c0, c1⟩ := hfr k hlt
      obtain ⟨c2, c3⟩ := hfr (k - 1) (by omega)
      clear hfr
      obtain ⟨d, rfl⟩ : ∃ d, k = d + 1 := ⟨k - 1, by omega⟩
      have hk0 : (0 : Int) < (d : Int) + 1 := by omega
      have hk7 : (d : Int) + 1 < 8 := by omega
      have hk8' : 0 ≤ (d : Int) + 1 ∧ (d : Int) + 1 < 8 := ⟨by omega, hk7⟩
      have HC := hide (fun wx => eqFiles (d + 1) d hlt (by omega) (F (d + 1)) (F d) wx)
      simp only [Nat.add_sub_cancel] at c2 c3
      have e1 : (d : Int) + 1 - 1 = (d : Int) := by omega
      have e2 : (d : Int) < 8 := by omega
      have k0 := cell_regrown c0
      have k1 := cell_regrown c1
      have k2 := cell_regrown c2
      have k3 := cell_regrown c3
      have cC : ∀ dd os, Calls Tryz.prog 215 #[.agg #[.string (fname (d + 1)), .string (F (d + 1))], .agg #[.string (fname d), .string (F d)]] (grow (redrawn wr dd) os) fun e w'' => e = .returned (.bool false) ∧ ∃ p : Regrown, w'' = grow (redrawn wr p.d) p.os := fun dd os => Calls.regrown_of (HC.out _)
      have hmix : Tryz.prog.follows .mixedOrders = true := by kernel_rfl
      clear HC
      go_wp2_with fail
      refine wp_region_quiet_below hmix (by kernel_rfl) ?_
      repeat (go_big_quiet_step ((go_at_call 215; exact cC _ _)))
      refine wpQuiet_nil ?_
      intro wq hwq
      obtain ⟨⟨dq, osq⟩, hw2⟩ := hwq
      have R : Hid (Below w.heap.size w wq) := hide (by rw [hw2]; exact HB.out.trans ((below_regrown wr dq osq).mono HB.out.size))
      clear hw2 cC k0 k1 k2 k3 c0 c1 c2 c3
      go_wp2
      first
        | exact ⟨⟨d + 1 + 1, by omega, by omega, by go_num, R⟩, by simp [intOf]; omega⟩
        | (go_roundw
           case rel => exact ⟨d + 1 + 1, by omega, by omega, by go_num, R⟩
           case measure => simp [intOf]; omega)
    · have he : k = 8 := by omega
      subst he
      go_wp2
      go_ret
      exact ⟨rfl, HB.out⟩
set_option maxHeartbeats 1600000 in
set_option maxRecDepth 100000 in
/-- The files in order. -/
theorem inOrder_law (lg lc : Nat) (F : Nat → ByteArray) (w : World) (hc : ∀ j u, (fcells F 8)[j]? = some u → w.cell? ⟨lg, 0 + j, none⟩ = some u) :
    Calls Tryz.prog 138 #[.slice (some ⟨lg, 0, none⟩) 8 lc] w fun e w' => ∃ cg cc, e = .returned (.slice (some ⟨cg, 0, none⟩) 8 cc) ∧ w'.ownsRow w.heap.size 77 2 (.slice (some ⟨cg, 0, none⟩) 8 cc) 8 (fcells F 8) ∧ Below w.heap.size w w' := by
  go_enter Tryz.func138, Tryz.ntmps138
  go_wp2_with fail
  refine (cloneFiles lg lc F _ hc).mono ?_
  rintro e w1 ⟨cg, cc, rfl, hown, hb1⟩
  have HO := hide hown
  have HB := hide hb1
  clear hown hb1
  go_wp2_with fail
  refine (sortFiles cg cc F _ (files_of HO.out)).mono ?_
  rintro e w2 ⟨rfl, hb2⟩
  have HO2 := hide (owns_later HO.out hb2)
  have HB2 := hide (HB.out.trans (hb2.mono HB.out.size))
  clear hb2
  go_wp2_with fail
  refine (compactFiles cg cc F _ (files_of HO2.out)).mono ?_
  rintro e w3 ⟨rfl, hb3⟩
  have HO3 := hide (owns_later HO2.out hb3)
  have HB3 := hide (HB2.out.trans (hb3.mono HB2.out.size))
  clear hb3
  go_wp2_with fail
  go_ret
  exact ⟨cg, cc, rfl, HO3.out, HB3.out⟩
end Go.Proofs.YtcfhleenecfghaaGreatDoor
