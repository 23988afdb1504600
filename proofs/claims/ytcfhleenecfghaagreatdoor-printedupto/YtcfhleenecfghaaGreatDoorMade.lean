/- The statements' own small functions: raw numbers, some needs, made modules, their paths, versions and manifests. -/
import Derived.Test.YtcfhleenecfghaaGreatDoorWk
import Derived.Deep.RegionWith
import Derived.Test.YtcfhleenecfghaaGreatDoorYc
import Derived.Test.YtcfhleenecfghaaGreatDoorAnew
namespace Go.Proofs.YtcfhleenecfghaaGreatDoor
open Go.RowKit

/-- Of the blocks that were there nothing has turned but some. -/
structure Kept (T : Nat → Prop) (w w' : World) : Prop where
  os : w'.os = w.os
  tape : w'.tape = w.tape
  output : w'.output = w.output
  size : w.heap.size ≤ w'.heap.size
  block : ∀ k, k < w.heap.size → ¬ T k → w'.heap[k]? = w.heap[k]?
theorem Kept.refl (T : Nat → Prop) (w : World) : Kept T w w := ⟨rfl, rfl, rfl, Nat.le_refl _, fun _ _ _ => rfl⟩
theorem Kept.trans {T : Nat → Prop} {a b c : World} (h : Kept T a b) (k : Kept T b c) : Kept T a c :=
  ⟨k.os.trans h.os, k.tape.trans h.tape, k.output.trans h.output, Nat.le_trans h.size k.size, fun i h1 h2 => (k.block i (Nat.lt_of_lt_of_le h1 h.size) h2).trans (h.block i h1 h2)⟩
theorem Kept.mono {T T' : Nat → Prop} {a b : World} (h : Kept T a b) (ht : ∀ k, k < a.heap.size → T k → T' k) : Kept T' a b :=
  ⟨h.os, h.tape, h.output, h.size, fun i h1 h2 => h.block i h1 fun h3 => h2 (ht i h1 h3)⟩
theorem Kept.of_below {B : Nat} {a b : World} (h : Below B a b) (T : Nat → Prop) (ht : ∀ k, k < a.heap.size → B ≤ k → T k) : Kept T a b :=
  ⟨h.os, h.tape, h.output, h.size, fun i h1 h2 => h.block i (by
    rcases Nat.lt_or_ge i B with h3 | h3
    · exact h3
    · exact absurd (ht i h1 h3) h2)⟩
theorem Kept.below {T : Nat → Prop} {a b : World} (h : Kept T a b) {B : Nat} (hB : B ≤ a.heap.size) (ht : ∀ k, k < B → ¬ T k) : Below B a b :=
  ⟨h.os, h.tape, h.output, h.size, fun i h1 => h.block i (by omega) (ht i h1)⟩
theorem Kept.cell {T : Nat → Prop} {a b : World} (h : Kept T a b) {k o : Nat} {v : Value} (ht : ¬ T k) (hc : a.cell? ⟨k, o, none⟩ = some v) : b.cell? ⟨k, o, none⟩ = some v := by
  rw [← hc]
  exact World.cell?_of_block (w := a) (h.block k (World.block_lt_of_cell? (h := hc)) ht)

/-- Raw numbers in memory, and how far they are used up. -/
def RawAt (w : World) (rb : Nat) (rv : Value) (n : Nat) (j : Int) : Prop := w.heap[rb]? = some (.cells #[rv, .int .i64 j] 110 (0, 0)) ∧ 0 ≤ j ∧ j ≤ n
/-- The raw numbers themselves. -/
def RawRow (w : World) (rb : Nat) (rv : Value) (n : Nat) : Prop :=
  ∃ ra c, rv = .slice ra n c ∧ (n = 0 ∨ ∃ rg off, ra = some ⟨rg, off, none⟩ ∧ rg ≠ rb ∧ ∀ j, j < n → ∃ x, w.cell? ⟨rg, off + j, none⟩ = some (.int .i64 x) ∧ -9223372036854775808 ≤ x ∧ x ≤ 9223372036854775807)
theorem RawRow.kept {w w' : World} {rb : Nat} {rv : Value} {n : Nat} (h : RawRow w rb rv n) (hk : Kept (fun k => k = rb) w w') : RawRow w' rb rv n := by
  obtain ⟨ra, c, rfl, h⟩ := h
  refine ⟨ra, c, rfl, ?_⟩
  rcases h with h | ⟨rg, off, h1, h2, h3⟩
  · exact Or.inl h
  · refine Or.inr ⟨rg, off, h1, h2, fun j hj => ?_⟩
    obtain ⟨x, hx, hr⟩ := h3 j hj
    exact ⟨x, hk.cell h2 hx, hr⟩

/-- Which of three things a raw number speaks of. -/
def pickT (x : Int) : Int := if x < 0 then (-(x + 1)) % 3 else x % 3
theorem pickT_range (x : Int) : ∃ r : Nat, pickT x = (r : Int) ∧ r < 3 := by
  refine ⟨(pickT x).toNat, ?_⟩
  unfold pickT; split <;> omega
set_option maxHeartbeats 400000 in
theorem pick3_any (x : Int) (w : World) (h1 : -9223372036854775808 ≤ x) (h2 : x ≤ 9223372036854775807) :
    Calls Tryz.prog 15 #[.int .i64 x, .int .i64 3] w fun e w' => e = .returned (.int .i64 (pickT x)) ∧ w' = w := by
  by_cases h : x < 0
  · go_enter Tryz.func15, Tryz.ntmps15
    go_wp2
    go_ret
    exact ⟨ret_int (by unfold pickT; rw [if_pos h, ← Int.neg_tmod, Int.tmod_eq_emod_of_nonneg (by omega)]), rfl⟩
  · go_enter Tryz.func15, Tryz.ntmps15
    go_wp2
    go_ret
    exact ⟨ret_int (by unfold pickT; rw [if_neg (by omega)]), rfl⟩

set_option maxHeartbeats 1600000 in
set_option maxRecDepth 100000 in
theorem next_none (rb n : Nat) (ra : Option Addr) (c : Nat) (w : World) (_hn : n ≤ 4611686018427387904) (h0 : w.heap[rb]? = some (.cells #[.slice ra n c, .int .i64 (n : Int)] 110 (0, 0))) :
    Calls Tryz.prog 49 #[.pointer (some ⟨rb, 0, none⟩), .int .i64 3] w fun e w' => e = .returned (.int .i64 0) ∧ ∃ q, w' = w.drewN q := by
  have c0 : w.cell? ⟨rb, 0, none⟩ = some (.slice ra n c) := by rw [Lib.cell_of_heap h0]; rfl
  have c1 : w.cell? ⟨rb, 1, none⟩ = some (.int .i64 (n : Int)) := by rw [Lib.cell_of_heap h0]; rfl
  clear h0
  go_enter Tryz.func49, Tryz.ntmps49
  go_wp2_with fail
  go_quiet (fail)
  go_wp2_with fail
  go_ret
  exact ⟨rfl, _, rfl⟩

set_option maxHeartbeats 1600000 in
set_option maxRecDepth 100000 in
theorem next_some (rb n rg off c k : Nat) (x : Int) (w : World) (hn : n ≤ 4611686018427387904) (hk : k < n) (hne : rg ≠ rb) (h0 : w.heap[rb]? = some (.cells #[.slice (some ⟨rg, off, none⟩) n c, .int .i64 (k : Int)] 110 (0, 0)))
    (hx : w.cell? ⟨rg, off + k, none⟩ = some (.int .i64 x)) (hx1 : -9223372036854775808 ≤ x) (hx2 : x ≤ 9223372036854775807) :
    Calls Tryz.prog 49 #[.pointer (some ⟨rb, 0, none⟩), .int .i64 3] w fun e w' => e = .returned (.int .i64 (pickT x)) ∧ ∃ q q', w' = ((w.drewN q).setCell ⟨rb, 1, none⟩ (.int .i64 ((k : Int) + 1))).drewN q' := by
  have c0 : w.cell? ⟨rb, 0, none⟩ = some (.slice (some ⟨rg, off, none⟩) n c) := by rw [Lib.cell_of_heap h0]; rfl
  have c1 : w.cell? ⟨rb, 1, none⟩ = some (.int .i64 (k : Int)) := by rw [Lib.cell_of_heap h0]; rfl
  have f1 : w.frozen? ⟨rb, 1, none⟩ = false := Lib.frozen_of_heap h0 1
  clear h0
  have hge : ¬ ((n : Int) ≤ (k : Int)) := by omega
  have hp := pick3_any x
  go_enter Tryz.func49, Tryz.ntmps49
  go_wp2_with fail
  go_quiet (fail)
  go_wp2_with fail
  have d0 : ((w.drewN nq).setCell ⟨rb, 1, none⟩ (.int .i64 ((k : Int) + 1))).cell? ⟨rb, 0, none⟩ = some (.slice (some ⟨rg, off, none⟩) n c) := by
    rw [World.cell?_setCell_other (h := fun e => by injection e; omega)]; exact c0
  have d1 : ((w.drewN nq).setCell ⟨rb, 1, none⟩ (.int .i64 ((k : Int) + 1))).cell? ⟨rb, 1, none⟩ = some (.int .i64 ((k : Int) + 1)) := World.cell?_setCell_same _ _ _ (u := .int .i64 (k : Int)) c1
  have d2 : ((w.drewN nq).setCell ⟨rb, 1, none⟩ (.int .i64 ((k : Int) + 1))).cell? ⟨rg, off + k, none⟩ = some (.int .i64 x) := by
    rw [World.cell?_setCell_other (h := fun e => by injection e; omega)]; exact hx
  generalize hW : ((w.drewN nq).setCell ⟨rb, 1, none⟩ (.int .i64 ((k : Int) + 1))) = W at d0 d1 d2 ⊢
  have HW := hide hW
  clear hW c0 c1 f1 hx
  go_quiet ((go_at_call 15; exact Calls.quiet_of_same (hp _ hx1 hx2)))
  go_wp2_with fail
  go_ret
  exact ⟨rfl, _, nq, by rw [← HW.out]⟩

/-- The next raw number, of three things. -/
theorem next_any (rb n : Nat) (rv : Value) (j : Int) (w : World) (hn : n ≤ 4611686018427387904) (h0 : RawAt w rb rv n j) (h1 : RawRow w rb rv n) :
    Calls Tryz.prog 49 #[.pointer (some ⟨rb, 0, none⟩), .int .i64 3] w fun e w' => ∃ r : Nat, e = .returned (.int .i64 (r : Int)) ∧ r < 3 ∧ (∃ j', RawAt w' rb rv n j') ∧ Kept (fun k => k = rb) w w' ∧ w'.heap.size = w.heap.size := by
  obtain ⟨hh, hj0, hjn⟩ := h0
  obtain ⟨k, rfl⟩ := Int.eq_ofNat_of_zero_le hj0
  obtain ⟨ra, c, rfl, hr⟩ := h1
  have hlt : rb < w.heap.size := by
    rcases Nat.lt_or_ge rb w.heap.size with h | h
    · exact h
    · rw [Array.getElem?_eq_none h] at hh; cases hh
  by_cases hk : k = n
  · subst hk
    refine (next_none rb k ra c w hn hh).mono ?_
    rintro e w' ⟨rfl, q, rfl⟩
    exact ⟨0, rfl, by omega, ⟨_, hh, by omega, by omega⟩, ⟨rfl, rfl, rfl, Nat.le_refl _, fun _ _ _ => rfl⟩, rfl⟩
  · rcases hr with h | ⟨rg, off, rfl, hne, hx⟩
    · omega
    · obtain ⟨x, hc, hx1, hx2⟩ := hx k (by omega)
      refine (next_some rb n rg off c k x w hn (by omega) hne hh hc hx1 hx2).mono ?_
      rintro e w' ⟨rfl, q, q', rfl⟩
      obtain ⟨r, hr, hr3⟩ := pickT_range x
      have hs : ((w.drewN q).setCell ⟨rb, 1, none⟩ (.int .i64 ((k : Int) + 1))).heap[rb]? = some (.cells #[.slice (some ⟨rg, off, none⟩) n c, .int .i64 ((k : Int) + 1)] 110 (0, 0)) := by
        rw [heap_setCell_same (w.drewN q) _ _ _ _ _ hh]; rfl
      have hsz : ((w.drewN q).setCell ⟨rb, 1, none⟩ (.int .i64 ((k : Int) + 1))).heap.size = w.heap.size := by
        rw [World.size_setCell]; rfl
      have hbl := (Below.refl 0 (w.drewN q)).setCell (p := ⟨rb, 1, none⟩) (Nat.zero_le _) (.int .i64 ((k : Int) + 1))
      exact ⟨r, by rw [hr], hr3, ⟨(k : Int) + 1, hs, by omega, by omega⟩, ⟨hbl.os, hbl.tape, hbl.output, Nat.le_of_eq hsz.symm, fun i _ hi => Below.heap_setCell (w.drewN q) _ _ _ hi⟩, hsz⟩

end Go.Proofs.YtcfhleenecfghaaGreatDoor

namespace Go.Proofs.YtcfhleenecfghaaGreatDoor
open Go.RowKit

theorem Kept.grown {rb : Nat} {w w' : World} (h : Kept (fun k => k = rb) w w') : w.grownBy w' (some rb) :=
  ⟨h.os, h.tape, h.output, h.size, fun k hk hne => h.block k hk fun e => hne (by rw [e])⟩
theorem owns_kept {w w' : World} {rb base : Nat} {e : TypeId} {s n : Nat} {v : Value} {xs : List Value} (h : w.ownsRow base e s v n xs) (hk : Kept (fun k => k = rb) w w') (hb : rb < base) : w'.ownsRow base e s v n xs :=
  h.kept hk.grown (by
    cases hv : v.ownBlock with
    | none => exact Or.inl rfl
    | some b =>
      refine Or.inr fun h' => ?_
      have := (h.lt b hv).1
      injection h' with h'
      omega)

/-- The cells of some needs. -/
def needCells (l : List (Nat × Nat)) : List Value := l.flatMap fun x => [.int .i64 (x.1 : Int), .int .i64 (x.2 : Int)]
theorem needCells_snoc (l : List (Nat × Nat)) (x : Nat × Nat) : needCells (l ++ [x]) = needCells l ++ [.int .i64 (x.1 : Int), .int .i64 (x.2 : Int)] := by
  unfold needCells; rw [List.flatMap_append]; rfl
/-- The cells of made modules: of each path three versions. -/
structure Vers (C : Array Value) : Prop where
  size : C.size = 31
  ver : ∀ q k, q < 5 → k < 3 → ∃ v : Nat, C[q * 3 + k]? = some (.int .i64 (v : Int)) ∧ 1 ≤ v ∧ v ≤ 9
/-- Needs out of made modules, none of them of p. -/
def From (C : Array Value) (p : Int) (l : List (Nat × Nat)) : Prop :=
  (∀ x ∈ l, x.1 < 5 ∧ (x.1 : Int) ≠ p ∧ x.2 ≤ 9 ∧ ∃ k, k < 3 ∧ C[x.1 * 3 + k]? = some (.int .i64 (x.2 : Int))) ∧ l.Pairwise fun x y => x.1 < y.1
/-- How things stand ahead of a path. -/
def Somes (C : Array Value) (p : Int) (rb n : Nat) (rv : Value) (w : World) (k : Nat) (v : Value) (wr : World) : Prop :=
  ∃ l, From C p l ∧ (∀ x ∈ l, x.1 < k) ∧ l.length ≤ k ∧ wr.ownsRow w.heap.size 45 2 v l.length (needCells l) ∧ (∃ j, RawAt wr rb rv n j) ∧ Kept (fun k => k = rb) w wr

theorem info45 : (Tryz.prog.info? 45).map (fun i => (i.zero, i.size, i.bytes)) = some (some (.agg #[.int .i64 0, .int .i64 0]), 2, 16) := by kernel_rfl

set_option maxHeartbeats 3200000 in
set_option maxRecDepth 100000 in
theorem some_any (mb rb n : Nat) (rv : Value) (p : Int) (C : Array Value) (w : World) (hn : n ≤ 4611686018427387904) (hC : Vers C) (hm : w.heap[mb]? = some (.cells C 43 (0, 0))) (hne : mb ≠ rb) (hr : ∃ j, RawAt w rb rv n j) (hrow : RawRow w rb rv n) :
    Calls Tryz.prog 50 #[.pointer (some ⟨mb, 0, none⟩), .pointer (some ⟨rb, 0, none⟩), .int .i64 p] w fun e w' => ∃ v l, e = .returned v ∧ From C p l ∧ w'.ownsRow w.heap.size 45 2 v l.length (needCells l) ∧ (∃ j, RawAt w' rb rv n j) ∧ Kept (fun k => k = rb) w w' := by
  obtain ⟨i0, hi, hz0, hz1, hz2⟩ := info_parts info45
  have HM := hide hm
  have HR := hide hr
  have HW := hide hrow
  have HC := hide hC
  have hrb : rb < w.heap.size := by
    obtain ⟨j, h, _⟩ := hr
    rcases Nat.lt_or_ge rb w.heap.size with h' | h'
    · exact h'
    · rw [Array.getElem?_eq_none h'] at h; cases h
  clear hm hr hrow hC
  go_enter Tryz.func50, Tryz.ntmps50
  go_wp2
  go_loopw [7, 8] (fun v i wr => ∃ k : Nat, k ≤ 5 ∧ i = .int .i64 k ∧ Hid (Somes C p rb n rv w k v wr)) (fun _ i _ => 5 - (intOf i).toNat)
  case atStart => exact ⟨0, by omega, rfl, hide ⟨[], ⟨fun x hx => absurd hx (List.not_mem_nil), List.Pairwise.nil⟩, fun x hx => absurd hx (List.not_mem_nil), Nat.le_refl _, World.ownsRow_nil _ _ _ _, HR.out, Kept.refl _ _⟩⟩
  case round =>
    obtain ⟨k, hk, rfl, H⟩ := hrel
    obtain ⟨l, hfr, hlk, hll, hown, hrw, hkp⟩ := H.out
    have HF := hide hfr
    have HLK := hide hlk
    have HO := hide hown
    have HRW := hide hrw
    have HK := hide hkp
    clear H hfr hlk hown hrw hkp
    by_cases hlt : k < 5
    · obtain ⟨j0, hj0⟩ := HRW.out
      go_wp2_with fail
      refine (next_any rb n rv j0 _ hn hj0 (HW.out.kept HK.out)).mono ?_
      rintro e w1 ⟨r1, rfl, hr1, ⟨j1, hj1⟩, hk1, -⟩
      have HK1 := hide (HK.out.trans hk1)
      have HO1 := hide (owns_kept HO.out hk1 hrb)
      clear hk1
      go_wp2_with fail
      refine (next_any rb n rv j1 _ hn hj1 (HW.out.kept HK1.out)).mono ?_
      rintro e w2 ⟨r2, rfl, hr2, hj2, hk2, -⟩
      have HK2 := hide (HK1.out.trans hk2)
      have HO2 := hide (owns_kept HO1.out hk2 hrb)
      have HJ2 := hide hj2
      have HRO : Hid (Somes C p rb n rv w (k + 1) u7 w2) := hide ⟨l, HF.out, fun x hx => Nat.lt_succ_of_lt (HLK.out x hx), by omega, HO2.out, HJ2.out, HK2.out⟩
      clear hk2 hj2 hj0 hj1
      cases h0 : ((r1 : Int) == 0)
      · cases hp : ((k : Int) == p)
        · obtain ⟨v, hv, hv1, hv2⟩ := HC.out.ver k r2 hlt hr2
          have hw2 : w2.heap[mb]? = some (.cells C 43 (0, 0)) := by
            rw [HK2.out.block mb (by
              rcases Nat.lt_or_ge mb w.heap.size with h' | h'
              · exact h'
              · have := HM.out; rw [Array.getElem?_eq_none h'] at this; cases this) hne]; exact HM.out
          have cv : w2.cell? ⟨mb, k * 3 + r2, none⟩ = some (.int .i64 (v : Int)) := by rw [Lib.cell_of_heap hw2]; exact hv
          have HV := hide hv
          clear hw2 hv
          have hsz : w.heap.size ≤ w2.heap.size := HK2.out.size
          go_wp2_with (at_builtin; refine wpList_append_own _ rfl _ _ 39 rfl w.heap.size 45 i0 (.agg #[.int .i64 0, .int .i64 0]) 2 16 Tryz.underlying39 hi hz0 hz1 hz2 rfl (by decide) _ _ _ rfl (HO2.out.alloc _) ⟨w2.heap.size, 0, none⟩ 1 1 [.int .i64 (k : Int), .int .i64 (v : Int)] rfl rfl ?c1 ?c2 ?c3 ?c4 ?c5 ?_)
          case c1 =>
            intro j u hj
            match j, hj with
            | 0, hj => simp at hj; subst hj; simp [Addr.add]
            | 1, hj => simp at hj; subst hj; simp [Addr.add]
          case c2 => intro u hu; simp at hu; rcases hu with rfl | rfl <;> rfl
          case c3 => unfold maxLen; omega
          case c4 => omega
          case c5 => simp; omega
          intro v' w3 hown' hgrow _
          have R : Hid (Somes C p rb n rv w (k + 1) v' w3) := by
            have hold : ∀ i, i < w.heap.size → w3.heap[i]? = w2.heap[i]? := by
              intro i h1
              rw [hgrow.block i (by simp; omega) (fun e => by have := (HO2.out.lt i e.symm).1; omega), Lib.alloc_old w2 _ i (by omega)]
            have hkw : Kept (fun k => k = rb) w w3 :=
              ⟨hgrow.os.trans HK2.out.os, hgrow.tape.trans HK2.out.tape, hgrow.output.trans HK2.out.output, by have := hgrow.size; simp at this; omega, fun i h1 h2 => (hold i h1).trans (HK2.out.block i h1 h2)⟩
            obtain ⟨j2, hj2⟩ := HJ2.out
            refine hide ⟨l ++ [(k, v)], ⟨?_, ?_⟩, ?_, ?_, ?_, ?_, hkw⟩
            · intro x hx
              rcases List.mem_append.1 hx with hx | hx
              · exact HF.out.1 x hx
              · rw [List.mem_singleton.1 hx]
                exact ⟨hlt, beq_eq_false_iff_ne.1 hp, hv2, r2, hr2, HV.out⟩
            · rw [List.pairwise_append]
              refine ⟨HF.out.2, List.pairwise_singleton _ _, fun a ha b hb => ?_⟩
              rw [List.mem_singleton.1 hb]; exact HLK.out a ha
            · intro x hx
              rcases List.mem_append.1 hx with hx | hx
              · exact Nat.lt_succ_of_lt (HLK.out x hx)
              · rw [List.mem_singleton.1 hx]; exact Nat.lt_succ_self k
            · simp; omega
            · rw [needCells_snoc, List.length_append]; exact hown'
            · exact ⟨j2, (hold rb hrb).trans hj2.1, hj2.2⟩
          clear hgrow hown'
          go_wp2
          first
            | exact ⟨⟨k + 1, by omega, by go_num, R⟩, by simp [intOf]; omega⟩
            | (go_roundw
               case rel => exact ⟨k + 1, by omega, by go_num, R⟩
               case measure => simp [intOf]; omega)
        · go_wp2
          first
            | exact ⟨⟨k + 1, by omega, by go_num, HRO⟩, by simp [intOf]; omega⟩
            | (go_roundw
               case rel => exact ⟨k + 1, by omega, by go_num, HRO⟩
               case measure => simp [intOf]; omega)
      · go_wp2
        first
          | exact ⟨⟨k + 1, by omega, by go_num, HRO⟩, by simp [intOf]; omega⟩
          | (go_roundw
             case rel => exact ⟨k + 1, by omega, by go_num, HRO⟩
             case measure => simp [intOf]; omega)
    · go_wp2
      go_ret
      exact ⟨_, l, rfl, HF.out, HO.out, HRW.out, HK.out⟩

end Go.Proofs.YtcfhleenecfghaaGreatDoor

namespace Go.Proofs.YtcfhleenecfghaaGreatDoor
open Go.RowKit

theorem owns_keep {w w' : World} {T : Nat → Prop} {base : Nat} {e : TypeId} {s n : Nat} {v : Value} {xs : List Value} (h : w.ownsRow base e s v n xs) (hk : Kept T w w') (hT : ∀ k, base ≤ k → ¬ T k) : w'.ownsRow base e s v n xs := by
  refine ⟨h.1, ?_⟩
  rcases h.2 with h' | ⟨g, cap, cur, h1, h2, h3, h4⟩
  · exact Or.inl h'
  · have hlt : g < w.heap.size := by
      rcases Nat.lt_or_ge g w.heap.size with h' | h'
      · exact h'
      · rw [Array.getElem?_eq_none h'] at h3; cases h3
    exact Or.inr ⟨g, cap, cur, h1, h2, by rw [hk.block g hlt (hT g h2)]; exact h3, h4⟩
theorem owns_low {w : World} {base base' : Nat} {e : TypeId} {s n : Nat} {v : Value} {xs : List Value} (h : w.ownsRow base e s v n xs) (hb : base' ≤ base) : w.ownsRow base' e s v n xs := by
  refine ⟨h.1, ?_⟩
  rcases h.2 with h' | ⟨g, cap, cur, h1, h2, h3⟩
  · exact Or.inl h'
  · exact Or.inr ⟨g, cap, cur, h1, Nat.le_trans hb h2, h3⟩

/-- The versions that are made so far: those of k paths, and j of the next one. -/
def Filled (C : Array Value) (k j : Nat) : Prop :=
  C.size = 31 ∧ (∀ i, 15 ≤ i → i < 31 → C[i]? = some (.slice none 0 0)) ∧ (∀ i, i < 15 → ∃ v : Int, C[i]? = some (.int .i64 v)) ∧ ∀ q r, q < 5 → r < 3 → (q < k ∨ q = k ∧ r < j) → ∃ v : Nat, C[q * 3 + r]? = some (.int .i64 (v : Int)) ∧ 1 ≤ v ∧ v ≤ 9
/-- How things stand while versions are made. -/
def Making (rb n : Nat) (rv : Value) (w : World) (k j : Nat) (wr : World) : Prop :=
  ∃ C, wr.heap[rb + 1]? = some (.cells C 43 (0, 0)) ∧ Filled C k j ∧ (∃ i, RawAt wr rb rv n i) ∧ Below w.heap.size w wr
theorem RawRow.later {w w' : World} {rb : Nat} {rv : Value} {n : Nat} (h : RawRow w rb rv n) (hb : Below w.heap.size w w') : RawRow w' rb rv n := by
  obtain ⟨ra, c, rfl, h⟩ := h
  refine ⟨ra, c, rfl, ?_⟩
  rcases h with h | ⟨rg, off, h1, h2, h3⟩
  · exact Or.inl h
  · refine Or.inr ⟨rg, off, h1, h2, fun j hj => ?_⟩
    obtain ⟨x, hx, hr⟩ := h3 j hj
    exact ⟨x, keep hb hx, hr⟩
theorem set_kept (w : World) (b o : Nat) (v : Value) : Kept (fun k => k = b) w (w.setCell ⟨b, o, none⟩ v) := by
  have h := (Below.refl 0 w).setCell (p := ⟨b, o, none⟩) (Nat.zero_le _) v
  exact ⟨h.os, h.tape, h.output, h.size, fun i _ hi => Below.heap_setCell w _ _ _ hi⟩
theorem filled_next {C : Array Value} {k j v : Nat} (h : Filled C k j) (hk : k < 5) (hj : j < 3) (hv1 : 1 ≤ v) (hv2 : v ≤ 9) : Filled (C.setIfInBounds (k * 3 + j) (.int .i64 (v : Int))) k (j + 1) := by
  obtain ⟨h1, h2, h3, h4⟩ := h
  refine ⟨by simpa using h1, fun i hi1 hi2 => ?_, fun i hi => ?_, fun q r hq hr hqr => ?_⟩
  · rw [Array.getElem?_setIfInBounds_ne (by omega)]; exact h2 i hi1 hi2
  · by_cases e : k * 3 + j = i
    · subst e; rw [Array.getElem?_setIfInBounds_self_of_lt (by omega)]; exact ⟨_, rfl⟩
    · rw [Array.getElem?_setIfInBounds_ne e]; exact h3 i hi
  · by_cases e : k * 3 + j = q * 3 + r
    · rw [e, Array.getElem?_setIfInBounds_self_of_lt (by omega)]; exact ⟨v, rfl, hv1, hv2⟩
    · rw [Array.getElem?_setIfInBounds_ne e]; exact h4 q r hq hr (by omega)
theorem filled_row {C : Array Value} {k : Nat} (h : Filled C k 3) : Filled C (k + 1) 0 :=
  ⟨h.1, h.2.1, h.2.2.1, fun q r hq hr hqr => h.2.2.2 q r hq hr (by omega)⟩
theorem filled_vers {C : Array Value} (h : Filled C 5 0) : Vers C := ⟨h.1, fun q k hq hk => h.2.2.2 q k hq hk (by omega)⟩

/-- One version more. -/
theorem making_next {rb n : Nat} {rv : Value} {w : World} {k j v : Nat} {wr : World} (h : Making rb n rv w k j wr) (hrb : rb = w.heap.size) (hk : k < 5) (hj : j < 3) (hv1 : 1 ≤ v) (hv2 : v ≤ 9) : Making rb n rv w k (j + 1) (wr.setCell ⟨rb + 1, k * 3 + j, none⟩ (.int .i64 (v : Int))) := by
  obtain ⟨C, h1, h2, ⟨i, h3, h3'⟩, h4⟩ := h
  have hkp := set_kept wr (rb + 1) (k * 3 + j) (.int .i64 (v : Int))
  have hlt : rb + 1 < wr.heap.size := by
    rcases Nat.lt_or_ge (rb + 1) wr.heap.size with h' | h'
    · exact h'
    · rw [Array.getElem?_eq_none h'] at h1; cases h1
  refine ⟨_, heap_setCell_same wr _ _ _ _ _ h1, filled_next h2 hk hj hv1 hv2, ⟨i, ?_, h3'⟩, h4.setCell (p := ⟨rb + 1, k * 3 + j, none⟩) (by show w.heap.size ≤ rb + 1; omega) _⟩
  rw [hkp.block rb (by omega) (by omega)]; exact h3

theorem Making.raw {rb n : Nat} {rv : Value} {w : World} {k j : Nat} {wr : World} (h : Making rb n rv w k j wr) : ∃ i, RawAt wr rb rv n i := h.elim fun _ x => x.2.2.1
theorem Making.below {rb n : Nat} {rv : Value} {w : World} {k j : Nat} {wr : World} (h : Making rb n rv w k j wr) : Below w.heap.size w wr := h.elim fun _ x => x.2.2.2
theorem Making.store {rb n : Nat} {rv : Value} {w : World} {k j : Nat} {wr : World} (h : Making rb n rv w k j wr) {i : Nat} (hi : i < 15) : (∃ x : Int, wr.cell? ⟨rb + 1, i, none⟩ = some (.int .i64 x)) ∧ wr.frozen? ⟨rb + 1, i, none⟩ = false := by
  obtain ⟨C, h1, h2, _, _⟩ := h
  obtain ⟨x, hx⟩ := h2.2.2.1 i hi
  exact ⟨⟨x, by rw [Lib.cell_of_heap h1]; exact hx⟩, Lib.frozen_of_heap h1 i⟩
/-- The next raw number, while versions are made. -/
theorem making_raw {rb n : Nat} {rv : Value} {w : World} {k j : Nat} {wr w1 : World} (h : Making rb n rv w k j wr) (hrb : rb = w.heap.size) (hk : Kept (fun i => i = rb) wr w1) (hr : ∃ i, RawAt w1 rb rv n i) : Making rb n rv w k j w1 := by
  obtain ⟨C, h1, h2, _, h4⟩ := h
  have hlt : rb + 1 < wr.heap.size := by
    rcases Nat.lt_or_ge (rb + 1) wr.heap.size with h' | h'
    · exact h'
    · rw [Array.getElem?_eq_none h'] at h1; cases h1
  refine ⟨C, by rw [hk.block (rb + 1) hlt (by omega)]; exact h1, h2, hr, h4.trans (hk.below (by omega) (fun i hi => by omega))⟩
theorem making_row {rb n : Nat} {rv : Value} {w : World} {k : Nat} {wr : World} (h : Making rb n rv w k 3 wr) : Making rb n rv w (k + 1) 0 wr := by
  obtain ⟨C, h1, h2, h3, h4⟩ := h
  exact ⟨C, h1, filled_row h2, h3, h4⟩

theorem start_cells : ∀ i : Fin 31, (i.val < 15 → (#[Value.int .i64 0, .int .i64 0, .int .i64 0, .int .i64 0, .int .i64 0, .int .i64 0, .int .i64 0, .int .i64 0, .int .i64 0, .int .i64 0, .int .i64 0, .int .i64 0, .int .i64 0, .int .i64 0, .int .i64 0, .slice none 0 0, .slice none 0 0, .slice none 0 0, .slice none 0 0, .slice none 0 0, .slice none 0 0, .slice none 0 0, .slice none 0 0, .slice none 0 0, .slice none 0 0, .slice none 0 0, .slice none 0 0, .slice none 0 0, .slice none 0 0, .slice none 0 0, .slice none 0 0] : Array Value)[i.val]? = some (.int .i64 0)) ∧
    (15 ≤ i.val → (#[Value.int .i64 0, .int .i64 0, .int .i64 0, .int .i64 0, .int .i64 0, .int .i64 0, .int .i64 0, .int .i64 0, .int .i64 0, .int .i64 0, .int .i64 0, .int .i64 0, .int .i64 0, .int .i64 0, .int .i64 0, .slice none 0 0, .slice none 0 0, .slice none 0 0, .slice none 0 0, .slice none 0 0, .slice none 0 0, .slice none 0 0, .slice none 0 0, .slice none 0 0, .slice none 0 0, .slice none 0 0, .slice none 0 0, .slice none 0 0, .slice none 0 0, .slice none 0 0, .slice none 0 0] : Array Value)[i.val]? = some (.slice none 0 0)) := by
  intro ⟨i, hi⟩
  refine ⟨fun h => ?_, fun h => ?_⟩
  · simp only at h ⊢
    match i, h with
    | 0, _ => rfl | 1, _ => rfl | 2, _ => rfl | 3, _ => rfl | 4, _ => rfl | 5, _ => rfl | 6, _ => rfl | 7, _ => rfl | 8, _ => rfl | 9, _ => rfl | 10, _ => rfl | 11, _ => rfl | 12, _ => rfl | 13, _ => rfl | 14, _ => rfl
    | n + 15, h => omega
  · simp only at h hi ⊢
    match i, h, hi with
    | 15, _, _ => rfl | 16, _, _ => rfl | 17, _, _ => rfl | 18, _, _ => rfl | 19, _, _ => rfl | 20, _, _ => rfl | 21, _, _ => rfl | 22, _, _ => rfl | 23, _, _ => rfl | 24, _, _ => rfl | 25, _, _ => rfl | 26, _, _ => rfl | 27, _, _ => rfl | 28, _, _ => rfl | 29, _, _ => rfl | 30, _, _ => rfl
    | n + 31, _, h => omega
    | 0, h, _ => omega | 1, h, _ => omega | 2, h, _ => omega | 3, h, _ => omega | 4, h, _ => omega | 5, h, _ => omega | 6, h, _ => omega | 7, h, _ => omega | 8, h, _ => omega | 9, h, _ => omega | 10, h, _ => omega | 11, h, _ => omega | 12, h, _ => omega | 13, h, _ => omega | 14, h, _ => omega
theorem making_start (w : World) (rv : Value) (n : Nat) : Making w.heap.size n rv w 0 0 ((w.alloc (.cells #[rv, .int .i64 0] 110)).alloc (.cells #[Value.int .i64 0, .int .i64 0, .int .i64 0, .int .i64 0, .int .i64 0, .int .i64 0, .int .i64 0, .int .i64 0, .int .i64 0, .int .i64 0, .int .i64 0, .int .i64 0, .int .i64 0, .int .i64 0, .int .i64 0, .slice none 0 0, .slice none 0 0, .slice none 0 0, .slice none 0 0, .slice none 0 0, .slice none 0 0, .slice none 0 0, .slice none 0 0, .slice none 0 0, .slice none 0 0, .slice none 0 0, .slice none 0 0, .slice none 0 0, .slice none 0 0, .slice none 0 0, .slice none 0 0] 43)) := by
  have e : (w.alloc (.cells #[rv, .int .i64 0] 110)).heap.size = w.heap.size + 1 := by simp
  refine ⟨_, ?_, ⟨rfl, fun i h1 h2 => (start_cells ⟨i, h2⟩).2 h1, fun i h1 => ⟨0, (start_cells ⟨i, by omega⟩).1 h1⟩, fun q r _ _ h => by omega⟩, ⟨0, ?_, by omega, by omega⟩, ((Below.refl _ w).alloc (Nat.le_refl _) _).alloc (by simp) _⟩
  · rw [← e]; exact heap_alloc_new _ _
  · rw [Lib.alloc_old _ _ _ (by simp)]; exact heap_alloc_new w _

/-- The needs of a version that is made, in memory. -/
def NeedAt (B : Nat) (w : World) (C : Array Value) (q r : Nat) : Prop := ∃ v l, C[15 + q * 3 + r]? = some v ∧ From C (q : Int) l ∧ w.ownsRow B 45 2 v l.length (needCells l)
/-- How things stand while needs are made: those of k paths, and j of the next one. -/
def Having (rb n : Nat) (rv : Value) (w : World) (k j : Nat) (wr : World) : Prop :=
  ∃ C, wr.heap[rb + 1]? = some (.cells C 43 (0, 0)) ∧ Vers C ∧ (∀ i, 15 ≤ i → i < 31 → ∃ a m c, C[i]? = some (.slice a m c)) ∧ (∀ q r, q < 5 → r < 3 → (q < k ∨ q = k ∧ r < j) → NeedAt (rb + 2) wr C q r) ∧ (∃ i, RawAt wr rb rv n i) ∧ Below w.heap.size w wr
theorem having_start {rb n : Nat} {rv : Value} {w wr : World} (h : Making rb n rv w 5 0 wr) : Having rb n rv w 0 0 wr := by
  obtain ⟨C, h1, h2, h3, h4⟩ := h
  exact ⟨C, h1, filled_vers h2, fun i hi1 hi2 => ⟨_, _, _, h2.2.1 i hi1 hi2⟩, fun q r _ _ h => by omega, h3, h4⟩
theorem having_row {rb n : Nat} {rv : Value} {w : World} {k : Nat} {wr : World} (h : Having rb n rv w k 3 wr) : Having rb n rv w (k + 1) 0 wr := by
  obtain ⟨C, h1, h2, h3, h4, h5⟩ := h
  exact ⟨C, h1, h2, h3, fun q r hq hr hqr => h4 q r hq hr (by omega), h5⟩
theorem from_set {C : Array Value} {p : Int} {l : List (Nat × Nat)} (h : From C p l) {i : Nat} (hi : 15 ≤ i) (v : Value) : From (C.setIfInBounds i v) p l := by
  refine ⟨fun x hx => ?_, h.2⟩
  obtain ⟨h1, h2, h3, k, h4, h5⟩ := h.1 x hx
  exact ⟨h1, h2, h3, k, h4, by rw [Array.getElem?_setIfInBounds_ne (by omega)]; exact h5⟩
theorem vers_set {C : Array Value} (h : Vers C) {i : Nat} (hi : 15 ≤ i) (v : Value) : Vers (C.setIfInBounds i v) :=
  ⟨by simpa using h.size, fun q k hq hk => by
    obtain ⟨x, h1, h2⟩ := h.ver q k hq hk
    exact ⟨x, by rw [Array.getElem?_setIfInBounds_ne (by omega)]; exact h1, h2⟩⟩
/-- Some needs more, put into a cell. -/
theorem having_put {rb n : Nat} {rv : Value} {w wr w1 : World} {k j i : Nat} {C : Array Value} (hrb : rb = w.heap.size) (h1 : wr.heap[rb + 1]? = some (.cells C 43 (0, 0))) (h2 : Vers C) (h3 : ∀ i, 15 ≤ i → i < 31 → ∃ a m c, C[i]? = some (.slice a m c))
    (h4 : ∀ q r, q < 5 → r < 3 → (q < k ∨ q = k ∧ r < j) → NeedAt (rb + 2) wr C q r) (h5 : Below w.heap.size w wr) (hk : Kept (fun i => i = rb) wr w1) (hr : ∃ i, RawAt w1 rb rv n i) (a : Option Addr) (m c : Nat) (hi1 : 15 ≤ i) (_hi2 : i < 31) (hi3 : ∀ q r, q < 5 → r < 3 → (q < k ∨ q = k ∧ r < j) → 15 + q * 3 + r ≠ i) :
    (w1.setCell ⟨rb + 1, i, none⟩ (.slice a m c)).heap[rb + 1]? = some (.cells (C.setIfInBounds i (.slice a m c)) 43 (0, 0)) ∧ Vers (C.setIfInBounds i (.slice a m c)) ∧ (∀ i', 15 ≤ i' → i' < 31 → ∃ a' m' c', (C.setIfInBounds i (.slice a m c))[i']? = some (.slice a' m' c')) ∧
      (∀ q r, q < 5 → r < 3 → (q < k ∨ q = k ∧ r < j) → NeedAt (rb + 2) (w1.setCell ⟨rb + 1, i, none⟩ (.slice a m c)) (C.setIfInBounds i (.slice a m c)) q r) ∧ (∃ i', RawAt (w1.setCell ⟨rb + 1, i, none⟩ (.slice a m c)) rb rv n i') ∧ Below w.heap.size w (w1.setCell ⟨rb + 1, i, none⟩ (.slice a m c)) := by
  have hlt : rb + 1 < wr.heap.size := by
    rcases Nat.lt_or_ge (rb + 1) wr.heap.size with h' | h'
    · exact h'
    · rw [Array.getElem?_eq_none h'] at h1; cases h1
  have hs1 := hk.size
  have e1 : w1.heap[rb + 1]? = some (.cells C 43 (0, 0)) := by rw [hk.block (rb + 1) hlt (by omega)]; exact h1
  have hkp := set_kept w1 (rb + 1) i (.slice a m c)
  refine ⟨heap_setCell_same w1 _ _ _ _ _ e1, vers_set h2 hi1 _, fun i' h1' h2' => ?_, fun q r hq hr' hqr => ?_, ?_, ?_⟩
  · by_cases e : i = i'
    · subst e; exact ⟨a, m, c, Array.getElem?_setIfInBounds_self_of_lt (by rw [h2.size]; omega)⟩
    · rw [Array.getElem?_setIfInBounds_ne e]; exact h3 i' h1' h2'
  · obtain ⟨v, l, g1, g2, g3⟩ := h4 q r hq hr' hqr
    refine ⟨v, l, by rw [Array.getElem?_setIfInBounds_ne (fun e => hi3 q r hq hr' hqr e.symm)]; exact g1, from_set g2 hi1 _, ?_⟩
    exact owns_keep (owns_keep g3 hk (fun x hx => by omega)) hkp (fun x hx => by omega)
  · obtain ⟨i', r1, r2⟩ := hr
    exact ⟨i', by rw [hkp.block rb (by omega) (by omega)]; exact r1, r2⟩
  · exact (h5.trans (hk.below (by omega) (fun x hx => by omega))).setCell (p := ⟨rb + 1, i, none⟩) (by show w.heap.size ≤ rb + 1; omega) _

theorem having_step {rb n : Nat} {rv : Value} {w wr w1 : World} {k j : Nat} {C : Array Value} {v : Value} {l : List (Nat × Nat)} (hrb : rb = w.heap.size) (hk5 : k < 5) (hj3 : j < 3) (h1 : wr.heap[rb + 1]? = some (.cells C 43 (0, 0))) (h2 : Vers C) (h3 : ∀ i, 15 ≤ i → i < 31 → ∃ a m c, C[i]? = some (.slice a m c))
    (h4 : ∀ q r, q < 5 → r < 3 → (q < k ∨ q = k ∧ r < j) → NeedAt (rb + 2) wr C q r) (h5 : Below w.heap.size w wr) (hfr : From C (k : Int) l) (hown : w1.ownsRow wr.heap.size 45 2 v l.length (needCells l)) (hr : ∃ i, RawAt w1 rb rv n i) (hk : Kept (fun i => i = rb) wr w1) :
    (∃ a m c, v = .slice a m c) ∧ (∃ a m c, w1.cell? ⟨rb + 1, 15 + k * 3 + j, none⟩ = some (.slice a m c)) ∧ w1.frozen? ⟨rb + 1, 15 + k * 3 + j, none⟩ = false ∧ Having rb n rv w k (j + 1) (w1.setCell ⟨rb + 1, 15 + k * 3 + j, none⟩ v) := by
  have hlt : rb + 1 < wr.heap.size := by
    rcases Nat.lt_or_ge (rb + 1) wr.heap.size with h' | h'
    · exact h'
    · rw [Array.getElem?_eq_none h'] at h1; cases h1
  have e1 : w1.heap[rb + 1]? = some (.cells C 43 (0, 0)) := by rw [hk.block (rb + 1) hlt (by omega)]; exact h1
  have hv : ∃ a m c, v = .slice a m c := by
    rcases hown.2 with ⟨h, _⟩ | ⟨g, cp, cur, h, _⟩
    · exact ⟨_, _, _, h⟩
    · exact ⟨_, _, _, h⟩
  obtain ⟨a0, m0, c0, hc⟩ := h3 (15 + k * 3 + j) (by omega) (by omega)
  refine ⟨hv, ⟨a0, m0, c0, by rw [Lib.cell_of_heap e1]; exact hc⟩, Lib.frozen_of_heap e1 _, ?_⟩
  obtain ⟨a, m, c, rfl⟩ := hv
  obtain ⟨g1, g2, g3, g4, g5, g6⟩ := having_put (i := 15 + k * 3 + j) hrb h1 h2 h3 h4 h5 hk hr a m c (by omega) (by omega) (fun q r hq hr' hqr => by omega)
  refine ⟨_, g1, g2, g3, fun q r hq hr' hqr => ?_, g5, g6⟩
  by_cases e : q = k ∧ r = j
  · obtain ⟨rfl, rfl⟩ := e
    refine ⟨_, l, Array.getElem?_setIfInBounds_self_of_lt (by rw [h2.size]; omega), from_set hfr (by omega) _, ?_⟩
    exact owns_low (owns_keep hown (set_kept w1 (rb + 1) _ _) (fun x hx => by omega)) (by omega)
  · exact g4 q r hq hr' (by omega)

/-- Made modules in memory: their versions, the needs of each, the needs of the root. -/
def MadeAt (w : World) (B mb : Nat) (C : Array Value) (rt : List (Nat × Nat)) : Prop :=
  w.heap[mb]? = some (.cells C 43 (0, 0)) ∧ Vers C ∧ (∀ q r, q < 5 → r < 3 → NeedAt B w C q r) ∧ ∃ v, C[30]? = some v ∧ From C (-1) rt ∧ w.ownsRow B 45 2 v rt.length (needCells rt)
theorem having_end {rb n : Nat} {rv : Value} {w wr w1 : World} {C : Array Value} {v : Value} {l : List (Nat × Nat)} (hrb : rb = w.heap.size) (h1 : wr.heap[rb + 1]? = some (.cells C 43 (0, 0))) (h2 : Vers C) (h3 : ∀ i, 15 ≤ i → i < 31 → ∃ a m c, C[i]? = some (.slice a m c))
    (h4 : ∀ q r, q < 5 → r < 3 → (q < 5 ∨ q = 5 ∧ r < 0) → NeedAt (rb + 2) wr C q r) (h5 : Below w.heap.size w wr) (hfr : From C (-1) l) (hown : w1.ownsRow wr.heap.size 45 2 v l.length (needCells l)) (hr : ∃ i, RawAt w1 rb rv n i) (hk : Kept (fun i => i = rb) wr w1) :
    (∃ a m c, v = .slice a m c) ∧ (∃ a m c, w1.cell? ⟨rb + 1, 30, none⟩ = some (.slice a m c)) ∧ w1.frozen? ⟨rb + 1, 30, none⟩ = false ∧ (∃ C', MadeAt (w1.setCell ⟨rb + 1, 30, none⟩ v) (rb + 2) (rb + 1) C' l) ∧ Below w.heap.size w (w1.setCell ⟨rb + 1, 30, none⟩ v) := by
  have hlt : rb + 1 < wr.heap.size := by
    rcases Nat.lt_or_ge (rb + 1) wr.heap.size with h' | h'
    · exact h'
    · rw [Array.getElem?_eq_none h'] at h1; cases h1
  have e1 : w1.heap[rb + 1]? = some (.cells C 43 (0, 0)) := by rw [hk.block (rb + 1) hlt (by omega)]; exact h1
  have hv : ∃ a m c, v = .slice a m c := by
    rcases hown.2 with ⟨h, _⟩ | ⟨g, cp, cur, h, _⟩
    · exact ⟨_, _, _, h⟩
    · exact ⟨_, _, _, h⟩
  obtain ⟨a0, m0, c0, hc⟩ := h3 30 (by omega) (by omega)
  refine ⟨hv, ⟨a0, m0, c0, by rw [Lib.cell_of_heap e1]; exact hc⟩, Lib.frozen_of_heap e1 _, ?_⟩
  obtain ⟨a, m, c, rfl⟩ := hv
  obtain ⟨g1, g2, g3, g4, g5, g6⟩ := having_put (i := 30) hrb h1 h2 h3 h4 h5 hk hr a m c (by omega) (by omega) (fun q r hq hr' hqr => by omega)
  refine ⟨⟨_, g1, g2, fun q r hq hr' => g4 q r hq hr' (Or.inl hq), _, Array.getElem?_setIfInBounds_self_of_lt (by rw [h2.size]; omega), from_set hfr (by omega) _, ?_⟩, g6⟩
  exact owns_low (owns_keep hown (set_kept w1 (rb + 1) _ _) (fun x hx => by omega)) (by omega)

set_option maxHeartbeats 3200000 in
set_option maxRecDepth 100000 in
theorem made_any (n c : Nat) (ra : Option Addr) (w : World) (hn : n ≤ 4611686018427387904) (hrow : RawRow w w.heap.size (.slice ra n c) n) :
    Calls Tryz.prog 19 #[.slice ra n c] w fun e w' => ∃ C rt, e = .returned (.pointer (some ⟨w.heap.size + 1, 0, none⟩)) ∧ MadeAt w' (w.heap.size + 2) (w.heap.size + 1) C rt ∧ Below w.heap.size w w' := by
  have HW := hide hrow
  clear hrow
  go_enter Tryz.func19, Tryz.ntmps19
  go_wp2
  go_loopw [5] (fun i wr => ∃ k : Nat, k ≤ 5 ∧ i = .int .i64 k ∧ Hid (Making w.heap.size n (.slice ra n c) w k 0 wr)) (fun i _ => 5 - (intOf i).toNat)
  case atStart => exact ⟨0, by omega, rfl, hide (making_start w (.slice ra n c) n)⟩
  case round =>
    obtain ⟨k, hk, rfl, H⟩ := hrel
    by_cases hlt : k < 5
    · go_wp2
      rw [show decide ((k : Int) < 5) = true from decide_eq_true (by omega)]
      go_loopw [6, 7] (fun a i wi => ∃ j : Nat, j ≤ 3 ∧ i = .int .i64 j ∧ ∃ v : Nat, a = .int .i64 v ∧ j ≤ v ∧ v ≤ 3 * j ∧ Hid (Making w.heap.size n (.slice ra n c) w k j wi)) (fun _ i _ => 3 - (intOf i).toNat)
      case atStart => exact ⟨0, by omega, rfl, 0, rfl, by omega, by omega, H⟩
      case round =>
        obtain ⟨j, hj, rfl, v, rfl, hv1, hv2, H2⟩ := hrel
        by_cases hjlt : j < 3
        · obtain ⟨i0, hi0⟩ := H2.out.raw
          go_wp2_with fail
          refine (next_any w.heap.size n _ i0 _ hn hi0 (HW.out.later H2.out.below)).mono ?_
          rintro e w1 ⟨r, rfl, hr3, hj1, hk1, -⟩
          have H3 := hide (making_raw H2.out rfl hk1 hj1)
          clear hk1 hj1 hi0 H2
          have hst := H3.out.store (i := k * 3 + j) (by omega)
          obtain ⟨x, hc⟩ := hst.1
          have hf := hst.2
          have R : Hid (Making w.heap.size n (.slice ra n c) w k (j + 1) (w1.setCell ⟨w.heap.size + 1, k * 3 + j, none⟩ (.int .i64 ((v : Int) + 1 + (r : Int))))) := by
            refine hide ?_
            rw [show ((v : Int) + 1 + (r : Int)) = ((v + 1 + r : Nat) : Int) from by omega]
            exact making_next H3.out rfl hlt hjlt (by omega) (by omega)
          clear hst H3
          go_wp2
          first
            | exact ⟨⟨j + 1, by omega, by go_num, v + 1 + r, by go_num, by omega, by omega, R⟩, by simp [intOf]; omega⟩
            | (go_roundw
               case rel => exact ⟨j + 1, by omega, by go_num, v + 1 + r, by go_num, by omega, by omega, R⟩
               case measure => simp [intOf]; omega)
        · have hj3 : j = 3 := by omega
          subst hj3
          have R := hide (making_row H2.out)
          go_wp2
          first
            | exact ⟨⟨k + 1, by omega, by go_num, R⟩, by simp [intOf]; omega⟩
            | (go_roundw
               case rel => exact ⟨k + 1, by omega, by go_num, R⟩
               case measure => simp [intOf]; omega)
    · have hk5 : k = 5 := by omega
      have H5 := hide (having_start (hk5 ▸ H.out))
      have hk5' : ¬ ((k : Int) < 5) := by omega
      clear H hk5 hk hlt
      go_wp2
      go_loopw [8] (fun i wr => ∃ k : Nat, k ≤ 5 ∧ i = .int .i64 k ∧ Hid (Having w.heap.size n (.slice ra n c) w k 0 wr)) (fun i _ => 5 - (intOf i).toNat)
      case atStart => exact ⟨0, by omega, rfl, H5⟩
      case round =>
        obtain ⟨k, hk, rfl, H⟩ := hrel
        by_cases hlt : k < 5
        · go_wp2
          rw [show decide ((k : Int) < 5) = true from decide_eq_true (by omega)]
          go_loopw [9] (fun i wi => ∃ j : Nat, j ≤ 3 ∧ i = .int .i64 j ∧ Hid (Having w.heap.size n (.slice ra n c) w k j wi)) (fun i _ => 3 - (intOf i).toNat)
          case atStart => exact ⟨0, by omega, rfl, H⟩
          case round =>
            obtain ⟨j, hj, rfl, H2⟩ := hrel
            by_cases hjlt : j < 3
            · obtain ⟨C, h1, h2, h3, h4, h5, h6⟩ := H2.out
              have H1 := hide h1
              have HV := hide h2
              have H3 := hide h3
              have H4 := hide h4
              have H5 := hide h5
              have H6 := hide h6
              clear H2 h1 h2 h3 h4 h5 h6
              go_wp2_with fail
              have D1 : Hid (wr.drew.heap[w.heap.size + 1]? = some (.cells C 43 (0, 0))) := H1
              have D5 : Hid (∃ i, RawAt wr.drew w.heap.size (.slice ra n c) n i) := H5
              have D6 : Hid (Below w.heap.size w wr.drew) := hide ⟨H6.out.os, H6.out.tape, H6.out.output, H6.out.size, H6.out.block⟩
              have HS := @having_step w.heap.size n (.slice ra n c) w wr
              have HSD : Hid (∀ (w1 : World) (v : Value) (l : List (Nat × Nat)), From C (k : Int) l → w1.ownsRow wr.drew.heap.size 45 2 v l.length (needCells l) → (∃ i, RawAt w1 w.heap.size (.slice ra n c) n i) → Kept (fun i => i = w.heap.size) wr.drew w1 →
                  (∃ a m c, v = .slice a m c) ∧ (∃ a m c, w1.cell? ⟨w.heap.size + 1, 15 + k * 3 + j, none⟩ = some (.slice a m c)) ∧ w1.frozen? ⟨w.heap.size + 1, 15 + k * 3 + j, none⟩ = false ∧ Having w.heap.size n (.slice ra n c) w k (j + 1) (w1.setCell ⟨w.heap.size + 1, 15 + k * 3 + j, none⟩ v)) :=
                hide fun w1 v l hfr hown hraw hkp => having_step rfl hlt hjlt H1.out HV.out H3.out H4.out H6.out hfr hown hraw ⟨hkp.os, hkp.tape, hkp.output, hkp.size, hkp.block⟩
              clear HS
              go_region_with (go_at_call 50; refine (some_any (w.heap.size + 1) w.heap.size n (.slice ra n c) (k : Int) C wr.drew hn HV.out D1.out (by omega) D5.out (HW.out.later D6.out)).mono ?_; rintro e w1 ⟨v, l, rfl, hfr, hown, hraw, hkp⟩; obtain ⟨⟨a, m, cc, rfl⟩, ⟨a0, m0, c0, hc⟩, hf, R⟩ := HSD.out w1 v l hfr hown hraw hkp; have R' := hide R; clear R hfr hown hraw hkp)
              go_wp2
              first
                | exact ⟨⟨j + 1, by omega, by go_num, R'⟩, by simp [intOf]; omega⟩
                | (go_roundw
                   case rel => exact ⟨j + 1, by omega, by go_num, R'⟩
                   case measure => simp [intOf]; omega)
            · have hj3 : j = 3 := by omega
              have R := hide (having_row (hj3 ▸ H2.out))
              go_wp2
              first
                | exact ⟨⟨k + 1, by omega, by go_num, R⟩, by simp [intOf]; omega⟩
                | (go_roundw
                   case rel => exact ⟨k + 1, by omega, by go_num, R⟩
                   case measure => simp [intOf]; omega)
        · have hk5 : k = 5 := by omega
          obtain ⟨C, h1, h2, h3, h4, h5, h6⟩ := (hk5 ▸ H.out : Having w.heap.size n (.slice ra n c) w 5 0 wr)
          have HSD : Hid (∀ (w1 : World) (v : Value) (l : List (Nat × Nat)), From C (-1) l → w1.ownsRow wr.heap.size 45 2 v l.length (needCells l) → (∃ i, RawAt w1 w.heap.size (.slice ra n c) n i) → Kept (fun i => i = w.heap.size) wr w1 →
              (∃ a m c, v = .slice a m c) ∧ (∃ a m c, w1.cell? ⟨w.heap.size + 1, 30, none⟩ = some (.slice a m c)) ∧ w1.frozen? ⟨w.heap.size + 1, 30, none⟩ = false ∧ (∃ C', MadeAt (w1.setCell ⟨w.heap.size + 1, 30, none⟩ v) (w.heap.size + 2) (w.heap.size + 1) C' l) ∧ Below w.heap.size w (w1.setCell ⟨w.heap.size + 1, 30, none⟩ v)) :=
            hide fun w1 v l hfr hown hraw hkp => having_end rfl h1 h2 h3 h4 h6 hfr hown hraw hkp
          have H1 := hide h1
          have HV := hide h2
          have H5' := hide h5
          have H6 := hide h6
          clear H h1 h2 h3 h4 h5 h6 hk5
          go_wp2_with fail
          refine (some_any (w.heap.size + 1) w.heap.size n (.slice ra n c) (-1) C _ hn HV.out H1.out (by omega) H5'.out (HW.out.later H6.out)).mono ?_
          rintro e w1 ⟨v, l, rfl, hfr, hown, hraw, hkp⟩
          obtain ⟨⟨a, m, cc, rfl⟩, ⟨a0, m0, c0, hc⟩, hf, ⟨C', hM⟩, hB⟩ := HSD.out w1 v l hfr hown hraw hkp
          have HM := hide hM
          have HBB := hide hB
          clear hfr hown hraw hkp hM hB
          go_wp2
          go_ret
          exact ⟨C', l, rfl, HM.out, HBB.out⟩

end Go.Proofs.YtcfhleenecfghaaGreatDoor

namespace Go.Proofs.YtcfhleenecfghaaGreatDoor
open Go.RowKit

theorem letter_piece (n : Nat) (h : n < 5) : (ByteArray.mk #[97, 98, 99, 100, 101]).extract n (n + 1) = ⟨#[UInt8.ofNat (97 + n)]⟩ := by
  have : ∀ n : Fin 5, (ByteArray.mk #[97, 98, 99, 100, 101]).extract n.val (n.val + 1) = ⟨#[UInt8.ofNat (97 + n.val)]⟩ := by decide
  exact this ⟨n, h⟩

set_option maxHeartbeats 400000 in
theorem path_any (q : Nat) (h : q < 5) (w : World) : Calls Tryz.prog 21 #[.int .i64 (q : Int)] w fun e w' => e = .returned (.string (V.mp q)) ∧ w' = w := by
  have hw : IntKind.i64.wrap ((q : Int) + 1) = (q : Int) + 1 := by rw [IntKind.wrap_i64]; omega
  have hsl : ∀ wx : World, (Instr.slice 9 (.string ⟨#[97, 98, 99, 100, 101]⟩) (some (.int .i64 (q : Int))) (some (.int .i64 ((q : Int) + 1))) none).run Tryz.prog wx = .ok (.string ⟨#[UInt8.ofNat (97 + q)]⟩) wx := by
    intro wx
    have h' := run_slice_string (P := Tryz.prog) wx 9 ⟨#[97, 98, 99, 100, 101]⟩ .i64 .i64 (q : Int) ((q : Int) + 1) Tryz.underlying9 (by omega) (by omega) (by show _ ≤ (5 : Int); omega)
    rw [show ((q : Int) + 1).toNat = q + 1 from by omega, Int.toNat_natCast, letter_piece q h] at h'
    exact h'
  have hcat := cat_any ⟨#[109, 47]⟩ ⟨#[UInt8.ofNat (97 + q)]⟩ (by show 2 + 1 ≤ _; omega)
  have HE : Hid ((⟨#[109, 47]⟩ : ByteArray) ++ ⟨#[UInt8.ofNat (97 + q)]⟩ = V.mp q) := hide (ByteArray.mk_append_mk _ _)
  generalize UInt8.ofNat (97 + q) = c at hsl hcat HE
  go_enter Tryz.func21, Tryz.ntmps21
  go_wp2
  go_ret
  exact ⟨ret_string HE.out, rfl⟩

theorem dec_one (n : Nat) (h : n < 10) (w : World) : Calls Tryz.prog 16 #[.int .i64 (n : Int)] w fun e w' => e = .returned (.string ⟨#[V.dig n]⟩) ∧ ∃ q, w' = w.drewN q := by
  refine (decimal_any 0 (by omega) (n : Int) w (by omega) (by simp; omega) (by omega)).mono ?_
  rintro e w' ⟨rfl, hq⟩
  refine ⟨?_, hq⟩
  rw [Int.toNat_natCast]
  rfl

set_option maxHeartbeats 800000 in
theorem version_any (n : Nat) (h : n < 30) (w : World) : Calls Tryz.prog 22 #[.int .i64 (n : Int)] w fun e w' => e = .returned (.string (V.mv n)) ∧ ∃ q, w' = w.drewN q := by
  obtain ⟨a, ha⟩ : ∃ a, n / 3 = a := ⟨_, rfl⟩
  obtain ⟨b, hb⟩ : ∃ b, n % 3 = b := ⟨_, rfl⟩
  have ht : (n : Int).tmod 3 = (b : Int) := by rw [Int.tmod_eq_emod_of_nonneg (by omega)]; omega
  have hd : (n : Int).tdiv 3 = (a : Int) := by rw [Int.tdiv_eq_ediv_of_nonneg (by omega)]; omega
  have hd' : (n : Int) / 3 = (a : Int) := by omega
  have hm' : (n : Int) % 3 = (b : Int) := by omega
  have ha10 : a < 10 := by omega
  have hwa : wrap64 (a : Int) = (a : Int) := by unfold wrap64; omega
  have h1 := cat_any ⟨#[118, 49, 46]⟩ ⟨#[V.dig a]⟩ (by show 3 + 1 ≤ _; omega)
  by_cases hb0 : b = 0
  · have h2 := cat_any (⟨#[118, 49, 46]⟩ ++ ⟨#[V.dig a]⟩) ⟨#[46, 48, 45, 114, 99]⟩ (by rw [size_add]; show 3 + 1 + 5 ≤ _; omega)
    have HV : Hid ((⟨#[118, 49, 46]⟩ : ByteArray) ++ ⟨#[V.dig a]⟩ ++ ⟨#[46, 48, 45, 114, 99]⟩ = V.mv n) := by
      refine hide ?_
      unfold V.mv V.mver
      rw [hb, hb0, ha]; rfl
    subst hb0
    clear ha hb h
    go_enter Tryz.func22, Tryz.ntmps22
    go_wp2_with fail
    refine (dec_one a ha10 _).mono ?_
    rintro e w1 ⟨rfl, q1, rfl⟩
    go_wp2
    go_ret
    exact ⟨ret_string HV.out, q1, rfl⟩
  · obtain ⟨d, hd1⟩ : ∃ d, b = d + 1 := ⟨b - 1, by omega⟩
    have h2 := cat_any (⟨#[118, 49, 46]⟩ ++ ⟨#[V.dig a]⟩) ⟨#[46]⟩ (by rw [size_add]; show 3 + 1 + 1 ≤ _; omega)
    have h3 := cat_any (⟨#[118, 49, 46]⟩ ++ ⟨#[V.dig a]⟩ ++ ⟨#[46]⟩) ⟨#[V.dig d]⟩ (by rw [size_add, size_add]; show 3 + 1 + 1 + 1 ≤ _; omega)
    have HV : Hid ((⟨#[118, 49, 46]⟩ : ByteArray) ++ ⟨#[V.dig a]⟩ ++ ⟨#[46]⟩ ++ ⟨#[V.dig d]⟩ = V.mv n) := by
      refine hide ?_
      unfold V.mv V.mver
      rw [hb, hd1, ha]; rfl
    have hd10 : d < 10 := by omega
    have hbi : ((b : Int) == 0) = false := by rw [beq_eq_false_iff_ne]; omega
    have hbd : (b : Int) - 1 = (d : Int) := by omega
    clear ha hb h hd1 hb0
    go_enter Tryz.func22, Tryz.ntmps22
    go_wp2_with fail
    refine (dec_one a ha10 _).mono ?_
    rintro e w1 ⟨rfl, q1, rfl⟩
    go_wp2_with fail
    first
      | refine (dec_one d hd10 _).mono ?_
      | (rw [hbd]; refine (dec_one d hd10 _).mono ?_)
    rintro e w2 ⟨rfl, q2, rfl⟩
    go_wp2
    go_ret
    exact ⟨ret_string HV.out, q1 + q2, rfl⟩

/-- Needs that lie in memory. -/
def NeedRow (w : World) (v : Value) (l : List (Nat × Nat)) : Prop :=
  (v = .slice none 0 0 ∧ l = []) ∨ ∃ g c, v = .slice (some ⟨g, 0, none⟩) l.length c ∧ ∀ j (h : j < l.length), w.cell? ⟨g, j * 2, none⟩ = some (.int .i64 (l[j].1 : Int)) ∧ w.cell? ⟨g, j * 2 + 1, none⟩ = some (.int .i64 (l[j].2 : Int))
theorem needCells_get (l : List (Nat × Nat)) : ∀ j (h : j < l.length), (needCells l)[j * 2]? = some (.int .i64 (l[j].1 : Int)) ∧ (needCells l)[j * 2 + 1]? = some (.int .i64 (l[j].2 : Int)) := by
  induction l with
  | nil => intro j hj; simp at hj
  | cons x xs ih =>
    intro j hj
    have e : needCells (x :: xs) = [.int .i64 (x.1 : Int), .int .i64 (x.2 : Int)] ++ needCells xs := rfl
    match j with
    | 0 => exact ⟨rfl, rfl⟩
    | j + 1 =>
      have := ih j (by simp at hj; omega)
      rw [e]
      refine ⟨?_, ?_⟩
      · rw [List.getElem?_append_right (by simp; omega), List.getElem_cons_succ, ← this.1]; congr 1; simp; omega
      · rw [List.getElem?_append_right (by simp; omega), List.getElem_cons_succ, ← this.2]; congr 1; simp; omega
theorem needRow_of {w : World} {B : Nat} {v : Value} {l : List (Nat × Nat)} (h : w.ownsRow B 45 2 v l.length (needCells l)) : NeedRow w v l := by
  have hc := fun g => h.cells (g := g)
  rcases h.2 with ⟨h1, h2⟩ | ⟨gg, c, cur, h1, _⟩
  · exact Or.inl ⟨h1, List.length_eq_zero_iff.1 h2⟩
  · refine Or.inr ⟨gg, c, h1, fun j hj => ?_⟩
    have h2 := hc gg (by rw [h1]; rfl)
    have h3 := needCells_get l j hj
    have a1 := h2 _ _ h3.1
    have a2 := h2 _ _ h3.2
    rw [add_off] at a1 a2
    exact ⟨a1, a2⟩
theorem NeedRow.later {w w' : World} {v : Value} {l : List (Nat × Nat)} (h : NeedRow w v l) (hb : Below w.heap.size w w') : NeedRow w' v l := by
  rcases h with h | ⟨g, c, h1, h2⟩
  · exact Or.inl h
  · exact Or.inr ⟨g, c, h1, fun j hj => ⟨keep hb (h2 j hj).1, keep hb (h2 j hj).2⟩⟩
/-- What is known of a root's needs. -/
theorem from_needs {C : Array Value} {p : Int} {l : List (Nat × Nat)} (h : From C p l) : V.Needs l ∧ l.length ≤ 5 := by
  refine ⟨⟨fun x hx => ⟨(h.1 x hx).1, by have := (h.1 x hx).2.2.1; omega⟩, h.2⟩, ?_⟩
  have key : ∀ (l : List (Nat × Nat)) (m : Nat), (∀ x ∈ l, m ≤ x.1 ∧ x.1 < 5) → l.Pairwise (fun x y => x.1 < y.1) → l.length + m ≤ 5 ∨ l = [] := by
    intro l
    induction l with
    | nil => intro m _ _; exact Or.inr rfl
    | cons x xs ih =>
      intro m hm hp
      rw [List.pairwise_cons] at hp
      have hx := hm x (List.mem_cons_self ..)
      have := ih (x.1 + 1) (fun y hy => ⟨hp.1 y hy, (hm y (List.mem_cons_of_mem _ hy)).2⟩) hp.2
      rcases this with h | h
      · exact Or.inl (by simp; omega)
      · exact Or.inl (by rw [h]; simp; omega)
  rcases key l 0 (fun x hx => ⟨Nat.zero_le _, (h.1 x hx).1⟩) h.2 with h' | h'
  · omega
  · rw [h']; simp

/-- A need as it is written. -/
def reqB (x : Nat × Nat) : List UInt8 := [114, 101, 113, 117, 105, 114, 101, 32] ++ V.mpath x.1 ++ [32] ++ V.mver x.2 ++ [10]
def partB (l : List (Nat × Nat)) (k : Nat) : ByteArray := ⟨([109, 111, 100, 117, 108, 101, 32, 114, 111, 111, 116, 10] ++ (l.take k).flatMap reqB).toArray⟩
theorem mver_len (n : Nat) : (V.mver n).length ≤ 9 := by
  unfold V.mver; split <;> simp
theorem reqB_len (x : Nat × Nat) : (reqB x).length ≤ 22 := by
  have := mver_len x.2
  unfold reqB V.mpath; simp; omega
theorem flat_len {α : Type} (f : α → List UInt8) (M : Nat) (h : ∀ x, (f x).length ≤ M) : ∀ l : List α, (l.flatMap f).length ≤ l.length * M
  | [] => by simp
  | x :: xs => by
    have := flat_len f M h xs
    have := h x
    rw [List.flatMap_cons, List.length_append, List.length_cons, Nat.succ_mul]; omega
theorem partB_size (l : List (Nat × Nat)) (k : Nat) (hl : l.length ≤ 5) : (partB l k).size ≤ 122 := by
  have h1 := flat_len reqB 22 reqB_len (l.take k)
  have h2 : (l.take k).length ≤ 5 := by rw [List.length_take]; omega
  show ([109, 111, 100, 117, 108, 101, 32, 114, 111, 111, 116, 10] ++ (l.take k).flatMap reqB).toArray.size ≤ 122
  rw [List.size_toArray, List.length_append]
  have h3 : ([109, 111, 100, 117, 108, 101, 32, 114, 111, 111, 116, 10] : List UInt8).length = 12 := rfl
  omega
theorem partB_snoc (l : List (Nat × Nat)) (k : Nat) (h : k < l.length) : partB l k ++ ⟨#[114, 101, 113, 117, 105, 114, 101, 32]⟩ ++ V.mp l[k].1 ++ ⟨#[32]⟩ ++ V.mv l[k].2 ++ ⟨#[10]⟩ = partB l (k + 1) := by
  apply V.bytes_inj
  rw [data_app, data_app, data_app, data_app, data_app, V.mp_list, V.mv_list]
  unfold partB
  rw [List.take_succ_eq_append_getElem h, List.flatMap_append]
  simp [reqB]
theorem mp_size (q : Nat) : (V.mp q).size = 3 := rfl
theorem mv_size (n : Nat) : (V.mv n).size ≤ 9 := by
  show (V.mver n).toArray.size ≤ 9
  rw [List.size_toArray]; exact mver_len n
theorem partB_all (l : List (Nat × Nat)) : partB l l.length = ⟨(V.textOf (V.rootL l)).toArray⟩ := by
  unfold partB
  rw [List.take_length, V.rootL_text]; rfl

set_option maxHeartbeats 1600000 in
set_option maxRecDepth 100000 in
theorem manifest_any (v : Value) (l : List (Nat × Nat)) (w : World) (hl : l.length ≤ 5) (hn : ∀ x ∈ l, x.1 < 5 ∧ x.2 < 30) (hr : NeedRow w v l) :
    Calls Tryz.prog 51 #[.string ⟨#[114, 111, 111, 116]⟩, v] w fun e w' => e = .returned (.string (partB l l.length)) ∧ ∃ q, w' = w.drewN q := by
  have g1 := cat_any ⟨#[109, 111, 100, 117, 108, 101, 32]⟩ ⟨#[114, 111, 111, 116]⟩ (by show 7 + 4 ≤ _; omega)
  have g2 := cat_any (⟨#[109, 111, 100, 117, 108, 101, 32]⟩ ++ ⟨#[114, 111, 111, 116]⟩) ⟨#[10]⟩ (by rw [size_add]; show 7 + 4 + 1 ≤ _; omega)
  have HS : Hid ((⟨#[109, 111, 100, 117, 108, 101, 32]⟩ : ByteArray) ++ ⟨#[114, 111, 111, 116]⟩ ++ ⟨#[10]⟩ = partB l 0) := hide rfl
  have HN := hide hn
  have HR := hide hr
  obtain ⟨a, c, rfl⟩ : ∃ a c, v = .slice a l.length c := by
    rcases hr with ⟨h, h0⟩ | ⟨g, c, h, _⟩
    · exact ⟨none, 0, by rw [h, h0]; rfl⟩
    · exact ⟨_, _, h⟩
  clear hr hn
  go_enter Tryz.func51, Tryz.ntmps51
  go_wp2
  go_loopw [5, 6] (fun s i wr => ∃ k : Nat, k ≤ l.length ∧ i = .int .i64 k ∧ s = .string (partB l k) ∧ ∃ q, wr = w.drewN q) (fun _ i _ => l.length - (intOf i).toNat)
  case atStart => exact ⟨0, by omega, rfl, by rw [← HS.out], 0, rfl⟩
  case round =>
    obtain ⟨k, hk, rfl, rfl, hq⟩ := hrel
    have HQ := hide hq
    clear hq
    by_cases hlt : k < l.length
    · rcases HR.out with ⟨h, h0⟩ | ⟨g, c', h, hc⟩
      · rw [h0] at hlt; simp at hlt
      · injection h with h1 _ h3
        subst h1 h3
        have c0 : wr.cell? ⟨g, k * 2, none⟩ = some (.int .i64 (l[k].1 : Int)) := by
          obtain ⟨q, e⟩ := HQ.out
          rw [e]; exact (hc k hlt).1
        have c1 : wr.cell? ⟨g, k * 2 + 1, none⟩ = some (.int .i64 (l[k].2 : Int)) := by
          obtain ⟨q, e⟩ := HQ.out
          rw [e]; exact (hc k hlt).2
        have HX := hide (HN.out l[k] (List.getElem_mem hlt))
        have HP := hide (partB_snoc l k hlt)
        have hsz := partB_size l k hl
        generalize l[k] = x at c0 c1 HX HP
        obtain ⟨xq, xv⟩ := x
        simp only at c0 c1 HX HP
        have s1 := mp_size xq
        have s2 := mv_size xv
        have t1 : (ByteArray.mk #[114, 101, 113, 117, 105, 114, 101, 32]).size = 8 := rfl
        have t2 : (ByteArray.mk #[32]).size = 1 := rfl
        have t3 : (ByteArray.mk #[10]).size = 1 := rfl
        have k1 := cat_any (partB l k) ⟨#[114, 101, 113, 117, 105, 114, 101, 32]⟩ (by omega)
        have k2 := cat_any (partB l k ++ ⟨#[114, 101, 113, 117, 105, 114, 101, 32]⟩) (V.mp xq) (by rw [size_add]; omega)
        have k3 := cat_any (partB l k ++ ⟨#[114, 101, 113, 117, 105, 114, 101, 32]⟩ ++ V.mp xq) ⟨#[32]⟩ (by rw [size_add, size_add]; omega)
        have k4 := cat_any (partB l k ++ ⟨#[114, 101, 113, 117, 105, 114, 101, 32]⟩ ++ V.mp xq ++ ⟨#[32]⟩) (V.mv xv) (by rw [size_add, size_add, size_add]; omega)
        have k5 := cat_any (partB l k ++ ⟨#[114, 101, 113, 117, 105, 114, 101, 32]⟩ ++ V.mp xq ++ ⟨#[32]⟩ ++ V.mv xv) ⟨#[10]⟩ (by rw [size_add, size_add, size_add, size_add]; omega)
        clear hsz s1 s2 t1 t2 t3 hc
        have hpt := path_any xq HX.out.1
        have hvr := version_any xv HX.out.2
        go_wp2_with fail
        go_quiet (first | (go_at_call 21; exact Calls.quiet_of_same (hpt _)) | (go_at_call 22; exact Calls.quiet_of (hvr _)))
        have RQ : ∃ q', wr.drewN nq = w.drewN q' := by
          obtain ⟨q, e⟩ := HQ.out
          exact ⟨q + nq, by rw [e, World.drewN_drewN]⟩
        have HRQ := hide RQ
        clear RQ
        go_wp2_with fail
        go_roundw
        case rel => exact ⟨k + 1, by omega, by go_num, by rw [HP.out], HRQ.out⟩
        case measure => simp [intOf]; omega
    · have hke : k = l.length := by omega
      subst hke
      go_wp2
      go_ret
      exact ⟨rfl, HQ.out⟩

set_option maxHeartbeats 800000 in
set_option maxRecDepth 100000 in
theorem text_root (B mb : Nat) (C : Array Value) (l : List (Nat × Nat)) (w : World) (h : MadeAt w B mb C l) :
    Calls Tryz.prog 20 #[.pointer (some ⟨mb, 0, none⟩)] w fun e w' => e = .returned (.string ⟨(V.textOf (V.rootL l)).toArray⟩) ∧ ∃ q, w' = w.drewN q := by
  obtain ⟨h1, _, _, v, h30, hfr, hown⟩ := h
  obtain ⟨hnd, hl⟩ := from_needs hfr
  have c30 : w.cell? ⟨mb, 30, none⟩ = some v := by rw [Lib.cell_of_heap h1]; exact h30
  have HN := hide (needRow_of hown)
  obtain ⟨a, n, c, rfl⟩ : ∃ a n c, v = .slice a n c := by
    rcases hown.2 with ⟨h, _⟩ | ⟨g, cp, cur, h, _⟩
    · exact ⟨_, _, _, h⟩
    · exact ⟨_, _, _, h⟩
  clear h1 h30 hown
  go_enter Tryz.func20, Tryz.ntmps20
  go_wp2_with fail
  refine (manifest_any _ l _ hl hnd.1 HN.out).mono ?_
  rintro e w1 ⟨rfl, q, rfl⟩
  have HE := hide (partB_all l)
  go_wp2
  go_ret
  exact ⟨ret_string HE.out, q, rfl⟩

end Go.Proofs.YtcfhleenecfghaaGreatDoor
