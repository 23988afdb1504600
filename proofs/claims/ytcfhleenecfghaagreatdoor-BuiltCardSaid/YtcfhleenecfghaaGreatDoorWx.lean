/- The parser takes any line. -/
import Derived.Test.YtcfhleenecfghaaGreatDoorWw
import Derived.Test.YtcfhleenecfghaaGreatDoorWo2
namespace Go.Proofs.YtcfhleenecfghaaGreatDoor
open Go.RowKit

theorem keyw_range (l : List UInt8) : V.keyw l = 0 ∨ V.keyw l = 1 ∨ V.keyw l = 2 ∨ V.keyw l = 3 ∨ V.keyw l = 4 := by
  unfold V.keyw
  repeat' split
  all_goals decide


theorem Toks.tail {w : World} {g : Nat} {x : ByteArray} {rest : List ByteArray} (h : Toks w g 0 (x :: rest)) : Toks w g 2 rest := by
  intro j hj
  have := h (j + 1) (by simp; omega)
  simp only [List.getD_cons_succ] at this
  rw [show 2 + j * 2 = 0 + (j + 1) * 2 by omega]
  exact this

set_option maxHeartbeats 3200000 in
set_option maxRecDepth 100000 in
theorem take_out (n : Nat) (st blk : Int) (hst : st = 0 ∨ st = 1) (g c pb base : Nat) (x : ByteArray) (rest : List ByteArray) (l : List (Nat × Nat × List ByteArray)) (w : World) (hl : rest.length ≤ 100000000000) (hc : rest.length + 1 ≤ c) (hll : l.length ≤ 1000000000000) (hgp : pb ≠ g) (ht : Toks w g 0 (x :: rest)) (hp : ParserAt w pb base st blk l) :
    Calls Tryz.prog 177 #[.pointer (some ⟨pb, 0, none⟩), .int .i64 (n : Int), .slice (some ⟨g, 0, none⟩) (rest.length + 1) c] w fun e w' => e = .returned (.bool (V.took n (x :: rest) st blk l).1) ∧ ParserAt w' pb base (V.took n (x :: rest) st blk l).2.1 (V.took n (x :: rest) st blk l).2.2.1 (V.took n (x :: rest) st blk l).2.2.2 ∧ Beyond pb base w w' := by
  have hpl := hp.lt
  have h1 : w.cell? ⟨g, 1, none⟩ = some (.string x) := by simpa using (ht 0 (by simp)).2
  have d0 := hp.cell0
  have HT := hide ht.tail
  have HP := hide hp
  clear ht hp
  have hk := keyw_range x.data.toList
  have HK := hide hk
  have HX : Hid (V.took n (x :: rest) st blk l = if V.keyw x.data.toList == 1 && st != 0 then (false, st, blk, l) else if V.opens (V.keyw x.data.toList) rest then (true, 2, V.keyw x.data.toList, l) else ((V.added n (V.keyw x.data.toList) rest l).1, 1, blk, (V.added n (V.keyw x.data.toList) rest l).2)) := by
    refine hide ?_
    rcases hst with rfl | rfl <;> rfl
  have hst2 : (st == 2) = false := by rcases hst with rfl | rfl <;> rfl
  have q1 : (c : Int) ≥ (rest.length : Int) + 1 := by omega
  clear hk
  by_cases hc1 : c = 1
  · subst hc1
    have HR : Hid (rest = []) := hide (List.eq_nil_of_length_eq_zero (by omega))
    go_enter Tryz.func177, Tryz.ntmps177
    go_wp2_with fail
    go_quiet ((go_at_call 248; exact Calls.quiet_of_same (keywordOf_any _ _)))
    have HPq : Hid (ParserAt (w.drewN nq) pb base st blk l) := hide (HP.out.later (below_drewN (Below.refl _ w) nq))
    have q0 : (w.drewN nq).cell? ⟨pb, 0, none⟩ = some (.int .i64 st) := HPq.out.cell0
    have HTq : Hid (Toks (w.drewN nq) g 2 rest) := hide (HT.out.later (below_drewN (Below.refl _ w) nq))
    have HBq := hide (Beyond.new HP.out.1 HP.out.2.1 (below_drewN (Below.refl _ w) nq))
    have hplq : pb < (w.drewN nq).heap.size := HPq.out.lt
    clear h1 d0 HT HP hpl
    generalize w.drewN nq = wq at HPq q0 HTq HBq hplq ⊢
    generalize V.keyw x.data.toList = kw at HK HX ⊢
    cases hk1 : (kw == 1)
    · have HN : Hid ((kw == 1 && st != 0) = false) := hide (by rw [hk1]; rfl)
      go_wp2_with fail
      refine (opens_any kw HK.out g 0 0 [] _ (by first | decide | omega) (fun j hj => absurd hj (Nat.not_lt_zero j))).mono ?_
      rintro e w2 ⟨rfl, hb2⟩
      have HP2 := hide (HPq.out.later hb2)
      have HT2 := hide (HTq.out.later hb2)
      have e0 : w2.cell? ⟨pb, 0, none⟩ = some (.int .i64 st) := HP2.out.cell0
      have e1 : w2.cell? ⟨pb, 1, none⟩ = some (.int .i64 blk) := HP2.out.cell1
      have f0 : w2.frozen? ⟨pb, 0, none⟩ = false := HP2.out.soft 0
      have f1 : w2.frozen? ⟨pb, 1, none⟩ = false := HP2.out.soft 1
      have HB2 := hide (HBq.out.trans (Beyond.new HPq.out.1 HPq.out.2.1 hb2))
      clear hb2 q0 HPq HTq HBq
      cases ho : V.opens kw []
      · have HY : Hid (V.took n (x :: rest) st blk l = ((V.added n kw [] l).1, 1, blk, (V.added n kw [] l).2)) := by
          refine hide ?_
          rw [HX.out, HR.out, ho, HN.out]; rfl
        go_wp2_with fail
        refine (add_any n kw 1 blk HK.out g 0 0 pb base [] l _ (by first | decide | omega) hll (fun j hj => absurd hj (Nat.not_lt_zero j)) (HP2.out.state 1)).mono ?_
        rintro e w3 ⟨rfl, hp3, hb3⟩
        have HP3 := hide hp3
        have HB3 := hide ((HB2.out.setCell 0 (.int .i64 1)).trans hb3)
        clear hp3 hb3
        go_wp2
        go_ret
        rw [HY.out]
        exact ⟨rfl, HP3.out, HB3.out⟩
      · have HY : Hid (V.took n (x :: rest) st blk l = (true, 2, kw, l)) := by
          refine hide ?_
          rw [HX.out, HR.out, ho, HN.out]; rfl
        go_wp2
        go_ret
        rw [HY.out]
        exact ⟨rfl, (HP2.out.state 2).block kw, (HB2.out.setCell 0 (.int .i64 2)).setCell 1 (.int .i64 kw)⟩
    · cases hs0 : (st != 0)
      · have HN : Hid ((kw == 1 && st != 0) = false) := hide (by rw [hk1, hs0]; rfl)
        go_wp2_with fail
        refine (opens_any kw HK.out g 0 0 [] _ (by first | decide | omega) (fun j hj => absurd hj (Nat.not_lt_zero j))).mono ?_
        rintro e w2 ⟨rfl, hb2⟩
        have HP2 := hide (HPq.out.later hb2)
        have HT2 := hide (HTq.out.later hb2)
        have e0 : w2.cell? ⟨pb, 0, none⟩ = some (.int .i64 st) := HP2.out.cell0
        have e1 : w2.cell? ⟨pb, 1, none⟩ = some (.int .i64 blk) := HP2.out.cell1
        have f0 : w2.frozen? ⟨pb, 0, none⟩ = false := HP2.out.soft 0
        have f1 : w2.frozen? ⟨pb, 1, none⟩ = false := HP2.out.soft 1
        have HB2 := hide (HBq.out.trans (Beyond.new HPq.out.1 HPq.out.2.1 hb2))
        clear hb2 q0 HPq HTq HBq
        cases ho : V.opens kw []
        · have HY : Hid (V.took n (x :: rest) st blk l = ((V.added n kw [] l).1, 1, blk, (V.added n kw [] l).2)) := by
            refine hide ?_
            rw [HX.out, HR.out, ho, HN.out]; rfl
          go_wp2_with fail
          refine (add_any n kw 1 blk HK.out g 0 0 pb base [] l _ (by first | decide | omega) hll (fun j hj => absurd hj (Nat.not_lt_zero j)) (HP2.out.state 1)).mono ?_
          rintro e w3 ⟨rfl, hp3, hb3⟩
          have HP3 := hide hp3
          have HB3 := hide ((HB2.out.setCell 0 (.int .i64 1)).trans hb3)
          clear hp3 hb3
          go_wp2
          go_ret
          rw [HY.out]
          exact ⟨rfl, HP3.out, HB3.out⟩
        · have HY : Hid (V.took n (x :: rest) st blk l = (true, 2, kw, l)) := by
            refine hide ?_
            rw [HX.out, HR.out, ho, HN.out]; rfl
          go_wp2
          go_ret
          rw [HY.out]
          exact ⟨rfl, (HP2.out.state 2).block kw, (HB2.out.setCell 0 (.int .i64 2)).setCell 1 (.int .i64 kw)⟩
      · have HY : Hid (V.took n (x :: rest) st blk l = (false, st, blk, l)) := by
          refine hide ?_
          rw [HX.out, hk1, hs0]; rfl
        go_wp2
        go_ret
        rw [HY.out]
        exact ⟨rfl, HPq.out, HBq.out⟩
  · skip
    go_enter Tryz.func177, Tryz.ntmps177
    go_wp2_with fail
    go_quiet ((go_at_call 248; exact Calls.quiet_of_same (keywordOf_any _ _)))
    have HPq : Hid (ParserAt (w.drewN nq) pb base st blk l) := hide (HP.out.later (below_drewN (Below.refl _ w) nq))
    have q0 : (w.drewN nq).cell? ⟨pb, 0, none⟩ = some (.int .i64 st) := HPq.out.cell0
    have HTq : Hid (Toks (w.drewN nq) g 2 rest) := hide (HT.out.later (below_drewN (Below.refl _ w) nq))
    have HBq := hide (Beyond.new HP.out.1 HP.out.2.1 (below_drewN (Below.refl _ w) nq))
    have hplq : pb < (w.drewN nq).heap.size := HPq.out.lt
    clear h1 d0 HT HP hpl
    generalize w.drewN nq = wq at HPq q0 HTq HBq hplq ⊢
    generalize V.keyw x.data.toList = kw at HK HX ⊢
    cases hk1 : (kw == 1)
    · have HN : Hid ((kw == 1 && st != 0) = false) := hide (by rw [hk1]; rfl)
      go_wp2_with fail
      refine (opens_any kw HK.out g 2 (c - 1) rest _ (by first | decide | omega) HTq.out).mono ?_
      rintro e w2 ⟨rfl, hb2⟩
      have HP2 := hide (HPq.out.later hb2)
      have HT2 := hide (HTq.out.later hb2)
      have e0 : w2.cell? ⟨pb, 0, none⟩ = some (.int .i64 st) := HP2.out.cell0
      have e1 : w2.cell? ⟨pb, 1, none⟩ = some (.int .i64 blk) := HP2.out.cell1
      have f0 : w2.frozen? ⟨pb, 0, none⟩ = false := HP2.out.soft 0
      have f1 : w2.frozen? ⟨pb, 1, none⟩ = false := HP2.out.soft 1
      have HB2 := hide (HBq.out.trans (Beyond.new HPq.out.1 HPq.out.2.1 hb2))
      clear hb2 q0 HPq HTq HBq
      cases ho : V.opens kw rest
      · have HY : Hid (V.took n (x :: rest) st blk l = ((V.added n kw rest l).1, 1, blk, (V.added n kw rest l).2)) := by
          refine hide ?_
          rw [HX.out, ho, HN.out]; rfl
        go_wp2_with fail
        refine (add_any n kw 1 blk HK.out g 2 (c - 1) pb base rest l _ (by first | decide | omega) hll (HT2.out.set hgp) (HP2.out.state 1)).mono ?_
        rintro e w3 ⟨rfl, hp3, hb3⟩
        have HP3 := hide hp3
        have HB3 := hide ((HB2.out.setCell 0 (.int .i64 1)).trans hb3)
        clear hp3 hb3
        go_wp2
        go_ret
        rw [HY.out]
        exact ⟨rfl, HP3.out, HB3.out⟩
      · have HY : Hid (V.took n (x :: rest) st blk l = (true, 2, kw, l)) := by
          refine hide ?_
          rw [HX.out, ho, HN.out]; rfl
        go_wp2
        go_ret
        rw [HY.out]
        exact ⟨rfl, (HP2.out.state 2).block kw, (HB2.out.setCell 0 (.int .i64 2)).setCell 1 (.int .i64 kw)⟩
    · cases hs0 : (st != 0)
      · have HN : Hid ((kw == 1 && st != 0) = false) := hide (by rw [hk1, hs0]; rfl)
        go_wp2_with fail
        refine (opens_any kw HK.out g 2 (c - 1) rest _ (by first | decide | omega) HTq.out).mono ?_
        rintro e w2 ⟨rfl, hb2⟩
        have HP2 := hide (HPq.out.later hb2)
        have HT2 := hide (HTq.out.later hb2)
        have e0 : w2.cell? ⟨pb, 0, none⟩ = some (.int .i64 st) := HP2.out.cell0
        have e1 : w2.cell? ⟨pb, 1, none⟩ = some (.int .i64 blk) := HP2.out.cell1
        have f0 : w2.frozen? ⟨pb, 0, none⟩ = false := HP2.out.soft 0
        have f1 : w2.frozen? ⟨pb, 1, none⟩ = false := HP2.out.soft 1
        have HB2 := hide (HBq.out.trans (Beyond.new HPq.out.1 HPq.out.2.1 hb2))
        clear hb2 q0 HPq HTq HBq
        cases ho : V.opens kw rest
        · have HY : Hid (V.took n (x :: rest) st blk l = ((V.added n kw rest l).1, 1, blk, (V.added n kw rest l).2)) := by
            refine hide ?_
            rw [HX.out, ho, HN.out]; rfl
          go_wp2_with fail
          refine (add_any n kw 1 blk HK.out g 2 (c - 1) pb base rest l _ (by first | decide | omega) hll (HT2.out.set hgp) (HP2.out.state 1)).mono ?_
          rintro e w3 ⟨rfl, hp3, hb3⟩
          have HP3 := hide hp3
          have HB3 := hide ((HB2.out.setCell 0 (.int .i64 1)).trans hb3)
          clear hp3 hb3
          go_wp2
          go_ret
          rw [HY.out]
          exact ⟨rfl, HP3.out, HB3.out⟩
        · have HY : Hid (V.took n (x :: rest) st blk l = (true, 2, kw, l)) := by
            refine hide ?_
            rw [HX.out, ho, HN.out]; rfl
          go_wp2
          go_ret
          rw [HY.out]
          exact ⟨rfl, (HP2.out.state 2).block kw, (HB2.out.setCell 0 (.int .i64 2)).setCell 1 (.int .i64 kw)⟩
      · have HY : Hid (V.took n (x :: rest) st blk l = (false, st, blk, l)) := by
          refine hide ?_
          rw [HX.out, hk1, hs0]; rfl
        go_wp2
        go_ret
        rw [HY.out]
        exact ⟨rfl, HPq.out, HBq.out⟩

set_option maxHeartbeats 1600000 in
set_option maxRecDepth 100000 in
theorem take_in (n : Nat) (blk : Int) (hkw : blk = 0 ∨ blk = 1 ∨ blk = 2 ∨ blk = 3 ∨ blk = 4) (g c pb base : Nat) (x : ByteArray) (rest : List ByteArray) (l : List (Nat × Nat × List ByteArray)) (w : World) (hl : rest.length ≤ 100000000000) (hll : l.length ≤ 1000000000000) (ht : Toks w g 0 (x :: rest)) (hp : ParserAt w pb base 2 blk l) :
    Calls Tryz.prog 177 #[.pointer (some ⟨pb, 0, none⟩), .int .i64 (n : Int), .slice (some ⟨g, 0, none⟩) (rest.length + 1) c] w fun e w' => e = .returned (.bool (V.took n (x :: rest) 2 blk l).1) ∧ ParserAt w' pb base (V.took n (x :: rest) 2 blk l).2.1 (V.took n (x :: rest) 2 blk l).2.2.1 (V.took n (x :: rest) 2 blk l).2.2.2 ∧ Beyond pb base w w' := by
  have d0 := hp.cell0
  have HT := hide ht
  have HP := hide hp
  clear ht hp
  have HX : Hid (V.took n (x :: rest) 2 blk l = V.tookIn n (x :: rest) blk l) := hide rfl
  go_enter Tryz.func177, Tryz.ntmps177
  go_wp2_with fail
  refine (takeIn_any n blk hkw g c pb base (x :: rest) l w (by simp; omega) hll HT.out HP.out).mono ?_
  rintro e w1 ⟨rfl, hp1, hb1⟩
  have HP1 := hide hp1
  have HB1 := hide hb1
  clear hp1 hb1
  go_wp2
  go_ret
  rw [HX.out]
  exact ⟨rfl, HP1.out, HB1.out⟩

set_option maxHeartbeats 400000 in
theorem take_none (n pb : Nat) (at? : Option Addr) (cap : Nat) (w : World) : Calls Tryz.prog 177 #[.pointer (some ⟨pb, 0, none⟩), .int .i64 (n : Int), .slice at? 0 cap] w fun e w' => e = .returned (.bool true) ∧ w' = w := by
  go_enter Tryz.func177, Tryz.ntmps177
  go_wp2
  go_ret
  exact ⟨rfl, rfl⟩

end Go.Proofs.YtcfhleenecfghaaGreatDoor
