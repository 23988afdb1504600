/- The book of a caller who lends: is everything as it was? -/
import Derived.Test.YtcfhleenecfghaaDoorDhc
import Derived.Shelf.SlSortCmp.QuietGrown
namespace Go.Proofs.YtcfhleenecfghaaDoor
open Go.RowKit Go.Sort

theorem neq69 (x y : ByteArray) (w : World) : (binOp .neq 69 (.agg #[.string x, .string y]) (.agg #[.string x, .string y])).run Tryd.prog w = .ok (.bool false) w := by
  have hs : Tryd.prog.stoodInHeld 69 = false := by kernel_rfl
  have hu : Tryd.prog.underlying 69 = some (.struct (Tryd.prog.fieldsOf 69)) := by simp [Program.fieldsOf, Tryd.underlying69]
  rw [run_neq_struct, run_equalIn_agg w 9999 69 _ _ hu hs]
  simp [Program.fieldsOf, Tryd.underlying69, go_sem]
set_option maxHeartbeats 400000 in
theorem same_any (p v m : ByteArray) (a b : Option Addr) (n c d : Nat) (w : World) :
    Calls Tryd.prog 31 #[.agg #[.string p, .string v, .string m, .slice a n c], .agg #[.string p, .string v, .string m, .slice b n d]] w fun e w' => e = .returned (.bool true) ∧ ∃ q os, w' = grow (w.drewN q) os := by
  go_enter Tryd.func31, Tryd.ntmps31
  go_wp2
  go_ret
  refine ⟨rfl, 0, #[.cells #[.string p, .string v, .string m, .slice a n c] 29] ++ #[.cells #[.string p, .string v, .string m, .slice b n d] 29], ?_⟩
  rw [alloc_eq_grow, alloc_eq_grow, grow_grow]
  rfl
theorem below_grown (w : World) (q : Nat) (os : Array Obj) : Below w.heap.size w (grow (w.drewN q) os) := by
  refine ⟨rfl, rfl, rfl, by simp [grow], fun k hk => ?_⟩
  show (w.heap ++ os)[k]? = _
  rw [Array.getElem?_append_left hk]
/-- The k-th of four releases. -/
theorem row4 (p v m : ByteArray) (a : Option Addr) (n c : Nat) (k : Nat) (hk : k < 4) : ∃ p' v' m' a' n' c', ∀ (w : World) (b : Nat), RowAt w b (relRow p v m (.slice a n c) ++ behR) →
    w.cell? ⟨b, k * 4, none⟩ = some (.string p') ∧ w.cell? ⟨b, k * 4 + 1, none⟩ = some (.string v') ∧ w.cell? ⟨b, k * 4 + 2, none⟩ = some (.string m') ∧ w.cell? ⟨b, k * 4 + 3, none⟩ = some (.slice a' n' c') := by
  rcases (by omega : k = 0 ∨ k = 1 ∨ k = 2 ∨ k = 3) with rfl | rfl | rfl | rfl
  · exact ⟨p, v, m, a, n, c, fun w b h => ⟨h 0 _ rfl, h 1 _ rfl, h 2 _ rfl, h 3 _ rfl⟩⟩
  · exact ⟨behind, ⟨#[]⟩, ⟨#[]⟩, none, 0, 0, fun w b h => ⟨h 4 _ rfl, h 5 _ rfl, h 6 _ rfl, h 7 _ rfl⟩⟩
  · exact ⟨behind, ⟨#[]⟩, ⟨#[]⟩, none, 0, 0, fun w b h => ⟨h 8 _ rfl, h 9 _ rfl, h 10 _ rfl, h 11 _ rfl⟩⟩
  · exact ⟨behind, ⟨#[]⟩, ⟨#[]⟩, none, 0, 0, fun w b h => ⟨h 12 _ rfl, h 13 _ rfl, h 14 _ rfl, h 15 _ rfl⟩⟩
set_option maxHeartbeats 1600000 in
set_option maxRecDepth 100000 in
theorem lists_any (B N : Nat) (p v m : ByteArray) (a : Option Addr) (n c : Nat) (L : List Fil) (ob oc wb wc b5 c5 b6 c6 : Nat) (fs : Value) (w : World) (hl : L.length ≤ 4398046511104)
    (k5 : w.cell? ⟨B, 5, none⟩ = some (.slice (some ⟨b5, 0, none⟩) 1 c5)) (k6 : w.cell? ⟨B, 6, none⟩ = some (.slice (some ⟨b6, 0, none⟩) 1 c6)) (k9 : w.cell? ⟨B, 9, none⟩ = some (.slice none 0 0))
    (o5 : w.cell? ⟨b5, 0, none⟩ = some (.slice (some ⟨ob, 0, none⟩) 4 oc)) (o6 : w.cell? ⟨b6, 0, none⟩ = some (.slice (some ⟨wb, 0, none⟩) 4 wc))
    (hr : RowAt w ob (relRow p v m (.slice a n c) ++ behR)) (hw : RowAt w wb (relRow p v m (.slice a n c) ++ behR)) (hF : FilesSt B N w fs L) :
    Calls Tryd.prog 16 #[.pointer (some ⟨B, 0, none⟩)] w fun e w' => e = .returned (.bool true) ∧ Below w.heap.size w w' := by
  have HR : Hid (RowAt w ob (relRow p v m (.slice a n c) ++ behR)) := hr
  have HW : Hid (RowAt w wb (relRow p v m (.slice a n c) ++ behR)) := hw
  have HF : Hid (FilesSt B N w fs L) := hF
  clear hr hw hF
  have mixed : Tryd.prog.follows Departure.mixedOrders = true := by kernel_rfl
  go_enter Tryd.func16, Tryd.ntmps16
  go_wp2
  refine wp_loop_rounds 2 ?_
  rw [rounds_succ]
  go_wp2
  go_loopw [4] (fun vk wr => ∃ k : Nat, k ≤ 4 ∧ vk = .int .i64 k ∧ Below w.heap.size w wr) (fun vk _ => 4 - (intOf vk).toNat)
  case atStart => exact ⟨0, by omega, rfl, Below.refl _ _⟩
  case round =>
    obtain ⟨k, hk, rfl, hb⟩ := hrel
    have K : ∀ {b o : Nat} {u : Value}, w.cell? ⟨b, o, none⟩ = some u → ∀ n' os', (grow (wr.drewN n') os').cell? ⟨b, o, none⟩ = some u := fun h n' os' => keep (below_grown wr n' os') (keep hb h)
    have x5 := K k5
    have x6 := K k6
    have y5 := K o5
    have y6 := K o6
    have s5 := keep hb k5
    have t5 := keep hb o5
    by_cases hlt : k < 4
    · have hltz : (k : Int) < 4 := by omega
      obtain ⟨p', v', m', a', n', c', hk4⟩ := row4 p v m a n c k hlt
      obtain ⟨e0, e1, e2, e3⟩ := hk4 w ob HR.out
      obtain ⟨f0, f1, f2, f3⟩ := hk4 w wb HW.out
      clear hk4
      replace e0 := K e0
      replace e1 := K e1
      replace e2 := K e2
      replace e3 := K e3
      replace f0 := K f0
      replace f1 := K f1
      replace f2 := K f2
      replace f3 := K f3
      clear K
      go_wp2_with fail
      go_quiet_grown ((go_at_call 31; refine Calls.grown_of (same_any _ _ _ _ _ _ _ _ _)))
      go_wp2
      go_round
      case rel => exact ⟨k + 1, hlt, by go_num, hb.trans ((below_grown wr _ _).mono hb.size)⟩
      case measure => simp [intOf]; omega
    · have hltz : ¬ (k : Int) < 4 := by omega
      clear x5 x6 y5 y6
      have s9 := keep hb k9
      rcases HF.out with ⟨_, _, k7, k8⟩ | ⟨fo, fc, fw, fwc, b7, c7, b8, c8, _, n1, n2, f1, f2, k7, k8, n3, n4, o7, o8⟩
      · have s7 := keep hb k7
        clear K
        go_wp2
        rw [rounds_succ]
        go_wp2
        refine wp_loop_rounds 1 ?_
        rw [rounds_succ]
        go_wp2
        refine wp_loop_rounds 1 ?_
        rw [rounds_succ]
        go_wp2
        go_ret
        exact ⟨rfl, hb⟩
      · have s7 := keep hb k7
        have s8 := keep hb k8
        have t7 := keep hb o7
        have t8 := keep hb o8
        have H1 : Hid (FilesAt wr fo 0 (L ++ beh3)) := fun j u hu => keep hb (f1 j u hu)
        have H2 : Hid (FilesAt wr fw 0 (L ++ beh3)) := fun j u hu => keep hb (f2 j u hu)
        have hll : (L ++ beh3).length = L.length + 3 := by rw [List.length_append]; rfl
        have HLL : Hid ((L ++ beh3).length = L.length + 3) := hll
        clear K f1 f2 k5 k6 k7 k8 k9 o5 o6 o7 o8 hll
        have hne := neq69
        go_wp2
        rw [rounds_succ]
        go_wp2
        refine wp_loop_rounds 2 ?_
        rw [rounds_succ]
        go_wp2
        go_loopw [7] (fun vk wq => ∃ j q : Nat, j ≤ L.length + 3 ∧ vk = .int .i64 j ∧ wq = wr.drewN q) (fun vk _ => L.length + 3 - (intOf vk).toNat)
        case atStart => exact ⟨0, 0, by omega, rfl, rfl⟩
        case round =>
          obtain ⟨j, q, hj, rfl, rfl⟩ := hrel
          by_cases hjl : j < L.length + 3
          · have hjz : (j : Int) < (L.length : Int) + 3 := by omega
            have hj2 : j < (L ++ beh3).length := by rw [HLL.out]; exact hjl
            obtain ⟨a0, a1⟩ := filesAt_one H1.out j hj2
            obtain ⟨d0, d1⟩ := filesAt_one H2.out j hj2
            rw [Nat.zero_add] at a0 a1 d0 d1
            generalize (L ++ beh3)[j] = fj at a0 a1 d0 d1
            go_wp2_with fail
            go_quiet (fail)
            go_wp2
            go_round
            case rel => exact ⟨j + 1, _, by omega, by go_num, rfl⟩
            case measure => simp [intOf]; omega
          · have hjz : ¬ (j : Int) < (L.length : Int) + 3 := by omega
            go_wp2
            rw [rounds_succ]
            go_wp2
            refine wp_loop_rounds 1 ?_
            rw [rounds_succ]
            go_wp2
            go_ret
            exact ⟨rfl, below_drewN hb _⟩
end Go.Proofs.YtcfhleenecfghaaDoor
