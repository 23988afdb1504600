/- What the statements' own small functions answer: which of some things a raw number speaks of, and a number's digits. -/
import Derived.Test.YtcfhleenecfghaaGreatDoorWe
import Derived.Test.YtcfhleenecfghaaGreatDoorPlan4
namespace Go.Proofs.YtcfhleenecfghaaGreatDoor
open Go.RowKit

/-- Which of 100000 things a raw number speaks of. -/
def pickN (x : Int) : Int := if x < 0 then (-(x + 1)) % 100000 else x % 100000
theorem pickN_range (x : Int) : 0 ≤ pickN x ∧ pickN x < 100000 := by
  unfold pickN; split <;> omega

set_option maxHeartbeats 400000 in
theorem pick_any (x : Int) (w : World) (h1 : -9223372036854775808 ≤ x) (h2 : x ≤ 9223372036854775807) :
    Calls Tryz.prog 15 #[.int .i64 x, .int .i64 100000] w fun e w' => e = .returned (.int .i64 (pickN x)) ∧ w' = w := by
  by_cases h : x < 0
  · go_enter Tryz.func15, Tryz.ntmps15
    go_wp2
    go_ret
    exact ⟨ret_int (by unfold pickN; rw [if_pos h, ← Int.neg_tmod, Int.tmod_eq_emod_of_nonneg (by omega)]), rfl⟩
  · go_enter Tryz.func15, Tryz.ntmps15
    go_wp2
    go_ret
    exact ⟨ret_int (by unfold pickN; rw [if_neg (by omega)]), rfl⟩

def decB (f n : Nat) : ByteArray := ⟨(V.decF f n).toArray⟩
theorem ret_string {a b : ByteArray} (h : a = b) : Ending.returned (.string a) = .returned (.string b) := by rw [h]
theorem digit_piece (n : Nat) (h : n < 10) : (ByteArray.mk #[48, 49, 50, 51, 52, 53, 54, 55, 56, 57]).extract n (n + 1) = ⟨#[V.dig n]⟩ := by
  have : ∀ n : Fin 10, (ByteArray.mk #[48, 49, 50, 51, 52, 53, 54, 55, 56, 57]).extract n.val (n.val + 1) = ⟨#[V.dig n.val]⟩ := by decide
  exact this ⟨n, h⟩

set_option maxHeartbeats 800000 in
theorem decimal_any (f : Nat) (hf : f ≤ 1000) : ∀ (x : Int) (w : World), 0 ≤ x → x < 10 ^ (f + 1) → x ≤ 1000000 →
    Calls Tryz.prog 16 #[.int .i64 x] w fun e w' => e = .returned (.string (decB f x.toNat)) ∧ ∃ q, w' = w.drewN q := by
  induction f with
  | zero =>
    intro x w h0 h1 _
    have h10 : x < 10 := by simpa using h1
    obtain ⟨n, rfl⟩ := Int.eq_ofNat_of_zero_le h0
    have hn : n < 10 := by omega
    clear h1
    go_enter Tryz.func16, Tryz.ntmps16
    go_wp2_with fail
    go_ret
    refine ⟨ret_string ?_, 0, rfl⟩
    rw [digit_piece n hn]; rfl
  | succ f ih =>
    intro x w h0 h1 h6
    obtain ⟨n, rfl⟩ := Int.eq_ofNat_of_zero_le h0
    have HI := hide (ih (by omega))
    have HF := hide hf
    clear ih hf
    by_cases h10 : n < 10
    · have hx : (n : Int) < 10 := by omega
      clear h1
      go_enter Tryz.func16, Tryz.ntmps16
      go_wp2_with fail
      go_ret
      refine ⟨ret_string ?_, 0, rfl⟩
      rw [digit_piece n h10, Int.toNat_natCast, decB, V.decF, if_pos h10]
    · have hx : ¬ (n : Int) < 10 := by omega
      have hq : ((n : Int) / 10) < 10 ^ (f + 1) := by
        rw [Int.ediv_lt_iff_lt_mul (by omega)]
        rw [Int.pow_succ] at h1
        exact h1
      have HQ := hide hq
      clear h1 hq
      have hw1 : IntKind.i64.wrap ((n : Int) / 10) = (n : Int) / 10 := by rw [IntKind.wrap_i64]; omega
      obtain ⟨r, hr, hr10⟩ : ∃ r : Nat, n % 10 = r ∧ r < 10 := ⟨n % 10, rfl, by omega⟩
      have HR := hide hr
      have ht : (n : Int).tmod 10 = (r : Int) := by
        rw [Int.tmod_eq_emod_of_nonneg (by omega)]; omega
      have hw3 : IntKind.i64.wrap ((r : Int) + 1) = (r : Int) + 1 := by rw [IntKind.wrap_i64]; omega
      have hsl : ∀ wx : World, (Instr.slice 9 (.string ⟨#[48, 49, 50, 51, 52, 53, 54, 55, 56, 57]⟩) (some (.int .i64 (r : Int))) (some (.int .i64 ((r : Int) + 1))) none).run Tryz.prog wx = .ok (.string ⟨#[V.dig r]⟩) wx := by
        intro wx
        have h := run_slice_string (P := Tryz.prog) wx 9 ⟨#[48, 49, 50, 51, 52, 53, 54, 55, 56, 57]⟩ .i64 .i64 (r : Int) ((r : Int) + 1) Tryz.underlying9 (by omega) (by omega) (by show _ ≤ (10 : Int); omega)
        rw [show ((r : Int) + 1).toNat = r + 1 from by omega, Int.toNat_natCast, digit_piece r hr10] at h
        exact h
      clear hr
      have hds : (decB f ((n : Int) / 10).toNat).size + 1 ≤ 9223372036854775807 := by
        have := (V.decF_len f ((n : Int) / 10).toNat).2
        have e : (decB f ((n : Int) / 10).toNat).size = (V.decF f ((n : Int) / 10).toNat).length := rfl
        have hf2 := HF.out
        omega
      have hcat : ∀ wx : World, (Op.stringOp .add (decB f ((n : Int) / 10).toNat) ⟨#[V.dig r]⟩).run Tryz.prog wx = .ok (.string (decB f ((n : Int) / 10).toNat ++ ⟨#[V.dig r]⟩)) wx := by
        intro wx
        exact run_string_add_sum (P := Tryz.prog) wx (decB f ((n : Int) / 10).toNat) ⟨#[V.dig r]⟩ hds
      clear hds
      go_enter Tryz.func16, Tryz.ntmps16
      go_wp2_with fail
      go_quiet ((go_at_call 16; exact Calls.quiet_of (HI.out _ _ (by omega) HQ.out (by omega))))
      go_wp2_with fail
      go_ret
      refine ⟨ret_string ?_, _, rfl⟩
      rw [Int.toNat_natCast, decB, decB, V.decF, if_neg h10, HR.out]
      exact ByteArray.mk_append_mk _ _

end Go.Proofs.YtcfhleenecfghaaGreatDoor
