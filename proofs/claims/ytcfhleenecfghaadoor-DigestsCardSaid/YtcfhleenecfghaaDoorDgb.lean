/- A range of a list of files is turned about. -/
import Derived.Test.YtcfhleenecfghaaDoorDga
namespace Go.Proofs.YtcfhleenecfghaaDoor
open Go.Shelf Go.RowKit Go.Lib Go.Sort
variable {P : Program} {k : Nat} {α : Type} [Inhabited α]

set_option maxHeartbeats 4000000 in
set_option maxRecDepth 1000000 in
theorem rotate_any (L : StLay P k) (enc : α → List Value) (blk off cap : Nat) (w : World) (d0 : Array α) (hK : SK k enc w blk off d0) (fv : Value) (a m b q0 : Nat) (d : Array α) (os : Array Obj) (hs : d.size = d0.size) (ham : a < m) (hmb : m < b) (hb : b ≤ d.size) :
    Calls P 101 #[.slice (some ⟨blk, off, none⟩) d0.size cap, .int .i64 a, .int .i64 m, .int .i64 b, fv] (sortWorldK enc k w blk off q0 d os) fun e w' =>
      e = .returned (.tuple #[]) ∧ ∃ q os', w' = sortWorldK enc k w blk off q (rotA d a m b) os' := by
  have hsz := hK.size
  have HK : Hid (SK k enc w blk off d0) := hK
  clear hK
  have mixed := L.mixed; have t0 := L.t0; have a0 := L.a0; have z0 := L.z0; have v0 := L.v0; have t3 := L.t3; have a3 := L.a3; have z3 := L.z3; have v3 := L.v3; have t4 := L.t4; have a4 := L.a4; have z4 := L.z4; have v4 := L.v4; have t27 := L.t27; have a27 := L.a27; have z27 := L.z27; have v27 := L.v27
  have F101 := L.f101
  have e109 : ∀ args w, (callFunc 109 args).run P w = .ok (.enter 109 args) w := enters_of L.f109 (by kernel_rfl) rfl
  have e1 : IntKind.i64.wrap ((m : Int) - (a : Int)) = ((m - a : Nat) : Int) := by rw [IntKind.wrap_i64]; omega
  have e2 : IntKind.i64.wrap ((b : Int) - (m : Int)) = ((b - m : Nat) : Int) := by rw [IntKind.wrap_i64]; omega
  go_enter F101, Tryd.ntmps101
  go_wp2
  go_loopg [10, 11] (b - a) (fun g1 vi vj wr => ∃ (i j q : Nat) (dk : Array α) (oq : Array Obj), vi = .int .i64 i ∧ vj = .int .i64 j ∧ 0 < i ∧ 0 < j ∧ i ≤ m ∧ m + j ≤ d.size ∧ i + j ≤ g1 ∧ dk.size = d0.size ∧ Hid (rotA dk (m - i) m (m + j) = rotA d a m b) ∧ wr = sortWorldK enc k w blk off q dk oq)
  case atStart =>
    refine ⟨m - a, b - m, q0, d, os, by first | rfl | (congr 1; omega), by first | rfl | (congr 1; omega), by omega, by omega, by omega, by omega, by omega, hs, ?_, rfl⟩
    show _ = _
    rw [show m - (m - a) = a by omega, show m + (b - m) = b by omega]
  case round =>
    obtain ⟨i, j, q, dk, oq, rfl, rfl, hi0, hj0, him, hjm, hg1, hds, HR, rfl⟩ := hrel
    have w1 : IntKind.i64.wrap ((m : Int) - (i : Int)) = ((m - i : Nat) : Int) := by rw [IntKind.wrap_i64]; omega
    have HM : Hid (m + j ≤ d.size) := hjm
    rcases Nat.lt_trichotomy i j with h | h | h
    · have hne : ¬ (i : Int) = (j : Int) := by omega
      have hng : ¬ (j : Int) < (i : Int) := by omega
      have w3 : IntKind.i64.wrap ((j : Int) - (i : Int)) = ((j - i : Nat) : Int) := by rw [IntKind.wrap_i64]; omega
      have C := swapRange_any L enc blk off cap w d0 HK.out fv (m - i) (m + j - i) i q dk oq hds (by omega) (by omega)
      have HC : Hid _ := C
      clear C
      go_wp2_with fail
      rw [show (m : Int) + (j : Int) - (i : Int) = ((m + j - i : Nat) : Int) by omega]
      go_at_fn 109
      refine Calls.mono HC.out ?_
      rintro e w' ⟨rfl, q', oq', hw'⟩
      have HW : Hid _ := hw'
      clear hw' HC
      go_wp2
      go_roundg (i + (j - i))
      case measure => omega
      case rel =>
        refine ⟨i, j - i, q', _, oq', rfl, by first | rfl | (congr 1; omega), hi0, by omega, him, by omega, Nat.le_refl _, ?_, ?_, HW.out⟩
        · rw [swr_size]; exact hds
        · show _ = _
          rw [← HR.out, ← rotA_right dk m i j him (by omega) h]
    · subst h
      have C := swapRange_any L enc blk off cap w d0 HK.out fv (m - i) m i q dk oq hds (by omega) (by omega)
      have HC : Hid _ := C
      clear C
      go_wp2_with fail
      go_at_fn 109
      refine Calls.mono HC.out ?_
      rintro e w' ⟨rfl, q', oq', hw'⟩
      have HW : Hid _ := hw'
      clear hw' HC
      go_wp2
      go_end0
      refine ⟨rfl, q', oq', ?_⟩
      rw [← HR.out, ← rotA_same dk m i him (by omega)]
      exact HW.out
    · have hne : ¬ (i : Int) = (j : Int) := by omega
      have hng : (j : Int) < (i : Int) := by omega
      have w3 : IntKind.i64.wrap ((i : Int) - (j : Int)) = ((i - j : Nat) : Int) := by rw [IntKind.wrap_i64]; omega
      have C := swapRange_any L enc blk off cap w d0 HK.out fv (m - i) m j q dk oq hds (by omega) (by omega)
      have HC : Hid _ := C
      clear C
      go_wp2_with fail
      go_at_fn 109
      refine Calls.mono HC.out ?_
      rintro e w' ⟨rfl, q', oq', hw'⟩
      have HW : Hid _ := hw'
      clear hw' HC
      go_wp2
      go_roundg (i - j + j)
      case measure => omega
      case rel =>
        refine ⟨i - j, j, q', _, oq', by first | rfl | (congr 1; omega), rfl, by omega, hj0, by omega, HM.out, Nat.le_refl _, ?_, ?_, HW.out⟩
        · rw [swr_size]; exact hds
        · show _ = _
          rw [← HR.out, ← rotA_left dk m i j him (by omega) h]
end Go.Proofs.YtcfhleenecfghaaDoor
