/- Noughts ahead of a short number: strings.Repeat of one nought, as it is called; the text of a sum. -/
import Derived.Test.YtcfhleenecfghaaDoorDgw
namespace Go.Proofs.YtcfhleenecfghaaDoor
open Go.RowKit

theorem below16 {c : Nat} (hc : c < 16) : c = 0 ∨ c = 1 ∨ c = 2 ∨ c = 3 ∨ c = 4 ∨ c = 5 ∨ c = 6 ∨ c = 7 ∨ c = 8 ∨ c = 9 ∨ c = 10 ∨ c = 11 ∨ c = 12 ∨ c = 13 ∨ c = 14 ∨ c = 15 := by omega
theorem and32 (c : Nat) (hc : c < 16) : bits BinOp.and IntKind.u64 (c : Int) 4294967295 = (c : Int) := by
  rcases below16 hc with rfl | rfl | rfl | rfl | rfl | rfl | rfl | rfl | rfl | rfl | rfl | rfl | rfl | rfl | rfl | rfl <;> kernel_rfl
set_option maxHeartbeats 1600000 in
set_option maxRecDepth 100000 in
theorem mul_one (c : Nat) (hc : c < 16) (w : World) :
    Calls Tryd.prog 76 #[.int .u64 1, .int .u64 c] w fun e w' => e = .returned (.tuple #[.int .u64 0, .int .u64 c]) ∧ w' = w := by
  have h95 : Calls Tryd.prog 95 #[.int .u64 1, .int .u64 c] w fun e w' => e = .returned (.tuple #[.int .u64 0, .int .u64 c]) ∧ w' = w := by
    go_enter Tryd.func95, Tryd.ntmps95
    go_wp2
    go_ret2
    refine ⟨?_, rfl⟩
    rcases below16 hc with rfl | rfl | rfl | rfl | rfl | rfl | rfl | rfl | rfl | rfl | rfl | rfl | rfl | rfl | rfl | rfl <;> kernel_rfl
  go_enter Tryd.func76, Tryd.ntmps76
  go_wp2_with (go_at_call 95; refine h95.mono ?_; rintro e w' ⟨rfl, rfl⟩)
  go_ret2
  exact ⟨rfl, rfl⟩
/-- Noughts. -/
def noughts (c : Nat) : ByteArray := ⟨(List.replicate c 48).toArray⟩
set_option maxHeartbeats 1600000 in
set_option maxRecDepth 100000 in
theorem repeat_nought (c : Nat) (hc : c < 16) (w : World) :
    Calls Tryd.prog 68 #[.string ⟨#[48]⟩, .int .i64 c] w fun e w' => e = .returned (.string (noughts c)) ∧ w' = w := by
  by_cases h0 : c = 0
  · subst h0
    go_enter Tryd.func68, Tryd.ntmps68
    go_wp2
    go_ret
    exact ⟨rfl, rfl⟩
  · by_cases h1 : c = 1
    · subst h1
      go_enter Tryd.func68, Tryd.ntmps68
      go_wp2
      go_ret
      exact ⟨rfl, rfl⟩
    · go_enter Tryd.func68, Tryd.ntmps68
      go_wp2_with (first | (go_at_call 76; refine (mul_one c hc _).mono ?_; rintro e w' ⟨rfl, rfl⟩) | (go_at_call 33; refine (Tryd.strings_HasPrefix _ _ _).mono ?_; rintro e w' ⟨rfl, rfl⟩))
      go_ret
      refine ⟨?_, rfl⟩
      rcases below16 hc with rfl | rfl | rfl | rfl | rfl | rfl | rfl | rfl | rfl | rfl | rfl | rfl | rfl | rfl | rfl | rfl
      all_goals first | exact absurd rfl h0 | exact absurd rfl h1 | kernel_rfl
theorem noughts_list (c : Nat) : (noughts c).data.toList = List.replicate c 48 := by simp [noughts]
set_option maxHeartbeats 400000 in
theorem text_any (u : Nat) (hu : u < 18446744073709551616) (w : World) (hm : w.cell? ⟨5, 15, none⟩ = some (.int .u8 4)) :
    Calls Tryd.prog 50 #[.int .u64 u] w fun e w' => ∃ t : ByteArray, e = .returned (.string t) ∧ t.data.toList = V.sumText u ∧ Below w.heap.size w w' := by
  go_enter Tryd.func50, Tryd.ntmps50
  go_wp2_with fail
  go_at_call 67
  refine (formatUint_16 u hu _ hm).mono ?_
  rintro e w1 ⟨s, rfl, hs, hb⟩
  have hl := V.shortR_len 15 u []
  rw [← hs] at hl
  have hz : 1 ≤ s.size ∧ s.size ≤ 16 := by
    have e1 : s.data.toList.length = s.size := by simp
    rw [e1] at hl
    simpa using hl
  have hq : ((16 : Int) - (s.size : Int)) = ((16 - s.size : Nat) : Int) := by omega
  have hr := fun w => repeat_nought (16 - s.size) (by omega) w
  rw [← hq] at hr
  have hn : (noughts (16 - s.size)).size = 16 - s.size := by
    have := congrArg List.length (noughts_list (16 - s.size))
    simpa using this
  have HS := hide hs
  clear hs hl hq
  go_wp2_with (go_at_call 68; refine (hr _).mono ?_; rintro e w' ⟨rfl, rfl⟩)
  go_ret
  refine ⟨_, rfl, ?_, hb⟩
  have e2 : (noughts (16 - s.size) ++ s).data.toList = List.replicate (16 - s.size) 48 ++ s.data.toList := by
    rw [← noughts_list]; simp
  rw [e2]
  unfold V.sumText
  rw [Int.toNat_natCast, V.hex_short 15 u [] hu, ← HS.out]
  simp
end Go.Proofs.YtcfhleenecfghaaDoor
