/- The sum of bytes, of the program and of the reference. -/
import Derived.Test.YtcfhleenecfghaaDoorWd
namespace Go.Proofs.YtcfhleenecfghaaDoor
open Go.RowKit

/-- A sum goes on by one byte. -/
def V.mixB (h b : Int) : Int := IntKind.u64.wrap (bits BinOp.xor IntKind.u64 h (IntKind.u64.wrap b) * 1099511628211)
/-- .. by many. -/
def V.mixL (h : Int) : List UInt8 → Int
  | [] => h
  | b :: r => V.mixL (V.mixB h (b.toNat : Int)) r
theorem V.mixL_append (a b : List UInt8) : ∀ h, V.mixL h (a ++ b) = V.mixL (V.mixL h a) b := by
  induction a with
  | nil => intro h; rfl
  | cons x r ih => intro h; exact ih _
/-- .. by a text and the byte that ends it. -/
def V.mixT (h : Int) (s : List UInt8) : Int := V.mixL h (s ++ [0])
theorem V.mixT_eq (h : Int) (s : List UInt8) : V.mixT h s = V.mixB (V.mixL h s) 0 := by
  unfold V.mixT
  rw [V.mixL_append]; rfl

theorem withByte_any (h b : Int) (w : World) :
    Calls Tryd.prog 61 #[.int .u64 h, .int .u8 b] w fun e w' => e = .returned (.int .u64 (V.mixB h b)) ∧ w' = w := by
  go_enter Tryd.func61, Tryd.ntmps61
  go_wp2
  go_ret
  exact ⟨rfl, rfl⟩

set_option maxHeartbeats 400000 in
theorem with_any (h : Int) (s : ByteArray) (w : World) (hs : s.size ≤ maxLen) :
    Calls Tryd.prog 48 #[.int .u64 h, .string s] w fun e w' => e = .returned (.int .u64 (V.mixT h s.data.toList)) ∧ w' = w := by
  unfold maxLen at hs
  go_enter Tryd.func48, Tryd.ntmps48
  go_wp2
  go_loop [0, 5, 8] (fun v _ i => ∃ k : Nat, k ≤ s.size ∧ i = .int .i64 k ∧ v = .int .u64 (V.mixL h (s.data.toList.take k))) (fun _ _ i => s.size - (intOf i).toNat)
  case atStart => exact ⟨0, Nat.zero_le _, rfl, rfl⟩
  case round =>
    obtain ⟨k, hk, rfl, rfl⟩ := hrel
    by_cases hlt : k < s.size
    · have H : Hid (V.mixL h (s.data.toList.take (k + 1)) = V.mixB (V.mixL h (s.data.toList.take k)) ((s[k].toNat : Nat) : Int)) := hide (by rw [take_snoc s k hlt, V.mixL_append]; rfl)
      obtain ⟨x, hx⟩ : ∃ x, x = V.mixL h (s.data.toList.take k) := ⟨_, rfl⟩
      rw [← hx] at H ⊢
      clear hx
      go_wp2_with (go_at_call 61; refine (withByte_any _ _ _).mono ?_; rintro e w' ⟨rfl, rfl⟩)
      go_round
      case rel => exact ⟨k + 1, by omega, by go_num, by rw [H.out]⟩
      case measure => simp [intOf]; omega
    · have e : s.data.toList.take k = s.data.toList := List.take_of_length_le (by simp; omega)
      rw [e]
      clear e
      go_wp2_with (go_at_call 61; refine (withByte_any _ _ _).mono ?_; rintro e w' ⟨rfl, rfl⟩)
      go_ret
      exact ⟨by rw [V.mixT_eq]; rfl, rfl⟩

set_option maxHeartbeats 400000 in
theorem rhash_any (h : Int) (s : ByteArray) (w : World) (hs : s.size ≤ maxLen) :
    Calls Tryd.prog 29 #[.int .u64 h, .string s] w fun e w' => e = .returned (.int .u64 (V.mixL h s.data.toList)) ∧ w' = w := by
  unfold maxLen at hs
  go_enter Tryd.func29, Tryd.ntmps29
  go_wp2
  go_loop [0, 5] (fun v i => ∃ k : Nat, k ≤ s.size ∧ i = .int .i64 k ∧ v = .int .u64 (V.mixL h (s.data.toList.take k))) (fun _ i => s.size - (intOf i).toNat)
  case atStart => exact ⟨0, Nat.zero_le _, rfl, rfl⟩
  case round =>
    obtain ⟨k, hk, rfl, rfl⟩ := hrel
    by_cases hlt : k < s.size
    · have H : Hid (V.mixL h (s.data.toList.take (k + 1)) = V.mixB (V.mixL h (s.data.toList.take k)) ((s[k].toNat : Nat) : Int)) := hide (by rw [take_snoc s k hlt, V.mixL_append]; rfl)
      obtain ⟨x, hx⟩ : ∃ x, x = V.mixL h (s.data.toList.take k) := ⟨_, rfl⟩
      rw [← hx] at H ⊢
      clear hx
      go_wp2
      go_round
      case rel => exact ⟨k + 1, by omega, by go_num, by rw [H.out]; rfl⟩
      case measure => simp [intOf]; omega
    · have e : s.data.toList.take k = s.data.toList := List.take_of_length_le (by simp; omega)
      rw [e]
      clear e
      go_wp2
      go_ret
      exact ⟨rfl, rfl⟩
end Go.Proofs.YtcfhleenecfghaaDoor
