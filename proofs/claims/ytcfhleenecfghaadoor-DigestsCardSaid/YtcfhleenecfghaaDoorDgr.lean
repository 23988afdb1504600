/- A number in sixteen digits: with noughts ahead of the short form, or digit by digit; nothing of the program is named here. -/
import Derived.Test.YtcfhleenecfghaaDoorWd
namespace Go.Proofs.YtcfhleenecfghaaDoor

/-- The signs of digits up to sixteen. -/
def V.hexs : List UInt8 := [48, 49, 50, 51, 52, 53, 54, 55, 56, 57, 97, 98, 99, 100, 101, 102]
def V.hexd (n : Nat) : UInt8 := V.hexs[n % 16]!
/-- n digits of a number, ahead of what is there. -/
def V.hexR : Nat → Nat → List UInt8 → List UInt8
  | 0, _, s => s
  | n + 1, u, s => V.hexR n (u / 16) (V.hexd u :: s)
/-- Its digits, no more than it needs. -/
def V.shortR : Nat → Nat → List UInt8 → List UInt8
  | 0, u, s => V.hexd u :: s
  | n + 1, u, s => if 16 ≤ u then V.shortR n (u / 16) (V.hexd u :: s) else V.hexd u :: s
theorem V.hexR_len : ∀ (n u : Nat) (s : List UInt8), (V.hexR n u s).length = n + s.length
  | 0, _, s => by simp [V.hexR]
  | n + 1, u, s => by rw [V.hexR, V.hexR_len n]; simp; omega
theorem V.hexR_zero : ∀ (n : Nat) (s : List UInt8), V.hexR n 0 s = List.replicate n 48 ++ s
  | 0, s => rfl
  | n + 1, s => by
    rw [V.hexR, Nat.zero_div, V.hexR_zero n, List.replicate_succ']
    simp [V.hexd, V.hexs]
theorem V.shortR_len : ∀ (n u : Nat) (s : List UInt8), s.length + 1 ≤ (V.shortR n u s).length ∧ (V.shortR n u s).length ≤ s.length + 1 + n
  | 0, _, s => by simp [V.shortR]
  | n + 1, u, s => by
    rw [V.shortR]
    have := V.shortR_len n (u / 16) (V.hexd u :: s)
    simp only [List.length_cons] at this
    split
    · omega
    · simp only [List.length_cons]; omega
theorem V.hex_short : ∀ (n u : Nat) (s : List UInt8), u < 16 ^ (n + 1) → V.hexR (n + 1) u s = List.replicate (n + 1 + s.length - (V.shortR n u s).length) 48 ++ V.shortR n u s
  | 0, u, s, h => by
    simp [V.hexR, V.shortR]
    omega
  | n + 1, u, s, h => by
    rw [V.hexR, V.shortR]
    by_cases h16 : 16 ≤ u
    · rw [if_pos h16, V.hex_short n (u / 16) (V.hexd u :: s) (by rw [Nat.div_lt_iff_lt_mul (by omega)]; rw [Nat.pow_succ] at h; exact h)]
      congr 2
      simp only [List.length_cons]; omega
    · rw [if_neg h16, Nat.div_eq_of_lt (by omega), V.hexR_zero]
      congr 2
      simp only [List.length_cons]; omega
/-- A sum's text. -/
def V.sumText (h : Int) : List UInt8 := V.hexR 16 h.toNat []
end Go.Proofs.YtcfhleenecfghaaDoor
