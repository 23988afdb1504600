/- Decimal numerals: their digits, that they are in the order of their numbers, and the two versions that are made of one; nothing of the program is named here. -/
import Derived.Test.YtcfhleenecfghaaGreatDoorPlan3
namespace Go.Proofs.YtcfhleenecfghaaGreatDoor
namespace V

def dig (n : Nat) : UInt8 := UInt8.ofNat (48 + n)
theorem dig_nat {n : Nat} (h : n < 10) : (dig n).toNat = 48 + n := by
  unfold dig; rw [UInt8.toNat_ofNat']; omega
/-- The digits of a number below 10 to the power f + 1. -/
def decF : Nat → Nat → List UInt8
  | 0, n => [dig n]
  | f + 1, n => if n < 10 then [dig n] else decF f (n / 10) ++ [dig (n % 10)]
theorem dig_is {n : Nat} (h : n < 10) : isDig (dig n) = true := by
  unfold isDig; rw [dig_nat h]; simp; omega
theorem decF_digits : ∀ (f n : Nat), n < 10 ^ (f + 1) → digits (decF f n) = true
  | 0, n, h => by unfold digits decF; simp [dig_is (show n < 10 by simpa using h)]
  | f + 1, n, h => by
    rw [decF]
    by_cases h1 : n < 10
    · rw [if_pos h1]; unfold digits; simp [dig_is h1]
    · rw [if_neg h1]
      have h2 : n / 10 < 10 ^ (f + 1) := by
        rw [Nat.div_lt_iff_lt_mul (by omega)]; rw [Nat.pow_succ] at h; exact h
      have ih := decF_digits f (n / 10) h2
      unfold digits at ih ⊢
      simp only [Bool.and_eq_true] at ih
      rw [List.all_append, ih.1]
      simp [dig_is (show n % 10 < 10 by omega)]
theorem decF_len : ∀ (f n : Nat), 1 ≤ (decF f n).length ∧ (decF f n).length ≤ f + 1
  | 0, n => by simp [decF]
  | f + 1, n => by
    rw [decF]
    by_cases h1 : n < 10
    · rw [if_pos h1]; simp
    · rw [if_neg h1]
      have ih := decF_len f (n / 10)
      simp; omega
theorem decF_number : ∀ (f n : Nat), n < 10 ^ (f + 1) → number (decF f n) = true ∧ (n ≠ 0 → (decF f n).head? ≠ some 48)
  | 0, n, h => by
    have h10 : n < 10 := by simpa using h
    have hd := decF_digits 0 n h
    have hh : n ≠ 0 → (decF 0 n).head? ≠ some 48 := by
      intro h0 e
      have : dig n = 48 := by simpa [decF] using e
      have := congrArg UInt8.toNat this
      rw [dig_nat h10] at this
      have e48 : (48 : UInt8).toNat = 48 := rfl
      omega
    refine ⟨?_, hh⟩
    unfold number
    rw [hd]
    by_cases h0 : n = 0
    · subst h0; rfl
    · have := hh h0
      simp [this]
  | f + 1, n, h => by
    have hd := decF_digits (f + 1) n h
    have hh : n ≠ 0 → (decF (f + 1) n).head? ≠ some 48 := by
      intro h0 e
      rw [decF] at e
      by_cases h1 : n < 10
      · rw [if_pos h1] at e
        have : dig n = 48 := by simpa using e
        have := congrArg UInt8.toNat this
        rw [dig_nat h1] at this
        have e48 : (48 : UInt8).toNat = 48 := rfl
        omega
      · rw [if_neg h1] at e
        have h2 : n / 10 < 10 ^ (f + 1) := by
          rw [Nat.div_lt_iff_lt_mul (by omega)]; rw [Nat.pow_succ] at h; exact h
        have ih := (decF_number f (n / 10) h2).2 (by omega)
        have hl := (decF_len f (n / 10)).1
        cases hq : decF f (n / 10) with
        | nil => rw [hq] at hl; simp at hl
        | cons a r => rw [hq] at e ih; exact ih (by simpa using e)
    refine ⟨?_, hh⟩
    unfold number
    rw [hd]
    by_cases h0 : n = 0
    · subst h0; simp [decF]; left; rfl
    · have := hh h0
      simp [this]
theorem lexG_snoc {α : Type} (f : α → α → Int) : ∀ (a b : List α) (x y : α), a.length = b.length → lexG f (a ++ [x]) (b ++ [y]) = if lexG f a b != 0 then lexG f a b else f x y
  | [], [], x, y, _ => by
    show (if f x y != 0 then f x y else 0) = _
    by_cases h : f x y = 0 <;> simp [h, lexG]
  | a :: as, b :: bs, x, y, h => by
    have ih := lexG_snoc f as bs x y (by simpa using h)
    show lexG f (a :: (as ++ [x])) (b :: (bs ++ [y])) = _
    rw [lexG, lexG, ih]
    by_cases h1 : f a b = 0 <;> simp [h1]
theorem cmpNum_snoc (a b : List UInt8) (x y : UInt8) : cmpNum (a ++ [x]) (b ++ [y]) = if cmpNum a b != 0 then cmpNum a b else cmpByte x y := by
  have hc : cmpInt (a.length + 1) (b.length + 1) = cmpInt a.length b.length := by
    unfold cmpInt
    by_cases h1 : a.length < b.length
    · rw [if_pos h1, if_pos (by omega)]
    · by_cases h2 : b.length < a.length
      · rw [if_neg h1, if_pos h2, if_neg (by omega), if_pos (by omega)]
      · rw [if_neg h1, if_neg h2, if_neg (by omega), if_neg (by omega)]
  unfold cmpNum
  rw [List.length_append, List.length_append]
  show (if cmpInt (a.length + 1) (b.length + 1) != 0 then cmpInt (a.length + 1) (b.length + 1) else _) = _
  rw [hc]
  by_cases h : cmpInt a.length b.length = 0
  · have hl := cmpInt_good.2 _ _ h
    rw [h, compare_lex, compare_lex, lexG_snoc cmpByte a b x y hl]
    simp
  · have hb : (cmpInt a.length b.length != 0) = true := bne_iff_ne.2 h
    rw [if_pos hb, if_pos hb, if_pos hb]
theorem cmpInt_dig {n m : Nat} (hn : n < 10) (hm : m < 10) : cmpByte (dig n) (dig m) = cmpInt n m := by
  unfold cmpByte; rw [dig_nat hn, dig_nat hm]
  unfold cmpInt
  by_cases h1 : n < m
  · rw [if_pos h1, if_pos (by omega)]
  · by_cases h2 : m < n
    · rw [if_neg h1, if_pos h2, if_neg (by omega), if_pos (by omega)]
    · rw [if_neg h1, if_neg h2, if_neg (by omega), if_neg (by omega)]
theorem cmpInt_tens (n m : Nat) : cmpInt n m = if cmpInt (n / 10) (m / 10) != 0 then cmpInt (n / 10) (m / 10) else cmpInt (n % 10) (m % 10) := by
  unfold cmpInt
  by_cases h1 : n / 10 < m / 10
  · rw [if_pos h1, if_pos (show n < m by omega)]; rfl
  · by_cases h2 : m / 10 < n / 10
    · rw [if_neg h1, if_pos h2, if_neg (by omega), if_pos (by omega)]; rfl
    · rw [if_neg h1, if_neg h2]
      show _ = if n % 10 < m % 10 then _ else _
      by_cases h3 : n % 10 < m % 10
      · rw [if_pos h3, if_pos (by omega)]
      · by_cases h4 : m % 10 < n % 10
        · rw [if_neg h3, if_pos h4, if_neg (by omega), if_pos (by omega)]
        · rw [if_neg h3, if_neg h4, if_neg (by omega), if_neg (by omega)]
theorem cmpNum_one (x y : UInt8) : cmpNum [x] [y] = cmpByte x y := by
  have := cmpNum_snoc [] [] x y
  simpa [cmpNum, cmpInt, Lib.compareBytes] using this
theorem decF_cmp : ∀ (f n m : Nat), n < 10 ^ (f + 1) → m < 10 ^ (f + 1) → cmpNum (decF f n) (decF f m) = cmpInt n m
  | 0, n, m, hn, hm => by
    have a : n < 10 := by simpa using hn
    have b : m < 10 := by simpa using hm
    rw [decF, decF, cmpNum_one, cmpInt_dig a b]
  | f + 1, n, m, hn, hm => by
    rw [decF, decF]
    by_cases a : n < 10
    · by_cases b : m < 10
      · rw [if_pos a, if_pos b, cmpNum_one, cmpInt_dig a b]
      · rw [if_pos a, if_neg b]
        have hl := (decF_len f (m / 10)).1
        have h1 : cmpInt n m = -1 := by unfold cmpInt; rw [if_pos (by omega)]
        have h2 : cmpInt ([dig n] : List UInt8).length (decF f (m / 10) ++ [dig (m % 10)]).length = -1 := by
          unfold cmpInt; rw [if_pos (by simp; omega)]
        unfold cmpNum
        rw [h2, h1]; rfl
    · by_cases b : m < 10
      · rw [if_neg a, if_pos b]
        have hl := (decF_len f (n / 10)).1
        have h1 : cmpInt n m = 1 := by unfold cmpInt; rw [if_neg (by omega), if_pos (by omega)]
        have h2 : cmpInt (decF f (n / 10) ++ [dig (n % 10)]).length ([dig m] : List UInt8).length = 1 := by
          unfold cmpInt; rw [if_neg (by simp), if_pos (by simp; omega)]
        unfold cmpNum
        rw [h2, h1]; rfl
      · rw [if_neg a, if_neg b]
        have h1 : n / 10 < 10 ^ (f + 1) := by
          rw [Nat.div_lt_iff_lt_mul (by omega)]; rw [Nat.pow_succ] at hn; exact hn
        have h2 : m / 10 < 10 ^ (f + 1) := by
          rw [Nat.div_lt_iff_lt_mul (by omega)]; rw [Nat.pow_succ] at hm; exact hm
        rw [cmpNum_snoc, decF_cmp f _ _ h1 h2, cmpInt_dig (by omega) (by omega), ← cmpInt_tens]

theorem pieces_app (c : UInt8) (l r : List UInt8) (h : ∀ k : Nat, l[k]? ≠ some c) : pieces c (l ++ c :: r) = l :: pieces c r := by
  have h1 := pieces_some c (l ++ c :: r) l.length (by simp) (fun k hk => by rw [List.getElem?_append_left hk]; exact h k)
  rw [h1]; simp
theorem no_byte {l : List UInt8} (h : digits l = true) (c : UInt8) (hc : isDig c = false) (k : Nat) : l[k]? ≠ some c := by
  intro e
  have hm : c ∈ l := List.mem_of_getElem? e
  unfold digits at h
  simp only [Bool.and_eq_true, List.all_eq_true] at h
  have := h.1 c hm
  rw [hc] at this; cases this

/-- A version with a number in the middle. -/
def verA (d : List UInt8) : List UInt8 := [118, 48, 46] ++ d ++ [46, 57]
/-- A version with a mark that is a number. -/
def verB (d : List UInt8) : List UInt8 := [118, 48, 46, 48, 46, 48, 45, 120, 46] ++ d
theorem partsA {d : List UInt8} (h : digits d = true) : parts (verA d) = ([[48], d, [57]], []) := by
  have hn : ∀ j : Nat, 1 ≤ j → j < (verA d).length → (verA d)[j]? ≠ some 45 := by
    intro j _ _ e
    have hm : (45 : UInt8) ∈ verA d := List.mem_of_getElem? e
    simp [verA] at hm
    exact no_byte h 45 rfl _ (List.getElem?_eq_some_iff.2 ⟨(List.getElem_of_mem hm).choose_spec.1, (List.getElem_of_mem hm).choose_spec.2⟩)
  rw [parts_end rfl hn]
  congr 1
  show pieces 46 (48 :: 46 :: (d ++ [46, 57])) = _
  have e1 : pieces 46 (48 :: 46 :: (d ++ [46, 57])) = [48] :: pieces 46 (d ++ [46, 57]) := pieces_app 46 [48] _ (fun k => by
    match k with
    | 0 => simp
    | k + 1 => simp)
  rw [e1, pieces_app 46 d [57] (no_byte h 46 rfl)]
  rfl
theorem partsB {d : List UInt8} (h : digits d = true) : parts (verB d) = ([[48], [48], [48]], [[120], d]) := by
  have h1 := parts_dash (l := verB d) (e := 6) rfl (by omega) (by simp [verB]) (fun j h1 h2 => by
    match j, h1, h2 with
    | 1, _, _ => simp [verB]
    | 2, _, _ => simp [verB]
    | 3, _, _ => simp [verB]
    | 4, _, _ => simp [verB]
    | 5, _, _ => simp [verB])
  rw [h1]
  have e1 : pieces 46 (List.drop 7 (verB d)) = [[120], d] := by
    show pieces 46 (120 :: 46 :: d) = _
    have := pieces_app 46 [120] d (fun k => by
      match k with
      | 0 => simp
      | k + 1 => simp)
    rw [show (120 :: 46 :: d : List UInt8) = [120] ++ 46 :: d from rfl, this, pieces_none 46 d (no_byte h 46 rfl)]
  rw [e1]
  rfl
theorem verA_ok {d : List UInt8} (h : digits d = true) (hn : number d = true) (hl : d.length ≤ 20) : ver (verA d) = true := by
  rw [ver_of (by simp [verA]; omega) rfl, partsA h]
  have h0 : number [48] = true := by decide
  have h9 : number [57] = true := by decide
  simp [hn, h0, h9]
theorem verB_ok {d : List UInt8} (h : digits d = true) (hn : number d = true) (hl : d.length ≤ 20) : ver (verB d) = true := by
  rw [ver_of (by simp [verB]; omega) rfl, partsB h]
  have hm : mark d = true := by unfold mark; rw [h]; simpa using hn
  have h2 : mark [120] = true := by decide
  have h3 : number [48] = true := by decide
  simp [hm, h2, h3]
theorem orderA {d e : List UInt8} (hd : digits d = true) (he : digits e = true) : order (verA d) (verA e) = cmpNum d e := by
  unfold order
  rw [partsA hd, partsA he]
  have h0 : cmpNum [48] [48] = 0 := by decide
  have h9 : cmpNum [57] [57] = 0 := by decide
  by_cases h : cmpNum d e = 0
  · simp [lex, h0, h9, h, cmpInt]
  · simp [lex, h0, h]
theorem orderB {d e : List UInt8} (hd : digits d = true) (he : digits e = true) : order (verB d) (verB e) = cmpNum d e := by
  unfold order
  rw [partsB hd, partsB he]
  have h0 : cmpNum [48] [48] = 0 := by decide
  have h9 : cmpMark [120] [120] = 0 := by decide
  have hm : cmpMark d e = cmpNum d e := by unfold cmpMark; rw [hd, he]; rfl
  by_cases h : cmpNum d e = 0
  · simp [lex, h0, h9, h, hm]
  · simp [lex, h0, h9, h, hm]

end V
end Go.Proofs.YtcfhleenecfghaaGreatDoor
