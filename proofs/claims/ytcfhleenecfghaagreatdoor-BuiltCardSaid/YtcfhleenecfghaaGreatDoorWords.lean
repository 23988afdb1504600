/- What strings.FieldsFunc gives at blanks and TABs is what one gets byte by byte: the words of a line; nothing of the program is named here. -/
import Derived.Lib.FieldsP
import Derived.Lib.TrimUEq
namespace Go.Proofs.YtcfhleenecfghaaGreatDoor
namespace V

def blank (b : UInt8) : Bool := b == 32 || b == 9
def blankR (x : Nat) : Bool := x == 32 || x == 9
def wordsGo : List UInt8 → List UInt8 → List (List UInt8)
  | cur, [] => if cur.isEmpty then [] else [cur]
  | cur, b :: r => if blank b then (if cur.isEmpty then wordsGo [] r else cur :: wordsGo [] r) else wordsGo (cur ++ [b]) r
/-- The words of a line, with blanks or TABs between, ahead and behind. -/
def words (l : List UInt8) : List (List UInt8) := wordsGo [] l

theorem wordsGo_skip : ∀ (x r cur : List UInt8), (∀ b ∈ x, blank b = false) → wordsGo cur (x ++ r) = wordsGo (cur ++ x) r
  | [], r, cur, _ => by simp
  | b :: x, r, cur, h => by
    have hb := h b (by simp)
    rw [List.cons_append, wordsGo, hb]
    simp only [Bool.false_eq_true, if_false]
    rw [wordsGo_skip x r (cur ++ [b]) (fun y hy => h y (by simp [hy])), List.append_assoc]
    rfl
theorem high_no {b : UInt8} (h : 128 ≤ b.toNat) : blank b = false := by
  unfold blank
  have h1 : b ≠ 32 := fun e => by subst e; revert h; decide
  have h2 : b ≠ 9 := fun e => by subst e; revert h; decide
  simp [h1, h2]
theorem high_noR {x : Nat} (h : 128 ≤ x) : blankR x = false := by
  unfold blankR; simp; omega
theorem blank_R (b : UInt8) : blankR b.toNat = blank b := by
  unfold blankR blank
  rw [Bool.eq_iff_iff]
  simp only [Bool.or_eq_true, beq_iff_eq]
  constructor
  · rintro (h | h)
    · exact Or.inl (UInt8.toNat_inj.1 h)
    · exact Or.inr (UInt8.toNat_inj.1 h)
  · rintro (h | h)
    · exact Or.inl (by rw [h]; rfl)
    · exact Or.inr (by rw [h]; rfl)

theorem decN_low (n b0 b1 b2 b3 : Nat) (h : b0 < 128) : Lib.decodeN n b0 b1 b2 b3 = (b0, 1) := by
  unfold Lib.decodeN; rw [if_pos h]
theorem decN_high (n b0 b1 b2 b3 : Nat) (h0 : 128 ≤ b0) (hn : 1 ≤ n) :
    128 ≤ (Lib.decodeN n b0 b1 b2 b3).1 ∧ 1 ≤ (Lib.decodeN n b0 b1 b2 b3).2 ∧ (Lib.decodeN n b0 b1 b2 b3).2 ≤ n ∧ (1 < (Lib.decodeN n b0 b1 b2 b3).2 → 128 ≤ b1) ∧ (2 < (Lib.decodeN n b0 b1 b2 b3).2 → 128 ≤ b2) ∧ (3 < (Lib.decodeN n b0 b1 b2 b3).2 → 128 ≤ b3) ∧ (Lib.decodeN n b0 b1 b2 b3).2 ≤ 4 := by
  unfold Lib.decodeN
  rw [if_neg (by omega)]
  split
  · split <;> simp <;> omega
  · split
    · split <;> simp <;> omega
    · split
      · split <;> simp <;> omega
      · simp; omega

theorem dec_low {s : ByteArray} {pos : Nat} {b : UInt8} (hb : s.data.toList[pos]? = some b) (h : b.toNat < 128) : Utf8.decode s pos = (b.toNat, 1) := by
  rw [Lib.decode_N]
  have e : s.data.toList.getD pos 0 = b := by rw [List.getD_eq_getElem?_getD, hb]; rfl
  rw [e]; exact decN_low _ _ _ _ _ h
theorem dec_high {s : ByteArray} {pos : Nat} {b : UInt8} (hb : s.data.toList[pos]? = some b) (h : 128 ≤ b.toNat) :
    128 ≤ (Utf8.decode s pos).1 ∧ 1 ≤ (Utf8.decode s pos).2 ∧ pos + (Utf8.decode s pos).2 ≤ s.data.toList.length ∧ ∀ y ∈ (s.data.toList.drop pos).take (Utf8.decode s pos).2, blank y = false := by
  have hlt : pos < s.data.toList.length := (List.getElem?_eq_some_iff.1 hb).1
  have e : s.data.toList.getD pos 0 = b := by rw [List.getD_eq_getElem?_getD, hb]; rfl
  have hd := decN_high (s.data.toList.length - pos) b.toNat (s.data.toList.getD (pos + 1) 0).toNat (s.data.toList.getD (pos + 2) 0).toNat (s.data.toList.getD (pos + 3) 0).toNat h (by omega)
  rw [Lib.decode_N, e]
  generalize Lib.decodeN (s.data.toList.length - pos) b.toNat (s.data.toList.getD (pos + 1) 0).toNat (s.data.toList.getD (pos + 2) 0).toNat (s.data.toList.getD (pos + 3) 0).toNat = d at hd ⊢
  obtain ⟨d1, d2⟩ := d
  obtain ⟨g1, g2, g3, g4, g5, g6, g7⟩ := hd
  simp only at g1 g2 g3 g4 g5 g6 g7 ⊢
  refine ⟨g1, g2, by omega, fun y hy => ?_⟩
  obtain ⟨j, hj, hy⟩ := List.mem_iff_getElem.1 hy
  rw [List.length_take, List.length_drop] at hj
  rw [List.getElem_take, List.getElem_drop] at hy
  have hg : s.data.toList.getD (pos + j) 0 = y := by rw [List.getD_eq_getElem?_getD, List.getElem?_eq_getElem (by omega), hy]; rfl
  rw [← hg]
  apply high_no
  match j, hj with
  | 0, _ => rw [Nat.add_zero, e]; exact h
  | 1, hj => exact g4 (by omega)
  | 2, hj => exact g5 (by omega)
  | 3, hj => exact g6 (by omega)
  | j + 4, hj => omega

/-- What has been found so far, and what is left. -/
def rest (l : List UInt8) (pos : Nat) : Option Nat → List (List UInt8)
  | none => wordsGo [] (l.drop pos)
  | some a => wordsGo ((l.drop a).take (pos - a)) (l.drop pos)
def piece (s : ByteArray) (x : Nat × Nat) : List UInt8 := (s.data.toList.drop x.1).take (x.2 - x.1)

theorem spans_words (s : ByteArray) : ∀ (f pos : Nat) (st : Option Nat) (acc : List (Nat × Nat)), s.data.toList.length ≤ pos + f → pos ≤ s.data.toList.length → (∀ a, st = some a → a < pos) →
    (Lib.closeSpans s (Lib.spansFromP blankR s f pos st acc)).map (piece s) = acc.map (piece s) ++ rest s.data.toList pos st
  | 0, pos, st, acc, h1, h2, h3 => by
    have hp : pos = s.data.toList.length := by omega
    have hs : s.size = s.data.toList.length := by simp
    cases st with
    | none =>
      simp only [Lib.spansFromP, Lib.closeSpans, rest]
      rw [hp, List.drop_length]
      simp [wordsGo]
    | some a =>
      have ha := h3 a rfl
      have hne : ((s.data.toList.drop a).take (pos - a)).isEmpty = false := by
        rw [List.isEmpty_eq_false_iff, ← List.length_pos_iff, List.length_take, List.length_drop]; omega
      simp only [Lib.spansFromP, Lib.closeSpans, List.map_append, List.map_cons, List.map_nil, rest]
      rw [show s.data.toList.drop pos = [] by rw [hp, List.drop_length], wordsGo, hne]
      simp only [Bool.false_eq_true, if_false]
      show acc.map (piece s) ++ [(s.data.toList.drop a).take (s.size - a)] = _
      rw [hs, ← hp]
  | f + 1, pos, st, acc, h1, h2, h3 => by
    have hs : s.size = s.data.toList.length := by simp
    by_cases hlt : pos < s.size
    · have hstep : Lib.spansFromP blankR s (f + 1) pos st acc = if blankR (Utf8.decode s pos).1 then (match st with | some a => Lib.spansFromP blankR s f (pos + (Utf8.decode s pos).2) none (acc ++ [(a, pos)]) | none => Lib.spansFromP blankR s f (pos + (Utf8.decode s pos).2) none acc) else (match st with | some a => Lib.spansFromP blankR s f (pos + (Utf8.decode s pos).2) (some a) acc | none => Lib.spansFromP blankR s f (pos + (Utf8.decode s pos).2) (some pos) acc) := by
        conv => lhs; unfold Lib.spansFromP
        rw [if_pos hlt]
        cases st <;> rfl
      rw [hstep]
      clear hstep
      have hlt' : pos < s.data.toList.length := by omega
      have hb : s.data.toList[pos]? = some s.data.toList[pos] := List.getElem?_eq_getElem hlt'
      have hdrop : s.data.toList.drop pos = s.data.toList[pos] :: s.data.toList.drop (pos + 1) := List.drop_eq_getElem_cons hlt'
      by_cases hlow : (s.data.toList[pos]).toNat < 128
      · rw [dec_low hb hlow]
        simp only
        rw [blank_R]
        cases hbl : blank s.data.toList[pos]
        · simp only [Bool.false_eq_true, if_false]
          cases st with
          | none =>
            simp only
            rw [spans_words s f (pos + 1) (some pos) acc (by omega) (by omega) (fun a e => by injection e; omega)]
            simp only [rest]
            rw [hdrop, wordsGo, hbl]
            simp
          | some a =>
            have ha := h3 a rfl
            simp only
            rw [spans_words s f (pos + 1) (some a) acc (by omega) (by omega) (fun a' e => by injection e; omega)]
            simp only [rest]
            rw [hdrop, wordsGo, hbl]
            simp only [Bool.false_eq_true, if_false]
            congr 2
            rw [show pos + 1 - a = (pos - a) + 1 by omega, List.take_succ_eq_append_getElem (by rw [List.length_drop]; omega), List.getElem_drop]
            congr 3
            omega
        · simp only [if_true]
          cases st with
          | none =>
            simp only
            rw [spans_words s f (pos + 1) none acc (by omega) (by omega) (fun a e => by cases e)]
            simp only [rest]
            rw [hdrop, wordsGo, hbl]
            simp
          | some a =>
            have ha := h3 a rfl
            have hne : ((s.data.toList.drop a).take (pos - a)).isEmpty = false := by
              rw [List.isEmpty_eq_false_iff, ← List.length_pos_iff, List.length_take, List.length_drop]; omega
            simp only
            rw [spans_words s f (pos + 1) none (acc ++ [(a, pos)]) (by omega) (by omega) (fun a e => by cases e)]
            simp only [rest, List.map_append, List.map_cons, List.map_nil]
            rw [hdrop, wordsGo, hbl, hne]
            simp [piece]
      · obtain ⟨g1, g2, g3, g4⟩ := dec_high hb (by omega)
        generalize Utf8.decode s pos = d at g1 g2 g3 g4 ⊢
        obtain ⟨d1, d2⟩ := d
        simp only at g1 g2 g3 g4 ⊢
        rw [high_noR g1]
        simp only [Bool.false_eq_true, if_false]
        have hsp : s.data.toList.drop pos = (s.data.toList.drop pos).take d2 ++ s.data.toList.drop (pos + d2) := by
          rw [← List.drop_drop, List.take_append_drop]
        cases st with
        | none =>
          simp only
          rw [spans_words s f (pos + d2) (some pos) acc (by omega) g3 (fun a e => by injection e; omega)]
          simp only [rest]
          conv => rhs; rw [hsp]
          rw [wordsGo_skip _ _ _ g4]
          simp
        | some a =>
          have ha := h3 a rfl
          simp only
          rw [spans_words s f (pos + d2) (some a) acc (by omega) g3 (fun a' e => by injection e; omega)]
          simp only [rest]
          conv => rhs; rw [hsp]
          rw [wordsGo_skip _ _ _ g4]
          congr 2
          rw [show pos + d2 - a = (pos - a) + d2 by omega, List.take_add, List.drop_drop, show a + (pos - a) = pos by omega]
    · have hstep : Lib.spansFromP blankR s (f + 1) pos st acc = (acc, st) := Lib.spansFromP_end _ _ _ _ _ _ hlt
      rw [hstep]
      have hp : pos = s.data.toList.length := by omega
      have h0 := spans_words s 0 pos st acc (by omega) h2 h3
      simpa [Lib.spansFromP] using h0

theorem fields_words (s : ByteArray) : (Lib.goFieldsP blankR s).map (·.data.toList) = words s.data.toList := by
  have hs : s.size = s.data.toList.length := by simp
  have h := spans_words s s.size 0 none [] (by omega) (by omega) (fun a e => by cases e)
  unfold Lib.goFieldsP Lib.spansOfP
  rw [List.map_map]
  have he : ((fun x : ByteArray => x.data.toList) ∘ fun x : Nat × Nat => s.extract x.1 x.2) = piece s := by
    funext x
    show (s.extract x.1 x.2).data.toList = _
    rw [Lib.extract_data]; rfl
  rw [he, h]
  simp [rest, words]

end V
end Go.Proofs.YtcfhleenecfghaaGreatDoor
