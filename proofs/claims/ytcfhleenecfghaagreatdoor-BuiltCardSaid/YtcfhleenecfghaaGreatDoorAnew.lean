/- What is written of a manifest's lines is read again as the same lines, checked and sorted as it stands; what is read of any text; the manifests that the keeping statements make; nothing of the program is named here. -/
import Derived.Test.YtcfhleenecfghaaGreatDoorSays
import Derived.Test.YtcfhleenecfghaaGreatDoorPlan4
import Derived.Lib.Small
namespace Go.Proofs.YtcfhleenecfghaaGreatDoor
namespace V

theorem said_cons (b : UInt8) (l : List UInt8) : said (b :: l) = if [47, 47].isPrefixOf (b :: l) then [] else b :: said l := by
  unfold said Lib.cut
  by_cases hp : [47, 47].isPrefixOf (b :: l) = true
  · rw [if_pos hp]
    have : Lib.index (b :: l) [47, 47] = 0 := by rw [Lib.index, if_pos hp]
    rw [this]; rfl
  · rw [if_neg hp]
    have hi : Lib.index (b :: l) [47, 47] = if Lib.index l [47, 47] == -1 then -1 else Lib.index l [47, 47] + 1 := by rw [Lib.index, if_neg hp]
    have hg := Lib.index_ge l [47, 47]
    by_cases h1 : Lib.index l [47, 47] = -1
    · rw [hi, h1]; rfl
    · rw [if_neg (by simpa using h1)] at hi
      rw [hi, if_pos (by omega), if_pos (by omega)]
      show (b :: l).take (Lib.index l [47, 47] + 1).toNat = b :: l.take (Lib.index l [47, 47]).toNat
      rw [show (Lib.index l [47, 47] + 1).toNat = (Lib.index l [47, 47]).toNat + 1 by omega, List.take_succ_cons]

/-- No two slashes stand side by side. -/
def clean : List UInt8 → Bool
  | [] => true
  | b :: l => !([47, 47].isPrefixOf (b :: l)) && clean l
theorem said_clean : ∀ (l : List UInt8), clean l = true → said l = l
  | [], _ => rfl
  | b :: l, h => by
    unfold clean at h
    rw [Bool.and_eq_true, Bool.not_eq_true'] at h
    rw [said_cons, h.1, said_clean l h.2]; rfl
theorem said_app : ∀ (l r : List UInt8), clean l = true → l.getLast? ≠ some 47 → said (l ++ 47 :: 47 :: r) = l
  | [], r, _, _ => by rw [List.nil_append, said_cons]; rfl
  | [b], r, _, hl => by
    have hb : b ≠ 47 := by simpa using hl
    show said (b :: 47 :: 47 :: r) = [b]
    rw [said_cons, said_cons]
    have : ([47, 47] : List UInt8).isPrefixOf (b :: 47 :: 47 :: r) = false := by
      simp [List.isPrefixOf]; intro h; exact absurd h.symm hb
    rw [this]; rfl
  | b :: c :: l, r, h, hl => by
    unfold clean at h
    rw [Bool.and_eq_true, Bool.not_eq_true'] at h
    have ih := said_app (c :: l) r h.2 (by simpa using hl)
    show said (b :: ((c :: l) ++ 47 :: 47 :: r)) = b :: c :: l
    rw [said_cons, ih]
    have : ([47, 47] : List UInt8).isPrefixOf (b :: ((c :: l) ++ 47 :: 47 :: r)) = false := by
      have := h.1
      simp only [List.isPrefixOf, List.cons_append] at this ⊢
      exact this
    rw [this]; rfl
theorem clean_blank : ∀ (a r : List UInt8) (c : UInt8), c ≠ 47 → clean a = true → clean r = true → clean (a ++ c :: r) = true
  | [], r, c, hc, _, hr => by
    show clean (c :: r) = true
    unfold clean
    rw [hr, Bool.and_true, Bool.not_eq_true']
    simp only [List.isPrefixOf, Bool.and_eq_false_iff]
    left
    rw [beq_eq_false_iff_ne]; exact hc.symm
  | [b], r, c, hc, _, hr => by
    have h0 := clean_blank [] r c hc rfl hr
    show clean (b :: ([] ++ c :: r)) = true
    unfold clean
    rw [h0, Bool.and_true, Bool.not_eq_true']
    simp only [List.isPrefixOf, List.nil_append, Bool.and_eq_false_iff]
    right; left
    rw [beq_eq_false_iff_ne]; exact hc.symm
  | b :: d :: a, r, c, hc, ha, hr => by
    unfold clean at ha
    rw [Bool.and_eq_true] at ha
    have h0 := clean_blank (d :: a) r c hc ha.2 hr
    show clean (b :: ((d :: a) ++ c :: r)) = true
    unfold clean
    rw [h0, Bool.and_true]
    have := ha.1
    simp only [List.isPrefixOf, List.cons_append] at this ⊢
    exact this
theorem clean_plain : ∀ (l : List UInt8), (∀ b ∈ l, b ≠ 47) → clean l = true
  | [], _ => rfl
  | b :: l, h => by
    have := clean_blank [] l b (h b (List.mem_cons_self ..)) rfl (clean_plain l fun x hx => h x (List.mem_cons_of_mem _ hx))
    simpa using this

theorem words_one {x : List UInt8} (hn : x ≠ []) (h : ∀ b ∈ x, blank b = false) : words x = [x] := by
  have := wordsGo_skip x [] [] h
  rw [List.append_nil, List.nil_append] at this
  unfold words
  rw [this, wordsGo]
  cases x with
  | nil => exact absurd rfl hn
  | cons a r => rfl
theorem words_more {x : List UInt8} (r : List UInt8) {c : UInt8} (hn : x ≠ []) (h : ∀ b ∈ x, blank b = false) (hc : blank c = true) : words (x ++ c :: r) = x :: words r := by
  have := wordsGo_skip x (c :: r) [] h
  rw [List.nil_append] at this
  unfold words
  rw [this, wordsGo, hc]
  cases x with
  | nil => exact absurd rfl hn
  | cons a s => rfl
theorem words_ahead (r : List UInt8) {c : UInt8} (hc : blank c = true) : words (c :: r) = words r := by
  unfold words
  rw [wordsGo, hc]; rfl

/-- A word that may stand in a written line: not empty, no blank, no end of a line in it, no two slashes. -/
def Wordy (x : List UInt8) : Prop := x ≠ [] ∧ (∀ b ∈ x, blank b = false ∧ b ≠ 10) ∧ clean x = true
theorem words_join : ∀ (ws : List (List UInt8)), (∀ x ∈ ws, Wordy x) → words (join 32 ws) = ws
  | [], _ => rfl
  | [a], h => by
    have := h a (by simp)
    exact words_one this.1 fun b hb => (this.2.1 b hb).1
  | a :: b :: r, h => by
    have ha := h a (by simp)
    rw [join, words_more _ ha.1 (fun c hc => (ha.2.1 c hc).1) (by decide), words_join (b :: r) fun x hx => h x (List.mem_cons_of_mem _ hx)]
theorem clean_join : ∀ (ws : List (List UInt8)), (∀ x ∈ ws, Wordy x) → clean (join 32 ws) = true
  | [], _ => rfl
  | [a], h => (h a (by simp)).2.2
  | a :: b :: r, h => by
    rw [join]
    exact clean_blank a _ 32 (by decide) (h a (by simp)).2.2 (clean_join (b :: r) fun x hx => h x (List.mem_cons_of_mem _ hx))
theorem join_mem (c : UInt8) : ∀ (ws : List (List UInt8)) (b : UInt8), b ∈ join c ws → b = c ∨ ∃ x ∈ ws, b ∈ x
  | [], b, h => by simp [join] at h
  | [a], b, h => Or.inr ⟨a, by simp, h⟩
  | a :: d :: r, b, h => by
    rw [join] at h
    rcases List.mem_append.1 h with h | h
    · exact Or.inr ⟨a, by simp, h⟩
    · rcases List.mem_cons.1 h with h | h
      · exact Or.inl h
      · rcases join_mem c (d :: r) b h with h | ⟨x, hx, hb⟩
        · exact Or.inl h
        · exact Or.inr ⟨x, List.mem_cons_of_mem _ hx, hb⟩

theorem pieces_tail : ∀ (l : List UInt8), (pieces 47 l).tail.all (· != []) = true → clean l = true ∧ l.getLast? ≠ some 47
  | [], _ => ⟨rfl, by simp⟩
  | b :: r, h => by
    have hne := pieces_ne 47 r
    rw [pieces] at h
    cases hp : pieces 47 r with
    | nil => exact absurd hp hne
    | cons q qs =>
      rw [hp] at h
      by_cases hb : b = 47
      · subst hb
        rw [if_pos (by decide)] at h
        simp only [List.tail_cons, List.all_cons, Bool.and_eq_true] at h
        have ih := pieces_tail r (by rw [hp]; exact h.2)
        cases r with
        | nil => rw [pieces] at hp; cases hp; simp at h
        | cons d s =>
          have hd : d ≠ 47 := by
            intro e; subst e
            rw [pieces, if_pos (by decide)] at hp
            cases hp; simp at h
          refine ⟨?_, by simpa using ih.2⟩
          unfold clean
          rw [ih.1, Bool.and_true, Bool.not_eq_true']
          simp [List.isPrefixOf]
          intro e; exact absurd e.symm hd
      · rw [if_neg (by simpa using hb)] at h
        have ih := pieces_tail r (by rw [hp]; exact h)
        refine ⟨?_, ?_⟩
        · have := clean_blank [] r b hb rfl ih.1
          simpa using this
        · cases r with
          | nil => simpa using hb
          | cons d s => simpa using ih.2
theorem pieces_bytes (c : UInt8) : ∀ (l : List UInt8) (b : UInt8), b ∈ l → b = c ∨ ∃ q ∈ pieces c l, b ∈ q := by
  intro l b hb
  have := join_mem c (pieces c l) b
  rw [join_pieces] at this
  exact this hb

theorem pathByte_ok (b : UInt8) (h : pathByte b = true) : blank b = false ∧ b ≠ 10 ∧ b ≠ 40 ∧ b ≠ 41 ∧ b ≠ 61 ∧ b ≠ 47 := by
  have := byte_all (p := fun b => !pathByte b || (!blank b && (b != 10) && (b != 40) && (b != 41) && (b != 61) && (b != 47))) (q := fun _ => true) (by decide +kernel) b
  simp only [h, Bool.not_true, Bool.false_or, Bool.and_eq_true, Bool.not_eq_true', bne_iff_ne] at this
  obtain ⟨⟨⟨⟨⟨h1, h2⟩, h3⟩, h4⟩, h5⟩, h6⟩ := this
  exact ⟨h1, h2, h3, h4, h5, h6⟩
theorem markByte_ok (b : UInt8) (h : markByte b = true) : blank b = false ∧ b ≠ 10 ∧ b ≠ 40 ∧ b ≠ 41 ∧ b ≠ 61 ∧ b ≠ 47 := by
  have := byte_all (p := fun b => !markByte b || (!blank b && (b != 10) && (b != 40) && (b != 41) && (b != 61) && (b != 47))) (q := fun _ => true) (by decide +kernel) b
  simp only [h, Bool.not_true, Bool.false_or, Bool.and_eq_true, Bool.not_eq_true', bne_iff_ne] at this
  obtain ⟨⟨⟨⟨⟨h1, h2⟩, h3⟩, h4⟩, h5⟩, h6⟩ := this
  exact ⟨h1, h2, h3, h4, h5, h6⟩

/-- What a word of a manifest is that is a path or a version. -/
structure Named (x : List UInt8) : Prop where
  wordy : Wordy x
  kind : kind x = 0
  last : x.getLast? ≠ some 47
  short : x.length ≤ 60
theorem kind_of {x : List UInt8} (hn : x ≠ []) (h : ∀ b ∈ x, b ≠ 40 ∧ b ≠ 41 ∧ b ≠ 61) : kind x = 0 := by
  unfold kind
  cases x with
  | nil => exact absurd rfl hn
  | cons a r =>
    have ha := h a (by simp)
    rw [if_neg (by simp; intro e; exact absurd e ha.1), if_neg (by simp; intro e; exact absurd e ha.2.1), if_neg (by simp; intro e; exact absurd e ha.2.2)]
theorem path_named {p : List UInt8} (h : path p = true) : Named p := by
  unfold path at h
  rw [Bool.and_eq_true, decide_eq_true_eq, List.all_eq_true] at h
  have hseg : ∀ q ∈ pieces 47 p, q ≠ [] ∧ ∀ b ∈ q, pathByte b = true := by
    intro q hq
    have := h.2 q hq
    unfold segment at this
    simp only [Bool.and_eq_true, List.all_eq_true, bne_iff_ne] at this
    exact ⟨this.2.1, this.1⟩
  have hne : p ≠ [] := by
    intro e; subst e
    exact (hseg [] (by simp [pieces])).1 rfl
  have hb : ∀ b ∈ p, blank b = false ∧ b ≠ 10 ∧ b ≠ 40 ∧ b ≠ 41 ∧ b ≠ 61 := by
    intro b hb
    rcases pieces_bytes 47 p b hb with rfl | ⟨q, hq, hbq⟩
    · decide
    · have := pathByte_ok b ((hseg q hq).2 b hbq)
      exact ⟨this.1, this.2.1, this.2.2.1, this.2.2.2.1, this.2.2.2.2.1⟩
  have ht := pieces_tail p (by
    rw [List.all_eq_true]
    intro q hq
    have := (hseg q (List.mem_of_mem_tail hq)).1
    simpa using this)
  exact ⟨⟨hne, fun b h' => ⟨(hb b h').1, (hb b h').2.1⟩, ht.1⟩, kind_of hne fun b h' => (hb b h').2.2, ht.2, h.1⟩
theorem mark_bytes {l : List UInt8} (h : mark l = true) : ∀ b ∈ l, markByte b = true := by
  unfold mark at h
  split at h
  · rename_i hd
    unfold digits at hd
    simp only [Bool.and_eq_true, List.all_eq_true] at hd
    intro b hb
    unfold markByte
    rw [hd.1 b hb]; rfl
  · simp only [Bool.and_eq_true, List.all_eq_true] at h
    exact h.1
theorem number_bytes {l : List UInt8} (h : number l = true) : ∀ b ∈ l, markByte b = true := by
  unfold number digits at h
  simp only [Bool.and_eq_true, List.all_eq_true] at h
  intro b hb
  unfold markByte
  rw [h.1.1 b hb]; rfl
theorem ver_bytes {l : List UInt8} (h : ver l = true) : ∀ b ∈ l, b = 118 ∨ b = 45 ∨ b = 46 ∨ markByte b = true := by
  intro b hb
  rw [ver_cut h] at hb
  have hv := h
  unfold ver at hv
  simp only [Bool.and_eq_true, List.all_eq_true] at hv
  rcases List.mem_cons.1 hb with hb | hb
  · exact Or.inl hb
  rcases List.mem_append.1 hb with hb | hb
  · rcases join_mem 46 _ b hb with hb | ⟨q, hq, hb⟩
    · exact Or.inr (Or.inr (Or.inl hb))
    · exact Or.inr (Or.inr (Or.inr (number_bytes (hv.2.2.1.2 q hq) b hb)))
  · split at hb
    · simp at hb
    · rcases List.mem_cons.1 hb with hb | hb
      · exact Or.inr (Or.inl hb)
      · rcases join_mem 46 _ b hb with hb | ⟨q, hq, hb⟩
        · exact Or.inr (Or.inr (Or.inl hb))
        · exact Or.inr (Or.inr (Or.inr (mark_bytes (hv.2.2.2 q hq) b hb)))
theorem ver_named {v : List UInt8} (h : ver v = true) : Named v := by
  have hb : ∀ b ∈ v, blank b = false ∧ b ≠ 10 ∧ b ≠ 40 ∧ b ≠ 41 ∧ b ≠ 61 ∧ b ≠ 47 := by
    intro b hb
    rcases ver_bytes h b hb with rfl | rfl | rfl | hb
    · decide
    · decide
    · decide
    · exact markByte_ok b hb
  have hne : v ≠ [] := by
    intro e; subst e; exact absurd (ver_pre h) (by simp)
  have hl : v.length ≤ 40 := by
    unfold ver at h
    simp only [Bool.and_eq_true, decide_eq_true_eq] at h
    exact h.1
  refine ⟨⟨hne, fun b h' => ⟨(hb b h').1, (hb b h').2.1⟩, clean_plain v fun b h' => (hb b h').2.2.2.2.2⟩, kind_of hne fun b h' => ⟨(hb b h').2.2.1, (hb b h').2.2.2.1, (hb b h').2.2.2.2.1⟩, ?_, by omega⟩
  intro e
  exact (hb 47 (List.mem_of_getLast? e)).2.2.2.2.2 rfl

end V
end Go.Proofs.YtcfhleenecfghaaGreatDoor

namespace Go.Proofs.YtcfhleenecfghaaGreatDoor
namespace V

/-- The bytes of a line's word. -/
def wd (fs : List ByteArray) (i : Nat) : List UInt8 := (fs.getD i ByteArray.empty).data.toList
/-- The words of a line as it is written. -/
def wordsOf (t : Nat) (fs : List ByteArray) : List (List UInt8) :=
  if t == 123 then [[109, 111, 100, 117, 108, 101], wd fs 0]
  else if t == 221 then [[114, 101, 113, 117, 105, 114, 101], wd fs 0, wd fs 1]
  else if t == 222 then [[101, 120, 99, 108, 117, 100, 101], wd fs 0, wd fs 1]
  else if wd fs 1 == [] then [[114, 101, 112, 108, 97, 99, 101], wd fs 0, [61, 62], wd fs 2, wd fs 3]
  else [[114, 101, 112, 108, 97, 99, 101], wd fs 0, wd fs 1, [61, 62], wd fs 2, wd fs 3]
/-- A line as it is written. -/
def lineB (t : Nat) (fs : List ByteArray) : List UInt8 := join 32 (wordsOf t fs)
/-- Lines as they are written. -/
def textOf (l : List (Nat × List ByteArray)) : List UInt8 := l.flatMap fun x => lineB x.1 x.2 ++ [10]

/-- A line of one of the four kinds, with the words that it should have. -/
def Valid (t : Nat) (fs : List ByteArray) : Prop := Sound (0, t, fs) ∧ fWords t fs = none

theorem fPath_none {p : ByteArray} (h : fPath p = none) : path p.data.toList = true := by
  unfold fPath at h
  split at h
  · assumption
  · cases h
theorem fVer_none {p : ByteArray} (h : fVer p = none) : ver p.data.toList = true := by
  unfold fVer at h
  split at h
  · assumption
  · cases h
theorem fModule_none {p v : ByteArray} (h : fModule p v = none) : path p.data.toList = true ∧ ver v.data.toList = true := by
  unfold fModule at h
  cases hp : fPath p with
  | some f => rw [hp] at h; cases h
  | none => rw [hp] at h; exact ⟨fPath_none hp, fVer_none h⟩
theorem toList_nil {v : ByteArray} (h : v.toList = []) : v.data.toList = [] := by
  rwa [ByteArray.toList_eq] at h
theorem fReplaced_none {p v : ByteArray} (h : fReplaced p v = none) : path p.data.toList = true ∧ (v.data.toList = [] ∨ ver v.data.toList = true) := by
  unfold fReplaced at h
  split at h
  · rename_i hv
    exact ⟨fPath_none h, Or.inl (toList_nil (eq_of_beq hv))⟩
  · exact ⟨(fModule_none h).1, Or.inr (fModule_none h).2⟩

/-- What a line is that is as it should be. -/
theorem valid_cases {t : Nat} {fs : List ByteArray} (h : Valid t fs) :
    (t = 123 ∧ ∃ a, fs = [a] ∧ path a.data.toList = true) ∨ (t = 221 ∧ ∃ a b, fs = [a, b] ∧ path a.data.toList = true ∧ ver b.data.toList = true) ∨ (t = 222 ∧ ∃ a b, fs = [a, b] ∧ path a.data.toList = true ∧ ver b.data.toList = true) ∨
      (t = 224 ∧ ∃ a b c d, fs = [a, b, c, d] ∧ path a.data.toList = true ∧ (b.data.toList = [] ∨ ver b.data.toList = true) ∧ path c.data.toList = true ∧ ver d.data.toList = true) := by
  obtain ⟨hs, hw⟩ := h
  rcases hs with ⟨h1, a, h2⟩ | ⟨h1, a, b, h2⟩ | ⟨h1, a, b, h2⟩ | ⟨h1, a, b, c, d, h2⟩
  all_goals
    simp only at h1 h2
    subst h1 h2
  · exact Or.inl ⟨rfl, a, rfl, fPath_none hw⟩
  · exact Or.inr (Or.inl ⟨rfl, a, b, rfl, fModule_none hw⟩)
  · exact Or.inr (Or.inr (Or.inl ⟨rfl, a, b, rfl, fModule_none hw⟩))
  · have hw' : fBoth a b c d = none := hw
    unfold fBoth at hw'
    cases hr : fReplaced a b with
    | some f => rw [hr] at hw'; cases hw'
    | none =>
      rw [hr] at hw'
      have h1 := fReplaced_none hr
      have h2 := fModule_none hw'
      exact Or.inr (Or.inr (Or.inr ⟨rfl, a, b, c, d, rfl, h1.1, h1.2, h2.1, h2.2⟩))
theorem wordy_lit {x : List UInt8} (h : (x != [] && x.all (fun b => !blank b && b != 10) && clean x) = true) : Wordy x := by
  simp only [Bool.and_eq_true, List.all_eq_true, bne_iff_ne, Bool.not_eq_true'] at h
  exact ⟨h.1.1, h.1.2, h.2⟩
theorem valid_wordy {t : Nat} {fs : List ByteArray} (h : Valid t fs) : ∀ x ∈ wordsOf t fs, Wordy x := by
  rcases valid_cases h with ⟨rfl, a, rfl, h1⟩ | ⟨rfl, a, b, rfl, h1, h2⟩ | ⟨rfl, a, b, rfl, h1, h2⟩ | ⟨rfl, a, b, c, d, rfl, h1, h2, h3, h4⟩
  · intro x hx
    have hx' : x = [109, 111, 100, 117, 108, 101] ∨ x = a.data.toList := by simpa [wordsOf, wd] using hx
    rcases hx' with rfl | rfl
    · exact wordy_lit (by decide)
    · exact (path_named h1).wordy
  · intro x hx
    have hx' : x = [114, 101, 113, 117, 105, 114, 101] ∨ x = a.data.toList ∨ x = b.data.toList := by simpa [wordsOf, wd] using hx
    rcases hx' with rfl | rfl | rfl
    · exact wordy_lit (by decide)
    · exact (path_named h1).wordy
    · exact (ver_named h2).wordy
  · intro x hx
    have hx' : x = [101, 120, 99, 108, 117, 100, 101] ∨ x = a.data.toList ∨ x = b.data.toList := by simpa [wordsOf, wd] using hx
    rcases hx' with rfl | rfl | rfl
    · exact wordy_lit (by decide)
    · exact (path_named h1).wordy
    · exact (ver_named h2).wordy
  · intro x hx
    have hx' : x = [114, 101, 112, 108, 97, 99, 101] ∨ x = a.data.toList ∨ (x = b.data.toList ∧ b.data.toList ≠ []) ∨ x = [61, 62] ∨ x = c.data.toList ∨ x = d.data.toList := by
      unfold wordsOf at hx
      simp only [show (224 == 123) = false from rfl, show (224 == 221) = false from rfl, show (224 == 222) = false from rfl, Bool.false_eq_true, if_false] at hx
      split at hx
      · simp only [wd, List.mem_cons, List.not_mem_nil, or_false] at hx
        rcases hx with h | h | h | h | h
        · exact Or.inl h
        · exact Or.inr (Or.inl h)
        · exact Or.inr (Or.inr (Or.inr (Or.inl h)))
        · exact Or.inr (Or.inr (Or.inr (Or.inr (Or.inl h))))
        · exact Or.inr (Or.inr (Or.inr (Or.inr (Or.inr h))))
      · rename_i hb
        simp only [wd, List.mem_cons, List.not_mem_nil, or_false] at hx
        rcases hx with h | h | h | h | h | h
        · exact Or.inl h
        · exact Or.inr (Or.inl h)
        · exact Or.inr (Or.inr (Or.inl ⟨h, fun e => hb (by rw [beq_iff_eq]; exact e)⟩))
        · exact Or.inr (Or.inr (Or.inr (Or.inl h)))
        · exact Or.inr (Or.inr (Or.inr (Or.inr (Or.inl h))))
        · exact Or.inr (Or.inr (Or.inr (Or.inr (Or.inr h))))
    rcases hx' with rfl | rfl | ⟨rfl, hb⟩ | rfl | rfl | rfl
    · exact wordy_lit (by decide)
    · exact (path_named h1).wordy
    · rcases h2 with h2 | h2
      · exact absurd h2 hb
      · exact (ver_named h2).wordy
    · exact wordy_lit (by decide)
    · exact (path_named h3).wordy
    · exact (ver_named h4).wordy

theorem back (a : ByteArray) : (⟨a.data.toList.toArray⟩ : ByteArray) = a := by cases a; simp
theorem empty_of {b : ByteArray} (h : b.data.toList = []) : b = ⟨#[]⟩ := by
  rw [← back b, h]

theorem took_cons (n : Nat) (x : ByteArray) (rest : List ByteArray) (st blk : Int) (l : List (Nat × Nat × List ByteArray)) : took n (x :: rest) st blk l =
    if st == 2 then tookIn n (x :: rest) blk l
    else if keyw x.data.toList == 1 && st != 0 then (false, st, blk, l)
    else if opens (keyw x.data.toList) rest then (true, 2, keyw x.data.toList, l)
    else ((added n (keyw x.data.toList) rest l).1, 1, blk, (added n (keyw x.data.toList) rest l).2) := rfl

/-- A written line is read as what it was. -/
theorem took_line (n t : Nat) (fs : List ByteArray) (st blk : Int) (l : List (Nat × Nat × List ByteArray)) (h : Valid t fs) (hst : st = 0 ∨ st = 1) (hm : t = 123 → st = 0) :
    took n (texts (wordsOf t fs)) st blk l = (true, 1, blk, l ++ [(n, t, fs)]) := by
  have hst2 : (st == 2) = false := by rcases hst with rfl | rfl <;> rfl
  rcases valid_cases h with ⟨rfl, a, rfl, h1⟩ | ⟨rfl, a, b, rfl, h1, h2⟩ | ⟨rfl, a, b, rfl, h1, h2⟩ | ⟨rfl, a, b, c, d, rfl, h1, h2, h3, h4⟩
  · have k1 := (path_named h1).kind
    have := hm rfl
    subst this
    have e : texts (wordsOf 123 [a]) = [⟨#[109, 111, 100, 117, 108, 101]⟩, a] := by
      show [_, (⟨a.data.toList.toArray⟩ : ByteArray)] = _
      rw [back]
    rw [e]
    rw [took_cons, show keyw (⟨#[109, 111, 100, 117, 108, 101]⟩ : ByteArray).data.toList = 1 from by decide]
    have f : fit [a] [0] = true := by unfold fit; simp [k1]
    have m : meaning 1 [a] = some (123, [a]) := by unfold meaning; rw [f]; rfl
    simp [added, m, opens]
  · have k1 := (path_named h1).kind
    have k2 := (ver_named h2).kind
    have e : texts (wordsOf 221 [a, b]) = [⟨#[114, 101, 113, 117, 105, 114, 101]⟩, a, b] := by
      show [_, (⟨a.data.toList.toArray⟩ : ByteArray), (⟨b.data.toList.toArray⟩ : ByteArray)] = _
      rw [back, back]
    rw [e]
    rw [took_cons, show keyw (⟨#[114, 101, 113, 117, 105, 114, 101]⟩ : ByteArray).data.toList = 2 from by decide]
    have f : fit [a, b] [0, 0] = true := by unfold fit; simp [k1, k2]
    have g : fit [a, b] [1] = false := by unfold fit; simp
    have m : meaning 2 [a, b] = some (221, [a, b]) := by unfold meaning; rw [f]; rfl
    simp [added, m, opens, g, hst2]
  · have k1 := (path_named h1).kind
    have k2 := (ver_named h2).kind
    have e : texts (wordsOf 222 [a, b]) = [⟨#[101, 120, 99, 108, 117, 100, 101]⟩, a, b] := by
      show [_, (⟨a.data.toList.toArray⟩ : ByteArray), (⟨b.data.toList.toArray⟩ : ByteArray)] = _
      rw [back, back]
    rw [e]
    rw [took_cons, show keyw (⟨#[101, 120, 99, 108, 117, 100, 101]⟩ : ByteArray).data.toList = 3 from by decide]
    have f : fit [a, b] [0, 0] = true := by unfold fit; simp [k1, k2]
    have g : fit [a, b] [1] = false := by unfold fit; simp
    have m : meaning 3 [a, b] = some (222, [a, b]) := by unfold meaning; rw [f]; rfl
    simp [added, m, opens, g, hst2]
  · have k1 := (path_named h1).kind
    have k3 := (path_named h3).kind
    have k4 := (ver_named h4).kind
    have ke : kind [61, 62] = 3 := by decide
    by_cases hb : b.data.toList = []
    · have hbe := empty_of hb
      subst hbe
      have e : texts (wordsOf 224 [a, ⟨#[]⟩, c, d]) = [⟨#[114, 101, 112, 108, 97, 99, 101]⟩, a, ⟨#[61, 62]⟩, c, d] := by
        show [_, (⟨a.data.toList.toArray⟩ : ByteArray), _, (⟨c.data.toList.toArray⟩ : ByteArray), (⟨d.data.toList.toArray⟩ : ByteArray)] = _
        rw [back, back, back]
      rw [e]
      rw [took_cons, show keyw (⟨#[114, 101, 112, 108, 97, 99, 101]⟩ : ByteArray).data.toList = 4 from by decide]
      have f : fit [a, ⟨#[61, 62]⟩, c, d] [0, 3, 0, 0] = true := by unfold fit; simp [k1, k3, k4, ke]
      have g : fit [a, ⟨#[61, 62]⟩, c, d] [1] = false := by unfold fit; simp
      have m : meaning 4 [a, ⟨#[61, 62]⟩, c, d] = some (224, [a, ⟨#[]⟩, c, d]) := by unfold meaning; rw [f]; rfl
      simp [added, m, opens, g, hst2]
    · have k2 : kind b.data.toList = 0 := by
        rcases h2 with h2 | h2
        · exact absurd h2 hb
        · exact (ver_named h2).kind
      have e : texts (wordsOf 224 [a, b, c, d]) = [⟨#[114, 101, 112, 108, 97, 99, 101]⟩, a, b, ⟨#[61, 62]⟩, c, d] := by
        have : wordsOf 224 [a, b, c, d] = [[114, 101, 112, 108, 97, 99, 101], a.data.toList, b.data.toList, [61, 62], c.data.toList, d.data.toList] := by
          unfold wordsOf
          have : (wd [a, b, c, d] 1 == []) = false := by rw [beq_eq_false_iff_ne]; exact hb
          rw [this]; rfl
        rw [this]
        show [_, (⟨a.data.toList.toArray⟩ : ByteArray), (⟨b.data.toList.toArray⟩ : ByteArray), _, (⟨c.data.toList.toArray⟩ : ByteArray), (⟨d.data.toList.toArray⟩ : ByteArray)] = _
        rw [back, back, back, back]
      rw [e]
      rw [took_cons, show keyw (⟨#[114, 101, 112, 108, 97, 99, 101]⟩ : ByteArray).data.toList = 4 from by decide]
      have f : fit [a, b, ⟨#[61, 62]⟩, c, d] [0, 0, 3, 0, 0] = true := by unfold fit; simp [k1, k2, k3, k4, ke]
      have f' : fit [a, b, ⟨#[61, 62]⟩, c, d] [0, 3, 0, 0] = false := by unfold fit; simp
      have g : fit [a, b, ⟨#[61, 62]⟩, c, d] [1] = false := by unfold fit; simp
      have m : meaning 4 [a, b, ⟨#[61, 62]⟩, c, d] = some (224, [a, b, c, d]) := by unfold meaning; rw [f, f']; rfl
      simp [added, m, opens, g, hst2]

theorem toks_line {t : Nat} {fs : List ByteArray} (h : Valid t fs) : toks ⟨(lineB t fs).toArray⟩ = texts (wordsOf t fs) := by
  have hw := valid_wordy h
  unfold toks
  show texts (words (said (lineB t fs).toArray.toList)) = _
  rw [List.toList_toArray, lineB, said_clean _ (clean_join _ hw), words_join _ hw]
theorem line_no10 {t : Nat} {fs : List ByteArray} (h : Valid t fs) (k : Nat) : (lineB t fs)[k]? ≠ some 10 := by
  intro e
  have hm := List.mem_of_getElem? e
  rcases join_mem 32 _ _ hm with h' | ⟨x, hx, hb⟩
  · cases h'
  · exact ((valid_wordy h x hx).2.1 10 hb).2 rfl
theorem textOf_pieces : ∀ (l : List (Nat × List ByteArray)), (∀ x ∈ l, Valid x.1 x.2) → pieces 10 (textOf l) = l.map (fun x => lineB x.1 x.2) ++ [[]]
  | [], _ => rfl
  | x :: xs, h => by
    have ih := textOf_pieces xs fun y hy => h y (List.mem_cons_of_mem _ hy)
    have e : textOf (x :: xs) = lineB x.1 x.2 ++ 10 :: textOf xs := by
      unfold textOf
      rw [List.flatMap_cons, List.append_assoc]; rfl
    rw [e, pieces_app 10 _ _ (line_no10 (h x (List.mem_cons_self ..))), ih]; rfl
/-- Lines with their numbers. -/
def num : Nat → List (Nat × List ByteArray) → List (Nat × Nat × List ByteArray)
  | _, [] => []
  | n, x :: xs => (n, x) :: num (n + 1) xs
theorem num_lines : ∀ (n : Nat) (l : List (Nat × List ByteArray)), (num n l).map (·.2) = l
  | _, [] => rfl
  | n, x :: xs => by rw [num, List.map_cons, num_lines]
theorem parse_rest : ∀ (l : List (Nat × List ByteArray)) (n : Nat) (blk : Int) (acc : List (Nat × Nat × List ByteArray)), (∀ x ∈ l, Valid x.1 x.2 ∧ x.1 ≠ 123) → may 1 acc = true →
    parseGo n (texts (l.map (fun x => lineB x.1 x.2) ++ [[]])) 1 blk acc = (acc ++ num (n + 1) l, 0)
  | [], n, blk, acc, _, hm => by
    show parseGo n [⟨#[]⟩] 1 blk acc = (acc ++ [], 0)
    rw [parseGo, parseGo]
    have e : toks ⟨#[]⟩ = [] := by rfl
    rw [e, took]
    simp [hm]
  | x :: xs, n, blk, acc, h, hm => by
    have hx := h x (List.mem_cons_self ..)
    show parseGo n (⟨(lineB x.1 x.2).toArray⟩ :: texts (xs.map (fun x => lineB x.1 x.2) ++ [[]])) 1 blk acc = _
    rw [parseGo, toks_line hx.1, took_line (n + 1) x.1 x.2 1 blk acc hx.1 (Or.inr rfl) (fun e => absurd e hx.2)]
    simp only [if_true]
    rw [parse_rest xs (n + 1) blk (acc ++ [(n + 1, x.1, x.2)]) (fun y hy => h y (List.mem_cons_of_mem _ hy))]
    · rw [List.append_assoc]; rfl
    · cases acc with
      | nil => cases hm
      | cons y ys => exact hm
/-- What is written is read again. -/
theorem parse_text (p : ByteArray) (l : List (Nat × List ByteArray)) (hp : Valid 123 [p]) (h : ∀ x ∈ l, Valid x.1 x.2 ∧ x.1 ≠ 123) :
    parse ⟨(textOf ((123, [p]) :: l)).toArray⟩ = (num 1 ((123, [p]) :: l), 0) := by
  unfold parse lines
  show parseGo 0 (texts (pieces 10 (textOf ((123, [p]) :: l)).toArray.toList)) 0 0 [] = _
  rw [List.toList_toArray, textOf_pieces _ (by
    intro x hx
    rcases List.mem_cons.1 hx with rfl | hx
    · exact hp
    · exact (h x hx).1)]
  show parseGo 0 (⟨(lineB 123 [p]).toArray⟩ :: texts (l.map (fun x => lineB x.1 x.2) ++ [[]])) 0 0 [] = _
  rw [parseGo, toks_line hp, took_line 1 123 [p] 0 0 [] hp (Or.inl rfl) (fun _ => rfl)]
  simp only [if_true]
  rw [parse_rest l 1 0 _ h rfl]; rfl

end V
end Go.Proofs.YtcfhleenecfghaaGreatDoor

namespace Go.Proofs.YtcfhleenecfghaaGreatDoor
namespace V

theorem compareInt_pre : Pre Lib.compareInt := by
  refine ⟨fun x y => ?_, fun x y => ?_, fun x y z => ?_⟩
  · unfold Lib.compareInt; split
    · exact Or.inl rfl
    · split
      · exact Or.inr (Or.inr rfl)
      · exact Or.inr (Or.inl rfl)
  · unfold Lib.compareInt; repeat' split
    all_goals first | omega | rfl
  · unfold Lib.compareInt; repeat' split
    all_goals omega
theorem compareInt_good : Good Lib.compareInt := ⟨compareInt_pre, fun x y h => by
  unfold Lib.compareInt at h
  repeat' split at h
  all_goals omega⟩

/-- The order of two versions, where one that is empty comes first. -/
def vord (a b : List UInt8) : Int := if a == [] || b == [] then cmpInt a.length b.length else order a b
theorem vord_eq (a b : List UInt8) : vord a b = thenC (fun x y => cmpInt (if x == [] then 0 else 1) (if y == [] then 0 else 1)) order a b := by
  unfold vord thenC
  cases a with
  | nil =>
    cases b with
    | nil =>
      have : order [] [] = 0 := by rw [order_eq]; exact orderP_good.1.refl _
      simp [cmpInt, this]
    | cons c cs => simp [cmpInt]
  | cons d ds =>
    cases b with
    | nil => simp [cmpInt]
    | cons c cs => simp [cmpInt]
theorem order_pre : Pre order := ⟨order_range, order_turn, order_le⟩
theorem vord_pre : Pre vord := by
  rw [show vord = thenC (fun x y : List UInt8 => cmpInt (if x == [] then 0 else 1) (if y == [] then 0 else 1)) order from funext fun a => funext fun b => vord_eq a b]
  exact Pre.then (cmpInt_pre.back fun x : List UInt8 => if x == [] then 0 else 1) order_pre
theorem vord_zero {a b : List UInt8} (ha : a = [] ∨ ver a = true) (hb : b = [] ∨ ver b = true) (h : vord a b = 0) : a = b := by
  have hnv : ver [] = false := by decide
  unfold vord at h
  rcases ha with rfl | ha
  · rw [if_pos (by rfl)] at h
    have := cmpInt_good.2 _ _ h
    exact (List.length_eq_zero_iff.1 this.symm).symm
  · rcases hb with rfl | hb
    · rw [if_pos (by simp)] at h
      have := cmpInt_good.2 _ _ h
      exact List.length_eq_zero_iff.1 this
    · rw [if_neg] at h
      · exact (order_zero ha hb).1 h
      · intro e
        simp only [Bool.or_eq_true, beq_iff_eq] at e
        rcases e with rfl | rfl
        · rw [hnv] at ha; cases ha
        · rw [hnv] at hb; cases hb

/-- The order of two places. -/
def ord (p q : Int × ByteArray × ByteArray) : Int :=
  thenC (fun x y => Lib.compareInt x.1 y.1) (thenC (fun x y => Lib.compareBytes x.2.1.data.toList y.2.1.data.toList) (fun x y => vord x.2.2.data.toList y.2.2.data.toList)) p q
theorem ord_pre : Pre ord :=
  Pre.then (compareInt_pre.back fun x : Int × ByteArray × ByteArray => x.1) (Pre.then (compare_good.1.back fun x : Int × ByteArray × ByteArray => x.2.1.data.toList) (vord_pre.back fun x : Int × ByteArray × ByteArray => x.2.2.data.toList))
theorem bytes_inj {a b : ByteArray} (h : a.data.toList = b.data.toList) : a = b := by
  rw [← back a, ← back b, h]
/-- The version of a place is none, or one. -/
def PlaceOk (p : Int × ByteArray × ByteArray) : Prop := p.2.2.data.toList = [] ∨ ver p.2.2.data.toList = true
theorem ord_zero {p q : Int × ByteArray × ByteArray} (hp : PlaceOk p) (hq : PlaceOk q) (h : ord p q = 0) : p = q := by
  unfold ord at h
  rcases then_cases (fun x y : Int × ByteArray × ByteArray => Lib.compareInt x.1 y.1) (thenC (fun x y => Lib.compareBytes x.2.1.data.toList y.2.1.data.toList) (fun x y => vord x.2.2.data.toList y.2.2.data.toList)) p q with ⟨h1, e⟩ | ⟨h1, e⟩
  · exact absurd (e.symm.trans h) h1
  · rw [e] at h
    have e1 := compareInt_good.2 _ _ h1
    rcases then_cases (fun x y : Int × ByteArray × ByteArray => Lib.compareBytes x.2.1.data.toList y.2.1.data.toList) (fun x y => vord x.2.2.data.toList y.2.2.data.toList) p q with ⟨h2, e'⟩ | ⟨h2, e'⟩
    · exact absurd (e'.symm.trans h) h2
    · rw [e'] at h
      exact Prod.ext e1 (Prod.ext (bytes_inj (compare_good.2 _ _ h2)) (bytes_inj (vord_zero hp hq h)))
theorem valid_place {t : Nat} {fs : List ByteArray} (h : Valid t fs) : PlaceOk (place t fs) := by
  rcases valid_cases h with ⟨rfl, a, rfl, h1⟩ | ⟨rfl, a, b, rfl, h1, h2⟩ | ⟨rfl, a, b, rfl, h1, h2⟩ | ⟨rfl, a, b, c, d, rfl, h1, h2, h3, h4⟩
  · exact Or.inl rfl
  · exact Or.inl rfl
  · exact Or.inr h2
  · exact h2

theorem checkGo_none : ∀ (l : List (Nat × Nat × List ByteArray)) (seen : List ((Int × ByteArray × ByteArray) × Nat)),
    checkGo l seen = none ↔ (∀ x ∈ l, fWords x.2.1 x.2.2 = none) ∧ (l.map fun x => place x.2.1 x.2.2).Nodup ∧ ∀ x ∈ l, ∀ y ∈ seen, y.1 ≠ place x.2.1 x.2.2
  | [], seen => by simp [checkGo]
  | x :: xs, seen => by
    rw [checkGo]
    cases hf : fWords x.2.1 x.2.2 with
    | some f =>
      constructor
      · intro h; cases h
      · intro h; have := h.1 x (List.mem_cons_self ..); rw [hf] at this; cases this
    | none =>
      by_cases ha : seen.any (fun y => decide (y.1 = place x.2.1 x.2.2)) = true
      · simp only [ha, if_true]
        constructor
        · intro h; cases h
        · intro h
          obtain ⟨y, hy, he⟩ := List.any_eq_true.1 ha
          exact absurd (of_decide_eq_true he) (h.2.2 x (List.mem_cons_self ..) y hy)
      · simp only [ha, Bool.false_eq_true, if_false]
        rw [checkGo_none xs]
        have ha' : ∀ y ∈ seen, y.1 ≠ place x.2.1 x.2.2 := by
          intro y hy e
          exact ha (List.any_eq_true.2 ⟨y, hy, decide_eq_true e⟩)
        constructor
        · rintro ⟨h1, h2, h3⟩
          refine ⟨?_, ?_, ?_⟩
          · intro z hz
            rcases List.mem_cons.1 hz with rfl | hz
            · exact hf
            · exact h1 z hz
          · rw [List.map_cons, List.nodup_cons]
            refine ⟨?_, h2⟩
            intro hm
            obtain ⟨z, hz, he⟩ := List.mem_map.1 hm
            exact h3 z hz (place x.2.1 x.2.2, x.1) (by simp) he.symm
          · intro z hz y hy
            rcases List.mem_cons.1 hz with rfl | hz
            · exact ha' y hy
            · exact h3 z hz y (List.mem_append_left _ hy)
        · rintro ⟨h1, h2, h3⟩
          rw [List.map_cons, List.nodup_cons] at h2
          refine ⟨fun z hz => h1 z (List.mem_cons_of_mem _ hz), h2.2, ?_⟩
          intro z hz y hy
          rcases List.mem_append.1 hy with hy | hy
          · exact h3 z (List.mem_cons_of_mem _ hz) y hy
          · rw [List.mem_singleton.1 hy]
            intro e
            exact h2.1 (List.mem_map.2 ⟨z, hz, e.symm⟩)

/-- Lines in their order: no later one is less than an earlier one. -/
def InOrder (l : List (Nat × List ByteArray)) : Prop := l.Pairwise fun x y => ¬ ord (place y.1 y.2) (place x.1 x.2) < 0
theorem inOrder_unique {l r : List (Nat × List ByteArray)} (hp : l.Perm r) (hv : ∀ x ∈ l, Valid x.1 x.2) (hn : (l.map fun x => place x.1 x.2).Nodup) (hl : InOrder l) (hr : InOrder r) : l = r := by
  unfold InOrder at hl hr
  refine List.Perm.eq_of_pairwise ?_ hl hr hp
  intro a b ha hb h1 h2
  have hb' : b ∈ l := hp.mem_iff.2 hb
  have e1 := ord_pre.2.1 (place a.1 a.2) (place b.1 b.2)
  have e0 : ord (place a.1 a.2) (place b.1 b.2) = 0 := by omega
  have ep := ord_zero (valid_place (hv a ha)) (valid_place (hv b hb')) e0
  obtain ⟨i, hi, ei⟩ := List.getElem_of_mem ha
  obtain ⟨j, hj, ej⟩ := List.getElem_of_mem hb'
  have hw := List.pairwise_iff_getElem.1 hn
  have hij : i = j := by
    rcases Nat.lt_trichotomy i j with hlt | he | hgt
    · have := hw i j (by simpa using hi) (by simpa using hj) hlt
      rw [List.getElem_map, List.getElem_map, ei, ej] at this
      exact absurd ep this
    · exact he
    · have := hw j i (by simpa using hj) (by simpa using hi) hgt
      rw [List.getElem_map, List.getElem_map, ei, ej] at this
      exact absurd ep.symm this
  subst hij
  rw [← ei, ← ej]

/-- A manifest's lines: one module, and it is the first; all else is as it should be; no two have one place. -/
structure Whole (l : List (Nat × List ByteArray)) : Prop where
  valid : ∀ x ∈ l, Valid x.1 x.2
  nodup : (l.map fun x => place x.1 x.2).Nodup
  first : ∃ p r, l = (123, [p]) :: r ∧ ∀ x ∈ r, x.1 ≠ 123
theorem place_rank {t : Nat} {fs : List ByteArray} (h : Valid t fs) : (t = 123 ∧ (place t fs).1 = 0) ∨ (t ≠ 123 ∧ 0 < (place t fs).1) := by
  rcases valid_cases h with ⟨rfl, a, rfl, h1⟩ | ⟨rfl, a, b, rfl, h1, h2⟩ | ⟨rfl, a, b, rfl, h1, h2⟩ | ⟨rfl, a, b, c, d, rfl, h1, h2, h3, h4⟩
  · exact Or.inl ⟨rfl, rfl⟩
  · exact Or.inr ⟨by decide, by show (0 : Int) < 1; decide⟩
  · exact Or.inr ⟨by decide, by show (0 : Int) < 2; decide⟩
  · exact Or.inr ⟨by decide, by show (0 : Int) < 3; decide⟩
theorem ord_rank {p q : Int × ByteArray × ByteArray} (h : p.1 < q.1) : ord p q < 0 := by
  unfold ord thenC
  have : Lib.compareInt p.1 q.1 = -1 := by unfold Lib.compareInt; rw [if_pos h]
  simp [this]
/-- In their order the module is still the first one. -/
theorem whole_sorted {l r : List (Nat × List ByteArray)} (h : Whole l) (hp : r.Perm l) (hr : InOrder r) : Whole r := by
  have hv : ∀ x ∈ r, Valid x.1 x.2 := fun x hx => h.valid x (hp.mem_iff.1 hx)
  have hn : (r.map fun x => place x.1 x.2).Nodup := (hp.map _).nodup_iff.2 h.nodup
  obtain ⟨p, s, rfl, hs⟩ := h.first
  refine ⟨hv, hn, ?_⟩
  cases r with
  | nil => exact absurd hp.length_eq (by simp)
  | cons y ys =>
    have hm : ((123, [p]) : Nat × List ByteArray) ∈ y :: ys := hp.mem_iff.2 (List.mem_cons_self ..)
    have hy : y = (123, [p]) := by
      rcases List.mem_cons.1 hm with e | hin
      · exact e.symm
      · have hlt := (List.pairwise_cons.1 hr).1 _ hin
        rcases place_rank (hv y (List.mem_cons_self ..)) with ⟨e, _⟩ | ⟨_, hpos⟩
        · rcases List.mem_cons.1 (hp.mem_iff.1 (List.mem_cons_self ..)) with e' | hin'
          · exact e'
          · exact absurd e (hs y hin')
        · exact absurd (ord_rank (p := place 123 [p]) (q := place y.1 y.2) hpos) hlt
    subst hy
    refine ⟨p, ys, rfl, fun x hx => ?_⟩
    exact hs x ((List.Perm.cons_inv hp).mem_iff.1 hx)
/-- What is written of a manifest's lines has no error, and these lines. -/
theorem whole_text {l : List (Nat × List ByteArray)} (h : Whole l) : (parse ⟨(textOf l).toArray⟩).2 = 0 ∧ checkGo (parse ⟨(textOf l).toArray⟩).1 [] = none ∧ (parse ⟨(textOf l).toArray⟩).1.map (·.2) = l := by
  obtain ⟨p, s, rfl, hs⟩ := h.first
  have e := parse_text p s (h.valid _ (List.mem_cons_self ..)) fun x hx => ⟨h.valid x (List.mem_cons_of_mem _ hx), hs x hx⟩
  have en := num_lines 1 ((123, [p]) :: s)
  rw [e]
  refine ⟨rfl, ?_, en⟩
  rw [checkGo_none]
  refine ⟨?_, ?_, fun _ _ _ hy => absurd hy (List.not_mem_nil)⟩
  · intro x hx
    have : x.2 ∈ ((123, [p]) :: s : List (Nat × List ByteArray)) := by rw [← en]; exact List.mem_map.2 ⟨x, hx, rfl⟩
    exact (h.valid _ this).2
  · have : ((num 1 ((123, [p]) :: s)).map fun x => place x.2.1 x.2.2) = ((123, [p]) :: s : List (Nat × List ByteArray)).map fun x => place x.1 x.2 := by
      conv => rhs; rw [← en]
      rw [List.map_map]; rfl
    rw [this]; exact h.nodup
/-- Whatever is sorted of it, it is as it was written. -/
theorem whole_again {l r : List (Nat × List ByteArray)} (h : Whole l) (hl : InOrder l) (hp : r.Perm ((parse ⟨(textOf l).toArray⟩).1.map (·.2))) (hr : InOrder r) : r = l := by
  rw [(whole_text h).2.2] at hp
  exact (inOrder_unique hp.symm h.valid h.nodup hl hr).symm

end V
end Go.Proofs.YtcfhleenecfghaaGreatDoor

namespace Go.Proofs.YtcfhleenecfghaaGreatDoor
namespace V

theorem wordsGo_size (M : Nat) : ∀ (l cur : List UInt8), cur.length + l.length ≤ M → ∀ w ∈ wordsGo cur l, w.length ≤ M
  | [], cur, h, w, hw => by
    rw [wordsGo] at hw
    split at hw
    · simp at hw
    · rw [List.mem_singleton.1 hw]; simpa using h
  | b :: r, cur, h, w, hw => by
    rw [List.length_cons] at h
    rw [wordsGo] at hw
    split at hw
    · split at hw
      · exact wordsGo_size M r [] (by simp; omega) w hw
      · rcases List.mem_cons.1 hw with rfl | hw
        · omega
        · exact wordsGo_size M r [] (by simp; omega) w hw
    · exact wordsGo_size M r (cur ++ [b]) (by simp; omega) w hw
theorem said_short (l : List UInt8) : (said l).length ≤ l.length := by
  unfold said Lib.cut
  split
  · simp only [List.length_take]; omega
  · exact Nat.le_refl _
theorem toks_size {s : ByteArray} {M : Nat} (h : s.size ≤ M) : ∀ w ∈ toks s, w.size ≤ M := by
  intro w hw
  unfold toks texts at hw
  obtain ⟨x, hx, rfl⟩ := List.mem_map.1 hw
  have e : s.data.toList.length = s.size := by simp
  have h1 := said_short s.data.toList
  have := wordsGo_size M (said s.data.toList) [] (by simp; omega) x hx
  show x.toArray.size ≤ M
  rw [List.size_toArray]; exact this
theorem getD_size {ws : List ByteArray} {M : Nat} (h : ∀ w ∈ ws, w.size ≤ M) (i : Nat) : (ws.getD i ByteArray.empty).size ≤ M := by
  by_cases hi : i < ws.length
  · rw [getD_at _ _ hi]; exact h _ (List.getElem_mem hi)
  · rw [List.getD_eq_getElem?_getD, List.getElem?_eq_none (by omega)]; exact Nat.zero_le _

/-- A statement of one of the four kinds, with a number, and with no word longer than M. -/
def Held (M : Nat) (x : Nat × Nat × List ByteArray) : Prop := Sound x ∧ x.1 ≠ 0 ∧ ∀ a ∈ x.2.2, a.size ≤ M
theorem meaning_held {M : Nat} {kw : Int} {ws : List ByteArray} {n t : Nat} {fs : List ByteArray} (hn : n ≠ 0) (hw : ∀ w ∈ ws, w.size ≤ M) (h : meaning kw ws = some (t, fs)) : Held M (n, t, fs) ∧ (kw ≠ 1 → t ≠ 123) := by
  have g := getD_size hw
  unfold meaning at h
  split at h
  · rename_i hk
    cases h
    refine ⟨⟨Or.inl ⟨rfl, _, rfl⟩, hn, ?_⟩, ?_⟩
    · intro a ha; rw [List.mem_singleton.1 ha]; exact g 0
    · intro e; exfalso; apply e; simp only [Bool.and_eq_true, beq_iff_eq] at hk; exact hk.1
  split at h
  · cases h
    refine ⟨⟨Or.inr (Or.inl ⟨rfl, _, _, rfl⟩), hn, ?_⟩, fun _ => by decide⟩
    intro a ha
    simp only [List.mem_cons, List.not_mem_nil, or_false] at ha
    rcases ha with rfl | rfl
    · exact g 0
    · exact g 1
  split at h
  · cases h
    refine ⟨⟨Or.inr (Or.inr (Or.inl ⟨rfl, _, _, rfl⟩)), hn, ?_⟩, fun _ => by decide⟩
    intro a ha
    simp only [List.mem_cons, List.not_mem_nil, or_false] at ha
    rcases ha with rfl | rfl
    · exact g 0
    · exact g 1
  split at h
  · cases h
    refine ⟨⟨Or.inr (Or.inr (Or.inr ⟨rfl, _, _, _, _, rfl⟩)), hn, ?_⟩, fun _ => by decide⟩
    intro a ha
    simp only [List.mem_cons, List.not_mem_nil, or_false] at ha
    rcases ha with rfl | rfl | rfl | rfl
    · exact g 0
    · exact Nat.zero_le _
    · exact g 2
    · exact g 3
  split at h
  · cases h
    refine ⟨⟨Or.inr (Or.inr (Or.inr ⟨rfl, _, _, _, _, rfl⟩)), hn, ?_⟩, fun _ => by decide⟩
    intro a ha
    simp only [List.mem_cons, List.not_mem_nil, or_false] at ha
    rcases ha with rfl | rfl | rfl | rfl
    · exact g 0
    · exact g 1
    · exact g 3
    · exact g 4
  · cases h

theorem no10 : ¬ ((1 : Int) = 0) := by decide
theorem no12 : ¬ ((1 : Int) = 2) := by decide
theorem no20 : ¬ ((2 : Int) = 0) := by decide
/-- How the reading stands: nothing was said ahead of the first line that says something; a block is not one of modules; behind the first there is no module. -/
def Stood (M : Nat) (st blk : Int) (l : List (Nat × Nat × List ByteArray)) : Prop :=
  (st = 0 → l = []) ∧ (st = 2 → blk ≠ 1) ∧ (∀ x ∈ l.tail, x.2.1 ≠ 123) ∧ ∀ x ∈ l, Held M x
theorem tail_snoc {α : Type} {l : List α} {x y : α} (h : y ∈ (l ++ [x]).tail) : y ∈ l.tail ∨ (y = x ∧ l ≠ []) := by
  cases l with
  | nil => simp at h
  | cons a r =>
    simp only [List.cons_append, List.tail_cons, List.mem_append, List.mem_singleton] at h
    rcases h with h | h
    · exact Or.inl h
    · exact Or.inr ⟨h, by simp⟩
theorem added_stood {M n : Nat} {kw : Int} {ws : List ByteArray} {l : List (Nat × Nat × List ByteArray)} (hn : n ≠ 0) (hw : ∀ w ∈ ws, w.size ≤ M) (hk : kw = 1 → l = []) (h1 : ∀ x ∈ l.tail, x.2.1 ≠ 123) (h2 : ∀ x ∈ l, Held M x) :
    (∀ x ∈ (added n kw ws l).2.tail, x.2.1 ≠ 123) ∧ ∀ x ∈ (added n kw ws l).2, Held M x := by
  unfold added
  split
  · rename_i y hy
    have hm := meaning_held (t := y.1) (fs := y.2) hn hw hy
    refine ⟨fun x hx => ?_, fun x hx => ?_⟩
    · rcases tail_snoc hx with hx | ⟨rfl, hne⟩
      · exact h1 x hx
      · exact hm.2 fun e => hne (hk e)
    · rcases List.mem_append.1 hx with hx | hx
      · exact h2 x hx
      · rw [List.mem_singleton.1 hx]; exact hm.1
  · exact ⟨h1, h2⟩
theorem took_stood {M n : Nat} {ws : List ByteArray} {st blk : Int} {l : List (Nat × Nat × List ByteArray)} (hn : n ≠ 0) (hw : ∀ w ∈ ws, w.size ≤ M) (h : Stood M st blk l) :
    Stood M (took n ws st blk l).2.1 (took n ws st blk l).2.2.1 (took n ws st blk l).2.2.2 := by
  obtain ⟨h0, hb, h1, h2⟩ := h
  cases ws with
  | nil => exact ⟨h0, hb, h1, h2⟩
  | cons x rest =>
    have hr : ∀ w ∈ rest, w.size ≤ M := fun w hw' => hw w (List.mem_cons_of_mem _ hw')
    rw [took_cons]
    split
    · rename_i hs
      unfold tookIn
      split
      · exact ⟨fun e => absurd e no10, fun e => absurd e no12, h1, h2⟩
      · have := added_stood (kw := blk) hn hw (fun e => absurd e (hb (by simpa using hs))) h1 h2
        exact ⟨fun e => absurd e no20, fun _ => hb (by simpa using hs), this.1, this.2⟩
    · split
      · exact ⟨h0, hb, h1, h2⟩
      · rename_i hk
        split
        · rename_i ho
          refine ⟨fun e => absurd e no20, fun _ e => ?_, h1, h2⟩
          unfold opens at ho
          simp only at e
          rw [e] at ho
          simp at ho
        · have := added_stood (kw := keyw x.data.toList) hn hr (fun e => by
            apply h0
            rw [e] at hk
            simpa using hk) h1 h2
          exact ⟨fun e => absurd e no10, fun e => absurd e no12, this.1, this.2⟩
theorem parseGo_stood {M : Nat} : ∀ (ls : List ByteArray) (n : Nat) (st blk : Int) (l : List (Nat × Nat × List ByteArray)), (∀ x ∈ ls, x.size ≤ M) → Stood M st blk l →
    (∀ x ∈ (parseGo n ls st blk l).1.tail, x.2.1 ≠ 123) ∧ (∀ x ∈ (parseGo n ls st blk l).1, Held M x) ∧ ((parseGo n ls st blk l).2 = 0 → n ≠ 0 ∨ ls ≠ [] → ∃ y ys, (parseGo n ls st blk l).1 = y :: ys ∧ y.2.1 = 123)
  | [], n, st, blk, l, _, h => by
    refine ⟨h.2.2.1, h.2.2.2, fun e hne => ?_⟩
    rw [parseGo] at e ⊢
    simp only at e ⊢
    cases hm : may st l
    · rw [hm] at e
      simp at e
      rcases hne with hne | hne
      · exact absurd e hne
      · exact absurd rfl hne
    · cases l with
      | nil => cases hm
      | cons y ys =>
        unfold may at hm
        simp only [Bool.and_eq_true, beq_iff_eq] at hm
        exact ⟨y, ys, rfl, hm.2⟩
  | x :: xs, n, st, blk, l, hs, h => by
    have hw := toks_size (hs x (List.mem_cons_self ..))
    have ht := took_stood (n := n + 1) (ws := toks x) (by omega) hw h
    rw [parseGo]
    split
    · have ih := parseGo_stood xs (n + 1) _ _ _ (fun y hy => hs y (List.mem_cons_of_mem _ hy)) ht
      exact ⟨ih.1, ih.2.1, fun e _ => ih.2.2 e (Or.inl (by omega))⟩
    · exact ⟨ht.2.2.1, ht.2.2.2, fun e _ => absurd e (by simp)⟩
theorem pieces_some_len (c : UInt8) : ∀ (l : List UInt8), (pieces c l).length ≤ l.length + 1
  | [] => by simp [pieces]
  | b :: r => by
    have ih := pieces_some_len c r
    rw [pieces]
    split
    · simp; omega
    · simp
      have := pieces_ne c r
      have := List.length_pos_iff.2 this
      omega
theorem lines_short (s : ByteArray) : ∀ x ∈ lines s, x.size ≤ s.size := by
  intro x hx
  unfold lines texts at hx
  obtain ⟨q, hq, rfl⟩ := List.mem_map.1 hx
  have := pieces_len 10 _ _ hq
  have e : s.data.toList.length = s.size := by simp
  show q.toArray.size ≤ s.size
  rw [List.size_toArray]; omega
theorem lines_count (s : ByteArray) : (lines s).length ≤ s.size + 1 := by
  unfold lines texts
  rw [List.length_map]
  have := pieces_some_len 10 s.data.toList
  have e : s.data.toList.length = s.size := by simp
  omega
theorem took_count (n : Nat) (ws : List ByteArray) (st blk : Int) (l : List (Nat × Nat × List ByteArray)) : (took n ws st blk l).2.2.2.length ≤ l.length + 1 := by
  have ha : ∀ kw ws', (added n kw ws' l).2.length ≤ l.length + 1 := by
    intro kw ws'; unfold added; split <;> simp
  unfold took tookIn
  repeat' split
  all_goals first | exact Nat.le_succ _ | exact ha _ _
theorem parseGo_count : ∀ (ls : List ByteArray) (n : Nat) (st blk : Int) (l : List (Nat × Nat × List ByteArray)), (parseGo n ls st blk l).1.length ≤ l.length + ls.length
  | [], n, st, blk, l => by rw [parseGo]; simp
  | x :: xs, n, st, blk, l => by
    have := took_count (n + 1) (toks x) st blk l
    rw [parseGo, List.length_cons]
    split
    · have := parseGo_count xs (n + 1) (took (n + 1) (toks x) st blk l).2.1 (took (n + 1) (toks x) st blk l).2.2.1 (took (n + 1) (toks x) st blk l).2.2.2
      omega
    · show (took (n + 1) (toks x) st blk l).2.2.2.length ≤ _
      omega

/-- What is read of any text. -/
theorem parse_held (s : ByteArray) : ∀ x ∈ (parse s).1, Held s.size x :=
  (parseGo_stood (lines s) 0 0 0 [] (lines_short s) ⟨fun _ => rfl, fun e => absurd e (by decide), fun x hx => absurd hx (by simp), fun x hx => absurd hx (by simp)⟩).2.1
theorem parse_count (s : ByteArray) : (parse s).1.length ≤ s.size + 1 := by
  have := parseGo_count (lines s) 0 0 0 []
  have := lines_count s
  unfold parse
  simp at *; omega
theorem lines_ne (s : ByteArray) : lines s ≠ [] := by
  unfold lines texts
  intro e
  exact pieces_ne 10 _ (List.map_eq_nil_iff.1 e)
/-- A text without an error has the lines of a manifest. -/
theorem parse_whole {s : ByteArray} (h0 : (parse s).2 = 0) (h1 : checkGo (parse s).1 [] = none) : Whole ((parse s).1.map (·.2)) := by
  have hp := parseGo_stood (M := s.size) (lines s) 0 0 0 [] (lines_short s) ⟨fun _ => rfl, fun e => absurd e (by decide), fun x hx => absurd hx (by simp), fun x hx => absurd hx (by simp)⟩
  obtain ⟨hw, hn, _⟩ := (checkGo_none _ _).1 h1
  obtain ⟨y, ys, hy, hk⟩ := hp.2.2 h0 (Or.inr (lines_ne s))
  have hv : ∀ x ∈ (parse s).1.map (·.2), Valid x.1 x.2 := by
    intro x hx
    obtain ⟨z, hz, rfl⟩ := List.mem_map.1 hx
    have hs := (hp.2.1 z hz).1
    exact ⟨hs, hw z hz⟩
  refine ⟨hv, ?_, ?_⟩
  · rw [List.map_map]; exact hn
  · have hy' : (parse s).1 = y :: ys := hy
    rw [hy', List.map_cons]
    have hv0 : Valid y.2.1 y.2.2 := hv y.2 (by rw [hy']; simp)
    obtain ⟨yn, yt, yf⟩ := y
    simp only at hk hv0
    subst hk
    rcases valid_cases hv0 with ⟨_, a, rfl, _⟩ | ⟨h, _⟩ | ⟨h, _⟩ | ⟨h, _⟩
    · refine ⟨a, ys.map (·.2), rfl, fun x hx => ?_⟩
      obtain ⟨z, hz, rfl⟩ := List.mem_map.1 hx
      exact hp.1 z (by
        show z ∈ (parse s).1.tail
        rw [hy']; exact hz)
    · exact absurd h (by decide)
    · exact absurd h (by decide)
    · exact absurd h (by decide)

theorem join_len (c : UInt8) : ∀ (ws : List (List UInt8)) (M : Nat), (∀ w ∈ ws, w.length ≤ M) → (join c ws).length ≤ ws.length * (M + 1)
  | [], _, _ => by simp [join]
  | [a], M, h => by
    have := h a (by simp)
    simp [join]; omega
  | a :: b :: r, M, h => by
    have ha := h a (by simp)
    have ih := join_len c (b :: r) M fun w hw => h w (List.mem_cons_of_mem _ hw)
    rw [join, List.length_append, List.length_cons, List.length_cons, Nat.succ_mul]
    omega
theorem wordsOf_count (t : Nat) (fs : List ByteArray) : (wordsOf t fs).length ≤ 6 := by
  unfold wordsOf
  repeat' split
  all_goals simp
theorem named_short {t : Nat} {fs : List ByteArray} (h : Valid t fs) : ∀ x ∈ wordsOf t fs, x.length ≤ 60 := by
  have h0 : ([] : List UInt8).length ≤ 60 := by decide
  intro x hx
  rcases valid_cases h with ⟨rfl, a, rfl, h1⟩ | ⟨rfl, a, b, rfl, h1, h2⟩ | ⟨rfl, a, b, rfl, h1, h2⟩ | ⟨rfl, a, b, c, d, rfl, h1, h2, h3, h4⟩
  · have hx' : x = [109, 111, 100, 117, 108, 101] ∨ x = a.data.toList := by simpa [wordsOf, wd] using hx
    rcases hx' with rfl | rfl
    · decide
    · exact (path_named h1).short
  · have hx' : x = [114, 101, 113, 117, 105, 114, 101] ∨ x = a.data.toList ∨ x = b.data.toList := by simpa [wordsOf, wd] using hx
    rcases hx' with rfl | rfl | rfl
    · decide
    · exact (path_named h1).short
    · exact (ver_named h2).short
  · have hx' : x = [101, 120, 99, 108, 117, 100, 101] ∨ x = a.data.toList ∨ x = b.data.toList := by simpa [wordsOf, wd] using hx
    rcases hx' with rfl | rfl | rfl
    · decide
    · exact (path_named h1).short
    · exact (ver_named h2).short
  · have hx' : x = [114, 101, 112, 108, 97, 99, 101] ∨ x = a.data.toList ∨ x = b.data.toList ∨ x = [61, 62] ∨ x = c.data.toList ∨ x = d.data.toList := by
      unfold wordsOf at hx
      simp only [show (224 == 123) = false from rfl, show (224 == 221) = false from rfl, show (224 == 222) = false from rfl, Bool.false_eq_true, if_false] at hx
      split at hx
      · simp only [wd, List.mem_cons, List.not_mem_nil, or_false] at hx
        rcases hx with h | h | h | h | h
        · exact Or.inl h
        · exact Or.inr (Or.inl h)
        · exact Or.inr (Or.inr (Or.inr (Or.inl h)))
        · exact Or.inr (Or.inr (Or.inr (Or.inr (Or.inl h))))
        · exact Or.inr (Or.inr (Or.inr (Or.inr (Or.inr h))))
      · simp only [wd, List.mem_cons, List.not_mem_nil, or_false] at hx
        exact hx
    rcases hx' with rfl | rfl | rfl | rfl | rfl | rfl
    · decide
    · exact (path_named h1).short
    · rcases h2 with h2 | h2
      · rw [h2]; exact h0
      · exact (ver_named h2).short
    · decide
    · exact (path_named h3).short
    · exact (ver_named h4).short
theorem line_short {t : Nat} {fs : List ByteArray} (h : Valid t fs) : (lineB t fs).length ≤ 366 := by
  have h1 := join_len 32 (wordsOf t fs) 60 (named_short h)
  have h2 := wordsOf_count t fs
  unfold lineB
  omega
theorem text_short : ∀ (l : List (Nat × List ByteArray)), (∀ x ∈ l, Valid x.1 x.2) → (textOf l).length ≤ l.length * 367
  | [], _ => by simp [textOf]
  | x :: xs, h => by
    have h1 := line_short (h x (List.mem_cons_self ..))
    have ih := text_short xs fun y hy => h y (List.mem_cons_of_mem _ hy)
    have e : textOf (x :: xs) = (lineB x.1 x.2 ++ [10]) ++ textOf xs := by
      unfold textOf; rw [List.flatMap_cons]
    rw [e, List.length_append, List.length_append, show (x :: xs).length * 367 = xs.length * 367 + 367 by rw [List.length_cons, Nat.succ_mul]]
    simp; omega

end V
end Go.Proofs.YtcfhleenecfghaaGreatDoor

namespace Go.Proofs.YtcfhleenecfghaaGreatDoor
namespace V

/-- The path of a made module. -/
def mpath (q : Nat) : List UInt8 := [109, 47, UInt8.ofNat (97 + q)]
/-- The version of a made module. -/
def mver (n : Nat) : List UInt8 := if n % 3 == 0 then [118, 49, 46, dig (n / 3), 46, 48, 45, 114, 99] else [118, 49, 46, dig (n / 3), 46, dig (n % 3 - 1)]
def mp (q : Nat) : ByteArray := ⟨(mpath q).toArray⟩
def mv (n : Nat) : ByteArray := ⟨(mver n).toArray⟩
/-- The line of a need. -/
def need (x : Nat × Nat) : Nat × List ByteArray := (221, [mp x.1, mv x.2])
def rootB : ByteArray := ⟨#[114, 111, 111, 116]⟩
/-- The lines of a root with these needs. -/
def rootL (l : List (Nat × Nat)) : List (Nat × List ByteArray) := (123, [rootB]) :: l.map need
/-- Needs of made modules: by rising paths, each once. -/
def Needs (l : List (Nat × Nat)) : Prop := (∀ x ∈ l, x.1 < 5 ∧ x.2 < 30) ∧ l.Pairwise fun x y => x.1 < y.1

theorem mpath_ok {q : Nat} (h : q < 5) : path (mpath q) = true := by
  have : ∀ n : Fin 5, path (mpath n.val) = true := by decide
  exact this ⟨q, h⟩
theorem mver_ok {n : Nat} (h : n < 30) : ver (mver n) = true := by
  have : ∀ n : Fin 30, ver (mver n.val) = true := by decide +kernel
  exact this ⟨n, h⟩
theorem mp_list (q : Nat) : (mp q).data.toList = mpath q := by show (mpath q).toArray.toList = _; rw [List.toList_toArray]
theorem mv_list (q : Nat) : (mv q).data.toList = mver q := by show (mver q).toArray.toList = _; rw [List.toList_toArray]
theorem need_valid {x : Nat × Nat} (h : x.1 < 5 ∧ x.2 < 30) : Valid (need x).1 (need x).2 := by
  refine ⟨Or.inr (Or.inl ⟨rfl, _, _, rfl⟩), ?_⟩
  show fModule (mp x.1) (mv x.2) = none
  unfold fModule fPath fVer
  rw [mp_list, mv_list, mpath_ok h.1, mver_ok h.2]; rfl
theorem root_valid : Valid 123 [rootB] := ⟨Or.inl ⟨rfl, _, rfl⟩, by decide⟩
theorem mpath_less {q r : Nat} (hq : q < 5) (hr : r < 5) (h : q < r) : Lib.compareBytes (mpath q) (mpath r) = -1 := by
  have : ∀ a b : Fin 5, a.val < b.val → Lib.compareBytes (mpath a.val) (mpath b.val) = -1 := by decide
  exact this ⟨q, hq⟩ ⟨r, hr⟩ h
theorem need_less {x y : Nat × Nat} (hx : x.1 < 5) (hy : y.1 < 5) (h : x.1 < y.1) : ord (place (need x).1 (need x).2) (place (need y).1 (need y).2) = -1 := by
  have : Lib.compareBytes (mp x.1).data.toList (mp y.1).data.toList = -1 := by rw [mp_list, mp_list]; exact mpath_less hx hy h
  unfold ord thenC
  show (if Lib.compareInt 1 1 != 0 then Lib.compareInt 1 1 else if Lib.compareBytes (mp x.1).data.toList (mp y.1).data.toList != 0 then Lib.compareBytes (mp x.1).data.toList (mp y.1).data.toList else _) = -1
  rw [this]; rfl
theorem ord_anti {p q : Int × ByteArray × ByteArray} (h : ord p q = -1) : ¬ ord q p < 0 := by
  have := ord_pre.2.1 p q; omega
theorem rootL_order {l : List (Nat × Nat)} (h : Needs l) : InOrder (rootL l) := by
  unfold InOrder rootL
  rw [List.pairwise_cons]
  refine ⟨?_, ?_⟩
  · intro y hy
    obtain ⟨x, hx, rfl⟩ := List.mem_map.1 hy
    have := ord_rank (p := place 123 [rootB]) (q := place (need x).1 (need x).2) (by show (0 : Int) < 1; decide)
    have e := ord_pre.2.1 (place 123 [rootB]) (place (need x).1 (need x).2)
    show ¬ ord (place (need x).1 (need x).2) (place 123 [rootB]) < 0
    omega
  · rw [List.pairwise_map]
    refine List.Pairwise.imp_of_mem ?_ h.2
    intro a b ha hb hab
    exact ord_anti (need_less (h.1 a ha).1 (h.1 b hb).1 hab)
theorem rootL_valid {l : List (Nat × Nat)} (h : ∀ x ∈ l, x.1 < 5 ∧ x.2 < 30) : ∀ x ∈ rootL l, Valid x.1 x.2 := by
  intro x hx
  rcases List.mem_cons.1 hx with rfl | hx
  · exact root_valid
  · obtain ⟨y, hy, rfl⟩ := List.mem_map.1 hx
    exact need_valid (h y hy)
theorem rootL_whole {l : List (Nat × Nat)} (h : Needs l) : Whole (rootL l) := by
  refine ⟨rootL_valid h.1, ?_, ⟨rootB, _, rfl, fun x hx => ?_⟩⟩
  · unfold rootL
    rw [List.map_cons, List.nodup_cons]
    refine ⟨?_, ?_⟩
    · intro hm
      rw [List.map_map] at hm
      obtain ⟨x, _, hx⟩ := List.mem_map.1 hm
      have := congrArg Prod.fst hx
      exact absurd (show (1 : Int) = 0 from this) (by decide)
    · rw [List.map_map]
      unfold List.Nodup
      rw [List.pairwise_map]
      refine List.Pairwise.imp_of_mem ?_ h.2
      intro a b ha hb hab e
      have h1 := need_less (h.1 a ha).1 (h.1 b hb).1 hab
      have e' : place (need a).1 (need a).2 = place (need b).1 (need b).2 := e
      rw [e', ord_pre.refl] at h1
      cases h1
  · obtain ⟨y, _, rfl⟩ := List.mem_map.1 hx
    show 221 ≠ 123
    decide
/-- What is written of a root. -/
theorem rootL_text (l : List (Nat × Nat)) : textOf (rootL l) = [109, 111, 100, 117, 108, 101, 32, 114, 111, 111, 116, 10] ++ l.flatMap fun x => [114, 101, 113, 117, 105, 114, 101, 32] ++ mpath x.1 ++ [32] ++ mver x.2 ++ [10] := by
  unfold textOf rootL
  rw [List.flatMap_cons, List.flatMap_map]
  congr 1

/-- A need as it stands in the turned manifest's block. -/
def turnB (x : Nat × Nat) : List UInt8 := [9] ++ mpath x.1 ++ [32, 32] ++ mver x.2 ++ [47, 47, 122, 10, 10]
/-- The turned manifest. -/
def turned (l : List (Nat × Nat)) : List UInt8 := [47, 47, 32, 120, 10, 109, 111, 100, 117, 108, 101, 32, 9, 32, 114, 111, 111, 116, 32, 47, 47, 32, 121, 10, 114, 101, 113, 117, 105, 114, 101, 32, 40, 10] ++ l.flatMap turnB ++ [32, 41, 32]

theorem turn_toks {x : Nat × Nat} (h : x.1 < 5 ∧ x.2 < 30) : toks ⟨([9] ++ mpath x.1 ++ [32, 32] ++ mver x.2 ++ [47, 47, 122]).toArray⟩ = [mp x.1, mv x.2] := by
  have hp := path_named (mpath_ok h.1)
  have hv := ver_named (mver_ok h.2)
  unfold toks
  show texts (words (said ([9] ++ mpath x.1 ++ [32, 32] ++ mver x.2 ++ [47, 47, 122]).toArray.toList)) = _
  rw [List.toList_toArray]
  have e : [9] ++ mpath x.1 ++ [32, 32] ++ mver x.2 ++ [47, 47, 122] = (9 :: (mpath x.1 ++ 32 :: 32 :: mver x.2)) ++ 47 :: 47 :: [122] := by simp
  have c1 : clean (32 :: mver x.2) = true := by
    have := clean_blank [] (mver x.2) 32 (by decide) rfl hv.wordy.2.2
    simpa using this
  have c2 : clean (mpath x.1 ++ 32 :: 32 :: mver x.2) = true := clean_blank _ _ 32 (by decide) hp.wordy.2.2 c1
  have c3 : clean (9 :: (mpath x.1 ++ 32 :: 32 :: mver x.2)) = true := by
    have := clean_blank [] (mpath x.1 ++ 32 :: 32 :: mver x.2) 9 (by decide) rfl c2
    simpa using this
  have hl : (9 :: (mpath x.1 ++ 32 :: 32 :: mver x.2)).getLast? = (mver x.2).getLast? := by
    have hne := hv.wordy.1
    rw [show (9 :: (mpath x.1 ++ 32 :: 32 :: mver x.2)) = (9 :: mpath x.1 ++ [32, 32]) ++ mver x.2 by simp, List.getLast?_append]
    cases hm : (mver x.2).getLast? with
    | none => exact absurd (List.getLast?_eq_none_iff.1 hm) hne
    | some v => rfl
  rw [e, said_app _ _ c3 (by rw [hl]; exact hv.last), words_ahead _ (by decide), words_more _ hp.wordy.1 (fun b hb => (hp.wordy.2.1 b hb).1) (by decide), words_ahead _ (by decide), words_one hv.wordy.1 fun b hb => (hv.wordy.2.1 b hb).1]
  rfl
theorem turn_no10 {x : Nat × Nat} (h : x.1 < 5 ∧ x.2 < 30) (k : Nat) : ([9] ++ mpath x.1 ++ [32, 32] ++ mver x.2 ++ [47, 47, 122])[k]? ≠ some 10 := by
  have hp := path_named (mpath_ok h.1)
  have hv := ver_named (mver_ok h.2)
  intro e
  have hm := List.mem_of_getElem? e
  simp only [List.mem_append, List.mem_cons, List.not_mem_nil, or_false] at hm
  rcases hm with (((hm | hm) | (hm | hm)) | hm) | (hm | hm | hm)
  · exact absurd hm (by decide)
  · exact (hp.wordy.2.1 10 hm).2 rfl
  · exact absurd hm (by decide)
  · exact absurd hm (by decide)
  · exact (hv.wordy.2.1 10 hm).2 rfl
  · exact absurd hm (by decide)
  · exact absurd hm (by decide)
  · exact absurd hm (by decide)
theorem texts_cons (a : List UInt8) (l : List (List UInt8)) : texts (a :: l) = ⟨a.toArray⟩ :: texts l := rfl
/-- Statements of some needs, of every second line. -/
def numT : Nat → List (Nat × Nat) → List (Nat × Nat × List ByteArray)
  | _, [] => []
  | n, x :: xs => (n, need x) :: numT (n + 2) xs
theorem numT_lines : ∀ (n : Nat) (l : List (Nat × Nat)), (numT n l).map (·.2) = l.map need
  | _, [] => rfl
  | n, x :: xs => by rw [numT, List.map_cons, List.map_cons, numT_lines]
theorem turn_rest : ∀ (l : List (Nat × Nat)) (n : Nat) (acc : List (Nat × Nat × List ByteArray)), (∀ x ∈ l, x.1 < 5 ∧ x.2 < 30) → may 1 acc = true →
    parseGo n (texts (pieces 10 (l.flatMap turnB ++ [32, 41, 32]))) 2 2 acc = (acc ++ numT (n + 1) l, 0)
  | [], n, acc, _, hm => by
    show parseGo n [⟨#[32, 41, 32]⟩] 2 2 acc = (acc ++ [], 0)
    rw [parseGo, parseGo]
    have e : toks ⟨#[32, 41, 32]⟩ = [⟨#[41]⟩] := by decide
    have t : took (n + 1) [⟨#[41]⟩] 2 2 acc = (true, 1, 2, acc) := by
      rw [took_cons]
      have : fit [⟨#[41]⟩] [2] = true := by decide
      simp [tookIn, this]
    rw [e, t]
    simp [hm]
  | x :: xs, n, acc, h, hm => by
    have hx := h x (List.mem_cons_self ..)
    have e : (x :: xs).flatMap turnB ++ [32, 41, 32] = ([9] ++ mpath x.1 ++ [32, 32] ++ mver x.2 ++ [47, 47, 122]) ++ 10 :: ([] ++ 10 :: (xs.flatMap turnB ++ [32, 41, 32])) := by
      rw [List.flatMap_cons]; simp [turnB]
    rw [e, pieces_app 10 _ _ (turn_no10 hx), pieces_app 10 [] _ (by simp)]
    rw [texts_cons, texts_cons]
    have t : took (n + 1) [mp x.1, mv x.2] 2 2 acc = (true, 2, 2, acc ++ [(n + 1, need x)]) := by
      have k1 := (path_named (mpath_ok hx.1)).kind
      have k2 := (ver_named (mver_ok hx.2)).kind
      rw [← mp_list] at k1
      rw [← mv_list] at k2
      have f : fit [mp x.1, mv x.2] [2] = false := by unfold fit; simp
      have g : fit [mp x.1, mv x.2] [0, 0] = true := by unfold fit; simp [k1, k2]
      have m : meaning 2 [mp x.1, mv x.2] = some (221, [mp x.1, mv x.2]) := by unfold meaning; rw [g]; rfl
      rw [took_cons]
      simp [tookIn, f, added, m, need]
    have t2 : took (n + 1 + 1) (toks ⟨#[]⟩) 2 2 (acc ++ [(n + 1, need x)]) = (true, 2, 2, acc ++ [(n + 1, need x)]) := rfl
    rw [parseGo, turn_toks hx, t]
    simp only [if_true]
    rw [parseGo, t2]
    simp only [if_true]
    rw [turn_rest xs (n + 1 + 1) (acc ++ [(n + 1, need x)]) (fun y hy => h y (List.mem_cons_of_mem _ hy))]
    · rw [List.append_assoc]; rfl
    · cases acc with
      | nil => cases hm
      | cons y ys => exact hm
/-- The turned manifest is read as the same lines, the needs as they stand. -/
theorem turn_parse (l : List (Nat × Nat)) (h : ∀ x ∈ l, x.1 < 5 ∧ x.2 < 30) : parse ⟨(turned l).toArray⟩ = ((2, 123, [rootB]) :: numT 4 l, 0) := by
  unfold parse lines
  show parseGo 0 (texts (pieces 10 (turned l).toArray.toList)) 0 0 [] = _
  rw [List.toList_toArray]
  have e : turned l = [47, 47, 32, 120] ++ 10 :: ([109, 111, 100, 117, 108, 101, 32, 9, 32, 114, 111, 111, 116, 32, 47, 47, 32, 121] ++ 10 :: ([114, 101, 113, 117, 105, 114, 101, 32, 40] ++ 10 :: (l.flatMap turnB ++ [32, 41, 32]))) := by
    unfold turned; simp
  have n1 : ∀ k : Nat, ([47, 47, 32, 120] : List UInt8)[k]? ≠ some 10 := fun k h => absurd (List.mem_of_getElem? h) (by decide)
  have n2 : ∀ k : Nat, ([109, 111, 100, 117, 108, 101, 32, 9, 32, 114, 111, 111, 116, 32, 47, 47, 32, 121] : List UInt8)[k]? ≠ some 10 := fun k h => absurd (List.mem_of_getElem? h) (by decide)
  have n3 : ∀ k : Nat, ([114, 101, 113, 117, 105, 114, 101, 32, 40] : List UInt8)[k]? ≠ some 10 := fun k h => absurd (List.mem_of_getElem? h) (by decide)
  rw [e, pieces_app 10 _ _ n1, pieces_app 10 _ _ n2, pieces_app 10 _ _ n3]
  show parseGo 0 (⟨#[47, 47, 32, 120]⟩ :: ⟨#[109, 111, 100, 117, 108, 101, 32, 9, 32, 114, 111, 111, 116, 32, 47, 47, 32, 121]⟩ :: ⟨#[114, 101, 113, 117, 105, 114, 101, 32, 40]⟩ :: texts (pieces 10 (l.flatMap turnB ++ [32, 41, 32]))) 0 0 [] = _
  have t1 : took 1 (toks ⟨#[47, 47, 32, 120]⟩) 0 0 [] = (true, 0, 0, []) := by rfl
  have t2 : took 2 (toks ⟨#[109, 111, 100, 117, 108, 101, 32, 9, 32, 114, 111, 111, 116, 32, 47, 47, 32, 121]⟩) 0 0 [] = (true, 1, 0, [(2, 123, [rootB])]) := by rfl
  have t3 : took 3 (toks ⟨#[114, 101, 113, 117, 105, 114, 101, 32, 40]⟩) 1 0 [(2, 123, [rootB])] = (true, 2, 2, [(2, 123, [rootB])]) := by rfl
  rw [parseGo, t1]
  simp only [if_true]
  rw [parseGo, t2]
  simp only [if_true]
  rw [parseGo, t3]
  simp only [if_true]
  rw [turn_rest l 3 _ h rfl]; rfl
theorem turn_fine {l : List (Nat × Nat)} (h : Needs l) : (parse ⟨(turned l.reverse).toArray⟩).2 = 0 ∧ checkGo (parse ⟨(turned l.reverse).toArray⟩).1 [] = none ∧ (rootL l).Perm ((parse ⟨(turned l.reverse).toArray⟩).1.map (·.2)) := by
  have hr : ∀ x ∈ l.reverse, x.1 < 5 ∧ x.2 < 30 := fun x hx => h.1 x (List.mem_reverse.1 hx)
  have e := turn_parse l.reverse hr
  have hm : ((2, 123, [rootB]) :: numT 4 l.reverse).map (·.2) = (123, [rootB]) :: (l.reverse.map need) := by
    rw [List.map_cons, numT_lines]
  have hp : (rootL l).Perm ((123, [rootB]) :: (l.reverse.map need)) := by
    unfold rootL
    exact List.Perm.cons _ ((List.reverse_perm l).symm.map need)
  rw [e]
  refine ⟨rfl, ?_, by rw [hm]; exact hp⟩
  have hw := rootL_whole h
  rw [checkGo_none]
  refine ⟨?_, ?_, fun _ _ _ hy => absurd hy (List.not_mem_nil)⟩
  · intro x hx
    have : x.2 ∈ ((123, [rootB]) :: (l.reverse.map need) : List (Nat × List ByteArray)) := by rw [← hm]; exact List.mem_map.2 ⟨x, hx, rfl⟩
    exact (hw.valid _ (hp.mem_iff.2 this)).2
  · have e2 : (((2, 123, [rootB]) :: numT 4 l.reverse).map fun x => place x.2.1 x.2.2) = ((123, [rootB]) :: (l.reverse.map need) : List (Nat × List ByteArray)).map fun x => place x.1 x.2 := by
      conv => rhs; rw [← hm]
      rw [List.map_map]; rfl
    rw [e2]; exact (hp.map _).nodup_iff.1 hw.nodup
/-- Whatever is sorted of it, it is the root as it is written. -/
theorem turn_again {l : List (Nat × Nat)} {r : List (Nat × List ByteArray)} (h : Needs l) (hp : r.Perm ((parse ⟨(turned l.reverse).toArray⟩).1.map (·.2))) (hr : InOrder r) : r = rootL l :=
  (inOrder_unique ((turn_fine h).2.2.trans hp.symm) (rootL_whole h).valid (rootL_whole h).nodup (rootL_order h) hr).symm

end V
end Go.Proofs.YtcfhleenecfghaaGreatDoor
