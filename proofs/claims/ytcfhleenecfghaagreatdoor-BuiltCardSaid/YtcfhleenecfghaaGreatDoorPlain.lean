/- The plain functions on lists of bytes that say what a version is and how two versions are ordered, and their laws; nothing of the program is named here. -/
import Derived.Lib.Split
import Derived.Lib.Bytealg
import Derived.Lib.IndexBytes
import Derived.Lib.Strings
namespace Go.Proofs.YtcfhleenecfghaaGreatDoor
namespace V

def isDig (b : UInt8) : Bool := decide (48 ≤ b.toNat) && decide (b.toNat ≤ 57)
def isLet (b : UInt8) : Bool := (decide (97 ≤ b.toNat) && decide (b.toNat ≤ 122)) || (decide (65 ≤ b.toNat) && decide (b.toNat ≤ 90))
def digits (l : List UInt8) : Bool := l.all isDig && !l.isEmpty
def number (l : List UInt8) : Bool := digits l && (l == [48] || l.head? != some 48)
def markByte (b : UInt8) : Bool := isDig b || isLet b || b == 45
def mark (l : List UInt8) : Bool := if digits l then number l else l.all markByte && !l.isEmpty

/-- A text cut at each byte c. -/
def pieces (c : UInt8) : List UInt8 → List (List UInt8)
  | [] => [[]]
  | b :: r => if b == c then [] :: pieces c r else (b :: (pieces c r).headD []) :: (pieces c r).tail

/-- The numbers and the marks of a text. -/
def parts (s : List UInt8) : List (List UInt8) × List (List UInt8) :=
  (pieces 46 (Lib.cut (Lib.trimPrefix s [118]) [45]).1, if (Lib.cut (Lib.trimPrefix s [118]) [45]).2.2 then pieces 46 (Lib.cut (Lib.trimPrefix s [118]) [45]).2.1 else [])

def ver (s : List UInt8) : Bool :=
  decide (s.length ≤ 40) && (Lib.hasPrefix s [118] && ((parts s).1.length == 3 && (parts s).1.all number && (parts s).2.all mark))

def cmpInt (a b : Nat) : Int := if a < b then -1 else if b < a then 1 else 0
def cmpNum (a b : List UInt8) : Int := if cmpInt a.length b.length != 0 then cmpInt a.length b.length else Lib.compareBytes a b
def cmpMark (a b : List UInt8) : Int :=
  if digits a then (if digits b then cmpNum a b else -1) else if digits b then 1 else Lib.compareBytes a b

def lex (f : List UInt8 → List UInt8 → Int) : List (List UInt8) → List (List UInt8) → Int
  | [], [] => 0
  | [], _ :: _ => -1
  | _ :: _, [] => 1
  | a :: as, b :: bs => if f a b != 0 then f a b else lex f as bs

def order (a b : List UInt8) : Int :=
  if lex cmpNum (parts a).1 (parts b).1 != 0 then lex cmpNum (parts a).1 (parts b).1
  else if (parts a).2.isEmpty || (parts b).2.isEmpty then cmpInt (parts b).2.length (parts a).2.length
  else lex cmpMark (parts a).2 (parts b).2

theorem pieces_ne (c : UInt8) (l : List UInt8) : pieces c l ≠ [] := by
  cases l with
  | nil => simp [pieces]
  | cons b r => unfold pieces; split <;> simp

theorem pieces_none (c : UInt8) : ∀ (l : List UInt8), (∀ k : Nat, l[k]? ≠ some c) → pieces c l = [l]
  | [], _ => rfl
  | b :: r, h => by
    have hb : ¬ (b == c) = true := fun e => h 0 (by simp [eq_of_beq e])
    have hr : pieces c r = [r] := pieces_none c r (fun k => by have := h (k + 1); simpa using this)
    rw [pieces, if_neg hb, hr]; rfl

theorem pieces_some (c : UInt8) : ∀ (l : List UInt8) (o : Nat), l[o]? = some c → (∀ k : Nat, k < o → l[k]? ≠ some c) → pieces c l = l.take o :: pieces c (l.drop (o + 1))
  | [], o, h, _ => by simp at h
  | b :: r, 0, h, _ => by
    have hb : (b == c) = true := by simpa using h
    rw [pieces, if_pos hb]; simp
  | b :: r, o + 1, h, hk => by
    have hb : ¬ (b == c) = true := fun e => hk 0 (by omega) (by simp [eq_of_beq e])
    have hr := pieces_some c r o (by simpa using h) (fun k hlt => by have := hk (k + 1) (by omega); simpa using this)
    rw [pieces, if_neg hb, hr]
    simp

/-- What strings.Split gives at one byte. -/
theorem splitK_pieces (c : UInt8) : ∀ (n : Nat) (l : List UInt8), Lib.count l [c] ≤ n → Lib.splitK [c] 0 n l = pieces c l
  | 0, l, h => by
    have hi : Lib.index l [c] = -1 := by
      rcases Lib.index_spec l [c] with ⟨h1, _⟩ | ⟨i, h1, _⟩
      · exact h1
      · have := Lib.count_hit (sub := [c]) (by simp) h1; omega
    rw [Lib.index_one] at hi
    rw [pieces_none c l (Lib.indexByte_none hi)]; rfl
  | n + 1, l, h => by
    rcases Lib.index_spec l [c] with ⟨h1, _⟩ | ⟨i, h1, _⟩
    · have hi := h1
      rw [Lib.index_one] at hi
      rw [pieces_none c l (Lib.indexByte_none hi)]
      unfold Lib.splitK
      rw [if_pos (beq_iff_eq.2 h1)]
    · have hi := h1
      rw [Lib.index_one] at hi
      obtain ⟨ho, hk⟩ := Lib.indexByte_some hi
      have hc := Lib.count_hit (sub := [c]) (by simp) h1
      have hm : ¬ (Lib.index l [c] == -1) = true := fun e => by have := beq_iff_eq.1 e; omega
      have e : (Lib.index l [c]).toNat = i := by omega
      rw [pieces_some c l i ho hk]
      unfold Lib.splitK
      rw [if_neg hm, e]
      have hlen : ([c] : List UInt8).length = 1 := rfl
      rw [hlen] at hc ⊢
      rw [splitK_pieces c n _ (by omega)]
      simp

theorem splitB_pieces (s sep : ByteArray) (c : UInt8) (h : sep.data.toList = [c]) : (Lib.splitB sep 0 (Lib.countB s sep) s).map (·.data.toList) = pieces c s.data.toList := by
  rw [Lib.splitB_data, h]
  exact splitK_pieces c _ _ (by show Lib.count _ sep.data.toList ≥ _; rw [h]; exact Nat.le_refl _)

theorem digits_not (l : List UInt8) (k : Nat) (h : k < l.length) (hd : isDig l[k] = false) : digits l = false := by
  unfold digits
  have : l.all isDig = false := by
    rw [List.all_eq_false]
    exact ⟨l[k], List.getElem_mem h, by simp [hd]⟩
  rw [this]; rfl
theorem digits_ne {l : List UInt8} (h : digits l = true) : l ≠ [] := by
  intro e; subst e; simp [digits] at h

/-- Is a byte one of some? -/
def has (l : List UInt8) (c : UInt8) : Bool := l.contains c
theorem has_snoc (l : List UInt8) (c b : UInt8) : has (l ++ [b]) c = (has l c || c == b) := by
  unfold has; rw [List.contains_eq_any_beq, List.any_append, ← List.contains_eq_any_beq]; simp
theorem has_at (l : List UInt8) (k : Nat) (h : k < l.length) : has l l[k] = true := by
  unfold has; simp
/-- Is a text of some bytes alone, and of one at least? -/
def only (l bs : List UInt8) : Bool := l.all (fun b => has bs b) && !l.isEmpty
theorem only_not (l bs : List UInt8) (k : Nat) (h : k < l.length) (hd : has bs l[k] = false) : only l bs = false := by
  unfold only
  have : l.all (fun b => has bs b) = false := by
    rw [List.all_eq_false]
    exact ⟨l[k], List.getElem_mem h, by rw [hd]; simp⟩
  rw [this]; rfl
def digs : List UInt8 := [48, 49, 50, 51, 52, 53, 54, 55, 56, 57]
def marks : List UInt8 := [48, 49, 50, 51, 52, 53, 54, 55, 56, 57, 97, 98, 99, 100, 101, 102, 103, 104, 105, 106, 107, 108, 109, 110, 111, 112, 113, 114, 115, 116, 117, 118, 119, 120, 121, 122, 65, 66, 67, 68, 69, 70, 71, 72, 73, 74, 75, 76, 77, 78, 79, 80, 81, 82, 83, 84, 85, 86, 87, 88, 89, 90, 45]
theorem byte_all {p q : UInt8 → Bool} (h : ∀ n : Fin 256, p (UInt8.ofNat n.val) = q (UInt8.ofNat n.val)) (b : UInt8) : p b = q b := by
  have := h ⟨b.toNat, b.toNat_lt⟩
  simpa using this
theorem digs_eq (b : UInt8) : has digs b = isDig b := byte_all (p := fun b => has digs b) (q := isDig) (by decide +kernel) b
set_option maxRecDepth 100000 in
theorem marks_eq (b : UInt8) : has marks b = markByte b := byte_all (p := fun b => has marks b) (q := markByte) (by decide +kernel) b
theorem only_digs (l : List UInt8) : only l digs = digits l := by
  unfold only digits
  rw [show (fun b => has digs b) = isDig from funext digs_eq]
theorem only_marks (l : List UInt8) : only l marks = (l.all markByte && !l.isEmpty) := by
  unfold only
  rw [show (fun b => has marks b) = markByte from funext marks_eq]
theorem mark_only (l : List UInt8) : mark l = (only l marks && (!digits l || number l)) := by
  unfold mark
  rw [only_marks]
  cases hd : digits l
  · simp
  · have h : l.all markByte = true := by
      have h1 : l.all isDig = true := by unfold digits at hd; simp at hd; simpa using hd.1
      rw [List.all_eq_true] at h1 ⊢
      intro x hx
      simp [markByte, h1 x hx]
    have h2 : l.isEmpty = false := by have := digits_ne hd; simpa using this
    simp [h, h2]
theorem compare_less : ∀ (x y : List UInt8), Lib.compareBytes x y = if Op.bytesLess x y then -1 else if !(Op.bytesLess x y || x == y) then 1 else 0
  | [], [] => by simp [Lib.compareBytes, Op.bytesLess]
  | [], _ :: _ => by simp [Lib.compareBytes, Op.bytesLess]
  | _ :: _, [] => by simp [Lib.compareBytes, Op.bytesLess]
  | a :: as, b :: bs => by
    have ih := compare_less as bs
    rw [Lib.compareBytes, Op.bytesLess, ih]
    by_cases h1 : a < b
    · simp [h1]
    · by_cases h2 : a = b
      · subst h2; simp
      · have h3 : b < a := by
          rw [UInt8.lt_iff_toNat_lt] at h1 ⊢
          have : a.toNat ≠ b.toNat := fun e => h2 (UInt8.toNat_inj.1 e)
          omega
        simp [h1, h2, h3]

theorem getD_at {α : Type} (l : List α) (d : α) {k : Nat} (h : k < l.length) : l.getD k d = l[k] := by
  rw [List.getD_eq_getElem?_getD, List.getElem?_eq_getElem h]; rfl
/-- Do all of some texts hold? -/
def allOf (p : List UInt8 → Bool) (ls : List ByteArray) : Bool := ls.all fun x => p x.data.toList
theorem allOf_snoc (p : List UInt8 → Bool) (ls : List ByteArray) (k : Nat) (h : k < ls.length) (h1 : allOf p (ls.take k) = true) (h2 : p (ls.getD k ByteArray.empty).data.toList = true) : allOf p (ls.take (k + 1)) = true := by
  unfold allOf at *
  rw [List.take_succ_eq_append_getElem h, List.all_append, h1]
  rw [getD_at _ _ h] at h2
  simp [h2]
theorem allOf_not (p : List UInt8 → Bool) (ls : List ByteArray) (k : Nat) (h : k < ls.length) (h2 : p (ls.getD k ByteArray.empty).data.toList = false) : allOf p ls = false := by
  unfold allOf
  rw [getD_at _ _ h] at h2
  rw [List.all_eq_false]
  exact ⟨ls[k], List.getElem_mem h, by rw [h2]; simp⟩
theorem allOf_map (p : List UInt8 → Bool) (ls : List ByteArray) : allOf p ls = (ls.map (·.data.toList)).all p := by
  unfold allOf; rw [List.all_map]; rfl

/-- The order of two lists of texts. -/
def lexB (f : List UInt8 → List UInt8 → Int) (l1 l2 : List ByteArray) : Int := lex f (l1.map (·.data.toList)) (l2.map (·.data.toList))
theorem drop_at {α : Type} (l : List α) (k : Nat) (h : k < l.length) : l.drop k = l[k] :: l.drop (k + 1) := List.drop_eq_getElem_cons h
theorem lexB_step (f : List UInt8 → List UInt8 → Int) (l1 l2 : List ByteArray) (k : Nat) (h1 : k < l1.length) (h2 : k < l2.length) (h : (f (l1.getD k ByteArray.empty).data.toList (l2.getD k ByteArray.empty).data.toList != 0) = false) : lexB f (l1.drop k) (l2.drop k) = lexB f (l1.drop (k + 1)) (l2.drop (k + 1)) := by
  rw [getD_at _ _ h1, getD_at _ _ h2] at h
  unfold lexB
  rw [drop_at l1 k h1, drop_at l2 k h2, List.map_cons, List.map_cons, lex, if_neg (by rw [h]; simp)]
theorem lexB_hit (f : List UInt8 → List UInt8 → Int) (l1 l2 : List ByteArray) (k : Nat) (h1 : k < l1.length) (h2 : k < l2.length) (h : (f (l1.getD k ByteArray.empty).data.toList (l2.getD k ByteArray.empty).data.toList != 0) = true) : lexB f (l1.drop k) (l2.drop k) = f (l1.getD k ByteArray.empty).data.toList (l2.getD k ByteArray.empty).data.toList := by
  rw [getD_at _ _ h1, getD_at _ _ h2] at h
  rw [getD_at _ _ h1, getD_at _ _ h2]
  unfold lexB
  rw [drop_at l1 k h1, drop_at l2 k h2, List.map_cons, List.map_cons, lex, if_pos h]
theorem lexB_over (f : List UInt8 → List UInt8 → Int) (l1 l2 : List ByteArray) (k : Nat) (h1 : k < l1.length) (h2 : l2.length ≤ k) : lexB f (l1.drop k) (l2.drop k) = 1 := by
  unfold lexB
  rw [drop_at l1 k h1, List.drop_eq_nil_of_le h2]; rfl
theorem lexB_less (f : List UInt8 → List UInt8 → Int) (l1 l2 : List ByteArray) (k : Nat) (h1 : l1.length ≤ k) (h2 : k < l2.length) : lexB f (l1.drop k) (l2.drop k) = -1 := by
  unfold lexB
  rw [drop_at l2 k h2, List.drop_eq_nil_of_le h1]; rfl
theorem lexB_same (f : List UInt8 → List UInt8 → Int) (l1 l2 : List ByteArray) (k : Nat) (h1 : l1.length ≤ k) (h2 : l2.length ≤ k) : lexB f (l1.drop k) (l2.drop k) = 0 := by
  unfold lexB
  rw [List.drop_eq_nil_of_le h1, List.drop_eq_nil_of_le h2]; rfl

theorem pieces_len (c : UInt8) : ∀ (l : List UInt8), ∀ q ∈ pieces c l, q.length ≤ l.length
  | [], q, h => by simp [pieces] at h; subst h; simp
  | b :: r, q, h => by
    have ih := pieces_len c r
    rw [pieces] at h
    split at h
    · rcases List.mem_cons.1 h with h | h
      · subst h; simp
      · have := ih q h; simp; omega
    · rcases List.mem_cons.1 h with h | h
      · subst h
        have hne := pieces_ne c r
        cases hp : pieces c r with
        | nil => exact absurd hp hne
        | cons x xs => have := ih x (by rw [hp]; simp); simp; omega
      · have := ih q (List.mem_of_mem_tail h); simp; omega

theorem trim_le {s t : ByteArray} {p : List UInt8} {n : Nat} (h : t.data.toList = Lib.trimPrefix s.data.toList p) (hs : s.size ≤ n) : t.size ≤ n := by
  have e1 : t.data.toList.length = t.size := by simp
  have e2 : s.data.toList.length = s.size := by simp
  rw [← e1, h]
  unfold Lib.trimPrefix
  split
  · rw [List.length_drop]; omega
  · omega
theorem cut_le {t x y : ByteArray} {p : List UInt8} {n : Nat} (hx : x.data.toList = (Lib.cut t.data.toList p).1) (hy : y.data.toList = (Lib.cut t.data.toList p).2.1) (hs : t.size ≤ n) : x.size ≤ n ∧ y.size ≤ n := by
  have e1 : x.data.toList.length = x.size := by simp
  have e2 : y.data.toList.length = y.size := by simp
  have e3 : t.data.toList.length = t.size := by simp
  rw [← e1, ← e2, hx, hy]
  unfold Lib.cut
  split
  · constructor
    · have := List.length_take_le (Lib.index t.data.toList p).toNat t.data.toList; simp only [List.length_take]; omega
    · simp only [List.length_drop]; omega
  · simp only [List.length_nil]; omega

end V
end Go.Proofs.YtcfhleenecfghaaGreatDoor
