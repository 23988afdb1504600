/- The order of versions is a total order: turned round it is the other way round, it is transitive, and two versions of one order are one text; decimal numerals are in the order of their numbers; nothing of the program is named here. -/
import Derived.Test.YtcfhleenecfghaaGreatDoorPlan2
namespace Go.Proofs.YtcfhleenecfghaaGreatDoor
namespace V

/-- A comparison that is one of a total order but that may take two for one. -/
def Pre {α : Type} (f : α → α → Int) : Prop :=
  (∀ x y, f x y = -1 ∨ f x y = 0 ∨ f x y = 1) ∧ (∀ x y, f y x = - f x y) ∧ (∀ x y z, f x y ≤ 0 → f y z ≤ 0 → f x z ≤ 0)
/-- .. and that takes no two for one. -/
def Good {α : Type} (f : α → α → Int) : Prop := Pre f ∧ ∀ x y, f x y = 0 → x = y
def thenC {α : Type} (f g : α → α → Int) (x y : α) : Int := if f x y != 0 then f x y else g x y

theorem Pre.refl {α : Type} {f : α → α → Int} (h : Pre f) (x : α) : f x x = 0 := by
  have := h.2.1 x x; omega
theorem Pre.back {α : Type} {β : Type} {f : α → α → Int} (h : Pre f) (p : β → α) : Pre (fun x y => f (p x) (p y)) :=
  ⟨fun _ _ => h.1 _ _, fun _ _ => h.2.1 _ _, fun _ _ _ => h.2.2 _ _ _⟩
theorem then_cases {α : Type} (f g : α → α → Int) (x y : α) : (f x y ≠ 0 ∧ thenC f g x y = f x y) ∨ (f x y = 0 ∧ thenC f g x y = g x y) := by
  unfold thenC
  by_cases h : f x y = 0
  · exact Or.inr ⟨h, by rw [h]; rfl⟩
  · exact Or.inl ⟨h, by rw [if_pos (bne_iff_ne.2 h)]⟩
theorem Pre.then {α : Type} {f g : α → α → Int} (hf : Pre f) (hg : Pre g) : Pre (thenC f g) := by
  refine ⟨fun x y => ?_, fun x y => ?_, fun x y z h1 h2 => ?_⟩
  · rcases then_cases f g x y with ⟨_, e⟩ | ⟨_, e⟩ <;> rw [e]
    · exact hf.1 x y
    · exact hg.1 x y
  · have a := hf.2.1 x y
    rcases then_cases f g x y with ⟨h, e⟩ | ⟨h, e⟩ <;> rcases then_cases f g y x with ⟨h', e'⟩ | ⟨h', e'⟩ <;> rw [e, e']
    · exact a
    · omega
    · omega
    · exact hg.2.1 x y
  · have f1 : f x y ≤ 0 := by rcases then_cases f g x y with ⟨h, e⟩ | ⟨h, e⟩ <;> omega
    have f2 : f y z ≤ 0 := by rcases then_cases f g y z with ⟨h, e⟩ | ⟨h, e⟩ <;> omega
    have f3 := hf.2.2 x y z f1 f2
    rcases then_cases f g x z with ⟨h, e⟩ | ⟨h, e⟩
    · omega
    · have r1 := hf.2.1 x z
      have r2 := hf.2.2 z x y (by omega) f1
      have r3 := hf.2.1 z y
      have z2 : f y z = 0 := by omega
      have r4 := hf.2.2 y z x f2 (by omega)
      have r5 := hf.2.1 y x
      have z1 : f x y = 0 := by omega
      rcases then_cases f g x y with ⟨h', _⟩ | ⟨_, e1⟩
      · exact absurd z1 h'
      rcases then_cases f g y z with ⟨h', _⟩ | ⟨_, e2⟩
      · exact absurd z2 h'
      rw [e]
      exact hg.2.2 x y z (by omega) (by omega)
theorem Good.then {α : Type} {f g : α → α → Int} (hf : Pre f) (hg : Good g) : Good (thenC f g) :=
  ⟨hf.then hg.1, fun x y h => by
    rcases then_cases f g x y with ⟨h', e⟩ | ⟨_, e⟩
    · omega
    · exact hg.2 x y (by omega)⟩
theorem cmpInt_pre : Pre cmpInt := by
  refine ⟨fun x y => ?_, fun x y => ?_, fun x y z => ?_⟩
  · unfold cmpInt; split
    · exact Or.inl rfl
    · split
      · exact Or.inr (Or.inr rfl)
      · exact Or.inr (Or.inl rfl)
  · unfold cmpInt
    by_cases h1 : x < y
    · rw [if_neg (by omega), if_pos h1, if_pos h1]; rfl
    · by_cases h2 : y < x
      · rw [if_pos h2, if_neg h1, if_pos h2]
      · rw [if_neg h2, if_neg h1, if_neg h1, if_neg h2]; rfl
  · unfold cmpInt
    intro h1 h2
    have a : x ≤ y := by
      by_cases h : y < x
      · rw [if_neg (by omega), if_pos h] at h1; omega
      · omega
    have b : y ≤ z := by
      by_cases h : z < y
      · rw [if_neg (by omega), if_pos h] at h2; omega
      · omega
    by_cases h : x < z
    · rw [if_pos h]; omega
    · rw [if_neg h, if_neg (by omega)]; omega
theorem cmpInt_good : Good cmpInt := ⟨cmpInt_pre, fun x y h => by
  unfold cmpInt at h
  by_cases h1 : x < y
  · rw [if_pos h1] at h; omega
  · by_cases h2 : y < x
    · rw [if_neg h1, if_pos h2] at h; omega
    · omega⟩

/-- Two lists, element by element. -/
def lexG {α : Type} (f : α → α → Int) : List α → List α → Int
  | [], [] => 0
  | [], _ :: _ => -1
  | _ :: _, [] => 1
  | a :: as, b :: bs => if f a b != 0 then f a b else lexG f as bs
theorem lexG_cons {α : Type} (f : α → α → Int) (a b : α) (as bs : List α) : (f a b ≠ 0 ∧ lexG f (a :: as) (b :: bs) = f a b) ∨ (f a b = 0 ∧ lexG f (a :: as) (b :: bs) = lexG f as bs) := by
  by_cases h : f a b = 0
  · exact Or.inr ⟨h, by rw [lexG, h]; rfl⟩
  · exact Or.inl ⟨h, by rw [lexG, if_pos (bne_iff_ne.2 h)]⟩
theorem lexG_good {α : Type} {f : α → α → Int} (hf : Good f) : Good (lexG f) := by
  have r : ∀ x : List α, ∀ y, lexG f x y = -1 ∨ lexG f x y = 0 ∨ lexG f x y = 1 := by
    intro x
    induction x with
    | nil => intro y; cases y <;> simp [lexG]
    | cons a as ih =>
      intro y
      cases y with
      | nil => simp [lexG]
      | cons b bs =>
        rcases lexG_cons f a b as bs with ⟨_, e⟩ | ⟨_, e⟩ <;> rw [e]
        · exact hf.1.1 a b
        · exact ih bs
  have s : ∀ x : List α, ∀ y, lexG f y x = - lexG f x y := by
    intro x
    induction x with
    | nil => intro y; cases y <;> simp [lexG]
    | cons a as ih =>
      intro y
      cases y with
      | nil => simp [lexG]
      | cons b bs =>
        have q := hf.1.2.1 a b
        rcases lexG_cons f a b as bs with ⟨h, e⟩ | ⟨h, e⟩ <;> rcases lexG_cons f b a bs as with ⟨h', e'⟩ | ⟨h', e'⟩ <;> rw [e, e']
        · exact q
        · omega
        · omega
        · exact ih bs
  have t : ∀ x : List α, ∀ y z, lexG f x y ≤ 0 → lexG f y z ≤ 0 → lexG f x z ≤ 0 := by
    intro x
    induction x with
    | nil => intro y z _ _; cases z <;> simp [lexG]
    | cons a as ih =>
      intro y z h1 h2
      cases y with
      | nil => simp [lexG] at h1
      | cons b bs =>
        cases z with
        | nil => simp [lexG] at h2
        | cons c cs =>
          have f1 : f a b ≤ 0 := by rcases lexG_cons f a b as bs with ⟨h, e⟩ | ⟨h, e⟩ <;> omega
          have f2 : f b c ≤ 0 := by rcases lexG_cons f b c bs cs with ⟨h, e⟩ | ⟨h, e⟩ <;> omega
          have f3 := hf.1.2.2 a b c f1 f2
          rcases lexG_cons f a c as cs with ⟨h, e⟩ | ⟨h, e⟩
          · omega
          · have r1 := hf.1.2.1 a c
            have r2 := hf.1.2.2 c a b (by omega) f1
            have r3 := hf.1.2.1 c b
            have z2 : f b c = 0 := by omega
            have r4 := hf.1.2.2 b c a f2 (by omega)
            have r5 := hf.1.2.1 b a
            have z1 : f a b = 0 := by omega
            rcases lexG_cons f a b as bs with ⟨h', _⟩ | ⟨_, e1⟩
            · exact absurd z1 h'
            rcases lexG_cons f b c bs cs with ⟨h', _⟩ | ⟨_, e2⟩
            · exact absurd z2 h'
            rw [e]
            exact ih bs cs (by omega) (by omega)
  refine ⟨⟨r, s, t⟩, ?_⟩
  intro x
  induction x with
  | nil => intro y h; cases y <;> simp [lexG] at h ⊢
  | cons a as ih =>
    intro y h
    cases y with
    | nil => simp [lexG] at h
    | cons b bs =>
      rcases lexG_cons f a b as bs with ⟨h', e⟩ | ⟨h', e⟩
      · omega
      · rw [hf.2 a b h', ih bs (by omega)]

def cmpByte (a b : UInt8) : Int := cmpInt a.toNat b.toNat
theorem cmpByte_good : Good cmpByte := ⟨cmpInt_pre.back _, fun _ _ h => UInt8.toNat_inj.1 (cmpInt_good.2 _ _ h)⟩
theorem compare_lex : ∀ (x y : List UInt8), Lib.compareBytes x y = lexG cmpByte x y
  | [], [] => rfl
  | [], _ :: _ => rfl
  | _ :: _, [] => rfl
  | a :: as, b :: bs => by
    have ih := compare_lex as bs
    rw [Lib.compareBytes, lexG, ih]
    unfold cmpByte cmpInt
    by_cases h1 : a < b
    · have h1' : a.toNat < b.toNat := UInt8.lt_iff_toNat_lt.1 h1
      rw [if_pos h1, if_pos h1']; rfl
    · have h1' : ¬ a.toNat < b.toNat := fun h => h1 (UInt8.lt_iff_toNat_lt.2 h)
      by_cases h2 : b < a
      · have h2' : b.toNat < a.toNat := UInt8.lt_iff_toNat_lt.1 h2
        rw [if_neg h1, if_pos h2, if_neg h1', if_pos h2']; rfl
      · have h2' : ¬ b.toNat < a.toNat := fun h => h2 (UInt8.lt_iff_toNat_lt.2 h)
        rw [if_neg h1, if_neg h2, if_neg h1', if_neg h2']; rfl
theorem compare_good : Good Lib.compareBytes := by
  rw [show Lib.compareBytes = lexG cmpByte from funext fun x => funext fun y => compare_lex x y]
  exact lexG_good cmpByte_good
theorem cmpNum_good : Good cmpNum := Good.then (cmpInt_pre.back List.length) compare_good
theorem cmpMark_eq (a b : List UInt8) : cmpMark a b = thenC (fun x y => cmpInt (if digits x then 0 else 1) (if digits y then 0 else 1)) (thenC (fun x y => cmpInt (if digits x then x.length else 0) (if digits y then y.length else 0)) Lib.compareBytes) a b := by
  unfold cmpMark thenC
  cases h1 : digits a <;> cases h2 : digits b <;> simp [cmpInt, cmpNum, h1, h2]
theorem cmpMark_good : Good cmpMark := by
  rw [show cmpMark = thenC _ (thenC _ Lib.compareBytes) from funext fun x => funext fun y => cmpMark_eq x y]
  exact Good.then (cmpInt_pre.back (fun x : List UInt8 => if digits x then 0 else 1)) (Good.then (cmpInt_pre.back (fun x : List UInt8 => if digits x then x.length else 0)) compare_good)
theorem lex_eq (f : List UInt8 → List UInt8 → Int) : ∀ (x y : List (List UInt8)), lex f x y = lexG f x y
  | [], [] => rfl
  | [], _ :: _ => rfl
  | _ :: _, [] => rfl
  | a :: as, b :: bs => by rw [lex, lexG, lex_eq f as bs]
theorem lex_good {f : List UInt8 → List UInt8 → Int} (h : Good f) : Good (lex f) := by
  rw [show lex f = lexG f from funext fun x => funext fun y => lex_eq f x y]
  exact lexG_good h

/-- The order of what two versions are made of. -/
def orderP (x y : List (List UInt8) × List (List UInt8)) : Int :=
  thenC (fun x y => lex cmpNum x.1 y.1) (thenC (fun x y => cmpInt (if x.2.isEmpty then 1 else 0) (if y.2.isEmpty then 1 else 0)) (fun x y => lex cmpMark x.2 y.2)) x y
theorem order_eq (a b : List UInt8) : order a b = orderP (parts a) (parts b) := by
  unfold order orderP thenC
  generalize parts a = x
  generalize parts b = y
  obtain ⟨x1, x2⟩ := x
  obtain ⟨y1, y2⟩ := y
  cases x2 with
  | nil =>
    cases y2 with
    | nil => simp [cmpInt, lex]
    | cons c cs => simp [cmpInt]
  | cons d ds =>
    cases y2 with
    | nil => simp [cmpInt]
    | cons c cs => simp [cmpInt]
theorem orderP_good : Good orderP := by
  refine ⟨Pre.then ((lex_good cmpNum_good).1.back (fun x : List (List UInt8) × List (List UInt8) => x.1)) (Pre.then (cmpInt_pre.back (fun x : List (List UInt8) × List (List UInt8) => if x.2.isEmpty then 1 else 0)) ((lex_good cmpMark_good).1.back (fun x : List (List UInt8) × List (List UInt8) => x.2))), ?_⟩
  intro x y hxy
  unfold orderP at hxy
  rcases then_cases (fun x y : List (List UInt8) × List (List UInt8) => lex cmpNum x.1 y.1) (thenC (fun x y => cmpInt (if x.2.isEmpty then 1 else 0) (if y.2.isEmpty then 1 else 0)) (fun x y => lex cmpMark x.2 y.2)) x y with ⟨h', e⟩ | ⟨h', e⟩
  · exact absurd (e.symm.trans hxy) h'
  · have e1 := (lex_good cmpNum_good).2 _ _ h'
    rw [e] at hxy
    rcases then_cases (fun x y : List (List UInt8) × List (List UInt8) => cmpInt (if x.2.isEmpty then 1 else 0) (if y.2.isEmpty then 1 else 0)) (fun x y => lex cmpMark x.2 y.2) x y with ⟨h2, e2⟩ | ⟨_, e2⟩
    · exact absurd (e2.symm.trans hxy) h2
    · have e3 := (lex_good cmpMark_good).2 _ _ (e2.symm.trans hxy)
      exact Prod.ext e1 e3

/-- Texts put together, with a byte between each two. -/
def join (c : UInt8) : List (List UInt8) → List UInt8
  | [] => []
  | [a] => a
  | a :: b :: r => a ++ c :: join c (b :: r)
theorem join_pieces (c : UInt8) : ∀ (l : List UInt8), join c (pieces c l) = l
  | [] => rfl
  | b :: r => by
    have ih := join_pieces c r
    have hne := pieces_ne c r
    rw [pieces]
    cases hp : pieces c r with
    | nil => exact absurd hp hne
    | cons q qs =>
      rw [hp] at ih
      by_cases h : b = c
      · subst h
        rw [if_pos (beq_self_eq_true b)]
        show join b ([] :: q :: qs) = b :: r
        rw [join, ih]; rfl
      · rw [if_neg (by simpa using h)]
        show join c ((b :: q) :: qs) = b :: r
        cases qs with
        | nil => rw [join] at ih ⊢; rw [ih]
        | cons q2 qs => rw [join] at ih ⊢; rw [← ih]; rfl
theorem cut_back (l : List UInt8) (c : UInt8) : l = (Lib.cut l [c]).1 ++ (if (Lib.cut l [c]).2.2 then c :: (Lib.cut l [c]).2.1 else []) := by
  rcases Lib.index_spec l [c] with ⟨h1, _⟩ | ⟨i, h1, _⟩
  · rw [Lib.index_one] at h1
    rw [cut_none (Lib.indexByte_none h1)]; simp
  · rw [Lib.index_one] at h1
    obtain ⟨ha, hb⟩ := Lib.indexByte_some h1
    rw [cut_some ha hb]
    have hi : i < l.length := (List.getElem?_eq_some_iff.1 ha).1
    have he : l[i] = c := (List.getElem?_eq_some_iff.1 ha).2
    show l = l.take i ++ c :: l.drop (i + 1)
    rw [← he, ← List.drop_eq_getElem_cons hi, List.take_append_drop]
theorem ver_pre {l : List UInt8} (h : ver l = true) : l.head? = some 118 := by
  cases hh : (l.head? == some 118)
  · rw [ver_head hh] at h; cases h
  · exact eq_of_beq hh
theorem ver_cut {l : List UInt8} (h : ver l = true) : l = 118 :: (join 46 (parts l).1 ++ (if (parts l).2 = [] then [] else 45 :: join 46 (parts l).2)) := by
  have hh := ver_pre h
  cases l with
  | nil => cases hh
  | cons a r =>
    have e : a = 118 := by simpa using hh
    subst e
    congr 1
    unfold parts
    rw [trim_v hh]
    show r = _
    have hd : (118 :: r : List UInt8).drop 1 = r := rfl
    rw [hd]
    have hb := cut_back r 45
    generalize Lib.cut r [45] = t at hb ⊢
    obtain ⟨t1, t2, t3⟩ := t
    cases t3
    · simp [join_pieces] at hb ⊢; exact hb
    · simp [join_pieces, pieces_ne] at hb ⊢; exact hb
theorem ver_inj {a b : List UInt8} (ha : ver a = true) (hb : ver b = true) (h : parts a = parts b) : a = b := by
  rw [ver_cut ha, ver_cut hb, h]

theorem order_turn (a b : List UInt8) : order b a = - order a b := by
  rw [order_eq, order_eq]; exact orderP_good.1.2.1 _ _
theorem order_le (a b c : List UInt8) (h1 : order a b ≤ 0) (h2 : order b c ≤ 0) : order a c ≤ 0 := by
  rw [order_eq] at *; exact orderP_good.1.2.2 _ _ _ h1 h2
theorem order_range (a b : List UInt8) : order a b = -1 ∨ order a b = 0 ∨ order a b = 1 := by
  rw [order_eq]; exact orderP_good.1.1 _ _
theorem order_zero {a b : List UInt8} (ha : ver a = true) (hb : ver b = true) : order a b = 0 ↔ a = b := by
  constructor
  · intro h
    rw [order_eq] at h
    exact ver_inj ha hb (orderP_good.2 _ _ h)
  · intro h; subst h; rw [order_eq]; exact orderP_good.1.refl _

end V
end Go.Proofs.YtcfhleenecfghaaGreatDoor
