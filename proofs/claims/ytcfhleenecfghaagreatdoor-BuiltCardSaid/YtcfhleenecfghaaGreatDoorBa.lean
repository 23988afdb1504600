/- The plain half of the law Built: packages are come to, told, or found on a ring; what is wanted is closed. -/
namespace Go.Proofs.YtcfhleenecfghaaGreatDoor
namespace B

/-- Which of eight imports which. -/
abbrev Mat := Nat → Nat → Bool
/-- What one imports, rising. -/
def imps (I : Mat) (a : Nat) : List Nat := (List.range 8).filter (I a)
theorem mem_imps {I : Mat} {a b : Nat} : b ∈ imps I a ↔ b < 8 ∧ I a b = true := by simp [imps]
theorem imps_len (I : Mat) (a : Nat) : (imps I a).length ≤ 8 := by
  have := List.length_filter_le (I a) (List.range 8)
  simpa [imps] using this

/-- A list of which each stands behind what it imports. -/
inductive Topo (I : Mat) : List Nat → Prop
  | nil : Topo I []
  | snoc {l : List Nat} {p : Nat} : Topo I l → p < 8 → p ∉ l → (∀ b, b < 8 → I p b = true → b ∈ l) → Topo I (l ++ [p])

/-- The way down: each is imported by the one above; what one imports is left to come to, told, or the one below. -/
inductive Way (I : Mat) (W : Nat → Bool) (told : List Nat) : List (Nat × List Nat) → Option Nat → Prop
  | nil {o : Option Nat} : (o = none → True) → Way I W told [] o
  | cons {p : Nat} {l : List Nat} {r : List (Nat × List Nat)} {o : Option Nat} :
      p < 8 → W p = true → p ∉ told → (∀ b ∈ l, b < 8 ∧ I p b = true) → (∀ q, o = some q → I p q = true) →
      (∀ b, b < 8 → I p b = true → b ∈ l ∨ b ∈ told ∨ o = some b) →
      Way I W told r (some p) → Way I W told ((p, l) :: r) o

theorem Way.told {I : Mat} {W : Nat → Bool} {told told' : List Nat} {r : List (Nat × List Nat)} {o : Option Nat} (h : Way I W told r o) (hs : ∀ b, b ∈ told → b ∈ told') (hn : ∀ b, b ∈ r.map (·.1) → b ∉ told') : Way I W told' r o := by
  induction h with
  | nil h => exact .nil h
  | cons h1 h2 _ h4 h5 h6 _ ih =>
    refine .cons h1 h2 (hn _ (by simp)) h4 h5 (fun b hb hi => ?_) (ih fun b hb => hn b (by simp at hb ⊢; exact Or.inr hb))
    rcases h6 b hb hi with h | h | h
    · exact Or.inl h
    · exact Or.inr (Or.inl (hs b h))
    · exact Or.inr (Or.inr h)
theorem Way.out {I : Mat} {W : Nat → Bool} {told : List Nat} {r : List (Nat × List Nat)} {o : Option Nat} (h : Way I W told r o) : ∀ b, b ∈ r.map (·.1) → b ∉ told := by
  induction h with
  | nil _ => intro b hb; simp at hb
  | cons _ _ g3 _ _ _ _ ih =>
    intro b hb
    simp only [List.map_cons, List.mem_cons] at hb
    rcases hb with rfl | hb
    · exact g3
    · exact ih b hb
/-- What was below has been told. -/
theorem Way.up {I : Mat} {W : Nat → Bool} {told : List Nat} {r : List (Nat × List Nat)} {q : Nat} (h : Way I W told r (some q)) (hn : ∀ b, b ∈ r.map (·.1) → b ≠ q) : Way I W (told ++ [q]) r none := by
  cases h with
  | nil h => exact .nil (fun _ => trivial)
  | @cons p l r _ h1 h2 h3 h4 h5 h6 h7 =>
    refine .cons h1 h2 ?_ h4 (fun _ h => by cases h) (fun b hb hi => ?_) ?_
    · intro hc
      rcases List.mem_append.mp hc with h | h
      · exact h3 h
      · exact hn p (by simp) (by simpa using h)
    · rcases h6 b hb hi with h | h | h
      · exact Or.inl h
      · exact Or.inr (Or.inl (by simp [h]))
      · injection h with h; exact Or.inr (Or.inl (by simp [h]))
    · refine h7.told (fun b hb => by simp [hb]) fun b hb hc => ?_
      rcases List.mem_append.mp hc with h | h
      · exact h7.out b hb h
      · exact hn b (by simp at hb ⊢; exact Or.inr hb) (by simpa using h)
theorem Way.lt {I : Mat} {W : Nat → Bool} {told : List Nat} {r : List (Nat × List Nat)} {o : Option Nat} (h : Way I W told r o) : ∀ b, b ∈ r.map (·.1) → b < 8 ∧ W b = true := by
  induction h with
  | nil _ => intro b hb; simp at hb
  | cons g1 g2 _ _ _ _ _ ih =>
    intro b hb
    simp only [List.map_cons, List.mem_cons] at hb
    rcases hb with rfl | hb
    · exact ⟨g1, g2⟩
    · exact ih b hb

/-- A way by imports, of a number of steps. -/
inductive Path (I : Mat) : Nat → Nat → Nat → Prop
  | one {a b : Nat} : a < 8 → b < 8 → I a b = true → Path I 1 a b
  | more {n a b c : Nat} : a < 8 → b < 8 → I a b = true → Path I n b c → Path I (n + 1) a c
theorem Path.lt {I : Mat} {n a b : Nat} (h : Path I n a b) : a < 8 ∧ b < 8 := by
  induction h with
  | one h1 h2 _ => exact ⟨h1, h2⟩
  | more h1 _ _ _ ih => exact ⟨h1, ih.2⟩
/-- Down the way, and from its end by one import more. -/
theorem Way.path {I : Mat} {W : Nat → Bool} {told : List Nat} : ∀ (r : List (Nat × List Nat)) (q : Nat) (_ : Way I W told r (some q)) (b : Nat) (_ : q < 8) (_ : b < 8) (_ : b ∈ r.map (·.1)), ∃ n, n ≤ r.length ∧ Path I n b q
  | [], q, _, b, _, _, hb => by simp at hb
  | (p, l) :: r, q, h, b, hq, hb8, hb => by
    cases h with
    | cons h1 h2 h3 h4 h5 h6 h7 =>
      have hi := h5 q rfl
      simp only [List.map_cons, List.mem_cons] at hb
      rcases hb with rfl | hb
      · exact ⟨1, by simp, .one h1 hq hi⟩
      · obtain ⟨n, hn, hp⟩ := Way.path r p h7 b h1 hb8 hb
        have snoc : ∀ {n a c : Nat}, Path I n a c → ∀ {d : Nat}, d < 8 → I c d = true → Path I (n + 1) a d := by
          intro n a c hp
          induction hp with
          | one g1 g2 g3 => intro d hd hi; exact .more g1 g2 g3 (.one g2 hd hi)
          | more g1 g2 g3 _ ih => intro d hd hi; exact .more g1 g2 g3 (ih hd hi)
        exact ⟨n + 1, by simp; omega, snoc hp hq hi⟩

/-- How the ordering stands: the states, the way down (the last first), what is told. -/
structure S where
  st : Nat → Nat
  steps : List (Nat × List Nat)
  list : List Nat
def upd (f : Nat → Nat) (p v : Nat) : Nat → Nat := fun x => if x = p then v else f x
/-- A package is come to. -/
def come (I : Mat) (p : Nat) (s : S) : Option S :=
  if s.st p = 2 then some s else if s.st p = 1 then none else some { s with st := upd s.st p 1, steps := (p, imps I p) :: s.steps }
/-- The last package of the way is told. -/
def tell (p : Nat) (r : List (Nat × List Nat)) (s : S) : S := { st := upd s.st p 2, steps := r, list := s.list ++ [p] }

structure Inv (I : Mat) (W : Nat → Bool) (s : S) : Prop where
  topo : Topo I s.list
  want : ∀ p ∈ s.list, p < 8 ∧ W p = true
  way : Way I W s.list s.steps none
  nodup : (s.steps.map (·.1)).Nodup
  st2 : ∀ p, s.st p = 2 ↔ p ∈ s.list
  st1 : ∀ p, s.st p = 1 ↔ p ∈ s.steps.map (·.1)
  st3 : ∀ p, s.st p ≤ 2
theorem Inv.nothing (I : Mat) (W : Nat → Bool) : Inv I W ⟨fun _ => 0, [], []⟩ :=
  ⟨.nil, fun p hp => by simp at hp, .nil fun _ => trivial, by simp, fun p => by simp, fun p => by simp, fun _ => by simp⟩

theorem Inv.tell {I : Mat} {W : Nat → Bool} {s : S} {p : Nat} {r : List (Nat × List Nat)} (h : Inv I W s) (hs : s.steps = (p, []) :: r) : Inv I W (tell p r s) := by
  have hw := h.way
  have hnd := h.nodup
  rw [hs] at hw hnd
  simp only [List.map_cons, List.nodup_cons] at hnd
  cases hw with
  | cons h1 h2 h3 h4 h5 h6 h7 =>
    have hne : ∀ b, b ∈ r.map (·.1) → b ≠ p := fun b hb e => hnd.1 (e ▸ hb)
    refine ⟨.snoc h.topo h1 h3 (fun b hb hi => ?_), fun x hx => ?_, h7.up hne, hnd.2, fun x => ?_, fun x => ?_, fun x => ?_⟩
    · rcases h6 b hb hi with h | h | h
      · simp at h
      · exact h
      · cases h
    · rcases List.mem_append.mp hx with hx | hx
      · exact h.want x hx
      · rw [show x = p by simpa using hx]; exact ⟨h1, h2⟩
    · show upd s.st p 2 x = 2 ↔ x ∈ s.list ++ [p]
      unfold upd
      by_cases hx : x = p
      · simp [hx]
      · simp [hx, h.st2 x]
    · show upd s.st p 2 x = 1 ↔ x ∈ r.map (·.1)
      unfold upd
      by_cases hx : x = p
      · subst hx; simp; exact fun y hy => hnd.1 (List.mem_map.mpr ⟨_, hy, rfl⟩)
      · rw [if_neg hx, h.st1 x, hs]; simp [hx]
    · show upd s.st p 2 x ≤ 2
      unfold upd
      split
      · omega
      · exact h.st3 x

/-- A new one is put at the way's end. -/
theorem Inv.push {I : Mat} {W : Nat → Bool} {s : S} {p : Nat} {t : List (Nat × List Nat)} (h : Inv I W s) (hp : p < 8) (hW : W p = true) (ht : t.map (·.1) = s.steps.map (·.1)) (h1 : s.st p ≠ 1) (h2 : s.st p ≠ 2) (hw : Way I W s.list t (some p)) :
    Inv I W { st := upd s.st p 1, steps := (p, imps I p) :: t, list := s.list } := by
  have hn1 : p ∉ s.steps.map (·.1) := fun hh => h1 ((h.st1 p).mpr hh)
  have hn2 : p ∉ s.list := fun hh => h2 ((h.st2 p).mpr hh)
  refine ⟨h.topo, h.want, ?_, ?_, fun x => ?_, fun x => ?_, fun x => ?_⟩
  · exact .cons hp hW hn2 (fun b hb => mem_imps.mp hb) (fun _ h => by cases h) (fun b hb hi => Or.inl (mem_imps.mpr ⟨hb, hi⟩)) hw
  · show ((p, imps I p) :: t |>.map (·.1)).Nodup
    simp only [List.map_cons, List.nodup_cons]
    rw [ht]
    exact ⟨hn1, h.nodup⟩
  · show upd s.st p 1 x = 2 ↔ x ∈ s.list
    unfold upd
    by_cases hx : x = p
    · subst hx; simp [hn2]
    · rw [if_neg hx]; exact h.st2 x
  · show upd s.st p 1 x = 1 ↔ x ∈ ((p, imps I p) :: t).map (·.1)
    unfold upd
    rw [List.map_cons, ht]
    by_cases hx : x = p
    · subst hx; simp
    · rw [if_neg hx, h.st1 x]; simp [hx]
  · show upd s.st p 1 x ≤ 2
    unfold upd
    split
    · omega
    · exact h.st3 x

theorem len_lt : ∀ (n : Nat) (l : List Nat), l.Nodup → (∀ x ∈ l, x < n) → l.length ≤ n
  | 0, l, _, h => by
    cases l with
    | nil => simp
    | cons a l => exact absurd (h a (by simp)) (by omega)
  | n + 1, l, hn, h => by
    have := len_lt n (l.erase n) (hn.erase n) (fun x hx => by
      have h1 := h x (List.mem_of_mem_erase hx)
      have h2 : x ≠ n := (hn.mem_erase_iff.mp hx).1
      omega)
    have h2 := List.length_erase (a := n) (l := l)
    split at h2 <;> omega
theorem Inv.short {I : Mat} {W : Nat → Bool} {s : S} (h : Inv I W s) : s.steps.length ≤ 8 := by
  have := len_lt 8 (s.steps.map (·.1)) h.nodup (fun x hx => (h.way.lt x hx).1)
  simpa using this

/-- How much is left to do. -/
def zeros (f : Nat → Nat) : Nat := ((List.range 8).filter fun p => f p == 0).length
def left (s : S) : Nat := 10 * zeros s.st + (s.steps.map fun x => 1 + x.2.length).sum
theorem zeros_eq (f : Nat → Nat) : zeros f = (f 0 == 0).toNat + (f 1 == 0).toNat + (f 2 == 0).toNat + (f 3 == 0).toNat + (f 4 == 0).toNat + (f 5 == 0).toNat + (f 6 == 0).toNat + (f 7 == 0).toNat := by
  unfold zeros
  rw [show List.range 8 = [0, 1, 2, 3, 4, 5, 6, 7] from rfl]
  simp only [List.filter_cons, List.filter_nil]
  cases f 0 == 0 <;> cases f 1 == 0 <;> cases f 2 == 0 <;> cases f 3 == 0 <;> cases f 4 == 0 <;> cases f 5 == 0 <;> cases f 6 == 0 <;> cases f 7 == 0 <;> rfl
theorem lt8 {p : Nat} (h : p < 8) : p = 0 ∨ p = 1 ∨ p = 2 ∨ p = 3 ∨ p = 4 ∨ p = 5 ∨ p = 6 ∨ p = 7 := by omega
theorem zeros_upd {f : Nat → Nat} {p v : Nat} (hp : p < 8) (hf : f p = 0) (hv : v ≠ 0) : zeros (upd f p v) + 1 = zeros f := by
  rw [zeros_eq, zeros_eq]
  have e : (v == 0) = false := by simp [hv]
  rcases lt8 hp with rfl | rfl | rfl | rfl | rfl | rfl | rfl | rfl <;> simp [upd, hf, e] <;> omega
theorem zeros_same {f : Nat → Nat} {p v : Nat} (hp : p < 8) (hf : f p ≠ 0) (hv : v ≠ 0) : zeros (upd f p v) = zeros f := by
  rw [zeros_eq, zeros_eq]
  have e : (v == 0) = false := by simp [hv]
  have e2 : (f p == 0) = false := by simp [hf]
  rcases lt8 hp with rfl | rfl | rfl | rfl | rfl | rfl | rfl | rfl <;> simp [upd, e, e2]

theorem Inv.tell_left {I : Mat} {W : Nat → Bool} {s : S} {p : Nat} {r : List (Nat × List Nat)} (h : Inv I W s) (hs : s.steps = (p, []) :: r) : left (B.tell p r s) < left s := by
  have h1 : s.st p = 1 := (h.st1 p).mpr (by rw [hs]; simp)
  have hp : p < 8 := (h.way.lt p (by rw [hs]; simp)).1
  unfold left B.tell
  rw [hs]
  simp only [zeros_same hp (show s.st p ≠ 0 by omega) (show (2 : Nat) ≠ 0 by omega), List.map_cons, List.sum_cons]
  omega

/-- What is closed under imports. -/
def Closed (I : Mat) (W : Nat → Bool) : Prop := ∀ a b, a < 8 → b < 8 → W a = true → I a b = true → W b = true

/-- The next import of the last one is come to. -/
theorem Inv.next {I : Mat} {W : Nat → Bool} {s : S} {p b : Nat} {l : List Nat} {r : List (Nat × List Nat)} (hW : Closed I W) (h : Inv I W s) (hs : s.steps = (p, b :: l) :: r) :
    b < 8 ∧ W b = true ∧
    (s.st b = 2 → Inv I W { s with steps := (p, l) :: r } ∧ left { s with steps := (p, l) :: r } < left s) ∧
    (s.st b = 1 → ∃ n, n ≤ 8 ∧ Path I n b b) ∧
    (s.st b ≠ 1 → s.st b ≠ 2 → Inv I W { st := upd s.st b 1, steps := (b, imps I b) :: (p, l) :: r, list := s.list } ∧ left { st := upd s.st b 1, steps := (b, imps I b) :: (p, l) :: r, list := s.list } < left s) := by
  have hw := h.way
  have hsh := h.short
  rw [hs] at hw hsh
  cases hw with
  | cons h1 h2 h3 h4 h5 h6 h7 =>
    obtain ⟨hb, hi⟩ := h4 b (by simp)
    have hWb := hW p b h1 hb h2 hi
    refine ⟨hb, hWb, fun hst => ⟨?_, ?_⟩, fun hst => ?_, fun n1 n2 => ⟨?_, ?_⟩⟩
    · refine ⟨h.topo, h.want, ?_, ?_, h.st2, ?_, h.st3⟩
      · refine .cons h1 h2 h3 (fun x hx => h4 x (by simp [hx])) h5 (fun x hx hix => ?_) h7
        rcases h6 x hx hix with g | g | g
        · rcases List.mem_cons.mp g with rfl | g
          · exact Or.inr (Or.inl ((h.st2 x).mp hst))
          · exact Or.inl g
        · exact Or.inr (Or.inl g)
        · cases g
      · have := h.nodup; rw [hs] at this; exact this
      · intro x; rw [h.st1 x, hs]; simp
    · unfold left; rw [hs]; simp only [List.map_cons, List.sum_cons, List.length_cons]; omega
    · have hm := (h.st1 b).mp hst
      rw [hs] at hm
      simp only [List.map_cons, List.mem_cons] at hm
      rcases hm with rfl | hm
      · exact ⟨1, by omega, .one hb hb hi⟩
      · obtain ⟨n, hn, hp⟩ := Way.path r p h7 b h1 hb hm
        refine ⟨n + 1, by simp at hsh; omega, ?_⟩
        have snoc : ∀ {n a c : Nat}, Path I n a c → ∀ {d : Nat}, d < 8 → I c d = true → Path I (n + 1) a d := by
          intro n a c hp
          induction hp with
          | one g1 g2 g3 => intro d hd hi; exact .more g1 g2 g3 (.one g2 hd hi)
          | more g1 g2 g3 _ ih => intro d hd hi; exact .more g1 g2 g3 (ih hd hi)
        exact snoc hp hb hi
    · refine h.push hb hWb (by rw [hs]; simp) n1 n2 ?_
      refine .cons h1 h2 h3 (fun x hx => h4 x (by simp [hx])) (fun q hq => by injection hq with hq; rw [← hq]; exact hi) (fun x hx hix => ?_) h7
      rcases h6 x hx hix with g | g | g
      · rcases List.mem_cons.mp g with rfl | g
        · exact Or.inr (Or.inr rfl)
        · exact Or.inl g
      · exact Or.inr (Or.inl g)
      · cases g
    · have h0 : s.st b = 0 := by have := h.st3 b; omega
      have hz := zeros_upd (v := 1) hb h0 (by omega)
      have hl := imps_len I b
      unfold left; rw [hs]; simp only [List.map_cons, List.sum_cons, List.length_cons]; omega

/-- One of those that are asked for is come to: nothing is on the way. -/
theorem Inv.first {I : Mat} {W : Nat → Bool} {s : S} {b : Nat} (h : Inv I W s) (hs : s.steps = []) (hb : b < 8) (hW : W b = true) :
    s.st b ≠ 1 ∧ (s.st b ≠ 2 → Inv I W { st := upd s.st b 1, steps := [(b, imps I b)], list := s.list }) := by
  have h1 : s.st b ≠ 1 := fun hc => by have := (h.st1 b).mp hc; rw [hs] at this; simp at this
  refine ⟨h1, fun h2 => h.push hb hW (by rw [hs]) h1 h2 (.nil fun e => by cases e)⟩

/-- Behind an ordering: each stands behind its imports. -/
theorem Topo.at_ {I : Mat} {l : List Nat} (h : Topo I l) : ∀ l1 p l2, l = l1 ++ p :: l2 → p < 8 ∧ p ∉ l1 ∧ ∀ b, b < 8 → I p b = true → b ∈ l1 := by
  induction h with
  | nil => intro l1 p l2 e; simp at e
  | @snoc l q hl hq hn hi ih =>
    intro l1 p l2 e
    rcases List.eq_nil_or_concat l2 with rfl | ⟨l3, x, rfl⟩
    · obtain ⟨e1, e2⟩ := List.append_inj' e (by simp)
      injection e2 with e2
      subst e1 e2
      exact ⟨hq, hn, hi⟩
    · refine ih l1 p l3 ?_
      have e' : l ++ [q] = (l1 ++ p :: l3) ++ [x] := by rw [e]; simp
      exact (List.append_inj' e' (by simp)).1
theorem Topo.closed {I : Mat} {l : List Nat} (h : Topo I l) : Closed I fun x => decide (x ∈ l) := by
  intro a b ha hb hm hi
  simp only [decide_eq_true_eq] at hm ⊢
  obtain ⟨l1, l2, e⟩ := List.append_of_mem hm
  obtain ⟨_, _, h3⟩ := h.at_ l1 a l2 e
  rw [e]
  exact List.mem_append_left _ (h3 b hb hi)

/-! What is wanted. -/
def updB (f : Nat → Bool) (p : Nat) (v : Bool) : Nat → Bool := fun x => if x = p then v else f x
def relax (I : Mat) (a : Nat) (w : Nat → Bool) (b : Nat) : Nat → Bool := updB w b (w b || (w a && I a b))
def row (I : Mat) (w : Nat → Bool) (a n : Nat) : Nat → Bool := (List.range n).foldl (relax I a) w
def rnd (I : Mat) (w : Nat → Bool) (n : Nat) : Nat → Bool := (List.range n).foldl (fun w a => row I w a 8) w
def rnds (I : Mat) (w : Nat → Bool) : Nat → Nat → Bool
  | 0 => w
  | n + 1 => rnd I (rnds I w n) 8
theorem row_succ (I : Mat) (w : Nat → Bool) (a n : Nat) : row I w a (n + 1) = relax I a (row I w a n) n := by
  unfold row; rw [List.range_succ, List.foldl_append]; rfl
theorem rnd_succ (I : Mat) (w : Nat → Bool) (n : Nat) : rnd I w (n + 1) = row I (rnd I w n) n 8 := by
  unfold rnd; rw [List.range_succ, List.foldl_append]; rfl

theorem relax_le (I : Mat) (a : Nat) (w : Nat → Bool) (b x : Nat) (h : w x = true) : relax I a w b x = true := by
  unfold relax updB; split
  · rename_i e; subst e; simp [h]
  · exact h
theorem row_le (I : Mat) (a : Nat) (w : Nat → Bool) (x : Nat) (h : w x = true) : ∀ n, row I w a n x = true
  | 0 => h
  | n + 1 => by rw [row_succ]; exact relax_le _ _ _ _ _ (row_le I a w x h n)
theorem row_mono (I : Mat) (a : Nat) (w : Nat → Bool) (x n : Nat) (h : row I w a n x = true) : ∀ k, row I w a (n + k) x = true
  | 0 => h
  | k + 1 => by rw [← Nat.add_assoc, row_succ]; exact relax_le _ _ _ _ _ (row_mono I a w x n h k)
theorem rnd_le (I : Mat) (w : Nat → Bool) (x : Nat) (h : w x = true) : ∀ n, rnd I w n x = true
  | 0 => h
  | n + 1 => by rw [rnd_succ]; exact row_le _ _ _ _ (rnd_le I w x h n) 8
theorem rnd_mono (I : Mat) (w : Nat → Bool) (x n : Nat) (h : rnd I w n x = true) : ∀ k, rnd I w (n + k) x = true
  | 0 => h
  | k + 1 => by rw [← Nat.add_assoc, rnd_succ]; exact row_le _ _ _ _ (rnd_mono I w x n h k) 8
theorem row_gets (I : Mat) (w : Nat → Bool) (a b : Nat) (hb : b < 8) (ha : w a = true) (hi : I a b = true) : row I w a 8 b = true := by
  have h : row I w a (b + 1) b = true := by
    rw [row_succ]; unfold relax updB; rw [if_pos rfl, row_le I a w a ha b, hi]; simp
  have := row_mono I a w b (b + 1) h (8 - (b + 1))
  rwa [show b + 1 + (8 - (b + 1)) = 8 by omega] at this
theorem rnd_gets (I : Mat) (w : Nat → Bool) (a b : Nat) (ha8 : a < 8) (hb : b < 8) (ha : w a = true) (hi : I a b = true) : rnd I w 8 b = true := by
  have h : rnd I w (a + 1) b = true := by rw [rnd_succ]; exact row_gets I _ a b hb (rnd_le I w a ha a) hi
  have := rnd_mono I w b (a + 1) h (8 - (a + 1))
  rwa [show a + 1 + (8 - (a + 1)) = 8 by omega] at this

theorem relax_sub {I : Mat} {T : Nat → Bool} (hT : Closed I T) {a : Nat} {w : Nat → Bool} {b : Nat} (ha : a < 8) (hb : b < 8) (h : ∀ x, w x = true → T x = true) : ∀ x, relax I a w b x = true → T x = true := by
  intro x hx
  unfold relax updB at hx
  split at hx
  · rename_i e; subst e
    simp only [Bool.or_eq_true, Bool.and_eq_true] at hx
    rcases hx with hx | ⟨h1, h2⟩
    · exact h x hx
    · exact hT a x ha hb (h a h1) h2
  · exact h x hx
theorem row_sub {I : Mat} {T : Nat → Bool} (hT : Closed I T) {a : Nat} {w : Nat → Bool} (ha : a < 8) (h : ∀ x, w x = true → T x = true) : ∀ n, n ≤ 8 → ∀ x, row I w a n x = true → T x = true
  | 0, _ => h
  | n + 1, hn => by rw [row_succ]; exact relax_sub hT ha (by omega) (row_sub hT ha h n (by omega))
theorem rnd_sub {I : Mat} {T : Nat → Bool} (hT : Closed I T) {w : Nat → Bool} (h : ∀ x, w x = true → T x = true) : ∀ n, n ≤ 8 → ∀ x, rnd I w n x = true → T x = true
  | 0, _ => h
  | n + 1, hn => by rw [rnd_succ]; exact row_sub hT (by omega) (rnd_sub hT h n (by omega)) 8 (by omega)
/-- What is wanted lies within all that is closed and has what is asked for. -/
theorem rnds_sub {I : Mat} {T : Nat → Bool} (hT : Closed I T) {w : Nat → Bool} (h : ∀ x, w x = true → T x = true) : ∀ n x, rnds I w n x = true → T x = true
  | 0 => h
  | n + 1 => rnd_sub hT (rnds_sub hT h n) 8 (by omega)
theorem rnds_le (I : Mat) (w : Nat → Bool) (x : Nat) (h : w x = true) : ∀ n, rnds I w n x = true
  | 0 => h
  | n + 1 => rnd_le I _ x (rnds_le I w x h n) 8

def cnt (w : Nat → Bool) : Nat := (w 0).toNat + (w 1).toNat + (w 2).toNat + (w 3).toNat + (w 4).toNat + (w 5).toNat + (w 6).toNat + (w 7).toNat
theorem cnt_lt {w w' : Nat → Bool} (h : ∀ x, w x = true → w' x = true) {x : Nat} (hx : x < 8) (h0 : w x = false) (h1 : w' x = true) : cnt w < cnt w' := by
  have g : ∀ y, (w y).toNat ≤ (w' y).toNat := fun y => by
    cases e : w y
    · simp
    · rw [h y e]; exact Nat.le_refl _
  have g0 := g 0; have g1 := g 1; have g2 := g 2; have g3 := g 3; have g4 := g 4; have g5 := g 5; have g6 := g 6; have g7 := g 7
  have e0 : (w x).toNat = 0 := by rw [h0]; rfl
  have e1 : (w' x).toNat = 1 := by rw [h1]; rfl
  unfold cnt
  rcases lt8 hx with rfl | rfl | rfl | rfl | rfl | rfl | rfl | rfl <;> omega
theorem cnt_all {w : Nat → Bool} (h : 8 ≤ cnt w) {x : Nat} (hx : x < 8) : w x = true := by
  have g : ∀ y, (w y).toNat ≤ 1 := fun y => by cases w y <;> simp
  have g0 := g 0; have g1 := g 1; have g2 := g 2; have g3 := g 3; have g4 := g 4; have g5 := g 5; have g6 := g 6; have g7 := g 7
  unfold cnt at h
  have : (w x).toNat = 1 := by rcases lt8 hx with rfl | rfl | rfl | rfl | rfl | rfl | rfl | rfl <;> omega
  cases e : w x
  · rw [e] at this; cases this
  · rfl
theorem rnd_closed {I : Mat} {w : Nat → Bool} (h : ∀ x, x < 8 → rnd I w 8 x = true → w x = true) : Closed I w :=
  fun a b ha hb hw hi => h b hb (rnd_gets I w a b ha hb hw hi)
theorem closed_stays {I : Mat} {w : Nat → Bool} (h : Closed I w) : ∀ n x, rnds I w n x = true → w x = true := rnds_sub h fun _ h => h
theorem closed_of {I : Mat} {w w' : Nat → Bool} (h : Closed I w) (h1 : ∀ x, w x = true → w' x = true) (h2 : ∀ x, w' x = true → w x = true) : Closed I w' :=
  fun a b ha hb hw hi => h1 b (h a b ha hb (h2 a hw) hi)
theorem rnds_grow (I : Mat) (w : Nat → Bool) : ∀ n, Closed I (rnds I w n) ∨ n ≤ cnt (rnds I w n)
  | 0 => Or.inr (Nat.zero_le _)
  | n + 1 => by
    rcases rnds_grow I w n with h | h
    · exact Or.inl (closed_of h (fun x hx => rnd_le I _ x hx 8) (fun x hx => rnd_sub h (fun _ h => h) 8 (by omega) x hx))
    · by_cases hc : ∀ x, x < 8 → rnd I (rnds I w n) 8 x = true → rnds I w n x = true
      · have h := rnd_closed hc
        exact Or.inl (closed_of h (fun x hx => rnd_le I _ x hx 8) (fun x hx => rnd_sub h (fun _ h => h) 8 (by omega) x hx))
      · simp only [Classical.not_forall] at hc
        obtain ⟨x, hx, h1, h0⟩ := hc
        have := cnt_lt (w := rnds I w n) (w' := rnds I w (n + 1)) (fun y hy => rnd_le I _ y hy 8) hx (by simpa using h0) h1
        exact Or.inr (by omega)
/-- What is wanted is closed. -/
theorem wanted_closed (I : Mat) (w : Nat → Bool) : Closed I (rnds I w 8) := by
  rcases rnds_grow I w 8 with h | h
  · exact h
  · exact fun a b _ hb _ _ => cnt_all h hb

/-! Rings. -/
def upd2 (R : Mat) (i j : Nat) (v : Bool) : Mat := fun x y => if x = i ∧ y = j then v else R x y
/-- How much of what is reached is told. -/
structure Ge (I : Mat) (n i0 j0 k0 : Nat) (R : Mat) : Prop where
  all : ∀ i j m, m ≤ n + 1 → Path I m i j → R i j = true
  done : ∀ i j m, (i < i0 ∨ i = i0 ∧ j < j0) → m ≤ n + 2 → Path I m i j → R i j = true
  part : ∀ k m, k < k0 → I i0 k = true → m ≤ n + 1 → Path I m k j0 → i0 < 8 → R i0 j0 = true
theorem Path.pos {I : Mat} {n a b : Nat} (h : Path I n a b) : 1 ≤ n := by cases h <;> omega
theorem Ge.start (I : Mat) : Ge I 0 0 0 0 I :=
  ⟨fun i j m hm hp => by
    cases hp with
    | one _ _ h => exact h
    | more _ _ _ h => have := h.pos; omega, fun i j m h => by omega, fun k m h => by omega⟩
theorem upd2_le {R : Mat} {i j : Nat} {v : Bool} (hv : R i j = true → v = true) {x y : Nat} (h : R x y = true) : upd2 R i j v x y = true := by
  unfold upd2; split
  · rename_i e; obtain ⟨rfl, rfl⟩ := e; exact hv h
  · exact h
theorem Ge.k {I : Mat} {n i j k : Nat} {R : Mat} (h : Ge I n i j k R) (hk : k < 8) : Ge I n i j (k + 1) (upd2 R i j (R i j || (R i k && R k j))) := by
  have hv : R i j = true → (R i j || (R i k && R k j)) = true := fun h => by rw [h]; rfl
  refine ⟨fun x y m hm hp => upd2_le hv (h.all x y m hm hp), fun x y m hx hm hp => upd2_le hv (h.done x y m hx hm hp), fun k' m hk' hi hm hp h8 => ?_⟩
  by_cases he : k' = k
  · subst he
    have h1 := h.all i k' 1 (by omega) (.one h8 hk hi)
    have h2 := h.all k' j m hm hp
    unfold upd2; rw [if_pos ⟨rfl, rfl⟩, h1, h2]; simp
  · exact upd2_le hv (h.part k' m (by omega) hi hm hp h8)
theorem Ge.j {I : Mat} {n i j : Nat} {R : Mat} (h : Ge I n i j 8 R) : Ge I n i (j + 1) 0 R := by
  refine ⟨h.all, fun x y m hx hm hp => ?_, fun k m h => by omega⟩
  by_cases he : x = i ∧ y = j
  · obtain ⟨rfl, rfl⟩ := he
    cases hp with
    | one g1 g2 g3 => exact h.all x y 1 (by omega) (.one g1 g2 g3)
    | @more m _ k _ g1 g2 g3 g4 => exact h.part k m g2 g3 (by omega) g4 g1
  · exact h.done x y m (by omega) hm hp
theorem Ge.i {I : Mat} {n i : Nat} {R : Mat} (h : Ge I n i 8 0 R) : Ge I n (i + 1) 0 0 R := by
  refine ⟨h.all, fun x y m hx hm hp => h.done x y m ?_ hm hp, fun k m h => by omega⟩
  have := hp.lt; omega
theorem Ge.n {I : Mat} {n : Nat} {R : Mat} (h : Ge I n 8 0 0 R) : Ge I (n + 1) 0 0 0 R :=
  ⟨fun x y m hm hp => h.done x y m (by have := hp.lt; omega) hm hp, fun x y m h => by omega, fun k m h => by omega⟩
end B
end Go.Proofs.YtcfhleenecfghaaGreatDoor
