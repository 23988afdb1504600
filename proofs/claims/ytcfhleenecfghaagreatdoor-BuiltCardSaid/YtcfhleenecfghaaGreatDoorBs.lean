/- The ordering in memory. -/
/- A package is told. -/
/- A package and all that it imports are told, or a ring is found. -/
/- Packages put in order. -/
/- The call itself: a root that needs nothing, no registry. -/
import Derived.Test.YtcfhleenecfghaaGreatDoorBm
import Derived.Deep.RegionLawGrows
import Derived.Shelf.SlSortCmp.Whole1
import Derived.Test.YtcfhleenecfghaaGreatDoorYa
import Derived.Deep.Cut
namespace Go.Proofs.YtcfhleenecfghaaGreatDoor
open Go.RowKit
namespace B
/-- A new one is put at the way's end, with what it imports in whatever order. -/
theorem Inv.push' {I : Mat} {W : Nat → Bool} {s : S} {p : Nat} {t : List (Nat × List Nat)} (h : Inv I W s) (hp : p < 8) (hW : W p = true) {L : List Nat} (hL : ∀ b, b ∈ L ↔ b < 8 ∧ I p b = true) (ht : t.map (·.1) = s.steps.map (·.1)) (h1 : s.st p ≠ 1) (h2 : s.st p ≠ 2) (hw : Way I W s.list t (some p)) :
    Inv I W { st := upd s.st p 1, steps := (p, L) :: t, list := s.list } := by
  have hn1 : p ∉ s.steps.map (·.1) := fun hh => h1 ((h.st1 p).mpr hh)
  have hn2 : p ∉ s.list := fun hh => h2 ((h.st2 p).mpr hh)
  refine ⟨h.topo, h.want, ?_, ?_, fun x => ?_, fun x => ?_, fun x => ?_⟩
  · exact .cons hp hW hn2 (fun b hb => (hL b).mp hb) (fun _ h => by cases h) (fun b hb hi => Or.inl ((hL b).mpr ⟨hb, hi⟩)) hw
  · show ((p, L) :: t |>.map (·.1)).Nodup
    simp only [List.map_cons, List.nodup_cons]
    rw [ht]
    exact ⟨hn1, h.nodup⟩
  · show upd s.st p 1 x = 2 ↔ x ∈ s.list
    unfold upd
    by_cases hx : x = p
    · subst hx; simp [hn2]
    · rw [if_neg hx]; exact h.st2 x
  · show upd s.st p 1 x = 1 ↔ x ∈ ((p, L) :: t).map (·.1)
    unfold upd
    rw [List.map_cons, ht]
    by_cases hx : x = p
    · subst hx; simp
    · rw [if_neg hx, h.st1 x]; simp [hx]
  · show upd s.st p 1 x ≤ 2
    unfold upd
    split
    · omega
    · exact h.st3 x

/-- The next import of the last one is come to. -/
theorem Inv.next' {I : Mat} {W : Nat → Bool} {s : S} {p b : Nat} {l : List Nat} {r : List (Nat × List Nat)} (hW : Closed I W) (h : Inv I W s) (hs : s.steps = (p, b :: l) :: r) :
    b < 8 ∧ W b = true ∧
    (s.st b = 2 → Inv I W { s with steps := (p, l) :: r } ∧ left { s with steps := (p, l) :: r } < left s) ∧
    (s.st b = 1 → ∃ n, n ≤ 8 ∧ Path I n b b) ∧
    (s.st b ≠ 1 → s.st b ≠ 2 → ∀ L : List Nat, (∀ x, x ∈ L ↔ x < 8 ∧ I b x = true) → L.length ≤ 8 → Inv I W { st := upd s.st b 1, steps := (b, L) :: (p, l) :: r, list := s.list } ∧ left { st := upd s.st b 1, steps := (b, L) :: (p, l) :: r, list := s.list } < left s) := by
  have hw := h.way
  have hsh := h.short
  rw [hs] at hw hsh
  cases hw with
  | cons h1 h2 h3 h4 h5 h6 h7 =>
    obtain ⟨hb, hi⟩ := h4 b (by simp)
    have hWb := hW p b h1 hb h2 hi
    refine ⟨hb, hWb, fun hst => ⟨?_, ?_⟩, fun hst => ?_, fun n1 n2 L hL hl => ⟨?_, ?_⟩⟩
    · refine ⟨h.topo, h.want, ?_, ?_, h.st2, ?_, h.st3⟩
      · refine .cons h1 h2 h3 (fun x hx => h4 x (by simp [hx])) h5 (fun x hx hix => ?_) h7
        rcases h6 x hx hix with g | g | g
        · rcases List.mem_cons.mp g with rfl | g
          · exact Or.inr (Or.inl ((h.st2 x).mp hst))
          · exact Or.inl g
        · exact Or.inr (Or.inl g)
        · cases g
      · have := h.nodup; rw [hs] at this; exact this
      · intro x; rw [h.st1 x, hs]; simp
    · unfold left; rw [hs]; simp only [List.map_cons, List.sum_cons, List.length_cons]; omega
    · have hm := (h.st1 b).mp hst
      rw [hs] at hm
      simp only [List.map_cons, List.mem_cons] at hm
      rcases hm with rfl | hm
      · exact ⟨1, by omega, .one hb hb hi⟩
      · obtain ⟨n, hn, hp⟩ := Way.path r p h7 b h1 hb hm
        refine ⟨n + 1, by simp at hsh; omega, ?_⟩
        have snoc : ∀ {n a c : Nat}, Path I n a c → ∀ {d : Nat}, d < 8 → I c d = true → Path I (n + 1) a d := by
          intro n a c hp
          induction hp with
          | one g1 g2 g3 => intro d hd hi; exact .more g1 g2 g3 (.one g2 hd hi)
          | more g1 g2 g3 _ ih => intro d hd hi; exact .more g1 g2 g3 (ih hd hi)
        exact snoc hp hb hi
    · refine h.push' hb hWb hL (by rw [hs]; simp) n1 n2 ?_
      refine .cons h1 h2 h3 (fun x hx => h4 x (by simp [hx])) (fun q hq => by injection hq with hq; rw [← hq]; exact hi) (fun x hx hix => ?_) h7
      rcases h6 x hx hix with g | g | g
      · rcases List.mem_cons.mp g with rfl | g
        · exact Or.inr (Or.inr rfl)
        · exact Or.inl g
      · exact Or.inr (Or.inl g)
      · cases g
    · have h0 : s.st b = 0 := by have := h.st3 b; omega
      have hz := zeros_upd (v := 1) hb h0 (by omega)
      unfold left; rw [hs]; simp only [List.map_cons, List.sum_cons, List.length_cons]; omega

/-- One of those that are asked for is come to: nothing is on the way. -/
theorem Inv.first' {I : Mat} {W : Nat → Bool} {s : S} {b : Nat} (h : Inv I W s) (hs : s.steps = []) (hb : b < 8) (hW : W b = true) :
    s.st b ≠ 1 ∧ (s.st b ≠ 2 → ∀ L : List Nat, (∀ x, x ∈ L ↔ x < 8 ∧ I b x = true) → Inv I W { st := upd s.st b 1, steps := [(b, L)], list := s.list }) := by
  have h1 : s.st b ≠ 1 := fun hc => by have := (h.st1 b).mp hc; rw [hs] at this; simp at this
  refine ⟨h1, fun h2 L hL => h.push' hb hW hL (by rw [hs]) h1 h2 (.nil fun e => by cases e)⟩

end B

/-- The cells of the way down, its beginning first. -/
def zcells (Z : List (Nat × List Nat × Value)) : List Value := Z.flatMap fun z => [.string (xpath z.1), z.2.2]
theorem zcells_snoc (Z : List (Nat × List Nat × Value)) (z : Nat × List Nat × Value) : zcells (Z ++ [z]) = zcells Z ++ [.string (xpath z.1), z.2.2] := by
  unfold zcells; rw [List.flatMap_append]; simp
theorem zcells_len : ∀ (Z : List (Nat × List Nat × Value)), (zcells Z).length = Z.length * 2
  | [] => rfl
  | z :: Z => by
    have := zcells_len Z
    unfold zcells at this ⊢
    rw [List.flatMap_cons, List.length_append, this, List.length_cons]; simp; omega
/-- Imports that are left to come to. -/
def TR (base : Nat) (own : Option Nat) (w : World) (v : Value) (l : List Nat) : Prop :=
  (l = [] ∧ ∃ a c, v = .slice a 0 c) ∨ ∃ g off c cur, v = .slice (some ⟨g, off, none⟩) l.length c ∧ base ≤ g ∧ own ≠ some g ∧ l.length ≤ c ∧ w.heap[g]? = some (.cells cur 9 (0, 0)) ∧ ∀ j (h : j < l.length), cur[off + j]? = some (.string (xpath l[j]))
theorem TR.form {base : Nat} {own : Option Nat} {w : World} {v : Value} {l : List Nat} (h : TR base own w v l) : ∃ a c, v = .slice a l.length c := by
  rcases h with ⟨rfl, a, c, h⟩ | ⟨g, off, c, cur, h, _⟩
  · exact ⟨a, c, h⟩
  · exact ⟨_, _, h⟩
/-- The ordering. -/
structure OrdAt (X : List (Nat × List Nat × Value)) (base ob : Nat) (lm ls : Value) (w : World) (s : B.S) (tb : Nat) (sv tv : Value) (K : List Nat) (Z : List (Nat × List Nat × Value)) : Prop where
  box : w.heap[ob]? = some (.cells #[lm, ls, .map (some tb), sv, tv] 277 (0, 0))
  obase : base ≤ ob
  tbase : base ≤ tb
  map : w.heap[tb]? = some (.map (stE K s.st) K.length)
  nodup : K.Nodup
  lt : ∀ k ∈ K, k < 8
  zero : ∀ q, q < 8 → q ∉ K → s.st q = 0
  some_ : ∀ q ∈ K, s.st q = 1 ∨ s.st q = 2
  steps : w.ownsRow base 362 2 sv Z.length (zcells Z)
  zs : (Z.map fun z => (z.1, z.2.1)).reverse = s.steps
  rows : ∀ z ∈ X ++ Z, TR base tv.ownBlock w z.2.2 z.2.1
  list : w.ownsRow base 9 1 tv s.list.length (pcells s.list)
def OrdIs (X : List (Nat × List Nat × Value)) (base ob : Nat) (lm ls : Value) (w : World) (s : B.S) : Prop := ∃ tb sv tv K Z, OrdAt X base ob lm ls w s tb sv tv K Z
/-- What a step may turn keeps the rest. -/
theorem OrdAt.kept {X : List (Nat × List Nat × Value)} {base ob : Nat} {lm ls : Value} {w w' : World} {s : B.S} {tb : Nat} {sv tv : Value} {K : List Nat} {Z : List (Nat × List Nat × Value)} (h : OrdAt X base ob lm ls w s tb sv tv K Z) (hs : ∀ {b : Nat} {x : Obj}, w.heap[b]? = some x → w'.heap[b]? = some x) : OrdAt X base ob lm ls w' s tb sv tv K Z := by
  refine ⟨hs h.box, h.obase, h.tbase, hs h.map, h.nodup, h.lt, h.zero, h.some_, ⟨h.steps.1, ?_⟩, h.zs, fun z hz => ?_, ⟨h.list.1, ?_⟩⟩
  · rcases h.steps.2 with h | ⟨g, cap, cur, e, h1, hg, hr⟩
    · exact Or.inl h
    · exact Or.inr ⟨g, cap, cur, e, h1, hs hg, hr⟩
  · rcases h.rows z hz with h | ⟨g, off, c, cur, h1, h2, h3, h4, h5, h6⟩
    · exact Or.inl h
    · exact Or.inr ⟨g, off, c, cur, h1, h2, h3, h4, hs h5, h6⟩
  · rcases h.list.2 with h | ⟨g, cap, cur, e, h1, hg, hr⟩
    · exact Or.inl h
    · exact Or.inr ⟨g, cap, cur, e, h1, hs hg, hr⟩
theorem below_some {w w' : World} (hb : Below w.heap.size w w') {b : Nat} {x : Obj} (h : w.heap[b]? = some x) : w'.heap[b]? = some x := by
  rw [hb.block b (Array.getElem?_eq_some_iff.1 h).1]; exact h
theorem OrdAt.cells {X : List (Nat × List Nat × Value)} {base ob : Nat} {lm ls : Value} {w : World} {s : B.S} {tb : Nat} {sv tv : Value} {K : List Nat} {Z : List (Nat × List Nat × Value)} (h : OrdAt X base ob lm ls w s tb sv tv K Z) :
    w.cell? ⟨ob, 0, none⟩ = some lm ∧ w.cell? ⟨ob, 1, none⟩ = some ls ∧ w.cell? ⟨ob, 2, none⟩ = some (.map (some tb)) ∧ w.cell? ⟨ob, 3, none⟩ = some sv ∧ w.cell? ⟨ob, 4, none⟩ = some tv := by
  refine ⟨?_, ?_, ?_, ?_, ?_⟩ <;> (rw [Lib.cell_of_heap h.box]; rfl)
/-- What comes of coming to a package. -/
def Comes (X : List (Nat × List Nat × Value)) (D : Nat → List Nat) (base ob : Nat) (lm ls : Value) (s : B.S) (q : Nat) (w : World) (e : Ending) (w' : World) : Prop :=
  Below base w w' ∧
  ((s.st q = 2 ∧ e = .returned .nilIface ∧ OrdIs X base ob lm ls w' s) ∨
   (s.st q = 1 ∧ ∃ v, e = .returned (.iface 96 v) ∧ IsFault w' v 10 0 (xpath q) ⟨#[]⟩) ∨
   (s.st q ≠ 1 ∧ s.st q ≠ 2 ∧ e = .returned .nilIface ∧ ∃ L, (∀ b, b ∈ L ↔ b ∈ D q) ∧ L.length ≤ 8 ∧ OrdIs X base ob lm ls w' { st := B.upd s.st q 1, steps := (q, L) :: s.steps, list := s.list }))
theorem info362 : (Tryz.prog.info? 362).map (fun i => (i.zero, i.size, i.bytes)) = some (some (.agg #[.string ⟨#[]⟩, .slice none 0 0]), 2, 40) := by kernel_rfl

/-- The state of a new package is told. -/
theorem ord_state {X : List (Nat × List Nat × Value)} {base ob : Nat} {lm ls : Value} {w : World} {s : B.S} {tb : Nat} {sv tv : Value} {K : List Nat} {Z : List (Nat × List Nat × Value)} (h : OrdAt X base ob lm ls w s tb sv tv K Z) (q : Nat) (hq : q < 8) (hK : q ∉ K) (w2 : World) (e : w2.heap = w.heap.setIfInBounds tb (.map (stE (K ++ [q]) (B.upd s.st q 1)) (K.length + 1))) :
    OrdAt X base ob lm ls w2 { st := B.upd s.st q 1, steps := s.steps, list := s.list } tb sv tv (K ++ [q]) Z := by
  have htb : tb < w.heap.size := (Array.getElem?_eq_some_iff.1 h.map).1
  have hs : ∀ {b : Nat} {cs : Array Value} {t : TypeId} {f : Nat × Nat}, w.heap[b]? = some (.cells cs t f) → w2.heap[b]? = some (.cells cs t f) := fun {b cs t f} hb => by
    rw [e, Array.getElem?_setIfInBounds_ne (fun e => by rw [← e, h.map] at hb; cases hb)]; exact hb
  refine ⟨hs h.box, h.obase, h.tbase, ?_, ?_, fun k hk => ?_, fun x hx hn => ?_, fun x hx => ?_, ⟨h.steps.1, ?_⟩, h.zs, fun z hz => ?_, ⟨h.list.1, ?_⟩⟩
  · rw [e, Array.getElem?_setIfInBounds_self_of_lt htb, List.length_append]; rfl
  · rw [List.nodup_append]
    refine ⟨h.nodup, by simp, fun a ha b hb e => ?_⟩
    rw [List.mem_singleton] at hb
    exact hK (by rw [← hb, ← e]; exact ha)
  · rcases List.mem_append.1 hk with hk | hk
    · exact h.lt k hk
    · rw [List.mem_singleton] at hk; omega
  · have h1 : x ∉ K := fun hh => hn (List.mem_append_left _ hh)
    have h2 : x ≠ q := fun hh => hn (by simp [hh])
    show B.upd s.st q 1 x = 0
    unfold B.upd; rw [if_neg h2]; exact h.zero x hx h1
  · show B.upd s.st q 1 x = 1 ∨ B.upd s.st q 1 x = 2
    unfold B.upd
    split
    · exact Or.inl rfl
    · rename_i hne
      rcases List.mem_append.1 hx with hx | hx
      · exact h.some_ x hx
      · rw [List.mem_singleton] at hx; exact absurd hx hne
  · rcases h.steps.2 with h | ⟨g, cap, cur, e, h1, hg, hr⟩
    · exact Or.inl h
    · exact Or.inr ⟨g, cap, cur, e, h1, hs hg, hr⟩
  · rcases h.rows z hz with h | ⟨g, off, c, cur, h1, h2, h3, h4, h5, h6⟩
    · exact Or.inl h
    · exact Or.inr ⟨g, off, c, cur, h1, h2, h3, h4, hs h5, h6⟩
  · rcases h.list.2 with h | ⟨g, cap, cur, e, h1, hg, hr⟩
    · exact Or.inl h
    · exact Or.inr ⟨g, cap, cur, e, h1, hs hg, hr⟩
/-- The way has grown by one. -/
theorem ord_push {X : List (Nat × List Nat × Value)} {base ob : Nat} {lm ls : Value} {w : World} {s : B.S} {tb : Nat} {sv tv : Value} {K : List Nat} {Z : List (Nat × List Nat × Value)} {o : Obj} {q : Nat} {L : List Nat} {iv sv' : Value} {w3 : World} (h : OrdAt X base ob lm ls w s tb sv tv K Z)
    (ht : TR base tv.ownBlock w iv L) (hg : (w.alloc o).grownBy w3 sv.ownBlock) (ho : w3.ownsRow base 362 2 sv' (Z.length + 1) (zcells Z ++ [.string (xpath q), iv])) :
    OrdAt X base ob lm ls (w3.setCell ⟨ob, 3, none⟩ sv') { st := s.st, steps := (q, L) :: s.steps, list := s.list } tb sv' tv K (Z ++ [(q, L, iv)]) ∧ w3.cell? ⟨ob, 3, none⟩ = some sv ∧ w3.frozen? ⟨ob, 3, none⟩ = false := by
  have hs : ∀ {b : Nat} {x : Obj}, w.heap[b]? = some x → (∀ cur, x ≠ .cells cur 362 (0, 0)) → w3.heap[b]? = some x := fun {b x} hb hx => by
    have hlt : b < w.heap.size := (Array.getElem?_eq_some_iff.1 hb).1
    rw [hg.block b (by rw [alloc_size]; omega) (fun e => ?_), alloc_else _ _ _ hlt]
    · exact hb
    · obtain ⟨cur, h1, _⟩ := own_block h.steps e.symm
      rw [hb] at h1
      injection h1 with h1
      exact hx cur h1
  have hbox := hs h.box (fun cur e => by cases e)
  have hne : ∀ b, b ≠ ob → (w3.setCell ⟨ob, 3, none⟩ sv').heap[b]? = w3.heap[b]? := fun b hb => Below.heap_setCell _ _ _ _ hb
  have hs2 : ∀ {b : Nat} {x : Obj}, w.heap[b]? = some x → (∀ cur, x ≠ .cells cur 362 (0, 0)) → (∀ cs, x ≠ .cells cs 277 (0, 0)) → (w3.setCell ⟨ob, 3, none⟩ sv').heap[b]? = some x := fun {b x} hb h1 h2 => by
    rw [hne b (fun e => by subst e; rw [h.box] at hb; injection hb with hb; exact h2 _ hb.symm)]; exact hs hb h1
  have htr : ∀ v l, TR base tv.ownBlock w v l → TR base tv.ownBlock (w3.setCell ⟨ob, 3, none⟩ sv') v l := fun v l ht => by
    rcases ht with ht | ⟨g, off, c, cur, h1, h2, h3, h4, h5, h6⟩
    · exact Or.inl ht
    · exact Or.inr ⟨g, off, c, cur, h1, h2, h3, h4, hs2 h5 (fun cur e => by cases e) (fun cs e => by cases e), h6⟩
  refine ⟨⟨?_, h.obase, h.tbase, ?_, h.nodup, h.lt, h.zero, h.some_, ?_, ?_, fun z hz => ?_, ⟨h.list.1, ?_⟩⟩, by rw [Lib.cell_of_heap hbox]; rfl, Lib.frozen_of_heap hbox _⟩
  · rw [heap_setCell_same _ _ _ _ _ _ hbox]; rfl
  · exact hs2 h.map (fun cur e => by cases e) (fun cs e => by cases e)
  · rw [zcells_snoc, List.length_append]
    refine ⟨ho.1, ?_⟩
    rcases ho.2 with h | ⟨g, cap, cur, e, h1, hg', hr⟩
    · exact Or.inl h
    · exact Or.inr ⟨g, cap, cur, e, h1, by rw [hne g (fun e => by subst e; rw [hbox] at hg'; cases hg')]; exact hg', hr⟩
  · rw [List.map_append, List.reverse_append, h.zs]; rfl
  · rw [← List.append_assoc] at hz
    rcases List.mem_append.1 hz with hz | hz
    · exact htr _ _ (h.rows z hz)
    · rw [List.mem_singleton] at hz
      subst hz
      exact htr _ _ ht
  · rcases h.list.2 with h | ⟨g, cap, cur, e, h1, hg', hr⟩
    · exact Or.inl h
    · exact Or.inr ⟨g, cap, cur, e, h1, hs2 hg' (fun cur e => by cases e) (fun cs e => by cases e), hr⟩
theorem tr_of {w w' : World} {base : Nat} {v tv : Value} {L l : List Nat} (ho : w'.ownsRow w.heap.size 9 1 v L.length (pcells L)) (hb : base ≤ w.heap.size) (ht : w.ownsRow base 9 1 tv l.length (pcells l)) : TR base tv.ownBlock w' v L := by
  rcases ho.2 with ⟨h1, h2⟩ | ⟨g, cap, cur, e, h1, h2, h3, h4, h5, h6⟩
  · exact Or.inl ⟨List.eq_nil_of_length_eq_zero h2, none, 0, h1⟩
  · refine Or.inr ⟨g, 0, cap, cur, e, by omega, fun e => ?_, h3, h2, fun j hj => ?_⟩
    · obtain ⟨c, hc, _⟩ := own_block ht e
      have := (Array.getElem?_eq_some_iff.1 hc).1
      omega
    · have h7 : (pcells L)[j]? = some (.string (xpath L[j])) := by simp [pcells, hj]
      rw [← h6, List.getElem?_take, if_pos (by omega), Array.getElem?_toList] at h7
      rw [Nat.zero_add]; exact h7

set_option maxHeartbeats 3200000 in
set_option maxRecDepth 100000 in
theorem comeTo_any (X : List (Nat × List Nat × Value)) (D : Nat → List Nat) (Bl ob q : Nat) (lm ls : Value) (m : Int) (wb w : World) (s : B.S) (hq : q < 8) (hD : ∀ a, ∀ d ∈ D a, d < 8) (hDl : ∀ a, (D a).length ≤ 8)
    (hm : wb.cell? ⟨0, 0, none⟩ = some (.int .i64 m)) (hl : Library Bl (fun x => fileData (D x)) wb (.agg #[lm, ls])) (hwb : Below wb.heap.size wb w) (h : OrdIs X wb.heap.size ob lm ls w s) (hlen : s.steps.length ≤ 8) :
    Calls Tryz.prog 238 #[.pointer (some ⟨ob, 0, none⟩), .string (xpath q)] w (Comes X D wb.heap.size ob lm ls s q w) := by
  obtain ⟨i0, hi, hz0, hz1, hz2⟩ := info_parts info362
  obtain ⟨tb, sv, tv, K, Z, hO⟩ := h
  obtain ⟨c0, c1, c2, c3, c4⟩ := hO.cells
  have hlk := look_state tb K.length K s.st hO.lt hO.zero q hq w hO.map
  have HO := hide hO
  unfold Comes
  rcases Nat.lt_trichotomy (s.st q) 1 with h1 | h1 | h1
  · have hK : q ∉ K := fun hk => by rcases hO.some_ q hk with h | h <;> omega
    have e1 : (s.st q : Int) = 0 := by omega
    rw [e1] at hlk
    have HS := hide (show s.st q ≠ 1 ∧ s.st q ≠ 2 from ⟨by omega, by omega⟩)
    clear h1 e1 hO
    obtain ⟨mb, lsv, lss, hlv, -⟩ := id hl
    injection hlv with hlv
    have HLM := hide (hl.later hwb)
    have hm' := keep hwb hm
    go_enter Tryz.func238, Tryz.ntmps238
    go_wp2_with fail
    refine (pimports_any Bl q D _ m _ hq (hD q) (hDl q) hm' (by simp only [← hlv]; exact HLM.out)).mono ?_
    rintro e w1 ⟨L, iv, rfl, hio, hmem, hlen', hb1⟩
    have hO1 := HO.out.kept (fun h => below_some hb1 h)
    have HT := hide (tr_of (base := wb.heap.size) hio hwb.size HO.out.list)
    have HM := hide hmem
    have HB1 := hide hb1
    obtain ⟨d0, d1, d2, d3, d4⟩ := hO1.cells
    have hput := put_state_new tb K s.st hO1.lt q hq hK w1 hO1.map
    generalize hw2 : ({ w1 with heap := w1.heap.setIfInBounds tb (.map (stE (K ++ [q]) (B.upd s.st q 1)) (K.length + 1)) } : World) = w2 at hput
    have hO2 := ord_state hO1 q hq hK w2 (by rw [← hw2])
    have HB2 : Hid (Below wb.heap.size w w2) := by
      refine hide ((hb1.mono hwb.size).trans ?_)
      rw [← hw2]
      exact ⟨rfl, rfl, rfl, by simp, fun b hb => Array.getElem?_setIfInBounds_ne (by have := hO1.tbase; omega)⟩
    have HT2 : Hid (TR wb.heap.size tv.ownBlock w2 iv L) := by
      refine hide ?_
      rcases HT.out with h | ⟨g, off, c, cur, h1, h2, h3, h4, h5, h6⟩
      · exact Or.inl h
      · refine Or.inr ⟨g, off, c, cur, h1, h2, h3, h4, ?_, h6⟩
        rw [← hw2]
        show (w1.heap.setIfInBounds tb _)[g]? = _
        rw [Array.getElem?_setIfInBounds_ne (fun e => by rw [← e, hO1.map] at h5; cases h5)]; exact h5
    obtain ⟨-, -, -, f3, -⟩ := hO2.cells
    have HO2 := hide hO2
    have HOW := hide hO2.steps
    have hZ : Z.length ≤ 8 := by
      have := congrArg List.length hO2.zs
      simp at this
      omega
    have hivf : ∃ a c, iv = .slice a L.length c := own_form hio
    obtain ⟨ia, ic, rfl⟩ := hivf
    clear hio hmem hb1 hO1 hO2 hw2
    have hsz2 : wb.heap.size ≤ w2.heap.size := Nat.le_trans hwb.size HB2.out.size
    go_wp2_with (at_builtin; refine wpList_append_own _ rfl _ _ 275 rfl wb.heap.size 362 i0 (.agg #[.string ⟨#[]⟩, .slice none 0 0]) 2 40 Tryz.underlying275 hi hz0 hz1 hz2 rfl (by decide) _ _ _ rfl (HOW.out.alloc _) ⟨w2.heap.size, 0, none⟩ 1 1 [.string (xpath q), .slice ia L.length ic] rfl rfl ?c1 ?c2 ?c3 ?c4 ?c5 ?_)
    case c1 =>
      intro j u hj
      match j, hj with
      | 0, hj => simp at hj; subst hj; simp [Addr.add]
      | 1, hj => simp at hj; subst hj; simp [Addr.add]
    case c2 => intro u hu; simp at hu; rcases hu with rfl | rfl <;> rfl
    case c3 => unfold maxLen; omega
    case c4 => omega
    case c5 => rw [alloc_size]; omega
    intro v' w3 hown' hgrow _
    obtain ⟨hP, t1, t2⟩ := ord_push (q := q) (L := L) HO2.out HT2.out hgrow hown'
    have hb3 : Below wb.heap.size w (w3.setCell ⟨ob, 3, none⟩ v') := by
      have h1 := (HB2.out.alloc hsz2 (.cells #[.string (xpath q), .slice ia L.length ic] 362)).grown hgrow (by rw [alloc_size]; omega) (fun j hj => (own_block HOW.out hj).choose_spec.2)
      exact h1.setCell (p := ⟨ob, 3, none⟩) HO2.out.obase _
    have R := hide (And.intro hP hb3)
    obtain ⟨va, vc, rfl⟩ := own_form hown'
    clear hP hb3 hown' hgrow
    go_wp2
    go_ret
    exact ⟨R.out.2, Or.inr (Or.inr ⟨HS.out.1, HS.out.2, rfl, L, HM.out, hlen', tb, _, tv, _, _, R.out.1⟩)⟩
  · have HS := hide h1
    have e1 : (s.st q : Int) = 1 := by omega
    rw [e1] at hlk
    clear h1 e1
    go_enter Tryz.func238, Tryz.ntmps238
    go_wp2_with fail
    refine (faultOf_any 10 (xpath q) ⟨#[]⟩ _ (by show (3 : Nat) ≤ _; omega) (by show (0 : Nat) ≤ _; omega)).mono ?_
    rintro e w1 ⟨v, rfl, hf, hb⟩
    have HF := hide hf
    have HB := hide hb
    clear hf hb
    go_wp2_with fail
    go_ret
    exact ⟨HB.out.mono hwb.size, Or.inr (Or.inl ⟨HS.out, v, rfl, HF.out⟩)⟩
  · have h2 : ¬ s.st q < 2 ∨ s.st q ≠ 2 ∨ True := Or.inr (Or.inr trivial)
    clear h2
    have hst : s.st q = 2 := by
      by_cases hk : q ∈ K
      · rcases hO.some_ q hk with h | h <;> omega
      · have := hO.zero q hq hk; omega
    have HS := hide hst
    have e1 : (s.st q : Int) = 2 := by omega
    rw [e1] at hlk
    clear h1 e1 hst hO
    go_enter Tryz.func238, Tryz.ntmps238
    go_wp2_with fail
    go_ret
    exact ⟨Below.refl _ _, Or.inl ⟨HS.out, rfl, tb, sv, tv, K, Z, HO.out⟩⟩
end Go.Proofs.YtcfhleenecfghaaGreatDoor

namespace Go.Proofs.YtcfhleenecfghaaGreatDoor
open Go.RowKit

theorem z_last {Z : List (Nat × List Nat × Value)} {p : Nat} {l : List Nat} {r : List (Nat × List Nat)} (h : (Z.map fun z => (z.1, z.2.1)).reverse = (p, l) :: r) : ∃ Z' iv, Z = Z' ++ [(p, l, iv)] ∧ (Z'.map fun z => (z.1, z.2.1)).reverse = r := by
  rcases List.eq_nil_or_concat Z with rfl | ⟨Z', z, rfl⟩
  · simp at h
  · rw [List.concat_eq_append] at h ⊢
    rw [List.map_append, List.reverse_append] at h
    simp only [List.map_cons, List.map_nil, List.reverse_cons, List.reverse_nil, List.nil_append, List.cons_append, List.cons.injEq, Prod.mk.injEq] at h
    obtain ⟨⟨h1, h2⟩, h3⟩ := h
    refine ⟨Z', z.2.2, ?_, h3⟩
    rw [← h1, ← h2]
theorem setc_some {w : World} {ob i : Nat} {v : Value} {b : Nat} {x : Obj} (hb : w.heap[b]? = some x) (hne : b ≠ ob) : (w.setCell ⟨ob, i, none⟩ v).heap[b]? = some x := by
  rw [Below.heap_setCell _ _ _ _ hne]; exact hb
/-- The way is shorter by one. -/
theorem ord_pop {X : List (Nat × List Nat × Value)} {base ob : Nat} {lm ls : Value} {w : World} {s : B.S} {tb g cap : Nat} {tv : Value} {K : List Nat} {Z : List (Nat × List Nat × Value)} {z : Nat × List Nat × Value} {r : List (Nat × List Nat)}
    (h : OrdAt X base ob lm ls w s tb (.slice (some ⟨g, 0, none⟩) (Z.length + 1) cap) tv K (Z ++ [z])) (hr : (Z.map fun z => (z.1, z.2.1)).reverse = r) (w' : World) (hw' : w'.heap = (w.setCell ⟨ob, 3, none⟩ (.slice (some ⟨g, 0, none⟩) Z.length cap)).heap) :
    OrdAt X base ob lm ls w' { st := s.st, steps := r, list := s.list } tb (.slice (some ⟨g, 0, none⟩) Z.length cap) tv K Z := by
  have hs : ∀ {b : Nat} {x : Obj}, w.heap[b]? = some x → (∀ cs, x ≠ .cells cs 277 (0, 0)) → w'.heap[b]? = some x := fun {b x} hb h2 => by
    rw [hw', Below.heap_setCell _ _ _ _ (fun e => by subst e; rw [h.box] at hb; injection hb with hb; exact h2 _ hb.symm)]; exact hb
  refine ⟨?_, h.obase, h.tbase, hs h.map (fun cs e => by cases e), h.nodup, h.lt, h.zero, h.some_, ⟨by rw [zcells_len], ?_⟩, hr, fun y hy => ?_, ⟨h.list.1, ?_⟩⟩
  · rw [hw', heap_setCell_same _ _ _ _ _ _ h.box]; rfl
  · rcases h.steps.2 with ⟨h0, _⟩ | ⟨g', cap', cur, e, h1, h2, h3, h4, h5, h6⟩
    · cases h0
    · injection e with e1 _ e3
      injection e1 with e1
      injection e1 with e1
      subst e1 e3
      rw [List.length_append] at h3 h6
      simp only [List.length_cons, List.length_nil] at h3 h6
      refine Or.inr ⟨g, cap, cur, rfl, h1, hs h2 (fun cs e => by cases e), by omega, h4, h5, ?_⟩
      have h7 := congrArg (List.take (Z.length * 2)) h6
      rw [List.take_take, Nat.min_eq_left (by omega), zcells_snoc, List.take_append_of_le_length (by rw [zcells_len]; omega)] at h7
      rw [h7, List.take_of_length_le (by rw [zcells_len]; omega)]
  · rcases h.rows y (by rw [← List.append_assoc]; exact List.mem_append_left _ hy) with h | ⟨g, off, c, cur, h1, h2, h3, h4, h5, h6⟩
    · exact Or.inl h
    · exact Or.inr ⟨g, off, c, cur, h1, h2, h3, h4, hs h5 (fun cs e => by cases e), h6⟩
  · rcases h.list.2 with h | ⟨g, cap, cur, e, h1, hg', hr⟩
    · exact Or.inl h
    · exact Or.inr ⟨g, cap, cur, e, h1, hs hg' (fun cs e => by cases e), hr⟩
/-- It is told. -/
theorem ord_told {X : List (Nat × List Nat × Value)} {base ob : Nat} {lm ls : Value} {w : World} {s : B.S} {tb : Nat} {sv tv : Value} {K : List Nat} {Z : List (Nat × List Nat × Value)} (h : OrdAt X base ob lm ls w s tb sv tv K Z) (q : Nat) (w2 : World) (hq : q ∈ K) (e : w2.heap = w.heap.setIfInBounds tb (.map (stE K (B.upd s.st q 2)) K.length)) :
    OrdAt X base ob lm ls w2 { st := B.upd s.st q 2, steps := s.steps, list := s.list } tb sv tv K Z := by
  have htb : tb < w.heap.size := (Array.getElem?_eq_some_iff.1 h.map).1
  have hs : ∀ {b : Nat} {cs : Array Value} {t : TypeId} {f : Nat × Nat}, w.heap[b]? = some (.cells cs t f) → w2.heap[b]? = some (.cells cs t f) := fun {b cs t f} hb => by
    rw [e, Array.getElem?_setIfInBounds_ne (fun e => by rw [← e, h.map] at hb; cases hb)]; exact hb
  refine ⟨hs h.box, h.obase, h.tbase, ?_, h.nodup, h.lt, fun x hx hn => ?_, fun x hx => ?_, ⟨h.steps.1, ?_⟩, h.zs, fun z hz => ?_, ⟨h.list.1, ?_⟩⟩
  · rw [e, Array.getElem?_setIfInBounds_self_of_lt htb]
  · show B.upd s.st q 2 x = 0
    unfold B.upd; rw [if_neg (fun e => hn (by rw [e]; exact hq))]; exact h.zero x hx hn
  · show B.upd s.st q 2 x = 1 ∨ B.upd s.st q 2 x = 2
    unfold B.upd
    split
    · exact Or.inr rfl
    · exact h.some_ x hx
  · rcases h.steps.2 with h | ⟨g, cap, cur, e, h1, hg, hr⟩
    · exact Or.inl h
    · exact Or.inr ⟨g, cap, cur, e, h1, hs hg, hr⟩
  · rcases h.rows z hz with h | ⟨g, off, c, cur, h1, h2, h3, h4, h5, h6⟩
    · exact Or.inl h
    · exact Or.inr ⟨g, off, c, cur, h1, h2, h3, h4, hs h5, h6⟩
  · rcases h.list.2 with h | ⟨g, cap, cur, e, h1, hg, hr⟩
    · exact Or.inl h
    · exact Or.inr ⟨g, cap, cur, e, h1, hs hg, hr⟩

theorem ord_heap {X : List (Nat × List Nat × Value)} {base ob : Nat} {lm ls : Value} {w w' : World} {s : B.S} (h : OrdIs X base ob lm ls w s) (e : w'.heap = w.heap) : OrdIs X base ob lm ls w' s := by
  obtain ⟨tb, sv, tv, K, Z, hO⟩ := h
  exact ⟨tb, sv, tv, K, Z, hO.kept fun hb => by rw [e]; exact hb⟩
theorem take_push {cur : Array Value} {n : Nat} {xs : List Value} {v : Value} (hsz : n + 1 ≤ cur.size) (ht : cur.toList.take n = xs) (hx : xs.length = n) : (cur.setIfInBounds n v).toList.take (n + 1) = xs ++ [v] := by
  have h1 : cur.toList.take (n + 1) = xs ++ [cur[n]] := by
    rw [List.take_succ_eq_append_getElem (by rw [Array.length_toList]; omega), ht]; simp
  exact take_set hsz h1 hx
/-- A call as one step of a statement that leaves its order open. -/
theorem step_calls {P : Program} {ops : Array Oper} {o : Oper} {a : Act} {w : World} {K : Act → World → Prop} {Q : Exit → Act → World → Prop} {E : Prop} (hg : o.guard = none) (f : FuncId) (args : Array Value) (hrun : (execOp a.eval o).run P w = .ok (.enter f args) w) (v : Value) (C : World → Prop)
    (hc : Calls P f args w fun e w' => e = .returned v ∧ C w') (hK : ∀ w', C w' → K (a.put o.dst v) w') : if Region.wanted o (yielded ops a.tmps) = true then Oper.wp P o a w K Q else E := by
  have hw : Region.wanted o (yielded ops a.tmps) = true := by simp [Region.wanted, hg]
  rw [if_pos hw]
  unfold Oper.wp
  rw [hrun, Oper.upon_enter]
  refine hc.mono fun e w'' hh => ?_
  obtain ⟨rfl, hC⟩ := hh
  exact hK _ hC
theorem enter86 (args : Array Value) (w : World) : (callFunc 86 args).run Tryz.prog w = .ok (.enter 86 args) w := by
  exact enters_of Tryz.func86 (by kernel_rfl) rfl args w
/-- The list has grown by one. -/
theorem ord_list {X : List (Nat × List Nat × Value)} {base ob : Nat} {lm ls : Value} {W : World} {s : B.S} {tb : Nat} {sv tv : Value} {K : List Nat} {Z : List (Nat × List Nat × Value)} (h : OrdAt X base ob lm ls W s tb sv tv K Z) (p : Nat) (tv' : Value) (w3 : World)
    (hsame : ∀ {b : Nat} {x : Obj}, W.heap[b]? = some x → tv.ownBlock ≠ some b → w3.heap[b]? = some x) (ho : w3.ownsRow base 9 1 tv' (s.list.length + 1) (pcells s.list ++ [.string (xpath p)])) (hsep : ∀ g, tv'.ownBlock = some g → tv.ownBlock = some g ∨ W.heap.size ≤ g) :
    OrdAt X base ob lm ls (w3.setCell ⟨ob, 4, none⟩ tv') { st := s.st, steps := s.steps, list := s.list ++ [p] } tb sv tv' K Z ∧ w3.cell? ⟨ob, 4, none⟩ = some tv ∧ w3.frozen? ⟨ob, 4, none⟩ = false := by
  have hty : ∀ {b : Nat} {x : Obj}, W.heap[b]? = some x → (∀ cs, x ≠ .cells cs 9 (0, 0)) → tv.ownBlock ≠ some b := fun {b x} hb hx e => by
    obtain ⟨cur, h1, _⟩ := own_block h.list e
    rw [hb] at h1
    injection h1 with h1
    exact hx cur h1
  have hbox := hsame h.box (hty h.box (fun cs e => by cases e))
  have hne : ∀ b, b ≠ ob → (w3.setCell ⟨ob, 4, none⟩ tv').heap[b]? = w3.heap[b]? := fun b hb => Below.heap_setCell _ _ _ _ hb
  have hob : ∀ {b : Nat} {x : Obj}, W.heap[b]? = some x → (∀ cs, x ≠ .cells cs 277 (0, 0)) → b ≠ ob := fun {b x} hb hx e => by
    subst e; rw [h.box] at hb; injection hb with hb; exact hx _ hb.symm
  refine ⟨⟨?_, h.obase, h.tbase, ?_, h.nodup, h.lt, h.zero, h.some_, ⟨h.steps.1, ?_⟩, h.zs, fun z hz => ?_, ?_⟩, by rw [Lib.cell_of_heap hbox]; rfl, Lib.frozen_of_heap hbox _⟩
  · rw [heap_setCell_same _ _ _ _ _ _ hbox]; rfl
  · rw [hne tb (hob h.map (fun cs e => by cases e))]; exact hsame h.map (hty h.map (fun cs e => by cases e))
  · rcases h.steps.2 with h0 | ⟨g, cap, cur, e, h1, hg, hr⟩
    · exact Or.inl h0
    · exact Or.inr ⟨g, cap, cur, e, h1, by rw [hne g (hob hg (fun cs e => by cases e))]; exact hsame hg (hty hg (fun cs e => by cases e)), hr⟩
  · rcases h.rows z hz with h0 | ⟨g, off, c, cur, h1, h2, h3, h4, h5, h6⟩
    · exact Or.inl h0
    · refine Or.inr ⟨g, off, c, cur, h1, h2, fun e => ?_, h4, ?_, h6⟩
      · rcases hsep g e with e | e
        · exact h3 e
        · have := (Array.getElem?_eq_some_iff.1 h5).1; omega
      · rw [hne g (hob h5 (fun cs e => by cases e))]; exact hsame h5 h3
  · have e1 : pcells (s.list ++ [p]) = pcells s.list ++ [.string (xpath p)] := by simp [pcells]
    rw [e1, List.length_append]
    refine ⟨ho.1, ?_⟩
    rcases ho.2 with h0 | ⟨g, cap, cur, e, h1, hg, hr⟩
    · exact Or.inl h0
    · exact Or.inr ⟨g, cap, cur, e, h1, by rw [hne g (fun e => by subst e; rw [hbox] at hg; cases hg)]; exact hg, hr⟩

set_option maxHeartbeats 3200000 in
set_option maxRecDepth 100000 in
theorem tell_any (X : List (Nat × List Nat × Value)) (base ob p : Nat) (lm ls : Value) (w : World) (s : B.S) (r : List (Nat × List Nat)) (hp : p < 8) (hbase : base ≤ w.heap.size) (h : OrdIs X base ob lm ls w s) (hs : s.steps = (p, []) :: r) (hst : s.st p = 1) (hll : s.list.length ≤ 8) (hrl : r.length ≤ 8) :
    Calls Tryz.prog 239 #[.pointer (some ⟨ob, 0, none⟩), .string (xpath p)] w fun e w' => e = .returned (.tuple #[]) ∧ OrdIs X base ob lm ls w' (B.tell p r s) ∧ Below base w w' := by
  obtain ⟨i0, hi, hz0, hz1, hz2⟩ := info_parts info9
  obtain ⟨tb, sv, tv, K, Z, hO⟩ := h
  obtain ⟨Z', iv, rfl, hr⟩ := z_last (hO.zs.trans hs)
  have hpK : p ∈ K := Classical.byContradiction fun hn => by have := hO.zero p hp hn; omega
  obtain ⟨g, cap, rfl⟩ := own_some hO.steps (by rw [List.length_append]; simp)
  have hlen : (Z' ++ [(p, ([] : List Nat), iv)]).length = Z'.length + 1 := by simp
  rw [hlen] at hO
  obtain ⟨c0, c1, c2, c3, c4⟩ := hO.cells
  have hcap : Z'.length + 1 ≤ cap := by
    rcases hO.steps.2 with ⟨h0, _⟩ | ⟨g', cap', cur, e, h1, h2, h3, h4, h5, h6⟩
    · cases h0
    · injection e with e1 _ e3
      subst e3
      rw [hlen] at h3; exact h3
  have f3 : w.frozen? ⟨ob, 3, none⟩ = false := Lib.frozen_of_heap hO.box 3
  have HO := hide hO
  have HR := hide hr
  have hz8 : Z'.length ≤ 8 := by have := congrArg List.length hr; simp at this; omega
  clear hO hr hlen
  have hsub : ((Z'.length + 1 : Nat) : Int) - 1 = (Z'.length : Int) := by omega
  have hsub' : ((Z'.length : Int) + 1) - 1 = (Z'.length : Int) := by omega
  have hcapI : (Z'.length : Int) ≤ (cap : Int) := by omega
  have hpos : 0 ≤ (Z'.length : Int) := by omega
  go_enter Tryz.func239, Tryz.ntmps239
  go_wp2_with fail
  go_region
  generalize hW1 : (w.setCell ⟨ob, 3, none⟩ (.slice (some ⟨g, 0, none⟩) Z'.length cap)).drew = W1
  have hO1 := ord_pop HO.out HR.out W1 (by rw [← hW1]; rfl)
  have HB1 : Hid (Below base w W1) := by
    refine hide ?_
    have h1 := (Below.refl base w).setCell (p := ⟨ob, 3, none⟩) HO.out.obase (.slice (some ⟨g, 0, none⟩) Z'.length cap)
    rw [← hW1]
    exact ⟨h1.os, h1.tape, h1.output, h1.size, h1.block⟩
  have hput := put_state_old tb K.length K s.st hO1.lt hO1.nodup p hp hpK W1 hO1.map
  obtain ⟨-, -, d2, -, d4⟩ := hO1.cells
  generalize hW2 : ({ W1 with heap := W1.heap.setIfInBounds tb (.map (stE K (B.upd s.st p 2)) K.length) } : World) = W2 at hput
  have hO2 := ord_told hO1 p W2 hpK (by rw [← hW2])
  have HB2 : Hid (Below base w W2) := by
    refine hide (HB1.out.trans ?_)
    rw [← hW2]
    exact ⟨rfl, rfl, rfl, by simp, fun b hb => Array.getElem?_setIfInBounds_ne (by have := hO1.tbase; omega)⟩
  obtain ⟨-, -, -, -, e4⟩ := hO2.cells
  have HO2 := hide hO2
  clear hO1 hO2 hW1 hW2 HB1 HO c0 c1 c2 c3 c4 f3 hsub hsub' hcapI hpos
  obtain ⟨ta, tc, rfl⟩ := own_form HO2.out.list
  simp only at e4 HO2
  have hbs2 : base ≤ W2.heap.size := Nat.le_trans hbase HB2.out.size
  have HSTEP : Hid (∀ (Y v' w' : _), True → True) := hide fun (_ : World) (_ : Value) (_ : World) _ => trivial
  clear HSTEP
  go_wp2_with fail
  by_cases hroom : s.list.length + 1 ≤ tc
  · obtain ⟨tg, cur, rfl, hlb, hhp, hcm, hcs, htk⟩ : ∃ tg cur, ta = some ⟨tg, 0, none⟩ ∧ base ≤ tg ∧ W2.heap[tg]? = some (.cells cur 9 (0, 0)) ∧ tc ≤ maxLen ∧ cur.size = tc ∧ cur.toList.take s.list.length = pcells s.list := by
      rcases HO2.out.list.2 with ⟨h0, h1⟩ | ⟨g', cap', cur, e, h1, h2, h3, h4, h5, h6⟩
      · injection h0 with _ h2 h3
        omega
      · injection e with e1 _ e3
        subst e3
        exact ⟨g', cur, e1, h1, h2, h4, by simpa using h5, by simpa using h6⟩
    have HFIN : Hid (∀ Y : World, Below W2.heap.size W2 Y → (∀ j, j < 1 → (Y.cell? ⟨tg, 0 + s.list.length * 1 + j, none⟩).isSome = true ∧ Y.frozen? ⟨tg, 0 + s.list.length * 1 + j, none⟩ = false) ∧ (Y.setCells tg (0 + s.list.length * 1) [.string (xpath p)]).cell? ⟨ob, 4, none⟩ = some (.slice (some ⟨tg, 0, none⟩) s.list.length tc) ∧ (Y.setCells tg (0 + s.list.length * 1) [.string (xpath p)]).frozen? ⟨ob, 4, none⟩ = false ∧
        OrdIs X base ob lm ls ((Y.setCells tg (0 + s.list.length * 1) [.string (xpath p)]).setCell ⟨ob, 4, none⟩ (.slice (some ⟨tg, 0, none⟩) (s.list.length + 1) tc)) (B.tell p r s) ∧ Below base w ((Y.setCells tg (0 + s.list.length * 1) [.string (xpath p)]).setCell ⟨ob, 4, none⟩ (.slice (some ⟨tg, 0, none⟩) (s.list.length + 1) tc))) := by
      refine hide fun Y hb => ?_
      have hXt := below_some hb hhp
      have hszz : s.list.length + 1 ≤ cur.size := by omega
      have e0 : 0 + s.list.length * 1 = s.list.length := by omega
      rw [e0]
      have e1 : Y.setCells tg s.list.length [.string (xpath p)] = Y.setCell ⟨tg, s.list.length, none⟩ (.string (xpath p)) := rfl
      rw [e1]
      obtain ⟨q1, q2, q3⟩ := ord_list HO2.out p (.slice (some ⟨tg, 0, none⟩) (s.list.length + 1) tc) (Y.setCell ⟨tg, s.list.length, none⟩ (.string (xpath p))) (fun {b x} hb' hne => by
        rw [Below.heap_setCell _ _ _ _ (fun e => hne (by rw [e]; rfl))]; exact below_some hb hb') (by
        refine ⟨by simp [pcells], Or.inr ⟨tg, tc, cur.setIfInBounds s.list.length (.string (xpath p)), rfl, hlb, heap_setCell_same _ _ _ _ _ _ hXt, hroom, hcm, by rw [Array.size_setIfInBounds]; omega, ?_⟩⟩
        rw [Nat.mul_one]
        exact take_push hszz htk (by simp [pcells])) (fun g e => Or.inl e)
      refine ⟨fun j hj => ?_, q2, q3, ⟨tb, _, _, K, Z', q1⟩, ?_⟩
      · have hj0 : j = 0 := by omega
        subst hj0
        rw [Nat.add_zero]
        refine ⟨?_, Lib.frozen_of_heap hXt _⟩
        rw [Lib.cell_of_heap hXt, Array.getElem?_eq_getElem (by omega)]; rfl
      · have h1 : Below base w (Y.setCell ⟨tg, s.list.length, none⟩ (.string (xpath p))) := (HB2.out.trans (hb.mono hbs2)).setCell (p := ⟨tg, _, none⟩) hlb _
        exact h1.setCell (p := ⟨ob, 4, none⟩) HO2.out.obase _
    have HRM := hide hroom
    clear htk hcs hhp hlb hcm hroom cur
    generalize hnn : s.list.length = n at *
    go_region_law (first
      | (refine step_append_room rfl (.tmp 27) (.tmp 30) 50 rfl 9 i0 1 Tryz.underlying50 hi hz1 tg 0 n tc (by simp [Act.eval]) _ 1 1 [.string (xpath p)] (by simp [Act.eval]; rfl) rfl (by
            intro j u hj
            match j, hj with
            | 0, hj => simp at hj; subst hj; simp [Addr.add]) (by intro u hu; simp at hu; subst hu; rfl) HRM.out (HFIN.out _ ⟨HX.out.os, HX.out.tape, HX.out.output, HX.out.size, HX.out.block⟩).1 ?_; obtain ⟨-, t1, t2, R1, R2⟩ := HFIN.out _ ⟨HX.out.os, HX.out.tape, HX.out.output, HX.out.size, HX.out.block⟩; generalize World.setCells _ tg (0 + n * 1) [.string (xpath p)] = wz at t1 t2 R1 R2 ⊢; have R := hide (And.intro R1 R2); clear R1 R2)
      | (refine step_calls rfl 86 #[.string (xpath p)] (by simp [execOp, resolve, invoke, Deferred.ofValue, Act.eval, Act.put]) (.string (xpath p)) _ (clone_any (xpath p) _ (by show (3 : Nat) ≤ _; omega)) ?_; intro w1 hb1; have hx1 : Below W2.heap.size W2 w1 := ⟨hb1.os, hb1.tape, hb1.output, hb1.size, hb1.block⟩; have HX := hide (hx1.alloc hx1.size (.cells #[.string (xpath p)] 9)); have k4 := keep hx1 e4; have k5 := keepA k4 (.cells #[.string (xpath p)] 9); clear hb1 hx1))
    all_goals
      go_wp2
      go_end0
      first
        | exact ⟨rfl, R.out.1, R.out.2⟩
        | exact ⟨rfl, ord_heap R.out.1 rfl, R.out.2.os, R.out.2.tape, R.out.2.output, R.out.2.size, R.out.2.block⟩
  · have HFIN : Hid (∀ (Y : World) (v' : Value) (w' : World), w'.ownsRow Y.heap.size 9 1 v' (s.list.length + 1) (pcells s.list ++ [.string (xpath p)]) → Y.grownBy w' none → Below W2.heap.size W2 Y → (∃ a c, v' = .slice a (s.list.length + 1) c) ∧ w'.cell? ⟨ob, 4, none⟩ = some (.slice ta s.list.length tc) ∧ w'.frozen? ⟨ob, 4, none⟩ = false ∧ OrdIs X base ob lm ls (w'.setCell ⟨ob, 4, none⟩ v') (B.tell p r s) ∧ Below base w (w'.setCell ⟨ob, 4, none⟩ v')) := by
      refine hide fun Y v' w' ho hg hb => ?_
      have hXs : W2.heap.size ≤ Y.heap.size := hb.size
      obtain ⟨q1, q2, q3⟩ := ord_list HO2.out p v' w' (fun {b x} hb' hne => by
        have hlt : b < W2.heap.size := (Array.getElem?_eq_some_iff.1 hb').1
        rw [hg.block b (by omega) (fun e => by cases e), hb.block b hlt]; exact hb') (by
        refine ⟨ho.1, ?_⟩
        rcases ho.2 with h | ⟨g, cap, cur, e, h1, h2⟩
        · exact Or.inl h
        · exact Or.inr ⟨g, cap, cur, e, by omega, h2⟩) (fun g e => by
        obtain ⟨cur, _, h2⟩ := own_block ho e
        exact Or.inr (by omega))
      refine ⟨own_form ho, q2, q3, ⟨tb, _, v', K, Z', q1⟩, ?_⟩
      have h1 : Below base w w' := HB2.out.trans ⟨hg.os.trans hb.os, hg.tape.trans hb.tape, hg.output.trans hb.output, Nat.le_trans hXs hg.size, fun b hb' => by rw [hg.block b (by omega) (fun e => by cases e), hb.block b (by omega)]⟩
      exact h1.setCell (p := ⟨ob, 4, none⟩) HO2.out.obase _
    have HN : Hid (ta = none → s.list.length = 0 ∧ tc = 0) := hide fun e => by
      rcases HO2.out.list.2 with ⟨h0, h1⟩ | ⟨g, cap, cur, e', _⟩
      · injection h0 with _ h2 h3
        exact ⟨h1, h3⟩
      · injection e' with e1 _ _
        rw [e] at e1; cases e1
    have HOLD : Hid (∀ Y, Below W2.heap.size W2 Y → ∀ b, ta = some b → ∀ (j : Nat) u, (pcells s.list)[j]? = some u → Y.cell? (b.add j) = some u) := hide fun Y hb b hb' j u hj => by
      subst hb'
      obtain ⟨g, cap, e⟩ : ∃ g cap, (.slice (some b) s.list.length tc : Value) = .slice (some ⟨g, 0, none⟩) s.list.length cap := by
        rcases HO2.out.list.2 with ⟨h0, h1⟩ | ⟨g, cap, cur, e', _⟩
        · cases h0
        · exact ⟨g, cap, e'⟩
      injection e with e1 _ e3
      injection e1 with e1
      subst e1 e3
      have h1 := own_cells HO2.out.list j u hj
      rw [show (⟨g, 0, none⟩ : Addr).add j = ⟨g, 0 + j, none⟩ by first | rfl | (unfold Addr.add; split <;> first | rfl | simp_all), Nat.zero_add]
      exact keep hb h1
    have HLN : Hid ((pcells s.list).length = s.list.length * 1) := hide (by simp [pcells])
    have hfull : tc < s.list.length + 1 := by omega
    have HFU := hide hfull
    generalize hxs : pcells s.list = xs at HFIN HOLD HLN
    generalize hnn : s.list.length = n at *
    clear hxs hroom hfull
    go_region_law (first
      | (refine step_append_grows rfl (.tmp 27) (.tmp 30) 50 rfl 9 i0 (.string ⟨#[]⟩) 1 16 Tryz.underlying50 hi hz0 hz1 hz2 rfl (by decide) ta n tc xs (by simp [Act.eval]) HN.out HLN.out (HOLD.out _ ⟨HX.out.os, HX.out.tape, HX.out.output, HX.out.size, HX.out.block⟩) _ 1 1 [.string (xpath p)] (by simp [Act.eval]; rfl) rfl (by
            intro j u hj
            match j, hj with
            | 0, hj => simp at hj; subst hj; simp [Addr.add]) (by intro u hu; simp at hu; subst hu; rfl) HFU.out (by unfold maxLen; omega) (by omega) ?_; intro v' w' hown hgrow; obtain ⟨⟨va, vc, rfl⟩, t1, t2, R1, R2⟩ := HFIN.out _ v' w' hown hgrow ⟨HX.out.os, HX.out.tape, HX.out.output, HX.out.size, HX.out.block⟩; have R := hide (And.intro R1 R2); clear hown hgrow R1 R2)
      | (refine step_calls rfl 86 #[.string (xpath p)] (by simp [execOp, resolve, invoke, Deferred.ofValue, Act.eval, Act.put]) (.string (xpath p)) _ (clone_any (xpath p) _ (by show (3 : Nat) ≤ _; omega)) ?_; intro w1 hb1; have hx1 : Below W2.heap.size W2 w1 := ⟨hb1.os, hb1.tape, hb1.output, hb1.size, hb1.block⟩; have HX := hide (hx1.alloc hx1.size (.cells #[.string (xpath p)] 9)); have k4 := keep hx1 e4; have k5 := keepA k4 (.cells #[.string (xpath p)] 9); clear hb1 hx1))
    all_goals
      go_wp2
      go_end0
      first
        | exact ⟨rfl, R.out.1, R.out.2⟩
        | exact ⟨rfl, ord_heap R.out.1 rfl, R.out.2.os, R.out.2.tape, R.out.2.output, R.out.2.size, R.out.2.block⟩
end Go.Proofs.YtcfhleenecfghaaGreatDoor

namespace Go.Proofs.YtcfhleenecfghaaGreatDoor
open Go.RowKit

theorem exists_min (p : Nat → Prop) : ∀ n, p n → ∃ m, p m ∧ ∀ k, p k → m ≤ k := by
  intro n
  induction n using Nat.strongRecOn with
  | _ n ih =>
    intro hn
    by_cases h : ∃ k, k < n ∧ p k
    · obtain ⟨k, hk, hp⟩ := h
      exact ih k hk hp
    · exact ⟨n, hn, fun k hk => Nat.le_of_not_lt fun hlt => h ⟨k, hlt, hk⟩⟩
/-- How much is left to do in a world: the least that fits. -/
noncomputable def leastLeft (P : World → B.S → Prop) (w : World) : Nat := open Classical in if h : ∃ m, (∃ s, P w s ∧ B.left s = m) ∧ ∀ k, (∃ s, P w s ∧ B.left s = k) → m ≤ k then Classical.choose h else 0
theorem leastLeft_spec {P : World → B.S → Prop} {w : World} {s : B.S} (h : P w s) : ∃ s', P w s' ∧ B.left s' = leastLeft P w ∧ leastLeft P w ≤ B.left s := by
  have hex := exists_min (fun m => ∃ s, P w s ∧ B.left s = m) (B.left s) ⟨s, h, rfl⟩
  have e : leastLeft P w = Classical.choose hex := by
    unfold leastLeft; rw [dif_pos hex]
  obtain ⟨⟨s', h1, h2⟩, h3⟩ := Classical.choose_spec hex
  exact ⟨s', h1, by rw [e]; exact h2, by rw [e]; exact h3 _ ⟨s, h, rfl⟩⟩

/-- The next import is taken off the last step. -/
theorem ord_next {X : List (Nat × List Nat × Value)} {base ob : Nat} {lm ls : Value} {w : World} {s : B.S} {tb g cap p : Nat} {tv iv iv' : Value} {K : List Nat} {Z : List (Nat × List Nat × Value)} {l l' : List Nat} {r : List (Nat × List Nat)}
    (h : OrdAt X base ob lm ls w s tb (.slice (some ⟨g, 0, none⟩) (Z.length + 1) cap) tv K (Z ++ [(p, l, iv)])) (hr : (Z.map fun z => (z.1, z.2.1)).reverse = r) (ht : TR base tv.ownBlock w iv' l') (w' : World) (hw' : w'.heap = (w.setCell ⟨g, Z.length * 2 + 1, none⟩ iv').heap) :
    OrdAt X base ob lm ls w' { st := s.st, steps := (p, l') :: r, list := s.list } tb (.slice (some ⟨g, 0, none⟩) (Z.length + 1) cap) tv K (Z ++ [(p, l', iv')]) := by
  rcases h.steps.2 with ⟨h0, _⟩ | ⟨g', cap', cur, e, h1, h2, h3, h4, h5, h6⟩
  · cases h0
  injection e with e1 _ e3
  injection e1 with e1
  injection e1 with e1
  subst e1 e3
  have hs : ∀ {b : Nat} {x : Obj}, w.heap[b]? = some x → (∀ cs, x ≠ .cells cs 362 (0, 0)) → w'.heap[b]? = some x := fun {b x} hb hx => by
    rw [hw', Below.heap_setCell _ _ _ _ (fun e => by subst e; rw [h2] at hb; injection hb with hb; exact hx _ hb.symm)]; exact hb
  have htr : ∀ v l, TR base tv.ownBlock w v l → TR base tv.ownBlock w' v l := fun v l ht => by
    rcases ht with ht | ⟨g, off, c, cur, k1, k2, k3, k4, k5, k6⟩
    · exact Or.inl ht
    · exact Or.inr ⟨g, off, c, cur, k1, k2, k3, k4, hs k5 (fun cs e => by cases e), k6⟩
  refine ⟨hs h.box (fun cs e => by cases e), h.obase, h.tbase, hs h.map (fun cs e => by cases e), h.nodup, h.lt, h.zero, h.some_, ⟨by rw [zcells_len], ?_⟩, ?_, fun z hz => ?_, ⟨h.list.1, ?_⟩⟩
  · rw [List.length_append] at h3 h6 ⊢
    simp only [List.length_cons, List.length_nil] at h3 h6 ⊢
    refine Or.inr ⟨g, cap, cur.setIfInBounds (Z.length * 2 + 1) iv', rfl, h1, by rw [hw']; exact heap_setCell_same _ _ _ _ _ _ h2, h3, h4, by rw [Array.size_setIfInBounds]; exact h5, ?_⟩
    rw [zcells_snoc] at h6 ⊢
    have hzl := zcells_len Z
    have h7 := take_set (cur := cur) (k := Z.length * 2 + 1) (ss := zcells Z ++ [.string (xpath p)]) (u := iv) (v := iv') (by omega) (by
      rw [show Z.length * 2 + 1 + 1 = (Z.length + (0 + 1)) * 2 by omega, h6]; simp) (by simp [hzl])
    rw [show (Z.length + (0 + 1)) * 2 = Z.length * 2 + 1 + 1 by omega, h7]
    simp
  · rw [List.map_append, List.reverse_append, hr]; rfl
  · rw [← List.append_assoc] at hz
    rcases List.mem_append.1 hz with hz | hz
    · exact htr _ _ (h.rows z (by rw [← List.append_assoc]; exact List.mem_append_left _ hz))
    · rw [List.mem_singleton] at hz
      subst hz
      exact htr _ _ ht
  · rcases h.list.2 with h | ⟨g, cap, cur, e, h1, hg', hr⟩
    · exact Or.inl h
    · exact Or.inr ⟨g, cap, cur, e, h1, hs hg' (fun cs e => by cases e), hr⟩
theorem topo_nodup {I : B.Mat} {l : List Nat} (h : B.Topo I l) : l.Nodup ∧ ∀ x ∈ l, x < 8 := by
  induction h with
  | nil => exact ⟨List.nodup_nil, fun x hx => absurd hx (List.not_mem_nil)⟩
  | @snoc l p _ hp hn _ ih =>
    refine ⟨?_, fun x hx => ?_⟩
    · rw [List.nodup_append]
      refine ⟨ih.1, by simp, fun a ha b hb e => ?_⟩
      rw [List.mem_singleton] at hb
      exact hn (by rw [← hb, ← e]; exact ha)
    · rcases List.mem_append.1 hx with hx | hx
      · exact ih.2 x hx
      · rw [List.mem_singleton] at hx; omega
/-- What is asked of an ordering under way. -/
structure Telling (X : List (Nat × List Nat × Value)) (I : B.Mat) (W : Nat → Bool) (base ob : Nat) (lm ls : Value) (wb w0 : World) (l0 : List Nat) (q : Nat) (w : World) (s : B.S) : Prop where
  inv : B.Inv I W s
  ord : OrdIs X base ob lm ls w s
  lib : Below wb.heap.size wb w
  below : Below base w0 w
  seen : s.st q ≠ 0
  more : ∀ x ∈ l0, x ∈ s.list
/-- What comes of it. -/
def Tells (X : List (Nat × List Nat × Value)) (I : B.Mat) (W : Nat → Bool) (base ob : Nat) (lm ls : Value) (l0 : List Nat) (q : Nat) (w : World) (e : Ending) (w' : World) : Prop :=
  Below base w w' ∧ ((e = .returned .nilIface ∧ ∃ s', B.Inv I W s' ∧ s'.steps = [] ∧ OrdIs X base ob lm ls w' s' ∧ q ∈ s'.list ∧ ∀ x ∈ l0, x ∈ s'.list) ∨
    ∃ v b n, e = .returned (.iface 96 v) ∧ IsFault w' v 10 0 (xpath b) ⟨#[]⟩ ∧ b < 8 ∧ W b = true ∧ n ≤ 8 ∧ B.Path I n b b)

set_option maxHeartbeats 3200000 in
set_option maxRecDepth 100000 in
theorem tellAll_any (X : List (Nat × List Nat × Value)) (I : B.Mat) (W : Nat → Bool) (D : Nat → List Nat) (Bl ob q : Nat) (lm ls : Value) (m : Int) (wb w : World) (s : B.S) (hq : q < 8) (hWq : W q = true) (hcl : B.Closed I W) (hDI : ∀ a b, b ∈ D a ↔ b < 8 ∧ I a b = true) (hDl : ∀ a, (D a).length ≤ 8)
    (hm : wb.cell? ⟨0, 0, none⟩ = some (.int .i64 m)) (hl : Library Bl (fun x => fileData (D x)) wb (.agg #[lm, ls])) (hwb : Below wb.heap.size wb w) (h : OrdIs X wb.heap.size ob lm ls w s) (hinv : B.Inv I W s) (hsteps : s.steps = []) :
    Calls Tryz.prog 165 #[.pointer (some ⟨ob, 0, none⟩), .string (xpath q)] w (Tells X I W wb.heap.size ob lm ls s.list q w) := by
  have hD : ∀ a, ∀ d ∈ D a, d < 8 := fun a d hd => ((hDI a d).1 hd).1
  have HCM := hide (fun q wx sx hq hb ho hlen => comeTo_any X D Bl ob q lm ls m wb wx sx hq hD hDl hm hl hb ho hlen)
  have HINV := hide hinv
  have HCL := hide hcl
  have HDI := hide hDI
  unfold Tells
  go_enter Tryz.func165, Tryz.ntmps165
  go_wp2_with fail
  refine (HCM.out q w s hq hwb h (by rw [hsteps]; simp)).mono ?_
  rintro e w1 ⟨hb1, hcase⟩
  have HST : Hid ((e = .returned .nilIface ∧ ∃ s1, Telling X I W wb.heap.size ob lm ls wb w s.list q w1 s1)) := by
    refine hide ?_
    have hwb1 : Below wb.heap.size wb w1 := hwb.trans hb1
    obtain ⟨g1, g2⟩ := hinv.first' hsteps hq hWq
    rcases hcase with ⟨k1, k2, k3⟩ | ⟨k1, _⟩ | ⟨k1, k2, k3, L, k4, k5, k6⟩
    · exact ⟨k2, s, hinv, k3, hwb1, hb1, by omega, fun x hx => hx⟩
    · exact absurd k1 g1
    · refine ⟨k3, _, g2 k2 L (fun x => (k4 x).trans (hDI q x)), by rw [hsteps] at k6; exact k6, hwb1, hb1, by simp [B.upd], fun x hx => hx⟩
  obtain ⟨rfl, s1, hT1⟩ := HST.out
  have HT1 := hide hT1
  clear hcase HST hT1 hb1
  go_wp2_with fail
  go_loopw [4] (fun v wr => v = .nilIface ∧ ∃ sx, Hid (Telling X I W wb.heap.size ob lm ls wb w s.list q wr sx)) (fun _ wr => leastLeft (Telling X I W wb.heap.size ob lm ls wb w s.list q) wr)
  case atStart => exact ⟨rfl, s1, HT1⟩
  case round =>
    obtain ⟨rfl, s0, HS0⟩ := hrel
    obtain ⟨sx, hT, hleft, -⟩ := leastLeft_spec HS0.out
    have HLEFT := hide hleft
    have HT := hide hT
    clear HS0 hleft HT1
    obtain ⟨tb, sv, tv, K, Z, hO⟩ := hT.ord
    obtain ⟨c0, c1, c2, c3, c4⟩ := hO.cells
    cases hst : sx.steps with
    | nil =>
      have hZ : Z = [] := by
        have := hO.zs
        rw [hst] at this
        simpa using this
      subst hZ
      obtain ⟨sa, sc, rfl⟩ := own_form hO.steps
      have R : Hid (Below wb.heap.size w wr ∧ ∃ s', B.Inv I W s' ∧ s'.steps = [] ∧ OrdIs X wb.heap.size ob lm ls wr s' ∧ q ∈ s'.list ∧ ∀ x ∈ s.list, x ∈ s'.list) := by
        refine hide ⟨hT.below, sx, hT.inv, hst, hT.ord, ?_, hT.more⟩
        have h3 := hT.inv.st3 q
        have h1 : sx.st q ≠ 1 := fun e => by
          have := (hT.inv.st1 q).1 e
          rw [hst] at this; simp at this
        exact (hT.inv.st2 q).1 (by have := hT.seen; omega)
      clear hO hT hst
      simp only [List.length_nil] at c3
      go_wp2
      go_ret
      obtain ⟨r1, s', r2, r3, r4, r5, r6⟩ := R.out
      exact ⟨r1, Or.inl ⟨rfl, s', r2, r3, r4, r5, r6⟩⟩
    | cons pz r =>
      obtain ⟨p, l⟩ := pz
      obtain ⟨Z', iv, rfl, hr⟩ := z_last (hO.zs.trans hst)
      obtain ⟨g, cap, rfl⟩ := own_some hO.steps (by rw [List.length_append]; simp)
      have hlen : (Z' ++ [(p, l, iv)]).length = Z'.length + 1 := by simp
      rw [hlen] at hO c3
      have hzc := hO.steps
      rw [hlen] at hzc
      have z0 : wr.cell? ⟨g, Z'.length * 2, none⟩ = some (.string (xpath p)) := own_cells hzc _ _ (by rw [zcells_snoc, List.getElem?_append_right (by rw [zcells_len]; omega), zcells_len]; simp)
      have z1 : wr.cell? ⟨g, Z'.length * 2 + 1, none⟩ = some iv := own_cells hzc _ _ (by rw [zcells_snoc, List.getElem?_append_right (by rw [zcells_len]; omega), zcells_len]; simp)
      have hshort := hT.inv.short
      rw [hst] at hshort
      have hz8 : Z'.length ≤ 8 := by have := congrArg List.length hr; simp at this hshort; omega
      obtain ⟨hp8, -⟩ := hT.inv.way.lt p (by rw [hst]; simp)
      have hbase : wb.heap.size ≤ wr.heap.size := hT.lib.size
      have hll8 : sx.list.length ≤ 8 := B.len_lt 8 _ (topo_nodup hT.inv.topo).1 (topo_nodup hT.inv.topo).2
      have hsub : ((Z'.length : Int) + 1) - 1 = (Z'.length : Int) := by omega
      have hpos : (0 : Int) < (Z'.length : Int) + 1 := by omega
      have hlt1 : (Z'.length : Int) < (Z'.length : Int) + 1 := by omega
      have hrow := hO.rows (p, l, iv) (by simp)
      simp only at hrow
      have HO := hide hO
      have HR := hide hr
      have HST := hide hst
      have hfz : wr.frozen? ⟨g, Z'.length * 2 + 1, none⟩ = false := by
        rcases hzc.2 with ⟨h0, _⟩ | ⟨g', cap', cur, e, h1, h2, _⟩
        · cases h0
        · injection e with e1 _ _
          injection e1 with e1
          injection e1 with e1
          subst e1
          exact Lib.frozen_of_heap h2 _
      cases l with
      | nil =>
        obtain ⟨ia, ic, rfl⟩ := hrow.form
        have hst1 : sx.st p = 1 := (hT.inv.st1 p).2 (by rw [hst]; simp)
        have HTELL := hide (fun n => tell_any X wb.heap.size ob p lm ls (wr.drewN n) sx r hp8 hbase (ord_heap hT.ord rfl) hst hst1 hll8 (by simp at hshort; omega))
        have HN : Hid (∀ w', OrdIs X wb.heap.size ob lm ls w' (B.tell p r sx) → Below wb.heap.size wr w' → Telling X I W wb.heap.size ob lm ls wb w s.list q w' (B.tell p r sx)) := by
          refine hide fun w' h1 h2 => ⟨hT.inv.tell hst, h1, hT.lib.trans h2, hT.below.trans h2, ?_, fun x hx => List.mem_append_left _ (hT.more x hx)⟩
          show B.upd sx.st p 2 q ≠ 0
          unfold B.upd
          split
          · omega
          · exact hT.seen
        have HL2 := hide (hT.inv.tell_left hst)
        clear hO hT hst hrow hzc hr hshort
        simp only [List.length_nil] at z1
        go_wp2_with fail
        go_quiet (fail)
        go_wp2_with fail
        refine (HTELL.out _).mono ?_
        rintro e w2 ⟨rfl, ho2, hb2⟩
        have R := hide (HN.out w2 ho2 ⟨hb2.os, hb2.tape, hb2.output, hb2.size, hb2.block⟩)
        have RM : Hid (leastLeft (Telling X I W wb.heap.size ob lm ls wb w s.list q) w2 < leastLeft (Telling X I W wb.heap.size ob lm ls wb w s.list q) wr) := by
          refine hide ?_
          obtain ⟨_, _, _, h3⟩ := leastLeft_spec R.out
          have h4 := HLEFT.out
          have h5 := HL2.out
          omega
        clear ho2 hb2
        go_wp2
        first
          | exact ⟨⟨rfl, _, R⟩, RM.out⟩
          | (go_roundw
             case rel => exact ⟨rfl, _, R⟩
             case measure => exact RM.out)
      | cons b l' =>
        rcases hrow with ⟨h0, _⟩ | ⟨tg, off, c, tcur, rfl, k2, k3, k4, k5, k6⟩
        · cases h0
        have t0 : wr.cell? ⟨tg, off, none⟩ = some (.string (xpath b)) := by
          rw [Lib.cell_of_heap k5]
          have := k6 0 (by simp)
          simpa using this
        simp only [List.length_cons] at k4
        have hO' := hO
        have HNX := hide (hT.inv.next' HCL.out hst)
        have HITR : Hid (TR wb.heap.size tv.ownBlock wr (if c = 1 then .slice (some ⟨tg, off, none⟩) 0 0 else .slice (some ⟨tg, off + 1, none⟩) l'.length (c - 1)) l') := by
          refine hide ?_
          split
          · exact Or.inl ⟨List.eq_nil_of_length_eq_zero (by omega), _, _, rfl⟩
          · refine Or.inr ⟨tg, off + 1, c - 1, tcur, rfl, k2, k3, by omega, k5, fun j hj => ?_⟩
            have := k6 (j + 1) (by simp; omega)
            rw [show off + 1 + j = off + (j + 1) by omega]
            simpa using this
        have HSX : Hid (∀ (iv' : Value) (n : Nat), TR wb.heap.size tv.ownBlock wr iv' l' → Calls Tryz.prog 238 #[.pointer (some ⟨ob, 0, none⟩), .string (xpath b)] ((wr.drewN n).setCell ⟨g, Z'.length * 2 + 1, none⟩ iv') fun e w' =>
            (e = .returned .nilIface ∧ ∃ s', Telling X I W wb.heap.size ob lm ls wb w s.list q w' s' ∧ B.left s' < B.left sx) ∨
            (Below wb.heap.size w w' ∧ ∃ v n, e = .returned (.iface 96 v) ∧ IsFault w' v 10 0 (xpath b) ⟨#[]⟩ ∧ b < 8 ∧ W b = true ∧ n ≤ 8 ∧ B.Path I n b b)) := by
          refine hide fun iv' n htr => ?_
          obtain ⟨n1, n2, n3, n4, n5⟩ := HNX.out
          have hord : OrdIs X wb.heap.size ob lm ls ((wr.drewN n).setCell ⟨g, Z'.length * 2 + 1, none⟩ iv') { st := sx.st, steps := (p, l') :: r, list := sx.list } :=
            ⟨tb, _, tv, K, _, ord_next hO' hr htr _ rfl⟩
          have hgb : wb.heap.size ≤ g := by
            rcases hzc.2 with ⟨h0, _⟩ | ⟨g', cap', cur, e, h1, h2, _⟩
            · cases h0
            · injection e with e1 _ _
              injection e1 with e1
              injection e1 with e1
              subst e1
              exact h1
          have hbb : Below wb.heap.size wr ((wr.drewN n).setCell ⟨g, Z'.length * 2 + 1, none⟩ iv') := by
            have h1 : Below wb.heap.size wr (wr.drewN n) := ⟨rfl, rfl, rfl, Nat.le_refl _, fun _ _ => rfl⟩
            exact h1.setCell (p := ⟨g, _, none⟩) hgb _
          refine (HCM.out b _ _ n1 (hT.lib.trans hbb) hord (by simp at hshort ⊢; omega)).mono ?_
          rintro e w' ⟨hb', hcase⟩
          have hb2 := hbb.trans hb'
          rcases hcase with ⟨q1, q2, q3⟩ | ⟨q1, v, q2, q3⟩ | ⟨q1, q2, q3, L, q4, q5, q6⟩
          · obtain ⟨i1, i2⟩ := n3 q1
            exact Or.inl ⟨q2, _, ⟨i1, q3, hT.lib.trans hb2, hT.below.trans hb2, hT.seen, hT.more⟩, i2⟩
          · obtain ⟨nn, i1, i2⟩ := n4 q1
            exact Or.inr ⟨hT.below.trans hb2, v, nn, q2, q3, n1, n2, i1, i2⟩
          · obtain ⟨i1, i2⟩ := n5 q1 q2 L (fun x => (q4 x).trans (HDI.out b x)) q5
            refine Or.inl ⟨q3, _, ⟨i1, q6, hT.lib.trans hb2, hT.below.trans hb2, ?_, hT.more⟩, i2⟩
            show B.upd sx.st b 1 q ≠ 0
            unfold B.upd
            split
            · omega
            · exact hT.seen
        have hl1 : (1 : Int) ≤ (l'.length : Int) + 1 := by omega
        have hl0 : (0 : Int) < (l'.length : Int) + 1 := by omega
        have hlc : (l'.length : Int) + 1 ≤ (c : Int) := by omega
        have hnz : ¬ ((l'.length : Int) + 1 = 0) := by omega
        clear hO hO' hT hst hzc hr hshort k2 k3 k5 k6 HNX
        simp only [List.length_cons] at z1
        by_cases hc1 : c = 1
        · rw [if_pos hc1] at HITR
          obtain rfl : l' = [] := List.eq_nil_of_length_eq_zero (by omega)
          subst hc1
          simp only [List.length_nil] at *
          go_wp2_with fail
          go_quiet (fail)
          go_wp2_with fail
          refine (HSX.out _ _ HITR.out).mono ?_
          rintro e w2 (⟨rfl, s', hT2, hl2⟩ | ⟨hb2, v, nn, rfl, hf2, hrest⟩)
          · have R := hide hT2
            have RM : Hid (leastLeft (Telling X I W wb.heap.size ob lm ls wb w s.list q) w2 < leastLeft (Telling X I W wb.heap.size ob lm ls wb w s.list q) wr) := by
              refine hide ?_
              obtain ⟨_, _, _, h3⟩ := leastLeft_spec R.out
              have h4 := HLEFT.out
              omega
            clear hT2 hl2
            go_wp2
            first
              | exact ⟨⟨rfl, _, R⟩, RM.out⟩
              | (go_roundw
                 case rel => exact ⟨rfl, _, R⟩
                 case measure => exact RM.out)
          · have HF := hide (And.intro hb2 (And.intro hf2 hrest))
            clear hb2 hf2 hrest
            go_wp2
            go_ret
            obtain ⟨g1, g2, g3, g4, g5, g6⟩ := HF.out
            exact ⟨g1, Or.inr ⟨v, b, nn, rfl, g2, g3, g4, g5, g6⟩⟩
        · rw [if_neg hc1] at HITR
          go_wp2_with fail
          go_quiet (fail)
          go_wp2_with fail
          refine (HSX.out _ _ HITR.out).mono ?_
          rintro e w2 (⟨rfl, s', hT2, hl2⟩ | ⟨hb2, v, nn, rfl, hf2, hrest⟩)
          · have R := hide hT2
            have RM : Hid (leastLeft (Telling X I W wb.heap.size ob lm ls wb w s.list q) w2 < leastLeft (Telling X I W wb.heap.size ob lm ls wb w s.list q) wr) := by
              refine hide ?_
              obtain ⟨_, _, _, h3⟩ := leastLeft_spec R.out
              have h4 := HLEFT.out
              omega
            clear hT2 hl2
            go_wp2
            first
              | exact ⟨⟨rfl, _, R⟩, RM.out⟩
              | (go_roundw
                 case rel => exact ⟨rfl, _, R⟩
                 case measure => exact RM.out)
          · have HF := hide (And.intro hb2 (And.intro hf2 hrest))
            clear hb2 hf2 hrest
            go_wp2
            go_ret
            obtain ⟨g1, g2, g3, g4, g5, g6⟩ := HF.out
            exact ⟨g1, Or.inr ⟨v, b, nn, rfl, g2, g3, g4, g5, g6⟩⟩
end Go.Proofs.YtcfhleenecfghaaGreatDoor

namespace Go.Proofs.YtcfhleenecfghaaGreatDoor
open Go.RowKit

theorem make274 (w : World) : (Instr.makeMap 274 none).run Tryz.prog w = .ok (.map (some w.heap.size)) (w.alloc (.map #[] 0)) := by kernel_rfl
/-- What comes of ordering. -/
def Orders_ (I : B.Mat) (W : Nat → Bool) (Dn : List Nat) (w : World) (e : Ending) (w' : World) : Prop :=
  Below w.heap.size w w' ∧ ((∃ v l, e = .returned (.tuple #[v, .nilIface]) ∧ w'.ownsRow w.heap.size 9 1 v l.length (pcells l) ∧ B.Topo I l ∧ (∀ x ∈ l, x < 8 ∧ W x = true) ∧ ∀ d ∈ Dn, d ∈ l) ∨
    ∃ v b n, e = .returned (.tuple #[.slice none 0 0, .iface 96 v]) ∧ IsFault w' v 10 0 (xpath b) ⟨#[]⟩ ∧ b < 8 ∧ W b = true ∧ n ≤ 8 ∧ B.Path I n b b)
/-- How the ordering stands behind some of those that are asked for. -/
structure Asked (X : List (Nat × List Nat × Value)) (I : B.Mat) (W : Nat → Bool) (base ob : Nat) (lm ls : Value) (wb : World) (D' : List Nat) (k : Nat) (w : World) (s : B.S) : Prop where
  inv : B.Inv I W s
  steps : s.steps = []
  ord : OrdIs X base ob lm ls w s
  lib : Below wb.heap.size wb w
  got : ∀ d ∈ D'.take k, d ∈ s.list
theorem ord_extra {base ob : Nat} {lm ls : Value} {w : World} {s : B.S} {v : Value} {l : List Nat} (h : OrdIs [(0, l, v)] base ob lm ls w s) : ∃ tv, TR base tv w v l := by
  obtain ⟨tb, sv, tv, K, Z, hO⟩ := h
  exact ⟨_, hO.rows (0, l, v) (by simp)⟩

set_option maxHeartbeats 3200000 in
set_option maxRecDepth 100000 in
theorem order_any (I : B.Mat) (W : Nat → Bool) (D : Nat → List Nat) (Dn : List Nat) (hcl : B.Closed I W) (hDI : ∀ a b, b ∈ D a ↔ b < 8 ∧ I a b = true) (hDl : ∀ a, (D a).length ≤ 8) (hDn : ∀ d ∈ Dn, d < 8 ∧ W d = true) (hDnl : Dn.length ≤ 8)
    (g c fb fc base0 : Nat) (fv : Value) (m : Int) (w : World) (hm : w.cell? ⟨0, 0, none⟩ = some (.int .i64 m)) (h0 : w.cell? ⟨g, 0, none⟩ = some (.string sX)) (h1 : w.cell? ⟨g, 1, none⟩ = some (.slice (some ⟨fb, 0, none⟩) 8 fc))
    (hc : ∀ j u, (fcells (fun x => fileData (D x)) 8)[j]? = some u → w.cell? ⟨fb, 0 + j, none⟩ = some u) (hfv : w.ownsRow base0 9 1 fv Dn.length (pcells Dn)) :
    Calls Tryz.prog 79 #[.slice (some ⟨g, 0, none⟩) 1 c, fv] w (Orders_ I W Dn w) := by
  have hmk := make274
  obtain ⟨fa, fcc, rfl⟩ := own_form hfv
  have HFV := hide hfv
  clear hfv
  unfold Orders_
  go_enter Tryz.func79, Tryz.ntmps79
  go_wp2_with fail
  refine (libraryOf_law g c fb fc _ w h0 h1 hc).mono ?_
  rintro e w1 ⟨lv, rfl, hlib, hb1⟩
  obtain ⟨mb, sv, ss, rfl, -⟩ := id hlib
  obtain ⟨sa, sc, rfl⟩ : ∃ a c, sv = .slice a 8 c := by
    obtain ⟨_, _, _, e, _, _, h3, _⟩ := hlib
    injection e with e
    simp at e
    rw [e.2]; exact own_form h3
  have hm1 := keep hb1 hm
  have HLIB := hide hlib
  have HB1 := hide hb1
  clear hlib hb1 h0 h1 hc
  go_wp2_with fail
  generalize hW2 : ((w1.alloc (.map #[] 0)).alloc (.cells #[.map (some mb), .slice sa 8 sc, .map (some w1.heap.size), .slice none 0 0, .slice none 0 0] 277)) = W2
  have hbW : Below w1.heap.size w1 W2 := by rw [← hW2]; exact below2 _ _ _
  have hW2a : W2.heap[w1.heap.size]? = some (.map (stE [] fun _ => 0) 0) := by rw [← hW2]; exact heap2_0 _ _ _
  have hW2b : W2.heap[w1.heap.size + 1]? = some (.cells #[.map (some mb), .slice sa 8 sc, .map (some w1.heap.size), .slice none 0 0, .slice none 0 0] 277 (0, 0)) := by rw [← hW2]; exact alloc_last _ _ _ (by simp only [alloc_size])
  have HO : Hid (∀ w3 v D', w3.ownsRow W2.heap.size 9 1 v D'.length (pcells D') → Below W2.heap.size W2 w3 → OrdIs [(0, D', v)] w1.heap.size (w1.heap.size + 1) (.map (some mb)) (.slice sa 8 sc) w3 ⟨fun _ => 0, [], []⟩) := by
    refine hide fun w3 v D' ho hb => ⟨w1.heap.size, .slice none 0 0, .slice none 0 0, [], [], below_some hb hW2b, by omega, Nat.le_refl _, below_some hb hW2a, List.nodup_nil, fun k hk => absurd hk (List.not_mem_nil), fun _ _ _ => rfl, fun k hk => absurd hk (List.not_mem_nil), World.ownsRow_nil _ _ _ _, rfl, fun z hz => ?_, World.ownsRow_nil _ _ _ _⟩
    simp only [List.append_nil, List.mem_singleton] at hz
    subst hz
    exact tr_of (l := []) ho hbW.size (World.ownsRow_nil _ _ _ _)
  have HBW := hide hbW
  have HW2 := hide hW2
  clear hbW hW2a hW2b hW2
  have HBW2 := hide (HB1.out.trans (HBW.out.mono HB1.out.size))
  refine (risingO_any Dn (fun d hd => (hDn d hd).1) (by omega) _ base0 _ (owns_later HFV.out HBW2.out)).mono ?_
  rintro e w3 ⟨D', v, rfl, ho, hmem, hlen, hb3⟩
  obtain ⟨va, vc, rfl⟩ := own_form ho
  have HO3 := hide (HO.out w3 _ D' ho hb3)
  have HBB3 := hide (HBW.out.trans (hb3.mono HBW.out.size))
  have HMEM := hide hmem
  have hD8 : D'.length ≤ 8 := by omega
  clear ho hmem hlen hb3 HO HFV
  have HVA : Hid (∀ wr s, OrdIs [(0, D', .slice va D'.length vc)] w1.heap.size (w1.heap.size + 1) (.map (some mb)) (.slice sa 8 sc) wr s → ∀ k (hk : k < D'.length), ∃ vg voff, va = some ⟨vg, voff, none⟩ ∧ wr.cell? ⟨vg, voff + k, none⟩ = some (.string (xpath D'[k]))) := by
    refine hide fun wr s h k hk => ?_
    obtain ⟨tv, htr⟩ := ord_extra h
    rcases htr with ⟨h0, _⟩ | ⟨g, off, c, cur, e, _, _, _, h5, h6⟩
    · rw [h0] at hk; simp at hk
    · injection e with e1 _ _
      exact ⟨g, off, e1, by rw [Lib.cell_of_heap h5]; exact h6 k hk⟩
  have HTA := hide (fun q wx sx hq hWq hwb h hinv hst => tellAll_any [(0, D', .slice va D'.length vc)] I W D w.heap.size (w1.heap.size + 1) q (.map (some mb)) (.slice sa 8 sc) m w1 wx sx hq hWq hcl hDI hDl hm1 HLIB.out hwb h hinv hst)
  have H0 : Hid (Asked [(0, D', .slice va D'.length vc)] I W w1.heap.size (w1.heap.size + 1) (.map (some mb)) (.slice sa 8 sc) w1 D' 0 w3 ⟨fun _ => 0, [], []⟩) := hide ⟨B.Inv.nothing I W, rfl, HO3.out, HBB3.out, fun d hd => by simp at hd⟩
  have HDN := hide hDn
  clear HO3 HBB3 hDI hDl hcl HLIB hDn
  go_wp2_with fail
  go_loopw [17] (fun i wr => ∃ k : Nat, k ≤ D'.length ∧ i = .int .i64 k ∧ ∃ sx, Hid (Asked [(0, D', .slice va D'.length vc)] I W w1.heap.size (w1.heap.size + 1) (.map (some mb)) (.slice sa 8 sc) w1 D' k wr sx)) (fun i _ => D'.length - (intOf i).toNat)
  case atStart => exact ⟨0, by omega, rfl, _, H0⟩
  case round =>
    obtain ⟨k, hk, rfl, sx, H⟩ := hrel
    clear H0
    by_cases hlt : k < D'.length
    · obtain ⟨vg, voff, rfl, hcell⟩ := HVA.out wr sx H.out.ord k hlt
      have hkI : (k : Int) < (D'.length : Int) := by omega
      have hkI' : 0 ≤ (k : Int) ∧ (k : Int) < (D'.length : Int) := ⟨by omega, hkI⟩
      have hq := HDN.out D'[k] ((HMEM.out _).1 (List.getElem_mem hlt))
      have HCALL := hide (HTA.out D'[k] wr sx hq.1 hq.2 H.out.lib H.out.ord H.out.inv H.out.steps)
      have HNEXT : Hid (∀ w' s', B.Inv I W s' → s'.steps = [] → OrdIs [(0, D', .slice (some ⟨vg, voff, none⟩) D'.length vc)] w1.heap.size (w1.heap.size + 1) (.map (some mb)) (.slice sa 8 sc) w' s' → D'[k] ∈ s'.list → (∀ x ∈ sx.list, x ∈ s'.list) → Below w1.heap.size wr w' → Asked [(0, D', .slice (some ⟨vg, voff, none⟩) D'.length vc)] I W w1.heap.size (w1.heap.size + 1) (.map (some mb)) (.slice sa 8 sc) w1 D' (k + 1) w' s') := by
        refine hide fun w' s' i1 i2 i3 i4 i5 i6 => ⟨i1, i2, i3, H.out.lib.trans i6, fun d hd => ?_⟩
        rw [List.take_succ_eq_append_getElem hlt] at hd
        rcases List.mem_append.1 hd with hd | hd
        · exact i5 d (H.out.got d hd)
        · rw [List.mem_singleton] at hd; rw [hd]; exact i4
      have HBF := hide (H.out.lib)
      generalize D'[k] = q at hcell HCALL HNEXT
      clear hq HTA HVA H
      go_wp2_with fail
      refine HCALL.out.mono ?_
      rintro e w4 ⟨hb4, hcase⟩
      rcases hcase with ⟨rfl, s', i1, i2, i3, i4, i5⟩ | ⟨v, b, n, rfl, hf, hrest⟩
      · have R := hide (HNEXT.out w4 s' i1 i2 i3 i4 i5 hb4)
        clear hb4 i1 i2 i3 i4 i5
        go_wp2
        first
          | exact ⟨⟨k + 1, by omega, by go_num, _, R⟩, by simp [intOf]; omega⟩
          | (go_roundw
             case rel => exact ⟨k + 1, by omega, by go_num, _, R⟩
             case measure => simp [intOf]; omega)
      · have R := hide (show Below w.heap.size w w4 from HB1.out.trans ((HBF.out.trans hb4).mono HB1.out.size))
        have HF := hide (And.intro hf hrest)
        clear hb4 hf hrest
        go_wp2
        go_ret2
        obtain ⟨g1, g2, g3, g4, g5⟩ := HF.out
        exact ⟨R.out, Or.inr ⟨v, b, n, rfl, g1, g2, g3, g4, g5⟩⟩
    · have he : k = D'.length := by omega
      subst he
      obtain ⟨tb, sv, tv, K, Z, hO⟩ := H.out.ord
      obtain ⟨-, -, -, -, c4⟩ := hO.cells
      obtain ⟨ta, tc, rfl⟩ := own_form hO.list
      have R : Hid (Below w.heap.size w wr ∧ ∃ l, wr.ownsRow w.heap.size 9 1 (.slice ta sx.list.length tc) l.length (pcells l) ∧ B.Topo I l ∧ (∀ x ∈ l, x < 8 ∧ W x = true) ∧ ∀ d ∈ Dn, d ∈ l) := by
        refine hide ⟨HB1.out.trans (H.out.lib.mono HB1.out.size), sx.list, ⟨hO.list.1, ?_⟩, H.out.inv.topo, H.out.inv.want, fun d hd => ?_⟩
        · rcases hO.list.2 with h | ⟨g, cap, cur, e, h1, h2⟩
          · exact Or.inl h
          · exact Or.inr ⟨g, cap, cur, e, Nat.le_trans HB1.out.size h1, h2⟩
        · exact H.out.got d (by rw [List.take_length]; exact (HMEM.out d).2 hd)
      clear hO H HVA HTA
      go_wp2
      go_ret2
      obtain ⟨r1, l, r2, r3, r4, r5⟩ := R.out
      exact ⟨r1, Or.inl ⟨_, l, rfl, r2, r3, r4, r5⟩⟩
end Go.Proofs.YtcfhleenecfghaaGreatDoor

namespace Go.Proofs.YtcfhleenecfghaaGreatDoor
open Go.RowKit

def modX : ByteArray := ⟨#[109, 111, 100, 117, 108, 101, 32, 120]⟩
theorem parse_modX : V.parse modX = ([(1, 123, [sX])], 0) := by kernel_rfl
theorem good_modX : V.good modX := by
  unfold V.good
  rw [parse_modX]
  exact ⟨rfl, by kernel_rfl⟩

set_option maxHeartbeats 3200000 in
set_option maxRecDepth 100000 in
theorem packages_any (I : B.Mat) (W : Nat → Bool) (D : Nat → List Nat) (Dn : List Nat) (hcl : B.Closed I W) (hDI : ∀ a b, b ∈ D a ↔ b < 8 ∧ I a b = true) (hDl : ∀ a, (D a).length ≤ 8) (hDn : ∀ d ∈ Dn, d < 8 ∧ W d = true) (hDnl : Dn.length ≤ 8)
    (fb fc base0 : Nat) (fv : Value) (m : Int) (w : World) (hm : w.cell? ⟨0, 0, none⟩ = some (.int .i64 m))
    (hc : ∀ j u, (fcells (fun x => fileData (D x)) 8)[j]? = some u → w.cell? ⟨fb, 0 + j, none⟩ = some u) (hfv : w.ownsRow base0 9 1 fv Dn.length (pcells Dn)) :
    Calls Tryz.prog 39 #[.string modX, .slice none 0 0, .slice (some ⟨fb, 0, none⟩) 8 fc, fv] w (Orders_ I W Dn w) := by
  obtain ⟨fa, fcc, rfl⟩ := own_form hfv
  have HORD := hide (fun g c wx hm h0 h1 hc hfv => order_any I W D Dn hcl hDI hDl hDn hDnl g c fb fc base0 (.slice fa Dn.length fcc) m wx hm h0 h1 hc hfv)
  have HC := hide hc
  have HFV := hide hfv
  clear hcl hDI hDl hDn hDnl hc hfv
  unfold Orders_ at HORD ⊢
  go_enter Tryz.func39, Tryz.ntmps39
  go_wp2_with fail
  refine (read_any modX m _ (by show (8 : Nat) ≤ _; omega) hm).mono ?_
  rintro e w1 ⟨hsay, hb1⟩
  obtain ⟨v, rfl, hown⟩ : ∃ v, e = .returned (.tuple #[v, .nilIface]) ∧ w1.ownsRow w.heap.size 179 1 v 1 [.iface 123 (.agg #[.string sX])] := by
    rcases hsay with ⟨_, v, h1, h2⟩ | ⟨h, _⟩
    · refine ⟨v, h1, ?_⟩
      rw [parse_modX] at h2
      exact h2
    · exact absurd good_modX h
  obtain ⟨lg, lc, rfl⟩ := own_some hown (by omega)
  have l0 := own_cells hown 0 _ rfl
  have HB1 := hide hb1
  clear hsay hb1 hown
  go_wp2_with fail
  refine (gather_one lg lc sX _ l0).mono ?_
  rintro e w2 ⟨rfl, hb2⟩
  have HB2 := hide (HB1.out.trans (hb2.mono HB1.out.size))
  clear hb2 HB1 l0
  go_wp2_with fail
  have hbox : (w2.alloc (Obj.cells #[Value.string sX, Value.slice none 0 0, Value.slice none 0 0, Value.slice none 0 0] 128)).heap[w2.heap.size]? = some (.cells #[Value.string sX, Value.slice none 0 0, Value.slice none 0 0, Value.slice none 0 0] 128 (0, 0)) := alloc_last _ _ _ rfl
  have HB3 := hide (HB2.out.alloc HB2.out.size (Obj.cells #[Value.string sX, Value.slice none 0 0, Value.slice none 0 0, Value.slice none 0 0] 128))
  generalize w2.alloc (Obj.cells #[Value.string sX, Value.slice none 0 0, Value.slice none 0 0, Value.slice none 0 0] 128) = W3 at hbox HB3 ⊢
  generalize w2.heap.size = pb at hbox ⊢
  have HCELL : Hid (∀ wx, Below W3.heap.size W3 wx → wx.cell? ⟨pb, 0, none⟩ = some (.string sX) ∧ wx.cell? ⟨pb, 1, none⟩ = some (.slice none 0 0) ∧ wx.cell? ⟨pb, 2, none⟩ = some (.slice none 0 0) ∧ wx.cell? ⟨pb, 3, none⟩ = some (.slice none 0 0)) := by
    refine hide fun wx hb => ?_
    have h := below_some hb hbox
    exact ⟨by rw [Lib.cell_of_heap h]; rfl, by rw [Lib.cell_of_heap h]; rfl, by rw [Lib.cell_of_heap h]; rfl, by rw [Lib.cell_of_heap h]; rfl⟩
  obtain ⟨p0, p1, p2, p3⟩ := HCELL.out W3 (Below.refl _ _)
  clear hbox HB2
  go_cut [13] from 25 (fun c wx => c = .slice none 0 0 ∧ Hid (Below W3.heap.size W3 wx))
  case first => as_aux_lemma =>
    go_region_with (first
      | (go_at_call 60; refine (catalog_none _).mono ?_; rintro e wa ⟨r, rfl, hba⟩; have ha : Below W3.heap.size W3 wa := ⟨hba.os, hba.tape, hba.output, hba.size, hba.block⟩; obtain ⟨a0, a1, a2, a3⟩ := HCELL.out wa ha; have HA := hide ha; clear hba ha)
      | (go_at_call 59; refine (reader_none sX r _).mono ?_; rintro e wb ⟨r1, r2, rfl, hbb⟩; have hb : Below W3.heap.size W3 wb := HA.out.trans (hbb.mono HA.out.size); obtain ⟨b0, b1, b2, b3⟩ := HCELL.out wb hb; have HBB := hide hb; clear hbb hb)
      | (go_at_call 61; refine (needed_none sX r1 r2 r _).mono ?_; rintro e wc ⟨rfl, hbc⟩; have hc : Below W3.heap.size W3 wc := HBB.out.trans (hbc.mono HBB.out.size); obtain ⟨c0, c1, c2, c3⟩ := HCELL.out wc hc; have HCC := hide hc; clear hbc hc))
    all_goals
      go_wp2_with fail
      go_meet
      case rel => exact ⟨rfl, HCC⟩
  case rest =>
    obtain ⟨rfl, HW⟩ := hcut
    obtain ⟨q0, q1, q2, q3⟩ := HCELL.out wc HW.out
    clear p0 p1 p2 p3
    go_wp2_with fail
    refine (failing_none _).mono ?_
    rintro e w5 ⟨rfl, hb5⟩
    have h5 := HW.out.trans (hb5.mono HW.out.size)
    obtain ⟨s0, s1, s2, s3⟩ := HCELL.out w5 h5
    have HW5 := hide h5
    have HALL : Hid (∀ wx, Below W3.heap.size W3 wx → wx.cell? ⟨0, 0, none⟩ = some (.int .i64 m) ∧ (∀ j u, (fcells (fun x => fileData (D x)) 8)[j]? = some u → wx.cell? ⟨fb, 0 + j, none⟩ = some u) ∧ wx.ownsRow base0 9 1 (.slice fa Dn.length fcc) Dn.length (pcells Dn) ∧ Below w.heap.size w wx) := by
      refine hide fun wx hb => ?_
      have hb' := HB3.out.trans (hb.mono HB3.out.size)
      exact ⟨keep hb' hm, fun j u hj => keep hb' (HC.out j u hj), owns_later HFV.out hb', hb'⟩
    have HEND : Hid (∀ (we : World) (e : Ending) (wf : World), Below W3.heap.size W3 we → (Below we.heap.size we wf ∧ ((∃ v l, e = .returned (.tuple #[v, .nilIface]) ∧ wf.ownsRow we.heap.size 9 1 v l.length (pcells l) ∧ B.Topo I l ∧ (∀ x ∈ l, x < 8 ∧ W x = true) ∧ ∀ d ∈ Dn, d ∈ l) ∨ ∃ v b n, e = .returned (.tuple #[.slice none 0 0, .iface 96 v]) ∧ IsFault wf v 10 0 (xpath b) ⟨#[]⟩ ∧ b < 8 ∧ W b = true ∧ n ≤ 8 ∧ B.Path I n b b)) →
        ∃ ra rb, e = .returned (.tuple #[ra, rb]) ∧ Hid (Below w.heap.size w wf ∧ ((∃ l, rb = .nilIface ∧ wf.ownsRow w.heap.size 9 1 ra l.length (pcells l) ∧ B.Topo I l ∧ (∀ x ∈ l, x < 8 ∧ W x = true) ∧ ∀ d ∈ Dn, d ∈ l) ∨ ∃ v b n, ra = .slice none 0 0 ∧ rb = .iface 96 v ∧ IsFault wf v 10 0 (xpath b) ⟨#[]⟩ ∧ b < 8 ∧ W b = true ∧ n ≤ 8 ∧ B.Path I n b b))) := by
      refine hide fun we e wf hb h => ?_
      have hw := (HALL.out we hb).2.2.2
      obtain ⟨h1, h2⟩ := h
      rcases h2 with ⟨v, l, rfl, h3, h4⟩ | ⟨v, b, n, rfl, h3⟩
      · refine ⟨v, .nilIface, rfl, hide ⟨hw.trans (h1.mono hw.size), Or.inl ⟨l, rfl, ⟨h3.1, ?_⟩, h4⟩⟩⟩
        rcases h3.2 with h | ⟨g, cap, cur, e, k1, k2⟩
        · exact Or.inl h
        · exact Or.inr ⟨g, cap, cur, e, Nat.le_trans hw.size k1, k2⟩
      · exact ⟨_, _, rfl, hide ⟨hw.trans (h1.mono hw.size), Or.inr ⟨v, b, n, rfl, rfl, h3⟩⟩⟩
    clear hb5 h5 HW q0 q1 q2 q3
    go_wp2_with fail
    go_region_with (first
      | (go_at_call 66; refine (taken_none _).mono ?_; rintro e wd ⟨rfl, hbd⟩; have hd : Below W3.heap.size W3 wd := HW5.out.trans (Below.mono ⟨hbd.os, hbd.tape, hbd.output, hbd.size, hbd.block⟩ HW5.out.size); obtain ⟨d0, d1, d2, d3⟩ := HCELL.out wd hd; have HD := hide hd; clear hbd hd)
      | (go_at_call 80; refine (modules_one sX fb 8 fc _).mono ?_; rintro e we ⟨mg, mc, rfl, hm0, hm1, hbe⟩; have he : Below W3.heap.size W3 we := HD.out.trans (hbe.mono HD.out.size); have HE := hide he; have HM0 := hide hm0; have HM1 := hide hm1; clear hbe he hm0 hm1)
      | (go_at_call 79; refine (HORD.out mg mc _ (HALL.out _ HE.out).1 HM0.out HM1.out (HALL.out _ HE.out).2.1 (HALL.out _ HE.out).2.2.1).mono ?_; intro e wf hf; obtain ⟨ra, rb, rfl, R⟩ : ∃ ra rb, e = .returned (.tuple #[ra, rb]) ∧ Hid (Below w.heap.size w wf ∧ ((∃ l, rb = .nilIface ∧ wf.ownsRow w.heap.size 9 1 ra l.length (pcells l) ∧ B.Topo I l ∧ (∀ x ∈ l, x < 8 ∧ W x = true) ∧ ∀ d ∈ Dn, d ∈ l) ∨ ∃ v b n, ra = .slice none 0 0 ∧ rb = .iface 96 v ∧ IsFault wf v 10 0 (xpath b) ⟨#[]⟩ ∧ b < 8 ∧ W b = true ∧ n ≤ 8 ∧ B.Path I n b b)) := HEND.out _ _ _ HE.out hf; clear hf))
    all_goals
      go_wp2
      obtain ⟨r1, r2⟩ := R.out
      rcases r2 with ⟨l, rfl, h⟩ | ⟨v, b, n, rfl, rfl, h⟩
      · go_ret2
        exact ⟨r1, Or.inl ⟨_, l, rfl, h⟩⟩
      · go_ret2
        exact ⟨r1, Or.inr ⟨v, b, n, rfl, h⟩⟩
end Go.Proofs.YtcfhleenecfghaaGreatDoor
