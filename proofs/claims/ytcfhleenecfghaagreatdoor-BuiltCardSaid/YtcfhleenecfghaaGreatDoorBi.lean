/- The library in memory: a source is put into it. -/
import Derived.Test.YtcfhleenecfghaaGreatDoorBh
namespace Go.Proofs.YtcfhleenecfghaaGreatDoor
open Go.RowKit

/-- The sources of one package: one file. -/
def Src (w : World) (B : Nat) (F : Nat → ByteArray) (a : Nat) (v : Value) : Prop :=
  ∃ g c cur, v = .slice (some ⟨g, 0, none⟩) 1 c ∧ B ≤ g ∧ w.heap[g]? = some (.cells cur 77 (0, 0)) ∧ cur[0]? = some (.string (fname a)) ∧ cur[1]? = some (.string (F a))
/-- The library of the first so many. -/
def LibAt (B lb mb : Nat) (F : Nat → ByteArray) (k : Nat) (w : World) : Prop :=
  ∃ sv ss, w.heap[lb]? = some (.cells #[.map (some mb), sv] 272 (0, 0)) ∧ w.heap[mb]? = some (.map (libEntries k) k) ∧ w.ownsRow B 73 1 sv k ss ∧ ∀ a, a < k → ∃ v, ss[a]? = some v ∧ Src w B F a v
/-- Nothing else has turned. -/
structure AddKept (B lb mb : Nat) (w w' : World) : Prop where
  os : w'.os = w.os
  tape : w'.tape = w.tape
  output : w'.output = w.output
  size : w.heap.size ≤ w'.heap.size
  block : ∀ b, b < w.heap.size → b ≠ lb → b ≠ mb → (b < B ∨ ∀ cur, w.heap[b]? ≠ some (.cells cur 73 (0, 0))) → w'.heap[b]? = w.heap[b]?
theorem Src.kept {w w' : World} {B : Nat} {F : Nat → ByteArray} {a : Nat} {v : Value} (h : Src w B F a v) (hk : ∀ b cur, B ≤ b → w.heap[b]? = some (.cells cur 77 (0, 0)) → w'.heap[b]? = w.heap[b]?) : Src w' B F a v := by
  obtain ⟨g, c, cur, h1, h2, h3, h4⟩ := h
  exact ⟨g, c, cur, h1, h2, by rw [hk g cur h2 h3]; exact h3, h4⟩
theorem info73 : (Tryz.prog.info? 73).map (fun i => (i.zero, i.size, i.bytes)) = some (some (.slice none 0 0), 1, 24) := by kernel_rfl
theorem info77 : (Tryz.prog.info? 77).map (fun i => (i.zero, i.size, i.bytes)) = some (some (.agg #[.string ⟨#[]⟩, .string ⟨#[]⟩]), 2, 32) := by kernel_rfl

theorem own_form {w : World} {base : Nat} {e : TypeId} {s n : Nat} {v : Value} {xs : List Value} (h : w.ownsRow base e s v n xs) : ∃ a c, v = .slice a n c := by
  rcases h.2 with ⟨h2, h3⟩ | ⟨g, cap, cur, e, hb, hg, hr⟩
  · subst h3
    exact ⟨none, 0, h2⟩
  · exact ⟨_, _, e⟩

/-- How things stand behind the map's new entry. -/
structure Adding (B lb mb k : Nat) (F : Nat → ByteArray) (w : World) (sv : Value) (ss : List Value) (W : World) : Prop where
  lib : W.heap[lb]? = some (.cells #[.map (some mb), sv] 272 (0, 0))
  map : W.heap[mb]? = some (.map (libEntries (k + 1)) (k + 1))
  file : W.heap[w.heap.size + 1]? = some (.cells #[.string (fname k), .string (F k)] 77 (0, 0))
  src : ∀ a, a < k → ∃ v, ss[a]? = some v ∧ Src W B F a v
  kept : AddKept B lb mb w W
theorem adding_start {B lb mb k : Nat} {F : Nat → ByteArray} {w W : World} {sv : Value} {ss : List Value} (hlm : lb ≠ mb) (hmw : mb < w.heap.size)
    (h : W.heap[lb]? = some (.cells #[.map (some mb), sv] 272 (0, 0)) ∧ W.heap[mb]? = some (.map (libEntries k) k) ∧ W.heap[w.heap.size]? = some (.cells #[.string sX, .string (fdir k)] 358 (0, 0)) ∧ W.heap[w.heap.size + 1]? = some (.cells #[.string (fname k), .string (F k)] 77 (0, 0)) ∧ Below w.heap.size w W)
    (ho : W.ownsRow B 73 1 sv k ss) (hs : ∀ a, a < k → ∃ v, ss[a]? = some v ∧ Src w B F a v) (W2 : World) (e1 : W2.heap = W.heap.setIfInBounds mb (.map (libEntries (k + 1)) (k + 1))) (e2 : W2.os = W.os) (e3 : W2.tape = W.tape) (e4 : W2.output = W.output) :
    Adding B lb mb k F w sv ss W2 ∧ W2.ownsRow B 73 1 sv k ss := by
  obtain ⟨h1, h2, -, h4, h5⟩ := h
  have hml : mb < W.heap.size := Nat.lt_of_lt_of_le hmw h5.size
  have hne : ∀ b, b ≠ mb → W2.heap[b]? = W.heap[b]? := fun b hb => by rw [e1, Array.getElem?_setIfInBounds_ne (Ne.symm hb)]
  have hmap : ∀ {b : Nat} {cs : Array Value} {t : TypeId} {f : Nat × Nat}, W.heap[b]? = some (.cells cs t f) → b ≠ mb := fun hb e => by rw [e, h2] at hb; cases hb
  refine ⟨⟨by rw [hne lb hlm]; exact h1, by rw [e1]; exact Array.getElem?_setIfInBounds_self_of_lt hml, by rw [hne _ (hmap h4)]; exact h4, fun a ha => ?_, ⟨e2.trans h5.os, e3.trans h5.tape, e4.trans h5.output, by rw [e1, Array.size_setIfInBounds]; exact h5.size, fun b hb h1 h2 _ => by rw [hne b h2]; exact h5.block b hb⟩⟩, ho.1, ?_⟩
  · obtain ⟨v, hv, g, c, cur, g1, g2, g3, g4⟩ := hs a ha
    have g3' : W.heap[g]? = some (.cells cur 77 (0, 0)) := by rw [h5.block g (Array.getElem?_eq_some_iff.1 g3).1]; exact g3
    exact ⟨v, hv, g, c, cur, g1, g2, by rw [hne g (hmap g3')]; exact g3', g4⟩
  · rcases ho.2 with h | ⟨g, cap, cur, e, hb, hg, hr⟩
    · exact Or.inl h
    · exact Or.inr ⟨g, cap, cur, e, hb, by rw [hne g (hmap hg)]; exact hg, hr⟩

theorem own_block {w : World} {base : Nat} {e : TypeId} {s n : Nat} {v : Value} {xs : List Value} (h : w.ownsRow base e s v n xs) {g : Nat} (hg : v.ownBlock = some g) : ∃ cur, w.heap[g]? = some (.cells cur e (0, 0)) ∧ base ≤ g := by
  rcases h.2 with ⟨h2, h3⟩ | ⟨g', cap, cur, e, hb, hg', hr⟩
  · rw [h2] at hg; cases hg
  · rw [e] at hg
    injection hg with hg
    subst hg
    exact ⟨cur, hg', hb⟩
theorem adding_grow {B lb mb k : Nat} {F : Nat → ByteArray} {w W w3 : World} {sv : Value} {ss : List Value} {o : Obj} (_hlB : lb < B) (_hmB : mb < B) (hA : Adding B lb mb k F w sv ss W) (ho : W.ownsRow B 73 1 sv k ss) (hg : (W.alloc o).grownBy w3 sv.ownBlock) :
    Adding B lb mb k F w sv ss w3 := by
  have hsame0 : ∀ b, b < W.heap.size → (b < B ∨ ∀ cur, W.heap[b]? ≠ some (.cells cur 73 (0, 0))) → w3.heap[b]? = W.heap[b]? := fun b hb ht => by
    rw [hg.block b (by rw [alloc_size]; omega) (fun e => ?_), alloc_else _ _ _ hb]
    obtain ⟨cur, h1, h2⟩ := own_block ho e.symm
    rcases ht with ht | ht
    · omega
    · exact ht cur h1
  have hsame : ∀ b, b < W.heap.size → (∀ cur, W.heap[b]? ≠ some (.cells cur 73 (0, 0))) → w3.heap[b]? = W.heap[b]? := fun b hb ht => hsame0 b hb (Or.inr ht)
  have hlt : ∀ {b : Nat} {x : Obj}, W.heap[b]? = some x → b < W.heap.size := fun h => (Array.getElem?_eq_some_iff.1 h).1
  refine ⟨?_, ?_, ?_, fun a ha => ?_, ?_⟩
  · rw [hsame lb (hlt hA.lib) (fun cur h => by rw [hA.lib] at h; cases h)]; exact hA.lib
  · rw [hsame mb (hlt hA.map) (fun cur h => by rw [hA.map] at h; cases h)]; exact hA.map
  · rw [hsame _ (hlt hA.file) (fun cur h => by rw [hA.file] at h; cases h)]; exact hA.file
  · obtain ⟨v, hv, g, c, cur, g1, g2, g3, g4⟩ := hA.src a ha
    exact ⟨v, hv, g, c, cur, g1, g2, by rw [hsame g (hlt g3) (fun cur h => by rw [g3] at h; cases h)]; exact g3, g4⟩
  · refine ⟨hg.os.trans hA.kept.os, hg.tape.trans hA.kept.tape, hg.output.trans hA.kept.output, Nat.le_trans hA.kept.size (Nat.le_trans (by rw [alloc_size]; omega) hg.size), fun b hb h1 h2 h3 => ?_⟩
    have e1 := hA.kept.block b hb h1 h2 h3
    rw [hsame0 b (Nat.lt_of_lt_of_le hb hA.kept.size) (h3.imp id fun h3 cur h => h3 cur (by rw [← e1]; exact h))]
    exact e1
theorem owns_set {w : World} {base : Nat} {e : TypeId} {s n : Nat} {v : Value} {xs : List Value} (h : w.ownsRow base e s v n xs) {b i : Nat} (hb : b < base) (u : Value) : (w.setCell ⟨b, i, none⟩ u).ownsRow base e s v n xs := by
  refine ⟨h.1, ?_⟩
  rcases h.2 with h | ⟨g, cap, cur, e, h1, hg, hr⟩
  · exact Or.inl h
  · exact Or.inr ⟨g, cap, cur, e, h1, by rw [Below.heap_setCell _ _ _ _ (show g ≠ b by omega)]; exact hg, hr⟩
theorem adding_set {B lb mb k : Nat} {F : Nat → ByteArray} {w W : World} {sv sv' : Value} {ss : List Value} (hlm : lb ≠ mb) (hlB : lb < B) (hA : Adding B lb mb k F w sv ss W) :
    Adding B lb mb k F w sv' ss (W.setCell ⟨lb, 1, none⟩ sv') := by
  have hsame : ∀ b, b ≠ lb → (W.setCell ⟨lb, 1, none⟩ sv').heap[b]? = W.heap[b]? := fun b hb => Below.heap_setCell _ _ _ _ hb
  refine ⟨?_, ?_, ?_, fun a ha => ?_, ?_⟩
  · rw [heap_setCell_same _ _ _ _ _ _ hA.lib]; rfl
  · rw [hsame mb (Ne.symm hlm)]; exact hA.map
  · rw [hsame _ (fun e => by have := hA.file; rw [e, hA.lib] at this; cases this)]; exact hA.file
  · obtain ⟨v, hv, g, c, cur, g1, g2, g3, g4⟩ := hA.src a ha
    exact ⟨v, hv, g, c, cur, g1, g2, by rw [hsame g (by omega)]; exact g3, g4⟩
  · exact ⟨hA.kept.os, hA.kept.tape, hA.kept.output, by rw [World.size_setCell]; exact hA.kept.size, fun b hb h1 h2 h3 => by rw [hsame b h1]; exact hA.kept.block b hb h1 h2 h3⟩

theorem take_set {cur : Array Value} {k : Nat} {ss : List Value} {u v : Value} (hsz : k + 1 ≤ cur.size) (ht : cur.toList.take (k + 1) = ss ++ [u]) (hs : ss.length = k) : (cur.setIfInBounds k v).toList.take (k + 1) = ss ++ [v] := by
  apply List.ext_getElem?
  intro j
  have hj := congrArg (fun l => l[j]?) ht
  simp only [List.getElem?_take, Array.getElem?_toList] at hj
  rw [List.getElem?_take, Array.getElem?_toList]
  by_cases h1 : j < k + 1
  · rw [if_pos h1] at hj ⊢
    by_cases h2 : j = k
    · subst h2
      rw [Array.getElem?_setIfInBounds_self_of_lt (by omega), List.getElem?_append_right (by omega), hs]; simp
    · rw [Array.getElem?_setIfInBounds_ne (Ne.symm h2), hj, List.getElem?_append_left (by omega), List.getElem?_append_left (by omega)]
  · rw [if_neg h1, List.getElem?_eq_none (by simp; omega)]
theorem adding_end {B lb mb k sg sc : Nat} {F : Nat → ByteArray} {w W X : World} {ss : List Value} {cur : Array Value} {o : Obj} (hlB : lb < B) (hmB : mb < B) (hB : B ≤ w.heap.size) (hsg : B ≤ sg) (hk : k < 8)
    (hA : Adding B lb mb k F w (.slice (some ⟨sg, 0, none⟩) (k + 1) sc) ss W) (hO : W.ownsRow B 73 1 (.slice (some ⟨sg, 0, none⟩) (k + 1) sc) (k + 1) (ss ++ [.slice none 0 0]))
    (hcur : W.heap[sg]? = some (.cells cur 73 (0, 0)) ∧ k + 1 ≤ cur.size ∧ cur.toList.take (k + 1) = ss ++ [.slice none 0 0] ∧ ss.length = k)
    {v' : Value} {w' : World} (ho : w'.ownsRow X.heap.size 77 2 v' 1 [.string (fname k), .string (F k)]) (hg : X.grownBy w' none) (x1 : X.heap = (W.alloc o).heap) (x2 : X.os = W.os) (x3 : X.tape = W.tape) (x4 : X.output = W.output) :
    ∃ ng nc, v' = .slice (some ⟨ng, 0, none⟩) 1 nc ∧ w'.cell? ⟨sg, k, none⟩ = some (.slice none 0 0) ∧ w'.frozen? ⟨sg, k, none⟩ = false ∧ w'.cell? ⟨lb, 1, none⟩ = some (.slice (some ⟨sg, 0, none⟩) (k + 1) sc) ∧ LibAt B lb mb F (k + 1) (w'.setCell ⟨sg, k, none⟩ v') ∧ AddKept B lb mb w (w'.setCell ⟨sg, k, none⟩ v') := by
  obtain ⟨hc, hsz, ht, hs⟩ := hcur
  have hsame : ∀ {b : Nat} {x : Obj}, W.heap[b]? = some x → w'.heap[b]? = some x := fun {b x} h => by
    have hb : b < W.heap.size := (Array.getElem?_eq_some_iff.1 h).1
    rw [hg.block b (by rw [x1, alloc_size]; omega) (fun e => by cases e), x1, alloc_else _ _ _ hb]; exact h
  have hXs : W.heap.size ≤ X.heap.size := by rw [x1, alloc_size]; omega
  rcases ho.2 with ⟨_, h0⟩ | ⟨ng, nc, ncur, rfl, n1, n2, n3, n4, n5, n6⟩
  · cases h0
  have hc' := hsame hc
  have hck : cur[k]? = some (.slice none 0 0) := by
    have := congrArg (fun l => l[k]?) ht
    simp only [List.getElem?_take, if_pos (show k < k + 1 by omega), Array.getElem?_toList] at this
    rw [this, List.getElem?_append_right (by omega), hs]; simp
  have hne : ∀ b, b ≠ sg → (w'.setCell ⟨sg, k, none⟩ (.slice (some ⟨ng, 0, none⟩) 1 nc)).heap[b]? = w'.heap[b]? := fun b hb => Below.heap_setCell _ _ _ _ hb
  refine ⟨ng, nc, rfl, by rw [Lib.cell_of_heap hc']; exact hck, Lib.frozen_of_heap hc' _, by rw [Lib.cell_of_heap (hsame hA.lib)]; rfl, ⟨.slice (some ⟨sg, 0, none⟩) (k + 1) sc, ss ++ [.slice (some ⟨ng, 0, none⟩) 1 nc], ?_, ?_, ⟨by simp [hs], ?_⟩, fun a ha => ?_⟩, ?_⟩
  · rw [hne lb (by omega)]; exact hsame hA.lib
  · rw [hne mb (by omega)]; exact hsame hA.map
  · rcases hO.2 with ⟨h0, _⟩ | ⟨g, cap, cur0, e, h1, h2, h3, h4, h5, h6⟩
    · cases h0
    · injection e with e1 _ e3
      injection e1 with e1
      injection e1 with e1
      subst e1 e3
      rw [hc] at h2
      injection h2 with h2
      injection h2 with h2
      subst h2
      refine Or.inr ⟨sg, sc, cur.setIfInBounds k (.slice (some ⟨ng, 0, none⟩) 1 nc), rfl, h1, heap_setCell_same _ _ _ _ _ _ hc', h3, h4, by rw [Array.size_setIfInBounds]; exact h5, ?_⟩
      rw [Nat.mul_one]
      exact take_set hsz ht hs
  · by_cases he : a = k
    · subst he
      have hq : ∀ (j : Nat) (u : Value), [Value.string (fname a), .string (F a)][j]? = some u → ncur[j]? = some u := fun j u hj => by
        rw [← n6] at hj
        rw [List.getElem?_take] at hj
        split at hj
        · rw [← Array.getElem?_toList]; exact hj
        · cases hj
      refine ⟨.slice (some ⟨ng, 0, none⟩) 1 nc, by rw [List.getElem?_append_right (by omega), hs]; simp, ng, nc, ncur, rfl, ?_, ?_, hq 0 _ rfl, hq 1 _ rfl⟩
      · have := hA.kept.size; omega
      · rw [hne ng (fun e => by rw [e, hc'] at n2; cases n2)]; exact n2
    · obtain ⟨v, hv, g, c, gcur, g1, g2, g3, g4⟩ := hA.src a (by omega)
      refine ⟨v, ?_, g, c, gcur, g1, g2, ?_, g4⟩
      · rw [List.getElem?_append_left (by omega)]; exact hv
      · rw [hne g (fun e => by rw [e, hc] at g3; cases g3)]; exact hsame g3
  · refine ⟨hg.os.trans (x2.trans hA.kept.os), hg.tape.trans (x3.trans hA.kept.tape), hg.output.trans (x4.trans hA.kept.output), by rw [World.size_setCell]; exact Nat.le_trans hA.kept.size (Nat.le_trans hXs hg.size), fun b hb h1 h2 h3 => ?_⟩
    have e1 := hA.kept.block b hb h1 h2 h3
    have hb2 : b ≠ sg := fun e => by
      subst e
      rcases h3 with h3 | h3
      · omega
      · exact h3 cur (by rw [← e1]; exact hc)
    rw [hne b hb2, ← e1]
    have : b < W.heap.size := Nat.lt_of_lt_of_le hb hA.kept.size
    rw [hsame (Array.getElem?_eq_getElem this), Array.getElem?_eq_getElem this]

set_option maxHeartbeats 3200000 in
set_option maxRecDepth 100000 in
theorem libAdd_any (B lb mb k : Nat) (F : Nat → ByteArray) (w : World) (hk : k < 8) (hlB : lb < B) (hmB : mb < B) (hB : B ≤ w.heap.size) (hlm : lb ≠ mb) (h : LibAt B lb mb F k w) :
    Calls Tryz.prog 233 #[.pointer (some ⟨lb, 0, none⟩), plV (plOf k), .agg #[.string (fname k), .string (F k)]] w fun e w' => e = .returned (.tuple #[]) ∧ LibAt B lb mb F (k + 1) w' ∧ AddKept B lb mb w w' := by
  obtain ⟨i0, hi, hz0, hz1, hz2⟩ := info_parts info73
  obtain ⟨j0, hj, hy0, hy1, hy2⟩ := info_parts info77
  obtain ⟨sv, ss, hl, hm, hown, hsrc⟩ := h
  have HS := hide hsrc
  have HO := hide hown
  obtain ⟨sa, sc, rfl⟩ := own_form hown
  generalize hW : (w.alloc (.cells #[.string sX, .string (fdir k)] 358)).alloc (.cells #[.string (fname k), .string (F k)] 77) = W
  have HW := hide hW
  have hb : Below w.heap.size w W := by rw [← hW]; exact below2 _ _ _
  have hl1 : W.heap[lb]? = some (.cells #[.map (some mb), .slice sa k sc] 272 (0, 0)) := by rw [hb.block lb (by omega)]; exact hl
  have hm1 : W.heap[mb]? = some (.map (libEntries k) k) := by rw [hb.block mb (by omega)]; exact hm
  have HO1 := hide (owns_later hown hb)
  have c0 : W.cell? ⟨lb, 0, none⟩ = some (.map (some mb)) := by rw [Lib.cell_of_heap hl1]; rfl
  have c1 : W.cell? ⟨lb, 1, none⟩ = some (.slice sa k sc) := by rw [Lib.cell_of_heap hl1]; rfl
  have hp1 : W.heap[w.heap.size]? = some (.cells #[.string sX, .string (fdir k)] 358 (0, 0)) := by rw [← hW]; exact heap2_0 _ _ _
  have hf1 : W.heap[w.heap.size + 1]? = some (.cells #[.string (fname k), .string (F k)] 77 (0, 0)) := by rw [← hW]; exact alloc_last _ _ _ (by rw [alloc_size])
  have p0 : W.cell? ⟨w.heap.size, 0, none⟩ = some (.string sX) := by rw [Lib.cell_of_heap hp1]; rfl
  have p1 : W.cell? ⟨w.heap.size, 1, none⟩ = some (.string (fdir k)) := by rw [Lib.cell_of_heap hp1]; rfl
  have hlook : ∀ q, (Instr.lookup 270 (.map (some mb)) (.agg #[.string sX, .string (fdir k)]) true).run Tryz.prog (W.drewN q) = .ok (.tuple #[.int .i64 0, .bool false]) (W.drewN q) := fun q =>
    look_no mb k k (plOf k) (W.drewN q) (plOf_short k) (fun a ha e => by have := fdir_inj (by omega) hk (congrArg Prod.snd e); omega) hm1
  have hlook1 : (Instr.lookup 270 (.map (some mb)) (.agg #[.string sX, .string (fdir k)]) true).run Tryz.prog W.drew = .ok (.tuple #[.int .i64 0, .bool false]) W.drew := hlook 1
  have hput : ∀ q, (Instr.mapUpdate 270 (.map (some mb)) (.agg #[.string sX, .string (fdir k)]) (.int .i64 (k : Int))).run Tryz.prog (W.drewN q) = .ok () { (W.drewN q) with heap := W.heap.setIfInBounds mb (.map (libEntries (k + 1)) (k + 1)) } := fun q =>
    put_new mb k (W.drewN q) hk hm1
  have hput1 : ∀ q, (Instr.mapUpdate 270 (.map (some mb)) (.agg #[.string sX, .string (fdir k)]) (.int .i64 (k : Int))).run Tryz.prog (W.drewN q).drew = .ok () { (W.drewN q).drew with heap := W.heap.setIfInBounds mb (.map (libEntries (k + 1)) (k + 1)) } := fun q =>
    put_new mb k (W.drewN q).drew hk hm1
  have HH := hide (show W.heap[lb]? = some (.cells #[.map (some mb), .slice sa k sc] 272 (0, 0)) ∧ W.heap[mb]? = some (.map (libEntries k) k) ∧ W.heap[w.heap.size]? = some (.cells #[.string sX, .string (fdir k)] 358 (0, 0)) ∧ W.heap[w.heap.size + 1]? = some (.cells #[.string (fname k), .string (F k)] 77 (0, 0)) ∧ Below w.heap.size w W from ⟨hl1, hm1, hp1, hf1, hb⟩)
  clear hl hm hown hsrc hW hb hl1 hm1 hp1 hf1
  unfold plV plOf
  go_enter Tryz.func233, Tryz.ntmps233
  go_wp2_with fail
  rw [HW.out]
  go_quiet (fail)
  go_wp2_with fail
  go_region
  generalize hW2 : ({ heap := W.heap.setIfInBounds mb (Obj.map (libEntries (k + 1)) (k + 1)), tape := W.tape, drawn := (W.drewN (nq + 1)).drawn, os := (W.drewN (nq + 1)).os, output := (W.drewN (nq + 1)).output } : World) = W2
  obtain ⟨hA, hO2⟩ := adding_start (W2 := W2) hlm (by omega) HH.out HO1.out HS.out (by rw [← hW2]) (by rw [← hW2]; rfl) (by rw [← hW2]) (by rw [← hW2]; rfl)
  have d1 : W2.cell? ⟨lb, 1, none⟩ = some (.slice sa k sc) := by rw [Lib.cell_of_heap hA.lib]; rfl
  have HA := hide hA
  have HO2 := hide hO2
  clear hA hO2 hW2 hlook hlook1 hput hput1 HH HO1 HO HS c0 c1 p0 p1 HW
  go_wp2_with (at_builtin; refine wpList_append_own _ rfl _ _ 53 rfl B 73 i0 (.slice none 0 0) 1 24 Tryz.underlying53 hi hz0 hz1 hz2 rfl (by decide) _ _ _ rfl (HO2.out.alloc _) ⟨W2.heap.size, 0, none⟩ 1 1 [.slice none 0 0] rfl rfl ?c1 ?c2 ?c3 ?c4 ?c5 ?_)
  case c1 =>
    intro j u hj
    match j, hj with
    | 0, hj => simp at hj; subst hj; simp [Addr.add]
  case c2 => intro u hu; simp at hu; subst hu; rfl
  case c3 => unfold maxLen; omega
  case c4 => omega
  case c5 => have := HA.out.kept.size; rw [alloc_size]; omega
  intro v' w3 hown' hgrow hnil
  have hA3 := adding_grow hlB hmB HA.out HO2.out hgrow
  obtain ⟨sg, sc', cur', rfl, g1, g2, g3, g4, g5, g6⟩ : ∃ g cap cur, v' = .slice (some ⟨g, 0, none⟩) (k + 1) cap ∧ B ≤ g ∧ w3.heap[g]? = some (.cells cur 73 (0, 0)) ∧ k + 1 ≤ cap ∧ cap ≤ maxLen ∧ cur.size = cap * 1 ∧ cur.toList.take ((k + 1) * 1) = ss ++ [.slice none 0 0] := by
    rcases hown'.2 with ⟨_, h0⟩ | h
    · omega
    · exact h
  have l1 : w3.cell? ⟨lb, 1, none⟩ = some (.slice sa k sc) := by rw [Lib.cell_of_heap hA3.lib]; rfl
  have l2 : w3.frozen? ⟨lb, 1, none⟩ = false := Lib.frozen_of_heap hA3.lib 1
  have HA4 := hide (adding_set (sv' := .slice (some ⟨sg, 0, none⟩) (k + 1) sc') hlm hlB hA3)
  have HO4 := hide (owns_set hown' (i := 1) hlB (.slice (some ⟨sg, 0, none⟩) (k + 1) sc'))
  have hsg := g1
  clear hA3 hown' hgrow hnil HA HO2 d1 g1 g2 g3 g4 g5 g6 cur'
  go_wp2_with fail
  generalize hW4 : w3.setCell ⟨lb, 1, none⟩ (.slice (some ⟨sg, 0, none⟩) (k + 1) sc') = W4 at HA4 HO4
  obtain ⟨cur', hcur, hsz, htk⟩ : ∃ cur : Array Value, W4.heap[sg]? = some (.cells cur 73 (0, 0)) ∧ k + 1 ≤ cur.size ∧ cur.toList.take (k + 1) = ss ++ [.slice none 0 0] := by
    rcases HO4.out.2 with ⟨h0, _⟩ | ⟨g, cap, cur, e, h1, h2, h3, h4, h5, h6⟩
    · cases h0
    · injection e with e1 _ e3
      injection e1 with e1
      injection e1 with e1
      subst e1
      exact ⟨cur, h2, by omega, by simpa using h6⟩
  have hss : ss.length = k := by have := congrArg List.length htk; simp at this; omega
  have hck : cur'[k]? = some (.slice none 0 0) := by
    have := congrArg (fun l => l[k]?) htk
    simp only [List.getElem?_take, if_pos (show k < k + 1 by omega), Array.getElem?_toList] at this
    rw [this, List.getElem?_append_right (by omega), hss]; simp
  have e0 : W4.cell? ⟨lb, 1, none⟩ = some (.slice (some ⟨sg, 0, none⟩) (k + 1) sc') := by rw [Lib.cell_of_heap HA4.out.lib]; rfl
  have e1 : W4.cell? ⟨sg, k, none⟩ = some (.slice none 0 0) := by rw [Lib.cell_of_heap hcur]; exact hck
  have e2 : W4.cell? ⟨w.heap.size + 1, 0, none⟩ = some (.string (fname k)) := by rw [Lib.cell_of_heap HA4.out.file]; rfl
  have e3 : W4.cell? ⟨w.heap.size + 1, 1, none⟩ = some (.string (F k)) := by rw [Lib.cell_of_heap HA4.out.file]; rfl
  have k0 := keepA e0 (.cells #[.string (fname k), .string (F k)] 77)
  have k1 := keepA e1 (.cells #[.string (fname k), .string (F k)] 77)
  have k2 := keepA e2 (.cells #[.string (fname k), .string (F k)] 77)
  have k3 := keepA e3 (.cells #[.string (fname k), .string (F k)] 77)
  have HCUR := hide (show W4.heap[sg]? = some (.cells cur' 73 (0, 0)) ∧ k + 1 ≤ cur'.size ∧ cur'.toList.take (k + 1) = ss ++ [.slice none 0 0] ∧ ss.length = k from ⟨hcur, hsz, htk, hss⟩)
  clear hcur hsz htk hss hck hW4 l1 l2
  have hkk : (k : Int) < (k : Int) + 1 := by omega
  have hkk0 : 0 ≤ (k : Int) ∧ (k : Int) < (k : Int) + 1 := ⟨by omega, hkk⟩
  go_region_law (refine step_append_grows rfl (.tmp 50) (.tmp 52) 73 rfl 77 j0 (.agg #[.string ⟨#[]⟩, .string ⟨#[]⟩]) 2 32 Tryz.underlying73 hj hy0 hy1 hy2 rfl (by decide) none 0 0 [] (by simp [Act.eval]) (fun _ => ⟨rfl, rfl⟩) rfl (fun b h => by cases h) _ 1 1 [.string (fname k), .string (F k)] (by simp [Act.eval]; rfl) rfl (by
      intro j u hj
      match j, hj with
      | 0, hj => simp at hj; subst hj; simp [Addr.add]
      | 1, hj => simp at hj; subst hj; simp [Addr.add]) (by intro u hu; simp at hu; rcases hu with rfl | rfl <;> rfl) (by decide) (by decide) (by decide) ?_; intro v' w' hown hgrow; obtain ⟨ng, nc, rfl, t1, t2, t3, R1, R2⟩ := adding_end (o := Obj.cells #[Value.string (fname k), Value.string (F k)] 77) hlB hmB hB hsg hk HA4.out HO4.out HCUR.out hown hgrow rfl rfl rfl rfl; have R := hide (And.intro R1 R2); clear hown hgrow R1 R2)
  all_goals
    go_wp2
    go_end0
    exact ⟨rfl, R.out.1, R.out.2.os, R.out.2.tape, R.out.2.output, R.out.2.size, R.out.2.block⟩
end Go.Proofs.YtcfhleenecfghaaGreatDoor
