/- The law Digests: a release is lent, its sum is the reference's, and all that was lent is as it was. -/
import Derived.Test.YtcfhleenecfghaaDoorDhd
namespace Go.Proofs.YtcfhleenecfghaaDoor
open Go.RowKit

/-- What the book of one lent release is like. -/
structure Lent (B N : Nat) (w : World) (L : List Fil) : Prop where
  one : w.cell? ⟨B, 1, none⟩ = some (.slice none 0 0)
  three : w.cell? ⟨B, 3, none⟩ = some (.slice none 0 0)
  nine : w.cell? ⟨B, 9, none⟩ = some (.slice none 0 0)
  rest : ∃ p v m a n c ob oc wb wc b5 c5 b6 c6 fs, w.cell? ⟨B, 5, none⟩ = some (.slice (some ⟨b5, 0, none⟩) 1 c5) ∧ w.cell? ⟨B, 6, none⟩ = some (.slice (some ⟨b6, 0, none⟩) 1 c6) ∧
    w.cell? ⟨b5, 0, none⟩ = some (.slice (some ⟨ob, 0, none⟩) 4 oc) ∧ w.cell? ⟨b6, 0, none⟩ = some (.slice (some ⟨wb, 0, none⟩) 4 wc) ∧
    RowAt w ob (relRow p v m (.slice a n c) ++ behR) ∧ RowAt w wb (relRow p v m (.slice a n c) ++ behR) ∧ FilesSt B N w fs L
theorem FilesSt.later {B N : Nat} {w w' : World} {fs : Value} {L : List Fil} (h : FilesSt B N w fs L) (hb : Below w.heap.size w w') (hB : B < w.heap.size) : FilesSt B N w' fs L :=
  h.saved (fun k _ hk => hb.block k hk) (hb.cell (p := ⟨B, 7, none⟩) hB) (hb.cell (p := ⟨B, 8, none⟩) hB)
theorem Lent.later {B N : Nat} {w w' : World} {L : List Fil} (h : Lent B N w L) (hb : Below w.heap.size w w') (hB : B < w.heap.size) : Lent B N w' L := by
  obtain ⟨h1, h3, h9, p, v, m, a, n, c, ob, oc, wb, wc, b5, c5, b6, c6, fs, k5, k6, o5, o6, r1, r2, hf⟩ := h
  exact ⟨keep hb h1, keep hb h3, keep hb h9, p, v, m, a, n, c, ob, oc, wb, wc, b5, c5, b6, c6, fs, keep hb k5, keep hb k6, keep hb o5, keep hb o6, rowAt_later r1 hb, rowAt_later r2 hb, hf.later hb hB⟩
theorem looks_any (B N : Nat) (L : List Fil) (w : World) (hl : L.length ≤ 4398046511104) (h : Lent B N w L) :
    Calls Tryd.prog 8 #[.pointer (some ⟨B, 0, none⟩)] w fun e w' => e = .returned (.bool true) ∧ Below w.heap.size w w' := by
  obtain ⟨h1, h3, h9, p, v, m, a, n, c, ob, oc, wb, wc, b5, c5, b6, c6, fs, k5, k6, o5, o6, r1, r2, hf⟩ := h
  have HL := lists_any B N p v m a n c L ob oc wb wc b5 c5 b6 c6 fs w hl k5 k6 h9 o5 o6 r1 r2 hf
  have HLL : Hid _ := HL
  clear HL r1 r2 hf k5 k6 h9 o5 o6
  go_enter Tryd.func8, Tryd.ntmps8
  go_wp2
  refine wp_loop_rounds 1 ?_
  rw [rounds_succ]
  go_wp2
  refine wp_loop_rounds 1 ?_
  rw [rounds_succ]
  go_wp2_with (go_at_call 16; refine Calls.mono HLL.out ?_; rintro e w' ⟨rfl, hb⟩)
  go_ret
  exact ⟨rfl, hb⟩
theorem FilesSt.in {B N : Nat} {w : World} {fs : Value} {L : List Fil} (h : FilesSt B N w fs L) : FilesIn w fs L := by
  rcases h with ⟨e1, e2, _⟩ | ⟨fo, fc, fw, fwc, b7, c7, b8, c8, e1, _, _, f1, _⟩
  · exact Or.inl ⟨e1, e2⟩
  · refine Or.inr (Or.inr ⟨fo, 0, fc, e1, fun j u hu => f1 j u ?_⟩)
    rw [flatF_append, List.getElem?_append_left (List.getElem?_eq_some_iff.1 hu).1]
    exact hu
theorem FilesIn.saved {B : Nat} {w w' : World} {fa : Option Addr} {fn fc : Nat} {L : List Fil} (h : FilesIn w (.slice fa fn fc) L) (hs : Save B w w') (hg : L ≠ [] → ∀ a, fa = some a → a.block ≠ B) : FilesIn w' (.slice fa fn fc) L := by
  rcases h with h | h | ⟨g, o, c, e, h⟩
  · exact Or.inl h
  · exact Or.inr (Or.inl h)
  · by_cases hn : L = []
    · subst hn
      exact Or.inr (Or.inl ⟨_, _, e, rfl⟩)
    · refine Or.inr (Or.inr ⟨g, o, c, e, h.saved hs ?_⟩)
      injection e with e1
      exact hg hn _ e1
set_option maxHeartbeats 1600000 in
set_option maxRecDepth 100000 in
theorem digests_any (B : Nat) (p v m : ByteArray) (fa : Option Addr) (fn fc : Nat) (L : List Fil) (w : World) (hp : p.size ≤ 140737488355328) (hv : v.size ≤ 140737488355328) (hmm : m.size ≤ 140737488355328) (hl : L.length + 3 ≤ 4398046511104)
    (hz : ∀ f ∈ L, f.1.size ≤ 140737488355328 ∧ f.2.size ≤ 140737488355328) (hc : FilesIn w (.slice fa fn fc) L) (hg : L ≠ [] → ∀ a, fa = some a → a.block ≠ B) (hBl : B < w.heap.size) (hB5 : B ≠ 5)
    (hbk : ∀ i, 1 ≤ i → i ≤ 10 → w.cell? ⟨B, i, none⟩ = some (.slice none 0 0)) (hf : ∀ i, w.frozen? ⟨B, i, none⟩ = false) (hm : w.cell? ⟨5, 15, none⟩ = some (.int .u8 4)) :
    Calls Tryd.prog 7 #[.pointer (some ⟨B, 0, none⟩), .agg #[.string p, .string v, .string m, .slice fa fn fc]] w fun e w' => e = .returned (.bool true) ∧ Lent B w.heap.size w' L ∧ Save B w w' := by
  have hmx : ∀ {x : ByteArray}, x.size ≤ 140737488355328 → x.size ≤ maxLen := fun h => by unfold maxLen; omega
  have HC : Hid (FilesIn w (.slice fa fn fc) L) := hc
  have HBK : Hid (∀ i, 1 ≤ i → i ≤ 10 → w.cell? ⟨B, i, none⟩ = some (.slice none 0 0)) := hbk
  have HFZ : Hid (∀ i, w.frozen? ⟨B, i, none⟩ = false) := hf
  clear hc hbk hf
  go_enter Tryd.func7, Tryd.ntmps7
  go_wp2_with fail
  go_at_call 13
  obtain ⟨w0, hw0⟩ : ∃ w0, ((w.alloc (.cells #[.string p, .string v, .string m, .slice fa fn fc] 29)).alloc (.cells #[.string p, .string v, .string m, .slice fa fn fc] 29)) = w0 := ⟨_, rfl⟩
  have hb0 : Below w.heap.size w w0 := by rw [← hw0]; exact ((Below.refl _ w).alloc (Nat.le_refl _) _).alloc (by simp) _
  have hrow : RowAt w0 (w.heap.size + 1) (relRow p v m (.slice fa fn fc)) := by
    intro j u hu
    rw [← hw0, World.cell?_alloc_at _ _ _ _ (by simp), List.getElem?_toArray]
    exact hu
  have hrow0 : RowAt w0 w.heap.size (relRow p v m (.slice fa fn fc)) := by
    intro j u hu
    rw [← hw0]
    refine keepA ?_ _
    rw [World.cell?_alloc_at _ _ _ _ rfl, List.getElem?_toArray]
    exact hu
  have hz0 : w0.heap.size = w.heap.size + 2 := by rw [← hw0]; simp
  rw [hw0]
  clear hw0
  refine Calls.mono (lend_any B (w.heap.size + 1) p v m fa fn fc L w0 hl (HC.out.later hb0) (by omega) hrow (keep hb0 (HBK.out 5 (by omega) (by omega))) (keep hb0 (HBK.out 6 (by omega) (by omega))) (keep hb0 (HBK.out 7 (by omega) (by omega))) (keep hb0 (HBK.out 8 (by omega) (by omega))) (fun i => keepF hb0 hBl (HFZ.out i))) ?_
  rintro e w1 ⟨a, n, c, ob, oc, wb, wc, v5, v6, rfl, hFS, n1, n2, q1, q2, k5, k6, ⟨b5, c5, rfl, m5, o5⟩, ⟨b6, c6, rfl, m6, o6⟩, hrest, hs1⟩
  have hB0 : B < w0.heap.size := by omega
  have hs1z := hs1.size
  have hcb : ∀ i, 1 ≤ i → i ≤ 10 → i ≠ 5 → i ≠ 6 → i ≠ 7 → i ≠ 8 → w1.cell? ⟨B, i, none⟩ = some (.slice none 0 0) := fun i x1 x2 x5 x6 x7 x8 => by rw [hrest i x5 x6 x7 x8]; exact keep hb0 (HBK.out i x1 x2)
  have HLE : Hid (Lent B w.heap.size w1 L) := ⟨hcb 1 (by omega) (by omega) (by omega) (by omega) (by omega) (by omega), hcb 3 (by omega) (by omega) (by omega) (by omega) (by omega) (by omega), hcb 9 (by omega) (by omega) (by omega) (by omega) (by omega) (by omega), p, v, m, a, n, c, ob, oc, wb, wc, b5, c5, b6, c6, _, k5, k6, o5, o6, q1, q2, hFS.mono (by omega)⟩
  have HFI : Hid (FilesIn w1 (.slice a n c) L) := hFS.in
  have HRI : Hid (FilesIn w1 (.slice fa fn fc) L) := (HC.out.later hb0).saved hs1 hg
  have hm1 : w1.cell? ⟨5, 15, none⟩ = some (.int .u8 4) := hs1.cell (by omega) (keep hb0 hm)
  have z0 := q1 0 _ rfl
  have z1 := q1 1 _ rfl
  have z2 := q1 2 _ rfl
  have z3 := q1 3 _ rfl
  have y0 := hs1.cell (by omega : w.heap.size ≠ B) (hrow0 0 _ rfl)
  have y1 := hs1.cell (by omega : w.heap.size ≠ B) (hrow0 1 _ rfl)
  have y2 := hs1.cell (by omega : w.heap.size ≠ B) (hrow0 2 _ rfl)
  have y3 := hs1.cell (by omega : w.heap.size ≠ B) (hrow0 3 _ rfl)
  have HSV : Hid (Save B w w1) := (Save.of hb0).trans hs1
  clear hFS q1 q2 k5 k6 o5 o6 hrest hs1 hcb hrow hrow0 hb0
  go_wp2_with fail
  go_at_call 14
  refine Calls.mono (digest_any p v m (.slice a n c) L w1 (hmx hp) (hmx hv) (hmx hmm) (by omega) (fun f hf => ⟨hmx (hz f hf).1, hmx (hz f hf).2⟩) HFI.out hm1) ?_
  rintro e w2 ⟨t, rfl, ht, hb2⟩
  have x0 := keep hb2 y0
  have x1 := keep hb2 y1
  have x2 := keep hb2 y2
  have x3 := keep hb2 y3
  have hz2 := hb2.size
  have HB2 : Hid (Below w1.heap.size w1 w2) := hb2
  have HT : Hid _ := ht
  clear ht hb2
  go_wp2_with fail
  go_at_call 15
  refine Calls.mono (rdigest_any p v m (.slice fa fn fc) L w2 hp hv hmm (by omega) hz (HRI.out.later HB2.out)) ?_
  rintro e w3 ⟨t2, rfl, ht2, hb3⟩
  have hte : (t.toList == t2.toList) = true := by
    rw [toList_eq, HT.out, ht2]
    simp
  clear ht2
  go_wp2
  go_ret
  exact ⟨rfl, (HLE.out.later HB2.out (by omega)).later hb3 (by omega), (HSV.out.then HB2.out).then hb3⟩
set_option maxHeartbeats 800000 in
theorem Digests_any (p v m : ByteArray) (fa : Option Addr) (fn fc : Nat) (L : List Fil) (w : World) (hp : p.size ≤ 140737488355328) (hv : v.size ≤ 140737488355328) (hmm : m.size ≤ 140737488355328) (hl : L.length + 3 ≤ 4398046511104)
    (hz : ∀ f ∈ L, f.1.size ≤ 140737488355328 ∧ f.2.size ≤ 140737488355328) (hc : FilesIn w (.slice fa fn fc) L) (hg : L ≠ [] → ∀ a, fa = some a → a.block < w.heap.size) (hm : w.cell? ⟨5, 15, none⟩ = some (.int .u8 4)) :
    Calls Tryd.prog 4 #[.agg #[.string p, .string v, .string m, .slice fa fn fc]] w fun e w' => e = .returned (.bool true) ∧ Below w.heap.size w w' := by
  have HC : Hid (FilesIn w (.slice fa fn fc) L) := hc
  clear hc
  go_enter Tryd.func4, Tryd.ntmps4
  go_wp2_with fail
  go_at_call 7
  obtain ⟨w0, hw0⟩ : ∃ w0, ((w.alloc (.cells #[.string p, .string v, .string m, .slice fa fn fc] 29)).alloc (.cells #[.int .i64 0, .slice none 0 0, .slice none 0 0, .slice none 0 0, .slice none 0 0, .slice none 0 0, .slice none 0 0, .slice none 0 0, .slice none 0 0, .slice none 0 0, .slice none 0 0] 37)) = w0 := ⟨_, rfl⟩
  have hb0 : Below w.heap.size w w0 := by rw [← hw0]; exact ((Below.refl _ w).alloc (Nat.le_refl _) _).alloc (by simp) _
  have hz0 : w0.heap.size = w.heap.size + 2 := by rw [← hw0]; simp
  have h5 : 5 < w.heap.size := World.block_lt_of_cell? (h := hm)
  have hbk : ∀ i, 1 ≤ i → i ≤ 10 → w0.cell? ⟨w.heap.size + 1, i, none⟩ = some (.slice none 0 0) := by
    intro i h1 h2
    rw [← hw0, World.cell?_alloc_at _ _ _ _ (by simp), List.getElem?_toArray]
    rcases (by omega : i = 1 ∨ i = 2 ∨ i = 3 ∨ i = 4 ∨ i = 5 ∨ i = 6 ∨ i = 7 ∨ i = 8 ∨ i = 9 ∨ i = 10) with rfl | rfl | rfl | rfl | rfl | rfl | rfl | rfl | rfl | rfl <;> rfl
  have hfz : ∀ i, w0.frozen? ⟨w.heap.size + 1, i, none⟩ = false := by
    intro i
    rw [← hw0, show w.heap.size + 1 = (w.alloc (.cells #[.string p, .string v, .string m, .slice fa fn fc] 29)).heap.size by simp]
    exact World.frozen?_alloc_new _ _ _ _
  rw [hw0]
  clear hw0
  refine Calls.mono (digests_any (w.heap.size + 1) p v m fa fn fc L w0 hp hv hmm hl hz (HC.out.later hb0) (fun hn a ha => by have := hg hn a ha; omega) (by omega) (by omega) hbk hfz (keep hb0 hm)) ?_
  rintro e w1 ⟨rfl, hL, hs⟩
  have hs1 := hs.size
  have HL : Hid (Lent (w.heap.size + 1) w0.heap.size w1 L) := hL
  have HB : Hid (Below w.heap.size w w1) := hb0.trans (hs.below (by omega) (by omega))
  clear hL hs hbk hfz hb0
  go_wp2_with fail
  go_at_call 8
  refine Calls.mono (looks_any (w.heap.size + 1) w0.heap.size L w1 (by omega) HL.out) ?_
  rintro e w2 ⟨rfl, hb2⟩
  have HB2 : Hid (Below w1.heap.size w1 w2) := hb2
  clear hb2
  go_wp2
  go_ret
  exact ⟨rfl, HB.out.trans (HB2.out.mono HB.out.size)⟩
end Go.Proofs.YtcfhleenecfghaaDoor
