/- The book of a caller who lends: one release is lent. -/
import Derived.Test.YtcfhleenecfghaaDoorDhb
namespace Go.Proofs.YtcfhleenecfghaaDoor
open Go.RowKit

/-- What lies in a row. -/
def RowAt (w : World) (b : Nat) (xs : List Value) : Prop := ∀ (j : Nat) (u : Value), xs[j]? = some u → w.cell? ⟨b, j, none⟩ = some u
/-- What the book has of the files that were lent. -/
def FilesSt (B N : Nat) (w : World) (fs : Value) (L : List Fil) : Prop :=
  (fs = .slice none 0 0 ∧ L = [] ∧ w.cell? ⟨B, 7, none⟩ = some (.slice none 0 0) ∧ w.cell? ⟨B, 8, none⟩ = some (.slice none 0 0)) ∨
  ∃ fo fc fw fwc b7 c7 b8 c8, fs = .slice (some ⟨fo, 0, none⟩) L.length fc ∧ N ≤ fo ∧ N ≤ fw ∧ FilesAt w fo 0 (L ++ beh3) ∧ FilesAt w fw 0 (L ++ beh3) ∧
    w.cell? ⟨B, 7, none⟩ = some (.slice (some ⟨b7, 0, none⟩) 1 c7) ∧ w.cell? ⟨B, 8, none⟩ = some (.slice (some ⟨b8, 0, none⟩) 1 c8) ∧ N ≤ b7 ∧ N ≤ b8 ∧
    w.cell? ⟨b7, 0, none⟩ = some (.slice (some ⟨fo, 0, none⟩) (L.length + 3) fc) ∧ w.cell? ⟨b8, 0, none⟩ = some (.slice (some ⟨fw, 0, none⟩) (L.length + 3) fwc)
theorem cell_up {N b o : Nat} {w w' : World} {v : Value} (hs : ∀ k, N ≤ k → k < w.heap.size → w'.heap[k]? = w.heap[k]?) (hb : N ≤ b) (hc : w.cell? ⟨b, o, none⟩ = some v) : w'.cell? ⟨b, o, none⟩ = some v := by
  rw [World.cell?_of_block (w := w) (hs b hb (World.block_lt_of_cell? (h := hc)))]
  exact hc
theorem FilesSt.saved {B N : Nat} {w w' : World} {fs : Value} {L : List Fil} (h : FilesSt B N w fs L) (hs : ∀ k, N ≤ k → k < w.heap.size → w'.heap[k]? = w.heap[k]?) (h7 : w'.cell? ⟨B, 7, none⟩ = w.cell? ⟨B, 7, none⟩) (h8 : w'.cell? ⟨B, 8, none⟩ = w.cell? ⟨B, 8, none⟩) : FilesSt B N w' fs L := by
  rcases h with ⟨e1, e2, e3, e4⟩ | ⟨fo, fc, fw, fwc, b7, c7, b8, c8, e1, n1, n2, f1, f2, k7, k8, n3, n4, o7, o8⟩
  · exact Or.inl ⟨e1, e2, h7.trans e3, h8.trans e4⟩
  · exact Or.inr ⟨fo, fc, fw, fwc, b7, c7, b8, c8, e1, n1, n2, fun j u hu => cell_up hs n1 (f1 j u hu), fun j u hu => cell_up hs n2 (f2 j u hu), h7.trans k7, h8.trans k8, n3, n4, cell_up hs n3 o7, cell_up hs n4 o8⟩
theorem FilesSt.mono {B N N' : Nat} {w : World} {fs : Value} {L : List Fil} (h : FilesSt B N w fs L) (hN : N' ≤ N) : FilesSt B N' w fs L := by
  rcases h with h | ⟨fo, fc, fw, fwc, b7, c7, b8, c8, e1, n1, n2, f1, f2, k7, k8, n3, n4, o7, o8⟩
  · exact Or.inl h
  · exact Or.inr ⟨fo, fc, fw, fwc, b7, c7, b8, c8, e1, by omega, by omega, f1, f2, k7, k8, by omega, by omega, o7, o8⟩

theorem lendFiles_nil (B : Nat) (w : World) : Calls Tryd.prog 27 #[.pointer (some ⟨B, 0, none⟩), .slice none 0 0] w fun e w' => e = .returned (.slice none 0 0) ∧ w' = w := by
  have hnil : (binOp .eql 27 (.slice none 0 0) (.slice none 0 0)).run Tryd.prog w = .ok (.bool true) w := by kernel_rfl
  go_enter Tryd.func27, Tryd.ntmps27
  go_wp2
  go_ret
  exact ⟨rfl, rfl⟩
theorem lendFiles_all (B N : Nat) (fs : Value) (L : List Fil) (w : World) (hN : N ≤ w.heap.size) (hl : L.length + 3 ≤ 4398046511104) (hc : FilesIn w fs L) (hBl : B < w.heap.size)
    (h7 : w.cell? ⟨B, 7, none⟩ = some (.slice none 0 0)) (h8 : w.cell? ⟨B, 8, none⟩ = some (.slice none 0 0)) (f7 : w.frozen? ⟨B, 7, none⟩ = false) (f8 : w.frozen? ⟨B, 8, none⟩ = false) :
    Calls Tryd.prog 27 #[.pointer (some ⟨B, 0, none⟩), fs] w fun e w' => ∃ a n c, e = .returned (.slice a n c) ∧ FilesSt B N w' (.slice a n c) L ∧
      (∀ i, i ≠ 7 → i ≠ 8 → w'.cell? ⟨B, i, none⟩ = w.cell? ⟨B, i, none⟩) ∧ (∀ i, w'.frozen? ⟨B, i, none⟩ = w.frozen? ⟨B, i, none⟩) ∧ Save B w w' := by
  have row : ∀ (ad : Addr) (c : Nat), (∀ j u, (flatF L)[j]? = some u → w.cell? (ad.add j) = some u) → Calls Tryd.prog 27 #[.pointer (some ⟨B, 0, none⟩), .slice (some ad) L.length c] w fun e w' => ∃ a n c, e = .returned (.slice a n c) ∧ FilesSt B N w' (.slice a n c) L ∧
      (∀ i, i ≠ 7 → i ≠ 8 → w'.cell? ⟨B, i, none⟩ = w.cell? ⟨B, i, none⟩) ∧ (∀ i, w'.frozen? ⟨B, i, none⟩ = w.frozen? ⟨B, i, none⟩) ∧ Save B w w' := by
    intro ad c hc
    refine (lendFiles_any B ad c L w hl hc hBl h7 h8 f7 f8).mono ?_
    rintro e w' ⟨ob, oc, wb, wc, v7, v8, rfl, n1, n2, p1, p2, k7, k8, ⟨b7, c7, rfl, m7, o7⟩, ⟨b8, c8, rfl, m8, o8⟩, hi, hf, hs⟩
    exact ⟨_, _, _, rfl, Or.inr ⟨ob, oc, wb, wc, b7, c7, b8, c8, rfl, by omega, by omega, p1, p2, k7, k8, by omega, by omega, o7, o8⟩, hi, hf, hs⟩
  rcases hc with ⟨rfl, rfl⟩ | ⟨a, c, rfl, rfl⟩ | ⟨g, o, c, rfl, hc⟩
  · refine (lendFiles_nil B w).mono ?_
    rintro e w' ⟨rfl, rfl⟩
    exact ⟨none, 0, 0, rfl, Or.inl ⟨rfl, rfl, h7, h8⟩, fun _ _ _ => rfl, fun _ => rfl, Save.refl _ _⟩
  · exact row a c (fun j u hu => by simp [flatF] at hu)
  · exact row _ c (fun j u hu => by rw [addr_add]; exact hc j u hu)

/-- The cells of a release, and of what stands behind. -/
def relRow (p v m : ByteArray) (fs : Value) : List Value := [.string p, .string v, .string m, fs]
def behR : List Value := [.string behind, .string ⟨#[]⟩, .string ⟨#[]⟩, .slice none 0 0, .string behind, .string ⟨#[]⟩, .string ⟨#[]⟩, .slice none 0 0, .string behind, .string ⟨#[]⟩, .string ⟨#[]⟩, .slice none 0 0]
theorem behR_one : ∀ u ∈ behR, u.oneCell' = true := by
  intro u hu
  simp [behR] at hu
  rcases hu with rfl | rfl | rfl | rfl | rfl | rfl | rfl | rfl | rfl <;> rfl
theorem relR_one (p v m : ByteArray) (a : Option Addr) (n c : Nat) : ∀ u ∈ relRow p v m (.slice a n c) ++ behR, u.oneCell' = true := by
  intro u hu
  rcases List.mem_append.1 hu with h | h
  · simp [relRow] at h
    rcases h with rfl | rfl | rfl | rfl <;> rfl
  · exact behR_one u h
theorem info29 : (Tryd.prog.info? 29).map (fun i => (i.zero, i.size, i.bytes)) = some (some (.agg #[.string ⟨#[]⟩, .string ⟨#[]⟩, .string ⟨#[]⟩, .slice none 0 0]), 4, 72) := by kernel_rfl
theorem info48 : (Tryd.prog.info? 48).map (fun i => (i.zero, i.size, i.bytes)) = some (some (.slice none 0 0), 1, 24) := by kernel_rfl
theorem eqnil48 (a : Addr) (n c : Nat) (w : World) : (binOp .eql 48 (.slice (some a) n c) (.slice none 0 0)).run Tryd.prog w = .ok (.bool false) w := by kernel_rfl
theorem Save.frozen {B : Nat} {w w' : World} (h : Save B w w') {b o : Nat} (hB : b ≠ B) (hlt : b < w.heap.size) : w'.frozen? ⟨b, o, none⟩ = w.frozen? ⟨b, o, none⟩ := by
  simp only [World.frozen?, h.block b hlt hB]
theorem rowAt_later {w w' : World} {b : Nat} {xs : List Value} (h : RowAt w b xs) (hb : Below w.heap.size w w') : RowAt w' b xs := fun j u hu => keep hb (h j u hu)
theorem rowAt_saved {B : Nat} {w w' : World} {b : Nat} {xs : List Value} (h : RowAt w b xs) (hs : Save B w w') (hb : b ≠ B) : RowAt w' b xs := fun j u hu => hs.cell hb (h j u hu)
theorem rowAt_own {w : World} {N e k n : Nat} {b c : Nat} {xs : List Value} (h : w.ownsRow N e k (.slice (some ⟨b, 0, none⟩) n c) n xs) : RowAt w b xs := by
  intro j u hu
  have := h.cells (g := b) rfl j u hu
  rw [addr_add, Nat.zero_add] at this
  exact this

set_option maxHeartbeats 1600000 in
set_option maxRecDepth 100000 in
theorem lend_any (B lb : Nat) (p v m : ByteArray) (fa : Option Addr) (fn fc : Nat) (L : List Fil) (w : World) (hl : L.length + 3 ≤ 4398046511104) (hc : FilesIn w (.slice fa fn fc) L) (hBl : B < w.heap.size)
    (hr : RowAt w lb (relRow p v m (.slice fa fn fc)))
    (h5 : w.cell? ⟨B, 5, none⟩ = some (.slice none 0 0)) (h6 : w.cell? ⟨B, 6, none⟩ = some (.slice none 0 0)) (h7 : w.cell? ⟨B, 7, none⟩ = some (.slice none 0 0)) (h8 : w.cell? ⟨B, 8, none⟩ = some (.slice none 0 0)) (hf : ∀ i, w.frozen? ⟨B, i, none⟩ = false) :
    Calls Tryd.prog 13 #[.pointer (some ⟨B, 0, none⟩), .slice (some ⟨lb, 0, none⟩) 1 1] w fun e w' => ∃ a n c ob oc wb wc v5 v6,
      e = .returned (.slice (some ⟨ob, 0, none⟩) 1 oc) ∧ FilesSt B w.heap.size w' (.slice a n c) L ∧ w.heap.size ≤ ob ∧ w.heap.size ≤ wb ∧ RowAt w' ob (relRow p v m (.slice a n c) ++ behR) ∧ RowAt w' wb (relRow p v m (.slice a n c) ++ behR) ∧
      w'.cell? ⟨B, 5, none⟩ = some v5 ∧ w'.cell? ⟨B, 6, none⟩ = some v6 ∧ OneAt w.heap.size w' v5 (.slice (some ⟨ob, 0, none⟩) 4 oc) ∧ OneAt w.heap.size w' v6 (.slice (some ⟨wb, 0, none⟩) 4 wc) ∧
      (∀ i, i ≠ 5 → i ≠ 6 → i ≠ 7 → i ≠ 8 → w'.cell? ⟨B, i, none⟩ = w.cell? ⟨B, i, none⟩) ∧ Save B w w' := by
  obtain ⟨i0, hi, hz0, hz1, hz2⟩ := info_parts info29
  obtain ⟨i1, hj, hy0, hy1, hy2⟩ := info_parts info48
  have r0 := hr 0 _ rfl
  have r1 := hr 1 _ rfl
  have r2 := hr 2 _ rfl
  have r3 := hr 3 _ rfl
  have HC : Hid (FilesIn w (.slice fa fn fc) L) := hc
  have r3' := fun o => keepA r3 o
  have hlt : lb < w.heap.size := World.block_lt_of_cell? (h := r0)
  have HBA : Hid (∀ o, Below w.heap.size w (w.alloc o)) := fun o => (Below.refl _ w).alloc (Nat.le_refl _) o
  clear hc hr
  have hnil := eqnil48
  go_enter Tryd.func13, Tryd.ntmps13
  go_wp2
  refine wp_loop_rounds 2 ?_
  rw [rounds_succ]
  go_wp2_with fail
  go_at_call 27
  refine (lendFiles_all B (w.heap.size + 1) (.slice fa fn fc) L _ (by simp) hl (HC.out.later (HBA.out _)) (by simp; omega) (keepA h7 _) (keepA h8 _) (by rw [keepFA hBl (hf 7)]) (by rw [keepFA hBl (hf 8)])).mono ?_
  rintro e w1 ⟨a, n, c, rfl, hFS, hi1, hf1, hs1⟩
  have R : ∀ j u, (relRow p v m (.slice fa fn fc))[j]? = some u → w1.cell? ⟨w.heap.size, j, none⟩ = some u := by
    intro j u hu
    refine hs1.cell (by omega) ?_
    rw [World.cell?_alloc_at _ _ _ _ rfl, List.getElem?_toArray]
    exact hu
  have t0 := R 0 _ rfl
  have t1 := R 1 _ rfl
  have t2 := R 2 _ rfl
  have t3 := R 3 _ rfl
  have z3 : w1.frozen? ⟨w.heap.size, 3, none⟩ = false := by
    rw [hs1.frozen (by omega) (by simp)]
    simp
  have HFS : Hid (FilesSt B (w.heap.size + 1) w1 (.slice a n c) L) := hFS
  have HS1 : Hid (Save B w w1) := (Save.of (HBA.out _)).trans hs1
  have HI1 : Hid (∀ i, i ≠ 7 → i ≠ 8 → w1.cell? ⟨B, i, none⟩ = w.cell? ⟨B, i, none⟩) := hide fun i x1 x2 => by rw [hi1 i x1 x2]; exact (HBA.out _).cell (p := ⟨B, i, none⟩) hBl
  have HF1 : Hid (∀ i, w1.frozen? ⟨B, i, none⟩ = false) := hide fun i => by rw [hf1 i, keepFA hBl (hf i)]
  clear hFS hi1 hf1 hs1 R
  obtain ⟨w2, hw2⟩ : ∃ w2, w1.setCell ⟨w.heap.size, 3, none⟩ (.slice a n c) = w2 := ⟨_, rfl⟩
  have HW2 : Hid (Save w.heap.size w1 w2) := hide (by rw [← hw2]; exact (Save.refl _ w1).setCell 3 _)
  have HZ2 : Hid (w2.heap.size = w1.heap.size) := hide (by rw [← hw2]; simp [World.setCell])
  have u0 : w2.cell? ⟨w.heap.size, 0, none⟩ = some (.string p) := by rw [← hw2, World.cell?_setCell_other (h := fun e => by injection e; omega)]; exact t0
  have u1 : w2.cell? ⟨w.heap.size, 1, none⟩ = some (.string v) := by rw [← hw2, World.cell?_setCell_other (h := fun e => by injection e; omega)]; exact t1
  have u2 : w2.cell? ⟨w.heap.size, 2, none⟩ = some (.string m) := by rw [← hw2, World.cell?_setCell_other (h := fun e => by injection e; omega)]; exact t2
  have u3 : w2.cell? ⟨w.heap.size, 3, none⟩ = some (.slice a n c) := by rw [← hw2]; exact World.cell?_setCell_same _ _ _ t3
  have HS2 : Hid (Save B w w2) := hide (by
    have h1 := HS1.out
    have h2 := HW2.out
    exact ⟨h2.os.trans h1.os, h2.tape.trans h1.tape, h2.output.trans h1.output, Nat.le_trans h1.size h2.size, fun k hk hB => (h2.block k (Nat.lt_of_lt_of_le hk h1.size) (by omega)).trans (h1.block k hk hB)⟩)
  go_wp2_with (at_builtin; refine wpList_append_own _ rfl _ _ 48 rfl w2.heap.size 29 i0 (.agg #[.string ⟨#[]⟩, .string ⟨#[]⟩, .string ⟨#[]⟩, .slice none 0 0]) 4 72 Tryd.underlying48 hi hz0 hz1 hz2 rfl (by decide) (.slice none 0 0) 0 [] rfl ⟨rfl, Or.inl ⟨rfl, rfl⟩⟩ ⟨w2.heap.size, 0, none⟩ 1 1 (relRow p v m (.slice a n c)) rfl rfl ?c1 ?c2 ?c3 ?c4 ?c5 ?_)
  case c1 => intro j u hj; rw [addr_add, World.cell?_alloc_at _ _ _ _ (by simp), List.getElem?_toArray, Nat.zero_add]; exact hj
  case c2 => intro u hu; simp [relRow] at hu; rcases hu with rfl | rfl | rfl | rfl <;> rfl
  case c3 => unfold maxLen; omega
  case c4 => omega
  case c5 => simp
  intro v3 w3 hown3 hgrow3 _
  have HO3 : Hid (w3.ownsRow w2.heap.size 29 4 v3 1 (relRow p v m (.slice a n c))) := hown3
  have HB3 : Hid (Below w2.heap.size w2 w3) := ((Below.refl _ w2).alloc (Nat.le_refl _) _).grown hgrow3 (by simp) (fun k hk => by simp [Value.ownBlock] at hk)
  clear hown3 hgrow3
  go_wp2
  rw [rounds_succ]
  go_wp2_with (at_builtin; refine wpList_append_own _ rfl _ _ 48 rfl w2.heap.size 29 i0 (.agg #[.string ⟨#[]⟩, .string ⟨#[]⟩, .string ⟨#[]⟩, .slice none 0 0]) 4 72 Tryd.underlying48 hi hz0 hz1 hz2 rfl (by decide) v3 1 (relRow p v m (.slice a n c)) rfl (HO3.out.alloc _) ⟨w3.heap.size, 0, none⟩ 3 3 behR rfl rfl ?d1 ?d2 ?d3 ?d4 ?d5 ?_)
  case d1 => intro j u hj; rw [addr_add, World.cell?_alloc_at _ _ _ _ (by simp), List.getElem?_toArray, Nat.zero_add]; exact hj
  case d2 => exact behR_one
  case d3 => unfold maxLen; omega
  case d4 => omega
  case d5 => have := HB3.out.size; simp; omega
  intro v4 w4 hown4 hgrow4 _
  have hs3 := HB3.out.size
  obtain ⟨ob, oc, hv4, hob, hoc⟩ : ∃ ob oc, v4 = .slice (some ⟨ob, 0, none⟩) 4 oc ∧ w2.heap.size ≤ ob ∧ 4 ≤ oc := by
    rcases hown4.2 with ⟨_, h0⟩ | ⟨ob, oc, cur, hv, h1, _, h2, _⟩
    · omega
    · exact ⟨ob, oc, hv, h1, by omega⟩
  subst hv4
  have HR4 : Hid (RowAt w4 ob (relRow p v m (.slice a n c) ++ behR)) := rowAt_own hown4
  have hobl : ob < w4.heap.size := (hown4.lt ob rfl).2
  have HB4 : Hid (Below w2.heap.size w2 w4) := (HB3.out.alloc HB3.out.size _).grown hgrow4 (by simp; omega) (fun k hk => (HO3.out.lt k hk).1)
  clear hown4 hgrow4 HO3
  have hs4 := HB4.out.size
  go_wp2_with (at_builtin; refine wpList_append_own _ rfl _ _ 48 rfl w4.heap.size 29 i0 (.agg #[.string ⟨#[]⟩, .string ⟨#[]⟩, .string ⟨#[]⟩, .slice none 0 0]) 4 72 Tryd.underlying48 hi hz0 hz1 hz2 rfl (by decide) (.slice none 0 0) 0 [] rfl ⟨rfl, Or.inl ⟨rfl, rfl⟩⟩ ⟨ob, 0, none⟩ 4 oc (relRow p v m (.slice a n c) ++ behR) rfl rfl ?e1 ?e2 ?e3 ?e4 ?e5 ?_)
  case e1 => intro j u hj; rw [addr_add, Nat.zero_add]; exact HR4.out j u hj
  case e2 => exact relR_one _ _ _ _ _ _
  case e3 => unfold maxLen; omega
  case e4 => omega
  case e5 => simp
  intro v5 w5 hown5 hgrow5 _
  obtain ⟨wb, wc, hv5, hwb⟩ : ∃ wb wc, v5 = .slice (some ⟨wb, 0, none⟩) 4 wc ∧ w4.heap.size ≤ wb := by
    rcases hown5.2 with ⟨_, h0⟩ | ⟨ob, oc, cur, hv, h1, _⟩
    · omega
    · exact ⟨ob, oc, hv, h1⟩
  subst hv5
  have HR5 : Hid (RowAt w5 wb (relRow p v m (.slice a n c) ++ behR)) := rowAt_own hown5
  have hwbl : wb < w5.heap.size := (hown5.lt wb rfl).2
  have HB5 : Hid (Below w4.heap.size w4 w5) := (Below.refl _ w4).grown hgrow5 (by simp) (fun k hk => by simp [Value.ownBlock] at hk)
  clear hown5 hgrow5
  have hs5 := HB5.out.size
  have HS5 : Hid (Save B w w5) := (HS2.out.then HB4.out).then HB5.out
  have hB2 : B < w2.heap.size := Nat.lt_of_lt_of_le hBl HS2.out.size
  have HI5 : Hid (∀ i, w5.cell? ⟨B, i, none⟩ = w1.cell? ⟨B, i, none⟩) := hide fun i => by
    rw [HB5.out.cell (p := ⟨B, i, none⟩) (by show B < _; omega), HB4.out.cell (p := ⟨B, i, none⟩) hB2, ← hw2, World.cell?_setCell_other (h := fun e => by injection e; omega)]
  have HF5 : Hid (∀ i, w5.frozen? ⟨B, i, none⟩ = false) := hide fun i => by
    rw [HB5.out.frozen (p := ⟨B, i, none⟩) (by show B < _; omega), HB4.out.frozen (p := ⟨B, i, none⟩) hB2, ← hw2, World.frozen?_setCell]
    exact HF1.out i
  have k5 : w5.cell? ⟨B, 5, none⟩ = some (.slice none 0 0) := by rw [HI5.out, HI1.out 5 (by omega) (by omega)]; exact h5
  have k6 : w5.cell? ⟨B, 6, none⟩ = some (.slice none 0 0) := by rw [HI5.out, HI1.out 6 (by omega) (by omega)]; exact h6
  have g5 := HF5.out 5
  have g6 := HF5.out 6
  go_wp2_with (at_builtin; refine wpList_append_own _ rfl _ _ 34 rfl w5.heap.size 48 i1 (.slice none 0 0) 1 24 Tryd.underlying34 hj hy0 hy1 hy2 rfl (by decide) (.slice none 0 0) 0 [] rfl ⟨rfl, Or.inl ⟨rfl, rfl⟩⟩ ⟨w5.heap.size, 0, none⟩ 1 1 [.slice (some ⟨ob, 0, none⟩) 4 oc] rfl rfl ?m1 ?m2 ?m3 ?m4 ?m5 ?_)
  case m1 => intro j u hj; rw [addr_add, World.cell?_alloc_at _ _ _ _ (by simp), List.getElem?_toArray, Nat.zero_add]; exact hj
  case m2 => intro u hu; simp at hu; subst hu; rfl
  case m3 => unfold maxLen; omega
  case m4 => omega
  case m5 => simp
  intro v6 w6 hown6 hgrow6 _
  obtain ⟨b5, c5, hv6, hc6, hb5⟩ : ∃ b5 c5, v6 = .slice (some ⟨b5, 0, none⟩) 1 c5 ∧ w6.cell? ⟨b5, 0, none⟩ = some (.slice (some ⟨ob, 0, none⟩) 4 oc) ∧ w5.heap.size ≤ b5 := by
    rcases hown6.2 with ⟨_, h0⟩ | ⟨b7, c7, cur, hv, h1, _⟩
    · omega
    · have hh := hown6
      rw [hv] at hh
      exact ⟨b7, c7, hv, hh.cells (g := b7) rfl 0 _ rfl, h1⟩
  subst hv6
  have hb6 : Below w5.heap.size w5 w6 := ((Below.refl _ w5).alloc (Nat.le_refl _) _).grown hgrow6 (by simp) (fun k hk => by simp [Value.ownBlock] at hk)
  clear hown6 hgrow6
  have hB5 : B < w5.heap.size := by omega
  have l5 := keep hb6 k5
  have l6 := keep hb6 k6
  have n5 := keepF hb6 hB5 g5
  have n6 := keepF hb6 hB5 g6
  have hs6 := hb6.size
  have HB6 : Hid (Below w5.heap.size w5 w6) := hb6
  clear hb6
  obtain ⟨w7, hw7⟩ : ∃ w7, w6.setCell ⟨B, 5, none⟩ (.slice (some ⟨b5, 0, none⟩) 1 c5) = w7 := ⟨_, rfl⟩
  have HS7 : Hid (Save B w6 w7) := hide (by rw [← hw7]; exact (Save.refl B w6).setCell 5 _)
  have HZ7 : Hid (w7.heap.size = w6.heap.size) := hide (by rw [← hw7]; simp [World.setCell])
  have HI7 : Hid (∀ i, i ≠ 5 → w7.cell? ⟨B, i, none⟩ = w6.cell? ⟨B, i, none⟩) := hide fun i h => by rw [← hw7, World.cell?_setCell_other (h := fun e => by injection e; omega)]
  have HF7 : Hid (∀ i, w7.frozen? ⟨B, i, none⟩ = w6.frozen? ⟨B, i, none⟩) := hide fun i => by rw [← hw7, World.frozen?_setCell]
  have HV7 : Hid (w7.cell? ⟨B, 5, none⟩ = some (.slice (some ⟨b5, 0, none⟩) 1 c5)) := hide (by rw [← hw7]; exact World.cell?_setCell_same _ _ _ l5)
  have o6 : w7.cell? ⟨B, 6, none⟩ = some (.slice none 0 0) := by rw [HI7.out 6 (by omega)]; exact l6
  have p6 : w7.frozen? ⟨B, 6, none⟩ = false := by rw [HF7.out]; exact n6
  go_wp2_with (at_builtin; refine wpList_append_own _ rfl _ _ 34 rfl w7.heap.size 48 i1 (.slice none 0 0) 1 24 Tryd.underlying34 hj hy0 hy1 hy2 rfl (by decide) (.slice none 0 0) 0 [] rfl ⟨rfl, Or.inl ⟨rfl, rfl⟩⟩ ⟨w7.heap.size, 0, none⟩ 1 1 [.slice (some ⟨wb, 0, none⟩) 4 wc] rfl rfl ?q1 ?q2 ?q3 ?q4 ?q5 ?_)
  case q1 => intro j u hj; rw [addr_add, World.cell?_alloc_at _ _ _ _ (by simp), List.getElem?_toArray, Nat.zero_add]; exact hj
  case q2 => intro u hu; simp at hu; subst hu; rfl
  case q3 => unfold maxLen; omega
  case q4 => omega
  case q5 => simp
  intro v8 w8 hown8 hgrow8 _
  obtain ⟨b6, c6, hv8, hc8, hb6⟩ : ∃ b5 c5, v8 = .slice (some ⟨b5, 0, none⟩) 1 c5 ∧ w8.cell? ⟨b5, 0, none⟩ = some (.slice (some ⟨wb, 0, none⟩) 4 wc) ∧ w7.heap.size ≤ b5 := by
    rcases hown8.2 with ⟨_, h0⟩ | ⟨b7, c7, cur, hv, h1, _⟩
    · omega
    · have hh := hown8
      rw [hv] at hh
      exact ⟨b7, c7, hv, hh.cells (g := b7) rfl 0 _ rfl, h1⟩
  subst hv8
  have hb8 : Below w7.heap.size w7 w8 := ((Below.refl _ w7).alloc (Nat.le_refl _) _).grown hgrow8 (by simp) (fun k hk => by simp [Value.ownBlock] at hk)
  clear hown8 hgrow8
  have hB7 : B < w7.heap.size := by have := HZ7.out; omega
  have r6 := keep hb8 o6
  have t6 := keepF hb8 hB7 p6
  have HB8 : Hid (Below w7.heap.size w7 w8) := hb8
  clear hb8
  go_wp2
  go_ret
  have hz7 := HZ7.out
  have hz2 := HZ2.out
  have hz1 := HS1.out.size
  have hs9 := (Save.refl B w8).setCell 6 (.slice (some ⟨b6, 0, none⟩) 1 c6)
  have hs79 := (HS7.out.then HB8.out).trans hs9
  have hs59 := (Save.of HB6.out).trans hs79
  have hcB : ∀ i, i ≠ 5 → i ≠ 6 → (w8.setCell ⟨B, 6, none⟩ (.slice (some ⟨b6, 0, none⟩) 1 c6)).cell? ⟨B, i, none⟩ = w1.cell? ⟨B, i, none⟩ := fun i x1 x2 => by
    rw [World.cell?_setCell_other (h := fun e => by injection e; omega), HB8.out.cell (p := ⟨B, i, none⟩) hB7, HI7.out i x1, HB6.out.cell (p := ⟨B, i, none⟩) hB5, HI5.out]
  have hs19 : Save B w (w8.setCell ⟨B, 6, none⟩ (.slice (some ⟨b6, 0, none⟩) 1 c6)) := HS5.out.trans hs59
  refine ⟨a, n, c, ob, oc, wb, wc, .slice (some ⟨b5, 0, none⟩) 1 c5, .slice (some ⟨b6, 0, none⟩) 1 c6, rfl, ?_, by omega, by omega, ?_, ?_, ?_, ?_, ?_, ?_, ?_, hs19⟩
  · refine (HFS.out.saved (fun k k1 k2 => ?_) (hcB 7 (by omega) (by omega)) (hcB 8 (by omega) (by omega))).mono (by omega)
    rw [hs59.block k (by omega) (by omega), HB5.out.block k (by omega), HB4.out.block k (by omega)]
    exact HW2.out.block k k2 (by omega)
  · exact rowAt_saved (rowAt_later HR4.out HB5.out) hs59 (by omega)
  · exact rowAt_saved HR5.out hs59 (by omega)
  · rw [World.cell?_setCell_other (h := fun e => by injection e; omega), HB8.out.cell (p := ⟨B, 5, none⟩) hB7]; exact HV7.out
  · exact World.cell?_setCell_same _ _ _ r6
  · exact ⟨b5, c5, rfl, by omega, hs79.cell (by omega) hc6⟩
  · exact ⟨b6, c6, rfl, by omega, hs9.cell (by omega) hc8⟩
  · intro i x1 x2 x3 x4
    rw [hcB i x1 x2]
    exact HI1.out i x3 x4
end Go.Proofs.YtcfhleenecfghaaDoor
