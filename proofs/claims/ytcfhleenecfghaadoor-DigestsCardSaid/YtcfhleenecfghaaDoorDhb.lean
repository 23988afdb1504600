/- The book of a caller who lends: a list of files is lent. -/
import Derived.Test.YtcfhleenecfghaaDoorDha
namespace Go.Proofs.YtcfhleenecfghaaDoor
open Go.RowKit

/-- All that was there is as it was, but for block B. -/
structure Save (B : Nat) (w w' : World) : Prop where
  os : w'.os = w.os
  tape : w'.tape = w.tape
  output : w'.output = w.output
  size : w.heap.size ≤ w'.heap.size
  block : ∀ k, k < w.heap.size → k ≠ B → w'.heap[k]? = w.heap[k]?
theorem Save.of {B : Nat} {w w' : World} (h : Below w.heap.size w w') : Save B w w' := ⟨h.os, h.tape, h.output, h.size, fun k hk _ => h.block k hk⟩
theorem Save.refl (B : Nat) (w : World) : Save B w w := Save.of (Below.refl _ _)
theorem Save.trans {B : Nat} {w w1 w2 : World} (h : Save B w w1) (h2 : Save B w1 w2) : Save B w w2 :=
  ⟨h2.os.trans h.os, h2.tape.trans h.tape, h2.output.trans h.output, Nat.le_trans h.size h2.size, fun k hk hB => (h2.block k (Nat.lt_of_lt_of_le hk h.size) hB).trans (h.block k hk hB)⟩
theorem Save.then {B : Nat} {w w1 w2 : World} (h : Save B w w1) (h2 : Below w1.heap.size w1 w2) : Save B w w2 := h.trans (Save.of h2)
theorem Save.setCell {B : Nat} {w w1 : World} (h : Save B w w1) (o : Nat) (v : Value) : Save B w (w1.setCell ⟨B, o, none⟩ v) := by
  refine h.trans ⟨rfl, rfl, rfl, by simp [World.setCell], fun k hk hB => ?_⟩
  simp only [World.setCell]
  rw [Array.getElem?_modify, if_neg (fun e => hB e.symm)]
theorem Save.cell {B : Nat} {w w' : World} (h : Save B w w') {b o : Nat} {v : Value} (hB : b ≠ B) (hc : w.cell? ⟨b, o, none⟩ = some v) : w'.cell? ⟨b, o, none⟩ = some v := by
  rw [World.cell?_of_block (w := w) (h.block b (World.block_lt_of_cell? (h := hc)) hB)]
  exact hc
theorem Save.below {B b : Nat} {w w' : World} (h : Save B w w') (hb : b ≤ B) (hs : b ≤ w.heap.size) : Below b w w' :=
  ⟨h.os, h.tape, h.output, h.size, fun k hk => h.block k (by omega) (by omega)⟩
theorem FilesAt.saved {B : Nat} {w w' : World} {g o : Nat} {L : List Fil} (h : FilesAt w g o L) (hs : Save B w w') (hg : g ≠ B) : FilesAt w' g o L := fun j u hu => hs.cell hg (h j u hu)

/-- What stands behind a list that is lent. -/
def behind : ByteArray := ⟨#[98, 101, 104, 105, 110, 100]⟩
def beh3 : List Fil := [(behind, ⟨#[]⟩), (behind, ⟨#[]⟩), (behind, ⟨#[]⟩)]
/-- A list of one list. -/
def OneAt (N : Nat) (w : World) (v u : Value) : Prop := ∃ b c, v = .slice (some ⟨b, 0, none⟩) 1 c ∧ N ≤ b ∧ w.cell? ⟨b, 0, none⟩ = some u
theorem info27 : (Tryd.prog.info? 27).map (fun i => (i.zero, i.size, i.bytes)) = some (some (.slice none 0 0), 1, 24) := by kernel_rfl

set_option maxHeartbeats 1600000 in
set_option maxRecDepth 100000 in
theorem lendFiles_any (B : Nat) (ad : Addr) (c : Nat) (L : List Fil) (w : World) (hl : L.length + 3 ≤ 4398046511104) (hc : ∀ j u, (flatF L)[j]? = some u → w.cell? (ad.add j) = some u) (hBl : B < w.heap.size)
    (h7 : w.cell? ⟨B, 7, none⟩ = some (.slice none 0 0)) (h8 : w.cell? ⟨B, 8, none⟩ = some (.slice none 0 0)) (f7 : w.frozen? ⟨B, 7, none⟩ = false) (f8 : w.frozen? ⟨B, 8, none⟩ = false) :
    Calls Tryd.prog 27 #[.pointer (some ⟨B, 0, none⟩), .slice (some ad) L.length c] w fun e w' => ∃ ob oc wb wc v7 v8,
      e = .returned (.slice (some ⟨ob, 0, none⟩) L.length oc) ∧ w.heap.size ≤ ob ∧ w.heap.size ≤ wb ∧ FilesAt w' ob 0 (L ++ beh3) ∧ FilesAt w' wb 0 (L ++ beh3) ∧
      w'.cell? ⟨B, 7, none⟩ = some v7 ∧ w'.cell? ⟨B, 8, none⟩ = some v8 ∧ OneAt w.heap.size w' v7 (.slice (some ⟨ob, 0, none⟩) (L.length + 3) oc) ∧ OneAt w.heap.size w' v8 (.slice (some ⟨wb, 0, none⟩) (L.length + 3) wc) ∧
      (∀ i, i ≠ 7 → i ≠ 8 → w'.cell? ⟨B, i, none⟩ = w.cell? ⟨B, i, none⟩) ∧ (∀ i, w'.frozen? ⟨B, i, none⟩ = w.frozen? ⟨B, i, none⟩) ∧ Save B w w' := by
  obtain ⟨i0, hi, hz0, hz1, hz2⟩ := info_parts info69
  obtain ⟨i1, hj, hy0, hy1, hy2⟩ := info_parts info27
  have HC : Hid (∀ j u, (flatF L)[j]? = some u → w.cell? (ad.add j) = some u) := hc
  clear hc
  have hnil := eqnil27
  go_enter Tryd.func27, Tryd.ntmps27
  go_wp2_with (at_builtin; refine wpList_append_own _ rfl _ _ 27 rfl w.heap.size 69 i0 (.agg #[.string ⟨#[]⟩, .string ⟨#[]⟩]) 2 32 Tryd.underlying27 hi hz0 hz1 hz2 rfl (by decide) (.slice none 0 0) 0 [] rfl ⟨rfl, Or.inl ⟨rfl, rfl⟩⟩ ad L.length c (flatF L) rfl ?c0 ?c1 ?c2 ?c3 ?c4 ?c5 ?_)
  case c0 => rw [flatF_len]
  case c1 => exact HC.out
  case c2 => exact flatF_one _
  case c3 => unfold maxLen; omega
  case c4 => omega
  case c5 => simp
  intro v1 w1 hown1 hgrow1 _
  have HO1 : Hid (w1.ownsRow w.heap.size 69 2 v1 L.length (flatF L)) := by
    refine hide ?_
    simpa using hown1
  have hb1 : Below w.heap.size w w1 := (Below.refl _ w).grown hgrow1 (by simp) (fun k hk => by simp [Value.ownBlock] at hk)
  clear hown1 hgrow1
  have HB1 : Hid (Below w.heap.size w w1) := hb1
  clear hb1
  go_wp2_with (at_builtin; refine wpList_append_own _ rfl _ _ 27 rfl w.heap.size 69 i0 (.agg #[.string ⟨#[]⟩, .string ⟨#[]⟩]) 2 32 Tryd.underlying27 hi hz0 hz1 hz2 rfl (by decide) v1 L.length (flatF L) rfl (HO1.out.alloc _) ⟨w1.heap.size, 0, none⟩ 3 3 (flatF beh3) rfl rfl ?d1 ?d2 ?d3 ?d4 ?d5 ?_)
  case d1 => intro j u hj; rw [addr_add, World.cell?_alloc_at _ _ _ _ (by simp), List.getElem?_toArray, Nat.zero_add]; exact hj
  case d2 => exact flatF_one _
  case d3 => unfold maxLen; omega
  case d4 => omega
  case d5 => have := HB1.out.size; simp; omega
  intro v2 w2 hown2 hgrow2 _
  have HO2 : Hid (w2.ownsRow w.heap.size 69 2 v2 (L ++ beh3).length (flatF (L ++ beh3))) := by
    refine hide ?_
    rw [flatF_append, List.length_append]
    exact hown2
  have hb2 : Below w.heap.size w w2 := (HB1.out.alloc HB1.out.size _).grown hgrow2 (by have := HB1.out.size; simp; omega) (fun k hk => (HO1.out.lt k hk).1)
  have HB2 : Hid (Below w.heap.size w w2) := hb2
  clear hown2 hgrow2 hb2 HO1 HB1
  have hl3 : (L ++ beh3).length = L.length + 3 := by rw [List.length_append]; rfl
  obtain ⟨ob, oc, hv2, hob, hoc⟩ : ∃ ob oc, v2 = .slice (some ⟨ob, 0, none⟩) (L.length + 3) oc ∧ w.heap.size ≤ ob ∧ L.length + 3 ≤ oc := by
    rcases HO2.out.2 with ⟨_, h0⟩ | ⟨ob, oc, cur, hv, h1, _, h2, _⟩
    · omega
    · exact ⟨ob, oc, by rw [hv, hl3], h1, by omega⟩
  subst hv2
  have HF2 : Hid (FilesAt w2 ob 0 (L ++ beh3)) := by
    refine hide ?_
    have := HO2.out
    rw [← hl3] at this
    exact filesAt_own this
  have hobl : ob < w2.heap.size := (HO2.out.lt ob rfl).2
  have HL3 : Hid ((L ++ beh3).length = L.length + 3) := hl3
  clear hl3 HO2
  go_wp2_with (at_builtin; refine wpList_append_own _ rfl _ _ 27 rfl w2.heap.size 69 i0 (.agg #[.string ⟨#[]⟩, .string ⟨#[]⟩]) 2 32 Tryd.underlying27 hi hz0 hz1 hz2 rfl (by decide) (.slice none 0 0) 0 [] rfl ⟨rfl, Or.inl ⟨rfl, rfl⟩⟩ ⟨ob, 0, none⟩ (L.length + 3) oc (flatF (L ++ beh3)) rfl ?e0 ?e1 ?e2 ?e3 ?e4 ?e5 ?_)
  case e0 => rw [flatF_len, HL3.out]
  case e1 => intro j u hj; rw [addr_add]; exact HF2.out j u hj
  case e2 => exact flatF_one _
  case e3 => unfold maxLen; omega
  case e4 => omega
  case e5 => simp
  intro v3 w3 hown3 hgrow3 _
  have HO3 : Hid (w3.ownsRow w2.heap.size 69 2 v3 (L ++ beh3).length (flatF (L ++ beh3))) := by
    refine hide ?_
    rw [HL3.out]
    simpa using hown3
  have hb3 : Below w2.heap.size w2 w3 := (Below.refl _ w2).grown hgrow3 (by simp) (fun k hk => by simp [Value.ownBlock] at hk)
  clear hown3 hgrow3
  obtain ⟨wb, wc, hv3, hwb, hwc⟩ : ∃ wb wc, v3 = .slice (some ⟨wb, 0, none⟩) (L.length + 3) wc ∧ w2.heap.size ≤ wb ∧ L.length + 3 ≤ wc := by
    have hl3 := HL3.out
    rcases HO3.out.2 with ⟨_, h0⟩ | ⟨ob, oc, cur, hv, h1, _, h2, _⟩
    · omega
    · exact ⟨ob, oc, by rw [hv, hl3], h1, by omega⟩
  subst hv3
  have HF3 : Hid (FilesAt w3 wb 0 (L ++ beh3)) := by
    refine hide ?_
    have := HO3.out
    rw [← HL3.out] at this
    exact filesAt_own this
  have hwbl : wb < w3.heap.size := (HO3.out.lt wb rfl).2
  have hs2 := HB2.out.size
  have hs3 := hb3.size
  have hW3 : Below w.heap.size w w3 := HB2.out.trans (hb3.mono hs2)
  have HB3 : Hid (Below w2.heap.size w2 w3) := hb3
  have HW3 : Hid (Below w.heap.size w w3) := hW3
  have k7 := keep hW3 h7
  have k8 := keep hW3 h8
  have g7 := keepF hW3 hBl f7
  have g8 := keepF hW3 hBl f8
  clear HO3 hb3 hW3
  go_wp2_with (at_builtin; refine wpList_append_own _ rfl _ _ 35 rfl w3.heap.size 27 i1 (.slice none 0 0) 1 24 Tryd.underlying35 hj hy0 hy1 hy2 rfl (by decide) (.slice none 0 0) 0 [] rfl ⟨rfl, Or.inl ⟨rfl, rfl⟩⟩ ⟨w3.heap.size, 0, none⟩ 1 1 [.slice (some ⟨ob, 0, none⟩) (L.length + 3) oc] rfl rfl ?m1 ?m2 ?m3 ?m4 ?m5 ?_)
  case m1 => intro j u hj; rw [addr_add, World.cell?_alloc_at _ _ _ _ (by simp), List.getElem?_toArray, Nat.zero_add]; exact hj
  case m2 => intro u hu; simp at hu; subst hu; rfl
  case m3 => unfold maxLen; omega
  case m4 => omega
  case m5 => simp
  intro v7 w4 hown4 hgrow4 _
  have HO4 : Hid (w4.ownsRow w3.heap.size 27 1 v7 1 [.slice (some ⟨ob, 0, none⟩) (L.length + 3) oc]) := hown4
  have hb4 : Below w3.heap.size w3 w4 := ((Below.refl _ w3).alloc (Nat.le_refl _) _).grown hgrow4 (by simp) (fun k hk => by simp [Value.ownBlock] at hk)
  clear hown4 hgrow4
  obtain ⟨b7, c7, hv7, hc7, hb7⟩ : ∃ b7 c7, v7 = .slice (some ⟨b7, 0, none⟩) 1 c7 ∧ w4.cell? ⟨b7, 0, none⟩ = some (.slice (some ⟨ob, 0, none⟩) (L.length + 3) oc) ∧ w3.heap.size ≤ b7 := by
    rcases HO4.out.2 with ⟨_, h0⟩ | ⟨b7, c7, cur, hv, h1, _⟩
    · omega
    · have hh := HO4.out
      rw [hv] at hh
      exact ⟨b7, c7, hv, hh.cells (g := b7) rfl 0 _ rfl, h1⟩
  subst hv7
  clear HO4
  have l7 := keep hb4 k7
  have l8 := keep hb4 k8
  have hB3 : B < w3.heap.size := by omega
  have n7 := keepF hb4 hB3 g7
  have n8 := keepF hb4 hB3 g8
  have hs4 := hb4.size
  have HB4 : Hid (Below w3.heap.size w3 w4) := hb4
  clear hb4 k7 k8 g7 g8
  have o8 : (w4.setCell ⟨B, 7, none⟩ (.slice (some ⟨b7, 0, none⟩) 1 c7)).cell? ⟨B, 8, none⟩ = some (.slice none 0 0) := by
    rw [World.cell?_setCell_other (h := fun e => by injection e; omega)]; exact l8
  have p8 : (w4.setCell ⟨B, 7, none⟩ (.slice (some ⟨b7, 0, none⟩) 1 c7)).frozen? ⟨B, 8, none⟩ = false := by rw [World.frozen?_setCell]; exact n8
  have HZS : Hid ((w4.setCell ⟨B, 7, none⟩ (.slice (some ⟨b7, 0, none⟩) 1 c7)).heap.size = w4.heap.size) := hide (by simp [World.setCell])
  have HSV : Hid (Save B w (w4.setCell ⟨B, 7, none⟩ (.slice (some ⟨b7, 0, none⟩) 1 c7))) := (((Save.of HW3.out).then HB4.out).setCell 7 (.slice (some ⟨b7, 0, none⟩) 1 c7))
  have HS4 : Hid (Save B w4 (w4.setCell ⟨B, 7, none⟩ (.slice (some ⟨b7, 0, none⟩) 1 c7))) := (Save.refl B w4).setCell 7 (.slice (some ⟨b7, 0, none⟩) 1 c7)
  have HV7 : Hid ((w4.setCell ⟨B, 7, none⟩ (.slice (some ⟨b7, 0, none⟩) 1 c7)).cell? ⟨B, 7, none⟩ = some (.slice (some ⟨b7, 0, none⟩) 1 c7)) := World.cell?_setCell_same _ _ _ l7
  have HR7 : Hid (∀ i, i ≠ 7 → (w4.setCell ⟨B, 7, none⟩ (.slice (some ⟨b7, 0, none⟩) 1 c7)).cell? ⟨B, i, none⟩ = w.cell? ⟨B, i, none⟩) := hide (fun i h => by
    rw [World.cell?_setCell_other (h := fun e => by injection e; omega), HB4.out.cell (p := ⟨B, i, none⟩) hB3, HW3.out.cell (p := ⟨B, i, none⟩) hBl])
  have HZ7 : Hid (∀ i, (w4.setCell ⟨B, 7, none⟩ (.slice (some ⟨b7, 0, none⟩) 1 c7)).frozen? ⟨B, i, none⟩ = w.frozen? ⟨B, i, none⟩) := hide (fun i => by
    rw [World.frozen?_setCell, HB4.out.frozen (p := ⟨B, i, none⟩) hB3, HW3.out.frozen (p := ⟨B, i, none⟩) hBl])
  obtain ⟨w5, h5⟩ : ∃ w5, w4.setCell ⟨B, 7, none⟩ (.slice (some ⟨b7, 0, none⟩) 1 c7) = w5 := ⟨_, rfl⟩
  rw [h5] at o8 p8 HZS HSV HS4 HV7 HR7 HZ7
  go_wp2_with (at_builtin; refine wpList_append_own _ rfl _ _ 35 rfl w5.heap.size 27 i1 (.slice none 0 0) 1 24 Tryd.underlying35 hj hy0 hy1 hy2 rfl (by decide) (.slice none 0 0) 0 [] rfl ⟨rfl, Or.inl ⟨rfl, rfl⟩⟩ ⟨w5.heap.size, 0, none⟩ 1 1 [.slice (some ⟨wb, 0, none⟩) (L.length + 3) wc] rfl rfl ?r1 ?r2 ?r3 ?r4 ?r5 ?_)
  case r1 => intro j u hj; rw [addr_add, World.cell?_alloc_at _ _ _ _ (by simp), List.getElem?_toArray, Nat.zero_add]; exact hj
  case r2 => intro u hu; simp at hu; subst hu; rfl
  case r3 => unfold maxLen; omega
  case r4 => omega
  case r5 => simp
  intro v8 w6 hown6 hgrow6 _
  obtain ⟨b8, c8, hv8, hc8, hb8⟩ : ∃ b8 c8, v8 = .slice (some ⟨b8, 0, none⟩) 1 c8 ∧ w6.cell? ⟨b8, 0, none⟩ = some (.slice (some ⟨wb, 0, none⟩) (L.length + 3) wc) ∧ w5.heap.size ≤ b8 := by
    rcases hown6.2 with ⟨_, h0⟩ | ⟨b7, c7, cur, hv, h1, _⟩
    · omega
    · have hh := hown6
      rw [hv] at hh
      exact ⟨b7, c7, hv, hh.cells (g := b7) rfl 0 _ rfl, h1⟩
  subst hv8
  have hb6 : Below w5.heap.size w5 w6 := ((Below.refl _ w5).alloc (Nat.le_refl _) _).grown hgrow6 (by simp) (fun k hk => by simp [Value.ownBlock] at hk)
  clear hown6 hgrow6
  have hB5 : B < w5.heap.size := by have := HZS.out; omega
  have r8 := keep hb6 o8
  have t8 := keepF hb6 hB5 p8
  have HB6 : Hid (Below w5.heap.size w5 w6) := hb6
  clear hb6
  go_wp2
  go_ret
  have hsv := (HSV.out.then HB6.out).setCell 8 (.slice (some ⟨b8, 0, none⟩) 1 c8)
  have hz5 := HZS.out
  have hs5 := ((HS4.out.then HB6.out).setCell 8 (.slice (some ⟨b8, 0, none⟩) 1 c8))
  have hs6 := (Save.refl B w6).setCell 8 (.slice (some ⟨b8, 0, none⟩) 1 c8)
  refine ⟨ob, oc, wb, wc, .slice (some ⟨b7, 0, none⟩) 1 c7, .slice (some ⟨b8, 0, none⟩) 1 c8, rfl, hob, by omega, ?_, ?_, ?_, ?_, ?_, ?_, ?_, ?_, hsv⟩
  · exact ((HF2.out.later HB3.out).later HB4.out).saved hs5 (by omega)
  · exact (HF3.out.later HB4.out).saved hs5 (by omega)
  · rw [World.cell?_setCell_other (h := fun e => by injection e; omega), HB6.out.cell (p := ⟨B, 7, none⟩) hB5]; exact HV7.out
  · exact World.cell?_setCell_same _ _ _ r8
  · exact ⟨b7, c7, rfl, by omega, hs5.cell (by omega) hc7⟩
  · exact ⟨b8, c8, rfl, by omega, hs6.cell (by omega) hc8⟩
  · intro i h1 h2
    rw [World.cell?_setCell_other (h := fun e => by injection e; omega), HB6.out.cell (p := ⟨B, i, none⟩) hB5]
    exact HR7.out i h1
  · intro i
    rw [World.frozen?_setCell, HB6.out.frozen (p := ⟨B, i, none⟩) hB5]
    exact HZ7.out i
end Go.Proofs.YtcfhleenecfghaaDoor
