/- What the program makes of a text that may be a version: its numbers and marks in new memory; whether it is a version; the order of two; and what Compare answers. -/
import Derived.Test.YtcfhleenecfghaaGreatDoorWc
namespace Go.Proofs.YtcfhleenecfghaaGreatDoor
open Go.RowKit

/-- A list of texts that lies in memory, in a block from B on. -/
def Txt (B : Nat) (w : World) (v : Value) (L : List (List UInt8)) : Prop :=
  ∃ (b c : Nat) (ls : List ByteArray), v = .slice (some ⟨b, 0, none⟩) ls.length c ∧ ls.map (·.data.toList) = L ∧ B ≤ b ∧ b < w.heap.size ∧ ls.length ≤ maxLen ∧ (∀ x ∈ ls, x.size ≤ maxLen) ∧ (∀ j, j < ls.length → w.cell? ⟨b, j, none⟩ = some (.string (ls.getD j ByteArray.empty)))
theorem Txt.later {B : Nat} {w w' : World} {v : Value} {L : List (List UInt8)} (h : Txt B w v L) (hb : Below w.heap.size w w') : Txt B w' v L := by
  obtain ⟨b, c, ls, e1, e2, hB, hlt, h1, h2, h3⟩ := h
  refine ⟨b, c, ls, e1, e2, hB, ?_, h1, h2, fun j hj => ?_⟩
  · have := hb.size; omega
  · rw [← h3 j hj]; exact hb.cell (p := ⟨b, j, none⟩) hlt
theorem Txt.mono {B B' : Nat} {w : World} {v : Value} {L : List (List UInt8)} (h : Txt B w v L) (hB : B' ≤ B) : Txt B' w v L := by
  obtain ⟨b, c, ls, e1, e2, h0, h1⟩ := h
  exact ⟨b, c, ls, e1, e2, by omega, h1⟩
theorem Txt.setCell {B : Nat} {w : World} {v : Value} {L : List (List UInt8)} (h : Txt B w v L) (a o : Nat) (u : Value) (ha : a < B) : Txt B (w.setCell ⟨a, o, none⟩ u) v L := by
  obtain ⟨b, c, ls, e1, e2, hB, hlt, h1, h2, h3⟩ := h
  refine ⟨b, c, ls, e1, e2, hB, ?_, h1, h2, fun j hj => ?_⟩
  · have := ((Below.refl 0 w).setCell (p := ⟨a, o, none⟩) (Nat.zero_le _) u).size; omega
  · rw [← h3 j hj]
    exact World.cell?_setCell_other w ⟨a, o, none⟩ ⟨b, j, none⟩ u (fun e => by injection e; omega)
theorem Txt.alloc {B : Nat} {w : World} {v : Value} {L : List (List UInt8)} (h : Txt B w v L) (o : Obj) : Txt B (w.alloc o) v L :=
  h.later ((Below.refl _ _).alloc (Nat.le_refl _) _)
theorem bcell {W w1 : World} (hb : Below W.heap.size W w1) : (∀ b o, b < W.heap.size → w1.cell? ⟨b, o, none⟩ = W.cell? ⟨b, o, none⟩) ∧ (∀ b o, b < W.heap.size → w1.frozen? ⟨b, o, none⟩ = W.frozen? ⟨b, o, none⟩) :=
  ⟨fun b o h => hb.cell (p := ⟨b, o, none⟩) h, fun b o h => hb.frozen (p := ⟨b, o, none⟩) h⟩

theorem trimV_any (s : ByteArray) (w : World) :
    Calls Tryz.prog 173 #[.string s, .string ⟨#[118]⟩] w fun e w' => ∃ t : ByteArray, e = .returned (.string t) ∧ t.data.toList = Lib.trimPrefix s.data.toList [118] ∧ w' = w := by
  refine (Tryz.strings_TrimPrefix s ⟨#[118]⟩ w).mono ?_
  rintro e w' ⟨rfl, rfl⟩
  exact ⟨_, rfl, rfl, rfl⟩
theorem cutDash_any (s : ByteArray) (m : Int) (w : World) (hs : s.size < 4294967281) (hm : w.cell? ⟨0, 0, none⟩ = some (.int .i64 m)) :
    Calls Tryz.prog 118 #[.string s, .string ⟨#[45]⟩] w fun e w' => ∃ (x y : ByteArray) (f : Bool), e = .returned (.tuple #[.string x, .string y, .bool f]) ∧ x.data.toList = (Lib.cut s.data.toList [45]).1 ∧ y.data.toList = (Lib.cut s.data.toList [45]).2.1 ∧ f = (Lib.cut s.data.toList [45]).2.2 ∧ Below w.heap.size w w' ∧ w.drawn ≤ w'.drawn := by
  refine (Tryz.strings_Cut s ⟨#[45]⟩ m w hs hm).mono ?_
  rintro e w' ⟨rfl, n, rfl⟩
  exact ⟨_, _, _, rfl, rfl, rfl, rfl, below_drewN (Below.refl _ _) n, Nat.le_add_right _ _⟩
theorem splitDot_any (s : ByteArray) (m : Int) (w : World) (hs : s.size ≤ 40) (hm : w.cell? ⟨0, 0, none⟩ = some (.int .i64 m)) :
    Calls Tryz.prog 174 #[.string s, .string ⟨#[46]⟩] w fun e w' => ∃ v : Value, e = .returned v ∧ Txt w.heap.size w' v (V.pieces 46 s.data.toList) ∧ Below w.heap.size w w' ∧ w.drawn ≤ w'.drawn := by
  refine (Tryz.strings_Split s ⟨#[46]⟩ m w (by omega) hm (by decide)).mono ?_
  rintro e w' ⟨rfl, rfl⟩
  have hp := V.splitB_pieces s ⟨#[46]⟩ 46 rfl
  have hlen := Lib.splitB_all ⟨#[46]⟩ (by decide) 0 _ s rfl
  refine ⟨_, rfl, ⟨w.heap.size, Lib.countB s ⟨#[46]⟩ + 1, Lib.splitB ⟨#[46]⟩ 0 (Lib.countB s ⟨#[46]⟩) s, ?_, hp, Nat.le_refl _, by simp, ?_, ?_, ?_⟩, (Below.refl _ _).alloc (Nat.le_refl _) _, Nat.le_refl _⟩
  · rw [hlen]
  · have := Lib.countB_le ⟨#[46]⟩ (by decide) s.size s (Nat.le_refl _)
    rw [hlen]; unfold maxLen; omega
  · intro x hx
    have hm : x.data.toList ∈ V.pieces 46 s.data.toList := by rw [← hp]; exact List.mem_map.2 ⟨x, hx, rfl⟩
    have := V.pieces_len 46 _ _ hm
    have e1 : x.data.toList.length = x.size := by simp
    have e2 : s.data.toList.length = s.size := by simp
    unfold maxLen; omega
  · intro j hj
    rw [World.cell?_alloc_at _ _ _ _ rfl, List.getElem?_toArray, List.getElem?_map, List.getElem?_eq_getElem hj, V.getD_at _ _ hj]
    rfl

theorem drawn_alloc (w : World) (o : Obj) : (w.alloc o).drawn = w.drawn := rfl
theorem drawn_setCell (w : World) (a : Addr) (v : Value) : (w.setCell a v).drawn = w.drawn := by
  unfold World.setCell
  split <;> rfl

theorem Txt.len {B : Nat} {w : World} {v : Value} {L : List (List UInt8)} (h : Txt B w v L) : ∃ (b c : Nat), v = .slice (some ⟨b, 0, none⟩) L.length c := by
  obtain ⟨b, c, ls, e1, e2, _⟩ := h
  exact ⟨b, c, by rw [e1, ← e2, List.length_map]⟩
theorem keep {W w1 : World} (hb : Below W.heap.size W w1) {b o : Nat} {v : Value} (h : W.cell? ⟨b, o, none⟩ = some v) : w1.cell? ⟨b, o, none⟩ = some v := by
  rw [hb.cell (p := ⟨b, o, none⟩) (World.block_lt_of_cell? (h := h))]; exact h
theorem keepF {W w1 : World} (hb : Below W.heap.size W w1) {b o : Nat} (hlt : b < W.heap.size) (h : W.frozen? ⟨b, o, none⟩ = false) : w1.frozen? ⟨b, o, none⟩ = false := by
  rw [hb.frozen (p := ⟨b, o, none⟩) hlt]; exact h
theorem keepA {W : World} {b o : Nat} {v : Value} (h : W.cell? ⟨b, o, none⟩ = some v) (x : Obj) : (W.alloc x).cell? ⟨b, o, none⟩ = some v :=
  keep ((Below.refl _ W).alloc (Nat.le_refl _) x) h
theorem keepFA {W : World} {b o : Nat} (hlt : b < W.heap.size) (h : W.frozen? ⟨b, o, none⟩ = false) (x : Obj) : (W.alloc x).frozen? ⟨b, o, none⟩ = false :=
  keepF ((Below.refl _ W).alloc (Nat.le_refl _) x) hlt h
theorem two_cells {w : World} {n : Nat} {u1 u2 : Value} (h1 : w.cell? ⟨n, 0, none⟩ = some u1) (h2 : w.cell? ⟨n, 1, none⟩ = some u2) (x y : Value) :
    ((w.setCell ⟨n, 0, none⟩ x).setCell ⟨n, 1, none⟩ y).cell? ⟨n, 0, none⟩ = some x ∧ ((w.setCell ⟨n, 0, none⟩ x).setCell ⟨n, 1, none⟩ y).cell? ⟨n, 1, none⟩ = some y := by
  have e0 : (w.setCell ⟨n, 0, none⟩ x).cell? ⟨n, 0, none⟩ = some x := World.cell?_setCell_same _ _ _ h1
  have e1 : (w.setCell ⟨n, 0, none⟩ x).cell? ⟨n, 1, none⟩ = some u2 := by
    rw [World.cell?_setCell_other (h := fun e => by injection e; omega)]; exact h2
  refine ⟨?_, World.cell?_setCell_same _ _ _ e1⟩
  rw [World.cell?_setCell_other (h := fun e => by injection e; omega)]; exact e0
theorem pos_of_cell {w : World} {o : Nat} {v : Value} (h : w.cell? ⟨0, o, none⟩ = some v) : 0 < w.heap.size := by
  by_cases hp : 0 < w.heap.size
  · exact hp
  · have hz : w.heap.size = 0 := by omega
    have : w.heap[0]? = none := by rw [Array.getElem?_eq_none_iff]; omega
    simp [World.cell?, this] at h
set_option maxHeartbeats 400000 in
theorem split_anyD (s : ByteArray) (m : Int) (w : World) (hs : s.size ≤ 40) (hm : w.cell? ⟨0, 0, none⟩ = some (.int .i64 m)) :
    Calls Tryz.prog 87 #[.string s] w fun e w' => ∃ v1 v2 : Value, e = .returned (.agg #[v1, v2]) ∧ Txt w.heap.size w' v1 (V.parts s.data.toList).1 ∧ ((v2 = .slice none 0 0 ∧ (V.parts s.data.toList).2 = []) ∨ Txt w.heap.size w' v2 (V.parts s.data.toList).2) ∧ Below w.heap.size w w' ∧ w.drawn ≤ w'.drawn := by
  have h0 := pos_of_cell hm
  have HP : Hid (V.parts s.data.toList = (V.pieces 46 (Lib.cut (Lib.trimPrefix s.data.toList [118]) [45]).1, if (Lib.cut (Lib.trimPrefix s.data.toList [118]) [45]).2.2 then V.pieces 46 (Lib.cut (Lib.trimPrefix s.data.toList [118]) [45]).2.1 else [])) := hide rfl
  go_enter Tryz.func87, Tryz.ntmps87
  go_wp2_with fail
  refine (trimV_any _ _).mono ?_
  rintro e w1 ⟨t, rfl, ht, rfl⟩
  have htl : t.size ≤ 40 := V.trim_le ht hs
  have HT := hide ht
  clear ht
  go_wp2_with fail
  refine (cutDash_any t m _ (by omega) (by rw [World.cell?_alloc_past _ _ _ h0]; exact hm)).mono ?_
  rintro e w1 ⟨x, y, f, rfl, hx, hy, hf, hb, hd1⟩
  have hd1' : w.drawn ≤ w1.drawn := hd1
  have HD1 := hide hd1'
  clear hd1 hd1'
  obtain ⟨hxl, hyl⟩ := V.cut_le hx hy htl
  have HX := hide hx
  have HY := hide hy
  have HF := hide hf
  clear hx hy hf
  have hz : w.heap.size < w1.heap.size := by have := hb.size; simp at this; omega
  have hm1 : w1.cell? ⟨0, 0, none⟩ = some (.int .i64 m) := keep hb (by rw [World.cell?_alloc_past _ _ _ h0]; exact hm)
  have hr1 : w1.cell? ⟨w.heap.size, 0, none⟩ = some (.slice none 0 0) := keep hb (by simp)
  have hr2 : w1.cell? ⟨w.heap.size, 1, none⟩ = some (.slice none 0 0) := keep hb (by simp)
  have hq1 : w1.frozen? ⟨w.heap.size, 0, none⟩ = false := keepF hb (by simp) (by simp)
  have hq2 : w1.frozen? ⟨w.heap.size, 1, none⟩ = false := keepF hb (by simp) (by simp)
  have HB := hide hb
  clear hb
  go_wp2_with fail
  refine (splitDot_any x m _ hxl hm1).mono ?_
  rintro e w2 ⟨v1, rfl, hv1, hb2, hd2⟩
  have HD2 := hide (Nat.le_trans HD1.out hd2)
  clear hd2
  obtain ⟨b1, c1, e1⟩ := hv1.len
  have HV1 := hide hv1
  clear hv1
  subst e1
  have hz2 : w.heap.size < w2.heap.size := by have := hb2.size; omega
  have hBt : Below w.heap.size w w2 := ((((Below.refl _ w).alloc (Nat.le_refl _) _).trans (HB.out.mono (by simp)))).trans (hb2.mono (Nat.le_of_lt hz))
  have HBt := hide hBt
  clear hBt
  replace hm1 := keep hb2 hm1
  replace hr1 := keep hb2 hr1
  replace hr2 := keep hb2 hr2
  replace hq1 := keepF hb2 hz hq1
  replace hq2 := keepF hb2 hz hq2
  have HB2 := hide hb2
  clear hb2
  cases f
  · obtain ⟨q1, q2⟩ := two_cells hr1 hr2 (.slice (some ⟨b1, 0, none⟩) (V.pieces 46 x.data.toList).length c1) (.slice none 0 0)
    replace q1 := fun o => keepA q1 o
    replace q2 := fun o => keepA q2 o
    go_wp2
    refine bodyPost_ret (v := .agg #[.slice (some ⟨b1, 0, none⟩) (V.pieces 46 x.data.toList).length c1, .slice none 0 0]) (by simp [results, Tryz.results87, go_sem, q1, q2]) rfl ⟨_, _, rfl, ?_, Or.inl ⟨rfl, ?_⟩, ?_, ?_⟩
    · rw [HP.out, ← HT.out, ← HX.out]
      exact (((HV1.out.setCell _ 0 _ hz).setCell _ 1 _ hz).alloc _).mono (by omega)
    · rw [HP.out, ← HT.out, ← HF.out]; rfl
    · exact (((HBt.out.setCell (p := ⟨w.heap.size, 0, none⟩) (Nat.le_refl _) _).setCell (p := ⟨w.heap.size, 1, none⟩) (Nat.le_refl _) _).alloc (by simp; omega) _)
    · rw [drawn_alloc, drawn_setCell, drawn_setCell]; exact HD2.out
  · go_wp2_with fail
    refine (splitDot_any y m _ hyl (by rw [World.cell?_alloc_past _ _ _ (by omega)]; exact hm1)).mono ?_
    rintro e w3 ⟨v2, rfl, hv2, hb3, hd3⟩
    have HD3 := hide (Nat.le_trans HD2.out (show w2.drawn ≤ w3.drawn from hd3))
    clear hd3
    obtain ⟨b2, c2, e2⟩ := hv2.len
    have HV2 := hide hv2
    clear hv2
    subst e2
    have hz3 : w.heap.size < w3.heap.size := by have := hb3.size; simp at this; omega
    have hz3' : w2.heap.size < w3.heap.size := by have := hb3.size; simp at this; omega
    have hq1' : w3.frozen? ⟨w.heap.size, 0, none⟩ = false := keepF hb3 (by simp; omega) (keepFA hz2 hq1 _)
    have hq2' : w3.frozen? ⟨w.heap.size, 1, none⟩ = false := keepF hb3 (by simp; omega) (keepFA hz2 hq2 _)
    have hr1' : w3.cell? ⟨w.heap.size, 0, none⟩ = some (.slice none 0 0) := keep hb3 (by rw [World.cell?_alloc_past _ _ _ hz2]; exact hr1)
    have hr2' : w3.cell? ⟨w.heap.size, 1, none⟩ = some (.slice none 0 0) := keep hb3 (by rw [World.cell?_alloc_past _ _ _ hz2]; exact hr2)
    have hs1 : w3.cell? ⟨w2.heap.size, 0, none⟩ = some (.slice (some ⟨b1, 0, none⟩) (V.pieces 46 x.data.toList).length c1) := keep hb3 (by simp)
    have hs2 : w3.cell? ⟨w2.heap.size, 1, none⟩ = some (.slice none 0 0) := keep hb3 (by simp)
    have ht1 : w3.frozen? ⟨w2.heap.size, 0, none⟩ = false := keepF hb3 (by simp) (by simp)
    have ht2 : w3.frozen? ⟨w2.heap.size, 1, none⟩ = false := keepF hb3 (by simp) (by simp)
    have HB3 := hide hb3
    clear hb3 hr1 hr2 hq1 hq2 hm1
    have hB32 : Below w2.heap.size w2 w3 := ((Below.refl _ w2).alloc (Nat.le_refl _) _).trans (HB3.out.mono (by simp))
    have HB32 := hide hB32
    clear hB32
    go_wp2
    refine bodyPost_ret (v := .agg #[.slice (some ⟨b1, 0, none⟩) (V.pieces 46 x.data.toList).length c1, .slice (some ⟨b2, 0, none⟩) (V.pieces 46 y.data.toList).length c2]) (by simp [results, Tryz.results87, go_sem, hr1', hr2']) rfl ⟨_, _, rfl, ?_, Or.inr ?_, ?_, ?_⟩
    · rw [HP.out, ← HT.out, ← HX.out]
      exact (((HV1.out.later (HB32.out.setCell (p := ⟨w2.heap.size, 1, none⟩) (Nat.le_refl _) _)).setCell _ 0 _ hz).setCell _ 1 _ hz).mono (by omega)
    · rw [HP.out, ← HT.out, ← HF.out, if_pos rfl, ← HY.out]
      exact (((HV2.out.setCell _ 1 _ (by simp)).setCell _ 0 _ (by simp; omega)).setCell _ 1 _ (by simp; omega)).mono (by simp; omega)
    · exact ((((HBt.out.trans (HB32.out.mono (by omega))).setCell (p := ⟨w2.heap.size, 1, none⟩) (by simp; omega) _).setCell (p := ⟨w.heap.size, 0, none⟩) (Nat.le_refl _) _).setCell (p := ⟨w.heap.size, 1, none⟩) (Nat.le_refl _) _)
    · rw [drawn_setCell, drawn_setCell, drawn_setCell]; exact HD3.out

theorem split_any (s : ByteArray) (m : Int) (w : World) (hs : s.size ≤ 40) (hm : w.cell? ⟨0, 0, none⟩ = some (.int .i64 m)) :
    Calls Tryz.prog 87 #[.string s] w fun e w' => ∃ v1 v2 : Value, e = .returned (.agg #[v1, v2]) ∧ Txt w.heap.size w' v1 (V.parts s.data.toList).1 ∧ ((v2 = .slice none 0 0 ∧ (V.parts s.data.toList).2 = []) ∨ Txt w.heap.size w' v2 (V.parts s.data.toList).2) ∧ Below w.heap.size w w' :=
  (split_anyD s m w hs hm).mono fun _ _ ⟨v1, v2, h1, h2, h3, h4, _⟩ => ⟨v1, v2, h1, h2, h3, h4⟩

end Go.Proofs.YtcfhleenecfghaaGreatDoor
