/- Is any text a path: the whole of it, and its fault. -/
import Derived.Test.YtcfhleenecfghaaGreatDoorXb
namespace Go.Proofs.YtcfhleenecfghaaGreatDoor
open Go.RowKit

/-- A path's segments. -/
def V.segs (s : ByteArray) : List ByteArray := V.texts (V.pieces 47 s.data.toList)
theorem V.segs_size (s : ByteArray) : ∀ x ∈ V.segs s, x.size ≤ s.size := by
  intro x hx
  unfold V.segs V.texts at hx
  obtain ⟨q, hq, rfl⟩ := List.mem_map.1 hx
  have := V.pieces_len 47 _ _ hq
  have e : s.data.toList.length = s.size := by simp
  show q.toArray.size ≤ s.size
  rw [List.size_toArray]
  omega
theorem V.path_segs (s : ByteArray) : V.path s.data.toList = (decide (s.size ≤ 60) && (V.segs s).all fun x => V.segment x.data.toList) := by
  unfold V.path V.segs V.texts
  rw [List.all_map]
  rfl
theorem splitSegs_any (s : ByteArray) (m : Int) (w : World) (hs : s.size < 4294967281) (hm : w.cell? ⟨0, 0, none⟩ = some (.int .i64 m)) :
    Calls Tryz.prog 174 #[.string s, .string ⟨#[47]⟩] w fun e w' => e = .returned (.slice (some ⟨w.heap.size, 0, none⟩) (V.segs s).length (V.segs s).length) ∧ (V.segs s).length ≤ s.size + 1 ∧ (∀ j, j < (V.segs s).length → w'.cell? ⟨w.heap.size, j, none⟩ = some (.string ((V.segs s).getD j ByteArray.empty))) ∧ Below w.heap.size w w' := by
  refine (Tryz.strings_Split s ⟨#[47]⟩ m w (by omega) hm (by decide)).mono ?_
  rintro e w' ⟨rfl, rfl⟩
  have hp : Lib.splitB ⟨#[47]⟩ 0 (Lib.countB s ⟨#[47]⟩) s = V.segs s := V.texts_of (V.splitB_pieces s ⟨#[47]⟩ 47 rfl)
  have hlen := Lib.splitB_all ⟨#[47]⟩ (by decide) 0 _ s rfl
  have hc := Lib.countB_le ⟨#[47]⟩ (by decide) s.size s (Nat.le_refl _)
  rw [hp] at hlen ⊢
  refine ⟨by rw [hlen], by omega, ?_, (Below.refl _ _).alloc (Nat.le_refl _) _⟩
  intro j hj
  rw [World.cell?_alloc_at _ _ _ _ rfl, List.getElem?_toArray, List.getElem?_map, List.getElem?_eq_getElem hj, V.getD_at _ _ hj]
  rfl

set_option maxHeartbeats 1600000 in
set_option maxRecDepth 100000 in
theorem isPath_any (s : ByteArray) (m : Int) (w : World) (hs : s.size ≤ 281474976710656) (hm : w.cell? ⟨0, 0, none⟩ = some (.int .i64 m)) :
    Calls Tryz.prog 275 #[.string s] w fun e w' => e = .returned (.bool (V.path s.data.toList)) ∧ Below w.heap.size w w' := by
  have HV := hide (V.path_segs s)
  by_cases h60 : (s.size : Int) ≤ 60
  · have h6 : ¬ ((s.size : Int) > 60) := by omega
    have HS := hide (V.segs_size s)
    have HX : Hid (V.path s.data.toList = (V.segs s).all fun x => V.segment x.data.toList) := by
      refine hide ?_
      rw [HV.out, decide_eq_true (by omega)]; rfl
    go_enter Tryz.func275, Tryz.ntmps275
    go_wp2_with fail
    refine (splitSegs_any s m _ (by omega) hm).mono ?_
    rintro e w1 ⟨rfl, hll, hcs, hb1⟩
    have HB1 := hide hb1
    have HC := hide hcs
    clear hb1 hcs
    generalize V.segs s = L at hll HC HS HX ⊢
    have hLL : L.length ≤ 100 := by omega
    clear hll
    go_wp2
    go_loop [11] (fun i => ∃ k : Nat, k ≤ L.length ∧ i = .int .i64 k ∧ Hid ((L.take k).all (fun x => V.segment x.data.toList) = true)) (fun i => L.length - (intOf i).toNat)
    case atStart => exact ⟨0, by omega, rfl, hide (by simp)⟩
    case round =>
      obtain ⟨k, hk, rfl, H⟩ := hrel
      by_cases hlt : k < L.length
      · have c0 := HC.out k hlt
        have HZ : Hid ((L.getD k ByteArray.empty).size ≤ s.size) := hide (by
          rw [V.getD_at _ _ hlt]; exact HS.out _ (List.getElem_mem hlt))
        have HL : Hid (V.segment (L.getD k ByteArray.empty).data.toList = false → (L.all fun x => V.segment x.data.toList) = false) := by
          intro hf
          rw [V.getD_at _ _ hlt] at hf
          rw [List.all_eq_false]
          exact ⟨L[k], List.getElem_mem _, by simp [hf]⟩
        have HR : Hid (V.segment (L.getD k ByteArray.empty).data.toList = true → ((L.take (k + 1)).all fun x => V.segment x.data.toList) = true) := by
          intro ht
          rw [V.getD_at _ _ hlt] at ht
          rw [List.take_succ_eq_append_getElem hlt, List.all_append, H.out]; simp [ht]
        generalize L.getD k ByteArray.empty = x at c0 HZ HL HR
        cases h1 : V.segment x.data.toList
        · go_wp2_with (go_at_call 354; refine (isSegment_any _ _ (by have := HZ.out; unfold maxLen; omega)).mono ?_; rintro e w' ⟨rfl, rfl⟩)
          go_ret
          exact ⟨ret_bool (by rw [HX.out, HL.out h1]), HB1.out⟩
        · go_wp2_with (go_at_call 354; refine (isSegment_any _ _ (by have := HZ.out; unfold maxLen; omega)).mono ?_; rintro e w' ⟨rfl, rfl⟩)
          go_round
          case rel => exact ⟨k + 1, by omega, by go_num, hide (HR.out h1)⟩
          case measure => simp [intOf]; omega
      · go_wp2
        go_ret
        exact ⟨ret_bool (by rw [HX.out, ← H.out, List.take_of_length_le (by omega)]), HB1.out⟩
  · have h6 : (s.size : Int) > 60 := by omega
    have HX : Hid (V.path s.data.toList = false) := by
      refine hide ?_
      rw [HV.out, decide_eq_false (by omega)]; rfl
    go_enter Tryz.func275, Tryz.ntmps275
    go_wp2
    go_ret
    exact ⟨ret_bool HX.out.symm, Below.refl _ _⟩

set_option maxHeartbeats 400000 in
theorem pathCheck_yes (s : ByteArray) (m : Int) (w : World) (hs : s.size ≤ 281474976710656) (hm : w.cell? ⟨0, 0, none⟩ = some (.int .i64 m)) (hv : V.path s.data.toList = true) :
    Calls Tryz.prog 196 #[.string s] w fun e w' => e = .returned (.pointer none) ∧ Below w.heap.size w w' := by
  go_enter Tryz.func196, Tryz.ntmps196
  go_wp2_with fail
  refine (isPath_any s m _ hs hm).mono ?_
  rintro e w1 ⟨rfl, hb⟩
  have HB := hide hb
  clear hb
  rw [hv]
  go_wp2
  go_ret
  exact ⟨rfl, HB.out⟩
set_option maxHeartbeats 400000 in
theorem pathCheck_no (s : ByteArray) (m : Int) (w : World) (hs : s.size ≤ 281474976710656) (hm : w.cell? ⟨0, 0, none⟩ = some (.int .i64 m)) (hv : V.path s.data.toList = false) :
    Calls Tryz.prog 196 #[.string s] w fun e w' => ∃ v, e = .returned v ∧ IsFault w' v 3 0 s ⟨#[]⟩ ∧ Below w.heap.size w w' := by
  go_enter Tryz.func196, Tryz.ntmps196
  go_wp2_with fail
  refine (isPath_any s m _ hs hm).mono ?_
  rintro e w1 ⟨rfl, hb⟩
  have HB := hide hb
  clear hb
  rw [hv]
  go_wp2_with fail
  refine (clone_any s _ hs).mono ?_
  rintro e w2 ⟨rfl, hb⟩
  have HB2 := hide hb
  clear hb
  go_wp2
  go_ret
  exact ⟨_, rfl, ⟨w2.heap.size, rfl, by simp, by simp, by simp, by simp⟩, (HB.out.trans (HB2.out.mono HB.out.size)).alloc (by have := HB.out.size; have := HB2.out.size; omega) _⟩

end Go.Proofs.YtcfhleenecfghaaGreatDoor
