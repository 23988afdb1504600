/- Any text is parsed. -/
import Derived.Test.YtcfhleenecfghaaGreatDoorWy
namespace Go.Proofs.YtcfhleenecfghaaGreatDoor
open Go.RowKit

theorem V.texts_of {ws : List ByteArray} {ls : List (List UInt8)} (h : ws.map (·.data.toList) = ls) : ws = V.texts ls := by
  subst h
  unfold V.texts
  rw [List.map_map]
  have : ((fun l => (⟨l.toArray⟩ : ByteArray)) ∘ fun x : ByteArray => x.data.toList) = id := by
    funext x; cases x; simp
  rw [this, List.map_id]
theorem V.said_len (l : List UInt8) : (V.said l).length ≤ l.length := by
  have h := (V.cut_le (t := ⟨l.toArray⟩) (x := ⟨(Lib.cut l [47, 47]).1.toArray⟩) (y := ⟨(Lib.cut l [47, 47]).2.1.toArray⟩) (p := [47, 47]) rfl rfl (Nat.le_refl _)).1
  simpa [V.said, ByteArray.size] using h
theorem V.toks_len (s : ByteArray) : (V.toks s).length ≤ s.size := by
  have h1 := V.words_len (V.said s.data.toList)
  have h2 := V.said_len s.data.toList
  have e : s.data.toList.length = s.size := by simp
  unfold V.toks V.texts
  rw [List.length_map]
  omega
theorem V.lines_size (s : ByteArray) : ∀ x ∈ V.lines s, x.size ≤ s.size := by
  intro x hx
  unfold V.lines V.texts at hx
  obtain ⟨q, hq, rfl⟩ := List.mem_map.1 hx
  have := V.pieces_len 10 _ _ hq
  have e : s.data.toList.length = s.size := by simp
  show q.toArray.size ≤ s.size
  rw [List.size_toArray]
  omega

theorem splitLines_any (s : ByteArray) (m : Int) (w : World) (hs : s.size < 4294967281) (hm : w.cell? ⟨0, 0, none⟩ = some (.int .i64 m)) :
    Calls Tryz.prog 174 #[.string s, .string ⟨#[10]⟩] w fun e w' => e = .returned (.slice (some ⟨w.heap.size, 0, none⟩) (V.lines s).length (V.lines s).length) ∧ (V.lines s).length ≤ s.size + 1 ∧ (∀ j, j < (V.lines s).length → w'.cell? ⟨w.heap.size, j, none⟩ = some (.string ((V.lines s).getD j ByteArray.empty))) ∧ w'.heap.size = w.heap.size + 1 ∧ Below w.heap.size w w' := by
  refine (Tryz.strings_Split s ⟨#[10]⟩ m w (by omega) hm (by decide)).mono ?_
  rintro e w' ⟨rfl, rfl⟩
  have hp : Lib.splitB ⟨#[10]⟩ 0 (Lib.countB s ⟨#[10]⟩) s = V.lines s := V.texts_of (V.splitB_pieces s ⟨#[10]⟩ 10 rfl)
  have hlen := Lib.splitB_all ⟨#[10]⟩ (by decide) 0 _ s rfl
  have hc := Lib.countB_le ⟨#[10]⟩ (by decide) s.size s (Nat.le_refl _)
  rw [hp] at hlen ⊢
  refine ⟨by rw [hlen], by omega, ?_, by simp, (Below.refl _ _).alloc (Nat.le_refl _) _⟩
  intro j hj
  rw [World.cell?_alloc_at _ _ _ _ rfl, List.getElem?_toArray, List.getElem?_map, List.getElem?_eq_getElem hj, V.getD_at _ _ hj]
  rfl

theorem tokCells_get (ws : List ByteArray) : ∀ j, j < ws.length → (tokCells ws)[j * 2]? = some (.int .i64 (V.kind (ws.getD j ByteArray.empty).data.toList)) ∧ (tokCells ws)[j * 2 + 1]? = some (.string (ws.getD j ByteArray.empty)) := by
  induction ws with
  | nil => intro j hj; simp at hj
  | cons x xs ih =>
    intro j hj
    have e : tokCells (x :: xs) = [.int .i64 (V.kind x.data.toList), .string x] ++ tokCells xs := rfl
    match j with
    | 0 => exact ⟨rfl, rfl⟩
    | j + 1 =>
      have := ih j (by simp at hj; omega)
      rw [e]
      refine ⟨?_, ?_⟩
      · rw [List.getElem?_append_right (by simp; omega), List.getD_cons_succ, ← this.1]; congr 1; simp; omega
      · rw [List.getElem?_append_right (by simp; omega), List.getD_cons_succ, ← this.2]; congr 1; simp; omega

theorem take_any (n : Nat) (st blk : Int) (hst : V.Stands st blk) (g0 pb base : Nat) (tv : Value) (ws : List ByteArray) (l : List (Nat × Nat × List ByteArray)) (w : World) (hl : ws.length ≤ 100000000000) (hll : l.length ≤ 1000000000000) (hg : pb < g0) (hown : w.ownsRow g0 371 2 tv ws.length (tokCells ws)) (hp : ParserAt w pb base st blk l) :
    Calls Tryz.prog 177 #[.pointer (some ⟨pb, 0, none⟩), .int .i64 (n : Int), tv] w fun e w' => e = .returned (.bool (V.took n ws st blk l).1) ∧ ParserAt w' pb base (V.took n ws st blk l).2.1 (V.took n ws st blk l).2.2.1 (V.took n ws st blk l).2.2.2 ∧ Beyond pb base w w' := by
  have hc := fun g => hown.cells (g := g)
  match ws, hl, hown, hc with
  | [], _, hown, _ =>
    obtain ⟨a, cap, rfl⟩ : ∃ a cap, tv = .slice a 0 cap := by
      rcases hown.2 with ⟨h, _⟩ | ⟨gg, cap, cur, h, _⟩
      · exact ⟨_, _, h⟩
      · exact ⟨_, _, h⟩
    refine (take_none n pb a cap w).mono ?_
    rintro e w' ⟨rfl, rfl⟩
    exact ⟨rfl, hp, Beyond.refl _ _ _⟩
  | x :: rest, hl, hown, hc =>
    rcases hown.2 with ⟨_, h⟩ | ⟨g, cap, cur, h, hgg, _, hcap, _⟩
    · simp at h
    · have ht : Toks w g 0 (x :: rest) := by
        intro j hj
        have h1 := tokCells_get (x :: rest) j hj
        have h2 := hc g (by rw [h]; rfl)
        have a1 := h2 _ _ h1.1
        have a2 := h2 _ _ h1.2
        rw [add_off] at a1 a2
        rw [Nat.zero_add]
        exact ⟨a1, a2⟩
      rw [h]
      have hl' : rest.length ≤ 100000000000 := by simp at hl; omega
      rcases hst.1 with rfl | rfl | rfl
      · exact take_out n 0 blk (Or.inl rfl) g cap pb base x rest l w hl' (by simpa using hcap) hll (by omega) ht hp
      · exact take_out n 1 blk (Or.inr rfl) g cap pb base x rest l w hl' (by simpa using hcap) hll (by omega) ht hp
      · exact take_in n blk hst.2 g cap pb base x rest l w hl' hll ht hp


end Go.Proofs.YtcfhleenecfghaaGreatDoor
