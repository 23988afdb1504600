/- The tokens of any line: what kind each word is of, and the list of them in new memory. -/
import Derived.Test.YtcfhleenecfghaaGreatDoorWn
import Derived.Test.YtcfhleenecfghaaGreatDoorSays
import Derived.Test.YtcfhleenecfghaaGreatDoorWords
namespace Go.Proofs.YtcfhleenecfghaaGreatDoor
open Go.RowKit


set_option maxHeartbeats 400000 in
theorem kindOf_any (s : ByteArray) (w : World) : Calls Tryz.prog 253 #[.string s] w fun e w' => e = .returned (.int .i64 (V.kind s.data.toList)) ∧ w' = w := by
  have HK : Hid (V.kind s.data.toList = if s.toList == [40] then 1 else if s.toList == [41] then 2 else if s.toList == [61, 62] then 3 else 0) := by
    refine hide ?_
    rw [Lib.toList_data]; rfl
  cases h1 : (s.toList == [40]) <;> cases h2 : (s.toList == [41]) <;> cases h3 : (s.toList == [61, 62])
  all_goals
    go_enter Tryz.func253, Tryz.ntmps253
    go_wp2
    go_ret
    exact ⟨ret_int (by rw [HK.out, h1, h2, h3]; rfl), rfl⟩

set_option maxHeartbeats 800000 in
theorem keywordOf_any (s : ByteArray) (w : World) : Calls Tryz.prog 248 #[.string s] w fun e w' => e = .returned (.int .i64 (V.keyw s.data.toList)) ∧ w' = w := by
  have HK : Hid (V.keyw s.data.toList = if s.toList == [109, 111, 100, 117, 108, 101] then 1 else if s.toList == [114, 101, 113, 117, 105, 114, 101] then 2 else if s.toList == [101, 120, 99, 108, 117, 100, 101] then 3 else if s.toList == [114, 101, 112, 108, 97, 99, 101] then 4 else 0) := by
    refine hide ?_
    rw [Lib.toList_data]; rfl
  cases h1 : (s.toList == [109, 111, 100, 117, 108, 101])
  · cases h2 : (s.toList == [114, 101, 113, 117, 105, 114, 101])
    · cases h3 : (s.toList == [101, 120, 99, 108, 117, 100, 101])
      · cases h4 : (s.toList == [114, 101, 112, 108, 97, 99, 101])
        all_goals
          go_enter Tryz.func248, Tryz.ntmps248
          go_wp2
          go_ret
          exact ⟨ret_int (by rw [HK.out, h1, h2, h3, h4]; rfl), rfl⟩
      · go_enter Tryz.func248, Tryz.ntmps248
        go_wp2
        go_ret
        exact ⟨ret_int (by rw [HK.out, h1, h2, h3]; rfl), rfl⟩
    · go_enter Tryz.func248, Tryz.ntmps248
      go_wp2
      go_ret
      exact ⟨ret_int (by rw [HK.out, h1, h2]; rfl), rfl⟩
  · go_enter Tryz.func248, Tryz.ntmps248
    go_wp2
    go_ret
    exact ⟨ret_int (by rw [HK.out, h1]; rfl), rfl⟩

theorem V.wordsGo_len : ∀ (l cur : List UInt8), (V.wordsGo cur l).length ≤ l.length + (if cur.isEmpty then 0 else 1)
  | [], cur => by rw [V.wordsGo]; split <;> simp
  | b :: r, cur => by
    rw [V.wordsGo]
    split
    · split
      · have := V.wordsGo_len r []; simp at this ⊢; omega
      · have := V.wordsGo_len r []; simp at this ⊢; omega
    · have := V.wordsGo_len r (cur ++ [b])
      simp at this ⊢; omega
theorem V.words_len (l : List UInt8) : (V.words l).length ≤ l.length := by
  have := V.wordsGo_len l []; simpa [V.words] using this

theorem cutSlashes_any (s : ByteArray) (m : Int) (w : World) (hs : s.size < 4294967281) (hm : w.cell? ⟨0, 0, none⟩ = some (.int .i64 m)) :
    Calls Tryz.prog 118 #[.string s, .string ⟨#[47, 47]⟩] w fun e w' => ∃ (x y : ByteArray) (f : Bool), e = .returned (.tuple #[.string x, .string y, .bool f]) ∧ x.data.toList = V.said s.data.toList ∧ x.size ≤ s.size ∧ Below w.heap.size w w' := by
  refine (Tryz.strings_Cut s ⟨#[47, 47]⟩ m w hs hm).mono ?_
  rintro e w' ⟨rfl, n, rfl⟩
  have h := (V.cut_le (t := s) (x := ⟨(Lib.cut s.data.toList [47, 47]).1.toArray⟩) (y := ⟨(Lib.cut s.data.toList [47, 47]).2.1.toArray⟩) (p := [47, 47]) rfl rfl (Nat.le_refl _)).1
  exact ⟨_, _, _, rfl, rfl, h, below_drewN (Below.refl _ _) n⟩
theorem add_off (A j : Nat) : (⟨A, 0, none⟩ : Addr).add j = ⟨A, j, none⟩ := by
  cases j <;> simp [Addr.add]
theorem fields_any (s : ByteArray) (w : World) (hs : s.size ≤ 4294967296) :
    Calls Tryz.prog 251 #[.string s, .func (.func 252) #[] #[]] w fun e w' => ∃ (A : Nat) (ws : List ByteArray), e = .returned (.slice (some ⟨A, 0, none⟩) ws.length ws.length) ∧ ws.map (·.data.toList) = V.words s.data.toList ∧ (∀ j, j < ws.length → w'.cell? ⟨A, j, none⟩ = some (.string (ws.getD j ByteArray.empty))) ∧ Below w.heap.size w w' := by
  refine (Tryz.strings_FieldsFunc_runes 252 #[] enter102 blankP s w hs (blank_pred w)).mono ?_
  rintro e w' ⟨A, rfl, hA, hown, hb⟩
  have hc := hown.cells (g := A) rfl
  refine ⟨A, Lib.goFieldsP blankP s, rfl, V.fields_words s, fun j hj => ?_, hb⟩
  have := hc j (.string ((Lib.goFieldsP blankP s).getD j ByteArray.empty)) (by rw [List.getElem?_map, List.getElem?_eq_getElem hj, V.getD_at _ _ hj]; rfl)
  rw [add_off] at this
  exact this

/-- The cells of some tokens. -/
def tokCells (ws : List ByteArray) : List Value := ws.flatMap fun s => [.int .i64 (V.kind s.data.toList), .string s]
theorem tokCells_snoc (ws : List ByteArray) (k : Nat) (h : k < ws.length) : tokCells (ws.take (k + 1)) = tokCells (ws.take k) ++ [.int .i64 (V.kind (ws.getD k ByteArray.empty).data.toList), .string (ws.getD k ByteArray.empty)] := by
  unfold tokCells
  rw [List.take_succ_eq_append_getElem h, List.flatMap_append, V.getD_at _ _ h]; rfl
theorem tokCells_len (ws : List ByteArray) : (tokCells ws).length = ws.length * 2 := by
  unfold tokCells
  induction ws with
  | nil => rfl
  | cons a r ih => simp [List.flatMap_cons, ih] ; omega

set_option maxHeartbeats 1600000 in
set_option maxRecDepth 100000 in
theorem tokensOf_any (s : ByteArray) (m : Int) (w : World) (hs : s.size < 4294967281) (hm : w.cell? ⟨0, 0, none⟩ = some (.int .i64 m)) :
    Calls Tryz.prog 178 #[.string s] w fun e w' => ∃ (v : Value) (ws : List ByteArray), e = .returned v ∧ ws.map (·.data.toList) = V.words (V.said s.data.toList) ∧ w'.ownsRow w.heap.size 371 2 v ws.length (tokCells ws) ∧ Below w.heap.size w w' := by
  obtain ⟨i0, hi, hz0, hz1, hz2⟩ := info_parts info181
  go_enter Tryz.func178, Tryz.ntmps178
  go_wp2_with fail
  refine (cutSlashes_any s m _ hs hm).mono ?_
  rintro e w1 ⟨x, y, f, rfl, hx, hxs, hb1⟩
  have HB1 := hide hb1
  have HX := hide hx
  clear hb1 hx
  go_wp2_with fail
  refine (fields_any x _ (by omega)).mono ?_
  rintro e w2 ⟨A, ws, rfl, hws, hcs, hb2⟩
  have HB2 := hide (HB1.out.trans (hb2.mono HB1.out.size))
  have hwl : ws.length ≤ 4294967281 := by
    have h1 := V.words_len x.data.toList
    rw [← hws, List.length_map] at h1
    have e : x.data.toList.length = x.size := by simp
    omega
  have HW : Hid (ws.map (·.data.toList) = V.words (V.said s.data.toList)) := hide (by rw [hws, HX.out])
  have HC := hide hcs
  clear hb2 HB1 hws hcs
  have hsz2 := HB2.out.size
  go_wp2
  go_loopw [6, 18] (fun v i wr => ∃ k : Nat, k ≤ ws.length ∧ i = .int .i64 k ∧ wr.ownsRow w2.heap.size 371 2 v k (tokCells (ws.take k)) ∧ Below w2.heap.size w2 wr) (fun _ i _ => ws.length - (intOf i).toNat)
  case atStart => exact ⟨0, by omega, rfl, ⟨rfl, Or.inl ⟨rfl, rfl⟩⟩, Below.refl _ _⟩
  case round =>
    obtain ⟨k, hk, rfl, hown, hbr⟩ := hrel
    have hsz : w2.heap.size ≤ wr.heap.size := hbr.size
    by_cases hlt : k < ws.length
    · have hck := keep hbr (HC.out k hlt)
      have HS := hide (tokCells_snoc ws k hlt)
      generalize hx : ws.getD k ByteArray.empty = z at hck HS
      clear hx
      go_wp2_with (first | (go_at_call 253; refine (kindOf_any _ _).mono ?_; rintro e w' ⟨rfl, hw'⟩; rw [hw']; clear hw' w') | (at_builtin; refine wpList_append_own _ rfl _ _ 297 rfl w2.heap.size 371 i0 (.agg #[.int .i64 0, .string ByteArray.empty]) 2 24 Tryz.underlying297 hi hz0 hz1 hz2 rfl (by decide) _ _ _ rfl (hown.alloc _) ⟨wr.heap.size, 0, none⟩ 1 1 [.int .i64 (V.kind z.data.toList), .string z] rfl rfl ?c1 ?c2 ?c3 ?c4 ?c5 ?_))
      case c1 =>
        intro j u hj
        match j, hj with
        | 0, hj => simp at hj; subst hj; simp [Addr.add]
        | 1, hj => simp at hj; subst hj; simp [Addr.add]
      case c2 => intro u hu; simp at hu; rcases hu with rfl | rfl <;> rfl
      case c3 => unfold maxLen; omega
      case c4 => omega
      case c5 => simp; omega
      intro v' w3 hown' hgrow _
      have hb3 : Below w2.heap.size w2 w3 := (hbr.alloc hsz _).grown hgrow (by simp; omega) (fun j hj => (hown.lt j hj).1)
      clear hgrow
      go_wp2
      go_roundw
      case rel => exact ⟨k + 1, by omega, by go_num, by rw [HS.out]; exact hown', hb3⟩
      case measure => simp [intOf]; omega
    · have hke : k = ws.length := by omega
      go_wp2
      go_ret
      rw [hke, List.take_length] at hown
      refine ⟨_, ws, rfl, HW.out, ⟨hown.1, ?_⟩, HB2.out.trans (hbr.mono hsz2)⟩
      rcases hown.2 with h | ⟨g, cap, cur, e, hb, hr⟩
      · exact Or.inl h
      · exact Or.inr ⟨g, cap, cur, e, by omega, hr⟩

end Go.Proofs.YtcfhleenecfghaaGreatDoor
