/- The heads of the law's sources: what they import. -/
/- The law's files: their names and directories. -/
import Derived.Test.YtcfhleenecfghaaGreatDoorBe
import Derived.Test.YtcfhleenecfghaaGreatDoorXc
namespace Go.Proofs.YtcfhleenecfghaaGreatDoor
open Go.RowKit

/-- Lines, one behind the other. -/
def joinNL : List (List UInt8) → List UInt8
  | [] => []
  | [l] => l
  | l :: r => l ++ 10 :: joinNL r
theorem joinNL_cons (l : List UInt8) (r : List (List UInt8)) (h : r ≠ []) : joinNL (l :: r) = l ++ 10 :: joinNL r := by
  cases r with
  | nil => exact absurd rfl h
  | cons a r => rfl
theorem index_nl : ∀ (l r : List UInt8), 10 ∉ l → Lib.index (l ++ 10 :: r) [10] = l.length
  | [], r, _ => by simp [Lib.index]
  | b :: l, r, h => by
    have h1 : b ≠ 10 := fun e => h (by simp [e])
    have ih := index_nl l r (fun e => h (by simp [e]))
    simp only [List.cons_append, Lib.index]
    have h2 : List.isPrefixOf [10] (b :: (l ++ 10 :: r)) = false := by simp [List.isPrefixOf, Ne.symm h1]
    have h3 : ((l.length : Int) == -1) = false := by simp
    simp [h2, ih, h3]
theorem index_no : ∀ (l : List UInt8), 10 ∉ l → Lib.index l [10] = -1
  | [], _ => by simp [Lib.index]
  | b :: l, h => by
    have h1 : b ≠ 10 := fun e => h (by simp [e])
    have ih := index_no l (fun e => h (by simp [e]))
    simp only [Lib.index]
    have h2 : List.isPrefixOf [10] (b :: l) = false := by simp [List.isPrefixOf, Ne.symm h1]
    simp [h2, ih]
theorem cut_line (l : List UInt8) (r : List (List UInt8)) (h : 10 ∉ l) (hr : r ≠ []) : Lib.cut (joinNL (l :: r)) [10] = (l, joinNL r, true) := by
  rw [joinNL_cons l r hr]
  unfold Lib.cut
  rw [index_nl l _ h, if_pos (by omega), Int.toNat_natCast, List.take_left]
  simp
theorem cut_last (l : List UInt8) (h : 10 ∉ l) : Lib.cut l [10] = (l, [], false) := by
  unfold Lib.cut
  rw [index_no l h, if_neg (by omega)]

def comment : List UInt8 := [47, 47, 32, 97, 32, 112, 97, 99, 107, 97, 103, 101]
def impLine (b : Nat) : List UInt8 := [105, 109, 112, 111, 114, 116, 32, 34, 120, 47, V.dig b, 34]
def letLine : List UInt8 := [108, 101, 116]
def fileLines (L : List Nat) : List (List UInt8) := comment :: (L.map impLine ++ [[], letLine])
/-- The text of a source that imports these. -/
def fileData (L : List Nat) : ByteArray := ⟨(joinNL (fileLines L)).toArray⟩

theorem imp_facts (b : Nat) (h : b < 8) : Lib.trimPrefix (impLine b) [105, 109, 112, 111, 114, 116, 32, 34] = [120, 47, V.dig b, 34] ∧ Lib.hasPrefix (impLine b) [105, 109, 112, 111, 114, 116, 32, 34] = true ∧
    Lib.trimSuffix [120, 47, V.dig b, 34] [34] = [120, 47, V.dig b] ∧ Lib.hasSuffix [120, 47, V.dig b, 34] [34] = true ∧ Lib.hasPrefix (impLine b) [47, 47] = false ∧ Lib.hasPrefix (impLine b) [105, 109, 112, 111, 114, 116] = true ∧ V.path (xpath b).data.toList = true ∧ 10 ∉ impLine b := by
  have : ∀ b : Fin 8, Lib.trimPrefix (impLine b.val) [105, 109, 112, 111, 114, 116, 32, 34] = [120, 47, V.dig b.val, 34] ∧ Lib.hasPrefix (impLine b.val) [105, 109, 112, 111, 114, 116, 32, 34] = true ∧
    Lib.trimSuffix [120, 47, V.dig b.val, 34] [34] = [120, 47, V.dig b.val] ∧ Lib.hasSuffix [120, 47, V.dig b.val, 34] [34] = true ∧ Lib.hasPrefix (impLine b.val) [47, 47] = false ∧ Lib.hasPrefix (impLine b.val) [105, 109, 112, 111, 114, 116] = true ∧ V.path (xpath b.val).data.toList = true ∧ 10 ∉ impLine b.val := by decide
  exact this ⟨b, h⟩

set_option maxHeartbeats 1600000 in
set_option maxRecDepth 100000 in
theorem quoted_imp (b : Nat) (h : b < 8) (w : World) :
    Calls Tryz.prog 432 #[.string ⟨(impLine b).toArray⟩] w fun e w' => e = .returned (.string (xpath b)) ∧ w' = w := by
  obtain ⟨h1, h2, h3, h4, -⟩ := imp_facts b h
  go_enter Tryz.func432, Tryz.ntmps432
  go_wp2_with (first
    | (go_at_call 448; refine (Tryz.strings_CutPrefix _ _ _).mono ?_; rintro e w' ⟨rfl, rfl⟩)
    | (go_at_call 449; refine (Tryz.strings_CutSuffix _ _ _ ?_).mono ?_; rotate_left; rintro e w' ⟨rfl, rfl⟩))
  · go_ret
    exact ⟨rfl, rfl⟩
  · show (4 : Nat) ≤ _
    omega

set_option maxHeartbeats 1600000 in
set_option maxRecDepth 100000 in
theorem kindOf_imp (b : Nat) (h : b < 8) (m : Int) (w : World) (hm : w.cell? ⟨0, 0, none⟩ = some (.int .i64 m)) :
    Calls Tryz.prog 431 #[.string ⟨(impLine b).toArray⟩] w fun e w' => e = .returned (.int .i64 1) ∧ Below w.heap.size w w' := by
  obtain ⟨-, -, -, -, h5, h6, h7, -⟩ := imp_facts b h
  go_enter Tryz.func431, Tryz.ntmps431
  go_wp2_with (first
    | (go_at_call 168; refine (Tryz.strings_HasPrefix _ _ _).mono ?_; rintro e w' ⟨rfl, rfl⟩)
    | (go_at_call 432; refine (quoted_imp b h _).mono ?_; rintro e w' ⟨rfl, rfl⟩)
    | (go_at_call 196; refine (pathCheck_yes _ m _ (by show (3 : Nat) ≤ _; omega) hm h7).mono ?_; rintro e w1 ⟨rfl, hb⟩))
  go_ret
  exact ⟨rfl, hb⟩
set_option maxHeartbeats 1600000 in
set_option maxRecDepth 100000 in
theorem kindOf_comment (w : World) :
    Calls Tryz.prog 431 #[.string ⟨comment.toArray⟩] w fun e w' => e = .returned (.int .i64 0) ∧ Below w.heap.size w w' := by
  unfold comment
  have h1 : Lib.hasPrefix [47, 47, 32, 97, 32, 112, 97, 99, 107, 97, 103, 101] [47, 47] = true := by decide
  go_enter Tryz.func431, Tryz.ntmps431
  go_wp2_with (first
    | (go_at_call 168; refine (Tryz.strings_HasPrefix _ _ _).mono ?_; rintro e w' ⟨rfl, rfl⟩))
  go_ret
  exact ⟨rfl, Below.refl _ _⟩
set_option maxHeartbeats 1600000 in
set_option maxRecDepth 100000 in
theorem kindOf_empty (w : World) :
    Calls Tryz.prog 431 #[.string ⟨#[]⟩] w fun e w' => e = .returned (.int .i64 0) ∧ Below w.heap.size w w' := by
  go_enter Tryz.func431, Tryz.ntmps431
  go_wp2_with (first
    | (go_at_call 168; refine (Tryz.strings_HasPrefix _ _ _).mono ?_; rintro e w' ⟨rfl, rfl⟩))
  go_ret
  exact ⟨rfl, Below.refl _ _⟩
set_option maxHeartbeats 1600000 in
set_option maxRecDepth 100000 in
theorem kindOf_let (w : World) :
    Calls Tryz.prog 431 #[.string ⟨letLine.toArray⟩] w fun e w' => e = .returned (.int .i64 2) ∧ Below w.heap.size w w' := by
  unfold letLine
  have h1 : Lib.hasPrefix [108, 101, 116] [47, 47] = false := by decide
  have h2 : Lib.hasPrefix [108, 101, 116] [105, 109, 112, 111, 114, 116] = false := by decide
  go_enter Tryz.func431, Tryz.ntmps431
  go_wp2_with (first
    | (go_at_call 168; refine (Tryz.strings_HasPrefix _ _ _).mono ?_; rintro e w' ⟨rfl, rfl⟩))
  go_ret
  exact ⟨rfl, Below.refl _ _⟩

/-- Of each line of a head: what it is. -/
theorem fileLines_len (L : List Nat) : (fileLines L).length = L.length + 3 := by simp [fileLines]
theorem fileLines_no (L : List Nat) (hL : ∀ b ∈ L, b < 8) : ∀ l ∈ fileLines L, 10 ∉ l := by
  intro l hl
  simp only [fileLines, List.mem_cons, List.mem_append, List.mem_map, List.not_mem_nil, or_false] at hl
  rcases hl with rfl | ⟨b, hb, rfl⟩ | rfl | rfl
  · decide
  · exact (imp_facts b (hL b hb)).2.2.2.2.2.2.2
  · decide
  · decide
/-- The cells of paths. -/
def pcells (l : List Nat) : List Value := l.map fun b => .string (xpath b)
theorem pcells_snoc (l : List Nat) (n : Nat) (h : n < l.length) : pcells (l.take (n + 1)) = pcells (l.take n) ++ [.string (xpath l[n])] := by
  unfold pcells; rw [List.take_succ_eq_append_getElem h, List.map_append]; rfl
/-- How the reading of a head stands: so many lines are read. -/
def Heading (L : List Nat) (w : World) (k n : Nat) (d v : Value) (wr : World) : Prop :=
  d = .string ⟨(joinNL ((fileLines L).drop k)).toArray⟩ ∧ n = min (k - 1) L.length ∧ wr.ownsRow w.heap.size 9 1 v n (pcells (L.take n)) ∧ Below w.heap.size w wr
def strSize : Value → Nat
  | .string s => s.size
  | _ => 0
theorem joinNL_len : ∀ (ls : List (List UInt8)) (n : Nat), (∀ l ∈ ls, l.length ≤ n) → (joinNL ls).length ≤ ls.length * (n + 1)
  | [], _, _ => by simp [joinNL]
  | [l], n, h => by have := h l (by simp); simp [joinNL]; omega
  | l :: a :: r, n, h => by
    have h1 := h l (by simp)
    have h2 := joinNL_len (a :: r) n fun x hx => h x (by simp [hx])
    rw [joinNL_cons l (a :: r) (by simp)]
    simp only [List.length_append, List.length_cons, Nat.add_mul] at h2 ⊢
    omega
theorem fileLines_short (L : List Nat) : ∀ l ∈ fileLines L, l.length ≤ 12 := by
  intro l hl
  simp only [fileLines, List.mem_cons, List.mem_append, List.mem_map, List.not_mem_nil, or_false] at hl
  rcases hl with rfl | ⟨b, hb, rfl⟩ | rfl | rfl
  · decide
  · exact Nat.le_refl _
  · decide
  · decide
theorem info9 : (Tryz.prog.info? 9).map (fun i => (i.zero, i.size, i.bytes)) = some (some (.string ⟨#[]⟩), 1, 16) := by kernel_rfl

theorem cut_here (l : List UInt8) (r : List (List UInt8)) (h : 10 ∉ l) (hr : r ≠ []) (hs : (joinNL (l :: r)).length < 1000000) (m : Int) (w : World) (hm : w.cell? ⟨0, 0, none⟩ = some (.int .i64 m)) :
    Calls Tryz.prog 118 #[.string ⟨(joinNL (l :: r)).toArray⟩, .string ⟨#[10]⟩] w fun e w' => e = .returned (.tuple #[.string ⟨l.toArray⟩, .string ⟨(joinNL r).toArray⟩, .bool true]) ∧ ∃ n, w' = w.drewN n := by
  have hsz : (ByteArray.mk (joinNL (l :: r)).toArray).size < 4294967281 := by
    show (joinNL (l :: r)).toArray.size < _
    rw [List.size_toArray]; omega
  refine (Tryz.strings_Cut _ _ m w hsz hm).mono ?_
  rintro e w' ⟨rfl, h2⟩
  refine ⟨?_, h2⟩
  have e1 : Lib.cut (ByteArray.mk (joinNL (l :: r)).toArray).data.toList (ByteArray.mk #[10]).data.toList = (l, joinNL r, true) := cut_line l r h hr
  rw [e1]
theorem cut_end (l : List UInt8) (h : 10 ∉ l) (hs : l.length < 1000000) (m : Int) (w : World) (hm : w.cell? ⟨0, 0, none⟩ = some (.int .i64 m)) :
    Calls Tryz.prog 118 #[.string ⟨l.toArray⟩, .string ⟨#[10]⟩] w fun e w' => e = .returned (.tuple #[.string ⟨l.toArray⟩, .string ⟨#[]⟩, .bool false]) ∧ ∃ n, w' = w.drewN n := by
  have hsz : (ByteArray.mk l.toArray).size < 4294967281 := by
    show l.toArray.size < _
    rw [List.size_toArray]; omega
  refine (Tryz.strings_Cut _ _ m w hsz hm).mono ?_
  rintro e w' ⟨rfl, h2⟩
  refine ⟨?_, h2⟩
  have e1 : Lib.cut (ByteArray.mk l.toArray).data.toList (ByteArray.mk #[10]).data.toList = (l, [], false) := cut_last l h
  rw [e1]
theorem head_drop (L : List Nat) (k : Nat) (h : k < L.length + 2) : ∃ l r, (fileLines L).drop k = l :: r ∧ r ≠ [] ∧ r = (fileLines L).drop (k + 1) ∧ l ∈ fileLines L ∧
    ((l = comment ∧ k = 0) ∨ (l = [] ∧ k = L.length + 1) ∨ ∃ hk : k - 1 < L.length, 1 ≤ k ∧ l = impLine L[k - 1]) := by
  have hlen := fileLines_len L
  have hk : k < (fileLines L).length := by omega
  refine ⟨(fileLines L)[k], (fileLines L).drop (k + 1), List.drop_eq_getElem_cons hk, ?_, rfl, List.getElem_mem hk, ?_⟩
  · intro e
    have := congrArg List.length e
    simp [hlen] at this
    omega
  · cases k with
    | zero => exact Or.inl ⟨rfl, rfl⟩
    | succ k =>
      have e : (fileLines L)[k + 1] = (L.map impLine ++ [[], letLine])[k]'(by simp; omega) := rfl
      rw [e]
      by_cases hk2 : k < L.length
      · exact Or.inr (Or.inr ⟨hk2, by omega, by rw [List.getElem_append_left (by simpa using hk2)]; simp⟩)
      · have : k = L.length := by omega
        subst this
        exact Or.inr (Or.inl ⟨by rw [List.getElem_append_right (by simp)]; simp, rfl⟩)
theorem head_end (L : List Nat) : (fileLines L).drop (L.length + 2) = [letLine] := by
  have h1 : L.length + 1 = (L.map impLine).length + 1 := by simp
  unfold fileLines
  rw [List.drop_succ_cons, h1, List.drop_append]
  simp
theorem owns_later {w w' : World} {base : Nat} {e : TypeId} {s n : Nat} {v : Value} {xs : List Value} (h : w.ownsRow base e s v n xs) (hb : Below w.heap.size w w') : w'.ownsRow base e s v n xs := by
  refine ⟨h.1, ?_⟩
  rcases h.2 with h | ⟨g, cap, cur, e, h1, hg, hr⟩
  · exact Or.inl h
  · exact Or.inr ⟨g, cap, cur, e, h1, by rw [hb.block g (Array.getElem?_eq_some_iff.1 hg).1]; exact hg, hr⟩

set_option maxHeartbeats 3200000 in
set_option maxRecDepth 100000 in
theorem imports_any (L : List Nat) (hL : ∀ b ∈ L, b < 8) (hl : L.length ≤ 8) (m : Int) (w : World) (hm : w.cell? ⟨0, 0, none⟩ = some (.int .i64 m)) :
    Calls Tryz.prog 401 #[.string (fileData L)] w fun e w' => ∃ v, e = .returned (.tuple #[v, .bool true]) ∧ w'.ownsRow w.heap.size 9 1 v L.length (pcells L) ∧ Below w.heap.size w w' := by
  obtain ⟨i0, hi, hz0, hz1, hz2⟩ := info_parts info9
  have hw0 : 0 < w.heap.size := World.block_lt_of_cell? (h := hm)
  have HM : Hid (∀ wx, Below w.heap.size w wx → wx.cell? ⟨0, 0, none⟩ = some (.int .i64 m)) := hide fun wx hb => by rw [← hm]; exact hb.cell (p := ⟨0, 0, none⟩) hw0
  clear hm
  have HLL := hide hL
  clear hL
  go_enter Tryz.func401, Tryz.ntmps401
  go_wp2_with fail
  go_loopw [0, 4, 5] (fun d v b wr => ∃ k n : Nat, k ≤ L.length + 2 ∧ b = .bool true ∧ Hid (Heading L w k n d v wr)) (fun d _ _ _ => strSize d)
  case atStart => exact ⟨0, 0, by omega, rfl, hide ⟨rfl, by simp, World.ownsRow_nil _ _ _ _, Below.refl _ _⟩⟩
  case round =>
    obtain ⟨k, n, hk, rfl, H⟩ := hrel
    obtain ⟨rfl, hn, hown, hb⟩ := H.out
    have HO := hide hown
    have HB := hide hb
    have HN := hide hn
    clear H hown hb hn
    by_cases hlt : k < L.length + 2
    · obtain ⟨l, r, e1, e2, e3, e4, hcase⟩ := head_drop L k hlt
      rw [e1]
      have hno := fileLines_no L HLL.out l e4
      have hsz : (joinNL (l :: r)).length < 1000000 := by
        have h1 := joinNL_len ((fileLines L).drop k) 12 fun x hx => fileLines_short L x (List.mem_of_mem_drop hx)
        rw [e1] at h1
        have h2 : (l :: r).length ≤ 11 := by rw [← e1, List.length_drop, fileLines_len]; omega
        omega
      have HS : Hid (strSize (.string ⟨(joinNL r).toArray⟩) < strSize (.string ⟨(joinNL (l :: r)).toArray⟩)) := by
        refine hide ?_
        show (joinNL r).toArray.size < (joinNL (l :: r)).toArray.size
        rw [joinNL_cons l r e2, List.size_toArray, List.size_toArray, List.length_append, List.length_cons]; omega
      have HC := hide (cut_here l r hno e2 hsz m wr (HM.out _ HB.out))
      have E3 := hide e3
      clear hno hsz e2 e3 e1 e4
      go_wp2_with fail
      refine HC.out.mono ?_
      rintro e w1 ⟨rfl, q, rfl⟩
      have HB1 := hide (show Below w.heap.size w (wr.drewN q) from ⟨HB.out.os, HB.out.tape, HB.out.output, HB.out.size, HB.out.block⟩)
      have HO1 : Hid ((wr.drewN q).ownsRow w.heap.size 9 1 u4 n (pcells (L.take n))) := HO
      generalize wr.drewN q = w2 at HB1 HO1
      clear HC HO HB
      rcases hcase with ⟨rfl, hk0⟩ | ⟨rfl, hk0⟩ | ⟨hk1, hk2, rfl⟩
      · go_wp2_with fail
        refine (kindOf_comment _).mono ?_
        rintro e w3 ⟨rfl, hb3⟩
        have R : Hid (Heading L w (k + 1) n (.string ⟨(joinNL r).toArray⟩) u4 w3) := by
          refine hide ⟨by rw [E3.out], ?_, owns_later HO1.out hb3, HB1.out.trans (hb3.mono HB1.out.size)⟩
          have := HN.out
          omega
        clear hb3 HO1 HB1
        go_wp2
        first
          | exact ⟨⟨k + 1, n, by omega, rfl, R⟩, HS.out⟩
          | (go_roundw
             case rel => exact ⟨k + 1, n, by omega, rfl, R⟩
             case measure => exact HS.out)
      · go_wp2_with fail
        refine (kindOf_empty _).mono ?_
        rintro e w3 ⟨rfl, hb3⟩
        have R : Hid (Heading L w (k + 1) n (.string ⟨(joinNL r).toArray⟩) u4 w3) := by
          refine hide ⟨by rw [E3.out], ?_, owns_later HO1.out hb3, HB1.out.trans (hb3.mono HB1.out.size)⟩
          have := HN.out
          omega
        clear hb3 HO1 HB1
        go_wp2
        first
          | exact ⟨⟨k + 1, n, by omega, rfl, R⟩, HS.out⟩
          | (go_roundw
             case rel => exact ⟨k + 1, n, by omega, rfl, R⟩
             case measure => exact HS.out)
      · have hb8 : L[k - 1] < 8 := HLL.out _ (List.getElem_mem hk1)
        obtain rfl : k = n + 1 := by have := HN.out; omega
        have hk3 : n < L.length := by omega
        have HX := hide (pcells_snoc L n hk3)
        have hL1 : L[n + 1 - 1] = L[n] := by simp only [Nat.add_sub_cancel]
        rw [hL1] at hb8 ⊢
        clear hL1
        generalize L[n] = b at hb8 HX
        go_wp2_with fail
        refine (kindOf_imp b hb8 m _ (HM.out _ HB1.out)).mono ?_
        rintro e w3 ⟨rfl, hb3⟩
        have HO3 := hide (owns_later HO1.out hb3)
        have HB3 := hide (HB1.out.trans (hb3.mono HB1.out.size))
        clear hb3 HO1 HB1
        go_wp2_with (first
          | (go_at_call 432; refine (quoted_imp b hb8 _).mono ?_; rintro e w4 ⟨rfl, rfl⟩)
          | (at_builtin; refine wpList_append_own _ rfl _ _ 50 rfl w.heap.size 9 i0 (.string ⟨#[]⟩) 1 16 Tryz.underlying50 hi hz0 hz1 hz2 rfl (by decide) _ _ _ rfl (HO3.out.alloc _) ⟨w4.heap.size, 0, none⟩ 1 1 [.string (xpath b)] rfl rfl ?c1 ?c2 ?c3 ?c4 ?c5 ?_))
        case c1 =>
          intro j u hj
          match j, hj with
          | 0, hj => simp at hj; subst hj; simp [Addr.add]
        case c2 => intro u hu; simp at hu; subst hu; rfl
        case c3 => unfold maxLen; omega
        case c4 => omega
        case c5 => have := HB3.out.size; rw [alloc_size]; omega
        intro v' w5 hown' hgrow _
        have hb5 : Below w.heap.size w w5 := (HB3.out.alloc HB3.out.size _).grown hgrow (by have := HB3.out.size; rw [alloc_size]; omega) (fun j hj => (HO3.out.lt j hj).1)
        have R : Hid (Heading L w (n + 1 + 1) (n + 1) (.string ⟨(joinNL r).toArray⟩) v' w5) := by
          refine hide ⟨by rw [E3.out], by omega, ?_, hb5⟩
          rw [HX.out]; exact hown'
        clear hown' hgrow hb5
        go_wp2
        first
          | exact ⟨⟨n + 1 + 1, n + 1, by omega, rfl, R⟩, HS.out⟩
          | (go_roundw
             case rel => exact ⟨n + 1 + 1, n + 1, by omega, rfl, R⟩
             case measure => exact HS.out)
    · have he : k = L.length + 2 := by omega
      subst he
      have hnL : n = L.length := by have := HN.out; omega
      subst hnL
      rw [head_end]
      have HC := hide (cut_end letLine (by decide) (by decide) m wr (HM.out _ HB.out))
      go_wp2_with fail
      refine HC.out.mono ?_
      rintro e w1 ⟨rfl, q, rfl⟩
      have HB1 := hide (show Below w.heap.size w (wr.drewN q) from ⟨HB.out.os, HB.out.tape, HB.out.output, HB.out.size, HB.out.block⟩)
      have HO1 : Hid ((wr.drewN q).ownsRow w.heap.size 9 1 u4 L.length (pcells (L.take L.length))) := HO
      generalize wr.drewN q = w2 at HB1 HO1
      clear HC HO HB
      go_wp2_with fail
      refine (kindOf_let _).mono ?_
      rintro e w3 ⟨rfl, hb3⟩
      have HO3 := hide (owns_later HO1.out hb3)
      have HB3 := hide (HB1.out.trans (hb3.mono HB1.out.size))
      clear hb3 HO1 HB1
      go_wp2_with fail
      go_ret2
      refine ⟨_, rfl, ?_, HB3.out⟩
      have := HO3.out
      rwa [List.take_length] at this
end Go.Proofs.YtcfhleenecfghaaGreatDoor

namespace Go.Proofs.YtcfhleenecfghaaGreatDoor
open Go.RowKit

/-- The name of the file of one of the eight, and its directory. -/
def fname (a : Nat) : ByteArray := ⟨#[V.dig a, 47, 102, 46, 116, 108]⟩
def fdir (a : Nat) : ByteArray := ⟨#[V.dig a]⟩
theorem fname_facts (a : Nat) (h : a < 8) : Lib.hasSuffix (fname a).data.toList [46, 116, 108] = true ∧ (fname a).extract 0 1 = fdir a ∧ (fname a).size = 6 ∧
    (∃ h1 : 1 < (fname a).size, (fname a)[1].toNat = 47) ∧ (∃ h1 : 2 < (fname a).size, (fname a)[2].toNat = 102) ∧ (∃ h1 : 3 < (fname a).size, (fname a)[3].toNat = 46) ∧ (∃ h1 : 4 < (fname a).size, (fname a)[4].toNat = 116) ∧ (∃ h1 : 5 < (fname a).size, (fname a)[5].toNat = 108) := by
  have : ∀ a : Fin 8, Lib.hasSuffix (fname a.val).data.toList [46, 116, 108] = true ∧ (fname a.val).extract 0 1 = fdir a.val ∧ (fname a.val).size = 6 ∧
    (∃ h1 : 1 < (fname a.val).size, (fname a.val)[1].toNat = 47) ∧ (∃ h1 : 2 < (fname a.val).size, (fname a.val)[2].toNat = 102) ∧ (∃ h1 : 3 < (fname a.val).size, (fname a.val)[3].toNat = 46) ∧ (∃ h1 : 4 < (fname a.val).size, (fname a.val)[4].toNat = 116) ∧ (∃ h1 : 5 < (fname a.val).size, (fname a.val)[5].toNat = 108) := by decide
  exact this ⟨a, h⟩

set_option maxHeartbeats 1600000 in
set_option maxRecDepth 100000 in
theorem isSource_any (a : Nat) (h : a < 8) (w : World) :
    Calls Tryz.prog 232 #[.string (fname a)] w fun e w' => e = .returned (.bool true) ∧ w' = w := by
  obtain ⟨h1, -, h3, -⟩ := fname_facts a h
  go_enter Tryz.func232, Tryz.ntmps232
  go_wp2_with fail
  refine (Tryz.strings_HasSuffix _ _ _ (by rw [h3]; omega)).mono ?_
  rintro e w' ⟨rfl, rfl⟩
  go_wp2
  go_ret
  exact ⟨rfl, rfl⟩

set_option maxHeartbeats 1600000 in
set_option maxRecDepth 100000 in
theorem lastSlash_any (a : Nat) (h : a < 8) (w : World) :
    Calls Tryz.prog 390 #[.string (fname a), .int .u8 47] w fun e w' => e = .returned (.int .i64 1) ∧ w' = w := by
  obtain ⟨-, -, h3, ⟨h4, h5⟩, ⟨h6, h7⟩, ⟨h8, h9⟩, ⟨h10, h11⟩, ⟨h12, h13⟩⟩ := fname_facts a h
  go_enter Tryz.func390, Tryz.ntmps390
  go_wp2_with fail
  go_loopw [5] (fun i wr => (i = .int .i64 5 ∨ i = .int .i64 4 ∨ i = .int .i64 3 ∨ i = .int .i64 2 ∨ i = .int .i64 1) ∧ wr = w) (fun i _ => (intOf i).toNat)
  case atStart => exact ⟨Or.inl rfl, rfl⟩
  case round =>
    obtain ⟨h, rfl⟩ := hrel
    rcases h with rfl | rfl | rfl | rfl | rfl
    · go_wp2
      first
        | exact ⟨⟨Or.inr (Or.inl rfl), rfl⟩, by simp [intOf]⟩
        | (go_roundw
           case rel => first | exact ⟨Or.inr (Or.inl rfl), rfl⟩ | exact ⟨Or.inr (Or.inl rfl), trivial⟩
           case measure => simp [intOf])
    · go_wp2
      first
        | exact ⟨⟨Or.inr (Or.inr (Or.inl rfl)), rfl⟩, by simp [intOf]⟩
        | (go_roundw
           case rel => first | exact ⟨Or.inr (Or.inr (Or.inl rfl)), rfl⟩ | exact ⟨Or.inr (Or.inr (Or.inl rfl)), trivial⟩
           case measure => simp [intOf])
    · go_wp2
      first
        | exact ⟨⟨Or.inr (Or.inr (Or.inr (Or.inl rfl))), rfl⟩, by simp [intOf]⟩
        | (go_roundw
           case rel => first | exact ⟨Or.inr (Or.inr (Or.inr (Or.inl rfl))), rfl⟩ | exact ⟨Or.inr (Or.inr (Or.inr (Or.inl rfl))), trivial⟩
           case measure => simp [intOf])
    · go_wp2
      first
        | exact ⟨⟨Or.inr (Or.inr (Or.inr (Or.inr rfl))), rfl⟩, by simp [intOf]⟩
        | (go_roundw
           case rel => first | exact ⟨Or.inr (Or.inr (Or.inr (Or.inr rfl))), rfl⟩ | exact ⟨Or.inr (Or.inr (Or.inr (Or.inr rfl))), trivial⟩
           case measure => simp [intOf])
    · go_wp2
      go_ret
      exact ⟨rfl, rfl⟩

set_option maxHeartbeats 1600000 in
set_option maxRecDepth 100000 in
theorem directory_any (a : Nat) (h : a < 8) (w : World) :
    Calls Tryz.prog 234 #[.string (fname a)] w fun e w' => e = .returned (.string (fdir a)) ∧ Below w.heap.size w w' := by
  obtain ⟨-, h2, h3, -⟩ := fname_facts a h
  have hls := lastSlash_any a h
  go_enter Tryz.func234, Tryz.ntmps234
  go_wp2_with (first
    | (go_at_call 332; go_in)
    | (go_at_call 390; refine (hls _).mono ?_; rintro e w' ⟨rfl, rfl⟩))
  go_ret
  refine ⟨congrArg (fun x => Ending.returned (.string x)) ?_, Below.refl _ _⟩
  exact h2
end Go.Proofs.YtcfhleenecfghaaGreatDoor
