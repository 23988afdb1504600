/- Each line as it is written. -/
import Derived.Test.YtcfhleenecfghaaGreatDoorYb
import Derived.Test.YtcfhleenecfghaaGreatDoorAnew
import Derived.Laws.Concat
namespace Go.Proofs.YtcfhleenecfghaaGreatDoor
open Go.RowKit

theorem cat_any (x y : ByteArray) (h : x.size + y.size ≤ 1000000) (w : World) : (Op.stringOp .add x y).run Tryz.prog w = .ok (.string (x ++ y)) w :=
  run_string_add_sum (P := Tryz.prog) w x y (by omega)
theorem size_add (x y : ByteArray) : (x ++ y).size = x.size + y.size := by simp

set_option maxHeartbeats 800000 in
set_option maxRecDepth 100000 in
theorem text110 (a : ByteArray) (w : World) (ha : a.size ≤ 60) : Calls Tryz.prog 472 #[.agg #[.string a]] w fun e w' => e = .returned (.string (⟨#[109, 111, 100, 117, 108, 101, 32]⟩ ++ a)) ∧ Below w.heap.size w w' := by
  have e1 : (ByteArray.mk #[109, 111, 100, 117, 108, 101, 32]).size = 7 := rfl
  have h1 := cat_any ⟨#[109, 111, 100, 117, 108, 101, 32]⟩ a (by omega)
  go_enter Tryz.func472, Tryz.ntmps472
  go_wp2
  go_ret
  exact ⟨rfl, (Below.refl _ _).alloc (Nat.le_refl _) _⟩
set_option maxHeartbeats 800000 in
set_option maxRecDepth 100000 in
theorem text194 (a b : ByteArray) (w : World) (ha : a.size ≤ 60) (hb : b.size ≤ 60) : Calls Tryz.prog 474 #[.agg #[.string a, .string b]] w fun e w' => e = .returned (.string (⟨#[114, 101, 113, 117, 105, 114, 101, 32]⟩ ++ a ++ ⟨#[32]⟩ ++ b)) ∧ Below w.heap.size w w' := by
  have e1 : (ByteArray.mk #[114, 101, 113, 117, 105, 114, 101, 32]).size = 8 := rfl
  have e2 : (ByteArray.mk #[32]).size = 1 := rfl
  have h1 := cat_any ⟨#[114, 101, 113, 117, 105, 114, 101, 32]⟩ a (by omega)
  have h2 := cat_any (⟨#[114, 101, 113, 117, 105, 114, 101, 32]⟩ ++ a) ⟨#[32]⟩ (by rw [size_add]; omega)
  have h3 := cat_any (⟨#[114, 101, 113, 117, 105, 114, 101, 32]⟩ ++ a ++ ⟨#[32]⟩) b (by rw [size_add, size_add]; omega)
  go_enter Tryz.func474, Tryz.ntmps474
  go_wp2
  go_ret
  exact ⟨rfl, (Below.refl _ _).alloc (Nat.le_refl _) _⟩
set_option maxHeartbeats 800000 in
set_option maxRecDepth 100000 in
theorem text195 (a b : ByteArray) (w : World) (ha : a.size ≤ 60) (hb : b.size ≤ 60) : Calls Tryz.prog 475 #[.agg #[.string a, .string b]] w fun e w' => e = .returned (.string (⟨#[101, 120, 99, 108, 117, 100, 101, 32]⟩ ++ a ++ ⟨#[32]⟩ ++ b)) ∧ Below w.heap.size w w' := by
  have e1 : (ByteArray.mk #[101, 120, 99, 108, 117, 100, 101, 32]).size = 8 := rfl
  have e2 : (ByteArray.mk #[32]).size = 1 := rfl
  have h1 := cat_any ⟨#[101, 120, 99, 108, 117, 100, 101, 32]⟩ a (by omega)
  have h2 := cat_any (⟨#[101, 120, 99, 108, 117, 100, 101, 32]⟩ ++ a) ⟨#[32]⟩ (by rw [size_add]; omega)
  have h3 := cat_any (⟨#[101, 120, 99, 108, 117, 100, 101, 32]⟩ ++ a ++ ⟨#[32]⟩) b (by rw [size_add, size_add]; omega)
  go_enter Tryz.func475, Tryz.ntmps475
  go_wp2
  go_ret
  exact ⟨rfl, (Below.refl _ _).alloc (Nat.le_refl _) _⟩
/-- The left side of a replacement. -/
def oldB (a b : ByteArray) : ByteArray := if b.toList == [] then a else a ++ (⟨#[32]⟩ ++ b)
set_option maxHeartbeats 1600000 in
set_option maxRecDepth 100000 in
theorem text197 (a b c d : ByteArray) (w : World) (ha : a.size ≤ 60) (hb : b.size ≤ 60) (hc : c.size ≤ 60) (hd : d.size ≤ 60) : Calls Tryz.prog 476 #[.agg #[.string a, .string b, .string c, .string d]] w fun e w' => e = .returned (.string (⟨#[114, 101, 112, 108, 97, 99, 101, 32]⟩ ++ oldB a b ++ ⟨#[32, 61, 62, 32]⟩ ++ c ++ ⟨#[32]⟩ ++ d)) ∧ Below w.heap.size w w' := by
  have e1 : (ByteArray.mk #[114, 101, 112, 108, 97, 99, 101, 32]).size = 8 := rfl
  have e2 : (ByteArray.mk #[32]).size = 1 := rfl
  have e3 : (ByteArray.mk #[32, 61, 62, 32]).size = 4 := rfl
  have g1 := cat_any ⟨#[32]⟩ b (by omega)
  have g2 := cat_any a (⟨#[32]⟩ ++ b) (by rw [size_add]; omega)
  have ho : (oldB a b).size ≤ 121 := by
    unfold oldB
    split
    · omega
    · rw [size_add, size_add]; omega
  have h1 := cat_any ⟨#[114, 101, 112, 108, 97, 99, 101, 32]⟩ (oldB a b) (by omega)
  have h2 := cat_any (⟨#[114, 101, 112, 108, 97, 99, 101, 32]⟩ ++ oldB a b) ⟨#[32, 61, 62, 32]⟩ (by rw [size_add]; omega)
  have h3 := cat_any (⟨#[114, 101, 112, 108, 97, 99, 101, 32]⟩ ++ oldB a b ++ ⟨#[32, 61, 62, 32]⟩) c (by rw [size_add, size_add]; omega)
  have h4 := cat_any (⟨#[114, 101, 112, 108, 97, 99, 101, 32]⟩ ++ oldB a b ++ ⟨#[32, 61, 62, 32]⟩ ++ c) ⟨#[32]⟩ (by rw [size_add, size_add, size_add]; omega)
  have h5 := cat_any (⟨#[114, 101, 112, 108, 97, 99, 101, 32]⟩ ++ oldB a b ++ ⟨#[32, 61, 62, 32]⟩ ++ c ++ ⟨#[32]⟩) d (by rw [size_add, size_add, size_add, size_add]; omega)
  clear ho
  cases he : (b.toList == [])
  · have ho : oldB a b = a ++ (⟨#[32]⟩ ++ b) := by unfold oldB; rw [he]; rfl
    rw [ho] at h1 h2 h3 h4 h5 ⊢
    have hne : (b.toList != []) = true := by rw [bne, he]; rfl
    clear ho
    go_enter Tryz.func476, Tryz.ntmps476
    go_wp2
    go_ret
    exact ⟨rfl, (Below.refl _ _).alloc (Nat.le_refl _) _⟩
  · have ho : oldB a b = a := by unfold oldB; rw [he]; rfl
    rw [ho] at h1 h2 h3 h4 h5 ⊢
    have hne : (b.toList != []) = false := by rw [bne, he]; rfl
    clear ho
    go_enter Tryz.func476, Tryz.ntmps476
    go_wp2
    go_ret
    exact ⟨rfl, (Below.refl _ _).alloc (Nat.le_refl _) _⟩

theorem method110 (v : Value) (w : World) : (method 654 123 v "Text").run Tryz.prog w = .ok (472, v) w := by kernel_rfl
theorem method194 (v : Value) (w : World) : (method 654 221 v "Text").run Tryz.prog w = .ok (474, v) w := by kernel_rfl
theorem method195 (v : Value) (w : World) : (method 654 222 v "Text").run Tryz.prog w = .ok (475, v) w := by kernel_rfl
theorem method197 (v : Value) (w : World) : (method 654 224 v "Text").run Tryz.prog w = .ok (476, v) w := by kernel_rfl

/-- The function that writes lines of a kind. -/
def textFn (t : Nat) : Nat := if t == 123 then 472 else if t == 221 then 474 else if t == 222 then 475 else 476
/-- A line as it is written. -/
def lineT (x : Nat × List ByteArray) : ByteArray := ⟨(V.lineB x.1 x.2).toArray⟩
theorem small_path {a : ByteArray} (h : V.path a.data.toList = true) : a.size ≤ 60 := by
  have := (V.path_named h).short
  have e : a.data.toList.length = a.size := by simp
  omega
theorem small_ver {a : ByteArray} (h : V.ver a.data.toList = true) : a.size ≤ 60 := by
  have := (V.ver_named h).short
  have e : a.data.toList.length = a.size := by simp
  omega
theorem small_old {a : ByteArray} (h : a.data.toList = [] ∨ V.ver a.data.toList = true) : a.size ≤ 60 := by
  rcases h with h | h
  · have e : a.data.toList.length = a.size := by simp
    rw [h] at e; simp at e; omega
  · exact small_ver h
theorem method_any {t : Nat} {fs : List ByteArray} (h : V.Valid t fs) (v : Value) (w : World) : (method 654 t v "Text").run Tryz.prog w = .ok (textFn t, v) w := by
  rcases V.valid_cases h with ⟨rfl, _⟩ | ⟨rfl, _⟩ | ⟨rfl, _⟩ | ⟨rfl, _⟩
  · exact method110 v w
  · exact method194 v w
  · exact method195 v w
  · exact method197 v w
theorem data_app (x y : ByteArray) : (x ++ y).data.toList = x.data.toList ++ y.data.toList := by simp
theorem text_any {t : Nat} {fs : List ByteArray} (h : V.Valid t fs) (w : World) :
    Calls Tryz.prog (textFn t) #[.agg (fs.map Value.string).toArray] w fun e w' => e = .returned (.string (lineT (t, fs))) ∧ Below w.heap.size w w' := by
  rcases V.valid_cases h with ⟨rfl, a, rfl, h1⟩ | ⟨rfl, a, b, rfl, h1, h2⟩ | ⟨rfl, a, b, rfl, h1, h2⟩ | ⟨rfl, a, b, c, d, rfl, h1, h2, h3, h4⟩
  · have e : lineT (123, [a]) = ⟨#[109, 111, 100, 117, 108, 101, 32]⟩ ++ a := V.bytes_inj (by rw [data_app]; rfl)
    rw [e]; exact text110 a w (small_path h1)
  · have e : lineT (221, [a, b]) = ⟨#[114, 101, 113, 117, 105, 114, 101, 32]⟩ ++ a ++ ⟨#[32]⟩ ++ b := V.bytes_inj (by
      rw [data_app, data_app, data_app]
      show V.lineB 221 [a, b] = _
      unfold V.lineB V.wordsOf V.wd
      simp [V.join])
    rw [e]; exact text194 a b w (small_path h1) (small_ver h2)
  · have e : lineT (222, [a, b]) = ⟨#[101, 120, 99, 108, 117, 100, 101, 32]⟩ ++ a ++ ⟨#[32]⟩ ++ b := V.bytes_inj (by
      rw [data_app, data_app, data_app]
      show V.lineB 222 [a, b] = _
      unfold V.lineB V.wordsOf V.wd
      simp [V.join])
    rw [e]; exact text195 a b w (small_path h1) (small_ver h2)
  · have e : lineT (224, [a, b, c, d]) = ⟨#[114, 101, 112, 108, 97, 99, 101, 32]⟩ ++ oldB a b ++ ⟨#[32, 61, 62, 32]⟩ ++ c ++ ⟨#[32]⟩ ++ d := V.bytes_inj (by
      rw [data_app, data_app, data_app, data_app, data_app]
      show V.lineB 224 [a, b, c, d] = _
      unfold V.lineB oldB
      by_cases hb : b.data.toList = []
      · have h5 : (b.toList == []) = true := by rw [ByteArray.toList_eq, hb]; rfl
        have hw : V.wordsOf 224 [a, b, c, d] = [[114, 101, 112, 108, 97, 99, 101], a.data.toList, [61, 62], c.data.toList, d.data.toList] := by
          unfold V.wordsOf
          rw [show (V.wd [a, b, c, d] 1 == []) = true from by rw [beq_iff_eq]; exact hb]; rfl
        rw [hw]
        simp [V.join, h5]
      · have h5 : (b.toList == []) = false := by rw [ByteArray.toList_eq, beq_eq_false_iff_ne]; exact hb
        have hw : V.wordsOf 224 [a, b, c, d] = [[114, 101, 112, 108, 97, 99, 101], a.data.toList, b.data.toList, [61, 62], c.data.toList, d.data.toList] := by
          unfold V.wordsOf
          rw [show (V.wd [a, b, c, d] 1 == []) = false from by rw [beq_eq_false_iff_ne]; exact hb]; rfl
        rw [hw]
        simp [V.join, h5])
    rw [e]; exact text197 a b c d w (small_path h1) (small_old h2) (small_path h3) (small_ver h4)

end Go.Proofs.YtcfhleenecfghaaGreatDoor
