/- The names of files are in one order; the functions by which files are sorted and told apart. -/
import Derived.Test.YtcfhleenecfghaaDoorDgh
import Derived.Test.YtcfhleenecfghaaDoorDgi
import Derived.Test.YtcfhleenecfghaaDoorShelf
namespace Go.Proofs.YtcfhleenecfghaaDoor
open Go.Shelf Go.RowKit Go.Lib Go.Sort

theorem cb_cons (a b : UInt8) (x y : List UInt8) : Lib.compareBytes (a :: x) (b :: y) = if a.toNat < b.toNat then -1 else if b.toNat < a.toNat then 1 else Lib.compareBytes x y := by
  rw [Lib.compareBytes]
  simp only [UInt8.lt_iff_toNat_lt]
theorem cb_refl : ∀ x : List UInt8, Lib.compareBytes x x = 0
  | [] => rfl
  | a :: x => by rw [cb_cons, if_neg (by omega), if_neg (by omega)]; exact cb_refl x
theorem cb_trans : ∀ x y z : List UInt8, Lib.compareBytes x y < 0 → Lib.compareBytes y z < 0 → Lib.compareBytes x z < 0
  | [], [], _, h1, _ => by simp [Lib.compareBytes] at h1
  | [], _ :: _, [], _, h2 => by simp [Lib.compareBytes] at h2
  | [], _ :: _, _ :: _, _, _ => by simp [Lib.compareBytes]
  | _ :: _, [], _, h1, _ => by simp [Lib.compareBytes] at h1
  | _ :: _, _ :: _, [], _, h2 => by simp [Lib.compareBytes] at h2
  | a :: x, b :: y, c :: z, h1, h2 => by
    rw [cb_cons] at *
    have ih := cb_trans x y z
    repeat' split at h1
    all_goals repeat' split at h2
    all_goals repeat' split
    all_goals first | omega | (exact ih h1 h2)
theorem cb_ntrans : ∀ x y z : List UInt8, ¬ Lib.compareBytes x y < 0 → ¬ Lib.compareBytes y z < 0 → ¬ Lib.compareBytes x z < 0
  | [], [], [], _, _ => by decide
  | [], [], _ :: _, _, h2 => by simp [Lib.compareBytes] at h2
  | [], _ :: _, _, h1, _ => by simp [Lib.compareBytes] at h1
  | _ :: _, _, [], _, _ => by simp [Lib.compareBytes]
  | _ :: _, [], _ :: _, _, h2 => by simp [Lib.compareBytes] at h2
  | a :: x, b :: y, c :: z, h1, h2 => by
    rw [cb_cons] at *
    have ih := cb_ntrans x y z
    repeat' split at h1
    all_goals repeat' split at h2
    all_goals repeat' split
    all_goals first | omega | (exact ih h1 h2)
theorem cb_zero : ∀ x y : List UInt8, ¬ Lib.compareBytes x y < 0 → ¬ Lib.compareBytes y x < 0 → x = y
  | [], [], _, _ => rfl
  | [], _ :: _, h1, _ => by simp [Lib.compareBytes] at h1
  | _ :: _, [], _, h2 => by simp [Lib.compareBytes] at h2
  | a :: x, b :: y, h1, h2 => by
    rw [cb_cons] at *
    repeat' split at h1
    all_goals repeat' split at h2
    all_goals first | omega | skip
    rw [cb_zero x y h1 h2, UInt8.toNat_inj.1 (by omega : a.toNat = b.toNat)]

/-- A file: its name, its data. -/
abbrev Fil : Type := ByteArray × ByteArray
instance : Inhabited Fil := ⟨(⟨#[]⟩, ⟨#[]⟩)⟩
def encF (x : Fil × Nat) : List Value := [.string x.1.1, .string x.1.2]
def cfF (x y : Fil) : Int := Lib.compareBytes x.1.data.toList y.1.data.toList
theorem swoF : SWO (ltOf cfF) where
  irrefl x := by unfold ltOf cfF; rw [cb_refl]; rfl
  trans x y z h1 h2 := by
    unfold ltOf cfF at *
    rw [decide_eq_true_eq] at *
    exact cb_trans _ _ _ h1 h2
  ntrans x y z h1 h2 := by
    unfold ltOf cfF at *
    rw [decide_eq_false_iff_not] at *
    exact cb_ntrans _ _ _ h1 h2

theorem enter64 : ∀ args w, (callFunc 64 args).run Tryd.prog w = .ok (.enter 64 args) w := by
  intro args w; exact enters_of Tryd.func64 (by kernel_rfl) rfl args w
set_option maxHeartbeats 400000 in
theorem before_any (n1 d1 n2 d2 : ByteArray) (w : World) :
    Calls Tryd.prog 64 #[.agg #[.string n1, .string d1], .agg #[.string n2, .string d2]] w fun e w' => e = .returned (.int .i64 (Lib.compareBytes n1.data.toList n2.data.toList)) ∧ ∃ o1 o2 : Obj, w' = (w.alloc o1).alloc o2 := by
  go_enter Tryd.func64, Tryd.ntmps64
  go_wp2_with (go_at_call 41; refine (Tryd.strings_Compare _ _ _).mono ?_; rintro e w' ⟨rfl, rfl⟩)
  go_ret
  exact ⟨rfl, _, _, rfl⟩
set_option maxHeartbeats 400000 in
theorem alike_any (n1 d1 n2 d2 : ByteArray) (w : World) :
    Calls Tryd.prog 66 #[.agg #[.string n1, .string d1], .agg #[.string n2, .string d2]] w fun e w' => e = .returned (.bool (n1.toList == n2.toList)) ∧ ∃ o1 o2 : Obj, w' = (w.alloc o1).alloc o2 := by
  go_enter Tryd.func66, Tryd.ntmps66
  go_wp2
  go_ret
  exact ⟨rfl, _, _, rfl⟩
theorem lays64 (blk off size : Nat) (w : World) : CmpLays Tryd.prog 64 #[] encF 2 (fun x y => cfF x.1 y.1) blk off size w := by
  intro m os dk _ x y
  refine Calls.mono (before_any x.1.1 x.1.2 y.1.1 y.1.2 _) ?_
  rintro e w' ⟨rfl, o1, o2, rfl⟩
  refine ⟨rfl, 0, #[o1] ++ #[o2], ?_⟩
  rw [alloc_eq_grow, alloc_eq_grow, grow_grow]; rfl
end Go.Proofs.YtcfhleenecfghaaDoor
