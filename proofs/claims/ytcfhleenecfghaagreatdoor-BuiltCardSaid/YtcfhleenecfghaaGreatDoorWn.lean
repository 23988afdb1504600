/- The one short manifest that each keeping statement begins with: its tokens. -/
import Derived.Test.YtcfhleenecfghaaGreatDoorWm
namespace Go.Proofs.YtcfhleenecfghaaGreatDoor
open Go.RowKit

def sMa : ByteArray := ⟨#[109, 111, 100, 117, 108, 101, 32, 97]⟩
def sMod : ByteArray := ⟨#[109, 111, 100, 117, 108, 101]⟩
def sA : ByteArray := ⟨#[97]⟩
def blankP (x : Nat) : Bool := x == 32 || x == 9

set_option maxHeartbeats 400000 in
theorem isBlank_any (x : Nat) (w : World) : Calls Tryz.prog 252 #[.int .i32 (x : Int)] w fun e w' => e = .returned (.bool (blankP x)) ∧ w' = w := by
  cases h1 : ((x : Int) == 32) <;> cases h2 : ((x : Int) == 9)
  all_goals
    have HB : Hid (blankP x = (((x : Int) == 32) || ((x : Int) == 9))) := by
      refine hide ?_
      unfold blankP
      rw [Bool.eq_iff_iff]; simp; omega
    go_enter Tryz.func252, Tryz.ntmps252
    go_wp2
    go_ret
    exact ⟨ret_bool (by rw [HB.out, h1, h2]; rfl), rfl⟩

theorem fields_ma : Lib.goFieldsP blankP sMa = [sMod, sA] := by decide +kernel
theorem blank_pred (w : World) : PredAtRunes Tryz.prog 252 #[] blankP w := by
  intro W x _ _
  refine (isBlank_any x W).mono ?_
  rintro e w' ⟨rfl, rfl⟩
  exact ⟨rfl, 0, rfl⟩
theorem enter102 : ∀ args w, (callFunc 252 args).run Tryz.prog w = .ok (.enter 252 args) w := by
  intro args w; exact enters_of Tryz.func252 (by kernel_rfl) rfl args w

theorem cut_ma : (⟨(Lib.cut sMa.data.toList [47, 47]).1.toArray⟩ : ByteArray) = sMa ∧ (⟨(Lib.cut sMa.data.toList [47, 47]).2.1.toArray⟩ : ByteArray) = ⟨#[]⟩ ∧ (Lib.cut sMa.data.toList [47, 47]).2.2 = false := by decide +kernel
theorem cutMa_any (m : Int) (w : World) (hm : w.cell? ⟨0, 0, none⟩ = some (.int .i64 m)) :
    Calls Tryz.prog 118 #[.string sMa, .string ⟨#[47, 47]⟩] w fun e w' => e = .returned (.tuple #[.string sMa, .string ⟨#[]⟩, .bool false]) ∧ Below w.heap.size w w' := by
  refine (Tryz.strings_Cut sMa ⟨#[47, 47]⟩ m w (by decide) hm).mono ?_
  rintro e w' ⟨rfl, n, rfl⟩
  refine ⟨?_, below_drewN (Below.refl _ _) n⟩
  rw [show (ByteArray.mk #[47, 47]).data.toList = [47, 47] from rfl, cut_ma.1, cut_ma.2.1, cut_ma.2.2]
theorem fieldsMa_any (w : World) :
    Calls Tryz.prog 251 #[.string sMa, .func (.func 252) #[] #[]] w fun e w' => ∃ A, e = .returned (.slice (some ⟨A, 0, none⟩) 2 2) ∧ w'.cell? ⟨A, 0, none⟩ = some (.string sMod) ∧ w'.cell? ⟨A, 1, none⟩ = some (.string sA) ∧ Below w.heap.size w w' := by
  refine (Tryz.strings_FieldsFunc_runes 252 #[] enter102 blankP sMa w (by decide) (blank_pred w)).mono ?_
  rintro e w' ⟨A, rfl, hA, hown, hb⟩
  rw [fields_ma] at hown ⊢
  have hc := hown.cells (g := A) rfl
  exact ⟨A, rfl, by simpa [Addr.add] using hc 0 (.string sMod) rfl, by simpa [Addr.add] using hc 1 (.string sA) rfl, hb⟩

theorem info181 : (Tryz.prog.info? 371).map (fun i => (i.zero, i.size, i.bytes)) = some (some (.agg #[.int .i64 0, .string ByteArray.empty]), 2, 24) := by kernel_rfl
theorem kind_mod : (sMod.toList == [40]) = false ∧ (sMod.toList == [41]) = false ∧ (sMod.toList == [61, 62]) = false := by decide +kernel
theorem kind_a : (sA.toList == [40]) = false ∧ (sA.toList == [41]) = false ∧ (sA.toList == [61, 62]) = false := by decide +kernel

set_option maxHeartbeats 1600000 in
set_option maxRecDepth 100000 in
theorem tokensMa_any (m : Int) (w : World) (hm : w.cell? ⟨0, 0, none⟩ = some (.int .i64 m)) :
    Calls Tryz.prog 178 #[.string sMa] w fun e w' => ∃ v, e = .returned v ∧ w'.ownsRow w.heap.size 371 2 v 2 [.int .i64 0, .string sMod, .int .i64 0, .string sA] ∧ Below w.heap.size w w' := by
  obtain ⟨i0, hi, hz0, hz1, hz2⟩ := info_parts info181
  obtain ⟨km1, km2, km3⟩ := kind_mod
  obtain ⟨ka1, ka2, ka3⟩ := kind_a
  go_enter Tryz.func178, Tryz.ntmps178
  go_wp2_with fail
  refine (cutMa_any m _ hm).mono ?_
  rintro e w1 ⟨rfl, hb1⟩
  have HB1 := hide hb1
  clear hb1
  go_wp2_with fail
  refine (fieldsMa_any _).mono ?_
  rintro e w2 ⟨A, rfl, hA0, hA1, hb2⟩
  have HB2 := hide (HB1.out.trans (hb2.mono HB1.out.size))
  clear hb2 HB1
  have hsz2 := HB2.out.size
  go_wp2
  go_loopw [6, 18] (fun v i wr => ∃ k : Nat, k ≤ 2 ∧ i = .int .i64 k ∧ wr.ownsRow w2.heap.size 371 2 v k (([.int .i64 0, .string sMod, .int .i64 0, .string sA] : List Value).take (2 * k)) ∧ Below w2.heap.size w2 wr) (fun _ i _ => 2 - (intOf i).toNat)
  case atStart => exact ⟨0, by omega, rfl, ⟨rfl, Or.inl ⟨rfl, rfl⟩⟩, Below.refl _ _⟩
  case round =>
    obtain ⟨k, hk, rfl, hown, hbr⟩ := hrel
    have hsz : w2.heap.size ≤ wr.heap.size := hbr.size
    have hA0' := keep hbr hA0
    have hA1' := keep hbr hA1
    match k, hk, hown with
    | 0, _, hown =>
      go_wp2_with (first | (at_builtin; refine wpList_append_own _ rfl _ _ 297 rfl w2.heap.size 371 i0 (.agg #[.int .i64 0, .string ByteArray.empty]) 2 24 Tryz.underlying297 hi hz0 hz1 hz2 rfl (by decide) _ _ _ rfl (hown.alloc _) ⟨wr.heap.size, 0, none⟩ 1 1 [.int .i64 0, .string sMod] rfl rfl ?c1A ?c2A ?c3A ?c4A ?c5A ?_) | go_in)
      case c1A =>
        intro j u hj
        match j, hj with
        | 0, hj => simp at hj; subst hj; simp [Addr.add]
        | 1, hj => simp at hj; subst hj; simp [Addr.add]
      case c2A => intro u hu; simp at hu; rcases hu with rfl | rfl <;> rfl
      case c3A => unfold maxLen; omega
      case c4A => omega
      case c5A => simp; omega
      intro v' w3 hown' hgrow _
      have hb3 : Below w2.heap.size w2 w3 := (hbr.alloc hsz _).grown hgrow (by simp; omega) (fun j hj => (hown.lt j hj).1)
      clear hgrow
      go_wp2
      go_roundw
      case rel => exact ⟨1, by omega, rfl, hown', hb3⟩
      case measure => simp [intOf]
    | 1, _, hown =>
      go_wp2_with (first | (at_builtin; refine wpList_append_own _ rfl _ _ 297 rfl w2.heap.size 371 i0 (.agg #[.int .i64 0, .string ByteArray.empty]) 2 24 Tryz.underlying297 hi hz0 hz1 hz2 rfl (by decide) _ _ _ rfl (hown.alloc _) ⟨wr.heap.size, 0, none⟩ 1 1 [.int .i64 0, .string sA] rfl rfl ?c1B ?c2B ?c3B ?c4B ?c5B ?_) | go_in)
      case c1B =>
        intro j u hj
        match j, hj with
        | 0, hj => simp at hj; subst hj; simp [Addr.add]
        | 1, hj => simp at hj; subst hj; simp [Addr.add]
      case c2B => intro u hu; simp at hu; rcases hu with rfl | rfl <;> rfl
      case c3B => unfold maxLen; omega
      case c4B => omega
      case c5B => simp; omega
      intro v' w3 hown' hgrow _
      have hb3 : Below w2.heap.size w2 w3 := (hbr.alloc hsz _).grown hgrow (by simp; omega) (fun j hj => (hown.lt j hj).1)
      clear hgrow
      go_wp2
      go_roundw
      case rel => exact ⟨2, by omega, rfl, hown', hb3⟩
      case measure => simp [intOf]
    | 2, _, hown =>
      go_wp2
      go_ret
      refine ⟨_, rfl, ⟨hown.1, ?_⟩, HB2.out.trans (hbr.mono hsz2)⟩
      rcases hown.2 with ⟨_, h0⟩ | ⟨g, cap, cur, e, hb, hr⟩
      · omega
      · exact Or.inr ⟨g, cap, cur, e, by omega, hr⟩

end Go.Proofs.YtcfhleenecfghaaGreatDoor
