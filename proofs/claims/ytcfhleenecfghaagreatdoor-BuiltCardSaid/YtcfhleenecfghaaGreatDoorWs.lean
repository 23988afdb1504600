/- The one short manifest that each keeping statement begins with: it is printed. -/
import Derived.Test.YtcfhleenecfghaaGreatDoorWr
namespace Go.Proofs.YtcfhleenecfghaaGreatDoor
open Go.RowKit

theorem eqnil75 (a : Addr) (n c : Nat) (w : World) : (binOp .eql 99 (.slice (some a) n c) (.slice none 0 0)).run Tryz.prog w = .ok (.bool false) w := by kernel_rfl
theorem build75 (w : World) : (Instr.buildSlice 99 0 #[]).run Tryz.prog w = .ok (.slice (some ⟨w.heap.size, 0, none⟩) 0 0) (w.alloc (.cells #[] 179)) := by kernel_rfl

set_option maxHeartbeats 800000 in
set_option maxRecDepth 100000 in
theorem clone_a (lg lc : Nat) (w : World) (h0 : w.cell? ⟨lg, 0, none⟩ = some (.iface 123 (.agg #[.string sA]))) :
    Calls Tryz.prog 96 #[.slice (some ⟨lg, 0, none⟩) 1 lc] w fun e w' => ∃ cg cc, e = .returned (.slice (some ⟨cg, 0, none⟩) 1 cc) ∧ w'.cell? ⟨cg, 0, none⟩ = some (.iface 123 (.agg #[.string sA])) ∧ Below w.heap.size w w' := by
  obtain ⟨i0, hi, hz0, hz1, hz2⟩ := info_parts info109
  have hlt : lg < w.heap.size := World.block_lt_of_cell? (h := h0)
  have hnil := eqnil75
  have hown : (w.alloc (.cells #[] 179)).ownsRow w.heap.size 179 1 (.slice (some ⟨w.heap.size, 0, none⟩) 0 0) 0 [] :=
    ⟨rfl, Or.inr ⟨w.heap.size, 0, #[], rfl, Nat.le_refl _, heap_alloc_new w _, by omega, by unfold maxLen; omega, rfl, rfl⟩⟩
  have hbs := build75
  go_enter Tryz.func96, Tryz.ntmps96
  go_wp2_with (at_builtin; refine wpList_append_own _ rfl _ _ 99 rfl w.heap.size 179 i0 .nilIface 1 16 Tryz.underlying99 hi hz0 hz1 hz2 rfl (by decide) _ _ _ rfl hown ⟨lg, 0, none⟩ 1 lc [.iface 123 (.agg #[.string sA])] rfl rfl ?c1 ?c2 ?c3 ?c4 ?c5 ?_)
  case c1 =>
    intro j u hj
    match j, hj with
    | 0, hj => simp at hj; subst hj; exact keepA h0 _
  case c2 => intro u hu; simp at hu; subst hu; rfl
  case c3 => unfold maxLen; omega
  case c4 => omega
  case c5 => simp
  intro v' w2 hown' hgrow _
  have hb2 : Below w.heap.size w w2 := ((Below.refl _ w).alloc (Nat.le_refl _) _).grown hgrow (by simp) (fun k hk => by simp [Value.ownBlock] at hk; omega)
  obtain ⟨cg, cc, hv⟩ : ∃ cg cc, v' = .slice (some ⟨cg, 0, none⟩) 1 cc := by
    rcases hown'.2 with ⟨_, h0⟩ | ⟨cg, cc, cur, hv, _⟩
    · omega
    · exact ⟨cg, cc, hv⟩
  subst hv
  have hcs := hown'.cells (g := cg) rfl
  have t0 : w2.cell? ⟨cg, 0, none⟩ = some (.iface 123 (.agg #[.string sA])) := by simpa [Addr.add] using hcs 0 _ rfl
  have HT0 := hide t0
  clear hcs hown' hgrow t0
  go_wp2
  go_ret
  exact ⟨cg, cc, rfl, HT0.out, hb2⟩

set_option maxHeartbeats 800000 in
set_option maxRecDepth 100000 in
theorem insertion_one (v f : Value) (w : World) :
    Calls Tryz.prog 256 #[v, .int .i64 0, .int .i64 1, f] w fun e w' => e = .returned (.tuple #[]) ∧ w' = w := by
  go_enter Tryz.func256, Tryz.ntmps256
  go_wp2
  refine wp_loop_rounds 1 ?_
  rw [rounds_succ]
  go_wp2
  go_end0
  exact ⟨rfl, rfl⟩

set_option maxHeartbeats 1600000 in
set_option maxRecDepth 100000 in
theorem pdq_one (v f : Value) (n : Int) (w : World) :
    Calls Tryz.prog 181 #[v, .int .i64 0, .int .i64 1, .int .i64 n, f] w fun e w' => e = .returned (.tuple #[]) ∧ w' = w := by
  go_enter Tryz.func181, Tryz.ntmps181
  go_wp2
  refine wp_loop_rounds 1 ?_
  rw [rounds_succ]
  go_wp2_with fail
  refine (insertion_one v f _).mono ?_
  rintro e w1 ⟨rfl, rfl⟩
  go_wp2
  exact bodyPost_ret (v := .tuple #[]) (by simp [results, Tryz.results181, go_sem]) rfl ⟨rfl, rfl⟩

set_option maxHeartbeats 800000 in
set_option maxRecDepth 100000 in
theorem sort_one (cg cc : Nat) (f : Value) (w : World) :
    Calls Tryz.prog 97 #[.slice (some ⟨cg, 0, none⟩) 1 cc, f] w fun e w' => e = .returned (.tuple #[]) ∧ w' = w := by
  go_enter Tryz.func97, Tryz.ntmps97
  go_wp2_with fail
  refine (Tryz.bits_Len 1 _ (by omega) (by omega)).mono ?_
  rintro e w1 ⟨rfl, rfl⟩
  go_wp2_with fail
  refine (pdq_one _ _ _ _).mono ?_
  rintro e w1 ⟨rfl, rfl⟩
  go_wp2
  go_end0
  exact ⟨rfl, rfl⟩

def sOut : ByteArray := ⟨#[109, 111, 100, 117, 108, 101, 32, 97]⟩
set_option maxHeartbeats 800000 in
set_option maxRecDepth 100000 in
theorem text_a (w : World) : Calls Tryz.prog 472 #[.agg #[.string sA]] w fun e w' => e = .returned (.string sOut) ∧ Below w.heap.size w w' := by
  have hcat : ∀ wx : World, (Op.stringOp .add ⟨#[109, 111, 100, 117, 108, 101, 32]⟩ sA).run Tryz.prog wx = .ok (.string sOut) wx := by
    intro wx
    exact run_string_add_sum (P := Tryz.prog) wx ⟨#[109, 111, 100, 117, 108, 101, 32]⟩ sA (by decide)
  go_enter Tryz.func472, Tryz.ntmps472
  go_wp2
  go_ret
  exact ⟨rfl, (Below.refl _ _).alloc (Nat.le_refl _) _⟩

theorem out_cells : Lib.strCells sOut ++ [.int .u8 10] = Lib.byteCells [109, 111, 100, 117, 108, 101, 32, 97, 10] := by kernel_rfl
theorem method_text (s : ByteArray) (w : World) : (method 654 123 (.agg #[.string s]) "Text").run Tryz.prog w = .ok (472, .agg #[.string s]) w := by kernel_rfl

set_option maxHeartbeats 1600000 in
set_option maxRecDepth 100000 in
theorem oneForm_a (lg lc : Nat) (w : World) (h0 : w.cell? ⟨lg, 0, none⟩ = some (.iface 123 (.agg #[.string sA]))) :
    Calls Tryz.prog 46 #[.slice (some ⟨lg, 0, none⟩) 1 lc] w fun e w' => e = .returned (.string ⟨#[109, 111, 100, 117, 108, 101, 32, 97, 10]⟩) ∧ Below w.heap.size w w' := by
  have hmt := method_text
  go_enter Tryz.func46, Tryz.ntmps46
  go_wp2_with fail
  refine (clone_a lg lc _ h0).mono ?_
  rintro e w1 ⟨cg, cc, rfl, t0, hb1⟩
  have HB1 := hide hb1
  have hz1 := hb1.size
  clear hb1
  go_wp2_with fail
  refine (sort_one cg cc _ _).mono ?_
  rintro e w2 ⟨rfl, rfl⟩
  have hbld : Lib.IsBuilder 190 5 w2.heap.size w2.heap.size [] (w2.alloc (.cells #[.pointer none, .slice none 0 0] 190)) :=
    Or.inl ⟨Nat.le_refl _, .slice none 0 0, heap_alloc_new w2 _, ⟨rfl, Or.inl ⟨rfl, rfl⟩⟩, by simp [Value.ownBlock]⟩
  have k0 := keepA t0 (.cells #[.pointer none, .slice none 0 0] 190)
  have HBL := hide hbld
  clear hbld
  go_wp2
  go_loopw [13] (fun i wr => (i = .int .i64 0 ∧ wr = w2.alloc (.cells #[.pointer none, .slice none 0 0] 190)) ∨ (i = .int .i64 1 ∧ Lib.BuilderAt 190 5 w2.heap.size w2.heap.size (.pointer (some ⟨w2.heap.size, 0, none⟩)) (Lib.strCells sOut ++ [.int .u8 10]) wr ∧ Below w2.heap.size w2 wr)) (fun i _ => 1 - (intOf i).toNat)
  case atStart => exact Or.inl ⟨rfl, rfl⟩
  case round =>
    rcases hrel with ⟨rfl, hwr⟩ | ⟨rfl, hbd, hb⟩
    · subst hwr
      go_wp2_with fail
      refine (text_a _).mono ?_
      rintro e w3 ⟨rfl, hb3⟩
      have hbl3 : Lib.IsBuilder 190 5 w2.heap.size w2.heap.size [] w3 := by
        refine Or.inl ⟨Nat.le_refl _, .slice none 0 0, ?_, ⟨rfl, Or.inl ⟨rfl, rfl⟩⟩, by simp [Value.ownBlock]⟩
        rw [hb3.block w2.heap.size (by simp)]; exact heap_alloc_new w2 _
      have HB3 := hide (((Below.refl _ w2).alloc (Nat.le_refl _) _).trans (hb3.mono (by simp)))
      have HL3 := hide hbl3
      clear hb3 hbl3
      go_wp2_with fail
      refine (writeString_any w2.heap.size w2.heap.size [] sOut _ HL3.out (by decide) HB3.out.size).mono ?_
      rintro e w4 ⟨rfl, hbd4, hb4⟩
      have HD4 := hide hbd4
      have HB4 := hide (HB3.out.trans hb4)
      clear hbd4 hb4
      go_wp2_with fail
      refine (writeByte_any w2.heap.size w2.heap.size ([] ++ Lib.strCells sOut) 10 _ (Or.inr HD4.out) (by decide) HB4.out.size).mono ?_
      rintro e w5 ⟨rfl, hbd5, hb5⟩
      have HD5 := hide hbd5
      have HB5 := hide (HB4.out.trans hb5)
      clear hbd5 hb5
      go_wp2
      first
        | exact ⟨Or.inr ⟨rfl, HD5.out, HB5.out⟩, by simp [intOf]⟩
        | (go_roundw
           case rel => exact Or.inr ⟨rfl, HD5.out, HB5.out⟩
           case measure => simp [intOf])
    · go_wp2_with fail
      refine (Tryz.Builder_String w2.heap.size w2.heap.size [109, 111, 100, 117, 108, 101, 32, 97, 10] _ (by rw [← out_cells]; exact Or.inr hbd) (by simp)).mono ?_
      rintro e w5 ⟨rfl, hb5⟩
      have HB5 := hide (HB1.out.trans ((hb.trans hb5).mono hz1))
      clear hb5
      go_wp2
      go_ret
      exact ⟨rfl, HB5.out⟩

set_option maxHeartbeats 800000 in
set_option maxRecDepth 100000 in
theorem print_ma (m : Int) (w : World) (hm : w.cell? ⟨0, 0, none⟩ = some (.int .i64 m)) :
    Calls Tryz.prog 17 #[.string ⟨#[109, 111, 100, 117, 108, 101, 32, 97]⟩] w fun e w' => e = .returned (.tuple #[.string ⟨#[109, 111, 100, 117, 108, 101, 32, 97, 10]⟩, .nilIface]) ∧ Below w.heap.size w w' := by
  go_enter Tryz.func17, Tryz.ntmps17
  go_wp2_with fail
  refine (read_ma m _ hm).mono ?_
  rintro e w1 ⟨lg, lc, rfl, t0, hb1⟩
  have HB1 := hide hb1
  have HT0 := hide t0
  clear t0 hb1
  go_wp2_with fail
  refine (oneForm_a lg lc _ HT0.out).mono ?_
  rintro e w2 ⟨rfl, hb2⟩
  have HB2 := hide (HB1.out.trans (hb2.mono HB1.out.size))
  clear hb2
  go_wp2
  go_ret2
  exact ⟨rfl, HB2.out⟩

theorem vrc : V.ver (ByteArray.mk #[118, 49, 46, 48, 46, 48, 45, 114, 99]).data.toList = true := by decide
theorem vone : V.ver (ByteArray.mk #[118, 49, 46, 48, 46, 48]).data.toList = true := by decide
theorem vrcless : V.order (ByteArray.mk #[118, 49, 46, 48, 46, 48, 45, 114, 99]).data.toList (ByteArray.mk #[118, 49, 46, 48, 46, 48]).data.toList = -1 := by decide

set_option maxHeartbeats 800000 in
set_option maxRecDepth 100000 in
theorem begin_any (m : Int) (w : World) (hm : w.cell? ⟨0, 0, none⟩ = some (.int .i64 m)) :
    Calls Tryz.prog 13 #[] w fun e w' => e = .returned (.bool true) ∧ Below w.heap.size w w' := by
  go_enter Tryz.func13, Tryz.ntmps13
  go_wp2_with fail
  refine (tcompare_yes (ByteArray.mk #[118, 49, 46, 48, 46, 48, 45, 114, 99]) (ByteArray.mk #[118, 49, 46, 48, 46, 48]) m _ hm vrc vone).mono ?_
  rintro e w1 ⟨rfl, hb1⟩
  rw [vrcless]
  have HB1 := hide hb1
  have hm1 := keep hb1 hm
  clear hb1
  go_wp2_with fail
  refine (print_ma m _ hm1).mono ?_
  rintro e w2 ⟨rfl, hb2⟩
  have HB2 := hide (HB1.out.trans (hb2.mono HB1.out.size))
  clear hb2
  go_wp2
  go_ret
  exact ⟨rfl, HB2.out⟩

end Go.Proofs.YtcfhleenecfghaaGreatDoor
