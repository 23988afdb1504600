/- Lines of a manifest are written in the one form; what Print answers at any text. -/
import Derived.Test.YtcfhleenecfghaaGreatDoorYd
import Derived.Test.YtcfhleenecfghaaGreatDoorWm
namespace Go.Proofs.YtcfhleenecfghaaGreatDoor
open Go.RowKit

theorem strCells_bytes (l : List UInt8) : Lib.strCells ⟨l.toArray⟩ = Lib.byteCells l := by
  unfold Lib.strCells Lib.byteCells
  simp
theorem byteCells_app (a b : List UInt8) : Lib.byteCells a ++ Lib.byteCells b = Lib.byteCells (a ++ b) := by
  unfold Lib.byteCells
  rw [List.map_append]
theorem byteCells_len (a : List UInt8) : (Lib.byteCells a).length = a.length := by
  unfold Lib.byteCells
  rw [List.length_map]
theorem byteCells_end : [Value.int .u8 10] = Lib.byteCells [10] := rfl
theorem textOf_snoc (R : List (Nat × List ByteArray)) (k : Nat) (h : k < R.length) : V.textOf (R.take (k + 1)) = V.textOf (R.take k) ++ (V.lineB R[k].1 R[k].2 ++ [10]) := by
  unfold V.textOf
  rw [List.take_succ_eq_append_getElem h, List.flatMap_append]
  simp
theorem enter_text {t : Nat} {fs : List ByteArray} (h : V.Valid t fs) (args : Array Value) (w : World) : (callFunc (textFn t) args).run Tryz.prog w = .ok (.enter (textFn t) args) w := by
  rcases V.valid_cases h with ⟨rfl, _⟩ | ⟨rfl, _⟩ | ⟨rfl, _⟩ | ⟨rfl, _⟩
  · exact enters_of Tryz.func472 (by kernel_rfl) rfl args w
  · exact enters_of Tryz.func474 (by kernel_rfl) rfl args w
  · exact enters_of Tryz.func475 (by kernel_rfl) rfl args w
  · exact enters_of Tryz.func476 (by kernel_rfl) rfl args w

theorem builder_later {T e B b : Nat} {bs : List Value} {w w' : World} (h : Lib.IsBuilder T e B b bs w) (hb : Below w.heap.size w w') : Lib.IsBuilder T e B b bs w' := by
  have key : ∀ p, Lib.BuilderAt T e B b p bs w → Lib.BuilderAt T e B b p bs w' := by
    rintro p ⟨h1, v, h2, h3, h4⟩
    have hlt : b < w.heap.size := by
      rcases Nat.lt_or_ge b w.heap.size with h' | h'
      · exact h'
      · rw [Array.getElem?_eq_none h'] at h2; cases h2
    refine ⟨h1, v, by rw [hb.block b hlt]; exact h2, ?_, h4⟩
    refine h3.kept (row := none) ⟨hb.os, hb.tape, hb.output, hb.size, fun k hk _ => hb.block k hk⟩ ?_
    cases v.ownBlock with
    | none => exact Or.inl rfl
    | some x => exact Or.inr (by simp)
  rcases h with h | h
  · exact Or.inl (key _ h)
  · exact Or.inr (key _ h)

set_option maxHeartbeats 1600000 in
set_option maxRecDepth 100000 in
theorem oneForm_any (B lg lc : Nat) (m : Int) (L : List (Nat × List ByteArray)) (w : World) (hl : L.length ≤ 100000000000) (hne : L ≠ []) (hv : ∀ x ∈ L, V.Valid x.1 x.2) (hown : w.ownsRow B 179 1 (.slice (some ⟨lg, 0, none⟩) L.length lc) L.length (L.map lineV)) (hm : w.cell? ⟨0, 0, none⟩ = some (.int .i64 m)) :
    Calls Tryz.prog 46 #[.slice (some ⟨lg, 0, none⟩) L.length lc] w fun e w' => ∃ R, R.Perm L ∧ V.InOrder R ∧ e = .returned (.string ⟨(V.textOf R).toArray⟩) ∧ Below w.heap.size w w' := by
  go_enter Tryz.func46, Tryz.ntmps46
  go_wp2_with fail
  refine (cloneLines_any B lg lc L _ (by omega) hne hown).mono ?_
  rintro e w1 ⟨cg, cc, rfl, hown1, hb1⟩
  have HO1 := hide hown1
  have HB1 := hide hb1
  have hm1 := keep hb1 hm
  have h0 := pos_of_cell hm
  clear hown1 hb1 hown
  go_wp2_with fail
  refine (sortLines_any w.heap.size cg cc m L _ (by omega) hv h0 HO1.out hm1).mono ?_
  rintro e w2 ⟨rfl, R, hperm, hord, hcells, hb2⟩
  have HP := hide hperm
  have HR := hide hord
  have HC := hide hcells
  have HB2 := hide (HB1.out.trans hb2)
  have hlen : L.length = R.length := hperm.length_eq.symm
  have HV : Hid (∀ x ∈ R, V.Valid x.1 x.2) := hide fun x hx => hv x (hperm.mem_iff.1 hx)
  have HT : Hid (∀ k, (V.textOf (R.take k)).length ≤ 36700000000000) := by
    refine hide fun k => ?_
    have h1 := V.text_short (R.take k) (fun x hx => HV.out x (List.mem_of_mem_take hx))
    have h2 : (R.take k).length ≤ R.length := by rw [List.length_take]; omega
    omega
  have hne' : R ≠ [] := by
    intro e; rw [e] at hlen; exact hne (List.length_eq_zero_iff.1 hlen)
  have hz2 : w.heap.size ≤ w2.heap.size := HB2.out.size
  clear hperm hord hcells hb2 hv
  rw [hlen] at hl ⊢
  have hbld : Lib.IsBuilder 190 5 w2.heap.size w2.heap.size [] (w2.alloc (.cells #[.pointer none, .slice none 0 0] 190)) :=
    Or.inl ⟨Nat.le_refl _, .slice none 0 0, heap_alloc_new w2 _, ⟨rfl, Or.inl ⟨rfl, rfl⟩⟩, by simp [Value.ownBlock]⟩
  have HBL := hide hbld
  clear hbld hlen
  go_wp2
  go_loopw [13] (fun i wr => ∃ k : Nat, k ≤ R.length ∧ i = .int .i64 k ∧ Hid (Lib.IsBuilder 190 5 w2.heap.size w2.heap.size (Lib.byteCells (V.textOf (R.take k))) wr ∧ Below w2.heap.size w2 wr)) (fun i _ => R.length - (intOf i).toNat)
  case atStart => exact ⟨0, by omega, rfl, hide ⟨HBL.out, (Below.refl _ _).alloc (Nat.le_refl _) _⟩⟩
  case round =>
    obtain ⟨k, hk, rfl, H⟩ := hrel
    obtain ⟨hbd, hb⟩ := H.out
    have HD := hide hbd
    have HB := hide hb
    clear H hbd hb
    by_cases hlt : k < R.length
    · have c0 := keep HB.out (HC.out k hlt)
      have HS := hide (textOf_snoc R k hlt)
      have hval := HV.out R[k] (List.getElem_mem hlt)
      have htk := HT.out k
      have htk1 := HT.out (k + 1)
      rw [HS.out, List.length_append, List.length_append] at htk1
      have hwr : w2.heap.size ≤ wr.heap.size := HB.out.size
      generalize R[k] = x at c0 HS hval htk1
      obtain ⟨t, fs⟩ := x
      rw [lineV] at c0
      simp only at c0 HS hval htk1
      have hmt := @method_any t fs hval
      have hen := @enter_text t fs hval
      have htx := @text_any t fs hval
      have HLT : Hid (Lib.strCells (lineT (t, fs)) = Lib.byteCells (V.lineB t fs)) := hide (strCells_bytes _)
      have hsz : (lineT (t, fs)).size = (V.lineB t fs).length := by show (V.lineB t fs).toArray.size = _; rw [List.size_toArray]
      generalize lineT (t, fs) = tx at htx HLT hsz
      generalize textFn t = fn at hmt hen htx
      clear hval
      go_wp2_with fail
      refine (htx _).mono ?_
      rintro e w3 ⟨rfl, hb3⟩
      have hbl3 : Lib.IsBuilder 190 5 w2.heap.size w2.heap.size (Lib.byteCells (V.textOf (R.take k))) w3 := builder_later HD.out hb3
      have HB3 := hide (HB.out.trans (hb3.mono hwr))
      have HL3 := hide hbl3
      clear hb3 hbl3
      go_wp2_with fail
      refine (writeString_any w2.heap.size w2.heap.size _ tx _ HL3.out (by rw [byteCells_len]; omega) HB3.out.size).mono ?_
      rintro e w4 ⟨rfl, hbd4, hb4⟩
      have HD4 := hide hbd4
      have HB4 := hide (HB3.out.trans hb4)
      clear hbd4 hb4
      go_wp2_with fail
      refine (writeByte_any w2.heap.size w2.heap.size _ 10 _ (Or.inr HD4.out) (by rw [List.length_append, byteCells_len, HLT.out, byteCells_len]; omega) HB4.out.size).mono ?_
      rintro e w5 ⟨rfl, hbd5, hb5⟩
      have R5 : Hid (Lib.IsBuilder 190 5 w2.heap.size w2.heap.size (Lib.byteCells (V.textOf (R.take (k + 1)))) w5 ∧ Below w2.heap.size w2 w5) := by
        refine hide ⟨Or.inr ?_, HB4.out.trans hb5⟩
        rw [HS.out, ← byteCells_app, ← byteCells_app, ← byteCells_end, ← HLT.out, ← List.append_assoc]
        exact hbd5
      clear hbd5 hb5
      go_wp2
      first
        | exact ⟨⟨k + 1, by omega, by go_num, R5⟩, by simp [intOf]; omega⟩
        | (go_roundw
           case rel => exact ⟨k + 1, by omega, by go_num, R5⟩
           case measure => simp [intOf]; omega)
    · have hke : k = R.length := by omega
      subst hke
      rw [List.take_length] at HD
      have HNE : Hid (V.textOf R ≠ []) := by
        refine hide ?_
        cases R with
        | nil => exact absurd rfl hne'
        | cons x xs => unfold V.textOf; simp
      go_wp2_with fail
      refine (Tryz.Builder_String w2.heap.size w2.heap.size (V.textOf R) _ HD.out HNE.out).mono ?_
      rintro e w5 ⟨rfl, hb5⟩
      have HB5 := hide (HB2.out.trans ((HB.out.trans hb5).mono hz2))
      clear hb5
      go_wp2
      go_ret
      exact ⟨R, HP.out, HR.out, rfl, HB5.out⟩

theorem lineCells_map (l : List (Nat × Nat × List ByteArray)) : lineCells l = (l.map (·.2)).map lineV := by
  unfold lineCells; rw [List.map_map]; rfl

/-- What Print answers. -/
def PrintSays (s : ByteArray) (e : Ending) : Prop :=
  (V.good s ∧ ∃ R, R.Perm ((V.parse s).1.map (·.2)) ∧ V.InOrder R ∧ e = .returned (.tuple #[.string ⟨(V.textOf R).toArray⟩, .nilIface])) ∨
    (¬ V.good s ∧ ∃ b, e = .returned (.tuple #[.string ⟨#[]⟩, .iface 96 (.pointer (some ⟨b, 0, none⟩))]))

set_option maxHeartbeats 1600000 in
set_option maxRecDepth 100000 in
theorem print_any (s : ByteArray) (m : Int) (w : World) (hs : s.size ≤ 1073741824) (hm : w.cell? ⟨0, 0, none⟩ = some (.int .i64 m)) :
    Calls Tryz.prog 17 #[.string s] w fun e w' => PrintSays s e ∧ Below w.heap.size w w' := by
  have HU : Hid (∀ e, PrintSays s e = ((V.good s ∧ ∃ R, R.Perm ((V.parse s).1.map (·.2)) ∧ V.InOrder R ∧ e = .returned (.tuple #[.string ⟨(V.textOf R).toArray⟩, .nilIface])) ∨ (¬ V.good s ∧ ∃ b, e = .returned (.tuple #[.string ⟨#[]⟩, .iface 96 (.pointer (some ⟨b, 0, none⟩))])))) := hide fun _ => rfl
  go_enter Tryz.func17, Tryz.ntmps17
  go_wp2_with fail
  refine (read_any s m _ hs hm).mono ?_
  rintro e w1 ⟨hsays, hb1⟩
  have HB1 := hide hb1
  have hm1 := keep hb1 hm
  clear hb1
  rcases hsays with ⟨hg, v, rfl, hown⟩ | ⟨hg, b, rfl⟩
  · have hw := V.parse_whole hg.1 hg.2
    have hcnt := V.parse_count s
    have HG := hide hg
    have HV := hide hw.valid
    have hne : (V.parse s).1.map (·.2) ≠ [] := by
      obtain ⟨p, r, e, _⟩ := hw.first
      rw [e]; exact List.cons_ne_nil _ _
    have hlen : (V.parse s).1.length = ((V.parse s).1.map (·.2)).length := (List.length_map ..).symm
    rw [lineCells_map, hlen] at hown
    rw [hlen] at hcnt
    clear hw hg hlen
    have HL : Hid (∃ L, L = (V.parse s).1.map (·.2)) := hide ⟨_, rfl⟩
    obtain ⟨L, hL⟩ := HL.out
    rw [← hL] at hown hcnt hne HV
    have HLE := hide hL
    clear hL HL
    obtain ⟨lg, lc, rfl⟩ : ∃ lg lc, v = .slice (some ⟨lg, 0, none⟩) L.length lc := by
      rcases hown.2 with ⟨_, h⟩ | ⟨lg, lc, cur, h, _⟩
      · exact absurd (List.length_eq_zero_iff.1 h) hne
      · exact ⟨lg, lc, h⟩
    have HO := hide hown
    clear hown
    go_wp2_with fail
    refine (oneForm_any w.heap.size lg lc m L _ (by omega) hne HV.out HO.out hm1).mono ?_
    rintro e w2 ⟨R, hp, hr, rfl, hb2⟩
    have HP := hide hp
    have HR := hide hr
    have HB2 := hide (HB1.out.trans (hb2.mono HB1.out.size))
    clear hp hr hb2
    go_wp2
    go_ret2
    refine ⟨?_, HB2.out⟩
    rw [HU.out]
    exact Or.inl ⟨HG.out, R, by rw [← HLE.out]; exact HP.out, HR.out, rfl⟩
  · have HG := hide hg
    clear hg
    go_wp2
    go_ret2
    refine ⟨?_, HB1.out⟩
    rw [HU.out]
    exact Or.inr ⟨HG.out, b, rfl⟩

end Go.Proofs.YtcfhleenecfghaaGreatDoor
