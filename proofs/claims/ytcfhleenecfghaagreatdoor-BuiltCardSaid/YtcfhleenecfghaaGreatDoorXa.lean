/- Any text is parsed: the whole walk. -/
import Derived.Test.YtcfhleenecfghaaGreatDoorWz
namespace Go.Proofs.YtcfhleenecfghaaGreatDoor
open Go.RowKit

/-- How things stand ahead of a line. -/
def Parsing (pb : Nat) (lines : List ByteArray) (w1 : World) (k : Nat) (wr : World) : Prop :=
  ∃ (st blk : Int) (l : List (Nat × Nat × List ByteArray)), V.Stands st blk ∧ (∀ x ∈ l, V.Sound x) ∧ l.length ≤ k ∧ ParserAt wr pb (pb + 2) st blk l ∧ Beyond pb (pb + 2) w1 wr ∧ V.parseGo 0 lines 0 0 [] = V.parseGo k (lines.drop k) st blk l

theorem drop_at (ls : List ByteArray) (k : Nat) (h : k < ls.length) : ls.drop k = ls.getD k ByteArray.empty :: ls.drop (k + 1) := by
  rw [List.drop_eq_getElem_cons h, V.getD_at _ _ h]

set_option maxHeartbeats 3200000 in
set_option maxRecDepth 100000 in
theorem parse_any (s : ByteArray) (m : Int) (w : World) (hs : s.size < 4294967281) (hm : w.cell? ⟨0, 0, none⟩ = some (.int .i64 m)) :
    Calls Tryz.prog 92 #[.string s] w fun e w' => ∃ v, e = .returned (.tuple #[v, .int .i64 ((V.parse s).2 : Int)]) ∧ w'.ownsRow (w.heap.size + 2) 301 2 v (V.parse s).1.length (stmtCells (V.parse s).1) ∧ Below w.heap.size w w' := by
  have h0 := pos_of_cell hm
  have HS := hide (V.lines_size s)
  have HPS : Hid (V.parse s = V.parseGo 0 (V.lines s) 0 0 []) := hide rfl
  go_enter Tryz.func92, Tryz.ntmps92
  go_wp2_with fail
  refine (splitLines_any s m _ hs (keepA hm _)).mono ?_
  rintro e w1 ⟨rfl, hll, hcells, hsz, hb1⟩
  have hp1 : w1.heap[w.heap.size]? = some (.cells #[.int .i64 0, .int .i64 0, .slice none 0 0] 295 (0, 0)) := by
    rw [hb1.block w.heap.size (by simp)]; exact heap_alloc_new w _
  have hm1 := keep hb1 (keepA hm _)
  have hsz1 : w1.heap.size = w.heap.size + 2 := by rw [hsz]; simp
  have HM1 := hide hm1
  have HB1 := hide (((Below.refl _ w).alloc (Nat.le_refl _) _).trans (hb1.mono (by simp)))
  have HC : Hid (∀ j, j < (V.lines s).length → w1.cell? ⟨w.heap.size + 1, j, none⟩ = some (.string ((V.lines s).getD j ByteArray.empty))) := by
    refine hide (fun j hj => ?_)
    simpa using hcells j hj
  have HP1 : Hid (ParserAt w1 w.heap.size (w.heap.size + 2) 0 0 []) := hide ⟨by omega, by omega, _, hp1, World.ownsRow_nil _ _ _ _⟩
  have HSZ := hide hsz1
  clear hb1 hcells hsz hm1 hp1 hsz1
  generalize hL : V.lines s = L at hll HC HS HPS ⊢
  clear hL
  have hLL : L.length ≤ 5000000000 := by omega
  clear hll
  go_wp2
  go_loopw [12] (fun i wr => ∃ k : Nat, k ≤ L.length ∧ i = .int .i64 k ∧ Hid (Parsing w.heap.size L w1 k wr)) (fun i _ => L.length - (intOf i).toNat)
  case atStart => exact ⟨0, by omega, rfl, hide ⟨0, 0, [], ⟨Or.inl rfl, Or.inl rfl⟩, fun x hx => absurd hx (List.not_mem_nil), Nat.le_refl _, HP1.out, Beyond.refl _ _ _, by rw [List.drop_zero]⟩⟩
  case round =>
    obtain ⟨k, hk, rfl, H⟩ := hrel
    obtain ⟨st, blk, l, hst, hso, hlen, hpa, hbe, hgo⟩ := H.out
    have HST := hide hst
    have HSO := hide hso
    have HPA := hide hpa
    have HBE := hide hbe
    have HGO := hide hgo
    clear H hst hso hpa hbe hgo
    have hlen' : l.length ≤ 1000000000000 := by omega
    by_cases hlt : k < L.length
    · have c0 : wr.cell? ⟨w.heap.size + 1, k, none⟩ = some (.string (L.getD k ByteArray.empty)) := by
        rw [← HC.out k hlt]
        exact World.cell?_of_block (w := w1) (HBE.out.mid _ (by show w.heap.size < w.heap.size + 1; omega) (by show w.heap.size + 1 < w.heap.size + 2; omega))
      have HD := hide (drop_at L k hlt)
      have HZ : Hid ((L.getD k ByteArray.empty).size ≤ s.size) := hide (by
        rw [V.getD_at _ _ hlt]; exact HS.out _ (List.getElem_mem hlt))
      generalize L.getD k ByteArray.empty = line at c0 HD HZ
      have HMr : Hid (wr.cell? ⟨0, 0, none⟩ = some (.int .i64 m)) := by
        refine hide ?_
        rw [← HM1.out]
        exact HBE.out.below.cell (p := ⟨0, 0, none⟩) h0
      go_wp2_with fail
      refine (tokensOf_any line m wr (by have := HZ.out; omega) HMr.out).mono ?_
      rintro e w2 ⟨tv, ws, rfl, hws, hown, hb2⟩
      have hw := V.texts_of hws
      have HW : Hid (ws = V.toks line) := hide hw
      have HO := hide hown
      have HB2 := hide hb2
      clear hws hw hown hb2
      go_wp2_with fail
      have hwl : ws.length ≤ 100000000000 := by
        rw [HW.out]; have := V.toks_len line; have := HZ.out; omega
      have T := take_any (k + 1) st blk HST.out wr.heap.size w.heap.size (w.heap.size + 2) tv ws l w2 hwl hlen' HPA.out.lt HO.out (HPA.out.later HB2.out)
      rw [show ((k + 1 : Nat) : Int) = (k : Int) + 1 from by omega] at T
      refine T.mono ?_
      rintro e w3 ⟨rfl, hp3, hb3⟩
      have HP3 := hide hp3
      have HB3 := hide ((HBE.out.trans (Beyond.new HPA.out.1 HPA.out.2.1 HB2.out)).trans hb3)
      clear hp3 hb3 T
      rw [HW.out] at HP3 ⊢
      cases ht : (V.took (k + 1) (V.toks line) st blk l).1
      · have HY : Hid (V.parse s = ((V.took (k + 1) (V.toks line) st blk l).2.2.2, k + 1)) := by
          refine hide ?_
          rw [HPS.out, HGO.out, HD.out]
          unfold V.parseGo
          rw [ht]; rfl
        obtain ⟨_, _, v3, hpb3, hown3⟩ := HP3.out
        have d2 : w3.cell? ⟨w.heap.size, 2, none⟩ = some v3 := by rw [Lib.cell_of_heap hpb3]; rfl
        have HOW := hide hown3
        clear hpb3 hown3
        go_wp2
        go_ret2
        refine ⟨v3, ?_, ?_, HB1.out.trans HB3.out.below⟩
        · rw [HY.out]; rfl
        · rw [HY.out]; exact HOW.out
      · have HY : Hid (V.parseGo 0 L 0 0 [] = V.parseGo (k + 1) (L.drop (k + 1)) (V.took (k + 1) (V.toks line) st blk l).2.1 (V.took (k + 1) (V.toks line) st blk l).2.2.1 (V.took (k + 1) (V.toks line) st blk l).2.2.2) := by
          refine hide ?_
          rw [HGO.out, HD.out, V.parseGo, if_pos ht]
        have R : ∃ k' : Nat, k' ≤ L.length ∧ Value.int .i64 ((k : Int) + 1) = .int .i64 k' ∧ Hid (Parsing w.heap.size L w1 k' w3) := by
          refine ⟨k + 1, by omega, by go_num, hide ⟨_, _, _, V.took_stands HST.out, V.took_sound HSO.out, ?_, HP3.out, HB3.out, HY.out⟩⟩
          have := V.took_len (k + 1) (V.toks line) st blk l
          omega
        have HR := hide R
        clear R
        go_wp2
        first
          | exact ⟨HR.out, by simp [intOf]; omega⟩
          | (go_roundw
             case rel => exact HR.out
             case measure => simp [intOf]; omega)
    · have hke : k = L.length := by omega
      have HKE := hide hke
      clear hke
      go_wp2_with fail
      refine (mayEnd_any w.heap.size (w.heap.size + 2) st blk l wr HST.out HSO.out hlen' HPA.out).mono ?_
      rintro e w4 ⟨rfl, hb4⟩
      have HP4 := hide (HPA.out.later hb4)
      have HB4 := hide (HB1.out.trans (HBE.out.below.trans (hb4.mono (Nat.le_of_lt HPA.out.lt))))
      have HY : Hid (V.parse s = (l, if V.may st l then 0 else L.length)) := by
        refine hide ?_
        rw [HPS.out, HGO.out, HKE.out, List.drop_length, V.parseGo]
      clear hb4
      obtain ⟨_, _, v3, hpb3, hown3⟩ := HP4.out
      have d2 : w4.cell? ⟨w.heap.size, 2, none⟩ = some v3 := by rw [Lib.cell_of_heap hpb3]; rfl
      have HOW := hide hown3
      clear hpb3 hown3
      cases hmay : V.may st l
      · rw [hmay] at HY
        go_wp2
        go_ret2
        refine ⟨v3, ?_, ?_, HB4.out⟩
        · rw [HY.out]; rfl
        · rw [HY.out]; exact HOW.out
      · rw [hmay] at HY
        go_wp2
        go_ret2
        refine ⟨v3, ?_, ?_, HB4.out⟩
        · rw [HY.out]; rfl
        · rw [HY.out]; exact HOW.out

end Go.Proofs.YtcfhleenecfghaaGreatDoor
