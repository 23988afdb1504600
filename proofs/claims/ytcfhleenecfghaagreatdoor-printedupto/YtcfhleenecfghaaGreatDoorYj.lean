/- The law Printed. -/
import Derived.Test.YtcfhleenecfghaaGreatDoorMade
import Derived.Test.YtcfhleenecfghaaGreatDoorYe
import Derived.Test.YtcfhleenecfghaaGreatDoorWs
namespace Go.Proofs.YtcfhleenecfghaaGreatDoor
open Go.RowKit

/-- What is printed is printed again as it is. -/
theorem print_again {s : ByteArray} {R : List (Nat × List ByteArray)} (hg : V.good s) (hp : R.Perm ((V.parse s).1.map (·.2))) (hr : V.InOrder R) {e : Ending} (h : PrintSays ⟨(V.textOf R).toArray⟩ e) : e = .returned (.tuple #[.string ⟨(V.textOf R).toArray⟩, .nilIface]) := by
  have hw := V.whole_sorted (V.parse_whole hg.1 hg.2) hp hr
  have ht := V.whole_text hw
  rcases h with ⟨_, R', h1, h2, h3⟩ | ⟨h1, _⟩
  · rw [h3, V.whole_again hw hr h1 h2]
  · exact absurd ⟨ht.1, ht.2.1⟩ h1
theorem print_size {s : ByteArray} {R : List (Nat × List ByteArray)} (hs : s.size ≤ 1048576) (hg : V.good s) (hp : R.Perm ((V.parse s).1.map (·.2))) : (⟨(V.textOf R).toArray⟩ : ByteArray).size ≤ 1073741824 := by
  have hw := V.parse_whole hg.1 hg.2
  have h1 := V.text_short R (fun x hx => hw.valid x (hp.mem_iff.1 hx))
  have h2 := V.parse_count s
  have h3 : R.length = (V.parse s).1.length := by rw [hp.length_eq, List.length_map]
  show (V.textOf R).toArray.size ≤ _
  rw [List.size_toArray]; omega
theorem print_root {l : List (Nat × Nat)} (h : V.Needs l) {e : Ending} (hs : PrintSays ⟨(V.textOf (V.rootL l)).toArray⟩ e) : e = .returned (.tuple #[.string ⟨(V.textOf (V.rootL l)).toArray⟩, .nilIface]) := by
  have hw := V.rootL_whole h
  have ht := V.whole_text hw
  rcases hs with ⟨_, R', h1, h2, h3⟩ | ⟨h1, _⟩
  · rw [h3, V.whole_again hw (V.rootL_order h) h1 h2]
  · exact absurd ⟨ht.1, ht.2.1⟩ h1
theorem print_turned {l : List (Nat × Nat)} (h : V.Needs l) {e : Ending} (hs : PrintSays ⟨(V.turned l.reverse).toArray⟩ e) : e = .returned (.tuple #[.string ⟨(V.textOf (V.rootL l)).toArray⟩, .nilIface]) := by
  have ht := V.turn_fine h
  rcases hs with ⟨_, R', h1, h2, h3⟩ | ⟨h1, _⟩
  · rw [h3, V.turn_again h h1 h2]
  · exact absurd ⟨ht.1, ht.2.1⟩ h1

/-- The turned manifest so far. -/
def turnP (l : List (Nat × Nat)) (k : Nat) : ByteArray := ⟨([47, 47, 32, 120, 10, 109, 111, 100, 117, 108, 101, 32, 9, 32, 114, 111, 111, 116, 32, 47, 47, 32, 121, 10, 114, 101, 113, 117, 105, 114, 101, 32, 40, 10] ++ (l.reverse.take k).flatMap V.turnB).toArray⟩
theorem turnB_len (x : Nat × Nat) : (V.turnB x).length ≤ 20 := by
  have := mver_len x.2
  unfold V.turnB V.mpath; simp; omega
theorem turnP_size (l : List (Nat × Nat)) (k : Nat) (hl : l.length ≤ 5) : (turnP l k).size ≤ 134 := by
  have h1 := flat_len V.turnB 20 turnB_len (l.reverse.take k)
  have h2 : (l.reverse.take k).length ≤ 5 := by rw [List.length_take, List.length_reverse]; omega
  have h3 : ([47, 47, 32, 120, 10, 109, 111, 100, 117, 108, 101, 32, 9, 32, 114, 111, 111, 116, 32, 47, 47, 32, 121, 10, 114, 101, 113, 117, 105, 114, 101, 32, 40, 10] : List UInt8).length = 34 := rfl
  unfold turnP
  show (List.toArray _).size ≤ 134
  rw [List.size_toArray, List.length_append]
  omega
theorem turnP_snoc (l : List (Nat × Nat)) (i k : Nat) (h : l.length = i + 1 + k) : turnP l k ++ ⟨#[9]⟩ ++ V.mp (l[i]'(by omega)).1 ++ ⟨#[32, 32]⟩ ++ V.mv (l[i]'(by omega)).2 ++ ⟨#[47, 47, 122, 10, 10]⟩ = turnP l (k + 1) := by
  have hk : k < l.reverse.length := by rw [List.length_reverse]; omega
  have e : l.reverse[k] = l[i]'(by omega) := by
    rw [List.getElem_reverse]
    congr 1; omega
  apply V.bytes_inj
  rw [data_app, data_app, data_app, data_app, data_app, V.mp_list, V.mv_list]
  unfold turnP
  rw [List.take_succ_eq_append_getElem hk, List.flatMap_append, e]
  simp [V.turnB]
theorem turnP_end (l : List (Nat × Nat)) : turnP l l.length ++ ⟨#[32, 41, 32]⟩ = ⟨(V.turned l.reverse).toArray⟩ := by
  apply V.bytes_inj
  rw [data_app]
  unfold turnP V.turned
  rw [← List.length_reverse, List.take_length]
theorem eqIface (v : Value) (w : World) : (binOp .eql 24 (.iface 96 v) .nilIface).run Tryz.prog w = .ok (.bool false) w := by kernel_rfl
theorem neIface (v : Value) (w : World) : (binOp .neq 24 (.iface 96 v) .nilIface).run Tryz.prog w = .ok (.bool true) w := by kernel_rfl

theorem turnP_zero (l : List (Nat × Nat)) : turnP l 0 = ⟨#[47, 47, 32, 120, 10, 109, 111, 100, 117, 108, 101, 32, 9, 32, 114, 111, 111, 116, 32, 47, 47, 32, 121, 10, 114, 101, 113, 117, 105, 114, 101, 32, 40, 10]⟩ := by
  unfold turnP; simp
theorem RawRow.at {w w' : World} {rb rb' : Nat} {rv : Value} {n : Nat} (h : RawRow w rb rv n) (hb : Below w.heap.size w w') (hr : w.heap.size ≤ rb') : RawRow w' rb' rv n := by
  obtain ⟨ra, c, rfl, h⟩ := h
  refine ⟨ra, c, rfl, ?_⟩
  rcases h with h | ⟨rg, off, h1, h2, h3⟩
  · exact Or.inl h
  · by_cases hn : n = 0
    · exact Or.inl hn
    · refine Or.inr ⟨rg, off, h1, ?_, fun j hj => ?_⟩
      · obtain ⟨x, hx, _⟩ := h3 0 (by omega)
        have := World.block_lt_of_cell? (h := hx)
        show rg ≠ rb'
        have h4 : rg < w.heap.size := this
        omega
      · obtain ⟨x, hx, hr'⟩ := h3 j hj
        exact ⟨x, keep hb hx, hr'⟩
theorem NeedRow.slice {w : World} {v : Value} {l : List (Nat × Nat)} (h : NeedRow w v l) : ∃ a c, v = .slice a l.length c := by
  rcases h with ⟨h, h0⟩ | ⟨g, c, h, _⟩
  · exact ⟨none, 0, by rw [h, h0]; rfl⟩
  · exact ⟨_, _, h⟩
theorem made_root {w : World} {B mb : Nat} {C : Array Value} {l : List (Nat × Nat)} (h : MadeAt w B mb C l) : ∃ v, w.cell? ⟨mb, 30, none⟩ = some v ∧ NeedRow w v l ∧ V.Needs l ∧ l.length ≤ 5 := by
  obtain ⟨h1, _, _, v, h30, hfr, hown⟩ := h
  exact ⟨v, by rw [Lib.cell_of_heap h1]; exact h30, needRow_of hown, (from_needs hfr).1, (from_needs hfr).2⟩

set_option maxHeartbeats 3200000 in
set_option maxRecDepth 100000 in
/-- The second half: what is made is printed as it is written, turned about too. -/
theorem Printed_any (n c : Nat) (ra : Option Addr) (s : ByteArray) (m : Int) (w : World) (hn : n ≤ 4611686018427387904) (hs : s.size ≤ 1048576) (hrow : RawRow w w.heap.size (.slice ra n c) n) (hm : w.cell? ⟨0, 0, none⟩ = some (.int .i64 m)) :
    Calls Tryz.prog 5 #[.slice ra n c, .string s] w fun e w' => e = .returned (.bool true) ∧ Below w.heap.size w w' := by
  have HW := hide hrow
  have hq := eqIface
  have hq' := neIface
  clear hrow
  go_enter Tryz.func5, Tryz.ntmps5
  go_wp2_with fail
  refine (begin_any m _ hm).mono ?_
  rintro e w1 ⟨rfl, hb1⟩
  have HB1 := hide hb1
  have hm1 := keep hb1 hm
  clear hb1
  go_wp2_with fail
  refine (print_any s m _ (by omega) hm1).mono ?_
  rintro e w2 ⟨hsays, hb2⟩
  have HB2 := hide (HB1.out.trans (hb2.mono HB1.out.size))
  have hm2 := keep hb2 hm1
  clear hb2
  rcases hsays with ⟨hg, R, hp, hr, rfl⟩ | ⟨hg, b, rfl⟩
  · have HA : Hid (∀ e, PrintSays ⟨(V.textOf R).toArray⟩ e → e = .returned (.tuple #[.string ⟨(V.textOf R).toArray⟩, .nilIface])) := hide fun e h => print_again hg hp hr h
    have hsz := print_size hs hg hp
    clear hg hp hr
    generalize (⟨(V.textOf R).toArray⟩ : ByteArray) = t at HA hsz
    go_wp2_with fail
    refine (print_any t m _ hsz hm2).mono ?_
    rintro e w3 ⟨hsays, hb3⟩
    have he := HA.out e hsays
    subst he
    have HB3 := hide (HB2.out.trans (hb3.mono HB2.out.size))
    have hm3 := keep hb3 hm2
    clear hb3 hsays
    go_wp2_with fail
    refine (made_any n c ra _ hn (HW.out.at HB3.out HB3.out.size)).mono ?_
    rintro e w4 ⟨C, l, rfl, hM, hb4⟩
    have HB4 := hide (HB3.out.trans (hb4.mono HB3.out.size))
    have HM := hide hM
    have HM4 : Hid (w4.cell? ⟨0, 0, none⟩ = some (.int .i64 m)) := hide (keep hb4 hm3)
    obtain ⟨v, c30, hnr, hnd, hl5⟩ := made_root hM
    obtain ⟨va, vc, rfl⟩ := hnr.slice
    have HNR := hide hnr
    have HND := hide hnd
    clear hM hb4 hnr hnd HB1 HB2 HB3 hm1 hm2 hm3 hm
    go_wp2_with fail
    refine (text_root _ _ C l _ HM.out).mono ?_
    rintro e w5 ⟨rfl, q5, rfl⟩
    have HS0 : Hid ((⟨#[47, 47, 32, 120, 10, 109, 111, 100, 117, 108, 101, 32, 9, 32, 114, 111, 111, 116, 32, 47, 47, 32, 121, 10, 114, 101, 113, 117, 105, 114, 101, 32, 40, 10]⟩ : ByteArray) = turnP l 0) := hide (turnP_zero l).symm
    have HT : Hid (∀ e, PrintSays ⟨(V.turned l.reverse).toArray⟩ e → e = .returned (.tuple #[.string ⟨(V.textOf (V.rootL l)).toArray⟩, .nilIface])) := hide fun e h => print_turned HND.out h
    have HU : Hid (∀ e, PrintSays ⟨(V.textOf (V.rootL l)).toArray⟩ e → e = .returned (.tuple #[.string ⟨(V.textOf (V.rootL l)).toArray⟩, .nilIface])) := hide fun e h => print_root HND.out h
    have hwsz : (⟨(V.textOf (V.rootL l)).toArray⟩ : ByteArray).size ≤ 1073741824 := by rw [← partB_all]; have := partB_size l l.length hl5; omega
    generalize (⟨(V.textOf (V.rootL l)).toArray⟩ : ByteArray) = wt at HT HU hwsz ⊢
    have htsz : (⟨(V.turned l.reverse).toArray⟩ : ByteArray).size ≤ 1073741824 := by
      rw [← turnP_end, size_add]
      have := turnP_size l l.length hl5
      show _ + 3 ≤ _; omega
    have hte := cat_any (turnP l l.length) ⟨#[32, 41, 32]⟩ (by have := turnP_size l l.length hl5; show _ + 3 ≤ _; omega)
    rw [turnP_end] at hte
    generalize (⟨(V.turned l.reverse).toArray⟩ : ByteArray) = td at HT htsz hte
    go_wp2
    go_loopw [13, 14] (fun t i wr => ∃ j k : Nat, l.length = j + k ∧ i = .int .i64 ((j : Int) - 1) ∧ t = .string (turnP l k) ∧ ∃ q, wr = w4.drewN q) (fun _ i _ => (intOf i + 1).toNat)
    case atStart => exact ⟨l.length, 0, rfl, rfl, by rw [HS0.out], q5, rfl⟩
    case round =>
      obtain ⟨j, k, hjk, hi, rfl, hq5⟩ := hrel
      have HQ := hide hq5
      clear hq5
      cases j with
      | zero =>
        have hi' : u14 = .int .i64 (-1) := hi
        subst hi'
        have hk : k = l.length := by omega
        subst hk
        clear hjk hi
        have hm5 : wr.cell? ⟨0, 0, none⟩ = some (.int .i64 m) := by
          obtain ⟨q, e⟩ := HQ.out
          rw [e]; exact HM4.out
        have HB5 : Hid (Below w.heap.size w wr) := by
          obtain ⟨q, e⟩ := HQ.out
          rw [e]; exact hide (below_drewN HB4.out q)
        go_wp2_with fail
        refine (print_any td m _ htsz hm5).mono ?_
        rintro e w6 ⟨hsays, hb6⟩
        have he := HT.out e hsays
        subst he
        have HB6 := hide (HB5.out.trans (hb6.mono HB5.out.size))
        have hm6 := keep hb6 hm5
        clear hb6 hsays
        go_wp2_with fail
        refine (print_any wt m _ hwsz hm6).mono ?_
        rintro e w7 ⟨hsays, hb7⟩
        have he := HU.out e hsays
        subst he
        have HB7 := hide (HB6.out.trans (hb7.mono HB6.out.size))
        clear hb7 hsays
        go_wp2
        go_ret
        exact ⟨rfl, HB7.out⟩
      | succ i =>
        have hi' : u14 = .int .i64 (i : Int) := by rw [hi]; congr 1; omega
        subst hi'
        clear hi
        have hil : i < l.length := by omega
        rcases HNR.out with ⟨_, h0⟩ | ⟨g, c', h, hc⟩
        · rw [h0] at hil; simp at hil
        · injection h with h1 _ h3
          subst h1 h3
          have c0 : wr.cell? ⟨g, i * 2, none⟩ = some (.int .i64 (l[i].1 : Int)) := by
            obtain ⟨q, e⟩ := HQ.out
            rw [e]; exact (hc i hil).1
          have c1 : wr.cell? ⟨g, i * 2 + 1, none⟩ = some (.int .i64 (l[i].2 : Int)) := by
            obtain ⟨q, e⟩ := HQ.out
            rw [e]; exact (hc i hil).2
          have HX := hide (HND.out.1 l[i] (List.getElem_mem hil))
          have HP := hide (turnP_snoc l i k hjk)
          have hsz := turnP_size l k hl5
          generalize l[i] = x at c0 c1 HX HP
          obtain ⟨xq, xv⟩ := x
          simp only at c0 c1 HX HP
          have HJ := hide hjk
          clear hjk
          have s1 := mp_size xq
          have s2 := mv_size xv
          have t1 : (ByteArray.mk #[9]).size = 1 := rfl
          have t2 : (ByteArray.mk #[32, 32]).size = 2 := rfl
          have t3 : (ByteArray.mk #[47, 47, 122, 10, 10]).size = 5 := rfl
          have k1 := cat_any (turnP l k) ⟨#[9]⟩ (by omega)
          have k2 := cat_any (turnP l k ++ ⟨#[9]⟩) (V.mp xq) (by rw [size_add]; omega)
          have k3 := cat_any (turnP l k ++ ⟨#[9]⟩ ++ V.mp xq) ⟨#[32, 32]⟩ (by rw [size_add, size_add]; omega)
          have k4 := cat_any (turnP l k ++ ⟨#[9]⟩ ++ V.mp xq ++ ⟨#[32, 32]⟩) (V.mv xv) (by rw [size_add, size_add, size_add]; omega)
          have k5 := cat_any (turnP l k ++ ⟨#[9]⟩ ++ V.mp xq ++ ⟨#[32, 32]⟩ ++ V.mv xv) ⟨#[47, 47, 122, 10, 10]⟩ (by rw [size_add, size_add, size_add, size_add]; omega)
          clear hsz s1 s2 t1 t2 t3 hc
          have hpt := path_any xq HX.out.1
          have hvr := version_any xv HX.out.2
          go_wp2_with fail
          go_quiet (first | (go_at_call 21; exact Calls.quiet_of_same (hpt _)) | (go_at_call 22; exact Calls.quiet_of (hvr _)))
          have RQ : ∃ q', wr.drewN nq = w4.drewN q' := by
            obtain ⟨q, e⟩ := HQ.out
            exact ⟨q + nq, by rw [e, World.drewN_drewN]⟩
          have HRQ := hide RQ
          clear RQ
          go_wp2_with fail
          go_roundw
          case rel => exact ⟨i, k + 1, by have := HJ.out; omega, by go_num, by rw [HP.out], HRQ.out⟩
          case measure => simp [intOf]
  · go_wp2_with fail
    refine (print_any ⟨#[]⟩ m _ (by decide) hm2).mono ?_
    rintro e w3 ⟨hsays, hb3⟩
    have HB3 := hide (HB2.out.trans (hb3.mono HB2.out.size))
    have hm3 := keep hb3 hm2
    clear hb3
    have hx : ∃ a b, e = .returned (.tuple #[a, b]) := by
      rcases hsays with ⟨_, _, _, _, h⟩ | ⟨_, _, h⟩
      · exact ⟨_, _, h⟩
      · exact ⟨_, _, h⟩
    obtain ⟨xa, xb, rfl⟩ := hx
    clear hsays
    go_wp2_with fail
    refine (made_any n c ra _ hn (HW.out.at HB3.out HB3.out.size)).mono ?_
    rintro e w4 ⟨C, l, rfl, hM, hb4⟩
    have HB4 := hide (HB3.out.trans (hb4.mono HB3.out.size))
    have HM := hide hM
    have HM4 : Hid (w4.cell? ⟨0, 0, none⟩ = some (.int .i64 m)) := hide (keep hb4 hm3)
    obtain ⟨v, c30, hnr, hnd, hl5⟩ := made_root hM
    obtain ⟨va, vc, rfl⟩ := hnr.slice
    have HNR := hide hnr
    have HND := hide hnd
    clear hM hb4 hnr hnd HB1 HB2 HB3 hm1 hm2 hm3 hm
    go_wp2_with fail
    refine (text_root _ _ C l _ HM.out).mono ?_
    rintro e w5 ⟨rfl, q5, rfl⟩
    have HS0 : Hid ((⟨#[47, 47, 32, 120, 10, 109, 111, 100, 117, 108, 101, 32, 9, 32, 114, 111, 111, 116, 32, 47, 47, 32, 121, 10, 114, 101, 113, 117, 105, 114, 101, 32, 40, 10]⟩ : ByteArray) = turnP l 0) := hide (turnP_zero l).symm
    have HT : Hid (∀ e, PrintSays ⟨(V.turned l.reverse).toArray⟩ e → e = .returned (.tuple #[.string ⟨(V.textOf (V.rootL l)).toArray⟩, .nilIface])) := hide fun e h => print_turned HND.out h
    have HU : Hid (∀ e, PrintSays ⟨(V.textOf (V.rootL l)).toArray⟩ e → e = .returned (.tuple #[.string ⟨(V.textOf (V.rootL l)).toArray⟩, .nilIface])) := hide fun e h => print_root HND.out h
    have hwsz : (⟨(V.textOf (V.rootL l)).toArray⟩ : ByteArray).size ≤ 1073741824 := by rw [← partB_all]; have := partB_size l l.length hl5; omega
    generalize (⟨(V.textOf (V.rootL l)).toArray⟩ : ByteArray) = wt at HT HU hwsz ⊢
    have htsz : (⟨(V.turned l.reverse).toArray⟩ : ByteArray).size ≤ 1073741824 := by
      rw [← turnP_end, size_add]
      have := turnP_size l l.length hl5
      show _ + 3 ≤ _; omega
    have hte := cat_any (turnP l l.length) ⟨#[32, 41, 32]⟩ (by have := turnP_size l l.length hl5; show _ + 3 ≤ _; omega)
    rw [turnP_end] at hte
    generalize (⟨(V.turned l.reverse).toArray⟩ : ByteArray) = td at HT htsz hte
    go_wp2
    go_loopw [13, 14] (fun t i wr => ∃ j k : Nat, l.length = j + k ∧ i = .int .i64 ((j : Int) - 1) ∧ t = .string (turnP l k) ∧ ∃ q, wr = w4.drewN q) (fun _ i _ => (intOf i + 1).toNat)
    case atStart => exact ⟨l.length, 0, rfl, rfl, by rw [HS0.out], q5, rfl⟩
    case round =>
      obtain ⟨j, k, hjk, hi, rfl, hq5⟩ := hrel
      have HQ := hide hq5
      clear hq5
      cases j with
      | zero =>
        have hi' : u14 = .int .i64 (-1) := hi
        subst hi'
        have hk : k = l.length := by omega
        subst hk
        clear hjk hi
        have hm5 : wr.cell? ⟨0, 0, none⟩ = some (.int .i64 m) := by
          obtain ⟨q, e⟩ := HQ.out
          rw [e]; exact HM4.out
        have HB5 : Hid (Below w.heap.size w wr) := by
          obtain ⟨q, e⟩ := HQ.out
          rw [e]; exact hide (below_drewN HB4.out q)
        go_wp2_with fail
        refine (print_any td m _ htsz hm5).mono ?_
        rintro e w6 ⟨hsays, hb6⟩
        have he := HT.out e hsays
        subst he
        have HB6 := hide (HB5.out.trans (hb6.mono HB5.out.size))
        have hm6 := keep hb6 hm5
        clear hb6 hsays
        go_wp2_with fail
        refine (print_any wt m _ hwsz hm6).mono ?_
        rintro e w7 ⟨hsays, hb7⟩
        have he := HU.out e hsays
        subst he
        have HB7 := hide (HB6.out.trans (hb7.mono HB6.out.size))
        clear hb7 hsays
        go_wp2
        go_ret
        exact ⟨rfl, HB7.out⟩
      | succ i =>
        have hi' : u14 = .int .i64 (i : Int) := by rw [hi]; congr 1; omega
        subst hi'
        clear hi
        have hil : i < l.length := by omega
        rcases HNR.out with ⟨_, h0⟩ | ⟨g, c', h, hc⟩
        · rw [h0] at hil; simp at hil
        · injection h with h1 _ h3
          subst h1 h3
          have c0 : wr.cell? ⟨g, i * 2, none⟩ = some (.int .i64 (l[i].1 : Int)) := by
            obtain ⟨q, e⟩ := HQ.out
            rw [e]; exact (hc i hil).1
          have c1 : wr.cell? ⟨g, i * 2 + 1, none⟩ = some (.int .i64 (l[i].2 : Int)) := by
            obtain ⟨q, e⟩ := HQ.out
            rw [e]; exact (hc i hil).2
          have HX := hide (HND.out.1 l[i] (List.getElem_mem hil))
          have HP := hide (turnP_snoc l i k hjk)
          have hsz := turnP_size l k hl5
          generalize l[i] = x at c0 c1 HX HP
          obtain ⟨xq, xv⟩ := x
          simp only at c0 c1 HX HP
          have HJ := hide hjk
          clear hjk
          have s1 := mp_size xq
          have s2 := mv_size xv
          have t1 : (ByteArray.mk #[9]).size = 1 := rfl
          have t2 : (ByteArray.mk #[32, 32]).size = 2 := rfl
          have t3 : (ByteArray.mk #[47, 47, 122, 10, 10]).size = 5 := rfl
          have k1 := cat_any (turnP l k) ⟨#[9]⟩ (by omega)
          have k2 := cat_any (turnP l k ++ ⟨#[9]⟩) (V.mp xq) (by rw [size_add]; omega)
          have k3 := cat_any (turnP l k ++ ⟨#[9]⟩ ++ V.mp xq) ⟨#[32, 32]⟩ (by rw [size_add, size_add]; omega)
          have k4 := cat_any (turnP l k ++ ⟨#[9]⟩ ++ V.mp xq ++ ⟨#[32, 32]⟩) (V.mv xv) (by rw [size_add, size_add, size_add]; omega)
          have k5 := cat_any (turnP l k ++ ⟨#[9]⟩ ++ V.mp xq ++ ⟨#[32, 32]⟩ ++ V.mv xv) ⟨#[47, 47, 122, 10, 10]⟩ (by rw [size_add, size_add, size_add, size_add]; omega)
          clear hsz s1 s2 t1 t2 t3 hc
          have hpt := path_any xq HX.out.1
          have hvr := version_any xv HX.out.2
          go_wp2_with fail
          go_quiet (first | (go_at_call 21; exact Calls.quiet_of_same (hpt _)) | (go_at_call 22; exact Calls.quiet_of (hvr _)))
          have RQ : ∃ q', wr.drewN nq = w4.drewN q' := by
            obtain ⟨q, e⟩ := HQ.out
            exact ⟨q + nq, by rw [e, World.drewN_drewN]⟩
          have HRQ := hide RQ
          clear RQ
          go_wp2_with fail
          go_roundw
          case rel => exact ⟨i, k + 1, by have := HJ.out; omega, by go_num, by rw [HP.out], HRQ.out⟩
          case measure => simp [intOf]

end Go.Proofs.YtcfhleenecfghaaGreatDoor
