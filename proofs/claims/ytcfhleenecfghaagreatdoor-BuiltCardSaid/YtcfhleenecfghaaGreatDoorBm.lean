/- Where a package can be. -/
/- How far the ordering of each package is: the map of states. -/
/- Packages are found, and what they import. -/
import Derived.Test.YtcfhleenecfghaaGreatDoorBh
import Derived.Deep.RegionLawGrows
import Derived.Test.YtcfhleenecfghaaGreatDoorXd
import Derived.StringKeys
import Derived.Test.YtcfhleenecfghaaGreatDoorBk
namespace Go.Proofs.YtcfhleenecfghaaGreatDoor
open Go.RowKit

theorem info358 : (Tryz.prog.info? 358).map (fun i => (i.zero, i.size, i.bytes)) = some (some (.agg #[.string ⟨#[]⟩, .string ⟨#[]⟩]), 2, 32) := by kernel_rfl
theorem xpath_more (a : Nat) (h : a < 8) : (xpath a).size = 3 ∧ (∃ h0 : 0 < (xpath a).size, (xpath a)[0].toNat = 120) ∧ (∃ h0 : 1 < (xpath a).size, (xpath a)[1].toNat = 47) ∧ (∃ h0 : 2 < (xpath a).size, (xpath a)[2].toNat = 48 + a) ∧ (xpath a).extract 0 1 = sX ∧ (xpath a).extract 2 3 = fdir a := by
  have : ∀ a : Fin 8, (xpath a.val).size = 3 ∧ (∃ h0 : 0 < (xpath a.val).size, (xpath a.val)[0].toNat = 120) ∧ (∃ h0 : 1 < (xpath a.val).size, (xpath a.val)[1].toNat = 47) ∧ (∃ h0 : 2 < (xpath a.val).size, (xpath a.val)[2].toNat = 48 + a.val) ∧ (xpath a.val).extract 0 1 = sX ∧ (xpath a.val).extract 2 3 = fdir a.val := by decide
  exact this ⟨a, h⟩
/-- The places of a path: itself with no directory, and the module with the directory. -/
def plCells (a k : Nat) : List Value := if k = 1 then [.string (xpath a), .string ⟨#[]⟩] else [.string (xpath a), .string ⟨#[]⟩, .string sX, .string (fdir a)]

set_option maxHeartbeats 3200000 in
set_option maxRecDepth 100000 in
theorem placesOf_any (a : Nat) (ha : a < 8) (w : World) :
    Calls Tryz.prog 430 #[.string (xpath a)] w fun e w' => ∃ v, e = .returned v ∧ w'.ownsRow w.heap.size 358 2 v 2 (plCells a 2) ∧ Below w.heap.size w w' := by
  obtain ⟨i0, hi, hz0, hz1, hz2⟩ := info_parts info358
  obtain ⟨x0, ⟨x1, x2⟩, ⟨x3, x4⟩, ⟨x5, x6⟩, x7, x8⟩ := xpath_more a ha
  go_enter Tryz.func430, Tryz.ntmps430
  go_wp2_with fail
  go_loopw [3, 10] (fun v i wr => ((i = .int .i64 0 ∨ i = .int .i64 1) ∧ v = .slice (some ⟨w.heap.size, 0, none⟩) 1 1 ∧ wr = w.alloc (.cells #[.string (xpath a), .string ⟨#[]⟩] 358)) ∨ ((i = .int .i64 2 ∨ i = .int .i64 3) ∧ Hid (wr.ownsRow w.heap.size 358 2 v 2 (plCells a 2) ∧ Below w.heap.size w wr))) (fun _ i _ => 3 - (intOf i).toNat)
  case atStart => exact Or.inl ⟨Or.inl rfl, rfl, rfl⟩
  case round =>
    rcases hrel with ⟨rfl | rfl, rfl, rfl⟩ | ⟨rfl | rfl, H⟩
    · go_wp2
      first
        | exact ⟨Or.inl ⟨Or.inr rfl, rfl, rfl⟩, by simp [intOf]⟩
        | (go_roundw
           case rel => first | exact Or.inl ⟨Or.inr rfl, rfl, rfl⟩ | exact Or.inl ⟨Or.inr rfl, trivial, trivial⟩ | (simp; done)
           case measure => simp [intOf])
    · have h1 : (w.alloc (.cells #[.string (xpath a), .string ⟨#[]⟩] 358)).heap[w.heap.size]? = some (.cells #[.string (xpath a), .string ⟨#[]⟩] 358 (0, 0)) := alloc_last _ _ _ rfl
      generalize hW : w.alloc (.cells #[.string (xpath a), .string ⟨#[]⟩] 358) = W at h1
      have HB := hide (show Below w.heap.size w W by rw [← hW]; exact below1 _ _)
      have c0 : W.cell? ⟨w.heap.size, 0, none⟩ = some (.string (xpath a)) := by rw [Lib.cell_of_heap h1]; rfl
      have c1 : W.cell? ⟨w.heap.size, 1, none⟩ = some (.string ⟨#[]⟩) := by rw [Lib.cell_of_heap h1]; rfl
      have k0 := keepA c0 (.cells #[.string sX, .string (fdir a)] 358)
      have k1 := keepA c1 (.cells #[.string sX, .string (fdir a)] 358)
      have HFIN : Hid (∀ (X : World) (v' : Value) (w' : World), w'.ownsRow X.heap.size 358 2 v' 2 [.string (xpath a), .string ⟨#[]⟩, .string sX, .string (fdir a)] → X.grownBy w' none → X.heap = (W.alloc (.cells #[.string sX, .string (fdir a)] 358)).heap → X.os = W.os → X.tape = W.tape → X.output = W.output → w'.ownsRow w.heap.size 358 2 v' 2 (plCells a 2) ∧ Below w.heap.size w w') := by
        refine hide fun X v' w' ho hg e1 e2 e3 e4 => ?_
        have hs : W.heap.size ≤ X.heap.size := by rw [e1, alloc_size]; omega
        refine ⟨⟨ho.1, ?_⟩, ⟨(hg.os.trans e2).trans HB.out.os, (hg.tape.trans e3).trans HB.out.tape, (hg.output.trans e4).trans HB.out.output, Nat.le_trans HB.out.size (Nat.le_trans hs hg.size), fun b hb => ?_⟩⟩
        · rcases ho.2 with h | ⟨g, cap, cur, e, h1, h2⟩
          · exact Or.inl h
          · exact Or.inr ⟨g, cap, cur, e, by have := HB.out.size; omega, h2⟩
        · have hb2 : b < W.heap.size := Nat.lt_of_lt_of_le hb HB.out.size
          rw [hg.block b (by omega) (fun e => by cases e), e1, alloc_else _ _ _ hb2]
          exact HB.out.block b hb
      clear h1 hW
      have hwr : IntKind.i64.wrap 2 = 2 := by decide
      go_wp2_with fail
      go_region_law (refine step_append_grows rfl (.tmp 17) (.tmp 26) 520 rfl 358 i0 (.agg #[.string ⟨#[]⟩, .string ⟨#[]⟩]) 2 32 Tryz.underlying520 hi hz0 hz1 hz2 rfl (by decide) (some ⟨w.heap.size, 0, none⟩) 1 1 [.string (xpath a), .string ⟨#[]⟩] (by simp [Act.eval]) (fun h => by cases h) rfl (by
          intro b hb j u hj
          injection hb with hb
          subst hb
          match j, hj with
          | 0, hj => simp at hj; subst hj; simpa [Addr.add] using k0
          | 1, hj => simp at hj; subst hj; simpa [Addr.add] using k1) _ 1 1 [.string sX, .string (fdir a)] (by simp [Act.eval]; rfl) rfl (by
          intro j u hj
          match j, hj with
          | 0, hj => simp at hj; subst hj; simp [Addr.add]
          | 1, hj => simp at hj; subst hj; simp [Addr.add]) (by intro u hu; simp at hu; rcases hu with rfl | rfl <;> rfl) (by decide) (by decide) (by decide) ?_; intro v' w' hown hgrow; have R := hide (HFIN.out _ v' w' hown hgrow rfl rfl rfl rfl); clear hown hgrow)
      all_goals
        go_wp2
        first
          | exact ⟨Or.inr ⟨Or.inl rfl, R⟩, by simp [intOf]⟩
          | (go_roundw
             case rel => exact Or.inr ⟨Or.inl rfl, R⟩
             case measure => simp [intOf])
    · go_wp2
      first
        | exact ⟨Or.inr ⟨Or.inr rfl, H⟩, by simp [intOf]⟩
        | (go_roundw
           case rel => exact Or.inr ⟨Or.inr rfl, H⟩
           case measure => simp [intOf])
    · go_wp2
      go_ret
      exact ⟨_, rfl, H.out.1, H.out.2⟩

set_option maxHeartbeats 3200000 in
set_option maxRecDepth 100000 in
theorem faultOf_any (k : Int) (p n : ByteArray) (w : World) (hp : p.size ≤ 1000) (hn : n.size ≤ 1000) :
    Calls Tryz.prog 334 #[.int .i64 k, .string p, .string n] w fun e w' => ∃ v, e = .returned v ∧ IsFault w' v k 0 p n ∧ Below w.heap.size w w' := by
  go_enter Tryz.func334, Tryz.ntmps334
  go_wp2_with fail
  refine (clone_any p _ (by omega)).mono ?_
  rintro e w1 ⟨rfl, hb⟩
  have HB := hide hb
  clear hb
  go_wp2_with fail
  refine (clone_any n _ (by omega)).mono ?_
  rintro e w2 ⟨rfl, hb⟩
  have HB2 := hide hb
  clear hb
  go_wp2
  go_ret
  exact ⟨_, rfl, ⟨w2.heap.size, rfl, by simp, by simp, by simp, by simp⟩, (HB.out.trans (HB2.out.mono HB.out.size)).alloc (by have := HB.out.size; have := HB2.out.size; omega) _⟩

set_option maxHeartbeats 3200000 in
set_option maxRecDepth 100000 in
theorem kind_fault (k : Int) (p n : ByteArray) (v : Value) (w : World) (h : IsFault w v k 0 p n) :
    Calls Tryz.prog 32 #[.iface 96 v] w fun e w' => e = .returned (.tuple #[.int .i64 k, .string p, .string n]) ∧ Below w.heap.size w w' := by
  obtain ⟨b, rfl, h0, h1, h2, h3⟩ := h
  have hta : ∀ (v : Value) (w : World), (Instr.typeAssert (.iface 96 v) 24 96 true).run Tryz.prog w = .ok (.tuple #[v, .bool true]) w := by intro v w; kernel_rfl
  go_enter Tryz.func32, Tryz.ntmps32
  go_wp2_with fail
  go_quiet (fail)
  go_wp2_with fail
  (try simp only [Exit.inBlock, Exit.then])
  refine bodyPost_ret (results_tmp3 rfl _ _ _) rfl ?_
  exact ⟨rfl, rfl, rfl, rfl, Nat.le_refl _, fun _ _ => rfl⟩
end Go.Proofs.YtcfhleenecfghaaGreatDoor

namespace Go.Proofs.YtcfhleenecfghaaGreatDoor
open Go.RowKit

theorem law9 : WideMaps.KeyLaw Tryz.prog 9 := WideMaps.string_law Tryz.underlying9
theorem key9 (a : Nat) : ∃ l, keyOf Tryz.prog 9 (.string (xpath a)) = some l :=
  ⟨_, WideMaps.keyOf_string_mk Tryz.underlying9 (by show (3 : Nat) ≤ maxLen; unfold maxLen; omega)⟩
/-- The entries of the states of these. -/
def stE (K : List Nat) (st : Nat → Nat) : Array MapEntry := (K.zipIdx.map fun x => ({ key := .string (xpath x.1), val := .int .i64 (st x.1 : Int), born := x.2 } : MapEntry)).toArray
theorem st_mem {K : List Nat} {st : Nat → Nat} {e : MapEntry} (h : e ∈ (stE K st).toList) : ∃ a ∈ K, e.key = .string (xpath a) ∧ e.val = .int .i64 (st a : Int) := by
  unfold stE at h
  rw [List.toList_toArray] at h
  obtain ⟨x, hx, rfl⟩ := List.mem_map.1 h
  exact ⟨x.1, (List.mem_zipIdx' hx).2 ▸ List.getElem_mem _, rfl, rfl⟩
theorem st_at {K : List Nat} {st : Nat → Nat} (j : Nat) (hj : j < K.length) : (stE K st)[j]? = some { key := .string (xpath K[j]), val := .int .i64 (st K[j] : Int), born := j } := by
  unfold stE
  rw [List.getElem?_toArray, List.getElem?_map, List.getElem?_zipIdx, List.getElem?_eq_getElem hj]
  simp
theorem st_size (K : List Nat) (st : Nat → Nat) : (stE K st).size = K.length := by simp [stE]
theorem xpath_inj' {a b : Nat} (ha : a < 8) (hb : b < 8) (h : Value.string (xpath a) = .string (xpath b)) : a = b := by
  injection h with h
  exact xpath_inj ha hb (by rw [h])
theorem find_state (K : List Nat) (st : Nat → Nat) (hK : ∀ k ∈ K, k < 8) (q : Nat) (hq : q < 8) (w : World) :
    (q ∉ K ∧ (Instr.findKey 9 (.string (xpath q)) (stE K st).toList).run Tryz.prog w = .ok none w) ∨
    ∃ j, ∃ hj : j < K.length, K[j] = q ∧ (Instr.findKey 9 (.string (xpath q)) (stE K st).toList).run Tryz.prog w = .ok (some (j, .int .i64 (st q : Int))) w := by
  obtain ⟨lx, hlx⟩ := key9 q
  rcases law9.find w hlx (stE K st).toList (fun e he => by
    obtain ⟨x, hx, hk, _⟩ := st_mem he
    rw [hk]; exact key9 x) with ⟨h1, h2⟩ | ⟨j, e, h1, h2, h3⟩
  · refine Or.inl ⟨fun hm => ?_, h1⟩
    obtain ⟨j, hj, rfl⟩ := List.mem_iff_getElem.1 hm
    have h4 := st_at (st := st) j hj
    rw [← Array.getElem?_toList] at h4
    exact h2 _ (List.mem_of_getElem? h4) rfl
  · have hj : j < K.length := by
      have := (List.getElem?_eq_some_iff.1 h2).1
      rw [Array.length_toList, st_size] at this
      exact this
    have h4 := st_at (st := st) j hj
    rw [← Array.getElem?_toList, h2] at h4
    injection h4 with h4
    subst h4
    have e1 : K[j] = q := xpath_inj' (hK _ (List.getElem_mem hj)) hq h3
    exact Or.inr ⟨j, hj, e1, by rw [h1, e1]⟩
theorem check9 (q : Nat) (e : Bool) (w : World) : (Instr.checkKey e 10000 9 (.string (xpath q))).run Tryz.prog w = .ok () w := by
  obtain ⟨lx, hlx⟩ := key9 q
  exact law9.check w e hlx
theorem look_state (r c : Nat) (K : List Nat) (st : Nat → Nat) (hK : ∀ k ∈ K, k < 8) (h0 : ∀ q, q < 8 → q ∉ K → st q = 0) (q : Nat) (hq : q < 8) (w : World) (hb : w.heap[r]? = some (.map (stE K st) c)) :
    (Instr.lookup 274 (.map (some r)) (.string (xpath q)) false).run Tryz.prog w = .ok (.int .i64 (st q : Int)) w := by
  rcases find_state K st hK q hq w with ⟨hn, h1⟩ | ⟨j, hj, hjq, h1⟩
  · have := h0 q hq hn
    simp [Instr.lookup, run_underlying Tryz.underlying274, MapKept.run_getObj_map hb, check9, h1, Result.andThen, this]
  · simp [Instr.lookup, run_underlying Tryz.underlying274, MapKept.run_getObj_map hb, check9, h1, Result.andThen]
theorem st_snoc (K : List Nat) (st : Nat → Nat) (q v : Nat) (hq : q ∉ K) : stE (K ++ [q]) (B.upd st q v) = (stE K st).push { key := .string (xpath q), val := .int .i64 (v : Int), born := K.length } := by
  unfold stE
  rw [List.zipIdx_append, List.map_append]
  have e : (K.zipIdx.map fun x => ({ key := .string (xpath x.1), val := .int .i64 (B.upd st q v x.1 : Int), born := x.2 } : MapEntry)) = K.zipIdx.map fun x => ({ key := .string (xpath x.1), val := .int .i64 (st x.1 : Int), born := x.2 } : MapEntry) := by
    apply List.map_congr_left
    intro x hx
    have hne : x.1 ≠ q := fun e => hq (e ▸ (List.mem_zipIdx' hx).2 ▸ List.getElem_mem _)
    simp [B.upd, hne]
  rw [e]
  simp [B.upd]
theorem put_state_new (r : Nat) (K : List Nat) (st : Nat → Nat) (hK : ∀ k ∈ K, k < 8) (q : Nat) (hq : q < 8) (hn : q ∉ K) (w : World) (hb : w.heap[r]? = some (.map (stE K st) K.length)) :
    (Instr.mapUpdate 274 (.map (some r)) (.string (xpath q)) (.int .i64 1)).run Tryz.prog w = .ok () { w with heap := w.heap.setIfInBounds r (.map (stE (K ++ [q]) (B.upd st q 1)) (K.length + 1)) } := by
  rcases find_state K st hK q hq w with ⟨_, h1⟩ | ⟨j, hj, hjq, h1⟩
  · rw [st_snoc K st q 1 hn]
    simp [Instr.mapUpdate, run_underlying Tryz.underlying274, MapKept.run_getObj_map hb, check9, h1, MapKept.run_setObj_map _ hb, Result.andThen]
  · exact absurd (hjq ▸ List.getElem_mem hj) hn
theorem st_set (K : List Nat) (st : Nat → Nat) (hnd : K.Nodup) (j v : Nat) (hj : j < K.length) : (stE K st).modify j (fun e => { e with key := .string (xpath K[j]), val := .int .i64 (v : Int) }) = stE K (B.upd st K[j] v) := by
  apply Array.ext_getElem?
  intro i
  rw [Array.getElem?_modify]
  by_cases hi : i < K.length
  · rw [st_at (st := B.upd st K[j] v) i hi, st_at (st := st) i hi]
    by_cases e : j = i
    · subst e
      simp [B.upd]
    · rw [if_neg e]
      have hne : K[i] ≠ K[j] := fun h => e ((List.getElem_inj hnd).1 h).symm
      simp [B.upd, hne]
  · rw [Array.getElem?_eq_none (by rw [st_size]; omega), Array.getElem?_eq_none (by rw [st_size]; omega)]
    split <;> rfl
theorem put_state_old (r c : Nat) (K : List Nat) (st : Nat → Nat) (hK : ∀ k ∈ K, k < 8) (hnd : K.Nodup) (q : Nat) (hq : q < 8) (hm : q ∈ K) (w : World) (hb : w.heap[r]? = some (.map (stE K st) c)) :
    (Instr.mapUpdate 274 (.map (some r)) (.string (xpath q)) (.int .i64 2)).run Tryz.prog w = .ok () { w with heap := w.heap.setIfInBounds r (.map (stE K (B.upd st q 2)) c) } := by
  rcases find_state K st hK q hq w with ⟨hn, _⟩ | ⟨j, hj, rfl, h1⟩
  · exact absurd hm hn
  · obtain ⟨lx, hlx⟩ := key9 K[j]
    have h2 := law9.stays w hlx
    have h3 := st_at (st := st) j hj
    have h4 := st_set K st hnd j 2 hj
    simp [Instr.mapUpdate, run_underlying Tryz.underlying274, MapKept.run_getObj_map hb, check9, h1, h2, h3, MapKept.run_setObj_map _ hb, Result.andThen]
    exact congrArg (fun x => w.heap.setIfInBounds r (Obj.map x c)) h4
end Go.Proofs.YtcfhleenecfghaaGreatDoor

namespace Go.Proofs.YtcfhleenecfghaaGreatDoor
open Go.RowKit Go.Sort

theorem Library.later {B : Nat} {F : Nat → ByteArray} {w w' : World} {v : Value} (h : Library B F w v) (hb : Below w.heap.size w w') : Library B F w' v := by
  obtain ⟨mb, sv, ss, h0, h1, h2, h3, h4⟩ := h
  have hs : ∀ {b : Nat} {x : Obj}, w.heap[b]? = some x → w'.heap[b]? = some x := fun h => by rw [hb.block _ (Array.getElem?_eq_some_iff.1 h).1]; exact h
  refine ⟨mb, sv, ss, h0, Nat.lt_of_lt_of_le h1 hb.size, hs h2, owns_later h3 hb, fun a ha => ?_⟩
  obtain ⟨v, hv, g, c, cur, g1, g2, g3, g4⟩ := h4 a ha
  exact ⟨v, hv, g, c, cur, g1, g2, hs g3, g4⟩
theorem Src.later {B : Nat} {F : Nat → ByteArray} {a : Nat} {w w' : World} {v : Value} (h : Src w B F a v) (hb : Below w.heap.size w w') : Src w' B F a v := by
  obtain ⟨g, c, cur, g1, g2, g3, g4⟩ := h
  exact ⟨g, c, cur, g1, g2, by rw [hb.block g (Array.getElem?_eq_some_iff.1 g3).1]; exact g3, g4⟩
/-- The cells of a row of one's own. -/
theorem own_cells {w : World} {base g cap n s : Nat} {e : TypeId} {xs : List Value} (h : w.ownsRow base e s (.slice (some ⟨g, 0, none⟩) n cap) n xs) (j : Nat) (u : Value) (hj : xs[j]? = some u) : w.cell? ⟨g, j, none⟩ = some u := by
  rcases h.2 with ⟨h0, _⟩ | ⟨g', cap', cur, e1, h1, h2, h3, h4, h5, h6⟩
  · cases h0
  · injection e1 with e1 _ e3
    injection e1 with e1
    injection e1 with e1
    subst e1
    rw [← h6, List.getElem?_take] at hj
    split at hj
    · rw [Lib.cell_of_heap h2, ← Array.getElem?_toList]; exact hj
    · cases hj
theorem own_some {w : World} {base n s : Nat} {e : TypeId} {v : Value} {xs : List Value} (h : w.ownsRow base e s v n xs) (hn : 0 < n) : ∃ g cap, v = .slice (some ⟨g, 0, none⟩) n cap := by
  rcases h.2 with ⟨_, h0⟩ | ⟨g', cap', cur, e1, h1⟩
  · omega
  · exact ⟨g', cap', e1⟩
theorem xpath_path (a : Nat) (h : a < 8) : V.path (xpath a).data.toList = true := (imp_facts a h).2.2.2.2.2.2.1
theorem plOf_ne (a b : Nat) : plOf b ≠ (xpath a, ⟨#[]⟩) := fun e => by
  have := congrArg (fun p : ByteArray × ByteArray => p.1.size) e
  have h2 : (1 : Nat) = 3 := this
  omega

set_option maxHeartbeats 3200000 in
set_option maxRecDepth 100000 in
theorem find_any (B a : Nat) (F : Nat → ByteArray) (lv : Value) (m : Int) (w : World) (ha : a < 8) (hm : w.cell? ⟨0, 0, none⟩ = some (.int .i64 m)) (h : Library B F w lv) :
    Calls Tryz.prog 400 #[lv, .string (xpath a)] w fun e w' => ∃ u, e = .returned (.tuple #[u, .nilIface]) ∧ Src w' B F a u ∧ Below w.heap.size w w' := by
  obtain ⟨i0, hi, hz0, hz1, hz2⟩ := info_parts info73
  obtain ⟨mb, sv, ss, rfl, hmb, hmap, hown, hsrc⟩ := h
  obtain ⟨sg, sc, rfl⟩ := own_some hown (by omega)
  have HL := hide (show Library B F w (.agg #[.map (some mb), .slice (some ⟨sg, 0, none⟩) 8 sc]) from ⟨mb, _, ss, rfl, hmb, hmap, hown, hsrc⟩)
  obtain ⟨u, hu, hus⟩ := hsrc a ha
  have HU := hide hus
  obtain ⟨ug, uc, ucur, rfl, -⟩ := hus
  have s0 := own_cells hown a _ hu
  have HMAP := hide hmap
  clear hmap hown hsrc hu
  have hsg : sg < w.heap.size := World.block_lt_of_cell? (h := s0)
  go_enter Tryz.func400, Tryz.ntmps400
  go_wp2_with fail
  refine (pathCheck_yes (xpath a) m _ (by show (3 : Nat) ≤ _; omega) (keepA hm _) (xpath_path a ha)).mono ?_
  rintro e w1 ⟨rfl, hb1⟩
  have HB1 := hide ((below1 w (.cells #[.map (some mb), .slice (some ⟨sg, 0, none⟩) 8 sc] 272)).trans (hb1.mono (by rw [alloc_size]; omega)))
  have l0 : w1.cell? ⟨w.heap.size, 0, none⟩ = some (.map (some mb)) := keep hb1 (by rw [Lib.cell_of_heap (alloc_last _ _ _ rfl)]; rfl)
  have l1 : w1.cell? ⟨w.heap.size, 1, none⟩ = some (.slice (some ⟨sg, 0, none⟩) 8 sc) := keep hb1 (by rw [Lib.cell_of_heap (alloc_last _ _ _ rfl)]; rfl)
  clear hb1
  go_wp2_with fail
  refine (placesOf_any a ha _).mono ?_
  rintro e w2 ⟨pv, rfl, hpo, hb2⟩
  obtain ⟨pg, pc, rfl⟩ := own_some hpo (by omega)
  have p0 := own_cells hpo 0 (.string (xpath a)) rfl
  have p1 := own_cells hpo 1 (.string ⟨#[]⟩) rfl
  have p2 := own_cells hpo 2 (.string sX) rfl
  have p3 := own_cells hpo 3 (.string (fdir a)) rfl
  have l0' := keep hb2 l0
  have l1' := keep hb2 l1
  have HB2 := hide (HB1.out.trans (hb2.mono HB1.out.size))
  clear hb2 l0 l1 hpo HB1
  have hmap2 : Hid (∀ wr o, Below w2.heap.size w2 wr → (wr.alloc o).heap[mb]? = some (.map (libEntries 8) 8)) := hide fun wr o hb => by
    have hs2 : mb < w2.heap.size := Nat.lt_of_lt_of_le hmb HB2.out.size
    rw [alloc_else _ _ _ (Nat.lt_of_lt_of_le hs2 hb.size), hb.block mb hs2, HB2.out.block mb hmb]; exact HMAP.out
  have s2 := keep HB2.out s0
  have hw1 : w.heap.size < w2.heap.size := World.block_lt_of_cell? (h := l0')
  go_wp2_with fail
  go_loopw [7, 21] (fun f i wr => (i = .int .i64 0 ∧ f = .slice none 0 0 ∧ Hid (Below w2.heap.size w2 wr)) ∨ (i = .int .i64 1 ∧ f = .slice none 0 0 ∧ Hid (Below w2.heap.size w2 wr)) ∨ (i = .int .i64 2 ∧ Hid (wr.ownsRow w2.heap.size 73 1 f 1 [.slice (some ⟨ug, 0, none⟩) 1 uc] ∧ Below w2.heap.size w2 wr))) (fun _ i _ => 2 - (intOf i).toNat)
  case atStart => exact Or.inl ⟨rfl, rfl, hide (Below.refl _ _)⟩
  case round =>
    rcases hrel with ⟨rfl, rfl, HB⟩ | ⟨rfl, rfl, HB⟩ | ⟨rfl, H⟩
    · have q0 := keep HB.out p0
      have q1 := keep HB.out p1
      have m0 := keepA (keep HB.out l0') (.cells #[.string (xpath a), .string ⟨#[]⟩] 358)
      have hlk := look_no mb 8 8 (xpath a, ⟨#[]⟩) (wr.alloc (.cells #[.string (xpath a), .string ⟨#[]⟩] 358)) ⟨by show (3 : Nat) ≤ maxLen; unfold maxLen; omega, by show (0 : Nat) ≤ maxLen; omega⟩ (fun b _ => plOf_ne a b) (hmap2.out wr _ HB.out)
      unfold plV at hlk
      simp only at hlk
      have R := hide (HB.out.alloc HB.out.size (.cells #[.string (xpath a), .string ⟨#[]⟩] 358))
      clear hmap2 HB
      go_wp2
      first
        | exact ⟨Or.inr (Or.inl ⟨rfl, rfl, R⟩), by simp [intOf]⟩
        | (go_roundw
           case rel => first | exact Or.inr (Or.inl ⟨rfl, rfl, R⟩) | exact Or.inr (Or.inl ⟨rfl, trivial, R⟩)
           case measure => simp [intOf])
    · have q0 := keep HB.out p2
      have q1 := keep HB.out p3
      have m0 := keepA (keep HB.out l0') (.cells #[.string sX, .string (fdir a)] 358)
      have m1 := keepA (keep HB.out l1') (.cells #[.string sX, .string (fdir a)] 358)
      have t0 := keepA (keep HB.out s2) (.cells #[.string sX, .string (fdir a)] 358)
      have hlk := look_yes mb 8 8 a (wr.alloc (.cells #[.string sX, .string (fdir a)] 358)) (by omega) ha (hmap2.out wr _ HB.out)
      unfold plV plOf at hlk
      simp only at hlk
      have R := hide (HB.out.alloc HB.out.size (.cells #[.string sX, .string (fdir a)] 358))
      have ha8 : (a : Int) < 8 := by omega
      have ha8' : 0 ≤ (a : Int) ∧ (a : Int) < 8 := ⟨by omega, ha8⟩
      clear hmap2 HB
      go_wp2_with (at_builtin; refine wpList_append_own _ rfl _ _ 53 rfl w2.heap.size 73 i0 (.slice none 0 0) 1 24 Tryz.underlying53 hi hz0 hz1 hz2 rfl (by decide) _ _ _ rfl (World.ownsRow_nil _ _ _ _) ⟨wr.heap.size + 1, 0, none⟩ 1 1 [.slice (some ⟨ug, 0, none⟩) 1 uc] rfl rfl ?c1 ?c2 ?c3 ?c4 ?c5 ?_)
      case c1 =>
        intro j x hj
        match j, hj with
        | 0, hj => simp at hj; subst hj; simp [Addr.add]
      case c2 => intro x hx; simp at hx; subst hx; rfl
      case c3 => unfold maxLen; omega
      case c4 => omega
      case c5 => have := R.out.size; rw [alloc_size] at this ⊢; rw [alloc_size]; omega
      intro v' w5 hown' hgrow _
      have hb5 : Below w2.heap.size w2 w5 := (R.out.alloc R.out.size _).grown hgrow (by have := R.out.size; rw [alloc_size]; omega) (fun j hj => by cases hj)
      have R5 : Hid (w5.ownsRow w2.heap.size 73 1 v' 1 [.slice (some ⟨ug, 0, none⟩) 1 uc] ∧ Below w2.heap.size w2 w5) := hide ⟨hown', hb5⟩
      clear hown' hgrow hb5
      go_wp2
      first
        | exact ⟨Or.inr (Or.inr ⟨rfl, R5⟩), by simp [intOf]⟩
        | (go_roundw
           case rel => exact Or.inr (Or.inr ⟨rfl, R5⟩)
           case measure => simp [intOf])
    · obtain ⟨ho, hb⟩ := H.out
      obtain ⟨fg, fc, rfl⟩ := own_some ho (by omega)
      have f0 := own_cells ho 0 _ rfl
      have R := hide (show Src wr B F a (.slice (some ⟨ug, 0, none⟩) 1 uc) ∧ Below w.heap.size w wr from ⟨(HU.out.later HB2.out).later hb, HB2.out.trans (hb.mono HB2.out.size)⟩)
      clear H ho hb hmap2
      go_wp2
      go_ret2
      exact ⟨_, rfl, R.out.1, R.out.2⟩

/-- What is left of paths, in a row of one's own. -/
def RisenO (D : List Nat) (w : World) (e : Ending) (w' : World) : Prop :=
  ∃ D' v, e = .returned v ∧ w'.ownsRow w.heap.size 9 1 v D'.length (pcells D') ∧ (∀ d, d ∈ D' ↔ d ∈ D) ∧ D'.length ≤ D.length ∧ Below w.heap.size w w'
theorem risenO_of {D : List Nat} (hD : ∀ d ∈ D, d < 8) {w w' : World} {e : Ending} (h : Left w (D.map fun d => (xpath d).data.toList) e w') : RisenO D w e w' := by
  obtain ⟨g, cap, rfl, hown, hb⟩ := h
  have hmem : ∀ x, x ∈ Lib.compact ((D.map fun d => (xpath d).data.toList).mergeSort fun x y => decide (x ≤ y)) ↔ x ∈ D.map fun d => (xpath d).data.toList := fun x =>
    ⟨fun hx => (List.mergeSort_perm _ _).subset (mem_compact hx), fun hx => mem_compact' ((List.mergeSort_perm _ _).symm.subset hx)⟩
  have hlen : (Lib.compact ((D.map fun d => (xpath d).data.toList).mergeSort fun x y => decide (x ≤ y))).length ≤ D.length := by
    have := Lib.compact_length_le ((D.map fun d => (xpath d).data.toList).mergeSort fun x y => decide (x ≤ y))
    rw [List.length_mergeSort, List.length_map] at this
    exact this
  generalize Lib.compact ((D.map fun d => (xpath d).data.toList).mergeSort fun x y => decide (x ≤ y)) = R at hown hmem hlen ⊢
  obtain ⟨D', rfl, hD'⟩ := paths_of (D := D) R fun x hx => by
    obtain ⟨d, hd, rfl⟩ := List.mem_map.1 ((hmem x).1 hx)
    exact ⟨d, hd, rfl⟩
  rw [List.length_map] at hlen
  refine ⟨D', _, rfl, ?_, fun d => ⟨hD' d, fun hd => ?_⟩, hlen, hb⟩
  · rw [List.length_map] at hown ⊢
    have e1 : (D'.map fun d => (xpath d).data.toList).map encStr = pcells D' := by
      unfold pcells
      rw [List.map_map]
      rfl
    rw [e1] at hown
    exact hown
  · obtain ⟨d', h1, h2⟩ := List.mem_map.1 ((hmem _).2 (List.mem_map.2 ⟨d, hd, rfl⟩))
    rw [← xpath_inj (hD d' (hD' d' h1)) (hD d hd) h2]; exact h1
set_option maxHeartbeats 2000000 in
set_option maxRecDepth 100000 in
theorem rising_nil0 (w : World) : Calls Tryz.prog 164 #[.slice none 0 0] w fun e w' => e = .returned (.slice none 0 0) ∧ w' = w := by
  go_enter Tryz.func164, Tryz.ntmps164
  go_wp2_with (first
    | (go_at_call 235; refine (Tryz.slices_Clone_string_nil 0 0 _).mono ?_; rintro e w1 ⟨rfl, rfl⟩)
    | (go_at_call 236; refine (Tryz.slices_Sort_string_none none 0 _).mono ?_; rintro e w1 ⟨rfl, rfl⟩)
    | (go_at_call 237; refine (Tryz.slices_Compact_string_empty none 0 _).mono ?_; rintro e w1 ⟨rfl, rfl⟩))
  go_ret
  exact ⟨rfl, rfl⟩
theorem risingO_any (D : List Nat) (hD : ∀ d ∈ D, d < 8) (hl : D.length ≤ 1000) (v : Value) (base : Nat) (w : World) (ho : w.ownsRow base 9 1 v D.length (pcells D)) :
    Calls Tryz.prog 164 #[v] w (RisenO D w) := by
  by_cases h0 : v = .slice none 0 0
  · have hn : D = [] := by
      obtain ⟨a, c, h⟩ := own_form ho
      rw [h0] at h
      injection h with _ h _
      exact List.eq_nil_of_length_eq_zero h.symm
    subst hn h0
    refine (rising_nil0 w).mono ?_
    rintro e w' ⟨rfl, rfl⟩
    exact ⟨[], _, rfl, World.ownsRow_nil _ _ _ _, fun d => Iff.rfl, Nat.le_refl _, Below.refl _ _⟩
  · obtain ⟨g, cap, rfl, -⟩ := Lib.holds_of_ownsRow (enc := Value.string) (zs := D.map xpath) (by simpa [pcells, Function.comp_def] using ho) h0
    refine (rising_tail D.length _ (D.map fun d => (xpath d).data.toList) w (by omega) ?_).mono fun e w' h => risenO_of hD h
    refine (Tryz.slices_Clone_string g 0 D.length cap (D.map xpath) w (by simp) (by omega) fun j hj => ?_).mono ?_
    · have hj' : j < D.length := by simpa using hj
      rw [Nat.zero_add]
      refine own_cells ho j _ ?_
      simp [pcells, List.getD, hj']
    · rintro e w' ⟨v, rfl, h1, h2, h3⟩
      refine ⟨v, rfl, ?_, h2, h3⟩
      rw [List.take_of_length_le (by simp), ← Lib.map_encStr, List.map_map, List.map_map] at h1
      rw [List.map_map]
      exact h1

set_option maxHeartbeats 3200000 in
set_option maxRecDepth 100000 in
/-- What a package imports. -/
theorem pimports_any (B a : Nat) (D : Nat → List Nat) (lv : Value) (m : Int) (w : World) (ha : a < 8) (hD : ∀ d ∈ D a, d < 8) (hDl : (D a).length ≤ 8) (hm : w.cell? ⟨0, 0, none⟩ = some (.int .i64 m)) (h : Library B (fun x => fileData (D x)) w lv) :
    Calls Tryz.prog 335 #[lv, .string (xpath a)] w fun e w' => ∃ L v, e = .returned (.tuple #[v, .nilIface]) ∧ w'.ownsRow w.heap.size 9 1 v L.length (pcells L) ∧ (∀ d, d ∈ L ↔ d ∈ D a) ∧ L.length ≤ 8 ∧ Below w.heap.size w w' := by
  obtain ⟨i0, hi, hz0, hz1, hz2⟩ := info_parts info9
  have HL := hide h
  obtain ⟨mb, sv, ss, rfl, -, -, hown, -⟩ := h
  obtain ⟨sg, sc, rfl⟩ := own_some hown (by omega)
  clear hown
  go_enter Tryz.func335, Tryz.ntmps335
  go_wp2_with fail
  refine (find_any B a _ _ m _ ha (keepA hm _) (HL.out.later (below1 w _))).mono ?_
  rintro e w1 ⟨u, rfl, hus, hb1⟩
  obtain ⟨ug, uc, ucur, rfl, u1, u2, u3, u4⟩ := hus
  have c0 : w1.cell? ⟨ug, 0, none⟩ = some (.string (fname a)) := by rw [Lib.cell_of_heap u2]; exact u3
  have c1 : w1.cell? ⟨ug, 1, none⟩ = some (.string (fileData (D a))) := by rw [Lib.cell_of_heap u2]; exact u4
  have HB1 := hide ((below1 w (.cells #[.map (some mb), .slice (some ⟨sg, 0, none⟩) 8 sc] 272)).trans (hb1.mono (by rw [alloc_size]; omega)))
  have m1 := keep HB1.out hm
  have HDD := hide hD
  clear hb1 u1 u2 u3 u4 HL hD
  go_wp2_with fail
  go_loopw [8, 24] (fun f i wr => (i = .int .i64 0 ∧ f = .slice none 0 0 ∧ wr = w1) ∨ (i = .int .i64 1 ∧ Hid (wr.ownsRow w.heap.size 9 1 f (D a).length (pcells (D a)) ∧ Below w.heap.size w wr))) (fun _ i _ => 1 - (intOf i).toNat)
  case atStart => exact Or.inl ⟨rfl, rfl, rfl⟩
  case round =>
    rcases hrel with ⟨rfl, rfl, hwr⟩ | ⟨rfl, H⟩
    · have hwr' := hwr.symm
      clear hwr
      subst hwr'
      have hm2 := keepA m1 (.cells #[.string (fname a), .string (fileData (D a))] 77)
      go_wp2_with fail
      refine (imports_any (D a) HDD.out hDl m _ hm2).mono ?_
      rintro e w2 ⟨iv, rfl, hio, hb2⟩
      have HB2 := hide ((HB1.out.alloc HB1.out.size (.cells #[.string (fname a), .string (fileData (D a))] 77)).trans (hb2.mono (by have := HB1.out.size; rw [alloc_size]; omega)))
      have HIO := hide hio
      have hcase : (iv = .slice none 0 0 ∧ (D a).length = 0) ∨ ∃ g cap, iv = .slice (some ⟨g, 0, none⟩) (D a).length cap := by
        rcases hio.2 with h | ⟨g, cap, cur, e, _⟩
        · exact Or.inl h
        · exact Or.inr ⟨g, cap, e⟩
      clear hb2 hio
      rcases hcase with ⟨rfl, hn0⟩ | ⟨ig, ic, rfl⟩
      · have R : Hid (w2.ownsRow w.heap.size 9 1 (.slice none 0 0) (D a).length (pcells (D a)) ∧ Below w.heap.size w w2) := by
          refine hide ⟨?_, HB2.out⟩
          have : D a = [] := List.eq_nil_of_length_eq_zero hn0
          rw [this]; exact World.ownsRow_nil _ _ _ _
        clear hn0
        go_wp2
        first
          | exact ⟨Or.inr ⟨rfl, R⟩, by simp [intOf]⟩
          | (go_roundw
             case rel => exact Or.inr ⟨rfl, R⟩
             case measure => simp [intOf])
      · have HC : Hid (∀ j u, (pcells (D a))[j]? = some u → w2.cell? ⟨ig, 0 + j, none⟩ = some u) := hide fun j u hj => by rw [Nat.zero_add]; exact own_cells HIO.out j u hj
        have HLN : Hid ((pcells (D a)).length = (D a).length * 1) := hide (by simp [pcells])
        have H1 : Hid (∀ u ∈ pcells (D a), u.oneCell' = true) := hide fun u hu => by
          unfold pcells at hu
          obtain ⟨x, _, rfl⟩ := List.mem_map.1 hu
          rfl
        clear HIO
        generalize hxs : pcells (D a) = xs at HC HLN H1
        generalize hnn : (D a).length = n at HLN hDl
        have HXS := hide hxs
        have HNN := hide hnn
        clear hxs hnn
        go_wp2_with (at_builtin; refine wpList_append_own _ rfl _ _ 50 rfl w.heap.size 9 i0 (.string ⟨#[]⟩) 1 16 Tryz.underlying50 hi hz0 hz1 hz2 rfl (by decide) _ _ _ rfl (World.ownsRow_nil _ _ _ _) ⟨ig, 0, none⟩ n ic xs rfl ?c0 ?c1 ?c2 ?c3 ?c4 ?c5 ?_)
        case c0 => exact HLN.out
        case c1 =>
          intro j u hj
          rw [show (⟨ig, 0, none⟩ : Addr).add j = ⟨ig, 0 + j, none⟩ by first | rfl | (unfold Addr.add; split <;> first | rfl | simp_all)]
          exact HC.out j u hj
        case c2 => exact H1.out
        case c3 => unfold maxLen; omega
        case c4 => omega
        case c5 => exact HB2.out.size
        intro v' w5 hown' hgrow _
        have hb5 : Below w.heap.size w w5 := HB2.out.grown hgrow HB2.out.size (fun j hj => by cases hj)
        have R5 : Hid (w5.ownsRow w.heap.size 9 1 v' (D a).length (pcells (D a)) ∧ Below w.heap.size w w5) := hide ⟨by rw [HXS.out, HNN.out]; simpa using hown', hb5⟩
        clear hown' hgrow hb5
        go_wp2
        first
          | exact ⟨Or.inr ⟨rfl, R5⟩, by simp [intOf]⟩
          | (go_roundw
             case rel => exact Or.inr ⟨rfl, R5⟩
             case measure => simp [intOf])
    · have HO := hide H.out.1
      have HB := hide H.out.2
      clear H
      go_wp2_with fail
      refine (risingO_any (D a) HDD.out (by omega) _ _ _ HO.out).mono ?_
      rintro e w3 ⟨L, v, rfl, ho, hmem, hlen, hb⟩
      have R := hide (show w3.ownsRow w.heap.size 9 1 v L.length (pcells L) ∧ (∀ d, d ∈ L ↔ d ∈ D a) ∧ L.length ≤ 8 ∧ Below w.heap.size w w3 from ⟨by
        refine ⟨ho.1, ?_⟩
        rcases ho.2 with h | ⟨g, cap, cur, e, h1, h2⟩
        · exact Or.inl h
        · exact Or.inr ⟨g, cap, cur, e, by have := HB.out.size; omega, h2⟩, hmem, by omega, HB.out.trans (hb.mono HB.out.size)⟩)
      clear ho hmem hlen hb
      go_wp2_with fail
      go_ret2
      exact ⟨L, v, rfl, R.out.1, R.out.2.1, R.out.2.2.1, R.out.2.2.2⟩
end Go.Proofs.YtcfhleenecfghaaGreatDoor
