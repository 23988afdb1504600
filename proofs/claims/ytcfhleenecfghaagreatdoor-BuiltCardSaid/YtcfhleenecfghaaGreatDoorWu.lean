/- Whether tokens are of given kinds, and what a keyword and the tokens behind it say. -/
import Derived.Test.YtcfhleenecfghaaGreatDoorWt
import Derived.Test.YtcfhleenecfghaaGreatDoorWo2
namespace Go.Proofs.YtcfhleenecfghaaGreatDoor
open Go.RowKit

/-- Tokens that lie in memory from a place on. -/
def Toks (w : World) (g off : Nat) (ws : List ByteArray) : Prop :=
  ∀ j, j < ws.length → w.cell? ⟨g, off + j * 2, none⟩ = some (.int .i64 (V.kind (ws.getD j ByteArray.empty).data.toList)) ∧ w.cell? ⟨g, off + j * 2 + 1, none⟩ = some (.string (ws.getD j ByteArray.empty))
theorem Toks.later {w w' : World} {g off : Nat} {ws : List ByteArray} (h : Toks w g off ws) (hb : Below w.heap.size w w') : Toks w' g off ws :=
  fun j hj => ⟨keep hb (h j hj).1, keep hb (h j hj).2⟩
theorem Toks.alloc {w : World} {g off : Nat} {ws : List ByteArray} (h : Toks w g off ws) (o : Obj) : Toks (w.alloc o) g off ws :=
  h.later ((Below.refl _ _).alloc (Nat.le_refl _) _)

theorem fit_len {ws : List ByteArray} {ks : List Int} (h : ws.length ≠ ks.length) : V.fit ws ks = false := by
  unfold V.fit
  rw [beq_eq_false_iff_ne]
  intro e
  exact h (by rw [← e, List.length_map])
theorem fit_at {ws : List ByteArray} {ks : List Int} {k : Nat} (h1 : k < ws.length) (_h2 : k < ks.length) (h : V.kind (ws.getD k ByteArray.empty).data.toList ≠ ks.getD k 0) : V.fit ws ks = false := by
  unfold V.fit
  rw [beq_eq_false_iff_ne]
  intro e
  apply h
  have this : (ws.map fun s => V.kind s.data.toList).getD k 0 = ks.getD k 0 := by rw [e]
  rw [← this, V.getD_at _ _ h1, V.getD_at _ _ (by simpa using h1)]
  simp
theorem fit_all {ws : List ByteArray} {ks : List Int} (hl : ws.length = ks.length) (h : ∀ j, j < ks.length → V.kind (ws.getD j ByteArray.empty).data.toList = ks.getD j 0) : V.fit ws ks = true := by
  unfold V.fit
  rw [beq_iff_eq]
  apply List.ext_getElem
  · simpa using hl
  · intro j h1 h2
    have := h j h2
    rw [V.getD_at _ _ (by omega), V.getD_at _ _ h2] at this
    simpa using this

set_option maxHeartbeats 800000 in
theorem fit_any (g off c b kc : Nat) (ws : List ByteArray) (ks : List Int) (w : World) (_hl : ws.length ≤ 1000000000000) (hkl : ks.length ≤ 100) (ht : Toks w g off ws) (hk : ∀ j, j < ks.length → w.cell? ⟨b, j, none⟩ = some (.int .i64 (ks.getD j 0))) :
    Calls Tryz.prog 342 #[.slice (some ⟨g, off, none⟩) ws.length c, .slice (some ⟨b, 0, none⟩) ks.length kc] w fun e w' => e = .returned (.bool (V.fit ws ks)) ∧ w' = w := by
  cases hne : ((ws.length : Int) != (ks.length : Int))
  · have hlen : ws.length = ks.length := by have := bne_eq_false_iff_eq.1 hne; omega
    have HLEN := hide hlen
    have HT := hide ht
    have HK := hide hk
    have i0 : ws.length ≤ ks.length := by omega
    have i1 : ks.length ≤ ws.length := by omega
    clear hlen ht hk
    go_enter Tryz.func342, Tryz.ntmps342
    go_wp2
    go_loop [14] (fun i => ∃ k : Nat, k ≤ ks.length ∧ i = .int .i64 k ∧ Hid (∀ j, j < k → V.kind (ws.getD j ByteArray.empty).data.toList = ks.getD j 0)) (fun i => ks.length - (intOf i).toNat)
    case atStart => exact ⟨0, by omega, rfl, hide (fun j hj => by omega)⟩
    case round =>
      obtain ⟨k, hk, rfl, H⟩ := hrel
      by_cases hlt : k < ks.length
      · have t0 := (HT.out k (by omega)).1
        have k0 := HK.out k hlt
        generalize hx : V.kind (ws.getD k ByteArray.empty).data.toList = x at t0
        generalize hy : ks.getD k 0 = y at k0
        have HXX := hide hx
        have HYY := hide hy
        clear hx hy
        cases hxy : (x != y)
        · go_wp2
          go_round
          case rel =>
            refine ⟨k + 1, by omega, by go_num, hide (fun j hj => ?_)⟩
            by_cases e : j = k
            · subst e; rw [HXX.out, HYY.out]; exact bne_eq_false_iff_eq.1 hxy
            · exact H.out j (by omega)
          case measure => simp [intOf]; omega
        · go_wp2
          go_ret
          exact ⟨ret_bool (fit_at (by omega) hlt (by rw [HXX.out, HYY.out]; exact bne_iff_ne.1 hxy)).symm, rfl⟩
      · go_wp2
        go_ret
        exact ⟨ret_bool (fit_all HLEN.out (fun j hj => H.out j (by omega))).symm, rfl⟩
  · have HF := hide (fit_len (ws := ws) (ks := ks) (by have := bne_iff_ne.1 hne; omega))
    go_enter Tryz.func342, Tryz.ntmps342
    go_wp2
    go_ret
    exact ⟨ret_bool HF.out.symm, rfl⟩

/-- What meaning answers. -/
def saysV : Option (Nat × List ByteArray) → Value
  | some (t, fs) => .tuple #[.iface t (.agg (fs.map Value.string).toArray), .bool true]
  | none => .tuple #[.nilIface, .bool false]
theorem fit_length {ws : List ByteArray} {ks : List Int} (h : V.fit ws ks = true) : ws.length = ks.length := by
  unfold V.fit at h
  have := eq_of_beq h
  rw [← this, List.length_map]

set_option maxHeartbeats 1600000 in
set_option maxRecDepth 100000 in
theorem meaning_require (g off c : Nat) (ws : List ByteArray) (w : World) (hl : ws.length ≤ 1000000000000) (ht : Toks w g off ws) :
    Calls Tryz.prog 343 #[.int .i64 2, .slice (some ⟨g, off, none⟩) ws.length c] w fun e w' => e = .returned (saysV (V.meaning 2 ws)) ∧ Below w.heap.size w w' := by
  cases hf : V.fit ws [0, 0]
  · have HM : Hid (V.meaning 2 ws = none) := by
      refine hide ?_
      unfold V.meaning; rw [hf]; rfl
    have HT := hide ht
    clear ht
    go_enter Tryz.func343, Tryz.ntmps343
    go_wp2_with fail
    refine (fit_any g off c _ 2 ws [0, 0] _ hl (by decide) (HT.out.alloc _) (fun j hj => by match j, hj with | 0, _ => simp | 1, _ => simp)).mono ?_
    rintro e w1 ⟨rfl, hw1⟩
    rw [hw1, hf]
    clear hw1 w1
    go_wp2
    go_ret2
    exact ⟨by rw [HM.out]; rfl, (Below.refl _ _).alloc (Nat.le_refl _) _⟩
  · have hlen := fit_length hf
    have HM : Hid (V.meaning 2 ws = some (221, [ws.getD 0 ByteArray.empty, ws.getD 1 ByteArray.empty])) := by
      refine hide ?_
      unfold V.meaning; rw [hf]; rfl
    have l2 : (2 : Int) ≤ (ws.length : Int) := by rw [hlen]; decide
    have t0 := fun o => keepA (ht 0 (by rw [hlen]; decide)).2 o
    have t1 := fun o => keepA (ht 1 (by rw [hlen]; decide)).2 o
    have HT := hide ht
    clear ht hlen
    generalize ws.getD 0 ByteArray.empty = x0 at HM t0
    generalize ws.getD 1 ByteArray.empty = x1 at HM t1
    go_enter Tryz.func343, Tryz.ntmps343
    go_wp2_with fail
    refine (fit_any g off c _ 2 ws [0, 0] _ hl (by decide) (HT.out.alloc _) (fun j hj => by match j, hj with | 0, _ => simp | 1, _ => simp)).mono ?_
    rintro e w1 ⟨rfl, hw1⟩
    rw [hw1, hf]
    clear hw1 w1
    go_wp2_with fail
    go_quiet (fail)
    go_wp2
    go_ret2
    exact ⟨by rw [HM.out]; rfl, below_drewN ((Below.refl _ _).alloc (Nat.le_refl _) _) _⟩

set_option maxHeartbeats 1600000 in
set_option maxRecDepth 100000 in
theorem meaning_exclude (g off c : Nat) (ws : List ByteArray) (w : World) (hl : ws.length ≤ 1000000000000) (ht : Toks w g off ws) :
    Calls Tryz.prog 343 #[.int .i64 3, .slice (some ⟨g, off, none⟩) ws.length c] w fun e w' => e = .returned (saysV (V.meaning 3 ws)) ∧ Below w.heap.size w w' := by
  cases hf : V.fit ws [0, 0]
  · have HM : Hid (V.meaning 3 ws = none) := by
      refine hide ?_
      unfold V.meaning; rw [hf]; rfl
    have HT := hide ht
    clear ht
    go_enter Tryz.func343, Tryz.ntmps343
    go_wp2_with fail
    refine (fit_any g off c _ 2 ws [0, 0] _ hl (by decide) (HT.out.alloc _) (fun j hj => by match j, hj with | 0, _ => simp | 1, _ => simp)).mono ?_
    rintro e w1 ⟨rfl, hw1⟩
    rw [hw1, hf]
    clear hw1 w1
    go_wp2
    go_ret2
    exact ⟨by rw [HM.out]; rfl, (Below.refl _ _).alloc (Nat.le_refl _) _⟩
  · have hlen := fit_length hf
    have HM : Hid (V.meaning 3 ws = some (222, [ws.getD 0 ByteArray.empty, ws.getD 1 ByteArray.empty])) := by
      refine hide ?_
      unfold V.meaning; rw [hf]; rfl
    have l2 : (2 : Int) ≤ (ws.length : Int) := by rw [hlen]; decide
    have t0 := fun o => keepA (ht 0 (by rw [hlen]; decide)).2 o
    have t1 := fun o => keepA (ht 1 (by rw [hlen]; decide)).2 o
    have HT := hide ht
    clear ht hlen
    generalize ws.getD 0 ByteArray.empty = x0 at HM t0
    generalize ws.getD 1 ByteArray.empty = x1 at HM t1
    go_enter Tryz.func343, Tryz.ntmps343
    go_wp2_with fail
    refine (fit_any g off c _ 2 ws [0, 0] _ hl (by decide) (HT.out.alloc _) (fun j hj => by match j, hj with | 0, _ => simp | 1, _ => simp)).mono ?_
    rintro e w1 ⟨rfl, hw1⟩
    rw [hw1, hf]
    clear hw1 w1
    go_wp2_with fail
    go_quiet (fail)
    go_wp2
    go_ret2
    exact ⟨by rw [HM.out]; rfl, below_drewN ((Below.refl _ _).alloc (Nat.le_refl _) _) _⟩

set_option maxHeartbeats 1600000 in
set_option maxRecDepth 100000 in
theorem meaning_module (g off c : Nat) (ws : List ByteArray) (w : World) (hl : ws.length ≤ 1000000000000) (ht : Toks w g off ws) :
    Calls Tryz.prog 343 #[.int .i64 1, .slice (some ⟨g, off, none⟩) ws.length c] w fun e w' => e = .returned (saysV (V.meaning 1 ws)) ∧ Below w.heap.size w w' := by
  cases hf : V.fit ws [0]
  · have HM : Hid (V.meaning 1 ws = none) := by
      refine hide ?_
      unfold V.meaning; rw [hf]; rfl
    have HT := hide ht
    clear ht
    go_enter Tryz.func343, Tryz.ntmps343
    go_wp2_with fail
    refine (fit_any g off c _ 1 ws [0] _ hl (by decide) (HT.out.alloc _) (fun j hj => by match j, hj with | 0, _ => simp)).mono ?_
    rintro e w1 ⟨rfl, hw1⟩
    rw [hw1, hf]
    clear hw1 w1
    go_wp2
    go_ret2
    exact ⟨by rw [HM.out]; rfl, (Below.refl _ _).alloc (Nat.le_refl _) _⟩
  · have hlen := fit_length hf
    have HM : Hid (V.meaning 1 ws = some (123, [ws.getD 0 ByteArray.empty])) := by
      refine hide ?_
      unfold V.meaning; rw [hf]; rfl
    have l2 : (1 : Int) ≤ (ws.length : Int) := by rw [hlen]; decide
    have t0 := fun o => keepA (ht 0 (by rw [hlen]; decide)).2 o
    have HT := hide ht
    clear ht hlen
    generalize ws.getD 0 ByteArray.empty = x0 at HM t0
    go_enter Tryz.func343, Tryz.ntmps343
    go_wp2_with fail
    refine (fit_any g off c _ 1 ws [0] _ hl (by decide) (HT.out.alloc _) (fun j hj => by match j, hj with | 0, _ => simp)).mono ?_
    rintro e w1 ⟨rfl, hw1⟩
    rw [hw1, hf]
    clear hw1 w1
    go_wp2
    go_ret2
    exact ⟨by rw [HM.out]; rfl, (Below.refl _ _).alloc (Nat.le_refl _) _⟩

set_option maxHeartbeats 1600000 in
set_option maxRecDepth 100000 in
theorem meaning_none (v : Value) (ws : List ByteArray) (w : World) :
    Calls Tryz.prog 343 #[.int .i64 0, v] w fun e w' => e = .returned (saysV (V.meaning 0 ws)) ∧ Below w.heap.size w w' := by
  go_enter Tryz.func343, Tryz.ntmps343
  go_wp2
  go_ret2
  exact ⟨rfl, Below.refl _ _⟩

set_option maxHeartbeats 3200000 in
set_option maxRecDepth 100000 in
theorem meaning_replace (g off c : Nat) (ws : List ByteArray) (w : World) (hl : ws.length ≤ 1000000000000) (ht : Toks w g off ws) :
    Calls Tryz.prog 343 #[.int .i64 4, .slice (some ⟨g, off, none⟩) ws.length c] w fun e w' => e = .returned (saysV (V.meaning 4 ws)) ∧ Below w.heap.size w w' := by
  have HT := hide ht
  cases hf : V.fit ws [0, 3, 0, 0]
  · cases hf5 : V.fit ws [0, 0, 3, 0, 0]
    · have HM : Hid (V.meaning 4 ws = none) := by
        refine hide ?_
        unfold V.meaning; rw [hf, hf5]; rfl
      clear ht
      go_enter Tryz.func343, Tryz.ntmps343
      go_wp2_with fail
      refine (fit_any g off c _ 4 ws [0, 3, 0, 0] _ hl (by decide) (HT.out.alloc _) (fun j hj => by match j, hj with | 0, _ => simp | 1, _ => simp | 2, _ => simp | 3, _ => simp)).mono ?_
      rintro e w1 ⟨rfl, hw1⟩
      rw [hw1, hf]
      clear hw1 w1
      go_wp2_with fail
      refine (fit_any g off c _ 5 ws [0, 0, 3, 0, 0] _ hl (by decide) ((HT.out.alloc _).alloc _) (fun j hj => by match j, hj with | 0, _ => simp | 1, _ => simp | 2, _ => simp | 3, _ => simp | 4, _ => simp)).mono ?_
      rintro e w1 ⟨rfl, hw1⟩
      rw [hw1, hf5]
      clear hw1 w1
      go_wp2
      go_ret2
      exact ⟨by rw [HM.out]; rfl, ((Below.refl _ _).alloc (Nat.le_refl _) _).alloc (by simp) _⟩
    · have hlen := fit_length hf5
      have HM : Hid (V.meaning 4 ws = some (224, [ws.getD 0 ByteArray.empty, ws.getD 1 ByteArray.empty, ws.getD 3 ByteArray.empty, ws.getD 4 ByteArray.empty])) := by
        refine hide ?_
        unfold V.meaning; rw [hf, hf5]; rfl
      have l5 : (5 : Int) ≤ (ws.length : Int) := by rw [hlen]; decide
      have t0 := fun o1 o2 => keepA (keepA (ht 0 (by rw [hlen]; decide)).2 o1) o2
      have t1 := fun o1 o2 => keepA (keepA (ht 1 (by rw [hlen]; decide)).2 o1) o2
      have t3 := fun o1 o2 => keepA (keepA (ht 3 (by rw [hlen]; decide)).2 o1) o2
      have t4 := fun o1 o2 => keepA (keepA (ht 4 (by rw [hlen]; decide)).2 o1) o2
      clear ht hlen
      generalize ws.getD 0 ByteArray.empty = x0 at HM t0
      generalize ws.getD 1 ByteArray.empty = x1 at HM t1
      generalize ws.getD 3 ByteArray.empty = x3 at HM t3
      generalize ws.getD 4 ByteArray.empty = x4 at HM t4
      go_enter Tryz.func343, Tryz.ntmps343
      go_wp2_with fail
      refine (fit_any g off c _ 4 ws [0, 3, 0, 0] _ hl (by decide) (HT.out.alloc _) (fun j hj => by match j, hj with | 0, _ => simp | 1, _ => simp | 2, _ => simp | 3, _ => simp)).mono ?_
      rintro e w1 ⟨rfl, hw1⟩
      rw [hw1, hf]
      clear hw1 w1
      go_wp2_with fail
      refine (fit_any g off c _ 5 ws [0, 0, 3, 0, 0] _ hl (by decide) ((HT.out.alloc _).alloc _) (fun j hj => by match j, hj with | 0, _ => simp | 1, _ => simp | 2, _ => simp | 3, _ => simp | 4, _ => simp)).mono ?_
      rintro e w1 ⟨rfl, hw1⟩
      rw [hw1, hf5]
      clear hw1 w1
      go_wp2_with fail
      go_quiet (fail)
      go_wp2
      go_ret2
      exact ⟨by rw [HM.out]; rfl, below_drewN (((Below.refl _ _).alloc (Nat.le_refl _) _).alloc (by simp) _) _⟩
  · have hlen := fit_length hf
    have HM : Hid (V.meaning 4 ws = some (224, [ws.getD 0 ByteArray.empty, ⟨#[]⟩, ws.getD 2 ByteArray.empty, ws.getD 3 ByteArray.empty])) := by
      refine hide ?_
      unfold V.meaning; rw [hf]; rfl
    have l4 : (4 : Int) ≤ (ws.length : Int) := by rw [hlen]; decide
    have t0 := fun o => keepA (ht 0 (by rw [hlen]; decide)).2 o
    have t2 := fun o => keepA (ht 2 (by rw [hlen]; decide)).2 o
    have t3 := fun o => keepA (ht 3 (by rw [hlen]; decide)).2 o
    clear ht hlen
    generalize ws.getD 0 ByteArray.empty = x0 at HM t0
    generalize ws.getD 2 ByteArray.empty = x2 at HM t2
    generalize ws.getD 3 ByteArray.empty = x3 at HM t3
    go_enter Tryz.func343, Tryz.ntmps343
    go_wp2_with fail
    refine (fit_any g off c _ 4 ws [0, 3, 0, 0] _ hl (by decide) (HT.out.alloc _) (fun j hj => by match j, hj with | 0, _ => simp | 1, _ => simp | 2, _ => simp | 3, _ => simp)).mono ?_
    rintro e w1 ⟨rfl, hw1⟩
    rw [hw1, hf]
    clear hw1 w1
    go_wp2_with fail
    go_quiet (fail)
    go_wp2
    go_ret2
    exact ⟨by rw [HM.out]; rfl, below_drewN ((Below.refl _ _).alloc (Nat.le_refl _) _) _⟩

end Go.Proofs.YtcfhleenecfghaaGreatDoor
