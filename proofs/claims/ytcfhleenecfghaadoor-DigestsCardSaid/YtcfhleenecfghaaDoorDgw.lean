/- A number's digits to the base sixteen, as the library writes them into a row of bytes from the right. -/
import Derived.Test.YtcfhleenecfghaaDoorDgv
namespace Go.Proofs.YtcfhleenecfghaaDoor
open Go.RowKit

/-- The row of 65 bytes, the last ones written. -/
def HexAt (b : Nat) (wr : World) (s : List UInt8) : Prop :=
  s.length ≤ 65 ∧ (∀ j, j < 65 → (∃ x, wr.cell? ⟨b, j, none⟩ = some x) ∧ wr.frozen? ⟨b, j, none⟩ = false) ∧
    ∀ j (h : j < s.length), wr.cell? ⟨b, 65 - s.length + j, none⟩ = some (.int .u8 ((s[j].toNat : Nat) : Int))
theorem HexAt.push {b : Nat} {wr : World} {s : List UInt8} (c : UInt8) (h : HexAt b wr s) (hs : s.length < 65) :
    HexAt b (wr.setCell ⟨b, 64 - s.length, none⟩ (.int .u8 ((c.toNat : Nat) : Int))) (c :: s) := by
  obtain ⟨_, h2, h3⟩ := h
  refine ⟨by simp; omega, fun j hj => ?_, fun j hj => ?_⟩
  · refine ⟨?_, ?_⟩
    · by_cases e : j = 64 - s.length
      · subst e
        obtain ⟨x, hx⟩ := (h2 _ hj).1
        exact ⟨_, World.cell?_setCell_same _ _ _ hx⟩
      · rw [World.cell?_setCell_other (h := fun e2 => by injection e2; omega)]
        exact (h2 j hj).1
    · rw [World.frozen?_setCell]; exact (h2 j hj).2
  · cases j with
    | zero =>
      obtain ⟨x, hx⟩ := (h2 (64 - s.length) (by omega)).1
      rw [show 65 - (c :: s).length + 0 = 64 - s.length by simp]
      exact World.cell?_setCell_same _ _ _ hx
    | succ j =>
      have hj' : j < s.length := by simpa using hj
      rw [show 65 - (c :: s).length + (j + 1) = 65 - s.length + j by simp; omega, World.cell?_setCell_other (h := fun e2 => by injection e2; omega)]
      exact h3 j hj'
theorem and15 (v : Nat) (h : v < 18446744073709551616) : bits BinOp.and IntKind.u64 (v : Int) 15 = ((v % 16 : Nat) : Int) := by
  have h1 := bits_and_u64_nat v 15 h (by decide)
  rw [show v &&& 15 = v % 16 from Nat.and_two_pow_sub_one_eq_mod v 4] at h1
  exact h1
/-- The library's digits. -/
def hexT : ByteArray := ⟨#[48, 49, 50, 51, 52, 53, 54, 55, 56, 57, 97, 98, 99, 100, 101, 102, 103, 104, 105, 106, 107, 108, 109, 110, 111, 112, 113, 114, 115, 116, 117, 118, 119, 120, 121, 122]⟩
theorem hexT_at (v : Nat) (h : v % 16 < hexT.size) : hexT[v % 16] = V.hexd v := by
  have hv : v % 16 < 16 := Nat.mod_lt _ (by decide)
  unfold V.hexd
  generalize v % 16 = k at hv h ⊢
  have key : ∀ k : Fin 16, hexT.data[k.1]? = some (V.hexs[k.1]!) := by decide
  have h1 := key ⟨k, hv⟩
  obtain ⟨_, h2⟩ := Array.getElem?_eq_some_iff.1 h1
  exact h2
theorem hexT_at' (v : Nat) (hv : v < 16) (h : v < hexT.size) : hexT[v] = V.hexd v := by
  have e : v % 16 = v := Nat.mod_eq_of_lt hv
  have := hexT_at v (by rw [e]; exact h)
  simpa only [e] using this

theorem zeros65 (j : Nat) (h : j < 65) : (Array.replicate 65 (Value.int .u8 0))[j]? = some (.int .u8 0) := by
  rw [Array.getElem?_replicate, if_pos h]
set_option maxHeartbeats 800000 in
set_option maxRecDepth 100000 in
theorem formatBits_16 (u : Nat) (hu : u < 18446744073709551616) (w : World) (hm : w.cell? ⟨5, 15, none⟩ = some (.int .u8 4)) :
    Calls Tryd.prog 93 #[.slice none 0 0, .int .u64 u, .int .i64 16, .bool false, .bool false] w fun e w' =>
      ∃ s : ByteArray, e = .returned (.tuple #[.slice none 0 0, .string s]) ∧ s.data.toList = V.shortR 15 u [] ∧ Below w.heap.size w w' := by
  have hm1 := fun o => keepA hm o
  go_enter Tryd.func93, Tryd.ntmps93
  go_wp2_with (first | (go_at_call 105; refine (power_16 _).mono ?_; rintro e w' ⟨rfl, rfl⟩) | (go_at_call 106; refine (trail_16 _ (hm1 _)).mono ?_; rintro e w' ⟨rfl, rfl⟩))
  go_loopw [1, 13] (fun vu vi wr => ∃ (v : Nat) (s : List UInt8), vu = .int .u64 v ∧ vi = .int .i64 (65 - (s.length : Int)) ∧ s.length ≤ 15 ∧ v < 18446744073709551616 ∧ Hid (v < 16 ^ (16 - s.length)) ∧ Hid (V.shortR (15 - s.length) v s = V.shortR 15 u []) ∧ Hid (HexAt w.heap.size wr s) ∧ Below w.heap.size w wr) (fun vu _ _ => (intOf vu).toNat)
  case atStart =>
    refine ⟨u, [], rfl, rfl, by simp, hu, hu, rfl, ⟨by simp, fun j hj => ?_, fun j hj => absurd hj (Nat.not_lt_zero _)⟩, (Below.refl _ _).alloc (Nat.le_refl _) _⟩
    refine ⟨⟨.int .u8 0, ?_⟩, World.frozen?_alloc_new _ _ _ _⟩
    rw [World.cell?_alloc_new]
    exact zeros65 j hj
  case round =>
    obtain ⟨v, s, rfl, rfl, hs, hv, HV, HS, HH, hb⟩ := hrel
    have ha := and15 v hv
    have hc := (HH.out.2.1 (65 - s.length - 1) (by omega))
    obtain ⟨⟨x, hc⟩, hf⟩ := hc
    by_cases h16 : 16 ≤ v
    · go_wp2
      go_round
      case rel =>
        have hp : s.length + 1 ≤ 15 := by
          by_cases e : s.length = 15
          · exfalso
            have := HV.out
            rw [e] at this
            omega
          · omega
        refine ⟨v / 16, V.hexd v :: s, by go_num, by go_num, by simpa using hp, by omega, ?_, ?_, ?_, hb.setCell (p := ⟨_, _, none⟩) (Nat.le_refl _) _⟩
        · refine hide ?_
          have h1 := HV.out
          rw [show 16 - s.length = (16 - (s.length + 1)) + 1 by omega, Nat.pow_succ] at h1
          simp only [List.length_cons]
          omega
        · refine hide ?_
          rw [← HS.out, show 15 - s.length = (15 - (s.length + 1)) + 1 by omega]
          simp only [List.length_cons, V.shortR, if_pos h16]
        · refine hide ?_
          have h0 : v % 16 < hexT.size := by have : v % 16 < 16 := Nat.mod_lt _ (by decide); exact Nat.lt_of_lt_of_le this (by decide)
          have h1 : HexAt w.heap.size (wr.setCell ⟨w.heap.size, 65 - s.length - 1, none⟩ (.int .u8 ((hexT[v % 16].toNat : Nat) : Int))) (V.hexd v :: s) := by
            rw [hexT_at v h0, show 65 - s.length - 1 = 64 - s.length by omega]
            exact HH.out.push _ (by omega)
          exact h1
      case measure => simp [intOf]; omega
    · have hsl : ∀ W, (Instr.sliceAt 128 (.pointer (some ⟨w.heap.size, 0, none⟩)) (some (.int .i64 (65 - (s.length : Int) - 1))) none none).run Tryd.prog W = .ok (.slice (some ⟨w.heap.size, 65 - s.length - 1, none⟩) (s.length + 1) (s.length + 1)) W := by
        intro W
        have hal : Tryd.prog.arrayLen 128 = 65 := by simp [Program.arrayLen, Tryd.underlying128]
        rw [run_sliceAt_array_l W 128 ⟨w.heap.size, 0, none⟩ (by simp [Program.arrayLen, Program.elem, Tryd.underlying128]) .i64 _ (by omega) (by rw [hal]; omega), hal]
        go_simp
        omega
      have hcv := run_convert_bytes_back (P := Tryd.prog) (wr.setCell ⟨w.heap.size, 64 - s.length, none⟩ (.int .u8 (((V.hexd v).toNat : Nat) : Int))) 84 9 5 ⟨w.heap.size, 64 - s.length, none⟩ (s.length + 1) (V.hexd v :: s) Tryd.underlying84 Tryd.underlying5 Tryd.underlying9 (fun j hj => by
        have h1 := (HH.out.push (V.hexd v) (by omega)).2.2 j hj
        rw [show (⟨w.heap.size, 64 - s.length, none⟩ : Addr).add j = ⟨w.heap.size, 65 - (V.hexd v :: s).length + j, none⟩ by
          unfold Addr.add
          split
          · subst_vars; simp
          · simp]
        exact h1)
      rw [← hexT_at' v (by omega) (Nat.lt_of_lt_of_le (by omega : v < 16) (by decide)), List.length_cons, show 64 - s.length = 65 - s.length - 1 by omega] at hcv
      have HC : Hid _ := hcv
      unfold hexT at hcv
      go_wp2
      go_ret2
      refine ⟨_, rfl, ?_, hb.setCell (p := ⟨_, _, none⟩) (Nat.le_refl _) _⟩
      rw [← HS.out]
      have e : V.shortR (15 - s.length) v s = V.hexd v :: s := by
        cases h : 15 - s.length with
        | zero => rfl
        | succ n => rw [V.shortR, if_neg h16]
      rw [e]
      have e2 : hexT[v]'(Nat.lt_of_lt_of_le (by omega : v < 16) (by decide)) = V.hexd v := hexT_at' v (by omega) _
      rw [← e2]
      rfl
theorem formatUint_16 (u : Nat) (hu : u < 18446744073709551616) (w : World) (hm : w.cell? ⟨5, 15, none⟩ = some (.int .u8 4)) :
    Calls Tryd.prog 67 #[.int .u64 u, .int .i64 16] w fun e w' => ∃ s : ByteArray, e = .returned (.string s) ∧ s.data.toList = V.shortR 15 u [] ∧ Below w.heap.size w w' := by
  have h75 : Calls Tryd.prog 75 #[.int .u64 u, .int .i64 16] w fun e w' => ∃ s : ByteArray, e = .returned (.string s) ∧ s.data.toList = V.shortR 15 u [] ∧ Below w.heap.size w w' := by
    go_enter Tryd.func75, Tryd.ntmps75
    go_wp2_with (go_at_call 93; refine (formatBits_16 u hu _ hm).mono ?_; rintro e w' ⟨s, rfl, hs, hb⟩)
    go_ret
    exact ⟨_, rfl, hs, hb⟩
  go_enter Tryd.func67, Tryd.ntmps67
  go_wp2_with (go_at_call 75; refine h75.mono ?_; rintro e w' ⟨s, rfl, hs, hb⟩)
  go_ret
  exact ⟨_, rfl, hs, hb⟩
end Go.Proofs.YtcfhleenecfghaaDoor
