/- The sum of a release by the reference. -/
import Derived.Test.YtcfhleenecfghaaDoorDgz
namespace Go.Proofs.YtcfhleenecfghaaDoor
open Go.RowKit

theorem hexCut (u : Nat) : ((⟨#[48, 49, 50, 51, 52, 53, 54, 55, 56, 57, 97, 98, 99, 100, 101, 102]⟩ : ByteArray).extract (u % 16) (u % 16 + 1)).data.toList = [V.hexd u] := by
  unfold V.hexd
  have hv : u % 16 < 16 := Nat.mod_lt _ (by decide)
  generalize u % 16 = k at hv ⊢
  rcases below16 hv with rfl | rfl | rfl | rfl | rfl | rfl | rfl | rfl | rfl | rfl | rfl | rfl | rfl | rfl | rfl | rfl <;> first | rfl | decide
theorem size0 : (⟨#[0]⟩ : ByteArray).size = 1 := rfl
set_option maxHeartbeats 1600000 in
set_option maxRecDepth 100000 in
theorem rdigest_any (p v m : ByteArray) (fs : Value) (L : List Fil) (w : World) (hp : p.size ≤ 140737488355328) (hv : v.size ≤ 140737488355328) (hmm : m.size ≤ 140737488355328) (hl : L.length ≤ 4398046511104) (hz : ∀ f ∈ L, f.1.size ≤ 140737488355328 ∧ f.2.size ≤ 140737488355328) (hc : FilesIn w fs L) :
    Calls Tryd.prog 15 #[.agg #[.string p, .string v, .string m, fs]] w fun e w' => ∃ t : ByteArray, e = .returned (.string t) ∧ t.data.toList = V.sumText (V.sumOf p.data.toList v.data.toList m.data.toList L) ∧ Below w.heap.size w w' := by
  have HC : Hid (FilesIn w fs L) := hc
  clear hc
  have hb0 : ∀ o, Below w.heap.size w (w.alloc o) := fun o => (Below.refl _ w).alloc (Nat.le_refl _) o
  have HB : Hid _ := hb0
  clear hb0
  go_enter Tryd.func15, Tryd.ntmps15
  go_wp2_with fail
  go_at_call 29
  refine (rhash_any _ _ _ (by simp only [ByteArray.size_append, size0]; unfold maxLen; omega)).mono ?_
  rintro e w' ⟨rfl, rfl⟩
  have HE : Hid (V.mixL 14695981039346656037 (p ++ ⟨#[0]⟩ ++ v ++ ⟨#[0]⟩ ++ m ++ ⟨#[0]⟩ : ByteArray).data.toList = V.head p.data.toList v.data.toList m.data.toList) := hide (by
    rw [← V.head_eq]
    simp [V.start])
  rw [HE.out]
  clear HE
  go_wp2_with fail
  go_at_call 30
  refine (rfiles_any fs L _ hl (HC.out.later (HB.out _))).mono ?_
  rintro e w1 ⟨v', rfl, hv', hb1⟩
  have hb : Below w.heap.size w w1 := (HB.out _).trans (hb1.mono (by simp))
  clear hb1 HC
  have hF : ∀ f ∈ V.files L, f.1.size ≤ 140737488355328 ∧ f.2.size ≤ 140737488355328 := fun f hf => hz f (V.files_sub L f hf)
  have HS : Hid (V.sumOf p.data.toList v.data.toList m.data.toList L = (V.files L).foldl V.mixF (V.head p.data.toList v.data.toList m.data.toList)) := hide rfl
  have hr0 : 0 ≤ V.head p.data.toList v.data.toList m.data.toList ∧ V.head p.data.toList v.data.toList m.data.toList < 18446744073709551616 := V.mixT_range _ _
  have hfl : (V.files L).length ≤ 4398046511104 := Nat.le_trans (V.files_len L) hl
  generalize V.head p.data.toList v.data.toList m.data.toList = h0 at HS hr0 ⊢
  generalize V.files L = F at hv' hF HS hfl
  have hv2 : ∃ a c, v' = .slice a F.length c ∧ (∀ k (h : k < F.length), ∃ g o, a = some ⟨g, o, none⟩ ∧ w1.cell? ⟨g, o + k * 2, none⟩ = some (.string F[k].1) ∧ w1.cell? ⟨g, o + k * 2 + 1, none⟩ = some (.string F[k].2)) := by
    rcases hv' with ⟨rfl, rfl⟩ | ⟨a, c, rfl, rfl⟩ | ⟨g, o, c, rfl, hc⟩
    · exact ⟨none, 0, rfl, fun k h => absurd h (Nat.not_lt_zero _)⟩
    · exact ⟨some a, c, rfl, fun k h => absurd h (Nat.not_lt_zero _)⟩
    · exact ⟨_, c, rfl, fun k h => ⟨g, o, rfl, filesAt_one hc k h⟩⟩
  obtain ⟨a, c, rfl, hcell⟩ := hv2
  have HCE : Hid _ := hcell
  clear hcell hv'
  go_wp2
  go_loopw [3, 5] (fun vh vi wr => ∃ (k : Nat) (h : Int), k ≤ F.length ∧ vi = .int .i64 k ∧ vh = .int .u64 h ∧ Hid (h = (F.take k).foldl V.mixF h0) ∧ Hid (∃ q, wr = w1.drewN q)) (fun _ vi _ => F.length - (intOf vi).toNat)
  case atStart => exact ⟨0, h0, Nat.zero_le _, rfl, rfl, rfl, 0, rfl⟩
  case round =>
    obtain ⟨k, h, hk, rfl, rfl, HH, HW⟩ := hrel
    by_cases hlt : k < F.length
    · obtain ⟨g, o, rfl, q1, q2⟩ := HCE.out k hlt
      have hbw : Below w1.heap.size w1 wr := by
        obtain ⟨q, e⟩ := HW.out
        rw [e]
        exact below_drewN (Below.refl _ _) _
      replace q1 := keep hbw q1
      replace q2 := keep hbw q2
      clear hbw
      obtain ⟨z1, z2⟩ := hF F[k] (List.getElem_mem hlt)
      have hltz : (k : Int) < (F.length : Int) := by omega
      have HN : Hid ((F.take (k + 1)).foldl V.mixF h0 = V.mixF h F[k]) := hide (by rw [V.fold_snoc F h0 k hlt, ← HH.out])
      generalize F[k] = fk at q1 q2 z1 z2 HN
      have HX : Hid (V.mixF h fk = V.mixL h (fk.1 ++ ⟨#[0]⟩ ++ fk.2 ++ ⟨#[0]⟩ : ByteArray).data.toList) := hide (by rw [← V.mixF_eq]; simp)
      have hz3 : (fk.1 ++ ⟨#[0]⟩ ++ fk.2 ++ ⟨#[0]⟩ : ByteArray).size ≤ maxLen := by simp only [ByteArray.size_append, size0]; unfold maxLen; omega
      have z4 : ¬ 9223372036854775807 < fk.1.size + 1 := by omega
      have z5 : ¬ 9223372036854775807 < fk.1.size + 1 + fk.2.size := by omega
      have z6 : ¬ 9223372036854775807 < fk.1.size + 1 + fk.2.size + 1 := by omega
      have e0 := size0
      go_wp2_with fail
      go_quiet ((go_at_call 29; exact Calls.quiet_of_same (rhash_any _ _ _ (by assumption))))
      go_wp2
      go_round
      case rel =>
        refine ⟨k + 1, _, hlt, by go_num, rfl, hide (by rw [HN.out, HX.out]), hide ?_⟩
        obtain ⟨q, e⟩ := HW.out
        exact ⟨_, by rw [e, World.drewN_drewN]⟩
      case measure => simp [intOf]; omega
    · obtain ⟨q, e⟩ := HW.out
      subst e
      have e1 : F.take k = F := List.take_of_length_le (by omega)
      have hr1 := V.fold_range F h0 hr0
      rw [e1] at HH
      rw [← HH.out] at hr1
      obtain ⟨u0, rfl⟩ : ∃ u0 : Nat, h = u0 := ⟨h.toNat, by omega⟩
      have HS2 : Hid (V.sumOf p.data.toList v.data.toList m.data.toList L = u0) := hide (by rw [HS.out, HH.out])
      clear HH HS e1 HCE
      go_wp2
      go_loopw [3, 6, 7] (fun vh vs vi wr => ∃ (k u : Nat) (s : ByteArray), k ≤ 16 ∧ vi = .int .i64 k ∧ vh = .int .u64 u ∧ u < 18446744073709551616 ∧ vs = .string s ∧ s.size = k ∧ Hid (V.hexR (16 - k) u s.data.toList = V.hexR 16 u0 []) ∧ wr = w1.drewN q) (fun _ _ vi _ => 16 - (intOf vi).toNat)
      case atStart => exact ⟨0, u0, ByteArray.empty, by omega, rfl, rfl, by omega, rfl, rfl, rfl, rfl⟩
      case round =>
        obtain ⟨k2, u, s, hk2, rfl, rfl, hu, rfl, hsz, HX, rfl⟩ := hrel
        by_cases hlt2 : k2 < 16
        · go_wp2
          go_round
          case rel =>
            refine ⟨k2 + 1, u / 16, _, by omega, by go_num, by go_num, by omega, rfl, ?_, ?_, trivial⟩
            · have := congrArg List.length (hexCut u)
              have e3 : ((⟨#[48, 49, 50, 51, 52, 53, 54, 55, 56, 57, 97, 98, 99, 100, 101, 102]⟩ : ByteArray).extract (u % 16) (u % 16 + 1)).size = 1 := this
              rw [ByteArray.size_append, e3, hsz]
              omega
            · refine hide ?_
              rw [← HX.out, show 16 - k2 = (16 - (k2 + 1)) + 1 by omega, V.hexR]
              have := hexCut u
              rw [show ∀ (a b : ByteArray), (a ++ b).data.toList = a.data.toList ++ b.data.toList from fun a b => by simp, this]
              rfl
          case measure => simp [intOf]; omega
        · have e2 : k2 = 16 := by omega
          subst e2
          go_wp2
          go_ret
          refine ⟨s, rfl, ?_, below_drewN hb _⟩
          rw [HS2.out]
          exact HX.out
end Go.Proofs.YtcfhleenecfghaaDoor
