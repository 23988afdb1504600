/- What the last line says is left out; the lines of statements. -/
import Derived.Test.YtcfhleenecfghaaGreatDoorXi
namespace Go.Proofs.YtcfhleenecfghaaGreatDoor
open Go.RowKit


set_option maxHeartbeats 800000 in
set_option maxRecDepth 100000 in
theorem without_some (gg c n : Nat) (l : List (Nat × Nat × List ByteArray)) (w : World) (hl : l.length ≤ 1000000000000) (hc : l.length ≤ c) (hne : l ≠ []) (ht : Stmts w gg l) :
    Calls Tryz.prog 94 #[.slice (some ⟨gg, 0, none⟩) l.length c, .int .i64 (n : Int)] w fun e w' => e = .returned (.slice (some ⟨gg, 0, none⟩) (V.without l n).length c) ∧ w' = w := by
  obtain ⟨q, hq⟩ : ∃ q, l.length = q + 1 := ⟨l.length - 1, by have := List.length_pos_iff.2 hne; omega⟩
  have hlt : q < l.length := by omega
  have c0 := (ht q hlt).1
  have HV : Hid (V.without l n = if l[q].1 = n then l.dropLast else l) := by
    refine hide ?_
    unfold V.without
    rw [List.getLast?_eq_getElem?, show l.length - 1 = q by omega, List.getElem?_eq_getElem hlt]
  have HL : Hid (l.dropLast.length = q) := hide (by rw [List.length_dropLast]; omega)
  have HQ := hide hq
  clear ht
  generalize l[q].1 = k at c0 HV
  rw [hq] at hl hc hlt ⊢
  clear hq
  cases hk : ((k : Int) == (n : Int))
  · have HN : Hid ((V.without l n).length = q + 1) := by
      refine hide ?_
      rw [HV.out, if_neg (by intro e; subst e; simp at hk)]; exact HQ.out
    rw [HN.out]
    go_enter Tryz.func94, Tryz.ntmps94
    go_wp2
    go_ret
    exact ⟨rfl, rfl⟩
  · have HN : Hid ((V.without l n).length = q) := by
      refine hide ?_
      rw [HV.out, if_pos (by have := eq_of_beq hk; omega)]; exact HL.out
    rw [HN.out]
    go_enter Tryz.func94, Tryz.ntmps94
    go_wp2
    go_ret
    exact ⟨rfl, rfl⟩

end Go.Proofs.YtcfhleenecfghaaGreatDoor
