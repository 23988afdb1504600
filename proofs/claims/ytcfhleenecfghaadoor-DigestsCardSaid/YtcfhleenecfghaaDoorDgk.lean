/- A list of files is copied. -/
import Derived.Test.YtcfhleenecfghaaDoorDgj
import Derived.Lib.QuietBelow
import Derived.Lib.OwnBridge
namespace Go.Proofs.YtcfhleenecfghaaDoor
open Go.RowKit Go.Sort

/-- Files, cell by cell. -/
def flatF (L : List Fil) : List Value := L.flatMap fun f => [.string f.1, .string f.2]
theorem flatF_len (L : List Fil) : (flatF L).length = L.length * 2 := by
  unfold flatF
  induction L with
  | nil => rfl
  | cons a r ih => rw [List.flatMap_cons, List.length_append, ih, List.length_cons]; simp; omega
theorem flatF_one (L : List Fil) : ∀ u ∈ flatF L, u.oneCell' = true := by
  intro u hu
  unfold flatF at hu
  obtain ⟨f, _, hf⟩ := List.mem_flatMap.1 hu
  simp at hf
  rcases hf with rfl | rfl <;> rfl
theorem eqnil27 (a : Addr) (n c : Nat) (w : World) : (binOp .eql 27 (.slice (some a) n c) (.slice none 0 0)).run Tryd.prog w = .ok (.bool false) w := by kernel_rfl
theorem build27 (w : World) : (Instr.buildSlice 27 0 #[]).run Tryd.prog w = .ok (.slice (some ⟨w.heap.size, 0, none⟩) 0 0) (w.alloc (.cells #[] 69)) := by kernel_rfl
theorem info69 : (Tryd.prog.info? 69).map (fun i => (i.zero, i.size, i.bytes)) = some (some (.agg #[.string ⟨#[]⟩, .string ⟨#[]⟩]), 2, 32) := by kernel_rfl

set_option maxHeartbeats 800000 in
set_option maxRecDepth 100000 in
theorem cloneFiles_any (lg lo lc : Nat) (L : List Fil) (w : World) (hl : L.length ≤ 4398046511104) (hne : L ≠ []) (hc : ∀ j u, (flatF L)[j]? = some u → w.cell? ⟨lg, lo + j, none⟩ = some u) :
    Calls Tryd.prog 62 #[.slice (some ⟨lg, lo, none⟩) L.length lc] w fun e w' => ∃ cg cc, e = .returned (.slice (some ⟨cg, 0, none⟩) L.length cc) ∧ w'.ownsRow w.heap.size 69 2 (.slice (some ⟨cg, 0, none⟩) L.length cc) L.length (flatF L) ∧ Below w.heap.size w w' := by
  obtain ⟨i0, hi, hz0, hz1, hz2⟩ := info_parts info69
  have hpos : 0 < L.length := List.length_pos_iff.2 hne
  have hnil := eqnil27
  have hown0 : (w.alloc (.cells #[] 69)).ownsRow w.heap.size 69 2 (.slice (some ⟨w.heap.size, 0, none⟩) 0 0) 0 [] :=
    ⟨rfl, Or.inr ⟨w.heap.size, 0, #[], rfl, Nat.le_refl _, heap_alloc_new w _, by omega, by unfold maxLen; omega, rfl, rfl⟩⟩
  have hbs := build27
  have HL : Hid ((flatF L).length = L.length * 2) := hide (flatF_len L)
  have HN : Hid (∀ j u, (flatF L)[j]? = some u → w.cell? ⟨lg, lo + j, none⟩ = some u) := hide hc
  have HO : Hid (∀ u ∈ flatF L, u.oneCell' = true) := hide (flatF_one L)
  generalize flatF L = xs at HL HN HO ⊢
  generalize L.length = n at *
  clear hc hne
  go_enter Tryd.func62, Tryd.ntmps62
  go_wp2_with (at_builtin; refine wpList_append_own _ rfl _ _ 27 rfl w.heap.size 69 i0 (.agg #[.string ⟨#[]⟩, .string ⟨#[]⟩]) 2 32 Tryd.underlying27 hi hz0 hz1 hz2 rfl (by decide) _ _ _ rfl hown0 ⟨lg, lo, none⟩ n lc xs rfl ?c0 ?c1 ?c2 ?c3 ?c4 ?c5 ?_)
  case c0 => exact HL.out
  case c1 =>
    intro j u hj
    rw [show (⟨lg, lo, none⟩ : Addr).add j = ⟨lg, lo + j, none⟩ by first | rfl | (unfold Addr.add; split <;> first | rfl | simp_all)]
    exact keepA (HN.out j u hj) _
  case c2 => exact HO.out
  case c3 => unfold maxLen; omega
  case c4 => omega
  case c5 => simp
  intro v' w2 hown' hgrow _
  have hb2 : Below w.heap.size w w2 := ((Below.refl _ w).alloc (Nat.le_refl _) _).grown hgrow (by simp) (fun k hk => by simp [Value.ownBlock] at hk; omega)
  obtain ⟨cg, cc, hv⟩ : ∃ cg cc, v' = .slice (some ⟨cg, 0, none⟩) n cc := by
    rcases hown'.2 with ⟨_, h0⟩ | ⟨cg, cc, cur, hv, _⟩
    · omega
    · exact ⟨cg, cc, by simpa using hv⟩
  subst hv
  have HO' : Hid (w2.ownsRow w.heap.size 69 2 (.slice (some ⟨cg, 0, none⟩) n cc) n xs) := hide (by simpa using hown')
  clear hown' hgrow
  go_wp2
  go_ret
  exact ⟨cg, cc, rfl, HO'.out, hb2⟩
end Go.Proofs.YtcfhleenecfghaaDoor
