/- Whether the manifest may end where it ends, and what may be said at all. -/
import Derived.Test.YtcfhleenecfghaaGreatDoorWx
namespace Go.Proofs.YtcfhleenecfghaaGreatDoor
open Go.RowKit

theorem V.meaning_sound {kw : Int} {ws : List ByteArray} {n t : Nat} {fs : List ByteArray} (h : V.meaning kw ws = some (t, fs)) : V.Sound (n, t, fs) := by
  unfold V.meaning at h
  split at h
  · cases h; exact Or.inl ⟨rfl, _, rfl⟩
  split at h
  · cases h; exact Or.inr (Or.inl ⟨rfl, _, _, rfl⟩)
  split at h
  · cases h; exact Or.inr (Or.inr (Or.inl ⟨rfl, _, _, rfl⟩))
  split at h
  · cases h; exact Or.inr (Or.inr (Or.inr ⟨rfl, _, _, _, _, rfl⟩))
  split at h
  · cases h; exact Or.inr (Or.inr (Or.inr ⟨rfl, _, _, _, _, rfl⟩))
  · cases h
theorem V.added_sound {n : Nat} {kw : Int} {ws : List ByteArray} {l : List (Nat × Nat × List ByteArray)} (h : ∀ x ∈ l, V.Sound x) : ∀ x ∈ (V.added n kw ws l).2, V.Sound x := by
  unfold V.added
  split
  · rename_i y hy
    intro x hx
    rcases List.mem_append.1 hx with hx | hx
    · exact h x hx
    · rw [List.mem_singleton.1 hx]
      exact V.meaning_sound (t := y.1) (fs := y.2) hy
  · exact h
theorem V.added_len (n : Nat) (kw : Int) (ws : List ByteArray) (l : List (Nat × Nat × List ByteArray)) : (V.added n kw ws l).2.length ≤ l.length + 1 := by
  unfold V.added
  split <;> simp
theorem V.took_sound {n : Nat} {ws : List ByteArray} {st blk : Int} {l : List (Nat × Nat × List ByteArray)} (h : ∀ x ∈ l, V.Sound x) : ∀ x ∈ (V.took n ws st blk l).2.2.2, V.Sound x := by
  unfold V.took V.tookIn
  repeat' split
  all_goals first | exact h | exact V.added_sound h
theorem V.took_len (n : Nat) (ws : List ByteArray) (st blk : Int) (l : List (Nat × Nat × List ByteArray)) : (V.took n ws st blk l).2.2.2.length ≤ l.length + 1 := by
  unfold V.took V.tookIn
  repeat' split
  all_goals first | exact Nat.le_succ _ | exact V.added_len _ _ _ _
theorem V.took_stands {n : Nat} {ws : List ByteArray} {st blk : Int} {l : List (Nat × Nat × List ByteArray)} (h : V.Stands st blk) : V.Stands (V.took n ws st blk l).2.1 (V.took n ws st blk l).2.2.1 := by
  unfold V.took V.tookIn
  repeat' split
  all_goals first | exact h | exact ⟨Or.inr (Or.inl rfl), h.2⟩ | exact ⟨Or.inr (Or.inr rfl), h.2⟩ | exact ⟨Or.inr (Or.inr rfl), keyw_range _⟩


theorem asserts154 (v : Value) (w : World) : (Instr.typeAssert (.iface 123 v) 179 123 true).run Tryz.prog w = .ok (.tuple #[v, .bool true]) w := by kernel_rfl
theorem asserts155 (v : Value) (w : World) : (Instr.typeAssert (.iface 221 v) 179 123 true).run Tryz.prog w = .ok (.tuple #[.agg #[.string ⟨#[]⟩], .bool false]) w := by kernel_rfl
theorem asserts156 (v : Value) (w : World) : (Instr.typeAssert (.iface 222 v) 179 123 true).run Tryz.prog w = .ok (.tuple #[.agg #[.string ⟨#[]⟩], .bool false]) w := by kernel_rfl
theorem asserts158 (v : Value) (w : World) : (Instr.typeAssert (.iface 224 v) 179 123 true).run Tryz.prog w = .ok (.tuple #[.agg #[.string ⟨#[]⟩], .bool false]) w := by kernel_rfl

set_option maxHeartbeats 1600000 in
set_option maxRecDepth 100000 in
theorem mayEnd_any (pb base : Nat) (st blk : Int) (l : List (Nat × Nat × List ByteArray)) (w : World) (_hst : V.Stands st blk) (hl : ∀ x ∈ l, V.Sound x) (hll : l.length ≤ 1000000000000) (hp : ParserAt w pb base st blk l) :
    Calls Tryz.prog 179 #[.pointer (some ⟨pb, 0, none⟩)] w fun e w' => e = .returned (.bool (V.may st l)) ∧ Below w.heap.size w w' := by
  have d0 := hp.cell0
  obtain ⟨_, _, v, hpb, hown⟩ := hp
  have d2 : w.cell? ⟨pb, 2, none⟩ = some v := by rw [Lib.cell_of_heap hpb]; rfl
  clear hpb
  cases hs : (st == 2)
  · match l, hl, hll, hown with
    | [], _, _, hown =>
      obtain ⟨a, cap, rfl⟩ : ∃ a cap, v = .slice a 0 cap := by
        rcases hown.2 with ⟨h, _⟩ | ⟨gg, cap, cur, h, _⟩
        · exact ⟨_, _, h⟩
        · exact ⟨_, _, h⟩
      clear hown
      go_enter Tryz.func179, Tryz.ntmps179
      go_wp2
      go_ret
      exact ⟨rfl, Below.refl _ _⟩
    | x :: xs, hl, hll, hown =>
      obtain ⟨gg, cap, rfl, hcs⟩ : ∃ gg cap, v = .slice (some ⟨gg, 0, none⟩) (xs.length + 1) cap ∧ w.cell? ⟨gg, 1, none⟩ = some (.iface x.2.1 (.agg (x.2.2.map Value.string).toArray)) := by
        have hc := fun g => hown.cells (g := g)
        rcases hown.2 with ⟨_, h⟩ | ⟨gg, cap, cur, h, _⟩
        · simp at h
        · refine ⟨gg, cap, h, ?_⟩
          have := hc gg (by rw [h]; rfl) 1 (.iface x.2.1 (.agg (x.2.2.map Value.string).toArray)) rfl
          simpa [Addr.add] using this
      have HS := hide (hl x (List.mem_cons_self ..))
      have hll' : xs.length ≤ 1000000000000 := by simp at hll; omega
      clear hown hl hll
      obtain ⟨xn, xt, xf⟩ := x
      rcases HS.out with ⟨h1, a, h2⟩ | ⟨h1, a, b, h2⟩ | ⟨h1, a, b, h2⟩ | ⟨h1, a, b, c, d, h2⟩
      · have HM : Hid (V.may st ((xn, xt, xf) :: xs) = true) := hide (by unfold V.may; simp only at h1; simp only [hs, h1]; rfl)
        simp only at h1 h2; subst h1 h2
        have ha := asserts154
        go_enter Tryz.func179, Tryz.ntmps179
        go_wp2
        go_ret
        exact ⟨ret_bool HM.out.symm, (Below.refl _ _).alloc (Nat.le_refl _) _⟩
      · have HM : Hid (V.may st ((xn, xt, xf) :: xs) = false) := hide (by unfold V.may; simp only at h1; simp only [hs, h1]; rfl)
        simp only at h1 h2; subst h1 h2
        have ha := asserts155
        go_enter Tryz.func179, Tryz.ntmps179
        go_wp2
        go_ret
        exact ⟨ret_bool HM.out.symm, (Below.refl _ _).alloc (Nat.le_refl _) _⟩
      · have HM : Hid (V.may st ((xn, xt, xf) :: xs) = false) := hide (by unfold V.may; simp only at h1; simp only [hs, h1]; rfl)
        simp only at h1 h2; subst h1 h2
        have ha := asserts156
        go_enter Tryz.func179, Tryz.ntmps179
        go_wp2
        go_ret
        exact ⟨ret_bool HM.out.symm, (Below.refl _ _).alloc (Nat.le_refl _) _⟩
      · have HM : Hid (V.may st ((xn, xt, xf) :: xs) = false) := hide (by unfold V.may; simp only at h1; simp only [hs, h1]; rfl)
        simp only at h1 h2; subst h1 h2
        have ha := asserts158
        go_enter Tryz.func179, Tryz.ntmps179
        go_wp2
        go_ret
        exact ⟨ret_bool HM.out.symm, (Below.refl _ _).alloc (Nat.le_refl _) _⟩
  · have HM : Hid (V.may st l = false) := by
      refine hide ?_
      unfold V.may
      split
      · rfl
      · rw [hs]; rfl
    clear hown
    go_enter Tryz.func179, Tryz.ntmps179
    go_wp2
    go_ret
    exact ⟨ret_bool HM.out.symm, Below.refl _ _⟩

end Go.Proofs.YtcfhleenecfghaaGreatDoor
