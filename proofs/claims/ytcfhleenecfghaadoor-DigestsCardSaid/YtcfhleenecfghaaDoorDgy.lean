/- The files of a release in their order, also where there are none; the sum of a release by the program. -/
import Derived.Test.YtcfhleenecfghaaDoorDgt
import Derived.Test.YtcfhleenecfghaaDoorDgu
import Derived.Test.YtcfhleenecfghaaDoorDgx
import Derived.BigQuiet
namespace Go.Proofs.YtcfhleenecfghaaDoor
open Go.RowKit

/-- A list of files in memory: none at all, or a row. -/
def FilesIn (w : World) (v : Value) (L : List Fil) : Prop :=
  (v = .slice none 0 0 ∧ L = []) ∨ (∃ a c, v = .slice (some a) 0 c ∧ L = []) ∨ ∃ g o c, v = .slice (some ⟨g, o, none⟩) L.length c ∧ FilesAt w g o L

theorem clone_nil (w : World) : Calls Tryd.prog 62 #[.slice none 0 0] w fun e w' => e = .returned (.slice none 0 0) ∧ w' = w := by
  have hnil : (binOp .eql 27 (.slice none 0 0) (.slice none 0 0)).run Tryd.prog w = .ok (.bool true) w := by kernel_rfl
  go_enter Tryd.func62, Tryd.ntmps62
  go_wp2
  go_ret
  exact ⟨rfl, rfl⟩
set_option maxHeartbeats 400000 in
theorem clone_empty (a : Addr) (c : Nat) (w : World) : Calls Tryd.prog 62 #[.slice (some a) 0 c] w fun e w' => ∃ cg cc, e = .returned (.slice (some ⟨cg, 0, none⟩) 0 cc) ∧ Below w.heap.size w w' := by
  have hnil := eqnil27
  have hbs := build27
  have hown0 : (w.alloc (.cells #[] 69)).ownsRow w.heap.size 69 2 (.slice (some ⟨w.heap.size, 0, none⟩) 0 0) 0 [] :=
    ⟨rfl, Or.inr ⟨w.heap.size, 0, #[], rfl, Nat.le_refl _, heap_alloc_new w _, by omega, by unfold maxLen; omega, rfl, rfl⟩⟩
  obtain ⟨i0, hi, hz0, hz1, hz2⟩ := info_parts info69
  go_enter Tryd.func62, Tryd.ntmps62
  go_wp2_with (at_builtin; refine wpList_append_own _ rfl _ _ 27 rfl w.heap.size 69 i0 (.agg #[.string ⟨#[]⟩, .string ⟨#[]⟩]) 2 32 Tryd.underlying27 hi hz0 hz1 hz2 rfl (by decide) _ _ _ rfl hown0 a 0 c [] rfl ?c0 ?c1 ?c2 ?c3 ?c4 ?c5 ?_)
  case c0 => rfl
  case c1 => intro j u hj; simp at hj
  case c2 => intro u hu; simp at hu
  case c3 => unfold maxLen; omega
  case c4 => omega
  case c5 => simp
  intro v' w2 hown' hgrow hnn
  have hb2 : Below w.heap.size w w2 := ((Below.refl _ w).alloc (Nat.le_refl _) _).grown hgrow (by simp) (fun k hk => by simp [Value.ownBlock] at hk; omega)
  obtain ⟨cg, cc, hv⟩ : ∃ cg cc, v' = .slice (some ⟨cg, 0, none⟩) 0 cc := by
    rcases hown'.2 with ⟨h1, _⟩ | ⟨cg, cc, cur, hv, _⟩
    · exact absurd h1 (by intro h; simp [h] at hnn)
    · exact ⟨cg, cc, by simpa using hv⟩
  subst hv
  clear hown' hgrow hnn
  go_wp2
  go_ret
  exact ⟨cg, cc, rfl, hb2⟩
theorem insert_none (a : Option Addr) (c : Nat) (f : Value) (w : World) : Calls Tryd.prog 88 #[.slice a 0 c, .int .i64 0, .int .i64 0, f] w fun e w' => e = .returned (.tuple #[]) ∧ w' = w := by
  go_enter Tryd.func88, Tryd.ntmps88
  go_wp2
  refine wp_loop_rounds 1 ?_
  rw [rounds_succ]
  go_wp2
  go_end0
  exact ⟨rfl, rfl⟩
set_option maxHeartbeats 400000 in
theorem sort_none (a : Option Addr) (c : Nat) (w : World) : Calls Tryd.prog 63 #[.slice a 0 c, .func (.func 64) #[] #[]] w fun e w' => e = .returned (.tuple #[]) ∧ w' = w := by
  have h74 : Calls Tryd.prog 74 #[.slice a 0 c, .int .i64 0, .func (.func 64) #[] #[]] w fun e w' => e = .returned (.tuple #[]) ∧ w' = w := by
    go_enter Tryd.func74, Tryd.ntmps74
    go_wp2
    refine wp_loop_rounds 1 ?_
    rw [rounds_succ]
    go_wp2_with (go_at_call 88; refine (insert_none _ _ _ _).mono ?_; rintro e w' ⟨rfl, rfl⟩)
    refine wp_loop_rounds 1 ?_
    rw [rounds_succ]
    go_wp2
    go_end0
    exact ⟨rfl, rfl⟩
  go_enter Tryd.func63, Tryd.ntmps63
  go_wp2_with (go_at_call 74; refine h74.mono ?_; rintro e w' ⟨rfl, rfl⟩)
  go_end0
  exact ⟨rfl, rfl⟩
theorem compact_none (a : Option Addr) (c : Nat) (w : World) : Calls Tryd.prog 65 #[.slice a 0 c, .func (.func 66) #[] #[]] w fun e w' => e = .returned (.slice a 0 c) ∧ w' = w := by
  go_enter Tryd.func65, Tryd.ntmps65
  go_wp2
  go_ret
  exact ⟨rfl, rfl⟩
theorem filesAt_nil (w : World) (g o : Nat) : FilesAt w g o [] := by intro j u hu; simp [flatF] at hu
set_option maxHeartbeats 400000 in
theorem inOrder_all (v : Value) (L : List Fil) (w : World) (hl : L.length ≤ 4398046511104) (hc : FilesIn w v L) :
    Calls Tryd.prog 49 #[v] w fun e w' => ∃ v', e = .returned v' ∧ FilesIn w' v' (V.files L) ∧ Below w.heap.size w w' := by
  have empty : ∀ (a : Addr) (c : Nat), Calls Tryd.prog 49 #[.slice (some a) 0 c] w fun e w' => ∃ v', e = .returned v' ∧ FilesIn w' v' (V.files []) ∧ Below w.heap.size w w' := by
    intro a c
    go_enter Tryd.func49, Tryd.ntmps49
    go_wp2_with (first | (go_at_call 62; refine (clone_empty _ _ _).mono ?_; rintro e w1 ⟨cg, cc, rfl, hb⟩) | (go_at_call 63; refine (sort_none _ _ _).mono ?_; rintro e w' ⟨rfl, rfl⟩) | (go_at_call 65; refine (compact_none _ _ _).mono ?_; rintro e w' ⟨rfl, rfl⟩))
    go_ret
    exact ⟨_, rfl, Or.inr (Or.inr ⟨_, _, _, rfl, filesAt_nil _ _ _⟩), hb⟩
  rcases hc with ⟨rfl, rfl⟩ | ⟨a, c, rfl, rfl⟩ | ⟨g, o, c, rfl, hc⟩
  · clear empty
    go_enter Tryd.func49, Tryd.ntmps49
    go_wp2_with (first | (go_at_call 62; refine (clone_nil _).mono ?_; rintro e w' ⟨rfl, rfl⟩) | (go_at_call 63; refine (sort_none _ _ _).mono ?_; rintro e w' ⟨rfl, rfl⟩) | (go_at_call 65; refine (compact_none _ _ _).mono ?_; rintro e w' ⟨rfl, rfl⟩))
    go_ret
    exact ⟨_, rfl, Or.inl ⟨rfl, rfl⟩, Below.refl _ _⟩
  · exact empty a c
  · by_cases hn : L = []
    · subst hn
      exact empty _ _
    · refine (inOrder_any g o c L w hl hn hc).mono ?_
      rintro e w' ⟨cg, cc, rfl, h1, h2⟩
      exact ⟨_, rfl, Or.inr (Or.inr ⟨_, _, _, rfl, h1⟩), h2⟩

theorem filesAt_one {w : World} {g o : Nat} {L : List Fil} (h : FilesAt w g o L) (k : Nat) (hk : k < L.length) : w.cell? ⟨g, o + k * 2, none⟩ = some (.string L[k].1) ∧ w.cell? ⟨g, o + k * 2 + 1, none⟩ = some (.string L[k].2) := by
  have e1 := flatF_get L (k * 2) L[k] (by rw [show k * 2 / 2 = k by omega]; exact List.getElem?_eq_getElem hk)
  have e2 := flatF_get L (k * 2 + 1) L[k] (by rw [show (k * 2 + 1) / 2 = k by omega]; exact List.getElem?_eq_getElem hk)
  rw [show k * 2 % 2 = 0 by omega] at e1
  rw [show (k * 2 + 1) % 2 = 1 by omega] at e2
  exact ⟨h _ _ e1, by rw [Nat.add_assoc]; exact h _ _ e2⟩
theorem FilesAt.later {w w' : World} {g o : Nat} {L : List Fil} (h : FilesAt w g o L) (hb : Below w.heap.size w w') : FilesAt w' g o L := fun j u hu => keep hb (h j u hu)
theorem FilesIn.later {w w' : World} {v : Value} {L : List Fil} (h : FilesIn w v L) (hb : Below w.heap.size w w') : FilesIn w' v L := by
  rcases h with h | h | ⟨g, o, c, h1, h2⟩
  · exact Or.inl h
  · exact Or.inr (Or.inl h)
  · exact Or.inr (Or.inr ⟨g, o, c, h1, h2.later hb⟩)
theorem FilesIn.after {w w' : World} {v : Value} {L : List Fil} (h : FilesIn w v L) (hb : Below w.heap.size w w') : FilesIn w' v L := h.later hb
theorem V.files_sub (L : List Fil) (f : Fil) (h : f ∈ V.files L) : f ∈ L := List.mem_of_find?_eq_some (((V.files_is L).2 f).1 h)
set_option maxHeartbeats 800000 in
theorem of_any (p v m : ByteArray) (fs : Value) (L : List Fil) (w : World) (hp : p.size ≤ maxLen) (hv : v.size ≤ maxLen) (hmm : m.size ≤ maxLen) (hl : L.length ≤ 4398046511104) (hz : ∀ f ∈ L, f.1.size ≤ maxLen ∧ f.2.size ≤ maxLen) (hc : FilesIn w fs L)
    (hm : w.cell? ⟨5, 15, none⟩ = some (.int .u8 4)) :
    Calls Tryd.prog 28 #[.agg #[.string p, .string v, .string m, fs]] w fun e w' => ∃ t : ByteArray, e = .returned (.string t) ∧ t.data.toList = V.sumText (V.sumOf p.data.toList v.data.toList m.data.toList L) ∧ Below w.heap.size w w' := by
  have HC : Hid (FilesIn w fs L) := hc
  clear hc
  go_enter Tryd.func28, Tryd.ntmps28
  go_wp2_with fail
  go_quiet ((go_at_call 48; exact Calls.quiet_of_same (with_any _ _ _ (by assumption))))
  go_wp2_with fail
  go_at_call 49
  have hb0 : Below w.heap.size w ((w.alloc (.cells #[.string p, .string v, .string m, fs] 29)).drewN nq) := below_drewN ((Below.refl _ w).alloc (Nat.le_refl _) _) nq
  have hm0 := keep hb0 hm
  refine (inOrder_all fs L _ hl (HC.out.later hb0)).mono ?_
  rintro e w1 ⟨v', rfl, hv', hb1⟩
  have hb : Below w.heap.size w w1 := hb0.trans (hb1.mono (by simp))
  have hm1 := keep hb1 hm0
  clear hb0 hb1 hm0 HC
  have hF : ∀ f ∈ V.files L, f.1.size ≤ maxLen ∧ f.2.size ≤ maxLen := fun f hf => hz f (V.files_sub L f hf)
  have HS : Hid (V.sumOf p.data.toList v.data.toList m.data.toList L = (V.files L).foldl V.mixF (V.mixT (V.mixT (V.mixT 14695981039346656037 p.data.toList) v.data.toList) m.data.toList)) := hide rfl
  have hr0 := V.mixT_range (V.mixT (V.mixT 14695981039346656037 p.data.toList) v.data.toList) m.data.toList
  have hfl : (V.files L).length ≤ 4398046511104 := Nat.le_trans (V.files_len L) hl
  generalize V.mixT (V.mixT (V.mixT 14695981039346656037 p.data.toList) v.data.toList) m.data.toList = h0 at HS hr0 ⊢
  generalize V.files L = F at hv' hF HS hfl
  rcases hv' with ⟨rfl, rfl⟩ | ⟨a, c, rfl, rfl⟩ | ⟨g, o, c, rfl, hc⟩
  · obtain ⟨u0, rfl⟩ : ∃ u0 : Nat, h0 = u0 := ⟨h0.toNat, by omega⟩
    go_wp2
    refine wp_loop_rounds 1 ?_
    rw [rounds_succ]
    go_wp2_with (go_at_call 50; refine (text_any u0 (by omega) _ hm1).mono ?_; rintro e w2 ⟨t, rfl, ht, hb2⟩)
    go_ret
    exact ⟨t, rfl, by rw [ht, HS.out]; rfl, hb.trans (hb2.mono hb.size)⟩
  · obtain ⟨u0, rfl⟩ : ∃ u0 : Nat, h0 = u0 := ⟨h0.toNat, by omega⟩
    go_wp2
    refine wp_loop_rounds 1 ?_
    rw [rounds_succ]
    go_wp2_with (go_at_call 50; refine (text_any u0 (by omega) _ hm1).mono ?_; rintro e w2 ⟨t, rfl, ht, hb2⟩)
    go_ret
    exact ⟨t, rfl, by rw [ht, HS.out]; rfl, hb.trans (hb2.mono hb.size)⟩
  · have hgl : F ≠ [] → g < w1.heap.size := fun hne => World.block_lt_of_cell? (h := (filesAt_one hc 0 (List.length_pos_iff.2 hne)).1)
    have HC : Hid (FilesAt w1 g o F) := hc
    clear hc
    go_wp2
    go_loopw [3, 19] (fun vh vi wr => ∃ (k : Nat) (h : Int), k ≤ F.length ∧ vi = .int .i64 k ∧ vh = .int .u64 h ∧ Hid (h = (F.take k).foldl V.mixF h0) ∧ Below w1.heap.size w1 wr) (fun _ vi _ => F.length - (intOf vi).toNat)
    case atStart => exact ⟨0, h0, Nat.zero_le _, rfl, rfl, rfl, Below.refl _ _⟩
    case round =>
      obtain ⟨k, h, hk, rfl, rfl, HH, hbw⟩ := hrel
      by_cases hlt : k < F.length
      · have hc2 := filesAt_one (FilesAt.later HC.out hbw) k hlt
        obtain ⟨q1, q2⟩ := hc2
        obtain ⟨z1, z2⟩ := hF F[k] (List.getElem_mem hlt)
        have HN : Hid ((F.take (k + 1)).foldl V.mixF h0 = V.mixF h F[k]) := hide (by rw [V.fold_snoc F h0 k hlt, ← HH.out])
        have HX : Hid (V.mixF h F[k] = V.mixT (V.mixT h F[k].1.data.toList) F[k].2.data.toList) := hide rfl
        generalize F[k] = fk at q1 q2 z1 z2 HN HX
        go_wp2_with fail
        go_quiet ((go_at_call 48; exact Calls.quiet_of_same (with_any _ _ _ (by assumption))))
        go_wp2
        go_round
        case rel =>
          refine ⟨k + 1, _, hlt, by go_num, rfl, hide ?_, ?_⟩
          · rw [HN.out, HX.out]
          · exact below_drewN (hbw.alloc hbw.size _) _
        case measure => simp [intOf]; omega
      · have e1 : F.take k = F := List.take_of_length_le (by omega)
        have hr1 := V.fold_range F h0 hr0
        rw [e1] at HH
        rw [← HH.out] at hr1
        obtain ⟨u0, rfl⟩ : ∃ u0 : Nat, h = u0 := ⟨h.toNat, by omega⟩
        have hmw := keep hbw hm1
        go_wp2_with (go_at_call 50; refine (text_any u0 (by omega) _ hmw).mono ?_; rintro e w2 ⟨t, rfl, ht, hb2⟩)
        go_ret
        refine ⟨t, rfl, by rw [ht, HS.out, HH.out], hb.trans ((hbw.mono hb.size).trans (hb2.mono (Nat.le_trans hb.size hbw.size)))⟩
theorem digest_any (p v m : ByteArray) (fs : Value) (L : List Fil) (w : World) (hp : p.size ≤ maxLen) (hv : v.size ≤ maxLen) (hmm : m.size ≤ maxLen) (hl : L.length ≤ 4398046511104) (hz : ∀ f ∈ L, f.1.size ≤ maxLen ∧ f.2.size ≤ maxLen) (hc : FilesIn w fs L)
    (hm : w.cell? ⟨5, 15, none⟩ = some (.int .u8 4)) :
    Calls Tryd.prog 14 #[.agg #[.string p, .string v, .string m, fs]] w fun e w' => ∃ t : ByteArray, e = .returned (.string t) ∧ t.data.toList = V.sumText (V.sumOf p.data.toList v.data.toList m.data.toList L) ∧ Below w.heap.size w w' := by
  have HC : Hid (FilesIn w fs L) := hc
  clear hc
  have hb0 := fun o => (Below.refl _ w).alloc (Nat.le_refl _) o
  have HB : Hid _ := hb0
  clear hb0
  go_enter Tryd.func14, Tryd.ntmps14
  go_wp2_with (go_at_call 28; refine (of_any p v m fs L _ hp hv hmm hl hz (HC.out.later (HB.out _)) (keep (HB.out _) hm)).mono ?_; rintro e w1 ⟨t, rfl, ht, hb1⟩)
  go_ret
  exact ⟨t, rfl, ht, (HB.out _).trans (hb1.mono (by simp))⟩
end Go.Proofs.YtcfhleenecfghaaDoor
