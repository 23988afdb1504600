/- The reference's files: each is put in where it belongs, into a new list. -/
import Derived.Test.YtcfhleenecfghaaDoorDgy
import Derived.Deep.LoopGhost
import Derived.Laws.AppendOwnNone
namespace Go.Proofs.YtcfhleenecfghaaDoor
open Go.RowKit

theorem less_cb : ∀ x y : List UInt8, Op.bytesLess x y = decide (Lib.compareBytes x y < 0)
  | [], [] => rfl
  | [], _ :: _ => rfl
  | _ :: _, [] => rfl
  | a :: x, b :: y => by
    have ih := less_cb x y
    rw [cb_cons]
    simp only [Op.bytesLess, ih]
    by_cases h1 : a < b
    · rw [if_pos (UInt8.lt_iff_toNat_lt.1 h1)]; simp [h1]
    · have h1' : ¬ a.toNat < b.toNat := fun h => h1 (UInt8.lt_iff_toNat_lt.2 h)
      rw [if_neg h1']
      by_cases h2 : b.toNat < a.toNat
      · rw [if_pos h2]
        have : ¬ a = b := fun e => by subst e; omega
        simp [h1, this]
      · rw [if_neg h2]
        have : a = b := UInt8.toNat_inj.1 (by omega)
        simp [this]
theorem leq_cb (x y : List UInt8) : (Op.bytesLess x y || x == y) = decide (¬ Lib.compareBytes y x < 0) := by
  rw [less_cb]
  by_cases h : Lib.compareBytes y x < 0
  · have h1 : ¬ Lib.compareBytes x y < 0 := fun h2 => by
      have := cb_trans _ _ _ h h2
      rw [cb_refl] at this
      omega
    have h2 : ¬ x = y := fun e => by subst e; rw [cb_refl] at h; omega
    simp [h, h1, h2]
  · by_cases h1 : Lib.compareBytes x y < 0
    · simp [h, h1]
    · have := cb_zero x y h1 h
      subst this
      simp [h]
theorem V.spot_step {O : List Fil} {f : Fil} {j : Nat} (hj : j < O.length) (hs : j ≤ V.spot O f) (hc : ¬ cfF f O[j] < 0) : j + 1 ≤ V.spot O f := by
  rcases Nat.lt_or_eq_of_le hs with h | h
  · exact h
  · exfalso
    have h1 : V.spot O f < O.length := by omega
    have h2 := V.spot_at O f h1
    exact hc (by simpa only [← h] using h2)
theorem V.spot_stop {O : List Fil} {f : Fil} {j : Nat} (hs : j ≤ V.spot O f) (hc : ∀ h : j < O.length, cfF f O[j] < 0) (hj : j ≤ O.length) : j = V.spot O f := by
  rcases Nat.lt_or_eq_of_le hs with h | h
  · exfalso
    have h1 := V.spot_le O f
    exact V.spot_before O f j (by omega) h (hc (by omega))
  · exact h
theorem filesAt_own {w : World} {B g c : Nat} {L : List Fil} (h : w.ownsRow B 69 2 (.slice (some ⟨g, 0, none⟩) L.length c) L.length (flatF L)) : FilesAt w g 0 L := by
  intro j u hu
  have := h.cells (g := g) rfl j u hu
  rw [Nat.zero_add]
  rw [show (⟨g, 0, none⟩ : Addr).add j = ⟨g, j, none⟩ by unfold Addr.add; split <;> simp_all] at this
  exact this

theorem ownsR_below {B e k n : Nat} {v : Value} {xs : List Value} {w w' : World} (h : w.ownsRow B e k v n xs) (hb : Below w.heap.size w w') : w'.ownsRow B e k v n xs := by
  refine ⟨h.1, ?_⟩
  rcases h.2 with h0 | ⟨g, cap, cur, e1, e2, e3, e4⟩
  · exact Or.inl h0
  · exact Or.inr ⟨g, cap, cur, e1, e2, by rw [hb.block g (Array.getElem?_eq_some_iff.1 e3).1]; exact e3, e4⟩
theorem ownsR_mono {B B' e k n : Nat} {v : Value} {xs : List Value} {w : World} (h : w.ownsRow B e k v n xs) (hb : B' ≤ B) : w.ownsRow B' e k v n xs := by
  refine ⟨h.1, ?_⟩
  rcases h.2 with h0 | ⟨g, cap, cur, e1, e2, e3⟩
  · exact Or.inl h0
  · exact Or.inr ⟨g, cap, cur, e1, Nat.le_trans hb e2, e3⟩
theorem flatF_append (A B : List Fil) : flatF (A ++ B) = flatF A ++ flatF B := by unfold flatF; simp
theorem flatF_cons (f : Fil) (B : List Fil) : flatF (f :: B) = [.string f.1, .string f.2] ++ flatF B := rfl
theorem addr_add (b o j : Nat) : (⟨b, o, none⟩ : Addr).add j = ⟨b, o + j, none⟩ := by
  unfold Addr.add
  split
  · subst_vars; simp
  · rfl
theorem filesAt_take {w : World} {b : Nat} {O : List Fil} (h : FilesAt w b 0 O) (j : Nat) : ∀ i u, (flatF (O.take j))[i]? = some u → w.cell? ((⟨b, 0, none⟩ : Addr).add i) = some u := by
  intro i u hu
  rw [addr_add]
  refine h i u ?_
  rw [← List.take_append_drop j O, flatF_append, List.getElem?_append_left (List.getElem?_eq_some_iff.1 hu).1]
  exact hu
theorem filesAt_drop {w : World} {b : Nat} {O : List Fil} (h : FilesAt w b 0 O) (j : Nat) (hj : j ≤ O.length) : ∀ i u, (flatF (O.drop j))[i]? = some u → w.cell? ((⟨b, j * 2, none⟩ : Addr).add i) = some u := by
  intro i u hu
  rw [addr_add]
  have := h (j * 2 + i) u (by
    rw [← List.take_append_drop j O, flatF_append, List.getElem?_append_right (by rw [flatF_len]; simp; omega), flatF_len]
    rw [show j * 2 + i - (O.take j).length * 2 = i by simp; omega]
    exact hu)
  rw [Nat.zero_add] at this
  exact this
theorem put_flat {O : List Fil} {f : Fil} {j : Nat} (hj : j ≤ O.length) : flatF (O.take j) ++ [.string f.1, .string f.2] ++ flatF (O.drop j) = flatF (O.take j ++ [f] ++ O.drop j) ∧ j + 1 + (O.length - j) = (O.take j ++ [f] ++ O.drop j).length := by
  refine ⟨by rw [flatF_append, flatF_append]; rfl, by simp; omega⟩
set_option maxHeartbeats 1600000 in
set_option maxRecDepth 100000 in
theorem rfiles_any (v : Value) (L : List Fil) (w : World) (hl : L.length ≤ 4398046511104) (hc : FilesIn w v L) :
    Calls Tryd.prog 30 #[v] w fun e w' => ∃ v', e = .returned v' ∧ FilesIn w' v' (V.files L) ∧ Below w.heap.size w w' := by
  rcases hc with ⟨rfl, rfl⟩ | ⟨a, c, rfl, rfl⟩ | ⟨g, o, c, rfl, hc⟩
  · go_enter Tryd.func30, Tryd.ntmps30
    go_wp2
    refine wp_loop_rounds 1 ?_
    rw [rounds_succ]
    go_wp2
    go_ret
    exact ⟨_, rfl, Or.inl ⟨rfl, rfl⟩, Below.refl _ _⟩
  · go_enter Tryd.func30, Tryd.ntmps30
    go_wp2
    refine wp_loop_rounds 1 ?_
    rw [rounds_succ]
    go_wp2
    go_ret
    exact ⟨_, rfl, Or.inl ⟨rfl, rfl⟩, Below.refl _ _⟩
  · have HC : Hid (FilesAt w g o L) := hc
    clear hc
    go_enter Tryd.func30, Tryd.ntmps30
    go_wp2
    go_loopg [3, 4] L.length (fun g1 vo vi wr => ∃ k : Nat, k ≤ L.length ∧ L.length - k ≤ g1 ∧ vi = .int .i64 k ∧ Hid (wr.ownsRow w.heap.size 69 2 vo (V.files (L.take k)).length (flatF (V.files (L.take k)))) ∧ Below w.heap.size w wr)
    case atStart => exact ⟨0, Nat.zero_le _, Nat.le_refl _, rfl, hide ⟨rfl, Or.inl ⟨rfl, rfl⟩⟩, Below.refl _ _⟩
    case round =>
      obtain ⟨k, hk, hg1, rfl, HO, hbw⟩ := hrel
      by_cases hlt : k < L.length
      · have hq := filesAt_one (FilesAt.later HC.out hbw) k hlt
        obtain ⟨q1, q2⟩ := hq
        have hOl : (V.files (L.take k)).length ≤ k := Nat.le_trans (V.files_len _) (by simp; omega)
        have HP : Hid (V.files (L.take (k + 1)) = V.putF (V.files (L.take k)) L[k]) := V.files_snoc L k hlt
        have HST : Hid (V.Strict (V.files (L.take k))) := (V.files_is _).1
        have hklt : (k : Int) < (L.length : Int) := by omega
        generalize L[k] = f at q1 q2 HP
        generalize V.files (L.take k) = O at HO hOl HP HST
        rcases HO.out.2 with ⟨rfl, h0⟩ | ⟨b, cap, cur, rfl, hB, hcur, hcap, hcm, hcs, hct⟩
        · have : O = [] := List.length_eq_zero_iff.1 h0
          subst this
          go_wp2
          refine wp_loop_rounds 1 ?_
          rw [rounds_succ]
          have hd : decide ((0 : Int) < 0) = false := rfl
          go_wp2_with fail
          go_quiet (fail)
          obtain ⟨i0, hi, hz0, hz1, hz2⟩ := info_parts info69
          go_wp2_with (at_builtin; refine wpList_append_own _ rfl _ _ 27 rfl w.heap.size 69 i0 (.agg #[.string ⟨#[]⟩, .string ⟨#[]⟩]) 2 32 Tryd.underlying27 hi hz0 hz1 hz2 rfl (by decide) (.slice none 0 0) 0 [] rfl ⟨rfl, Or.inl ⟨rfl, rfl⟩⟩ ⟨wr.heap.size, 0, none⟩ 1 1 [.string f.1, .string f.2] rfl rfl ?c1 ?c2 ?c3 ?c4 ?c5 ?_)
          case c1 =>
            intro j u hj
            rcases j with _ | _ | j
            · simp at hj; subst hj; exact World.cell?_alloc_at _ _ _ _ (by simp)
            · simp at hj; subst hj; exact World.cell?_alloc_at _ _ _ _ (by simp)
            · simp at hj
          case c2 => intro u hu; simp at hu; rcases hu with rfl | rfl <;> rfl
          case c3 => unfold maxLen; omega
          case c4 => omega
          case c5 => have := hbw.size; simp; omega
          intro v' w2 hown' hgrow _
          have HO2 : Hid (w2.ownsRow w.heap.size 69 2 v' 1 [.string f.1, .string f.2]) := hown'
          have HB2 : Hid (Below w.heap.size w w2) := ((below_drewN hbw _).alloc (by simp; exact hbw.size) _).grown hgrow (by simp; have := hbw.size; omega) (fun k hk => by simp [Value.ownBlock] at hk)
          clear hown' hgrow
          go_wp2_with (at_builtin; refine wpList_append_own_none rfl _ _ 27 rfl w.heap.size 69 i0 2 Tryd.underlying27 hi v' 1 _ rfl HO2.out rfl ?_)
          go_wp2
          go_roundg (L.length - (k + 1))
          case measure => omega
          case rel => exact ⟨k + 1, hlt, Nat.le_refl _, by go_num, hide (by rw [HP.out]; exact HO2.out), HB2.out⟩
        · have hfo : FilesAt wr b 0 O := filesAt_own HO.out
          have HF : Hid (FilesAt wr b 0 O) := hfo
          have hbl : b < wr.heap.size := (Array.getElem?_eq_some_iff.1 hcur).1
          clear hfo hcur hct
          obtain ⟨i0, hi, hz0, hz1, hz2⟩ := info_parts info69
          go_wp2
          go_loopg [5, 6] O.length (fun g2 vk vt wq => ∃ j q : Nat, j ≤ O.length ∧ O.length - j ≤ g2 ∧ vk = .int .i64 j ∧ vt = .bool (V.named (O.take j) f) ∧ Hid (j ≤ V.spot O f) ∧ wq = wr.drewN q)
          case atStart => exact ⟨0, 0, Nat.zero_le _, Nat.le_refl _, rfl, rfl, hide (Nat.zero_le _), rfl⟩
          case round =>
            obtain ⟨j, q, hj, hg2, rfl, rfl, HS, rfl⟩ := hrel
            by_cases hjl : j < O.length
            · have hjz : (j : Int) < (O.length : Int) := by omega
              obtain ⟨c1, c2⟩ := filesAt_one HF.out j hjl
              rw [Nat.zero_add] at c1 c2
              by_cases hcf : cfF f O[j] < 0
              · have HJ : Hid (j = V.spot O f) := V.spot_stop HS.out (fun _ => hcf) hj
                have hle : (Op.bytesLess O[j].1.toList f.1.toList || O[j].1.toList == f.1.toList) = false := by
                  rw [leq_cb, ByteArray.toList_eq, ByteArray.toList_eq]
                  exact decide_eq_false (fun h => h hcf)
                have HNT : V.named (O.take j) f = V.named O f := by rw [HJ.out]; exact V.named_spot O f HST.out
                rw [HNT]
                clear HNT
                obtain ⟨tb, HT⟩ : ∃ tb, Hid (V.named O f = tb) := ⟨_, rfl⟩
                rw [HT.out]
                go_wp2_with fail
                go_quiet (fail)
                have hsp := V.spot_le O f
                rw [← HJ.out] at hsp
                cases tb
                · have hjcz : ¬ j = cap := by omega
                  go_wp2_with (at_builtin; refine wpList_append_own _ rfl _ _ 27 rfl wr.heap.size 69 i0 (.agg #[.string ⟨#[]⟩, .string ⟨#[]⟩]) 2 32 Tryd.underlying27 hi hz0 hz1 hz2 rfl (by decide) (.slice none 0 0) 0 [] rfl ⟨rfl, Or.inl ⟨rfl, rfl⟩⟩ ⟨b, 0, none⟩ j cap (flatF (O.take j)) rfl ?c0 ?c1 ?c2 ?c3 ?c4 ?c5 ?_)
                  case c0 => rw [flatF_len]; simp; omega
                  case c1 => exact filesAt_take (FilesAt.later HF.out (below_drewN (Below.refl _ _) _)) j
                  case c2 => exact flatF_one _
                  case c3 => unfold maxLen; omega
                  case c4 => omega
                  case c5 => simp
                  intro v1 w1 hown1 hgrow1 _
                  have HO1 : Hid (w1.ownsRow wr.heap.size 69 2 v1 j (flatF (O.take j))) := by
                    refine hide ?_
                    simpa using hown1
                  have hb1 : Below wr.heap.size wr w1 := (below_drewN (Below.refl _ wr) _).grown hgrow1 (by simp) (fun k hk => by simp [Value.ownBlock] at hk)
                  clear hown1 hgrow1
                  have r1 := keep hb1 q1
                  have r2 := keep hb1 q2
                  have HB1 : Hid (Below wr.heap.size wr w1) := hb1
                  clear hb1
                  go_wp2_with (at_builtin; refine wpList_append_own _ rfl _ _ 27 rfl wr.heap.size 69 i0 (.agg #[.string ⟨#[]⟩, .string ⟨#[]⟩]) 2 32 Tryd.underlying27 hi hz0 hz1 hz2 rfl (by decide) v1 j (flatF (O.take j)) rfl (HO1.out.alloc _) ⟨w1.heap.size, 0, none⟩ 1 1 [.string f.1, .string f.2] rfl rfl ?d1 ?d2 ?d3 ?d4 ?d5 ?_)
                  case d1 =>
                    intro j u hj
                    rcases j with _ | _ | j
                    · simp at hj; subst hj; exact World.cell?_alloc_at _ _ _ _ (by simp)
                    · simp at hj; subst hj; exact World.cell?_alloc_at _ _ _ _ (by simp)
                    · simp at hj
                  case d2 => intro u hu; simp at hu; rcases hu with rfl | rfl <;> rfl
                  case d3 => unfold maxLen; omega
                  case d4 => omega
                  case d5 => have := HB1.out.size; simp; omega
                  intro v2 w2 hown2 hgrow2 _
                  have HO2 : Hid (w2.ownsRow wr.heap.size 69 2 v2 (j + 1) (flatF (O.take j) ++ [.string f.1, .string f.2])) := hown2
                  have hb2 : Below wr.heap.size wr w2 := (HB1.out.alloc HB1.out.size _).grown hgrow2 (by have := HB1.out.size; simp; omega) (fun k hk => (HO1.out.lt k hk).1)
                  have HB2 : Hid (Below wr.heap.size wr w2) := hb2
                  clear hown2 hgrow2 hb2
                  go_wp2_with (at_builtin; refine wpList_append_own _ rfl _ _ 27 rfl wr.heap.size 69 i0 (.agg #[.string ⟨#[]⟩, .string ⟨#[]⟩]) 2 32 Tryd.underlying27 hi hz0 hz1 hz2 rfl (by decide) v2 (j + 1) (flatF (O.take j) ++ [.string f.1, .string f.2]) rfl HO2.out ⟨b, j * 2, none⟩ (O.length - j) (cap - j) (flatF (O.drop j)) rfl ?e0 ?e1 ?e2 ?e3 ?e4 ?e5 ?_)
                  case e0 => rw [flatF_len]; simp
                  case e1 => exact filesAt_drop (FilesAt.later HF.out HB2.out) j hsp
                  case e2 => exact flatF_one _
                  case e3 => unfold maxLen; omega
                  case e4 => omega
                  case e5 => exact HB2.out.size
                  intro v3 w3 hown3 hgrow3 _
                  have HO3 : Hid (w3.ownsRow wr.heap.size 69 2 v3 (j + 1 + (O.length - j)) (flatF (O.take j) ++ [.string f.1, .string f.2] ++ flatF (O.drop j))) := by
                    refine hide ?_
                    skip
                    rw [List.append_assoc]
                    exact hown3
                  have hb3 : Below wr.heap.size wr w3 := HB2.out.grown hgrow3 HB2.out.size (fun k hk => (HO2.out.lt k hk).1)
                  have HB3 : Hid (Below wr.heap.size wr w3) := hb3
                  clear hown3 hgrow3 hb3
                  go_wp2
                  go_roundg (L.length - (k + 1))
                  case measure => omega
                  case rel =>
                    refine ⟨k + 1, hlt, Nat.le_refl _, by go_num, hide ?_, hbw.trans (HB3.out.mono hbw.size)⟩
                    have hh := HO3.out
                    obtain ⟨p1, p2⟩ := put_flat (f := f) hsp
                    rw [p1, p2, HJ.out] at hh
                    rw [HP.out, V.putF, if_neg (by rw [HT.out]; exact Bool.false_ne_true)]
                    exact ownsR_mono hh hbw.size
                · go_wp2
                  go_roundg (L.length - (k + 1))
                  case measure => omega
                  case rel => exact ⟨k + 1, hlt, Nat.le_refl _, by go_num, hide (by rw [HP.out, V.putF, if_pos HT.out]; exact ownsR_below HO.out (below_drewN (Below.refl _ _) _)), below_drewN hbw _⟩
              · have HE : Hid (V.named (O.take (j + 1)) f = (V.named (O.take j) f || O[j].1.data.toList == f.1.data.toList)) := hide (by rw [List.take_succ_eq_append_getElem hjl, V.named_snoc])
                have HN1 : Hid (j + 1 ≤ V.spot O f) := V.spot_step hjl HS.out hcf
                have hle : (Op.bytesLess O[j].1.toList f.1.toList || O[j].1.toList == f.1.toList) = true := by
                  rw [leq_cb, ByteArray.toList_eq, ByteArray.toList_eq]
                  exact decide_eq_true hcf
                obtain ⟨tb, HT⟩ : ∃ tb, Hid (V.named (O.take j) f = tb) := ⟨_, rfl⟩
                rw [HT.out] at HE ⊢
                go_wp2_with fail
                go_quiet (fail)
                cases tb
                · go_wp2_with fail
                  go_quiet (fail)
                  go_wp2
                  go_roundg (O.length - (j + 1))
                  case measure => omega
                  case rel =>
                    refine ⟨j + 1, _, hjl, Nat.le_refl _, by go_num, ?_, HN1, rfl⟩
                    rw [HE.out]
                    first | rfl | rw [toList_eq, Bool.false_or]
                · go_wp2_with fail
                  go_quiet (fail)
                  go_wp2
                  go_roundg (O.length - (j + 1))
                  case measure => omega
                  case rel =>
                    refine ⟨j + 1, _, hjl, Nat.le_refl _, by go_num, ?_, HN1, rfl⟩
                    rw [HE.out]
                    first | rfl | rw [toList_eq, Bool.false_or]
            · have hjn : j = O.length := by omega
              have hjz : decide ((j : Int) < (O.length : Int)) = false := decide_eq_false (by omega)
              have HJ : Hid (j = V.spot O f) := V.spot_stop HS.out (fun h => absurd h hjl) hj
              have HJN : Hid (O.length = j) := hjn.symm
              clear hjn
              have HNT : V.named (O.take j) f = V.named O f := by rw [HJ.out]; exact V.named_spot O f HST.out
              rw [HNT]
              clear HNT
              obtain ⟨tb, HT⟩ : ∃ tb, Hid (V.named O f = tb) := ⟨_, rfl⟩
              rw [HT.out]
              go_wp2_with fail
              go_quiet (fail)
              have hsp := V.spot_le O f
              rw [← HJ.out] at hsp
              cases tb
              · by_cases hjc : j = cap
                · subst hjc
                  go_wp2_with (at_builtin; refine wpList_append_own _ rfl _ _ 27 rfl wr.heap.size 69 i0 (.agg #[.string ⟨#[]⟩, .string ⟨#[]⟩]) 2 32 Tryd.underlying27 hi hz0 hz1 hz2 rfl (by decide) (.slice none 0 0) 0 [] rfl ⟨rfl, Or.inl ⟨rfl, rfl⟩⟩ ⟨b, 0, none⟩ j j (flatF (O.take j)) rfl ?c0 ?c1 ?c2 ?c3 ?c4 ?c5 ?_)
                  case c0 => rw [flatF_len]; simp; omega
                  case c1 => exact filesAt_take (FilesAt.later HF.out (below_drewN (Below.refl _ _) _)) j
                  case c2 => exact flatF_one _
                  case c3 => unfold maxLen; omega
                  case c4 => omega
                  case c5 => simp
                  intro v1 w1 hown1 hgrow1 _
                  have HO1 : Hid (w1.ownsRow wr.heap.size 69 2 v1 j (flatF (O.take j))) := by
                    refine hide ?_
                    simpa using hown1
                  have hb1 : Below wr.heap.size wr w1 := (below_drewN (Below.refl _ wr) _).grown hgrow1 (by simp) (fun k hk => by simp [Value.ownBlock] at hk)
                  clear hown1 hgrow1
                  have r1 := keep hb1 q1
                  have r2 := keep hb1 q2
                  have HB1 : Hid (Below wr.heap.size wr w1) := hb1
                  clear hb1
                  go_wp2_with (at_builtin; refine wpList_append_own _ rfl _ _ 27 rfl wr.heap.size 69 i0 (.agg #[.string ⟨#[]⟩, .string ⟨#[]⟩]) 2 32 Tryd.underlying27 hi hz0 hz1 hz2 rfl (by decide) v1 j (flatF (O.take j)) rfl (HO1.out.alloc _) ⟨w1.heap.size, 0, none⟩ 1 1 [.string f.1, .string f.2] rfl rfl ?d1 ?d2 ?d3 ?d4 ?d5 ?_)
                  case d1 =>
                    intro j u hj
                    rcases j with _ | _ | j
                    · simp at hj; subst hj; exact World.cell?_alloc_at _ _ _ _ (by simp)
                    · simp at hj; subst hj; exact World.cell?_alloc_at _ _ _ _ (by simp)
                    · simp at hj
                  case d2 => intro u hu; simp at hu; rcases hu with rfl | rfl <;> rfl
                  case d3 => unfold maxLen; omega
                  case d4 => omega
                  case d5 => have := HB1.out.size; simp; omega
                  intro v2 w2 hown2 hgrow2 _
                  have HO2 : Hid (w2.ownsRow wr.heap.size 69 2 v2 (j + 1) (flatF (O.take j) ++ [.string f.1, .string f.2])) := hown2
                  have hb2 : Below wr.heap.size wr w2 := (HB1.out.alloc HB1.out.size _).grown hgrow2 (by have := HB1.out.size; simp; omega) (fun k hk => (HO1.out.lt k hk).1)
                  have HB2 : Hid (Below wr.heap.size wr w2) := hb2
                  clear hown2 hgrow2 hb2
                  go_wp2_with (at_builtin; refine wpList_append_own _ rfl _ _ 27 rfl wr.heap.size 69 i0 (.agg #[.string ⟨#[]⟩, .string ⟨#[]⟩]) 2 32 Tryd.underlying27 hi hz0 hz1 hz2 rfl (by decide) v2 (j + 1) (flatF (O.take j) ++ [.string f.1, .string f.2]) rfl HO2.out ⟨b, 0, none⟩ (0) (0) (flatF (O.drop j)) rfl ?e0 ?e1 ?e2 ?e3 ?e4 ?e5 ?_)
                  case e0 => rw [flatF_len]; have := HJN.out; simp; omega
                  case e1 => intro i u hu; rw [List.drop_of_length_le (by have := HJN.out; omega)] at hu; simp [flatF] at hu
                  case e2 => exact flatF_one _
                  case e3 => unfold maxLen; omega
                  case e4 => omega
                  case e5 => exact HB2.out.size
                  intro v3 w3 hown3 hgrow3 _
                  have HO3 : Hid (w3.ownsRow wr.heap.size 69 2 v3 (j + 1 + (O.length - j)) (flatF (O.take j) ++ [.string f.1, .string f.2] ++ flatF (O.drop j))) := by
                    refine hide ?_
                    rw [show O.length - j = 0 by have := HJN.out; omega]
                    rw [List.append_assoc]
                    exact hown3
                  have hb3 : Below wr.heap.size wr w3 := HB2.out.grown hgrow3 HB2.out.size (fun k hk => (HO2.out.lt k hk).1)
                  have HB3 : Hid (Below wr.heap.size wr w3) := hb3
                  clear hown3 hgrow3 hb3
                  go_wp2
                  go_roundg (L.length - (k + 1))
                  case measure => omega
                  case rel =>
                    refine ⟨k + 1, hlt, Nat.le_refl _, by go_num, hide ?_, hbw.trans (HB3.out.mono hbw.size)⟩
                    have hh := HO3.out
                    obtain ⟨p1, p2⟩ := put_flat (f := f) hsp
                    rw [p1, p2, HJ.out] at hh
                    rw [HP.out, V.putF, if_neg (by rw [HT.out]; exact Bool.false_ne_true)]
                    exact ownsR_mono hh hbw.size
                · have hjcz : (j : Int) ≠ (cap : Int) := by omega
                  go_wp2_with (at_builtin; refine wpList_append_own _ rfl _ _ 27 rfl wr.heap.size 69 i0 (.agg #[.string ⟨#[]⟩, .string ⟨#[]⟩]) 2 32 Tryd.underlying27 hi hz0 hz1 hz2 rfl (by decide) (.slice none 0 0) 0 [] rfl ⟨rfl, Or.inl ⟨rfl, rfl⟩⟩ ⟨b, 0, none⟩ j cap (flatF (O.take j)) rfl ?c0 ?c1 ?c2 ?c3 ?c4 ?c5 ?_)
                  case c0 => rw [flatF_len]; simp; omega
                  case c1 => exact filesAt_take (FilesAt.later HF.out (below_drewN (Below.refl _ _) _)) j
                  case c2 => exact flatF_one _
                  case c3 => unfold maxLen; omega
                  case c4 => omega
                  case c5 => simp
                  intro v1 w1 hown1 hgrow1 _
                  have HO1 : Hid (w1.ownsRow wr.heap.size 69 2 v1 j (flatF (O.take j))) := by
                    refine hide ?_
                    simpa using hown1
                  have hb1 : Below wr.heap.size wr w1 := (below_drewN (Below.refl _ wr) _).grown hgrow1 (by simp) (fun k hk => by simp [Value.ownBlock] at hk)
                  clear hown1 hgrow1
                  have r1 := keep hb1 q1
                  have r2 := keep hb1 q2
                  have HB1 : Hid (Below wr.heap.size wr w1) := hb1
                  clear hb1
                  go_wp2_with (at_builtin; refine wpList_append_own _ rfl _ _ 27 rfl wr.heap.size 69 i0 (.agg #[.string ⟨#[]⟩, .string ⟨#[]⟩]) 2 32 Tryd.underlying27 hi hz0 hz1 hz2 rfl (by decide) v1 j (flatF (O.take j)) rfl (HO1.out.alloc _) ⟨w1.heap.size, 0, none⟩ 1 1 [.string f.1, .string f.2] rfl rfl ?d1 ?d2 ?d3 ?d4 ?d5 ?_)
                  case d1 =>
                    intro j u hj
                    rcases j with _ | _ | j
                    · simp at hj; subst hj; exact World.cell?_alloc_at _ _ _ _ (by simp)
                    · simp at hj; subst hj; exact World.cell?_alloc_at _ _ _ _ (by simp)
                    · simp at hj
                  case d2 => intro u hu; simp at hu; rcases hu with rfl | rfl <;> rfl
                  case d3 => unfold maxLen; omega
                  case d4 => omega
                  case d5 => have := HB1.out.size; simp; omega
                  intro v2 w2 hown2 hgrow2 _
                  have HO2 : Hid (w2.ownsRow wr.heap.size 69 2 v2 (j + 1) (flatF (O.take j) ++ [.string f.1, .string f.2])) := hown2
                  have hb2 : Below wr.heap.size wr w2 := (HB1.out.alloc HB1.out.size _).grown hgrow2 (by have := HB1.out.size; simp; omega) (fun k hk => (HO1.out.lt k hk).1)
                  have HB2 : Hid (Below wr.heap.size wr w2) := hb2
                  clear hown2 hgrow2 hb2
                  go_wp2_with (at_builtin; refine wpList_append_own _ rfl _ _ 27 rfl wr.heap.size 69 i0 (.agg #[.string ⟨#[]⟩, .string ⟨#[]⟩]) 2 32 Tryd.underlying27 hi hz0 hz1 hz2 rfl (by decide) v2 (j + 1) (flatF (O.take j) ++ [.string f.1, .string f.2]) rfl HO2.out ⟨b, j * 2, none⟩ (O.length - j) (cap - j) (flatF (O.drop j)) rfl ?e0 ?e1 ?e2 ?e3 ?e4 ?e5 ?_)
                  case e0 => rw [flatF_len]; simp
                  case e1 => exact filesAt_drop (FilesAt.later HF.out HB2.out) j hsp
                  case e2 => exact flatF_one _
                  case e3 => unfold maxLen; omega
                  case e4 => omega
                  case e5 => exact HB2.out.size
                  intro v3 w3 hown3 hgrow3 _
                  have HO3 : Hid (w3.ownsRow wr.heap.size 69 2 v3 (j + 1 + (O.length - j)) (flatF (O.take j) ++ [.string f.1, .string f.2] ++ flatF (O.drop j))) := by
                    refine hide ?_
                    skip
                    rw [List.append_assoc]
                    exact hown3
                  have hb3 : Below wr.heap.size wr w3 := HB2.out.grown hgrow3 HB2.out.size (fun k hk => (HO2.out.lt k hk).1)
                  have HB3 : Hid (Below wr.heap.size wr w3) := hb3
                  clear hown3 hgrow3 hb3
                  go_wp2
                  go_roundg (L.length - (k + 1))
                  case measure => omega
                  case rel =>
                    refine ⟨k + 1, hlt, Nat.le_refl _, by go_num, hide ?_, hbw.trans (HB3.out.mono hbw.size)⟩
                    have hh := HO3.out
                    obtain ⟨p1, p2⟩ := put_flat (f := f) hsp
                    rw [p1, p2, HJ.out] at hh
                    rw [HP.out, V.putF, if_neg (by rw [HT.out]; exact Bool.false_ne_true)]
                    exact ownsR_mono hh hbw.size
              · go_wp2
                go_roundg (L.length - (k + 1))
                case measure => omega
                case rel => exact ⟨k + 1, hlt, Nat.le_refl _, by go_num, hide (by rw [HP.out, V.putF, if_pos HT.out]; exact ownsR_below HO.out (below_drewN (Below.refl _ _) _)), below_drewN hbw _⟩
      · have e : L.take k = L := List.take_of_length_le (by omega)
        rw [e] at HO
        clear e
        go_wp2
        go_ret
        refine ⟨_, rfl, ?_, hbw⟩
        rcases HO.out.2 with ⟨e1, h0⟩ | ⟨b, cap, cur, e1, _⟩
        · exact Or.inl ⟨e1, List.length_eq_zero_iff.1 h0⟩
        · have hh := HO.out
          rw [e1] at hh
          exact Or.inr (Or.inr ⟨b, 0, cap, e1, filesAt_own hh⟩)
end Go.Proofs.YtcfhleenecfghaaDoor
