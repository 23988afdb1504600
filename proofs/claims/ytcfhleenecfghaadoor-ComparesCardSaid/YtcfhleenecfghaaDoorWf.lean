/- What the reference makes of a text that may be a version: its pieces in new memory. -/
import Derived.Test.YtcfhleenecfghaaDoorWd
namespace Go.Proofs.YtcfhleenecfghaaDoor
open Go.RowKit

theorem Tryd.info9 : (Tryd.prog.info? 9).map (fun i => (i.zero, i.size, i.bytes)) = some (some (.string ByteArray.empty), 1, 16) := by kernel_rfl

/-- How far the cutting of a text has come. -/
def St (s : ByteArray) (c : UInt8) (k f : Nat) (done : List ByteArray) : Prop :=
  (k ≤ s.size ∧ V.pieces c s.data.toList = done.map (·.data.toList) ++ V.pieces c (s.data.toList.drop f) ∧ ∀ j, f ≤ j → j < k → s.data.toList[j]? ≠ some c) ∨ (k = s.size + 1 ∧ V.pieces c s.data.toList = done.map (·.data.toList))
theorem St.start (s : ByteArray) (c : UInt8) : St s c 0 0 [] := Or.inl ⟨Nat.zero_le _, rfl, fun _ _ h => absurd h (Nat.not_lt_zero _)⟩
theorem extract_list (s : ByteArray) (f k : Nat) : (s.extract f k).data.toList = (s.data.toList.drop f).take (k - f) := by
  rw [Lib.extract_data]
theorem St.next {s : ByteArray} {c : UInt8} {k f : Nat} {done : List ByteArray} (h : St s c k f done) (hk : k < s.size) (hne : s.data.toList[k]? ≠ some c) : St s c (k + 1) f done := by
  rcases h with ⟨h1, h2, h3⟩ | ⟨h1, _⟩
  · refine Or.inl ⟨by omega, h2, fun j hj hlt => ?_⟩
    by_cases e : j = k
    · subst e; exact hne
    · exact h3 j hj (by omega)
  · omega
theorem St.cut {s : ByteArray} {c : UInt8} {k f : Nat} {done : List ByteArray} (h : St s c k f done) (hk : k < s.size) (hf : f ≤ k) (heq : s.data.toList[k]? = some c) : St s c (k + 1) (k + 1) (done ++ [s.extract f k]) := by
  rcases h with ⟨h1, h2, h3⟩ | ⟨h1, _⟩
  · refine Or.inl ⟨by omega, ?_, fun j hj hlt => by omega⟩
    have hp := V.pieces_some c (s.data.toList.drop f) (k - f) (by rw [List.getElem?_drop, show f + (k - f) = k by omega]; exact heq) (fun j hj => by rw [List.getElem?_drop]; exact h3 _ (by omega) (by omega))
    rw [h2, hp, List.map_append, List.append_assoc, List.map_cons, List.map_nil, extract_list, List.drop_drop, show f + (k - f + 1) = k + 1 by omega]
    rfl
  · omega
theorem St.last {s : ByteArray} {c : UInt8} {f : Nat} {done : List ByteArray} (h : St s c s.size f done) (_hf : f ≤ s.size) (f' : Nat) : St s c (s.size + 1) f' (done ++ [s.extract f s.size]) := by
  rcases h with ⟨h1, h2, h3⟩ | ⟨h1, _⟩
  · refine Or.inr ⟨rfl, ?_⟩
    have hp := V.pieces_none c (s.data.toList.drop f) (fun j => by
      rw [List.getElem?_drop]
      by_cases hj : f + j < s.size
      · exact h3 _ (by omega) hj
      · rw [List.getElem?_eq_none (by simp; omega)]; simp)
    rw [h2, hp, List.map_append, List.map_cons, List.map_nil, extract_list]
    congr 2
    rw [List.take_of_length_le (by simp)]
  · omega
theorem St.all {s : ByteArray} {c : UInt8} {k f : Nat} {done : List ByteArray} (h : St s c k f done) (hk : s.size < k) : V.pieces c s.data.toList = done.map (·.data.toList) := by
  rcases h with ⟨h1, _⟩ | ⟨_, h2⟩
  · omega
  · exact h2
theorem own_base {w : World} {B n : Nat} {v : Value} {xs : List Value} (h : w.ownsRow B 9 1 v n xs) : ∀ j, v.ownBlock = some j → B ≤ j := by
  intro j hj
  rcases h.2 with ⟨e, _⟩ | ⟨g, cap, cur, e, hb, _⟩
  · subst e; cases hj
  · subst e; simp [Value.ownBlock] at hj; omega
theorem own_txt {w : World} {B : Nat} {v : Value} {ls : List ByteArray} (h : w.ownsRow B 9 1 v ls.length (ls.map Value.string)) (hne : ls ≠ []) (hl : ls.length ≤ maxLen) (hz : ∀ x ∈ ls, x.size ≤ maxLen) : Txt B w v (ls.map (·.data.toList)) := by
  rcases h.2 with ⟨_, e⟩ | ⟨g, cap, cur, e, hb, hg, _, _, hcs, ht⟩
  · exact absurd (List.length_eq_zero_iff.1 e) hne
  · refine ⟨g, cap, ls, e, rfl, hb, ?_, hl, hz, fun j hj => ?_⟩
    · exact (Array.getElem?_eq_some_iff.1 hg).1
    · have h1 : w.cell? ⟨g, j, none⟩ = cur[j]? := by simp [World.cell?, hg]
      have h2 : cur.toList[j]? = (ls.map Value.string)[j]? := by
        rw [← ht, List.getElem?_take, if_pos (by omega)]
      rw [h1, ← Array.getElem?_toList, h2, List.getElem?_map, List.getElem?_eq_getElem hj, V.getD_at _ _ hj]
      rfl

theorem dsize {done : List ByteArray} {s : ByteArray} {f k : Nat} (hd : ∀ x ∈ done, x.size ≤ 40) (hs : s.size ≤ 40) (hk : k ≤ s.size) : ∀ x ∈ done ++ [s.extract f k], x.size ≤ 40 := by
  intro x hx
  rcases List.mem_append.1 hx with h | h
  · exact hd x h
  · have e := List.mem_singleton.1 h
    subst e
    rw [ByteArray.size_extract]; omega

set_option maxHeartbeats 1600000 in
theorem pieces_any (s : ByteArray) (c : UInt8) (w : World) (hs : s.size ≤ 40) :
    Calls Tryd.prog 58 #[.string s, .int .u8 (c.toNat : Int)] w fun e w' => ∃ v, e = .returned v ∧ Txt w.heap.size w' v (V.pieces c s.data.toList) ∧ Below w.heap.size w w' := by
  obtain ⟨i0, hi, hz0, hz1, hz2⟩ := info_parts Tryd.info9
  go_enter Tryd.func58, Tryd.ntmps58
  go_wp2
  go_loopw [5, 6, 7] (fun v fr i wr => ∃ (k f : Nat) (done : List ByteArray), k ≤ s.size + 1 ∧ (k ≤ s.size → f ≤ k) ∧ done.length ≤ k ∧ i = .int .i64 k ∧ fr = .int .i64 f ∧ wr.ownsRow w.heap.size 9 1 v done.length (done.map Value.string) ∧ Below w.heap.size w wr ∧ Hid (∀ x ∈ done, x.size ≤ 40) ∧ Hid (St s c k f done)) (fun _ _ i _ => s.size + 1 - (intOf i).toNat)
  case atStart => exact ⟨0, 0, [], by omega, fun _ => Nat.le_refl _, Nat.le_refl _, rfl, rfl, ⟨rfl, Or.inl ⟨rfl, rfl⟩⟩, Below.refl _ _, hide (by simp), hide (St.start s c)⟩
  case round =>
    obtain ⟨k, f, done, hk, hfk, hdl, rfl, rfl, hown, hnx, HD, HS⟩ := hrel
    have hsz : w.heap.size ≤ wr.heap.size := hnx.size
    by_cases hle : k ≤ s.size
    · have hf := hfk hle
      clear hfk
      by_cases hlt : k < s.size
      · have hne : ((k : Int) == (s.size : Int)) = false := beq_eq_false_iff_ne.2 (by omega)
        have HG : Hid (s.data.toList[k]? = some s[k]) := hide (Lib.data_getElem? s k hlt)
        cases hb : ((s[k].toNat : Int) == (c.toNat : Int))
        · have HNE : Hid (s.data.toList[k]? ≠ some c) := by
            refine hide ?_
            rw [HG.out]
            intro e
            injection e with e
            rw [e] at hb
            simp at hb
          go_wp2
          go_roundw
          case rel => exact ⟨k + 1, f, done, by omega, fun _ => by omega, by omega, by go_num, rfl, hown, hnx, HD, hide (HS.out.next hlt HNE.out)⟩
          case measure => simp [intOf]; omega
        · have HEQ : Hid (s.data.toList[k]? = some c) := by
            refine hide ?_
            rw [HG.out]
            have := beq_iff_eq.1 hb
            rw [UInt8.toNat_inj.1 (show s[k].toNat = c.toNat by omega)]
          go_wp2_with (at_builtin; refine wpList_append_own _ rfl _ _ 32 rfl w.heap.size 9 i0 (.string ByteArray.empty) 1 16 Tryd.underlying32 hi hz0 hz1 hz2 rfl (by decide) _ _ _ rfl (hown.alloc _) ⟨wr.heap.size, 0, none⟩ 1 1 [.string (s.extract f k)] rfl rfl ?c1A ?c2A ?c3A ?c4A ?c5A ?_)
          case c1A =>
            intro j u hj
            match j, hj with
            | 0, hj => simp at hj; subst hj; simp [Addr.add]
          case c2A => first | rfl | (intro u hu; simp at hu; subst hu; rfl)
          case c3A => unfold maxLen; omega
          case c4A => omega
          case c5A => simp; omega
          intro v' w2 hown' hgrow _
          have hb2 : Below w.heap.size w w2 := (hnx.alloc hsz _).grown hgrow (by simp; omega) (own_base hown)
          have hown2 : w2.ownsRow w.heap.size 9 1 v' (done ++ [s.extract f k]).length ((done ++ [s.extract f k]).map Value.string) := by
            rw [List.length_append, List.map_append]; exact hown'
          clear hown' hgrow
          go_wp2
          go_roundw
          case rel => exact ⟨k + 1, k + 1, done ++ [s.extract f k], by omega, fun _ => Nat.le_refl _, by simp; omega, by go_num, by go_num, hown2, hb2, hide (dsize HD.out hs hle), hide (HS.out.cut hlt hf HEQ.out)⟩
          case measure => simp [intOf]; omega
      · have he : k = s.size := by omega
        subst he
        have heq : ((s.size : Int) == (s.size : Int)) = true := beq_self_eq_true _
        go_wp2_with (at_builtin; refine wpList_append_own _ rfl _ _ 32 rfl w.heap.size 9 i0 (.string ByteArray.empty) 1 16 Tryd.underlying32 hi hz0 hz1 hz2 rfl (by decide) _ _ _ rfl (hown.alloc _) ⟨wr.heap.size, 0, none⟩ 1 1 [.string (s.extract f s.size)] rfl rfl ?c1B ?c2B ?c3B ?c4B ?c5B ?_)
        case c1B =>
          intro j u hj
          match j, hj with
          | 0, hj => simp at hj; subst hj; simp [Addr.add]
        case c2B => first | rfl | (intro u hu; simp at hu; subst hu; rfl)
        case c3B => unfold maxLen; omega
        case c4B => omega
        case c5B => simp; omega
        intro v' w2 hown' hgrow _
        have hb2 : Below w.heap.size w w2 := (hnx.alloc hsz _).grown hgrow (by simp; omega) (own_base hown)
        have hown2 : w2.ownsRow w.heap.size 9 1 v' (done ++ [s.extract f s.size]).length ((done ++ [s.extract f s.size]).map Value.string) := by
          rw [List.length_append, List.map_append]; exact hown'
        clear hown' hgrow
        go_wp2
        go_roundw
        case rel => exact ⟨s.size + 1, s.size + 1, done ++ [s.extract f s.size], by omega, fun _ => Nat.le_refl _, by simp; omega, by go_num, by go_num, hown2, hb2, hide (dsize HD.out hs (Nat.le_refl _)), hide (HS.out.last hf _)⟩
        case measure => simp [intOf]
    · go_wp2
      go_ret
      have hall := HS.out.all (by omega)
      refine ⟨_, rfl, ?_, hnx⟩
      rw [hall]
      refine own_txt hown (fun e => ?_) (by unfold maxLen; omega) (fun x hx => ?_)
      · rw [e] at hall; exact V.pieces_ne _ _ hall
      · have := HD.out x hx; unfold maxLen; omega

end Go.Proofs.YtcfhleenecfghaaDoor
