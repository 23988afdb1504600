/- Lines of a manifest are copied and sorted. -/
import Derived.Test.YtcfhleenecfghaaGreatDoorYa
import Derived.Test.YtcfhleenecfghaaGreatDoorYc
import Derived.Test.YtcfhleenecfghaaGreatDoorShelf3
import Derived.Lib.QuietBelow
import Derived.Lib.OwnBridge
namespace Go.Proofs.YtcfhleenecfghaaGreatDoor
open Go.RowKit Go.Sort

theorem eqnil84 (a : Addr) (n c : Nat) (w : World) : (binOp .eql 99 (.slice (some a) n c) (.slice none 0 0)).run Tryz.prog w = .ok (.bool false) w := by kernel_rfl
theorem build84 (w : World) : (Instr.buildSlice 99 0 #[]).run Tryz.prog w = .ok (.slice (some ⟨w.heap.size, 0, none⟩) 0 0) (w.alloc (.cells #[] 179)) := by kernel_rfl
theorem lineV_one (x : Nat × List ByteArray) : (lineV x).oneCell' = true := rfl

set_option maxHeartbeats 800000 in
set_option maxRecDepth 100000 in
theorem cloneLines_any (B lg lc : Nat) (L : List (Nat × List ByteArray)) (w : World) (hl : L.length ≤ 1000000000000) (hne : L ≠ []) (hown : w.ownsRow B 179 1 (.slice (some ⟨lg, 0, none⟩) L.length lc) L.length (L.map lineV)) :
    Calls Tryz.prog 96 #[.slice (some ⟨lg, 0, none⟩) L.length lc] w fun e w' => ∃ cg cc, e = .returned (.slice (some ⟨cg, 0, none⟩) L.length cc) ∧ w'.ownsRow w.heap.size 179 1 (.slice (some ⟨cg, 0, none⟩) L.length cc) L.length (L.map lineV) ∧ Below w.heap.size w w' := by
  obtain ⟨i0, hi, hz0, hz1, hz2⟩ := info_parts info109
  have hcs := hown.cells (g := lg) rfl
  have HC := hide hcs
  have hpos : 0 < L.length := List.length_pos_iff.2 hne
  have hnil := eqnil84
  have hown0 : (w.alloc (.cells #[] 179)).ownsRow w.heap.size 179 1 (.slice (some ⟨w.heap.size, 0, none⟩) 0 0) 0 [] :=
    ⟨rfl, Or.inr ⟨w.heap.size, 0, #[], rfl, Nat.le_refl _, heap_alloc_new w _, by omega, by unfold maxLen; omega, rfl, rfl⟩⟩
  have hbs := build84
  have HL : Hid ((L.map lineV).length = L.length) := hide (List.length_map ..)
  have HN : Hid (∀ j u, (L.map lineV)[j]? = some u → w.cell? ((⟨lg, 0, none⟩ : Addr).add j) = some u) := hide hcs
  have HO : Hid (∀ u ∈ L.map lineV, u.oneCell' = true) := hide fun u hu => by
    obtain ⟨x, _, rfl⟩ := List.mem_map.1 hu
    exact lineV_one x
  generalize L.map lineV = xs at HL HN HO ⊢
  generalize L.length = n at *
  clear hown hcs HC
  go_enter Tryz.func96, Tryz.ntmps96
  go_wp2_with (at_builtin; refine wpList_append_own _ rfl _ _ 99 rfl w.heap.size 179 i0 .nilIface 1 16 Tryz.underlying99 hi hz0 hz1 hz2 rfl (by decide) _ _ _ rfl hown0 ⟨lg, 0, none⟩ n lc xs rfl ?c0 ?c1 ?c2 ?c3 ?c4 ?c5 ?_)
  case c0 => rw [HL.out, Nat.mul_one]
  case c1 =>
    intro j u hj
    have h := HN.out j u hj
    rw [add_off] at h ⊢
    exact keepA h _
  case c2 => exact HO.out
  case c3 => unfold maxLen; omega
  case c4 => omega
  case c5 => simp
  intro v' w2 hown' hgrow _
  have hb2 : Below w.heap.size w w2 := ((Below.refl _ w).alloc (Nat.le_refl _) _).grown hgrow (by simp) (fun k hk => by simp [Value.ownBlock] at hk; omega)
  obtain ⟨cg, cc, hv⟩ : ∃ cg cc, v' = .slice (some ⟨cg, 0, none⟩) n cc := by
    rcases hown'.2 with ⟨_, h0⟩ | ⟨cg, cc, cur, hv, _⟩
    · omega
    · exact ⟨cg, cc, hv⟩
  subst hv
  have HO' : Hid (w2.ownsRow w.heap.size 179 1 (.slice (some ⟨cg, 0, none⟩) n cc) n xs) := hide (by simpa using hown')
  clear hown' hgrow
  go_wp2
  go_ret
  exact ⟨cg, cc, rfl, HO'.out, hb2⟩

/-- Lines that are as they should be. -/
abbrev Ln : Type := { x : Nat × List ByteArray // V.Valid x.1 x.2 }
instance : Inhabited Ln := ⟨⟨(123, [⟨#[97]⟩]), ⟨Or.inl ⟨rfl, _, rfl⟩, by decide⟩⟩⟩
def encL (x : Ln) : Value := lineV x.1
/-- The order of two lines. -/
def cfL (x y : Ln) : Int := V.ord (V.place x.1.1 x.1.2) (V.place y.1.1 y.1.2)
theorem swoL : SWO (ltOf cfL) where
  irrefl x := by
    unfold ltOf cfL
    rw [V.ord_pre.refl]; rfl
  trans x y z h1 h2 := by
    unfold ltOf cfL at *
    rw [decide_eq_true_eq] at *
    have t := V.ord_pre.2.2 (V.place x.1.1 x.1.2) (V.place y.1.1 y.1.2) (V.place z.1.1 z.1.2) (by omega) (by omega)
    have r1 := V.ord_pre.2.1 (V.place x.1.1 x.1.2) (V.place z.1.1 z.1.2)
    by_cases h0 : V.ord (V.place x.1.1 x.1.2) (V.place z.1.1 z.1.2) = 0
    · have t2 := V.ord_pre.2.2 (V.place z.1.1 z.1.2) (V.place x.1.1 x.1.2) (V.place y.1.1 y.1.2) (by omega) (by omega)
      have r2 := V.ord_pre.2.1 (V.place y.1.1 y.1.2) (V.place z.1.1 z.1.2)
      omega
    · omega
  ntrans x y z h1 h2 := by
    unfold ltOf cfL at *
    rw [decide_eq_false_iff_not] at *
    have r1 := V.ord_pre.2.1 (V.place x.1.1 x.1.2) (V.place y.1.1 y.1.2)
    have r2 := V.ord_pre.2.1 (V.place y.1.1 y.1.2) (V.place z.1.1 z.1.2)
    have r3 := V.ord_pre.2.1 (V.place x.1.1 x.1.2) (V.place z.1.1 z.1.2)
    have t := V.ord_pre.2.2 (V.place z.1.1 z.1.2) (V.place y.1.1 y.1.2) (V.place x.1.1 x.1.2) (by omega) (by omega)
    omega

theorem grown_of_below {w w' : World} (h : Below w.heap.size w w') (hd : w.drawn ≤ w'.drawn) : ∃ q os, w' = grow (w.drewN q) os := by
  obtain ⟨p, hp⟩ := regrown_of_below h
  have hd' : w.drawn ≤ p.d := by rw [hp] at hd; exact hd
  refine ⟨p.d - w.drawn, p.os, ?_⟩
  rw [hp]
  unfold redrawn World.drewN
  rw [show w.drawn + (p.d - w.drawn) = p.d by omega]
theorem cell0_sorted {w : World} {blk m : Nat} {dk : Array Ln} {os : Array Obj} {v : Value} (hb : blk ≠ 0) (h : w.cell? ⟨0, 0, none⟩ = some v) : (sortWorld encL w blk 0 m dk os).cell? ⟨0, 0, none⟩ = some v := by
  have h0 : 0 < w.heap.size := pos_of_cell h
  unfold sortWorld
  rw [cell?_grow _ _ _ (by rw [size_putRow]; exact h0), cell?_putRow_other _ _ _ _ _ _ (Or.inl (fun e => hb e.symm))]
  exact h
theorem cmpLays (blk size : Nat) (m : Int) (w : World) (hb : blk ≠ 0) (hm : w.cell? ⟨0, 0, none⟩ = some (.int .i64 m)) : CmpLays1 Tryz.prog 98 #[] encL cfL blk 0 size w := by
  intro k os dk _ x y
  refine (closure_any x.1 y.1 m _ x.2 y.2 (cell0_sorted hb hm)).mono ?_
  rintro e w' ⟨rfl, hb', hd⟩
  exact ⟨rfl, grown_of_below hb' hd⟩

/-- Lines with what is known of them. -/
def lns (L : List (Nat × List ByteArray)) (hv : ∀ x ∈ L, V.Valid x.1 x.2) : List Ln := L.pmap (fun x h => ⟨x, h⟩) hv
theorem lns_map (L : List (Nat × List ByteArray)) (hv : ∀ x ∈ L, V.Valid x.1 x.2) : (lns L hv).map (·.1) = L := by
  unfold lns
  rw [List.map_pmap]
  simp
theorem lns_enc (L : List (Nat × List ByteArray)) (hv : ∀ x ∈ L, V.Valid x.1 x.2) : (lns L hv).map encL = L.map lineV := by
  conv => rhs; rw [← lns_map L hv]
  rw [List.map_map]; rfl
theorem enter68 : ∀ args w, (callFunc 98 args).run Tryz.prog w = .ok (.enter 98 args) w := by
  intro args w; exact enters_of Tryz.func98 (by kernel_rfl) rfl args w

/-- slices.SortFunc of lines that are as they should be. -/
theorem sortLines_any (B cg cc : Nat) (m : Int) (L : List (Nat × List ByteArray)) (w : World) (hl : L.length ≤ 1000000000000) (hv : ∀ x ∈ L, V.Valid x.1 x.2) (hB : 0 < B) (hown : w.ownsRow B 179 1 (.slice (some ⟨cg, 0, none⟩) L.length cc) L.length (L.map lineV)) (hm : w.cell? ⟨0, 0, none⟩ = some (.int .i64 m)) :
    Calls Tryz.prog 97 #[.slice (some ⟨cg, 0, none⟩) L.length cc, .func (.func 98) #[] #[]] w fun e w' => e = .returned (.tuple #[]) ∧ ∃ R, R.Perm L ∧ V.InOrder R ∧ (∀ j (h : j < R.length), w'.cell? ⟨cg, j, none⟩ = some (lineV R[j])) ∧ Below B w w' := by
  have hlt := hown.lt cg rfl
  have hH : Holds encL w cg 0 (lns L hv).toArray := by
    obtain ⟨g, cap, e, _, _, _, _, _, h⟩ := Lib.holds_of_ownsRow (enc := encL) (zs := lns L hv) (by rw [lns_enc]; exact hown) (by intro e; cases e)
    injection e with e1
    injection e1 with e1
    injection e1 with e1
    subst e1
    exact h
  have hsz : (lns L hv).toArray.size = L.length := by simp [lns]
  have h := Any.slices_SortFunc Tryz.sortL encL (fun x => lineV_one x.1) cfL swoL 98 #[] cg 0 cc (lns L hv).toArray w enter68 (cmpLays cg _ m w (by omega) hm) hH hlt.2 (by rw [hsz]; omega)
  rw [hsz] at h
  refine h.mono ?_
  rintro e w' ⟨rfl, d', n, os, hp, hs, rfl⟩
  have hd : d'.size = L.length := by rw [hp.1, hsz]
  have hpl : d'.toList.Perm (lns L hv) := by
    have h3 := hp.2.2
    rw [← hd, Array.extract_size] at h3
    rw [show (lns L hv).toArray.extract 0 d'.size = (lns L hv).toArray from by rw [hp.1]; exact Array.extract_size] at h3
    simpa using h3
  refine ⟨rfl, d'.toList.map (·.1), ?_, ?_, ?_, ?_⟩
  · have := hpl.map (·.1)
    rwa [lns_map] at this
  · unfold V.InOrder
    rw [List.pairwise_map, List.pairwise_iff_getElem]
    intro i j hi hj hij
    have := hs i j (Nat.zero_le _) hij (by rw [← hd]; simpa using hj)
    unfold ltOf cfL at this
    rw [decide_eq_false_iff_not] at this
    rw [getElem!_pos d' i (by simpa using hi), getElem!_pos d' j (by simpa using hj)] at this
    simpa using this
  · intro j hj
    have hj' : j < d'.size := by simpa using hj
    have := (holds_sortWorld encL w cg 0 n _ d' os hlt.2 hH (by rw [hd, hsz]) j hj').1
    rw [Nat.zero_add, getElem!_pos d' j hj'] at this
    rw [this]
    simp [encL]
  · unfold sortWorld
    have h1 := Lib.below_putRow (enc := encL) (g := cg) (q := n) (d := d') (Below.refl B w) hlt.1
    refine h1.trans ⟨rfl, rfl, rfl, by simp [grow], fun k hk => ?_⟩
    show (_ ++ os)[k]? = _
    rw [Array.getElem?_append_left]
    have := h1.size
    omega

end Go.Proofs.YtcfhleenecfghaaGreatDoor
