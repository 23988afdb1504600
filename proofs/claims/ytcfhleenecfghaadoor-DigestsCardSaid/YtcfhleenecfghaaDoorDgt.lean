/- The files of a release in their order: copied, sorted, the later ones of a name left out. -/
import Derived.Test.YtcfhleenecfghaaDoorDgn
import Derived.Test.YtcfhleenecfghaaDoorDgp
import Derived.Test.YtcfhleenecfghaaDoorDgs
import Derived.Sort.OwnSorted
namespace Go.Proofs.YtcfhleenecfghaaDoor
open Go.RowKit Go.Sort Go.Shelf Go.Lib

theorem below_sortK {α : Type} [Inhabited α] {enc : α → List Value} {k B : Nat} {w : World} {g q : Nat} {d : Array α} {os : Array Obj} (hg : B ≤ g) (hB : B ≤ w.heap.size) : Below B w (sortWorldK enc k w g 0 q d os) := by
  unfold sortWorldK putRowK
  have h1 := Lib.below_putRow (enc := (id : Value → Value)) (g := g) (q := q) (d := flatK enc k d) (Below.refl B w) hg
  refine h1.trans ⟨rfl, rfl, rfl, by simp [grow], fun k hk => ?_⟩
  show (_ ++ os)[k]? = _
  rw [Array.getElem?_append_left]
  have := h1.size
  omega

theorem enter66 : ∀ args w, (callFunc 66 args).run Tryd.prog w = .ok (.enter 66 args) w := by
  intro args w; exact enters_of Tryd.func66 (by kernel_rfl) rfl args w
theorem toList_eq (a b : ByteArray) : (a.toList == b.toList) = (a.data.toList == b.data.toList) := by
  rw [show a.toList = a.data.toList from ByteArray.toList_eq a, show b.toList = b.data.toList from ByteArray.toList_eq b]
theorem lays66 (blk off size : Nat) (w : World) : EqLays Tryd.prog 66 #[] encF 2 eqF blk off size w := by
  intro m os dk _ x y
  refine Calls.mono (alike_any x.1.1 x.1.2 y.1.1 y.1.2 _) ?_
  rintro e w' ⟨rfl, o1, o2, rfl⟩
  refine ⟨by rw [toList_eq]; rfl, 0, #[o1] ++ #[o2], ?_⟩
  rw [alloc_eq_grow, alloc_eq_grow, grow_grow]; rfl

/-- What lies in a row of files. -/
def FilesAt (w : World) (g o : Nat) (L : List Fil) : Prop := ∀ (j : Nat) (u : Value), (flatF L)[j]? = some u → w.cell? ⟨g, o + j, none⟩ = some u

theorem filesAt_of_holds {w : World} {g : Nat} {d : Array (Fil × Nat)} {L : List Fil} (h : HoldsK encF 2 w g 0 d) (hl : L.length ≤ d.size) (hd : ∀ (j : Nat) (hj : j < L.length), (d[j]!).1 = L[j]) : FilesAt w g 0 L := by
  intro j u hu
  have hj : j < L.length * 2 := by
    rw [← flatF_len]; exact (List.getElem?_eq_some_iff.1 hu).1
  have h2 : j / 2 < L.length := by omega
  have hh := (h j (by rw [size_flatK]; omega)).1
  rw [get_flatK encF 2 d j (by omega)] at hh
  rw [flatF_get L j L[j / 2] (List.getElem?_eq_getElem h2), ← hd (j / 2) h2] at hu
  rw [hh]
  rcases (by omega : j % 2 = 0 ∨ j % 2 = 1) with e | e <;> rw [e] at hu ⊢ <;> exact hu

set_option maxHeartbeats 800000 in
theorem inOrder_any (lg lo lc : Nat) (L : List Fil) (w : World) (hl : L.length ≤ 4398046511104) (hne : L ≠ []) (hc : FilesAt w lg lo L) :
    Calls Tryd.prog 49 #[.slice (some ⟨lg, lo, none⟩) L.length lc] w fun e w' => ∃ cg cc, e = .returned (.slice (some ⟨cg, 0, none⟩) (V.files L).length cc) ∧ FilesAt w' cg 0 (V.files L) ∧ Below w.heap.size w w' := by
  have HC : Hid (FilesAt w lg lo L) := hc
  clear hc
  go_enter Tryd.func49, Tryd.ntmps49
  go_wp2_with fail
  go_at_call 62
  refine (cloneFiles_any lg lo lc L w hl hne HC.out).mono ?_
  rintro e w1 ⟨cg, cc, rfl, hown, hb⟩
  have HO : Hid (w1.ownsRow w.heap.size 69 2 (.slice (some ⟨cg, 0, none⟩) L.length cc) L.length (flatF L)) := hown
  clear hown
  go_wp2_with fail
  go_at_call 63
  refine (sortFiles_any w.heap.size cg cc L w1 hl HO.out).mono ?_
  rintro e w2 ⟨rfl, q, S, os, hw2, hlen, hin, hmem⟩
  have hlt := HO.out.lt cg rfl
  have hH := (holds_tagged HO.out).1
  have hS : S.toArray.size = L.length := by simpa using hlen
  have hcap : L.length ≤ cc := by
    rcases HO.out.2 with ⟨e0, _⟩ | ⟨g, cap, cur, e, _, _, hn, _⟩
    · cases e0
    · injection e with _ _ e3
      omega
  have hH2 : HoldsK encF 2 w2 cg 0 S.toArray := by
    rw [hw2]; exact holdsK_sortWorldK_c encF 2 w1 cg 0 (tagged L) S.toArray q os hH hlt.2 (by rw [tagged_size]; exact hS)
  have hb2 : Below w.heap.size w1 w2 := by rw [hw2]; exact below_sortK hlt.1 hb.size
  have hK : SK 2 encF w2 cg 0 S.toArray := {
    two := fun _ => rfl
    one := fun x v hv => by
      simp [encF] at hv
      rcases hv with rfl | rfl <;> rfl
    holds := hH2
    here := Nat.lt_of_lt_of_le hlt.2 hb2.size
    size := by rw [hS]; omega }
  have hcomp := compact_any stLay (.agg #[.string ⟨#[]⟩, .string ⟨#[]⟩]) (((⟨#[]⟩, ⟨#[]⟩) : Fil), 0) cpLay encF eqF 66 #[] cg 0 cc w2 S.toArray hK enter66 (lays66 _ _ _ _) (by rw [hS]; exact hcap) rfl
  rw [hS] at hcomp
  have hfl : (compE eqF S.toArray L.length).map (·.1) = V.files L := by
    rw [V.comp_upto S L.length (by omega), ← hlen, List.take_length, V.comp_files L S hin hmem]
  have hll : (compE eqF S.toArray L.length).length = (V.files L).length := by rw [← hfl]; simp
  rw [hll] at hcomp
  have HF : Hid _ := hfl
  have HL : Hid ((V.files L).length ≤ L.length) := V.files_len L
  have HH2 : Hid _ := hH2
  have HLT : Hid _ := hlt
  clear hw2 hH hmem hin hfl hll hH2 hlt hS
  go_wp2_with fail
  go_at_call 65
  refine hcomp.mono ?_
  rintro e w3 ⟨rfl, q3, dk, os3, hw3, hdk, hget⟩
  go_wp2
  go_ret
  refine ⟨cg, cc, rfl, ?_, hb.trans (hb2.trans (below_sortK HLT.out.1 (Nat.le_trans hb.size hb2.size)))⟩
  have hH3 : HoldsK encF 2 (sortWorldK encF 2 w2 cg 0 q3 dk os3) cg 0 dk := holdsK_sortWorldK_c encF 2 w2 cg 0 S.toArray dk q3 os3 HH2.out (Nat.lt_of_lt_of_le HLT.out.2 hb2.size) (by rw [hdk]; simpa using hlen.symm)
  refine filesAt_of_holds hH3 (by rw [hdk]; exact HL.out) fun j hj => ?_
  have h1 := hget j hj
  have h2 : (V.files L)[j]? = some (dk[j]!).1 := by rw [← HF.out, List.getElem?_map, h1]; rfl
  rw [List.getElem?_eq_getElem hj, Option.some.injEq] at h2
  exact h2.symm
end Go.Proofs.YtcfhleenecfghaaDoor
