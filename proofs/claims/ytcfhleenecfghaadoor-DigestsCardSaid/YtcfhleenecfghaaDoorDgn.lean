/- Files that were copied are sorted stably by name. -/
import Derived.Test.YtcfhleenecfghaaDoorDgk
import Derived.Test.YtcfhleenecfghaaDoorDgm
namespace Go.Proofs.YtcfhleenecfghaaDoor
open Go.RowKit Go.Sort Go.Shelf Go.Lib

theorem flatF_get : ∀ (L : List Fil) (t : Nat) (f : Fil), L[t / 2]? = some f → (flatF L)[t]? = (encF (f, 0))[t % 2]?
  | [], t, f, h => by simp at h
  | a :: r, 0, f, h => by
    have e : a = f := by simpa using h
    subst e; rfl
  | a :: r, 1, f, h => by
    have e : a = f := by simpa using h
    subst e; rfl
  | a :: r, t + 2, f, h => by
    have e1 : (t + 2) / 2 = t / 2 + 1 := by omega
    have e2 : (t + 2) % 2 = t % 2 := by omega
    rw [e1, List.getElem?_cons_succ] at h
    rw [e2, ← flatF_get r t f h]
    rfl
/-- Each file with its place. -/
def tagged (L : List Fil) : Array (Fil × Nat) := L.zipIdx.toArray
theorem tagged_size (L : List Fil) : (tagged L).size = L.length := by simp [tagged]
theorem tagged_get (L : List Fil) (p : Nat) (h : p < L.length) : (tagged L)[p]! = (L[p], p) := by
  rw [getElem!_pos _ p (by rw [tagged_size]; exact h)]
  simp [tagged]
theorem flatK_tagged (L : List Fil) (t : Nat) (h : t < L.length * 2) : (flatF L)[t]? = some ((flatK encF 2 (tagged L))[t]!) := by
  have h2 : t / 2 < L.length := by omega
  rw [get_flatK encF 2 (tagged L) t (by rw [tagged_size]; exact h), tagged_get L _ h2, flatF_get L t L[t / 2] (List.getElem?_eq_getElem h2)]
  rcases (by omega : t % 2 = 0 ∨ t % 2 = 1) with e | e <;> rw [e] <;> rfl

theorem holds_tagged {w : World} {B cg cc : Nat} {L : List Fil} (h : w.ownsRow B 69 2 (.slice (some ⟨cg, 0, none⟩) L.length cc) L.length (flatF L)) : HoldsK encF 2 w cg 0 (tagged L) ∧ cg < w.heap.size := by
  rcases h.2 with ⟨e0, _⟩ | ⟨g, cap, cur, e, hb, hg, hn, hm, hs, ht⟩
  · cases e0
  · injection e with e1
    injection e1 with e1
    injection e1 with e1
    subst e1
    have hlt : cg < w.heap.size := by
      rcases Nat.lt_or_ge cg w.heap.size with h' | h'
      · exact h'
      · rw [Array.getElem?_eq_none h'] at hg; cases hg
    refine ⟨fun j hj => ?_, hlt⟩
    rw [size_flatK, tagged_size] at hj
    have hx := flatK_tagged L j hj
    rw [← ht, List.getElem?_take_of_lt hj] at hx
    constructor
    · simp only [World.cell?, hg, Nat.zero_add]
      simpa using hx
    · simp [World.frozen?, hg]

theorem ckF {w : World} {B cg cc : Nat} {L : List Fil} (hl : L.length ≤ 4398046511104) (h : w.ownsRow B 69 2 (.slice (some ⟨cg, 0, none⟩) L.length cc) L.length (flatF L)) : CK Tryd.prog 2 encF cfF 64 #[] w cg 0 (tagged L) where
  sk := {
    two := fun _ => rfl
    one := fun x v hv => by
      simp [encF] at hv
      rcases hv with rfl | rfl <;> rfl
    holds := (holds_tagged h).1
    here := (holds_tagged h).2
    size := by rw [tagged_size]; omega }
  enters := enter64
  lays := lays64 _ _ _ _
  order := swoF

/-- slices.SortStableFunc of files: by name, of one name by place. -/
theorem sortFiles_any (B cg cc : Nat) (L : List Fil) (w : World) (hl : L.length ≤ 4398046511104) (hown : w.ownsRow B 69 2 (.slice (some ⟨cg, 0, none⟩) L.length cc) L.length (flatF L)) :
    Calls Tryd.prog 63 #[.slice (some ⟨cg, 0, none⟩) L.length cc, .func (.func 64) #[] #[]] w fun e w' => e = .returned (.tuple #[]) ∧ ∃ (q : Nat) (S : List (Fil × Nat)) (os : Array Obj), w' = sortWorldK encF 2 w cg 0 q S.toArray os ∧ S.length = L.length ∧ V.InTags S ∧ ∀ (g : Fil) (u : Nat), (g, u) ∈ S ↔ L[u]? = some g := by
  have h := sortStable_any sortL stLay encF cfF 64 #[] cg 0 cc w (tagged L) (ckF hl hown) (by rw [tagged_size]; omega) (fun p hp => by rw [tagged_size] at hp; rw [tagged_get L p hp])
  rw [tagged_size] at h
  refine Calls.mono h ?_
  rintro e w' ⟨rfl, q, d', os, rfl, hp, hs⟩
  have hd : d'.size = L.length := by rw [hp.1, tagged_size]
  have hpl : d'.toList.Perm L.zipIdx := by
    have h3 := hp.2.2
    rw [← hd, Array.extract_size] at h3
    rw [show (tagged L).extract 0 d'.size = tagged L from by rw [hp.1]; exact Array.extract_size] at h3
    simpa [tagged] using h3
  refine ⟨rfl, q, d'.toList, os, by simp, by simpa using hd, ?_, fun g u => ?_⟩
  · unfold V.InTags
    rw [List.pairwise_iff_getElem]
    intro i j hi hj hij
    have := hs i j (Nat.zero_le _) hij (by rw [← hd]; simpa using hj)
    rw [getElem!_pos d' i (by simpa using hi), getElem!_pos d' j (by simpa using hj)] at this
    simpa using this
  · rw [hpl.mem_iff, List.mem_zipIdx_iff_getElem?]
end Go.Proofs.YtcfhleenecfghaaDoor
