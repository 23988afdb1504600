/- Two sorted parts of a list of files become one; a block of it is sorted by insertion; how blocks grow. -/
import Derived.Test.YtcfhleenecfghaaDoorDge
import Derived.Shelf.SlSortFuncK.SWK
namespace Go.Proofs.YtcfhleenecfghaaDoor
open Go.Shelf Go.RowKit Go.Lib Go.Sort
variable {P : Program} {k : Nat} {β : Type} [Inhabited β]

theorem symMerge_any (L : StLay P k) (enc : β × Nat → List Value) (cf : β → β → Int) (g : Nat) (cb : Array Value) (blk off cap : Nat) (w : World) (d0 : Array (β × Nat)) (hK : CK P k enc cf g cb w blk off d0) :
    ∀ (N a m b q0 : Nat) (d : Array (β × Nat)) (os : Array Obj), b - a ≤ N → d.size = d0.size → a < m → m < b → b ≤ d.size → Parts (ltOf cf) d a m b →
    Calls P 89 #[.slice (some ⟨blk, off, none⟩) d0.size cap, .int .i64 a, .int .i64 m, .int .i64 b, .func (.func g) #[] cb] (sortWorldK enc k w blk off q0 d os) (MergePost enc k cf blk off w a b d) := by
  intro N
  induction N with
  | zero => intro a m b q0 d os hN _ h1 h2; omega
  | succ N ih =>
    intro a m b q0 d os hN hs ham hmb hb hp
    by_cases h1 : m = a + 1
    · subst h1
      exact merge_left L enc cf g cb blk off cap w d0 hK a b q0 d os hs hmb hb hp
    · by_cases h2 : b = m + 1
      · subst h2
        exact merge_right L enc cf g cb blk off cap w d0 hK a m q0 d os hs (by omega) hb hp
      · exact merge_more L enc cf g cb blk off cap w d0 hK a m b q0 d os hs (by omega) (by omega) hb hp (fun a' m' b' q d' os' hl hs' h3 h4 h5 h6 => ih a' m' b' q d' os' (by omega) hs' h3 h4 h5 h6)

theorem flt_swo {γ : Type} {lt : γ → γ → Bool} (hO : SWO lt) : SWO (flt lt) := ⟨fun x => hO.irrefl x.1, fun _ _ _ h1 h2 => hO.trans _ _ _ h1 h2, fun _ _ _ h1 h2 => hO.ntrans _ _ _ h1 h2⟩

theorem insertion_any (LI : SlLaysF0.n20 P sort_ren) (L : StLay P k) (enc : β × Nat → List Value) (cf : β → β → Int) (g : Nat) (cb : Array Value) (blk off cap : Nat) (w : World) (d0 : Array (β × Nat)) (hK : CK P k enc cf g cb w blk off d0) (a b q0 : Nat) (d : Array (β × Nat)) (os : Array Obj) (hs : d.size = d0.size) (hab : a ≤ b) (hb : b ≤ d.size) :
    Calls P 88 #[.slice (some ⟨blk, off, none⟩) d0.size cap, .int .i64 a, .int .i64 b, .func (.func g) #[] cb] (sortWorldK enc k w blk off q0 d os) fun e w' =>
      e = .returned (.tuple #[]) ∧ ∃ q os', w' = sortWorldK enc k w blk off q (Sort.insertionSort (flt (ltOf cf)) d a b) os' := by
  have hC : CmpLays P g cb enc k (fun x y => cf x.1 y.1) blk off d.size (sortWorldK enc k w blk off q0 d os) := fun m os' dk hdk x y => by
    rw [sortWorldK_on enc k w blk off q0 m d dk os os' hK.sk.here hdk]
    exact hK.lays _ _ dk (by omega) x y
  have hsz := hK.sk.size
  have hz : (Sort.insertionSort (flt (ltOf cf)) d a b).size = d.size := (insertionSort_holds (flt_swo hK.order) d a b hab hb).1.1
  have h := AnyQ.insertionSortCmpFunc LI k L.a69 L.z69 enc hK.sk.two hK.sk.one (fun x y => cf x.1 y.1) g cb blk off cap a b d (sortWorldK enc k w blk off q0 d os) hK.enters hC (holdsK_sortWorldK_c enc k w blk off d0 d q0 os hK.sk.holds hK.sk.here hs) (Nat.lt_of_lt_of_le hK.sk.here (size_sortWorldK_c enc k w blk off q0 d os)) hab hb (by omega)
  rw [hs] at h
  refine Calls.mono h ?_
  rintro e w' ⟨rfl, n, os', rfl⟩
  refine ⟨rfl, q0 + n, os ++ os', ?_⟩
  exact sortWorldK_on enc k w blk off q0 n d (Sort.insertionSort (flt (ltOf cf)) d a b) os os' hK.sk.here hz

/-- A block that begins at x is sorted, and its elements are those that were there first. -/
def Good (lt : β → β → Bool) (n s : Nat) (d : Array (β × Nat)) (x : Nat) : Prop :=
  SortedIn (tlt lt) x (min (x + s) n) d ∧ ∀ p, x ≤ p → p < min (x + s) n → x ≤ (d[p]!).2 ∧ (d[p]!).2 < x + s

theorem Good.same {lt : β → β → Bool} {n s : Nat} {d d' : Array (β × Nat)} {x : Nat} (h : Good lt n s d x) (he : ∀ p, x ≤ p → p < min (x + s) n → d'[p]! = d[p]!) : Good lt n s d' x := by
  refine ⟨fun i j hi hij hj => ?_, fun p h1 h2 => ?_⟩
  · rw [he i hi (by omega), he j (by omega) hj]; exact h.1 i j hi hij hj
  · rw [he p h1 h2]; exact h.2 p h1 h2
theorem step_le {s x y : Nat} (h1 : s ∣ x) (h2 : s ∣ y) (h : x < y) : x + s ≤ y := by
  have h3 := Nat.le_of_dvd (by omega) (Nat.dvd_sub h2 h1)
  omega
/-- Two blocks side by side. -/
theorem good_parts {lt : β → β → Bool} {n s : Nat} {d : Array (β × Nat)} {a b : Nat} (h1 : Good lt n s d a) (h2 : Good lt n s d (a + s)) (hm : a + s < n) (hb : b = min (a + 2 * s) n) : Parts lt d a (a + s) b := by
  have e1 : min (a + s) n = a + s := by omega
  have e2 : min (a + s + s) n = b := by omega
  refine ⟨?_, ?_, fun i j hi1 hi2 hj1 hj2 => ?_⟩
  · have := h1.1; rwa [e1] at this
  · have := h2.1; rwa [e2] at this
  · have x1 := (h1.2 i hi1 (by omega)).2
    have x2 := (h2.2 j hj1 (by omega)).1
    omega
/-- What a merge makes of them. -/
theorem good_merge {lt : β → β → Bool} {n s : Nat} {d d' : Array (β × Nat)} {a b : Nat} (h1 : Good lt n s d a) (h2 : Good lt n s d (a + s)) (hn : n ≤ d.size) (hm : a + s < n) (hb : b = min (a + 2 * s) n) (hp : PermIn a b d d') (hq : SortedIn (tlt lt) a b d') : Good lt n (2 * s) d' a := by
  unfold Good
  rw [← hb]
  refine ⟨hq, fun p hp1 hp2 => ?_⟩
  refine permIn_all d d' a b (fun x => a ≤ x.2 ∧ x.2 < a + 2 * s) (by omega) hp (fun i hi1 hi2 => ?_) p hp1 hp2
  by_cases hi : i < a + s
  · have := h1.2 i hi1 (by omega)
    omega
  · have := h2.2 i (by omega) (by omega)
    omega
theorem good_last {lt : β → β → Bool} {n s : Nat} {d : Array (β × Nat)} {a : Nat} (h1 : Good lt n s d a) (hm : n ≤ a + s) : Good lt n (2 * s) d a := by
  unfold Good at *
  rw [show min (a + s) n = n by omega] at h1
  rw [show min (a + 2 * s) n = n by omega]
  refine ⟨h1.1, fun p h2 h3 => ?_⟩
  have := h1.2 p h2 h3
  omega
end Go.Proofs.YtcfhleenecfghaaDoor
