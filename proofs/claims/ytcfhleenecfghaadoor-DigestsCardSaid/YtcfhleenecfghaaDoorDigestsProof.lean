/- For every release the law Digests answers true, and the release reads afterwards as before: the program's Digest answers the reference's sum, and what was lent is as it was; no condition beside the row's own. -/
import Derived.Test.YtcfhleenecfghaaDoorDhe
import Derived.Test.YtcfhleenecfghaaDoorCards
import Derived.Test.YtcfhleenecfghaaDoorTie
import Derived.ProofKit
import Derived.OpenShut
import Derived.Carry
import Derived.LaidMore
import Derived.Lay
import Derived.SevenTiedAt
import Derived.Stop.Joined
import Derived.HandedShaped
import Derived.ShutString
import Derived.Lib.SmallJoins
import Derived.Lib.LaidU8
import Derived.Deep.SlicePairs
namespace Go.Proofs.YtcfhleenecfghaaDoor.digests
open Go.ChangeShapes Go.WideShapes Go.ChangeAt Go.WideMaps Go.WideElems Go.RowKit

theorem own : ownKnob Tryd.prog.godebug = none := by kernel_rfl
theorem laidOut : laidOutB Tryd.prog = true := by kernel_rfl
theorem cells9 : Tryd.prog.cellsOf 9 = 1 := by kernel_rfl
theorem cells69 : Tryd.prog.cellsOf 69 = 2 := by kernel_rfl
theorem cells29 : Tryd.prog.cellsOf 29 = 4 := by kernel_rfl
theorem bytes69 : Tryd.prog.bytesOf 69 = 32 := by kernel_rfl

/-- The wrap of a row that lists variables, what they hold handed on. -/
theorem wrap_laid {H : Type} {enc : TypeId × Value → H} {C : Checked} {os : Os} {f : FuncId} {fn : Func} {s : ChangeSpec} {apart fresh handsOn again : Bool} {laid : List (String × DataW Unit)}
    (own : ownKnob C.prog.godebug = none) (started : os.Started) (noInit : C.prog.inits.idxOf? f = none) (hfn : C.prog.funcs[f]? = some fn) (hpl : (laid.all fun x => x.2.handleName?.isNone) = true)
    (witness : ∃ (w : World) (tape : Tape) (i : Input), w.os = os ∧ (w.forCall tape i).Shaped C.prog ∧ i.vars = [] ∧ Input.okWide C.prog (w.forCall tape i) .any w.heap.size f i ∧
      ((s.pre enc C.prog fn [] apart (w.forCall tape i).memory i.args ∧ laidMetH C.prog laid (w.forCall tape i).memory) ∧ sizedMet enc C.prog fn (OpenSpec.ofChange s) apart (w.forCall tape i).memory i.args) ∧ ({} : Assume).holds C.prog (lone (Frame.enter C.prog f i.args .normal) [] (w.forCall tape i)))
    (contract : ∀ (W : World) (base : Nat) (args : Array Value) (ds gs : List (DataW H)) (before : List MemPlace),
      (∀ (j : Nat) t v, fn.params[j]? = some t → args[j]? = some v → Value.okWide C.prog W .any base t v) →
      DataW.Whole enc C.prog fn.params.toList s.vars apart W args.toList ds gs before →
      (DataW.weightsEach C.prog (fn.params.toList ++ s.plain.varTypes C.prog) (ds ++ gs)).all (· ≤ reachBytes) = true → laidMet C.prog laid W →
      Calls C.prog f args W fun e W' => ∃ v, e = .returned v ∧ s.post enc C.prog fn apart fresh handsOn again W args v W') :
    ReturnsInHanded {} C os f .any (fun w args => (s.pre enc C.prog fn [] apart w args ∧ laidMetH C.prog laid w) ∧ sizedMet enc C.prog fn (OpenSpec.ofChange s) apart w args) (s.post enc C.prog fn apart fresh handsOn again) := by
  refine returnsInHanded_of_calls own started noInit witness ?_
  intro w tape i _ hsh _ hok hpre _
  obtain ⟨_, _, _, fn', hfn', _, _, _, _, hval⟩ := hok
  have e : fn' = fn := Option.some.inj (hfn'.symm.trans hfn)
  subst e
  obtain ⟨⟨⟨ds, gs, before, hw, _⟩, hX⟩, hz⟩ := hpre
  have hw' := DataW.Whole.of_heap (w' := w.forCall tape i) (by rfl) hw
  rw [MakeChecks.laidMetH_plain _ _ _ hpl] at hX
  refine (contract (w.forCall tape i) w.heap.size i.args ds gs before hval hw' (hz.weights hw) (laidMet.of_heap (by rfl) hX)).mono fun e W' ⟨v, he, hp⟩ => ?_
  subst he
  exact ChangeSpec.post_blind hp

/-- The table that the library takes the last set bit from. -/
def tab64 : List Int := [0, 1, 56, 2, 57, 49, 28, 3, 61, 58, 42, 50, 38, 29, 17, 4, 62, 47, 59, 36, 45, 43, 51, 22, 53, 39, 33, 30, 24, 18, 12, 5, 63, 55, 48, 27, 60, 41, 37, 16, 46, 35, 44, 21, 52, 32, 23, 11, 54, 26, 40, 15, 34, 20, 31, 10, 25, 14, 19, 9, 13, 8, 7, 6]
theorem tab_cell {W : World} (h : laidMet Tryd.prog Rows.digestsRow.laid W) : W.cell? ⟨5, 15, none⟩ = some (.int .u8 4) := by
  obtain ⟨g, t, cs, fuel, p, hg, ht, hv, hd⟩ := Lib.laidMet.reads h (n := "math/bits.deBruijn64tab") (d := Rows.laid_math_bits_deBruijn64tab) (by simp [Rows.digestsRow])
  have hg5 : Tryd.prog.globalNamed "math/bits.deBruijn64tab" = some 5 := by kernel_rfl
  obtain rfl := Option.some.inj (hg5.symm.trans hg)
  have hT : (Tryd.prog.globals[5]?).map (·.type) = some 139 := by kernel_rfl
  obtain rfl := Option.some.inj (hT.symm.trans ht)
  have ha : Tryd.prog.underlying 139 = some (.array 64 5) := by kernel_rfl
  have e := Lib.cells_of_tab (k := .u8) (zs := tab64) ha Tryd.underlying5 (by kernel_rfl) (by kernel_rfl) hd
  have hc := World.var?_cell hg5 hv 15
  rw [hc]
  have e2 : cs[15]? = cs.toList[15]? := by simp
  rw [e2, e]
  rfl

/-- What is met of a release in weighing it. -/
theorem weigh {H : Type} {p v m : List UInt8} {d : DataW H} (h : (DataW.weightsEach Tryd.prog [29] [.agg [.lit (.string p), .lit (.string v), .lit (.string m), d]]).all (· ≤ reachBytes) = true) :
    p.length ≤ reachBytes ∧ v.length ≤ reachBytes ∧ m.length ≤ reachBytes ∧ (d.weights Tryd.prog 27).all (· ≤ reachBytes) = true := by
  simp [DataW.weightsEach, DataW.weights, Tryd.underlying29] at h
  refine ⟨h.1, h.2.1, h.2.2.1, ?_⟩
  rw [List.all_eq_true]
  intro x hx
  exact decide_eq_true (h.2.2.2 x hx)
theorem weigh_all {H : Type} (e : TypeId) : ∀ (l : List (DataW H)) (d : DataW H) (x : Nat), d ∈ l → x ∈ d.weights Tryd.prog e → x ∈ DataW.weightsAll Tryd.prog e l
  | [], _, _, hd, _ => by cases hd
  | a :: r, d, x, hd, hx => by
    rw [DataW.weightsAll, List.mem_append]
    rcases List.mem_cons.1 hd with rfl | h
    · exact Or.inl hx
    · exact Or.inr (weigh_all e r d x h hx)

set_option maxRecDepth 100000 in
theorem contract (H : Type) (enc : TypeId × Value → H) (W : World) (base : Nat) (args : Array Value) (ds gs : List (DataW H)) (before : List MemPlace)
    (hval : ∀ (j : Nat) t v, Tryd.f4.params[j]? = some t → args[j]? = some v → Value.okWide Tryd.prog W .any base t v)
    (hW : DataW.Whole enc Tryd.prog Tryd.f4.params.toList Rows.digestsSpec.vars false W args.toList ds gs before) (hsz : (DataW.weightsEach Tryd.prog (Tryd.f4.params.toList ++ Rows.digestsSpec.plain.varTypes Tryd.prog) (ds ++ gs)).all (· ≤ reachBytes) = true) (hlaid : laidMet Tryd.prog Rows.digestsRow.laid W) :
    Calls Tryd.prog 4 args W fun e W' => ∃ v, e = .returned v ∧ Rows.digestsSpec.post enc Tryd.prog Tryd.f4 false true false false W args v W' := by
  have hW' := hW
  obtain ⟨p, q, hA0, hV, rfl, _, _⟩ := hW
  have hA : DataW.TrodAll enc Tryd.prog W 0 (fun _ => true) true Tryd.f4.params.toList args.toList ds p := hA0
  rw [Tryd.params4] at hA hval
  obtain ⟨v0, d0, rfl, rfl, h0⟩ := trodAll_one hA
  obtain ⟨rfl, rfl⟩ := trodVars_none hV
  have hsz1 : (DataW.weightsEach Tryd.prog (Tryd.f4.params.toList ++ Rows.digestsSpec.plain.varTypes Tryd.prog) ([d0] ++ ([] : List (DataW H)))).all (· ≤ reachBytes) = true := hsz
  rw [Tryd.params4] at hsz1
  have hsz2 : (DataW.weightsEach Tryd.prog [29] [d0]).all (· ≤ reachBytes) = true := hsz1
  clear hsz hsz1
  simp only [List.append_nil] at hW'
  have hlt : ∀ x ∈ p, x.block < W.heap.size := fun x hx => hW'.lt x (by simp [hx])
  have hkeep : ∀ (W' : World), Below W.heap.size W W' → DataW.Trod enc Tryd.prog W' 0 (fun b => decide (b < W.heap.size)) true 29 v0 d0 p :=
    fun W' hn => Below.trod laidOut (by kernel_rfl) (of_decide_eq_true (by kernel_rfl)) h0 hn hlt
  obtain ⟨x0, x1, x2, x3, y0, y1, y2, y3, n, rfl, rfl, _, t0, t1, t2, t3⟩ := Joins.open_agg4 Tryd.underlying29 (by kernel_rfl) cells29 (hval 0 29 v0 rfl rfl) h0
  obtain ⟨s0, e0, rfl, _⟩ := DataW.trod_string Tryd.underlying9 t0
  obtain ⟨s1, e1, rfl, _⟩ := DataW.trod_string Tryd.underlying9 t1
  obtain ⟨s2, e2, rfl, _⟩ := DataW.trod_string Tryd.underlying9 t2
  obtain rfl : x0 = .string s0 := by simpa using e0
  obtain rfl : x1 = .string s1 := by simpa using e1
  obtain rfl : x2 = .string s2 := by simpa using e2
  obtain ⟨z0, z1, z2, z3⟩ := weigh hsz2
  have hre : reachBytes = 140737488351232 := rfl
  rw [hre] at z0 z1 z2 z3
  have l0 : s0.data.toList.length = s0.size := by simp
  have l1 : s1.data.toList.length = s1.size := by simp
  have l2 : s2.data.toList.length = s2.size := by simp
  have hfiles : ∃ (fa : Option Addr) (fn fc : Nat) (L : List Fil), x3 = .slice fa fn fc ∧ L.length + 3 ≤ 4398046511104 ∧ (∀ f ∈ L, f.1.size ≤ 140737488355328 ∧ f.2.size ≤ 140737488355328) ∧ FilesIn W (.slice fa fn fc) L ∧ (L ≠ [] → ∀ a, fa = some a → a.block < W.heap.size) := by
    rcases Deep.open_slice_pairs Tryd.underlying27 Tryd.underlying69 cells69 rfl rfl cells9 cells9 t3 with ⟨hcs, _⟩ | ⟨a, len, cap, m, n', V0, V1, D0, D1, P0, P1, hcs, _, hle, _, hm, hx, hcell⟩
    · obtain rfl : x3 = .slice none 0 0 := by simpa using hcs
      exact ⟨none, 0, 0, [], rfl, by simp, by simp, Or.inl ⟨rfl, rfl⟩, fun h => absurd rfl h⟩
    · obtain rfl : x3 = .slice (some a) len cap := by simpa using hcs
      simp only [if_true] at hm
      subst hm
      have hy := congrArg Prod.fst hx
      simp only at hy
      rw [hy] at z3
      rw [List.all_eq_true] at z3
      simp only [DataW.weights, Tryd.underlying27, bytes69, List.length_map, List.length_range] at z3
      have zl := z3 _ (List.mem_cons_self ..)
      have hlen : len * 32 ≤ 140737488351232 := by
        have : (len + (m - len)) * 32 ≤ 140737488351232 := by simpa using zl
        omega
      have each : ∀ i, i < m → ∃ s : ByteArray × ByteArray, V0 i = .string s.1 ∧ V1 i = .string s.2 ∧ D0 i = .lit (.string s.1.data.toList) ∧ D1 i = .lit (.string s.2.data.toList) := by
        intro i hi
        obtain ⟨_, _, g0, g1⟩ := hcell i hi
        obtain ⟨u0, k0, k0', _⟩ := DataW.trod_string Tryd.underlying9 g0
        obtain ⟨u1, k1, k1', _⟩ := DataW.trod_string Tryd.underlying9 g1
        simp only [Prod.mk.injEq] at k0' k1'
        exact ⟨(u0, u1), by simpa using k0, by simpa using k1, k0'.1, k1'.1⟩
      obtain ⟨Sx, hS⟩ := Deep.choose_lt each
      have hfs : ∀ f ∈ (List.range len).map Sx, f.1.size ≤ 140737488355328 ∧ f.2.size ≤ 140737488355328 := by
        intro f hf
        obtain ⟨i, hi, rfl⟩ := List.mem_map.1 hf
        have hil : i < len := List.mem_range.1 hi
        obtain ⟨_, _, r0, r1⟩ := hS i (by omega)
        have hin : (DataW.agg [D0 i, D1 i] : DataW H) ∈ (List.range len).map fun i => DataW.agg [D0 i, D1 i] := List.mem_map.2 ⟨i, hi, rfl⟩
        have w0 := z3 (Sx i).1.data.toList.length (List.mem_cons_of_mem _ (List.mem_append_left _ (weigh_all 69 _ _ _ hin (by rw [r0, r1]; simp [DataW.weights, DataW.weightsEach, Tryd.underlying69]))))
        have w1 := z3 (Sx i).2.data.toList.length (List.mem_cons_of_mem _ (List.mem_append_left _ (weigh_all 69 _ _ _ hin (by rw [r0, r1]; simp [DataW.weights, DataW.weightsEach, Tryd.underlying69]))))
        have n0 : (Sx i).1.data.toList.length = (Sx i).1.size := by simp
        have n1 : (Sx i).2.data.toList.length = (Sx i).2.size := by simp
        rw [n0] at w0
        rw [n1] at w1
        have w0' := of_decide_eq_true w0
        have w1' := of_decide_eq_true w1
        omega
      have hll : ((List.range len).map Sx).length = len := by simp
      refine ⟨some a, len, m, (List.range len).map Sx, rfl, by rw [hll]; omega, hfs, ?_, ?_⟩
      · by_cases hn : len = 0
        · subst hn
          exact Or.inr (Or.inl ⟨a, m, rfl, rfl⟩)
        · obtain ⟨b, off, spot⟩ := a
          have hspot : spot = none := by
            have := World.cell?_spot (hcell 0 (by omega)).1
            simpa [Addr.add] using this
          subst hspot
          refine Or.inr (Or.inr ⟨b, off, m, by rw [hll], ?_⟩)
          intro j u hu
          have hj : j < len * 2 := by
            have := (List.getElem?_eq_some_iff.1 hu).1
            rw [flatF_len, hll] at this
            exact this
          have hj2 : j / 2 < len := by omega
          obtain ⟨c0, c1, _⟩ := hcell (j / 2) (by omega)
          obtain ⟨r0, r1, _⟩ := hS (j / 2) (by omega)
          rw [flatF_get _ j (Sx (j / 2)) (by rw [List.getElem?_map, List.getElem?_range hj2]; rfl)] at hu
          rw [addr_add] at c0 c1
          rcases (by omega : j % 2 = 0 ∨ j % 2 = 1) with ej | ej
          · rw [ej] at hu
            obtain rfl : Value.string (Sx (j / 2)).1 = u := by simpa [encF] using hu
            rw [← r0, ← c0, show j / 2 * 2 = j by omega]
          · rw [ej] at hu
            obtain rfl : Value.string (Sx (j / 2)).2 = u := by simpa [encF] using hu
            rw [← r1, ← c1, show j / 2 * 2 + 1 = j by omega]
      · intro hn a' ha'
        obtain rfl : a = a' := by simpa using ha'
        have hpos : 0 < len := by
          rcases Nat.eq_zero_or_pos len with h | h
          · subst h; exact absurd rfl hn
          · exact h
        have := World.block_lt_of_cell? (h := (hcell 0 (by omega)).1)
        simpa [Addr.add] using this
  obtain ⟨fa, fn, fc, L, rfl, hl, hz, hF, hg⟩ := hfiles
  refine (Digests_any s0 s1 s2 fa fn fc L W (by omega) (by omega) (by omega) hl hz hF hg (tab_cell hlaid)).mono fun e W' ⟨he, hb⟩ => ?_
  subst he
  exact ⟨_, rfl, _, _, _, [], p, [], hW', trodAll_mk1 (shut_bool Tryd.underlying4 _), trodAll_mk1 (hkeep W' hb), rfl, hb.frame _, fun h => by cases h⟩

set_option maxRecDepth 100000 in
theorem lifted (os : Os) (started : os.Started) (H : Type) (enc : TypeId × Value → H) :
    ReturnsInHanded {} Tryd.checked os 4 .any (fun w args => (Rows.digestsSpec.pre enc Tryd.prog Tryd.f4 [] false w args ∧ laidMetH Tryd.prog Rows.digestsRow.laid w) ∧ sizedMet enc Tryd.prog Tryd.f4 (OpenSpec.ofChange Rows.digestsSpec) false w args)
      (Rows.digestsSpec.post enc Tryd.prog Tryd.f4 false true false false) := by
  refine wrap_laid (C := Tryd.checked) own started (by kernel_rfl) Tryd.func4 (by kernel_rfl)
    (ChangeSpec.witness_shaped (enc := enc) (C := Tryd.checked) (os := os) (X := fun w _ => laidMetH Tryd.prog Rows.digestsRow.laid w) false (World.laidAll Tryd.prog os Rows.digestsRow.laid) #[.agg #[.string ByteArray.empty, .string ByteArray.empty, .string ByteArray.empty, .slice none 0 0]] 8 (World.laidAll_os _ _ _)
      (World.shaped_of_ZipB (by kernel_rfl) (by kernel_rfl)) (by kernel_rfl) (by kernel_rfl) (by kernel_rfl)
      (by rw [MakeChecks.laidMetH_plain _ _ _ (by kernel_rfl)]; exact laidMet_laidAll _ (by kernel_rfl) (by kernel_rfl))) ?_
  intro W base args ds gs before hval hW hsz hlaid
  exact contract H enc W base args ds gs before hval hW hsz hlaid

theorem row : Rows.DigestsSaid :=
  OpenClaim.holds_of_wide 4 Tryd.f4 rfl rfl rfl rfl rfl rfl rfl ⟨rfl, rfl, rfl, rfl, rfl⟩ rfl rfl rfl rfl rfl (by kernel_rfl) Tryd.func4 (by kernel_rfl)
    (of_decide_eq_true (by kernel_rfl)) (by unfold Func.isWrapper; first | (rw [if_pos (by decide +kernel)]; kernel_rfl) | (rw [if_neg (by decide +kernel)]; exact ⟨rfl, rfl⟩))
    (fun os started H enc _ => lifted os started H enc)
end Go.Proofs.YtcfhleenecfghaaDoor.digests
namespace Go.Proofs.YtcfhleenecfghaaDoor

theorem digests_card : Rows.DigestsCardSaid :=
  Claim7.holds_tied_plain_at .later [] _ _ _ _ digests.row (fun _ h => by cases h) (by kernel_rfl) (fun _ h => by cases h) digests_row_tie rfl ⟨rfl, rfl⟩ (by kernel_rfl) rfl
    (fun f fn hf hfn => by
      obtain rfl : f = 4 := Option.some.inj ((show Tryd.prog.funcNamed Tryd.f4.name = some 4 by kernel_rfl).symm.trans hf) |>.symm
      obtain rfl : fn = Tryd.f4 := (Option.some.inj (Tryd.func4.symm.trans hfn)).symm
      exact ⟨by kernel_rfl, fun j t ht => by
        rw [Tryd.params4] at ht
        have hm : t ∈ [29] := by simpa using Array.mem_of_getElem? ht
        have hall : ([29].all fun u => !Tryd.prog.wantsStandIn u) = true := by kernel_rfl
        exact (show Tryd.prog.wantsStandIn t = false by simpa using List.all_eq_true.1 hall t hm)⟩)
    (by kernel_rfl)

end Go.Proofs.YtcfhleenecfghaaDoor
