/- Two sorted parts of a list of files become one: the first part is one element. -/
import Derived.Test.YtcfhleenecfghaaDoorDgb
namespace Go.Proofs.YtcfhleenecfghaaDoor
open Go.Shelf Go.RowKit Go.Lib Go.Sort
variable {P : Program} {k : Nat} {β : Type} [Inhabited β]

/-- What is asked of the function that compares. -/
structure CK (P : Program) (k : Nat) (enc : β × Nat → List Value) (cf : β → β → Int) (g : Nat) (cb : Array Value) (w : World) (blk off : Nat) (d0 : Array (β × Nat)) : Prop where
  sk : SK k enc w blk off d0
  enters : ∀ args w, (callFunc g args).run P w = .ok (.enter g args) w
  lays : CmpLays P g cb enc k (fun x y => cf x.1 y.1) blk off d0.size w
  order : SWO (ltOf cf)

/-- Two elements are exchanged: what is read, what is stored, and where that leads. -/
theorem swap_facts (P : Program) {α : Type} [Inhabited α] (enc : α → List Value) (blk off : Nat) (w : World) (d0 : Array α) (h2 : ∀ x, (enc x).length = k) (h1 : ∀ x, ∀ v ∈ enc x, v.oneCell' = true) (hH : HoldsK enc k w blk off d0) (hblk : blk < w.heap.size) (q : Nat) (dk : Array α) (oq : Array Obj) (hs : dk.size = d0.size) (x y : Nat) (hx : x < dk.size) (hy : y < dk.size) (wr : World) (hwr : wr = sortWorldK enc k w blk off q dk oq) :
    ∃ cx cy : List Value, cx.length = k ∧ cy.length = k ∧ Sem.run P (loadCellsFrom ⟨blk, off + x * k, none⟩ 0 k #[]) wr.drew = .ok cx.toArray wr.drew ∧ Sem.run P (loadCellsFrom ⟨blk, off + y * k, none⟩ 0 k #[]) wr.drew = .ok cy.toArray wr.drew ∧
      Sem.run P (storeCells ⟨blk, off + x * k, none⟩ cy 0) wr.drew = .ok () (wr.drew.setCells blk (off + x * k) cy) ∧
      Sem.run P (storeCells ⟨blk, off + y * k, none⟩ cx 0) (wr.drew.setCells blk (off + x * k) cy) = .ok () ((wr.drew.setCells blk (off + x * k) cy).setCells blk (off + y * k) cx) ∧
      Hid ((wr.drew.setCells blk (off + x * k) cy).setCells blk (off + y * k) cx = sortWorldK enc k w blk off (q + 1) (swp dk x y) oq) := by
  have bnd : ∀ x, x < dk.size → x * k + k ≤ dk.size * k := fun x hx => by
    have := Nat.mul_le_mul_right k (show x + 1 ≤ dk.size from hx); rwa [Nat.add_mul, Nat.one_mul] at this
  have hHd : HoldsK enc k wr.drew blk off dk := by
    rw [hwr]; exact holdsK_sortWorldK_c enc k w blk off d0 dk q oq hH hblk hs
  refine ⟨enc dk[x]!, enc dk[y]!, h2 _, h2 _, run_loadCellsFrom_list P _ _ _ k (h2 _) (HoldsK.cells hHd h2 hx), run_loadCellsFrom_list P _ _ _ k (h2 _) (HoldsK.cells hHd h2 hy), stores_of_holds P hHd (x * k) _ (by rw [h2, size_flatK]; exact bnd x hx) (h1 _),
    stores_of_holds P (holds_setCells_c hHd (x * k) _ (by rw [h2, size_flatK]; exact bnd x hx)) (y * k) _ (by rw [h2, size_setMany, size_flatK]; exact bnd y hy) (h1 _), ?_⟩
  show _ = _
  rw [hwr]
  exact sortWorldK_swp_c enc k w blk off h2 q dk oq hblk x y hx hy

set_option maxHeartbeats 4000000 in
set_option maxRecDepth 1000000 in
theorem merge_left (L : StLay P k) (enc : β × Nat → List Value) (cf : β → β → Int) (g : Nat) (cb : Array Value) (blk off cap : Nat) (w : World) (d0 : Array (β × Nat)) (hK : CK P k enc cf g cb w blk off d0) (a b q0 : Nat) (d : Array (β × Nat)) (os : Array Obj) (hs : d.size = d0.size) (hab : a + 1 < b) (hb : b ≤ d.size) (hp : Parts (ltOf cf) d a (a + 1) b) :
    Calls P 89 #[.slice (some ⟨blk, off, none⟩) d0.size cap, .int .i64 a, .int .i64 (a + 1 : Nat), .int .i64 b, .func (.func g) #[] cb] (sortWorldK enc k w blk off q0 d os) fun e w' =>
      e = .returned (.tuple #[]) ∧ ∃ q d' os', w' = sortWorldK enc k w blk off q d' os' ∧ PermIn a b d d' ∧ SortedIn (tlt (ltOf cf)) a b d' := by
  have hsz := hK.sk.size
  have hblk := hK.sk.here
  have HH : Hid (HoldsK enc k w blk off d0) := hK.sk.holds
  have HK : Hid (∀ x, (enc x).length = k) := hK.sk.two
  have H1 : Hid (∀ x, ∀ v ∈ enc x, v.oneCell' = true) := hK.sk.one
  have HC : Aside _ := hK.lays
  have HO : Hid (SWO (ltOf cf)) := hK.order
  have HP : Hid (Parts (ltOf cf) d a (a + 1) b) := hp
  have eg := hK.enters
  clear hK hp
  have mixed := L.mixed; have t0 := L.t0; have a0 := L.a0; have z0 := L.z0; have v0 := L.v0; have t3 := L.t3; have a3 := L.a3; have z3 := L.z3; have v3 := L.v3; have t4 := L.t4; have a4 := L.a4; have z4 := L.z4; have v4 := L.v4; have t27 := L.t27; have a27 := L.a27; have z27 := L.z27; have v27 := L.v27; have t91 := L.t91; have a91 := L.a91; have z91 := L.z91; have v91 := L.v91; have t98 := L.t98; have a98 := L.a98; have z98 := L.z98; have v98 := L.v98; have a69 := L.a69; have z69 := L.z69
  have F89 := L.f89
  go_enter F89, Tryd.ntmps89
  go_wp2
  go_loopg [10, 11] (b - (a + 1)) (fun g1 vi vj wr => ∃ (i j q : Nat) (oq : Array Obj), vi = .int .i64 i ∧ vj = .int .i64 j ∧ a + 1 ≤ i ∧ i ≤ j ∧ j ≤ b ∧ j - i ≤ g1 ∧ Hid (a + 1 < i → ltOf cf (d[i - 1]!).1 (d[a]!).1 = true) ∧ Hid (j < b → ltOf cf (d[j]!).1 (d[a]!).1 = false) ∧ wr = sortWorldK enc k w blk off q d oq)
  case atStart =>
    exact ⟨a + 1, b, q0, os, by first | rfl | go_num, rfl, Nat.le_refl _, by omega, Nat.le_refl _, by omega, fun h => absurd h (by omega), fun h => absurd h (by omega), rfl⟩
  case round =>
    obtain ⟨i, j, q, oq, rfl, rfl, hi1, hij, hj, hg1, HI, HJ, rfl⟩ := hrel
    by_cases hlt : i < j
    · have hltz : (i : Int) < (j : Int) := by omega
      obtain ⟨h, hh⟩ : ∃ h, h = (i + j) / 2 := ⟨_, rfl⟩
      have hcls : ∀ n' os', grow ((sortWorldK enc k w blk off q d oq).drewN n') os' = sortWorldK enc k w blk off (q + n') d (oq ++ os') := fun n' os' => sortWorldK_grown_c enc k w blk off q n' d oq os'
      have hHc : ∀ n' os', HoldsK enc k (grow ((sortWorldK enc k w blk off q d oq).drewN n') os') blk off d := fun n' os' => by rw [hcls]; exact holdsK_sortWorldK_c enc k w blk off d0 d _ _ HH.out hblk hs
      obtain ⟨xh, hxh⟩ : ∃ x, d[h]! = x := ⟨_, rfl⟩
      obtain ⟨xa, hxa⟩ : ∃ x, d[a]! = x := ⟨_, rfl⟩
      have lh : ∀ n' os', Sem.run P (loadCellsFrom ⟨blk, off + h * k, none⟩ 0 k #[]) (grow ((sortWorldK enc k w blk off q d oq).drewN n') os') = .ok (enc xh).toArray (grow ((sortWorldK enc k w blk off q d oq).drewN n') os') := fun n' os' => by
        rw [← hxh]; exact run_loadCellsFrom_list P _ _ _ k (HK.out _) (HoldsK.cells (hHc n' os') HK.out (by omega))
      have la : ∀ n' os', Sem.run P (loadCellsFrom ⟨blk, off + a * k, none⟩ 0 k #[]) (grow ((sortWorldK enc k w blk off q d oq).drewN n') os') = .ok (enc xa).toArray (grow ((sortWorldK enc k w blk off q d oq).drewN n') os') := fun n' os' => by
        rw [← hxa]; exact run_loadCellsFrom_list P _ _ _ k (HK.out _) (HoldsK.cells (hHc n' os') HK.out (by omega))
      have hcg : ∀ n' os', Calls P g (#[.agg (enc xh).toArray, .agg (enc xa).toArray] ++ cb) (grow ((sortWorldK enc k w blk off q d oq).drewN n') os') fun e w' => e = .returned (.int .i64 (cf xh.1 xa.1)) ∧ ∃ q' os'', w' = grow ((grow ((sortWorldK enc k w blk off q d oq).drewN n') os').drewN q') os'' := fun n' os' => by
        rw [hcls]; exact HC.out _ _ d hs xh xa
      have CLS : Hid _ := hcls
      clear hcls hHc
      generalize hwq : sortWorldK enc k w blk off q d oq = wq at lh la hcg CLS ⊢
      have hz : (h : Int) < (d0.size : Int) := by omega
      have az : (a : Int) < (d0.size : Int) := by omega
      have HHd : Hid (h = (i + j) / 2) := hh
      clear hh
      have hhz : ((i : Int) + (j : Int)) / 2 = (h : Int) := by have := HHd.out; omega
      go_wp2_with fail
      by_cases hlv : cf xh.1 xa.1 < 0
      · go_quiet_grown (first | (go_at_fn g; refine Calls.grown_of (hcg _ _)))
        go_wp2
        go_roundg (j - (h + 1))
        case measure => have := HHd.out; omega
        case rel =>
          have hd := HHd.out
          refine ⟨h + 1, j, _, _, by first | rfl | go_num, rfl, by omega, by omega, hj, Nat.le_refl _, (show Hid _ from ?_), HJ, CLS.out nq osq⟩
          show _ → _
          intro _
          rw [Nat.add_sub_cancel, hxh, hxa]
          exact decide_eq_true hlv
      · go_quiet_grown (first | (go_at_fn g; refine Calls.grown_of (hcg _ _)))
        go_wp2
        go_roundg (h - i)
        case measure => have := HHd.out; omega
        case rel =>
          have hd := HHd.out
          refine ⟨i, h, _, _, rfl, rfl, hi1, by omega, by omega, Nat.le_refl _, HI, (show Hid _ from ?_), CLS.out nq osq⟩
          show _ → _
          intro _
          rw [hxh, hxa]
          exact decide_eq_false (by omega)
    · have hltz : ¬ (i : Int) < (j : Int) := by omega
      have e : i = j := by omega
      subst e
      clear hij hlt hltz hg1
      have R : Hid (PermIn a b d (rotA d a (a + 1) i) ∧ SortedIn (tlt (ltOf cf)) a b (rotA d a (a + 1) i)) := merge_one_left HO.out HP.out hb hi1 hj HI.out HJ.out
      clear HI HJ HC eg HP HO
      go_wp2
      go_loopg [13] (i - (a + 1)) (fun g1 vk wr => ∃ (kk q : Nat) (oq : Array Obj), vk = .int .i64 kk ∧ a ≤ kk ∧ kk + 1 ≤ i ∧ i - (kk + 1) ≤ g1 ∧ wr = sortWorldK enc k w blk off q (rotA d a (a + 1) (kk + 1)) oq)
      case atStart =>
        refine ⟨a, q, oq, rfl, Nat.le_refl _, hi1, Nat.le_refl _, ?_⟩
        rw [rotA_none d a (a + 1) (a + 1) (by omega) (by omega) (by omega) (by omega)]
      case round =>
        obtain ⟨kk, q, oq, rfl, ha, hk, hg1, hwr⟩ := hrel
        by_cases hlt : kk + 1 < i
        · have hltz : (kk : Int) < (i : Int) - 1 := by omega
          have hds : (rotA d a (a + 1) (kk + 1)).size = d0.size := by rw [rotA_size]; exact hs
          obtain ⟨cx, cy, c1, c2, lx, ly, s1, s2, HW⟩ := swap_facts P enc blk off w d0 HK.out H1.out HH.out hblk q (rotA d a (a + 1) (kk + 1)) oq hds kk (kk + 1) (by omega) (by omega) wr hwr
          have HWR : Hid _ := hwr
          clear hwr hds
          have z1 : (kk : Int) < (d0.size : Int) := by omega
          have z2 : (kk : Int) + 1 < (d0.size : Int) := by omega
          have p0 : (0 : Int) ≤ (kk : Int) + 1 := by omega
          have e0 : ((kk : Int) + 1).toNat = kk + 1 := by omega
          go_wp2_with fail
          go_big_region_o
          all_goals go_wp2
          go_roundg (i - (kk + 2))
          case measure => omega
          case rel =>
            refine ⟨kk + 1, q + 1, oq, by first | rfl | go_num | (congr 1; omega), by omega, by omega, Nat.le_refl _, ?_⟩
            rw [HW.out, rotA_up d a kk ha (by omega)]
        · have hltz : ¬ (kk : Int) < (i : Int) - 1 := by omega
          have e : i = kk + 1 := by omega
          go_wp2
          refine bodyPost_ret (results_none rfl _ _ _) rfl ?_
          subst e
          exact ⟨rfl, q, _, ⟨oq, rfl⟩, R.out⟩
end Go.Proofs.YtcfhleenecfghaaDoor
