/- Two sorted parts of a list of files become one: the second part is one element. -/
import Derived.Test.YtcfhleenecfghaaDoorDgc
namespace Go.Proofs.YtcfhleenecfghaaDoor
open Go.Shelf Go.RowKit Go.Lib Go.Sort
variable {P : Program} {k : Nat} {β : Type} [Inhabited β]

set_option maxHeartbeats 4000000 in
set_option maxRecDepth 1000000 in
theorem merge_right (L : StLay P k) (enc : β × Nat → List Value) (cf : β → β → Int) (g : Nat) (cb : Array Value) (blk off cap : Nat) (w : World) (d0 : Array (β × Nat)) (hK : CK P k enc cf g cb w blk off d0) (a m q0 : Nat) (d : Array (β × Nat)) (os : Array Obj) (hs : d.size = d0.size) (hab : a + 1 < m) (hb : m + 1 ≤ d.size) (hp : Parts (ltOf cf) d a m (m + 1)) :
    Calls P 89 #[.slice (some ⟨blk, off, none⟩) d0.size cap, .int .i64 a, .int .i64 m, .int .i64 (m + 1 : Nat), .func (.func g) #[] cb] (sortWorldK enc k w blk off q0 d os) fun e w' =>
      e = .returned (.tuple #[]) ∧ ∃ q d' os', w' = sortWorldK enc k w blk off q d' os' ∧ PermIn a (m + 1) d d' ∧ SortedIn (tlt (ltOf cf)) a (m + 1) d' := by
  have hsz := hK.sk.size
  have hblk := hK.sk.here
  have HH : Hid (HoldsK enc k w blk off d0) := hK.sk.holds
  have HK : Hid (∀ x, (enc x).length = k) := hK.sk.two
  have H1 : Hid (∀ x, ∀ v ∈ enc x, v.oneCell' = true) := hK.sk.one
  have HC : Aside _ := hK.lays
  have HO : Hid (SWO (ltOf cf)) := hK.order
  have HP : Hid (Parts (ltOf cf) d a m (m + 1)) := hp
  have eg := hK.enters
  clear hK hp
  have mixed := L.mixed; have t0 := L.t0; have a0 := L.a0; have z0 := L.z0; have v0 := L.v0; have t3 := L.t3; have a3 := L.a3; have z3 := L.z3; have v3 := L.v3; have t4 := L.t4; have a4 := L.a4; have z4 := L.z4; have v4 := L.v4; have t27 := L.t27; have a27 := L.a27; have z27 := L.z27; have v27 := L.v27; have t91 := L.t91; have a91 := L.a91; have z91 := L.z91; have v91 := L.v91; have t98 := L.t98; have a98 := L.a98; have z98 := L.z98; have v98 := L.v98; have a69 := L.a69; have z69 := L.z69
  have F89 := L.f89
  have hne1 : ¬ (m : Int) - (a : Int) = 1 := by omega
  go_enter F89, Tryd.ntmps89
  go_wp2
  go_loopg [14, 15] (m - a) (fun g1 vi vj wr => ∃ (i j q : Nat) (oq : Array Obj), vi = .int .i64 i ∧ vj = .int .i64 j ∧ a ≤ i ∧ i ≤ j ∧ j ≤ m ∧ j - i ≤ g1 ∧ Hid (a < i → ltOf cf (d[m]!).1 (d[i - 1]!).1 = false) ∧ Hid (j < m → ltOf cf (d[m]!).1 (d[j]!).1 = true) ∧ wr = sortWorldK enc k w blk off q d oq)
  case atStart =>
    exact ⟨a, m, q0, os, rfl, rfl, Nat.le_refl _, by omega, Nat.le_refl _, by omega, fun h => absurd h (by omega), fun h => absurd h (by omega), rfl⟩
  case round =>
    obtain ⟨i, j, q, oq, rfl, rfl, hi1, hij, hj, hg1, HI, HJ, rfl⟩ := hrel
    by_cases hlt : i < j
    · have hltz : (i : Int) < (j : Int) := by omega
      obtain ⟨h, hh⟩ : ∃ h, h = (i + j) / 2 := ⟨_, rfl⟩
      have hcls : ∀ n' os', grow ((sortWorldK enc k w blk off q d oq).drewN n') os' = sortWorldK enc k w blk off (q + n') d (oq ++ os') := fun n' os' => sortWorldK_grown_c enc k w blk off q n' d oq os'
      have hHc : ∀ n' os', HoldsK enc k (grow ((sortWorldK enc k w blk off q d oq).drewN n') os') blk off d := fun n' os' => by rw [hcls]; exact holdsK_sortWorldK_c enc k w blk off d0 d _ _ HH.out hblk hs
      obtain ⟨xh, hxh⟩ : ∃ x, d[h]! = x := ⟨_, rfl⟩
      obtain ⟨xm, hxm⟩ : ∃ x, d[m]! = x := ⟨_, rfl⟩
      have lh : ∀ n' os', Sem.run P (loadCellsFrom ⟨blk, off + h * k, none⟩ 0 k #[]) (grow ((sortWorldK enc k w blk off q d oq).drewN n') os') = .ok (enc xh).toArray (grow ((sortWorldK enc k w blk off q d oq).drewN n') os') := fun n' os' => by
        rw [← hxh]; exact run_loadCellsFrom_list P _ _ _ k (HK.out _) (HoldsK.cells (hHc n' os') HK.out (by omega))
      have lm : ∀ n' os', Sem.run P (loadCellsFrom ⟨blk, off + m * k, none⟩ 0 k #[]) (grow ((sortWorldK enc k w blk off q d oq).drewN n') os') = .ok (enc xm).toArray (grow ((sortWorldK enc k w blk off q d oq).drewN n') os') := fun n' os' => by
        rw [← hxm]; exact run_loadCellsFrom_list P _ _ _ k (HK.out _) (HoldsK.cells (hHc n' os') HK.out (by omega))
      have hcg : ∀ n' os', Calls P g (#[.agg (enc xm).toArray, .agg (enc xh).toArray] ++ cb) (grow ((sortWorldK enc k w blk off q d oq).drewN n') os') fun e w' => e = .returned (.int .i64 (cf xm.1 xh.1)) ∧ ∃ q' os'', w' = grow ((grow ((sortWorldK enc k w blk off q d oq).drewN n') os').drewN q') os'' := fun n' os' => by
        rw [hcls]; exact HC.out _ _ d hs xm xh
      have CLS : Hid _ := hcls
      clear hcls hHc
      generalize hwq : sortWorldK enc k w blk off q d oq = wq at lh lm hcg CLS ⊢
      have hz : (h : Int) < (d0.size : Int) := by omega
      have az : (m : Int) < (d0.size : Int) := by omega
      have HHd : Hid (h = (i + j) / 2) := hh
      clear hh
      have hhz : ((i : Int) + (j : Int)) / 2 = (h : Int) := by have := HHd.out; omega
      go_wp2_with fail
      by_cases hlv : cf xm.1 xh.1 < 0
      · go_quiet_grown (first | (go_at_fn g; refine Calls.grown_of (hcg _ _)))
        go_wp2
        go_roundg (h - i)
        case measure => have := HHd.out; omega
        case rel =>
          have hd := HHd.out
          refine ⟨i, h, _, _, rfl, rfl, hi1, by omega, by omega, Nat.le_refl _, HI, (show Hid _ from ?_), CLS.out nq osq⟩
          show _ → _
          intro _
          rw [hxh, hxm]
          exact decide_eq_true (by omega)
      · go_quiet_grown (first | (go_at_fn g; refine Calls.grown_of (hcg _ _)))
        go_wp2
        go_roundg (j - (h + 1))
        case measure => have := HHd.out; omega
        case rel =>
          have hd := HHd.out
          refine ⟨h + 1, j, _, _, by first | rfl | go_num, rfl, by omega, by omega, hj, Nat.le_refl _, (show Hid _ from ?_), HJ, CLS.out nq osq⟩
          show _ → _
          intro _
          rw [Nat.add_sub_cancel, hxh, hxm]
          exact decide_eq_false (by omega)
    · have hltz : ¬ (i : Int) < (j : Int) := by omega
      have e : i = j := by omega
      subst e
      clear hij hlt hltz hg1
      have R : Hid (PermIn a (m + 1) d (rotA d i m (m + 1)) ∧ SortedIn (tlt (ltOf cf)) a (m + 1) (rotA d i m (m + 1))) := merge_one_right HO.out HP.out hb hi1 hj HJ.out HI.out
      clear HI HJ HC eg HP HO
      go_wp2
      go_loopg [17] (m - i) (fun g1 vk wr => ∃ (kk q : Nat) (oq : Array Obj), vk = .int .i64 kk ∧ i ≤ kk ∧ kk ≤ m ∧ kk - i ≤ g1 ∧ wr = sortWorldK enc k w blk off q (rotA d kk m (m + 1)) oq)
      case atStart =>
        refine ⟨m, q, oq, rfl, hj, Nat.le_refl _, Nat.le_refl _, ?_⟩
        rw [rotA_none d m m (m + 1) (by omega) (by omega) (by omega) (by omega)]
      case round =>
        obtain ⟨k1, q, oq, rfl, ha, hk, hg1, hwr⟩ := hrel
        by_cases hlt : i < k1
        · obtain ⟨kk, rfl⟩ : ∃ x, k1 = x + 1 := ⟨k1 - 1, by omega⟩
          have hltz : (i : Int) < (kk : Int) + 1 := by omega
          have hds : (rotA d (kk + 1) m (m + 1)).size = d0.size := by rw [rotA_size]; exact hs
          obtain ⟨cx, cy, c1, c2, lx, ly, s1, s2, HW⟩ := swap_facts P enc blk off w d0 HK.out H1.out HH.out hblk q (rotA d (kk + 1) m (m + 1)) oq hds (kk + 1) kk (by omega) (by omega) wr hwr
          have HWR : Hid _ := hwr
          clear hwr hds
          have z1 : (kk : Int) < (d0.size : Int) := by omega
          have z2 : (kk : Int) + 1 < (d0.size : Int) := by omega
          have p0 : (0 : Int) ≤ (kk : Int) + 1 := by omega
          have e0 : ((kk : Int) + 1).toNat = kk + 1 := by omega
          go_wp2_with fail
          go_big_region_o
          all_goals go_wp2
          go_roundg (kk - i)
          case measure => omega
          case rel =>
            refine ⟨kk, q + 1, oq, by first | rfl | go_num | (congr 1; omega), by omega, by omega, Nat.le_refl _, ?_⟩
            rw [HW.out, rotA_down d m kk hk (by omega)]
        · have hltz : ¬ (i : Int) < (k1 : Int) := by omega
          have e : i = k1 := by omega
          go_wp2
          refine bodyPost_ret (results_none rfl _ _ _) rfl ?_
          subst e
          exact ⟨rfl, q, _, ⟨oq, rfl⟩, R.out⟩
end Go.Proofs.YtcfhleenecfghaaDoor
