/- Neighbours that are alike are left out in place: the library's own loops. -/
import Derived.Test.YtcfhleenecfghaaDoorDgc
import Derived.Test.YtcfhleenecfghaaDoorDgo
import Derived.Test.YtcfhleenecfghaaDoorDgq
namespace Go.Proofs.YtcfhleenecfghaaDoor
open Go.Shelf Go.RowKit Go.Lib Go.Sort
variable {P : Program} {k : Nat} {α : Type} [Inhabited α]

/-- The body lies in the program; the element's zero is of k cells. -/
structure CpLay (P : Program) (zv : Value) : Prop where
  f65 : P.funcs[65]? = some Tryd.f65
  t93 : P.underlying 93 = some (TypeDesc.func #[69, 69] #[4] false)
  a93 : ∀ w, (isAgg 93).run P w = .ok false w
  z93 : ∀ w, (Go.sizeOf 93).run P w = .ok 1 w
  v93 : ∀ w, (zeroValue 93).run P w = .ok Value.nilFunc w
  v69 : ∀ w, (zeroValue 69).run P w = .ok zv w
theorem cpLay : CpLay Tryd.prog (.agg #[.string ⟨#[]⟩, .string ⟨#[]⟩]) := {
  f65 := Tryd.func65
  t93 := Tryd.underlying93
  a93 := Tryd.isAgg93
  z93 := Tryd.sizeOf93
  v93 := Tryd.zeroValue93
  v69 := Tryd.zeroValue69 }
def EqLays (P : Program) (g : Nat) (cb : Array Value) (enc : α → List Value) (k : Nat) (eq : α → α → Bool) (blk off size : Nat) (w : World) : Prop :=
  ∀ (m : Nat) (os : Array Obj) (dk : Array α), dk.size = size → ∀ x y : α,
    Calls P g (#[.agg (enc x).toArray, .agg (enc y).toArray] ++ cb) (sortWorldK enc k w blk off m dk os) fun e w' => e = .returned (.bool (eq x y)) ∧ ∃ q os', w' = grow ((sortWorldK enc k w blk off m dk os).drewN q) os'

set_option maxHeartbeats 4000000 in
set_option maxRecDepth 1000000 in
theorem compact_any (L : StLay P k) (zv : Value) (ze : α) (C : CpLay P zv) (enc : α → List Value) (eq : α → α → Bool) (g : Nat) (cb : Array Value) (blk off cap : Nat) (w : World) (d : Array α) (hK : SK k enc w blk off d) (hg : ∀ args w, (callFunc g args).run P w = .ok (.enter g args) w) (hq : EqLays P g cb enc k eq blk off d.size w) (hcap : d.size ≤ cap) (hz : zv.cells = (enc ze).toArray) :
    Calls P 65 #[.slice (some ⟨blk, off, none⟩) d.size cap, .func (.func g) #[] cb] w fun e w' =>
      e = .returned (.slice (some ⟨blk, off, none⟩) (compE eq d d.size).length cap) ∧ ∃ (q : Nat) (dk : Array α) (os : Array Obj), w' = sortWorldK enc k w blk off q dk os ∧ dk.size = d.size ∧ ∀ j, j < (compE eq d d.size).length → (compE eq d d.size)[j]? = some dk[j]! := by
  have hsz := hK.size
  have hblk := hK.here
  have HH : Hid (HoldsK enc k w blk off d) := hK.holds
  have HK : Hid (∀ x, (enc x).length = k) := hK.two
  have H1 : Hid (∀ x, ∀ v ∈ enc x, v.oneCell' = true) := hK.one
  have HQ : Aside _ := hq
  have HST : Hid (w = sortWorldK enc k w blk off 0 d #[]) := by show w = _; unfold sortWorldK; rw [grow_empty]; exact (putRowK_self enc k w blk off d hK.holds).symm
  have ALL : Hid (∀ m, (∀ j, j < d.size → keepsE eq d j = true) → m = d.size → (compE eq d d.size).length = m ∧ ∀ j, j < (compE eq d d.size).length → (compE eq d d.size)[j]? = some d[j]!) := hide fun m h e => by
    rw [compE_all d d.size h]
    refine ⟨by simp [e], fun j hj => ?_⟩
    have hj' : j < d.size := by simpa using hj
    simp [hj']
  clear hK hq
  have mixed := L.mixed; have t0 := L.t0; have a0 := L.a0; have z0 := L.z0; have v0 := L.v0; have t3 := L.t3; have a3 := L.a3; have z3 := L.z3; have v3 := L.v3; have t4 := L.t4; have a4 := L.a4; have z4 := L.z4; have v4 := L.v4; have t27 := L.t27; have a27 := L.a27; have z27 := L.z27; have v27 := L.v27; have a69 := L.a69; have z69 := L.z69; have t93 := C.t93; have a93 := C.a93; have z93 := C.z93; have v93 := C.v93
  have F65 := C.f65
  have HZ : Hid (zv.cells = (enc ze).toArray) := hz
  have HV : Hid (∀ w, (zeroValue 69).run P w = .ok zv w) := C.v69
  clear hz
  by_cases h2 : d.size < 2
  · have h2z : (d.size : Int) < 2 := by omega
    go_enter F65, Tryd.ntmps65
    go_wp2
    go_ret
    obtain ⟨e1, e2⟩ := ALL.out d.size (fun j hj => keepsE_zero d (by omega)) rfl
    exact ⟨by rw [e1]; rfl, 0, d, #[], HST.out, rfl, e2⟩
  · have h2z : ¬ (d.size : Int) < 2 := by omega
    go_enter F65, Tryd.ntmps65
    go_wp2
    go_loopg [5] d.size (fun g1 s5 wr => ∃ (i q : Nat) (oq : Array Obj), 1 ≤ i ∧ i ≤ d.size ∧ d.size - i ≤ g1 ∧ s5 = .int .i64 i ∧ wr = sortWorldK enc k w blk off q d oq ∧ Hid (∀ j, j < i → keepsE eq d j = true))
    case atStart => exact ⟨1, 0, #[], Nat.le_refl _, by omega, by omega, rfl, HST.out, hide fun j hj => keepsE_zero d hj⟩
    case round =>
      obtain ⟨i1, q, oq, hi1, hi, hg1, rfl, rfl, HA⟩ := hrel
      by_cases hlt : i1 < d.size
      · obtain ⟨i, rfl⟩ : ∃ i, i1 = i + 1 := ⟨i1 - 1, by omega⟩
        obtain ⟨x, hx⟩ : ∃ x, d[i + 1]! = x := ⟨_, rfl⟩
        obtain ⟨y, hy⟩ : ∃ y, d[i]! = y := ⟨_, rfl⟩
        have hcls : ∀ n' os', grow ((sortWorldK enc k w blk off q d oq).drewN n') os' = sortWorldK enc k w blk off (q + n') d (oq ++ os') := fun n' os' => sortWorldK_grown_c enc k w blk off q n' d oq os'
        have hHc : ∀ n' os', HoldsK enc k (grow ((sortWorldK enc k w blk off q d oq).drewN n') os') blk off d := fun n' os' => by rw [hcls]; exact holdsK_sortWorldK_c enc k w blk off d d _ _ HH.out hblk rfl
        have lx : ∀ n' os', Sem.run P (loadCellsFrom ⟨blk, off + (i + 1) * k, none⟩ 0 k #[]) (grow ((sortWorldK enc k w blk off q d oq).drewN n') os') = .ok (enc x).toArray (grow ((sortWorldK enc k w blk off q d oq).drewN n') os') := fun n' os' => by
          rw [← hx]; exact run_loadCellsFrom_list P _ _ _ k (HK.out _) (HoldsK.cells (hHc n' os') HK.out (by omega))
        have ly : ∀ n' os', Sem.run P (loadCellsFrom ⟨blk, off + i * k, none⟩ 0 k #[]) (grow ((sortWorldK enc k w blk off q d oq).drewN n') os') = .ok (enc y).toArray (grow ((sortWorldK enc k w blk off q d oq).drewN n') os') := fun n' os' => by
          rw [← hy]; exact run_loadCellsFrom_list P _ _ _ k (HK.out _) (HoldsK.cells (hHc n' os') HK.out (by omega))
        have hcg : ∀ n' os', Calls P g (#[.agg (enc x).toArray, .agg (enc y).toArray] ++ cb) (grow ((sortWorldK enc k w blk off q d oq).drewN n') os') fun e w' => e = .returned (.bool (eq x y)) ∧ ∃ q' os'', w' = grow ((grow ((sortWorldK enc k w blk off q d oq).drewN n') os').drewN q') os'' := fun n' os' => by
          rw [hcls]; exact HQ.out _ _ d rfl x y
        have CLS : Hid _ := hcls
        have B : Hid (d[i + 1]! = x ∧ d[i]! = y) := ⟨hx, hy⟩
        clear hcls hHc hx hy
        generalize hwq : sortWorldK enc k w blk off q d oq = wq at lx ly hcg CLS ⊢
        have hwp : IntKind.i64.wrap (i : Int) = (i : Int) := by rw [IntKind.wrap_i64]; omega
        have jz : (i : Int) + 1 < (d.size : Int) := by omega
        have jz1 : (i : Int) < (d.size : Int) := by omega
        have p0 : (0 : Int) ≤ (i : Int) + 1 := by omega
        have e0 : ((i : Int) + 1).toNat = i + 1 := by omega
        cases hdup : eq x y
        · rw [hdup] at hcg
          go_wp2_with fail
          go_quiet_grown (first | (go_at_fn g; refine Calls.grown_of (hcg _ _)))
          go_wp2
          go_roundg (d.size - (i + 2))
          case measure => omega
          case rel =>
            refine ⟨i + 2, _, _, by omega, by omega, Nat.le_refl _, by first | rfl | go_num | (congr 1; omega), CLS.out nq osq, hide fun j hj => ?_⟩
            by_cases e : j = i + 1
            · subst e
              exact keepsE_pos (by rw [Nat.add_sub_cancel, B.out.1, B.out.2]; exact hdup)
            · exact HA.out j (by omega)
        · rw [hdup] at hcg
          go_wp2_with fail
          go_quiet_grown (first | (go_at_fn g; refine Calls.grown_of (hcg _ _)))
          go_wp2
          clear lx ly hcg
          go_loopg [5, 7] d.size (fun g2 s5 s7 wr => ∃ (kk k2 q2 : Nat) (dk : Array α) (o2 : Array Obj), s5 = .int .i64 kk ∧ s7 = .int .i64 k2 ∧ 1 ≤ k2 ∧ i + 1 + k2 ≤ d.size ∧ d.size - (i + 1 + k2) ≤ g2 ∧ kk < i + 1 + k2 ∧ Hid (CInv eq d (i + 1 + k2) kk dk) ∧ wr = sortWorldK enc k w blk off q2 dk o2)
          case atStart => exact ⟨i + 1, 1, _, d, _, by first | rfl | go_num, rfl, Nat.le_refl _, by omega, by omega, by omega, CInv.start HA.out (keepsE_neg (by omega) (by rw [Nat.add_sub_cancel, B.out.1, B.out.2]; exact hdup)), CLS.out nq osq⟩
          case round =>
            obtain ⟨kk, k2, q2, dk, o2, rfl, rfl, hk1, hk2, hg2, hkk, HI, rfl⟩ := hrel
            clear CLS hwq
            by_cases hlt2 : i + 1 + k2 < d.size
            · obtain ⟨kp, rfl⟩ : ∃ x, k2 = x + 1 := ⟨k2 - 1, by omega⟩
              have hds : dk.size = d.size := HI.out.size
              obtain ⟨u, hu⟩ : ∃ u, dk[i + 1 + (kp + 1)]! = u := ⟨_, rfl⟩
              obtain ⟨v, hv⟩ : ∃ v, dk[i + 1 + kp]! = v := ⟨_, rfl⟩
              have hcls : ∀ n' os', grow ((sortWorldK enc k w blk off q2 dk o2).drewN n') os' = sortWorldK enc k w blk off (q2 + n') dk (o2 ++ os') := fun n' os' => sortWorldK_grown_c enc k w blk off q2 n' dk o2 os'
              have hHc : ∀ n' os', HoldsK enc k (grow ((sortWorldK enc k w blk off q2 dk o2).drewN n') os') blk off dk := fun n' os' => by rw [hcls]; exact holdsK_sortWorldK_c enc k w blk off d dk _ _ HH.out hblk hds
              have lu : ∀ n' os', Sem.run P (loadCellsFrom ⟨blk, off + (i + 1) * k + (kp + 1) * k, none⟩ 0 k #[]) (grow ((sortWorldK enc k w blk off q2 dk o2).drewN n') os') = .ok (enc u).toArray (grow ((sortWorldK enc k w blk off q2 dk o2).drewN n') os') := fun n' os' => by
                rw [← hu, Nat.add_assoc off, ← Nat.add_mul]; exact run_loadCellsFrom_list P _ _ _ k (HK.out _) (HoldsK.cells (hHc n' os') HK.out (by omega))
              have lv : ∀ n' os', Sem.run P (loadCellsFrom ⟨blk, off + (i + 1) * k + kp * k, none⟩ 0 k #[]) (grow ((sortWorldK enc k w blk off q2 dk o2).drewN n') os') = .ok (enc v).toArray (grow ((sortWorldK enc k w blk off q2 dk o2).drewN n') os') := fun n' os' => by
                rw [← hv, Nat.add_assoc off, ← Nat.add_mul]; exact run_loadCellsFrom_list P _ _ _ k (HK.out _) (HoldsK.cells (hHc n' os') HK.out (by omega))
              have hcg : ∀ n' os', Calls P g (#[.agg (enc u).toArray, .agg (enc v).toArray] ++ cb) (grow ((sortWorldK enc k w blk off q2 dk o2).drewN n') os') fun e w' => e = .returned (.bool (eq u v)) ∧ ∃ q' os'', w' = grow ((grow ((sortWorldK enc k w blk off q2 dk o2).drewN n') os').drewN q') os'' := fun n' os' => by
                rw [hcls]; exact HQ.out _ _ dk hds u v
              have CLS : Hid _ := hcls
              have B2 : Hid (d[i + 1 + (kp + 1)]! = u ∧ d[i + 1 + kp]! = v) := by
                refine hide ⟨?_, ?_⟩
                · rw [← hu, HI.out.high _ (by omega)]
                · rw [← hv, HI.out.high _ (by omega)]
              clear hcls hHc hu hv
              generalize hwq : sortWorldK enc k w blk off q2 dk o2 = wq at lu lv hcg CLS ⊢
              have hwp : IntKind.i64.wrap (kp : Int) = (kp : Int) := by rw [IntKind.wrap_i64]; omega
              have jz : (kp : Int) + 1 < ((d.size - (i + 1) : Nat) : Int) := by omega
              have jz1 : (kp : Int) < ((d.size - (i + 1) : Nat) : Int) := by omega
              have p0 : (0 : Int) ≤ (kp : Int) + 1 := by omega
              have e0 : ((kp : Int) + 1).toNat = kp + 1 := by omega
              have HDS : Hid (dk.size = d.size) := hds
              clear hds
              obtain ⟨n2, hn2⟩ : ∃ x, x = d.size - (i + 1) := ⟨_, rfl⟩
              rw [← hn2] at jz jz1 ⊢
              have HN2 : Hid (n2 = d.size - (i + 1)) := hn2
              clear hn2
              cases hdup2 : eq u v
              · rw [hdup2] at hcg
                have lu2 := lu
                go_wp2_with fail
                go_quiet_grown (first | (go_at_fn g; refine Calls.grown_of (hcg _ _)))
                have hw2 : grow (wq.drewN nq) osq = sortWorldK enc k w blk off (q2 + nq) dk (o2 ++ osq) := CLS.out nq osq
                have hH2 : HoldsK enc k (grow (wq.drewN nq) osq) blk off dk := by rw [hw2]; exact holdsK_sortWorldK_c enc k w blk off d dk _ _ HH.out hblk HDS.out
                have hkd : kk < dk.size := by rw [HDS.out]; omega
                have bnd : kk * k + k ≤ dk.size * k := by
                  have := Nat.mul_le_mul_right k (show kk + 1 ≤ dk.size from hkd); rwa [Nat.add_mul, Nat.one_mul] at this
                have l2 := lu2 nq osq
                have st2 : Sem.run P (storeCells ⟨blk, off + kk * k, none⟩ (enc u) 0) (grow (wq.drewN nq) osq) = .ok () ((grow (wq.drewN nq) osq).setCells blk (off + kk * k) (enc u)) := stores_of_holds P hH2 (kk * k) _ (by rw [HK.out, size_flatK]; exact bnd) (H1.out _)
                have HW : Hid ((grow (wq.drewN nq) osq).setCells blk (off + kk * k) (enc u) = sortWorldK enc k w blk off (q2 + nq) (dk.setIfInBounds kk u) (o2 ++ osq)) := by
                  refine hide ?_
                  rw [hw2]
                  exact set_sortWorldK enc HK.out w blk off _ dk _ hblk kk u hkd
                have kz : (kk : Int) < (d.size : Int) := by omega
                have hsu : (enc u).length = k := HK.out _
                clear lu lu2 lv hcg hw2 hH2 hkd bnd
                obtain ⟨cu, hcu⟩ : ∃ c, c = enc u := ⟨_, rfl⟩
                rw [← hcu] at l2 st2 hsu HW
                have HCU : Hid (cu = enc u) := hcu
                clear hcu
                generalize grow (wq.drewN nq) osq = W2 at l2 st2 HW ⊢
                go_wp2
                rw [HN2.out]
                go_roundg (d.size - (i + 1 + (kp + 2)))
                case measure => omega
                case rel =>
                  refine ⟨kk + 1, kp + 2, _, _, _, by first | rfl | go_num | (congr 1; omega), by first | rfl | go_num | (congr 1; omega), by omega, by omega, Nat.le_refl _, by omega, hide ?_, HW.out⟩
                  have h := HI.out.keep (by omega) (keepsE_pos (m := i + 1 + (kp + 1)) (by rw [B2.out.1, show i + 1 + (kp + 1) - 1 = i + 1 + kp by omega, B2.out.2]; exact hdup2))
                  rw [B2.out.1] at h
                  exact h
              · rw [hdup2] at hcg
                go_wp2_with fail
                go_quiet_grown (first | (go_at_fn g; refine Calls.grown_of (hcg _ _)))
                go_wp2
                rw [HN2.out]
                go_roundg (d.size - (i + 1 + (kp + 2)))
                case measure => omega
                case rel => exact ⟨kk, kp + 2, _, dk, _, rfl, by first | rfl | go_num | (congr 1; omega), by omega, by omega, Nat.le_refl _, by omega, HI.out.skip (keepsE_neg (by omega) (by rw [B2.out.1, show i + 1 + (kp + 1) - 1 = i + 1 + kp by omega, B2.out.2]; exact hdup2)), CLS.out nq osq⟩
            · have hend : i + 1 + k2 = d.size := by omega
              have hcl := fun ty => clear_sortWorldK P enc HK.out H1.out w blk off q2 d dk o2 hblk HH.out HI.out.size kk ze (by rw [HI.out.size]; omega) zv HZ.out t27 HV.out ty (cap - kk)
              rw [HI.out.size] at hcl
              have FIN : Hid ((compE eq d d.size).length = kk ∧ (fillA dk kk ze).size = d.size ∧ ∀ j, j < (compE eq d d.size).length → (compE eq d d.size)[j]? = some (fillA dk kk ze)[j]!) := by
                refine hide ?_
                have h := HI.out
                rw [hend] at h
                refine ⟨h.len, by rw [fillA_size]; exact h.size, fun j hj => ?_⟩
                rw [h.len] at hj
                rw [h.low j hj, fillA_get dk kk ze j (by rw [h.size]; omega), if_neg (by omega)]
              have kz : (kk : Int) ≤ (d.size : Int) := by omega
              have kz2 : ¬ (k2 : Int) < ((d.size - (i + 1) : Nat) : Int) := by omega
              clear HI hend
              generalize sortWorldK enc k w blk off q2 dk o2 = wq2 at hcl ⊢
              go_wp2
              go_ret
              obtain ⟨e1, e2, e3⟩ := FIN.out
              exact ⟨by rw [e1]; rfl, q2, _, ⟨o2, rfl⟩, e2, e3⟩
      · have hltz : ¬ (i1 : Int) < (d.size : Int) := by omega
        go_wp2
        go_ret
        obtain ⟨e1, e2⟩ := ALL.out d.size (fun j hj => HA.out j (by omega)) rfl
        exact ⟨by rw [e1]; rfl, q, d, ⟨oq, rfl⟩, rfl, e2⟩
end Go.Proofs.YtcfhleenecfghaaDoor
