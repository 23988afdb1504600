/- Two sorted parts of a list of files become one: both of more than one element, and so of any. -/
import Derived.Test.YtcfhleenecfghaaDoorDgd
import Derived.Deep.Cut
import Derived.Deep.LoopGhost
namespace Go.Proofs.YtcfhleenecfghaaDoor
open Go.Shelf Go.RowKit Go.Lib Go.Sort
variable {P : Program} {k : Nat} {β : Type} [Inhabited β]

/-- What a merge answers. -/
def MergePost (enc : β × Nat → List Value) (k : Nat) (cf : β → β → Int) (blk off : Nat) (w : World) (a b : Nat) (d : Array (β × Nat)) (e : Ending) (w' : World) : Prop :=
  e = .returned (.tuple #[]) ∧ ∃ q d' os', w' = sortWorldK enc k w blk off q d' os' ∧ PermIn a b d d' ∧ SortedIn (tlt (ltOf cf)) a b d'

theorem parts_nil {lt : β → β → Bool} {d : Array (β × Nat)} {a m b : Nat} (h : Parts lt d a m b) (e : a = m ∨ m = b) : SortedIn (tlt lt) a b d := by
  rcases e with e | e
  · subst e; exact h.right
  · subst e; exact h.left

set_option maxHeartbeats 4000000 in
set_option maxRecDepth 1000000 in
theorem merge_more (L : StLay P k) (enc : β × Nat → List Value) (cf : β → β → Int) (g : Nat) (cb : Array Value) (blk off cap : Nat) (w : World) (d0 : Array (β × Nat)) (hK : CK P k enc cf g cb w blk off d0) (a m b q0 : Nat) (d : Array (β × Nat)) (os : Array Obj) (hs : d.size = d0.size) (ham : a + 1 < m) (hmb : m + 1 < b) (hb : b ≤ d.size) (hp : Parts (ltOf cf) d a m b)
    (ih : ∀ (a' m' b' q : Nat) (d' : Array (β × Nat)) (os' : Array Obj), b' - a' < b - a → d'.size = d0.size → a' < m' → m' < b' → b' ≤ d'.size → Parts (ltOf cf) d' a' m' b' →
      Calls P 89 #[.slice (some ⟨blk, off, none⟩) d0.size cap, .int .i64 a', .int .i64 m', .int .i64 b', .func (.func g) #[] cb] (sortWorldK enc k w blk off q d' os') (MergePost enc k cf blk off w a' b' d')) :
    Calls P 89 #[.slice (some ⟨blk, off, none⟩) d0.size cap, .int .i64 a, .int .i64 m, .int .i64 b, .func (.func g) #[] cb] (sortWorldK enc k w blk off q0 d os) (MergePost enc k cf blk off w a b d) := by
  have hsz := hK.sk.size
  have hblk := hK.sk.here
  have HH : Hid (HoldsK enc k w blk off d0) := hK.sk.holds
  have HK : Hid (∀ x, (enc x).length = k) := hK.sk.two
  have H1 : Hid (∀ x, ∀ v ∈ enc x, v.oneCell' = true) := hK.sk.one
  have HC : Aside _ := hK.lays
  have HO : Hid (SWO (ltOf cf)) := hK.order
  have HP : Hid (Parts (ltOf cf) d a m b) := hp
  have eg := hK.enters
  have HS : Hid (SK k enc w blk off d0) := hK.sk
  have IH : Aside _ := ih
  clear hK hp ih
  have mixed := L.mixed; have t0 := L.t0; have a0 := L.a0; have z0 := L.z0; have v0 := L.v0; have t3 := L.t3; have a3 := L.a3; have z3 := L.z3; have v3 := L.v3; have t4 := L.t4; have a4 := L.a4; have z4 := L.z4; have v4 := L.v4; have t27 := L.t27; have a27 := L.a27; have z27 := L.z27; have v27 := L.v27; have t91 := L.t91; have a91 := L.a91; have z91 := L.z91; have v91 := L.v91; have t98 := L.t98; have a98 := L.a98; have z98 := L.z98; have v98 := L.v98; have a69 := L.a69; have z69 := L.z69
  have F89 := L.f89
  have e101 : ∀ args w, (callFunc 101 args).run P w = .ok (.enter 101 args) w := enters_of L.f101 (by kernel_rfl) rfl
  have e89 : ∀ args w, (callFunc 89 args).run P w = .ok (.enter 89 args) w := enters_of L.f89 (by kernel_rfl) rfl
  have hne1 : ¬ (m : Int) - (a : Int) = 1 := by omega
  have hne2 : ¬ (b : Int) - (m : Int) = 1 := by omega
  obtain ⟨mid, hmid⟩ : ∃ x, x = (a + b) / 2 := ⟨_, rfl⟩
  obtain ⟨n, hn⟩ : ∃ x, x = mid + m := ⟨_, rfl⟩
  obtain ⟨p, hp⟩ : ∃ x, x = n - 1 := ⟨_, rfl⟩
  obtain ⟨s0, hs0⟩ : ∃ x, x = if mid < m then n - b else a := ⟨_, rfl⟩
  obtain ⟨r0, hr0⟩ : ∃ x, x = if mid < m then mid else m := ⟨_, rfl⟩
  have mid1 : a < mid := by omega
  have mid2 : mid < b := by omega
  have mid3 : 2 * mid ≤ a + b := by omega
  have midz : ((a : Int) + (b : Int)) / 2 = (mid : Int) := by omega
  have nz : IntKind.i64.wrap ((mid : Int) + (m : Int)) = (n : Int) := by rw [IntKind.wrap_i64]; omega
  have pz : IntKind.i64.wrap ((n : Int) - 1) = (p : Int) := by rw [IntKind.wrap_i64]; omega
  have HN : Hid (n = mid + m ∧ p = n - 1) := ⟨hn, hp⟩
  have HQ : Hid (s0 = (if mid < m then n - b else a) ∧ r0 = if mid < m then mid else m) := ⟨hs0, hr0⟩
  clear hmid hn hp hs0 hr0
  go_enter F89, Tryd.ntmps89
  go_upto_if 140 with fail
  go_cut [19, 20, 21] from 25 (fun c0 c1 c2 wx => c0 = .int .i64 n ∧ c1 = .int .i64 s0 ∧ c2 = .int .i64 r0 ∧ wx = sortWorldK enc k w blk off q0 d os)
  case first => as_aux_lemma =>
    by_cases hc : mid < m
    · have hcz : (mid : Int) < (m : Int) := by omega
      have e1 : IntKind.i64.wrap ((n : Int) - (b : Int)) = (s0 : Int) := by rw [HQ.out.1, if_pos hc, IntKind.wrap_i64]; have := HN.out; omega
      have e2 : r0 = mid := by rw [HQ.out.2, if_pos hc]
      go_wp2_with fail
      go_meet
      case rel =>
        have hn := HN.out
        have h0 := HQ.out.1
        rw [if_pos hc] at h0
        exact ⟨by first | rfl | (congr 1; omega), by first | rfl | (congr 1; omega), by rw [e2], rfl⟩
    · have hcz : ¬ (mid : Int) < (m : Int) := by omega
      have e1 : s0 = a := by rw [HQ.out.1, if_neg hc]
      have e2 : r0 = m := by rw [HQ.out.2, if_neg hc]
      go_wp2_with fail
      go_meet
      case rel =>
        have hn := HN.out
        exact ⟨by first | rfl | (congr 1; omega), by rw [e1], by rw [e2], rfl⟩
  case rest =>
    obtain ⟨rfl, rfl, rfl, rfl⟩ := hcut
    obtain ⟨hn, hp⟩ := HN.out
    obtain ⟨hs0, hr0⟩ := HQ.out
    have f1 : r0 = m ∨ r0 = mid := by by_cases hc : mid < m <;> simp only [hc, if_true, if_false] at hr0 <;> omega
    have f2 : s0 = a ∨ s0 + b = n := by by_cases hc : mid < m <;> simp only [hc, if_true, if_false] at hs0 <;> omega
    have f3 : a ≤ s0 ∧ s0 ≤ r0 ∧ r0 ≤ m ∧ r0 ≤ mid ∧ n ≤ s0 + b := by by_cases hc : mid < m <;> simp only [hc, if_true, if_false] at hs0 hr0 <;> omega
    obtain ⟨f3, f4, f5, f6, f7⟩ := f3
    have F1 : Hid (r0 = m ∨ r0 = mid) := f1
    have F2 : Hid (s0 = a ∨ s0 + b = n) := f2
    clear hs0 hr0 f1 f2 HQ hn hp
    go_upto_region 32 with fail
    go_cut [22] from 25 (fun c wx => c = .int .i64 p ∧ wx = sortWorldK enc k w blk off q0 d os)
    case first => as_aux_lemma =>
      go_wp2_with fail
      go_meet
      case rel =>
        have hN := HN.out
        exact ⟨by first | rfl | (congr 1; omega), rfl⟩
    case rest =>
      obtain ⟨rfl, rfl⟩ := hcut
      go_wp2
      go_loopg [20, 21] (r0 - s0) (fun g1 vi vj wr => ∃ (s r q : Nat) (oq : Array Obj), vi = .int .i64 s ∧ vj = .int .i64 r ∧ s0 ≤ s ∧ s ≤ r ∧ r ≤ r0 ∧ r - s ≤ g1 ∧ Hid (s0 < s → ltOf cf (d[p - (s - 1)]!).1 (d[s - 1]!).1 = false) ∧ Hid (r < r0 → ltOf cf (d[p - r]!).1 (d[r]!).1 = true) ∧ wr = sortWorldK enc k w blk off q d oq)
      case atStart =>
        exact ⟨s0, r0, q0, os, rfl, rfl, Nat.le_refl _, f4, Nat.le_refl _, by omega, fun h => absurd h (by omega), fun h => absurd h (by omega), rfl⟩
      case round =>
        obtain ⟨s, r, q, oq, rfl, rfl, hs1, hsr, hr, hg1, HI, HJ, rfl⟩ := hrel
        by_cases hlt : s < r
        · as_aux_lemma =>
          have hltz : (s : Int) < (r : Int) := by omega
          have hN := HN.out
          obtain ⟨c, hc⟩ : ∃ c, c = (s + r) / 2 := ⟨_, rfl⟩
          obtain ⟨pc, hpc⟩ : ∃ x, x = p - c := ⟨_, rfl⟩
          have hcls : ∀ n' os', grow ((sortWorldK enc k w blk off q d oq).drewN n') os' = sortWorldK enc k w blk off (q + n') d (oq ++ os') := fun n' os' => sortWorldK_grown_c enc k w blk off q n' d oq os'
          have hHc : ∀ n' os', HoldsK enc k (grow ((sortWorldK enc k w blk off q d oq).drewN n') os') blk off d := fun n' os' => by rw [hcls]; exact holdsK_sortWorldK_c enc k w blk off d0 d _ _ HH.out hblk hs
          obtain ⟨xc, hxc⟩ : ∃ x, d[c]! = x := ⟨_, rfl⟩
          obtain ⟨xp, hxp⟩ : ∃ x, d[pc]! = x := ⟨_, rfl⟩
          have lc : ∀ n' os', Sem.run P (loadCellsFrom ⟨blk, off + c * k, none⟩ 0 k #[]) (grow ((sortWorldK enc k w blk off q d oq).drewN n') os') = .ok (enc xc).toArray (grow ((sortWorldK enc k w blk off q d oq).drewN n') os') := fun n' os' => by
            rw [← hxc]; exact run_loadCellsFrom_list P _ _ _ k (HK.out _) (HoldsK.cells (hHc n' os') HK.out (by omega))
          have lp : ∀ n' os', Sem.run P (loadCellsFrom ⟨blk, off + pc * k, none⟩ 0 k #[]) (grow ((sortWorldK enc k w blk off q d oq).drewN n') os') = .ok (enc xp).toArray (grow ((sortWorldK enc k w blk off q d oq).drewN n') os') := fun n' os' => by
            rw [← hxp]; exact run_loadCellsFrom_list P _ _ _ k (HK.out _) (HoldsK.cells (hHc n' os') HK.out (by omega))
          have hcg : ∀ n' os', Calls P g (#[.agg (enc xp).toArray, .agg (enc xc).toArray] ++ cb) (grow ((sortWorldK enc k w blk off q d oq).drewN n') os') fun e w' => e = .returned (.int .i64 (cf xp.1 xc.1)) ∧ ∃ q' os'', w' = grow ((grow ((sortWorldK enc k w blk off q d oq).drewN n') os').drewN q') os'' := fun n' os' => by
            rw [hcls]; exact HC.out _ _ d hs xp xc
          have CLS : Hid _ := hcls
          clear hcls hHc
          generalize hwq : sortWorldK enc k w blk off q d oq = wq at lc lp hcg CLS ⊢
          have hz : (c : Int) < (d0.size : Int) := by omega
          have pz2 : (pc : Int) < (d0.size : Int) := by omega
          have pz3 : IntKind.i64.wrap ((p : Int) - (c : Int)) = (pc : Int) := by rw [IntKind.wrap_i64]; omega
          have HHd : Hid (c = (s + r) / 2) := hc
          have HPc : Hid (pc = p - c) := hpc
          have hhz : ((s : Int) + (r : Int)) / 2 = (c : Int) := by omega
          clear hc hpc hN
          go_wp2_with fail
          by_cases hlv : cf xp.1 xc.1 < 0
          · go_quiet_grown (first | (go_at_fn g; refine Calls.grown_of (hcg _ _)))
            go_wp2
            go_roundg (c - s)
            case measure => have := HHd.out; omega
            case rel =>
              have hd := HHd.out
              refine ⟨s, c, _, _, rfl, rfl, hs1, by omega, by omega, Nat.le_refl _, HI, (show Hid _ from ?_), CLS.out nq osq⟩
              show _ → _
              intro _
              rw [← HPc.out, hxc, hxp]
              exact decide_eq_true (by omega)
          · go_quiet_grown (first | (go_at_fn g; refine Calls.grown_of (hcg _ _)))
            go_wp2
            go_roundg (r - (c + 1))
            case measure => have := HHd.out; omega
            case rel =>
              have hd := HHd.out
              refine ⟨c + 1, r, _, _, by first | rfl | go_num, rfl, by omega, by omega, hr, Nat.le_refl _, (show Hid _ from ?_), HJ, CLS.out nq osq⟩
              show _ → _
              intro _
              rw [Nat.add_sub_cancel, ← HPc.out, hxc, hxp]
              exact decide_eq_false (by omega)
        · as_aux_lemma =>
          have hltz : ¬ (s : Int) < (r : Int) := by omega
          have e : s = r := by omega
          subst e
          clear hsr hlt hg1
          have hN := HN.out
          obtain ⟨e, he⟩ : ∃ x, x = n - s := ⟨_, rfl⟩
          have ez : IntKind.i64.wrap ((n : Int) - (s : Int)) = (e : Int) := by rw [IntKind.wrap_i64]; omega
          have e1 : m ≤ e := by omega
          have e2 : e ≤ b := by omega
          have e3 : s + e = mid + m := by omega
          have s1 : a ≤ s := by omega
          have s2 : s ≤ m := by omega
          have PA : Hid (Parts (ltOf cf) (rotA d s m e) a s mid) := parts_ahead HP.out s1 s2 e1 e2 hb e3
          have PB : Hid (Parts (ltOf cf) (rotA d s m e) mid e b) := parts_behind HP.out s1 s2 e1 e2 hb e3
          have CR : Hid (∀ i j, a ≤ i → i < mid → mid ≤ j → j < b → tlt (ltOf cf) ((rotA d s m e)[j]!) ((rotA d s m e)[i]!) = false) := by
            refine cross HO.out HP.out s1 s2 e1 e2 hb e3 (fun x1 x2 => ?_) (fun x1 x2 => ?_)
            · have := F1.out
              have h := HJ.out (by omega)
              rwa [show p - s = e - 1 by omega] at h
            · have := F2.out
              have h := HI.out (by omega)
              rwa [show p - (s - 1) = e by omega] at h
          have PR : Hid (PermIn a b d (rotA d s m e)) := permIn_mono _ _ _ _ _ _ s1 e2 hb (rotA_perm d s m e s2 e1 (by omega))
          have RS : Hid ((rotA d s m e).size = d0.size) := by rw [show Hid _ = _ from rfl, rotA_size]; exact hs
          have HE : Hid (e = n - s ∧ s + e = mid + m) := ⟨he, e3⟩
          clear HI HJ F1 F2 HC eg he e3 hN
          go_upto_region 38 with fail
          go_cut [24] from 25 (fun c wx => c = .int .i64 e ∧ wx = sortWorldK enc k w blk off q d oq)
          case first => as_aux_lemma =>
            go_wp2_with fail
            go_meet
            case rel =>
              have hE := HE.out
              exact ⟨by first | rfl | (congr 1; omega), rfl⟩
          case rest =>
            obtain ⟨rfl, rfl⟩ := hcut
            go_upto_region 39 with fail
            go_cut [185] from 25 (fun c wx => c = .bool (decide (s < m ∧ m < e)) ∧ wx = sortWorldK enc k w blk off q d oq)
            case first => as_aux_lemma =>
              by_cases c1 : s < m
              · have c1z : (s : Int) < (m : Int) := by omega
                by_cases c2 : m < e
                · have c2z : (m : Int) < (e : Int) := by omega
                  go_wp2_with fail
                  go_meet
                  case rel => exact ⟨by rw [decide_eq_true (⟨c1, c2⟩ : s < m ∧ m < e)], rfl⟩
                · have c2z : ¬ (m : Int) < (e : Int) := by omega
                  go_wp2_with fail
                  go_meet
                  case rel => exact ⟨by rw [decide_eq_false (fun h => c2 h.2 : ¬ (s < m ∧ m < e))], rfl⟩
              · have c1z : ¬ (s : Int) < (m : Int) := by omega
                go_wp2_with fail
                go_meet
                case rel => exact ⟨by rw [decide_eq_false (fun h => c1 h.1 : ¬ (s < m ∧ m < e))], rfl⟩
            case rest =>
              obtain ⟨rfl, rfl⟩ := hcut
              go_upto_if 185 with fail
              go_cut [] from 25 (fun wx => ∃ (q1 : Nat) (o1 : Array Obj), wx = sortWorldK enc k w blk off q1 (rotA d s m e) o1)
              case first => as_aux_lemma =>
                by_cases hr : s < m ∧ m < e
                · have hrb : decide (s < m ∧ m < e) = true := decide_eq_true hr
                  have C : Hid _ := rotate_any L enc blk off cap w d0 HS.out (.func (.func g) #[] cb) s m e q d oq hs hr.1 hr.2 (by omega)
                  go_wp2_with fail
                  go_at_fn 101
                  refine Calls.mono C.out ?_
                  rintro e' w' ⟨rfl, q1, o1, hw'⟩
                  have HW : Hid _ := hw'
                  clear hw' C
                  go_wp2
                  go_meet
                  case rel => exact ⟨q1, o1, HW.out⟩
                · have hrb : decide (s < m ∧ m < e) = false := decide_eq_false hr
                  go_wp2_with fail
                  go_meet
                  case rel => exact ⟨q, oq, by rw [rotA_none d s m e (by omega) s2 e1 (by omega)]⟩
              case rest =>
                obtain ⟨q1, o1, rfl⟩ := hcut
                obtain ⟨d1, hd1⟩ : ∃ x, x = rotA d s m e := ⟨_, rfl⟩
                rw [← hd1] at PA PB CR PR RS ⊢
                clear hd1
                go_upto_region 41 with fail
                go_cut [199] from 25 (fun c wx => c = .bool (decide (a < s ∧ s < mid)) ∧ wx = sortWorldK enc k w blk off q1 d1 o1)
                case first => as_aux_lemma =>
                  by_cases c1 : a < s
                  · have c1z : (a : Int) < (s : Int) := by omega
                    by_cases c2 : s < mid
                    · have c2z : (s : Int) < (mid : Int) := by omega
                      go_wp2_with fail
                      go_meet
                      case rel => exact ⟨by rw [decide_eq_true (⟨c1, c2⟩ : a < s ∧ s < mid)], rfl⟩
                    · have c2z : ¬ (s : Int) < (mid : Int) := by omega
                      go_wp2_with fail
                      go_meet
                      case rel => exact ⟨by rw [decide_eq_false (fun h => c2 h.2 : ¬ (a < s ∧ s < mid))], rfl⟩
                  · have c1z : ¬ (a : Int) < (s : Int) := by omega
                    go_wp2_with fail
                    go_meet
                    case rel => exact ⟨by rw [decide_eq_false (fun h => c1 h.1 : ¬ (a < s ∧ s < mid))], rfl⟩
                case rest =>
                  obtain ⟨rfl, rfl⟩ := hcut
                  go_upto_if 199 with fail
                  go_cut [] from 25 (fun wx => ∃ (q2 : Nat) (d2 : Array (β × Nat)) (o2 : Array Obj), wx = sortWorldK enc k w blk off q2 d2 o2 ∧ PermIn a mid d1 d2 ∧ SortedIn (tlt (ltOf cf)) a mid d2)
                  case first => as_aux_lemma =>
                    by_cases hr : a < s ∧ s < mid
                    · have hrb : decide (a < s ∧ s < mid) = true := decide_eq_true hr
                      have C : Hid _ := IH.out a s mid q1 d1 o1 (by omega) RS.out hr.1 hr.2 (by have := RS.out; omega) PA.out
                      go_wp2_with fail
                      go_at_fn 89
                      refine Calls.mono C.out ?_
                      rintro e' w' ⟨rfl, q2, d2, o2, hw'⟩
                      have HW : Hid _ := hw'
                      clear hw' C
                      go_wp2
                      go_meet
                      case rel => exact ⟨q2, d2, o2, HW.out⟩
                    · have hrb : decide (a < s ∧ s < mid) = false := decide_eq_false hr
                      go_wp2_with fail
                      go_meet
                      case rel => exact ⟨q1, d1, o1, rfl, permIn_refl _ _ _, parts_nil PA.out (by omega)⟩
                  case rest =>
                    obtain ⟨q2, d2, o2, rfl, p2, h2⟩ := hcut
                    have R2 : Hid (PermIn a mid d1 d2 ∧ SortedIn (tlt (ltOf cf)) a mid d2) := ⟨p2, h2⟩
                    have PB2 : Hid (Parts (ltOf cf) d2 mid e b) := parts_same PB.out (fun x hx _ => p2.2.1 x (Or.inr hx)) (by have := HE.out; omega) e2
                    have RS2 : Hid (d2.size = d0.size) := p2.1.trans RS.out
                    clear p2 h2
                    go_upto_region 43 with fail
                    go_cut [213] from 25 (fun c wx => c = .bool (decide (mid < e ∧ e < b)) ∧ wx = sortWorldK enc k w blk off q2 d2 o2)
                    case first => as_aux_lemma =>
                      by_cases c1 : mid < e
                      · have c1z : (mid : Int) < (e : Int) := by omega
                        by_cases c2 : e < b
                        · have c2z : (e : Int) < (b : Int) := by omega
                          go_wp2_with fail
                          go_meet
                          case rel => exact ⟨by rw [decide_eq_true (⟨c1, c2⟩ : mid < e ∧ e < b)], rfl⟩
                        · have c2z : ¬ (e : Int) < (b : Int) := by omega
                          go_wp2_with fail
                          go_meet
                          case rel => exact ⟨by rw [decide_eq_false (fun h => c2 h.2 : ¬ (mid < e ∧ e < b))], rfl⟩
                      · have c1z : ¬ (mid : Int) < (e : Int) := by omega
                        go_wp2_with fail
                        go_meet
                        case rel => exact ⟨by rw [decide_eq_false (fun h => c1 h.1 : ¬ (mid < e ∧ e < b))], rfl⟩
                    case rest =>
                      obtain ⟨rfl, rfl⟩ := hcut
                      by_cases hr : mid < e ∧ e < b
                      · have hrb : decide (mid < e ∧ e < b) = true := decide_eq_true hr
                        have C : Hid _ := IH.out mid e b q2 d2 o2 (by omega) RS2.out hr.1 hr.2 (by have := RS2.out; omega) PB2.out
                        go_wp2_with fail
                        go_at_fn 89
                        refine Calls.mono C.out ?_
                        rintro e' w' ⟨rfl, q3, d3, o3, hw', p3, h3⟩
                        have HW : Hid (w' = sortWorldK enc k w blk off q3 d3 o3 ∧ PermIn mid b d2 d3 ∧ SortedIn (tlt (ltOf cf)) mid b d3) := ⟨hw', p3, h3⟩
                        clear hw' p3 h3 C
                        go_wp2
                        go_end0
                        exact ⟨rfl, q3, d3, o3, HW.out.1, glue (by omega) (by omega) hb PR.out CR.out R2.out.1 R2.out.2 HW.out.2.1 HW.out.2.2⟩
                      · have hrb : decide (mid < e ∧ e < b) = false := decide_eq_false hr
                        go_wp2
                        go_end0
                        exact ⟨rfl, q2, d2, o2, rfl, glue (by omega) (by omega) hb PR.out CR.out R2.out.1 R2.out.2 (permIn_refl _ _ _) (parts_nil PB2.out (by have := HE.out; omega))⟩
end Go.Proofs.YtcfhleenecfghaaDoor
