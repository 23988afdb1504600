/- A list of files is sorted stably: the program's own sort. -/
import Derived.Test.YtcfhleenecfghaaDoorDgg
namespace Go.Proofs.YtcfhleenecfghaaDoor
open Go.Shelf Go.RowKit Go.Lib Go.Sort
variable {P : Program} {k : Nat} {β : Type} [Inhabited β]

set_option maxHeartbeats 4000000 in
set_option maxRecDepth 1000000 in
theorem stable_any (LI : SlLaysF0.n20 P sort_ren) (L : StLay P k) (enc : β × Nat → List Value) (cf : β → β → Int) (g : Nat) (cb : Array Value) (blk off cap : Nat) (w : World) (d0 : Array (β × Nat)) (hK : CK P k enc cf g cb w blk off d0) (n : Nat) (hn : n = d0.size) (hsz : n ≤ 1152921504606846976) (ht : ∀ p, p < n → (d0[p]!).2 = p) (q0 : Nat) (os : Array Obj) :
    Calls P 74 #[.slice (some ⟨blk, off, none⟩) d0.size cap, .int .i64 n, .func (.func g) #[] cb] (sortWorldK enc k w blk off q0 d0 os) fun e w' =>
      e = .returned (.tuple #[]) ∧ ∃ q d' os', w' = sortWorldK enc k w blk off q d' os' ∧ PermIn 0 n d0 d' ∧ SortedIn (tlt (ltOf cf)) 0 n d' := by
  have HK : Hid (CK P k enc cf g cb w blk off d0) := hK
  have HO : Hid (SWO (ltOf cf)) := hK.order
  have HT : Hid (∀ p, p < n → (d0[p]!).2 = p) := ht
  have HN : Hid (n = d0.size) := hn
  clear hK ht hn
  have mixed := L.mixed; have t0 := L.t0; have a0 := L.a0; have z0 := L.z0; have v0 := L.v0; have t3 := L.t3; have a3 := L.a3; have z3 := L.z3; have v3 := L.v3; have t4 := L.t4; have a4 := L.a4; have z4 := L.z4; have v4 := L.v4; have t27 := L.t27; have a27 := L.a27; have z27 := L.z27; have v27 := L.v27; have t91 := L.t91; have a91 := L.a91; have z91 := L.z91; have v91 := L.v91
  have e88 : ∀ args w, (callFunc 88 args).run P w = .ok (.enter 88 args) w := LI.f20.enters rfl
  have e89 : ∀ args w, (callFunc 89 args).run P w = .ok (.enter 89 args) w := enters_of L.f89 (by kernel_rfl) rfl
  have F74 := L.f74
  go_enter F74, Tryd.ntmps74
  go_wp2
  go_loopg [7, 8] n (fun g1 s7 s8 wr => ∃ (a q : Nat) (d : Array (β × Nat)) (oq : Array Obj), s7 = .int .i64 a ∧ s8 = .int .i64 ((a : Int) + 20) ∧ a ≤ n ∧ n - a ≤ g1 ∧ Hid (d.size = n ∧ PermIn 0 n d0 d ∧ Fresh (ltOf cf) n 20 a d) ∧ wr = sortWorldK enc k w blk off q d oq)
  case atStart =>
    exact ⟨0, q0, d0, os, rfl, by first | rfl | go_num, Nat.zero_le _, by omega, ⟨HN.out.symm, permIn_refl _ _ _, ⟨⟨0, rfl⟩, fun x _ h => absurd h (by omega), fun p _ h => HT.out p h⟩⟩, rfl⟩
  case round =>
    obtain ⟨a, q, d, oq, rfl, rfl, han, hg1, HR, rfl⟩ := hrel
    by_cases hlt : a + 20 ≤ n
    · have hltz : (a : Int) + 20 ≤ (n : Int) := by omega
      have C : Hid _ := insertion_any LI L enc cf g cb blk off cap w d0 HK.out a (a + 20) q d oq (by rw [HR.out.1, HN.out]) (by omega) (by rw [HR.out.1]; exact hlt)
      go_wp2_with fail
      rw [show (a : Int) + 20 = ((a + 20 : Nat) : Int) by omega]
      go_at_fn 88
      refine Calls.mono C.out ?_
      rintro e w' ⟨rfl, q', oq', hw'⟩
      have HW : Hid _ := hw'
      clear hw' C
      go_wp2
      go_roundg (n - (a + 20))
      case measure => omega
      case rel =>
        obtain ⟨r1, r2, r3⟩ := HR.out
        obtain ⟨x1, x2, x3⟩ := fresh_step HO.out r3 r1.symm (by omega) (by omega : a + 20 = min (a + 20) n) (by omega)
        refine ⟨a + 20, q', _, oq', by first | rfl | go_num, by first | rfl | go_num | (congr 1; omega), hlt, Nat.le_refl _, ⟨by rw [x1.1]; exact r1, permIn_trans _ _ _ _ _ r2 (permIn_mono _ _ _ _ _ _ (Nat.zero_le _) hlt (by omega) x1), ⟨(Nat.dvd_add_right r3.dvd).2 (Nat.dvd_refl _), x2, x3⟩⟩, HW.out⟩
    · have hltz : ¬ (a : Int) + 20 ≤ (n : Int) := by omega
      have C : Hid _ := insertion_any LI L enc cf g cb blk off cap w d0 HK.out a n q d oq (by rw [HR.out.1, HN.out]) han (by rw [HR.out.1]; exact Nat.le_refl _)
      go_wp2_with fail
      go_at_fn 88
      refine Calls.mono C.out ?_
      rintro e w' ⟨rfl, q', oq', hw'⟩
      have HW : Hid _ := hw'
      clear hw' C
      have R2 : Hid (∃ d1 : Array (β × Nat), d1 = Sort.insertionSort (flt (ltOf cf)) d a n ∧ d1.size = n ∧ PermIn 0 n d0 d1 ∧ ∀ x, 20 ∣ x → x < n → Good (ltOf cf) n 20 d1 x) := by
        refine hide ?_
        obtain ⟨r1, r2, r3⟩ := HR.out
        obtain ⟨x1, x2, x3⟩ := fresh_step HO.out r3 r1.symm (by omega) (by omega : n = min (a + 20) n) han
        exact ⟨_, rfl, by rw [x1.1]; exact r1, permIn_trans _ _ _ _ _ r2 (permIn_mono _ _ _ _ _ _ (Nat.zero_le _) (Nat.le_refl _) (by omega) x1), fun x h1 h2 => x2 x h1 (by omega) h2⟩
      obtain ⟨d1, hd1, r1, r2, r3⟩ := R2.out
      have HW2 : Hid (w' = sortWorldK enc k w blk off q' d1 oq') := by refine hide ?_; rw [hd1]; exact HW.out
      have R3 : Hid (d1.size = n ∧ PermIn 0 n d0 d1 ∧ ∀ x, 20 ∣ x → x < n → Good (ltOf cf) n 20 d1 x) := ⟨r1, r2, r3⟩
      clear HW HR R2 hd1 r1 r2 r3 hltz hlt hg1
      go_wp2
      go_loopg [6, 7, 8, 9] n (fun g2 s6 _ _ _ wr => ∃ (s q : Nat) (d : Array (β × Nat)) (oq : Array Obj), s6 = .int .i64 s ∧ 0 < s ∧ s ≤ 2 * n + 20 ∧ n - s ≤ g2 ∧ Hid (d.size = n ∧ PermIn 0 n d0 d ∧ ∀ x, s ∣ x → x < n → Good (ltOf cf) n s d x) ∧ wr = sortWorldK enc k w blk off q d oq)
      case atStart => exact ⟨20, q', d1, oq', rfl, by omega, by omega, by omega, R3, HW2.out⟩
      case round =>
        obtain ⟨s, q, d, oq, rfl, hs0, hs1, hg2, HR, rfl⟩ := hrel
        by_cases hsn : s < n
        · have hsnz : (s : Int) < (n : Int) := by omega
          go_wp2
          go_loopg [7, 8] n (fun g3 s7 s8 wr => ∃ (a q : Nat) (d : Array (β × Nat)) (oq : Array Obj), s7 = .int .i64 a ∧ s8 = .int .i64 ((a + 2 * s : Nat) : Int) ∧ a ≤ n ∧ n - a ≤ g3 ∧ Hid (d.size = n ∧ PermIn 0 n d0 d ∧ Midway (ltOf cf) n s a d) ∧ wr = sortWorldK enc k w blk off q d oq)
          case atStart =>
            obtain ⟨r1, r2, r3⟩ := HR.out
            exact ⟨0, q, d, oq, rfl, by first | rfl | go_num | (congr 1; omega), Nat.zero_le _, by omega, ⟨r1, r2, ⟨⟨0, rfl⟩, fun x _ h => absurd h (by omega), fun x h1 _ h3 => r3 x h1 h3⟩⟩, rfl⟩
          case round =>
            obtain ⟨a, q, d, oq, rfl, rfl, han, hg3, HR, rfl⟩ := hrel
            by_cases hlt : a + 2 * s ≤ n
            · obtain ⟨b, hb⟩ : ∃ b, b = a + 2 * s := ⟨_, rfl⟩
              rw [← hb]
              have hltz : (b : Int) ≤ (n : Int) := by omega
              have C : Hid _ := symMerge_any L enc cf g cb blk off cap w d0 HK.out (b - a) a (a + s) b q d oq (Nat.le_refl _) (by rw [HR.out.1, HN.out]) (by omega) (by omega) (by rw [HR.out.1]; omega) (midway_parts HR.out.2.2 (by omega) (by omega))
              have HB : Hid (b = a + 2 * s) := hb
              clear hb
              go_wp2_with fail
              rw [show (a : Int) + (s : Int) = ((a + s : Nat) : Int) by omega]
              go_at_fn 89
              refine Calls.mono C.out ?_
              rintro e w' ⟨rfl, q', d', oq', hw', p1, p2⟩
              have HW : Hid (w' = sortWorldK enc k w blk off q' d' oq' ∧ PermIn a b d d' ∧ SortedIn (tlt (ltOf cf)) a b d') := ⟨hw', p1, p2⟩
              clear hw' p1 p2 C
              go_wp2
              go_roundg (n - b)
              case measure => have := HB.out; omega
              case rel =>
                obtain ⟨r1, r2, r3⟩ := HR.out
                obtain ⟨h1, h2, h3⟩ := HW.out
                have hb := HB.out
                obtain ⟨x1, x2⟩ := midway_step r3 r1.symm hs0 (by omega) (by omega) h2 h3
                rw [← hb] at x2
                refine ⟨b, q', d', oq', rfl, by first | rfl | go_num | (congr 1; omega), by omega, Nat.le_refl _, ⟨by rw [h2.1]; exact r1, permIn_trans _ _ _ _ _ r2 (permIn_mono _ _ _ _ _ _ (Nat.zero_le _) (by omega) (by omega) h2), x2⟩, h1⟩
            · obtain ⟨b, hb⟩ : ∃ b, b = a + 2 * s := ⟨_, rfl⟩
              rw [← hb]
              have hltz : ¬ (b : Int) ≤ (n : Int) := by omega
              have HB : Hid (b = a + 2 * s) := hb
              by_cases hm : a + s < n
              · have hmz : (a : Int) + (s : Int) < (n : Int) := by omega
                have C : Hid _ := symMerge_any L enc cf g cb blk off cap w d0 HK.out (n - a) a (a + s) n q d oq (Nat.le_refl _) (by rw [HR.out.1, HN.out]) (by omega) hm (by rw [HR.out.1]; exact Nat.le_refl _) (midway_parts HR.out.2.2 hm (by omega))
                clear hb
                go_wp2_with fail
                rw [show (a : Int) + (s : Int) = ((a + s : Nat) : Int) by omega]
                go_at_fn 89
                refine Calls.mono C.out ?_
                rintro e w' ⟨rfl, q', d', oq', hw', p1, p2⟩
                have HW : Hid (w' = sortWorldK enc k w blk off q' d' oq' ∧ PermIn a n d d' ∧ SortedIn (tlt (ltOf cf)) a n d') := ⟨hw', p1, p2⟩
                clear hw' p1 p2 C
                go_wp2
                go_roundg (n - 2 * s)
                case measure => omega
                case rel =>
                  obtain ⟨r1, r2, r3⟩ := HR.out
                  obtain ⟨h1, h2, h3⟩ := HW.out
                  have hb := HB.out
                  obtain ⟨x1, x2⟩ := midway_step r3 r1.symm hs0 hm (by omega) h2 h3
                  refine ⟨2 * s, q', d', oq', by first | rfl | go_num | (congr 1; omega), by omega, by omega, Nat.le_refl _, ⟨by rw [h2.1]; exact r1, permIn_trans _ _ _ _ _ r2 (permIn_mono _ _ _ _ _ _ (Nat.zero_le _) (Nat.le_refl _) (by omega) h2), fun x y1 y2 => x1 x y1 (by omega) y2⟩, h1⟩
              · have hmz : ¬ (a : Int) + (s : Int) < (n : Int) := by omega
                clear hb
                go_wp2
                go_roundg (n - 2 * s)
                case measure => omega
                case rel =>
                  obtain ⟨r1, r2, r3⟩ := HR.out
                  exact ⟨2 * s, q, d, oq, by first | rfl | go_num | (congr 1; omega), by omega, by omega, Nat.le_refl _, ⟨r1, r2, midway_last r3 (by omega)⟩, rfl⟩
        · have hsnz : ¬ (s : Int) < (n : Int) := by omega
          go_wp2
          go_end0
          obtain ⟨r1, r2, r3⟩ := HR.out
          refine ⟨rfl, q, d, ⟨oq, rfl⟩, r2, ?_⟩
          by_cases h0 : 0 < n
          · have := (r3 0 ⟨0, rfl⟩ h0).1
            rwa [show min (0 + s) n = n by omega] at this
          · exact fun i j _ _ hj => absurd hj (by omega)

set_option maxHeartbeats 4000000 in
set_option maxRecDepth 1000000 in
theorem sortStable_any (LI : SlLaysF0.n20 P sort_ren) (L : StLay P k) (enc : β × Nat → List Value) (cf : β → β → Int) (g : Nat) (cb : Array Value) (blk off cap : Nat) (w : World) (d0 : Array (β × Nat)) (hK : CK P k enc cf g cb w blk off d0) (hsz : d0.size ≤ 1152921504606846976) (ht : ∀ p, p < d0.size → (d0[p]!).2 = p) :
    Calls P 63 #[.slice (some ⟨blk, off, none⟩) d0.size cap, .func (.func g) #[] cb] w fun e w' =>
      e = .returned (.tuple #[]) ∧ ∃ q d' os', w' = sortWorldK enc k w blk off q d' os' ∧ PermIn 0 d0.size d0 d' ∧ SortedIn (tlt (ltOf cf)) 0 d0.size d' := by
  have h0 : w = sortWorldK enc k w blk off 0 d0 #[] := by unfold sortWorldK; rw [grow_empty]; exact (putRowK_self enc k w blk off d0 hK.sk.holds).symm
  have C : Hid _ := stable_any LI L enc cf g cb blk off cap w d0 hK d0.size rfl hsz ht 0 #[]
  have mixed := L.mixed; have t0 := L.t0; have a0 := L.a0; have z0 := L.z0; have v0 := L.v0; have t3 := L.t3; have a3 := L.a3; have z3 := L.z3; have v3 := L.v3; have t27 := L.t27; have a27 := L.a27; have z27 := L.z27; have v27 := L.v27; have t91 := L.t91; have a91 := L.a91; have z91 := L.z91; have v91 := L.v91
  have e74 : ∀ args w, (callFunc 74 args).run P w = .ok (.enter 74 args) w := enters_of L.f74 (by kernel_rfl) rfl
  have F63 := L.f63
  have H0 : Hid _ := h0
  clear hK ht h0
  go_enter F63, Tryd.ntmps63
  go_wp2_with fail
  go_at_fn 74
  rw [← H0.out] at C
  refine Calls.mono C.out ?_
  rintro e w' ⟨rfl, hw'⟩
  have HW : Hid _ := hw'
  clear hw' C
  go_wp2
  go_end0
  refine ⟨rfl, ?_⟩
  obtain ⟨q, d', os', h1, h2⟩ := HW.out
  first | exact ⟨q, d', os', h1, h2⟩ | exact ⟨q, d', ⟨os', h1⟩, h2⟩
end Go.Proofs.YtcfhleenecfghaaDoor
