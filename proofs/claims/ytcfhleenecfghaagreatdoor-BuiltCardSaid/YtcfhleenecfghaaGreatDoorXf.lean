/- The fault of any line's words; its place. -/
import Derived.Test.YtcfhleenecfghaaGreatDoorXe
namespace Go.Proofs.YtcfhleenecfghaaGreatDoor
open Go.RowKit


set_option maxHeartbeats 1600000 in
set_option maxRecDepth 100000 in
theorem words158 (a b c d : ByteArray) (m : Int) (w : World) (ha : a.size ≤ 281474976710656) (hb : b.size ≤ 281474976710656) (hc : c.size ≤ 281474976710656) (hd : d.size ≤ 281474976710656) (hm : w.cell? ⟨0, 0, none⟩ = some (.int .i64 m)) :
    Calls Tryz.prog 180 #[.iface 224 (.agg #[.string a, .string b, .string c, .string d])] w fun e w' => ∃ r, e = .returned r ∧ FaultAt w.heap.size w' r (V.fBoth a b c d) ∧ Below w.heap.size w w' := by
  have h1 := asserts158
  have h2 := assert85
  have h3 := assert86
  have h4 := assert88
  cases hf : V.fReplaced a b with
  | none =>
    have HF : Hid (V.fBoth a b c d = V.fModule c d) := hide (by unfold V.fBoth; rw [hf])
    go_enter Tryz.func180, Tryz.ntmps180
    go_wp2_with fail
    refine (checkReplaced_any a b c d m _ ha hb (keepA hm _)).mono ?_
    rintro e w1 ⟨r, rfl, hr, hb1⟩
    rw [hf] at hr
    obtain rfl : r = .pointer none := hr
    have s2 : w1.cell? ⟨w.heap.size, 2, none⟩ = some (.string c) := keep hb1 (by simp)
    have s3 : w1.cell? ⟨w.heap.size, 3, none⟩ = some (.string d) := keep hb1 (by simp)
    have hm1 := keep hb1 (keepA hm _)
    have HB := hide (((Below.refl _ w).alloc (Nat.le_refl _) _).trans (hb1.mono (by simp)))
    clear hb1
    go_wp2_with fail
    refine (checkModule_any c d m _ hc hd hm1).mono ?_
    rintro e w2 ⟨r, rfl, hr, hb2⟩
    have HR := hide (hr.mono HB.out.size)
    have HB2 := hide (HB.out.trans (hb2.mono HB.out.size))
    clear hr hb2
    go_wp2
    go_ret
    exact ⟨r, rfl, by rw [HF.out]; exact HR.out, HB2.out⟩
  | some f =>
    have HF : Hid (V.fBoth a b c d = some f) := hide (by unfold V.fBoth; rw [hf])
    obtain ⟨k, n, fp, fq⟩ := f
    go_enter Tryz.func180, Tryz.ntmps180
    go_wp2_with fail
    refine (checkReplaced_any a b c d m _ ha hb (keepA hm _)).mono ?_
    rintro e w1 ⟨r, rfl, hr, hb1⟩
    rw [hf] at hr
    obtain ⟨bb, h1', rfl, h3'⟩ := hr
    have HB := hide (((Below.refl _ w).alloc (Nat.le_refl _) _).trans (hb1.mono (by simp)))
    have HR := hide h3'
    have HL : Hid (w.heap.size ≤ bb) := hide (by simp at h1'; omega)
    clear hb1 h3' h1'
    go_wp2
    go_ret
    exact ⟨_, rfl, by rw [HF.out]; exact ⟨bb, HL.out, rfl, HR.out⟩, HB.out⟩

theorem checkWords_any (n t : Nat) (fs : List ByteArray) (m : Int) (w : World) (hx : V.Sound (n, t, fs)) (hs : ∀ a ∈ fs, a.size ≤ 281474976710656) (hm : w.cell? ⟨0, 0, none⟩ = some (.int .i64 m)) :
    Calls Tryz.prog 180 #[.iface t (.agg (fs.map Value.string).toArray)] w fun e w' => ∃ r, e = .returned r ∧ FaultAt w.heap.size w' r (V.fWords t fs) ∧ Below w.heap.size w w' := by
  rcases hx with ⟨h1, a, h2⟩ | ⟨h1, a, b, h2⟩ | ⟨h1, a, b, h2⟩ | ⟨h1, a, b, c, d, h2⟩
  · simp only at h1 h2; subst h1 h2
    exact words154 a m w (hs a (by simp)) hm
  · simp only at h1 h2; subst h1 h2
    exact words155 a b m w (hs a (by simp)) (hs b (by simp)) hm
  · simp only at h1 h2; subst h1 h2
    exact words156 a b m w (hs a (by simp)) (hs b (by simp)) hm
  · simp only at h1 h2; subst h1 h2
    exact words158 a b c d m w (hs a (by simp)) (hs b (by simp)) (hs c (by simp)) (hs d (by simp)) hm

def placeV (p : Int × ByteArray × ByteArray) : Value := .agg #[.int .i64 p.1, .string p.2.1, .string p.2.2]

set_option maxHeartbeats 1600000 in
set_option maxRecDepth 100000 in
theorem placeOf_any (n t : Nat) (fs : List ByteArray) (w : World) (hx : V.Sound (n, t, fs)) :
    Calls Tryz.prog 100 #[.iface t (.agg (fs.map Value.string).toArray)] w fun e w' => e = .returned (placeV (V.place t fs)) ∧ Below w.heap.size w w' ∧ w.drawn ≤ w'.drawn := by
  rcases hx with ⟨h1, a, h2⟩ | ⟨h1, a, b, h2⟩ | ⟨h1, a, b, h2⟩ | ⟨h1, a, b, c, d, h2⟩
  · simp only at h1 h2; subst h1 h2
    have ha := asserts154
    go_enter Tryz.func100, Tryz.ntmps100
    go_wp2
    refine bodyPost_ret (v := .agg #[.int .i64 0, .string a, .string ⟨#[]⟩]) (by simp [results, Tryz.results100, go_sem]) rfl ⟨rfl, ?_, Nat.le_refl _⟩
    exact ((Below.refl _ _).alloc (Nat.le_refl _) _).alloc (by simp) _
  · simp only at h1 h2; subst h1 h2
    have ha := asserts155
    have hb := assert55
    go_enter Tryz.func100, Tryz.ntmps100
    go_wp2
    refine bodyPost_ret (v := .agg #[.int .i64 1, .string a, .string ⟨#[]⟩]) (by simp [results, Tryz.results100, go_sem]) rfl ⟨rfl, ?_, Nat.le_refl _⟩
    exact ((Below.refl _ _).alloc (Nat.le_refl _) _).alloc (by simp) _
  · simp only at h1 h2; subst h1 h2
    have ha := asserts156
    have hb := assert65
    have hc := assert66
    go_enter Tryz.func100, Tryz.ntmps100
    go_wp2
    refine bodyPost_ret (v := .agg #[.int .i64 2, .string a, .string b]) (by simp [results, Tryz.results100, go_sem]) rfl ⟨rfl, ?_, Nat.le_refl _⟩
    exact ((Below.refl _ _).alloc (Nat.le_refl _) _).alloc (by simp) _
  · simp only at h1 h2; subst h1 h2
    have ha := asserts158
    have hb := assert85
    have hc := assert86
    have hd := assert88
    go_enter Tryz.func100, Tryz.ntmps100
    go_wp2
    refine bodyPost_ret (v := .agg #[.int .i64 3, .string a, .string b]) (by simp [results, Tryz.results100, go_sem]) rfl ⟨rfl, ?_, Nat.le_refl _⟩
    exact ((Below.refl _ _).alloc (Nat.le_refl _) _).alloc (by simp) _

end Go.Proofs.YtcfhleenecfghaaGreatDoor
