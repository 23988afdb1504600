/- Two ranges of a list of files are exchanged. -/
import Derived.Shelf.SlSortCmp.InsertionK
import Derived.Test.YtcfhleenecfghaaDoorStab3
import Derived.Test.YtcfhleenecfghaaDoorWd
namespace Go.Proofs.YtcfhleenecfghaaDoor
open Go.Shelf Go.RowKit Go.Lib Go.Sort

def sort_ren : Go.Shelf.Ren := ⟨fun | 20 => 88 | n => n, fun | 22 => 27 | 24 => 69 | 25 => 91 | n => n, fun | n => n⟩
theorem sortL : SlLaysF0.n20 Tryd.prog sort_ren := {
  mixed := by kernel_rfl
  f20 := ⟨Tryd.f88.name, by decide, Tryd.func88.trans (congrArg some (by kernel_rfl))⟩
  t0 := Tryd.underlying0
  a0 := Tryd.isAgg0
  z0 := Tryd.sizeOf0
  v0 := Tryd.zeroValue0
  t3 := Tryd.underlying3
  a3 := Tryd.isAgg3
  z3 := Tryd.sizeOf3
  v3 := Tryd.zeroValue3
  t4 := Tryd.underlying4
  a4 := Tryd.isAgg4
  z4 := Tryd.sizeOf4
  v4 := Tryd.zeroValue4
  t22 := Tryd.underlying27
  a22 := Tryd.isAgg27
  z22 := Tryd.sizeOf27
  v22 := Tryd.zeroValue27
  t25 := Tryd.underlying91
  a25 := Tryd.isAgg91
  z25 := Tryd.sizeOf91
  v25 := Tryd.zeroValue91 }

/-- A program in which the bodies of the stable sort lie, an element being k cells. -/
structure StLay (P : Program) (k : Nat) : Prop where
  mixed : P.follows .mixedOrders = true
  f109 : P.funcs[109]? = some Tryd.f109
  f101 : P.funcs[101]? = some Tryd.f101
  f89 : P.funcs[89]? = some Tryd.f89
  f74 : P.funcs[74]? = some Tryd.f74
  f63 : P.funcs[63]? = some Tryd.f63
  a69 : ∀ w, (isAgg 69).run P w = .ok true w
  z69 : ∀ w, (Go.sizeOf 69).run P w = .ok k w
  t0 : P.underlying 0 = some (TypeDesc.tuple #[])
  a0 : ∀ w, (isAgg 0).run P w = .ok false w
  z0 : ∀ w, (Go.sizeOf 0).run P w = .ok 1 w
  v0 : ∀ w, (zeroValue 0).run P w = .ok (Value.tuple #[]) w
  t3 : P.underlying 3 = some (TypeDesc.int IntKind.i64)
  a3 : ∀ w, (isAgg 3).run P w = .ok false w
  z3 : ∀ w, (Go.sizeOf 3).run P w = .ok 1 w
  v3 : ∀ w, (zeroValue 3).run P w = .ok (Value.int IntKind.i64 0) w
  t4 : P.underlying 4 = some (TypeDesc.bool)
  a4 : ∀ w, (isAgg 4).run P w = .ok false w
  z4 : ∀ w, (Go.sizeOf 4).run P w = .ok 1 w
  v4 : ∀ w, (zeroValue 4).run P w = .ok (Value.bool false) w
  t27 : P.underlying 27 = some (TypeDesc.slice 69)
  a27 : ∀ w, (isAgg 27).run P w = .ok false w
  z27 : ∀ w, (Go.sizeOf 27).run P w = .ok 1 w
  v27 : ∀ w, (zeroValue 27).run P w = .ok (Value.slice none 0 0) w
  t91 : P.underlying 91 = some (TypeDesc.func #[69, 69] #[3] false)
  a91 : ∀ w, (isAgg 91).run P w = .ok false w
  z91 : ∀ w, (Go.sizeOf 91).run P w = .ok 1 w
  v91 : ∀ w, (zeroValue 91).run P w = .ok (Value.nilFunc) w
  t98 : P.underlying 98 = some (TypeDesc.int IntKind.u64)
  a98 : ∀ w, (isAgg 98).run P w = .ok false w
  z98 : ∀ w, (Go.sizeOf 98).run P w = .ok 1 w
  v98 : ∀ w, (zeroValue 98).run P w = .ok (Value.int IntKind.u64 0) w
theorem stLay : StLay Tryd.prog 2 := {
  mixed := sortL.mixed
  f109 := Tryd.func109
  f101 := Tryd.func101
  f89 := Tryd.func89
  f74 := Tryd.func74
  f63 := Tryd.func63
  a69 := Tryd.isAgg69
  z69 := Tryd.sizeOf69
  t0 := Tryd.underlying0
  a0 := Tryd.isAgg0
  z0 := Tryd.sizeOf0
  v0 := Tryd.zeroValue0
  t3 := Tryd.underlying3
  a3 := Tryd.isAgg3
  z3 := Tryd.sizeOf3
  v3 := Tryd.zeroValue3
  t4 := Tryd.underlying4
  a4 := Tryd.isAgg4
  z4 := Tryd.sizeOf4
  v4 := Tryd.zeroValue4
  t27 := Tryd.underlying27
  a27 := Tryd.isAgg27
  z27 := Tryd.sizeOf27
  v27 := Tryd.zeroValue27
  t91 := Tryd.underlying91
  a91 := Tryd.isAgg91
  z91 := Tryd.sizeOf91
  v91 := Tryd.zeroValue91
  t98 := Tryd.underlying98
  a98 := Tryd.isAgg98
  z98 := Tryd.sizeOf98
  v98 := Tryd.zeroValue98 }

variable {P : Program} {k : Nat} {α : Type} [Inhabited α]
/-- What is fixed while a list of files is sorted: how an element lies in two cells, where the list lies. -/
structure SK (k : Nat) (enc : α → List Value) (w : World) (blk off : Nat) (d : Array α) : Prop where
  two : ∀ x, (enc x).length = k
  one : ∀ x, ∀ v ∈ enc x, v.oneCell' = true
  holds : HoldsK enc k w blk off d
  here : blk < w.heap.size
  size : d.size ≤ 4611686018427387903

set_option maxHeartbeats 4000000 in
set_option maxRecDepth 1000000 in
theorem swapRange_any (L : StLay P k) (enc : α → List Value) (blk off cap : Nat) (w : World) (d0 : Array α) (hK : SK k enc w blk off d0) (fv : Value) (a b n m : Nat) (d : Array α) (os : Array Obj) (hs : d.size = d0.size) (hab : a + n ≤ b) (hbn : b + n ≤ d.size) :
    Calls P 109 #[.slice (some ⟨blk, off, none⟩) d0.size cap, .int .i64 a, .int .i64 b, .int .i64 n, fv] (sortWorldK enc k w blk off m d os) fun e w' =>
      e = .returned (.tuple #[]) ∧ ∃ q os', w' = sortWorldK enc k w blk off q (swr d a b n) os' := by
  have hsz := hK.size
  have HH : Hid (HoldsK enc k w blk off d0) := hK.holds
  have HK : Hid (∀ x, (enc x).length = k) := hK.two
  have H1 : Hid (∀ x, ∀ v ∈ enc x, v.oneCell' = true) := hK.one
  have hblk := hK.here
  clear hK
  have mixed := L.mixed; have t0 := L.t0; have a0 := L.a0; have z0 := L.z0; have v0 := L.v0; have t3 := L.t3; have a3 := L.a3; have z3 := L.z3; have v3 := L.v3; have t4 := L.t4; have a4 := L.a4; have z4 := L.z4; have v4 := L.v4; have t27 := L.t27; have a27 := L.a27; have z27 := L.z27; have v27 := L.v27; have a69 := L.a69; have z69 := L.z69
  have F109 := L.f109
  go_enter F109, Tryd.ntmps109
  go_wp2
  go_loopg [10] n (fun g1 vi wr => ∃ (i q : Nat) (oq : Array Obj), vi = .int .i64 i ∧ i ≤ n ∧ n - i ≤ g1 ∧ wr = sortWorldK enc k w blk off q (swr d a b i) oq)
  case atStart => exact ⟨0, m, os, rfl, by omega, by omega, rfl⟩
  case round =>
    obtain ⟨i, q, oq, rfl, hin, hg1, hwr⟩ := hrel
    by_cases hlt : i < n
    · have hltz : (i : Int) < (n : Int) := by omega
      have hds : (swr d a b i).size = d0.size := by rw [swr_size]; exact hs
      obtain ⟨dk, hdk⟩ : ∃ x, x = swr d a b i := ⟨_, rfl⟩
      rw [← hdk] at hds hwr
      have HDK : Hid (dk = swr d a b i) := hdk
      clear hdk
      have e1 : IntKind.i64.wrap ((a : Int) + (i : Int)) = ((a + i : Nat) : Int) := by rw [IntKind.wrap_i64]; omega
      have e2 : IntKind.i64.wrap ((b : Int) + (i : Int)) = ((b + i : Nat) : Int) := by rw [IntKind.wrap_i64]; omega
      have z1 : ((a + i : Nat) : Int) < (d0.size : Int) := by omega
      have z2 : ((b + i : Nat) : Int) < (d0.size : Int) := by omega
      have k1 : a + i < dk.size := by omega
      have k2 : b + i < dk.size := by omega
      obtain ⟨x, hx⟩ : ∃ x, x = a + i := ⟨_, rfl⟩
      obtain ⟨y, hy⟩ : ∃ y, y = b + i := ⟨_, rfl⟩
      rw [← hx] at e1 z1 k1
      rw [← hy] at e2 z2 k2
      have bnd : ∀ x, x < dk.size → x * k + k ≤ dk.size * k := fun x hx => by
        have := Nat.mul_le_mul_right k (show x + 1 ≤ dk.size from hx); rwa [Nat.add_mul, Nat.one_mul] at this
      have hHd : HoldsK enc k wr.drew blk off dk := by
        rw [hwr]; exact holdsK_sortWorldK_c enc k w blk off d0 dk q oq HH.out hblk hds
      have lx : Sem.run P (loadCellsFrom ⟨blk, off + x * k, none⟩ 0 k #[]) wr.drew = .ok (enc dk[x]!).toArray wr.drew := run_loadCellsFrom_list P _ _ _ k (HK.out _) (HoldsK.cells hHd HK.out k1)
      have ly : Sem.run P (loadCellsFrom ⟨blk, off + y * k, none⟩ 0 k #[]) wr.drew = .ok (enc dk[y]!).toArray wr.drew := run_loadCellsFrom_list P _ _ _ k (HK.out _) (HoldsK.cells hHd HK.out k2)
      have s1 : Sem.run P (storeCells ⟨blk, off + x * k, none⟩ (enc dk[y]!) 0) wr.drew = .ok () (wr.drew.setCells blk (off + x * k) (enc dk[y]!)) := stores_of_holds P hHd (x * k) _ (by rw [HK.out, size_flatK]; exact bnd x k1) (H1.out _)
      have s2 : Sem.run P (storeCells ⟨blk, off + y * k, none⟩ (enc dk[x]!) 0) (wr.drew.setCells blk (off + x * k) (enc dk[y]!)) = .ok () ((wr.drew.setCells blk (off + x * k) (enc dk[y]!)).setCells blk (off + y * k) (enc dk[x]!)) :=
        stores_of_holds P (holds_setCells_c hHd (x * k) _ (by rw [HK.out, size_flatK]; exact bnd x k1)) (y * k) _ (by rw [HK.out, size_setMany, size_flatK]; exact bnd y k2) (H1.out _)
      have hsx : (enc dk[x]!).length = k := HK.out _
      have hsy : (enc dk[y]!).length = k := HK.out _
      have HW : Hid (wr = sortWorldK enc k w blk off q dk oq) := hwr
      have K1 : Hid (x < dk.size) := k1
      have K2 : Hid (y < dk.size) := k2
      have HX : Hid (x = a + i) := hx
      have HY : Hid (y = b + i) := hy
      clear hwr hHd bnd k1 k2 hx hy
      obtain ⟨cx, hcx⟩ : ∃ c, c = enc dk[x]! := ⟨_, rfl⟩
      obtain ⟨cy, hcy⟩ : ∃ c, c = enc dk[y]! := ⟨_, rfl⟩
      rw [← hcy] at s1 ly hsy
      rw [← hcx] at lx hsx
      rw [← hcx, ← hcy] at s2
      have CC : Hid (cx = enc dk[x]! ∧ cy = enc dk[y]!) := ⟨hcx, hcy⟩
      clear hcx hcy
      go_wp2_with fail
      go_big_region_o
      all_goals go_wp2
      go_roundg (n - (i + 1))
      case measure => omega
      case rel =>
        refine ⟨i + 1, q + 1, oq, by first | rfl | go_num | (congr 1; omega), by omega, Nat.le_refl _, ?_⟩
        rw [CC.out.1, CC.out.2, HW.out]
        rw [sortWorldK_swp_c enc k w blk off HK.out q dk oq hblk x y K1.out K2.out, swr, ← HDK.out, HX.out, HY.out]
    · have hltz : ¬ (i : Int) < (n : Int) := by omega
      have e : i = n := by omega
      subst e
      go_wp2
      go_end0
      exact ⟨rfl, q, oq, rfl⟩
end Go.Proofs.YtcfhleenecfghaaDoor
