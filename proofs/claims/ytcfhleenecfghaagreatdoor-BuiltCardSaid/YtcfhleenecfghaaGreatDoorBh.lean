/- The places of packages as the keys of a map; the library in memory. -/
import Derived.Test.YtcfhleenecfghaaGreatDoorBg
import Derived.Test.YtcfhleenecfghaaGreatDoorXh
import Derived.Deep.RegionLawGrows
namespace Go.Proofs.YtcfhleenecfghaaGreatDoor
open Go.RowKit

theorem at358 : Tryz.prog.keyTypeAt 3 358 = true := by kernel_rfl
theorem tiled358 : Tryz.prog.tiled 3 358 = true := by kernel_rfl
theorem law358 : WideMaps.KeyLaw Tryz.prog 358 := deep_law (m := 3) (by omega) at358 tiled358 (by rw [Tryz.underlying358])
theorem keyType358 : Tryz.prog.keyType 358 = true := by kernel_rfl
theorem cellsOf358 : Tryz.prog.cellsOf 358 = 2 := by kernel_rfl
theorem formed358 (a b : Value) : (Value.agg #[a, b]).formed Tryz.prog 358 = true := by
  simp [Value.formed, Tryz.underlying358, cellsOf358]
/-- A place: a module's path, a directory. -/
def plV (p : ByteArray × ByteArray) : Value := .agg #[.string p.1, .string p.2]
def Short (p : ByteArray × ByteArray) : Prop := p.1.size ≤ maxLen ∧ p.2.size ≤ maxLen
theorem key_pl (p : ByteArray × ByteArray) (h : Short p) : ∃ l, keyOf Tryz.prog 358 (plV p) = some l := by
  obtain ⟨h1, h2⟩ := h
  have hl : ∃ ls, Tryz.prog.keyLits (Tryz.prog.types.size + 1) 358 [.string p.1, .string p.2] = some ls := by
    obtain ⟨d, hd⟩ : ∃ d, Tryz.prog.types.size = d + 1 := ⟨Tryz.prog.types.size - 1, by have := size_pos; omega⟩
    rw [hd]
    simp only [Program.keyLits, Tryz.underlying358, cellsOf358]
    simp [Tryz.underlying9, cells9, h1, h2]
  obtain ⟨ls, hl⟩ := hl
  refine ⟨.string (keyBytes ls), ?_⟩
  unfold keyOf plV
  rw [Tryz.underlying358]
  simp only [keyType358, formed358, Bool.and_self, if_true]
  show (Tryz.prog.keyLits (Tryz.prog.types.size + 1) 358 [.string p.1, .string p.2]).map _ = _
  rw [hl]; rfl
theorem plV_inj {p q : ByteArray × ByteArray} (h : plV p = plV q) : p = q := by
  obtain ⟨a, b⟩ := p
  obtain ⟨x, y⟩ := q
  simp [plV] at h
  obtain ⟨rfl, rfl⟩ := h
  rfl
/-- The module's path. -/
def sX : ByteArray := ⟨#[120]⟩
def plOf (a : Nat) : ByteArray × ByteArray := (sX, fdir a)
theorem plOf_short (a : Nat) : Short (plOf a) := ⟨by show (1 : Nat) ≤ maxLen; unfold maxLen; omega, by show (1 : Nat) ≤ maxLen; unfold maxLen; omega⟩
theorem fdir_inj {a b : Nat} (ha : a < 8) (hb : b < 8) (h : fdir a = fdir b) : a = b := by
  have : ∀ a b : Fin 8, fdir a.val = fdir b.val → a = b := by decide
  exact congrArg Fin.val (this ⟨a, ha⟩ ⟨b, hb⟩ h)
/-- The entries of the first so many places. -/
def libEntries (k : Nat) : Array MapEntry := ((List.range k).map fun a => ({ key := plV (plOf a), val := .int .i64 (a : Int), born := a } : MapEntry)).toArray
theorem lib_mem {k : Nat} {e : MapEntry} (h : e ∈ (libEntries k).toList) : ∃ a, a < k ∧ e.key = plV (plOf a) ∧ e.val = .int .i64 (a : Int) := by
  unfold libEntries at h
  rw [List.toList_toArray] at h
  obtain ⟨a, ha, rfl⟩ := List.mem_map.1 h
  exact ⟨a, List.mem_range.1 ha, rfl, rfl⟩
theorem lib_of {k a : Nat} (h : a < k) : ∃ e ∈ (libEntries k).toList, e.key = plV (plOf a) := by
  unfold libEntries
  rw [List.toList_toArray]
  exact ⟨_, List.mem_map.2 ⟨a, List.mem_range.2 h, rfl⟩, rfl⟩
theorem lib_snoc (k : Nat) : libEntries (k + 1) = (libEntries k).push { key := plV (plOf k), val := .int .i64 (k : Int), born := k } := by
  unfold libEntries
  rw [List.range_succ, List.map_append]
  simp
theorem check_pl (p : ByteArray × ByteArray) (hp : Short p) (e : Bool) (w : World) : (Instr.checkKey e 10000 358 (plV p)).run Tryz.prog w = .ok () w := by
  obtain ⟨lx, hlx⟩ := key_pl p hp
  exact law358.check w e hlx
theorem find_no (k : Nat) (p : ByteArray × ByteArray) (w : World) (hp : Short p) (hn : ∀ a, a < k → plOf a ≠ p) : (Instr.findKey 358 (plV p) (libEntries k).toList).run Tryz.prog w = .ok none w := by
  obtain ⟨lx, hlx⟩ := key_pl p hp
  rcases law358.find w hlx (libEntries k).toList (fun e he => by
    obtain ⟨x, hx, hk, _⟩ := lib_mem he
    rw [hk]; exact key_pl _ (plOf_short x)) with ⟨h1, h2⟩ | ⟨j, e, h1, h2, h3⟩
  · exact h1
  · obtain ⟨x, hx, hk, hv⟩ := lib_mem (List.mem_of_getElem? h2)
    exact absurd (plV_inj (hk.symm.trans h3)) (hn x hx)
theorem find_yes (k a : Nat) (w : World) (hk8 : k ≤ 8) (ha : a < k) : ∃ j, (Instr.findKey 358 (plV (plOf a)) (libEntries k).toList).run Tryz.prog w = .ok (some (j, .int .i64 (a : Int))) w := by
  obtain ⟨lx, hlx⟩ := key_pl (plOf a) (plOf_short a)
  rcases law358.find w hlx (libEntries k).toList (fun e he => by
    obtain ⟨x, hx, hk, _⟩ := lib_mem he
    rw [hk]; exact key_pl _ (plOf_short x)) with ⟨h1, h2⟩ | ⟨j, e, h1, h2, h3⟩
  · obtain ⟨e, he, hk⟩ := lib_of ha
    exact absurd hk (h2 e he)
  · obtain ⟨x, hx, hk, hv⟩ := lib_mem (List.mem_of_getElem? h2)
    have hxa : x = a := fdir_inj (by omega) (by omega) (congrArg Prod.snd (plV_inj (hk.symm.trans h3)))
    subst hxa
    exact ⟨j, by rw [h1, hv]⟩
/-- What is looked up. -/
theorem look_no (r k c : Nat) (p : ByteArray × ByteArray) (w : World) (hp : Short p) (hn : ∀ a, a < k → plOf a ≠ p) (hb : w.heap[r]? = some (.map (libEntries k) c)) :
    (Instr.lookup 270 (.map (some r)) (plV p) true).run Tryz.prog w = .ok (.tuple #[.int .i64 0, .bool false]) w := by
  have h1 := find_no k p w hp hn
  simp [Instr.lookup, run_underlying Tryz.underlying270, MapKept.run_getObj_map hb, check_pl p hp, h1, Result.andThen]
theorem look_yes (r k c a : Nat) (w : World) (hk8 : k ≤ 8) (ha : a < k) (hb : w.heap[r]? = some (.map (libEntries k) c)) :
    (Instr.lookup 270 (.map (some r)) (plV (plOf a)) true).run Tryz.prog w = .ok (.tuple #[.int .i64 (a : Int), .bool true]) w := by
  obtain ⟨j, h1⟩ := find_yes k a w hk8 ha
  simp [Instr.lookup, run_underlying Tryz.underlying270, MapKept.run_getObj_map hb, check_pl _ (plOf_short a), h1, Result.andThen]
theorem put_new (r k : Nat) (w : World) (hk : k < 8) (hb : w.heap[r]? = some (.map (libEntries k) k)) :
    (Instr.mapUpdate 270 (.map (some r)) (plV (plOf k)) (.int .i64 (k : Int))).run Tryz.prog w = .ok () { w with heap := w.heap.setIfInBounds r (.map (libEntries (k + 1)) (k + 1)) } := by
  have h1 := find_no k (plOf k) w (plOf_short k) (fun a ha e => by have := fdir_inj (by omega) hk (congrArg Prod.snd e); omega)
  rw [lib_snoc]
  simp [Instr.mapUpdate, run_underlying Tryz.underlying270, MapKept.run_getObj_map hb, check_pl _ (plOf_short k), h1, MapKept.run_setObj_map _ hb, Result.andThen]
end Go.Proofs.YtcfhleenecfghaaGreatDoor
