/- The map of places: what is looked up in it, what is put into it. -/
import Derived.Test.YtcfhleenecfghaaGreatDoorXg
import Derived.Test.YtcfhleenecfghaaGreatDoorWr
namespace Go.Proofs.YtcfhleenecfghaaGreatDoor
open Go.RowKit

theorem taken_mem {l : List ((Int × ByteArray × ByteArray) × Nat)} {e : MapEntry} (h : e ∈ (takenEntries l).toList) : ∃ x ∈ l, e.key = placeV x.1 ∧ e.val = .int .i64 (x.2 : Int) := by
  unfold takenEntries at h
  rw [List.toList_toArray] at h
  obtain ⟨x, hx, rfl⟩ := List.mem_map.1 h
  exact ⟨x.1, (List.mem_zipIdx' hx).2 ▸ List.getElem_mem _, rfl, rfl⟩
theorem taken_of {l : List ((Int × ByteArray × ByteArray) × Nat)} {x : (Int × ByteArray × ByteArray) × Nat} (h : x ∈ l) : ∃ e ∈ (takenEntries l).toList, e.key = placeV x.1 := by
  unfold takenEntries
  rw [List.toList_toArray]
  obtain ⟨k, hk, rfl⟩ := List.mem_iff_getElem.1 h
  exact ⟨_, List.mem_map.2 ⟨(l[k], k), by rw [List.mem_zipIdx_iff_getElem?]; exact List.getElem?_eq_getElem hk, rfl⟩, rfl⟩
theorem taken_snoc (l : List ((Int × ByteArray × ByteArray) × Nat)) (p : Int × ByteArray × ByteArray) (n : Nat) : takenEntries (l ++ [(p, n)]) = (takenEntries l).push { key := placeV p, val := .int .i64 (n : Int), born := l.length } := by
  unfold takenEntries
  rw [List.zipIdx_append, List.map_append]
  simp
theorem find_place (l : List ((Int × ByteArray × ByteArray) × Nat)) (p : Int × ByteArray × ByteArray) (w : World) (hp : V.Keyable p) (hl : ∀ x ∈ l, V.Keyable x.1) :
    ((Instr.findKey 184 (placeV p) (takenEntries l).toList).run Tryz.prog w = .ok none w ∧ ∀ x ∈ l, x.1 ≠ p) ∨
    ∃ x ∈ l, x.1 = p ∧ ∃ j, (Instr.findKey 184 (placeV p) (takenEntries l).toList).run Tryz.prog w = .ok (some (j, .int .i64 (x.2 : Int))) w := by
  obtain ⟨lx, hlx⟩ := key_place p hp
  rcases law114.find w hlx (takenEntries l).toList (fun e he => by
    obtain ⟨x, hx, hk, _⟩ := taken_mem he
    rw [hk]; exact key_place _ (hl x hx)) with ⟨h1, h2⟩ | ⟨j, e, h1, h2, h3⟩
  · refine Or.inl ⟨h1, fun x hx hxp => ?_⟩
    obtain ⟨e, he, hk⟩ := taken_of hx
    exact h2 e he (by rw [hk, hxp])
  · obtain ⟨x, hx, hk, hv⟩ := taken_mem (List.mem_of_getElem? h2)
    refine Or.inr ⟨x, hx, placeV_inj (hk.symm.trans h3), j, ?_⟩
    rw [h1, hv]
theorem check_place (p : Int × ByteArray × ByteArray) (hp : V.Keyable p) (e : Bool) (w : World) : (Instr.checkKey e 10000 184 (placeV p)).run Tryz.prog w = .ok () w := by
  obtain ⟨lx, hlx⟩ := key_place p hp
  exact law114.check w e hlx
theorem look_place (r c : Nat) (l : List ((Int × ByteArray × ByteArray) × Nat)) (p : Int × ByteArray × ByteArray) (w : World) (hp : V.Keyable p) (hl : ∀ x ∈ l, V.Keyable x.1) (hb : w.heap[r]? = some (.map (takenEntries l) c)) :
    ((Instr.lookup 299 (.map (some r)) (placeV p) false).run Tryz.prog w = .ok (.int .i64 0) w ∧ ∀ x ∈ l, x.1 ≠ p) ∨
    ∃ x ∈ l, x.1 = p ∧ (Instr.lookup 299 (.map (some r)) (placeV p) false).run Tryz.prog w = .ok (.int .i64 (x.2 : Int)) w := by
  rcases find_place l p w hp hl with ⟨h1, h2⟩ | ⟨x, hx, hxp, j, h1⟩
  · refine Or.inl ⟨?_, h2⟩
    simp [Instr.lookup, run_underlying Tryz.underlying299, MapKept.run_getObj_map hb, check_place p hp, h1, Result.andThen]
  · refine Or.inr ⟨x, hx, hxp, ?_⟩
    simp [Instr.lookup, run_underlying Tryz.underlying299, MapKept.run_getObj_map hb, check_place p hp, h1, Result.andThen]
theorem put_place (r : Nat) (l : List ((Int × ByteArray × ByteArray) × Nat)) (p : Int × ByteArray × ByteArray) (n : Nat) (w : World) (hp : V.Keyable p) (hl : ∀ x ∈ l, V.Keyable x.1) (hn : ∀ x ∈ l, x.1 ≠ p) (hb : w.heap[r]? = some (.map (takenEntries l) l.length)) :
    (Instr.mapUpdate 299 (.map (some r)) (placeV p) (.int .i64 (n : Int))).run Tryz.prog w = .ok () { w with heap := w.heap.setIfInBounds r (.map (takenEntries (l ++ [(p, n)])) (l.length + 1)) } := by
  rcases find_place l p w hp hl with ⟨h1, h2⟩ | ⟨x, hx, hxp, j, h1⟩
  · rw [taken_snoc]
    simp [Instr.mapUpdate, run_underlying Tryz.underlying299, MapKept.run_getObj_map hb, check_place p hp, h1, MapKept.run_setObj_map _ hb, Result.andThen]
  · exact absurd hxp (hn x hx)

end Go.Proofs.YtcfhleenecfghaaGreatDoor
