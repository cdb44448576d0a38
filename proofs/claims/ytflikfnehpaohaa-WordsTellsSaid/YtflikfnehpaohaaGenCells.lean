/- Cells of one block, written one behind the other: nothing of the program. -/
import Derived.WalkKit
import Derived.Laws.IdiomCopy
import Derived.Laws.AppendOwn
import Derived.Maps.AppendAt
namespace Go.Proofs.Ytflikfnehpaohaa
open Go Go.RowKit

set_option maxRecDepth 100000 in
theorem setCells_grown (b : Nat) : ∀ (vs : List Value) (o : Nat) (w : World), w.grownBy (w.setCells b o vs) (some b) ∧ (w.setCells b o vs).heap.size = w.heap.size
  | [], _, w => ⟨World.grownBy.refl _ _, rfl⟩
  | v :: vs, o, w => by
    have h1 : w.grownBy (w.setCell ⟨b, o, none⟩ v) (some b) := ⟨rfl, rfl, rfl, by simp, fun k _ hk => heap_setCell_other _ _ _ _ (fun e => hk (by rw [e]))⟩
    obtain ⟨h2, h3⟩ := setCells_grown b vs (o + 1) (w.setCell ⟨b, o, none⟩ v)
    exact ⟨h1.trans h2, by rw [World.setCells, h3]; simp⟩
set_option maxRecDepth 100000 in
theorem setCells_block (b : Nat) {t : TypeId} : ∀ (vs : List Value) (o : Nat) (w : World) (cur : Array Value), w.heap[b]? = some (.cells cur t (0, 0)) → ∃ cur', (w.setCells b o vs).heap[b]? = some (.cells cur' t (0, 0)) ∧ cur'.size = cur.size
  | [], _, w, cur, h => ⟨cur, h, rfl⟩
  | v :: vs, o, w, cur, h => by
    obtain ⟨cur', h1, h2⟩ := setCells_block b vs (o + 1) (w.setCell ⟨b, o, none⟩ v) _ (heap_setCell_same w b o cur t v h)
    exact ⟨cur', h1, by rw [h2]; simp⟩

set_option maxRecDepth 100000 in
/-- a row of one-cell elements, told by its cells -/
theorem owns_cells {w : World} {B b n cap : Nat} {T : TypeId} {vs : List Value} {cur : Array Value} (hl : vs.length = n) (hnc : n ≤ cap) (hcm : cap ≤ maxLen) (hat : ∀ i, i < n → w.cell? ⟨b, i, none⟩ = vs[i]?) (hb : B ≤ b)
    (hh : w.heap[b]? = some (.cells cur T (0, 0))) (hs : cur.size = cap) : w.ownsRow B T 1 (.slice (some ⟨b, 0, none⟩) n cap) n vs := by
  refine ⟨by rw [hl]; omega, .inr ⟨b, cap, cur, rfl, hb, hh, hnc, hcm, by omega, ?_⟩⟩
  refine List.ext_getElem? fun t => ?_
  by_cases ht : t < n
  · rw [List.getElem?_take_of_lt (by omega), Array.getElem?_toList]
    have := hat t ht
    simp only [World.cell?, hh] at this
    simpa using this
  · rw [List.getElem?_eq_none (by simp; omega), List.getElem?_eq_none (by omega)]
set_option maxRecDepth 100000 in
theorem cells_owns {w : World} {B b n cap : Nat} {T : TypeId} {vs : List Value} (h : w.ownsRow B T 1 (.slice (some ⟨b, 0, none⟩) n cap) n vs) :
    vs.length = n ∧ B ≤ b ∧ n ≤ cap ∧ cap ≤ maxLen ∧ (∀ i, i < n → w.cell? ⟨b, i, none⟩ = vs[i]?) ∧ ∃ cur, w.heap[b]? = some (.cells cur T (0, 0)) ∧ cur.size = cap := by
  have h1 := h.1
  rcases h.2 with h2 | ⟨g, cap', cur, hv, hb, hh, h3, h4, h5, h6⟩
  · cases h2.1
  · simp only [Value.slice.injEq, Option.some.injEq, Addr.mk.injEq, and_true, true_and] at hv
    obtain ⟨rfl, rfl⟩ := hv
    refine ⟨by omega, hb, h3, h4, fun i hi => h.cellAt i (by omega), cur, hh, by omega⟩

end Go.Proofs.Ytflikfnehpaohaa
