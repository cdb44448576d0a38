/- Bytes as cells of a block; what a call answers that makes bytes. Names no function of the program. -/
import Derived.Test.YthblpmejkjdkcaaGenStr
namespace Go.Proofs.Ythblpmejkjdkcaa
open Go.RowKit

def cells8 (l : List Int) : Array Value := (u8s l).toArray
set_option maxRecDepth 100000 in
theorem cells8_size (l : List Int) : (cells8 l).size = l.length := by simp [cells8, u8s]
set_option maxRecDepth 100000 in
theorem cells8_one (l : List Int) : (cells8 l).all (·.oneCell') = true := by
  rw [Array.all_eq_true_iff_forall_mem]
  intro v hv
  simp only [cells8, u8s, List.mem_toArray, List.mem_map] at hv
  obtain ⟨z, _, rfl⟩ := hv
  rfl
set_option maxRecDepth 100000 in
theorem cells8_set (l : List Int) (j : Nat) (z : Int) : (cells8 l).setIfInBounds j (.int .u8 z) = cells8 (l.set j z) := by
  simp [cells8, u8s, List.map_set]

set_option maxRecDepth 100000 in
theorem owns_base {w : World} {B B' : Nat} {e : TypeId} {size n : Nat} {v : Value} {xs : List Value} (h : w.ownsRow B e size v n xs) (hB : B' ≤ B) : w.ownsRow B' e size v n xs := by
  obtain ⟨h1, h2⟩ := h
  refine ⟨h1, ?_⟩
  rcases h2 with h2 | ⟨g, cap, cur, hv, hg, hh⟩
  · exact .inl h2
  · exact .inr ⟨g, cap, cur, hv, by omega, hh⟩

/-- what a call answers that makes bytes -/
def MadeB (w w' : World) (e : Ending) (l : List Int) : Prop :=
  ∃ a' n c', e = .returned (.slice a' n c') ∧ n = l.length ∧ w'.ownsRow w.heap.size 5 1 (.slice a' n c') n (u8s l) ∧ (a' = none → c' = 0) ∧ Below w.heap.size w w'
set_option maxRecDepth 100000 in
theorem MadeB.sl {w w' : World} {e : Ending} {l : List Int} (h : MadeB w w' e l) (hl : ∀ z ∈ l, (Lit.int .u8 z).wf = true) :
    ∃ a' n c', e = .returned (.slice a' n c') ∧ n = l.length ∧ Sl .u8 w' a' n c' l ∧ (a' = none → c' = 0) ∧ Below w.heap.size w w' := by
  obtain ⟨a', n, c', he, hn, ho, hnil, hb⟩ := h
  exact ⟨a', n, c', he, hn, Sl.of_owns (k := .u8) ho hl hn.symm, hnil, hb⟩

end Go.Proofs.Ythblpmejkjdkcaa
