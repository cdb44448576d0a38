/- Used by the law. -/
import Derived.Test.YtimjdlbhbiklgaaPackJ
import Derived.Deep.RegionLaw
import Derived.Laws.NewBlocks
namespace Go.Proofs.Ytimjdlbhbiklgaa
open Go.RowKit

def Form (a : Option Addr) (c : Nat) : Prop := (a = none ∧ c = 0) ∨ ∃ g, a = some ⟨g, 0, none⟩
theorem Form.nil {a : Option Addr} {c : Nat} (h : Form a c) : a = none → c = 0 := by
  intro e
  rcases h with ⟨_, h⟩ | ⟨g, h⟩
  · exact h
  · rw [e] at h; cases h
end Go.Proofs.Ytimjdlbhbiklgaa
