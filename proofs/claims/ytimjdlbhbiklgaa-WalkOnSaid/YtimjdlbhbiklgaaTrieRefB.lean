/- The document's Same of layer 10, of automata that are the same. It reads alone. -/
import Derived.Test.YtimjdlbhbiklgaaPackM
namespace Go.Proofs.Ytimjdlbhbiklgaa
open Go.RowKit Tri

set_option maxRecDepth 100000 in
theorem drew_more {w w1 : World} {q : Nat} (h : ∃ q, w1 = w.drewN q) : ∃ p, w1.drewN q = w.drewN p := by
  obtain ⟨p, rfl⟩ := h
  exact ⟨_, World.drewN_drewN _ _ _⟩

end Go.Proofs.Ytimjdlbhbiklgaa
