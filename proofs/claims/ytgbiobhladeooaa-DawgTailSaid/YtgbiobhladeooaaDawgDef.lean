/- What Make of layer 11 answers. -/
import Derived.Test.YtgbiobhladeooaaPackA
import Derived.Test.YtgbiobhladeooaaTrieRefE
namespace Go.Proofs.Ytgbiobhladeooaa
open Go.RowKit Tri Daw

noncomputable def dmade (ws : List (List Int)) : List St × Int := if (Wl.write ws).2 = 0 then (dmake ws, 0) else ([], (Wl.write ws).2)
set_option maxRecDepth 100000 in
theorem made_parts {ws : List (List Int)} : (made ws).2 = (Wl.write ws).2 ∧ ((Wl.write ws).2 = 0 → (made ws).1 = make ws) := by
  unfold made
  by_cases he : (Wl.write ws).2 = 0
  · rw [if_pos he]; exact ⟨he.symm, fun _ => rfl⟩
  · rw [if_neg he]; exact ⟨rfl, fun h => absurd h he⟩
end Go.Proofs.Ytgbiobhladeooaa
