/- The program's Read of layer 9. -/
import Derived.Test.YtehdojhblekgeaaWordRead
namespace Go.Proofs.Ytehdojhblekgeaa
open Go.RowKit

set_option maxRecDepth 100000 in
theorem splitA_le : ∀ (b cur : List Int), ∀ x ∈ Line.splitA cur b, x.length ≤ cur.length + b.length
  | [], cur => by
    unfold Line.splitA
    split <;> simp
  | c :: b, cur => by
    unfold Line.splitA
    split
    · intro x hx
      rcases List.mem_cons.1 hx with rfl | hx
      · simp
      · have := splitA_le b [] x hx; simp at this ⊢; omega
    · intro x hx
      have := splitA_le b (cur ++ [c]) x hx
      simp at this ⊢; omega
set_option maxRecDepth 100000 in
theorem split_le (b : List Int) : ∀ x ∈ Line.split b, x.length ≤ b.length := fun x hx => by
  have := splitA_le b [] x hx; simpa using this
set_option maxRecDepth 100000 in
theorem ins_len_old {o : List (List Int)} {z : List Int} {xs : List Wd} {n : Nat} (h : nums xs = ins o z) (hl : xs.length = n) : (ins o z).length = n := by
  rw [← h, nums_length, hl]

end Go.Proofs.Ytehdojhblekgeaa
