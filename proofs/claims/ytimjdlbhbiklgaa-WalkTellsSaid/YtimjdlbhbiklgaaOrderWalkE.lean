/- Used by the law. -/
import Derived.Test.YtimjdlbhbiklgaaOrderStep
namespace Go.Proofs.Ytimjdlbhbiklgaa
open Go.RowKit

theorem Short.snoc {xs : List Wd} {x : Wd} (h : Short xs) (hx : x.n ≤ 100) : Short (xs ++ [x]) := by
  intro y hy
  rcases List.mem_append.1 hy with hy | hy
  · exact h y hy
  · simp only [List.mem_singleton] at hy; rw [hy]; exact hx

def Wd.Far (k : Option Nat) (x : Wd) : Prop := x.n = 0 ∨ ∃ b off, x.a = some ⟨b, off, none⟩ ∧ k ≠ some b

theorem Wd.Good.grown {w w' : World} {x : Wd} {k : Option Nat} (h : x.Good w) (hg : w.grownBy w' k) (hf : x.Far k) : x.Good w' := by
  obtain ⟨h1, h2, h3, h4, h5⟩ := h
  refine ⟨h1, h2, h3, h4, ?_⟩
  rcases h5 with h5 | ⟨b, off, ha, hc⟩
  · exact .inl h5
  · rcases hf with hf | ⟨b', off', ha', hk⟩
    · exact .inl hf
    · rw [ha] at ha'
      simp only [Option.some.injEq, Addr.mk.injEq, and_true] at ha'
      obtain ⟨rfl, rfl⟩ := ha'
      exact .inr ⟨b, off, ha, fun i hi => hg.cell (hc i hi) (fun e => hk e.symm)⟩

theorem Wd.Good.far_new {w : World} {x : Wd} {H : Nat} (h : x.Good w) (hH : w.heap.size ≤ H) : x.Far (some H) := by
  obtain ⟨h1, h2, h3, h4, h5⟩ := h
  rcases h5 with h5 | ⟨b, off, ha, hc⟩
  · exact .inl h5
  · rcases Nat.eq_zero_or_pos x.n with h0 | hp
    · exact .inl h0
    · refine .inr ⟨b, off, ha, fun e => ?_⟩
      have := cell_lt (hc 0 hp)
      simp only [Option.some.injEq] at e
      omega

end Go.Proofs.Ytimjdlbhbiklgaa
