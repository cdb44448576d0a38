/- order.Sort: the words that are in a list, each once, so that they rise. -/
import Derived.Test.YtimjdlbhbiklgaaOrderStep
namespace Go.Proofs.Ytimjdlbhbiklgaa
open Go.RowKit

set_option maxRecDepth 100000 in
theorem dd_step {l : List (List Int)} {o R : List (List Int)} {j : Nat} {z : List Int} (h : o = (l.take j).foldl dd []) (hj : j < l.length) (hz : l.getD j [] = z) (hR : dd o z = R) : R = (l.take (j + 1)).foldl dd [] := by
  rw [List.take_succ_eq_append_getElem hj, List.foldl_append, ← h, ← hR]
  have : l[j] = z := by rw [← hz]; simp [hj]
  rw [this]; rfl

set_option maxRecDepth 100000 in
theorem Short.snoc {xs : List Wd} {x : Wd} (h : Short xs) (hx : x.n ≤ 100) : Short (xs ++ [x]) := by
  intro y hy
  rcases List.mem_append.1 hy with hy | hy
  · exact h y hy
  · simp only [List.mem_singleton] at hy; rw [hy]; exact hx

/-- a word whose cells lie elsewhere than in block k -/
def Wd.Far (k : Option Nat) (x : Wd) : Prop := x.n = 0 ∨ ∃ b off, x.a = some ⟨b, off, none⟩ ∧ k ≠ some b

set_option maxRecDepth 100000 in
theorem Wd.Good.grown {w w' : World} {x : Wd} {k : Option Nat} (h : x.Good w) (hg : w.grownBy w' k) (hf : x.Far k) : x.Good w' := by
  obtain ⟨h1, h2, h3, h4, h5⟩ := h
  refine ⟨h1, h2, h3, h4, ?_⟩
  rcases h5 with h5 | ⟨b, off, ha, hc⟩
  · exact .inl h5
  · rcases hf with hf | ⟨b', off', ha', hk⟩
    · exact .inl hf
    · rw [ha] at ha'
      simp only [Option.some.injEq, Addr.mk.injEq, and_true] at ha'
      obtain ⟨rfl, rfl⟩ := ha'
      exact .inr ⟨b, off, ha, fun i hi => hg.cell (hc i hi) (fun e => hk e.symm)⟩

set_option maxRecDepth 100000 in
theorem Wd.Good.far_new {w : World} {x : Wd} {H : Nat} (h : x.Good w) (hH : w.heap.size ≤ H) : x.Far (some H) := by
  obtain ⟨h1, h2, h3, h4, h5⟩ := h
  rcases h5 with h5 | ⟨b, off, ha, hc⟩
  · exact .inl h5
  · rcases Nat.eq_zero_or_pos x.n with h0 | hp
    · exact .inl h0
    · refine .inr ⟨b, off, ha, fun e => ?_⟩
      have := cell_lt (hc 0 hp)
      simp only [Option.some.injEq] at e
      omega

set_option maxRecDepth 100000 in
theorem own_none_or {w : World} {B : Nat} {T : TypeId} {a : Option Addr} {L c : Nat} {l : List Value} (h : w.ownsRow B T 1 (.slice a L c) L l) (b : Nat) (hb : w.heap.size ≤ b) : (Value.slice a L c).ownBlock ≠ some b := by
  intro e
  have := (h.lt b e).2
  omega

/-- what Sort's loop has made of the first words -/
def Outs (B : Nat) (wr : World) (v : Value) (l : List (List Int)) (j : Nat) (a : Option Addr) (L c : Nat) (outs : List Wd) : Prop :=
  v = .slice a L c ∧ wr.ownsRow B 23 1 (.slice a L c) L (vals outs) ∧ outs.length = L ∧ L ≤ j ∧ (∀ x ∈ outs, x.Good wr ∧ x.Far (Value.slice a L c).ownBlock) ∧ Short outs ∧ nums outs = (l.take j).foldl dd [] ∧ (a = none → c = 0)

end Go.Proofs.Ytimjdlbhbiklgaa
