/- The document's take, takeCost and takeSide of layer 15. -/
import Derived.Test.YtbfjihbkkcggmaaVarRef
import Derived.Test.YtbfjihbkkcggmaaPackC
import Derived.Test.YtbfjihbkkcggmaaPackI
import Derived.Test.YtbfjihbkkcggmaaPackF
namespace Go.Proofs.Ytbfjihbkkcggmaa
open Go.RowKit

/-- a number, what is behind it, and whether there is one -/
def NumIs (B : Nat) (w' : World) (e : Ending) (k : IntKind) (r : Nat × List Int × Bool) : Prop :=
  ∃ a n c, e = .returned (.tuple #[.int k (r.1 : Int), .slice a n c, .bool r.2.2]) ∧ Sl .u8 w' a n c r.2.1 ∧ Low B a n
/-- a row that stands at its block's beginning, or none -/
def Front (a : Option Addr) (n : Nat) : Prop := n = 0 ∨ ∃ b, a = some ⟨b, 0, none⟩
set_option maxRecDepth 100000 in
theorem Front.of_owns {w : World} {B : Nat} {T : TypeId} {size : Nat} {a : Option Addr} {n cap m : Nat} {l : List Value} (h : w.ownsRow B T size (.slice a n cap) m l) : Front a n := by
  rcases h.2 with ⟨h1, _⟩ | ⟨g, c, cur, h1, _⟩
  · cases h1; exact .inl rfl
  · cases h1; exact .inr ⟨g, rfl⟩
/-- a row in a block from B on, or none -/
def High (B : Nat) (a : Option Addr) (n : Nat) : Prop := n = 0 ∨ ∃ b o, a = some ⟨b, o, none⟩ ∧ B ≤ b
set_option maxRecDepth 100000 in
theorem High.of_owns {w : World} {B : Nat} {T : TypeId} {size : Nat} {a : Option Addr} {n cap m : Nat} {l : List Value} (h : w.ownsRow B T size (.slice a n cap) m l) : High B a n := by
  rcases h.2 with ⟨h1, _⟩ | ⟨g, c, cur, h1, h2, _⟩
  · cases h1; exact .inl rfl
  · cases h1; exact .inr ⟨g, 0, rfl, h2⟩
set_option maxRecDepth 100000 in
theorem High.mono {B B' : Nat} {a : Option Addr} {n : Nat} (h : High B a n) (hB : B' ≤ B) : High B' a n := by
  rcases h with h | ⟨b, o, h1, h2⟩
  · exact .inl h
  · exact .inr ⟨b, o, h1, by omega⟩
set_option maxRecDepth 100000 in
theorem Sl.high {k : IntKind} {w w' : World} {a : Option Addr} {n cap B : Nat} {zs : List Int} (h : Sl k w a n cap zs) (hh : High B a n) (hc : ∀ b, B ≤ b → b < w.heap.size → w'.heap[b]? = w.heap[b]?) : Sl k w' a n cap zs := by
  obtain ⟨h1, h2, h3, h4, h5⟩ := h
  refine ⟨h1, h2, h3, h4, ?_⟩
  rcases h5 with h5 | ⟨b, off, ha, hcell⟩
  · exact .inl h5
  · rcases Nat.eq_zero_or_pos n with h0 | hp
    · exact .inl h0
    · refine .inr ⟨b, off, ha, fun i hi => ?_⟩
      rcases hh with hh | ⟨b', o', hb', hB⟩
      · omega
      · rw [ha] at hb'
        cases hb'
        have e := hcell i hi
        have hlt := cell_lt e
        rw [World.cell?] at e ⊢
        rw [hc b hB hlt]; exact e
set_option maxRecDepth 100000 in
/-- numbers that stand so are kept by whatever changes a block that begins with no number -/
theorem Sl.apart {w w' : World} {a : Option Addr} {n cap : Nat} {zs : List Int} {k : Option Nat} (h : Sl .i64 w a n cap zs) (hf : Front a n) (hg : w.grownBy w' k) (hk : ∀ b, k = some b → ∀ z : Int, w.cell? ⟨b, 0, none⟩ ≠ some (.int .i64 z)) : Sl .i64 w' a n cap zs := by
  obtain ⟨h1, h2, h3, h4, h5⟩ := h
  refine ⟨h1, h2, h3, h4, ?_⟩
  rcases h5 with h5 | ⟨b, off, ha, hc⟩
  · exact .inl h5
  · rcases Nat.eq_zero_or_pos n with h0 | hp
    · exact .inl h0
    · refine .inr ⟨b, off, ha, fun i hi => ?_⟩
      rcases hf with hf | ⟨b', hb'⟩
      · omega
      · rw [ha] at hb'
        simp only [Option.some.injEq, Addr.mk.injEq, and_true] at hb'
        obtain ⟨rfl, rfl⟩ := hb'
        have hne : k ≠ some b := fun e => hk b e _ (by have := hc 0 hp; simpa using this)
        exact hg.cell (hc i hi) (fun e => hne e.symm)
/-- a side, what is behind it, and whether there is one -/
def SideIs (B E : Nat) (w' : World) (e : Ending) (r : List Int × List Int × Bool) : Prop :=
  ∃ la ln lc a n c, e = .returned (.tuple #[.slice la ln lc, .slice a n c, .bool r.2.2]) ∧ Sl .i64 w' la ln lc r.1 ∧ Front la ln ∧ High E la ln ∧ Sl .u8 w' a n c r.2.1 ∧ Low B a n

namespace Img
set_option maxRecDepth 100000 in
theorem dTake_le (b : List Int) : (dTake b).1 ≤ 2000000 := by
  unfold dTake take
  split
  · rename_i h
    split at h
    · split at h
      · cases h; omega
      · cases h
    · cases h
  · exact Nat.zero_le _
set_option maxRecDepth 100000 in
theorem dCost_lt (b : List Int) : (dCost b).1 < 18446744073709551616 := by
  unfold dCost
  split
  · rename_i n r h; exact (Var.take_some h).2
  · simp
end Img

/-- how far the numbers of a side are read -/
def IntsAt (n : Nat) (b0 : List Int) (k : Nat) (pre bb : List Int) (ok : Bool) : Prop :=
  pre.length = k ∧ (∀ z ∈ pre, 0 ≤ z ∧ z ≤ 2000000) ∧ Img.dInts n b0 = if ok = true then (pre ++ (Img.dInts (n - k) bb).1, (Img.dInts (n - k) bb).2.1, (Img.dInts (n - k) bb).2.2) else (pre, bb, false)
set_option maxRecDepth 100000 in
theorem IntsAt.next {n : Nat} {b0 : List Int} {k : Nat} {pre bb : List Int} (h : IntsAt n b0 k pre bb true) (hk : k < n) : IntsAt n b0 (k + 1) (pre ++ [((Img.dTake bb).1 : Int)]) (Img.dTake bb).2.1 (Img.dTake bb).2.2 := by
  obtain ⟨h1, h2, h3⟩ := h
  refine ⟨by simp [h1], ?_, ?_⟩
  · intro z hz
    rcases List.mem_append.1 hz with hz | hz
    · exact h2 z hz
    · simp only [List.mem_singleton] at hz
      subst hz
      have := Img.dTake_le bb
      omega
  · rw [h3, if_pos rfl, show n - k = (n - (k + 1)) + 1 from by omega, Img.dInts]
    cases (Img.dTake bb).2.2 <;> simp
set_option maxRecDepth 100000 in
theorem IntsAt.done {n : Nat} {b0 : List Int} {k : Nat} {pre bb : List Int} {ok : Bool} (h : IntsAt n b0 k pre bb ok) (hk : k = n ∨ ok = false) : Img.dInts n b0 = (pre, bb, ok) := by
  obtain ⟨h1, h2, h3⟩ := h
  rw [h3]
  cases ok with
  | false => rfl
  | true =>
    rcases hk with rfl | hk
    · rw [if_pos rfl, Nat.sub_self, Img.dInts]; simp
    · cases hk

end Go.Proofs.Ytbfjihbkkcggmaa
