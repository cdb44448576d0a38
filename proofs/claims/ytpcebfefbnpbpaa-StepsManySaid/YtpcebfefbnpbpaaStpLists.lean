import Derived.Test.YtpcebfefbnpbpaaPackD
import Derived.Test.YtpcebfefbnpbpaaPackA
set_option linter.all false
set_option maxRecDepth 100000
set_option maxHeartbeats 12800000
namespace Go.Proofs.Ytpcebfefbnpbpaa
open Go.RowKit

/-- a list of steps as it lies -/
structure Lw where
  a : Option Addr
  n : Nat
  c : Nat
  xs : List Pw
def Lw.v (y : Lw) : Value := .slice y.a y.n y.c
def Lw.no : Lw := ⟨none, 0, 0, []⟩
def lvals (ys : List Lw) : List Value := ys.map Lw.v
def lsts (ys : List Lw) : List (List Stp.St) := ys.map fun y => stps y.xs
theorem lvals_app (xs ys : List Lw) : lvals (xs ++ ys) = lvals xs ++ lvals ys := by simp [lvals]
theorem lsts_app (xs ys : List Lw) : lsts (xs ++ ys) = lsts xs ++ lsts ys := by simp [lsts]
theorem lvals_length (ys : List Lw) : (lvals ys).length = ys.length := by simp [lvals]
theorem lsts_length (ys : List Lw) : (lsts ys).length = ys.length := by simp [lsts]
theorem lsts_at (ys : List Lw) (i : Nat) : (lsts ys).getD i [] = stps (ys.getD i Lw.no).xs := by
  simp only [lsts, List.getD_eq_getElem?_getD, List.getElem?_map]
  cases ys[i]? <;> rfl
/-- rows of steps in a row of their own -/
structure AllP (w0 W : World) (B : Nat) (a : Option Addr) (n cap : Nat) (ys : List Lw) : Prop where
  own : W.ownsRow B 32 1 (.slice a n cap) n (lvals ys)
  rows : ∀ y ∈ ys, MadeP w0 W w0.heap.size y.a y.n y.c y.xs
  len : ys.length = n
  bel : Below w0.heap.size w0 W
theorem MadeP.lower {w0 W : World} {B B' : Nat} {a : Option Addr} {n c : Nat} {xs : List Pw} (h : MadeP w0 W B a n c xs) (hB : B' ≤ B) : MadeP w0 W B' a n c xs := ⟨own_mono h.own hB, h.good, h.len, h.bel⟩
theorem AllP.below {w0 W W' : World} {B : Nat} {a : Option Addr} {n c : Nat} {ys : List Lw} (h : AllP w0 W B a n c ys) (hb : Below W.heap.size W W') : AllP w0 W' B a n c ys :=
  ⟨ownsRow_below h.own hb (Nat.le_refl _), fun y hy => (h.rows y hy).below hb, h.len, h.bel.trans (hb.mono h.bel.size)⟩
theorem owned_list {W : World} {B : Nat} {v : Value} {k : Nat} {xs : List Value} (h : W.ownsRow B 32 1 v k xs) : ∀ r, v.ownBlock = some r → ∀ cs t fr, W.heap[r]? = some (.cells cs t fr) → t ≠ 3 ∧ t ≠ 37 := by
  intro r e cs t fr e2
  rcases h.2 with ⟨e1, _⟩ | ⟨g, cap, cur, e1, _, hgb, _⟩
  · rw [e1] at e; simp [Value.ownBlock] at e
  · rw [e1] at e
    obtain rfl : g = r := by simpa [Value.ownBlock] using e
    rw [hgb] at e2
    simp only [Option.some.injEq, Obj.cells.injEq] at e2
    obtain ⟨_, rfl, _⟩ := e2
    exact ⟨by decide, by decide⟩
theorem AllP.set {w0 W : World} {B g : Nat} {n c i : Nat} {ys : List Lw} (h : AllP w0 W B (some ⟨g, 0, none⟩) n c ys) (hB : w0.heap.size ≤ B) (y : Lw) (hy : MadeP w0 W w0.heap.size y.a y.n y.c y.xs) : AllP w0 (W.setCell ⟨g, i, none⟩ y.v) B (some ⟨g, 0, none⟩) n c (ys.set i y) := by
  have hg := (h.own.lt g rfl).1
  have hs := h.own.stored i y.v
  have hk : Kept w0.heap.size W (W.setCell ⟨g, i, none⟩ y.v) := Kept.grown ((Below.refl _ W).setCell (p := ⟨g, i, none⟩) (by show w0.heap.size ≤ g; omega) _) hs.2 (owned_list h.own)
  refine ⟨by rw [show lvals (ys.set i y) = (lvals ys).set i y.v from by simp [lvals, List.map_set]]; exact hs.1, fun z hz => ?_, by rw [List.length_set]; exact h.len, h.bel.trans hk.bel⟩
  rcases List.mem_or_eq_of_mem_set hz with hz | rfl
  · exact (h.rows z hz).kept hk
  · exact hy.kept hk
theorem AllP.push {w0 W W' : World} {B : Nat} {a a' : Option Addr} {n c N c' : Nat} {ys zs : List Lw} (h : AllP w0 W B a n c ys) (hB : w0.heap.size ≤ B) (hz : ∀ y ∈ zs, MadeP w0 W w0.heap.size y.a y.n y.c y.xs) (hN : ys.length + zs.length = N)
    (hown : W'.ownsRow B 32 1 (.slice a' N c') N (lvals (ys ++ zs))) (hb : Below B W W') (hg : W.grownBy W' (Value.slice a n c).ownBlock) : AllP w0 W' B a' N c' (ys ++ zs) := by
  have hk : Kept w0.heap.size W W' := Kept.grown (hb.mono hB) hg (owned_list h.own)
  refine ⟨hown, fun y hy => ?_, by rw [List.length_append]; exact hN, h.bel.trans hk.bel⟩
  rcases List.mem_append.1 hy with hy | hy
  · exact (h.rows y hy).kept hk
  · exact (hz y hy).kept hk
/-- lists that a call answers -/
def AllIs (w0 w w' : World) (e : Ending) (l : List (List Stp.St)) : Prop := ∃ a n c ys, e = .returned (.slice a n c) ∧ AllP w0 w' w.heap.size a n c ys ∧ lsts ys = l ∧ (a = none → c = 0) ∧ Below w.heap.size w w'
theorem MadeP.none {w0 W : World} (hb : Below w0.heap.size w0 W) : MadeP w0 W w0.heap.size Lw.no.a Lw.no.n Lw.no.c Lw.no.xs := MadeP.start w0 W _ hb
theorem info_list17 : (Try.prog.info? 32).map (fun i => (i.zero, i.size, i.bytes)) = some (some (.slice none 0 0), 1, 24) := by kernel_rfl
end Go.Proofs.Ytpcebfefbnpbpaa
