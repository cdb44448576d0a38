import Derived.Test.YtpcebfefbnpbpaaRuleApp
set_option linter.all false
set_option maxRecDepth 100000
set_option maxHeartbeats 12800000
namespace Go.Proofs.Ytpcebfefbnpbpaa
open Go.RowKit

theorem Below.like {B : Nat} {w W W' : World} (h : Below B w W) (e1 : W'.heap = W.heap) (e2 : W'.os = W.os) (e3 : W'.tape = W.tape) (e4 : W'.output = W.output) : Below B w W' :=
  h.trans ⟨e2, e3, e4, by rw [e1]; exact Nat.le_refl _, fun k _ => by rw [e1]⟩

/-- two rules behind each other in one block -/
def RwAt2 (w : World) (b : Nat) (x y : Rw) : Prop := RwAt w b 0 x ∧ RwAt w b 3 y
theorem RwAt2.new (w : World) (x y : Rw) (t : TypeId) : RwAt2 (w.alloc (.cells #[x.l, x.rt, x.c, y.l, y.rt, y.c] t)) w.heap.size x y := by
  refine ⟨⟨?_, ?_, ?_⟩, ?_, ?_, ?_⟩ <;> (rw [World.cell?_alloc_mark]; rfl)
theorem RwAt2.alloc {w : World} {b : Nat} {x y : Rw} (h : RwAt2 w b x y) (o : Obj) : RwAt2 (w.alloc o) b x y := ⟨h.1.alloc o, h.2.alloc o⟩
theorem RwAt2.drw {w : World} {b : Nat} {x y : Rw} (h : RwAt2 w b x y) : RwAt2 w.drew b x y := h
theorem RwAt2.grown {w w' : World} {b : Nat} {x y : Rw} {row : Option Nat} (h : RwAt2 w b x y) (hg : w.grownBy w' row) (hne : some b ≠ row) : RwAt2 w' b x y := ⟨h.1.grown hg hne, h.2.grown hg hne⟩
theorem RwAt2.second (W : World) (x y : Rw) (o : Obj) (t : TypeId) : RwAt2 ((W.alloc o).alloc (.cells #[x.l, x.rt, x.c, y.l, y.rt, y.c] t)) (W.heap.size + 1) x y := by
  have := RwAt2.new (W.alloc o) x y t; rwa [World.size_alloc] at this
theorem Rs.pairAt {w : World} {g : Nat} {x y : Rw} (hx : x.Good w) (hy : y.Good w) (h : RwAt2 w g x y) : Rs w (some ⟨g, 0, none⟩) 2 2 [x, y] :=
  ⟨rfl, Nat.le_refl _, by unfold maxLen; omega, by intro z hz; simp only [List.mem_cons, List.not_mem_nil, or_false] at hz; rcases hz with rfl | rfl; exact hx; exact hy, .inr ⟨g, 0, rfl, fun i hi => match i, hi with
    | 0, _ => h.1
    | 1, _ => h.2
    | i + 2, hi => absurd hi (by omega)⟩⟩

end Go.Proofs.Ytpcebfefbnpbpaa
