/- Used by the law. -/
import Derived.Test.YtbfjihbkkcggmaaGreatRuleApp
namespace Go.Proofs.YtbfjihbkkcggmaaGreat
open Go.RowKit

theorem Below.like {B : Nat} {w W W' : World} (h : Below B w W) (e1 : W'.heap = W.heap) (e2 : W'.os = W.os) (e3 : W'.tape = W.tape) (e4 : W'.output = W.output) : Below B w W' :=
  h.trans ⟨e2, e3, e4, by rw [e1]; exact Nat.le_refl _, fun k _ => by rw [e1]⟩

def RwAt2 (w : World) (b : Nat) (x y : Rw) : Prop := RwAt w b 0 x ∧ RwAt w b 3 y
theorem RwAt2.new (w : World) (x y : Rw) (t : TypeId) : RwAt2 (w.alloc (.cells #[x.l, x.rt, x.c, y.l, y.rt, y.c] t)) w.heap.size x y := by
  refine ⟨⟨?_, ?_, ?_⟩, ?_, ?_, ?_⟩ <;> (rw [World.cell?_alloc_mark]; rfl)
theorem RwAt2.alloc {w : World} {b : Nat} {x y : Rw} (h : RwAt2 w b x y) (o : Obj) : RwAt2 (w.alloc o) b x y := ⟨h.1.alloc o, h.2.alloc o⟩
theorem RwAt2.drw {w : World} {b : Nat} {x y : Rw} (h : RwAt2 w b x y) : RwAt2 w.drew b x y := h
theorem RwAt2.grown {w w' : World} {b : Nat} {x y : Rw} {row : Option Nat} (h : RwAt2 w b x y) (hg : w.grownBy w' row) (hne : some b ≠ row) : RwAt2 w' b x y := ⟨h.1.grown hg hne, h.2.grown hg hne⟩
theorem RwAt2.second (W : World) (x y : Rw) (o : Obj) (t : TypeId) : RwAt2 ((W.alloc o).alloc (.cells #[x.l, x.rt, x.c, y.l, y.rt, y.c] t)) (W.heap.size + 1) x y := by
  have := RwAt2.new (W.alloc o) x y t; rwa [World.size_alloc] at this
end Go.Proofs.YtbfjihbkkcggmaaGreat
