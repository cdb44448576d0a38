/- Structs in cells of the call's own: stored, loaded, answered. Nothing of the program. -/
import Derived.Laws.Rows
import Derived.Laws.CopyOwn
import Derived.OwnWalk
import Derived.Below
import Derived.WalkKit
namespace Go.Proofs.Ythblpmejkjdkcaa
open Go.RowKit

set_option maxRecDepth 100000 in
theorem results_cell_row_tmp {P : Program} {fn : Func} {p u : Tmp} {ty : TypeId} (h : fn.results = #[.cell p ty, .tmp u]) (tmps : Array Value) (w : World) (g : Nat) (t : TypeId) (cs : Array Value) (fr : Nat × Nat) (d : TypeDesc)
    (hp : tmps.getD p undef = .pointer (some ⟨g, 0, none⟩)) (hg : w.heap[g]? = some (.cells cs t fr))
    (hu : P.underlying ty = some d) (hd : (match d with | .struct _ | .array _ _ => true | _ => false) = true) (hi : (P.info? ty).map (·.size) = some cs.size) :
    (results fn tmps).run P w = .ok (.tuple #[.agg cs, tmps.getD u undef]) w := by
  have hp' : tmps[p]?.getD undef = .pointer (some ⟨g, 0, none⟩) := by simpa using hp
  simp [results, h, hp', asAddr, run_loadVar_row w g t ty cs fr d hg hu hd hi]
set_option maxRecDepth 100000 in
theorem wpList_load_row_w {P : Program} {ops : Array Oper} {rest : List Oper} {o : Oper} {a : Act} {w : World} {Q : Exit → Act → World → Prop} (hwt : Region.wanted o (yielded ops a.tmps) = true) (ty : TypeId) (x : Operand) (ho : o.op = .load ty x)
    (g : Nat) (hx : a.eval x = .pointer (some ⟨g, 0, none⟩)) (t : TypeId) (cs : Array Value) (fr : Nat × Nat) (d : TypeDesc) (hg : w.heap[g]? = some (.cells cs t fr))
    (hu : P.underlying ty = some d) (hd : (match d with | .struct _ | .array _ _ => true | _ => false) = true) (hi : (P.info? ty).map (·.size) = some cs.size)
    (h : wpList P ops Q rest (a.put o.dst (.agg cs)) w) : wpList P ops Q (o :: rest) a w := by
  refine wpList_step fun K hK => ?_
  rw [if_pos hwt]
  exact wp_load_row ty x ho g hx t cs fr d hg hu hd hi (hK _ _ h)
set_option maxRecDepth 100000 in
theorem wpList_store_g {P : Program} {ops : Array Oper} {rest : List Oper} {o : Oper} {a : Act} {w : World} {Q : Exit → Act → World → Prop} (hgd : o.guard = none) (ty : TypeId) (x y : Operand) (ho : o.op = .store ty x y)
    (g : Nat) (cells : Array Value) (hx : a.eval x = .pointer (some ⟨g, 0, none⟩)) (hy : a.eval y = .agg cells)
    (t : TypeId) (old : Array Value) (hg : w.heap[g]? = some (.cells old t (0, 0))) (hi : (P.info? ty).map (·.size) = some cells.size)
    (hold : old.size = cells.size) (h1 : cells.all (·.oneCell') = true)
    (h : ∀ w', w'.heap[g]? = some (.cells cells t (0, 0)) → w.grownBy w' (some g) → w'.heap.size = w.heap.size → wpList P ops Q rest (a.put o.dst undef) w') : wpList P ops Q (o :: rest) a w :=
  wpList_store_row hgd ty x y ho g cells hx hy t old hg hi hold h1 (h _ (setRow_heap _ _ _ _ _ _ hg) ⟨rfl, rfl, rfl, by simp, fun k _ hk => setRow_other _ _ _ _ (fun e => hk (by rw [e]))⟩ (size_setRow _ _ _))
set_option maxRecDepth 100000 in
theorem below_made {w0 w1 w2 : World} {o : Obj} (hb : Below w0.heap.size w0 w1) (hg : (w1.alloc o).grownBy w2 (some w1.heap.size)) : Below w0.heap.size w0 w2 :=
  (hb.alloc hb.size o).grown hg (by have := hb.size; simp; omega) (fun k hk => by cases hk; exact hb.size)
set_option maxRecDepth 100000 in
theorem lt_two (w : World) (A B : Obj) : w.heap.size < ((w.alloc A).alloc B).heap.size := by unfold World.alloc; simp; omega
set_option maxRecDepth 100000 in
theorem lt_two' (w : World) (A B : Obj) : w.heap.size + 1 < ((w.alloc A).alloc B).heap.size := by unfold World.alloc; simp
set_option maxRecDepth 100000 in
theorem below_twice {w w2 w4 : World} {A B : Obj} (h2 : Below ((w.alloc A).alloc B).heap.size ((w.alloc A).alloc B) w2) (h4 : Below w2.heap.size w2 w4) : Below w.heap.size w w4 :=
  (((Below.refl w.heap.size w).alloc (Nat.le_refl _) A).alloc (by simp) B).trans ((h2.mono (by have := lt_two w A B; omega)).trans (h4.mono (by have := lt_two w A B; have := h2.size; omega)))

end Go.Proofs.Ythblpmejkjdkcaa
