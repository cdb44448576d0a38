/- Used by the law. -/
import Derived.Test.YtjmabjeaodojeaaGreatPackB
import Derived.Calls
import Derived.Test.YtjmabjeaodojeaaGreatChecked
namespace Go.Proofs.YtjmabjeaodojeaaGreat
open Go Go.RowKit

theorem StepsTo.enter {P : Program} {ops : Array Oper} {Q : Exit → Act → World → Prop} {o : Oper} {a : Act} {w : World} {R : Value → World → Prop} (hg : o.guard = none) (f : FuncId) (vs : Array Value) (hrun : (execOp a.eval o).run P w = .ok (.enter f vs) w)
    {C : Ending → World → Prop} (hc : Calls P f vs w C) (hR : ∀ e w', C e w' → ∃ v, e = .returned v ∧ R v w') : StepsTo P ops Q o a w R := by
  intro K hK
  rw [if_pos (by simp [Region.wanted, hg])]
  unfold Oper.wp
  rw [hrun, Oper.upon_enter]
  refine hc.mono ?_
  intro e w' h
  obtain ⟨v, rfl, hr⟩ := hR e w' h
  exact hK v w' hr
section
variable {o : Oper} {a : Act} {w : World} {ts : Array TypeId} {x : Operand} {v : Value}
set_option maxRecDepth 100000 in
theorem run_fieldSide (ho : o.op = .call { callee := .value (.func 93), args := #[x], argTypes := ts }) (hx : a.eval x = v) : (execOp a.eval o).run Tryz.prog w = .ok (.enter 93 #[v]) w := by
  subst hx
  simp only [execOp, ho]
  go_simp
set_option maxRecDepth 100000 in
theorem run_kinds (ho : o.op = .call { callee := .value (.func 35), args := #[], argTypes := ts }) : (execOp a.eval o).run Tryz.prog w = .ok (.enter 35 #[]) w := by
  simp only [execOp, ho]
  go_simp
end

def Idx (T : TypeId) : Prop := ∀ (b off n c k : Nat), k < n → ∀ w : World, (Instr.indexAt T (.slice (some ⟨b, off, none⟩) n c) (.int .i64 (k : Int))).run Tryz.prog w = .ok (.pointer (some ⟨b, off + k, none⟩)) w
set_option maxRecDepth 100000 in
theorem idx_sides : Idx 70 := by
  intro b off n c k hk w
  have hk' : (k : Int) < (n : Int) := by omega
  go_simp
set_option maxRecDepth 100000 in
theorem idx_costs : Idx 40 := by
  intro b off n c k hk w
  have hk' : (k : Int) < (n : Int) := by omega
  go_simp
set_option maxRecDepth 100000 in
theorem idx_fields : Idx 41 := by
  intro b off n c k hk w
  have hk' : (k : Int) < (n : Int) := by omega
  go_simp
def Ldd (T : TypeId) (v : Value) : Prop := ∀ (b off : Nat) (w : World), w.cell? ⟨b, off, none⟩ = some v → (Instr.loadAt T (.pointer (some ⟨b, off, none⟩))).run Tryz.prog w = .ok v w
set_option maxRecDepth 100000 in
theorem ldd_side (a : Option Addr) (n c : Nat) : Ldd 37 (.slice a n c) := by
  intro b off w hc
  go_simp
set_option maxRecDepth 100000 in
theorem ldd_field (a : Option Addr) (n c : Nat) : Ldd 22 (.slice a n c) := by
  intro b off w hc
  go_simp
set_option maxRecDepth 100000 in
theorem ldd_cost (z : Int) : Ldd 23 (.int .u64 z) := by
  intro b off w hc
  go_simp
set_option maxRecDepth 100000 in
theorem ldd_int (z : Int) : Ldd 3 (.int .i64 z) := by
  intro b off w hc
  go_simp

section
variable {ops : Array Oper} {Q : Exit → Act → World → Prop} {o : Oper} {a : Act} {w : World} {R : Value → World → Prop}
set_option maxRecDepth 100000 in
theorem steps_idx {T : TypeId} (hT : Idx T) (hg : o.guard = none) (s x : Operand) (ho : o.op = .indexAddr T s x) {b off n c k : Nat} (hs : a.eval s = .slice (some ⟨b, off, none⟩) n c) (hx : a.eval x = .int .i64 (k : Int)) (hk : k < n)
    (hR : R (.pointer (some ⟨b, off + k, none⟩)) w) : StepsTo Tryz.prog ops Q o a w R := by
  refine StepsTo.of_run hg ?_ hR
  simp [execOp, ho, hs, hx, hT b off n c k hk w, Result.andThen]
set_option maxRecDepth 100000 in
theorem steps_ldd {T : TypeId} {v : Value} (hT : Ldd T v) (hg : o.guard = none) (x : Operand) (ho : o.op = .load T x) {b off : Nat} (hx : a.eval x = .pointer (some ⟨b, off, none⟩)) (hc : w.cell? ⟨b, off, none⟩ = some v)
    (hR : R v w) : StepsTo Tryz.prog ops Q o a w R :=
  StepsTo.load hg T x ho ⟨b, off, none⟩ hx (hT b off w hc) hR
set_option maxRecDepth 100000 in
theorem steps_rule2 (hg : o.guard = none) (x y z : Operand) (ho : o.op = .build 39 #[(0, x), (1, y), (2, z)]) {xa ya : Option Addr} {n m c d : Nat} {C : Int} (hx : a.eval x = .slice xa n c) (hy : a.eval y = .slice ya m d) (hz : a.eval z = .int .u64 C)
    (hR : R (.agg #[.slice xa n c, .slice ya m d, .int .u64 C]) w) : StepsTo Tryz.prog ops Q o a w R := by
  have h : (Instr.build 39 #[(0, .slice xa n c), (1, .slice ya m d), (2, .int .u64 C)]).run Tryz.prog w = .ok (.agg #[.slice xa n c, .slice ya m d, .int .u64 C]) w := by go_simp
  refine StepsTo.of_run hg ?_ hR
  simp [execOp, ho, hx, hy, hz, h, Result.andThen]
end

end Go.Proofs.YtjmabjeaodojeaaGreat
