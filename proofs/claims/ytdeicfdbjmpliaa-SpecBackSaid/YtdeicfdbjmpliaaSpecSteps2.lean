/- More steps of regions that draw: guarded ones, picks, comparisons, strings. -/
import Derived.Test.YtdeicfdbjmpliaaSpecSteps
import Derived.Test.YtdeicfdbjmpliaaGenStr
import Derived.Test.YtdeicfdbjmpliaaPackB
namespace Go.Proofs.Ytdeicfdbjmpliaa
open Go Go.RowKit

set_option maxRecDepth 100000 in
theorem StepsTo.guarded {P : Program} {ops : Array Oper} {Q : Exit → Act → World → Prop} {o : Oper} {a : Act} {w : World} {R : Value → World → Prop} (hw : Region.wanted o (yielded ops a.tmps) = true) (h : StepsTo P ops Q { o with guard := none } a w R) : StepsTo P ops Q o a w R := by
  intro K hK
  rw [if_pos hw]
  have := h K hK
  rw [if_pos (by simp [Region.wanted])] at this
  exact this
set_option maxRecDepth 100000 in
theorem StepsTo.passed {P : Program} {ops : Array Oper} {Q : Exit → Act → World → Prop} {o : Oper} {a : Act} {w : World} {R : Value → World → Prop} (hw : Region.wanted o (yielded ops a.tmps) = false) (h : R undef w) : StepsTo P ops Q o a w R := by
  intro K hK
  rw [if_neg (by rw [hw]; decide)]
  exact hK _ _ h
set_option maxRecDepth 100000 in
theorem yielded_of {ops : Array Oper} {a : Act} {j d : Nat} {b : Bool} (hd : (ops[j]?).bind (·.dst) = some d) (h : a.eval (.tmp d) = .bool b) : yielded ops a.tmps j = some b := by
  unfold yielded
  rw [hd]
  have h' : a.tmps.getD d undef = .bool b := h
  rw [Array.getD_eq_getD_getElem?] at h'
  cases ht : a.tmps[d]? with
  | none => rw [ht] at h'; exact absurd h' (by simp [undef])
  | some v =>
    rw [ht] at h'
    simp only [Option.getD_some] at h'
    subst h'
    simp [ht]
set_option maxRecDepth 100000 in
theorem wanted_of {ops : Array Oper} {o : Oper} {a : Act} {j d : Nat} {b : Bool} (hg : o.guard = some (j, b)) (hd : (ops[j]?).bind (·.dst) = some d) (h : a.eval (.tmp d) = .bool b) : Region.wanted o (yielded ops a.tmps) = true := by
  simp [Region.wanted, hg, yielded_of hd h]
set_option maxRecDepth 100000 in
theorem passed_of {ops : Array Oper} {o : Oper} {a : Act} {j d : Nat} {b c : Bool} (hg : o.guard = some (j, b)) (hd : (ops[j]?).bind (·.dst) = some d) (h : a.eval (.tmp d) = .bool c) (hne : c ≠ b) : Region.wanted o (yielded ops a.tmps) = false := by
  simp [Region.wanted, hg, yielded_of hd h, hne]
set_option maxRecDepth 100000 in
theorem StepsTo.load_row {P : Program} {ops : Array Oper} {Q : Exit → Act → World → Prop} {o : Oper} {a : Act} {w : World} {R : Value → World → Prop} (hg : o.guard = none) (ty : TypeId) (x : Operand) (ho : o.op = .load ty x) {g : Nat} (hx : a.eval x = .pointer (some ⟨g, 0, none⟩))
    {t : TypeId} {cs : Array Value} {fr : Nat × Nat} {d : TypeDesc} (hh : w.heap[g]? = some (.cells cs t fr)) (hu : P.underlying ty = some d) (hd : (match d with | .struct _ | .array _ _ => true | _ => false) = true) (hi : (P.info? ty).map (·.size) = some cs.size)
    (hR : R (.agg cs) w) : StepsTo P ops Q o a w R := by
  intro K hK
  rw [if_pos (by simp [Region.wanted, hg])]
  exact wp_load_row ty x ho g hx t cs fr d hh hu hd hi (hK _ _ hR)
set_option maxRecDepth 100000 in
theorem run_pick {P : Program} {o : Oper} {a : Act} {w : World} {c x y : Operand} {b : Bool} {u v : Value} (ho : o.op = .pick c x y) (hc : a.eval c = .bool b) (hx : a.eval x = u) (hy : a.eval y = v) : (execOp a.eval o).run P w = .ok (.value (cond b u v)) w := by
  subst hx hy
  simp only [execOp, ho, hc]
  cases b <;> go_simp
section
variable {o : Oper} {a : Act} {w : World} {x y : Operand}
set_option maxRecDepth 100000 in
theorem run_eqlE {m n : Int} (ho : o.op = .binOp .eql 33 x y 33) (hx : a.eval x = .int .i64 m) (hy : a.eval y = .int .i64 n) : (execOp a.eval o).run Try.prog w = .ok (.value (.bool (m == n))) w := by
  simp only [execOp, ho, hx, hy]
  go_simp
set_option maxRecDepth 100000 in
theorem run_neqE {m n : Int} (ho : o.op = .binOp .neq 33 x y 33) (hx : a.eval x = .int .i64 m) (hy : a.eval y = .int .i64 n) : (execOp a.eval o).run Try.prog w = .ok (.value (.bool (m != n))) w := by
  simp only [execOp, ho, hx, hy]
  go_simp
set_option maxRecDepth 100000 in
theorem run_eqlB {m n : Bool} (ho : o.op = .binOp .eql 4 x y 4) (hx : a.eval x = .bool m) (hy : a.eval y = .bool n) : (execOp a.eval o).run Try.prog w = .ok (.value (.bool (m == n))) w := by
  simp only [execOp, ho, hx, hy]
  go_simp
set_option maxRecDepth 100000 in
theorem run_eqlS {s : ByteArray} (ho : o.op = .binOp .eql 9 x y 9) (hx : a.eval x = .string s) (hy : a.eval y = .string s) : (execOp a.eval o).run Try.prog w = .ok (.value (.bool true)) w := by
  simp only [execOp, ho, hx, hy]
  go_simp
set_option maxRecDepth 100000 in
theorem run_addS {s t : ByteArray} (ho : o.op = .binOp .add 9 x y 9) (hx : a.eval x = .string s) (hy : a.eval y = .string t) (hl : s.size + t.size ≤ 9223372036854775807) : (execOp a.eval o).run Try.prog w = .ok (.value (.string (s ++ t))) w := by
  simp only [execOp, ho, hx, hy]
  go_simp
set_option maxRecDepth 100000 in
theorem run_notB {b : Bool} (ho : o.op = .unOp .not 4 x) (hx : a.eval x = .bool b) : (execOp a.eval o).run Try.prog w = .ok (.value (.bool (!b))) w := by
  simp only [execOp, ho, hx]
  go_simp
set_option maxRecDepth 100000 in
theorem run_str (ho : o.op = .convert 22 9 x) {p : Option Addr} {n c : Nat} {zs : List Int} (hx : a.eval x = .slice p n c) (hs : Sl .u8 w p n c zs) : (execOp a.eval o).run Try.prog w = .ok (.value (.string (strOfNums zs))) w := by
  simp [execOp, ho, hx, hs.str, Result.andThen]
end

end Go.Proofs.Ytdeicfdbjmpliaa
