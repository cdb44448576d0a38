import Derived.Lib.SlBytesConst
import Derived.Test.YtjmabjeaodojeaaGreatSpecReadW
import Derived.Test.YtjmabjeaodojeaaGreatSpecSteps
import Derived.Test.YtjmabjeaodojeaaGreatGenStr
import Derived.Test.YtjmabjeaodojeaaGreatPackB
/- Used by the law. -/
namespace Go.Proofs.YtjmabjeaodojeaaGreat
open Go.RowKit

set_option maxRecDepth 100000 in
theorem conv_const1 (w : World) (A : Obj) (C : Array Value) (n c : Nat) : (convert 22 22 (.slice (some ⟨w.heap.size + 1, 0, none⟩) n c)).run Tryz.prog ((w.alloc A).alloc (.cells C 5)) = .ok (.slice (some ⟨w.heap.size + 1, 0, none⟩) n c) ((w.alloc A).alloc (.cells C 5 (C.size, C.size + 1))) := by
  have h := Lib.run_convert_bytes_const (P := Tryz.prog) (w.alloc A) 22 5 C n c Tryz.underlying22 Tryz.underlying5
  rw [World.size_alloc] at h; exact h
theorem aw_step {w w1 w2 : World} {A B : Obj} (h : Below w.heap.size w w1) (hb : Below ((w1.alloc A).alloc B).heap.size ((w1.alloc A).alloc B) w2) : Below w.heap.size w w2 ∧ Below w1.heap.size w1 w2 ∧ w2.heap[w1.heap.size]? = some A := by
  have e : (w1.alloc A).heap.size = w1.heap.size + 1 := World.size_alloc w1 A
  have e2 : ((w1.alloc A).alloc B).heap.size = w1.heap.size + 2 := by rw [World.size_alloc]; omega
  have h12 : Below w1.heap.size w1 w2 := (((Below.refl w1.heap.size w1).alloc (Nat.le_refl _) A).alloc (by omega) B).trans (hb.mono (by omega))
  refine ⟨h.trans (h12.mono h.size), h12, (hb.block _ (by omega)).trans ?_⟩
  exact ((World.grownBy_alloc (w1.alloc A) B none).block w1.heap.size (by omega) (by simp)).trans (heap_alloc_new w1 A)
theorem rs_len {w : World} {a : Option Addr} {n c : Nat} {xs : List Rw} {l : List Rul} (h : Rs w a n c xs) (hl : ruls xs = l) : n = l.length := by rw [← hl, ruls_length, h.1]
end Go.Proofs.YtjmabjeaodojeaaGreat

/- Used by the law. -/
namespace Go.Proofs.YtjmabjeaodojeaaGreat
open Go Go.RowKit

theorem StepsTo.guarded {P : Program} {ops : Array Oper} {Q : Exit → Act → World → Prop} {o : Oper} {a : Act} {w : World} {R : Value → World → Prop} (hw : Region.wanted o (yielded ops a.tmps) = true) (h : StepsTo P ops Q { o with guard := none } a w R) : StepsTo P ops Q o a w R := by
  intro K hK
  rw [if_pos hw]
  have := h K hK
  rw [if_pos (by simp [Region.wanted])] at this
  exact this
set_option maxRecDepth 100000 in
theorem StepsTo.passed {P : Program} {ops : Array Oper} {Q : Exit → Act → World → Prop} {o : Oper} {a : Act} {w : World} {R : Value → World → Prop} (hw : Region.wanted o (yielded ops a.tmps) = false) (h : R undef w) : StepsTo P ops Q o a w R := by
  intro K hK
  rw [if_neg (by rw [hw]; decide)]
  exact hK _ _ h
theorem yielded_of {ops : Array Oper} {a : Act} {j d : Nat} {b : Bool} (hd : (ops[j]?).bind (·.dst) = some d) (h : a.eval (.tmp d) = .bool b) : yielded ops a.tmps j = some b := by
  unfold yielded
  rw [hd]
  have h' : a.tmps.getD d undef = .bool b := h
  rw [Array.getD_eq_getD_getElem?] at h'
  cases ht : a.tmps[d]? with
  | none => rw [ht] at h'; exact absurd h' (by simp [undef])
  | some v =>
    rw [ht] at h'
    simp only [Option.getD_some] at h'
    subst h'
    simp [ht]
theorem wanted_of {ops : Array Oper} {o : Oper} {a : Act} {j d : Nat} {b : Bool} (hg : o.guard = some (j, b)) (hd : (ops[j]?).bind (·.dst) = some d) (h : a.eval (.tmp d) = .bool b) : Region.wanted o (yielded ops a.tmps) = true := by
  simp [Region.wanted, hg, yielded_of hd h]
theorem passed_of {ops : Array Oper} {o : Oper} {a : Act} {j d : Nat} {b c : Bool} (hg : o.guard = some (j, b)) (hd : (ops[j]?).bind (·.dst) = some d) (h : a.eval (.tmp d) = .bool c) (hne : c ≠ b) : Region.wanted o (yielded ops a.tmps) = false := by
  simp [Region.wanted, hg, yielded_of hd h, hne]
theorem StepsTo.load_row {P : Program} {ops : Array Oper} {Q : Exit → Act → World → Prop} {o : Oper} {a : Act} {w : World} {R : Value → World → Prop} (hg : o.guard = none) (ty : TypeId) (x : Operand) (ho : o.op = .load ty x) {g : Nat} (hx : a.eval x = .pointer (some ⟨g, 0, none⟩))
    {t : TypeId} {cs : Array Value} {fr : Nat × Nat} {d : TypeDesc} (hh : w.heap[g]? = some (.cells cs t fr)) (hu : P.underlying ty = some d) (hd : (match d with | .struct _ | .array _ _ => true | _ => false) = true) (hi : (P.info? ty).map (·.size) = some cs.size)
    (hR : R (.agg cs) w) : StepsTo P ops Q o a w R := by
  intro K hK
  rw [if_pos (by simp [Region.wanted, hg])]
  exact wp_load_row ty x ho g hx t cs fr d hh hu hd hi (hK _ _ hR)
set_option maxRecDepth 100000 in
theorem run_pick {P : Program} {o : Oper} {a : Act} {w : World} {c x y : Operand} {b : Bool} {u v : Value} (ho : o.op = .pick c x y) (hc : a.eval c = .bool b) (hx : a.eval x = u) (hy : a.eval y = v) : (execOp a.eval o).run P w = .ok (.value (cond b u v)) w := by
  subst hx hy
  simp only [execOp, ho, hc]
  cases b <;> go_simp
section
variable {o : Oper} {a : Act} {w : World} {x y : Operand}
set_option maxRecDepth 100000 in
theorem run_eqlE {m n : Int} (ho : o.op = .binOp .eql 29 x y 29) (hx : a.eval x = .int .i64 m) (hy : a.eval y = .int .i64 n) : (execOp a.eval o).run Tryz.prog w = .ok (.value (.bool (m == n))) w := by
  simp only [execOp, ho, hx, hy]
  go_simp
set_option maxRecDepth 100000 in
theorem run_eqlB {m n : Bool} (ho : o.op = .binOp .eql 4 x y 4) (hx : a.eval x = .bool m) (hy : a.eval y = .bool n) : (execOp a.eval o).run Tryz.prog w = .ok (.value (.bool (m == n))) w := by
  simp only [execOp, ho, hx, hy]
  go_simp
set_option maxRecDepth 100000 in
theorem run_eqlS {s : ByteArray} (ho : o.op = .binOp .eql 9 x y 9) (hx : a.eval x = .string s) (hy : a.eval y = .string s) : (execOp a.eval o).run Tryz.prog w = .ok (.value (.bool true)) w := by
  simp only [execOp, ho, hx, hy]
  go_simp
set_option maxRecDepth 100000 in
theorem run_notB {b : Bool} (ho : o.op = .unOp .not 4 x) (hx : a.eval x = .bool b) : (execOp a.eval o).run Tryz.prog w = .ok (.value (.bool (!b))) w := by
  simp only [execOp, ho, hx]
  go_simp
set_option maxRecDepth 100000 in
theorem run_str (ho : o.op = .convert 22 9 x) {p : Option Addr} {n c : Nat} {zs : List Int} (hx : a.eval x = .slice p n c) (hs : Sl .u8 w p n c zs) : (execOp a.eval o).run Tryz.prog w = .ok (.value (.string (strOfNums zs))) w := by
  simp [execOp, ho, hx, hs.str, Result.andThen]
end

end Go.Proofs.YtjmabjeaodojeaaGreat

/- Used by the law. -/
namespace Go.Proofs.YtjmabjeaodojeaaGreat
open Go Go.RowKit

section
variable {o : Oper} {a : Act} {w : World} {x y z : Operand} {ts : Array TypeId} {u v : Value}
set_option maxRecDepth 100000 in
theorem ldd_rules (a : Option Addr) (n c : Nat) : Ldd 24 (.slice a n c) := by
  intro b off w hc
  go_simp
set_option maxRecDepth 100000 in
theorem run_idxR {b off n c k : Nat} (ho : o.op = .indexAddr 24 x y) (hx : a.eval x = .slice (some ⟨b, off, none⟩) n c) (hy : a.eval y = .int .i64 (k : Int)) (hk : k < n) : (execOp a.eval o).run Tryz.prog w = .ok (.value (.pointer (some ⟨b, off + k * 3, none⟩))) w := by
  have hk' : (k : Int) < (n : Int) := by omega
  simp only [execOp, ho, hx, hy]
  go_simp
set_option maxRecDepth 100000 in
theorem run_loadRule {b off : Nat} {p q r : Value} (ho : o.op = .load 39 x) (hx : a.eval x = .pointer (some ⟨b, off, none⟩)) (h0 : w.cell? ⟨b, off, none⟩ = some p) (h1 : w.cell? ⟨b, off + 1, none⟩ = some q) (h2 : w.cell? ⟨b, off + 2, none⟩ = some r) : (execOp a.eval o).run Tryz.prog w = .ok (.value (.agg #[p, q, r])) w := by
  simp only [execOp, ho, hx]
  go_simp
end

theorem field_len7 {l : List Int} (h : l.length ≤ 100) : (Spec.field l).length ≤ 400 := by
  unfold Spec.field
  split
  · simp
  · have := Utf.put_length_le l; omega
theorem write_len {r : Rul} (hl : r.L.length ≤ 100) (hr : r.R.length ≤ 100) (h0 : 0 ≤ r.C) (h1 : r.C < 18446744073709551616) : (Spec.write r).length ≤ 1000 := by
  have a := field_len7 hl
  have b := field_len7 hr
  have c : (Num.dig r.C.toNat).length ≤ 20 := Num.len_20 (by omega)
  unfold Spec.write
  simp only [List.length_append, List.length_cons, List.length_nil]
  omega
set_option maxRecDepth 100000 in
theorem fit_short {r : Rul} (h : Spec.fit r = true) : r.L.length ≤ 8 ∧ r.R.length ≤ 8 := by
  have hc := (Spec.fit_parts h).1
  unfold chk goodL at hc
  simp only [Bool.and_eq_true, decide_eq_true_eq] at hc
  exact ⟨hc.1.1.1.2, hc.1.1.2.2⟩
end Go.Proofs.YtjmabjeaodojeaaGreat
