import Derived.Lib.SlBytesConst
import Derived.Test.YtdondndalpmdgaaSpecReadW
import Derived.Test.YtdondndalpmdgaaSpecSteps
import Derived.Test.YtdondndalpmdgaaGenStr
import Derived.Test.YtdondndalpmdgaaPackB
/- awake, the head of all laws of layer 7: it answers true. Written by wip/gen/spec_awake.py. -/
namespace Go.Proofs.Ytdondndalpmdgaa
open Go.RowKit

set_option maxRecDepth 100000 in
theorem aw_signs (l : List Int) (hg : Utf.allGood l = true) (hp : Utf.put l = l) : Spec.signs l = some l := by
  have := Spec.signs_put hg
  rw [hp] at this; exact this
set_option maxRecDepth 100000 in
theorem aw_read1 : Spec.read [82, 69, 80, 32, 102, 32, 112, 104, 32, 50] = ⟨0, [], [⟨[102], [112, 104], 2⟩]⟩ := by
  unfold Spec.read
  rw [if_neg (by decide +kernel), show Line.fields [82, 69, 80, 32, 102, 32, 112, 104, 32, 50] = [[82, 69, 80], [102], [112, 104], [50]] from by decide +kernel]
  unfold Spec.byWord
  rw [show ([[82, 69, 80], [102], [112, 104], [50]] : List (List Int)).getD 0 [] = [82, 69, 80] from rfl, if_neg (by decide), if_pos (by decide), if_pos (by rfl)]
  unfold Spec.rep
  rw [show ([[82, 69, 80], [102], [112, 104], [50]] : List (List Int)).getD 1 [] = [102] from rfl, show ([[82, 69, 80], [102], [112, 104], [50]] : List (List Int)).getD 2 [] = [112, 104] from rfl, show ([[82, 69, 80], [102], [112, 104], [50]] : List (List Int)).getD 3 [] = [50] from rfl]
  rw [show Spec.side [102] = Spec.signs [102] from if_neg (by decide), show Spec.side [112, 104] = Spec.signs [112, 104] from if_neg (by decide)]
  rw [show Spec.signs [102] = some [102] from aw_signs [102] (by decide) (by decide), show Spec.signs [112, 104] = some [112, 104] from aw_signs [112, 104] (by decide) (by decide)]
  show Spec.last [50] _ = _
  unfold Spec.last
  rw [show Num.read [50] = some 2 from by decide +kernel]
  show Spec.told _ _ = _
  unfold Spec.told
  rw [if_pos (by decide +kernel)]
  rfl
set_option maxRecDepth 100000 in
theorem aw_read2 : Spec.read [75, 69, 89, 32, 97, 98, 124, 99, 100, 32, 51] = ⟨0, [], [⟨[97], [98], 3⟩, ⟨[98], [97], 3⟩, ⟨[99], [100], 3⟩, ⟨[100], [99], 3⟩]⟩ := by
  unfold Spec.read
  rw [if_neg (by decide +kernel), show Line.fields [75, 69, 89, 32, 97, 98, 124, 99, 100, 32, 51] = [[75, 69, 89], [97, 98, 124, 99, 100], [51]] from by decide +kernel]
  unfold Spec.byWord
  rw [show ([[75, 69, 89], [97, 98, 124, 99, 100], [51]] : List (List Int)).getD 0 [] = [75, 69, 89] from rfl, if_neg (by decide), if_neg (by decide), if_pos (by decide), if_pos (by rfl)]
  unfold Spec.key
  rw [show ([[75, 69, 89], [97, 98, 124, 99, 100], [51]] : List (List Int)).getD 1 [] = [97, 98, 124, 99, 100] from rfl, show ([[75, 69, 89], [97, 98, 124, 99, 100], [51]] : List (List Int)).getD 2 [] = [51] from rfl, show Spec.signs [97, 98, 124, 99, 100] = some [97, 98, 124, 99, 100] from aw_signs [97, 98, 124, 99, 100] (by decide) (by decide)]
  show Spec.last [51] _ = _
  unfold Spec.last
  rw [show Num.read [51] = some 3 from by decide +kernel]
  show Spec.told _ _ = _
  unfold Spec.told
  rw [if_pos (by decide +kernel)]
  rfl
set_option maxRecDepth 100000 in
theorem aw_read3 : Spec.read [66, 65, 83, 69, 32, 49, 32, 50, 32, 51, 32, 52] = ⟨0, [1, 2, 3, 4], []⟩ := by
  unfold Spec.read
  rw [if_neg (by decide +kernel), show Line.fields [66, 65, 83, 69, 32, 49, 32, 50, 32, 51, 32, 52] = [[66, 65, 83, 69], [49], [50], [51], [52]] from by decide +kernel]
  unfold Spec.byWord
  rw [show ([[66, 65, 83, 69], [49], [50], [51], [52]] : List (List Int)).getD 0 [] = [66, 65, 83, 69] from rfl, if_pos (by decide), if_pos (by rfl)]
  unfold Spec.base
  rw [show Spec.costs (([[66, 65, 83, 69], [49], [50], [51], [52]] : List (List Int)).drop 1) = some [1, 2, 3, 4] from by decide +kernel]
set_option maxRecDepth 100000 in
theorem aw_read4 : Spec.read [88, 89, 90] = Spec.Sp.no 70 := by
  unfold Spec.read
  rw [if_neg (by decide +kernel), show Line.fields [88, 89, 90] = [[88, 89, 90]] from by decide +kernel]
  unfold Spec.byWord
  rw [show ([[88, 89, 90]] : List (List Int)).getD 0 [] = [88, 89, 90] from rfl, if_neg (by decide), if_neg (by decide), if_neg (by decide), if_neg (by decide)]
set_option maxRecDepth 100000 in
theorem aw_read5 : Spec.read [77, 65, 80, 32, 97] = Spec.Sp.no 71 := by
  unfold Spec.read
  rw [if_neg (by decide +kernel), show Line.fields [77, 65, 80, 32, 97] = [[77, 65, 80], [97]] from by decide +kernel]
  unfold Spec.byWord
  rw [show ([[77, 65, 80], [97]] : List (List Int)).getD 0 [] = [77, 65, 80] from rfl, if_neg (by decide), if_neg (by decide), if_neg (by decide), if_pos (by decide), if_neg (by decide)]
set_option maxRecDepth 100000 in
theorem aw_read6 : Spec.read [82, 69, 80, 32, 97, 32, 97, 32, 49] = Spec.Sp.no 60 := by
  unfold Spec.read
  rw [if_neg (by decide +kernel), show Line.fields [82, 69, 80, 32, 97, 32, 97, 32, 49] = [[82, 69, 80], [97], [97], [49]] from by decide +kernel]
  unfold Spec.byWord
  rw [show ([[82, 69, 80], [97], [97], [49]] : List (List Int)).getD 0 [] = [82, 69, 80] from rfl, if_neg (by decide), if_pos (by decide), if_pos (by rfl)]
  unfold Spec.rep
  rw [show ([[82, 69, 80], [97], [97], [49]] : List (List Int)).getD 1 [] = [97] from rfl, show ([[82, 69, 80], [97], [97], [49]] : List (List Int)).getD 2 [] = [97] from rfl, show ([[82, 69, 80], [97], [97], [49]] : List (List Int)).getD 3 [] = [49] from rfl]
  rw [show Spec.side [97] = Spec.signs [97] from if_neg (by decide)]
  rw [show Spec.signs [97] = some [97] from aw_signs [97] (by decide) (by decide)]
  show Spec.last [49] _ = _
  unfold Spec.last
  rw [show Num.read [49] = some 1 from by decide +kernel]
  show Spec.told _ _ = _
  unfold Spec.told
  rw [if_neg (by decide +kernel)]
set_option maxRecDepth 100000 in
theorem aw_read7 : Spec.read [82, 69, 80, 32, 97, 32, 98, 32, 120] = Spec.Sp.no 50 := by
  unfold Spec.read
  rw [if_neg (by decide +kernel), show Line.fields [82, 69, 80, 32, 97, 32, 98, 32, 120] = [[82, 69, 80], [97], [98], [120]] from by decide +kernel]
  unfold Spec.byWord
  rw [show ([[82, 69, 80], [97], [98], [120]] : List (List Int)).getD 0 [] = [82, 69, 80] from rfl, if_neg (by decide), if_pos (by decide), if_pos (by rfl)]
  unfold Spec.rep
  rw [show ([[82, 69, 80], [97], [98], [120]] : List (List Int)).getD 1 [] = [97] from rfl, show ([[82, 69, 80], [97], [98], [120]] : List (List Int)).getD 2 [] = [98] from rfl, show ([[82, 69, 80], [97], [98], [120]] : List (List Int)).getD 3 [] = [120] from rfl]
  rw [show Spec.side [97] = Spec.signs [97] from if_neg (by decide), show Spec.side [98] = Spec.signs [98] from if_neg (by decide)]
  rw [show Spec.signs [97] = some [97] from aw_signs [97] (by decide) (by decide), show Spec.signs [98] = some [98] from aw_signs [98] (by decide) (by decide)]
  show Spec.last [120] _ = _
  unfold Spec.last
  rw [show Num.read [120] = none from by decide +kernel]
set_option maxRecDepth 100000 in
theorem aw_read8 : Spec.read [35, 32, 97] = Spec.Sp.no 0 := by
  unfold Spec.read
  rw [if_pos (by decide +kernel)]
set_option maxRecDepth 100000 in
theorem aw_write : Spec.write ⟨[], [97], 5⟩ = [82, 69, 80, 32, 95, 32, 97, 32, 53] := by decide +kernel
set_option maxRecDepth 100000 in
theorem conv_const1 (w : World) (A : Obj) (C : Array Value) (n c : Nat) : (convert 22 22 (.slice (some ⟨w.heap.size + 1, 0, none⟩) n c)).run Try.prog ((w.alloc A).alloc (.cells C 5)) = .ok (.slice (some ⟨w.heap.size + 1, 0, none⟩) n c) ((w.alloc A).alloc (.cells C 5 (C.size, C.size + 1))) := by
  have h := Lib.run_convert_bytes_const (P := Try.prog) (w.alloc A) 22 5 C n c Try.underlying22 Try.underlying5
  rw [World.size_alloc] at h; exact h
set_option maxRecDepth 100000 in
theorem aw_step {w w1 w2 : World} {A B : Obj} (h : Below w.heap.size w w1) (hb : Below ((w1.alloc A).alloc B).heap.size ((w1.alloc A).alloc B) w2) : Below w.heap.size w w2 ∧ Below w1.heap.size w1 w2 ∧ w2.heap[w1.heap.size]? = some A := by
  have e : (w1.alloc A).heap.size = w1.heap.size + 1 := World.size_alloc w1 A
  have e2 : ((w1.alloc A).alloc B).heap.size = w1.heap.size + 2 := by rw [World.size_alloc]; omega
  have h12 : Below w1.heap.size w1 w2 := (((Below.refl w1.heap.size w1).alloc (Nat.le_refl _) A).alloc (by omega) B).trans (hb.mono (by omega))
  refine ⟨h.trans (h12.mono h.size), h12, (hb.block _ (by omega)).trans ?_⟩
  exact ((World.grownBy_alloc (w1.alloc A) B none).block w1.heap.size (by omega) (by simp)).trans (heap_alloc_new w1 A)
set_option maxRecDepth 100000 in
theorem rs_len {w : World} {a : Option Addr} {n c : Nat} {xs : List Rw} {l : List Rul} (h : Rs w a n c xs) (hl : ruls xs = l) : n = l.length := by rw [← hl, ruls_length, h.1]
set_option maxRecDepth 100000 in
theorem ruls_one {xs : List Rw} {r : Rul} (h : ruls xs = [r]) : ∃ x : Rw, xs = [x] ∧ x.r = r := by
  match xs, h with
  | [x], h => exact ⟨x, rfl, by simpa [ruls] using h⟩

end Go.Proofs.Ytdondndalpmdgaa

/- More steps of regions that draw: guarded ones, picks, comparisons, strings. -/
namespace Go.Proofs.Ytdondndalpmdgaa
open Go Go.RowKit

set_option maxRecDepth 100000 in
theorem StepsTo.guarded {P : Program} {ops : Array Oper} {Q : Exit → Act → World → Prop} {o : Oper} {a : Act} {w : World} {R : Value → World → Prop} (hw : Region.wanted o (yielded ops a.tmps) = true) (h : StepsTo P ops Q { o with guard := none } a w R) : StepsTo P ops Q o a w R := by
  intro K hK
  rw [if_pos hw]
  have := h K hK
  rw [if_pos (by simp [Region.wanted])] at this
  exact this
set_option maxRecDepth 100000 in
theorem StepsTo.passed {P : Program} {ops : Array Oper} {Q : Exit → Act → World → Prop} {o : Oper} {a : Act} {w : World} {R : Value → World → Prop} (hw : Region.wanted o (yielded ops a.tmps) = false) (h : R undef w) : StepsTo P ops Q o a w R := by
  intro K hK
  rw [if_neg (by rw [hw]; decide)]
  exact hK _ _ h
set_option maxRecDepth 100000 in
theorem yielded_of {ops : Array Oper} {a : Act} {j d : Nat} {b : Bool} (hd : (ops[j]?).bind (·.dst) = some d) (h : a.eval (.tmp d) = .bool b) : yielded ops a.tmps j = some b := by
  unfold yielded
  rw [hd]
  have h' : a.tmps.getD d undef = .bool b := h
  rw [Array.getD_eq_getD_getElem?] at h'
  cases ht : a.tmps[d]? with
  | none => rw [ht] at h'; exact absurd h' (by simp [undef])
  | some v =>
    rw [ht] at h'
    simp only [Option.getD_some] at h'
    subst h'
    simp [ht]
set_option maxRecDepth 100000 in
theorem wanted_of {ops : Array Oper} {o : Oper} {a : Act} {j d : Nat} {b : Bool} (hg : o.guard = some (j, b)) (hd : (ops[j]?).bind (·.dst) = some d) (h : a.eval (.tmp d) = .bool b) : Region.wanted o (yielded ops a.tmps) = true := by
  simp [Region.wanted, hg, yielded_of hd h]
set_option maxRecDepth 100000 in
theorem passed_of {ops : Array Oper} {o : Oper} {a : Act} {j d : Nat} {b c : Bool} (hg : o.guard = some (j, b)) (hd : (ops[j]?).bind (·.dst) = some d) (h : a.eval (.tmp d) = .bool c) (hne : c ≠ b) : Region.wanted o (yielded ops a.tmps) = false := by
  simp [Region.wanted, hg, yielded_of hd h, hne]
set_option maxRecDepth 100000 in
theorem StepsTo.load_row {P : Program} {ops : Array Oper} {Q : Exit → Act → World → Prop} {o : Oper} {a : Act} {w : World} {R : Value → World → Prop} (hg : o.guard = none) (ty : TypeId) (x : Operand) (ho : o.op = .load ty x) {g : Nat} (hx : a.eval x = .pointer (some ⟨g, 0, none⟩))
    {t : TypeId} {cs : Array Value} {fr : Nat × Nat} {d : TypeDesc} (hh : w.heap[g]? = some (.cells cs t fr)) (hu : P.underlying ty = some d) (hd : (match d with | .struct _ | .array _ _ => true | _ => false) = true) (hi : (P.info? ty).map (·.size) = some cs.size)
    (hR : R (.agg cs) w) : StepsTo P ops Q o a w R := by
  intro K hK
  rw [if_pos (by simp [Region.wanted, hg])]
  exact wp_load_row ty x ho g hx t cs fr d hh hu hd hi (hK _ _ hR)
set_option maxRecDepth 100000 in
theorem run_pick {P : Program} {o : Oper} {a : Act} {w : World} {c x y : Operand} {b : Bool} {u v : Value} (ho : o.op = .pick c x y) (hc : a.eval c = .bool b) (hx : a.eval x = u) (hy : a.eval y = v) : (execOp a.eval o).run P w = .ok (.value (cond b u v)) w := by
  subst hx hy
  simp only [execOp, ho, hc]
  cases b <;> go_simp
section
variable {o : Oper} {a : Act} {w : World} {x y : Operand}
set_option maxRecDepth 100000 in
theorem run_eqlE {m n : Int} (ho : o.op = .binOp .eql 29 x y 29) (hx : a.eval x = .int .i64 m) (hy : a.eval y = .int .i64 n) : (execOp a.eval o).run Try.prog w = .ok (.value (.bool (m == n))) w := by
  simp only [execOp, ho, hx, hy]
  go_simp
set_option maxRecDepth 100000 in
theorem run_neqE {m n : Int} (ho : o.op = .binOp .neq 29 x y 29) (hx : a.eval x = .int .i64 m) (hy : a.eval y = .int .i64 n) : (execOp a.eval o).run Try.prog w = .ok (.value (.bool (m != n))) w := by
  simp only [execOp, ho, hx, hy]
  go_simp
set_option maxRecDepth 100000 in
theorem run_eqlB {m n : Bool} (ho : o.op = .binOp .eql 4 x y 4) (hx : a.eval x = .bool m) (hy : a.eval y = .bool n) : (execOp a.eval o).run Try.prog w = .ok (.value (.bool (m == n))) w := by
  simp only [execOp, ho, hx, hy]
  go_simp
set_option maxRecDepth 100000 in
theorem run_eqlS {s : ByteArray} (ho : o.op = .binOp .eql 9 x y 9) (hx : a.eval x = .string s) (hy : a.eval y = .string s) : (execOp a.eval o).run Try.prog w = .ok (.value (.bool true)) w := by
  simp only [execOp, ho, hx, hy]
  go_simp
set_option maxRecDepth 100000 in
theorem run_addS {s t : ByteArray} (ho : o.op = .binOp .add 9 x y 9) (hx : a.eval x = .string s) (hy : a.eval y = .string t) (hl : s.size + t.size ≤ 9223372036854775807) : (execOp a.eval o).run Try.prog w = .ok (.value (.string (s ++ t))) w := by
  simp only [execOp, ho, hx, hy]
  go_simp
set_option maxRecDepth 100000 in
theorem run_notB {b : Bool} (ho : o.op = .unOp .not 4 x) (hx : a.eval x = .bool b) : (execOp a.eval o).run Try.prog w = .ok (.value (.bool (!b))) w := by
  simp only [execOp, ho, hx]
  go_simp
set_option maxRecDepth 100000 in
theorem run_str (ho : o.op = .convert 22 9 x) {p : Option Addr} {n c : Nat} {zs : List Int} (hx : a.eval x = .slice p n c) (hs : Sl .u8 w p n c zs) : (execOp a.eval o).run Try.prog w = .ok (.value (.string (strOfNums zs))) w := by
  simp [execOp, ho, hx, hs.str, Result.andThen]
end

end Go.Proofs.Ytdondndalpmdgaa

/- Steps of layer 7's laws: a told line's rules, loaded, cut and compared; how long a written rule is. -/
namespace Go.Proofs.Ytdondndalpmdgaa
open Go Go.RowKit

section
variable {o : Oper} {a : Act} {w : World} {x y z : Operand} {ts : Array TypeId} {u v : Value}
set_option maxRecDepth 100000 in
theorem run_faddr {g : Nat} (k : Nat) (hk : k < 2) (ho : o.op = .fieldAddr 41 x k) (hx : a.eval x = .pointer (some ⟨g, 0, none⟩)) : (execOp a.eval o).run Try.prog w = .ok (.value (.pointer (some ⟨g, k, none⟩))) w := by
  match k, hk with
  | 0, _ => simp only [execOp, ho, hx]; go_simp
  | 1, _ => simp only [execOp, ho, hx]; go_simp
set_option maxRecDepth 100000 in
theorem ldd_rules (a : Option Addr) (n c : Nat) : Ldd 24 (.slice a n c) := by
  intro b off w hc
  go_simp
set_option maxRecDepth 100000 in
theorem run_idxR {b off n c k : Nat} (ho : o.op = .indexAddr 24 x y) (hx : a.eval x = .slice (some ⟨b, off, none⟩) n c) (hy : a.eval y = .int .i64 (k : Int)) (hk : k < n) : (execOp a.eval o).run Try.prog w = .ok (.value (.pointer (some ⟨b, off + k * 3, none⟩))) w := by
  have hk' : (k : Int) < (n : Int) := by omega
  simp only [execOp, ho, hx, hy]
  go_simp
set_option maxRecDepth 100000 in
theorem run_loadRule {b off : Nat} {p q r : Value} (ho : o.op = .load 48 x) (hx : a.eval x = .pointer (some ⟨b, off, none⟩)) (h0 : w.cell? ⟨b, off, none⟩ = some p) (h1 : w.cell? ⟨b, off + 1, none⟩ = some q) (h2 : w.cell? ⟨b, off + 2, none⟩ = some r) : (execOp a.eval o).run Try.prog w = .ok (.value (.agg #[p, q, r])) w := by
  simp only [execOp, ho, hx]
  go_simp
set_option maxRecDepth 100000 in
theorem run_addI {m n : Int} (ho : o.op = .binOp .add 3 x y 3) (hx : a.eval x = .int .i64 m) (hy : a.eval y = .int .i64 n) (h : 0 ≤ m ∧ 0 ≤ n ∧ m + n < 9223372036854775808) : (execOp a.eval o).run Try.prog w = .ok (.value (.int .i64 (m + n))) w := by
  have hb : IntKind.wrap .i64 (m + n) = m + n := by simp [IntKind.wrap, IntKind.bits, IntKind.signed]; omega
  simp only [execOp, ho, hx, hy]
  go_simp
set_option maxRecDepth 100000 in
theorem run_sliceR {b off n c k p q r : Nat} (ho : o.op = .slice 24 (.tmp p) (some (.tmp q)) (some (.tmp r)) none) (hx : a.eval (.tmp p) = .slice (some ⟨b, off, none⟩) n c) (hy : a.eval (.tmp q) = .int .i64 (k : Int)) (hz : a.eval (.tmp r) = .int .i64 ((k : Int) + 1)) (hk : k < n) (hc : n ≤ c) (hcm : c ≤ 9223372036854775807) : (execOp a.eval o).run Try.prog w = .ok (.value (.slice (some ⟨b, off + k * 3, none⟩) 1 (c - k))) w := by
  have h1 : (0 : Int) ≤ (k : Int) := by omega
  have h2 : (k : Int) + 1 ≤ (c : Int) := by omega
  have h3 : (k : Int) ≤ (k : Int) + 1 := by omega
  have h4 : ¬ c = k := by omega
  have h5 : ((k : Int) + 1).toNat = k + 1 := by omega
  have h6 : k ≤ k + 1 := by omega
  have h7 : k + 1 ≤ c := by omega
  have hx' : a.tmps[p]?.getD undef = .slice (some ⟨b, off, none⟩) n c := by simpa [Act.eval] using hx
  have hy' : a.tmps[q]?.getD undef = .int .i64 (k : Int) := by simpa [Act.eval] using hy
  have hz' : a.tmps[r]?.getD undef = .int .i64 ((k : Int) + 1) := by simpa [Act.eval] using hz
  simp only [execOp, ho]
  go_simp
set_option maxRecDepth 100000 in
theorem run_sameR (ho : o.op = .call { callee := .value (.func 15), args := #[x, y], argTypes := ts }) (hx : a.eval x = u) (hy : a.eval y = v) : (execOp a.eval o).run Try.prog w = .ok (.enter 15 #[u, v]) w := by
  subst hx hy
  simp only [execOp, ho]
  go_simp
set_option maxRecDepth 100000 in
theorem run_fitR (ho : o.op = .call { callee := .value (.func 40), args := #[x], argTypes := ts }) (hx : a.eval x = v) : (execOp a.eval o).run Try.prog w = .ok (.enter 40 #[v]) w := by
  subst hx
  simp only [execOp, ho]
  go_simp
end

set_option maxRecDepth 100000 in
theorem field_len7 {l : List Int} (h : l.length ≤ 100) : (Spec.field l).length ≤ 400 := by
  unfold Spec.field
  split
  · simp
  · have := Utf.put_length_le l; omega
set_option maxRecDepth 100000 in
theorem write_len {r : Rul} (hl : r.L.length ≤ 100) (hr : r.R.length ≤ 100) (h0 : 0 ≤ r.C) (h1 : r.C < 18446744073709551616) : (Spec.write r).length ≤ 1000 := by
  have a := field_len7 hl
  have b := field_len7 hr
  have c : (Num.dig r.C.toNat).length ≤ 20 := Num.len_20 (by omega)
  unfold Spec.write
  simp only [List.length_append, List.length_cons, List.length_nil]
  omega
set_option maxRecDepth 100000 in
theorem fit_short {r : Rul} (h : Spec.fit r = true) : r.L.length ≤ 8 ∧ r.R.length ≤ 8 := by
  have hc := (Spec.fit_parts h).1
  unfold chk goodL at hc
  simp only [Bool.and_eq_true, decide_eq_true_eq] at hc
  exact ⟨hc.1.1.1.2, hc.1.1.2.2⟩
set_option maxRecDepth 100000 in
theorem ruls_piece {xs : List Rw} {i : Nat} {r : Rul} (h : i < xs.length) (hr : (xs.getD i Rw.no).r = r) : ruls ((xs.drop i).take 1) = [r] := by
  have e : (xs.drop i).take 1 = [xs.getD i Rw.no] := by
    have e : xs.getD i Rw.no = xs[i] := by simp [h]
    rw [List.drop_eq_getElem_cons h, List.take_succ_cons, List.take_zero, e]
  rw [e, ← hr]; rfl
set_option maxRecDepth 100000 in
theorem ruls_in {xs : List Rw} {i : Nat} (h : i < xs.length) : (xs.getD i Rw.no).r ∈ ruls xs := by
  have : xs.getD i Rw.no = xs[i] := by simp [h]
  rw [this]
  exact List.mem_map.2 ⟨_, List.getElem_mem h, rfl⟩

end Go.Proofs.Ytdondndalpmdgaa
