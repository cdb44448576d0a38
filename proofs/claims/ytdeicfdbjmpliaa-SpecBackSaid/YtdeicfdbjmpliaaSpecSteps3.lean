/- Steps of layer 7's laws: a told line's rules, loaded, cut and compared; how long a written rule is. -/
import Derived.Test.YtdeicfdbjmpliaaSpecAwake
import Derived.Test.YtdeicfdbjmpliaaSpecSteps2
namespace Go.Proofs.Ytdeicfdbjmpliaa
open Go Go.RowKit

section
variable {o : Oper} {a : Act} {w : World} {x y z : Operand} {ts : Array TypeId} {u v : Value}
set_option maxRecDepth 100000 in
theorem run_faddr {g : Nat} (k : Nat) (hk : k < 2) (ho : o.op = .fieldAddr 32 x k) (hx : a.eval x = .pointer (some ⟨g, 0, none⟩)) : (execOp a.eval o).run Try.prog w = .ok (.value (.pointer (some ⟨g, k, none⟩))) w := by
  match k, hk with
  | 0, _ => simp only [execOp, ho, hx]; go_simp
  | 1, _ => simp only [execOp, ho, hx]; go_simp
set_option maxRecDepth 100000 in
theorem ldd_rules (a : Option Addr) (n c : Nat) : Ldd 29 (.slice a n c) := by
  intro b off w hc
  go_simp
set_option maxRecDepth 100000 in
theorem run_idxR {b off n c k : Nat} (ho : o.op = .indexAddr 29 x y) (hx : a.eval x = .slice (some ⟨b, off, none⟩) n c) (hy : a.eval y = .int .i64 (k : Int)) (hk : k < n) : (execOp a.eval o).run Try.prog w = .ok (.value (.pointer (some ⟨b, off + k * 3, none⟩))) w := by
  have hk' : (k : Int) < (n : Int) := by omega
  simp only [execOp, ho, hx, hy]
  go_simp
set_option maxRecDepth 100000 in
theorem run_loadRule {b off : Nat} {p q r : Value} (ho : o.op = .load 26 x) (hx : a.eval x = .pointer (some ⟨b, off, none⟩)) (h0 : w.cell? ⟨b, off, none⟩ = some p) (h1 : w.cell? ⟨b, off + 1, none⟩ = some q) (h2 : w.cell? ⟨b, off + 2, none⟩ = some r) : (execOp a.eval o).run Try.prog w = .ok (.value (.agg #[p, q, r])) w := by
  simp only [execOp, ho, hx]
  go_simp
set_option maxRecDepth 100000 in
theorem run_addI {m n : Int} (ho : o.op = .binOp .add 3 x y 3) (hx : a.eval x = .int .i64 m) (hy : a.eval y = .int .i64 n) (h : 0 ≤ m ∧ 0 ≤ n ∧ m + n < 9223372036854775808) : (execOp a.eval o).run Try.prog w = .ok (.value (.int .i64 (m + n))) w := by
  have hb : IntKind.wrap .i64 (m + n) = m + n := by simp [IntKind.wrap, IntKind.bits, IntKind.signed]; omega
  simp only [execOp, ho, hx, hy]
  go_simp
set_option maxRecDepth 100000 in
theorem run_sliceR {b off n c k p q r : Nat} (ho : o.op = .slice 29 (.tmp p) (some (.tmp q)) (some (.tmp r)) none) (hx : a.eval (.tmp p) = .slice (some ⟨b, off, none⟩) n c) (hy : a.eval (.tmp q) = .int .i64 (k : Int)) (hz : a.eval (.tmp r) = .int .i64 ((k : Int) + 1)) (hk : k < n) (hc : n ≤ c) (hcm : c ≤ 9223372036854775807) : (execOp a.eval o).run Try.prog w = .ok (.value (.slice (some ⟨b, off + k * 3, none⟩) 1 (c - k))) w := by
  have h1 : (0 : Int) ≤ (k : Int) := by omega
  have h2 : (k : Int) + 1 ≤ (c : Int) := by omega
  have h3 : (k : Int) ≤ (k : Int) + 1 := by omega
  have h4 : ¬ c = k := by omega
  have h5 : ((k : Int) + 1).toNat = k + 1 := by omega
  have h6 : k ≤ k + 1 := by omega
  have h7 : k + 1 ≤ c := by omega
  have hx' : a.tmps[p]?.getD undef = .slice (some ⟨b, off, none⟩) n c := by simpa [Act.eval] using hx
  have hy' : a.tmps[q]?.getD undef = .int .i64 (k : Int) := by simpa [Act.eval] using hy
  have hz' : a.tmps[r]?.getD undef = .int .i64 ((k : Int) + 1) := by simpa [Act.eval] using hz
  simp only [execOp, ho]
  go_simp
set_option maxRecDepth 100000 in
theorem run_sameR (ho : o.op = .call { callee := .value (.func 17), args := #[x, y], argTypes := ts }) (hx : a.eval x = u) (hy : a.eval y = v) : (execOp a.eval o).run Try.prog w = .ok (.enter 17 #[u, v]) w := by
  subst hx hy
  simp only [execOp, ho]
  go_simp
set_option maxRecDepth 100000 in
theorem run_fitR (ho : o.op = .call { callee := .value (.func 15), args := #[x], argTypes := ts }) (hx : a.eval x = v) : (execOp a.eval o).run Try.prog w = .ok (.enter 15 #[v]) w := by
  subst hx
  simp only [execOp, ho]
  go_simp
end

set_option maxRecDepth 100000 in
theorem field_len7 {l : List Int} (h : l.length ≤ 100) : (Spec.field l).length ≤ 400 := by
  unfold Spec.field
  split
  · simp
  · have := Utf.put_length_le l; omega
set_option maxRecDepth 100000 in
theorem write_len {r : Rul} (hl : r.L.length ≤ 100) (hr : r.R.length ≤ 100) (h0 : 0 ≤ r.C) (h1 : r.C < 18446744073709551616) : (Spec.write r).length ≤ 1000 := by
  have a := field_len7 hl
  have b := field_len7 hr
  have c : (Num.dig r.C.toNat).length ≤ 20 := Num.len_20 (by omega)
  unfold Spec.write
  simp only [List.length_append, List.length_cons, List.length_nil]
  omega
set_option maxRecDepth 100000 in
theorem fit_short {r : Rul} (h : Spec.fit r = true) : r.L.length ≤ 8 ∧ r.R.length ≤ 8 := by
  have hc := (Spec.fit_parts h).1
  unfold chk goodL at hc
  simp only [Bool.and_eq_true, decide_eq_true_eq] at hc
  exact ⟨hc.1.1.1.2, hc.1.1.2.2⟩
set_option maxRecDepth 100000 in
theorem ruls_piece {xs : List Rw} {i : Nat} {r : Rul} (h : i < xs.length) (hr : (xs.getD i Rw.no).r = r) : ruls ((xs.drop i).take 1) = [r] := by
  have e : (xs.drop i).take 1 = [xs.getD i Rw.no] := by
    have e : xs.getD i Rw.no = xs[i] := by simp [h]
    rw [List.drop_eq_getElem_cons h, List.take_succ_cons, List.take_zero, e]
  rw [e, ← hr]; rfl
set_option maxRecDepth 100000 in
theorem ruls_in {xs : List Rw} {i : Nat} (h : i < xs.length) : (xs.getD i Rw.no).r ∈ ruls xs := by
  have : xs.getD i Rw.no = xs[i] := by simp [h]
  rw [this]
  exact List.mem_map.2 ⟨_, List.getElem_mem h, rfl⟩

end Go.Proofs.Ytdeicfdbjmpliaa
