import Derived.Test.YtdeicfdbjmpliaaSpecSteps
import Derived.Test.YtdeicfdbjmpliaaGenStr
import Derived.Test.YtdeicfdbjmpliaaPackB
import Derived.Test.YtdeicfdbjmpliaaSpecAwake
import Derived.Lib.ConvBytes
import Derived.OwnWalk
import Derived.Test.YtdeicfdbjmpliaaPackA
import Derived.Test.YtdeicfdbjmpliaaRuleNormW
/- More steps of regions that draw: guarded ones, picks, comparisons, strings. -/
namespace Go.Proofs.Ytdeicfdbjmpliaa
open Go Go.RowKit

set_option maxRecDepth 100000 in
theorem StepsTo.guarded {P : Program} {ops : Array Oper} {Q : Exit → Act → World → Prop} {o : Oper} {a : Act} {w : World} {R : Value → World → Prop} (hw : Region.wanted o (yielded ops a.tmps) = true) (h : StepsTo P ops Q { o with guard := none } a w R) : StepsTo P ops Q o a w R := by
  intro K hK
  rw [if_pos hw]
  have := h K hK
  rw [if_pos (by simp [Region.wanted])] at this
  exact this
set_option maxRecDepth 100000 in
theorem StepsTo.passed {P : Program} {ops : Array Oper} {Q : Exit → Act → World → Prop} {o : Oper} {a : Act} {w : World} {R : Value → World → Prop} (hw : Region.wanted o (yielded ops a.tmps) = false) (h : R undef w) : StepsTo P ops Q o a w R := by
  intro K hK
  rw [if_neg (by rw [hw]; decide)]
  exact hK _ _ h
set_option maxRecDepth 100000 in
theorem yielded_of {ops : Array Oper} {a : Act} {j d : Nat} {b : Bool} (hd : (ops[j]?).bind (·.dst) = some d) (h : a.eval (.tmp d) = .bool b) : yielded ops a.tmps j = some b := by
  unfold yielded
  rw [hd]
  have h' : a.tmps.getD d undef = .bool b := h
  rw [Array.getD_eq_getD_getElem?] at h'
  cases ht : a.tmps[d]? with
  | none => rw [ht] at h'; exact absurd h' (by simp [undef])
  | some v =>
    rw [ht] at h'
    simp only [Option.getD_some] at h'
    subst h'
    simp [ht]
set_option maxRecDepth 100000 in
theorem wanted_of {ops : Array Oper} {o : Oper} {a : Act} {j d : Nat} {b : Bool} (hg : o.guard = some (j, b)) (hd : (ops[j]?).bind (·.dst) = some d) (h : a.eval (.tmp d) = .bool b) : Region.wanted o (yielded ops a.tmps) = true := by
  simp [Region.wanted, hg, yielded_of hd h]
set_option maxRecDepth 100000 in
theorem passed_of {ops : Array Oper} {o : Oper} {a : Act} {j d : Nat} {b c : Bool} (hg : o.guard = some (j, b)) (hd : (ops[j]?).bind (·.dst) = some d) (h : a.eval (.tmp d) = .bool c) (hne : c ≠ b) : Region.wanted o (yielded ops a.tmps) = false := by
  simp [Region.wanted, hg, yielded_of hd h, hne]
set_option maxRecDepth 100000 in
theorem StepsTo.load_row {P : Program} {ops : Array Oper} {Q : Exit → Act → World → Prop} {o : Oper} {a : Act} {w : World} {R : Value → World → Prop} (hg : o.guard = none) (ty : TypeId) (x : Operand) (ho : o.op = .load ty x) {g : Nat} (hx : a.eval x = .pointer (some ⟨g, 0, none⟩))
    {t : TypeId} {cs : Array Value} {fr : Nat × Nat} {d : TypeDesc} (hh : w.heap[g]? = some (.cells cs t fr)) (hu : P.underlying ty = some d) (hd : (match d with | .struct _ | .array _ _ => true | _ => false) = true) (hi : (P.info? ty).map (·.size) = some cs.size)
    (hR : R (.agg cs) w) : StepsTo P ops Q o a w R := by
  intro K hK
  rw [if_pos (by simp [Region.wanted, hg])]
  exact wp_load_row ty x ho g hx t cs fr d hh hu hd hi (hK _ _ hR)
set_option maxRecDepth 100000 in
theorem run_pick {P : Program} {o : Oper} {a : Act} {w : World} {c x y : Operand} {b : Bool} {u v : Value} (ho : o.op = .pick c x y) (hc : a.eval c = .bool b) (hx : a.eval x = u) (hy : a.eval y = v) : (execOp a.eval o).run P w = .ok (.value (cond b u v)) w := by
  subst hx hy
  simp only [execOp, ho, hc]
  cases b <;> go_simp
section
variable {o : Oper} {a : Act} {w : World} {x y : Operand}
set_option maxRecDepth 100000 in
theorem run_eqlE {m n : Int} (ho : o.op = .binOp .eql 33 x y 33) (hx : a.eval x = .int .i64 m) (hy : a.eval y = .int .i64 n) : (execOp a.eval o).run Try.prog w = .ok (.value (.bool (m == n))) w := by
  simp only [execOp, ho, hx, hy]
  go_simp
set_option maxRecDepth 100000 in
theorem run_neqE {m n : Int} (ho : o.op = .binOp .neq 33 x y 33) (hx : a.eval x = .int .i64 m) (hy : a.eval y = .int .i64 n) : (execOp a.eval o).run Try.prog w = .ok (.value (.bool (m != n))) w := by
  simp only [execOp, ho, hx, hy]
  go_simp
set_option maxRecDepth 100000 in
theorem run_eqlB {m n : Bool} (ho : o.op = .binOp .eql 4 x y 4) (hx : a.eval x = .bool m) (hy : a.eval y = .bool n) : (execOp a.eval o).run Try.prog w = .ok (.value (.bool (m == n))) w := by
  simp only [execOp, ho, hx, hy]
  go_simp
set_option maxRecDepth 100000 in
theorem run_eqlS {s : ByteArray} (ho : o.op = .binOp .eql 9 x y 9) (hx : a.eval x = .string s) (hy : a.eval y = .string s) : (execOp a.eval o).run Try.prog w = .ok (.value (.bool true)) w := by
  simp only [execOp, ho, hx, hy]
  go_simp
set_option maxRecDepth 100000 in
theorem run_addS {s t : ByteArray} (ho : o.op = .binOp .add 9 x y 9) (hx : a.eval x = .string s) (hy : a.eval y = .string t) (hl : s.size + t.size ≤ 9223372036854775807) : (execOp a.eval o).run Try.prog w = .ok (.value (.string (s ++ t))) w := by
  simp only [execOp, ho, hx, hy]
  go_simp
set_option maxRecDepth 100000 in
theorem run_notB {b : Bool} (ho : o.op = .unOp .not 4 x) (hx : a.eval x = .bool b) : (execOp a.eval o).run Try.prog w = .ok (.value (.bool (!b))) w := by
  simp only [execOp, ho, hx]
  go_simp
set_option maxRecDepth 100000 in
theorem run_str (ho : o.op = .convert 22 9 x) {p : Option Addr} {n c : Nat} {zs : List Int} (hx : a.eval x = .slice p n c) (hs : Sl .u8 w p n c zs) : (execOp a.eval o).run Try.prog w = .ok (.value (.string (strOfNums zs))) w := by
  simp [execOp, ho, hx, hs.str, Result.andThen]
end

end Go.Proofs.Ytdeicfdbjmpliaa

/- Steps of layer 7's laws: a told line's rules, loaded, cut and compared; how long a written rule is. -/
namespace Go.Proofs.Ytdeicfdbjmpliaa
open Go Go.RowKit

section
variable {o : Oper} {a : Act} {w : World} {x y z : Operand} {ts : Array TypeId} {u v : Value}
set_option maxRecDepth 100000 in
theorem run_faddr {g : Nat} (k : Nat) (hk : k < 2) (ho : o.op = .fieldAddr 32 x k) (hx : a.eval x = .pointer (some ⟨g, 0, none⟩)) : (execOp a.eval o).run Try.prog w = .ok (.value (.pointer (some ⟨g, k, none⟩))) w := by
  match k, hk with
  | 0, _ => simp only [execOp, ho, hx]; go_simp
  | 1, _ => simp only [execOp, ho, hx]; go_simp
set_option maxRecDepth 100000 in
theorem ldd_rules (a : Option Addr) (n c : Nat) : Ldd 29 (.slice a n c) := by
  intro b off w hc
  go_simp
set_option maxRecDepth 100000 in
theorem run_idxR {b off n c k : Nat} (ho : o.op = .indexAddr 29 x y) (hx : a.eval x = .slice (some ⟨b, off, none⟩) n c) (hy : a.eval y = .int .i64 (k : Int)) (hk : k < n) : (execOp a.eval o).run Try.prog w = .ok (.value (.pointer (some ⟨b, off + k * 3, none⟩))) w := by
  have hk' : (k : Int) < (n : Int) := by omega
  simp only [execOp, ho, hx, hy]
  go_simp
set_option maxRecDepth 100000 in
theorem run_loadRule {b off : Nat} {p q r : Value} (ho : o.op = .load 26 x) (hx : a.eval x = .pointer (some ⟨b, off, none⟩)) (h0 : w.cell? ⟨b, off, none⟩ = some p) (h1 : w.cell? ⟨b, off + 1, none⟩ = some q) (h2 : w.cell? ⟨b, off + 2, none⟩ = some r) : (execOp a.eval o).run Try.prog w = .ok (.value (.agg #[p, q, r])) w := by
  simp only [execOp, ho, hx]
  go_simp
set_option maxRecDepth 100000 in
theorem run_addI {m n : Int} (ho : o.op = .binOp .add 3 x y 3) (hx : a.eval x = .int .i64 m) (hy : a.eval y = .int .i64 n) (h : 0 ≤ m ∧ 0 ≤ n ∧ m + n < 9223372036854775808) : (execOp a.eval o).run Try.prog w = .ok (.value (.int .i64 (m + n))) w := by
  have hb : IntKind.wrap .i64 (m + n) = m + n := by simp [IntKind.wrap, IntKind.bits, IntKind.signed]; omega
  simp only [execOp, ho, hx, hy]
  go_simp
set_option maxRecDepth 100000 in
theorem run_sliceR {b off n c k p q r : Nat} (ho : o.op = .slice 29 (.tmp p) (some (.tmp q)) (some (.tmp r)) none) (hx : a.eval (.tmp p) = .slice (some ⟨b, off, none⟩) n c) (hy : a.eval (.tmp q) = .int .i64 (k : Int)) (hz : a.eval (.tmp r) = .int .i64 ((k : Int) + 1)) (hk : k < n) (hc : n ≤ c) (hcm : c ≤ 9223372036854775807) : (execOp a.eval o).run Try.prog w = .ok (.value (.slice (some ⟨b, off + k * 3, none⟩) 1 (c - k))) w := by
  have h1 : (0 : Int) ≤ (k : Int) := by omega
  have h2 : (k : Int) + 1 ≤ (c : Int) := by omega
  have h3 : (k : Int) ≤ (k : Int) + 1 := by omega
  have h4 : ¬ c = k := by omega
  have h5 : ((k : Int) + 1).toNat = k + 1 := by omega
  have h6 : k ≤ k + 1 := by omega
  have h7 : k + 1 ≤ c := by omega
  have hx' : a.tmps[p]?.getD undef = .slice (some ⟨b, off, none⟩) n c := by simpa [Act.eval] using hx
  have hy' : a.tmps[q]?.getD undef = .int .i64 (k : Int) := by simpa [Act.eval] using hy
  have hz' : a.tmps[r]?.getD undef = .int .i64 ((k : Int) + 1) := by simpa [Act.eval] using hz
  simp only [execOp, ho]
  go_simp
set_option maxRecDepth 100000 in
theorem run_sameR (ho : o.op = .call { callee := .value (.func 17), args := #[x, y], argTypes := ts }) (hx : a.eval x = u) (hy : a.eval y = v) : (execOp a.eval o).run Try.prog w = .ok (.enter 17 #[u, v]) w := by
  subst hx hy
  simp only [execOp, ho]
  go_simp
set_option maxRecDepth 100000 in
theorem run_fitR (ho : o.op = .call { callee := .value (.func 15), args := #[x], argTypes := ts }) (hx : a.eval x = v) : (execOp a.eval o).run Try.prog w = .ok (.enter 15 #[v]) w := by
  subst hx
  simp only [execOp, ho]
  go_simp
end

set_option maxRecDepth 100000 in
theorem field_len7 {l : List Int} (h : l.length ≤ 100) : (Spec.field l).length ≤ 400 := by
  unfold Spec.field
  split
  · simp
  · have := Utf.put_length_le l; omega
set_option maxRecDepth 100000 in
theorem write_len {r : Rul} (hl : r.L.length ≤ 100) (hr : r.R.length ≤ 100) (h0 : 0 ≤ r.C) (h1 : r.C < 18446744073709551616) : (Spec.write r).length ≤ 1000 := by
  have a := field_len7 hl
  have b := field_len7 hr
  have c : (Num.dig r.C.toNat).length ≤ 20 := Num.len_20 (by omega)
  unfold Spec.write
  simp only [List.length_append, List.length_cons, List.length_nil]
  omega
set_option maxRecDepth 100000 in
theorem fit_short {r : Rul} (h : Spec.fit r = true) : r.L.length ≤ 8 ∧ r.R.length ≤ 8 := by
  have hc := (Spec.fit_parts h).1
  unfold chk goodL at hc
  simp only [Bool.and_eq_true, decide_eq_true_eq] at hc
  exact ⟨hc.1.1.1.2, hc.1.1.2.2⟩
set_option maxRecDepth 100000 in
theorem ruls_piece {xs : List Rw} {i : Nat} {r : Rul} (h : i < xs.length) (hr : (xs.getD i Rw.no).r = r) : ruls ((xs.drop i).take 1) = [r] := by
  have e : (xs.drop i).take 1 = [xs.getD i Rw.no] := by
    have e : xs.getD i Rw.no = xs[i] := by simp [h]
    rw [List.drop_eq_getElem_cons h, List.take_succ_cons, List.take_zero, e]
  rw [e, ← hr]; rfl
set_option maxRecDepth 100000 in
theorem ruls_in {xs : List Rw} {i : Nat} (h : i < xs.length) : (xs.getD i Rw.no).r ∈ ruls xs := by
  have : xs.getD i Rw.no = xs[i] := by simp [h]
  rw [this]
  exact List.mem_map.2 ⟨_, List.getElem_mem h, rfl⟩

end Go.Proofs.Ytdeicfdbjmpliaa

/- Steps of SpecMany and SpecBoth: a line put together of strings, told, and laid into a box of the law's own; append of numbers. -/
namespace Go.Proofs.Ytdeicfdbjmpliaa
open Go Go.RowKit

set_option maxRecDepth 100000 in
theorem str_app (a b : List Int) : strOfNums a ++ strOfNums b = strOfNums (a ++ b) := by
  apply ByteArray.ext
  simp [strOfNums]
set_option maxRecDepth 100000 in
theorem str_size (a : List Int) : (strOfNums a).size = a.length := by
  simp [strOfNums, ByteArray.size]
set_option maxRecDepth 100000 in
theorem grown_bytesWorld (w : World) (e : TypeId) (s : ByteArray) : w.grownBy (Lib.bytesWorld w e s) none := by
  refine ⟨?_, ?_, ?_, ?_, fun k hk _ => Lib.bytesWorld_at_old w e s k hk⟩
  · rfl
  · rfl
  · rfl
  · rw [Lib.bytesWorld_size]; omega
section
variable {o : Oper} {a : Act} {w : World} {x y : Operand} {ts : Array TypeId} {v : Value}
set_option maxRecDepth 100000 in
theorem run_conv_back {zs : List Int} (hz : ∀ z ∈ zs, (Lit.int .u8 z).wf = true) (ho : o.op = .convert 9 22 x) (hx : a.eval x = .string (strOfNums zs)) (hl : zs.length ≤ 100000) :
    ∃ c w', (execOp a.eval o).run Try.prog w = .ok (.value (.slice (some ⟨w.heap.size, 0, none⟩) zs.length c)) w' ∧ Sl .u8 w' (some ⟨w.heap.size, 0, none⟩) zs.length c zs ∧ w.grownBy w' none := by
  have h := Lib.run_convert_string_bytes (P := Try.prog) w 9 22 5 (strOfNums zs) Try.underlying9 Try.underlying22 Try.underlying5
  refine ⟨grownCap w (strOfNums zs).size 0 5, Lib.bytesWorld w 5 (strOfNums zs), ?_, ⟨rfl, ?_, ?_, hz, ?_⟩, grown_bytesWorld _ _ _⟩
  · rw [← str_size zs]
    simp [execOp, ho, hx, h, Result.andThen]
  · have := grownCap_ge w (strOfNums zs).size 0 5
    rw [str_size] at this; rw [str_size]; exact this
  · exact grownCap_le_maxLen w _ 0 5 (by rw [str_size]; unfold maxLen; omega)
  · refine .inr ⟨w.heap.size, 0, rfl, fun i hi => ?_⟩
    have hc := Lib.bytesWorld_cell w 5 (strOfNums zs) i (by rw [str_size]; exact hi)
    rw [Nat.zero_add, hc]
    have hb := hz (zs.getD i 0) (by
      rw [List.getD_eq_getElem?_getD, List.getElem?_eq_getElem hi]; exact List.getElem_mem hi)
    have hr := bounds_u8 hb
    have e : (strOfNums zs).data.toList.getD i 0 = UInt8.ofNat (zs.getD i 0).toNat := by
      simp [strOfNums, hi]
    rw [e]
    clear hc hb e
    generalize zs.getD i 0 = z at *
    congr 2
    simp
    omega
set_option maxRecDepth 100000 in
theorem steps_conv_back {ops : Array Oper} {Q : Exit → Act → World → Prop} {R : Value → World → Prop} {zs : List Int} (hz : ∀ z ∈ zs, (Lit.int .u8 z).wf = true) (hl : zs.length ≤ 100000) (hg : o.guard = none) (ho : o.op = .convert 9 22 x) (hx : a.eval x = .string (strOfNums zs))
    (hR : ∀ d w', Sl .u8 w' (some ⟨w.heap.size, 0, none⟩) zs.length d zs → w.grownBy w' none → R (.slice (some ⟨w.heap.size, 0, none⟩) zs.length d) w') : StepsTo Try.prog ops Q o a w R := by
  obtain ⟨d, w', hrun, hs, hgr⟩ := run_conv_back hz ho hx hl
  exact StepsTo.of_run hg hrun (hR d w' hs hgr)
set_option maxRecDepth 100000 in
theorem run_read7 (ho : o.op = .call { callee := .value (.func 10), args := #[x], argTypes := ts }) (hx : a.eval x = v) : (execOp a.eval o).run Try.prog w = .ok (.enter 10 #[v]) w := by
  subst hx
  simp only [execOp, ho]
  go_simp
set_option maxRecDepth 100000 in
theorem passed_undef {ops : Array Oper} {j d : Nat} {b : Bool} (hg : o.guard = some (j, b)) (hd : (ops[j]?).bind (·.dst) = some d) (h : a.eval (.tmp d) = undef) : Region.wanted o (yielded ops a.tmps) = false := by
  have hy : yielded ops a.tmps j = none := by
    unfold yielded
    rw [hd]
    have h' : a.tmps.getD d undef = undef := h
    rw [Array.getD_eq_getD_getElem?] at h'
    cases ht : a.tmps[d]? with
    | none => simp [ht]
    | some v =>
      rw [ht] at h'
      simp only [Option.getD_some] at h'
      subst h'
      simp [ht, undef]
  simp [Region.wanted, hg, hy]
set_option maxRecDepth 100000 in
theorem run_faddrR {b off : Nat} (k : Nat) (hk : k < 2) (ho : o.op = .fieldAddr 26 x k) (hx : a.eval x = .pointer (some ⟨b, off, none⟩)) : (execOp a.eval o).run Try.prog w = .ok (.value (.pointer (some ⟨b, off + k, none⟩))) w := by
  match k, hk with
  | 0, _ => simp only [execOp, ho, hx]; go_simp
  | 1, _ => simp only [execOp, ho, hx]; go_simp
set_option maxRecDepth 100000 in
theorem run_sameI {u : Value} (ho : o.op = .call { callee := .value (.func 21), args := #[x, y], argTypes := ts }) (hx : a.eval x = u) (hy : a.eval y = v) : (execOp a.eval o).run Try.prog w = .ok (.enter 21 #[u, v]) w := by
  subst hx hy
  simp only [execOp, ho]
  go_simp
end

/-! ### what is told of a line that is read into a box -/
def Str7 (w : World) (zs : List Int) (v : Value) : Prop := ∃ g c, v = .slice g zs.length c ∧ Sl .u8 w g zs.length c zs ∧ (g = none → c = 0)
def Told7 (w : World) (E : Int) (RL : List Rul) (v : Value) : Prop := ∃ ba bn bc ra rn rc ys, v = .tuple #[.agg #[.slice ba bn bc, .slice ra rn rc], .int .i64 E] ∧ Rs w ra rn rc ys ∧ ruls ys = RL
def Agg7 (w : World) (RL : List Rul) (v : Value) : Prop := ∃ ba bn bc ra rn rc ys, v = .agg #[.slice ba bn bc, .slice ra rn rc] ∧ Rs w ra rn rc ys ∧ ruls ys = RL
def Box7 (w : World) (B : Nat) (v : Value) : Prop := ∃ g x n c y m d, v = .pointer (some ⟨g, 0, none⟩) ∧ B ≤ g ∧ w.heap[g]? = some (.cells #[.slice x n c, .slice y m d] 32 (0, 0))
def Full7 (w : World) (B : Nat) (RL : List Rul) (v : Value) : Prop := ∃ g ba bn bc ra rn rc ys, v = .pointer (some ⟨g, 0, none⟩) ∧ B ≤ g ∧ w.heap[g]? = some (.cells #[.slice ba bn bc, .slice ra rn rc] 32 (0, 0)) ∧ Rs w ra rn rc ys ∧ ruls ys = RL
def Turn7 (B : Nat) (w w' : World) : Prop := ∃ g x n c y m d x' n' c' y' m' d', B ≤ g ∧ w.heap[g]? = some (.cells #[.slice x n c, .slice y m d] 32 (0, 0)) ∧ w.grownBy w' (some g) ∧ w'.heap[g]? = some (.cells #[.slice x' n' c', .slice y' m' d'] 32 (0, 0))

set_option maxRecDepth 100000 in
theorem below_of {w w' : World} (h : w.grownBy w' none) : Below w.heap.size w w' := ⟨h.os, h.tape, h.output, h.size, fun k hk => h.block k hk (by simp)⟩
set_option maxRecDepth 100000 in
theorem no_int_box {w : World} {g off : Nat} {k : IntKind} {z : Int} {x y : Option Addr} {n c m d : Nat} {t : TypeId} {fr : Nat × Nat} (hb : w.heap[g]? = some (.cells #[.slice x n c, .slice y m d] t fr)) (h : w.cell? ⟨g, off, none⟩ = some (.int k z)) : False := by
  match off with
  | 0 => simp [World.cell?, hb] at h
  | 1 => simp [World.cell?, hb] at h
  | j + 2 => simp [World.cell?, hb] at h
set_option maxRecDepth 100000 in
theorem Slf.box {k : IntKind} {w : World} {g : Nat} {a : Option Addr} {q cap : Nat} {zs : List Int} {x y : Option Addr} {n c m d : Nat} {t : TypeId} {fr : Nat × Nat} (h : Sl k w a q cap zs) (hb : w.heap[g]? = some (.cells #[.slice x n c, .slice y m d] t fr)) : Slf (some g) a q := by
  rcases Nat.eq_zero_or_pos q with h0 | hp
  · exact .inl h0
  · obtain ⟨b, off, ha, _, hc⟩ := h.at hp
    refine .inr ⟨b, off, ha, fun e => ?_⟩
    cases e
    exact no_int_box hb (hc 0 hp)
set_option maxRecDepth 100000 in
theorem Rs.box {w w' : World} {g : Nat} {a : Option Addr} {q cap : Nat} {xs : List Rw} {x y : Option Addr} {n c m d : Nat} {t : TypeId} {fr : Nat × Nat} (h : Rs w a q cap xs) (hb : w.heap[g]? = some (.cells #[.slice x n c, .slice y m d] t fr)) (hg : w.grownBy w' (some g)) : Rs w' a q cap xs := by
  obtain ⟨h1, h2, h3, h4, h5⟩ := h
  refine ⟨h1, h2, h3, fun z hz => (h4 z hz).grown hg ⟨Slf.box (h4 z hz).1 hb, Slf.box (h4 z hz).2.1 hb⟩, ?_⟩
  rcases h5 with h5 | ⟨b, off, ha, hc⟩
  · exact .inl h5
  · refine .inr ⟨b, off, ha, fun i hi => ?_⟩
    obtain ⟨c1, c2, c3⟩ := hc i hi
    have hne : b ≠ g := by
      rintro rfl
      exact no_int_box (k := .u64) hb c3
    have hlt := cell_lt c1
    have e : ∀ j, w'.cell? ⟨b, j, none⟩ = w.cell? ⟨b, j, none⟩ := fun j => by
      have := hg.block b hlt (fun e => hne (Option.some.inj e))
      simp only [World.cell?, this]
    exact ⟨(e _).trans c1, (e _).trans c2, (e _).trans c3⟩
section
variable {w w' : World} {B : Nat} {zs : List Int} {E : Int} {RL : List Rul} {v : Value}
set_option maxRecDepth 100000 in
theorem Str7.kept (h : Str7 w zs v) (hg : w.grownBy w' none) : Str7 w' zs v := by
  obtain ⟨g, c, h1, h2, h3⟩ := h
  exact ⟨g, c, h1, h2.below (below_of hg) (Nat.le_refl _), h3⟩
set_option maxRecDepth 100000 in
theorem Str7.turned (h : Str7 w zs v) (hr : Turn7 B w w') : Str7 w' zs v := by
  obtain ⟨g, c, h1, h2, h3⟩ := h
  obtain ⟨b, _, _, _, _, _, _, _, _, _, _, _, _, _, r2, r3, _⟩ := hr
  exact ⟨g, c, h1, h2.grown r3 (Slf.box h2 r2), h3⟩
set_option maxRecDepth 100000 in
theorem Told7.kept (h : Told7 w E RL v) (hg : w.grownBy w' none) : Told7 w' E RL v := by
  obtain ⟨ba, bn, bc, ra, rn, rc, ys, h1, h2, h3⟩ := h
  exact ⟨ba, bn, bc, ra, rn, rc, ys, h1, h2.below (below_of hg) (Nat.le_refl _), h3⟩
set_option maxRecDepth 100000 in
theorem Told7.turned (h : Told7 w E RL v) (hr : Turn7 B w w') : Told7 w' E RL v := by
  obtain ⟨ba, bn, bc, ra, rn, rc, ys, h1, h2, h3⟩ := h
  obtain ⟨b, _, _, _, _, _, _, _, _, _, _, _, _, _, r2, r3, _⟩ := hr
  exact ⟨ba, bn, bc, ra, rn, rc, ys, h1, h2.box r2 r3, h3⟩
set_option maxRecDepth 100000 in
theorem Agg7.kept (h : Agg7 w RL v) (hg : w.grownBy w' none) : Agg7 w' RL v := by
  obtain ⟨ba, bn, bc, ra, rn, rc, ys, h1, h2, h3⟩ := h
  exact ⟨ba, bn, bc, ra, rn, rc, ys, h1, h2.below (below_of hg) (Nat.le_refl _), h3⟩
set_option maxRecDepth 100000 in
theorem Agg7.turned (h : Agg7 w RL v) (hr : Turn7 B w w') : Agg7 w' RL v := by
  obtain ⟨ba, bn, bc, ra, rn, rc, ys, h1, h2, h3⟩ := h
  obtain ⟨b, _, _, _, _, _, _, _, _, _, _, _, _, _, r2, r3, _⟩ := hr
  exact ⟨ba, bn, bc, ra, rn, rc, ys, h1, h2.box r2 r3, h3⟩
set_option maxRecDepth 100000 in
theorem Box7.kept (h : Box7 w B v) (hg : w.grownBy w' none) : Box7 w' B v := by
  obtain ⟨g, x, n, c, y, m, d, h1, h2, h3⟩ := h
  exact ⟨g, x, n, c, y, m, d, h1, h2, (hg.block g (Array.getElem?_eq_some_iff.1 h3).1 (by simp)).trans h3⟩
set_option maxRecDepth 100000 in
theorem Box7.turned {B' : Nat} (h : Box7 w B v) (hr : Turn7 B' w w') : Box7 w' B v := by
  obtain ⟨g, x, n, c, y, m, d, h1, h2, h3⟩ := h
  obtain ⟨b, _, _, _, _, _, _, x', n', c', y', m', d', _, r2, r3, r4⟩ := hr
  by_cases e : g = b
  · subst e
    exact ⟨g, x', n', c', y', m', d', h1, h2, r4⟩
  · exact ⟨g, x, n, c, y, m, d, h1, h2, (r3.block g (Array.getElem?_eq_some_iff.1 h3).1 (fun h => e (Option.some.inj h))).trans h3⟩
set_option maxRecDepth 100000 in
theorem Full7.kept (h : Full7 w B RL v) (hg : w.grownBy w' none) : Full7 w' B RL v := by
  obtain ⟨g, ba, bn, bc, ra, rn, rc, ys, h1, h2, h3, h4, h5⟩ := h
  exact ⟨g, ba, bn, bc, ra, rn, rc, ys, h1, h2, (hg.block g (Array.getElem?_eq_some_iff.1 h3).1 (by simp)).trans h3, h4.below (below_of hg) (Nat.le_refl _), h5⟩
end
set_option maxRecDepth 100000 in
theorem fresh_turn {W0 w0 w' : World} (h1 : W0.drew.grownBy w0 none) (h2 : Turn7 W0.heap.size w0 w') : W0.drew.grownBy w' none := by
  obtain ⟨g, _, _, _, _, _, _, _, _, _, _, _, _, hg, _, hr, _⟩ := h2
  exact fresh_row h1 ⟨g, hg, hr⟩

/-! ### append of numbers -/
set_option maxRecDepth 100000 in
theorem info_int7 : (Try.prog.info? 3).map (fun i => (i.zero, i.size, i.bytes)) = some (some (.int .i64 0), 1, 8) := by kernel_rfl
set_option maxRecDepth 100000 in
theorem append_ints7 {w : World} {ops : Array Oper} {rest : List Oper} {o : Oper} {act : Act} {Q : Exit → Act → World → Prop} (hgd : o.guard = none) (s x : Operand)
    (ho : o.op = .call { callee := .builtin .append, args := #[s, x], argTypes := #[23, 23] }) (base : Nat) (v : Value) (n : Nat) (xs : List Int) (hs : act.eval s = v)
    (hown : w.ownsRow base 3 1 v n (i64s xs)) (y : Addr) (c : Nat) (z : Int) (hx : act.eval x = .slice (some y) 1 c) (hz : Sl .i64 w (some y) 1 c [z])
    (N : Nat) (hN : n + 1 = N) (h63 : N * 8 ≤ 140737488355328) (hbase : base ≤ w.heap.size)
    (h : ∀ a' c' w', w'.ownsRow base 3 1 (.slice a' N c') N (i64s (xs ++ [z])) → Below base w w' → (a' = none → c' = 0) → wpList Try.prog ops Q rest (act.put o.dst (.slice a' N c')) w') :
    wpList Try.prog ops Q (o :: rest) act w := by
  subst hN
  obtain ⟨i0, hi, hz0, hz1, hz2⟩ := info_parts info_int7
  have hnews : ∀ j u, (i64s [z])[j]? = some u → w.cell? (y.add j) = some u := by
    intro j u hj
    obtain ⟨b, off, hy, _, hc⟩ := hz.at (by omega)
    simp only [Option.some.injEq] at hy
    subst hy
    match j, hj with
    | 0, hj =>
      have := hc 0 (by omega)
      rw [show (⟨b, off, none⟩ : Addr).add 0 = ⟨b, off + 0, none⟩ from by simp [Addr.add], this]
      simp [i64s] at hj
      rw [← hj]; simp
    | j + 1, hj => simp [i64s] at hj
  refine wpList_append_own w hgd s x 23 ho base 3 i0 (.int .i64 0) 1 8 Try.underlying23 hi hz0 hz1 hz2 rfl (by decide) v n (i64s xs) hs hown y 1 c (i64s [z]) hx (by simp [i64s]) hnews (ints_oneCell .i64 [z]) (by unfold maxLen; omega) h63 hbase ?_
  intro v' w' hown' hgrow _
  have form : ∃ a' c', v' = .slice a' (n + 1) c' ∧ (a' = none → c' = 0) := by
    rcases hown'.2 with ⟨h1, h2⟩ | ⟨g, cap, cur, h1, _⟩
    · omega
    · exact ⟨_, cap, h1, fun h => by cases h⟩
  obtain ⟨a', c', rfl, hnil⟩ := form
  refine h a' c' w' (by rw [show i64s (xs ++ [z]) = i64s xs ++ i64s [z] from by simp [i64s]]; exact hown') ?_ hnil
  exact (Below.refl _ _).grown hgrow hbase (fun k hk => (hown.lt k hk).1)

end Go.Proofs.Ytdeicfdbjmpliaa
