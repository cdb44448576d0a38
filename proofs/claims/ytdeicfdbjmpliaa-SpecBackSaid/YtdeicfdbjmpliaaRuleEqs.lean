/- Two sides held against each other; what the key of a rule's two sides reads as. -/
import Derived.Test.YtdeicfdbjmpliaaPackB
import Derived.DeepKeys4
import Derived.Laws.StructEq
import Derived.WalkArith
import Derived.Test.YtdeicfdbjmpliaaRuleKey
import Derived.Test.YtdeicfdbjmpliaaRuleSide
namespace Go.Proofs.Ytdeicfdbjmpliaa
open Go.RowKit Go.Maps Go.WideMaps

def litsI (l : List Int) : List Lit := l.map (Lit.int .i64)
set_option maxRecDepth 100000 in
theorem litsI_inj : ∀ {l l' : List Int}, litsI l = litsI l' → l = l'
  | [], [], _ => rfl
  | [], _ :: _, h => by simp [litsI] at h
  | _ :: _, [], h => by simp [litsI] at h
  | a :: l, b :: l', h => by
    simp only [litsI, List.map_cons, List.cons.injEq, Lit.int.injEq, true_and] at h
    rw [h.1, litsI_inj h.2]
def WfI (l : List Int) : Prop := ∀ z ∈ l, (Lit.int .i64 z).wf = true

set_option maxRecDepth 100000 in
theorem sideC_wf {ok : Bool} {l : List Int} (h : WfI l) (h8 : ok = true → l.length ≤ 8) : WfI (sideC ok l) := by
  intro z hz
  unfold sideC at hz
  split at hz
  · rename_i h'
    have := h8 h'
    simp only [List.append_assoc, List.mem_append, List.mem_replicate, List.mem_singleton] at hz
    rcases hz with hz | ⟨_, rfl⟩ | rfl
    · exact h z hz
    · decide
    · exact WalkArith.wf_i64 (by omega)
  · rw [List.eq_of_mem_replicate hz]; decide

set_option maxRecDepth 100000 in
set_option maxHeartbeats 1600000 in
theorem keyLits_side (d : Nat) (l : List Int) (h9 : l.length = 9) (hw : WfI l) : Try.prog.keyLits (d + 3) 79 (cellsI l).toList = some (litsI l) := by
  match l, h9 with
  | [a0, a1, a2, a3, a4, a5, a6, a7, n], _ =>
    have ha0 := hw a0 (by simp)
    have ha1 := hw a1 (by simp)
    have ha2 := hw a2 (by simp)
    have ha3 := hw a3 (by simp)
    have ha4 := hw a4 (by simp)
    have ha5 := hw a5 (by simp)
    have ha6 := hw a6 (by simp)
    have ha7 := hw a7 (by simp)
    have hn := hw n (by simp)
    have hr : List.range 8 = [0, 1, 2, 3, 4, 5, 6, 7] := rfl
    show Try.prog.keyLits (d + 3) 79 ([.int .i64 a0, .int .i64 a1, .int .i64 a2, .int .i64 a3, .int .i64 a4, .int .i64 a5, .int .i64 a6, .int .i64 a7, .int .i64 n] : List Value) = some ([.int .i64 a0, .int .i64 a1, .int .i64 a2, .int .i64 a3, .int .i64 a4, .int .i64 a5, .int .i64 a6, .int .i64 a7, .int .i64 n] : List Lit)
    simp [Program.keyLits, Try.underlying79, Try.underlying77, Try.underlying3, cells_side, cells_8, cells_int, hr, List.mapM_cons, ha0, ha1, ha2, ha3, ha4, ha5, ha6, ha7, hn]

set_option maxRecDepth 100000 in
theorem keyOf_18 (l : List Int) (h18 : l.length = 18) (hw : WfI l) : keyOf Try.prog 81 (.agg (cellsI l)) = some (.string (keyBytes (litsI l))) := by
  match l, h18 with
  | [a0, a1, a2, a3, a4, a5, a6, a7, n, b0, b1, b2, b3, b4, b5, b6, b7, m], _ =>
    exact keyOf_sides a0 a1 a2 a3 a4 a5 a6 a7 n b0 b1 b2 b3 b4 b5 b6 b7 m (hw _ (by simp)) (hw _ (by simp)) (hw _ (by simp)) (hw _ (by simp)) (hw _ (by simp)) (hw _ (by simp)) (hw _ (by simp)) (hw _ (by simp)) (hw _ (by simp)) (hw _ (by simp)) (hw _ (by simp)) (hw _ (by simp)) (hw _ (by simp)) (hw _ (by simp)) (hw _ (by simp)) (hw _ (by simp)) (hw _ (by simp)) (hw _ (by simp))

set_option maxRecDepth 100000 in
theorem formed_side (l : List Int) (h9 : l.length = 9) : (Value.agg (cellsI l)).formed Try.prog 79 = true := by
  simp [Value.formed, Try.underlying79, cells_side, cellsI_size, h9]

set_option maxRecDepth 100000 in
theorem eql_side (l l' : List Int) (w : World) (h9 : l.length = 9) (h9' : l'.length = 9) (hw : WfI l) (hw' : WfI l') :
    (binOp .eql 79 (.agg (cellsI l)) (.agg (cellsI l'))).run Try.prog w = .ok (.bool (decide (l = l'))) w := by
  obtain ⟨r, hr, hiff⟩ := run_equalIn_deep (P := Try.prog) 9997 3 79 (by kernel_rfl) w 3 3 (.agg (cellsI l)) (.agg (cellsI l')) _ _ (formed_side l h9) (formed_side l' h9') (keyLits_side 0 l h9 hw) (keyLits_side 0 l' h9' hw')
  rw [run_eql_struct, show (10000 : Nat) = 9997 + 3 from rfl, hr]
  have : r = decide (l = l') := by
    rw [Bool.eq_iff_iff, hiff, decide_eq_true_iff]
    exact ⟨litsI_inj, fun h => by rw [h]⟩
  rw [this]; rfl

set_option maxRecDepth 100000 in
theorem wpList_eql_side {ops : Array Oper} {rest : List Oper} {o : Oper} {a : Act} {w : World} {Q : Exit → Act → World → Prop} (hwt : Region.wanted o (yielded ops a.tmps) = true) (x y : Operand) (ho : o.op = .binOp .eql 79 x y 79)
    (l l' : List Int) (h9 : l.length = 9) (h9' : l'.length = 9) (hw : WfI l) (hw' : WfI l') (r : Bool) (hr : decide (l = l') = r) (hx : a.eval x = .agg (cellsI l)) (hy : a.eval y = .agg (cellsI l'))
    (h : wpList Try.prog ops Q rest (a.put o.dst (.bool r)) w) : wpList Try.prog ops Q (o :: rest) a w := by
  refine wpList_step fun K hK => ?_
  rw [if_pos hwt]
  have hg := run_eqGuard_agg (P := Try.prog) w BinOp.eql 79 x y (cellsI l) (cellsI l') (by kernel_rfl)
  unfold Oper.wp execOp
  simp only [ho, hx, hy, Sem.run_bind, hg, Result.andThen_ok, eql_side l l' w h9 h9' hw hw', hr]
  exact hK _ _ h
end Go.Proofs.Ytdeicfdbjmpliaa
