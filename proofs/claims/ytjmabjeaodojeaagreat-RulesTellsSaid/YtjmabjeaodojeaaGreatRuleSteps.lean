/- Used by the law. -/
import Derived.Test.YtjmabjeaodojeaaGreatPackB
import Derived.Test.YtjmabjeaodojeaaGreatRuleApp
import Derived.WalkKit
import Derived.WalkLawsBesides
import Derived.BigQuiet
namespace Go.Proofs.YtjmabjeaodojeaaGreat
open Go.RowKit

def NewOne (B : Nat) (x : Int) (v : Value) (w : World) : Prop := ∃ p, v = .slice (some ⟨p, 0, none⟩) 1 1 ∧ Sl .i64 w (some ⟨p, 0, none⟩) 1 1 [x] ∧ B ≤ p
def Rw.High (B : Nat) (x : Rw) : Prop := ∃ p q, x.la = some ⟨p, 0, none⟩ ∧ x.ra = some ⟨q, 0, none⟩ ∧ B ≤ p ∧ B ≤ q
def NewRule (B : Nat) (r : Rul) (v : Value) (w : World) : Prop := ∃ X : Rw, v = X.v ∧ X.Good w ∧ X.r = r ∧ X.High B
def NewRules (B : Nat) (rs : List Rul) (v : Value) (w : World) : Prop := ∃ p xs, v = .slice (some ⟨p, 0, none⟩) rs.length rs.length ∧ Rs w (some ⟨p, 0, none⟩) rs.length rs.length xs ∧ ruls xs = rs ∧ (∀ x ∈ xs, x.High B) ∧ B ≤ p

theorem Rw.High.far {B : Nat} {x : Rw} {k : Option Nat} (h : x.High B) (hk : ∀ g, k = some g → g < B) : x.Far k := by
  obtain ⟨p, q, h1, h2, hp, hq⟩ := h
  exact ⟨.inr ⟨p, 0, h1, fun e => by have := hk p e; omega⟩, .inr ⟨q, 0, h2, fun e => by have := hk q e; omega⟩⟩
theorem NewOne.mono {B : Nat} {x : Int} {v : Value} {w w' : World} {k : Option Nat} (h : NewOne B x v w) (hg : w.grownBy w' k) (hk : ∀ g, k = some g → g < B) : NewOne B x v w' := by
  obtain ⟨p, rfl, hs, hp⟩ := h
  exact ⟨p, rfl, hs.grown hg (.inr ⟨p, 0, rfl, fun e => by have := hk p e; omega⟩), hp⟩
theorem NewRule.mono {B : Nat} {r : Rul} {v : Value} {w w' : World} {k : Option Nat} (h : NewRule B r v w) (hg : w.grownBy w' k) (hk : ∀ g, k = some g → g < B) : NewRule B r v w' := by
  obtain ⟨X, rfl, hX, hr, hh⟩ := h
  exact ⟨X, rfl, hX.grown hg (hh.far hk), hr, hh⟩
theorem RwAt.grown' {w w' : World} {b o : Nat} {x : Rw} {k : Option Nat} (h : RwAt w b o x) (hg : w.grownBy w' k) (hne : k ≠ some b) : RwAt w' b o x :=
  ⟨hg.cell h.1 (fun e => hne e.symm), hg.cell h.2.1 (fun e => hne e.symm), hg.cell h.2.2 (fun e => hne e.symm)⟩
theorem NewRules.mono {B : Nat} {rs : List Rul} {v : Value} {w w' : World} {k : Option Nat} (h : NewRules B rs v w) (hg : w.grownBy w' k) (hk : ∀ g, k = some g → g < B) : NewRules B rs v w' := by
  obtain ⟨p, xs, rfl, hxs, hr, hh, hp⟩ := h
  obtain ⟨h1, h2, h3, h4, h5⟩ := hxs
  refine ⟨p, xs, rfl, ⟨h1, h2, h3, fun x hx => (h4 x hx).grown hg ((hh x hx).far hk), ?_⟩, hr, hh, hp⟩
  rcases h5 with h5 | ⟨b, off, ha, hc⟩
  · exact .inl h5
  · simp only [Option.some.injEq, Addr.mk.injEq, and_true] at ha
    obtain ⟨rfl, rfl⟩ := ha
    exact .inr ⟨p, 0, rfl, fun i hi => (hc i hi).grown' hg (fun e => by have := hk p e; omega)⟩

set_option maxRecDepth 100000 in
theorem run_slice1 (x : Int) (w : World) : (Instr.buildSlice 37 1 #[(0, .int .i64 x)]).run Tryz.prog w = .ok (.slice (some ⟨w.heap.size, 0, none⟩) 1 1) (w.alloc (.cells #[.int .i64 x] 3)) := by
  go_simp
set_option maxRecDepth 100000 in
theorem run_rules1 (X : Rw) (w : World) : (Instr.buildSlice 24 1 #[(0, X.v)]).run Tryz.prog w = .ok (.slice (some ⟨w.heap.size, 0, none⟩) 1 1) (w.alloc (.cells (rcells [X]).toArray 39)) := by
  unfold Rw.v
  go_simp
  rfl
set_option maxRecDepth 100000 in
theorem run_rules2 (X Y : Rw) (w : World) : (Instr.buildSlice 24 2 #[(0, X.v), (1, Y.v)]).run Tryz.prog w = .ok (.slice (some ⟨w.heap.size, 0, none⟩) 2 2) (w.alloc (.cells (rcells [X, Y]).toArray 39)) := by
  unfold Rw.v
  go_simp
  rfl

set_option maxRecDepth 100000 in
theorem run_index (b off n c k : Nat) (hk : k < n) (w : World) : (Instr.indexAt 37 (.slice (some ⟨b, off, none⟩) n c) (.int .i64 (k : Int))).run Tryz.prog w = .ok (.pointer (some ⟨b, off + k, none⟩)) w := by
  have hk' : (k : Int) < (n : Int) := by omega
  go_simp
set_option maxRecDepth 100000 in
theorem run_load (b off : Nat) (z : Int) (w : World) (hc : w.cell? ⟨b, off, none⟩ = some (.int .i64 z)) : (Instr.loadAt 3 (.pointer (some ⟨b, off, none⟩))).run Tryz.prog w = .ok (.int .i64 z) w := by
  go_simp
set_option maxRecDepth 100000 in
theorem run_rule (a b : Option Addr) (n m c d : Nat) (C : Int) (w : World) : (Instr.build 39 #[(0, .slice a n c), (1, .slice b m d), (2, .int .u64 C)]).run Tryz.prog w = .ok (.agg #[.slice a n c, .slice b m d, .int .u64 C]) w := by
  go_simp

section
variable {ops : Array Oper} {Q : Exit → Act → World → Prop} {o : Oper} {a : Act} {w : World} {R : Value → World → Prop}
set_option maxRecDepth 100000 in
theorem steps_index (hg : o.guard = none) (s x : Operand) (ho : o.op = .indexAddr 37 s x) {b off n c k : Nat} (hs : a.eval s = .slice (some ⟨b, off, none⟩) n c) (hx : a.eval x = .int .i64 (k : Int)) (hk : k < n)
    (hR : R (.pointer (some ⟨b, off + k, none⟩)) w) : StepsTo Tryz.prog ops Q o a w R := by
  refine StepsTo.of_run hg ?_ hR
  simp [execOp, ho, hs, hx, run_index b off n c k hk w, Result.andThen]
set_option maxRecDepth 100000 in
theorem steps_load (hg : o.guard = none) (x : Operand) (ho : o.op = .load 3 x) {b off : Nat} {z : Int} (hx : a.eval x = .pointer (some ⟨b, off, none⟩)) (hc : w.cell? ⟨b, off, none⟩ = some (.int .i64 z))
    (hR : R (.int .i64 z) w) : StepsTo Tryz.prog ops Q o a w R := by
  refine StepsTo.of_run hg ?_ hR
  simp [execOp, ho, hx, run_load b off z w hc, Result.andThen]
set_option maxRecDepth 100000 in
theorem steps_slice1 (hg : o.guard = none) (x : Operand) (ho : o.op = .buildSlice 37 1 #[(0, x)]) {z : Int} (hx : a.eval x = .int .i64 z)
    (hR : R (.slice (some ⟨w.heap.size, 0, none⟩) 1 1) (w.alloc (.cells #[.int .i64 z] 3))) : StepsTo Tryz.prog ops Q o a w R := by
  refine StepsTo.of_run hg ?_ hR
  simp [execOp, ho, hx, run_slice1 z w, Result.andThen]
set_option maxRecDepth 100000 in
theorem steps_rule (hg : o.guard = none) (x y z : Operand) (ho : o.op = .build 39 #[(0, x), (1, y), (2, z)]) {xa ya : Option Addr} {n m c d : Nat} {C : Int} (hx : a.eval x = .slice xa n c) (hy : a.eval y = .slice ya m d) (hz : a.eval z = .int .u64 C)
    (hR : R (.agg #[.slice xa n c, .slice ya m d, .int .u64 C]) w) : StepsTo Tryz.prog ops Q o a w R := by
  refine StepsTo.of_run hg ?_ hR
  simp [execOp, ho, hx, hy, hz, run_rule xa ya n m c d C w, Result.andThen]
set_option maxRecDepth 100000 in
theorem steps_rules1 (hg : o.guard = none) (x : Operand) (ho : o.op = .buildSlice 24 1 #[(0, x)]) {X : Rw} (hx : a.eval x = X.v)
    (hR : R (.slice (some ⟨w.heap.size, 0, none⟩) 1 1) (w.alloc (.cells (rcells [X]).toArray 39))) : StepsTo Tryz.prog ops Q o a w R := by
  refine StepsTo.of_run hg ?_ hR
  simp [execOp, ho, hx, run_rules1 X w, Result.andThen]
set_option maxRecDepth 100000 in
theorem steps_rules2 (hg : o.guard = none) (x y : Operand) (ho : o.op = .buildSlice 24 2 #[(0, x), (1, y)]) {X Y : Rw} (hx : a.eval x = X.v) (hy : a.eval y = Y.v)
    (hR : R (.slice (some ⟨w.heap.size, 0, none⟩) 2 2) (w.alloc (.cells (rcells [X, Y]).toArray 39))) : StepsTo Tryz.prog ops Q o a w R := by
  refine StepsTo.of_run hg ?_ hR
  simp [execOp, ho, hx, hy, run_rules2 X Y w, Result.andThen]
set_option maxRecDepth 100000 in
theorem steps_sub1 (hg : o.guard = none) (x : Operand) (t t' : TypeId) (ho : o.op = .binOp .sub t x (.const (.int .i64 1)) t') {k : Nat} (h0 : 0 < k) (hx : a.eval x = .int .i64 (k : Int)) (hk : k < 4611686018427387904)
    (hR : R (.int .i64 ((k - 1 : Nat) : Int)) w) : StepsTo Tryz.prog ops Q o a w R := by
  refine StepsTo.of_run hg ?_ hR
  have e : ((k - 1 : Nat) : Int) = (k : Int) - 1 := by omega
  have hw : IntKind.i64.wrap ((k : Int) - 1) = (k : Int) - 1 := by rw [IntKind.wrap_i64]; omega
  rw [e]
  have hc : a.eval (.const (.int .i64 1)) = .int .i64 1 := rfl
  simp only [execOp, ho, hx, hc]
  go_simp

theorem newOne_alloc {B : Nat} (hB : B ≤ w.heap.size) {z : Int} (hz : (Lit.int .i64 z).wf = true) : NewOne B z (.slice (some ⟨w.heap.size, 0, none⟩) 1 1) (w.alloc (.cells #[.int .i64 z] 3)) :=
  ⟨_, rfl, Sl.lay [z] (by simpa using hz) (by unfold maxLen; simp) rfl rfl rfl, hB⟩
theorem newRule_of {B : Nat} {x y C : Int} {u v : Value} (hu : NewOne B x u w) (hv : NewOne B y v w) (hC : 0 ≤ C ∧ C < 18446744073709551616) : ∃ p q, u = .slice (some ⟨p, 0, none⟩) 1 1 ∧ v = .slice (some ⟨q, 0, none⟩) 1 1 ∧
    NewRule B ⟨[x], [y], C⟩ (.agg #[.slice (some ⟨p, 0, none⟩) 1 1, .slice (some ⟨q, 0, none⟩) 1 1, .int .u64 C]) w := by
  obtain ⟨p, rfl, hs, hp⟩ := hu
  obtain ⟨q, rfl, hs', hq⟩ := hv
  exact ⟨p, q, rfl, rfl, ⟨⟨some ⟨p, 0, none⟩, 1, 1, [x], some ⟨q, 0, none⟩, 1, 1, [y], C⟩, rfl, ⟨hs, hs', hC⟩, rfl, p, q, rfl, rfl, hp, hq⟩⟩
theorem newRules_alloc {B : Nat} (hB : B ≤ w.heap.size) (xs : List Rw) (hx : ∀ x ∈ xs, x.Good w ∧ x.High B) (hl : xs.length ≤ 100) :
    NewRules B (ruls xs) (.slice (some ⟨w.heap.size, 0, none⟩) xs.length xs.length) (w.alloc (.cells (rcells xs).toArray 39)) :=
  ⟨w.heap.size, xs, by rw [ruls_length], by rw [ruls_length]; exact Rs.newc xs (fun x h => (hx x h).1) (by unfold maxLen; omega) rfl rfl rfl, rfl, fun x h => (hx x h).2, hB⟩

def Acc (base : Nat) (w : World) (v : Value) (outs : List Rw) : Prop :=
  w.ownsRow base 39 3 v outs.length (rcells outs) ∧ ∀ x ∈ outs, x.Good w ∧ x.Far v.ownBlock
theorem Slf.none' {k : IntKind} {zs : List Int} {xa : Option Addr} {n c : Nat} (h : Sl k w xa n c zs) : Slf none xa n := by
  rcases Nat.eq_zero_or_pos n with h0 | hp
  · exact .inl h0
  · obtain ⟨b, off, ha, _, _⟩ := h.at hp
    exact .inr ⟨b, off, ha, fun e => by cases e⟩
theorem Rw.Good.none {x : Rw} (h : x.Good w) : x.Far none := ⟨Slf.none' h.1, Slf.none' h.2.1⟩
theorem Slf.fresh {k : IntKind} {zs : List Int} {xa : Option Addr} {n c H : Nat} (h : Sl k w xa n c zs) (hH : w.heap.size ≤ H) : Slf (some H) xa n := by
  rcases Nat.eq_zero_or_pos n with h0 | hp
  · exact .inl h0
  · obtain ⟨b, off, ha, hb, _⟩ := h.at hp
    exact .inr ⟨b, off, ha, fun e => by cases e; omega⟩
theorem Rw.Good.fresh {x : Rw} {H : Nat} (h : x.Good w) (hH : w.heap.size ≤ H) : x.Far (some H) := ⟨Slf.fresh h.1 hH, Slf.fresh h.2.1 hH⟩
theorem Acc.kept {base : Nat} {w' : World} {v : Value} {outs : List Rw} (h : Acc base w v outs) (hg : w.grownBy w' none) : Acc base w' v outs :=
  ⟨h.1.kept hg (by cases hb : v.ownBlock with | none => exact .inl rfl | some g => exact .inr (by simp)), fun x hx => ⟨(h.2 x hx).1.grown hg (h.2 x hx).1.none, (h.2 x hx).2⟩⟩
theorem Acc.drawn {base : Nat} {w' : World} {v : Value} {outs : List Rw} (h : Acc base w v outs) (hq : ∃ q, w' = w.drewN q) : Acc base w' v outs := by
  obtain ⟨q, rfl⟩ := hq
  exact ⟨h.1, fun x hx => ⟨(h.2 x hx).1.drawn ⟨q, rfl⟩, (h.2 x hx).2⟩⟩
theorem Acc.nil (base : Nat) (w : World) : Acc base w (.slice none 0 0) [] := ⟨⟨rfl, .inl ⟨rfl, rfl⟩⟩, by simp⟩
theorem Acc.form {base : Nat} {v : Value} {outs : List Rw} (h : Acc base w v outs) : ∃ xa c, v = .slice xa outs.length c ∧ (xa = none → c = 0) ∧ Rs w xa outs.length c outs := by
  have h1 := h.1
  rcases h1.2 with ⟨hv, h0⟩ | ⟨g, c, cur, hv, _⟩
  · refine ⟨none, 0, by rw [hv, h0], fun _ => rfl, ?_⟩
    have : outs = [] := List.eq_nil_of_length_eq_zero h0
    subst this; exact Rs.nil
  · subst hv
    exact ⟨some ⟨g, 0, none⟩, c, rfl, (fun e => by cases e), Rs.of_owns h1 (fun x hx => (h.2 x hx).1) rfl⟩

set_option maxRecDepth 100000 in
theorem steps_append (hg : o.guard = none) (s x : Operand) (ho : o.op = .call { callee := .builtin .append, args := #[s, x], argTypes := #[24, 24] }) {base B : Nat} {v : Value} {outs : List Rw} (hs : a.eval s = v) (hacc : Acc base w v outs)
    (hrow : ∀ g, v.ownBlock = some g → g < B) {rs : List Rul} {u : Value} (hx : a.eval x = u) (hu : NewRules B rs u w) (hm : 0 < rs.length) (hN : outs.length + rs.length ≤ 100000) (hbase : base ≤ w.heap.size)
    (hR : ∀ v' w' zs, ruls zs = rs → Acc base w' v' (outs ++ zs) → w.grownBy w' v.ownBlock → (v.ownBlock = v'.ownBlock ∨ v'.ownBlock = some w.heap.size) → R v' w') : StepsTo Tryz.prog ops Q o a w R := by
  obtain ⟨p, zs, rfl, hz, hr, hh, hp⟩ := hu
  have hzl : zs.length = rs.length := by rw [← hr, ruls_length]
  intro K hK
  obtain ⟨i0, hi, hz0, hz1, hz2⟩ := info_parts info_rule
  obtain ⟨y, hy, hnews⟩ := hz.news hm
  refine step_append_lies w hg s x 24 ho base 39 i0 _ 3 56 Tryz.underlying24 hi hz0 hz1 hz2 rfl (by decide) v outs.length (rcells outs) hs hacc.1 ⟨p, 0, none⟩ rs.length rs.length (rcells zs) hx (by rw [rcells_length, hzl])
    (by cases hy; exact hnews) (rcells_one zs) hm (by unfold maxLen; omega) (by omega) hbase _ rfl ?_
  intro g c w' hown hgr hat hlt
  refine hK _ _ (hR _ w' zs hr ⟨?_, fun q hq => ?_⟩ hgr ?_)
  · rw [rcells_app]
    have : (outs ++ zs).length = outs.length + rs.length := by rw [List.length_append, hzl]
    rw [this]; exact hown
  · have hfar : ∀ q : Rw, q.Good w → q.Far v.ownBlock → q.Good w' ∧ q.Far (some g) := fun q hq hf => ⟨hq.grown hgr hf, by
      rcases hat with h | h
      · rw [← h]; exact hf
      · rw [h]; exact hq.fresh (Nat.le_refl _)⟩
    rcases List.mem_append.1 hq with hq | hq
    · exact hfar q (hacc.2 q hq).1 (hacc.2 q hq).2
    · exact hfar q (hz.2.2.2.1 q hq) ((hh q hq).far hrow)
  · rcases hat with h | h
    · exact .inl h
    · exact .inr (by rw [h]; rfl)
end

/-! ### a region by a table: what each of its operations' slots holds -/
inductive Told2
  | val (v : Value)
  | one (x : Int)
  | rule (r : Rul)
  | rules (rs : List Rul)
  | out (rs : List Rul)
  | free
def Told2.isOut : Told2 → Bool
  | .out _ => true
  | _ => false
def Told2.Holds (base B : Nat) (outs : List Rw) (v0 : Value) : Told2 → Value → World → Prop
  | .val u, v, _ => v = u
  | .one x, v, w => NewOne B x v w
  | .rule r, v, w => NewRule B r v w
  | .rules rs, v, w => NewRules B rs v w
  | .out rs, v, w => (∃ zs, ruls zs = rs ∧ Acc base w v (outs ++ zs)) ∧ (v0.ownBlock = v.ownBlock ∨ ∃ g, v.ownBlock = some g ∧ B ≤ g)
  | .free, _, _ => True
theorem Told2.mono {base B : Nat} {outs : List Rw} {v0 : Value} {x : Told2} {v : Value} {w w' : World} (h : x.Holds base B outs v0 v w) (hg : w.grownBy w' none) : x.Holds base B outs v0 v w' := by
  cases x with
  | val u => exact h
  | one x => exact NewOne.mono h hg (by simp)
  | rule r => exact NewRule.mono h hg (by simp)
  | rules rs => exact NewRules.mono h hg (by simp)
  | out rs => obtain ⟨⟨zs, hr, ha⟩, h2⟩ := h; exact ⟨⟨zs, hr, ha.kept hg⟩, h2⟩
  | free => trivial
theorem Told2.monoR {base B : Nat} {outs : List Rw} {v0 : Value} {x : Told2} {v : Value} {w w' : World} {k : Option Nat} (hx : x.isOut = false) (hk : ∀ g, k = some g → g < B) (h : x.Holds base B outs v0 v w) (hg : w.grownBy w' k) : x.Holds base B outs v0 v w' := by
  cases x with
  | val u => exact h
  | one x => exact NewOne.mono h hg hk
  | rule r => exact NewRule.mono h hg hk
  | rules rs => exact NewRules.mono h hg hk
  | out rs => cases hx
  | free => trivial

set_option maxRecDepth 100000 in
theorem wp_region_table {ops : Array Oper} {Q : Exit → Act → World → Prop} {a0 : Act} {w : World} {id : Nat} (hm : Tryz.prog.follows .mixedOrders = true) (ia : Nat) (tab : List Told2) (base : Nat) (outs : List Rw) (v0 : Value)
    (hfine : regFine ops ia a0.tmps.size = true) (hout : ((tab.take ia).all fun x => !x.isOut) = true) (hacc : Acc base w v0 outs) (hbase : base ≤ w.heap.size)
    (hstep : ∀ (i : Nat) (o : Oper), ops[i]? = some o → ∀ (a : Act) (w1 : World), w.drew.grownBy w1 v0.ownBlock → (i = ia → Acc base w1 v0 outs) → (∀ k, waits ops i k = true → a.eval (.tmp k) = a0.eval (.tmp k)) →
      (∀ k d, needs ops i k d = true → (tab.getD k .free).Holds base w.heap.size outs v0 (a.eval (.tmp d)) w1) →
      StepsTo Tryz.prog ops Q o a w1 fun v w' => (tab.getD i .free).Holds base w.heap.size outs v0 v w' ∧ w1.grownBy w' v0.ownBlock ∧ (i ≠ ia → w1.grownBy w' none))
    (hend : ∀ (a : Act) (w1 : World), a.defers = a0.defers → a.tmps.size = a0.tmps.size → w.drew.grownBy w1 v0.ownBlock → (∀ k, (∀ (j : Nat) (oj : Oper), ops[j]? = some oj → oj.dst ≠ some k) → a.eval (.tmp k) = a0.eval (.tmp k)) →
      (∀ (j : Nat) (oj : Oper) (d : Tmp), ops[j]? = some oj → oj.dst = some d → (tab.getD j .free).Holds base w.heap.size outs v0 (a.eval (.tmp d)) w1) → Q .normal a w1) : (Code.region id ops true).wp Tryz.prog Q a0 w := by
  have hrow : ∀ g, v0.ownBlock = some g → g < w.heap.size := fun g hg => (hacc.1.lt g hg).2
  refine wp_region_told' hm ia v0.ownBlock (fun i v w' => (tab.getD i .free).Holds base w.heap.size outs v0 v w') hfine (fun i v w1 w' h hg => Told2.mono h hg) (fun i v w1 w' hi h hg => Told2.monoR ?_ hrow h hg) (fun i o ho a w1 hg hn hw ht => hstep i o ho a w1 hg (fun e => ?_) hw ht) hend
  · rcases Nat.lt_or_ge i tab.length with hlt | hge
    · have := List.all_eq_true.1 hout tab[i] (by
        rw [List.mem_iff_getElem]
        exact ⟨i, by simp; omega, by simp⟩)
      simpa [List.getD_eq_getElem?_getD, List.getElem?_eq_getElem hlt] using this
    · simp [List.getD_eq_getElem?_getD, List.getElem?_eq_none hge, Told2.isOut]
  · have h1 : w.drew.grownBy w1 none := hn e
    exact Acc.kept (w := w.drew) ⟨hacc.1, fun x hx => ⟨(hacc.2 x hx).1.drawn ⟨1, rfl⟩, (hacc.2 x hx).2⟩⟩ h1

def noDst (ops : Array Oper) (k : Tmp) : Bool := ops.toList.all fun o => !(o.dst == some k)
def writes (ops : Array Oper) (j : Nat) (d : Tmp) : Bool := match ops[j]? with
  | some o => o.dst == some d
  | none => false
theorem act_lit (t : Array Value) {n : Nat} (h : t.size = n) : t = ((List.range n).map fun k => t.getD k undef).toArray := by
  subst h
  apply Array.ext
  · simp
  · intro i h1 h2
    simp [h1]

set_option maxRecDepth 100000 in
theorem wp_region_table' {ops : Array Oper} {Q : Exit → Act → World → Prop} {a0 : Act} {w : World} {id : Nat} (hm : Tryz.prog.follows .mixedOrders = true) (ia : Nat) (tab : List Told2) (base : Nat) (outs : List Rw) (v0 : Value)
    (hfine : regFine ops ia a0.tmps.size = true) (hout : ((tab.take ia).all fun x => !x.isOut) = true) (hacc : Acc base w v0 outs) (hbase : base ≤ w.heap.size)
    (hstep : ∀ (i : Nat) (o : Oper), ops[i]? = some o → ∀ (a : Act) (w1 : World), w.drew.grownBy w1 v0.ownBlock → (i = ia → Acc base w1 v0 outs) → (∀ k, waits ops i k = true → a.eval (.tmp k) = a0.eval (.tmp k)) →
      (∀ k d, needs ops i k d = true → (tab.getD k .free).Holds base w.heap.size outs v0 (a.eval (.tmp d)) w1) →
      StepsTo Tryz.prog ops Q o a w1 fun v w' => (tab.getD i .free).Holds base w.heap.size outs v0 v w' ∧ w1.grownBy w' v0.ownBlock ∧ (i ≠ ia → w1.grownBy w' none))
    (hend : ∀ (tm : Array Value) (w1 : World), tm.size = a0.tmps.size → w.drew.grownBy w1 v0.ownBlock → (∀ k, noDst ops k = true → tm.getD k undef = a0.tmps.getD k undef) →
      (∀ j d, writes ops j d = true → (tab.getD j .free).Holds base w.heap.size outs v0 (tm.getD d undef) w1) → Q .normal ⟨tm, a0.defers⟩ w1) : (Code.region id ops true).wp Tryz.prog Q a0 w := by
  refine wp_region_table hm ia tab base outs v0 hfine hout hacc hbase hstep fun a w1 hdf hsz hg hfr hto => ?_
  obtain ⟨tm, df⟩ := a
  obtain rfl : df = a0.defers := hdf
  refine hend tm w1 hsz hg (fun k hk => hfr k fun j oj hj hd => ?_) (fun j d hj => ?_)
  · unfold noDst at hk
    have := List.all_eq_true.1 hk oj (by simpa using Array.mem_of_getElem? hj)
    rw [hd] at this
    simp at this
  · unfold writes at hj
    cases ho : ops[j]? with
    | none => rw [ho] at hj; cases hj
    | some o =>
      rw [ho] at hj
      exact hto j o d ho (by simpa using hj)

end Go.Proofs.YtjmabjeaodojeaaGreat
