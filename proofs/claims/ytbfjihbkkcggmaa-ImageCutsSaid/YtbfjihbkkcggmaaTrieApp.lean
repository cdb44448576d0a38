/- append of one arc, and of one state, that a new block holds. -/
import Derived.Test.YtbfjihbkkcggmaaChecked
import Derived.Test.YtbfjihbkkcggmaaPackF
import Derived.Test.YtbfjihbkkcggmaaPackD
import Derived.KernelRfl
namespace Go.Proofs.Ytbfjihbkkcggmaa
open Go.RowKit Tri

set_option maxRecDepth 100000 in
theorem info_arc : (Try.prog.info? 51).map (fun i => (i.zero, i.size, i.bytes)) = some (some (.agg #[.int .i64 0, .int .i64 0]), 2, 16) := by kernel_rfl
set_option maxRecDepth 100000 in
theorem info_state : (Try.prog.info? 49).map (fun i => (i.zero, i.size, i.bytes)) = some (some (.agg #[.bool false, .slice none 0 0]), 2, 32) := by kernel_rfl
set_option maxRecDepth 100000 in
theorem acells_one (l : List (Int × Int)) : ∀ u ∈ acells l, u.oneCell' = true := by
  intro u hu
  obtain ⟨x, _, hx⟩ := List.mem_flatMap.1 hu
  simp only [List.mem_cons, List.not_mem_nil, or_false] at hx
  rcases hx with rfl | rfl <;> rfl
set_option maxRecDepth 100000 in
theorem scells_one (xs : List Sw) : ∀ u ∈ scells xs, u.oneCell' = true := by
  intro u hu
  obtain ⟨x, _, hx⟩ := List.mem_flatMap.1 hu
  simp only [Sw.cells, List.mem_cons, List.not_mem_nil, or_false] at hx
  rcases hx with rfl | rfl <;> rfl
set_option maxRecDepth 100000 in
theorem two_cells {w : World} {g : Nat} {u v : Value} (h0 : w.cell? ⟨g, 0, none⟩ = some u) (h1 : w.cell? ⟨g, 1, none⟩ = some v) : ∀ j x, ([u, v] : List Value)[j]? = some x → w.cell? ((⟨g, 0, none⟩ : Addr).add j) = some x := by
  intro j x hj
  match j, hj with
  | 0, hj => simp at hj; subst hj; simpa [Addr.add] using h0
  | 1, hj => simp at hj; subst hj; simpa [Addr.add] using h1

set_option maxRecDepth 100000 in
theorem append_arc {w : World} {ops : Array Oper} {rest : List Oper} {o : Oper} {act : Act} {Q : Exit → Act → World → Prop} (hw : Region.wanted o (yielded ops act.tmps) = true) (s x : Operand)
    (ho : o.op = .call { callee := .builtin .append, args := #[s, x], argTypes := #[47, 47] }) (base : Nat) (v : Value) (n : Nat) (l : List (Int × Int)) (hs : act.eval s = v)
    (hown : w.ownsRow base 51 2 v n (acells l)) (g : Nat) (y : Int × Int) (hx : act.eval x = .slice (some ⟨g, 0, none⟩) 1 1) (h0 : w.cell? ⟨g, 0, none⟩ = some (.int .i64 y.1)) (h1 : w.cell? ⟨g, 1, none⟩ = some (.int .i64 y.2))
    (N : Nat) (hN : n + 1 = N) (h63 : N * 16 ≤ 140737488355328) (hbase : base ≤ w.heap.size)
    (h : ∀ a' c' w', w'.ownsRow base 51 2 (.slice a' N c') N (acells (l ++ [y])) → Below base w w' → w.grownBy w' v.ownBlock → (a' = none → c' = 0) → wpList Try.prog ops Q rest (act.put o.dst (.slice a' N c')) w') :
    wpList Try.prog ops Q (o :: rest) act w := by
  subst hN
  refine wpList_step fun K hK => ?_
  rw [if_pos hw]
  refine wp_append_cells s x 47 51 ho _ 2 16 Try.underlying47 info_arc rfl (by omega) base v n (acells l) hs hown _ 1 1 (acells [y]) hx rfl (fun _ => ⟨_, rfl, two_cells h0 h1⟩) (acells_one [y]) (by unfold maxLen; omega) (by omega) hbase ?_
  intro a' c' w' h1 h2 h3 h4
  exact hK _ _ (h a' c' w' (by rw [acells_app]; exact h1) h2 h3 h4)
set_option maxRecDepth 100000 in
theorem append_state {w : World} {ops : Array Oper} {rest : List Oper} {o : Oper} {act : Act} {Q : Exit → Act → World → Prop} (hw : Region.wanted o (yielded ops act.tmps) = true) (s x : Operand)
    (ho : o.op = .call { callee := .builtin .append, args := #[s, x], argTypes := #[22, 22] }) (base : Nat) (v : Value) (n : Nat) (l : List Sw) (hs : act.eval s = v)
    (hown : w.ownsRow base 49 2 v n (scells l)) (g : Nat) (y : Sw) (hx : act.eval x = .slice (some ⟨g, 0, none⟩) 1 1) (h0 : w.cell? ⟨g, 0, none⟩ = some y.f) (h1 : w.cell? ⟨g, 1, none⟩ = some y.s)
    (N : Nat) (hN : n + 1 = N) (h63 : N * 32 ≤ 140737488355328) (hbase : base ≤ w.heap.size)
    (h : ∀ a' c' w', w'.ownsRow base 49 2 (.slice a' N c') N (scells (l ++ [y])) → Below base w w' → w.grownBy w' v.ownBlock → (a' = none → c' = 0) → wpList Try.prog ops Q rest (act.put o.dst (.slice a' N c')) w') :
    wpList Try.prog ops Q (o :: rest) act w := by
  subst hN
  refine wpList_step fun K hK => ?_
  rw [if_pos hw]
  refine wp_append_cells s x 22 49 ho _ 2 32 Try.underlying22 info_state rfl (by omega) base v n (scells l) hs hown _ 1 1 (scells [y]) hx rfl (fun _ => ⟨_, rfl, two_cells h0 h1⟩) (scells_one [y]) (by unfold maxLen; omega) (by omega) hbase ?_
  intro a' c' w' h1 h2 h3 h4
  exact hK _ _ (h a' c' w' (by rw [scells_app]; exact h1) h2 h3 h4)

set_option maxRecDepth 100000 in
theorem step_append_arc {w : World} {ops : Array Oper} {o : Oper} {act : Act} {K : Act → World → Prop} {Q : Exit → Act → World → Prop} {E : Prop} (hw : Region.wanted o (yielded ops act.tmps) = true) (s x : Operand)
    (ho : o.op = .call { callee := .builtin .append, args := #[s, x], argTypes := #[47, 47] }) (base : Nat) (v : Value) (n : Nat) (l : List (Int × Int)) (hs : act.eval s = v)
    (hown : w.ownsRow base 51 2 v n (acells l)) (g : Nat) (y : Int × Int) (hx : act.eval x = .slice (some ⟨g, 0, none⟩) 1 1) (h0 : w.cell? ⟨g, 0, none⟩ = some (.int .i64 y.1)) (h1 : w.cell? ⟨g, 1, none⟩ = some (.int .i64 y.2))
    (N : Nat) (hN : n + 1 = N) (h63 : N * 16 ≤ 140737488355328) (hbase : base ≤ w.heap.size)
    (h : ∀ a' c' w', w'.ownsRow base 51 2 (.slice a' N c') N (acells (l ++ [y])) → Below base w w' → w.grownBy w' v.ownBlock → (a' = none → c' = 0) → K (act.put o.dst (.slice a' N c')) w') :
    if Region.wanted o (yielded ops act.tmps) = true then o.wp Try.prog act w K Q else E := by
  subst hN
  rw [if_pos hw]
  refine wp_append_cells s x 47 51 ho _ 2 16 Try.underlying47 info_arc rfl (by omega) base v n (acells l) hs hown _ 1 1 (acells [y]) hx rfl (fun _ => ⟨_, rfl, two_cells h0 h1⟩) (acells_one [y]) (by unfold maxLen; omega) (by omega) hbase ?_
  intro a' c' w' h1 h2 h3 h4
  exact h a' c' w' (by rw [acells_app]; exact h1) h2 h3 h4
set_option maxRecDepth 100000 in
theorem lit2 (w : World) (u v : Value) (t : TypeId) (fr : Nat × Nat) : (w.alloc (.cells #[u, v] t fr)).cell? ⟨w.heap.size, 0, none⟩ = some u ∧ (w.alloc (.cells #[u, v] t fr)).cell? ⟨w.heap.size, 1, none⟩ = some v := by
  have h := heap_alloc_new w (.cells #[u, v] t fr)
  constructor
  · simp only [World.cell?]; rw [h]; rfl
  · simp only [World.cell?]; rw [h]; rfl
set_option maxRecDepth 100000 in
/-- one arc in a new block, at a step of a region that draws -/
theorem step_build_arc {w : World} {ops : Array Oper} {o : Oper} {act : Act} {K : Act → World → Prop} {Q : Exit → Act → World → Prop} {E : Prop} (hw : Region.wanted o (yielded ops act.tmps) = true) (x : Operand) (s t : Int)
    (ho : o.op = .buildSlice 47 1 #[(0, x)]) (hx : act.eval x = .agg #[.int .i64 s, .int .i64 t]) (h : ∀ g w', w'.cell? ⟨g, 0, none⟩ = some (.int .i64 s) → w'.cell? ⟨g, 1, none⟩ = some (.int .i64 t) → Below w.heap.size w w' → K (act.put o.dst (.slice (some ⟨g, 0, none⟩) 1 1)) w') :
    if Region.wanted o (yielded ops act.tmps) = true then o.wp Try.prog act w K Q else E := by
  rw [if_pos hw]
  unfold Oper.wp
  simp only [execOp, ho, List.map_toArray, List.map_cons, List.map_nil, hx]
  go_simp
  exact h _ _ (lit2 w _ _ _ _).1 (lit2 w _ _ _ _).2 ((Below.refl _ w).alloc (Nat.le_refl _) _)

/-- arcs that stand at their block's beginning, or none -/
def Sw.Front (x : Sw) : Prop := x.n = 0 ∨ ∃ b, x.a = some ⟨b, 0, none⟩
set_option maxRecDepth 100000 in
/-- arcs that stand so are kept by whatever changes a block that begins with no number -/
theorem Sw.Good.apart {w w' : World} {x : Sw} {k : Option Nat} (h : x.Good w) (hf : x.Front) (hg : w.grownBy w' k) (hk : ∀ b, k = some b → ∀ z : Int, w.cell? ⟨b, 0, none⟩ ≠ some (.int .i64 z)) : x.Good w' := by
  obtain ⟨h1, h2, h3, h4, h5⟩ := h
  refine ⟨h1, h2, h3, h4, ?_⟩
  rcases h5 with h5 | ⟨b, off, ha, hc⟩
  · exact .inl h5
  · rcases Nat.eq_zero_or_pos x.n with h0 | hp
    · exact .inl h0
    · refine .inr ⟨b, off, ha, fun i hi => ?_⟩
      rcases hf with hf | ⟨b', hb'⟩
      · omega
      · rw [ha] at hb'
        simp only [Option.some.injEq, Addr.mk.injEq, and_true] at hb'
        obtain ⟨rfl, rfl⟩ := hb'
        have hne : k ≠ some b := fun e => hk b e _ (by have := (hc 0 hp).1; simpa using this)
        obtain ⟨e1, e2⟩ := hc i hi
        exact ⟨hg.cell e1 (fun e => hne e.symm), hg.cell e2 (fun e => hne e.symm)⟩
set_option maxRecDepth 100000 in
theorem owns_front {w : World} {B : Nat} {T : TypeId} {v : Value} {n : Nat} {xs : List Sw} (h : w.ownsRow B T 2 v n (scells xs)) : ∀ b, v.ownBlock = some b → xs ≠ [] → ∀ z : Int, w.cell? ⟨b, 0, none⟩ ≠ some (.int .i64 z) := by
  intro b hb hne z
  rcases h.2 with ⟨rfl, _⟩ | ⟨g, c, cur, rfl, _⟩
  · cases hb
  · have : g = b := by simpa [Value.ownBlock] using hb
    subst this
    cases xs with
    | nil => exact absurd rfl hne
    | cons x xs =>
      have hl := h.1
      rw [scells_length, List.length_cons] at hl
      rw [h.cellAt 0 (by omega)]
      simp [scells, Sw.cells, Sw.f]

end Go.Proofs.Ytbfjihbkkcggmaa
