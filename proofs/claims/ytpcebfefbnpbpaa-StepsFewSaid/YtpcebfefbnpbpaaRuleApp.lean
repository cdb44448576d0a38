import Derived.Test.YtpcebfefbnpbpaaChecked
import Derived.Test.YtpcebfefbnpbpaaPackD
import Derived.Test.YtpcebfefbnpbpaaPackB
import Derived.KernelRfl
set_option linter.all false
set_option maxRecDepth 100000
set_option maxHeartbeats 12800000
namespace Go.Proofs.Ytpcebfefbnpbpaa
open Go.RowKit

theorem info_rule : (Try.prog.info? 41).map (fun i => (i.zero, i.size, i.bytes)) = some (some (.agg #[.slice none 0 0, .slice none 0 0, .int .u64 0]), 3, 56) := by kernel_rfl
theorem rcells_one (xs : List Rw) : ∀ u ∈ rcells xs, u.oneCell' = true := by
  intro u hu
  obtain ⟨x, _, hx⟩ := List.mem_flatMap.1 hu
  simp only [Rw.cells, List.mem_cons, List.not_mem_nil, or_false] at hx
  rcases hx with rfl | rfl | rfl <;> rfl
theorem Rs.news {w : World} {a : Option Addr} {m c : Nat} {zs : List Rw} (hz : Rs w a m c zs) (h0 : 0 < m) : ∃ y, a = some y ∧ ∀ j u, (rcells zs)[j]? = some u → w.cell? (y.add j) = some u := by
  obtain ⟨b, off, rfl, _, hc⟩ := hz.at h0
  refine ⟨_, rfl, fun j u hj => ?_⟩
  have hl := rcells_length zs
  have hjl : j < zs.length * 3 := by
    rcases Nat.lt_or_ge j (zs.length * 3) with h | h
    · exact h
    · rw [List.getElem?_eq_none (by omega)] at hj; cases hj
  have hq : j / 3 < zs.length := by omega
  have h3 : j % 3 < 3 := Nat.mod_lt _ (by omega)
  have hje : j = j / 3 * 3 + j % 3 := by omega
  have hat := rcells_at zs (j / 3) (j % 3) hq h3
  rw [← hje, hj] at hat
  have hca := hc (j / 3) (by rw [← hz.1]; exact hq)
  have e0 : (⟨b, off, none⟩ : Addr).add j = ⟨b, off + j, none⟩ := by simp [Addr.add]
  have e1 : off + j = off + j / 3 * 3 + j % 3 := by omega
  rw [e0, e1]
  generalize zs.getD (j / 3) Rw.no = x at hat hca
  rcases (show j % 3 = 0 ∨ j % 3 = 1 ∨ j % 3 = 2 by omega) with h | h | h <;> rw [h] at hat ⊢ <;> simp [Rw.cells] at hat <;> rw [hat]
  · exact hca.1
  · exact hca.2.1
  · exact hca.2.2

theorem wp_append_rules {w : World} {o : Oper} {act : Act} {K : Act → World → Prop} {Q : Exit → Act → World → Prop} (s x : Operand)
    (ho : o.op = .call { callee := .builtin .append, args := #[s, x], argTypes := #[23, 23] }) (base : Nat) (v : Value) (n : Nat) (xs : List Rw) (hs : act.eval s = v)
    (hown : w.ownsRow base 41 3 v n (rcells xs)) (a : Option Addr) (m c : Nat) (zs : List Rw) (hx : act.eval x = .slice a m c) (hz : Rs w a m c zs)
    (N : Nat) (hN : n + m = N) (h63 : N * 56 ≤ 140737488355328) (hbase : base ≤ w.heap.size)
    (h : ∀ a' c' w', w'.ownsRow base 41 3 (.slice a' N c') N (rcells (xs ++ zs)) → Below base w w' → w.grownBy w' v.ownBlock → (a' = none → c' = 0) → K (act.put o.dst (.slice a' N c')) w') :
    o.wp Try.prog act w K Q := by
  subst hN
  refine wp_append_cells s x 23 41 ho _ 3 56 Try.underlying23 info_rule rfl (by omega) base v n (rcells xs) hs hown a m c (rcells zs) hx (by rw [rcells_length, hz.1]) (fun h0 => hz.news h0) (rcells_one zs) (by unfold maxLen; omega) (by omega) hbase ?_
  intro a' c' w' h1 h2 h3 h4
  exact h a' c' w' (by rw [rcells_app]; exact h1) h2 h3 h4

/-- where the region does not draw -/
theorem append_rules {w : World} {ops : Array Oper} {rest : List Oper} {o : Oper} {act : Act} {Q : Exit → Act → World → Prop} (hw : Region.wanted o (yielded ops act.tmps) = true) (s x : Operand)
    (ho : o.op = .call { callee := .builtin .append, args := #[s, x], argTypes := #[23, 23] }) (base : Nat) (v : Value) (n : Nat) (xs : List Rw) (hs : act.eval s = v)
    (hown : w.ownsRow base 41 3 v n (rcells xs)) (a : Option Addr) (m c : Nat) (zs : List Rw) (hx : act.eval x = .slice a m c) (hz : Rs w a m c zs)
    (N : Nat) (hN : n + m = N) (h63 : N * 56 ≤ 140737488355328) (hbase : base ≤ w.heap.size)
    (h : ∀ a' c' w', w'.ownsRow base 41 3 (.slice a' N c') N (rcells (xs ++ zs)) → Below base w w' → w.grownBy w' v.ownBlock → (a' = none → c' = 0) → wpList Try.prog ops Q rest (act.put o.dst (.slice a' N c')) w') :
    wpList Try.prog ops Q (o :: rest) act w := by
  refine wpList_step fun K hK => ?_
  rw [if_pos hw]
  exact wp_append_rules s x ho base v n xs hs hown a m c zs hx hz N hN h63 hbase fun a' c' w' h1 h2 h3 h4 => hK _ _ (h a' c' w' h1 h2 h3 h4)

/-- at a step of a region that draws: what was laid since w0 -/
theorem step_append_rules {w w0 : World} {ops : Array Oper} {o : Oper} {act : Act} {K : Act → World → Prop} {Q : Exit → Act → World → Prop} {E : Prop} (hw : Region.wanted o (yielded ops act.tmps) = true) (s x : Operand)
    (ho : o.op = .call { callee := .builtin .append, args := #[s, x], argTypes := #[23, 23] }) (base : Nat) (v : Value) (n : Nat) (xs : List Rw) (hs : act.eval s = v)
    (hown : w.ownsRow base 41 3 v n (rcells xs)) (a : Option Addr) (m c : Nat) (zs : List Rw) (hx : act.eval x = .slice a m c) (hz : Rs w a m c zs)
    (N : Nat) (hN : n + m = N) (h63 : N * 56 ≤ 140737488355328) (hb0 : base ≤ w0.heap.size) (hbel : Below base w0 w)
    (h : ∀ a' c' w', w'.ownsRow base 41 3 (.slice a' N c') N (rcells (xs ++ zs)) → Below base w0 w' → w.grownBy w' v.ownBlock → (a' = none → c' = 0) → K (act.put o.dst (.slice a' N c')) w') :
    if Region.wanted o (yielded ops act.tmps) = true then o.wp Try.prog act w K Q else E := by
  rw [if_pos hw]
  exact wp_append_rules s x ho base v n xs hs hown a m c zs hx hz N hN h63 (Nat.le_trans hb0 hbel.size) fun a' c' w' h1 h2 h3 h4 => h a' c' w' h1 (hbel.trans h2) h3 h4

theorem Rs.single {w : World} {g : Nat} {x : Rw} (hg : x.Good w) (h : RwAt w g 0 x) : Rs w (some ⟨g, 0, none⟩) 1 1 [x] :=
  ⟨rfl, Nat.le_refl _, by unfold maxLen; omega, by simpa using hg, .inr ⟨g, 0, rfl, fun i hi => match i, hi with
    | 0, _ => h
    | i + 1, hi => absurd hi (by omega)⟩⟩
theorem RwAt.new (w : World) (x : Rw) (t : TypeId) : RwAt (w.alloc (.cells #[x.l, x.rt, x.c] t)) w.heap.size 0 x := by
  refine ⟨?_, ?_, ?_⟩ <;> (rw [World.cell?_alloc_mark]; rfl)
theorem RwAt.grown {w w' : World} {b o : Nat} {x : Rw} {row : Option Nat} (h : RwAt w b o x) (hg : w.grownBy w' row) (hne : some b ≠ row) : RwAt w' b o x :=
  ⟨hg.cell h.1 hne, hg.cell h.2.1 hne, hg.cell h.2.2 hne⟩
theorem RwAt.alloc {w : World} {b o : Nat} {x : Rw} (h : RwAt w b o x) (ob : Obj) : RwAt (w.alloc ob) b o x :=
  h.below ((Below.refl w.heap.size w).alloc (Nat.le_refl _) ob) (Nat.le_refl _)
theorem RwAt.drw {w : World} {b o : Nat} {x : Rw} (h : RwAt w b o x) : RwAt w.drew b o x := h
theorem RwAt.second (W : World) (x : Rw) (o : Obj) (t : TypeId) : RwAt ((W.alloc o).alloc (.cells #[x.l, x.rt, x.c] t)) (W.heap.size + 1) 0 x := by
  have := RwAt.new (W.alloc o) x t; rwa [World.size_alloc] at this

theorem owns0_rules (w : World) : (w.alloc (.cells #[] 41)).ownsRow w.heap.size 41 3 (.slice (some ⟨w.heap.size, 0, none⟩) 0 0) 0 (rcells []) := by
  have h := World.ownsRow_lit (base := w.heap.size) (e := 41) (size := 3) w #[] 0 (Nat.le_refl _) (Nat.zero_le _) (by simp)
  simpa [rcells] using h
theorem owns1_rules (W : World) (o : Obj) : ((W.alloc o).alloc (.cells #[] 41)).ownsRow W.heap.size 41 3 (.slice (some ⟨W.heap.size + 1, 0, none⟩) 0 0) 0 (rcells []) := by
  have h := World.ownsRow_lit (base := W.heap.size) (e := 41) (size := 3) (W.alloc o) #[] 0 (by simp) (Nat.zero_le _) (by simp)
  simpa [rcells] using h
theorem owns_nil_rules (w : World) (B : Nat) : w.ownsRow B 41 3 (.slice none 0 0) 0 (rcells []) := ⟨rfl, .inl ⟨rfl, rfl⟩⟩

/-- rules that the call has just laid -/
theorem Rs.newc {w : World} {t : TypeId} {B n m : Nat} {fr : Nat × Nat} (xs : List Rw) (hg : ∀ x ∈ xs, x.Good w) (hl : xs.length ≤ maxLen) (hB : B = w.heap.size) (hn : xs.length = n) (hm : xs.length = m) :
    Rs (w.alloc (.cells (rcells xs).toArray t fr)) (some ⟨B, 0, none⟩) n m xs := by
  subst hB hn hm
  refine ⟨rfl, Nat.le_refl _, hl, fun x hx => (hg x hx).alloc _, .inr ⟨w.heap.size, 0, rfl, fun i hi => ?_⟩⟩
  have e : ∀ j, j < 3 → (w.alloc (.cells (rcells xs).toArray t fr)).cell? ⟨w.heap.size, 0 + i * 3 + j, none⟩ = (xs.getD i Rw.no).cells[j]? := fun j hj => by
    rw [World.cell?_alloc_mark, Nat.zero_add]
    rw [← rcells_at xs i j hi hj]
    simp
  exact ⟨e 0 (by omega), e 1 (by omega), e 2 (by omega)⟩

end Go.Proofs.Ytpcebfefbnpbpaa
