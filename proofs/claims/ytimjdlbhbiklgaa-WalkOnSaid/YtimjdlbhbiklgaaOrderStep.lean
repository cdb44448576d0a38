/- append of words inside a region that draws its order: what the law is told of the world, whichever way the region went. -/
import Derived.Test.YtimjdlbhbiklgaaPackJ
import Derived.Deep.RegionLaw
import Derived.Laws.NewBlocks
namespace Go.Proofs.Ytimjdlbhbiklgaa
open Go.RowKit

set_option maxRecDepth 100000 in
theorem Below.like {B : Nat} {w W W' : World} (h : Below B w W) (e1 : W'.heap = W.heap) (e2 : W'.os = W.os) (e3 : W'.tape = W.tape) (e4 : W'.output = W.output) : Below B w W' :=
  ⟨e2.trans h.os, e3.trans h.tape, e4.trans h.output, by rw [e1]; exact h.size, fun k hk => by rw [e1]; exact h.block k hk⟩

/-- a slice that the call owns lies at the head of its block, or is nil -/
def Form (a : Option Addr) (c : Nat) : Prop := (a = none ∧ c = 0) ∨ ∃ g, a = some ⟨g, 0, none⟩
set_option maxRecDepth 100000 in
theorem Form.nil {a : Option Addr} {c : Nat} (h : Form a c) : a = none → c = 0 := by
  intro e
  rcases h with ⟨_, h⟩ | ⟨g, h⟩
  · exact h
  · rw [e] at h; cases h
set_option maxRecDepth 100000 in
theorem form_of {w : World} {B n : Nat} {v : Value} {l : List Value} (ho : w.ownsRow B 23 1 v n l) : ∃ a c, v = .slice a n c ∧ Form a c := by
  rcases ho.2 with ⟨h1, h2⟩ | ⟨g, cap, cur, h1, _⟩
  · subst h2; exact ⟨none, 0, h1, .inl ⟨rfl, rfl⟩⟩
  · exact ⟨_, cap, h1, .inr ⟨g, rfl⟩⟩

set_option maxRecDepth 100000 in
/-- append of a list of words -/
theorem wp_append_words {w w0 : World} {o : Oper} {act : Act} {K : Act → World → Prop} {Q : Exit → Act → World → Prop} (s x : Operand)
    (ho : o.op = .call { callee := .builtin .append, args := #[s, x], argTypes := #[26, 26] }) (base : Nat) (v : Value) (n : Nat) (xs : List Wd) (hs : act.eval s = v)
    (hown : w.ownsRow base 23 1 v n (vals xs)) (a : Option Addr) (m c : Nat) (zs : List Wd) (hx : act.eval x = .slice a m c) (hz : Ws w a m c zs) (ha : a = none → c = 0)
    (N : Nat) (hN : n + m = N) (h63 : N * 24 ≤ 140737488355328) (hb0 : base ≤ w0.heap.size) (hbel : Below base w0 w)
    (h : ∀ a' c' w', w'.ownsRow base 23 1 (.slice a' N c') N (vals (xs ++ zs)) → w.grownBy w' v.ownBlock → Below base w0 w' → Form a' c' → K (act.put o.dst (.slice a' N c')) w') :
    o.wp Try.prog act w K Q := by
  subst hN
  have hbase : base ≤ w.heap.size := by have := hbel.size; omega
  obtain ⟨i0, hi, hz0, hz1, hz2⟩ := info_parts info_words
  cases a with
  | none =>
    obtain rfl := ha rfl
    obtain rfl : m = 0 := by have := hz.2.1; omega
    obtain rfl : zs = [] := List.eq_nil_of_length_eq_zero hz.1
    obtain ⟨a', c', rfl, hf⟩ := form_of hown
    have hrun := run_append_owned_none (P := Try.prog) (w := w) base 26 o.type 23 i0 1 Try.underlying26 hi _ n (vals xs) hown
    unfold Oper.wp
    simp [execOp, ho, resolve, invoke, builtin, hs, hx, hrun, Result.andThen]
    exact h a' c' w (by simpa using hown) (World.grownBy.refl w _) hbel hf
  | some y =>
    have hnews : ∀ j u, (vals zs)[j]? = some u → w.cell? (y.add j) = some u := by
      intro j u hj
      have hjl : j < zs.length := by
        rcases Nat.lt_or_ge j zs.length with hlt | hge
        · exact hlt
        · simp [vals, List.getElem?_eq_none hge] at hj
      obtain ⟨b, off, hy, _, hc⟩ := hz.at (by have := hz.1; omega)
      simp only [Option.some.injEq] at hy
      subst hy
      have := hc j (by have := hz.1; omega)
      rw [show (⟨b, off, none⟩ : Addr).add j = ⟨b, off + j, none⟩ from by simp [Addr.add], this]
      simp [vals, hjl] at hj
      rw [← hj]; simp [hjl, Wd.v]
    refine wp_append_own w s x 26 ho base 23 i0 (.slice none 0 0) 1 24 Try.underlying26 hi hz0 hz1 hz2 rfl (by decide) v n (vals xs) hs hown y m c (vals zs) hx (by simp [vals, hz.1]) hnews (words_oneCell zs) (by unfold maxLen; omega) h63 hbase ?_
    intro v' w' hown' hgrow _
    obtain ⟨a', c', rfl, hf⟩ := form_of hown'
    exact h a' c' w' (by rw [vals_app]; exact hown') hgrow (hbel.grown hgrow hbase (fun k hk => (hown.lt k hk).1)) hf

set_option maxRecDepth 100000 in
/-- append of one word that the region has laid down -/
theorem wp_append_one {w w0 : World} {o : Oper} {act : Act} {K : Act → World → Prop} {Q : Exit → Act → World → Prop} (s x : Operand)
    (ho : o.op = .call { callee := .builtin .append, args := #[s, x], argTypes := #[26, 26] }) (base : Nat) (v : Value) (n : Nat) (xs : List Wd) (hs : act.eval s = v)
    (hown : w.ownsRow base 23 1 v n (vals xs)) (g : Nat) (z : Wd) (hx : act.eval x = .slice (some ⟨g, 0, none⟩) 1 1) (hz : w.cell? ⟨g, 0, none⟩ = some z.v)
    (N : Nat) (hN : n + 1 = N) (h63 : N * 24 ≤ 140737488355328) (hb0 : base ≤ w0.heap.size) (hbel : Below base w0 w)
    (h : ∀ a' c' w', w'.ownsRow base 23 1 (.slice a' N c') N (vals (xs ++ [z])) → w.grownBy w' v.ownBlock → Below base w0 w' → Form a' c' → K (act.put o.dst (.slice a' N c')) w') :
    o.wp Try.prog act w K Q := by
  subst hN
  have hbase : base ≤ w.heap.size := by have := hbel.size; omega
  obtain ⟨i0, hi, hz0, hz1, hz2⟩ := info_parts info_words
  refine wp_append_own w s x 26 ho base 23 i0 (.slice none 0 0) 1 24 Try.underlying26 hi hz0 hz1 hz2 rfl (by decide) v n (vals xs) hs hown ⟨g, 0, none⟩ 1 1 (vals [z]) hx (by simp [vals]) ?_ (words_oneCell [z]) (by unfold maxLen; omega) h63 hbase ?_
  · intro j u hj
    match j, hj with
    | 0, hj => simp [vals] at hj; rw [← hj, ← hz]; simp [Addr.add]
  · intro v' w' hown' hgrow _
    obtain ⟨a', c', rfl, hf⟩ := form_of hown'
    exact h a' c' w' (by rw [vals_app]; exact hown') hgrow (hbel.grown hgrow hbase (fun k hk => (hown.lt k hk).1)) hf

set_option maxRecDepth 100000 in
theorem step_append_words {w w0 : World} {ops : Array Oper} {o : Oper} {act : Act} {K : Act → World → Prop} {Q : Exit → Act → World → Prop} {E : Prop} (hw : Region.wanted o (yielded ops act.tmps) = true) (s x : Operand)
    (ho : o.op = .call { callee := .builtin .append, args := #[s, x], argTypes := #[26, 26] }) (base : Nat) (v : Value) (n : Nat) (xs : List Wd) (hs : act.eval s = v)
    (hown : w.ownsRow base 23 1 v n (vals xs)) (a : Option Addr) (m c : Nat) (zs : List Wd) (hx : act.eval x = .slice a m c) (hz : Ws w a m c zs) (ha : a = none → c = 0)
    (N : Nat) (hN : n + m = N) (h63 : N * 24 ≤ 140737488355328) (hb0 : base ≤ w0.heap.size) (hbel : Below base w0 w)
    (h : ∀ a' c' w', w'.ownsRow base 23 1 (.slice a' N c') N (vals (xs ++ zs)) → w.grownBy w' v.ownBlock → Below base w0 w' → Form a' c' → K (act.put o.dst (.slice a' N c')) w') :
    if Region.wanted o (yielded ops act.tmps) = true then Oper.wp Try.prog o act w K Q else E := by
  rw [if_pos hw]
  exact wp_append_words s x ho base v n xs hs hown a m c zs hx hz ha N hN h63 hb0 hbel h

set_option maxRecDepth 100000 in
theorem step_append_one {w w0 : World} {ops : Array Oper} {o : Oper} {act : Act} {K : Act → World → Prop} {Q : Exit → Act → World → Prop} {E : Prop} (hw : Region.wanted o (yielded ops act.tmps) = true) (s x : Operand)
    (ho : o.op = .call { callee := .builtin .append, args := #[s, x], argTypes := #[26, 26] }) (base : Nat) (v : Value) (n : Nat) (xs : List Wd) (hs : act.eval s = v)
    (hown : w.ownsRow base 23 1 v n (vals xs)) (g : Nat) (z : Wd) (hx : act.eval x = .slice (some ⟨g, 0, none⟩) 1 1) (hz : w.cell? ⟨g, 0, none⟩ = some z.v)
    (N : Nat) (hN : n + 1 = N) (h63 : N * 24 ≤ 140737488355328) (hb0 : base ≤ w0.heap.size) (hbel : Below base w0 w)
    (h : ∀ a' c' w', w'.ownsRow base 23 1 (.slice a' N c') N (vals (xs ++ [z])) → w.grownBy w' v.ownBlock → Below base w0 w' → Form a' c' → K (act.put o.dst (.slice a' N c')) w') :
    if Region.wanted o (yielded ops act.tmps) = true then Oper.wp Try.prog o act w K Q else E := by
  rw [if_pos hw]
  exact wp_append_one s x ho base v n xs hs hown g z hx hz N hN h63 hb0 hbel h

set_option maxRecDepth 100000 in
/-- what stands in the world of such a region at its start, whichever of its two blocks is laid first -/
theorem owns0 (W : World) : (W.alloc (.cells #[] 23)).ownsRow W.heap.size 23 1 (.slice (some ⟨W.heap.size, 0, none⟩) 0 0) 0 (vals []) := owns_none_words W
set_option maxRecDepth 100000 in
theorem owns1 (W : World) (o : Obj) : ((W.alloc o).alloc (.cells #[] 23)).ownsRow W.heap.size 23 1 (.slice (some ⟨W.heap.size + 1, 0, none⟩) 0 0) 0 (vals []) := by
  have h := World.ownsRow_lit (base := W.heap.size) (e := 23) (size := 1) (W.alloc o) #[] 0 (by simp) (Nat.zero_le _) (by simp)
  simpa [vals] using h
set_option maxRecDepth 100000 in
theorem cell_first (W : World) (z : Wd) (o : Obj) : ((W.alloc (.cells #[.slice z.a z.n z.cap] 23)).alloc o).cell? ⟨W.heap.size, 0, none⟩ = some z.v := cell_alloc_sl _ (cell_new_sl W _ _)
set_option maxRecDepth 100000 in
theorem cell_second (W : World) (z : Wd) (o : Obj) : ((W.alloc o).alloc (.cells #[.slice z.a z.n z.cap] 23)).cell? ⟨W.heap.size + 1, 0, none⟩ = some z.v := by
  have := cell_new_sl (W.alloc o) z.v 23; rwa [World.size_alloc] at this

end Go.Proofs.Ytimjdlbhbiklgaa
