/- Used by the law. -/
import Derived.Laws.AppendOwnNone
import Derived.Test.YtimjdlbhbiklgaaDawgLists
import Derived.Test.YtimjdlbhbiklgaaPackK
namespace Go.Proofs.Ytimjdlbhbiklgaa
open Go.RowKit

set_option maxRecDepth 100000 in
theorem append_words_w {w : World} {ops : Array Oper} {rest : List Oper} {o : Oper} {act : Act} {Q : Exit → Act → World → Prop} (hw : Region.wanted o (yielded ops act.tmps) = true) (s x : Operand)
    (ho : o.op = .call { callee := .builtin .append, args := #[s, x], argTypes := #[26, 26] }) (base : Nat) (v : Value) (n : Nat) (xs : List Wd) (hs : act.eval s = v)
    (hown : w.ownsRow base 23 1 v n (vals xs)) (a : Option Addr) (m c : Nat) (zs : List Wd) (hx : act.eval x = .slice a m c) (hz : Ws w a m c zs) (ha : a = none → c = 0)
    (N : Nat) (hN : n + m = N) (h63 : N * 24 ≤ 140737488355328) (hbase : base ≤ w.heap.size)
    (h : ∀ a' c' w', w'.ownsRow base 23 1 (.slice a' N c') N (vals (xs ++ zs)) → Below base w w' → w.grownBy w' v.ownBlock → (a' = none → c' = 0) → wpList Try.prog ops Q rest (act.put o.dst (.slice a' N c')) w') :
    wpList Try.prog ops Q (o :: rest) act w := by
  subst hN
  obtain ⟨i0, hi, hz0, hz1, hz2⟩ := info_parts info_words
  have form : ∀ {w' : World} {v' : Value} {k : Nat} {l : List Value}, w'.ownsRow base 23 1 v' k l → ∃ a' c', v' = .slice a' k c' ∧ (a' = none → c' = 0) := by
    intro w' v' k l ho
    rcases ho.2 with ⟨h1, h2⟩ | ⟨g, cap, cur, h1, _⟩
    · subst h2; exact ⟨none, 0, h1, fun _ => rfl⟩
    · exact ⟨_, cap, h1, fun h => by cases h⟩
  refine wpList_step fun K hK => ?_
  rw [if_pos hw]
  cases a with
  | none =>
    obtain rfl := ha rfl
    obtain rfl : m = 0 := by have := hz.2.1; omega
    obtain rfl : zs = [] := List.eq_nil_of_length_eq_zero hz.1
    obtain ⟨a', c', rfl, hnil⟩ := form hown
    have hrun := run_append_owned_none (P := Try.prog) (w := w) base 26 o.type 23 i0 1 Try.underlying26 hi _ n (vals xs) hown
    unfold Oper.wp
    simp [execOp, ho, resolve, invoke, builtin, hs, hx, hrun, Result.andThen]
    exact hK _ _ (h a' c' w (by simpa using hown) (Below.refl _ _) (World.grownBy.refl w _) hnil)
  | some y =>
    have hnews : ∀ j u, (vals zs)[j]? = some u → w.cell? (y.add j) = some u := by
      intro j u hj
      have hjl : j < zs.length := by
        rcases Nat.lt_or_ge j zs.length with hlt | hge
        · exact hlt
        · simp [vals, List.getElem?_eq_none hge] at hj
      obtain ⟨b, off, hy, _, hc⟩ := hz.at (by have := hz.1; omega)
      simp only [Option.some.injEq] at hy
      subst hy
      have := hc j (by have := hz.1; omega)
      rw [show (⟨b, off, none⟩ : Addr).add j = ⟨b, off + j, none⟩ from by simp [Addr.add], this]
      simp [vals, hjl] at hj
      rw [← hj]; simp [hjl, Wd.v]
    refine wp_append_own w s x 26 ho base 23 i0 (.slice none 0 0) 1 24 Try.underlying26 hi hz0 hz1 hz2 rfl (by decide) v n (vals xs) hs hown y m c (vals zs) hx (by simp [vals, hz.1]) hnews (words_oneCell zs) (by unfold maxLen; omega) h63 hbase ?_
    intro v' w' hown' hgrow _
    obtain ⟨a', c', rfl, hnil⟩ := form hown'
    exact hK _ _ (h a' c' w' (by rw [vals_app]; exact hown') ((Below.refl _ _).grown hgrow hbase (fun k hk => (hown.lt k hk).1)) hgrow hnil)
theorem Ml.one {B : Nat} {w : World} {a : Option Addr} {L c : Nat} {outs : List Wd} (h : Ml B w a L c outs) (i : Nat) (hi : i < L) :
    ∃ b off a1 n1 c1 zs, a = some ⟨b, off, none⟩ ∧ b < w.heap.size ∧ w.cell? ⟨b, off + i, none⟩ = some (.slice a1 n1 c1) ∧ Sl .i64 w a1 n1 c1 zs ∧ (nums outs).getD i [] = zs ∧ (a1 = none → c1 = 0) := by
  obtain ⟨b, off, a1, n1, c1, zs, h1, h2, h3, h4, h5, h6⟩ := h.words.one i hi
  refine ⟨b, off, a1, n1, c1, zs, h1, h2, h4, h5, h6, ?_⟩
  have hm : outs.getD i Wd.no ∈ outs := by
    have := h.len
    rw [List.getD_eq_getElem?_getD, List.getElem?_eq_getElem (by omega), Option.getD_some]; exact List.getElem_mem _
  have ho := h.own _ hm
  rw [h3] at ho
  obtain ⟨a', c', e, hn⟩ := own_form ho
  have e' : Value.slice a1 n1 c1 = Value.slice a' n1 c' := e
  cases e'
  exact hn
theorem size_alloc (w : World) (o : Obj) : (w.alloc o).heap.size = w.heap.size + 1 := by unfold World.alloc; simp
end Go.Proofs.Ytimjdlbhbiklgaa
