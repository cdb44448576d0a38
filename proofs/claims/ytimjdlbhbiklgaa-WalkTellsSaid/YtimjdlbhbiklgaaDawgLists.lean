/- Used by the law. -/
import Derived.Test.YtimjdlbhbiklgaaOrderInts
import Derived.Test.YtimjdlbhbiklgaaTrieMk
namespace Go.Proofs.Ytimjdlbhbiklgaa
open Go.RowKit Tri

set_option maxRecDepth 100000 in
theorem append_words_g {w : World} {ops : Array Oper} {rest : List Oper} {o : Oper} {act : Act} {Q : Exit → Act → World → Prop} (hgd : o.guard = none) (s x : Operand)
    (ho : o.op = .call { callee := .builtin .append, args := #[s, x], argTypes := #[26, 26] }) (base : Nat) (v : Value) (n : Nat) (xs : List Wd) (hs : act.eval s = v)
    (hown : w.ownsRow base 23 1 v n (vals xs)) (a : Option Addr) (m c : Nat) (zs : List Wd) (hx : act.eval x = .slice a m c) (hz : Ws w a m c zs) (ha : a = none → c = 0)
    (N : Nat) (hN : n + m = N) (h63 : N * 24 ≤ 140737488355328) (hbase : base ≤ w.heap.size)
    (h : ∀ a' c' w', w'.ownsRow base 23 1 (.slice a' N c') N (vals (xs ++ zs)) → Below base w w' → w.grownBy w' v.ownBlock → (a' = none → c' = 0) → wpList Try.prog ops Q rest (act.put o.dst (.slice a' N c')) w') :
    wpList Try.prog ops Q (o :: rest) act w := by
  subst hN
  obtain ⟨i0, hi, hz0, hz1, hz2⟩ := info_parts info_words
  have form : ∀ {w' : World} {v' : Value} {k : Nat} {l : List Value}, w'.ownsRow base 23 1 v' k l → ∃ a' c', v' = .slice a' k c' ∧ (a' = none → c' = 0) := by
    intro w' v' k l ho
    rcases ho.2 with ⟨h1, h2⟩ | ⟨g, cap, cur, h1, _⟩
    · subst h2; exact ⟨none, 0, h1, fun _ => rfl⟩
    · exact ⟨_, cap, h1, fun h => by cases h⟩
  cases a with
  | none =>
    obtain rfl := ha rfl
    obtain rfl : m = 0 := by have := hz.2.1; omega
    obtain rfl : zs = [] := List.eq_nil_of_length_eq_zero hz.1
    obtain ⟨a', c', rfl, hnil⟩ := form hown
    refine wpList_append_own_none hgd s x 26 ho base 23 i0 1 Try.underlying26 hi _ n (vals xs) hs hown hx ?_
    exact h a' c' w (by simpa using hown) (Below.refl _ _) (World.grownBy.refl w _) hnil
  | some y =>
    have hnews : ∀ j u, (vals zs)[j]? = some u → w.cell? (y.add j) = some u := by
      intro j u hj
      have hjl : j < zs.length := by
        rcases Nat.lt_or_ge j zs.length with hlt | hge
        · exact hlt
        · simp [vals, List.getElem?_eq_none hge] at hj
      obtain ⟨b, off, hy, _, hc⟩ := hz.at (by have := hz.1; omega)
      simp only [Option.some.injEq] at hy
      subst hy
      have := hc j (by have := hz.1; omega)
      rw [show (⟨b, off, none⟩ : Addr).add j = ⟨b, off + j, none⟩ from by simp [Addr.add], this]
      simp [vals, hjl] at hj
      rw [← hj]; simp [hjl, Wd.v]
    refine wpList_append_own w hgd s x 26 ho base 23 i0 (.slice none 0 0) 1 24 Try.underlying26 hi hz0 hz1 hz2 rfl (by decide) v n (vals xs) hs hown y m c (vals zs) hx (by simp [vals, hz.1]) hnews (words_oneCell zs) (by unfold maxLen; omega) h63 hbase ?_
    intro v' w' hown' hgrow _
    obtain ⟨a', c', rfl, hnil⟩ := form hown'
    refine h a' c' w' (by rw [vals_app]; exact hown') ?_ hgrow hnil
    exact (Below.refl _ _).grown hgrow hbase (fun k hk => (hown.lt k hk).1)
set_option maxRecDepth 100000 in
theorem ne_wi : (23 : TypeId) ≠ 3 := by decide
structure Ml (B : Nat) (w : World) (a : Option Addr) (L c : Nat) (outs : List Wd) : Prop where
  row : w.ownsRow B 23 1 (.slice a L c) L (vals outs)
  own : ∀ x ∈ outs, w.ownsRow B 3 1 x.v x.n (i64s x.zs)
  wfs : ∀ x ∈ outs, ∀ z ∈ x.zs, (Lit.int .i64 z).wf = true
  lens : ∀ x ∈ outs, x.zs.length = x.n
  len : outs.length = L
  nil : a = none → c = 0
theorem Ml.start (B : Nat) (w : World) : Ml B w none 0 0 [] :=
  ⟨⟨rfl, .inl ⟨rfl, rfl⟩⟩, by simp, by simp, by simp, rfl, fun _ => rfl⟩
theorem Ml.below {B : Nat} {w w' : World} {a : Option Addr} {L c : Nat} {outs : List Wd} (h : Ml B w a L c outs) (hb : Below w.heap.size w w') : Ml B w' a L c outs :=
  ⟨ownsRow_below h.row hb (Nat.le_refl _), fun x hx => ownsRow_below (h.own x hx) hb (Nat.le_refl _), h.wfs, h.lens, h.len, h.nil⟩
theorem Ml.words {B : Nat} {w : World} {a : Option Addr} {L c : Nat} {outs : List Wd} (h : Ml B w a L c outs) : Ws w a L c outs :=
  Ws.of_owns h.row (fun x hx => Sl.of_owns (h.own x hx) (h.wfs x hx) (h.lens x hx)) h.len
theorem Ml.add {B : Nat} {w w' : World} {a a' : Option Addr} {L c c' : Nat} {outs : List Wd} (h : Ml B w a L c outs) (x : Wd) (hx : w.ownsRow B 3 1 x.v x.n (i64s x.zs)) (hz : ∀ z ∈ x.zs, (Lit.int .i64 z).wf = true) (hl : x.zs.length = x.n)
    (hrow : w'.ownsRow B 23 1 (.slice a' (L + 1) c') (L + 1) (vals (outs ++ [x]))) (hg : w.grownBy w' (Value.slice a L c).ownBlock) (hn : a' = none → c' = 0) : Ml B w' a' (L + 1) c' (outs ++ [x]) := by
  have hk := KeepI.row hg h.row ne_wi
  refine ⟨hrow, fun y hy => ?_, fun y hy => ?_, fun y hy => ?_, by simp [h.len], hn⟩
  · rcases List.mem_append.1 hy with hy | hy
    · exact hk.owns (h.own y hy)
    · rw [List.mem_singleton.1 hy]; exact hk.owns hx
  · rcases List.mem_append.1 hy with hy | hy
    · exact h.wfs y hy
    · rw [List.mem_singleton.1 hy]; exact hz
  · rcases List.mem_append.1 hy with hy | hy
    · exact h.lens y hy
    · rw [List.mem_singleton.1 hy]; exact hl
theorem own_lower {w : World} {B B' : Nat} {e : TypeId} {size n : Nat} {v : Value} {l : List Value} (h : w.ownsRow B e size v n l) (hB : B' ≤ B) : w.ownsRow B' e size v n l := by
  refine ⟨h.1, ?_⟩
  rcases h.2 with h1 | ⟨g, c, cur, h1, h2, h3⟩
  · exact .inl h1
  · exact .inr ⟨g, c, cur, h1, by omega, h3⟩

end Go.Proofs.Ytimjdlbhbiklgaa
