/- append onto a row that the call owns, of elements of however many cells, of a slice that may be nil: for whatever layer, and whatever way a region goes. Names no function and no type of the program. -/
import Derived.Test.YtehdojhblekgeaaPackB
import Derived.Below
import Derived.OwnWalk
import Derived.Laws.AppendOwn
import Derived.Laws.OwnMore
import Derived.Laws.AppendOwnNone
import Derived.WalkLawsBesides
namespace Go.Proofs.Ytehdojhblekgeaa
open Go.RowKit

set_option maxRecDepth 100000 in
theorem own_form {w : World} {base : Nat} {e : TypeId} {size : Nat} {v : Value} {k : Nat} {l : List Value} (h : w.ownsRow base e size v k l) : ∃ a' c', v = .slice a' k c' ∧ (a' = none → c' = 0) := by
  rcases h.2 with ⟨h1, h2⟩ | ⟨g, cap, cur, h1, _⟩
  · subst h2; exact ⟨none, 0, h1, fun _ => rfl⟩
  · exact ⟨_, cap, h1, fun h => by cases h⟩
set_option maxRecDepth 100000 in
theorem own_mono {w : World} {B B' : Nat} {e : TypeId} {size : Nat} {v : Value} {n : Nat} {l : List Value} (h : w.ownsRow B e size v n l) (hB : B' ≤ B) : w.ownsRow B' e size v n l := by
  refine ⟨h.1, ?_⟩
  rcases h.2 with h1 | ⟨g, c, cur, h1, h2, h3⟩
  · exact .inl h1
  · exact .inr ⟨g, c, cur, h1, Nat.le_trans hB h2, h3⟩

set_option maxRecDepth 100000 in
theorem run_append_nil_any {P : Program} {w : World} (base : Nat) (t ty e : TypeId) (i : TypeInfo) (size c : Nat) (ht : P.underlying t = some (.slice e)) (hi : P.info? e = some i)
    (v : Value) (n : Nat) (xs : List Value) (hown : w.ownsRow base e size v n xs) :
    (Builtin.append_ #[t, t] ty #[v, .slice none 0 c]).run P w = .ok v w := by
  rcases hown.2 with ⟨rfl, rfl⟩ | ⟨g, cap, cur, rfl, _, _, hnc, _⟩
  · simp [Builtin.append_, run_underlying ht, sizeOf, typeInfo, hi, Builtin.lenOf, Builtin.firstCells]
  · simp [Builtin.append_, run_underlying ht, sizeOf, typeInfo, hi, Builtin.lenOf, Builtin.firstCells, hnc, storeCells]

set_option maxRecDepth 100000 in
theorem wp_append_cells {P : Program} {w : World} {o : Oper} {act : Act} {K : Act → World → Prop} {Q : Exit → Act → World → Prop} (s x : Operand) (T e : TypeId)
    (ho : o.op = .call { callee := .builtin .append, args := #[s, x], argTypes := #[T, T] }) (z : Value) (size bytes : Nat) (hu : P.underlying T = some (.slice e)) (hinfo : (P.info? e).map (fun i => (i.zero, i.size, i.bytes)) = some (some z, size, bytes))
    (hzc : z.cells.size = size) (hsz : 0 < size) (base : Nat) (v : Value) (n : Nat) (xs : List Value) (hs : act.eval s = v)
    (hown : w.ownsRow base e size v n xs) (a : Option Addr) (m c : Nat) (zs : List Value) (hx : act.eval x = .slice a m c) (hz : zs.length = m * size) (hc : 0 < m → ∃ y, a = some y ∧ ∀ j u, zs[j]? = some u → w.cell? (y.add j) = some u) (h1 : ∀ u ∈ zs, u.oneCell' = true)
    (hmax : n + m ≤ maxLen) (h63 : (n + m) * bytes ≤ 140737488355328) (hbase : base ≤ w.heap.size)
    (h : ∀ a' c' w', w'.ownsRow base e size (.slice a' (n + m) c') (n + m) (xs ++ zs) → Below base w w' → w.grownBy w' v.ownBlock → (a' = none → c' = 0) → K (act.put o.dst (.slice a' (n + m) c')) w') :
    o.wp P act w K Q := by
  obtain ⟨i0, hi, hz0, hz1, hz2⟩ := info_parts hinfo
  cases a with
  | none =>
    obtain rfl : m = 0 := by
      rcases Nat.eq_zero_or_pos m with h0 | h0
      · exact h0
      · obtain ⟨y, e, _⟩ := hc h0; cases e
    obtain rfl : zs = [] := List.eq_nil_of_length_eq_zero (by rw [hz, Nat.zero_mul])
    obtain ⟨a', c', rfl, hnil⟩ := own_form hown
    have hrun := run_append_nil_any (P := P) (w := w) base T o.type e i0 size c hu hi _ n xs hown
    unfold Oper.wp
    simp [execOp, ho, resolve, invoke, builtin, hs, hx, hrun, Result.andThen]
    exact h a' c' w (by simpa using hown) (Below.refl _ _) (World.grownBy.refl w _) hnil
  | some y =>
    have hnews : ∀ j u, zs[j]? = some u → w.cell? (y.add j) = some u := by
      intro j u hj
      have hjl : j < zs.length := by
        rcases Nat.lt_or_ge j zs.length with hlt | hge
        · exact hlt
        · simp [List.getElem?_eq_none hge] at hj
      obtain ⟨y', hy, hh⟩ := hc (by rcases Nat.eq_zero_or_pos m with h0 | h0; · rw [hz, h0, Nat.zero_mul] at hjl; omega
                                    · exact h0)
      cases hy
      exact hh j u hj
    refine wp_append_own w s x T ho base e i0 z size bytes hu hi hz0 hz1 hz2 hzc hsz v n xs hs hown y m c zs hx hz hnews h1 hmax h63 hbase ?_
    intro v' w' hown' hgrow _
    obtain ⟨a', c', rfl, hnil⟩ := own_form hown'
    exact h a' c' w' hown' ((Below.refl _ _).grown hgrow hbase (fun k hk => (hown.lt k hk).1)) hgrow hnil

end Go.Proofs.Ytehdojhblekgeaa
