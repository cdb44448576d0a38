import Derived.Test.YtjmabjeaodojeaaGreatChecked
import Derived.Test.YtjmabjeaodojeaaGreatPackB
import Derived.Laws.AppendOwnNone
import Derived.OwnWalk
import Derived.WalkKit
import Derived.KernelRfl
import Derived.Test.YtjmabjeaodojeaaGreatPackP
/- Used by the law. -/
namespace Go.Proofs.YtjmabjeaodojeaaGreat
open Go.RowKit

def n64s (l : List Int) : List Value := l.map (Value.int .u64)
set_option maxRecDepth 100000 in
theorem info_n64 : (Tryz.prog.info? 23).map (fun i => (i.zero, i.size, i.bytes)) = some (some (.int .u64 0), 1, 8) := by kernel_rfl
set_option maxRecDepth 100000 in
theorem append_n64 {w : World} {ops : Array Oper} {rest : List Oper} {o : Oper} {act : Act} {Q : Exit → Act → World → Prop} (hgd : o.guard = none) (s x : Operand)
    (ho : o.op = .call { callee := .builtin .append, args := #[s, x], argTypes := #[40, 40] }) (base : Nat) (v : Value) (n : Nat) (xs : List Int) (hs : act.eval s = v)
    (hown : w.ownsRow base 23 1 v n (n64s xs)) (a : Option Addr) (m c : Nat) (zs : List Int) (hx : act.eval x = .slice a m c) (hz : Sl .u64 w a m c zs) (ha : a = none → c = 0)
    (N : Nat) (hN : n + m = N) (h63 : N * 8 ≤ 140737488355328) (hbase : base ≤ w.heap.size)
    (h : ∀ a' c' w', w'.ownsRow base 23 1 (.slice a' N c') N (n64s (xs ++ zs)) → Below base w w' → wpList Tryz.prog ops Q rest (act.put o.dst (.slice a' N c')) w') :
    wpList Tryz.prog ops Q (o :: rest) act w := by
  subst hN
  obtain ⟨i0, hi, hz0, hz1, hz2⟩ := info_parts info_n64
  have form : ∀ {w' : World} {v' : Value} {k : Nat} {l : List Value}, w'.ownsRow base 23 1 v' k l → ∃ a' c', v' = .slice a' k c' := by
    intro w' v' k l ho
    rcases ho.2 with ⟨h1, h2⟩ | ⟨g, cap, cur, h1, _⟩
    · subst h2; exact ⟨none, 0, h1⟩
    · exact ⟨_, cap, h1⟩
  cases a with
  | none =>
    obtain rfl := ha rfl
    obtain rfl : m = 0 := by have := hz.2.1; omega
    obtain rfl : zs = [] := List.eq_nil_of_length_eq_zero hz.1
    obtain ⟨a', c', rfl⟩ := form hown
    refine wpList_append_own_none hgd s x 40 ho base 23 i0 1 Tryz.underlying40 hi _ n (n64s xs) hs hown hx ?_
    exact h a' c' w (by simpa using hown) (Below.refl _ _)
  | some y =>
    have hnews : ∀ j u, (n64s zs)[j]? = some u → w.cell? (y.add j) = some u := by
      intro j u hj
      have hjl : j < zs.length := by
        rcases Nat.lt_or_ge j zs.length with hlt | hge
        · exact hlt
        · simp [n64s, List.getElem?_eq_none hge] at hj
      obtain ⟨b, off, hy, _, hc⟩ := hz.at (by have := hz.1; omega)
      simp only [Option.some.injEq] at hy
      subst hy
      have := hc j (by have := hz.1; omega)
      rw [show (⟨b, off, none⟩ : Addr).add j = ⟨b, off + j, none⟩ from by simp [Addr.add], this]
      simp [n64s, hjl] at hj
      rw [← hj]; simp [hjl]
    refine wpList_append_own w hgd s x 40 ho base 23 i0 (.int .u64 0) 1 8 Tryz.underlying40 hi hz0 hz1 hz2 rfl (by decide) v n (n64s xs) hs hown y m c (n64s zs) hx (by simp [n64s, hz.1]) hnews (ints_oneCell .u64 zs) (by unfold maxLen; omega) h63 hbase ?_
    intro v' w' hown' hgrow _
    obtain ⟨a', c', rfl⟩ := form hown'
    refine h a' c' w' (by rw [show n64s (xs ++ zs) = n64s xs ++ n64s zs from by simp [n64s]]; exact hown') ?_
    exact (Below.refl _ _).grown hgrow hbase (fun k hk => (hown.lt k hk).1)

end Go.Proofs.YtjmabjeaodojeaaGreat

/- Used by the law. -/
namespace Go.Proofs.YtjmabjeaodojeaaGreat
open Go.RowKit

end Go.Proofs.YtjmabjeaodojeaaGreat
