/- append of bytes, and of rows of bytes, behind a row that the call owns: in whatever region that does not draw, guarded or not. -/
import Derived.Laws.AppendOwnNone
import Derived.Test.YtjdkmfcjflggfaaLineAwake
namespace Go.Proofs.Ytjdkmfcjflggfaa
open Go.RowKit

theorem owns_form {w : World} {base : Nat} {e : TypeId} {v : Value} {k : Nat} {l : List Value} (h : w.ownsRow base e 1 v k l) : ∃ a' c', v = .slice a' k c' ∧ (a' = none → c' = 0) := by
  rcases h.2 with ⟨h1, h2⟩ | ⟨g, cap, cur, h1, _⟩
  · subst h2; exact ⟨none, 0, h1, fun _ => rfl⟩
  · exact ⟨_, cap, h1, fun h => by cases h⟩

theorem append_row {w : World} {ops : Array Oper} {rest : List Oper} {o : Oper} {act : Act} {Q : Exit → Act → World → Prop} (hw : Region.wanted o (yielded ops act.tmps) = true) (s x : Operand) (T e : TypeId)
    (ho : o.op = .call { callee := .builtin .append, args := #[s, x], argTypes := #[T, T] }) (z : Value) (bytes : Nat) (hu : Try.prog.underlying T = some (.slice e)) (hinfo : (Try.prog.info? e).map (fun i => (i.zero, i.size, i.bytes)) = some (some z, 1, bytes)) (hzc : z.cells.size = 1) (base : Nat) (v : Value) (n : Nat) (xs : List Value) (hs : act.eval s = v)
    (hown : w.ownsRow base e 1 v n xs) (a : Option Addr) (m c : Nat) (zs : List Value) (hx : act.eval x = .slice a m c) (hz : zs.length = m) (hc : 0 < m → ∃ y, a = some y ∧ ∀ j u, zs[j]? = some u → w.cell? (y.add j) = some u) (h1 : ∀ u ∈ zs, u.oneCell' = true) (ha : a = none → m = 0 ∧ c = 0)
    (hmax : n + m ≤ maxLen) (h63 : (n + m) * bytes ≤ 140737488355328) (hbase : base ≤ w.heap.size)
    (h : ∀ a' c' w', w'.ownsRow base e 1 (.slice a' (n + m) c') (n + m) (xs ++ zs) → Below base w w' → (a' = none → c' = 0) → wpList Try.prog ops Q rest (act.put o.dst (.slice a' (n + m) c')) w') :
    wpList Try.prog ops Q (o :: rest) act w := by
  obtain ⟨i0, hi, hz0, hz1, hz2⟩ := info_parts hinfo
  refine wpList_step fun K hK => ?_
  rw [if_pos hw]
  cases a with
  | none =>
    obtain ⟨rfl, rfl⟩ := ha rfl
    obtain rfl : zs = [] := List.eq_nil_of_length_eq_zero hz
    obtain ⟨a', c', rfl, hnil⟩ := owns_form hown
    have hrun := run_append_owned_none (P := Try.prog) (w := w) base T o.type e i0 1 hu hi _ n xs hown
    unfold Oper.wp
    simp [execOp, ho, resolve, invoke, builtin, hs, hx, hrun, Result.andThen]
    exact hK _ _ (h a' c' w (by simpa using hown) (Below.refl _ _) hnil)
  | some y =>
    have hnews : ∀ j u, zs[j]? = some u → w.cell? (y.add j) = some u := by
      intro j u hj
      have hjl : j < zs.length := by
        rcases Nat.lt_or_ge j zs.length with hlt | hge
        · exact hlt
        · simp [List.getElem?_eq_none hge] at hj
      obtain ⟨y', hy, hh⟩ := hc (by omega)
      cases hy
      exact hh j u hj
    refine wp_append_own w s x T ho base e i0 z 1 bytes hu hi hz0 hz1 hz2 hzc (by decide) v n xs hs hown y m c zs hx (by simp [hz]) hnews h1 hmax h63 hbase ?_
    intro v' w' hown' hgrow _
    obtain ⟨a', c', rfl, hnil⟩ := owns_form hown'
    exact hK _ _ (h a' c' w' hown' ((Below.refl _ _).grown hgrow hbase (fun k hk => (hown.lt k hk).1)) hnil)

theorem append_bytes {w : World} {ops : Array Oper} {rest : List Oper} {o : Oper} {act : Act} {Q : Exit → Act → World → Prop} (hw : Region.wanted o (yielded ops act.tmps) = true) (s x : Operand)
    (ho : o.op = .call { callee := .builtin .append, args := #[s, x], argTypes := #[22, 22] }) (base : Nat) (v : Value) (n : Nat) (xs : List Int) (hs : act.eval s = v)
    (hown : w.ownsRow base 5 1 v n (u8s xs)) (a : Option Addr) (m c : Nat) (zs : List Int) (hx : act.eval x = .slice a m c) (hz : Sl .u8 w a m c zs) (ha : a = none → c = 0)
    (N : Nat) (hN : n + m = N) (h63 : N ≤ 1000000000) (hbase : base ≤ w.heap.size)
    (h : ∀ a' c' w', w'.ownsRow base 5 1 (.slice a' N c') N (u8s (xs ++ zs)) → Below base w w' → (a' = none → c' = 0) → wpList Try.prog ops Q rest (act.put o.dst (.slice a' N c')) w') :
    wpList Try.prog ops Q (o :: rest) act w := by
  subst hN
  have hm := hz.2.1
  refine append_row hw s x 22 5 ho (.int .u8 0) 1 Try.underlying22 info_u8 rfl base v n (u8s xs) hs hown a m c (u8s zs) hx (by simp [u8s, hz.1]) ?_ (ints_oneCell .u8 zs) (fun e => by have := ha e; omega) (by unfold maxLen; omega) (by omega) hbase ?_
  · intro h0
    obtain ⟨b, off, rfl, _, hc⟩ := hz.at h0
    refine ⟨_, rfl, fun j u hj => ?_⟩
    have hjl : j < zs.length := by
      rcases Nat.lt_or_ge j zs.length with hlt | hge
      · exact hlt
      · simp [u8s, List.getElem?_eq_none hge] at hj
    have := hc j (by have := hz.1; omega)
    rw [show (⟨b, off, none⟩ : Addr).add j = ⟨b, off + j, none⟩ from by simp [Addr.add], this]
    simp [u8s, hjl] at hj
    rw [← hj]; simp [hjl]
  · intro a' c' w' ho' hb' hn'
    exact h a' c' w' (by rw [show u8s (xs ++ zs) = u8s xs ++ u8s zs from by simp [u8s]]; exact ho') hb' hn'

theorem append_lines {w : World} {ops : Array Oper} {rest : List Oper} {o : Oper} {act : Act} {Q : Exit → Act → World → Prop} (hw : Region.wanted o (yielded ops act.tmps) = true) (s x : Operand)
    (ho : o.op = .call { callee := .builtin .append, args := #[s, x], argTypes := #[25, 25] }) (base : Nat) (v : Value) (n : Nat) (xs : List Bd) (hs : act.eval s = v)
    (hown : w.ownsRow base 22 1 v n (bvals xs)) (a : Option Addr) (m c : Nat) (zs : List Bd) (hx : act.eval x = .slice a m c) (hz : Bs w a m c zs) (ha : a = none → c = 0)
    (N : Nat) (hN : n + m = N) (h63 : N ≤ 1000000000) (hbase : base ≤ w.heap.size)
    (h : ∀ a' c' w', w'.ownsRow base 22 1 (.slice a' N c') N (bvals (xs ++ zs)) → Below base w w' → (a' = none → c' = 0) → wpList Try.prog ops Q rest (act.put o.dst (.slice a' N c')) w') :
    wpList Try.prog ops Q (o :: rest) act w := by
  subst hN
  have hm := hz.2.1
  refine append_row hw s x 25 22 ho (.slice none 0 0) 24 Try.underlying25 info_brow rfl base v n (bvals xs) hs hown a m c (bvals zs) hx (by simp [bvals, hz.1]) ?_ (brows_oneCell zs) (fun e => by have := ha e; omega) (by unfold maxLen; omega) (by omega) hbase ?_
  · intro h0
    obtain ⟨b, off, rfl, _, hc⟩ := hz.at h0
    refine ⟨_, rfl, fun j u hj => ?_⟩
    have hjl : j < zs.length := by
      rcases Nat.lt_or_ge j zs.length with hlt | hge
      · exact hlt
      · simp [bvals, List.getElem?_eq_none hge] at hj
    have := hc j (by have := hz.1; omega)
    rw [show (⟨b, off, none⟩ : Addr).add j = ⟨b, off + j, none⟩ from by simp [Addr.add], this]
    simp [bvals, hjl] at hj
    rw [← hj]; simp [hjl, Bd.v]
  · intro a' c' w' ho' hb' hn'
    exact h a' c' w' (by rw [bvals_app]; exact ho') hb' hn'

theorem owns0_bytes (w : World) : (w.alloc (.cells #[] 5)).ownsRow w.heap.size 5 1 (.slice (some ⟨w.heap.size, 0, none⟩) 0 0) 0 (u8s []) := by
  have h := World.ownsRow_lit (base := w.heap.size) (e := 5) (size := 1) w #[] 0 (Nat.le_refl _) (Nat.zero_le _) (by simp)
  simpa [u8s] using h
theorem owns0_lines (w : World) : (w.alloc (.cells #[] 22)).ownsRow w.heap.size 22 1 (.slice (some ⟨w.heap.size, 0, none⟩) 0 0) 0 (bvals []) := by
  have h := World.ownsRow_lit (base := w.heap.size) (e := 22) (size := 1) w #[] 0 (Nat.le_refl _) (Nat.zero_le _) (by simp)
  simpa [bvals] using h

end Go.Proofs.Ytjdkmfcjflggfaa
