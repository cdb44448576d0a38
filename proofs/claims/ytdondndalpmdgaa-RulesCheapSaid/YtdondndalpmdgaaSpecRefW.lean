/- The document's field and Write of layer 7. -/
import Derived.Test.YtdondndalpmdgaaPackP
import Derived.Test.YtdondndalpmdgaaNumRef
import Derived.Test.YtdondndalpmdgaaPackB
import Derived.Test.YtdondndalpmdgaaPackD
import Derived.WalkArith
import Derived.Laws.AppendOwn
import Derived.ArgAppend
import Derived.Lib.SlBytesConst
import Derived.Test.YtdondndalpmdgaaGenStr
namespace Go.Proofs.Ytdondndalpmdgaa
open Go.RowKit

/-- bytes that a call answers -/
def FieldIs (w w' : World) (e : Ending) (f : List Int) : Prop :=
  ∃ a' n' c', e = .returned (.slice a' n' c') ∧ n' = f.length ∧ Sl .u8 w' a' n' c' f ∧ Below w.heap.size w w'

set_option maxRecDepth 100000 in
theorem field_len {l f : List Int} (hl : l.length ≤ 1000) (hf : Spec.field l = f) : f.length ≤ 4000 := by
  unfold Spec.field at hf
  split at hf
  · subst hf; simp
  · subst hf; have := Utf.put_length_le l; omega
set_option maxRecDepth 100000 in
/-- append of bytes onto a slice that is full: a new row -/
theorem append_full {w : World} {ops : Array Oper} {rest : List Oper} {o : Oper} {act : Act} {Q : Exit → Act → World → Prop} (hg : o.guard = none) (s x : Operand)
    (ho : o.op = .call { callee := .builtin .append, args := #[s, x], argTypes := #[22, 22] }) (base : Nat) (a : Option Addr) (n : Nat) (xs : List Int) (hs : act.eval s = .slice a n n)
    (hS : Sl .u8 w a n n xs) (hn : 0 < n) (b : Option Addr) (m c : Nat) (zs : List Int) (hx : act.eval x = .slice b m c) (hz : Sl .u8 w b m c zs) (hm : 0 < m)
    (N : Nat) (hN : n + m = N) (h63 : N ≤ 1000000000) (hbase : base ≤ w.heap.size)
    (h : ∀ a' c' w', w'.ownsRow base 5 1 (.slice a' N c') N (u8s (xs ++ zs)) → Below base w w' → (a' = none → c' = 0) → wpList Try.prog ops Q rest (act.put o.dst (.slice a' N c')) w') :
    wpList Try.prog ops Q (o :: rest) act w := by
  subst hN
  obtain ⟨i0, hi, hz0, hz1, hz2⟩ := info_parts info_u8
  have rd : ∀ {b : Option Addr} {m c : Nat} {zs : List Int}, Sl .u8 w b m c zs → 0 < m → ∃ y, b = some y ∧ ∀ j u, (u8s zs)[j]? = some u → w.cell? (y.add j) = some u := by
    intro b m c zs hz h0
    obtain ⟨b, off, rfl, _, hc⟩ := hz.at h0
    refine ⟨_, rfl, fun j u hj => ?_⟩
    have hjl : j < zs.length := by
      rcases Nat.lt_or_ge j zs.length with hlt | hge
      · exact hlt
      · simp [u8s, List.getElem?_eq_none hge] at hj
    have := hc j (by have := hz.1; omega)
    rw [show (⟨b, off, none⟩ : Addr).add j = ⟨b, off + j, none⟩ from by simp [Addr.add], this]
    simp [u8s, hjl] at hj
    rw [← hj]; simp [hjl]
  obtain ⟨y, rfl, hy⟩ := rd hS hn
  obtain ⟨y', rfl, hy'⟩ := rd hz hm
  refine wpList_append_grows w hg s x 22 ho 5 i0 (.int .u8 0) 1 1 Try.underlying22 hi hz0 hz1 hz2 rfl (by decide) (some y) n n (u8s xs) hs (fun e => by cases e) (by simp [u8s, hS.1]) (fun b hb => by cases hb; exact hy)
    y' m c (u8s zs) hx (by simp [u8s, hz.1]) hy' (ints_oneCell .u8 zs) (by omega) (by unfold maxLen; omega) (by omega) ?_
  intro v' w' hown hgr
  obtain ⟨a', c', rfl, hnil⟩ := owns_form hown
  exact h a' c' w' (owns_mono (by rw [show u8s (xs ++ zs) = u8s xs ++ u8s zs from by simp [u8s]]; exact hown) hbase) ((Below.refl _ _).grown hgr hbase (fun k hk => by cases hk)) hnil
set_option maxRecDepth 100000 in
theorem field_pos {l f : List Int} (hf : Spec.field l = f) : 0 < f.length := by
  unfold Spec.field at hf
  split at hf
  · subst hf; simp
  · rename_i h; subst hf; have := Utf.put_length_ge l; have := List.length_pos_iff.2 h; omega

end Go.Proofs.Ytdondndalpmdgaa
