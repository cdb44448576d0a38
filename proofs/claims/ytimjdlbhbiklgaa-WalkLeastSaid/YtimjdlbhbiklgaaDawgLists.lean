/- Used by the law. -/
import Derived.Test.YtimjdlbhbiklgaaOrderInts
import Derived.Test.YtimjdlbhbiklgaaTrieMk
namespace Go.Proofs.Ytimjdlbhbiklgaa
open Go.RowKit Tri

set_option maxRecDepth 100000 in
theorem ne_wi : (23 : TypeId) ≠ 3 := by decide
structure Ml (B : Nat) (w : World) (a : Option Addr) (L c : Nat) (outs : List Wd) : Prop where
  row : w.ownsRow B 23 1 (.slice a L c) L (vals outs)
  own : ∀ x ∈ outs, w.ownsRow B 3 1 x.v x.n (i64s x.zs)
  wfs : ∀ x ∈ outs, ∀ z ∈ x.zs, (Lit.int .i64 z).wf = true
  lens : ∀ x ∈ outs, x.zs.length = x.n
  len : outs.length = L
  nil : a = none → c = 0
theorem Ml.start (B : Nat) (w : World) : Ml B w none 0 0 [] :=
  ⟨⟨rfl, .inl ⟨rfl, rfl⟩⟩, by simp, by simp, by simp, rfl, fun _ => rfl⟩
theorem Ml.below {B : Nat} {w w' : World} {a : Option Addr} {L c : Nat} {outs : List Wd} (h : Ml B w a L c outs) (hb : Below w.heap.size w w') : Ml B w' a L c outs :=
  ⟨ownsRow_below h.row hb (Nat.le_refl _), fun x hx => ownsRow_below (h.own x hx) hb (Nat.le_refl _), h.wfs, h.lens, h.len, h.nil⟩
theorem Ml.words {B : Nat} {w : World} {a : Option Addr} {L c : Nat} {outs : List Wd} (h : Ml B w a L c outs) : Ws w a L c outs :=
  Ws.of_owns h.row (fun x hx => Sl.of_owns (h.own x hx) (h.wfs x hx) (h.lens x hx)) h.len
theorem Ml.add {B : Nat} {w w' : World} {a a' : Option Addr} {L c c' : Nat} {outs : List Wd} (h : Ml B w a L c outs) (x : Wd) (hx : w.ownsRow B 3 1 x.v x.n (i64s x.zs)) (hz : ∀ z ∈ x.zs, (Lit.int .i64 z).wf = true) (hl : x.zs.length = x.n)
    (hrow : w'.ownsRow B 23 1 (.slice a' (L + 1) c') (L + 1) (vals (outs ++ [x]))) (hg : w.grownBy w' (Value.slice a L c).ownBlock) (hn : a' = none → c' = 0) : Ml B w' a' (L + 1) c' (outs ++ [x]) := by
  have hk := KeepI.row hg h.row ne_wi
  refine ⟨hrow, fun y hy => ?_, fun y hy => ?_, fun y hy => ?_, by simp [h.len], hn⟩
  · rcases List.mem_append.1 hy with hy | hy
    · exact hk.owns (h.own y hy)
    · rw [List.mem_singleton.1 hy]; exact hk.owns hx
  · rcases List.mem_append.1 hy with hy | hy
    · exact h.wfs y hy
    · rw [List.mem_singleton.1 hy]; exact hz
  · rcases List.mem_append.1 hy with hy | hy
    · exact h.lens y hy
    · rw [List.mem_singleton.1 hy]; exact hl
theorem own_lower {w : World} {B B' : Nat} {e : TypeId} {size n : Nat} {v : Value} {l : List Value} (h : w.ownsRow B e size v n l) (hB : B' ≤ B) : w.ownsRow B' e size v n l := by
  refine ⟨h.1, ?_⟩
  rcases h.2 with h1 | ⟨g, c, cur, h1, h2, h3⟩
  · exact .inl h1
  · exact .inr ⟨g, c, cur, h1, by omega, h3⟩

end Go.Proofs.Ytimjdlbhbiklgaa
