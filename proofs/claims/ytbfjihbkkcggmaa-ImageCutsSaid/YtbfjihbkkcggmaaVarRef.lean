/- The document's one, Size, Put and Take of layer 13. -/
import Derived.Deep.RegionWith
import Derived.BigQuiet
import Derived.Test.YtbfjihbkkcggmaaPackH
namespace Go.Proofs.Ytbfjihbkkcggmaa
open Go.RowKit

set_option maxRecDepth 100000 in
theorem Sl.tail {k : IntKind} {w : World} {b off n cap m : Nat} {zs : List Int} (h : Sl k w (some ⟨b, off, none⟩) n cap zs) (hm : m ≤ n) : Sl k w (some ⟨b, off + m, none⟩) (n - m) (cap - m) (zs.drop m) := by
  have h1 := h.piece m (n - m) (by omega)
  rwa [List.take_of_length_le (by rw [List.length_drop, h.1]; exact Nat.le_refl _)] at h1

set_option maxRecDepth 100000 in
theorem wrap_mul {v V W : Nat} {x : Int} (hv : v = V % 18446744073709551616) (hx : 0 ≤ x) (hW : W = x.toNat % 128 + 128 * V) :
    IntKind.u64.wrap (IntKind.u64.wrap ((v : Int) * 128) + x % 128) = ((W % 18446744073709551616 : Nat) : Int) := by
  rw [wrap_u64v, wrap_u64v, hW, hv]
  omega

/-- a slice that lies in a block below B, or is nothing -/
def Low (B : Nat) (a : Option Addr) (n : Nat) : Prop := n = 0 ∨ ∃ b o, a = some ⟨b, o, none⟩ ∧ b < B
set_option maxRecDepth 100000 in
theorem Low.of {k : IntKind} {w : World} {a : Option Addr} {n cap : Nat} {zs : List Int} (h : Sl k w a n cap zs) : Low w.heap.size a n := by
  rcases Nat.eq_zero_or_pos n with h0 | h0
  · exact .inl h0
  · obtain ⟨b, o, h1, h2, _⟩ := h.at h0
    exact .inr ⟨b, o, h1, h2⟩
set_option maxRecDepth 100000 in
theorem Low.mono {B B' : Nat} {a : Option Addr} {n : Nat} (h : Low B a n) (hB : B ≤ B') : Low B' a n := by
  rcases h with h | ⟨b, o, h1, h2⟩
  · exact .inl h
  · exact .inr ⟨b, o, h1, by omega⟩
set_option maxRecDepth 100000 in
theorem Low.get {B b o n : Nat} (h : Low B (some ⟨b, o, none⟩) n) (hn : 0 < n) : b < B := by
  rcases h with h | ⟨b', o', h1, h2⟩
  · omega
  · cases h1; exact h2
set_option maxRecDepth 100000 in
/-- what lies so is kept by whatever keeps the blocks below B -/
theorem Sl.low {k : IntKind} {w w' : World} {a : Option Addr} {n cap B : Nat} {zs : List Int} (h : Sl k w a n cap zs) (hl : Low B a n) (hb : Below B w w') : Sl k w' a n cap zs := by
  obtain ⟨h1, h2, h3, h4, h5⟩ := h
  refine ⟨h1, h2, h3, h4, ?_⟩
  rcases h5 with h5 | ⟨b, off, ha, hc⟩
  · exact .inl h5
  · rcases Nat.eq_zero_or_pos n with h0 | h0
    · exact .inl h0
    · subst ha
      have hB := hl.get h0
      exact .inr ⟨b, off, rfl, fun i hi => by rw [hb.cell (p := ⟨b, off + i, none⟩) hB]; exact hc i hi⟩
/-- the same, and what is behind lies in a block below B, or is nothing -/
def VTakeAt (B : Nat) (w' : World) (e : Ending) (r : Option (Nat × List Int)) : Prop :=
  (∃ m l a' n' c', r = some (m, l) ∧ e = .returned (.tuple #[.int .u64 ((m : Nat) : Int), .slice a' n' c', .int .i64 0]) ∧ Sl .u8 w' a' n' c' l ∧ Low B a' n') ∨ (r = none ∧ e = .returned (.tuple #[.int .u64 0, .slice none 0 0, .int .i64 130]))
set_option maxRecDepth 100000 in
theorem VTakeAt.is {B : Nat} {w' : World} {e : Ending} {r : Option (Nat × List Int)} (h : VTakeAt B w' e r) : VTakeIs w' e r := by
  rcases h with ⟨m, l, a', n', c', h1, h2, h3, _⟩ | h
  · exact .inl ⟨m, l, a', n', c', h1, h2, h3⟩
  · exact .inr h
set_option maxRecDepth 100000 in
theorem VTakeAt.some {B : Nat} {w' : World} {e : Ending} {r : Option (Nat × List Int)} {m : Nat} {l : List Int} (h : VTakeAt B w' e r) (hr : r = some (m, l)) : ∃ a' n' c', e = .returned (.tuple #[.int .u64 (m : Int), .slice a' n' c', .int .i64 0]) ∧ Sl .u8 w' a' n' c' l ∧ Low B a' n' := by
  rcases h with ⟨m', l', a', n', c', h1, h2, h3, h4⟩ | ⟨h1, _⟩
  · rw [hr] at h1; cases h1; exact ⟨a', n', c', h2, h3, h4⟩
  · rw [hr] at h1; cases h1
set_option maxRecDepth 100000 in
theorem VTakeAt.none {B : Nat} {w' : World} {e : Ending} {r : Option (Nat × List Int)} (h : VTakeAt B w' e r) (hr : r = none) : e = .returned (.tuple #[.int .u64 0, .slice none 0 0, .int .i64 130]) := h.is.none hr

end Go.Proofs.Ytbfjihbkkcggmaa
