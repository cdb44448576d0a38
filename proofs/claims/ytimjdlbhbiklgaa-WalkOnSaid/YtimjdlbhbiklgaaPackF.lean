import Derived.Test.YtimjdlbhbiklgaaChecked
import Derived.Test.YtimjdlbhbiklgaaPackA
import Derived.Test.YtimjdlbhbiklgaaPackB
import Derived.WalkKit
import Derived.WalkLawsBesides
import Derived.Below
import Derived.ProofKit
import Derived.Outline
import Derived.BigQuiet
import Derived.BigGuardPart
import Derived.Deep.QuietTactic
import Derived.LoopN
import Derived.WalkMore
import Derived.OpenShut
import Derived.Laws.Small
import Derived.Lib.Hide
import Derived.Lib.Strings
import Derived.Deep.RegionLaw
import Derived.Deep.AppendLies
import Derived.Maps.RangeWalk
import Derived.Laws.AppendOwnNone
import Derived.Test.YtimjdlbhbiklgaaPackK
import Derived.ShutString
import Derived.Laws.BytesArg
/- The document's Split, Fields, Bare and Same of layer 4. -/
namespace Go.Proofs.Ytimjdlbhbiklgaa
open Go.RowKit

set_option maxRecDepth 100000 in
theorem brows_oneCell (xs : List Bd) : ∀ v ∈ bvals xs, v.oneCell' = true := by
  intro v hv
  obtain ⟨x, _, rfl⟩ := List.mem_map.1 hv
  rfl
set_option maxRecDepth 100000 in
theorem info_brows : (Try.prog.info? 60).map (fun i => (i.zero, i.size, i.bytes)) = some (some (.slice none 0 0), 1, 24) := by kernel_rfl

set_option maxRecDepth 100000 in
theorem owns_nil_brows (w : World) (B : Nat) : w.ownsRow B 60 1 (.slice none 0 0) 0 (bvals []) := ⟨rfl, .inl ⟨rfl, rfl⟩⟩

set_option maxRecDepth 100000 in
theorem Bs.newc {w : World} {t : TypeId} {B n m : Nat} (xs : List Bd) (hg : ∀ x ∈ xs, x.Good w) (hl : xs.length ≤ maxLen) (hB : B = w.heap.size) (hn : xs.length = n) (hm : xs.length = m) :
    Bs (w.alloc (.cells (bvals xs).toArray t)) (some ⟨B, 0, none⟩) n m xs := by
  subst hB hn hm
  refine ⟨rfl, Nat.le_refl _, hl, fun x hx => (hg x hx).below ((Below.refl w.heap.size w).alloc (Nat.le_refl _) _) (Nat.le_refl _), .inr ⟨w.heap.size, 0, rfl, fun i hi => ?_⟩⟩
  rw [World.cell?_alloc_at _ _ _ _ (by rfl)]
  simp [bvals, hi]

set_option maxRecDepth 100000 in
/-- a piece of what came in, as the pieces of a list are told -/
theorem Sl.part {w : World} {b off n cap : Nat} {zs : List Int} (h : Sl .u8 w (some ⟨b, off, none⟩) n cap zs) (f i : Nat) (hf : f ≤ i) (hi : i ≤ n) : Sl .u8 w (some ⟨b, off + f, none⟩) (i - f) (cap - f) ((zs.take i).drop f) := by
  have := h.piece f (i - f) (by omega)
  rwa [← List.drop_take] at this

/-- what a call answers that makes a list of byte rows: these rows, and nothing that was there is turned -/
def RowsIs (w w' : World) (e : Ending) (l : List (List Int)) : Prop :=
  ∃ a' m c' ys, e = .returned (.slice a' m c') ∧ Bs w' a' m c' ys ∧ bnums ys = l ∧ (a' = none → c' = 0) ∧ Below w.heap.size w w'

end Go.Proofs.Ytimjdlbhbiklgaa

/- Byte rows as strings: what a conversion gives, and when two strings are one. -/
namespace Go.Proofs.Ytimjdlbhbiklgaa
open Go.RowKit

set_option maxRecDepth 100000 in
theorem bnums_take_same {xs ys : List Bd} {j : Nat} (h : (bnums xs).take j = (bnums ys).take j) (hx : j < xs.length) (hy : j < ys.length) (e : (bnums xs).getD j [] = (bnums ys).getD j []) :
    (bnums xs).take (j + 1) = (bnums ys).take (j + 1) := by
  have hx' : j < (bnums xs).length := by rw [bnums_length]; exact hx
  have hy' : j < (bnums ys).length := by rw [bnums_length]; exact hy
  rw [List.take_succ_eq_append_getElem hx', List.take_succ_eq_append_getElem hy', h]
  simp only [List.getD_eq_getElem?_getD, List.getElem?_eq_getElem hx', List.getElem?_eq_getElem hy', Option.getD_some] at e
  rw [e]

end Go.Proofs.Ytimjdlbhbiklgaa

/- The document's Fields and Bare of layer 4. -/
namespace Go.Proofs.Ytimjdlbhbiklgaa
open Go.RowKit

end Go.Proofs.Ytimjdlbhbiklgaa

/- The document's Bare of layer 4. -/
namespace Go.Proofs.Ytimjdlbhbiklgaa
open Go.RowKit

set_option maxRecDepth 100000 in
/-- the first of some rows, and its first byte -/
theorem first_row {w : World} {a : Option Addr} {n cap : Nat} {xs : List Bd} {f : List Int} {fs : List (List Int)} (h : Bs w a n cap xs) (hf : bnums xs = f :: fs) (h0 : f ≠ []) :
    0 < n ∧ ∃ b off n1 c1 b1 o1, a = some ⟨b, off, none⟩ ∧ w.cell? ⟨b, off, none⟩ = some (.slice (some ⟨b1, o1, none⟩) n1 c1) ∧ 0 < n1 ∧ w.cell? ⟨b1, o1, none⟩ = some (.int .u8 (f.getD 0 0)) := by
  have hn : 0 < n := by
    have := congrArg List.length hf
    rw [bnums_length, h.1] at this
    simp at this; omega
  obtain ⟨b, off, a1, n1, c1, z1, rfl, _, _, hx1, hs1, hz1⟩ := h.one 0 hn
  obtain rfl : f = z1 := by rw [hf] at hz1; simpa using hz1
  have hn1 : 0 < n1 := by
    rcases Nat.eq_zero_or_pos n1 with hq | hq
    · exact absurd (List.eq_nil_of_length_eq_zero (by rw [hs1.1, hq])) h0
    · exact hq
  obtain ⟨b2, o2, rfl, _, hc2⟩ := hs1.at hn1
  exact ⟨hn, b, off, n1, c1, b2, o2, rfl, hx1, hn1, hc2 0 hn1⟩

end Go.Proofs.Ytimjdlbhbiklgaa
