/- Used by the law. -/
import Derived.Test.YtimjdlbhbiklgaaPackM
import Derived.Test.YtimjdlbhbiklgaaPackQ
import Derived.Test.YtimjdlbhbiklgaaPackG
import Derived.Deep.RegionHeld3
namespace Go.Proofs.Ytimjdlbhbiklgaa
open Go.RowKit Tri

def MadeIs (w w' : World) (e : Ending) (p : List St × Int) : Prop :=
  ∃ a n c ys, e = .returned (.tuple #[.slice a n c, .int .i64 p.2]) ∧ Ss w' a n c ys ∧ sts ys = p.1 ∧ (a = none → c = 0) ∧ Below w.heap.size w w'
noncomputable def made (ws : List (List Int)) : List St × Int := if (Wl.write ws).2 = 0 then (make ws, 0) else ([], (Wl.write ws).2)
theorem Ars.far {w w' : World} {a : Option Addr} {n cap : Nat} {l : List (Int × Int)} {k : Option Nat} (h : Ars w a n cap l) (hg : w.grownBy w' k) (hne : ∀ b off, a = some ⟨b, off, none⟩ → k ≠ some b) : Ars w' a n cap l := by
  obtain ⟨h1, h2, h3, h4, h5⟩ := h
  refine ⟨h1, h2, h3, h4, ?_⟩
  rcases h5 with h5 | ⟨b, off, ha, hc⟩
  · exact .inl h5
  · exact .inr ⟨b, off, ha, fun i hi => ⟨hg.cell (hc i hi).1 (fun e => hne b off ha e.symm), hg.cell (hc i hi).2 (fun e => hne b off ha e.symm)⟩⟩
end Go.Proofs.Ytimjdlbhbiklgaa
