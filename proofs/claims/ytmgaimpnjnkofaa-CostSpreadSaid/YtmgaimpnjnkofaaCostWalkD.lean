/- Rows of costs that a law makes by append. -/
import Derived.Test.YtmgaimpnjnkofaaCostWalkC
import Derived.Deep.RegionLaw
import Derived.Deep.AppendLies
import Derived.Deep.DeepMust
import Derived.Deep.DeepFit
import Derived.Maps.RangeWalk
import Derived.Laws.AppendOwnNone
namespace Go.Proofs.Ytmgaimpnjnkofaa
open Go.RowKit

theorem Try.info23 : (Try.prog.info? 23).map (fun i => (i.zero, i.size, i.bytes)) = some (some (.int .u64 0), 1, 8) := by kernel_rfl
theorem one_new {w : World} {B : Nat} {v : Value} {t : TypeId} (hB : B = w.heap.size) : ∀ j u, [v][j]? = some u → (w.alloc (.cells #[v] t)).cell? ((⟨B, 0, none⟩ : Addr).add j) = some u := by
  subst hB
  intro j u hj
  match j, hj with
  | 0, hj => simp at hj; subst hj; simp [Addr.add]
theorem u64s_app (xs ys : List Int) : u64s xs ++ u64s ys = u64s (xs ++ ys) := by simp [u64s]
theorem sl_owns {w : World} {B : Nat} {a : Option Addr} {n cap : Nat} {zs : List Int} (h : w.ownsRow B 23 1 (.slice a n cap) n (u64s zs)) (hz : Cost.Costs zs) (hl : zs.length = n) : Sl .u64 w a n cap zs :=
  Sl.of_owns h (wf_costs hz) hl
theorem costs_map {c : Int} (h0 : 0 ≤ c) {l : List Int} (h : Cost.Costs l) : Cost.Costs (l.map (Cost.add c)) := by
  intro x hx
  obtain ⟨y, hy, rfl⟩ := List.mem_map.1 hx
  exact Cost.add_range h0 (h y hy).1

end Go.Proofs.Ytmgaimpnjnkofaa
