/- Contracts of package cost whose answer is named beforehand; new rows of costs. -/
import Derived.Test.YtmgaimpnjnkofaaCostWalkB
namespace Go.Proofs.Ytmgaimpnjnkofaa
open Go.RowKit

theorem csum_is (a : Option Addr) (n cap : Nat) (zs : List Int) (r : Int) (w : World) (hs : Sl .u64 w a n cap zs) (h : Cost.sum zs = r) :
    Calls Try.prog 14 #[.slice a n cap] w fun e w' => e = .returned (.int .u64 r) ∧ w = w' := by
  subst h; exact csum_any a n cap zs w hs
theorem cleast_is (a : Option Addr) (n cap : Nat) (zs : List Int) (r : Int) (w : World) (hs : Sl .u64 w a n cap zs) (h : Cost.least zs = r) :
    Calls Try.prog 16 #[.slice a n cap] w fun e w' => e = .returned (.int .u64 r) ∧ w = w' := by
  subst h; exact cleast_any a n cap zs w hs
theorem ctimes_is (c n r : Int) (w : World) (hc : 0 ≤ c) (hn : -9223372036854775808 ≤ n) (hn1 : n ≤ 9223372036854775807) (h : Cost.times c n = r) :
    Calls Try.prog 18 #[.int .u64 c, .int .i64 n] w fun e w' => e = .returned (.int .u64 r) ∧ w = w' := by
  subst h; exact ctimes_any c n w hc hn hn1

theorem Sl.newc {w : World} {t : TypeId} (zs : List Int) (hw : Cost.Costs zs) (hl : zs.length ≤ maxLen) : Sl .u64 (w.alloc (.cells (u64s zs).toArray t)) (some ⟨w.heap.size, 0, none⟩) zs.length zs.length zs := by
  refine ⟨rfl, Nat.le_refl _, hl, wf_costs hw, .inr ⟨w.heap.size, 0, rfl, fun i hi => ?_⟩⟩
  rw [cell_of_row _ w.heap.size _ _ t (0, 0) (heap_alloc_new w _)]
  simp [u64s, hi]

theorem Sl.newcB {w : World} {t : TypeId} {B n m : Nat} (zs : List Int) (hw : Cost.Costs zs) (hl : zs.length ≤ maxLen) (hB : B = w.heap.size) (hn : zs.length = n) (hm : zs.length = m) : Sl .u64 (w.alloc (.cells (u64s zs).toArray t)) (some ⟨B, 0, none⟩) n m zs := by
  subst hB; subst hn; subst hm; exact Sl.newc zs hw hl

end Go.Proofs.Ytmgaimpnjnkofaa
