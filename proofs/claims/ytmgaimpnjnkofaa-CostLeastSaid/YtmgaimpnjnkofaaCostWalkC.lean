/- awake, the head of all laws of layer 2: it answers true. -/
import Derived.Test.YtmgaimpnjnkofaaCostWalkB
namespace Go.Proofs.Ytmgaimpnjnkofaa
open Go.RowKit

theorem csum_is (a : Option Addr) (n cap : Nat) (zs : List Int) (r : Int) (w : World) (hs : Sl .u64 w a n cap zs) (h : Cost.sum zs = r) :
    Calls Try.prog 14 #[.slice a n cap] w fun e w' => e = .returned (.int .u64 r) ∧ w = w' := by
  subst h; exact csum_any a n cap zs w hs
theorem cleast_is (a : Option Addr) (n cap : Nat) (zs : List Int) (r : Int) (w : World) (hs : Sl .u64 w a n cap zs) (h : Cost.least zs = r) :
    Calls Try.prog 16 #[.slice a n cap] w fun e w' => e = .returned (.int .u64 r) ∧ w = w' := by
  subst h; exact cleast_any a n cap zs w hs
theorem ctimes_is (c n r : Int) (w : World) (hc : 0 ≤ c) (hn : -9223372036854775808 ≤ n) (hn1 : n ≤ 9223372036854775807) (h : Cost.times c n = r) :
    Calls Try.prog 18 #[.int .u64 c, .int .i64 n] w fun e w' => e = .returned (.int .u64 r) ∧ w = w' := by
  subst h; exact ctimes_any c n w hc hn hn1

def u64s (l : List Int) : List Value := l.map (.int .u64)
theorem u64s_snoc (xs : List Int) (b : Int) : u64s xs ++ [.int .u64 b] = u64s (xs ++ [b]) := by simp [u64s]
theorem Sl.nil {k : IntKind} {w : World} : Sl k w none 0 0 [] := ⟨rfl, Nat.le_refl _, by unfold maxLen; omega, by simp, .inl rfl⟩
theorem Sl.newc {w : World} {t : TypeId} (zs : List Int) (hw : Cost.Costs zs) (hl : zs.length ≤ maxLen) : Sl .u64 (w.alloc (.cells (u64s zs).toArray t)) (some ⟨w.heap.size, 0, none⟩) zs.length zs.length zs := by
  refine ⟨rfl, Nat.le_refl _, hl, wf_costs hw, .inr ⟨w.heap.size, 0, rfl, fun i hi => ?_⟩⟩
  rw [cell_of_row _ w.heap.size _ _ t (0, 0) (heap_alloc_new w _)]
  simp [u64s, hi]

theorem Sl.newcB {w : World} {t : TypeId} {B n m : Nat} (zs : List Int) (hw : Cost.Costs zs) (hl : zs.length ≤ maxLen) (hB : B = w.heap.size) (hn : zs.length = n) (hm : zs.length = m) : Sl .u64 (w.alloc (.cells (u64s zs).toArray t)) (some ⟨B, 0, none⟩) n m zs := by
  subst hB; subst hn; subst hm; exact Sl.newc zs hw hl

set_option maxHeartbeats 1000000 in
theorem awake_any (w : World) : Calls Try.prog 11 #[] w fun e w' => e = .returned (.bool true) ∧ Below w.heap.size w w' := by
  go_enter Try.func11, Try.ntmps11
  go_wp2_with fail
  refine (cadd_is 2 3 5 _ (by decide) (by decide) (by decide) (by decide) (by decide)).mono ?_
  rintro e w1 ⟨rfl, rfl⟩
  go_wp2_with fail
  refine (cadd_is _ _ 18446744073709551615 _ (by decide) (by decide) (by decide) (by decide) (by decide)).mono ?_
  rintro e w1 ⟨rfl, rfl⟩
  go_wp2_with fail
  refine (csum_is _ _ _ [] 0 _ Sl.nil (by decide)).mono ?_
  rintro e w1 ⟨rfl, rfl⟩
  go_wp2_with fail
  refine (csum_is _ _ _ [1, 2, 3] 6 _ (Sl.newc [1, 2, 3] (by intro x hx; simp at hx; omega) (by decide)) (by decide)).mono ?_
  rintro e w1 ⟨rfl, rfl⟩
  go_wp2_with fail
  refine (cleast_is _ _ _ [] 18446744073709551615 _ Sl.nil (by decide)).mono ?_
  rintro e w1 ⟨rfl, rfl⟩
  go_wp2_with fail
  refine (cleast_is _ _ _ [4, 2, 3] 2 _ (Sl.newcB [4, 2, 3] (by intro x hx; simp at hx; omega) (by decide) (by simp) rfl rfl) (by decide)).mono ?_
  rintro e w1 ⟨rfl, rfl⟩
  go_wp2_with fail
  refine (ctimes_is 5 3 15 _ (by decide) (by decide) (by decide) (by decide)).mono ?_
  rintro e w1 ⟨rfl, rfl⟩
  go_wp2_with fail
  refine (ctimes_is 5 (-1) 0 _ (by decide) (by decide) (by decide) (by decide)).mono ?_
  rintro e w1 ⟨rfl, rfl⟩
  go_wp2_with fail
  refine (ctimes_is _ 2 18446744073709551615 _ (by decide) (by decide) (by decide) (by decide)).mono ?_
  rintro e w1 ⟨rfl, rfl⟩
  go_wp2
  go_ret
  exact ⟨rfl, ((Below.refl _ w).alloc (Nat.le_refl _) _).alloc (by simp) _⟩

end Go.Proofs.Ytmgaimpnjnkofaa
