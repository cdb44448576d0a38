/- awake, the head of all laws of layer 5: it answers true. -/
import Derived.Test.YtfoajpdjjhbmkaaNumWalk
namespace Go.Proofs.Ytfoajpdjjhbmkaa
open Go.RowKit

theorem BytesIs.sl {w w' : World} {e : Ending} {l : List Int} (h : BytesIs w w' e l) (hl : ∀ z ∈ l, (Lit.int .u8 z).wf = true) :
    ∃ a' n c', e = .returned (.slice a' n c') ∧ n = l.length ∧ Sl .u8 w' a' n c' l ∧ (a' = none → c' = 0) ∧ Below w.heap.size w w' := by
  obtain ⟨a', n, c', he, hn, ho, hnil, hb⟩ := h
  exact ⟨a', n, c', he, hn, Sl.of_owns (k := .u8) ho hl hn.symm, hnil, hb⟩
theorem Told.some {e : Ending} {r : Option Nat} {c : Nat} (h : Told e r) (hr : r = some c) : e = .returned (.tuple #[.int .u64 (c : Int), .int .i64 0]) := by
  rcases h with ⟨c', h1, h2⟩ | ⟨h1, _⟩
  · rw [hr] at h1; cases h1; exact h2
  · rw [hr] at h1; cases h1
theorem Told.none {e : Ending} {r : Option Nat} (h : Told e r) (hr : r = none) : e = .returned (.tuple #[.int .u64 0, .int .i64 50]) := by
  rcases h with ⟨c', h1, _⟩ | ⟨_, h2⟩
  · rw [hr] at h1; cases h1
  · exact h2

set_option maxHeartbeats 1600000 in
set_option maxRecDepth 100000 in
theorem awake_any (w : World) : Calls Try.prog 8 #[] w fun e w' => e = .returned (.bool true) ∧ Below w.heap.size w w' := by
  have kc := fun (w : World) (C : Array Value) (n c : Nat) => Lib.run_convert_bytes_const (P := Try.prog) w 23 5 C n c Try.underlying23 Try.underlying5
  go_enter Try.func8, Try.ntmps8
  go_wp2_with fail
  refine (read_any _ 2 2 [49, 48] _ (Sl.newB [49, 48] (by decide) (by decide) rfl rfl rfl)).mono ?_
  rintro e w1 ⟨h1, hb1⟩
  obtain rfl := h1.some (c := 10) (by decide +kernel)
  have B1 : Below w.heap.size w w1 := ((Below.refl _ w).alloc (Nat.le_refl _) _).trans (hb1.mono (by simp))
  clear h1 hb1
  go_wp2_with fail
  refine (read_any _ 2 2 [48, 49] _ (Sl.newB [48, 49] (by decide) (by decide) rfl rfl rfl)).mono ?_
  rintro e w2 ⟨h2, hb2⟩
  obtain rfl := h2.none (by decide +kernel)
  have B2 : Below w.heap.size w w2 := (B1.alloc B1.size _).trans (hb2.mono (by have := B1.size; simp; omega))
  clear h2 hb2 B1
  go_wp2_with fail
  refine (read_any _ 20 20 [49, 56, 52, 52, 54, 55, 52, 52, 48, 55, 51, 55, 48, 57, 53, 53, 49, 54, 49, 53] _ (Sl.newB [49, 56, 52, 52, 54, 55, 52, 52, 48, 55, 51, 55, 48, 57, 53, 53, 49, 54, 49, 53] (by decide) (by decide) rfl rfl rfl)).mono ?_
  rintro e w3 ⟨h3, hb3⟩
  obtain rfl := h3.none (by decide +kernel)
  have B3 : Below w.heap.size w w3 := (B2.alloc B2.size _).trans (hb3.mono (by have := B2.size; simp; omega))
  clear h3 hb3 B2
  go_wp2_with fail
  refine (read_any _ 20 20 [49, 56, 52, 52, 54, 55, 52, 52, 48, 55, 51, 55, 48, 57, 53, 53, 49, 54, 49, 52] _ (Sl.newB [49, 56, 52, 52, 54, 55, 52, 52, 48, 55, 51, 55, 48, 57, 53, 53, 49, 54, 49, 52] (by decide) (by decide) rfl rfl rfl)).mono ?_
  rintro e w4 ⟨h4, hb4⟩
  obtain rfl := h4.some (c := 18446744073709551614) (by decide +kernel)
  have B4 : Below w.heap.size w w4 := (B3.alloc B3.size _).trans (hb4.mono (by have := B3.size; simp; omega))
  clear h4 hb4 B3
  go_wp2_with fail
  refine (read_any none 0 0 [] _ Sl.nil).mono ?_
  rintro e w5 ⟨h5, hb5⟩
  obtain rfl := h5.none (by decide +kernel)
  have B5 : Below w.heap.size w w5 := B4.trans (hb5.mono B4.size)
  clear h5 hb5 B4
  go_wp2_with fail
  refine (write_any 305 (by omega) _).mono ?_
  intro e w6 h6
  obtain ⟨a6, n6, c6, rfl, hn6, hs6, _, hb6⟩ := h6.sl (Num.dig_wf _)
  have k6 : (convert 23 9 (.slice a6 n6 c6)).run Try.prog w6 = .ok (.string ⟨#[51, 48, 53]⟩) w6 := by
    rw [hs6.str]; rw [show Num.dig 305 = [51, 48, 53] from by decide +kernel]; rfl
  have B6 : Below w.heap.size w w6 := B5.trans (hb6.mono B5.size)
  clear h6 hn6 hs6 hb6 B5
  go_wp2_with fail
  refine (write_any 0 (by omega) _).mono ?_
  intro e w7 h7
  obtain ⟨a7, n7, c7, rfl, hn7, hs7, _, hb7⟩ := h7.sl (Num.dig_wf _)
  have k7 : (convert 23 9 (.slice a7 n7 c7)).run Try.prog w7 = .ok (.string ⟨#[48]⟩) w7 := by
    rw [hs7.str]; rw [show Num.dig 0 = [48] from by decide +kernel]; rfl
  have B7 : Below w.heap.size w w7 := B6.trans (hb7.mono B6.size)
  clear h7 hn7 hs7 hb7 B6 k6
  go_wp2
  go_ret
  exact ⟨rfl, B7⟩

end Go.Proofs.Ytfoajpdjjhbmkaa
