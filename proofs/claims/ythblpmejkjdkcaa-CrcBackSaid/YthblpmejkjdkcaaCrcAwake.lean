/- awake, the head of all laws of layer 14: it answers true. -/
import Derived.Test.YthblpmejkjdkcaaCrcRef
namespace Go.Proofs.Ythblpmejkjdkcaa
open Go.RowKit

set_option maxHeartbeats 3200000 in
set_option maxRecDepth 100000 in
theorem awake_any (w : World) : Calls Try.prog 7 #[] w fun e w' => e = .returned (.bool true) ∧ Below w.heap.size w w' := by
  have kc := fun (w : World) (C : Array Value) (n c : Nat) => Lib.run_convert_bytes_const (P := Try.prog) w 22 5 C n c Try.underlying22 Try.underlying5
  go_enter Try.func7, Try.ntmps7
  go_wp2_with fail
  refine (cseal_is _ 2 2 [97, 98] _ (Sl.newB [97, 98] (by decide) (by decide) rfl rfl rfl) (by omega)).mono ?_
  intro e w1 h1
  obtain ⟨a1, n1, c1, rfl, hn1, hs1, _, hb1⟩ := h1.sl (bytes_wf (Crc.lock_bytes (by intro z hz; simp at hz; omega)))
  obtain rfl : n1 = 6 := by rw [hn1]; rfl
  have B1 : Below w.heap.size w w1 := ((Below.refl _ w).alloc (Nat.le_refl _) _).trans (hb1.mono (by simp))
  have S1 := Lib.hid hs1
  clear h1 hn1 hs1 hb1
  go_wp2_with fail
  refine (copen_is _ _ _ _ _ S1.out (by omega)).mono ?_
  rintro e w2 ⟨h2, hb2⟩
  obtain ⟨a2, n2, c2, rfl, hs2⟩ := h2.some (Crc.opn_lock [97, 98])
  have B2 : Below w.heap.size w w2 := B1.trans (hb2.mono B1.size)
  have S2 := Lib.hid hs2
  clear h2 hs2 hb2 B1 S1
  go_wp2_with fail
  refine (copen_is _ 5 5 [97, 98, 99, 100, 101] _ (Sl.newB [97, 98, 99, 100, 101] (by decide) (by decide) rfl rfl rfl) (by omega)).mono ?_
  rintro e w3 ⟨h3, hb3⟩
  obtain rfl := h3.none (by decide +kernel)
  have B3 : Below w.heap.size w w3 := (B2.alloc B2.size _).trans (hb3.mono (by have := B2.size; simp; omega))
  have S3 := Lib.hid ((S2.out.alloc _).below hb3 (Nat.le_refl _))
  clear h3 hb3 B2 S2
  go_wp2_with fail
  refine (copen_is none 0 0 [] _ Sl.nil (by omega)).mono ?_
  rintro e w4 ⟨h4, hb4⟩
  obtain rfl := h4.none (by decide +kernel)
  have B4 : Below w.heap.size w w4 := B3.trans (hb4.mono B3.size)
  have S4 := Lib.hid (S3.out.below hb4 (Nat.le_refl _))
  clear h4 hb4 B3 S3
  go_wp2_with fail
  have HC : Hid (Crc.sum [49, 50, 51, 52, 53, 54, 55, 56, 57] = 3421780262) := by show _ = _; decide +kernel
  refine (csum_is _ 9 9 [49, 50, 51, 52, 53, 54, 55, 56, 57] _ (Sl.newB [49, 50, 51, 52, 53, 54, 55, 56, 57] (by decide) (by decide) rfl rfl rfl)).mono ?_
  rintro e w5 ⟨rfl, hw5⟩
  rw [HC.out]
  have B5 : Below w.heap.size w w5 := by rw [← hw5]; exact B4.alloc B4.size _
  have S5 : Hid (Sl .u8 w5 a2 n2 c2 [97, 98]) := by show Sl _ _ _ _ _ _; rw [← hw5]; exact S4.out.alloc _
  clear hw5 HC B4 S4
  have k5 : (convert 22 9 (.slice a2 n2 c2)).run Try.prog w5 = .ok (.string ⟨#[97, 98]⟩) w5 := by rw [S5.out.str]; rfl
  have HC0 := Lib.hid (show Crc.sum [] = 0 from by decide +kernel)
  go_wp2_with (go_at_call 10; refine (csum_is none 0 0 [] _ Sl.nil).mono ?_; rintro e w6 ⟨rfl, hw6⟩; rw [HC0.out]; subst hw6)
  go_ret
  exact ⟨rfl, B5⟩

end Go.Proofs.Ythblpmejkjdkcaa
