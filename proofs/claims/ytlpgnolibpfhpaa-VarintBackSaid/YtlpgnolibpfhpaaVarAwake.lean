/- awake, the head of all laws of layer 13: it answers true. -/
import Derived.Test.YtlpgnolibpfhpaaVarRef
namespace Go.Proofs.Ytlpgnolibpfhpaa
open Go.RowKit

set_option maxHeartbeats 3200000 in
set_option maxRecDepth 100000 in
theorem awake_any (w : World) : Calls Try.prog 7 #[] w fun e w' => e = .returned (.bool true) ∧ Below w.heap.size w w' := by
  have B0 : Below w.heap.size w w := Below.refl _ w
  go_enter Try.func7, Try.ntmps7
  go_wp2_with fail
  refine (take_is _ 3 3 [172, 2, 9] _ (Sl.newB [172, 2, 9] (by decide) (by decide) rfl rfl rfl) (by omega)).mono ?_
  rintro e w1 ⟨h1, hb1⟩
  obtain ⟨a1, n1, c1, rfl, hs1⟩ := h1.some (m := 300) (l := [9]) (by decide +kernel)
  have B1 : Below w.heap.size w w1 := (B0.alloc B0.size _).trans (hb1.mono (by have := B0.size; simp; try omega))
  have S1 := Lib.hid hs1
  clear h1 hb1 B0 hs1
  go_wp2_with fail
  refine (take_is _ 2 2 [128, 0] _ (Sl.newB [128, 0] (by decide) (by decide) rfl rfl rfl) (by omega)).mono ?_
  rintro e w2 ⟨h2, hb2⟩
  obtain rfl := h2.none (by decide +kernel)
  have B2 : Below w.heap.size w w2 := (B1.alloc B1.size _).trans (hb2.mono (by have := B1.size; simp; try omega))
  have S2 := Lib.hid ((S1.out.alloc _).below hb2 (Nat.le_refl _))
  clear h2 hb2 B1 S1
  go_wp2_with fail
  refine (take_is _ 1 1 [200] _ (Sl.newB [200] (by decide) (by decide) rfl rfl rfl) (by omega)).mono ?_
  rintro e w3 ⟨h3, hb3⟩
  obtain rfl := h3.none (by decide +kernel)
  have B3 : Below w.heap.size w w3 := (B2.alloc B2.size _).trans (hb3.mono (by have := B2.size; simp; try omega))
  have S3 := Lib.hid ((S2.out.alloc _).below hb3 (Nat.le_refl _))
  clear h3 hb3 B2 S2
  go_wp2_with fail
  refine (take_is _ 10 10 [255, 255, 255, 255, 255, 255, 255, 255, 255, 1] _ (Sl.newB [255, 255, 255, 255, 255, 255, 255, 255, 255, 1] (by decide) (by decide) rfl rfl rfl) (by omega)).mono ?_
  rintro e w4 ⟨h4, hb4⟩
  obtain ⟨a4, n4, c4, rfl, hs4⟩ := h4.some (m := 18446744073709551615) (l := []) (by decide +kernel)
  have B4 : Below w.heap.size w w4 := (B3.alloc B3.size _).trans (hb4.mono (by have := B3.size; simp; try omega))
  have S4 := Lib.hid ((S3.out.alloc _).below hb4 (Nat.le_refl _))
  clear h4 hb4 B3 S3 hs4
  go_wp2_with fail
  refine (put_is none 0 0 [] 300 2 (by omega) (by decide +kernel) _ Sl.nil (by omega)).mono ?_
  rintro e w5 ⟨a5, c5, rfl, hown5, _, hb5⟩
  have B5 : Below w.heap.size w w5 := B4.trans (hb5.mono B4.size)
  have S5 := Lib.hid (S4.out.below hb5 (Nat.le_refl _))
  have k5 : (convert 22 9 (.slice a5 (0 + 2) c5)).run Try.prog w5 = .ok (.string ⟨#[172, 2]⟩) w5 := by
    rw [(Sl.of_owns (k := .u8) hown5 (by decide +kernel) (by decide +kernel)).str, show ([] ++ Var.enc 300 : List Int) = [172, 2] from by decide +kernel]; rfl
  have k5' : (convert 22 9 (.slice a5 2 c5)).run Try.prog w5 = .ok (.string ⟨#[172, 2]⟩) w5 := k5
  have k6 : (convert 22 9 (.slice a1 n1 c1)).run Try.prog w5 = .ok (.string ⟨#[9]⟩) w5 := by
    rw [S5.out.str]; rfl
  clear hown5 hb5 S4 S5 B4
  go_wp2_with fail
  refine (size_is 127 1 (by omega) (by decide +kernel) _).mono ?_
  rintro e w6 ⟨rfl, hb6⟩
  have B6 : Below w.heap.size w w6 := B5.trans (hb6.mono B5.size)
  clear hb6 B5 k5 k5' k6
  go_wp2_with fail
  refine (size_is 128 2 (by omega) (by decide +kernel) _).mono ?_
  rintro e w7 ⟨rfl, hb7⟩
  have B7 : Below w.heap.size w w7 := B6.trans (hb7.mono B6.size)
  clear hb7 B6
  go_wp2_with fail
  refine (size_is 18446744073709551615 10 (by omega) (by decide +kernel) _).mono ?_
  rintro e w8 ⟨rfl, hb8⟩
  have B8 : Below w.heap.size w w8 := B7.trans (hb8.mono B7.size)
  clear hb8 B7
  go_wp2
  go_ret
  exact ⟨rfl, B8⟩

end Go.Proofs.Ytlpgnolibpfhpaa
