/- awake, the head of all laws of layer 6: it answers true. Written by wip/gen/rule_awake.py. -/
import Derived.Test.YtcpilhgofdnigaaRuleWalk
namespace Go.Proofs.Ytcpilhgofdnigaa
open Go.RowKit

theorem awake_lay (w : World) : ∃ W, W = (((((((w.alloc (.cells #[.int .i64 102] 3)).alloc (.cells #[.int .i64 112, .int .i64 104] 3)).alloc (.cells #[.slice (some ⟨w.heap.size, 0, none⟩) 1 1, .slice (some ⟨w.heap.size + 1, 0, none⟩) 2 2, .int .u64 3] 26)).alloc (.cells #[.int .i64 102] 3)).alloc (.cells #[.int .i64 112, .int .i64 104] 3)).alloc (.cells #[.slice (some ⟨w.heap.size + 1 + 1 + 1, 0, none⟩) 1 1, .slice (some ⟨w.heap.size + 1 + 1 + 1 + 1, 0, none⟩) 2 2, .int .u64 2] 26)).alloc (.cells #[.slice (some ⟨w.heap.size, 0, none⟩) 1 1, .slice (some ⟨w.heap.size + 1, 0, none⟩) 2 2, .int .u64 3, .slice (some ⟨w.heap.size + 1 + 1 + 1, 0, none⟩) 1 1, .slice (some ⟨w.heap.size + 1 + 1 + 1 + 1, 0, none⟩) 2 2, .int .u64 2, .slice none 0 0, .slice none 0 0, .int .u64 0] 26)) ∧ (⟨some ⟨w.heap.size, 0, none⟩, 1, 1, [102], some ⟨w.heap.size + 1, 0, none⟩, 2, 2, [112, 104], 3⟩ : Rw).Good W ∧ (⟨some ⟨w.heap.size + 1 + 1 + 1, 0, none⟩, 1, 1, [102], some ⟨w.heap.size + 1 + 1 + 1 + 1, 0, none⟩, 2, 2, [112, 104], 2⟩ : Rw).Good W ∧ RwAt W (w.heap.size + 1 + 1) 0 (⟨some ⟨w.heap.size, 0, none⟩, 1, 1, [102], some ⟨w.heap.size + 1, 0, none⟩, 2, 2, [112, 104], 3⟩ : Rw) ∧ RwAt W (w.heap.size + 1 + 1 + 1 + 1 + 1) 0 (⟨some ⟨w.heap.size + 1 + 1 + 1, 0, none⟩, 1, 1, [102], some ⟨w.heap.size + 1 + 1 + 1 + 1, 0, none⟩, 2, 2, [112, 104], 2⟩ : Rw) ∧ Rs W (some ⟨w.heap.size + 1 + 1 + 1 + 1 + 1 + 1, 0, none⟩) 3 3 [(⟨some ⟨w.heap.size, 0, none⟩, 1, 1, [102], some ⟨w.heap.size + 1, 0, none⟩, 2, 2, [112, 104], 3⟩ : Rw), (⟨some ⟨w.heap.size + 1 + 1 + 1, 0, none⟩, 1, 1, [102], some ⟨w.heap.size + 1 + 1 + 1 + 1, 0, none⟩, 2, 2, [112, 104], 2⟩ : Rw), Rw.no] ∧ Below w.heap.size w W := by
  refine ⟨_, rfl, ?_⟩
  generalize hw1 : w.alloc (.cells #[.int .i64 102] 3) = w1
  have s1 : w1.heap.size = w.heap.size + 1 := by rw [← hw1]; simp
  have S1 : Sl .i64 w1 (some ⟨w.heap.size, 0, none⟩) 1 1 [102] := by rw [← hw1]; exact Sl.lay [102] (by decide) (by decide) rfl rfl rfl
  have B1 : Below w.heap.size w w1 := by rw [← hw1]; exact (Below.refl _ w).alloc (Nat.le_refl _) _
  clear hw1
  generalize hw2 : w1.alloc (.cells #[.int .i64 112, .int .i64 104] 3) = w2
  have s2 : w2.heap.size = w.heap.size + 1 + 1 := by rw [← hw2]; simp [s1]
  have S2 : Sl .i64 w2 (some ⟨w.heap.size + 1, 0, none⟩) 2 2 [112, 104] := by rw [← hw2]; exact Sl.lay [112, 104] (by decide) (by decide) s1.symm rfl rfl
  have S1' : Sl .i64 w2 (some ⟨w.heap.size, 0, none⟩) 1 1 [102] := by rw [← hw2]; exact S1.alloc _
  have B2 : Below w.heap.size w w2 := by rw [← hw2]; exact B1.alloc B1.size _
  clear hw2 S1 B1 s1
  have GX : (⟨some ⟨w.heap.size, 0, none⟩, 1, 1, [102], some ⟨w.heap.size + 1, 0, none⟩, 2, 2, [112, 104], 3⟩ : Rw).Good w2 := ⟨S1', S2, by show (0 : Int) ≤ 3; decide, by show (3 : Int) < _; decide⟩
  generalize hw3 : w2.alloc (.cells #[.slice (some ⟨w.heap.size, 0, none⟩) 1 1, .slice (some ⟨w.heap.size + 1, 0, none⟩) 2 2, .int .u64 3] 26) = w3
  have s3 : w3.heap.size = w.heap.size + 1 + 1 + 1 := by rw [← hw3]; simp [s2]
  have AX : RwAt w3 (w.heap.size + 1 + 1) 0 (⟨some ⟨w.heap.size, 0, none⟩, 1, 1, [102], some ⟨w.heap.size + 1, 0, none⟩, 2, 2, [112, 104], 3⟩ : Rw) := by rw [← hw3, ← s2]; exact RwAt.new w2 (⟨some ⟨w.heap.size, 0, none⟩, 1, 1, [102], some ⟨w.heap.size + 1, 0, none⟩, 2, 2, [112, 104], 3⟩ : Rw) _
  have GX3 : (⟨some ⟨w.heap.size, 0, none⟩, 1, 1, [102], some ⟨w.heap.size + 1, 0, none⟩, 2, 2, [112, 104], 3⟩ : Rw).Good w3 := by rw [← hw3]; exact GX.alloc _
  have B3 : Below w.heap.size w w3 := by rw [← hw3]; exact B2.alloc B2.size _
  clear hw3 S1' S2 GX B2 s2
  generalize hw4 : w3.alloc (.cells #[.int .i64 102] 3) = w4
  have s4 : w4.heap.size = w.heap.size + 1 + 1 + 1 + 1 := by rw [← hw4]; simp [s3]
  have S4 : Sl .i64 w4 (some ⟨w.heap.size + 1 + 1 + 1, 0, none⟩) 1 1 [102] := by rw [← hw4]; exact Sl.lay [102] (by decide) (by decide) s3.symm rfl rfl
  have B34 : Below w3.heap.size w3 w4 := by rw [← hw4]; exact (Below.refl _ w3).alloc (Nat.le_refl _) _
  clear hw4
  generalize hw5 : w4.alloc (.cells #[.int .i64 112, .int .i64 104] 3) = w5
  have s5 : w5.heap.size = w.heap.size + 1 + 1 + 1 + 1 + 1 := by rw [← hw5]; simp [s4]
  have S5 : Sl .i64 w5 (some ⟨w.heap.size + 1 + 1 + 1 + 1, 0, none⟩) 2 2 [112, 104] := by rw [← hw5]; exact Sl.lay [112, 104] (by decide) (by decide) s4.symm rfl rfl
  have S4' : Sl .i64 w5 (some ⟨w.heap.size + 1 + 1 + 1, 0, none⟩) 1 1 [102] := by rw [← hw5]; exact S4.alloc _
  have B35 : Below w3.heap.size w3 w5 := by rw [← hw5]; exact B34.alloc B34.size _
  clear hw5 S4 B34
  have GY : (⟨some ⟨w.heap.size + 1 + 1 + 1, 0, none⟩, 1, 1, [102], some ⟨w.heap.size + 1 + 1 + 1 + 1, 0, none⟩, 2, 2, [112, 104], 2⟩ : Rw).Good w5 := ⟨S4', S5, by show (0 : Int) ≤ 2; decide, by show (2 : Int) < _; decide⟩
  generalize hw6 : w5.alloc (.cells #[.slice (some ⟨w.heap.size + 1 + 1 + 1, 0, none⟩) 1 1, .slice (some ⟨w.heap.size + 1 + 1 + 1 + 1, 0, none⟩) 2 2, .int .u64 2] 26) = w6
  have s6 : w6.heap.size = w.heap.size + 1 + 1 + 1 + 1 + 1 + 1 := by rw [← hw6]; simp [s5]
  have AY : RwAt w6 (w.heap.size + 1 + 1 + 1 + 1 + 1) 0 (⟨some ⟨w.heap.size + 1 + 1 + 1, 0, none⟩, 1, 1, [102], some ⟨w.heap.size + 1 + 1 + 1 + 1, 0, none⟩, 2, 2, [112, 104], 2⟩ : Rw) := by rw [← hw6, ← s5]; exact RwAt.new w5 (⟨some ⟨w.heap.size + 1 + 1 + 1, 0, none⟩, 1, 1, [102], some ⟨w.heap.size + 1 + 1 + 1 + 1, 0, none⟩, 2, 2, [112, 104], 2⟩ : Rw) _
  have GY6 : (⟨some ⟨w.heap.size + 1 + 1 + 1, 0, none⟩, 1, 1, [102], some ⟨w.heap.size + 1 + 1 + 1 + 1, 0, none⟩, 2, 2, [112, 104], 2⟩ : Rw).Good w6 := by rw [← hw6]; exact GY.alloc _
  have B36 : Below w3.heap.size w3 w6 := by rw [← hw6]; exact B35.alloc B35.size _
  have GX6 : (⟨some ⟨w.heap.size, 0, none⟩, 1, 1, [102], some ⟨w.heap.size + 1, 0, none⟩, 2, 2, [112, 104], 3⟩ : Rw).Good w6 := GX3.below B36 (Nat.le_refl _)
  have AX6 := AX.below B36 (Nat.le_refl _)
  have B6 : Below w.heap.size w w6 := B3.trans (B36.mono B3.size)
  clear hw6
  refine ⟨GX6.alloc _, GY6.alloc _, AX6.alloc _, AY.alloc _, ?_, B6.alloc B6.size _⟩
  exact Rs.newc [(⟨some ⟨w.heap.size, 0, none⟩, 1, 1, [102], some ⟨w.heap.size + 1, 0, none⟩, 2, 2, [112, 104], 3⟩ : Rw), (⟨some ⟨w.heap.size + 1 + 1 + 1, 0, none⟩, 1, 1, [102], some ⟨w.heap.size + 1 + 1 + 1 + 1, 0, none⟩, 2, 2, [112, 104], 2⟩ : Rw), Rw.no] (by intro x hx; simp only [List.mem_cons, List.not_mem_nil, or_false] at hx; rcases hx with rfl | rfl | rfl; exact GX6; exact GY6; exact Rw.no_good _) (by show 3 ≤ maxLen; unfold maxLen; omega) s6.symm rfl rfl

set_option maxHeartbeats 3200000 in
set_option maxRecDepth 100000 in
theorem awake_any (w : World) : Calls Try.prog 8 #[] w fun e w' => e = .returned (.bool true) ∧ Below w.heap.size w w' := by
  obtain ⟨W, hW, GX, GY, AX, AY, hrs, B0⟩ := awake_lay w
  have HGX := Lib.hid GX
  have HGY := Lib.hid GY
  have HAX := Lib.hid AX
  have HAY := Lib.hid AY
  have HRS := Lib.hid hrs
  have HB0 := Lib.hid B0
  have HW := Lib.hid hW
  clear GX GY AX AY hrs B0 hW
  go_enter Try.func8, Try.ntmps8
  go_wp2_with fail
  rw [← HW.out]
  clear HW
  refine (norm_any _ 3 3 _ W HRS.out (by omega)).mono ?_
  rintro e w1 ⟨a', n', c', outs, rfl, hrs, hr, _, _, hb⟩
  have HR1 : Hid (Rs w1 a' n' c' outs) := hrs
  have HR : Hid (ruls outs = [⟨[102], [112, 104], 2⟩]) := hr.trans (show nrm [⟨[102], [112, 104], 3⟩, ⟨[102], [112, 104], 2⟩, ⟨[], [], 0⟩] = _ by decide +kernel)
  clear hrs hr
  have HB1 : Hid (Below w.heap.size w w1) := HB0.out.trans (hb.mono HB0.out.size)
  have HGX1 := Lib.hid (HGX.out.below hb (Nat.le_refl _))
  have HGY1 := Lib.hid (HGY.out.below hb (Nat.le_refl _))
  have HAX1 := Lib.hid (HAX.out.below hb (Nat.le_refl _))
  have HAY1 := Lib.hid (HAY.out.below hb (Nat.le_refl _))
  clear hb
  have hx1 : w1.cell? ⟨w.heap.size + 1 + 1, 0, none⟩ = some (.slice (some ⟨w.heap.size, 0, none⟩) 1 1) := HAX1.out.1
  have hx2 : w1.cell? ⟨w.heap.size + 1 + 1, 1, none⟩ = some (.slice (some ⟨w.heap.size + 1, 0, none⟩) 2 2) := HAX1.out.2.1
  have hx3 : w1.cell? ⟨w.heap.size + 1 + 1, 2, none⟩ = some (.int .u64 3) := HAX1.out.2.2
  have hy1 : w1.cell? ⟨w.heap.size + 1 + 1 + 1 + 1 + 1, 0, none⟩ = some (.slice (some ⟨w.heap.size + 1 + 1 + 1, 0, none⟩) 1 1) := HAY1.out.1
  have hy2 : w1.cell? ⟨w.heap.size + 1 + 1 + 1 + 1 + 1, 1, none⟩ = some (.slice (some ⟨w.heap.size + 1 + 1 + 1 + 1, 0, none⟩) 2 2) := HAY1.out.2.1
  have hy3 : w1.cell? ⟨w.heap.size + 1 + 1 + 1 + 1 + 1, 2, none⟩ = some (.int .u64 2) := HAY1.out.2.2
  go_wp2_with fail
  refine (check_is (⟨some ⟨w.heap.size, 0, none⟩, 1, 1, [102], some ⟨w.heap.size + 1, 0, none⟩, 2, 2, [112, 104], 3⟩ : Rw) true w1 HGX1.out (show chk ⟨[102], [112, 104], 3⟩ = true by decide +kernel)).mono ?_
  rintro e w2 ⟨rfl, hb⟩
  have HB2 : Hid (Below w.heap.size w w2) := HB1.out.trans (hb.mono HB1.out.size)
  have HGX2 := Lib.hid (HGX1.out.below hb (Nat.le_refl _))
  have HGY2 := Lib.hid (HGY1.out.below hb (Nat.le_refl _))
  have HAX2 := Lib.hid (HAX1.out.below hb (Nat.le_refl _))
  have HAY2 := Lib.hid (HAY1.out.below hb (Nat.le_refl _))
  have HR2 := Lib.hid (HR1.out.below hb (Nat.le_refl _))
  clear hx1 hx2 hx3 hy1 hy2 hy3
  clear hb
  have hx1 : w2.cell? ⟨w.heap.size + 1 + 1, 0, none⟩ = some (.slice (some ⟨w.heap.size, 0, none⟩) 1 1) := HAX2.out.1
  have hx2 : w2.cell? ⟨w.heap.size + 1 + 1, 1, none⟩ = some (.slice (some ⟨w.heap.size + 1, 0, none⟩) 2 2) := HAX2.out.2.1
  have hx3 : w2.cell? ⟨w.heap.size + 1 + 1, 2, none⟩ = some (.int .u64 3) := HAX2.out.2.2
  have hy1 : w2.cell? ⟨w.heap.size + 1 + 1 + 1 + 1 + 1, 0, none⟩ = some (.slice (some ⟨w.heap.size + 1 + 1 + 1, 0, none⟩) 1 1) := HAY2.out.1
  have hy2 : w2.cell? ⟨w.heap.size + 1 + 1 + 1 + 1 + 1, 1, none⟩ = some (.slice (some ⟨w.heap.size + 1 + 1 + 1 + 1, 0, none⟩) 2 2) := HAY2.out.2.1
  have hy3 : w2.cell? ⟨w.heap.size + 1 + 1 + 1 + 1 + 1, 2, none⟩ = some (.int .u64 2) := HAY2.out.2.2
  go_wp2_with fail
  refine (check_is Rw.no false w2 (Rw.no_good _) (show chk ⟨[], [], 0⟩ = false by decide +kernel)).mono ?_
  rintro e w3 ⟨rfl, hb⟩
  have HB3 : Hid (Below w.heap.size w w3) := HB2.out.trans (hb.mono HB2.out.size)
  have HGX3 := Lib.hid (HGX2.out.below hb (Nat.le_refl _))
  have HGY3 := Lib.hid (HGY2.out.below hb (Nat.le_refl _))
  have HAX3 := Lib.hid (HAX2.out.below hb (Nat.le_refl _))
  have HAY3 := Lib.hid (HAY2.out.below hb (Nat.le_refl _))
  have HR3 := Lib.hid (HR2.out.below hb (Nat.le_refl _))
  clear hx1 hx2 hx3 hy1 hy2 hy3
  clear hb
  have hx1 : w3.cell? ⟨w.heap.size + 1 + 1, 0, none⟩ = some (.slice (some ⟨w.heap.size, 0, none⟩) 1 1) := HAX3.out.1
  have hx2 : w3.cell? ⟨w.heap.size + 1 + 1, 1, none⟩ = some (.slice (some ⟨w.heap.size + 1, 0, none⟩) 2 2) := HAX3.out.2.1
  have hx3 : w3.cell? ⟨w.heap.size + 1 + 1, 2, none⟩ = some (.int .u64 3) := HAX3.out.2.2
  have hy1 : w3.cell? ⟨w.heap.size + 1 + 1 + 1 + 1 + 1, 0, none⟩ = some (.slice (some ⟨w.heap.size + 1 + 1 + 1, 0, none⟩) 1 1) := HAY3.out.1
  have hy2 : w3.cell? ⟨w.heap.size + 1 + 1 + 1 + 1 + 1, 1, none⟩ = some (.slice (some ⟨w.heap.size + 1 + 1 + 1 + 1, 0, none⟩) 2 2) := HAY3.out.2.1
  have hy3 : w3.cell? ⟨w.heap.size + 1 + 1 + 1 + 1 + 1, 2, none⟩ = some (.int .u64 2) := HAY3.out.2.2
  go_wp2_with fail
  refine (lessR_is (⟨some ⟨w.heap.size + 1 + 1 + 1, 0, none⟩, 1, 1, [102], some ⟨w.heap.size + 1 + 1 + 1 + 1, 0, none⟩, 2, 2, [112, 104], 2⟩ : Rw) (⟨some ⟨w.heap.size, 0, none⟩, 1, 1, [102], some ⟨w.heap.size + 1, 0, none⟩, 2, 2, [112, 104], 3⟩ : Rw) true w3 HGY3.out HGX3.out (show lessR ⟨[102], [112, 104], 2⟩ ⟨[102], [112, 104], 3⟩ = true by decide +kernel)).mono ?_
  rintro e w4 ⟨rfl, hb⟩
  have HB4 : Hid (Below w.heap.size w w4) := HB3.out.trans (hb.mono HB3.out.size)
  have HGX4 := Lib.hid (HGX3.out.below hb (Nat.le_refl _))
  have HGY4 := Lib.hid (HGY3.out.below hb (Nat.le_refl _))
  have HAX4 := Lib.hid (HAX3.out.below hb (Nat.le_refl _))
  have HAY4 := Lib.hid (HAY3.out.below hb (Nat.le_refl _))
  have HR4 := Lib.hid (HR3.out.below hb (Nat.le_refl _))
  clear hx1 hx2 hx3 hy1 hy2 hy3
  clear hb
  have hx1 : w4.cell? ⟨w.heap.size + 1 + 1, 0, none⟩ = some (.slice (some ⟨w.heap.size, 0, none⟩) 1 1) := HAX4.out.1
  have hx2 : w4.cell? ⟨w.heap.size + 1 + 1, 1, none⟩ = some (.slice (some ⟨w.heap.size + 1, 0, none⟩) 2 2) := HAX4.out.2.1
  have hx3 : w4.cell? ⟨w.heap.size + 1 + 1, 2, none⟩ = some (.int .u64 3) := HAX4.out.2.2
  have hy1 : w4.cell? ⟨w.heap.size + 1 + 1 + 1 + 1 + 1, 0, none⟩ = some (.slice (some ⟨w.heap.size + 1 + 1 + 1, 0, none⟩) 1 1) := HAY4.out.1
  have hy2 : w4.cell? ⟨w.heap.size + 1 + 1 + 1 + 1 + 1, 1, none⟩ = some (.slice (some ⟨w.heap.size + 1 + 1 + 1 + 1, 0, none⟩) 2 2) := HAY4.out.2.1
  have hy3 : w4.cell? ⟨w.heap.size + 1 + 1 + 1 + 1 + 1, 2, none⟩ = some (.int .u64 2) := HAY4.out.2.2
  go_wp2_with fail
  refine (lessR_is (⟨some ⟨w.heap.size, 0, none⟩, 1, 1, [102], some ⟨w.heap.size + 1, 0, none⟩, 2, 2, [112, 104], 3⟩ : Rw) (⟨some ⟨w.heap.size, 0, none⟩, 1, 1, [102], some ⟨w.heap.size + 1, 0, none⟩, 2, 2, [112, 104], 3⟩ : Rw) false w4 HGX4.out HGX4.out (show lessR ⟨[102], [112, 104], 3⟩ ⟨[102], [112, 104], 3⟩ = false by decide +kernel)).mono ?_
  rintro e w5 ⟨rfl, hb⟩
  have HB5 : Hid (Below w.heap.size w w5) := HB4.out.trans (hb.mono HB4.out.size)
  have HGX5 := Lib.hid (HGX4.out.below hb (Nat.le_refl _))
  have HGY5 := Lib.hid (HGY4.out.below hb (Nat.le_refl _))
  have HAX5 := Lib.hid (HAX4.out.below hb (Nat.le_refl _))
  have HAY5 := Lib.hid (HAY4.out.below hb (Nat.le_refl _))
  have HR5 := Lib.hid (HR4.out.below hb (Nat.le_refl _))
  clear hx1 hx2 hx3 hy1 hy2 hy3
  clear hb
  have hx1 : w5.cell? ⟨w.heap.size + 1 + 1, 0, none⟩ = some (.slice (some ⟨w.heap.size, 0, none⟩) 1 1) := HAX5.out.1
  have hx2 : w5.cell? ⟨w.heap.size + 1 + 1, 1, none⟩ = some (.slice (some ⟨w.heap.size + 1, 0, none⟩) 2 2) := HAX5.out.2.1
  have hx3 : w5.cell? ⟨w.heap.size + 1 + 1, 2, none⟩ = some (.int .u64 3) := HAX5.out.2.2
  have hy1 : w5.cell? ⟨w.heap.size + 1 + 1 + 1 + 1 + 1, 0, none⟩ = some (.slice (some ⟨w.heap.size + 1 + 1 + 1, 0, none⟩) 1 1) := HAY5.out.1
  have hy2 : w5.cell? ⟨w.heap.size + 1 + 1 + 1 + 1 + 1, 1, none⟩ = some (.slice (some ⟨w.heap.size + 1 + 1 + 1 + 1, 0, none⟩) 2 2) := HAY5.out.2.1
  have hy3 : w5.cell? ⟨w.heap.size + 1 + 1 + 1 + 1 + 1, 2, none⟩ = some (.int .u64 2) := HAY5.out.2.2
  go_wp2_with fail
  refine (rsames_is _ _ _ 1 _ 1 outs [(⟨some ⟨w.heap.size + 1 + 1 + 1, 0, none⟩, 1, 1, [102], some ⟨w.heap.size + 1 + 1 + 1 + 1, 0, none⟩, 2, 2, [112, 104], 2⟩ : Rw)] true _ (HR5.out.alloc _) (Rs.newc [(⟨some ⟨w.heap.size + 1 + 1 + 1, 0, none⟩, 1, 1, [102], some ⟨w.heap.size + 1 + 1 + 1 + 1, 0, none⟩, 2, 2, [112, 104], 2⟩ : Rw)] (by intro x hx; rw [List.mem_singleton.1 hx]; exact HGY5.out) (by show 1 ≤ maxLen; unfold maxLen; omega) rfl rfl rfl) (by rw [HR.out]; show decide ([(⟨[102], [112, 104], 2⟩ : Rul)] = [⟨[102], [112, 104], 2⟩]) = true; decide +kernel)).mono ?_
  rintro e w6 ⟨rfl, hq⟩
  have HB6 : Hid (Below w.heap.size w w6) := below_drawn (HB5.out.alloc HB5.out.size _) hq
  clear hq hx1 hx2 hx3 hy1 hy2 hy3
  go_wp2_with fail
  refine (check_is (⟨some ⟨w6.heap.size, 0, none⟩, 1, 1, [1], none, 0, 0, [], 18446744073709551615⟩ : Rw) false _ ⟨Sl.lay [1] (by decide) (by decide) rfl rfl rfl, Sl.nil, by show (0 : Int) ≤ 18446744073709551615; decide, by show (18446744073709551615 : Int) < _; decide⟩ (show chk ⟨[1], [], 18446744073709551615⟩ = false by decide +kernel)).mono ?_
  rintro e w7 ⟨rfl, hb⟩
  have HB7 : Hid (Below w.heap.size w w7) := (HB6.out.alloc HB6.out.size _).trans (hb.mono (by have := HB6.out.size; simp; omega))
  clear hb
  go_wp2
  go_ret
  exact ⟨rfl, HB7.out⟩

end Go.Proofs.Ytcpilhgofdnigaa
