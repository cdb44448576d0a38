/- awake, the head of all laws of layer 7: it answers true. Written by wip/gen/spec_awake.py. -/
import Derived.Lib.SlBytesConst
import Derived.Test.YtdeicfdbjmpliaaSpecReadW
namespace Go.Proofs.Ytdeicfdbjmpliaa
open Go.RowKit

set_option maxRecDepth 100000 in
theorem aw_signs (l : List Int) (hg : Utf.allGood l = true) (hp : Utf.put l = l) : Spec.signs l = some l := by
  have := Spec.signs_put hg
  rw [hp] at this; exact this
set_option maxRecDepth 100000 in
theorem aw_read1 : Spec.read [82, 69, 80, 32, 102, 32, 112, 104, 32, 50] = ⟨0, [], [⟨[102], [112, 104], 2⟩]⟩ := by
  unfold Spec.read
  rw [if_neg (by decide +kernel), show Line.fields [82, 69, 80, 32, 102, 32, 112, 104, 32, 50] = [[82, 69, 80], [102], [112, 104], [50]] from by decide +kernel]
  unfold Spec.byWord
  rw [show ([[82, 69, 80], [102], [112, 104], [50]] : List (List Int)).getD 0 [] = [82, 69, 80] from rfl, if_neg (by decide), if_pos (by decide), if_pos (by rfl)]
  unfold Spec.rep
  rw [show ([[82, 69, 80], [102], [112, 104], [50]] : List (List Int)).getD 1 [] = [102] from rfl, show ([[82, 69, 80], [102], [112, 104], [50]] : List (List Int)).getD 2 [] = [112, 104] from rfl, show ([[82, 69, 80], [102], [112, 104], [50]] : List (List Int)).getD 3 [] = [50] from rfl]
  rw [show Spec.side [102] = Spec.signs [102] from if_neg (by decide), show Spec.side [112, 104] = Spec.signs [112, 104] from if_neg (by decide)]
  rw [show Spec.signs [102] = some [102] from aw_signs [102] (by decide) (by decide), show Spec.signs [112, 104] = some [112, 104] from aw_signs [112, 104] (by decide) (by decide)]
  show Spec.last [50] _ = _
  unfold Spec.last
  rw [show Num.read [50] = some 2 from by decide +kernel]
  show Spec.told _ _ = _
  unfold Spec.told
  rw [if_pos (by decide +kernel)]
  rfl
set_option maxRecDepth 100000 in
theorem aw_read2 : Spec.read [75, 69, 89, 32, 97, 98, 124, 99, 100, 32, 51] = ⟨0, [], [⟨[97], [98], 3⟩, ⟨[98], [97], 3⟩, ⟨[99], [100], 3⟩, ⟨[100], [99], 3⟩]⟩ := by
  unfold Spec.read
  rw [if_neg (by decide +kernel), show Line.fields [75, 69, 89, 32, 97, 98, 124, 99, 100, 32, 51] = [[75, 69, 89], [97, 98, 124, 99, 100], [51]] from by decide +kernel]
  unfold Spec.byWord
  rw [show ([[75, 69, 89], [97, 98, 124, 99, 100], [51]] : List (List Int)).getD 0 [] = [75, 69, 89] from rfl, if_neg (by decide), if_neg (by decide), if_pos (by decide), if_pos (by rfl)]
  unfold Spec.key
  rw [show ([[75, 69, 89], [97, 98, 124, 99, 100], [51]] : List (List Int)).getD 1 [] = [97, 98, 124, 99, 100] from rfl, show ([[75, 69, 89], [97, 98, 124, 99, 100], [51]] : List (List Int)).getD 2 [] = [51] from rfl, show Spec.signs [97, 98, 124, 99, 100] = some [97, 98, 124, 99, 100] from aw_signs [97, 98, 124, 99, 100] (by decide) (by decide)]
  show Spec.last [51] _ = _
  unfold Spec.last
  rw [show Num.read [51] = some 3 from by decide +kernel]
  show Spec.told _ _ = _
  unfold Spec.told
  rw [if_pos (by decide +kernel)]
  rfl
set_option maxRecDepth 100000 in
theorem aw_read3 : Spec.read [66, 65, 83, 69, 32, 49, 32, 50, 32, 51, 32, 52] = ⟨0, [1, 2, 3, 4], []⟩ := by
  unfold Spec.read
  rw [if_neg (by decide +kernel), show Line.fields [66, 65, 83, 69, 32, 49, 32, 50, 32, 51, 32, 52] = [[66, 65, 83, 69], [49], [50], [51], [52]] from by decide +kernel]
  unfold Spec.byWord
  rw [show ([[66, 65, 83, 69], [49], [50], [51], [52]] : List (List Int)).getD 0 [] = [66, 65, 83, 69] from rfl, if_pos (by decide), if_pos (by rfl)]
  unfold Spec.base
  rw [show Spec.costs (([[66, 65, 83, 69], [49], [50], [51], [52]] : List (List Int)).drop 1) = some [1, 2, 3, 4] from by decide +kernel]
set_option maxRecDepth 100000 in
theorem aw_read4 : Spec.read [88, 89, 90] = Spec.Sp.no 70 := by
  unfold Spec.read
  rw [if_neg (by decide +kernel), show Line.fields [88, 89, 90] = [[88, 89, 90]] from by decide +kernel]
  unfold Spec.byWord
  rw [show ([[88, 89, 90]] : List (List Int)).getD 0 [] = [88, 89, 90] from rfl, if_neg (by decide), if_neg (by decide), if_neg (by decide), if_neg (by decide)]
set_option maxRecDepth 100000 in
theorem aw_read5 : Spec.read [77, 65, 80, 32, 97] = Spec.Sp.no 71 := by
  unfold Spec.read
  rw [if_neg (by decide +kernel), show Line.fields [77, 65, 80, 32, 97] = [[77, 65, 80], [97]] from by decide +kernel]
  unfold Spec.byWord
  rw [show ([[77, 65, 80], [97]] : List (List Int)).getD 0 [] = [77, 65, 80] from rfl, if_neg (by decide), if_neg (by decide), if_neg (by decide), if_pos (by decide), if_neg (by decide)]
set_option maxRecDepth 100000 in
theorem aw_read6 : Spec.read [82, 69, 80, 32, 97, 32, 97, 32, 49] = Spec.Sp.no 60 := by
  unfold Spec.read
  rw [if_neg (by decide +kernel), show Line.fields [82, 69, 80, 32, 97, 32, 97, 32, 49] = [[82, 69, 80], [97], [97], [49]] from by decide +kernel]
  unfold Spec.byWord
  rw [show ([[82, 69, 80], [97], [97], [49]] : List (List Int)).getD 0 [] = [82, 69, 80] from rfl, if_neg (by decide), if_pos (by decide), if_pos (by rfl)]
  unfold Spec.rep
  rw [show ([[82, 69, 80], [97], [97], [49]] : List (List Int)).getD 1 [] = [97] from rfl, show ([[82, 69, 80], [97], [97], [49]] : List (List Int)).getD 2 [] = [97] from rfl, show ([[82, 69, 80], [97], [97], [49]] : List (List Int)).getD 3 [] = [49] from rfl]
  rw [show Spec.side [97] = Spec.signs [97] from if_neg (by decide)]
  rw [show Spec.signs [97] = some [97] from aw_signs [97] (by decide) (by decide)]
  show Spec.last [49] _ = _
  unfold Spec.last
  rw [show Num.read [49] = some 1 from by decide +kernel]
  show Spec.told _ _ = _
  unfold Spec.told
  rw [if_neg (by decide +kernel)]
set_option maxRecDepth 100000 in
theorem aw_read7 : Spec.read [82, 69, 80, 32, 97, 32, 98, 32, 120] = Spec.Sp.no 50 := by
  unfold Spec.read
  rw [if_neg (by decide +kernel), show Line.fields [82, 69, 80, 32, 97, 32, 98, 32, 120] = [[82, 69, 80], [97], [98], [120]] from by decide +kernel]
  unfold Spec.byWord
  rw [show ([[82, 69, 80], [97], [98], [120]] : List (List Int)).getD 0 [] = [82, 69, 80] from rfl, if_neg (by decide), if_pos (by decide), if_pos (by rfl)]
  unfold Spec.rep
  rw [show ([[82, 69, 80], [97], [98], [120]] : List (List Int)).getD 1 [] = [97] from rfl, show ([[82, 69, 80], [97], [98], [120]] : List (List Int)).getD 2 [] = [98] from rfl, show ([[82, 69, 80], [97], [98], [120]] : List (List Int)).getD 3 [] = [120] from rfl]
  rw [show Spec.side [97] = Spec.signs [97] from if_neg (by decide), show Spec.side [98] = Spec.signs [98] from if_neg (by decide)]
  rw [show Spec.signs [97] = some [97] from aw_signs [97] (by decide) (by decide), show Spec.signs [98] = some [98] from aw_signs [98] (by decide) (by decide)]
  show Spec.last [120] _ = _
  unfold Spec.last
  rw [show Num.read [120] = none from by decide +kernel]
set_option maxRecDepth 100000 in
theorem aw_read8 : Spec.read [35, 32, 97] = Spec.Sp.no 0 := by
  unfold Spec.read
  rw [if_pos (by decide +kernel)]
set_option maxRecDepth 100000 in
theorem aw_write : Spec.write ⟨[], [97], 5⟩ = [82, 69, 80, 32, 95, 32, 97, 32, 53] := by decide +kernel
set_option maxRecDepth 100000 in
theorem conv_const1 (w : World) (A : Obj) (C : Array Value) (n c : Nat) : (convert 22 22 (.slice (some ⟨w.heap.size + 1, 0, none⟩) n c)).run Try.prog ((w.alloc A).alloc (.cells C 5)) = .ok (.slice (some ⟨w.heap.size + 1, 0, none⟩) n c) ((w.alloc A).alloc (.cells C 5 (C.size, C.size + 1))) := by
  have h := Lib.run_convert_bytes_const (P := Try.prog) (w.alloc A) 22 5 C n c Try.underlying22 Try.underlying5
  rw [World.size_alloc] at h; exact h
set_option maxRecDepth 100000 in
theorem aw_step {w w1 w2 : World} {A B : Obj} (h : Below w.heap.size w w1) (hb : Below ((w1.alloc A).alloc B).heap.size ((w1.alloc A).alloc B) w2) : Below w.heap.size w w2 ∧ Below w1.heap.size w1 w2 ∧ w2.heap[w1.heap.size]? = some A := by
  have e : (w1.alloc A).heap.size = w1.heap.size + 1 := World.size_alloc w1 A
  have e2 : ((w1.alloc A).alloc B).heap.size = w1.heap.size + 2 := by rw [World.size_alloc]; omega
  have h12 : Below w1.heap.size w1 w2 := (((Below.refl w1.heap.size w1).alloc (Nat.le_refl _) A).alloc (by omega) B).trans (hb.mono (by omega))
  refine ⟨h.trans (h12.mono h.size), h12, (hb.block _ (by omega)).trans ?_⟩
  exact ((World.grownBy_alloc (w1.alloc A) B none).block w1.heap.size (by omega) (by simp)).trans (heap_alloc_new w1 A)
set_option maxRecDepth 100000 in
theorem rs_len {w : World} {a : Option Addr} {n c : Nat} {xs : List Rw} {l : List Rul} (h : Rs w a n c xs) (hl : ruls xs = l) : n = l.length := by rw [← hl, ruls_length, h.1]
set_option maxRecDepth 100000 in
theorem ruls_one {xs : List Rw} {r : Rul} (h : ruls xs = [r]) : ∃ x : Rw, xs = [x] ∧ x.r = r := by
  match xs, h with
  | [x], h => exact ⟨x, rfl, by simpa [ruls] using h⟩

set_option maxHeartbeats 6400000 in
set_option maxRecDepth 100000 in
theorem awake_any (w : World) : Calls Try.prog 8 #[] w fun e w' => e = .returned (.bool true) ∧ Below w.heap.size w w' := by
  have kc := fun (w : World) (C : Array Value) (n c : Nat) => Lib.run_convert_bytes_const (P := Try.prog) w 22 5 C n c Try.underlying22 Try.underlying5
  have kc1 := fun (w : World) (A : Obj) (C : Array Value) (n c : Nat) => conv_const1 w A C n c
  go_enter Try.func8, Try.ntmps8
  go_wp2_with fail
  refine (read7_is _ 10 10 [82, 69, 80, 32, 102, 32, 112, 104, 32, 50] _ _ (Sl.newB [82, 69, 80, 32, 102, 32, 112, 104, 32, 50] (by decide) (by unfold maxLen; simp) (by simp) rfl rfl) (fun h => by cases h) (by omega) aw_read1).mono ?_
  rintro e w1 ⟨ba1, bn1, bc1, ra1, rn1, rc1, xs1, rfl, hbs1, _, hrs1, hru1, _, hb1⟩
  have HB1 : Hid (Below w.heap.size w w1) := ((Below.refl _ w).alloc (Nat.le_refl _) _).trans (hb1.mono (by simp))
  obtain rfl : rn1 = 1 := rs_len hrs1 hru1
  have HRA := Lib.hid hrs1
  have HRU := Lib.hid hru1
  clear hbs1 hrs1 hru1 hb1
  go_wp2_with fail
  refine (read7_is _ 11 11 [75, 69, 89, 32, 97, 98, 124, 99, 100, 32, 51] _ _ (Sl.newB [75, 69, 89, 32, 97, 98, 124, 99, 100, 32, 51] (by decide) (by unfold maxLen; simp) (by simp) rfl rfl) (fun h => by cases h) (by omega) aw_read2).mono ?_
  rintro e w2 ⟨ba2, bn2, bc2, ra2, rn2, rc2, xs2, rfl, hbs2, _, hrs2, hru2, _, hb2⟩
  have hst2 := aw_step HB1.out hb2
  have HB2 := Lib.hid hst2.1
  have HP1 := Lib.hid hst2.2.2
  have HRA := Lib.hid (HRA.out.below hst2.2.1 (Nat.le_refl _))
  clear hst2
  obtain rfl : rn2 = 4 := rs_len hrs2 hru2
  clear hbs2 hrs2 hru2 hb2
  go_wp2_with fail
  refine (read7_is _ 12 12 [66, 65, 83, 69, 32, 49, 32, 50, 32, 51, 32, 52] _ _ (Sl.newB [66, 65, 83, 69, 32, 49, 32, 50, 32, 51, 32, 52] (by decide) (by unfold maxLen; simp) (by simp) rfl rfl) (fun h => by cases h) (by omega) aw_read3).mono ?_
  rintro e w3 ⟨ba3, bn3, bc3, ra3, rn3, rc3, xs3, rfl, hbs3, _, hrs3, hru3, _, hb3⟩
  have hst3 := aw_step HB2.out hb3
  have HB3 := Lib.hid hst3.1
  have HP1 := Lib.hid ((hst3.2.1.block _ (Array.getElem?_eq_some_iff.1 HP1.out).1).trans HP1.out)
  have HP2 := Lib.hid hst3.2.2
  have HRA := Lib.hid (HRA.out.below hst3.2.1 (Nat.le_refl _))
  clear hst3
  have HBC := Lib.hid hbs3
  clear hbs3 hrs3 hru3 hb3
  go_wp2_with fail
  refine (read7_is _ 3 3 [88, 89, 90] _ _ (Sl.newB [88, 89, 90] (by decide) (by unfold maxLen; simp) (by simp) rfl rfl) (fun h => by cases h) (by omega) aw_read4).mono ?_
  rintro e w4 ⟨ba4, bn4, bc4, ra4, rn4, rc4, xs4, rfl, hbs4, _, hrs4, hru4, _, hb4⟩
  have hst4 := aw_step HB3.out hb4
  have HB4 := Lib.hid hst4.1
  have HP1 := Lib.hid ((hst4.2.1.block _ (Array.getElem?_eq_some_iff.1 HP1.out).1).trans HP1.out)
  have HP2 := Lib.hid ((hst4.2.1.block _ (Array.getElem?_eq_some_iff.1 HP2.out).1).trans HP2.out)
  have HP3 := Lib.hid hst4.2.2
  have HRA := Lib.hid (HRA.out.below hst4.2.1 (Nat.le_refl _))
  have HBC := Lib.hid (HBC.out.below hst4.2.1 (Nat.le_refl _))
  clear hst4
  clear hbs4 hrs4 hru4 hb4
  go_wp2_with fail
  refine (read7_is _ 5 5 [77, 65, 80, 32, 97] _ _ (Sl.newB [77, 65, 80, 32, 97] (by decide) (by unfold maxLen; simp) (by simp) rfl rfl) (fun h => by cases h) (by omega) aw_read5).mono ?_
  rintro e w5 ⟨ba5, bn5, bc5, ra5, rn5, rc5, xs5, rfl, hbs5, _, hrs5, hru5, _, hb5⟩
  have hst5 := aw_step HB4.out hb5
  have HB5 := Lib.hid hst5.1
  have HP1 := Lib.hid ((hst5.2.1.block _ (Array.getElem?_eq_some_iff.1 HP1.out).1).trans HP1.out)
  have HP2 := Lib.hid ((hst5.2.1.block _ (Array.getElem?_eq_some_iff.1 HP2.out).1).trans HP2.out)
  have HP3 := Lib.hid ((hst5.2.1.block _ (Array.getElem?_eq_some_iff.1 HP3.out).1).trans HP3.out)
  have HRA := Lib.hid (HRA.out.below hst5.2.1 (Nat.le_refl _))
  have HBC := Lib.hid (HBC.out.below hst5.2.1 (Nat.le_refl _))
  clear hst5
  clear hbs5 hrs5 hru5 hb5
  go_wp2_with fail
  refine (read7_is _ 9 9 [82, 69, 80, 32, 97, 32, 97, 32, 49] _ _ (Sl.newB [82, 69, 80, 32, 97, 32, 97, 32, 49] (by decide) (by unfold maxLen; simp) (by simp) rfl rfl) (fun h => by cases h) (by omega) aw_read6).mono ?_
  rintro e w6 ⟨ba6, bn6, bc6, ra6, rn6, rc6, xs6, rfl, hbs6, _, hrs6, hru6, _, hb6⟩
  have hst6 := aw_step HB5.out hb6
  have HB6 := Lib.hid hst6.1
  have HP1 := Lib.hid ((hst6.2.1.block _ (Array.getElem?_eq_some_iff.1 HP1.out).1).trans HP1.out)
  have HP2 := Lib.hid ((hst6.2.1.block _ (Array.getElem?_eq_some_iff.1 HP2.out).1).trans HP2.out)
  have HP3 := Lib.hid ((hst6.2.1.block _ (Array.getElem?_eq_some_iff.1 HP3.out).1).trans HP3.out)
  have HRA := Lib.hid (HRA.out.below hst6.2.1 (Nat.le_refl _))
  have HBC := Lib.hid (HBC.out.below hst6.2.1 (Nat.le_refl _))
  clear hst6
  clear hbs6 hrs6 hru6 hb6
  go_wp2_with fail
  refine (read7_is _ 9 9 [82, 69, 80, 32, 97, 32, 98, 32, 120] _ _ (Sl.newB [82, 69, 80, 32, 97, 32, 98, 32, 120] (by decide) (by unfold maxLen; simp) (by simp) rfl rfl) (fun h => by cases h) (by omega) aw_read7).mono ?_
  rintro e w7 ⟨ba7, bn7, bc7, ra7, rn7, rc7, xs7, rfl, hbs7, _, hrs7, hru7, _, hb7⟩
  have hst7 := aw_step HB6.out hb7
  have HB7 := Lib.hid hst7.1
  have HP1 := Lib.hid ((hst7.2.1.block _ (Array.getElem?_eq_some_iff.1 HP1.out).1).trans HP1.out)
  have HP2 := Lib.hid ((hst7.2.1.block _ (Array.getElem?_eq_some_iff.1 HP2.out).1).trans HP2.out)
  have HP3 := Lib.hid ((hst7.2.1.block _ (Array.getElem?_eq_some_iff.1 HP3.out).1).trans HP3.out)
  have HRA := Lib.hid (HRA.out.below hst7.2.1 (Nat.le_refl _))
  have HBC := Lib.hid (HBC.out.below hst7.2.1 (Nat.le_refl _))
  clear hst7
  clear hbs7 hrs7 hru7 hb7
  go_wp2_with fail
  refine (read7_is _ 3 3 [35, 32, 97] _ _ (Sl.newB [35, 32, 97] (by decide) (by unfold maxLen; simp) (by simp) rfl rfl) (fun h => by cases h) (by omega) aw_read8).mono ?_
  rintro e w8 ⟨ba8, bn8, bc8, ra8, rn8, rc8, xs8, rfl, hbs8, _, hrs8, hru8, _, hb8⟩
  have hst8 := aw_step HB7.out hb8
  have HB8 := Lib.hid hst8.1
  have HP1 := Lib.hid ((hst8.2.1.block _ (Array.getElem?_eq_some_iff.1 HP1.out).1).trans HP1.out)
  have HP2 := Lib.hid ((hst8.2.1.block _ (Array.getElem?_eq_some_iff.1 HP2.out).1).trans HP2.out)
  have HP3 := Lib.hid ((hst8.2.1.block _ (Array.getElem?_eq_some_iff.1 HP3.out).1).trans HP3.out)
  have HRA := Lib.hid (HRA.out.below hst8.2.1 (Nat.le_refl _))
  have HBC := Lib.hid (HBC.out.below hst8.2.1 (Nat.le_refl _))
  clear hst8
  obtain rfl : rn8 = 0 := rs_len hrs8 hru8
  clear hbs8 hrs8 hru8 hb8
  go_wp2_with fail
  refine (write7_is (⟨none, 0, 0, [], some ⟨w8.heap.size + 1, 0, none⟩, 1, 1, [97], 5⟩ : Rw) true [82, 69, 80, 32, 95, 32, 97, 32, 53] 0 _ ⟨Sl.nil, Sl.lay [97] (by decide) (by unfold maxLen; simp) (by simp) rfl rfl, by show (0 : Int) ≤ 5; decide, by show (5 : Int) < _; decide⟩ ⟨by show 0 ≤ 1000; omega, by show 1 ≤ 1000; omega⟩ (show Spec.fit ⟨[], [97], 5⟩ = true by decide +kernel) (by rw [if_pos rfl]; exact aw_write) rfl).mono ?_
  rintro e w9 ⟨aw, nw, cw, rfl, hnw, hsw, _, hb9⟩
  have hst := aw_step HB8.out hb9
  have HB9 := Lib.hid hst.1
  have HP8 := Lib.hid hst.2.2
  have HP2x := Lib.hid ((hst.2.1.block _ (Array.getElem?_eq_some_iff.1 HP2.out).1).trans HP2.out)
  have HP1x := Lib.hid ((hst.2.1.block _ (Array.getElem?_eq_some_iff.1 HP1.out).1).trans HP1.out)
  have HP3x := Lib.hid ((hst.2.1.block _ (Array.getElem?_eq_some_iff.1 HP3.out).1).trans HP3.out)
  have HRAx := Lib.hid (HRA.out.below hst.2.1 (Nat.le_refl _))
  have HBCx := Lib.hid (HBC.out.below hst.2.1 (Nat.le_refl _))
  obtain rfl : nw = 9 := hnw
  have HSWx := Lib.hid hsw
  obtain rfl : bn3 = 4 := HBCx.out.1.symm
  obtain ⟨x, rfl, hxr⟩ := ruls_one HRU.out
  obtain ⟨la, ln, lc, L, rx, rnx, rcx, R, C⟩ := x
  obtain ⟨rfl, rfl, rfl⟩ : L = [102] ∧ R = [112, 104] ∧ C = 2 := by
    have h1 := congrArg Rul.L hxr; have h2 := congrArg Rul.R hxr; have h3 := congrArg Rul.C hxr
    exact ⟨h1, h2, h3⟩
  obtain rfl : rnx = 2 := (HRAx.out.2.2.2.1 _ (List.mem_singleton.2 rfl)).2.1.1.symm
  obtain rfl : ln = 1 := (HRAx.out.2.2.2.1 _ (List.mem_singleton.2 rfl)).1.1.symm
  obtain ⟨bA, oA, hra, _⟩ := HRAx.out.at (by omega)
  subst hra
  clear hst hb9 hsw hxr HP1 HP2 HP3 HRA HBC HRU
  have hst : Below w9.heap.size w9 w9 := Below.refl _ _
  have HP1x0 : Hid ((w9).heap[w1.heap.size]? = _) := (hst.block _ (Array.getElem?_eq_some_iff.1 HP1x.out).1).trans HP1x.out
  have HP3x0 : Hid ((w9).heap[w3.heap.size]? = _) := (hst.block _ (Array.getElem?_eq_some_iff.1 HP3x.out).1).trans HP3x.out
  have HRAx0 := Lib.hid (HRAx.out.below hst (Nat.le_refl _))
  have HBCx0 := Lib.hid (HBCx.out.below hst (Nat.le_refl _))
  have HSWx0 := Lib.hid (HSWx.out.below hst (Nat.le_refl _))
  obtain ⟨_, _, _, _, _, _, _, _, _, _, _, e0, _, y1, y2, y3, yl, yr, _, _, ye⟩ := HRAx0.out.one 0 (by omega)
  simp only [Option.some.injEq, Addr.mk.injEq, and_true] at e0
  obtain ⟨rfl, rfl⟩ := e0
  rw [List.getD_cons_zero] at ye
  cases ye
  have hA0 : (w9).cell? ⟨bA, oA, none⟩ = some (.slice la 1 lc) := by have := y1; rwa [Nat.zero_mul, Nat.add_zero] at this
  have hA1 : (w9).cell? ⟨bA, oA + 1, none⟩ = some (.slice rx 2 rcx) := by have := y2; rwa [Nat.zero_mul, Nat.add_zero] at this
  have hA2 : (w9).cell? ⟨bA, oA + 2, none⟩ = some (.int .u64 2) := by have := y3; rwa [Nat.zero_mul, Nat.add_zero] at this
  have haP : (w9).cell? ⟨w1.heap.size, 1, none⟩ = some (.slice (some ⟨bA, oA, none⟩) 1 rc1) := by simp [World.cell?, HP1x0.out]
  have hcP : (w9).cell? ⟨w3.heap.size, 0, none⟩ = some (.slice ba3 4 bc3) := by simp [World.cell?, HP3x0.out]
  clear y1 y2 y3
  have hbP : w9.cell? ⟨w2.heap.size, 1, none⟩ = some (.slice ra2 4 rc2) := by simp [World.cell?, HP2x.out]
  have hdP : w9.cell? ⟨w8.heap.size, 1, none⟩ = some (.slice ra8 0 rc8) := by simp [World.cell?, HP8.out]
  have HYR := Lib.hid yr
  clear hst yl yr HP2x HP8
  go_wp2_with fail
  refine (same_is _ _ 2 2 _ _ [112, 104] [112, 104] true _ (HYR.out.alloc _) (Sl.lay [112, 104] (by decide) (by unfold maxLen; simp) rfl rfl rfl) (by decide)).mono ?_
  rintro e w10 ⟨rfl, hq10⟩
  have hst : Below w9.heap.size w9 w10 := below_drawn ((Below.refl _ w9).alloc (Nat.le_refl _) _) hq10
  have HB10 : Hid (Below w.heap.size w w10) := HB9.out.trans (hst.mono HB9.out.size)
  clear hA0 hA1 hA2 haP hcP hbP hdP hq10 HYR
  have HP1x1 : Hid ((w10).heap[w1.heap.size]? = _) := (hst.block _ (Array.getElem?_eq_some_iff.1 HP1x0.out).1).trans HP1x0.out
  have HP3x1 : Hid ((w10).heap[w3.heap.size]? = _) := (hst.block _ (Array.getElem?_eq_some_iff.1 HP3x0.out).1).trans HP3x0.out
  have HRAx1 := Lib.hid (HRAx0.out.below hst (Nat.le_refl _))
  have HBCx1 := Lib.hid (HBCx0.out.below hst (Nat.le_refl _))
  have HSWx1 := Lib.hid (HSWx0.out.below hst (Nat.le_refl _))
  obtain ⟨_, _, _, _, _, _, _, _, _, _, _, e1, _, y1, y2, y3, yl, yr, _, _, ye⟩ := HRAx1.out.one 0 (by omega)
  simp only [Option.some.injEq, Addr.mk.injEq, and_true] at e1
  obtain ⟨rfl, rfl⟩ := e1
  rw [List.getD_cons_zero] at ye
  cases ye
  have hA0 : (w10).cell? ⟨bA, oA, none⟩ = some (.slice la 1 lc) := by have := y1; rwa [Nat.zero_mul, Nat.add_zero] at this
  have hA1 : (w10).cell? ⟨bA, oA + 1, none⟩ = some (.slice rx 2 rcx) := by have := y2; rwa [Nat.zero_mul, Nat.add_zero] at this
  have hA2 : (w10).cell? ⟨bA, oA + 2, none⟩ = some (.int .u64 2) := by have := y3; rwa [Nat.zero_mul, Nat.add_zero] at this
  have haP : (w10).cell? ⟨w1.heap.size, 1, none⟩ = some (.slice (some ⟨bA, oA, none⟩) 1 rc1) := by simp [World.cell?, HP1x1.out]
  have hcP : (w10).cell? ⟨w3.heap.size, 0, none⟩ = some (.slice ba3 4 bc3) := by simp [World.cell?, HP3x1.out]
  clear y1 y2 y3
  clear hst yl yr
  go_wp2_with fail
  refine (csame_is _ _ 4 4 _ _ [1, 2, 3, 4] [1, 2, 3, 4] true _ (HBCx1.out.alloc _) (Sl.lay [1, 2, 3, 4] (by decide) (by unfold maxLen; simp) rfl rfl rfl) (by decide)).mono ?_
  rintro e w11 ⟨rfl, hq11⟩
  have hst : Below w10.heap.size w10 w11 := below_drawn ((Below.refl _ w10).alloc (Nat.le_refl _) _) hq11
  have HB11 : Hid (Below w.heap.size w w11) := HB10.out.trans (hst.mono HB10.out.size)
  clear hA0 hA1 hA2 haP hcP hq11
  have HP1x2 : Hid ((w11).heap[w1.heap.size]? = _) := (hst.block _ (Array.getElem?_eq_some_iff.1 HP1x1.out).1).trans HP1x1.out
  have HP3x2 : Hid ((w11).heap[w3.heap.size]? = _) := (hst.block _ (Array.getElem?_eq_some_iff.1 HP3x1.out).1).trans HP3x1.out
  have HRAx2 := Lib.hid (HRAx1.out.below hst (Nat.le_refl _))
  have HBCx2 := Lib.hid (HBCx1.out.below hst (Nat.le_refl _))
  have HSWx2 := Lib.hid (HSWx1.out.below hst (Nat.le_refl _))
  obtain ⟨_, _, _, _, _, _, _, _, _, _, _, e2, _, y1, y2, y3, yl, yr, _, _, ye⟩ := HRAx2.out.one 0 (by omega)
  simp only [Option.some.injEq, Addr.mk.injEq, and_true] at e2
  obtain ⟨rfl, rfl⟩ := e2
  rw [List.getD_cons_zero] at ye
  cases ye
  have hA0 : (w11).cell? ⟨bA, oA, none⟩ = some (.slice la 1 lc) := by have := y1; rwa [Nat.zero_mul, Nat.add_zero] at this
  have hA1 : (w11).cell? ⟨bA, oA + 1, none⟩ = some (.slice rx 2 rcx) := by have := y2; rwa [Nat.zero_mul, Nat.add_zero] at this
  have hA2 : (w11).cell? ⟨bA, oA + 2, none⟩ = some (.int .u64 2) := by have := y3; rwa [Nat.zero_mul, Nat.add_zero] at this
  have haP : (w11).cell? ⟨w1.heap.size, 1, none⟩ = some (.slice (some ⟨bA, oA, none⟩) 1 rc1) := by simp [World.cell?, HP1x2.out]
  have hcP : (w11).cell? ⟨w3.heap.size, 0, none⟩ = some (.slice ba3 4 bc3) := by simp [World.cell?, HP3x2.out]
  clear y1 y2 y3
  have HYL := Lib.hid yl
  have HYR := Lib.hid yr
  have hstr := HSWx2.out.str
  have heq : ((strOfNums [82, 69, 80, 32, 95, 32, 97, 32, 53]).toList == [82, 69, 80, 32, 95, 32, 97, 32, 53]) = true := word_is (g := [82, 69, 80, 32, 95, 32, 97, 32, 53]) [82, 69, 80, 32, 95, 32, 97, 32, 53] _ (by decide) (by decide) rfl (by decide)
  clear hst yl yr
  go_wp2_with fail
  refine (fit7_is (⟨la, 1, lc, [102], rx, 2, rcx, [112, 104], 2⟩ : Rw) true w11 ⟨HYL.out, HYR.out, by show (0 : Int) ≤ 2; decide, by show (2 : Int) < _; decide⟩ (show Spec.fit ⟨[102], [112, 104], 2⟩ = true by decide +kernel)).mono ?_
  rintro e w12 ⟨rfl, hb12⟩
  have HB12 : Hid (Below w.heap.size w w12) := HB11.out.trans (hb12.mono HB11.out.size)
  clear hb12 hA0 hA1 hA2 haP hcP hstr heq
  go_wp2
  go_ret
  exact ⟨rfl, HB12.out⟩

end Go.Proofs.Ytdeicfdbjmpliaa
