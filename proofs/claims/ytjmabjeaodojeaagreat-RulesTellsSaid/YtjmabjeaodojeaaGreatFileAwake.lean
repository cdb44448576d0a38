/- Used by the law. -/
import Derived.Lib.SlBytesConst
import Derived.Test.YtjmabjeaodojeaaGreatFileReadW
import Derived.Test.YtjmabjeaodojeaaGreatFileWriteW
namespace Go.Proofs.YtjmabjeaodojeaaGreat
open Go Go.RowKit

theorem split_len : ∀ (b cur : List Int), ∀ x ∈ Line.splitA cur b, x.length ≤ cur.length + b.length
  | [], cur => by
    unfold Line.splitA
    split <;> simp
  | c :: b, cur => by
    unfold Line.splitA
    split
    · intro x hx
      rcases List.mem_cons.1 hx with rfl | hx
      · simp
      · have := split_len b [] x hx; simp at this ⊢; omega
    · intro x hx
      have := split_len b (cur ++ [c]) x hx
      simp at this ⊢; omega
theorem split_short {b : List Int} {K : Nat} (h : b.length ≤ K) : ∀ x ∈ Line.split b, x.length ≤ K := fun x hx => by
  have := split_len b [] x hx; simp at this; omega

set_option maxRecDepth 100000 in
theorem aw8_rep2 : Spec.read [82, 69, 80, 32, 98, 32, 97, 32, 50] = ⟨0, [], [⟨[98], [97], 2⟩]⟩ := by
  rw [show ([82, 69, 80, 32, 98, 32, 97, 32, 50] : List Int) = Spec.write ⟨[98], [97], 2⟩ by decide +kernel]
  exact Spec.read_write (by decide +kernel) (by decide)
set_option maxRecDepth 100000 in
theorem aw8_rep1 : Spec.read [82, 69, 80, 32, 98, 32, 97, 32, 49] = ⟨0, [], [⟨[98], [97], 1⟩]⟩ := by
  rw [show ([82, 69, 80, 32, 98, 32, 97, 32, 49] : List Int) = Spec.write ⟨[98], [97], 1⟩ by decide +kernel]
  exact Spec.read_write (by decide +kernel) (by decide)
set_option maxRecDepth 100000 in
theorem aw8_bare : Spec.read [35, 32, 120] = Spec.Sp.no 0 := by
  unfold Spec.read; rw [if_pos (by decide +kernel)]
set_option maxRecDepth 100000 in
theorem aw8_nil : Spec.read [] = Spec.Sp.no 0 := by
  unfold Spec.read; rw [if_pos (by decide +kernel)]
set_option maxRecDepth 100000 in
theorem aw8_base : Spec.read [66, 65, 83, 69, 32, 52, 32, 51, 32, 50, 32, 49] = ⟨0, [4, 3, 2, 1], []⟩ := by
  rw [show ([66, 65, 83, 69, 32, 52, 32, 51, 32, 50, 32, 49] : List Int) = File.baseLine [4, 3, 2, 1] by decide +kernel]
  exact File.read_base _ rfl (by simp)
set_option maxRecDepth 100000 in
theorem aw8_ones : Spec.read [66, 65, 83, 69, 32, 49, 32, 49, 32, 49, 32, 49] = ⟨0, [1, 1, 1, 1], []⟩ := by
  rw [show ([66, 65, 83, 69, 32, 49, 32, 49, 32, 49, 32, 49] : List Int) = File.baseLine [1, 1, 1, 1] by decide +kernel]
  exact File.read_base _ rfl (by simp)
set_option maxRecDepth 100000 in
theorem aw8_x : Spec.read [88] = Spec.Sp.no 70 := by
  unfold Spec.read
  rw [if_neg (by decide +kernel), show Line.fields [88] = [[88]] from by decide +kernel]
  unfold Spec.byWord
  rw [show ([[88]] : List (List Int)).getD 0 [] = [88] from rfl, if_neg (by decide), if_neg (by decide), if_neg (by decide), if_neg (by decide)]
set_option maxRecDepth 100000 in
theorem aw8_1 : File.read [82, 69, 80, 32, 98, 32, 97, 32, 50, 10, 35, 32, 120, 10, 82, 69, 80, 32, 98, 32, 97, 32, 49, 10, 66, 65, 83, 69, 32, 52, 32, 51, 32, 50, 32, 49, 10] = ⟨⟨[4, 3, 2, 1], [⟨[98], [97], 1⟩]⟩, -1, 0⟩ := by
  unfold File.read
  rw [show Line.split [82, 69, 80, 32, 98, 32, 97, 32, 50, 10, 35, 32, 120, 10, 82, 69, 80, 32, 98, 32, 97, 32, 49, 10, 66, 65, 83, 69, 32, 52, 32, 51, 32, 50, 32, 49, 10] = [[82, 69, 80, 32, 98, 32, 97, 32, 50], [35, 32, 120], [82, 69, 80, 32, 98, 32, 97, 32, 49], [66, 65, 83, 69, 32, 52, 32, 51, 32, 50, 32, 49]] from by decide +kernel]
  have n1 : nrm [⟨[98], [97], 2⟩] = [⟨[98], [97], 2⟩] := by decide +kernel
  have n2 : nrm [⟨[98], [97], 2⟩, ⟨[98], [97], 1⟩] = [⟨[98], [97], 1⟩] := by decide +kernel
  have n3 : nrm [⟨[98], [97], 1⟩] = [⟨[98], [97], 1⟩] := by decide +kernel
  simp [File.readA, aw8_rep2, aw8_rep1, aw8_bare, aw8_base, Spec.Sp.no, n1, n2, n3]
theorem aw8_2 : File.read [] = ⟨⟨[1, 1, 1, 1], []⟩, -1, 0⟩ := by
  unfold File.read
  rw [show Line.split [] = [] from rfl]
  rfl
set_option maxRecDepth 100000 in
theorem aw8_3 : File.read [10, 66, 65, 83, 69, 32, 49, 32, 49, 32, 49, 32, 49, 10, 66, 65, 83, 69, 32, 49, 32, 49, 32, 49, 32, 49] = ⟨File.Cst.zero, 2, 80⟩ := by
  unfold File.read
  rw [show Line.split [10, 66, 65, 83, 69, 32, 49, 32, 49, 32, 49, 32, 49, 10, 66, 65, 83, 69, 32, 49, 32, 49, 32, 49, 32, 49] = [[], [66, 65, 83, 69, 32, 49, 32, 49, 32, 49, 32, 49], [66, 65, 83, 69, 32, 49, 32, 49, 32, 49, 32, 49]] from by decide +kernel]
  simp [File.readA, aw8_nil, aw8_ones, Spec.Sp.no, nrm]
set_option maxRecDepth 100000 in
theorem aw8_4 : File.read [88, 10, 82, 69, 80] = ⟨File.Cst.zero, 0, 70⟩ := by
  unfold File.read
  rw [show Line.split [88, 10, 82, 69, 80] = [[88], [82, 69, 80]] from by decide +kernel]
  simp [File.readA, aw8_x, Spec.Sp.no]
set_option maxRecDepth 100000 in
theorem aw8_write : File.write ⟨[4, 3, 2, 1], [⟨[98], [97], 1⟩]⟩ = [66, 65, 83, 69, 32, 52, 32, 51, 32, 50, 32, 49, 10, 82, 69, 80, 32, 98, 32, 97, 32, 49, 10] := by decide +kernel
theorem aw8_step {w w1 w2 : World} {A : Obj} (h : Below w.heap.size w w1) (hb : Below (w1.alloc A).heap.size (w1.alloc A) w2) : Below w.heap.size w w2 ∧ Below w1.heap.size w1 w2 ∧ w2.heap[w1.heap.size]? = some A := by
  have e : (w1.alloc A).heap.size = w1.heap.size + 1 := World.size_alloc w1 A
  have h2 : Below w1.heap.size w1 w2 := ((Below.refl _ w1).alloc (Nat.le_refl _) A).trans (hb.mono (by omega))
  exact ⟨h.trans (h2.mono h.size), h2, (hb.block _ (by omega)).trans (heap_alloc_new w1 A)⟩
theorem cst_four {m l o t : Int} {a : Option Addr} {n cap : Nat} {xs : List Rw} {b0 b1 b2 b3 : Int} {rs : List Rul} (h : Cw.c ⟨m, l, o, t, a, n, cap, xs⟩ = ⟨[b0, b1, b2, b3], rs⟩) : m = b0 ∧ l = b1 ∧ o = b2 ∧ t = b3 ∧ ruls xs = rs := by
  have h1 := congrArg File.Cst.base h
  have h2 := congrArg File.Cst.rules h
  simp only [Cw.c, Cw.base, List.cons.injEq, and_true] at h1
  exact ⟨h1.1, h1.2.1, h1.2.2.1, h1.2.2.2, h2⟩

set_option maxHeartbeats 12800000 in
set_option maxRecDepth 100000 in
theorem awake_any (w : World) : Calls Tryz.prog 4 #[] w fun e w' => e = .returned (.bool true) ∧ Below w.heap.size w w' := by
  have kc := fun (w : World) (C : Array Value) (n c : Nat) => Lib.run_convert_bytes_const (P := Tryz.prog) w 22 5 C n c Tryz.underlying22 Tryz.underlying5
  have kc1 := conv_const1
  have HI : Hid ((Tryz.prog.info? 26).map (·.size) = some 5) := info_cost5
  go_enter Tryz.func4, Tryz.ntmps4
  go_wp2_with fail
  refine (fread_is _ 37 37 [82, 69, 80, 32, 98, 32, 97, 32, 50, 10, 35, 32, 120, 10, 82, 69, 80, 32, 98, 32, 97, 32, 49, 10, 66, 65, 83, 69, 32, 52, 32, 51, 32, 50, 32, 49, 10] _ _ (Sl.newB [82, 69, 80, 32, 98, 32, 97, 32, 50, 10, 35, 32, 120, 10, 82, 69, 80, 32, 98, 32, 97, 32, 49, 10, 66, 65, 83, 69, 32, 52, 32, 51, 32, 50, 32, 49, 10] (by decide) (by unfold maxLen; simp) (by simp) rfl rfl) (fun h => by cases h) (by omega) (split_short (by simp)) aw8_1).mono ?_
  rintro e w1 ⟨⟨m1, l1, o1, t1, a1, n1, c1, xs1⟩, rfl, hc1, ⟨hrs1, _⟩, hnil1, _, hb1⟩
  obtain ⟨rfl, rfl, rfl, rfl, hru1⟩ := cst_four hc1
  obtain rfl : n1 = 1 := rs_len hrs1 hru1
  have HB1 : Hid (Below w.heap.size w w1) := ((Below.refl _ w).alloc (Nat.le_refl _) _).trans (hb1.mono (by simp))
  have HRS1 := Lib.hid hrs1
  have HRU1 := Lib.hid hru1
  clear hc1 hrs1 hru1 hnil1 hb1
  simp only [Cw.v, Cw.cells]
  go_wp2_with fail
  refine (fwrite_is ⟨4, 3, 2, 1, a1, 1, c1, xs1⟩ true [66, 65, 83, 69, 32, 52, 32, 51, 32, 50, 32, 49, 10, 82, 69, 80, 32, 98, 32, 97, 32, 49, 10] 0 _ ⟨HRS1.out.alloc _, by simp [Cw.base]⟩ (by rw [show Cw.c ⟨4, 3, 2, 1, a1, 1, c1, xs1⟩ = ⟨[4, 3, 2, 1], [⟨[98], [97], 1⟩]⟩ from by unfold Cw.c; rw [show ruls _ = _ from HRU1.out]; rfl]; decide +kernel) (by rw [show Cw.c ⟨4, 3, 2, 1, a1, 1, c1, xs1⟩ = ⟨[4, 3, 2, 1], [⟨[98], [97], 1⟩]⟩ from by unfold Cw.c; rw [show ruls _ = _ from HRU1.out]; rfl, if_pos rfl]; exact aw8_write) rfl).mono ?_
  rintro e w2 ⟨wa, wn, wc, rfl, hwn, hsw, _, hb2, _⟩
  obtain rfl : wn = 23 := hwn
  have hst2 := aw8_step HB1.out hb2
  have HB2 := Lib.hid hst2.1
  have HP1 := Lib.hid hst2.2.2
  have HSW := Lib.hid hsw
  clear hst2 hsw hb2 HRS1 HRU1
  go_wp2_with fail
  refine (fread_is none 0 0 [] _ _ Sl.nil (fun _ => rfl) (by omega) (split_short (K := 5000) (by simp)) aw8_2).mono ?_
  rintro e w3 ⟨⟨m3, l3, o3, t3, a3, n3, c3, xs3⟩, rfl, hc3, ⟨hrs3, _⟩, _, _, hb3⟩
  obtain ⟨rfl, rfl, rfl, rfl, hru3⟩ := cst_four hc3
  obtain rfl : n3 = 0 := rs_len hrs3 hru3
  have HB3 : Hid (Below w.heap.size w w3) := HB2.out.trans (hb3.mono HB2.out.size)
  have HP1 := Lib.hid ((hb3.block _ (Array.getElem?_eq_some_iff.1 HP1.out).1).trans HP1.out)
  have HSW := Lib.hid (HSW.out.below hb3 (Nat.le_refl _))
  have HRS3 := Lib.hid hrs3
  have HRU3 := Lib.hid hru3
  clear hc3 hrs3 hru3 hb3
  simp only [Cw.v, Cw.cells]
  go_wp2_with fail
  refine (fread_is _ 26 26 [10, 66, 65, 83, 69, 32, 49, 32, 49, 32, 49, 32, 49, 10, 66, 65, 83, 69, 32, 49, 32, 49, 32, 49, 32, 49] _ _ (Sl.newB [10, 66, 65, 83, 69, 32, 49, 32, 49, 32, 49, 32, 49, 10, 66, 65, 83, 69, 32, 49, 32, 49, 32, 49, 32, 49] (by decide) (by unfold maxLen; simp) (by simp) rfl rfl) (fun h => by cases h) (by omega) (split_short (by simp)) aw8_3).mono ?_
  rintro e w4 ⟨⟨m4, l4, o4, t4, a4, n4, c4, xs4⟩, rfl, _, _, _, _, hb4⟩
  have hst4 := aw_step HB3.out hb4
  have HB4 := Lib.hid hst4.1
  have HP3 := Lib.hid hst4.2.2
  have HP1 := Lib.hid ((hst4.2.1.block _ (Array.getElem?_eq_some_iff.1 HP1.out).1).trans HP1.out)
  have HSW := Lib.hid (HSW.out.below hst4.2.1 (Nat.le_refl _))
  have HRS3 := Lib.hid (HRS3.out.below hst4.2.1 (Nat.le_refl _))
  clear hst4 hb4
  simp only [Cw.v, Cw.cells]
  go_wp2_with fail
  refine (fread_is _ 5 5 [88, 10, 82, 69, 80] _ _ (Sl.newB [88, 10, 82, 69, 80] (by decide) (by unfold maxLen; simp) (by simp) rfl rfl) (fun h => by cases h) (by omega) (split_short (by simp)) aw8_4).mono ?_
  rintro e w5 ⟨⟨m5, l5, o5, t5, a5, n5, c5, xs5⟩, rfl, _, _, _, _, hb5⟩
  have hst5 := aw_step HB4.out hb5
  have HB5 := Lib.hid hst5.1
  have HP1 := Lib.hid ((hst5.2.1.block _ (Array.getElem?_eq_some_iff.1 HP1.out).1).trans HP1.out)
  have HP3 := Lib.hid ((hst5.2.1.block _ (Array.getElem?_eq_some_iff.1 HP3.out).1).trans HP3.out)
  have HSW := Lib.hid (HSW.out.below hst5.2.1 (Nat.le_refl _))
  have HRS3 := Lib.hid (HRS3.out.below hst5.2.1 (Nat.le_refl _))
  clear hst5 hb5
  have hp1 : ∀ o, (w5.alloc o).cell? ⟨w1.heap.size, 4, none⟩ = some (.slice a1 1 c1) := fun o => by
    have h : (w5.alloc o).heap[w1.heap.size]? = _ := ((World.grownBy_alloc w5 o none).block _ (Array.getElem?_eq_some_iff.1 HP1.out).1 (by simp)).trans HP1.out
    simp [World.cell?, h]
  have hp3 : ∀ o, (w5.alloc o).heap[w3.heap.size]? = some (.cells #[.int .u64 1, .int .u64 1, .int .u64 1, .int .u64 1, .slice a3 0 c3] 26 (0, 0)) := fun o =>
    ((World.grownBy_alloc w5 o none).block _ (Array.getElem?_eq_some_iff.1 HP3.out).1 (by simp)).trans HP3.out
  have hp32 : ∀ o, (w5.alloc o).cell? ⟨w3.heap.size, 2, none⟩ = some (.int .u64 1) := fun o => by simp [World.cell?, hp3 o]
  have HP3' := Lib.hid hp3
  have HI3 : Hid ((Tryz.prog.info? 26).map (·.size) = some (#[Value.int .u64 1, Value.int .u64 1, Value.int .u64 1, Value.int .u64 1, Value.slice a3 0 c3]).size) := HI.out
  have hstr := fun o => (HSW.out.alloc o).str
  have heq : ((strOfNums [66, 65, 83, 69, 32, 52, 32, 51, 32, 50, 32, 49, 10, 82, 69, 80, 32, 98, 32, 97, 32, 49, 10]).toList == [66, 65, 83, 69, 32, 52, 32, 51, 32, 50, 32, 49, 10, 82, 69, 80, 32, 98, 32, 97, 32, 49, 10]) = true := word_is (g := [66, 65, 83, 69, 32, 52, 32, 51, 32, 50, 32, 49, 10, 82, 69, 80, 32, 98, 32, 97, 32, 49, 10]) [66, 65, 83, 69, 32, 52, 32, 51, 32, 50, 32, 49, 10, 82, 69, 80, 32, 98, 32, 97, 32, 49, 10] _ (by decide) (by decide) rfl (by decide)
  have HBA : ∀ o, Hid (Below w.heap.size w (w5.alloc o)) := fun o => HB5.out.alloc HB5.out.size o
  clear hp3 HP1 HP3 HSW
  simp only [Cw.v, Cw.cells]
  go_wp2_with (refine wpList_load_row_w (by rfl) 26 (.tmp 6) (by rfl) w3.heap.size (by rfl) 26 #[.int .u64 1, .int .u64 1, .int .u64 1, .int .u64 1, .slice a3 0 c3] (0, 0) _ (HP3'.out _) Tryz.underlying26 (by rfl) HI3.out ?_)
  refine (fcheck_is ⟨1, 1, 1, 1, a3, 0, c3, xs3⟩ true _ ⟨HRS3.out.alloc _, by simp [Cw.base]⟩ (by rw [show Cw.c ⟨1, 1, 1, 1, a3, 0, c3, xs3⟩ = ⟨[1, 1, 1, 1], []⟩ from by unfold Cw.c; rw [show ruls _ = _ from HRU3.out]; rfl]; decide +kernel)).mono ?_
  rintro e w6 ⟨rfl, hb6⟩
  have HB6 : Hid (Below w.heap.size w w6) := (HBA _).out.trans (hb6.mono (HBA _).out.size)
  clear hb6 hp1 hp32 hstr heq
  go_wp2_with fail
  refine (fcheck_is ⟨18446744073709551615, 0, 0, 0, none, 0, 0, []⟩ false _ ⟨Rs.nil, by simp [Cw.base]⟩ (by decide +kernel)).mono ?_
  rintro e w7 ⟨rfl, hb7⟩
  have HB7 : Hid (Below w.heap.size w w7) := HB6.out.trans (hb7.mono HB6.out.size)
  clear hb7
  go_wp2
  go_ret
  exact ⟨rfl, HB7.out⟩

end Go.Proofs.YtjmabjeaodojeaaGreat
