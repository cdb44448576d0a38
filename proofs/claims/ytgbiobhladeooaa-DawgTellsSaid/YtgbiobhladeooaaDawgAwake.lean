/- awake of layer 11. Written by wip/gen/dawg_awake.py. -/
import Derived.Test.YtgbiobhladeooaaDawgProg
import Derived.Test.YtgbiobhladeooaaPackQ
import Derived.Test.YtgbiobhladeooaaPackO
namespace Go.Proofs.Ytgbiobhladeooaa
open Go Go.RowKit Tri Daw

set_option maxRecDepth 100000 in
theorem Sl.newJ {w : World} {t : TypeId} {B n m : Nat} (zs : List Int) (hw : ∀ z ∈ zs, (Lit.int .i64 z).wf = true) (hl : zs.length ≤ maxLen) (hB : B = w.heap.size) (hn : zs.length = n) (hm : zs.length = m) :
    Sl .i64 (w.alloc (.cells (zs.map (Value.int .i64)).toArray t)) (some ⟨B, 0, none⟩) n m zs := by
  subst hB hn hm
  refine ⟨rfl, Nat.le_refl _, hl, hw, .inr ⟨w.heap.size, 0, rfl, fun i hi => ?_⟩⟩
  rw [World.cell?_alloc_at _ _ _ _ (by rfl)]
  simp [hi]
set_option maxRecDepth 100000 in
theorem MadeIs.lay {w w' : World} {e : Ending} {l : List St} {er : Int} {n : Nat} (h : MadeIs w w' e (l, er)) (hn : l.length = n) :
    ∃ a c ys, e = .returned (.tuple #[.slice a n c, .int .i64 er]) ∧ Ss w' a n c ys ∧ sts ys = l ∧ Below w.heap.size w w' := by
  obtain ⟨a, m, c, ys, h1, h2, h3, h4, h5⟩ := h
  obtain rfl : m = n := by
    have h3' : sts ys = l := h3
    rw [← hn, ← h2.1, ← h3', sts_length]
  exact ⟨a, c, ys, h1, h2, h3, h5⟩
def aw11 : List St := [⟨false, [(97, 1), (98, 1)]⟩, ⟨false, [(99, 2)]⟩, ⟨true, []⟩]
set_option maxRecDepth 100000 in
theorem aw11_1 : dmade [[97, 99], [98, 99]] = (aw11, 0) := by
  unfold dmade
  rw [if_pos (by decide +kernel)]
  kernel_rfl
set_option maxRecDepth 100000 in
theorem aw11_2 : dmade [[98], [97]] = ([], 90) := by
  unfold dmade
  rw [if_neg (by decide +kernel), show (Wl.write [[98], [97]]).2 = 90 from by decide +kernel]

set_option maxHeartbeats 12800000 in
set_option maxRecDepth 100000 in
theorem awake_any (w : World) : Calls Try.prog 8 #[] w fun e w' => e = .returned (.bool true) ∧ Below w.heap.size w w' := by
  go_enter Try.func8, Try.ntmps8
  obtain ⟨W1, hW1⟩ : ∃ W, W = (w.alloc (.cells #[.int .i64 97, .int .i64 99] 3)).alloc (.cells #[.int .i64 98, .int .i64 99] 3) := ⟨_, rfl⟩
  have Sa : Sl .i64 W1 (some ⟨w.heap.size, 0, none⟩) 2 2 [97, 99] := by rw [hW1]; exact (Sl.newJ [97, 99] (by decide) (by decide) rfl rfl rfl).alloc _
  have Sb : Sl .i64 W1 (some ⟨w.heap.size + 1, 0, none⟩) 2 2 [98, 99] := by rw [hW1]; exact Sl.newJ [98, 99] (by decide) (by decide) (by simp) rfl rfl
  have hs1 : W1.heap.size = w.heap.size + 1 + 1 := by rw [hW1]; simp
  have b1 : Below w.heap.size w W1 := by rw [hW1]; exact ((Below.refl _ w).alloc (Nat.le_refl _) _).alloc (by simp) _
  have WL1 : Hid (Ws (W1.alloc (.cells (vals [Wd.mk (some ⟨w.heap.size, 0, none⟩) 2 2 [97, 99], Wd.mk (some ⟨w.heap.size + 1, 0, none⟩) 2 2 [98, 99]]).toArray 33)) (some ⟨w.heap.size + 1 + 1, 0, none⟩) 2 2 [Wd.mk (some ⟨w.heap.size, 0, none⟩) 2 2 [97, 99], Wd.mk (some ⟨w.heap.size + 1, 0, none⟩) 2 2 [98, 99]]) := by
    refine Ws.newc _ ?_ (by show 2 ≤ maxLen; unfold maxLen; omega) hs1.symm rfl rfl
    intro x hx
    simp only [List.mem_cons, List.not_mem_nil, or_false] at hx
    rcases hx with rfl | rfl
    · exact Sa
    · exact Sb
  have BW1 : ∀ o, Hid (Below w.heap.size w (W1.alloc o)) := fun o => b1.alloc (by omega) o
  have HW1 := Lib.hid hW1
  clear Sa Sb hs1 b1 hW1
  go_wp2_with fail
  refine (dmake_is (some ⟨w.heap.size + 1 + 1, 0, none⟩) 2 2 [Wd.mk (some ⟨w.heap.size, 0, none⟩) 2 2 [97, 99], Wd.mk (some ⟨w.heap.size + 1, 0, none⟩) 2 2 [98, 99]] (aw11, 0) _ (by have h := WL1.out; rw [HW1.out] at h; exact h) (fun h => by cases h) aw11_1).mono ?_
  intro e w1 h1
  rw [← HW1.out] at h1
  obtain ⟨a1, c1, y1, rfl, hs1, hst1, hb1⟩ := h1.lay (n := 3) rfl
  have HB1 : Hid (Below w.heap.size w w1) := (BW1 _).out.trans (hb1.mono (BW1 _).out.size)
  have Y1 := Lib.hid hs1
  have T1 := Lib.hid hst1
  clear hb1 h1 hs1 hst1 WL1 BW1 HW1
  obtain ⟨W2, hW2⟩ : ∃ W, W = (w1.alloc (.cells #[.int .i64 98] 3)).alloc (.cells #[.int .i64 97] 3) := ⟨_, rfl⟩
  have Sa : Sl .i64 W2 (some ⟨w1.heap.size, 0, none⟩) 1 1 [98] := by rw [hW2]; exact (Sl.newJ [98] (by decide) (by decide) rfl rfl rfl).alloc _
  have Sb : Sl .i64 W2 (some ⟨w1.heap.size + 1, 0, none⟩) 1 1 [97] := by rw [hW2]; exact Sl.newJ [97] (by decide) (by decide) (by simp) rfl rfl
  have hs2 : W2.heap.size = w1.heap.size + 1 + 1 := by rw [hW2]; simp
  have b2 : Below w1.heap.size w1 W2 := by rw [hW2]; exact ((Below.refl _ w1).alloc (Nat.le_refl _) _).alloc (by simp) _
  have WL2 : Hid (Ws (W2.alloc (.cells (vals [Wd.mk (some ⟨w1.heap.size, 0, none⟩) 1 1 [98], Wd.mk (some ⟨w1.heap.size + 1, 0, none⟩) 1 1 [97]]).toArray 33)) (some ⟨w1.heap.size + 1 + 1, 0, none⟩) 2 2 [Wd.mk (some ⟨w1.heap.size, 0, none⟩) 1 1 [98], Wd.mk (some ⟨w1.heap.size + 1, 0, none⟩) 1 1 [97]]) := by
    refine Ws.newc _ ?_ (by show 2 ≤ maxLen; unfold maxLen; omega) hs2.symm rfl rfl
    intro x hx
    simp only [List.mem_cons, List.not_mem_nil, or_false] at hx
    rcases hx with rfl | rfl
    · exact Sa
    · exact Sb
  have BW2 : ∀ o, Hid (Below w1.heap.size w1 (W2.alloc o)) := fun o => b2.alloc (by omega) o
  have HW2 := Lib.hid hW2
  clear Sa Sb hs2 b2 hW2
  go_wp2_with fail
  refine (dmake_is (some ⟨w1.heap.size + 1 + 1, 0, none⟩) 2 2 [Wd.mk (some ⟨w1.heap.size, 0, none⟩) 1 1 [98], Wd.mk (some ⟨w1.heap.size + 1, 0, none⟩) 1 1 [97]] ([], 90) _ (by have h := WL2.out; rw [HW2.out] at h; exact h) (fun h => by cases h) aw11_2).mono ?_
  intro e w4 h4
  rw [← HW2.out] at h4
  obtain ⟨a4, c4, y4, rfl, -, -, hb4⟩ := h4.lay (n := 0) rfl
  have HB14 : Hid (Below w1.heap.size w1 w4) := (BW2 _).out.trans (hb4.mono (BW2 _).out.size)
  have HB4 : Hid (Below w.heap.size w w4) := HB1.out.trans (HB14.out.mono HB1.out.size)
  have Y4 := Lib.hid (Y1.out.below HB14.out (Nat.le_refl _))
  clear hb4 h4 Y1 HB14 WL2 BW2 HW2
  obtain ⟨b, o, f0, s0, n0, d0, r0, hab, -, hf0, hs0, har0, hg0⟩ := Y4.out.one 0 (by omega)
  obtain ⟨b', o', f1, s1, n1, d1, r1, hab1, -, hf1, -, -, hg1⟩ := Y4.out.one 1 (by omega)
  obtain ⟨b'', o'', f2, s2, n2, d2, r2, hab2, -, hf2, -, -, hg2⟩ := Y4.out.one 2 (by omega)
  subst hab
  cases hab1
  cases hab2
  have e0 : (sts y1).getD 0 St.no = ⟨f0, r0⟩ := by rw [sts_at, hg0]; rfl
  have e1 : (sts y1).getD 1 St.no = ⟨f1, r1⟩ := by rw [sts_at, hg1]; rfl
  have e2 : (sts y1).getD 2 St.no = ⟨f2, r2⟩ := by rw [sts_at, hg2]; rfl
  rw [T1.out] at e0 e1 e2
  cases e0
  cases e1
  cases e2
  obtain rfl : n0 = 2 := by rw [← har0.1]; rfl
  obtain ⟨qb, qo, q0, t0, hq, -, -, hqt0, -, -, hqz0⟩ := har0.one 0 (by omega)
  obtain ⟨qb', qo', q1, t1, hq', -, -, hqt1, -, -, hqz1⟩ := har0.one 1 (by omega)
  subst hq
  cases hq'
  cases hqz0
  cases hqz1
  simp only [Nat.zero_mul, Nat.add_zero, Nat.one_mul, Nat.reduceMul] at hf0 hs0 hf1 hf2 hqt0 hqt1
  clear hg0 hg1 hg2 har0
  go_wp2_with fail
  refine (dleast_is _ 3 c1 y1 true _ Y4.out (by rw [T1.out]; kernel_rfl)).mono ?_
  rintro e w5 ⟨rfl, hb5⟩
  have HB5 : Hid (Below w.heap.size w w5) := HB4.out.trans (hb5.mono HB4.out.size)
  clear hb5 hf0 hf1 hf2 hs0 hqt0 hqt1
  go_wp2_with fail
  refine (dleast_is none 0 0 [] false _ Ss.nil (by kernel_rfl)).mono ?_
  rintro e w6 ⟨rfl, hb6⟩
  have HB6 : Hid (Below w.heap.size w w6) := HB5.out.trans (hb6.mono HB5.out.size)
  clear hb6
  have HSS : ∀ t' : TypeId, Hid (Ss (w6.alloc (.cells #[.bool false, .slice none 0 0, .bool false, .slice none 0 0] t')) (some ⟨w6.heap.size, 0, none⟩) 2 2 [Sw.no, Sw.no]) := fun t' => by
    refine ⟨rfl, Nat.le_refl _, by unfold maxLen; omega, fun x hx => ?_, .inr ⟨_, 0, rfl, fun i hi => ?_⟩⟩
    · simp only [List.mem_cons, List.not_mem_nil, or_false, or_self] at hx
      rw [hx]; exact Sw.no_good _
    · have hn := heap_alloc_new w6 (.cells #[.bool false, .slice none 0 0, .bool false, .slice none 0 0] t')
      rcases (by omega : i = 0 ∨ i = 1) with rfl | rfl
      · refine ⟨?_, ?_⟩ <;> (simp only [World.cell?]; rw [hn]; rfl)
      · refine ⟨?_, ?_⟩ <;> (simp only [World.cell?]; rw [hn]; rfl)
  go_wp2_with fail
  refine (dleast_is (some ⟨w6.heap.size, 0, none⟩) 2 2 [Sw.no, Sw.no] false _ (HSS _).out (by kernel_rfl)).mono ?_
  rintro e w7 ⟨rfl, hb7⟩
  have HB7 : Hid (Below w.heap.size w w7) := (HB6.out.alloc HB6.out.size _).trans (hb7.mono (by have := HB6.out.size; simp; omega))
  clear hb7 HSS
  go_wp2
  go_ret
  exact ⟨rfl, HB7.out⟩

end Go.Proofs.Ytgbiobhladeooaa
