/- Used by the law. -/
import Derived.Test.YtimjdlbhbiklgaaWalkFrom
import Derived.Test.YtimjdlbhbiklgaaPackP
import Derived.Test.YtimjdlbhbiklgaaPackJ
namespace Go.Proofs.Ytimjdlbhbiklgaa
open Go Go.RowKit Tri Wlk

set_option maxRecDepth 100000 in
theorem Sl.newJ {w : World} {t : TypeId} {B n m : Nat} (zs : List Int) (hw : ∀ z ∈ zs, (Lit.int .i64 z).wf = true) (hl : zs.length ≤ maxLen) (hB : B = w.heap.size) (hn : zs.length = n) (hm : zs.length = m) :
    Sl .i64 (w.alloc (.cells (zs.map (Value.int .i64)).toArray t)) (some ⟨B, 0, none⟩) n m zs := by
  subst hB hn hm
  refine ⟨rfl, Nat.le_refl _, hl, hw, .inr ⟨w.heap.size, 0, rfl, fun i hi => ?_⟩⟩
  rw [World.cell?_alloc_at _ _ _ _ (by rfl)]
  simp [hi]
theorem MadeIs.lay {w w' : World} {e : Ending} {l : List St} {er : Int} {n : Nat} (h : MadeIs w w' e (l, er)) (hn : l.length = n) :
    ∃ a c ys, e = .returned (.tuple #[.slice a n c, .int .i64 er]) ∧ Ss w' a n c ys ∧ sts ys = l ∧ Below w.heap.size w w' := by
  obtain ⟨a, m, c, ys, h1, h2, h3, h4, h5⟩ := h
  obtain rfl : m = n := by
    have h3' : sts ys = l := h3
    rw [← hn, ← h2.1, ← h3', sts_length]
  exact ⟨a, c, ys, h1, h2, h3, h5⟩
def aw12 : List St := [⟨false, [(97, 1), (98, 2), (99, 3)]⟩, ⟨true, []⟩, ⟨false, [(97, 4)]⟩, ⟨true, []⟩, ⟨true, []⟩]
set_option maxRecDepth 100000 in
theorem aw12_1 : made [[97], [98, 97], [99]] = (aw12, 0) := by
  unfold made
  rw [if_pos (by decide +kernel)]
  kernel_rfl

set_option maxHeartbeats 12800000 in
set_option maxRecDepth 100000 in
theorem awake_any (w : World) : Calls Try.prog 8 #[] w fun e w' => e = .returned (.bool true) ∧ Below w.heap.size w w' := by
  go_enter Try.func8, Try.ntmps8
  obtain ⟨W1, hW1⟩ : ∃ W, W = ((w.alloc (.cells #[.int .i64 97] 3)).alloc (.cells #[.int .i64 98, .int .i64 97] 3)).alloc (.cells #[.int .i64 99] 3) := ⟨_, rfl⟩
  have Sa : Sl .i64 W1 (some ⟨w.heap.size, 0, none⟩) 1 1 [97] := by rw [hW1]; exact ((Sl.newJ [97] (by decide) (by decide) rfl rfl rfl).alloc _).alloc _
  have Sb : Sl .i64 W1 (some ⟨w.heap.size + 1, 0, none⟩) 2 2 [98, 97] := by rw [hW1]; exact (Sl.newJ [98, 97] (by decide) (by decide) (by simp) rfl rfl).alloc _
  have Sc : Sl .i64 W1 (some ⟨w.heap.size + 1 + 1, 0, none⟩) 1 1 [99] := by rw [hW1]; exact Sl.newJ [99] (by decide) (by decide) (by simp) rfl rfl
  have hs1 : W1.heap.size = w.heap.size + 1 + 1 + 1 := by rw [hW1]; simp
  have b1 : Below w.heap.size w W1 := by rw [hW1]; exact (((Below.refl _ w).alloc (Nat.le_refl _) _).alloc (by simp) _).alloc (by simp; omega) _
  have WL1 : Hid (Ws (W1.alloc (.cells (vals [Wd.mk (some ⟨w.heap.size, 0, none⟩) 1 1 [97], Wd.mk (some ⟨w.heap.size + 1, 0, none⟩) 2 2 [98, 97], Wd.mk (some ⟨w.heap.size + 1 + 1, 0, none⟩) 1 1 [99]]).toArray 23)) (some ⟨w.heap.size + 1 + 1 + 1, 0, none⟩) 3 3 [Wd.mk (some ⟨w.heap.size, 0, none⟩) 1 1 [97], Wd.mk (some ⟨w.heap.size + 1, 0, none⟩) 2 2 [98, 97], Wd.mk (some ⟨w.heap.size + 1 + 1, 0, none⟩) 1 1 [99]]) := by
    refine Ws.newc _ ?_ (by show 3 ≤ maxLen; unfold maxLen; omega) hs1.symm rfl rfl
    intro x hx
    simp only [List.mem_cons, List.not_mem_nil, or_false] at hx
    rcases hx with rfl | rfl | rfl
    · exact Sa
    · exact Sb
    · exact Sc
  have BW1 : ∀ o, Hid (Below w.heap.size w (W1.alloc o)) := fun o => b1.alloc (by omega) o
  have HW1 := Lib.hid hW1
  clear Sa Sb Sc hs1 b1 hW1
  go_wp2_with fail
  refine (tmake_is (some ⟨w.heap.size + 1 + 1 + 1, 0, none⟩) 3 3 [Wd.mk (some ⟨w.heap.size, 0, none⟩) 1 1 [97], Wd.mk (some ⟨w.heap.size + 1, 0, none⟩) 2 2 [98, 97], Wd.mk (some ⟨w.heap.size + 1 + 1, 0, none⟩) 1 1 [99]] (aw12, 0) _ (by have h := WL1.out; rw [HW1.out] at h; exact h) (fun h => by cases h) aw12_1).mono ?_
  intro e w1 h1
  rw [← HW1.out] at h1
  obtain ⟨a1, c1, y1, rfl, hs1, hst1, hb1⟩ := h1.lay (n := 5) rfl
  have HB1 : Hid (Below w.heap.size w w1) := (BW1 _).out.trans (hb1.mono (BW1 _).out.size)
  have Y1 := Lib.hid hs1
  have T1 := Lib.hid hst1
  clear hb1 h1 hs1 hst1 WL1 BW1 HW1
  go_wp2_with fail
  refine (wfrom_is a1 _ 5 c1 1 1 y1 [98] 1 _ [[98, 97]] 0 (Y1.out.alloc _) (Sl.newJ [98] (by decide) (by decide) rfl rfl rfl) (fun h => by cases h) (by rw [T1.out]; kernel_rfl)).mono ?_
  rintro e w2 ⟨a2, k2, d2, o2, rfl, m2, n2, b2⟩
  have HQ : Hid (Below w1.heap.size w1 w2) := ((Below.refl _ w1).alloc (Nat.le_refl _) _).trans (b2.mono (by simp))
  have HB2 : Hid (Below w.heap.size w w2) := HB1.out.trans (HQ.out.mono HB1.out.size)
  have Y2 := Lib.hid (Y1.out.below HQ.out (Nat.le_refl _))
  have M2 := Lib.hid m2.words
  have N2 := Lib.hid n2
  clear m2 n2 b2 Y1 HQ
  simp only []
  go_wp2_with fail
  refine (wwords_is a1 5 c1 y1 _ [[97], [98, 97], [99]] 0 Y2.out (by rw [T1.out]; kernel_rfl)).mono ?_
  rintro e w3 ⟨a3, k3, d3, o3, rfl, m3, n3, b3⟩
  obtain rfl : k3 = 3 := by rw [← m3.len, ← nums_length, n3]; rfl
  have HQ : Hid (Below w2.heap.size w2 w3) := b3
  have HB3 : Hid (Below w.heap.size w w3) := HB2.out.trans (HQ.out.mono HB2.out.size)
  have Y3 := Lib.hid (Y2.out.below HQ.out (Nat.le_refl _))
  have M3 := Lib.hid (M2.out.below HQ.out (Nat.le_refl _))
  clear m3 n3 b3 Y2 HQ M2
  simp only []
  go_wp2_with fail
  refine (wwords_is none 0 0 [] _ [] 100 Ss.nil (by kernel_rfl)).mono ?_
  rintro e w4 ⟨a4, k4, d4, o4, rfl, -, -, b4⟩
  have HQ : Hid (Below w3.heap.size w3 w4) := b4
  have HB4 : Hid (Below w.heap.size w w4) := HB3.out.trans (HQ.out.mono HB3.out.size)
  have Y4 := Lib.hid (Y3.out.below HQ.out (Nat.le_refl _))
  have M4 := Lib.hid (M3.out.below HQ.out (Nat.le_refl _))
  clear b4 Y3 HQ M3
  simp only []
  go_wp2_with fail
  refine (wfrom_is a1 none 5 c1 0 0 y1 [] (-1) _ [] 1 Y4.out Sl.nil (fun _ => rfl) (by rw [T1.out]; kernel_rfl)).mono ?_
  rintro e w5 ⟨a5, k5, d5, o5, rfl, -, -, b5⟩
  have HQ : Hid (Below w4.heap.size w4 w5) := b5
  have HB5 : Hid (Below w.heap.size w w5) := HB4.out.trans (HQ.out.mono HB4.out.size)
  have Y5 := Lib.hid (Y4.out.below HQ.out (Nat.le_refl _))
  have M5 := Lib.hid (M4.out.below HQ.out (Nat.le_refl _))
  clear b5 Y4 HQ M4
  simp only []
  obtain ⟨W6, hW6⟩ : ∃ W, W = w5.alloc (.cells #[.int .i64 98, .int .i64 97] 3) := ⟨_, rfl⟩
  have hs6 : W6.heap.size = w5.heap.size + 1 := by rw [hW6]; simp
  have b6 : Below w5.heap.size w5 W6 := by rw [hW6]; exact (Below.refl _ w5).alloc (Nat.le_refl _) _
  have WL6 : Hid (Ws (W6.alloc (.cells (vals [Wd.mk (some ⟨w5.heap.size, 0, none⟩) 2 2 [98, 97]]).toArray 23)) (some ⟨w5.heap.size + 1, 0, none⟩) 1 1 [Wd.mk (some ⟨w5.heap.size, 0, none⟩) 2 2 [98, 97]]) := by
    refine Ws.newc _ ?_ (by show 1 ≤ maxLen; unfold maxLen; omega) hs6.symm rfl rfl
    intro x hx
    rw [List.mem_singleton.1 hx]
    show Sl .i64 W6 _ _ _ _
    rw [hW6]; exact Sl.newJ [98, 97] (by decide) (by decide) rfl rfl rfl
  have BW6 : ∀ o, Hid (Below w5.heap.size w5 (W6.alloc o)) := fun o => b6.alloc (by omega) o
  have HW6 := Lib.hid hW6
  clear hs6 b6 hW6
  go_wp2_with fail
  refine (sames_is a2 (some ⟨w5.heap.size + 1, 0, none⟩) k2 1 d2 1 o2 [Wd.mk (some ⟨w5.heap.size, 0, none⟩) 2 2 [98, 97]] true _ (by have h := M5.out.below (BW6 (.cells (vals [Wd.mk (some ⟨w5.heap.size, 0, none⟩) 2 2 [98, 97]]).toArray 23)).out (Nat.le_refl _); rw [HW6.out] at h; exact h) (by have h := WL6.out; rw [HW6.out] at h; exact h) (by rw [N2.out]; rfl)).mono ?_
  rintro e w6 ⟨rfl, hq6⟩
  have hq6' : Below w5.heap.size w5 w6 := by
    refine below_drawn ?_ hq6
    rw [← HW6.out]; exact (BW6 _).out
  have HB6 : Hid (Below w.heap.size w w6) := HB5.out.trans (hq6'.mono HB5.out.size)
  have Y6 := Lib.hid (Y5.out.below hq6' (Nat.le_refl _))
  clear hq6 hq6' WL6 BW6 HW6 M5 Y5 N2
  go_wp2_with fail
  refine (whas_is a1 _ 5 c1 1 1 y1 [99] _ true (Y6.out.alloc _) (Sl.newJ [99] (by decide) (by decide) rfl rfl rfl) (by rw [T1.out]; kernel_rfl)).mono ?_
  rintro e w7 ⟨rfl, b7⟩
  have HQ : Hid (Below w6.heap.size w6 w7) := ((Below.refl _ w6).alloc (Nat.le_refl _) _).trans (b7.mono (by simp))
  have HB7 : Hid (Below w.heap.size w w7) := HB6.out.trans (HQ.out.mono HB6.out.size)
  have Y7 := Lib.hid (Y6.out.below HQ.out (Nat.le_refl _))
  clear b7 Y6 HQ
  go_wp2_with fail
  refine (whas_is a1 _ 5 c1 1 1 y1 [98] _ false (Y7.out.alloc _) (Sl.newJ [98] (by decide) (by decide) rfl rfl rfl) (by rw [T1.out]; kernel_rfl)).mono ?_
  rintro e w8 ⟨rfl, b8⟩
  have HQ : Hid (Below w7.heap.size w7 w8) := ((Below.refl _ w7).alloc (Nat.le_refl _) _).trans (b8.mono (by simp))
  have HB8 : Hid (Below w.heap.size w w8) := HB7.out.trans (HQ.out.mono HB7.out.size)
  have Y8 := Lib.hid (Y7.out.below HQ.out (Nat.le_refl _))
  clear b8 Y7 HQ
  go_wp2_with fail
  refine (wmany_is a1 5 c1 y1 _ 3 Y8.out (by rw [T1.out]; kernel_rfl)).mono ?_
  rintro e w9 ⟨rfl, b9⟩
  have HQ : Hid (Below w8.heap.size w8 w9) := b9
  have HB9 : Hid (Below w.heap.size w w9) := HB8.out.trans (HQ.out.mono HB8.out.size)
  have Y9 := Lib.hid (Y8.out.below HQ.out (Nat.le_refl _))
  clear b9 Y8 HQ
  go_wp2_with fail
  refine (wdeep_is a1 5 c1 y1 _ 2 Y9.out (by rw [T1.out]; kernel_rfl)).mono ?_
  rintro e w10 ⟨rfl, b10⟩
  have HQ : Hid (Below w9.heap.size w9 w10) := b10
  have HB10 : Hid (Below w.heap.size w w10) := HB9.out.trans (HQ.out.mono HB9.out.size)
  have Y10 := Lib.hid (Y9.out.below HQ.out (Nat.le_refl _))
  clear b10 Y9 HQ
  go_wp2_with fail
  refine (wdeep_is none 0 0 [] _ (-1) Ss.nil (by kernel_rfl)).mono ?_
  rintro e w11 ⟨rfl, b11⟩
  have HQ : Hid (Below w10.heap.size w10 w11) := b11
  have HB11 : Hid (Below w.heap.size w w11) := HB10.out.trans (HQ.out.mono HB10.out.size)
  have Y11 := Lib.hid (Y10.out.below HQ.out (Nat.le_refl _))
  clear b11 HQ
  go_wp2
  go_ret
  exact ⟨rfl, HB11.out⟩

end Go.Proofs.Ytimjdlbhbiklgaa
