/- awake, the head of all laws of layer 3: it answers true. -/
import Derived.Test.YtooefnihmckinaaOrderWalkE
namespace Go.Proofs.Ytooefnihmckinaa
open Go.RowKit

theorem Sl.newcI {w : World} {t : TypeId} {B n m : Nat} (zs : List Int) (hw : ∀ z ∈ zs, (Lit.int .i64 z).wf = true) (hl : zs.length ≤ maxLen) (hB : B = w.heap.size) (hn : zs.length = n) (hm : zs.length = m) :
    Sl .i64 (w.alloc (.cells (i64s zs).toArray t)) (some ⟨B, 0, none⟩) n m zs := by
  subst hB hn hm
  refine ⟨rfl, Nat.le_refl _, hl, hw, .inr ⟨w.heap.size, 0, rfl, fun i hi => ?_⟩⟩
  rw [World.cell?_alloc_at _ _ _ _ (by rfl)]
  simp [i64s, hi]

def wd1 (B : Nat) (zs : List Int) : Wd := ⟨some ⟨B, 0, none⟩, zs.length, zs.length, zs⟩

set_option maxHeartbeats 1600000 in
set_option maxRecDepth 100000 in
theorem awake_any (w : World) : Calls Try.prog 9 #[] w fun e w' => e = .returned (.bool true) ∧ Below w.heap.size w w' := by
  obtain ⟨B, hB⟩ : ∃ B, B = w.heap.size := ⟨_, rfl⟩
  obtain ⟨W3, hW3⟩ : ∃ W3, W3 = ((w.alloc (.cells (i64s [97]).toArray 3)).alloc (.cells (i64s [97, 98]).toArray 3)).alloc (.cells (i64s [98]).toArray 3) := ⟨_, rfl⟩
  have Sa : Sl .i64 W3 (some ⟨w.heap.size, 0, none⟩) 1 1 [97] := by rw [hW3]; exact ((Sl.newcI [97] (by decide) (by decide) rfl rfl rfl).alloc _).alloc _
  have Sab : Sl .i64 W3 (some ⟨w.heap.size + 1, 0, none⟩) 2 2 [97, 98] := by rw [hW3]; exact (Sl.newcI [97, 98] (by decide) (by decide) (by simp) rfl rfl).alloc _
  have Sb : Sl .i64 W3 (some ⟨w.heap.size + 1 + 1, 0, none⟩) 1 1 [98] := by rw [hW3]; exact Sl.newcI [98] (by decide) (by decide) (by simp) rfl rfl
  have hs3 : W3.heap.size = w.heap.size + 1 + 1 + 1 := by rw [hW3]; simp
  have B3 : Below w.heap.size w W3 := by rw [hW3]; exact (((Below.refl _ w).alloc (Nat.le_refl _) _).alloc (by simp) _).alloc (by simp; omega) _
  have Wl : Ws (W3.alloc (.cells (vals [wd1 (w.heap.size + 1 + 1) [98], wd1 w.heap.size [97], wd1 (w.heap.size + 1) [97, 98], wd1 w.heap.size [97]]).toArray 23)) (some ⟨w.heap.size + 1 + 1 + 1, 0, none⟩) 4 4
      [wd1 (w.heap.size + 1 + 1) [98], wd1 w.heap.size [97], wd1 (w.heap.size + 1) [97, 98], wd1 w.heap.size [97]] := by
    refine Ws.newc _ ?_ (by show 4 ≤ maxLen; unfold maxLen; omega) hs3.symm rfl rfl
    intro x hx
    simp only [List.mem_cons, List.not_mem_nil, or_false] at hx
    rcases hx with rfl | rfl | rfl | rfl
    · exact Sb
    · exact Sa
    · exact Sab
    · exact Sa
  have hsh : Short [wd1 (w.heap.size + 1 + 1) [98], wd1 w.heap.size [97], wd1 (w.heap.size + 1) [97, 98], wd1 w.heap.size [97]] := by
    intro x hx
    simp only [List.mem_cons, List.not_mem_nil, or_false] at hx
    rcases hx with rfl | rfl | rfl | rfl <;> simp [wd1]
  have hnum : srt (nums [wd1 (w.heap.size + 1 + 1) [98], wd1 w.heap.size [97], wd1 (w.heap.size + 1) [97, 98], wd1 w.heap.size [97]]) = [[97], [97, 98], [98]] := by
    show srt [[98], [97], [97, 98], [97]] = _
    decide
  have SA := Lib.hid Sa
  have SAB := Lib.hid Sab
  have SB := Lib.hid Sb
  have HB3 := Lib.hid B3
  have WL := Lib.hid Wl
  have HSH := Lib.hid hsh
  have HN := Lib.hid hnum
  have HW := Lib.hid hW3
  have HS := Lib.hid hs3
  clear Sa Sab Sb B3 Wl hsh hnum hW3 hs3
  go_enter Try.func9, Try.ntmps9
  go_wp2_with fail
  have hS := sort_any _ 4 4 _ _ WL.out HSH.out (by omega)
  rw [HN.out] at hS
  have hS2 := hS.mono (R' := fun e w' => ∃ a' c' ys, e = .returned (.slice a' 3 c') ∧ Ws w' a' 3 c' ys ∧ Hid (nums ys = [[97], [97, 98], [98]]) ∧ Below w.heap.size w w' ∧ Sl .i64 w' (some ⟨w.heap.size, 0, none⟩) 1 1 [97] ∧ Sl .i64 w' (some ⟨w.heap.size + 1, 0, none⟩) 2 2 [97, 98] ∧ Sl .i64 w' (some ⟨w.heap.size + 1 + 1, 0, none⟩) 1 1 [98])
    (by
      intro e w' hh
      obtain ⟨a', m, c', ys, he, h1, h2, h3, h4, h5⟩ := hh
      have hm : m = 3 := by rw [← h1.1, ← nums_length, h2]; rfl
      subst hm
      exact ⟨a', c', ys, he, h1, h2, (HB3.out.alloc HB3.out.size _).trans (h5.mono (by have := HB3.out.size; simp; omega)), (SA.out.alloc _).below h5 (Nat.le_refl _), (SAB.out.alloc _).below h5 (Nat.le_refl _), (SB.out.alloc _).below h5 (Nat.le_refl _)⟩)
  have HS2 := Lib.hid hS2
  clear hS hS2
  have hS3 := HS2.out
  obtain rfl := HW.out
  refine hS3.mono ?_
  clear hS3 HS2 WL HSH HN HS SA SAB SB HB3 HW
  rintro e w2 ⟨a', c', ys, rfl, hys, HY, hb2, sa2, sab2, sb2⟩
  have HYS := Lib.hid hys
  have HR : Hid (Rise (nums ys)) := by show Rise _; rw [HY.out]; exact rise_srt [[98], [97], [97, 98], [97]]
  have SA2 := Lib.hid sa2
  have SAB2 := Lib.hid sab2
  have SB2 := Lib.hid sb2
  clear hys sa2 sab2 sb2
  go_wp2_with fail
  refine (find_is _ _ _ _ _ _ ys [98] 2 true _ HYS.out SB2.out HR.out (by rw [HY.out]; decide) (by rw [HY.out]; decide) (by omega)).mono ?_
  rintro e w4 ⟨rfl, hb4⟩
  have ys4 := HYS.out.below hb4 (Nat.le_refl _)
  have sa4 := SA2.out.below hb4 (Nat.le_refl _)
  have sab4 := SAB2.out.below hb4 (Nat.le_refl _)
  have sb4 := SB2.out.below hb4 (Nat.le_refl _)
  have hb24 := hb2.trans (hb4.mono hb2.size)
  have YS4 := Lib.hid ys4
  have SA4 := Lib.hid sa4
  have SAB4 := Lib.hid sab4
  have SB4 := Lib.hid sb4
  clear ys4 sa4 sab4 sb4 HYS SA2 SAB2 SB2 hb4 hb2
  go_wp2_with fail
  refine (find_is _ _ _ _ _ _ ys [97, 97] 1 false _ (YS4.out.alloc _) (Sl.newcI [97, 97] (by decide) (by decide) rfl rfl rfl) HR.out (by rw [HY.out]; decide) (by rw [HY.out]; decide) (by omega)).mono ?_
  rintro e w5 ⟨rfl, hb5⟩
  have ys5 := (YS4.out.alloc _).below hb5 (Nat.le_refl _)
  have sa5 := (SA4.out.alloc _).below hb5 (Nat.le_refl _)
  have sab5 := (SAB4.out.alloc _).below hb5 (Nat.le_refl _)
  have sb5 := (SB4.out.alloc _).below hb5 (Nat.le_refl _)
  have hb25 := (hb24.alloc hb24.size _).trans (hb5.mono (by have := hb24.size; simp; omega))
  have YS5 := Lib.hid ys5
  have SA5 := Lib.hid sa5
  have SAB5 := Lib.hid sab5
  have SB5 := Lib.hid sb5
  clear ys5 sa5 sab5 sb5 YS4 SA4 SAB4 SB4 hb5 hb24
  go_wp2_with fail
  refine (less_is _ _ _ _ _ _ [97] [97, 98] true _ SA5.out SAB5.out (by decide)).mono ?_
  rintro e w6 ⟨rfl, q1, rfl⟩
  go_wp2_with fail
  refine (less_is _ _ _ _ _ _ [97, 98] [98] true _ (SAB5.out.drewN _) (SB5.out.drewN _) (by decide)).mono ?_
  rintro e w6 ⟨rfl, q2, rfl⟩
  go_wp2_with fail
  refine (less_is _ _ _ _ _ _ [97] [97] false _ (SA5.out.drewN _) (SA5.out.drewN _) (by decide)).mono ?_
  rintro e w6 ⟨rfl, q3, hq3⟩
  have hq : ∃ q, w6 = w5.drewN q := ⟨q1 + q2 + q3, by rw [hq3, World.drewN_drewN]⟩
  have YS6 := Lib.hid (YS5.out.drawn hq)
  have SA6 := Lib.hid (SA5.out.drawn hq)
  have SAB6 := Lib.hid (SAB5.out.drawn hq)
  have SB6 := Lib.hid (SB5.out.drawn hq)
  have hb26 := below_drawn hb25 hq
  clear hq hq3 YS5 SA5 SAB5 SB5 hb25
  go_wp2_with fail
  refine (sames_is _ _ _ _ _ _ ys [wd1 w.heap.size [97], wd1 (w.heap.size + 1) [97, 98], wd1 (w.heap.size + 1 + 1) [98]] true _ (YS6.out.alloc _) (Ws.newc _ (by
    intro x hx
    simp only [List.mem_cons, List.not_mem_nil, or_false] at hx
    rcases hx with rfl | rfl | rfl
    · exact SA6.out
    · exact SAB6.out
    · exact SB6.out) (by show 3 ≤ maxLen; unfold maxLen; omega) rfl rfl rfl) (by rw [HY.out]; rfl)).mono ?_
  rintro e w7 ⟨rfl, hq7⟩
  have SA7 := Lib.hid ((SA6.out.alloc (.cells #[Value.slice (some ⟨w.heap.size, 0, none⟩) 1 1, Value.slice (some ⟨w.heap.size + 1, 0, none⟩) 2 2, Value.slice (some ⟨w.heap.size + 1 + 1, 0, none⟩) 1 1] 23)).drawn hq7)
  have SAB7 := Lib.hid ((SAB6.out.alloc (.cells #[Value.slice (some ⟨w.heap.size, 0, none⟩) 1 1, Value.slice (some ⟨w.heap.size + 1, 0, none⟩) 2 2, Value.slice (some ⟨w.heap.size + 1 + 1, 0, none⟩) 1 1] 23)).drawn hq7)
  have hb27 := below_drawn (hb26.alloc hb26.size (.cells #[Value.slice (some ⟨w.heap.size, 0, none⟩) 1 1, Value.slice (some ⟨w.heap.size + 1, 0, none⟩) 2 2, Value.slice (some ⟨w.heap.size + 1 + 1, 0, none⟩) 1 1] 23)) hq7
  clear hq7 hb26 SA6 SAB6 SB6 YS6
  go_wp2_with fail
  refine (common_is _ _ _ _ _ _ [97] [97, 98] 1 _ SA7.out SAB7.out (by decide)).mono ?_
  rintro e w8 ⟨rfl, q8, rfl⟩
  go_wp2
  go_ret
  exact ⟨rfl, below_drewN hb27 q8⟩

end Go.Proofs.Ytooefnihmckinaa
