/- For every list of words, and every list of numbers, OrderPuts answers true, and turns nothing that was there. No condition. -/
import Derived.Test.YtooefnihmckinaaRows
import Derived.Test.YtooefnihmckinaaOrderAwake
import Derived.Test.YtooefnihmckinaaOrderRefB
import Derived.Deep.RegionHeld3
import Derived.WalkKit
import Derived.ProofKit
import Derived.OpenShut
import Derived.ShutString
import Derived.ChangeOld
import Derived.Below
import Derived.Deep.Matrix
namespace Go.Proofs.Ytooefnihmckinaa.orderPuts
open Go.ChangeShapes Go.WideShapes Go.ChangeAt Go.RowKit
set_option linter.unusedVariables false

theorem own : ownKnob Try.prog.godebug = none := by kernel_rfl
theorem laidOut : laidOutB Try.prog = true := by kernel_rfl

/-- a slice of integers that came in -/
def IsRow (k : IntKind) (w : World) (a : Option Addr) (len cap : Nat) (zs : List Int) : Prop :=
  (a = none ∧ len = 0 ∧ cap = 0 ∧ zs = []) ∨
  ∃ x, a = some x ∧ len ≤ cap ∧ cap ≤ maxLen ∧ zs.length = cap ∧ (∀ i, i < zs.length → w.cell? (x.add i) = some (.int k (zs.getD i 0))) ∧ ∀ n ∈ zs, (Lit.int k n).wf = true

theorem puts_ws {w8 w11 : World} {sa a : Option Addr} {sm sc k N c B : Nat} {z : Wd} {ys rest : List Wd} (hown : w11.ownsRow B 23 1 (.slice a N c) N (vals (ys.take k ++ [z] ++ rest))) (hr : rest = ys.drop k)
    (hy : Ws w8 sa sm sc ys) (hz : z.Good w8) (hb : Below w8.heap.size w8 w11) : Ws w11 a N c (ys.take k ++ [z] ++ ys.drop k) := by
  subst hr
  have hN : (ys.take k ++ [z] ++ ys.drop k).length = N := by
    have := hown.1
    rw [vals_length] at this
    omega
  refine Ws.of_owns hown (fun x hx => ?_) hN
  rcases List.mem_append.1 hx with hx | hx
  · rcases List.mem_append.1 hx with hx | hx
    · exact (hy.2.2.2.1 x (List.mem_of_mem_take hx)).below hb (Nat.le_refl _)
    · simp only [List.mem_singleton] at hx
      subst hx
      exact hz.below hb (Nat.le_refl _)
  · exact (hy.2.2.2.1 x (List.mem_of_mem_drop hx)).below hb (Nat.le_refl _)

/-! ### STEP 1: the walk -/
set_option maxRecDepth 100000 in
set_option maxHeartbeats 6000000 in
theorem walk (a0 : Option Addr) (len0 cap0 : Nat) (x0 : List Wd) (a1 : Option Addr) (len1 cap1 : Nat) (z1 : List Int) (w : World) (w0 : Ws w a0 len0 cap0 x0) (n0 : a0 = none → cap0 = 0) (w1 : IsRow .i64 w a1 len1 cap1 z1) :
    Calls Try.prog 8 #[.slice a0 len0 cap0, .slice a1 len1 cap1] w fun e w' => e = .returned (.bool true) ∧ Below w.heap.size w w' := by
  have hcm0 := w0.2.2.1
  have hnc0 := w0.2.1
  unfold maxLen at hcm0
  have HX := Lib.hid w0
  have HN0 := Lib.hid n0
  clear w0 n0
  have hs1 := Sl.of_row w1
  generalize z1.take len1 = zs at hs1
  have hcm1 := hs1.2.2.1
  have hnc1 := hs1.2.1
  unfold maxLen at hcm1
  have HS := Lib.hid hs1
  clear hs1 w1
  obtain ⟨k, hk⟩ : ∃ k, cnt (srt (nums x0)) zs = k := ⟨_, rfl⟩
  have HK := Lib.hid hk
  clear hk
  go_enter Try.func8, Try.ntmps8
  go_wp2_with fail
  refine (awake_any _).mono ?_
  rintro e w3 ⟨rfl, B1⟩
  have X1 := Lib.hid (HX.out.below B1 (Nat.le_refl _))
  have S1 := Lib.hid (HS.out.below B1 (Nat.le_refl _))
  go_wp2_with fail
  refine (few_any _ _ _ _ _ X1.out).mono ?_
  rintro e w4 ⟨he, rfl⟩
  rcases he with rfl | ⟨rfl, hshort, hn200⟩
  · go_wp2
    go_ret
    exact ⟨rfl, B1⟩
  have HSH := Lib.hid hshort
  clear hshort
  by_cases h1 : 100 < len1
  · have hi1 : (100 : Int) < (len1 : Int) := by omega
    go_wp2
    go_ret
    exact ⟨rfl, B1⟩
  have hi1 : decide ((100 : Int) < (len1 : Int)) = false := by simp; omega
  go_wp2_with fail
  refine (sort_any _ _ _ x0 _ X1.out HSH.out (by omega)).mono ?_
  rintro e w4 ⟨sa, sm, sc, ys, rfl, hys, hnum, hform, hysh, hb4⟩
  have YS4 := Lib.hid hys
  have HNUM := Lib.hid hnum
  have HFM := Lib.hid hform
  have X4 := Lib.hid (X1.out.below hb4 (Nat.le_refl _))
  have S4 := Lib.hid (S1.out.below hb4 (Nat.le_refl _))
  have B4 := B1.trans (hb4.mono B1.size)
  have hsm : sm ≤ len0 := by rw [← hys.1, ← nums_length, hnum]; have := srt_length (nums x0); rw [nums_length, HX.out.1] at this; exact this
  have hscm := hys.2.2.1
  have hsnc := hys.2.1
  unfold maxLen at hscm
  have hkm : k ≤ sm := by rw [← HK.out, ← hys.1, ← nums_length, hnum]; exact cnt_le _ _
  clear hys hnum hform hysh hb4
  go_wp2_with (first
    | (at_builtin; refine append_words rfl (.tmp 22) (.tmp 23) (by rfl) w4.heap.size _ 0 [] (by rfl) (owns0 w4) a0 len0 cap0 x0 (by rfl) (X4.out.alloc _) HN0.out len0 (by omega) (by omega) (by simp) ?_; intro a5 c5 w5 hown5 hb5 hnil5; simp only [List.nil_append] at hown5; have hb45 : Below w4.heap.size w4 w5 := ((Below.refl _ w4).alloc (Nat.le_refl _) _).trans hb5; have hz5 := hb45.size; have S5 := S4.out.below hb45 (Nat.le_refl _))
    | (at_builtin; refine append_words rfl (.tmp 24) (.tmp 26) (by rfl) w4.heap.size _ len0 x0 (by rfl) (hown5.alloc _) (some ⟨w5.heap.size, 0, none⟩) 1 1 [⟨a1, len1, cap1, zs⟩] (by rfl) (Ws.newc _ (by intro x hx; simp only [List.mem_singleton] at hx; subst hx; exact S5) (by show 1 ≤ maxLen; unfold maxLen; omega) rfl rfl rfl) (fun h => by cases h) (len0 + 1) (by rfl) (by omega) (by simp; omega) ?_; intro a6 c6 w6 hown6 hb6 hnil6; have hb46 : Below w4.heap.size w4 w6 := (hb45.alloc hz5 _).trans hb6)
    | fail)
  have hW6 : Ws w6 a6 (len0 + 1) c6 (x0 ++ [⟨a1, len1, cap1, zs⟩]) := Ws.of_owns hown6 (fun x hx => by
    rcases List.mem_append.1 hx with hx | hx
    · exact (X4.out.2.2.2.1 x hx).below hb46 (Nat.le_refl _)
    · simp only [List.mem_singleton] at hx
      subst hx
      exact S4.out.below hb46 (Nat.le_refl _)) (by rw [List.length_append, HX.out.1]; rfl)
  have hS6 : Short (x0 ++ [⟨a1, len1, cap1, zs⟩]) := HSH.out.snoc (by show len1 ≤ 100; omega)
  have YS6 := Lib.hid (YS4.out.below hb46 (Nat.le_refl _))
  have WZ6 := Lib.hid (S4.out.below hb46 (Nat.le_refl _))
  have B6 := B4.trans (hb46.mono B4.size)
  refine (sort_any _ _ _ _ _ hW6 hS6 (by omega)).mono ?_
  rintro e w7 ⟨ma, mm, mc, ms, rfl, hms, hmn, _, _, hb7⟩
  rw [nums_app, show nums [(⟨a1, len1, cap1, zs⟩ : Wd)] = [zs] from rfl, srt_snoc, ← HNUM.out] at hmn
  have MO7 := Lib.hid hms
  have HMS := Lib.hid hmn
  have YS7 := Lib.hid (YS6.out.below hb7 (Nat.le_refl _))
  have WZ7 := Lib.hid (WZ6.out.below hb7 (Nat.le_refl _))
  have B7 := B6.trans (hb7.mono B6.size)
  have HR : Hid (Rise (nums ys)) := by show Rise _; rw [HNUM.out]; exact rise_srt _
  have HKY : Hid (cnt (nums ys) zs = k) := by show _ = _; rw [HNUM.out]; exact HK.out
  clear hown5 hown6 hb5 hb6 hb45 hb46 hz5 S5 hW6 hS6 hms hmn hb7 hnil5 hnil6 YS4 YS6 WZ6 X4 S4 X1 S1 B1 B4 B6
  cases hr : decide (zs ∈ nums ys)
  · have HRR := Lib.hid hr
    have HIN := Lib.hid (ins_not hr HKY.out)
    clear hr
    go_wp2_with fail
    refine (find_is _ _ _ _ _ _ ys zs k false _ YS7.out WZ7.out HR.out HKY.out HRR.out (by omega)).mono ?_
    rintro e w8 ⟨rfl, hb8⟩
    have YS := Lib.hid (YS7.out.below hb8 (Nat.le_refl _))
    have WZ : Hid (Wd.Good w8 ⟨a1, len1, cap1, zs⟩) := WZ7.out.below hb8 (Nat.le_refl _)
    have MO := Lib.hid (MO7.out.below hb8 (Nat.le_refl _))
    have B8 : Hid (Below w.heap.size w w8) := B7.trans (hb8.mono B7.size)
    have bel1 : ∀ o, Below w8.heap.size w8 (w8.alloc o) := fun o => (Below.refl _ w8).alloc (Nat.le_refl _) o
    have bel2 : ∀ o o', Below w8.heap.size w8 ((w8.alloc o).alloc o') := fun o o' => ((Below.refl _ w8).alloc (Nat.le_refl _) o).alloc (by simp) o'
    have BEL1 := Lib.hid bel1
    have BEL2 := Lib.hid bel2
    clear hb8 bel1 bel2 YS7 WZ7 MO7 B7
    have hk0 : ¬ (k : Int) < 0 := by omega
    have hk1 : decide ((k : Int) < 0) = false := by simp
    have hk2 : decide ((sm : Int) < (k : Int)) = false := by simp; omega
    have hk3 : ¬ (sm : Int) < (k : Int) := by omega
    have hkL1 : (k : Int) ≤ (sm : Int) := by omega
    have hkL2 : (0 : Int) ≤ (k : Int) := by omega
    have hkc3 : (k : Int) ≤ (sc : Int) := by omega
    have hkc4 : k ≤ sc := by omega
    have hLc1 : (sm : Int) ≤ (sc : Int) := by omega
    rcases HFM.out with ⟨rfl, rfl⟩ | ⟨g, rfl⟩
    · obtain rfl : sm = 0 := by omega
      obtain rfl : k = 0 := by omega
      have REST : Hid (([] : List Wd) = ys.drop 0) := (List.eq_nil_of_length_eq_zero (by have := YS.out.1; rw [List.length_drop]; omega) : ys.drop 0 = []).symm
      go_wp2
      go_region_held3 (fun _ => True) (trivial) (first
        | (refine step_append_words (w0 := w8) (by rfl) (.tmp 53) (.tmp 56) (by rfl) w8.heap.size _ 0 [] (by rfl) (by first | exact owns0 w8 | exact (owns0 w8).alloc _ | exact owns1 w8 _) none 0 0 (ys.take 0) (by rfl) (by first | exact (YS.out.first 0 (Nat.le_refl _)).alloc _ | exact ((YS.out.first 0 (Nat.le_refl _)).alloc _).alloc _) (fun _ => rfl) 0 (by omega) (by omega) (Nat.le_refl _) (by first | exact Below.like (BEL1.out _) rfl rfl rfl rfl | exact Below.like (BEL2.out _ _) rfl rfl rfl rfl) ?_; intro a9 c9 w9 hown9 hgrow9 hb9 hf9; simp only [List.nil_append] at hown9)
        | (refine step_append_one (w0 := w8) (by rfl) (.tmp 57) (.tmp 59) (by rfl) w8.heap.size _ 0 (ys.take 0) (by rfl) (by first | exact hown9 | exact hown9.alloc _) _ ⟨a1, len1, cap1, zs⟩ (by rfl) (by first | exact cell_new_sl w9 _ _ | exact World.grownBy.cell hgrow9 (cell_second w8 ⟨a1, len1, cap1, zs⟩ _) (fun h => by have h' : some (w8.heap.size + 1) = some w8.heap.size := h; simp at h') | exact World.grownBy.cell hgrow9 (cell_first w8 ⟨a1, len1, cap1, zs⟩ _) (fun h => by have h' : some w8.heap.size = some (w8.heap.size + 1) := h; simp at h')) (0 + 1) (by rfl) (by omega) (Nat.le_refl _) (by first | exact Below.like hb9 rfl rfl rfl rfl | exact Below.like (hb9.alloc hb9.size _) rfl rfl rfl rfl) ?_; intro a10 c10 w10 hown10 hgrow10 hb10 hf10)
        | (refine step_append_words (w0 := w8) (by rfl) (.tmp 60) (.tmp 63) (by rfl) w8.heap.size _ (0 + 1) (ys.take 0 ++ [⟨a1, len1, cap1, zs⟩]) (by rfl) (by exact hown10) none 0 0 [] (by rfl) (by exact ((Ws.nil : Ws w8 none 0 0 [])).below hb10 (Nat.le_refl _)) (fun _ => rfl) (0 + 1) (by omega) (by omega) (Nat.le_refl _) (by exact Below.like hb10 rfl rfl rfl rfl) ?_; intro a11 c11 w11 hown11 hgrow11 hb11 hf11)
        | (go_at_call 15; refine (sames_is _ _ _ _ _ _ ms (ys.take 0 ++ [⟨a1, len1, cap1, zs⟩] ++ ys.drop 0) true _ (by exact MO.out.below hb11 (Nat.le_refl _)) (by exact puts_ws hown11 (by first | exact REST.out | rfl) YS.out WZ.out hb11) (by rw [HMS.out, HIN.out]; simp [nums, List.map_take, List.map_drop])).mono ?_; rintro e w12 ⟨rfl, hq12⟩))
      all_goals
        have B12 : Below w.heap.size w w12 := below_drawn (B8.out.trans (hb11.mono B8.out.size)) hq12
        clear hown9 hown10 hown11 hgrow9 hgrow10 hgrow11 hb9 hb10 hb11 hf9 hf10 hf11 hq12
        go_wp2
        go_ret
        exact ⟨by first | rfl | simp, B12⟩
    · by_cases hkc : k = sc
      · subst hkc
        obtain rfl : k = sm := by omega
        have REST : Hid (([] : List Wd) = ys.drop k) := (List.eq_nil_of_length_eq_zero (by have := YS.out.1; rw [List.length_drop]; omega) : ys.drop k = []).symm
        go_wp2
        go_region_held3 (fun _ => True) (trivial) (first
          | (refine step_append_words (w0 := w8) (by rfl) (.tmp 53) (.tmp 56) (by rfl) w8.heap.size _ 0 [] (by rfl) (by first | exact owns0 w8 | exact (owns0 w8).alloc _ | exact owns1 w8 _) (some ⟨g, 0, none⟩) k k (ys.take k) (by rfl) (by first | exact (YS.out.first k (Nat.le_refl _)).alloc _ | exact ((YS.out.first k (Nat.le_refl _)).alloc _).alloc _) (fun h => by cases h) k (by omega) (by omega) (Nat.le_refl _) (by first | exact Below.like (BEL1.out _) rfl rfl rfl rfl | exact Below.like (BEL2.out _ _) rfl rfl rfl rfl) ?_; intro a9 c9 w9 hown9 hgrow9 hb9 hf9; simp only [List.nil_append] at hown9)
          | (refine step_append_one (w0 := w8) (by rfl) (.tmp 57) (.tmp 59) (by rfl) w8.heap.size _ k (ys.take k) (by rfl) (by first | exact hown9 | exact hown9.alloc _) _ ⟨a1, len1, cap1, zs⟩ (by rfl) (by first | exact cell_new_sl w9 _ _ | exact World.grownBy.cell hgrow9 (cell_second w8 ⟨a1, len1, cap1, zs⟩ _) (fun h => by have h' : some (w8.heap.size + 1) = some w8.heap.size := h; simp at h') | exact World.grownBy.cell hgrow9 (cell_first w8 ⟨a1, len1, cap1, zs⟩ _) (fun h => by have h' : some w8.heap.size = some (w8.heap.size + 1) := h; simp at h')) (k + 1) (by rfl) (by omega) (Nat.le_refl _) (by first | exact Below.like hb9 rfl rfl rfl rfl | exact Below.like (hb9.alloc hb9.size _) rfl rfl rfl rfl) ?_; intro a10 c10 w10 hown10 hgrow10 hb10 hf10)
          | (refine step_append_words (w0 := w8) (by rfl) (.tmp 60) (.tmp 63) (by rfl) w8.heap.size _ (k + 1) (ys.take k ++ [⟨a1, len1, cap1, zs⟩]) (by rfl) (by exact hown10) _ 0 _ [] (by rfl) (by exact ((Ws.empty (by unfold maxLen; omega) : Ws w8 _ 0 _ [])).below hb10 (Nat.le_refl _)) (fun h => by cases h) (k + 1) (by omega) (by omega) (Nat.le_refl _) (by exact Below.like hb10 rfl rfl rfl rfl) ?_; intro a11 c11 w11 hown11 hgrow11 hb11 hf11)
          | (go_at_call 15; refine (sames_is _ _ _ _ _ _ ms (ys.take k ++ [⟨a1, len1, cap1, zs⟩] ++ ys.drop k) true _ (by exact MO.out.below hb11 (Nat.le_refl _)) (by exact puts_ws hown11 (by first | exact REST.out | rfl) YS.out WZ.out hb11) (by rw [HMS.out, HIN.out]; simp [nums, List.map_take, List.map_drop])).mono ?_; rintro e w12 ⟨rfl, hq12⟩))
        all_goals
          have B12 : Below w.heap.size w w12 := below_drawn (B8.out.trans (hb11.mono B8.out.size)) hq12
          clear hown9 hown10 hown11 hgrow9 hgrow10 hgrow11 hb9 hb10 hb11 hf9 hf10 hf11 hq12
          go_wp2
          go_ret
          exact ⟨by first | rfl | simp, B12⟩
      · have hkc1 : k < sc := by omega
        have hkc2 : ¬ (k : Int) = (sc : Int) := by omega
        have hkc5 : ¬ sc = k := by omega
        have hkc6 : ¬ (sc : Int) = (k : Int) := by omega
        have REST : Hid (ys.drop k = ys.drop k) := rfl
        have HD : Hid (∀ W, Ws W (some ⟨g, 0, none⟩) sm sc ys → Ws W (some ⟨g, k, none⟩) (sm - k) (sc - k) (ys.drop k)) := by
          intro W hW
          have h := hW.piece k (sm - k) (by omega)
          rw [Nat.zero_add, List.take_of_length_le (by have := hW.1; simp; omega)] at h
          exact h
        go_wp2
        go_region_held3 (fun _ => True) (trivial) (first
          | (refine step_append_words (w0 := w8) (by rfl) (.tmp 53) (.tmp 56) (by rfl) w8.heap.size _ 0 [] (by rfl) (by first | exact owns0 w8 | exact (owns0 w8).alloc _ | exact owns1 w8 _) (some ⟨g, 0, none⟩) k sc (ys.take k) (by rfl) (by first | exact (YS.out.first k hkm).alloc _ | exact ((YS.out.first k hkm).alloc _).alloc _) (fun h => by cases h) k (by omega) (by omega) (Nat.le_refl _) (by first | exact Below.like (BEL1.out _) rfl rfl rfl rfl | exact Below.like (BEL2.out _ _) rfl rfl rfl rfl) ?_; intro a9 c9 w9 hown9 hgrow9 hb9 hf9; simp only [List.nil_append] at hown9)
          | (refine step_append_one (w0 := w8) (by rfl) (.tmp 57) (.tmp 59) (by rfl) w8.heap.size _ k (ys.take k) (by rfl) (by first | exact hown9 | exact hown9.alloc _) _ ⟨a1, len1, cap1, zs⟩ (by rfl) (by first | exact cell_new_sl w9 _ _ | exact World.grownBy.cell hgrow9 (cell_second w8 ⟨a1, len1, cap1, zs⟩ _) (fun h => by have h' : some (w8.heap.size + 1) = some w8.heap.size := h; simp at h') | exact World.grownBy.cell hgrow9 (cell_first w8 ⟨a1, len1, cap1, zs⟩ _) (fun h => by have h' : some w8.heap.size = some (w8.heap.size + 1) := h; simp at h')) (k + 1) (by rfl) (by omega) (Nat.le_refl _) (by first | exact Below.like hb9 rfl rfl rfl rfl | exact Below.like (hb9.alloc hb9.size _) rfl rfl rfl rfl) ?_; intro a10 c10 w10 hown10 hgrow10 hb10 hf10)
          | (refine step_append_words (w0 := w8) (by rfl) (.tmp 60) (.tmp 63) (by rfl) w8.heap.size _ (k + 1) (ys.take k ++ [⟨a1, len1, cap1, zs⟩]) (by rfl) (by exact hown10) (some ⟨g, k, none⟩) (sm - k) (sc - k) (ys.drop k) (by rfl) (by exact (HD.out _ YS.out).below hb10 (Nat.le_refl _)) (fun h => by cases h) (sm + 1) (by omega) (by omega) (Nat.le_refl _) (by exact Below.like hb10 rfl rfl rfl rfl) ?_; intro a11 c11 w11 hown11 hgrow11 hb11 hf11)
          | (go_at_call 15; refine (sames_is _ _ _ _ _ _ ms (ys.take k ++ [⟨a1, len1, cap1, zs⟩] ++ ys.drop k) true _ (by exact MO.out.below hb11 (Nat.le_refl _)) (by exact puts_ws hown11 (by first | exact REST.out | rfl) YS.out WZ.out hb11) (by rw [HMS.out, HIN.out]; simp [nums, List.map_take, List.map_drop])).mono ?_; rintro e w12 ⟨rfl, hq12⟩))
        all_goals
          have B12 : Below w.heap.size w w12 := below_drawn (B8.out.trans (hb11.mono B8.out.size)) hq12
          clear hown9 hown10 hown11 hgrow9 hgrow10 hgrow11 hb9 hb10 hb11 hf9 hf10 hf11 hq12
          go_wp2
          go_ret
          exact ⟨by first | rfl | simp, B12⟩
  · have HRR := Lib.hid hr
    have HIN := Lib.hid (ins_is hr)
    clear hr
    go_wp2_with fail
    refine (find_is _ _ _ _ _ _ ys zs k true _ YS7.out WZ7.out HR.out HKY.out HRR.out (by omega)).mono ?_
    rintro e w8 ⟨rfl, hb8⟩
    have YS8 := Lib.hid (YS7.out.below hb8 (Nat.le_refl _))
    have MO8 := Lib.hid (MO7.out.below hb8 (Nat.le_refl _))
    have B8 := B7.trans (hb8.mono B7.size)
    clear hb8
    go_wp2_with fail
    refine (sames_is _ _ _ _ _ _ ms ys true _ MO8.out YS8.out (by rw [HMS.out, HIN.out]; simp)).mono ?_
    rintro e w9 ⟨rfl, hq9⟩
    have B9 := below_drawn B8 hq9
    clear hq9
    go_wp2
    go_ret
    exact ⟨by first | rfl | simp, B9⟩

set_option maxRecDepth 100000 in
theorem lifted (os : Os) (started : os.Started) (H : Type) (enc : TypeId × Value → H) :
    ReturnsInHanded {} Try.checked os 8 .any (Rows.orderPutsSpec.pre6 enc Try.prog Try.f8 Rows.orderPutsRow.domain false) (Rows.orderPutsSpec.post enc Try.prog Try.f8 false true false false) := by
  refine returnsInHanded_of_change (C := Try.checked) own started (by kernel_rfl) Try.func8
    (ChangeSpec.witness6 (enc := enc) (C := Try.checked) false ⟨#[], #[.slice none 0 0, .slice none 0 0], []⟩ 8 (by kernel_rfl) (by kernel_rfl) (by kernel_rfl) (by kernel_rfl)) ?_
  intro W base args ds gs before hval0 hW hcnd _
  have hval : ∀ (j : Nat) t v, Try.f8.params[j]? = some t → args[j]? = some v → Value.okWide Try.prog W .any base t v := hval0
  have hW' := hW
  obtain ⟨p, q, hA0, hV, rfl, hfz, hnd⟩ := hW
  have hA : DataW.TrodAll enc Try.prog W 0 (fun _ => true) true Try.f8.params.toList args.toList ds p := hA0
  rw [Try.params8] at hA hval
  obtain ⟨v0, vs0, d0, ds0, p0, q0, hargs, rfl, rfl, h0, r0⟩ := trodAll_cons hA
  obtain ⟨v1, vs1, d1, ds1, p1, q1, rfl, rfl, rfl, h1, r1⟩ := trodAll_cons r0
  obtain ⟨rfl, rfl, rfl⟩ := trodAll_nil r1
  obtain rfl : args = #[v0, v1] := by cases args; simp_all
  obtain ⟨rfl, rfl⟩ := trodVars_none hV
  obtain ⟨a0, len0, cap0, rfl⟩ := okWide_slice Try.underlying22 (hval 0 22 v0 rfl rfl)
  have k0 := h0
  have lt0 : ∀ x ∈ p0, x.block < W.heap.size := by obtain ⟨m, hm⟩ := k0; exact DataW.trod_lt m _ _ _ hm
  obtain ⟨x0, w0, n0⟩ : ∃ xs, Ws W a0 len0 cap0 xs ∧ (a0 = none → cap0 = 0) := by
    obtain ⟨fuel, hf⟩ := h0
    rcases Go.Deep.open_int_rows Try.underlying22 Try.underlying23 Try.underlying3 (by kernel_rfl) (by kernel_rfl) hf with ⟨hcs, _⟩ | ⟨x, l, c, A, L, C, Z, hcs, _, hl, hm, _, hr⟩
    · simp [Value.cells] at hcs
      obtain ⟨rfl, rfl, rfl⟩ := hcs
      exact ⟨[], Ws.nil, fun _ => rfl⟩
    · simp [Value.cells] at hcs
      obtain ⟨rfl, rfl, rfl⟩ := hcs
      exact ⟨_, Ws.of_rows hl hm hr, fun h => by cases h⟩
  obtain ⟨a1, len1, cap1, rfl⟩ := okWide_slice Try.underlying23 (hval 1 23 v1 rfl rfl)
  have k1 := h1
  have lt1 : ∀ x ∈ p1, x.block < W.heap.size := by obtain ⟨m, hm⟩ := k1; exact DataW.trod_lt m _ _ _ hm
  obtain ⟨z1, w1⟩ : ∃ zs, IsRow .i64 W a1 len1 cap1 zs := by
    obtain ⟨fuel, hf⟩ := h1
    rcases open_ints Try.underlying23 Try.underlying3 (by kernel_rfl) hf with ⟨hcs, _⟩ | ⟨x, l, c, zs, hcs, _, hl, hm, hz, _, hcell, hwz⟩
    · simp [Value.cells] at hcs
      obtain ⟨rfl, rfl, rfl⟩ := hcs
      exact ⟨[], .inl ⟨rfl, rfl, rfl, rfl⟩⟩
    · simp [Value.cells] at hcs
      obtain ⟨rfl, rfl, rfl⟩ := hcs
      exact ⟨zs, .inr ⟨_, rfl, hl, hm, by simpa using hz, hcell, hwz⟩⟩
  clear hA0 hval0
  refine (walk a0 len0 cap0 x0 a1 len1 cap1 z1 W w0 n0 w1).mono fun e W' ⟨he, bel⟩ => ?_
  subst he
  exact ⟨_, rfl, _, _, _, [], _, [], hW', trodAll_mk1 (shut_bool Try.underlying4 _), (trodAll_cons_mk (Below.trod laidOut (by kernel_rfl) (of_decide_eq_true (by kernel_rfl)) k0 bel lt0) (trodAll_cons_mk (Below.trod laidOut (by kernel_rfl) (of_decide_eq_true (by kernel_rfl)) k1 bel lt1) trodAll_mk0)), rfl, bel.frame _, fun h => by cases h⟩

theorem over : Rows.orderPutsRow.holds Try.pinned (OpenSpec.ofChange Rows.orderPutsSpec) :=
  OpenClaim.holds_of_wide 8 Try.f8 rfl rfl rfl rfl rfl rfl rfl ⟨rfl, rfl, rfl, rfl, rfl⟩ rfl rfl rfl rfl rfl (by kernel_rfl) Try.func8 (by kernel_rfl)
    (of_decide_eq_true (by kernel_rfl)) (by unfold Func.isWrapper; first | (rw [if_pos (by decide +kernel)]; kernel_rfl) | (rw [if_neg (by decide +kernel)]; exact ⟨rfl, rfl⟩))
    (fun os started H enc _ => lifted os started H enc)

/-- the statement -/
theorem proved : Rows.OrderPutsSaid := over
#print axioms proved
end Go.Proofs.Ytooefnihmckinaa.orderPuts
