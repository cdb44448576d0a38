/- The document's Sort of layer 3: each word put in at its place. -/
import Derived.Test.YtooefnihmckinaaOrderStep
import Derived.Test.YtooefnihmckinaaOrderRefA
namespace Go.Proofs.Ytooefnihmckinaa
open Go.RowKit

theorem ins_not {l : List (List Int)} {z : List Int} {k : Nat} (h : decide (z ∈ l) = false) (hk : cnt l z = k) : ins l z = l.take k ++ z :: l.drop k := by
  subst hk
  unfold ins
  rw [if_neg (by simpa using h)]
theorem ins_is {l : List (List Int)} {z : List Int} (h : decide (z ∈ l) = true) : ins l z = l := by
  unfold ins
  rw [if_pos (by simpa using h)]
theorem srt_step {l : List (List Int)} {o R : List (List Int)} {j : Nat} {z : List Int} (h : o = (l.take j).foldl ins []) (hj : j < l.length) (hz : l.getD j [] = z) (hR : ins o z = R) : R = (l.take (j + 1)).foldl ins [] := by
  rw [List.take_succ_eq_append_getElem hj, List.foldl_append, ← h, ← hR]
  have : l[j] = z := by rw [← hz]; simp [hj]
  rw [this]; rfl

theorem Ws.empty {w : World} {a : Option Addr} {c : Nat} (h : c ≤ maxLen) : Ws w a 0 c [] := ⟨rfl, Nat.zero_le _, h, by simp, .inl rfl⟩

set_option maxHeartbeats 3200000 in
set_option maxRecDepth 100000 in
theorem rsort_any (a : Option Addr) (n cap : Nat) (xs : List Wd) (w : World) (ha : Ws w a n cap xs) (hn : n ≤ 300) :
    Calls Try.prog 13 #[.slice a n cap] w fun e w' => ∃ a' m c' ys, e = .returned (.slice a' m c') ∧ Ws w' a' m c' ys ∧ nums ys = srt (nums xs) ∧ Below w.heap.size w w' := by
  have hnc := ha.2.1
  have hcm := ha.2.2.1
  unfold maxLen at hcm
  have HA := Lib.hid ha
  clear ha
  go_enter Try.func13, Try.ntmps13
  go_wp2
  go_loopw [3, 4] (fun ov ix wr => ∃ (j : Nat) (a' : Option Addr) (L c' : Nat) (outs : List Wd), j ≤ n ∧ L ≤ j ∧ ix = .int .i64 (j : Int) ∧ ov = .slice a' L c' ∧ Hid (Ws wr a' L c' outs) ∧ Hid (Form a' c') ∧ Hid (nums outs = ((nums xs).take j).foldl ins []) ∧ Hid (Below w.heap.size w wr)) (fun _ ix _ => n - (intOf ix).toNat)
  case atStart => exact ⟨0, none, 0, 0, [], Nat.zero_le _, Nat.le_refl _, rfl, rfl, Ws.nil, .inl ⟨rfl, rfl⟩, rfl, Below.refl _ _⟩
  case round =>
    obtain ⟨j, a', L, c', outs, hj, hLj, rfl, rfl, HO, HF, HN, HB⟩ := hrel
    by_cases hlt : j < n
    · obtain ⟨b1, o1, a3, n3, c3, z3, rfl, _, _, hx1, hs1, hz1⟩ := (HA.out.below HB.out (Nat.le_refl _)).one j hlt
      have hjl : j < (nums xs).length := by rw [nums_length, HA.out.1]; exact hlt
      obtain ⟨k, hk⟩ : ∃ k, cnt (nums outs) z3 = k := ⟨_, rfl⟩
      have hkL : k ≤ L := by rw [← hk, ← HO.out.1, ← nums_length]; exact cnt_le _ _
      have hstep := fun R hR => srt_step (R := R) HN.out hjl hz1 hR
      have HST := Lib.hid hstep
      have HS1 := Lib.hid hs1
      have HK := Lib.hid hk
      have hlti : (j : Int) < (n : Int) := by omega
      clear hstep hs1 hk hz1 hjl
      cases hr : decide (z3 ∈ nums outs)
      · have HR := Lib.hid hr
        have HI := Lib.hid (ins_not hr HK.out)
        have hOc := HO.out.2.1
        have hOm := HO.out.2.2.1
        unfold maxLen at hOm
        clear hr
        have hLn : L + 1 ≤ 300 := by omega
        rcases HF.out with ⟨rfl, rfl⟩ | ⟨g, rfl⟩
        · obtain rfl : L = 0 := by omega
          obtain rfl : k = 0 := by omega
          go_wp2_with (first
            | (go_at_call 14; refine (rfind_is _ _ _ _ _ _ outs z3 _ false _ HO.out HS1.out HK.out HR.out).mono ?_; rintro e w1 ⟨rfl, hq1⟩; have HO1 := Lib.hid (HO.out.drawn hq1); have HB1 := Lib.hid (below_drawn HB.out hq1); have hx2 : w1.cell? ⟨b1, o1 + j, none⟩ = some (.slice a3 n3 c3) := (by obtain ⟨q, rfl⟩ := hq1; exact hx1); have HS2 := Lib.hid (HS1.out.drawn hq1); have hb1 := cell_lt hx2)
            | (at_builtin; refine append_words rfl (.tmp 25) (.tmp 28) (by rfl) w1.heap.size _ 0 [] (by rfl) (owns0 w1) none 0 0 [] (by rfl) (Ws.nil) (fun _ => rfl) 0 (by omega) (by omega) (by simp) ?_; intro a5 c5 w2 hown2 hb2 hnil5; have B2 : Below w1.heap.size w1 w2 := ((Below.refl _ w1).alloc (Nat.le_refl _) _).trans hb2; have hx3 : w2.cell? ⟨b1, o1 + j, none⟩ = some (.slice a3 n3 c3) := (B2.cell (p := ⟨b1, o1 + j, none⟩) hb1).trans hx2)
            | fail)
          simp only [List.nil_append] at hown2
          have HO2 := Lib.hid (HO1.out.below B2 (Nat.le_refl _))
          have HR2 : Hid (Ws w2 a5 (0) c5 (outs.drop 0)) := (by have e : outs.drop 0 = [] := List.drop_eq_nil_of_le (by have := HO2.out.1; omega); show Ws _ _ _ _ _; rw [e]; exact Ws.of_owns hown2 (by simp) rfl)
          have HB2 : Hid (Below w.heap.size w w2) := HB1.out.trans (B2.mono HB1.out.size)
          have HS3 := Lib.hid (HS2.out.below B2 (Nat.le_refl _))
          have HN5 := Lib.hid hnil5
          have bel1 : ∀ o, Below w2.heap.size w2 (w2.alloc o) := fun o => (Below.refl _ w2).alloc (Nat.le_refl _) o
          have bel2 : ∀ o o', Below w2.heap.size w2 ((w2.alloc o).alloc o') := fun o o' => ((Below.refl _ w2).alloc (Nat.le_refl _) o).alloc (by simp) o'
          have BEL1 := Lib.hid bel1
          have BEL2 := Lib.hid bel2
          have hb12 := cell_lt hx3
          have hne : w2.heap.size ≠ b1 := by omega
          have hne1 : w2.heap.size + 1 ≠ b1 := by omega
          clear hown2 hb2 hnil5 HO1 HB1 HS2 hx2 hx1 B2 bel1 bel2
          go_region_law (first
            | (refine step_append_words (w0 := w2) (by rfl) (.tmp 30) (.tmp 33) (by rfl) w2.heap.size _ 0 [] (by rfl) (by first | exact owns0 w2 | exact (owns0 w2).alloc _ | exact owns1 w2 _) none 0 0 (outs.take 0) (by rfl) (by first | exact (HO2.out.first 0 (Nat.le_refl _)).alloc _ | exact ((HO2.out.first 0 (Nat.le_refl _)).alloc _).alloc _) (fun _ => rfl) 0 (by omega) (by omega) (Nat.le_refl _) (by first | exact Below.like (BEL1.out _) rfl rfl rfl rfl | exact Below.like (BEL2.out _ _) rfl rfl rfl rfl) ?_; intro a6 c6 w5 hown5 hgrow5 hb5 hf5; simp only [List.nil_append] at hown5; have hx5 : w5.cell? ⟨b1, o1 + j, none⟩ = some (.slice a3 n3 c3) := (hb5.cell (p := ⟨b1, o1 + j, none⟩) hb12).trans hx3; have hne5 : w5.heap.size ≠ b1 := (by have := hb5.size; omega))
            | (refine step_append_one (w0 := w2) (by rfl) (.tmp 34) (.tmp 39) (by rfl) w2.heap.size _ 0 (outs.take 0) (by rfl) (by first | exact hown5 | exact hown5.alloc _) _ ⟨a3, n3, c3, z3⟩ (by rfl) (by first | exact cell_new_sl w5 _ _ | exact World.grownBy.cell hgrow5 (cell_second w2 ⟨a3, n3, c3, z3⟩ _) (fun h => by have h' : some (w2.heap.size + 1) = some w2.heap.size := h; simp at h') | exact World.grownBy.cell hgrow5 (cell_first w2 ⟨a3, n3, c3, z3⟩ _) (fun h => by have h' : some w2.heap.size = some (w2.heap.size + 1) := h; simp at h')) (0 + 1) (by rfl) (by omega) (Nat.le_refl _) (by first | exact Below.like hb5 rfl rfl rfl rfl | exact Below.like (hb5.alloc hb5.size _) rfl rfl rfl rfl) ?_; intro a7 c7 w6 hown6 hgrow6 hb6 hf6)
            | (refine step_append_words (w0 := w2) (by rfl) (.tmp 40) (.tmp 41) (by rfl) w2.heap.size _ (0 + 1) (outs.take 0 ++ [⟨a3, n3, c3, z3⟩]) (by rfl) (by exact hown6) a5 (0) c5 (outs.drop 0) (by rfl) (by exact HR2.out.below hb6 (Nat.le_refl _)) HN5.out (0 + 1) (by omega) (by omega) (Nat.le_refl _) (by exact Below.like hb6 rfl rfl rfl rfl) ?_; intro a8 c8 w7 hown7 hgrow7 hb7 hf7))
          all_goals
            have hW7 : Ws w7 a8 (0 + 1) c8 (outs.take 0 ++ [⟨a3, n3, c3, z3⟩] ++ outs.drop 0) := Ws.of_owns hown7 (fun x hx => by
              rcases List.mem_append.1 hx with hx | hx
              · rcases List.mem_append.1 hx with hx | hx
                · exact (HO2.out.2.2.2.1 x (List.mem_of_mem_take hx)).below hb7 (Nat.le_refl _)
                · simp only [List.mem_singleton] at hx
                  subst hx
                  exact HS3.out.below hb7 (Nat.le_refl _)
              · exact (HO2.out.2.2.2.1 x (List.mem_of_mem_drop hx)).below hb7 (Nat.le_refl _)) (by have := HO2.out.1; simp only [List.length_append, List.length_take, List.length_drop, List.length_cons, List.length_nil]; omega)
            have hnum : nums (outs.take 0 ++ [⟨a3, n3, c3, z3⟩] ++ outs.drop 0) = (nums outs).take 0 ++ z3 :: (nums outs).drop 0 := by
              simp [nums]
            have HW7 := Lib.hid hW7
            have HNM := Lib.hid hnum
            have HB7 : Hid (Below w.heap.size w w7) := HB2.out.trans (hb7.mono HB2.out.size)
            have HF8 := Lib.hid hf7
            clear hown5 hown6 hown7 hgrow5 hgrow6 hgrow7 hb5 hb6 hb7 hf5 hf6 hf7 hW7 hnum hx3
            go_wp2
            go_roundw
            case rel => exact ⟨j + 1, a8, 0 + 1, c8, _, by omega, by omega, by go_num, rfl, HW7.out, HF8.out, HST.out _ (by rw [HI.out, HNM.out]), HB7.out⟩
            case measure => simp [intOf]; omega
        · by_cases hkc : k = c'
          · subst hkc
            obtain rfl : k = L := by omega
            have hkc3 : (k : Int) ≤ (k : Int) := Int.le_refl _
            have hkL2 : (0 : Int) ≤ (k : Int) := by omega
            go_wp2_with (first
              | (go_at_call 14; refine (rfind_is _ _ _ _ _ _ outs z3 _ false _ HO.out HS1.out HK.out HR.out).mono ?_; rintro e w1 ⟨rfl, hq1⟩; have HO1 := Lib.hid (HO.out.drawn hq1); have HB1 := Lib.hid (below_drawn HB.out hq1); have hx2 : w1.cell? ⟨b1, o1 + j, none⟩ = some (.slice a3 n3 c3) := (by obtain ⟨q, rfl⟩ := hq1; exact hx1); have HS2 := Lib.hid (HS1.out.drawn hq1); have hb1 := cell_lt hx2)
              | (at_builtin; refine append_words rfl (.tmp 25) (.tmp 28) (by rfl) w1.heap.size _ 0 [] (by rfl) (owns0 w1) _ 0 _ [] (by rfl) (Ws.empty (by unfold maxLen; omega)) (fun h => by cases h) 0 (by omega) (by omega) (by simp) ?_; intro a5 c5 w2 hown2 hb2 hnil5; have B2 : Below w1.heap.size w1 w2 := ((Below.refl _ w1).alloc (Nat.le_refl _) _).trans hb2; have hx3 : w2.cell? ⟨b1, o1 + j, none⟩ = some (.slice a3 n3 c3) := (B2.cell (p := ⟨b1, o1 + j, none⟩) hb1).trans hx2)
              | fail)
            simp only [List.nil_append] at hown2
            have HO2 := Lib.hid (HO1.out.below B2 (Nat.le_refl _))
            have HR2 : Hid (Ws w2 a5 (0) c5 (outs.drop k)) := (by have e : outs.drop k = [] := List.drop_eq_nil_of_le (by have := HO2.out.1; omega); show Ws _ _ _ _ _; rw [e]; exact Ws.of_owns hown2 (by simp) rfl)
            have HB2 : Hid (Below w.heap.size w w2) := HB1.out.trans (B2.mono HB1.out.size)
            have HS3 := Lib.hid (HS2.out.below B2 (Nat.le_refl _))
            have HN5 := Lib.hid hnil5
            have bel1 : ∀ o, Below w2.heap.size w2 (w2.alloc o) := fun o => (Below.refl _ w2).alloc (Nat.le_refl _) o
            have bel2 : ∀ o o', Below w2.heap.size w2 ((w2.alloc o).alloc o') := fun o o' => ((Below.refl _ w2).alloc (Nat.le_refl _) o).alloc (by simp) o'
            have BEL1 := Lib.hid bel1
            have BEL2 := Lib.hid bel2
            have hb12 := cell_lt hx3
            have hne : w2.heap.size ≠ b1 := by omega
            have hne1 : w2.heap.size + 1 ≠ b1 := by omega
            clear hown2 hb2 hnil5 HO1 HB1 HS2 hx2 hx1 B2 bel1 bel2
            go_region_law (first
              | (refine step_append_words (w0 := w2) (by rfl) (.tmp 30) (.tmp 33) (by rfl) w2.heap.size _ 0 [] (by rfl) (by first | exact owns0 w2 | exact (owns0 w2).alloc _ | exact owns1 w2 _) (some ⟨g, 0, none⟩) k k (outs.take k) (by rfl) (by first | exact (HO2.out.first k hkL).alloc _ | exact ((HO2.out.first k hkL).alloc _).alloc _) (fun h => by cases h) k (by omega) (by omega) (Nat.le_refl _) (by first | exact Below.like (BEL1.out _) rfl rfl rfl rfl | exact Below.like (BEL2.out _ _) rfl rfl rfl rfl) ?_; intro a6 c6 w5 hown5 hgrow5 hb5 hf5; simp only [List.nil_append] at hown5; have hx5 : w5.cell? ⟨b1, o1 + j, none⟩ = some (.slice a3 n3 c3) := (hb5.cell (p := ⟨b1, o1 + j, none⟩) hb12).trans hx3; have hne5 : w5.heap.size ≠ b1 := (by have := hb5.size; omega))
              | (refine step_append_one (w0 := w2) (by rfl) (.tmp 34) (.tmp 39) (by rfl) w2.heap.size _ k (outs.take k) (by rfl) (by first | exact hown5 | exact hown5.alloc _) _ ⟨a3, n3, c3, z3⟩ (by rfl) (by first | exact cell_new_sl w5 _ _ | exact World.grownBy.cell hgrow5 (cell_second w2 ⟨a3, n3, c3, z3⟩ _) (fun h => by have h' : some (w2.heap.size + 1) = some w2.heap.size := h; simp at h') | exact World.grownBy.cell hgrow5 (cell_first w2 ⟨a3, n3, c3, z3⟩ _) (fun h => by have h' : some w2.heap.size = some (w2.heap.size + 1) := h; simp at h')) (k + 1) (by rfl) (by omega) (Nat.le_refl _) (by first | exact Below.like hb5 rfl rfl rfl rfl | exact Below.like (hb5.alloc hb5.size _) rfl rfl rfl rfl) ?_; intro a7 c7 w6 hown6 hgrow6 hb6 hf6)
              | (refine step_append_words (w0 := w2) (by rfl) (.tmp 40) (.tmp 41) (by rfl) w2.heap.size _ (k + 1) (outs.take k ++ [⟨a3, n3, c3, z3⟩]) (by rfl) (by exact hown6) a5 (0) c5 (outs.drop k) (by rfl) (by exact HR2.out.below hb6 (Nat.le_refl _)) HN5.out (k + 1) (by omega) (by omega) (Nat.le_refl _) (by exact Below.like hb6 rfl rfl rfl rfl) ?_; intro a8 c8 w7 hown7 hgrow7 hb7 hf7))
            all_goals
              have hW7 : Ws w7 a8 (k + 1) c8 (outs.take k ++ [⟨a3, n3, c3, z3⟩] ++ outs.drop k) := Ws.of_owns hown7 (fun x hx => by
                rcases List.mem_append.1 hx with hx | hx
                · rcases List.mem_append.1 hx with hx | hx
                  · exact (HO2.out.2.2.2.1 x (List.mem_of_mem_take hx)).below hb7 (Nat.le_refl _)
                  · simp only [List.mem_singleton] at hx
                    subst hx
                    exact HS3.out.below hb7 (Nat.le_refl _)
                · exact (HO2.out.2.2.2.1 x (List.mem_of_mem_drop hx)).below hb7 (Nat.le_refl _)) (by have := HO2.out.1; simp only [List.length_append, List.length_take, List.length_drop, List.length_cons, List.length_nil]; omega)
              have hnum : nums (outs.take k ++ [⟨a3, n3, c3, z3⟩] ++ outs.drop k) = (nums outs).take k ++ z3 :: (nums outs).drop k := by
                simp [nums, List.map_take, List.map_drop]
              have HW7 := Lib.hid hW7
              have HNM := Lib.hid hnum
              have HB7 : Hid (Below w.heap.size w w7) := HB2.out.trans (hb7.mono HB2.out.size)
              have HF8 := Lib.hid hf7
              clear hown5 hown6 hown7 hgrow5 hgrow6 hgrow7 hb5 hb6 hb7 hf5 hf6 hf7 hW7 hnum hx3
              go_wp2
              go_roundw
              case rel => exact ⟨j + 1, a8, k + 1, c8, _, by omega, by omega, by go_num, rfl, HW7.out, HF8.out, HST.out _ (by rw [HI.out, HNM.out]), HB7.out⟩
              case measure => simp [intOf]; omega
          · have hkc1 : k < c' := by omega
            have hkL1 : (k : Int) ≤ (L : Int) := by omega
            have hkL2 : (0 : Int) ≤ (k : Int) := by omega
            have hLc1 : (L : Int) ≤ (c' : Int) := by omega
            have hkc2 : ¬ (k : Int) = (c' : Int) := by omega
            have hkc3 : (k : Int) ≤ (c' : Int) := by omega
            have hkc4 : k ≤ c' := by omega
            have HD : Hid (∀ W, Ws W (some ⟨g, 0, none⟩) L c' outs → Ws W (some ⟨g, k, none⟩) (L - k) (c' - k) (outs.drop k)) := by
              intro W hW
              have h := hW.piece k (L - k) (by omega)
              rw [Nat.zero_add, List.take_of_length_le (by have := hW.1; simp; omega)] at h
              exact h
            go_wp2_with (first
              | (go_at_call 14; refine (rfind_is _ _ _ _ _ _ outs z3 _ false _ HO.out HS1.out HK.out HR.out).mono ?_; rintro e w1 ⟨rfl, hq1⟩; have HO1 := Lib.hid (HO.out.drawn hq1); have HB1 := Lib.hid (below_drawn HB.out hq1); have hx2 : w1.cell? ⟨b1, o1 + j, none⟩ = some (.slice a3 n3 c3) := (by obtain ⟨q, rfl⟩ := hq1; exact hx1); have HS2 := Lib.hid (HS1.out.drawn hq1); have hb1 := cell_lt hx2)
              | (at_builtin; refine append_words rfl (.tmp 25) (.tmp 28) (by rfl) w1.heap.size _ 0 [] (by rfl) (owns0 w1) (some ⟨g, k, none⟩) (L - k) (c' - k) (outs.drop k) (by rfl) ((HD.out _ (HO1.out.alloc _))) (fun h => by cases h) (L - k) (by omega) (by omega) (by simp) ?_; intro a5 c5 w2 hown2 hb2 hnil5; have B2 : Below w1.heap.size w1 w2 := ((Below.refl _ w1).alloc (Nat.le_refl _) _).trans hb2; have hx3 : w2.cell? ⟨b1, o1 + j, none⟩ = some (.slice a3 n3 c3) := (B2.cell (p := ⟨b1, o1 + j, none⟩) hb1).trans hx2)
              | fail)
            simp only [List.nil_append] at hown2
            have HO2 := Lib.hid (HO1.out.below B2 (Nat.le_refl _))
            have HR2 : Hid (Ws w2 a5 ((L - k)) c5 (outs.drop k)) := Ws.of_owns hown2 (fun x hx => HO2.out.2.2.2.1 x (List.mem_of_mem_drop hx)) (by have := HO2.out.1; simp; omega)
            have HB2 : Hid (Below w.heap.size w w2) := HB1.out.trans (B2.mono HB1.out.size)
            have HS3 := Lib.hid (HS2.out.below B2 (Nat.le_refl _))
            have HN5 := Lib.hid hnil5
            have bel1 : ∀ o, Below w2.heap.size w2 (w2.alloc o) := fun o => (Below.refl _ w2).alloc (Nat.le_refl _) o
            have bel2 : ∀ o o', Below w2.heap.size w2 ((w2.alloc o).alloc o') := fun o o' => ((Below.refl _ w2).alloc (Nat.le_refl _) o).alloc (by simp) o'
            have BEL1 := Lib.hid bel1
            have BEL2 := Lib.hid bel2
            have hb12 := cell_lt hx3
            have hne : w2.heap.size ≠ b1 := by omega
            have hne1 : w2.heap.size + 1 ≠ b1 := by omega
            clear hown2 hb2 hnil5 HO1 HB1 HS2 hx2 hx1 B2 bel1 bel2
            go_region_law (first
              | (refine step_append_words (w0 := w2) (by rfl) (.tmp 30) (.tmp 33) (by rfl) w2.heap.size _ 0 [] (by rfl) (by first | exact owns0 w2 | exact (owns0 w2).alloc _ | exact owns1 w2 _) (some ⟨g, 0, none⟩) k c' (outs.take k) (by rfl) (by first | exact (HO2.out.first k hkL).alloc _ | exact ((HO2.out.first k hkL).alloc _).alloc _) (fun h => by cases h) k (by omega) (by omega) (Nat.le_refl _) (by first | exact Below.like (BEL1.out _) rfl rfl rfl rfl | exact Below.like (BEL2.out _ _) rfl rfl rfl rfl) ?_; intro a6 c6 w5 hown5 hgrow5 hb5 hf5; simp only [List.nil_append] at hown5; have hx5 : w5.cell? ⟨b1, o1 + j, none⟩ = some (.slice a3 n3 c3) := (hb5.cell (p := ⟨b1, o1 + j, none⟩) hb12).trans hx3; have hne5 : w5.heap.size ≠ b1 := (by have := hb5.size; omega))
              | (refine step_append_one (w0 := w2) (by rfl) (.tmp 34) (.tmp 39) (by rfl) w2.heap.size _ k (outs.take k) (by rfl) (by first | exact hown5 | exact hown5.alloc _) _ ⟨a3, n3, c3, z3⟩ (by rfl) (by first | exact cell_new_sl w5 _ _ | exact World.grownBy.cell hgrow5 (cell_second w2 ⟨a3, n3, c3, z3⟩ _) (fun h => by have h' : some (w2.heap.size + 1) = some w2.heap.size := h; simp at h') | exact World.grownBy.cell hgrow5 (cell_first w2 ⟨a3, n3, c3, z3⟩ _) (fun h => by have h' : some w2.heap.size = some (w2.heap.size + 1) := h; simp at h')) (k + 1) (by rfl) (by omega) (Nat.le_refl _) (by first | exact Below.like hb5 rfl rfl rfl rfl | exact Below.like (hb5.alloc hb5.size _) rfl rfl rfl rfl) ?_; intro a7 c7 w6 hown6 hgrow6 hb6 hf6)
              | (refine step_append_words (w0 := w2) (by rfl) (.tmp 40) (.tmp 41) (by rfl) w2.heap.size _ (k + 1) (outs.take k ++ [⟨a3, n3, c3, z3⟩]) (by rfl) (by exact hown6) a5 ((L - k)) c5 (outs.drop k) (by rfl) (by exact HR2.out.below hb6 (Nat.le_refl _)) HN5.out (L + 1) (by omega) (by omega) (Nat.le_refl _) (by exact Below.like hb6 rfl rfl rfl rfl) ?_; intro a8 c8 w7 hown7 hgrow7 hb7 hf7))
            all_goals
              have hW7 : Ws w7 a8 (L + 1) c8 (outs.take k ++ [⟨a3, n3, c3, z3⟩] ++ outs.drop k) := Ws.of_owns hown7 (fun x hx => by
                rcases List.mem_append.1 hx with hx | hx
                · rcases List.mem_append.1 hx with hx | hx
                  · exact (HO2.out.2.2.2.1 x (List.mem_of_mem_take hx)).below hb7 (Nat.le_refl _)
                  · simp only [List.mem_singleton] at hx
                    subst hx
                    exact HS3.out.below hb7 (Nat.le_refl _)
                · exact (HO2.out.2.2.2.1 x (List.mem_of_mem_drop hx)).below hb7 (Nat.le_refl _)) (by have := HO2.out.1; simp only [List.length_append, List.length_take, List.length_drop, List.length_cons, List.length_nil]; omega)
              have hnum : nums (outs.take k ++ [⟨a3, n3, c3, z3⟩] ++ outs.drop k) = (nums outs).take k ++ z3 :: (nums outs).drop k := by
                simp [nums, List.map_take, List.map_drop]
              have HW7 := Lib.hid hW7
              have HNM := Lib.hid hnum
              have HB7 : Hid (Below w.heap.size w w7) := HB2.out.trans (hb7.mono HB2.out.size)
              have HF8 := Lib.hid hf7
              clear hown5 hown6 hown7 hgrow5 hgrow6 hgrow7 hb5 hb6 hb7 hf5 hf6 hf7 hW7 hnum hx3
              go_wp2
              go_roundw
              case rel => exact ⟨j + 1, a8, L + 1, c8, _, by omega, by omega, by go_num, rfl, HW7.out, HF8.out, HST.out _ (by rw [HI.out, HNM.out]), HB7.out⟩
              case measure => simp [intOf]; omega
      · have HR := Lib.hid hr
        have HI := Lib.hid (ins_is hr)
        clear hr
        go_wp2_with (go_at_call 14; refine (rfind_is _ _ _ _ _ _ outs z3 k true _ HO.out HS1.out HK.out HR.out).mono ?_; rintro e w1 ⟨rfl, hq1⟩)
        go_roundw
        case rel => exact ⟨j + 1, a', L, c', outs, by omega, by omega, by go_num, rfl, HO.out.drawn hq1, HF.out, HST.out _ HI.out, below_drawn HB.out hq1⟩
        case measure => simp [intOf]; omega
    · obtain rfl : j = n := by omega
      have hfin : nums outs = srt (nums xs) := by
        rw [HN.out, List.take_of_length_le (by rw [nums_length, HA.out.1]; omega)]; rfl
      have HFI := Lib.hid hfin
      clear hfin
      go_wp2
      go_ret
      exact ⟨a', L, c', outs, rfl, HO.out, HFI.out, HB.out⟩

end Go.Proofs.Ytooefnihmckinaa
