/- The document's keys of layer 7: rules of rows. Written by wip/gen/spec_keys.py. -/
import Derived.Test.YtdeicfdbjmpliaaSpecRefM
namespace Go.Proofs.Ytdeicfdbjmpliaa
open Go.RowKit

set_option maxRecDepth 100000 in
theorem drop_getD {l : List Int} {i : Nat} (h : i < l.length) : l.drop i = l.getD i 0 :: l.drop (i + 1) := by
  rw [List.drop_eq_getElem_cons h]; simp [h]

set_option maxHeartbeats 12800000 in
set_option maxRecDepth 100000 in
theorem rkeys_is (a : Option Addr) (n cap : Nat) (l : List Int) (C : Int) (ok : Bool) (rs : List Rul) (w : World) (hs : Sl .i64 w a n cap l) (hn : n ≤ 1000) (hC : 0 ≤ C ∧ C < 18446744073709551616) (hok : Spec.keysOk 0 l = ok) (hrs : Spec.keysG C 0 0 l = rs) :
    Calls Try.prog 61 #[.slice a n cap, .int .u64 C] w fun e w' => RulesOk w w' e rs ok := by
  have hnc := hs.2.1
  have hcm := hs.2.2.1
  unfold maxLen at hcm
  have HS := Lib.hid hs
  have HL := Lib.hid hs.1
  have hmx : Try.prog.follows .mixedOrders = true := by kernel_rfl
  have HMX := Lib.hid hmx
  have HOK := Lib.hid hok
  have HRS := Lib.hid hrs
  have HWA : Hid (∀ j, j < n → (Lit.int .i64 (l.getD j 0)).wf = true) := fun j hj => by
    refine HS.out.2.2.2.1 _ ?_
    rw [List.getD_eq_getElem?_getD, List.getElem?_eq_getElem (by rw [HL.out]; exact hj), Option.getD_some]
    exact List.getElem_mem _
  clear hs hmx hok hrs
  go_enter Try.func61, Try.ntmps61
  go_wp2
  go_loopw [6, 7, 8, 9] (fun ov rx bx ix wr => ∃ (i row : Nat) (b : Bool) (p : Int) (outs : List Rw), i ≤ n ∧ ix = .int .i64 (i : Int) ∧ row ≤ i ∧ rx = .int .i64 (row : Int) ∧ bx = .bool b ∧ outs.length ≤ i * 2 ∧ Hid (Acc w.heap.size wr ov outs) ∧ Hid (ruls outs ++ Spec.keysG C row p (l.drop i) = rs) ∧ Hid ((b && Spec.keysOk row (l.drop i)) = ok) ∧ Hid (1 ≤ row → p = l.getD (i - 1) 0) ∧ Hid (Below w.heap.size w wr)) (fun _ _ _ ix _ => n - (intOf ix).toNat)
  case atStart => exact ⟨0, 0, true, 0, [], Nat.zero_le _, rfl, Nat.zero_le _, rfl, rfl, Nat.zero_le _, Acc.nil _ _, HRS.out, by show _ = _; rw [← HOK.out]; rfl, (fun h => by omega), Below.refl _ _⟩
  case round =>
    obtain ⟨i, row, b, p, outs, hi, rfl, hri, rfl, rfl, hol, HAC, HRL, HOKB, HP, HBW⟩ := hrel
    obtain ⟨ov, hov⟩ : ∃ v, v = u6 := ⟨_, rfl⟩
    subst hov
    by_cases hlt : i < n
    · have hlti : (i : Int) < (n : Int) := by omega
      obtain ⟨b1, o1, rfl, hb1, hc1⟩ := HS.out.at (by omega)
      obtain ⟨x, hx⟩ : ∃ x, x = l.getD i 0 := ⟨_, rfl⟩
      have HX := Lib.hid hx
      have HC1 : Hid (∀ (j : Nat) (W : World), j < n → Below w.heap.size w W → W.cell? ⟨b1, o1 + j, none⟩ = some (.int .i64 (l.getD j 0))) := fun j W hj hB => by
        rw [hB.cell (p := ⟨b1, o1 + j, none⟩) hb1]; exact hc1 j hj
      have hx1 := HC1.out i _ hlt HBW.out
      rw [← hx] at hx1
      have HDR : Hid (l.drop i = x :: l.drop (i + 1)) := by
        show _ = _
        rw [drop_getD (by rw [HL.out]; exact hlt), ← hx]
      clear hc1 hx hb1
      by_cases h124 : x = 124
      · have he : (x == 124) = true := by simpa using h124
        have HRN : Hid (Spec.keysG C row p (l.drop i) = Spec.keysG C 0 x (l.drop (i + 1))) := by
          show _ = _
          rw [HDR.out]
          show (if x = 124 then _ else _) = _
          rw [if_pos h124]
        have HON : Hid (Spec.keysOk row (l.drop i) = Spec.keysOk 0 (l.drop (i + 1))) := by
          show _ = _
          rw [HDR.out]
          show (if x = 124 then _ else _) = _
          rw [if_pos h124]
        clear h124
        go_wp2
        go_roundw
        case rel => exact ⟨i + 1, 0, b, x, outs, by omega, by go_num, by omega, by first | rfl | go_num, by first | rfl | trivial, by omega, HAC.out, by show _ = _; rw [← HRN.out]; exact HRL.out, by show _ = _; rw [← HON.out]; exact HOKB.out, (fun h => by omega), HBW.out⟩
        case measure => simp [intOf]; omega
      · have he124 : (x == 124) = false := by simpa using h124
        have HNE := Lib.hid h124
        have HPN : Hid (1 ≤ row + 1 → x = l.getD (i + 1 - 1) 0) := fun _ => HX.out
        have HON : Hid (Spec.keysOk row (l.drop i) = (decide (row + 1 ≤ 12) && decide (x ≠ 95) && Spec.keysOk (row + 1) (l.drop (i + 1)))) := by
          show _ = _
          rw [HDR.out]
          show (if x = 124 then _ else _) = _
          rw [if_neg h124]
        clear h124
        cases b
        · have HOKN : Hid ((false && Spec.keysOk (row + 1) (l.drop (i + 1))) = ok) := by
            show _ = _
            rw [← HOKB.out]; simp
          by_cases hrow : row = 0
          · have hr1 : ¬ (1 : Int) < (row : Int) + 1 := by omega
            have hd1 : decide ((1 : Int) < (row : Int) + 1) = false := by rw [decide_eq_false_iff_not]; exact hr1
            have HRN : Hid (Spec.keysG C row p (l.drop i) = Spec.keysG C (row + 1) x (l.drop (i + 1))) := by
              show _ = _
              rw [HDR.out]
              show (if x = 124 then _ else _) = _
              rw [if_neg HNE.out, if_neg (fun h => by omega), List.nil_append]
            go_wp2
            go_quiet (fail)
            go_wp2
            go_roundw
            case rel => exact ⟨i + 1, row + 1, false, x, outs, by omega, by go_num, by omega, by go_num, by first | rfl | trivial, by omega, HAC.out.drawn ⟨_, rfl⟩, by show _ = _; rw [← HRN.out]; exact HRL.out, HOKN.out, HPN.out, below_drawn HBW.out ⟨_, rfl⟩⟩
            case measure => simp [intOf]; omega
          · have hr1 : (1 : Int) < (row : Int) + 1 := by omega
            have hd1 : decide ((1 : Int) < (row : Int) + 1) = true := by rw [decide_eq_true_iff]; exact hr1
            have HI0 : Hid (0 < i) := by show _ < _; omega
            have hpe := HP.out (by omega)
            have HPE := Lib.hid hpe
            have hp1 := HC1.out (i - 1) _ (by omega) HBW.out
            rw [← HPE.out] at hp1
            have hsub : IntKind.i64.wrap ((i : Int) - 1) = (i : Int) - 1 := by rw [IntKind.wrap_i64]; omega
            have hnat : ((i : Int) - 1).toNat = i - 1 := by omega
            have hlt1 : (i : Int) - 1 < (n : Int) := by omega
            have hge1 : (0 : Int) ≤ (i : Int) - 1 := by omega
            clear hpe
            by_cases hxp : x = p
            · have he : (x != p) = false := by simpa using hxp
              have HRN : Hid (Spec.keysG C row p (l.drop i) = Spec.keysG C (row + 1) x (l.drop (i + 1))) := by
                show _ = _
                rw [HDR.out]
                show (if x = 124 then _ else _) = _
                rw [if_neg HNE.out, if_neg (fun h => h.2 hxp), List.nil_append]
              clear hxp
              go_wp2
              go_quiet (fail)
              go_wp2
              go_roundw
              case rel => exact ⟨i + 1, row + 1, false, x, outs, by omega, by go_num, by omega, by go_num, by first | rfl | trivial, by omega, HAC.out.drawn ⟨_, rfl⟩, by show _ = _; rw [← HRN.out]; exact HRL.out, HOKN.out, HPN.out, below_drawn HBW.out ⟨_, rfl⟩⟩
              case measure => simp [intOf]; omega
            · have he : (x != p) = true := by simpa using hxp
              have HRN : Hid (Spec.keysG C row p (l.drop i) = [⟨[p], [x], C⟩, ⟨[x], [p], C⟩] ++ Spec.keysG C (row + 1) x (l.drop (i + 1))) := by
                show _ = _
                rw [HDR.out]
                show (if x = 124 then _ else _) = _
                rw [if_neg HNE.out, if_pos ⟨by omega, hxp⟩]
                rfl
              clear hxp
              go_wp2
              go_quiet (fail)
              go_wp2_with fail
              generalize hV : World.drewN _ _ = V
              have HAV : Hid (Acc w.heap.size V ov outs) := by rw [← hV]; exact HAC.out.drawn ⟨_, rfl⟩
              have HBV : Hid (Below w.heap.size w V) := by rw [← hV]; exact below_drawn HBW.out ⟨_, rfl⟩
              have HBA : Hid (w.heap.size ≤ V.drew.heap.size) := HBV.out.size
              have HROW : Hid (∀ g, ov.ownBlock = some g → g < V.heap.size) := fun g hg => (HAV.out.1.lt g hg).2
              have HLOW : Hid (∀ g, ov.ownBlock = some g → w.heap.size ≤ g) := fun g hg => (HAV.out.1.lt g hg).1
              have HC64 := Lib.hid hC
              have HCX : Hid (∀ w1, V.drew.grownBy w1 ov.ownBlock → w1.cell? ⟨b1, o1 + i, none⟩ = some (.int .i64 x)) := fun w1 hg => by
                rw [HX.out]; exact HC1.out i _ hlt (HBV.out.drew.grown hg HBV.out.size HLOW.out)
              have HCP : Hid (∀ w1, V.drew.grownBy w1 ov.ownBlock → w1.cell? ⟨b1, o1 + (i - 1), none⟩ = some (.int .i64 p)) := fun w1 hg => by
                rw [HPE.out]; exact HC1.out (i - 1) _ (by omega) (HBV.out.drew.grown hg HBV.out.size HLOW.out)
              have HWF : Hid (∀ z, z = x ∨ z = p → (Lit.int .i64 z).wf = true) := fun z hz => by
                rcases hz with rfl | rfl
                · rw [HX.out]; exact HWA.out i hlt
                · rw [HPE.out]; exact HWA.out (i - 1) (by omega)
              clear hV hx1 hp1
              refine wp_region_table' HMX.out 28 [.val ov, .val (.slice (some ⟨b1, o1, none⟩) n cap), .val (.int .i64 (i : Int)), .val (.int .i64 ((i - 1 : Nat) : Int)), .val (.pointer (some ⟨b1, o1 + (i - 1), none⟩)), .val (.int .i64 p), .one p, .val (.slice (some ⟨b1, o1, none⟩) n cap), .val (.int .i64 (i : Int)), .val (.pointer (some ⟨b1, o1 + i, none⟩)), .val (.int .i64 x), .one x, .val (.int .u64 C), .rule ⟨[p], [x], C⟩, .val (.slice (some ⟨b1, o1, none⟩) n cap), .val (.int .i64 (i : Int)), .val (.pointer (some ⟨b1, o1 + i, none⟩)), .val (.int .i64 x), .one x, .val (.slice (some ⟨b1, o1, none⟩) n cap), .val (.int .i64 (i : Int)), .val (.int .i64 ((i - 1 : Nat) : Int)), .val (.pointer (some ⟨b1, o1 + (i - 1), none⟩)), .val (.int .i64 p), .one p, .val (.int .u64 C), .rule ⟨[x], [p], C⟩, .rules [⟨[p], [x], C⟩, ⟨[x], [p], C⟩], .out [⟨[p], [x], C⟩, ⟨[x], [p], C⟩], .out [⟨[p], [x], C⟩, ⟨[x], [p], C⟩]] w.heap.size outs ov (by kernel_rfl) (by rfl) HAV.out HBV.out.size (fun i1 o ho a1 w1 hg hacc1 hw ht => ?_) (fun tm w1 hsz hg hfr hto => ?_)
              · have hLn := HL
                match i1, ho with
                | 0, ho =>
                  obtain rfl := Option.some.inj ho
                  exact StepsTo.move rfl (.tmp 6) (.inl rfl) ⟨(hw 6 (by kernel_rfl)), World.grownBy.refl _ _, fun _ => World.grownBy.refl _ _⟩
                | 1, ho =>
                  obtain rfl := Option.some.inj ho
                  exact StepsTo.move rfl (.tmp 0) (.inl rfl) ⟨(hw 0 (by kernel_rfl)), World.grownBy.refl _ _, fun _ => World.grownBy.refl _ _⟩
                | 2, ho =>
                  obtain rfl := Option.some.inj ho
                  exact StepsTo.move rfl (.tmp 9) (.inl rfl) ⟨(hw 9 (by kernel_rfl)), World.grownBy.refl _ _, fun _ => World.grownBy.refl _ _⟩
                | 3, ho =>
                  obtain rfl := Option.some.inj ho
                  exact steps_sub1 rfl (.tmp 51) _ _ rfl (k := i) HI0.out (ht 2 51 (by kernel_rfl)) (by omega) ⟨rfl, World.grownBy.refl _ _, fun _ => World.grownBy.refl _ _⟩
                | 4, ho =>
                  obtain rfl := Option.some.inj ho
                  exact steps_index rfl (.tmp 50) (.tmp 52) rfl (ht 1 50 (by kernel_rfl)) (ht 3 52 (by kernel_rfl)) (by omega) ⟨rfl, World.grownBy.refl _ _, fun _ => World.grownBy.refl _ _⟩
                | 5, ho =>
                  obtain rfl := Option.some.inj ho
                  exact steps_load rfl (.tmp 53) rfl (ht 4 53 (by kernel_rfl)) (HCP.out _ hg) ⟨rfl, World.grownBy.refl _ _, fun _ => World.grownBy.refl _ _⟩
                | 6, ho =>
                  obtain rfl := Option.some.inj ho
                  exact steps_slice1 rfl (.tmp 54) rfl (ht 5 54 (by kernel_rfl)) ⟨newOne_alloc hg.size (HWF.out _ (.inr rfl)), World.grownBy_alloc _ _ _, fun _ => World.grownBy_alloc _ _ _⟩
                | 7, ho =>
                  obtain rfl := Option.some.inj ho
                  exact StepsTo.move rfl (.tmp 0) (.inl rfl) ⟨(hw 0 (by kernel_rfl)), World.grownBy.refl _ _, fun _ => World.grownBy.refl _ _⟩
                | 8, ho =>
                  obtain rfl := Option.some.inj ho
                  exact StepsTo.move rfl (.tmp 9) (.inl rfl) ⟨(hw 9 (by kernel_rfl)), World.grownBy.refl _ _, fun _ => World.grownBy.refl _ _⟩
                | 9, ho =>
                  obtain rfl := Option.some.inj ho
                  exact steps_index rfl (.tmp 56) (.tmp 57) rfl (ht 7 56 (by kernel_rfl)) (ht 8 57 (by kernel_rfl)) hlt ⟨rfl, World.grownBy.refl _ _, fun _ => World.grownBy.refl _ _⟩
                | 10, ho =>
                  obtain rfl := Option.some.inj ho
                  exact steps_load rfl (.tmp 58) rfl (ht 9 58 (by kernel_rfl)) (HCX.out _ hg) ⟨rfl, World.grownBy.refl _ _, fun _ => World.grownBy.refl _ _⟩
                | 11, ho =>
                  obtain rfl := Option.some.inj ho
                  exact steps_slice1 rfl (.tmp 59) rfl (ht 10 59 (by kernel_rfl)) ⟨newOne_alloc hg.size (HWF.out _ (.inl rfl)), World.grownBy_alloc _ _ _, fun _ => World.grownBy_alloc _ _ _⟩
                | 12, ho =>
                  obtain rfl := Option.some.inj ho
                  exact StepsTo.move rfl (.tmp 1) (.inl rfl) ⟨(hw 1 (by kernel_rfl)), World.grownBy.refl _ _, fun _ => World.grownBy.refl _ _⟩
                | 13, ho =>
                  obtain rfl := Option.some.inj ho
                  obtain ⟨p, q, e1, e2, hr⟩ := newRule_of (ht 6 55 (by kernel_rfl)) (ht 11 60 (by kernel_rfl)) HC64.out
                  exact steps_rule rfl (.tmp 55) (.tmp 60) (.tmp 61) rfl e1 e2 (ht 12 61 (by kernel_rfl)) ⟨hr, World.grownBy.refl _ _, fun _ => World.grownBy.refl _ _⟩
                | 14, ho =>
                  obtain rfl := Option.some.inj ho
                  exact StepsTo.move rfl (.tmp 0) (.inl rfl) ⟨(hw 0 (by kernel_rfl)), World.grownBy.refl _ _, fun _ => World.grownBy.refl _ _⟩
                | 15, ho =>
                  obtain rfl := Option.some.inj ho
                  exact StepsTo.move rfl (.tmp 9) (.inl rfl) ⟨(hw 9 (by kernel_rfl)), World.grownBy.refl _ _, fun _ => World.grownBy.refl _ _⟩
                | 16, ho =>
                  obtain rfl := Option.some.inj ho
                  exact steps_index rfl (.tmp 63) (.tmp 64) rfl (ht 14 63 (by kernel_rfl)) (ht 15 64 (by kernel_rfl)) hlt ⟨rfl, World.grownBy.refl _ _, fun _ => World.grownBy.refl _ _⟩
                | 17, ho =>
                  obtain rfl := Option.some.inj ho
                  exact steps_load rfl (.tmp 65) rfl (ht 16 65 (by kernel_rfl)) (HCX.out _ hg) ⟨rfl, World.grownBy.refl _ _, fun _ => World.grownBy.refl _ _⟩
                | 18, ho =>
                  obtain rfl := Option.some.inj ho
                  exact steps_slice1 rfl (.tmp 66) rfl (ht 17 66 (by kernel_rfl)) ⟨newOne_alloc hg.size (HWF.out _ (.inl rfl)), World.grownBy_alloc _ _ _, fun _ => World.grownBy_alloc _ _ _⟩
                | 19, ho =>
                  obtain rfl := Option.some.inj ho
                  exact StepsTo.move rfl (.tmp 0) (.inl rfl) ⟨(hw 0 (by kernel_rfl)), World.grownBy.refl _ _, fun _ => World.grownBy.refl _ _⟩
                | 20, ho =>
                  obtain rfl := Option.some.inj ho
                  exact StepsTo.move rfl (.tmp 9) (.inl rfl) ⟨(hw 9 (by kernel_rfl)), World.grownBy.refl _ _, fun _ => World.grownBy.refl _ _⟩
                | 21, ho =>
                  obtain rfl := Option.some.inj ho
                  exact steps_sub1 rfl (.tmp 69) _ _ rfl (k := i) HI0.out (ht 20 69 (by kernel_rfl)) (by omega) ⟨rfl, World.grownBy.refl _ _, fun _ => World.grownBy.refl _ _⟩
                | 22, ho =>
                  obtain rfl := Option.some.inj ho
                  exact steps_index rfl (.tmp 68) (.tmp 70) rfl (ht 19 68 (by kernel_rfl)) (ht 21 70 (by kernel_rfl)) (by omega) ⟨rfl, World.grownBy.refl _ _, fun _ => World.grownBy.refl _ _⟩
                | 23, ho =>
                  obtain rfl := Option.some.inj ho
                  exact steps_load rfl (.tmp 71) rfl (ht 22 71 (by kernel_rfl)) (HCP.out _ hg) ⟨rfl, World.grownBy.refl _ _, fun _ => World.grownBy.refl _ _⟩
                | 24, ho =>
                  obtain rfl := Option.some.inj ho
                  exact steps_slice1 rfl (.tmp 72) rfl (ht 23 72 (by kernel_rfl)) ⟨newOne_alloc hg.size (HWF.out _ (.inr rfl)), World.grownBy_alloc _ _ _, fun _ => World.grownBy_alloc _ _ _⟩
                | 25, ho =>
                  obtain rfl := Option.some.inj ho
                  exact StepsTo.move rfl (.tmp 1) (.inl rfl) ⟨(hw 1 (by kernel_rfl)), World.grownBy.refl _ _, fun _ => World.grownBy.refl _ _⟩
                | 26, ho =>
                  obtain rfl := Option.some.inj ho
                  obtain ⟨p, q, e1, e2, hr⟩ := newRule_of (ht 18 67 (by kernel_rfl)) (ht 24 73 (by kernel_rfl)) HC64.out
                  exact steps_rule rfl (.tmp 67) (.tmp 73) (.tmp 74) rfl e1 e2 (ht 25 74 (by kernel_rfl)) ⟨hr, World.grownBy.refl _ _, fun _ => World.grownBy.refl _ _⟩
                | 27, ho =>
                  obtain rfl := Option.some.inj ho
                  obtain ⟨X, e1, hX, hr, hh⟩ := (ht 13 62 (by kernel_rfl))
                  obtain ⟨Y, e2, hY, hr2, hh2⟩ := (ht 26 75 (by kernel_rfl))
                  exact steps_rules2 rfl (.tmp 62) (.tmp 75) rfl e1 e2 ⟨by have h := newRules_alloc (w := w1) hg.size [X, Y] (by intro x hx; simp only [List.mem_cons, List.not_mem_nil, or_false] at hx; rcases hx with rfl | rfl <;> first | exact ⟨hX, hh⟩ | exact ⟨hY, hh2⟩) (by simp); rw [show ruls [X, Y] = [X.r, Y.r] from rfl, hr, hr2] at h; exact h, World.grownBy_alloc _ _ _, fun _ => World.grownBy_alloc _ _ _⟩
                | 28, ho =>
                  obtain rfl := Option.some.inj ho
                  exact steps_append rfl (.tmp 49) (.tmp 76) rfl (ht 0 49 (by kernel_rfl)) (hacc1 rfl) HROW.out rfl (ht 27 76 (by kernel_rfl)) (by simp) (by simp; omega) (Nat.le_trans HBA.out hg.size) (fun v' w' zs hz ha hgr hat => ⟨⟨⟨zs, hz, ha⟩, hat.imp id fun h => ⟨_, h, hg.size⟩⟩, hgr, fun hne => absurd rfl hne⟩)
                | 29, ho =>
                  obtain rfl := Option.some.inj ho
                  exact StepsTo.move rfl (.tmp 77) (.inr rfl) ⟨(ht 28 77 (by kernel_rfl)), World.grownBy.refl _ _, fun _ => World.grownBy.refl _ _⟩
                | j1 + 30, ho => exact absurd (Array.getElem?_eq_some_iff.1 ho).1 (by simp)
              · have h15 := hto 29 6 (by kernel_rfl)
                clear hto
                rw [act_lit tm (show tm.size = 80 from hsz)]
                simp only [List.range, List.range.loop, List.map_cons, List.map_nil]
                rw [hfr 0 (by kernel_rfl), hfr 1 (by kernel_rfl), hfr 2 (by kernel_rfl), hfr 3 (by kernel_rfl), hfr 4 (by kernel_rfl), hfr 5 (by kernel_rfl), hfr 7 (by kernel_rfl), hfr 8 (by kernel_rfl), hfr 9 (by kernel_rfl), hfr 10 (by kernel_rfl), hfr 11 (by kernel_rfl), hfr 12 (by kernel_rfl), hfr 13 (by kernel_rfl), hfr 14 (by kernel_rfl), hfr 15 (by kernel_rfl), hfr 16 (by kernel_rfl), hfr 17 (by kernel_rfl), hfr 18 (by kernel_rfl), hfr 19 (by kernel_rfl), hfr 20 (by kernel_rfl), hfr 21 (by kernel_rfl), hfr 22 (by kernel_rfl), hfr 23 (by kernel_rfl), hfr 24 (by kernel_rfl), hfr 25 (by kernel_rfl), hfr 26 (by kernel_rfl), hfr 27 (by kernel_rfl), hfr 28 (by kernel_rfl), hfr 29 (by kernel_rfl), hfr 30 (by kernel_rfl), hfr 31 (by kernel_rfl), hfr 32 (by kernel_rfl), hfr 33 (by kernel_rfl), hfr 34 (by kernel_rfl), hfr 35 (by kernel_rfl), hfr 36 (by kernel_rfl), hfr 37 (by kernel_rfl), hfr 38 (by kernel_rfl), hfr 39 (by kernel_rfl), hfr 40 (by kernel_rfl), hfr 41 (by kernel_rfl), hfr 42 (by kernel_rfl), hfr 43 (by kernel_rfl), hfr 44 (by kernel_rfl), hfr 45 (by kernel_rfl), hfr 46 (by kernel_rfl), hfr 47 (by kernel_rfl), hfr 48 (by kernel_rfl), hfr 78 (by kernel_rfl), hfr 79 (by kernel_rfl)]
                generalize tm.getD 6 undef = y6 at *
                generalize tm.getD 49 undef = y49 at *
                generalize tm.getD 50 undef = y50 at *
                generalize tm.getD 51 undef = y51 at *
                generalize tm.getD 52 undef = y52 at *
                generalize tm.getD 53 undef = y53 at *
                generalize tm.getD 54 undef = y54 at *
                generalize tm.getD 55 undef = y55 at *
                generalize tm.getD 56 undef = y56 at *
                generalize tm.getD 57 undef = y57 at *
                generalize tm.getD 58 undef = y58 at *
                generalize tm.getD 59 undef = y59 at *
                generalize tm.getD 60 undef = y60 at *
                generalize tm.getD 61 undef = y61 at *
                generalize tm.getD 62 undef = y62 at *
                generalize tm.getD 63 undef = y63 at *
                generalize tm.getD 64 undef = y64 at *
                generalize tm.getD 65 undef = y65 at *
                generalize tm.getD 66 undef = y66 at *
                generalize tm.getD 67 undef = y67 at *
                generalize tm.getD 68 undef = y68 at *
                generalize tm.getD 69 undef = y69 at *
                generalize tm.getD 70 undef = y70 at *
                generalize tm.getD 71 undef = y71 at *
                generalize tm.getD 72 undef = y72 at *
                generalize tm.getD 73 undef = y73 at *
                generalize tm.getD 74 undef = y74 at *
                generalize tm.getD 75 undef = y75 at *
                generalize tm.getD 76 undef = y76 at *
                generalize tm.getD 77 undef = y77 at *
                clear hfr hsz tm
                simp only [Array.getD_eq_getD_getElem?, List.getElem?_toArray, List.getElem?_cons_succ, List.getElem?_cons_zero, Option.getD_some]
                have h15' : (∃ zs, ruls zs = [⟨[p], [x], C⟩, ⟨[x], [p], C⟩] ∧ Acc w.heap.size w1 y6 (outs ++ zs)) ∧ (ov.ownBlock = y6.ownBlock ∨ ∃ g, y6.ownBlock = some g ∧ V.heap.size ≤ g) := h15
                obtain ⟨⟨zs, hzs, hacc⟩, _⟩ := h15'
                have hzl : zs.length = 2 := by rw [← ruls_length zs, hzs]; rfl
                have HZS := Lib.hid hzs
                have HACN := Lib.hid hacc
                have HB1W : Hid (Below w.heap.size w w1) := HBV.out.drew.grown hg HBV.out.size HLOW.out
                clear h15 hzs hacc hg
                go_wp2
                go_roundw
                case rel => exact ⟨i + 1, row + 1, false, x, outs ++ zs, by omega, by go_num, by omega, by go_num, by first | rfl | trivial, by simp [hzl]; omega, HACN.out, by show _ = _; rw [ruls_app, HZS.out, List.append_assoc, ← HRN.out]; exact HRL.out, HOKN.out, HPN.out, HB1W.out⟩
                case measure => simp [intOf]; omega
        · by_cases h12 : row + 1 ≤ 12
          · have h12i : (row : Int) + 1 ≤ 12 := by omega
            have hd12 : decide ((row : Int) + 1 ≤ 12) = true := by rw [decide_eq_true_iff]; exact h12i
            by_cases h95 : x = 95
            · have h95e : (x != 95) = false := by simpa using h95
              have HOKN : Hid ((false && Spec.keysOk (row + 1) (l.drop (i + 1))) = ok) := by
                show _ = _
                rw [← HOKB.out, HON.out, h95]; simp
              clear h95
              by_cases hrow : row = 0
              · have hr1 : ¬ (1 : Int) < (row : Int) + 1 := by omega
                have hd1 : decide ((1 : Int) < (row : Int) + 1) = false := by rw [decide_eq_false_iff_not]; exact hr1
                have HRN : Hid (Spec.keysG C row p (l.drop i) = Spec.keysG C (row + 1) x (l.drop (i + 1))) := by
                  show _ = _
                  rw [HDR.out]
                  show (if x = 124 then _ else _) = _
                  rw [if_neg HNE.out, if_neg (fun h => by omega), List.nil_append]
                go_wp2
                go_quiet (fail)
                go_wp2
                go_roundw
                case rel => exact ⟨i + 1, row + 1, false, x, outs, by omega, by go_num, by omega, by go_num, by first | rfl | trivial, by omega, HAC.out.drawn ⟨_, rfl⟩, by show _ = _; rw [← HRN.out]; exact HRL.out, HOKN.out, HPN.out, below_drawn HBW.out ⟨_, rfl⟩⟩
                case measure => simp [intOf]; omega
              · have hr1 : (1 : Int) < (row : Int) + 1 := by omega
                have hd1 : decide ((1 : Int) < (row : Int) + 1) = true := by rw [decide_eq_true_iff]; exact hr1
                have HI0 : Hid (0 < i) := by show _ < _; omega
                have hpe := HP.out (by omega)
                have HPE := Lib.hid hpe
                have hp1 := HC1.out (i - 1) _ (by omega) HBW.out
                rw [← HPE.out] at hp1
                have hsub : IntKind.i64.wrap ((i : Int) - 1) = (i : Int) - 1 := by rw [IntKind.wrap_i64]; omega
                have hnat : ((i : Int) - 1).toNat = i - 1 := by omega
                have hlt1 : (i : Int) - 1 < (n : Int) := by omega
                have hge1 : (0 : Int) ≤ (i : Int) - 1 := by omega
                clear hpe
                by_cases hxp : x = p
                · have he : (x != p) = false := by simpa using hxp
                  have HRN : Hid (Spec.keysG C row p (l.drop i) = Spec.keysG C (row + 1) x (l.drop (i + 1))) := by
                    show _ = _
                    rw [HDR.out]
                    show (if x = 124 then _ else _) = _
                    rw [if_neg HNE.out, if_neg (fun h => h.2 hxp), List.nil_append]
                  clear hxp
                  go_wp2
                  go_quiet (fail)
                  go_wp2
                  go_roundw
                  case rel => exact ⟨i + 1, row + 1, false, x, outs, by omega, by go_num, by omega, by go_num, by first | rfl | trivial, by omega, HAC.out.drawn ⟨_, rfl⟩, by show _ = _; rw [← HRN.out]; exact HRL.out, HOKN.out, HPN.out, below_drawn HBW.out ⟨_, rfl⟩⟩
                  case measure => simp [intOf]; omega
                · have he : (x != p) = true := by simpa using hxp
                  have HRN : Hid (Spec.keysG C row p (l.drop i) = [⟨[p], [x], C⟩, ⟨[x], [p], C⟩] ++ Spec.keysG C (row + 1) x (l.drop (i + 1))) := by
                    show _ = _
                    rw [HDR.out]
                    show (if x = 124 then _ else _) = _
                    rw [if_neg HNE.out, if_pos ⟨by omega, hxp⟩]
                    rfl
                  clear hxp
                  go_wp2
                  go_quiet (fail)
                  go_wp2_with fail
                  generalize hV : World.drewN _ _ = V
                  have HAV : Hid (Acc w.heap.size V ov outs) := by rw [← hV]; exact HAC.out.drawn ⟨_, rfl⟩
                  have HBV : Hid (Below w.heap.size w V) := by rw [← hV]; exact below_drawn HBW.out ⟨_, rfl⟩
                  have HBA : Hid (w.heap.size ≤ V.drew.heap.size) := HBV.out.size
                  have HROW : Hid (∀ g, ov.ownBlock = some g → g < V.heap.size) := fun g hg => (HAV.out.1.lt g hg).2
                  have HLOW : Hid (∀ g, ov.ownBlock = some g → w.heap.size ≤ g) := fun g hg => (HAV.out.1.lt g hg).1
                  have HC64 := Lib.hid hC
                  have HCX : Hid (∀ w1, V.drew.grownBy w1 ov.ownBlock → w1.cell? ⟨b1, o1 + i, none⟩ = some (.int .i64 x)) := fun w1 hg => by
                    rw [HX.out]; exact HC1.out i _ hlt (HBV.out.drew.grown hg HBV.out.size HLOW.out)
                  have HCP : Hid (∀ w1, V.drew.grownBy w1 ov.ownBlock → w1.cell? ⟨b1, o1 + (i - 1), none⟩ = some (.int .i64 p)) := fun w1 hg => by
                    rw [HPE.out]; exact HC1.out (i - 1) _ (by omega) (HBV.out.drew.grown hg HBV.out.size HLOW.out)
                  have HWF : Hid (∀ z, z = x ∨ z = p → (Lit.int .i64 z).wf = true) := fun z hz => by
                    rcases hz with rfl | rfl
                    · rw [HX.out]; exact HWA.out i hlt
                    · rw [HPE.out]; exact HWA.out (i - 1) (by omega)
                  clear hV hx1 hp1
                  refine wp_region_table' HMX.out 28 [.val ov, .val (.slice (some ⟨b1, o1, none⟩) n cap), .val (.int .i64 (i : Int)), .val (.int .i64 ((i - 1 : Nat) : Int)), .val (.pointer (some ⟨b1, o1 + (i - 1), none⟩)), .val (.int .i64 p), .one p, .val (.slice (some ⟨b1, o1, none⟩) n cap), .val (.int .i64 (i : Int)), .val (.pointer (some ⟨b1, o1 + i, none⟩)), .val (.int .i64 x), .one x, .val (.int .u64 C), .rule ⟨[p], [x], C⟩, .val (.slice (some ⟨b1, o1, none⟩) n cap), .val (.int .i64 (i : Int)), .val (.pointer (some ⟨b1, o1 + i, none⟩)), .val (.int .i64 x), .one x, .val (.slice (some ⟨b1, o1, none⟩) n cap), .val (.int .i64 (i : Int)), .val (.int .i64 ((i - 1 : Nat) : Int)), .val (.pointer (some ⟨b1, o1 + (i - 1), none⟩)), .val (.int .i64 p), .one p, .val (.int .u64 C), .rule ⟨[x], [p], C⟩, .rules [⟨[p], [x], C⟩, ⟨[x], [p], C⟩], .out [⟨[p], [x], C⟩, ⟨[x], [p], C⟩], .out [⟨[p], [x], C⟩, ⟨[x], [p], C⟩]] w.heap.size outs ov (by kernel_rfl) (by rfl) HAV.out HBV.out.size (fun i1 o ho a1 w1 hg hacc1 hw ht => ?_) (fun tm w1 hsz hg hfr hto => ?_)
                  · have hLn := HL
                    match i1, ho with
                    | 0, ho =>
                      obtain rfl := Option.some.inj ho
                      exact StepsTo.move rfl (.tmp 6) (.inl rfl) ⟨(hw 6 (by kernel_rfl)), World.grownBy.refl _ _, fun _ => World.grownBy.refl _ _⟩
                    | 1, ho =>
                      obtain rfl := Option.some.inj ho
                      exact StepsTo.move rfl (.tmp 0) (.inl rfl) ⟨(hw 0 (by kernel_rfl)), World.grownBy.refl _ _, fun _ => World.grownBy.refl _ _⟩
                    | 2, ho =>
                      obtain rfl := Option.some.inj ho
                      exact StepsTo.move rfl (.tmp 9) (.inl rfl) ⟨(hw 9 (by kernel_rfl)), World.grownBy.refl _ _, fun _ => World.grownBy.refl _ _⟩
                    | 3, ho =>
                      obtain rfl := Option.some.inj ho
                      exact steps_sub1 rfl (.tmp 51) _ _ rfl (k := i) HI0.out (ht 2 51 (by kernel_rfl)) (by omega) ⟨rfl, World.grownBy.refl _ _, fun _ => World.grownBy.refl _ _⟩
                    | 4, ho =>
                      obtain rfl := Option.some.inj ho
                      exact steps_index rfl (.tmp 50) (.tmp 52) rfl (ht 1 50 (by kernel_rfl)) (ht 3 52 (by kernel_rfl)) (by omega) ⟨rfl, World.grownBy.refl _ _, fun _ => World.grownBy.refl _ _⟩
                    | 5, ho =>
                      obtain rfl := Option.some.inj ho
                      exact steps_load rfl (.tmp 53) rfl (ht 4 53 (by kernel_rfl)) (HCP.out _ hg) ⟨rfl, World.grownBy.refl _ _, fun _ => World.grownBy.refl _ _⟩
                    | 6, ho =>
                      obtain rfl := Option.some.inj ho
                      exact steps_slice1 rfl (.tmp 54) rfl (ht 5 54 (by kernel_rfl)) ⟨newOne_alloc hg.size (HWF.out _ (.inr rfl)), World.grownBy_alloc _ _ _, fun _ => World.grownBy_alloc _ _ _⟩
                    | 7, ho =>
                      obtain rfl := Option.some.inj ho
                      exact StepsTo.move rfl (.tmp 0) (.inl rfl) ⟨(hw 0 (by kernel_rfl)), World.grownBy.refl _ _, fun _ => World.grownBy.refl _ _⟩
                    | 8, ho =>
                      obtain rfl := Option.some.inj ho
                      exact StepsTo.move rfl (.tmp 9) (.inl rfl) ⟨(hw 9 (by kernel_rfl)), World.grownBy.refl _ _, fun _ => World.grownBy.refl _ _⟩
                    | 9, ho =>
                      obtain rfl := Option.some.inj ho
                      exact steps_index rfl (.tmp 56) (.tmp 57) rfl (ht 7 56 (by kernel_rfl)) (ht 8 57 (by kernel_rfl)) hlt ⟨rfl, World.grownBy.refl _ _, fun _ => World.grownBy.refl _ _⟩
                    | 10, ho =>
                      obtain rfl := Option.some.inj ho
                      exact steps_load rfl (.tmp 58) rfl (ht 9 58 (by kernel_rfl)) (HCX.out _ hg) ⟨rfl, World.grownBy.refl _ _, fun _ => World.grownBy.refl _ _⟩
                    | 11, ho =>
                      obtain rfl := Option.some.inj ho
                      exact steps_slice1 rfl (.tmp 59) rfl (ht 10 59 (by kernel_rfl)) ⟨newOne_alloc hg.size (HWF.out _ (.inl rfl)), World.grownBy_alloc _ _ _, fun _ => World.grownBy_alloc _ _ _⟩
                    | 12, ho =>
                      obtain rfl := Option.some.inj ho
                      exact StepsTo.move rfl (.tmp 1) (.inl rfl) ⟨(hw 1 (by kernel_rfl)), World.grownBy.refl _ _, fun _ => World.grownBy.refl _ _⟩
                    | 13, ho =>
                      obtain rfl := Option.some.inj ho
                      obtain ⟨p, q, e1, e2, hr⟩ := newRule_of (ht 6 55 (by kernel_rfl)) (ht 11 60 (by kernel_rfl)) HC64.out
                      exact steps_rule rfl (.tmp 55) (.tmp 60) (.tmp 61) rfl e1 e2 (ht 12 61 (by kernel_rfl)) ⟨hr, World.grownBy.refl _ _, fun _ => World.grownBy.refl _ _⟩
                    | 14, ho =>
                      obtain rfl := Option.some.inj ho
                      exact StepsTo.move rfl (.tmp 0) (.inl rfl) ⟨(hw 0 (by kernel_rfl)), World.grownBy.refl _ _, fun _ => World.grownBy.refl _ _⟩
                    | 15, ho =>
                      obtain rfl := Option.some.inj ho
                      exact StepsTo.move rfl (.tmp 9) (.inl rfl) ⟨(hw 9 (by kernel_rfl)), World.grownBy.refl _ _, fun _ => World.grownBy.refl _ _⟩
                    | 16, ho =>
                      obtain rfl := Option.some.inj ho
                      exact steps_index rfl (.tmp 63) (.tmp 64) rfl (ht 14 63 (by kernel_rfl)) (ht 15 64 (by kernel_rfl)) hlt ⟨rfl, World.grownBy.refl _ _, fun _ => World.grownBy.refl _ _⟩
                    | 17, ho =>
                      obtain rfl := Option.some.inj ho
                      exact steps_load rfl (.tmp 65) rfl (ht 16 65 (by kernel_rfl)) (HCX.out _ hg) ⟨rfl, World.grownBy.refl _ _, fun _ => World.grownBy.refl _ _⟩
                    | 18, ho =>
                      obtain rfl := Option.some.inj ho
                      exact steps_slice1 rfl (.tmp 66) rfl (ht 17 66 (by kernel_rfl)) ⟨newOne_alloc hg.size (HWF.out _ (.inl rfl)), World.grownBy_alloc _ _ _, fun _ => World.grownBy_alloc _ _ _⟩
                    | 19, ho =>
                      obtain rfl := Option.some.inj ho
                      exact StepsTo.move rfl (.tmp 0) (.inl rfl) ⟨(hw 0 (by kernel_rfl)), World.grownBy.refl _ _, fun _ => World.grownBy.refl _ _⟩
                    | 20, ho =>
                      obtain rfl := Option.some.inj ho
                      exact StepsTo.move rfl (.tmp 9) (.inl rfl) ⟨(hw 9 (by kernel_rfl)), World.grownBy.refl _ _, fun _ => World.grownBy.refl _ _⟩
                    | 21, ho =>
                      obtain rfl := Option.some.inj ho
                      exact steps_sub1 rfl (.tmp 69) _ _ rfl (k := i) HI0.out (ht 20 69 (by kernel_rfl)) (by omega) ⟨rfl, World.grownBy.refl _ _, fun _ => World.grownBy.refl _ _⟩
                    | 22, ho =>
                      obtain rfl := Option.some.inj ho
                      exact steps_index rfl (.tmp 68) (.tmp 70) rfl (ht 19 68 (by kernel_rfl)) (ht 21 70 (by kernel_rfl)) (by omega) ⟨rfl, World.grownBy.refl _ _, fun _ => World.grownBy.refl _ _⟩
                    | 23, ho =>
                      obtain rfl := Option.some.inj ho
                      exact steps_load rfl (.tmp 71) rfl (ht 22 71 (by kernel_rfl)) (HCP.out _ hg) ⟨rfl, World.grownBy.refl _ _, fun _ => World.grownBy.refl _ _⟩
                    | 24, ho =>
                      obtain rfl := Option.some.inj ho
                      exact steps_slice1 rfl (.tmp 72) rfl (ht 23 72 (by kernel_rfl)) ⟨newOne_alloc hg.size (HWF.out _ (.inr rfl)), World.grownBy_alloc _ _ _, fun _ => World.grownBy_alloc _ _ _⟩
                    | 25, ho =>
                      obtain rfl := Option.some.inj ho
                      exact StepsTo.move rfl (.tmp 1) (.inl rfl) ⟨(hw 1 (by kernel_rfl)), World.grownBy.refl _ _, fun _ => World.grownBy.refl _ _⟩
                    | 26, ho =>
                      obtain rfl := Option.some.inj ho
                      obtain ⟨p, q, e1, e2, hr⟩ := newRule_of (ht 18 67 (by kernel_rfl)) (ht 24 73 (by kernel_rfl)) HC64.out
                      exact steps_rule rfl (.tmp 67) (.tmp 73) (.tmp 74) rfl e1 e2 (ht 25 74 (by kernel_rfl)) ⟨hr, World.grownBy.refl _ _, fun _ => World.grownBy.refl _ _⟩
                    | 27, ho =>
                      obtain rfl := Option.some.inj ho
                      obtain ⟨X, e1, hX, hr, hh⟩ := (ht 13 62 (by kernel_rfl))
                      obtain ⟨Y, e2, hY, hr2, hh2⟩ := (ht 26 75 (by kernel_rfl))
                      exact steps_rules2 rfl (.tmp 62) (.tmp 75) rfl e1 e2 ⟨by have h := newRules_alloc (w := w1) hg.size [X, Y] (by intro x hx; simp only [List.mem_cons, List.not_mem_nil, or_false] at hx; rcases hx with rfl | rfl <;> first | exact ⟨hX, hh⟩ | exact ⟨hY, hh2⟩) (by simp); rw [show ruls [X, Y] = [X.r, Y.r] from rfl, hr, hr2] at h; exact h, World.grownBy_alloc _ _ _, fun _ => World.grownBy_alloc _ _ _⟩
                    | 28, ho =>
                      obtain rfl := Option.some.inj ho
                      exact steps_append rfl (.tmp 49) (.tmp 76) rfl (ht 0 49 (by kernel_rfl)) (hacc1 rfl) HROW.out rfl (ht 27 76 (by kernel_rfl)) (by simp) (by simp; omega) (Nat.le_trans HBA.out hg.size) (fun v' w' zs hz ha hgr hat => ⟨⟨⟨zs, hz, ha⟩, hat.imp id fun h => ⟨_, h, hg.size⟩⟩, hgr, fun hne => absurd rfl hne⟩)
                    | 29, ho =>
                      obtain rfl := Option.some.inj ho
                      exact StepsTo.move rfl (.tmp 77) (.inr rfl) ⟨(ht 28 77 (by kernel_rfl)), World.grownBy.refl _ _, fun _ => World.grownBy.refl _ _⟩
                    | j1 + 30, ho => exact absurd (Array.getElem?_eq_some_iff.1 ho).1 (by simp)
                  · have h15 := hto 29 6 (by kernel_rfl)
                    clear hto
                    rw [act_lit tm (show tm.size = 80 from hsz)]
                    simp only [List.range, List.range.loop, List.map_cons, List.map_nil]
                    rw [hfr 0 (by kernel_rfl), hfr 1 (by kernel_rfl), hfr 2 (by kernel_rfl), hfr 3 (by kernel_rfl), hfr 4 (by kernel_rfl), hfr 5 (by kernel_rfl), hfr 7 (by kernel_rfl), hfr 8 (by kernel_rfl), hfr 9 (by kernel_rfl), hfr 10 (by kernel_rfl), hfr 11 (by kernel_rfl), hfr 12 (by kernel_rfl), hfr 13 (by kernel_rfl), hfr 14 (by kernel_rfl), hfr 15 (by kernel_rfl), hfr 16 (by kernel_rfl), hfr 17 (by kernel_rfl), hfr 18 (by kernel_rfl), hfr 19 (by kernel_rfl), hfr 20 (by kernel_rfl), hfr 21 (by kernel_rfl), hfr 22 (by kernel_rfl), hfr 23 (by kernel_rfl), hfr 24 (by kernel_rfl), hfr 25 (by kernel_rfl), hfr 26 (by kernel_rfl), hfr 27 (by kernel_rfl), hfr 28 (by kernel_rfl), hfr 29 (by kernel_rfl), hfr 30 (by kernel_rfl), hfr 31 (by kernel_rfl), hfr 32 (by kernel_rfl), hfr 33 (by kernel_rfl), hfr 34 (by kernel_rfl), hfr 35 (by kernel_rfl), hfr 36 (by kernel_rfl), hfr 37 (by kernel_rfl), hfr 38 (by kernel_rfl), hfr 39 (by kernel_rfl), hfr 40 (by kernel_rfl), hfr 41 (by kernel_rfl), hfr 42 (by kernel_rfl), hfr 43 (by kernel_rfl), hfr 44 (by kernel_rfl), hfr 45 (by kernel_rfl), hfr 46 (by kernel_rfl), hfr 47 (by kernel_rfl), hfr 48 (by kernel_rfl), hfr 78 (by kernel_rfl), hfr 79 (by kernel_rfl)]
                    generalize tm.getD 6 undef = y6 at *
                    generalize tm.getD 49 undef = y49 at *
                    generalize tm.getD 50 undef = y50 at *
                    generalize tm.getD 51 undef = y51 at *
                    generalize tm.getD 52 undef = y52 at *
                    generalize tm.getD 53 undef = y53 at *
                    generalize tm.getD 54 undef = y54 at *
                    generalize tm.getD 55 undef = y55 at *
                    generalize tm.getD 56 undef = y56 at *
                    generalize tm.getD 57 undef = y57 at *
                    generalize tm.getD 58 undef = y58 at *
                    generalize tm.getD 59 undef = y59 at *
                    generalize tm.getD 60 undef = y60 at *
                    generalize tm.getD 61 undef = y61 at *
                    generalize tm.getD 62 undef = y62 at *
                    generalize tm.getD 63 undef = y63 at *
                    generalize tm.getD 64 undef = y64 at *
                    generalize tm.getD 65 undef = y65 at *
                    generalize tm.getD 66 undef = y66 at *
                    generalize tm.getD 67 undef = y67 at *
                    generalize tm.getD 68 undef = y68 at *
                    generalize tm.getD 69 undef = y69 at *
                    generalize tm.getD 70 undef = y70 at *
                    generalize tm.getD 71 undef = y71 at *
                    generalize tm.getD 72 undef = y72 at *
                    generalize tm.getD 73 undef = y73 at *
                    generalize tm.getD 74 undef = y74 at *
                    generalize tm.getD 75 undef = y75 at *
                    generalize tm.getD 76 undef = y76 at *
                    generalize tm.getD 77 undef = y77 at *
                    clear hfr hsz tm
                    simp only [Array.getD_eq_getD_getElem?, List.getElem?_toArray, List.getElem?_cons_succ, List.getElem?_cons_zero, Option.getD_some]
                    have h15' : (∃ zs, ruls zs = [⟨[p], [x], C⟩, ⟨[x], [p], C⟩] ∧ Acc w.heap.size w1 y6 (outs ++ zs)) ∧ (ov.ownBlock = y6.ownBlock ∨ ∃ g, y6.ownBlock = some g ∧ V.heap.size ≤ g) := h15
                    obtain ⟨⟨zs, hzs, hacc⟩, _⟩ := h15'
                    have hzl : zs.length = 2 := by rw [← ruls_length zs, hzs]; rfl
                    have HZS := Lib.hid hzs
                    have HACN := Lib.hid hacc
                    have HB1W : Hid (Below w.heap.size w w1) := HBV.out.drew.grown hg HBV.out.size HLOW.out
                    clear h15 hzs hacc hg
                    go_wp2
                    go_roundw
                    case rel => exact ⟨i + 1, row + 1, false, x, outs ++ zs, by omega, by go_num, by omega, by go_num, by first | rfl | trivial, by simp [hzl]; omega, HACN.out, by show _ = _; rw [ruls_app, HZS.out, List.append_assoc, ← HRN.out]; exact HRL.out, HOKN.out, HPN.out, HB1W.out⟩
                    case measure => simp [intOf]; omega
            · have h95e : (x != 95) = true := by simpa using h95
              have HOKN : Hid ((true && Spec.keysOk (row + 1) (l.drop (i + 1))) = ok) := by
                show _ = _
                rw [← HOKB.out, HON.out, decide_eq_true h12, decide_eq_true h95]; simp
              clear h95
              by_cases hrow : row = 0
              · have hr1 : ¬ (1 : Int) < (row : Int) + 1 := by omega
                have hd1 : decide ((1 : Int) < (row : Int) + 1) = false := by rw [decide_eq_false_iff_not]; exact hr1
                have HRN : Hid (Spec.keysG C row p (l.drop i) = Spec.keysG C (row + 1) x (l.drop (i + 1))) := by
                  show _ = _
                  rw [HDR.out]
                  show (if x = 124 then _ else _) = _
                  rw [if_neg HNE.out, if_neg (fun h => by omega), List.nil_append]
                go_wp2
                go_quiet (fail)
                go_wp2
                go_roundw
                case rel => exact ⟨i + 1, row + 1, true, x, outs, by omega, by go_num, by omega, by go_num, by first | rfl | trivial, by omega, HAC.out.drawn ⟨_, rfl⟩, by show _ = _; rw [← HRN.out]; exact HRL.out, HOKN.out, HPN.out, below_drawn HBW.out ⟨_, rfl⟩⟩
                case measure => simp [intOf]; omega
              · have hr1 : (1 : Int) < (row : Int) + 1 := by omega
                have hd1 : decide ((1 : Int) < (row : Int) + 1) = true := by rw [decide_eq_true_iff]; exact hr1
                have HI0 : Hid (0 < i) := by show _ < _; omega
                have hpe := HP.out (by omega)
                have HPE := Lib.hid hpe
                have hp1 := HC1.out (i - 1) _ (by omega) HBW.out
                rw [← HPE.out] at hp1
                have hsub : IntKind.i64.wrap ((i : Int) - 1) = (i : Int) - 1 := by rw [IntKind.wrap_i64]; omega
                have hnat : ((i : Int) - 1).toNat = i - 1 := by omega
                have hlt1 : (i : Int) - 1 < (n : Int) := by omega
                have hge1 : (0 : Int) ≤ (i : Int) - 1 := by omega
                clear hpe
                by_cases hxp : x = p
                · have he : (x != p) = false := by simpa using hxp
                  have HRN : Hid (Spec.keysG C row p (l.drop i) = Spec.keysG C (row + 1) x (l.drop (i + 1))) := by
                    show _ = _
                    rw [HDR.out]
                    show (if x = 124 then _ else _) = _
                    rw [if_neg HNE.out, if_neg (fun h => h.2 hxp), List.nil_append]
                  clear hxp
                  go_wp2
                  go_quiet (fail)
                  go_wp2
                  go_roundw
                  case rel => exact ⟨i + 1, row + 1, true, x, outs, by omega, by go_num, by omega, by go_num, by first | rfl | trivial, by omega, HAC.out.drawn ⟨_, rfl⟩, by show _ = _; rw [← HRN.out]; exact HRL.out, HOKN.out, HPN.out, below_drawn HBW.out ⟨_, rfl⟩⟩
                  case measure => simp [intOf]; omega
                · have he : (x != p) = true := by simpa using hxp
                  have HRN : Hid (Spec.keysG C row p (l.drop i) = [⟨[p], [x], C⟩, ⟨[x], [p], C⟩] ++ Spec.keysG C (row + 1) x (l.drop (i + 1))) := by
                    show _ = _
                    rw [HDR.out]
                    show (if x = 124 then _ else _) = _
                    rw [if_neg HNE.out, if_pos ⟨by omega, hxp⟩]
                    rfl
                  clear hxp
                  go_wp2
                  go_quiet (fail)
                  go_wp2_with fail
                  generalize hV : World.drewN _ _ = V
                  have HAV : Hid (Acc w.heap.size V ov outs) := by rw [← hV]; exact HAC.out.drawn ⟨_, rfl⟩
                  have HBV : Hid (Below w.heap.size w V) := by rw [← hV]; exact below_drawn HBW.out ⟨_, rfl⟩
                  have HBA : Hid (w.heap.size ≤ V.drew.heap.size) := HBV.out.size
                  have HROW : Hid (∀ g, ov.ownBlock = some g → g < V.heap.size) := fun g hg => (HAV.out.1.lt g hg).2
                  have HLOW : Hid (∀ g, ov.ownBlock = some g → w.heap.size ≤ g) := fun g hg => (HAV.out.1.lt g hg).1
                  have HC64 := Lib.hid hC
                  have HCX : Hid (∀ w1, V.drew.grownBy w1 ov.ownBlock → w1.cell? ⟨b1, o1 + i, none⟩ = some (.int .i64 x)) := fun w1 hg => by
                    rw [HX.out]; exact HC1.out i _ hlt (HBV.out.drew.grown hg HBV.out.size HLOW.out)
                  have HCP : Hid (∀ w1, V.drew.grownBy w1 ov.ownBlock → w1.cell? ⟨b1, o1 + (i - 1), none⟩ = some (.int .i64 p)) := fun w1 hg => by
                    rw [HPE.out]; exact HC1.out (i - 1) _ (by omega) (HBV.out.drew.grown hg HBV.out.size HLOW.out)
                  have HWF : Hid (∀ z, z = x ∨ z = p → (Lit.int .i64 z).wf = true) := fun z hz => by
                    rcases hz with rfl | rfl
                    · rw [HX.out]; exact HWA.out i hlt
                    · rw [HPE.out]; exact HWA.out (i - 1) (by omega)
                  clear hV hx1 hp1
                  refine wp_region_table' HMX.out 28 [.val ov, .val (.slice (some ⟨b1, o1, none⟩) n cap), .val (.int .i64 (i : Int)), .val (.int .i64 ((i - 1 : Nat) : Int)), .val (.pointer (some ⟨b1, o1 + (i - 1), none⟩)), .val (.int .i64 p), .one p, .val (.slice (some ⟨b1, o1, none⟩) n cap), .val (.int .i64 (i : Int)), .val (.pointer (some ⟨b1, o1 + i, none⟩)), .val (.int .i64 x), .one x, .val (.int .u64 C), .rule ⟨[p], [x], C⟩, .val (.slice (some ⟨b1, o1, none⟩) n cap), .val (.int .i64 (i : Int)), .val (.pointer (some ⟨b1, o1 + i, none⟩)), .val (.int .i64 x), .one x, .val (.slice (some ⟨b1, o1, none⟩) n cap), .val (.int .i64 (i : Int)), .val (.int .i64 ((i - 1 : Nat) : Int)), .val (.pointer (some ⟨b1, o1 + (i - 1), none⟩)), .val (.int .i64 p), .one p, .val (.int .u64 C), .rule ⟨[x], [p], C⟩, .rules [⟨[p], [x], C⟩, ⟨[x], [p], C⟩], .out [⟨[p], [x], C⟩, ⟨[x], [p], C⟩], .out [⟨[p], [x], C⟩, ⟨[x], [p], C⟩]] w.heap.size outs ov (by kernel_rfl) (by rfl) HAV.out HBV.out.size (fun i1 o ho a1 w1 hg hacc1 hw ht => ?_) (fun tm w1 hsz hg hfr hto => ?_)
                  · have hLn := HL
                    match i1, ho with
                    | 0, ho =>
                      obtain rfl := Option.some.inj ho
                      exact StepsTo.move rfl (.tmp 6) (.inl rfl) ⟨(hw 6 (by kernel_rfl)), World.grownBy.refl _ _, fun _ => World.grownBy.refl _ _⟩
                    | 1, ho =>
                      obtain rfl := Option.some.inj ho
                      exact StepsTo.move rfl (.tmp 0) (.inl rfl) ⟨(hw 0 (by kernel_rfl)), World.grownBy.refl _ _, fun _ => World.grownBy.refl _ _⟩
                    | 2, ho =>
                      obtain rfl := Option.some.inj ho
                      exact StepsTo.move rfl (.tmp 9) (.inl rfl) ⟨(hw 9 (by kernel_rfl)), World.grownBy.refl _ _, fun _ => World.grownBy.refl _ _⟩
                    | 3, ho =>
                      obtain rfl := Option.some.inj ho
                      exact steps_sub1 rfl (.tmp 51) _ _ rfl (k := i) HI0.out (ht 2 51 (by kernel_rfl)) (by omega) ⟨rfl, World.grownBy.refl _ _, fun _ => World.grownBy.refl _ _⟩
                    | 4, ho =>
                      obtain rfl := Option.some.inj ho
                      exact steps_index rfl (.tmp 50) (.tmp 52) rfl (ht 1 50 (by kernel_rfl)) (ht 3 52 (by kernel_rfl)) (by omega) ⟨rfl, World.grownBy.refl _ _, fun _ => World.grownBy.refl _ _⟩
                    | 5, ho =>
                      obtain rfl := Option.some.inj ho
                      exact steps_load rfl (.tmp 53) rfl (ht 4 53 (by kernel_rfl)) (HCP.out _ hg) ⟨rfl, World.grownBy.refl _ _, fun _ => World.grownBy.refl _ _⟩
                    | 6, ho =>
                      obtain rfl := Option.some.inj ho
                      exact steps_slice1 rfl (.tmp 54) rfl (ht 5 54 (by kernel_rfl)) ⟨newOne_alloc hg.size (HWF.out _ (.inr rfl)), World.grownBy_alloc _ _ _, fun _ => World.grownBy_alloc _ _ _⟩
                    | 7, ho =>
                      obtain rfl := Option.some.inj ho
                      exact StepsTo.move rfl (.tmp 0) (.inl rfl) ⟨(hw 0 (by kernel_rfl)), World.grownBy.refl _ _, fun _ => World.grownBy.refl _ _⟩
                    | 8, ho =>
                      obtain rfl := Option.some.inj ho
                      exact StepsTo.move rfl (.tmp 9) (.inl rfl) ⟨(hw 9 (by kernel_rfl)), World.grownBy.refl _ _, fun _ => World.grownBy.refl _ _⟩
                    | 9, ho =>
                      obtain rfl := Option.some.inj ho
                      exact steps_index rfl (.tmp 56) (.tmp 57) rfl (ht 7 56 (by kernel_rfl)) (ht 8 57 (by kernel_rfl)) hlt ⟨rfl, World.grownBy.refl _ _, fun _ => World.grownBy.refl _ _⟩
                    | 10, ho =>
                      obtain rfl := Option.some.inj ho
                      exact steps_load rfl (.tmp 58) rfl (ht 9 58 (by kernel_rfl)) (HCX.out _ hg) ⟨rfl, World.grownBy.refl _ _, fun _ => World.grownBy.refl _ _⟩
                    | 11, ho =>
                      obtain rfl := Option.some.inj ho
                      exact steps_slice1 rfl (.tmp 59) rfl (ht 10 59 (by kernel_rfl)) ⟨newOne_alloc hg.size (HWF.out _ (.inl rfl)), World.grownBy_alloc _ _ _, fun _ => World.grownBy_alloc _ _ _⟩
                    | 12, ho =>
                      obtain rfl := Option.some.inj ho
                      exact StepsTo.move rfl (.tmp 1) (.inl rfl) ⟨(hw 1 (by kernel_rfl)), World.grownBy.refl _ _, fun _ => World.grownBy.refl _ _⟩
                    | 13, ho =>
                      obtain rfl := Option.some.inj ho
                      obtain ⟨p, q, e1, e2, hr⟩ := newRule_of (ht 6 55 (by kernel_rfl)) (ht 11 60 (by kernel_rfl)) HC64.out
                      exact steps_rule rfl (.tmp 55) (.tmp 60) (.tmp 61) rfl e1 e2 (ht 12 61 (by kernel_rfl)) ⟨hr, World.grownBy.refl _ _, fun _ => World.grownBy.refl _ _⟩
                    | 14, ho =>
                      obtain rfl := Option.some.inj ho
                      exact StepsTo.move rfl (.tmp 0) (.inl rfl) ⟨(hw 0 (by kernel_rfl)), World.grownBy.refl _ _, fun _ => World.grownBy.refl _ _⟩
                    | 15, ho =>
                      obtain rfl := Option.some.inj ho
                      exact StepsTo.move rfl (.tmp 9) (.inl rfl) ⟨(hw 9 (by kernel_rfl)), World.grownBy.refl _ _, fun _ => World.grownBy.refl _ _⟩
                    | 16, ho =>
                      obtain rfl := Option.some.inj ho
                      exact steps_index rfl (.tmp 63) (.tmp 64) rfl (ht 14 63 (by kernel_rfl)) (ht 15 64 (by kernel_rfl)) hlt ⟨rfl, World.grownBy.refl _ _, fun _ => World.grownBy.refl _ _⟩
                    | 17, ho =>
                      obtain rfl := Option.some.inj ho
                      exact steps_load rfl (.tmp 65) rfl (ht 16 65 (by kernel_rfl)) (HCX.out _ hg) ⟨rfl, World.grownBy.refl _ _, fun _ => World.grownBy.refl _ _⟩
                    | 18, ho =>
                      obtain rfl := Option.some.inj ho
                      exact steps_slice1 rfl (.tmp 66) rfl (ht 17 66 (by kernel_rfl)) ⟨newOne_alloc hg.size (HWF.out _ (.inl rfl)), World.grownBy_alloc _ _ _, fun _ => World.grownBy_alloc _ _ _⟩
                    | 19, ho =>
                      obtain rfl := Option.some.inj ho
                      exact StepsTo.move rfl (.tmp 0) (.inl rfl) ⟨(hw 0 (by kernel_rfl)), World.grownBy.refl _ _, fun _ => World.grownBy.refl _ _⟩
                    | 20, ho =>
                      obtain rfl := Option.some.inj ho
                      exact StepsTo.move rfl (.tmp 9) (.inl rfl) ⟨(hw 9 (by kernel_rfl)), World.grownBy.refl _ _, fun _ => World.grownBy.refl _ _⟩
                    | 21, ho =>
                      obtain rfl := Option.some.inj ho
                      exact steps_sub1 rfl (.tmp 69) _ _ rfl (k := i) HI0.out (ht 20 69 (by kernel_rfl)) (by omega) ⟨rfl, World.grownBy.refl _ _, fun _ => World.grownBy.refl _ _⟩
                    | 22, ho =>
                      obtain rfl := Option.some.inj ho
                      exact steps_index rfl (.tmp 68) (.tmp 70) rfl (ht 19 68 (by kernel_rfl)) (ht 21 70 (by kernel_rfl)) (by omega) ⟨rfl, World.grownBy.refl _ _, fun _ => World.grownBy.refl _ _⟩
                    | 23, ho =>
                      obtain rfl := Option.some.inj ho
                      exact steps_load rfl (.tmp 71) rfl (ht 22 71 (by kernel_rfl)) (HCP.out _ hg) ⟨rfl, World.grownBy.refl _ _, fun _ => World.grownBy.refl _ _⟩
                    | 24, ho =>
                      obtain rfl := Option.some.inj ho
                      exact steps_slice1 rfl (.tmp 72) rfl (ht 23 72 (by kernel_rfl)) ⟨newOne_alloc hg.size (HWF.out _ (.inr rfl)), World.grownBy_alloc _ _ _, fun _ => World.grownBy_alloc _ _ _⟩
                    | 25, ho =>
                      obtain rfl := Option.some.inj ho
                      exact StepsTo.move rfl (.tmp 1) (.inl rfl) ⟨(hw 1 (by kernel_rfl)), World.grownBy.refl _ _, fun _ => World.grownBy.refl _ _⟩
                    | 26, ho =>
                      obtain rfl := Option.some.inj ho
                      obtain ⟨p, q, e1, e2, hr⟩ := newRule_of (ht 18 67 (by kernel_rfl)) (ht 24 73 (by kernel_rfl)) HC64.out
                      exact steps_rule rfl (.tmp 67) (.tmp 73) (.tmp 74) rfl e1 e2 (ht 25 74 (by kernel_rfl)) ⟨hr, World.grownBy.refl _ _, fun _ => World.grownBy.refl _ _⟩
                    | 27, ho =>
                      obtain rfl := Option.some.inj ho
                      obtain ⟨X, e1, hX, hr, hh⟩ := (ht 13 62 (by kernel_rfl))
                      obtain ⟨Y, e2, hY, hr2, hh2⟩ := (ht 26 75 (by kernel_rfl))
                      exact steps_rules2 rfl (.tmp 62) (.tmp 75) rfl e1 e2 ⟨by have h := newRules_alloc (w := w1) hg.size [X, Y] (by intro x hx; simp only [List.mem_cons, List.not_mem_nil, or_false] at hx; rcases hx with rfl | rfl <;> first | exact ⟨hX, hh⟩ | exact ⟨hY, hh2⟩) (by simp); rw [show ruls [X, Y] = [X.r, Y.r] from rfl, hr, hr2] at h; exact h, World.grownBy_alloc _ _ _, fun _ => World.grownBy_alloc _ _ _⟩
                    | 28, ho =>
                      obtain rfl := Option.some.inj ho
                      exact steps_append rfl (.tmp 49) (.tmp 76) rfl (ht 0 49 (by kernel_rfl)) (hacc1 rfl) HROW.out rfl (ht 27 76 (by kernel_rfl)) (by simp) (by simp; omega) (Nat.le_trans HBA.out hg.size) (fun v' w' zs hz ha hgr hat => ⟨⟨⟨zs, hz, ha⟩, hat.imp id fun h => ⟨_, h, hg.size⟩⟩, hgr, fun hne => absurd rfl hne⟩)
                    | 29, ho =>
                      obtain rfl := Option.some.inj ho
                      exact StepsTo.move rfl (.tmp 77) (.inr rfl) ⟨(ht 28 77 (by kernel_rfl)), World.grownBy.refl _ _, fun _ => World.grownBy.refl _ _⟩
                    | j1 + 30, ho => exact absurd (Array.getElem?_eq_some_iff.1 ho).1 (by simp)
                  · have h15 := hto 29 6 (by kernel_rfl)
                    clear hto
                    rw [act_lit tm (show tm.size = 80 from hsz)]
                    simp only [List.range, List.range.loop, List.map_cons, List.map_nil]
                    rw [hfr 0 (by kernel_rfl), hfr 1 (by kernel_rfl), hfr 2 (by kernel_rfl), hfr 3 (by kernel_rfl), hfr 4 (by kernel_rfl), hfr 5 (by kernel_rfl), hfr 7 (by kernel_rfl), hfr 8 (by kernel_rfl), hfr 9 (by kernel_rfl), hfr 10 (by kernel_rfl), hfr 11 (by kernel_rfl), hfr 12 (by kernel_rfl), hfr 13 (by kernel_rfl), hfr 14 (by kernel_rfl), hfr 15 (by kernel_rfl), hfr 16 (by kernel_rfl), hfr 17 (by kernel_rfl), hfr 18 (by kernel_rfl), hfr 19 (by kernel_rfl), hfr 20 (by kernel_rfl), hfr 21 (by kernel_rfl), hfr 22 (by kernel_rfl), hfr 23 (by kernel_rfl), hfr 24 (by kernel_rfl), hfr 25 (by kernel_rfl), hfr 26 (by kernel_rfl), hfr 27 (by kernel_rfl), hfr 28 (by kernel_rfl), hfr 29 (by kernel_rfl), hfr 30 (by kernel_rfl), hfr 31 (by kernel_rfl), hfr 32 (by kernel_rfl), hfr 33 (by kernel_rfl), hfr 34 (by kernel_rfl), hfr 35 (by kernel_rfl), hfr 36 (by kernel_rfl), hfr 37 (by kernel_rfl), hfr 38 (by kernel_rfl), hfr 39 (by kernel_rfl), hfr 40 (by kernel_rfl), hfr 41 (by kernel_rfl), hfr 42 (by kernel_rfl), hfr 43 (by kernel_rfl), hfr 44 (by kernel_rfl), hfr 45 (by kernel_rfl), hfr 46 (by kernel_rfl), hfr 47 (by kernel_rfl), hfr 48 (by kernel_rfl), hfr 78 (by kernel_rfl), hfr 79 (by kernel_rfl)]
                    generalize tm.getD 6 undef = y6 at *
                    generalize tm.getD 49 undef = y49 at *
                    generalize tm.getD 50 undef = y50 at *
                    generalize tm.getD 51 undef = y51 at *
                    generalize tm.getD 52 undef = y52 at *
                    generalize tm.getD 53 undef = y53 at *
                    generalize tm.getD 54 undef = y54 at *
                    generalize tm.getD 55 undef = y55 at *
                    generalize tm.getD 56 undef = y56 at *
                    generalize tm.getD 57 undef = y57 at *
                    generalize tm.getD 58 undef = y58 at *
                    generalize tm.getD 59 undef = y59 at *
                    generalize tm.getD 60 undef = y60 at *
                    generalize tm.getD 61 undef = y61 at *
                    generalize tm.getD 62 undef = y62 at *
                    generalize tm.getD 63 undef = y63 at *
                    generalize tm.getD 64 undef = y64 at *
                    generalize tm.getD 65 undef = y65 at *
                    generalize tm.getD 66 undef = y66 at *
                    generalize tm.getD 67 undef = y67 at *
                    generalize tm.getD 68 undef = y68 at *
                    generalize tm.getD 69 undef = y69 at *
                    generalize tm.getD 70 undef = y70 at *
                    generalize tm.getD 71 undef = y71 at *
                    generalize tm.getD 72 undef = y72 at *
                    generalize tm.getD 73 undef = y73 at *
                    generalize tm.getD 74 undef = y74 at *
                    generalize tm.getD 75 undef = y75 at *
                    generalize tm.getD 76 undef = y76 at *
                    generalize tm.getD 77 undef = y77 at *
                    clear hfr hsz tm
                    simp only [Array.getD_eq_getD_getElem?, List.getElem?_toArray, List.getElem?_cons_succ, List.getElem?_cons_zero, Option.getD_some]
                    have h15' : (∃ zs, ruls zs = [⟨[p], [x], C⟩, ⟨[x], [p], C⟩] ∧ Acc w.heap.size w1 y6 (outs ++ zs)) ∧ (ov.ownBlock = y6.ownBlock ∨ ∃ g, y6.ownBlock = some g ∧ V.heap.size ≤ g) := h15
                    obtain ⟨⟨zs, hzs, hacc⟩, _⟩ := h15'
                    have hzl : zs.length = 2 := by rw [← ruls_length zs, hzs]; rfl
                    have HZS := Lib.hid hzs
                    have HACN := Lib.hid hacc
                    have HB1W : Hid (Below w.heap.size w w1) := HBV.out.drew.grown hg HBV.out.size HLOW.out
                    clear h15 hzs hacc hg
                    go_wp2
                    go_roundw
                    case rel => exact ⟨i + 1, row + 1, true, x, outs ++ zs, by omega, by go_num, by omega, by go_num, by first | rfl | trivial, by simp [hzl]; omega, HACN.out, by show _ = _; rw [ruls_app, HZS.out, List.append_assoc, ← HRN.out]; exact HRL.out, HOKN.out, HPN.out, HB1W.out⟩
                    case measure => simp [intOf]; omega
          · have h12i : ¬ (row : Int) + 1 ≤ 12 := by omega
            have hd12 : decide ((row : Int) + 1 ≤ 12) = false := by rw [decide_eq_false_iff_not]; exact h12i
            have HOKN : Hid ((false && Spec.keysOk (row + 1) (l.drop (i + 1))) = ok) := by
              show _ = _
              rw [← HOKB.out, HON.out, decide_eq_false h12]; simp
            by_cases hrow : row = 0
            · exfalso; omega
            · have hr1 : (1 : Int) < (row : Int) + 1 := by omega
              have hd1 : decide ((1 : Int) < (row : Int) + 1) = true := by rw [decide_eq_true_iff]; exact hr1
              have HI0 : Hid (0 < i) := by show _ < _; omega
              have hpe := HP.out (by omega)
              have HPE := Lib.hid hpe
              have hp1 := HC1.out (i - 1) _ (by omega) HBW.out
              rw [← HPE.out] at hp1
              have hsub : IntKind.i64.wrap ((i : Int) - 1) = (i : Int) - 1 := by rw [IntKind.wrap_i64]; omega
              have hnat : ((i : Int) - 1).toNat = i - 1 := by omega
              have hlt1 : (i : Int) - 1 < (n : Int) := by omega
              have hge1 : (0 : Int) ≤ (i : Int) - 1 := by omega
              clear hpe
              by_cases hxp : x = p
              · have he : (x != p) = false := by simpa using hxp
                have HRN : Hid (Spec.keysG C row p (l.drop i) = Spec.keysG C (row + 1) x (l.drop (i + 1))) := by
                  show _ = _
                  rw [HDR.out]
                  show (if x = 124 then _ else _) = _
                  rw [if_neg HNE.out, if_neg (fun h => h.2 hxp), List.nil_append]
                clear hxp
                go_wp2
                go_quiet (fail)
                go_wp2
                go_roundw
                case rel => exact ⟨i + 1, row + 1, false, x, outs, by omega, by go_num, by omega, by go_num, by first | rfl | trivial, by omega, HAC.out.drawn ⟨_, rfl⟩, by show _ = _; rw [← HRN.out]; exact HRL.out, HOKN.out, HPN.out, below_drawn HBW.out ⟨_, rfl⟩⟩
                case measure => simp [intOf]; omega
              · have he : (x != p) = true := by simpa using hxp
                have HRN : Hid (Spec.keysG C row p (l.drop i) = [⟨[p], [x], C⟩, ⟨[x], [p], C⟩] ++ Spec.keysG C (row + 1) x (l.drop (i + 1))) := by
                  show _ = _
                  rw [HDR.out]
                  show (if x = 124 then _ else _) = _
                  rw [if_neg HNE.out, if_pos ⟨by omega, hxp⟩]
                  rfl
                clear hxp
                go_wp2
                go_quiet (fail)
                go_wp2_with fail
                generalize hV : World.drewN _ _ = V
                have HAV : Hid (Acc w.heap.size V ov outs) := by rw [← hV]; exact HAC.out.drawn ⟨_, rfl⟩
                have HBV : Hid (Below w.heap.size w V) := by rw [← hV]; exact below_drawn HBW.out ⟨_, rfl⟩
                have HBA : Hid (w.heap.size ≤ V.drew.heap.size) := HBV.out.size
                have HROW : Hid (∀ g, ov.ownBlock = some g → g < V.heap.size) := fun g hg => (HAV.out.1.lt g hg).2
                have HLOW : Hid (∀ g, ov.ownBlock = some g → w.heap.size ≤ g) := fun g hg => (HAV.out.1.lt g hg).1
                have HC64 := Lib.hid hC
                have HCX : Hid (∀ w1, V.drew.grownBy w1 ov.ownBlock → w1.cell? ⟨b1, o1 + i, none⟩ = some (.int .i64 x)) := fun w1 hg => by
                  rw [HX.out]; exact HC1.out i _ hlt (HBV.out.drew.grown hg HBV.out.size HLOW.out)
                have HCP : Hid (∀ w1, V.drew.grownBy w1 ov.ownBlock → w1.cell? ⟨b1, o1 + (i - 1), none⟩ = some (.int .i64 p)) := fun w1 hg => by
                  rw [HPE.out]; exact HC1.out (i - 1) _ (by omega) (HBV.out.drew.grown hg HBV.out.size HLOW.out)
                have HWF : Hid (∀ z, z = x ∨ z = p → (Lit.int .i64 z).wf = true) := fun z hz => by
                  rcases hz with rfl | rfl
                  · rw [HX.out]; exact HWA.out i hlt
                  · rw [HPE.out]; exact HWA.out (i - 1) (by omega)
                clear hV hx1 hp1
                refine wp_region_table' HMX.out 28 [.val ov, .val (.slice (some ⟨b1, o1, none⟩) n cap), .val (.int .i64 (i : Int)), .val (.int .i64 ((i - 1 : Nat) : Int)), .val (.pointer (some ⟨b1, o1 + (i - 1), none⟩)), .val (.int .i64 p), .one p, .val (.slice (some ⟨b1, o1, none⟩) n cap), .val (.int .i64 (i : Int)), .val (.pointer (some ⟨b1, o1 + i, none⟩)), .val (.int .i64 x), .one x, .val (.int .u64 C), .rule ⟨[p], [x], C⟩, .val (.slice (some ⟨b1, o1, none⟩) n cap), .val (.int .i64 (i : Int)), .val (.pointer (some ⟨b1, o1 + i, none⟩)), .val (.int .i64 x), .one x, .val (.slice (some ⟨b1, o1, none⟩) n cap), .val (.int .i64 (i : Int)), .val (.int .i64 ((i - 1 : Nat) : Int)), .val (.pointer (some ⟨b1, o1 + (i - 1), none⟩)), .val (.int .i64 p), .one p, .val (.int .u64 C), .rule ⟨[x], [p], C⟩, .rules [⟨[p], [x], C⟩, ⟨[x], [p], C⟩], .out [⟨[p], [x], C⟩, ⟨[x], [p], C⟩], .out [⟨[p], [x], C⟩, ⟨[x], [p], C⟩]] w.heap.size outs ov (by kernel_rfl) (by rfl) HAV.out HBV.out.size (fun i1 o ho a1 w1 hg hacc1 hw ht => ?_) (fun tm w1 hsz hg hfr hto => ?_)
                · have hLn := HL
                  match i1, ho with
                  | 0, ho =>
                    obtain rfl := Option.some.inj ho
                    exact StepsTo.move rfl (.tmp 6) (.inl rfl) ⟨(hw 6 (by kernel_rfl)), World.grownBy.refl _ _, fun _ => World.grownBy.refl _ _⟩
                  | 1, ho =>
                    obtain rfl := Option.some.inj ho
                    exact StepsTo.move rfl (.tmp 0) (.inl rfl) ⟨(hw 0 (by kernel_rfl)), World.grownBy.refl _ _, fun _ => World.grownBy.refl _ _⟩
                  | 2, ho =>
                    obtain rfl := Option.some.inj ho
                    exact StepsTo.move rfl (.tmp 9) (.inl rfl) ⟨(hw 9 (by kernel_rfl)), World.grownBy.refl _ _, fun _ => World.grownBy.refl _ _⟩
                  | 3, ho =>
                    obtain rfl := Option.some.inj ho
                    exact steps_sub1 rfl (.tmp 51) _ _ rfl (k := i) HI0.out (ht 2 51 (by kernel_rfl)) (by omega) ⟨rfl, World.grownBy.refl _ _, fun _ => World.grownBy.refl _ _⟩
                  | 4, ho =>
                    obtain rfl := Option.some.inj ho
                    exact steps_index rfl (.tmp 50) (.tmp 52) rfl (ht 1 50 (by kernel_rfl)) (ht 3 52 (by kernel_rfl)) (by omega) ⟨rfl, World.grownBy.refl _ _, fun _ => World.grownBy.refl _ _⟩
                  | 5, ho =>
                    obtain rfl := Option.some.inj ho
                    exact steps_load rfl (.tmp 53) rfl (ht 4 53 (by kernel_rfl)) (HCP.out _ hg) ⟨rfl, World.grownBy.refl _ _, fun _ => World.grownBy.refl _ _⟩
                  | 6, ho =>
                    obtain rfl := Option.some.inj ho
                    exact steps_slice1 rfl (.tmp 54) rfl (ht 5 54 (by kernel_rfl)) ⟨newOne_alloc hg.size (HWF.out _ (.inr rfl)), World.grownBy_alloc _ _ _, fun _ => World.grownBy_alloc _ _ _⟩
                  | 7, ho =>
                    obtain rfl := Option.some.inj ho
                    exact StepsTo.move rfl (.tmp 0) (.inl rfl) ⟨(hw 0 (by kernel_rfl)), World.grownBy.refl _ _, fun _ => World.grownBy.refl _ _⟩
                  | 8, ho =>
                    obtain rfl := Option.some.inj ho
                    exact StepsTo.move rfl (.tmp 9) (.inl rfl) ⟨(hw 9 (by kernel_rfl)), World.grownBy.refl _ _, fun _ => World.grownBy.refl _ _⟩
                  | 9, ho =>
                    obtain rfl := Option.some.inj ho
                    exact steps_index rfl (.tmp 56) (.tmp 57) rfl (ht 7 56 (by kernel_rfl)) (ht 8 57 (by kernel_rfl)) hlt ⟨rfl, World.grownBy.refl _ _, fun _ => World.grownBy.refl _ _⟩
                  | 10, ho =>
                    obtain rfl := Option.some.inj ho
                    exact steps_load rfl (.tmp 58) rfl (ht 9 58 (by kernel_rfl)) (HCX.out _ hg) ⟨rfl, World.grownBy.refl _ _, fun _ => World.grownBy.refl _ _⟩
                  | 11, ho =>
                    obtain rfl := Option.some.inj ho
                    exact steps_slice1 rfl (.tmp 59) rfl (ht 10 59 (by kernel_rfl)) ⟨newOne_alloc hg.size (HWF.out _ (.inl rfl)), World.grownBy_alloc _ _ _, fun _ => World.grownBy_alloc _ _ _⟩
                  | 12, ho =>
                    obtain rfl := Option.some.inj ho
                    exact StepsTo.move rfl (.tmp 1) (.inl rfl) ⟨(hw 1 (by kernel_rfl)), World.grownBy.refl _ _, fun _ => World.grownBy.refl _ _⟩
                  | 13, ho =>
                    obtain rfl := Option.some.inj ho
                    obtain ⟨p, q, e1, e2, hr⟩ := newRule_of (ht 6 55 (by kernel_rfl)) (ht 11 60 (by kernel_rfl)) HC64.out
                    exact steps_rule rfl (.tmp 55) (.tmp 60) (.tmp 61) rfl e1 e2 (ht 12 61 (by kernel_rfl)) ⟨hr, World.grownBy.refl _ _, fun _ => World.grownBy.refl _ _⟩
                  | 14, ho =>
                    obtain rfl := Option.some.inj ho
                    exact StepsTo.move rfl (.tmp 0) (.inl rfl) ⟨(hw 0 (by kernel_rfl)), World.grownBy.refl _ _, fun _ => World.grownBy.refl _ _⟩
                  | 15, ho =>
                    obtain rfl := Option.some.inj ho
                    exact StepsTo.move rfl (.tmp 9) (.inl rfl) ⟨(hw 9 (by kernel_rfl)), World.grownBy.refl _ _, fun _ => World.grownBy.refl _ _⟩
                  | 16, ho =>
                    obtain rfl := Option.some.inj ho
                    exact steps_index rfl (.tmp 63) (.tmp 64) rfl (ht 14 63 (by kernel_rfl)) (ht 15 64 (by kernel_rfl)) hlt ⟨rfl, World.grownBy.refl _ _, fun _ => World.grownBy.refl _ _⟩
                  | 17, ho =>
                    obtain rfl := Option.some.inj ho
                    exact steps_load rfl (.tmp 65) rfl (ht 16 65 (by kernel_rfl)) (HCX.out _ hg) ⟨rfl, World.grownBy.refl _ _, fun _ => World.grownBy.refl _ _⟩
                  | 18, ho =>
                    obtain rfl := Option.some.inj ho
                    exact steps_slice1 rfl (.tmp 66) rfl (ht 17 66 (by kernel_rfl)) ⟨newOne_alloc hg.size (HWF.out _ (.inl rfl)), World.grownBy_alloc _ _ _, fun _ => World.grownBy_alloc _ _ _⟩
                  | 19, ho =>
                    obtain rfl := Option.some.inj ho
                    exact StepsTo.move rfl (.tmp 0) (.inl rfl) ⟨(hw 0 (by kernel_rfl)), World.grownBy.refl _ _, fun _ => World.grownBy.refl _ _⟩
                  | 20, ho =>
                    obtain rfl := Option.some.inj ho
                    exact StepsTo.move rfl (.tmp 9) (.inl rfl) ⟨(hw 9 (by kernel_rfl)), World.grownBy.refl _ _, fun _ => World.grownBy.refl _ _⟩
                  | 21, ho =>
                    obtain rfl := Option.some.inj ho
                    exact steps_sub1 rfl (.tmp 69) _ _ rfl (k := i) HI0.out (ht 20 69 (by kernel_rfl)) (by omega) ⟨rfl, World.grownBy.refl _ _, fun _ => World.grownBy.refl _ _⟩
                  | 22, ho =>
                    obtain rfl := Option.some.inj ho
                    exact steps_index rfl (.tmp 68) (.tmp 70) rfl (ht 19 68 (by kernel_rfl)) (ht 21 70 (by kernel_rfl)) (by omega) ⟨rfl, World.grownBy.refl _ _, fun _ => World.grownBy.refl _ _⟩
                  | 23, ho =>
                    obtain rfl := Option.some.inj ho
                    exact steps_load rfl (.tmp 71) rfl (ht 22 71 (by kernel_rfl)) (HCP.out _ hg) ⟨rfl, World.grownBy.refl _ _, fun _ => World.grownBy.refl _ _⟩
                  | 24, ho =>
                    obtain rfl := Option.some.inj ho
                    exact steps_slice1 rfl (.tmp 72) rfl (ht 23 72 (by kernel_rfl)) ⟨newOne_alloc hg.size (HWF.out _ (.inr rfl)), World.grownBy_alloc _ _ _, fun _ => World.grownBy_alloc _ _ _⟩
                  | 25, ho =>
                    obtain rfl := Option.some.inj ho
                    exact StepsTo.move rfl (.tmp 1) (.inl rfl) ⟨(hw 1 (by kernel_rfl)), World.grownBy.refl _ _, fun _ => World.grownBy.refl _ _⟩
                  | 26, ho =>
                    obtain rfl := Option.some.inj ho
                    obtain ⟨p, q, e1, e2, hr⟩ := newRule_of (ht 18 67 (by kernel_rfl)) (ht 24 73 (by kernel_rfl)) HC64.out
                    exact steps_rule rfl (.tmp 67) (.tmp 73) (.tmp 74) rfl e1 e2 (ht 25 74 (by kernel_rfl)) ⟨hr, World.grownBy.refl _ _, fun _ => World.grownBy.refl _ _⟩
                  | 27, ho =>
                    obtain rfl := Option.some.inj ho
                    obtain ⟨X, e1, hX, hr, hh⟩ := (ht 13 62 (by kernel_rfl))
                    obtain ⟨Y, e2, hY, hr2, hh2⟩ := (ht 26 75 (by kernel_rfl))
                    exact steps_rules2 rfl (.tmp 62) (.tmp 75) rfl e1 e2 ⟨by have h := newRules_alloc (w := w1) hg.size [X, Y] (by intro x hx; simp only [List.mem_cons, List.not_mem_nil, or_false] at hx; rcases hx with rfl | rfl <;> first | exact ⟨hX, hh⟩ | exact ⟨hY, hh2⟩) (by simp); rw [show ruls [X, Y] = [X.r, Y.r] from rfl, hr, hr2] at h; exact h, World.grownBy_alloc _ _ _, fun _ => World.grownBy_alloc _ _ _⟩
                  | 28, ho =>
                    obtain rfl := Option.some.inj ho
                    exact steps_append rfl (.tmp 49) (.tmp 76) rfl (ht 0 49 (by kernel_rfl)) (hacc1 rfl) HROW.out rfl (ht 27 76 (by kernel_rfl)) (by simp) (by simp; omega) (Nat.le_trans HBA.out hg.size) (fun v' w' zs hz ha hgr hat => ⟨⟨⟨zs, hz, ha⟩, hat.imp id fun h => ⟨_, h, hg.size⟩⟩, hgr, fun hne => absurd rfl hne⟩)
                  | 29, ho =>
                    obtain rfl := Option.some.inj ho
                    exact StepsTo.move rfl (.tmp 77) (.inr rfl) ⟨(ht 28 77 (by kernel_rfl)), World.grownBy.refl _ _, fun _ => World.grownBy.refl _ _⟩
                  | j1 + 30, ho => exact absurd (Array.getElem?_eq_some_iff.1 ho).1 (by simp)
                · have h15 := hto 29 6 (by kernel_rfl)
                  clear hto
                  rw [act_lit tm (show tm.size = 80 from hsz)]
                  simp only [List.range, List.range.loop, List.map_cons, List.map_nil]
                  rw [hfr 0 (by kernel_rfl), hfr 1 (by kernel_rfl), hfr 2 (by kernel_rfl), hfr 3 (by kernel_rfl), hfr 4 (by kernel_rfl), hfr 5 (by kernel_rfl), hfr 7 (by kernel_rfl), hfr 8 (by kernel_rfl), hfr 9 (by kernel_rfl), hfr 10 (by kernel_rfl), hfr 11 (by kernel_rfl), hfr 12 (by kernel_rfl), hfr 13 (by kernel_rfl), hfr 14 (by kernel_rfl), hfr 15 (by kernel_rfl), hfr 16 (by kernel_rfl), hfr 17 (by kernel_rfl), hfr 18 (by kernel_rfl), hfr 19 (by kernel_rfl), hfr 20 (by kernel_rfl), hfr 21 (by kernel_rfl), hfr 22 (by kernel_rfl), hfr 23 (by kernel_rfl), hfr 24 (by kernel_rfl), hfr 25 (by kernel_rfl), hfr 26 (by kernel_rfl), hfr 27 (by kernel_rfl), hfr 28 (by kernel_rfl), hfr 29 (by kernel_rfl), hfr 30 (by kernel_rfl), hfr 31 (by kernel_rfl), hfr 32 (by kernel_rfl), hfr 33 (by kernel_rfl), hfr 34 (by kernel_rfl), hfr 35 (by kernel_rfl), hfr 36 (by kernel_rfl), hfr 37 (by kernel_rfl), hfr 38 (by kernel_rfl), hfr 39 (by kernel_rfl), hfr 40 (by kernel_rfl), hfr 41 (by kernel_rfl), hfr 42 (by kernel_rfl), hfr 43 (by kernel_rfl), hfr 44 (by kernel_rfl), hfr 45 (by kernel_rfl), hfr 46 (by kernel_rfl), hfr 47 (by kernel_rfl), hfr 48 (by kernel_rfl), hfr 78 (by kernel_rfl), hfr 79 (by kernel_rfl)]
                  generalize tm.getD 6 undef = y6 at *
                  generalize tm.getD 49 undef = y49 at *
                  generalize tm.getD 50 undef = y50 at *
                  generalize tm.getD 51 undef = y51 at *
                  generalize tm.getD 52 undef = y52 at *
                  generalize tm.getD 53 undef = y53 at *
                  generalize tm.getD 54 undef = y54 at *
                  generalize tm.getD 55 undef = y55 at *
                  generalize tm.getD 56 undef = y56 at *
                  generalize tm.getD 57 undef = y57 at *
                  generalize tm.getD 58 undef = y58 at *
                  generalize tm.getD 59 undef = y59 at *
                  generalize tm.getD 60 undef = y60 at *
                  generalize tm.getD 61 undef = y61 at *
                  generalize tm.getD 62 undef = y62 at *
                  generalize tm.getD 63 undef = y63 at *
                  generalize tm.getD 64 undef = y64 at *
                  generalize tm.getD 65 undef = y65 at *
                  generalize tm.getD 66 undef = y66 at *
                  generalize tm.getD 67 undef = y67 at *
                  generalize tm.getD 68 undef = y68 at *
                  generalize tm.getD 69 undef = y69 at *
                  generalize tm.getD 70 undef = y70 at *
                  generalize tm.getD 71 undef = y71 at *
                  generalize tm.getD 72 undef = y72 at *
                  generalize tm.getD 73 undef = y73 at *
                  generalize tm.getD 74 undef = y74 at *
                  generalize tm.getD 75 undef = y75 at *
                  generalize tm.getD 76 undef = y76 at *
                  generalize tm.getD 77 undef = y77 at *
                  clear hfr hsz tm
                  simp only [Array.getD_eq_getD_getElem?, List.getElem?_toArray, List.getElem?_cons_succ, List.getElem?_cons_zero, Option.getD_some]
                  have h15' : (∃ zs, ruls zs = [⟨[p], [x], C⟩, ⟨[x], [p], C⟩] ∧ Acc w.heap.size w1 y6 (outs ++ zs)) ∧ (ov.ownBlock = y6.ownBlock ∨ ∃ g, y6.ownBlock = some g ∧ V.heap.size ≤ g) := h15
                  obtain ⟨⟨zs, hzs, hacc⟩, _⟩ := h15'
                  have hzl : zs.length = 2 := by rw [← ruls_length zs, hzs]; rfl
                  have HZS := Lib.hid hzs
                  have HACN := Lib.hid hacc
                  have HB1W : Hid (Below w.heap.size w w1) := HBV.out.drew.grown hg HBV.out.size HLOW.out
                  clear h15 hzs hacc hg
                  go_wp2
                  go_roundw
                  case rel => exact ⟨i + 1, row + 1, false, x, outs ++ zs, by omega, by go_num, by omega, by go_num, by first | rfl | trivial, by simp [hzl]; omega, HACN.out, by show _ = _; rw [ruls_app, HZS.out, List.append_assoc, ← HRN.out]; exact HRL.out, HOKN.out, HPN.out, HB1W.out⟩
                  case measure => simp [intOf]; omega
    · obtain rfl : i = n := by omega
      have hnil : l.drop i = [] := List.drop_eq_nil_of_le (by rw [HL.out]; exact Nat.le_refl _)
      obtain rfl : b = ok := by
        have h := HOKB.out
        rw [hnil] at h
        rw [← h]; simp [Spec.keysOk]
      have HR : Hid (ruls outs = rs) := by
        show _ = _
        have h := HRL.out
        rw [hnil] at h
        rw [← h]; simp [Spec.keysG]
      clear hnil
      go_wp2
      go_ret2
      obtain ⟨xa, c, he, hnil, hrs⟩ := HAC.out.form
      exact ⟨xa, outs.length, c, outs, by rw [← he]; rfl, hrs, HR.out, hnil, HBW.out⟩

end Go.Proofs.Ytdeicfdbjmpliaa
