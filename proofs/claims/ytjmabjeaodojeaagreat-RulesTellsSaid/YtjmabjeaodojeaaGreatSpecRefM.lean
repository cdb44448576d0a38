/- Used by the law. -/
import Derived.Test.YtjmabjeaodojeaaGreatPackA
import Derived.Test.YtjmabjeaodojeaaGreatRuleSteps
import Derived.Test.YtjmabjeaodojeaaGreatPackP
import Derived.Test.YtjmabjeaodojeaaGreatGenStr
namespace Go.Proofs.YtjmabjeaodojeaaGreat
open Go.RowKit

def RulesOk (w w' : World) (e : Ending) (rs : List Rul) (ok : Bool) : Prop :=
  ∃ a' m c' ys, e = .returned (.tuple #[.slice a' m c', .bool ok]) ∧ Rs w' a' m c' ys ∧ ruls ys = rs ∧ (a' = none → c' = 0) ∧ Below w.heap.size w w'

theorem mapsA_snoc (c a : Int) (l : List Int) (b : Int) : Spec.mapsA c a (l ++ [b]) = Spec.mapsA c a l ++ if a ≠ b then [⟨[a], [b], c⟩] else [] := by
  simp [Spec.mapsA, List.flatMap_append]
theorem take_snoc {l : List Int} {k : Nat} (h : k < l.length) : l.take (k + 1) = l.take k ++ [l.getD k 0] := by
  rw [List.take_succ_eq_append_getElem h]; simp [h]

set_option maxHeartbeats 6400000 in
set_option maxRecDepth 100000 in
theorem rmaps_is (a : Option Addr) (n cap : Nat) (l : List Int) (C : Int) (ok : Bool) (rs : List Rul) (w : World) (hs : Sl .i64 w a n cap l) (hn : n ≤ 5000) (hC : 0 ≤ C ∧ C < 18446744073709551616) (hok : Spec.mapsOk l = ok) (hrs : (if ok = true then Spec.mapsG C l else []) = rs) :
    Calls Tryz.prog 82 #[.slice a n cap, .int .u64 C] w fun e w' => RulesOk w w' e rs ok := by
  have hnc := hs.2.1
  have hcm := hs.2.2.1
  unfold maxLen at hcm
  have HS := Lib.hid hs
  have HL := Lib.hid hs.1
  have hmx : Tryz.prog.follows .mixedOrders = true := by kernel_rfl
  have HMX := Lib.hid hmx
  have HOK := Lib.hid hok
  have HRS := Lib.hid hrs
  clear hs hmx hok hrs
  by_cases h12 : 12 < n
  · have h12i : (12 : Int) < (n : Int) := by omega
    obtain rfl : ok = false := by
      rw [← HOK.out]; unfold Spec.mapsOk
      rw [show decide (l.length ≤ 12) = false from by rw [decide_eq_false_iff_not, HL.out]; omega]; rfl
    obtain rfl : rs = [] := HRS.out.symm
    go_enter Tryz.func82, Tryz.ntmps82
    go_wp2
    go_ret2
    exact ⟨none, 0, 0, [], rfl, Rs.nil, rfl, fun _ => rfl, Below.refl _ _⟩
  · have h12i : ¬ (12 : Int) < (n : Int) := by omega
    go_enter Tryz.func82, Tryz.ntmps82
    go_wp2
    go_loopw [6, 7] (fun ov ix wr => ∃ (i : Nat) (outs : List Rw), i ≤ n ∧ ix = .int .i64 (i : Int) ∧ outs.length ≤ i * 12 ∧ Hid (Acc w.heap.size wr ov outs) ∧ Hid (ruls outs = (l.take i).flatMap fun x => Spec.mapsA C x l) ∧ Hid (∀ x ∈ l.take i, x ≠ 95) ∧ Hid (Below w.heap.size w wr)) (fun _ ix _ => n - (intOf ix).toNat)
    case atStart => exact ⟨0, [], Nat.zero_le _, rfl, Nat.zero_le _, Acc.nil _ _, by first | rfl | trivial, by first | trivial | (intro x hx; simp at hx), Below.refl _ _⟩
    case round =>
      obtain ⟨i, outs, hi, rfl, hol, HAC, HRL, H95, HBW⟩ := hrel
      by_cases hlt : i < n
      · have hlti : (i : Int) < (n : Int) := by omega
        obtain ⟨b1, o1, rfl, hb1, hc1⟩ := HS.out.at (by omega)
        obtain ⟨x, hx⟩ : ∃ x, x = l.getD i 0 := ⟨_, rfl⟩
        have HX := Lib.hid hx
        have HC1 : Hid (∀ (j : Nat) (W : World), j < n → Below w.heap.size w W → W.cell? ⟨b1, o1 + j, none⟩ = some (.int .i64 (l.getD j 0))) := fun j W hj hB => by
          rw [hB.cell (p := ⟨b1, o1 + j, none⟩) hb1]; exact hc1 j hj
        have HB1 := Lib.hid hb1
        clear hc1 hx hb1
        go_wp2
        go_loopw [6, 8] (fun ov kx wr' => ∃ (k : Nat) (outs' : List Rw), k ≤ n ∧ kx = .int .i64 (k : Int) ∧ outs'.length ≤ i * 12 + k ∧ Hid (Acc w.heap.size wr' ov outs') ∧ Hid (ruls outs' = ((l.take i).flatMap fun x => Spec.mapsA C x l) ++ Spec.mapsA C x (l.take k)) ∧ Hid (Below w.heap.size w wr')) (fun _ kx _ => n - (intOf kx).toNat)
        case atStart => exact ⟨0, outs, Nat.zero_le _, rfl, by omega, HAC.out, by show _ = _; rw [HRL.out]; simp [Spec.mapsA], HBW.out⟩
        case round =>
          obtain ⟨k, outs', hk, rfl, hol', HAC', HRL', HBW'⟩ := hrel
          obtain ⟨ov, hov⟩ : ∃ v, v = u6 := ⟨_, rfl⟩
          subst hov
          by_cases hlk : k < n
          · have hlki : (k : Int) < (n : Int) := by omega
            obtain ⟨y, hy⟩ : ∃ y, y = l.getD k 0 := ⟨_, rfl⟩
            have hx1 := HC1.out i _ hlt HBW'.out
            have hy1 := HC1.out k _ hlk HBW'.out
            rw [← HX.out] at hx1
            rw [← hy] at hy1
            have HY := Lib.hid hy
            have HWF : Hid (∀ z, z = x ∨ z = y → (Lit.int .i64 z).wf = true) := fun z hz => by
              have hwf : ∀ j, j < n → (Lit.int .i64 (l.getD j 0)).wf = true := fun j hj => by
                refine HS.out.2.2.2.1 _ ?_
                rw [List.getD_eq_getElem?_getD, List.getElem?_eq_getElem (by rw [HL.out]; exact hj), Option.getD_some]
                exact List.getElem_mem _
              rcases hz with rfl | rfl
              · rw [HX.out]; exact hwf i hlt
              · rw [HY.out]; exact hwf k hlk
            have HJ : Hid (k < l.length) := by show _ < _; rw [HL.out]; exact hlk
            clear hy
            by_cases hxy : x = y
            · have he : (x != y) = false := by simpa using hxy
              have HE : Hid (Spec.mapsA C x (l.take (k + 1)) = Spec.mapsA C x (l.take k)) := by
                show _ = _
                rw [take_snoc HJ.out, mapsA_snoc, ← HY.out, if_neg (fun h => h hxy), List.append_nil]
              clear hxy
              go_wp2
              go_quiet (fail)
              go_wp2
              go_roundw
              case rel => exact ⟨k + 1, outs', by omega, by go_num, by omega, HAC'.out.drawn ⟨_, rfl⟩, by show _ = _; rw [HE.out]; exact HRL'.out, below_drawn HBW'.out ⟨_, rfl⟩⟩
              case measure => simp [intOf]; omega
            · have he : (x != y) = true := by simpa using hxy
              have HE : Hid (Spec.mapsA C x (l.take (k + 1)) = Spec.mapsA C x (l.take k) ++ [⟨[x], [y], C⟩]) := by
                show _ = _
                rw [take_snoc HJ.out, mapsA_snoc, ← HY.out, if_pos hxy]
              clear hxy
              go_wp2
              go_quiet (fail)
              go_wp2_with fail
              generalize hV : World.drewN _ _ = V
              have HAV : Hid (Acc w.heap.size V ov outs') := by rw [← hV]; exact HAC'.out.drawn ⟨_, rfl⟩
              have HBV : Hid (Below w.heap.size w V) := by rw [← hV]; exact below_drawn HBW'.out ⟨_, rfl⟩
              have HBA : Hid (w.heap.size ≤ V.drew.heap.size) := HBV.out.size
              have HROW : Hid (∀ g, ov.ownBlock = some g → g < V.heap.size) := fun g hg => (HAV.out.1.lt g hg).2
              have HLOW : Hid (∀ g, ov.ownBlock = some g → w.heap.size ≤ g) := fun g hg => (HAV.out.1.lt g hg).1
              have HC64 := Lib.hid hC
              have HCX : Hid (∀ w1, V.drew.grownBy w1 ov.ownBlock → w1.cell? ⟨b1, o1 + i, none⟩ = some (.int .i64 x)) := fun w1 hg => by
                rw [HX.out]; exact HC1.out i _ hlt (HBV.out.drew.grown hg HBV.out.size HLOW.out)
              have HCY : Hid (∀ w1, V.drew.grownBy w1 ov.ownBlock → w1.cell? ⟨b1, o1 + k, none⟩ = some (.int .i64 y)) := fun w1 hg => by
                rw [HY.out]; exact HC1.out k _ hlk (HBV.out.drew.grown hg HBV.out.size HLOW.out)
              clear hV hx1 hy1
              refine wp_region_table' HMX.out 14 [.val ov, .val (.slice (some ⟨b1, o1, none⟩) n cap), .val (.int .i64 (i : Int)), .val (.pointer (some ⟨b1, o1 + i, none⟩)), .val (.int .i64 x), .one x, .val (.slice (some ⟨b1, o1, none⟩) n cap), .val (.int .i64 (k : Int)), .val (.pointer (some ⟨b1, o1 + k, none⟩)), .val (.int .i64 y), .one y, .val (.int .u64 C), .rule ⟨[x], [y], C⟩, .rules [⟨[x], [y], C⟩], .out [⟨[x], [y], C⟩], .out [⟨[x], [y], C⟩]] w.heap.size outs' ov (by kernel_rfl) (by rfl) HAV.out HBV.out.size (fun i1 o ho a1 w1 hg hacc1 hw ht => ?_) (fun tm w1 hsz hg hfr hto => ?_)
              · have hLn := HL
                match i1, ho with
                | 0, ho =>
                  obtain rfl := Option.some.inj ho
                  exact StepsTo.move rfl (.tmp 6) (.inl rfl) ⟨(hw 6 (by kernel_rfl)), World.grownBy.refl _ _, fun _ => World.grownBy.refl _ _⟩
                | 1, ho =>
                  obtain rfl := Option.some.inj ho
                  exact StepsTo.move rfl (.tmp 0) (.inl rfl) ⟨(hw 0 (by kernel_rfl)), World.grownBy.refl _ _, fun _ => World.grownBy.refl _ _⟩
                | 2, ho =>
                  obtain rfl := Option.some.inj ho
                  exact StepsTo.move rfl (.tmp 7) (.inl rfl) ⟨(hw 7 (by kernel_rfl)), World.grownBy.refl _ _, fun _ => World.grownBy.refl _ _⟩
                | 3, ho =>
                  obtain rfl := Option.some.inj ho
                  exact steps_index rfl (.tmp 34) (.tmp 35) rfl (ht 1 34 (by kernel_rfl)) (ht 2 35 (by kernel_rfl)) hlt ⟨rfl, World.grownBy.refl _ _, fun _ => World.grownBy.refl _ _⟩
                | 4, ho =>
                  obtain rfl := Option.some.inj ho
                  exact steps_load rfl (.tmp 36) rfl (ht 3 36 (by kernel_rfl)) (HCX.out _ hg) ⟨rfl, World.grownBy.refl _ _, fun _ => World.grownBy.refl _ _⟩
                | 5, ho =>
                  obtain rfl := Option.some.inj ho
                  exact steps_slice1 rfl (.tmp 37) rfl (ht 4 37 (by kernel_rfl)) ⟨newOne_alloc hg.size (HWF.out _ (.inl rfl)), World.grownBy_alloc _ _ _, fun _ => World.grownBy_alloc _ _ _⟩
                | 6, ho =>
                  obtain rfl := Option.some.inj ho
                  exact StepsTo.move rfl (.tmp 0) (.inl rfl) ⟨(hw 0 (by kernel_rfl)), World.grownBy.refl _ _, fun _ => World.grownBy.refl _ _⟩
                | 7, ho =>
                  obtain rfl := Option.some.inj ho
                  exact StepsTo.move rfl (.tmp 8) (.inl rfl) ⟨(hw 8 (by kernel_rfl)), World.grownBy.refl _ _, fun _ => World.grownBy.refl _ _⟩
                | 8, ho =>
                  obtain rfl := Option.some.inj ho
                  exact steps_index rfl (.tmp 39) (.tmp 40) rfl (ht 6 39 (by kernel_rfl)) (ht 7 40 (by kernel_rfl)) hlk ⟨rfl, World.grownBy.refl _ _, fun _ => World.grownBy.refl _ _⟩
                | 9, ho =>
                  obtain rfl := Option.some.inj ho
                  exact steps_load rfl (.tmp 41) rfl (ht 8 41 (by kernel_rfl)) (HCY.out _ hg) ⟨rfl, World.grownBy.refl _ _, fun _ => World.grownBy.refl _ _⟩
                | 10, ho =>
                  obtain rfl := Option.some.inj ho
                  exact steps_slice1 rfl (.tmp 42) rfl (ht 9 42 (by kernel_rfl)) ⟨newOne_alloc hg.size (HWF.out _ (.inr rfl)), World.grownBy_alloc _ _ _, fun _ => World.grownBy_alloc _ _ _⟩
                | 11, ho =>
                  obtain rfl := Option.some.inj ho
                  exact StepsTo.move rfl (.tmp 1) (.inl rfl) ⟨(hw 1 (by kernel_rfl)), World.grownBy.refl _ _, fun _ => World.grownBy.refl _ _⟩
                | 12, ho =>
                  obtain rfl := Option.some.inj ho
                  obtain ⟨p, q, e1, e2, hr⟩ := newRule_of (ht 5 38 (by kernel_rfl)) (ht 10 43 (by kernel_rfl)) HC64.out
                  exact steps_rule rfl (.tmp 38) (.tmp 43) (.tmp 44) rfl e1 e2 (ht 11 44 (by kernel_rfl)) ⟨hr, World.grownBy.refl _ _, fun _ => World.grownBy.refl _ _⟩
                | 13, ho =>
                  obtain rfl := Option.some.inj ho
                  obtain ⟨X, e1, hX, hr, hh⟩ := (ht 12 45 (by kernel_rfl))
                  exact steps_rules1 rfl (.tmp 45) rfl e1 ⟨by have h := newRules_alloc (w := w1) hg.size [X] (by intro x hx; rw [List.mem_singleton.1 hx]; exact ⟨hX, hh⟩) (by simp); rw [show ruls [X] = [X.r] from rfl, hr] at h; exact h, World.grownBy_alloc _ _ _, fun _ => World.grownBy_alloc _ _ _⟩
                | 14, ho =>
                  obtain rfl := Option.some.inj ho
                  exact steps_append rfl (.tmp 33) (.tmp 46) rfl (ht 0 33 (by kernel_rfl)) (hacc1 rfl) HROW.out rfl (ht 13 46 (by kernel_rfl)) (by simp) (by simp; omega) (Nat.le_trans HBA.out hg.size) (fun v' w' zs hz ha hgr hat => ⟨⟨⟨zs, hz, ha⟩, hat.imp id fun h => ⟨_, h, hg.size⟩⟩, hgr, fun hne => absurd rfl hne⟩)
                | 15, ho =>
                  obtain rfl := Option.some.inj ho
                  exact StepsTo.move rfl (.tmp 47) (.inr rfl) ⟨(ht 14 47 (by kernel_rfl)), World.grownBy.refl _ _, fun _ => World.grownBy.refl _ _⟩
                | j1 + 16, ho => exact absurd (Array.getElem?_eq_some_iff.1 ho).1 (by simp)
              · have h15 := hto 15 6 (by kernel_rfl)
                clear hto
                rw [act_lit tm (show tm.size = 54 from hsz)]
                simp only [List.range, List.range.loop, List.map_cons, List.map_nil]
                rw [hfr 0 (by kernel_rfl), hfr 1 (by kernel_rfl), hfr 2 (by kernel_rfl), hfr 3 (by kernel_rfl), hfr 4 (by kernel_rfl), hfr 5 (by kernel_rfl), hfr 7 (by kernel_rfl), hfr 8 (by kernel_rfl), hfr 9 (by kernel_rfl), hfr 10 (by kernel_rfl), hfr 11 (by kernel_rfl), hfr 12 (by kernel_rfl), hfr 13 (by kernel_rfl), hfr 14 (by kernel_rfl), hfr 15 (by kernel_rfl), hfr 16 (by kernel_rfl), hfr 17 (by kernel_rfl), hfr 18 (by kernel_rfl), hfr 19 (by kernel_rfl), hfr 20 (by kernel_rfl), hfr 21 (by kernel_rfl), hfr 22 (by kernel_rfl), hfr 23 (by kernel_rfl), hfr 24 (by kernel_rfl), hfr 25 (by kernel_rfl), hfr 26 (by kernel_rfl), hfr 27 (by kernel_rfl), hfr 28 (by kernel_rfl), hfr 29 (by kernel_rfl), hfr 30 (by kernel_rfl), hfr 31 (by kernel_rfl), hfr 32 (by kernel_rfl), hfr 48 (by kernel_rfl), hfr 49 (by kernel_rfl), hfr 50 (by kernel_rfl), hfr 51 (by kernel_rfl), hfr 52 (by kernel_rfl), hfr 53 (by kernel_rfl)]
                generalize tm.getD 6 undef = y6 at *
                generalize tm.getD 33 undef = y33 at *
                generalize tm.getD 34 undef = y34 at *
                generalize tm.getD 35 undef = y35 at *
                generalize tm.getD 36 undef = y36 at *
                generalize tm.getD 37 undef = y37 at *
                generalize tm.getD 38 undef = y38 at *
                generalize tm.getD 39 undef = y39 at *
                generalize tm.getD 40 undef = y40 at *
                generalize tm.getD 41 undef = y41 at *
                generalize tm.getD 42 undef = y42 at *
                generalize tm.getD 43 undef = y43 at *
                generalize tm.getD 44 undef = y44 at *
                generalize tm.getD 45 undef = y45 at *
                generalize tm.getD 46 undef = y46 at *
                generalize tm.getD 47 undef = y47 at *
                clear hfr hsz tm
                simp only [Array.getD_eq_getD_getElem?, List.getElem?_toArray, List.getElem?_cons_succ, List.getElem?_cons_zero, Option.getD_some]
                have h15' : (∃ zs, ruls zs = [⟨[x], [y], C⟩] ∧ Acc w.heap.size w1 y6 (outs' ++ zs)) ∧ (ov.ownBlock = y6.ownBlock ∨ ∃ g, y6.ownBlock = some g ∧ V.heap.size ≤ g) := h15
                obtain ⟨⟨zs, hzs, hacc⟩, _⟩ := h15'
                have hzl : zs.length = 1 := by rw [← ruls_length zs, hzs]; rfl
                have HZS := Lib.hid hzs
                have HACN := Lib.hid hacc
                have HB1W : Hid (Below w.heap.size w w1) := HBV.out.drew.grown hg HBV.out.size HLOW.out
                clear h15 hzs hacc hg
                go_wp2
                go_roundw
                case rel => exact ⟨k + 1, outs' ++ zs, by omega, by go_num, by simp [hzl]; omega, HACN.out, by show _ = _; rw [HE.out, ruls_app, HRL'.out, HZS.out, List.append_assoc], HB1W.out⟩
                case measure => simp [intOf]; omega
          · obtain rfl : k = n := by omega
            have hx1 := HC1.out i _ hlt HBW'.out
            rw [← HX.out] at hx1
            have HIL : Hid (i < l.length) := by show _ < _; rw [HL.out]; exact hlt
            have HRN : Hid (ruls outs' = (l.take (i + 1)).flatMap fun x => Spec.mapsA C x l) := by
              show _ = _
              rw [HRL'.out, take_snoc HIL.out, List.flatMap_append, ← HX.out, List.take_of_length_le (show l.length ≤ k by rw [HL.out]; exact Nat.le_refl _)]
              simp
            by_cases h95 : x = 95
            · have he : (x == 95) = true := by simpa using h95
              obtain rfl : ok = false := by
                rw [← HOK.out]; unfold Spec.mapsOk
                rw [Bool.and_eq_false_iff]; right
                rw [List.all_eq_false]
                refine ⟨x, ?_, by simpa using h95⟩
                rw [HX.out, List.getD_eq_getElem?_getD, List.getElem?_eq_getElem HIL.out, Option.getD_some]
                exact List.getElem_mem _
              obtain rfl : rs = [] := HRS.out.symm
              clear h95
              go_wp2
              go_ret2
              exact ⟨none, 0, 0, [], rfl, Rs.nil, rfl, fun _ => rfl, HBW'.out⟩
            · have he : (x == 95) = false := by simpa using h95
              have H95N : Hid (∀ z ∈ l.take (i + 1), z ≠ 95) := by
                intro z hz
                rw [take_snoc HIL.out] at hz
                rcases List.mem_append.1 hz with hz | hz
                · exact H95.out z hz
                · rw [List.mem_singleton.1 hz, ← HX.out]; exact h95
              clear h95
              go_wp2
              go_roundw
              case rel => exact ⟨i + 1, outs', by omega, by go_num, by omega, HAC'.out, HRN.out, H95N.out, HBW'.out⟩
              case measure => simp [intOf]; omega
      · obtain rfl : i = n := by omega
        have hall : l.take i = l := List.take_of_length_le (by rw [HL.out]; exact Nat.le_refl _)
        obtain rfl : ok = true := by
          rw [← HOK.out]; unfold Spec.mapsOk
          rw [Bool.and_eq_true, decide_eq_true_iff, List.all_eq_true]
          refine ⟨by rw [HL.out]; omega, fun z hz => ?_⟩
          have := H95.out z (by rw [hall]; exact hz)
          simpa using this
        have HR : Hid (ruls outs = rs) := by
          show _ = _
          rw [← HRS.out, if_pos rfl, HRL.out, hall]; rfl
        clear hall
        go_wp2
        go_ret2
        obtain ⟨xa, c, he, hnil, hrs⟩ := HAC.out.form
        exact ⟨xa, outs.length, c, outs, by rw [← he]; rfl, hrs, HR.out, hnil, HBW.out⟩

end Go.Proofs.YtjmabjeaodojeaaGreat
