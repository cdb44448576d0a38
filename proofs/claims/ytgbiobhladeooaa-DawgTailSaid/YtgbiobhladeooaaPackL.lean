import Derived.Test.YtgbiobhladeooaaPackN
import Derived.Test.YtgbiobhladeooaaOrderRefB
import Derived.Test.YtgbiobhladeooaaPackF
/- The document's Fit, Write and Read of layer 9. Written by wip/gen/word_ref.py. -/
namespace Go.Proofs.Ytgbiobhladeooaa
open Go.RowKit

/-! ### Fit -/
set_option maxHeartbeats 6400000 in
set_option maxRecDepth 100000 in
theorem rwfit_is (a : Option Addr) (n cap : Nat) (zs : List Int) (r : Bool) (w : World) (hs : Sl .i64 w a n cap zs) (hr : Wl.fit zs = r) :
    Calls Try.prog 70 #[.slice a n cap] w fun e w' => e = .returned (.bool r) ∧ w' = w := by
  have hl := hs.1
  have hnc := hs.2.1
  have hcm := hs.2.2.1
  unfold maxLen at hcm
  have hr2 : (decide (1 ≤ n) && decide (n ≤ 20) && zs.all Wl.may && !decide (zs.getD 0 0 = 35)) = r := by rw [← hr, ← hl]; rfl
  have HS := Lib.hid hs
  have HR := Lib.hid hr2
  have HL := Lib.hid hl
  clear hs hr hr2 hl
  go_enter Try.func70, Try.ntmps70
  go_wp2
  go_loopw [3] (fun ix wr => ∃ j : Nat, j ≤ n ∧ ix = .int .i64 (j : Int) ∧ Hid ((zs.take j).all Wl.may = true) ∧ wr = w) (fun ix _ => n - (intOf ix).toNat)
  case atStart => exact ⟨0, Nat.zero_le _, rfl, by first | rfl | trivial, rfl⟩
  case round =>
    obtain ⟨j, hj, rfl, HT, rfl⟩ := hrel
    by_cases hlt : j < n
    · obtain ⟨b, off, rfl, hb, hc⟩ := HS.out.at (by omega)
      have hx := hc j hlt
      have hwf := HS.out.2.2.2.1 (zs.getD j 0) (by rw [List.getD_eq_getElem?_getD, List.getElem?_eq_getElem (by rw [HL.out]; exact hlt), Option.getD_some]; exact List.getElem_mem _)
      obtain ⟨z, hz⟩ : ∃ z, zs.getD j 0 = z := ⟨_, rfl⟩
      rw [hz] at hx hwf
      have hb0 : -9223372036854775808 ≤ z ∧ z ≤ 9223372036854775807 := by
        simp [Lit.wf, IntKind.min, IntKind.max, IntKind.signed, IntKind.bits] at hwf
        omega
      have HB0 := Lib.hid hb0
      have HZ := Lib.hid hz
      have hlti : (j : Int) < (n : Int) := by omega
      have HNO : Hid (∀ q : Bool, Wl.may z = false → r = false) := fun _ h => by
        have h1 : zs.all Wl.may = false := all_not (by rw [HL.out]; exact hlt) (by rw [HZ.out]; exact h)
        rw [← HR.out, h1]; simp
      clear hc hz hwf hb0
      cases hg : Utf.good z
      · have hmay : Wl.may z = false := by unfold Wl.may; rw [hg]; rfl
        go_wp2_with (go_at_call 57; refine (rgood_any z _ HB0.out.1 HB0.out.2).mono ?_; rintro e w1 ⟨rfl, rfl⟩; rw [hg])
        obtain rfl : r = false := HNO.out true hmay
        go_ret
        exact ⟨rfl, rfl⟩
      · by_cases h9 : z = 9
        · subst h9
          have hmay : Wl.may 9 = false := by decide
          go_wp2_with (go_at_call 57; refine (rgood_any _ _ HB0.out.1 HB0.out.2).mono ?_; rintro e w1 ⟨rfl, rfl⟩; rw [hg])
          obtain rfl : r = false := HNO.out true hmay
          go_ret
          exact ⟨rfl, rfl⟩
        · by_cases h10 : z = 10
          · subst h10
            have hmay : Wl.may 10 = false := by decide
            go_wp2_with (go_at_call 57; refine (rgood_any _ _ HB0.out.1 HB0.out.2).mono ?_; rintro e w1 ⟨rfl, rfl⟩; rw [hg])
            obtain rfl : r = false := HNO.out true hmay
            go_ret
            exact ⟨rfl, rfl⟩
          · by_cases h32 : z = 32
            · subst h32
              have hmay : Wl.may 32 = false := by decide
              go_wp2_with (go_at_call 57; refine (rgood_any _ _ HB0.out.1 HB0.out.2).mono ?_; rintro e w1 ⟨rfl, rfl⟩; rw [hg])
              obtain rfl : r = false := HNO.out true hmay
              go_ret
              exact ⟨rfl, rfl⟩
            · have hmay : Wl.may z = true := by unfold Wl.may; rw [hg]; simp [h9, h10, h32]
              have e9 : (z == 9) = false := by simpa using h9
              have e10 : (z == 10) = false := by simpa using h10
              have e32 : (z == 32) = false := by simpa using h32
              have HMAY := Lib.hid hmay
              clear hmay
              go_wp2_with (go_at_call 57; refine (rgood_any z _ HB0.out.1 HB0.out.2).mono ?_; rintro e w1 ⟨rfl, rfl⟩; rw [hg])
              go_roundw
              case rel => exact ⟨j + 1, by omega, by go_num, all_at HT.out (by rw [HL.out]; exact hlt) (by rw [HZ.out]; exact HMAY.out), trivial⟩
              case measure => simp [intOf]; omega
    · obtain rfl : j = n := by omega
      have HA : Hid (zs.all Wl.may = true) := by
        have h := HT.out
        rw [List.take_of_length_le (by rw [HL.out]; exact Nat.le_refl _)] at h
        exact h
      have HR2 : Hid ((decide (1 ≤ j) && decide (j ≤ 20) && !decide (zs.getD 0 0 = 35)) = r) := by
        have h := HR.out
        rw [HA.out, Bool.and_true] at h
        exact h
      have hji : ¬ (j : Int) < (j : Int) := by omega
      rcases Nat.eq_zero_or_pos j with h0 | hp
      · subst h0
        obtain rfl : r = false := by rw [← HR2.out]; rfl
        go_wp2
        go_ret
        exact ⟨rfl, rfl⟩
      · have hp1 : (1 : Int) ≤ (j : Int) := by omega
        by_cases h20 : j ≤ 20
        · have h20i : (j : Int) ≤ 20 := by omega
          have h0i : (0 : Int) < (j : Int) := by omega
          obtain ⟨b, off, rfl, hb, hc⟩ := HS.out.at hp
          have hx : wr.cell? ⟨b, off, none⟩ = some (.int .i64 (zs.getD 0 0)) := hc 0 hp
          have h3 := HR2.out
          rw [decide_eq_true (show 1 ≤ j from hp), decide_eq_true h20, Bool.true_and, Bool.true_and] at h3
          obtain ⟨z, hz⟩ : ∃ z, zs.getD 0 0 = z := ⟨_, rfl⟩
          rw [hz] at hx h3
          clear hc hz
          by_cases hh : z = 35
          · subst hh
            obtain rfl : r = false := by rw [← h3]; rfl
            clear h3
            go_wp2
            go_ret
            exact ⟨rfl, rfl⟩
          · have hzz : (z != 35) = true := by simpa using hh
            obtain rfl : r = true := by rw [← h3, decide_eq_false hh]; rfl
            clear h3 hh
            go_wp2
            go_ret
            exact ⟨rfl, rfl⟩
        · have h20i : ¬ (j : Int) ≤ 20 := by omega
          obtain rfl : r = false := by rw [← HR2.out, decide_eq_false h20]; simp
          go_wp2
          go_ret
          exact ⟨rfl, rfl⟩

end Go.Proofs.Ytgbiobhladeooaa

/- The document's Write and Read of layer 9. Written by wip/gen/word_refw.py. -/
namespace Go.Proofs.Ytgbiobhladeooaa
open Go.RowKit

set_option maxHeartbeats 12800000 in
set_option maxRecDepth 100000 in
theorem rwwrite_is (a : Option Addr) (n cap : Nat) (xs : List Wd) (p : List Int × Int) (w : World) (hs : Ws w a n cap xs) (hp : Wl.write (nums xs) = p) :
    Calls Try.prog 51 #[.slice a n cap] w fun e w' => WroteIs w w' e p := by
  have hnc := hs.2.1
  have hcm := hs.2.2.1
  unfold maxLen at hcm
  have HS := Lib.hid hs
  have HL : Hid ((nums xs).length = n) := by show _ = _; rw [nums_length, hs.1]
  unfold Wl.write at hp
  rw [HL.out] at hp
  have HP := Lib.hid hp
  clear hs hp
  by_cases h300 : 300 < n
  · have hp := HP.out
    rw [if_pos h300] at hp
    subst hp
    have h300i : (300 : Int) < (n : Int) := by omega
    clear HP
    go_enter Try.func51, Try.ntmps51
    go_wp2
    go_ret2
    exact ⟨none, 0, rfl, Sl.nil, fun _ => rfl, Below.refl _ _⟩
  · have h300i : ¬ (300 : Int) < (n : Int) := by omega
    have HP2 : Hid ((if (nums xs).all Wl.fit = true ∧ Wl.rises (nums xs) = true then (wlines (nums xs), 0) else ([], 90)) = p) := by
      have hp := HP.out
      rw [if_neg h300] at hp
      exact hp
    have HPF : Hid ((nums xs).all Wl.fit = false → p = ([], 90)) := fun h => by rw [← HP2.out, h]; simp
    have HPR : Hid (Wl.rises (nums xs) = false → p = ([], 90)) := fun h => by rw [← HP2.out, h]; simp
    clear HP
    go_enter Try.func51, Try.ntmps51
    go_wp2
    go_loopw [4, 5] (fun ov ix wr => ∃ (j : Nat) (a1 : Option Addr) (L c1 : Nat) (outs : List Int), j ≤ n ∧ ov = .slice a1 L c1 ∧ ix = .int .i64 (j : Int) ∧ L ≤ 81 * j ∧ Hid (wlines ((nums xs).take j) = outs) ∧ Hid (((nums xs).take j).all Wl.fit = true) ∧ Hid (∀ i, i + 1 < j → lessL ((nums xs).getD i []) ((nums xs).getD (i + 1) []) = true) ∧ Hid (wr.ownsRow w.heap.size 5 1 (.slice a1 L c1) L (u8s outs)) ∧ Hid (a1 = none → c1 = 0) ∧ Hid (Below w.heap.size w wr)) (fun _ ix _ => n - (intOf ix).toNat)
    case atStart => exact ⟨0, none, 0, 0, [], Nat.zero_le _, rfl, rfl, Nat.zero_le _, (by show wlines _ = _; simp [wlines]), (by first | rfl | trivial), fun i hi => by omega, ⟨rfl, .inl ⟨rfl, rfl⟩⟩, fun _ => rfl, Below.refl _ _⟩
    case round =>
      obtain ⟨j, a1, L, c1, outs, hj, rfl, rfl, hL, HO, HF, HR, HOWN, HNIL, HBW⟩ := hrel
      by_cases hlt : j < n
      · obtain ⟨b1, o1, za, zn, zc, z, rfl, hb1, hgd, hcl, hsl, hz⟩ := (HS.out.below HBW.out (Nat.le_refl _)).one j hlt
        have hb1' : b1 < wr.heap.size := hb1
        have hzin : z ∈ nums xs := by rw [← hz, List.getD_eq_getElem?_getD, List.getElem?_eq_getElem (by rw [HL.out]; exact hlt), Option.getD_some]; exact List.getElem_mem _
        have HT : Hid ((nums xs).take (j + 1) = (nums xs).take j ++ [z]) := nums_step (by rw [← nums_length, HL.out]; exact hlt) hz
        have HSL := Lib.hid hsl
        have HZ := Lib.hid hz
        have hlti : (j : Int) < (n : Int) := by omega
        cases hq : Wl.fit z
        · have HQ := Lib.hid hq
          have hall : (nums xs).all Wl.fit = false := by rw [List.all_eq_false]; exact ⟨z, hzin, by rw [hq]; decide⟩
          obtain rfl : p = ([], 90) := HPF.out hall
          clear hall hq hzin hgd hsl hz
          go_wp2_with (go_at_call 70; refine (rwfit_is za zn zc z false _ HSL.out HQ.out).mono ?_; rintro e w1 ⟨rfl, rfl⟩)
          go_quiet (fail)
          go_wp2
          go_ret2
          exact ⟨none, 0, rfl, Sl.nil, fun _ => rfl, below_drewN HBW.out _⟩
        · obtain ⟨f1, f2, f3, f4, f5⟩ := Wl.fit_parts hq
          have HG := Lib.hid f3
          have HQ := Lib.hid hq
          obtain ⟨bs, hbs⟩ : ∃ bs, Utf.put z = bs := ⟨_, rfl⟩
          obtain ⟨m, hm⟩ : ∃ m, bs.length = m := ⟨_, rfl⟩
          have hml : m ≤ 80 := by rw [← hm, ← hbs]; have := Utf.put_length_le z; omega
          have hznl : zn ≤ 17592186044416 := by have := hsl.1; omega
          have HBS := Lib.hid hbs
          have HM := Lib.hid hm
          have HFN : Hid (((nums xs).take (j + 1)).all Wl.fit = true) := by
            show _ = _
            rw [HT.out, List.all_append, HF.out]; simp [HQ.out]
          have HSLX : ∀ W, Below w.heap.size w W → Sl .i64 W za zn zc z := fun W hW => by
            have h := (HS.out.below hW (Nat.le_refl _)).one j hlt
            obtain ⟨b2, o2, za2, zn2, zc2, z2, e2, hb2, hgd2, hcl2, hsl2, hz2⟩ := h
            rw [hgd] at hgd2
            simp only [Wd.mk.injEq] at hgd2
            obtain ⟨rfl, rfl, rfl, rfl⟩ := hgd2
            exact hsl2
          have HOX : ∀ W, (∃ q, W = wr.drewN q) → W.ownsRow w.heap.size 5 1 (.slice a1 L c1) L (u8s outs) := fun W hW => by
            obtain ⟨q, rfl⟩ := hW
            exact ownsRow_below HOWN.out (below_drewN (Below.refl _ _) q) (Nat.le_refl _)
          rcases Nat.eq_zero_or_pos j with h0 | hp
          · subst h0
            have HRN : Hid (∀ i, i + 1 < 0 + 1 → lessL ((nums xs).getD i []) ((nums xs).getD (i + 1) []) = true) := fun i hi => by omega
            have hcl0 : wr.cell? ⟨b1, o1, none⟩ = some (.slice za zn zc) := hcl
            have hcl1 : ∀ q, (wr.drewN q).cell? ⟨b1, o1, none⟩ = some (.slice za zn zc) := fun _ => hcl
            clear f1 f2 f3 f4 f5 hzin hgd hsl hz hbs hm hq hcl
            go_wp2_with (go_at_call 70; refine (rwfit_is za zn zc z true _ HSL.out HQ.out).mono ?_; rintro e w1 ⟨rfl, rfl⟩)
            go_quiet (fail)
            go_wp2_with (first
              | (go_at_call 71; refine (rput_gen za zn zc z bs 0 _ (.inl ⟨HG.out, HBS.out.symm, rfl⟩) (HSLX _ (below_drawn HBW.out ⟨_, rfl⟩)) hznl).mono ?_; rintro e w2 ⟨g, gc, rfl, hs2, hb2⟩; rw [HM.out] at hs2 ⊢; have HS2 := Lib.hid hs2; have HB2 : Hid (Below w.heap.size w w2) := (below_drewN HBW.out _).trans (hb2.mono (below_drewN HBW.out _).size); have HO2 := Lib.hid (ownsRow_below (HOX _ ⟨_, rfl⟩) hb2 (Nat.le_refl _)); clear hs2 hb2)
              | (at_builtin; refine append_bytes (by rfl) (.tmp 50) (.tmp 51) (by rfl) w.heap.size _ L outs (by rfl) HO2.out g m gc bs (by rfl) HS2.out (L + m) rfl (by omega) HB2.out.size ?_; intro a3 c3 w3 hown3 hb3 hnil3; have HO3 := Lib.hid hown3; have HB3 : Hid (Below w.heap.size w w3) := HB2.out.trans hb3; clear hown3 hb3 hnil3)
              | (at_builtin; refine append_bytes (by rfl) (.tmp 52) (.tmp 53) (by rfl) w.heap.size _ (L + m) (outs ++ bs) (by rfl) (HO3.out.alloc _) (some ⟨w3.heap.size, 0, none⟩) 1 1 [10] (by rfl) (Sl.newB [10] (by decide) (by unfold maxLen; simp) rfl rfl rfl) (L + m + 1) rfl (by omega) (by have := HB3.out.size; rw [World.size_alloc]; omega) ?_; intro a4 c4 w4 hown4 hb4 hnil4; have HO4 := Lib.hid hown4; have HN4 := Lib.hid hnil4; have HB4 : Hid (Below w.heap.size w w4) := (HB3.out.alloc HB3.out.size _).trans hb4; clear hown4 hb4 hnil4))
            go_roundw
            case rel => exact ⟨0 + 1, a4, L + m + 1, c4, outs ++ bs ++ [10], by omega, rfl, by go_num, by omega, (by show _ = _; rw [HT.out, wlines_snoc, HO.out, HBS.out]), HFN.out, HRN.out, HO4.out, HN4.out, HB4.out⟩
            case measure => simp [intOf]; omega
          · obtain ⟨p', rfl⟩ : ∃ p', j = p' + 1 := ⟨j - 1, by omega⟩
            obtain ⟨b2, o2, ya, yn, yc, y, hb2, _, hgd2, hcl2, hsl2, hz2⟩ := (HS.out.below HBW.out (Nat.le_refl _)).one p' (by omega)
            simp only [Option.some.injEq, Addr.mk.injEq, and_true] at hb2
            obtain ⟨rfl, rfl⟩ := hb2
            have HSY := Lib.hid hsl2
            have HZY := Lib.hid hz2
            have hpos : (0 : Int) < (p' : Int) + 1 := by omega
            have hpw : IntKind.i64.wrap ((p' : Int) + 1 - 1) = (p' : Int) := by rw [IntKind.wrap_i64]; omega
            have hpn : (p' : Int) < (n : Int) := by omega
            have hp0 : (0 : Int) ≤ (p' : Int) := by omega
            have hp1 : (0 : Int) ≤ (p' : Int) + 1 := by omega
            have htn : ((p' : Int) + 1).toNat = p' + 1 := by omega
            cases hle : lessL y z
            · have hris : Wl.rises (nums xs) = false := rises_bad (i := p') (by rw [HL.out]; exact hlt) (by rw [hz2, hz]; exact hle)
              obtain rfl : p = ([], 90) := HPR.out hris
              have HLE := Lib.hid hle
              clear f1 f2 f3 f4 f5 hzin hgd hsl hz hbs hm hq hgd2 hsl2 hz2 hris hle
              go_wp2_with (go_at_call 70; refine (rwfit_is za zn zc z true _ HSL.out HQ.out).mono ?_; rintro e w1 ⟨rfl, rfl⟩)
              go_quiet ((go_at_call 53; exact Calls.quiet_of (rless_is ya za yn zn yc zc y z false _ (HSY.out.drewN _) (HSL.out.drewN _) HLE.out)))
              go_wp2
              go_ret2
              exact ⟨none, 0, rfl, Sl.nil, fun _ => rfl, below_drewN HBW.out _⟩
            · have HLE := Lib.hid hle
              have HRN : Hid (∀ i, i + 1 < p' + 1 + 1 → lessL ((nums xs).getD i []) ((nums xs).getD (i + 1) []) = true) := fun i hi => by
                rcases Nat.lt_or_ge (i + 1) (p' + 1) with h | h
                · exact HR.out i h
                · obtain rfl : i = p' := by omega
                  rw [HZY.out, HZ.out]; exact HLE.out
              clear f1 f2 f3 f4 f5 hzin hgd hsl hz hbs hm hq hgd2 hsl2 hz2 hle
              go_wp2_with (go_at_call 70; refine (rwfit_is za zn zc z true _ HSL.out HQ.out).mono ?_; rintro e w1 ⟨rfl, rfl⟩)
              go_quiet ((go_at_call 53; exact Calls.quiet_of (rless_is ya za yn zn yc zc y z true _ (HSY.out.drewN _) (HSL.out.drewN _) HLE.out)))
              go_wp2_with (first
                | (go_at_call 71; refine (rput_gen za zn zc z bs 0 _ (.inl ⟨HG.out, HBS.out.symm, rfl⟩) (HSLX _ (below_drawn HBW.out ⟨_, rfl⟩)) hznl).mono ?_; rintro e w2 ⟨g, gc, rfl, hs2, hb2⟩; rw [HM.out] at hs2 ⊢; have HS2 := Lib.hid hs2; have HB2 : Hid (Below w.heap.size w w2) := (below_drewN HBW.out _).trans (hb2.mono (below_drewN HBW.out _).size); have HO2 := Lib.hid (ownsRow_below (HOX _ ⟨_, rfl⟩) hb2 (Nat.le_refl _)); clear hs2 hb2)
                | (at_builtin; refine append_bytes (by rfl) (.tmp 50) (.tmp 51) (by rfl) w.heap.size _ L outs (by rfl) HO2.out g m gc bs (by rfl) HS2.out (L + m) rfl (by omega) HB2.out.size ?_; intro a3 c3 w3 hown3 hb3 hnil3; have HO3 := Lib.hid hown3; have HB3 : Hid (Below w.heap.size w w3) := HB2.out.trans hb3; clear hown3 hb3 hnil3)
                | (at_builtin; refine append_bytes (by rfl) (.tmp 52) (.tmp 53) (by rfl) w.heap.size _ (L + m) (outs ++ bs) (by rfl) (HO3.out.alloc _) (some ⟨w3.heap.size, 0, none⟩) 1 1 [10] (by rfl) (Sl.newB [10] (by decide) (by unfold maxLen; simp) rfl rfl rfl) (L + m + 1) rfl (by omega) (by have := HB3.out.size; rw [World.size_alloc]; omega) ?_; intro a4 c4 w4 hown4 hb4 hnil4; have HO4 := Lib.hid hown4; have HN4 := Lib.hid hnil4; have HB4 : Hid (Below w.heap.size w w4) := (HB3.out.alloc HB3.out.size _).trans hb4; clear hown4 hb4 hnil4))
              go_roundw
              case rel => exact ⟨p' + 1 + 1, a4, L + m + 1, c4, outs ++ bs ++ [10], by omega, rfl, by go_num, by omega, (by show _ = _; rw [HT.out, wlines_snoc, HO.out, HBS.out]), HFN.out, HRN.out, HO4.out, HN4.out, HB4.out⟩
              case measure => simp [intOf]; omega
      · obtain rfl : j = n := by omega
        have HFA : Hid ((nums xs).all Wl.fit = true) := by
          have h := HF.out
          rw [List.take_of_length_le (by rw [HL.out]; exact Nat.le_refl _)] at h
          exact h
        have HRA : Hid (Wl.rises (nums xs) = true) := rises_good fun i hi => HR.out i (by rw [HL.out] at hi; exact hi)
        obtain rfl : p = (wlines (nums xs), 0) := by rw [← HP2.out, HFA.out, HRA.out]; simp
        have HALL : Hid (wlines (nums xs) = outs) := by
          have h := HO.out
          rw [List.take_of_length_le (by rw [HL.out]; exact Nat.le_refl _)] at h
          exact h
        have HLN : Hid (outs.length = L) := by have h := HOWN.out.1; unfold u8s at h; rw [List.length_map] at h; show _ = _; omega
        go_wp2
        go_ret2
        refine ⟨a1, c1, ?_, ?_, HNIL.out, HBW.out⟩
        · show _ = Ending.returned (.tuple #[.slice a1 (wlines (nums xs)).length c1, .int .i64 0])
          rw [HALL.out, HLN.out]; rfl
        · show Sl .u8 _ a1 (wlines (nums xs)).length c1 (wlines (nums xs))
          rw [HALL.out, HLN.out]
          refine Sl.of_owns HOWN.out ?_ HLN.out
          rw [← HALL.out]
          exact lines_bytes fun z hz => (Wl.fit_parts (List.all_eq_true.1 HFA.out z hz)).2.2.1

end Go.Proofs.Ytgbiobhladeooaa
