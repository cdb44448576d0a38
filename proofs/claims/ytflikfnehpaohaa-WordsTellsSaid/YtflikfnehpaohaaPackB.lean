import Derived.Test.YtflikfnehpaohaaWordGot
import Derived.Test.YtflikfnehpaohaaPackA
import Derived.Test.YtflikfnehpaohaaLineRefC
/- The document's Fit, Write and Read of layer 9. Written by wip/gen/word_ref.py. -/
namespace Go.Proofs.Ytflikfnehpaohaa
open Go.RowKit

/-! ### Fit -/
set_option maxHeartbeats 6400000 in
set_option maxRecDepth 100000 in
theorem rwfit_is (a : Option Addr) (n cap : Nat) (zs : List Int) (r : Bool) (w : World) (hs : Sl .i64 w a n cap zs) (hr : Wl.fit zs = r) :
    Calls Try.prog 16 #[.slice a n cap] w fun e w' => e = .returned (.bool r) ∧ w' = w := by
  have hl := hs.1
  have hnc := hs.2.1
  have hcm := hs.2.2.1
  unfold maxLen at hcm
  have hr2 : (decide (1 ≤ n) && decide (n ≤ 20) && zs.all Wl.may && !decide (zs.getD 0 0 = 35)) = r := by rw [← hr, ← hl]; rfl
  have HS := Lib.hid hs
  have HR := Lib.hid hr2
  have HL := Lib.hid hl
  clear hs hr hr2 hl
  go_enter Try.func16, Try.ntmps16
  go_wp2
  go_loopw [3] (fun ix wr => ∃ j : Nat, j ≤ n ∧ ix = .int .i64 (j : Int) ∧ Hid ((zs.take j).all Wl.may = true) ∧ wr = w) (fun ix _ => n - (intOf ix).toNat)
  case atStart => exact ⟨0, Nat.zero_le _, rfl, by first | rfl | trivial, rfl⟩
  case round =>
    obtain ⟨j, hj, rfl, HT, rfl⟩ := hrel
    by_cases hlt : j < n
    · obtain ⟨b, off, rfl, hb, hc⟩ := HS.out.at (by omega)
      have hx := hc j hlt
      have hwf := HS.out.2.2.2.1 (zs.getD j 0) (by rw [List.getD_eq_getElem?_getD, List.getElem?_eq_getElem (by rw [HL.out]; exact hlt), Option.getD_some]; exact List.getElem_mem _)
      obtain ⟨z, hz⟩ : ∃ z, zs.getD j 0 = z := ⟨_, rfl⟩
      rw [hz] at hx hwf
      have hb0 : -9223372036854775808 ≤ z ∧ z ≤ 9223372036854775807 := by
        simp [Lit.wf, IntKind.min, IntKind.max, IntKind.signed, IntKind.bits] at hwf
        omega
      have HB0 := Lib.hid hb0
      have HZ := Lib.hid hz
      have hlti : (j : Int) < (n : Int) := by omega
      have HNO : Hid (∀ q : Bool, Wl.may z = false → r = false) := fun _ h => by
        have h1 : zs.all Wl.may = false := all_not (by rw [HL.out]; exact hlt) (by rw [HZ.out]; exact h)
        rw [← HR.out, h1]; simp
      clear hc hz hwf hb0
      cases hg : Utf.good z
      · have hmay : Wl.may z = false := by unfold Wl.may; rw [hg]; rfl
        go_wp2_with (go_at_call 40; refine (rgood_any z _ HB0.out.1 HB0.out.2).mono ?_; rintro e w1 ⟨rfl, rfl⟩; rw [hg])
        obtain rfl : r = false := HNO.out true hmay
        go_ret
        exact ⟨rfl, rfl⟩
      · by_cases h9 : z = 9
        · subst h9
          have hmay : Wl.may 9 = false := by decide
          go_wp2_with (go_at_call 40; refine (rgood_any _ _ HB0.out.1 HB0.out.2).mono ?_; rintro e w1 ⟨rfl, rfl⟩; rw [hg])
          obtain rfl : r = false := HNO.out true hmay
          go_ret
          exact ⟨rfl, rfl⟩
        · by_cases h10 : z = 10
          · subst h10
            have hmay : Wl.may 10 = false := by decide
            go_wp2_with (go_at_call 40; refine (rgood_any _ _ HB0.out.1 HB0.out.2).mono ?_; rintro e w1 ⟨rfl, rfl⟩; rw [hg])
            obtain rfl : r = false := HNO.out true hmay
            go_ret
            exact ⟨rfl, rfl⟩
          · by_cases h32 : z = 32
            · subst h32
              have hmay : Wl.may 32 = false := by decide
              go_wp2_with (go_at_call 40; refine (rgood_any _ _ HB0.out.1 HB0.out.2).mono ?_; rintro e w1 ⟨rfl, rfl⟩; rw [hg])
              obtain rfl : r = false := HNO.out true hmay
              go_ret
              exact ⟨rfl, rfl⟩
            · have hmay : Wl.may z = true := by unfold Wl.may; rw [hg]; simp [h9, h10, h32]
              have e9 : (z == 9) = false := by simpa using h9
              have e10 : (z == 10) = false := by simpa using h10
              have e32 : (z == 32) = false := by simpa using h32
              have HMAY := Lib.hid hmay
              clear hmay
              go_wp2_with (go_at_call 40; refine (rgood_any z _ HB0.out.1 HB0.out.2).mono ?_; rintro e w1 ⟨rfl, rfl⟩; rw [hg])
              go_roundw
              case rel => exact ⟨j + 1, by omega, by go_num, all_at HT.out (by rw [HL.out]; exact hlt) (by rw [HZ.out]; exact HMAY.out), trivial⟩
              case measure => simp [intOf]; omega
    · obtain rfl : j = n := by omega
      have HA : Hid (zs.all Wl.may = true) := by
        have h := HT.out
        rw [List.take_of_length_le (by rw [HL.out]; exact Nat.le_refl _)] at h
        exact h
      have HR2 : Hid ((decide (1 ≤ j) && decide (j ≤ 20) && !decide (zs.getD 0 0 = 35)) = r) := by
        have h := HR.out
        rw [HA.out, Bool.and_true] at h
        exact h
      have hji : ¬ (j : Int) < (j : Int) := by omega
      rcases Nat.eq_zero_or_pos j with h0 | hp
      · subst h0
        obtain rfl : r = false := by rw [← HR2.out]; rfl
        go_wp2
        go_ret
        exact ⟨rfl, rfl⟩
      · have hp1 : (1 : Int) ≤ (j : Int) := by omega
        by_cases h20 : j ≤ 20
        · have h20i : (j : Int) ≤ 20 := by omega
          have h0i : (0 : Int) < (j : Int) := by omega
          obtain ⟨b, off, rfl, hb, hc⟩ := HS.out.at hp
          have hx : wr.cell? ⟨b, off, none⟩ = some (.int .i64 (zs.getD 0 0)) := hc 0 hp
          have h3 := HR2.out
          rw [decide_eq_true (show 1 ≤ j from hp), decide_eq_true h20, Bool.true_and, Bool.true_and] at h3
          obtain ⟨z, hz⟩ : ∃ z, zs.getD 0 0 = z := ⟨_, rfl⟩
          rw [hz] at hx h3
          clear hc hz
          by_cases hh : z = 35
          · subst hh
            obtain rfl : r = false := by rw [← h3]; rfl
            clear h3
            go_wp2
            go_ret
            exact ⟨rfl, rfl⟩
          · have hzz : (z != 35) = true := by simpa using hh
            obtain rfl : r = true := by rw [← h3, decide_eq_false hh]; rfl
            clear h3 hh
            go_wp2
            go_ret
            exact ⟨rfl, rfl⟩
        · have h20i : ¬ (j : Int) ≤ 20 := by omega
          obtain rfl : r = false := by rw [← HR2.out, decide_eq_false h20]; simp
          go_wp2
          go_ret
          exact ⟨rfl, rfl⟩

end Go.Proofs.Ytflikfnehpaohaa

/- The document's Write and Read of layer 9. Written by wip/gen/word_refw.py. -/
namespace Go.Proofs.Ytflikfnehpaohaa
open Go.RowKit

set_option maxHeartbeats 12800000 in
set_option maxRecDepth 100000 in
theorem rwwrite_is (a : Option Addr) (n cap : Nat) (xs : List Wd) (p : List Int × Int) (w : World) (hs : Ws w a n cap xs) (hp : Wl.write (nums xs) = p) :
    Calls Try.prog 13 #[.slice a n cap] w fun e w' => WroteIs w w' e p := by
  have hnc := hs.2.1
  have hcm := hs.2.2.1
  unfold maxLen at hcm
  have HS := Lib.hid hs
  have HL : Hid ((nums xs).length = n) := by show _ = _; rw [nums_length, hs.1]
  unfold Wl.write at hp
  rw [HL.out] at hp
  have HP := Lib.hid hp
  clear hs hp
  by_cases h300 : 300 < n
  · have hp := HP.out
    rw [if_pos h300] at hp
    subst hp
    have h300i : (300 : Int) < (n : Int) := by omega
    clear HP
    go_enter Try.func13, Try.ntmps13
    go_wp2
    go_ret2
    exact ⟨none, 0, rfl, Sl.nil, fun _ => rfl, Below.refl _ _⟩
  · have h300i : ¬ (300 : Int) < (n : Int) := by omega
    have HP2 : Hid ((if (nums xs).all Wl.fit = true ∧ Wl.rises (nums xs) = true then (wlines (nums xs), 0) else ([], 90)) = p) := by
      have hp := HP.out
      rw [if_neg h300] at hp
      exact hp
    have HPF : Hid ((nums xs).all Wl.fit = false → p = ([], 90)) := fun h => by rw [← HP2.out, h]; simp
    have HPR : Hid (Wl.rises (nums xs) = false → p = ([], 90)) := fun h => by rw [← HP2.out, h]; simp
    clear HP
    go_enter Try.func13, Try.ntmps13
    go_wp2
    go_loopw [4, 5] (fun ov ix wr => ∃ (j : Nat) (a1 : Option Addr) (L c1 : Nat) (outs : List Int), j ≤ n ∧ ov = .slice a1 L c1 ∧ ix = .int .i64 (j : Int) ∧ L ≤ 81 * j ∧ Hid (wlines ((nums xs).take j) = outs) ∧ Hid (((nums xs).take j).all Wl.fit = true) ∧ Hid (∀ i, i + 1 < j → lessL ((nums xs).getD i []) ((nums xs).getD (i + 1) []) = true) ∧ Hid (wr.ownsRow w.heap.size 5 1 (.slice a1 L c1) L (u8s outs)) ∧ Hid (a1 = none → c1 = 0) ∧ Hid (Below w.heap.size w wr)) (fun _ ix _ => n - (intOf ix).toNat)
    case atStart => exact ⟨0, none, 0, 0, [], Nat.zero_le _, rfl, rfl, Nat.zero_le _, (by show wlines _ = _; simp [wlines]), (by first | rfl | trivial), fun i hi => by omega, ⟨rfl, .inl ⟨rfl, rfl⟩⟩, fun _ => rfl, Below.refl _ _⟩
    case round =>
      obtain ⟨j, a1, L, c1, outs, hj, rfl, rfl, hL, HO, HF, HR, HOWN, HNIL, HBW⟩ := hrel
      by_cases hlt : j < n
      · obtain ⟨b1, o1, za, zn, zc, z, rfl, hb1, hgd, hcl, hsl, hz⟩ := (HS.out.below HBW.out (Nat.le_refl _)).one j hlt
        have hb1' : b1 < wr.heap.size := hb1
        have hzin : z ∈ nums xs := by rw [← hz, List.getD_eq_getElem?_getD, List.getElem?_eq_getElem (by rw [HL.out]; exact hlt), Option.getD_some]; exact List.getElem_mem _
        have HT : Hid ((nums xs).take (j + 1) = (nums xs).take j ++ [z]) := nums_step (by rw [← nums_length, HL.out]; exact hlt) hz
        have HSL := Lib.hid hsl
        have HZ := Lib.hid hz
        have hlti : (j : Int) < (n : Int) := by omega
        cases hq : Wl.fit z
        · have HQ := Lib.hid hq
          have hall : (nums xs).all Wl.fit = false := by rw [List.all_eq_false]; exact ⟨z, hzin, by rw [hq]; decide⟩
          obtain rfl : p = ([], 90) := HPF.out hall
          clear hall hq hzin hgd hsl hz
          go_wp2_with (go_at_call 16; refine (rwfit_is za zn zc z false _ HSL.out HQ.out).mono ?_; rintro e w1 ⟨rfl, rfl⟩)
          go_quiet (fail)
          go_wp2
          go_ret2
          exact ⟨none, 0, rfl, Sl.nil, fun _ => rfl, below_drewN HBW.out _⟩
        · obtain ⟨f1, f2, f3, f4, f5⟩ := Wl.fit_parts hq
          have HG := Lib.hid f3
          have HQ := Lib.hid hq
          obtain ⟨bs, hbs⟩ : ∃ bs, Utf.put z = bs := ⟨_, rfl⟩
          obtain ⟨m, hm⟩ : ∃ m, bs.length = m := ⟨_, rfl⟩
          have hml : m ≤ 80 := by rw [← hm, ← hbs]; have := Utf.put_length_le z; omega
          have hznl : zn ≤ 17592186044416 := by have := hsl.1; omega
          have HBS := Lib.hid hbs
          have HM := Lib.hid hm
          have HFN : Hid (((nums xs).take (j + 1)).all Wl.fit = true) := by
            show _ = _
            rw [HT.out, List.all_append, HF.out]; simp [HQ.out]
          have HSLX : ∀ W, Below w.heap.size w W → Sl .i64 W za zn zc z := fun W hW => by
            have h := (HS.out.below hW (Nat.le_refl _)).one j hlt
            obtain ⟨b2, o2, za2, zn2, zc2, z2, e2, hb2, hgd2, hcl2, hsl2, hz2⟩ := h
            rw [hgd] at hgd2
            simp only [Wd.mk.injEq] at hgd2
            obtain ⟨rfl, rfl, rfl, rfl⟩ := hgd2
            exact hsl2
          have HOX : ∀ W, (∃ q, W = wr.drewN q) → W.ownsRow w.heap.size 5 1 (.slice a1 L c1) L (u8s outs) := fun W hW => by
            obtain ⟨q, rfl⟩ := hW
            exact ownsRow_below HOWN.out (below_drewN (Below.refl _ _) q) (Nat.le_refl _)
          rcases Nat.eq_zero_or_pos j with h0 | hp
          · subst h0
            have HRN : Hid (∀ i, i + 1 < 0 + 1 → lessL ((nums xs).getD i []) ((nums xs).getD (i + 1) []) = true) := fun i hi => by omega
            have hcl0 : wr.cell? ⟨b1, o1, none⟩ = some (.slice za zn zc) := hcl
            have hcl1 : ∀ q, (wr.drewN q).cell? ⟨b1, o1, none⟩ = some (.slice za zn zc) := fun _ => hcl
            clear f1 f2 f3 f4 f5 hzin hgd hsl hz hbs hm hq hcl
            go_wp2_with (go_at_call 16; refine (rwfit_is za zn zc z true _ HSL.out HQ.out).mono ?_; rintro e w1 ⟨rfl, rfl⟩)
            go_quiet (fail)
            go_wp2_with (first
              | (go_at_call 37; refine (rput_gen za zn zc z bs 0 _ (.inl ⟨HG.out, HBS.out.symm, rfl⟩) (HSLX _ (below_drawn HBW.out ⟨_, rfl⟩)) hznl).mono ?_; rintro e w2 ⟨g, gc, rfl, hs2, hb2⟩; rw [HM.out] at hs2 ⊢; have HS2 := Lib.hid hs2; have HB2 : Hid (Below w.heap.size w w2) := (below_drewN HBW.out _).trans (hb2.mono (below_drewN HBW.out _).size); have HO2 := Lib.hid (ownsRow_below (HOX _ ⟨_, rfl⟩) hb2 (Nat.le_refl _)); clear hs2 hb2)
              | (at_builtin; refine append_bytes (by rfl) (.tmp 50) (.tmp 51) (by rfl) w.heap.size _ L outs (by rfl) HO2.out g m gc bs (by rfl) HS2.out (L + m) rfl (by omega) HB2.out.size ?_; intro a3 c3 w3 hown3 hb3 hnil3; have HO3 := Lib.hid hown3; have HB3 : Hid (Below w.heap.size w w3) := HB2.out.trans hb3; clear hown3 hb3 hnil3)
              | (at_builtin; refine append_bytes (by rfl) (.tmp 52) (.tmp 53) (by rfl) w.heap.size _ (L + m) (outs ++ bs) (by rfl) (HO3.out.alloc _) (some ⟨w3.heap.size, 0, none⟩) 1 1 [10] (by rfl) (Sl.newB [10] (by decide) (by unfold maxLen; simp) rfl rfl rfl) (L + m + 1) rfl (by omega) (by have := HB3.out.size; rw [World.size_alloc]; omega) ?_; intro a4 c4 w4 hown4 hb4 hnil4; have HO4 := Lib.hid hown4; have HN4 := Lib.hid hnil4; have HB4 : Hid (Below w.heap.size w w4) := (HB3.out.alloc HB3.out.size _).trans hb4; clear hown4 hb4 hnil4))
            go_roundw
            case rel => exact ⟨0 + 1, a4, L + m + 1, c4, outs ++ bs ++ [10], by omega, rfl, by go_num, by omega, (by show _ = _; rw [HT.out, wlines_snoc, HO.out, HBS.out]), HFN.out, HRN.out, HO4.out, HN4.out, HB4.out⟩
            case measure => simp [intOf]; omega
          · obtain ⟨p', rfl⟩ : ∃ p', j = p' + 1 := ⟨j - 1, by omega⟩
            obtain ⟨b2, o2, ya, yn, yc, y, hb2, _, hgd2, hcl2, hsl2, hz2⟩ := (HS.out.below HBW.out (Nat.le_refl _)).one p' (by omega)
            simp only [Option.some.injEq, Addr.mk.injEq, and_true] at hb2
            obtain ⟨rfl, rfl⟩ := hb2
            have HSY := Lib.hid hsl2
            have HZY := Lib.hid hz2
            have hpos : (0 : Int) < (p' : Int) + 1 := by omega
            have hpw : IntKind.i64.wrap ((p' : Int) + 1 - 1) = (p' : Int) := by rw [IntKind.wrap_i64]; omega
            have hpn : (p' : Int) < (n : Int) := by omega
            have hp0 : (0 : Int) ≤ (p' : Int) := by omega
            have hp1 : (0 : Int) ≤ (p' : Int) + 1 := by omega
            have htn : ((p' : Int) + 1).toNat = p' + 1 := by omega
            cases hle : lessL y z
            · have hris : Wl.rises (nums xs) = false := rises_bad (i := p') (by rw [HL.out]; exact hlt) (by rw [hz2, hz]; exact hle)
              obtain rfl : p = ([], 90) := HPR.out hris
              have HLE := Lib.hid hle
              clear f1 f2 f3 f4 f5 hzin hgd hsl hz hbs hm hq hgd2 hsl2 hz2 hris hle
              go_wp2_with (go_at_call 16; refine (rwfit_is za zn zc z true _ HSL.out HQ.out).mono ?_; rintro e w1 ⟨rfl, rfl⟩)
              go_quiet ((go_at_call 36; exact Calls.quiet_of (rless_is ya za yn zn yc zc y z false _ (HSY.out.drewN _) (HSL.out.drewN _) HLE.out)))
              go_wp2
              go_ret2
              exact ⟨none, 0, rfl, Sl.nil, fun _ => rfl, below_drewN HBW.out _⟩
            · have HLE := Lib.hid hle
              have HRN : Hid (∀ i, i + 1 < p' + 1 + 1 → lessL ((nums xs).getD i []) ((nums xs).getD (i + 1) []) = true) := fun i hi => by
                rcases Nat.lt_or_ge (i + 1) (p' + 1) with h | h
                · exact HR.out i h
                · obtain rfl : i = p' := by omega
                  rw [HZY.out, HZ.out]; exact HLE.out
              clear f1 f2 f3 f4 f5 hzin hgd hsl hz hbs hm hq hgd2 hsl2 hz2 hle
              go_wp2_with (go_at_call 16; refine (rwfit_is za zn zc z true _ HSL.out HQ.out).mono ?_; rintro e w1 ⟨rfl, rfl⟩)
              go_quiet ((go_at_call 36; exact Calls.quiet_of (rless_is ya za yn zn yc zc y z true _ (HSY.out.drewN _) (HSL.out.drewN _) HLE.out)))
              go_wp2_with (first
                | (go_at_call 37; refine (rput_gen za zn zc z bs 0 _ (.inl ⟨HG.out, HBS.out.symm, rfl⟩) (HSLX _ (below_drawn HBW.out ⟨_, rfl⟩)) hznl).mono ?_; rintro e w2 ⟨g, gc, rfl, hs2, hb2⟩; rw [HM.out] at hs2 ⊢; have HS2 := Lib.hid hs2; have HB2 : Hid (Below w.heap.size w w2) := (below_drewN HBW.out _).trans (hb2.mono (below_drewN HBW.out _).size); have HO2 := Lib.hid (ownsRow_below (HOX _ ⟨_, rfl⟩) hb2 (Nat.le_refl _)); clear hs2 hb2)
                | (at_builtin; refine append_bytes (by rfl) (.tmp 50) (.tmp 51) (by rfl) w.heap.size _ L outs (by rfl) HO2.out g m gc bs (by rfl) HS2.out (L + m) rfl (by omega) HB2.out.size ?_; intro a3 c3 w3 hown3 hb3 hnil3; have HO3 := Lib.hid hown3; have HB3 : Hid (Below w.heap.size w w3) := HB2.out.trans hb3; clear hown3 hb3 hnil3)
                | (at_builtin; refine append_bytes (by rfl) (.tmp 52) (.tmp 53) (by rfl) w.heap.size _ (L + m) (outs ++ bs) (by rfl) (HO3.out.alloc _) (some ⟨w3.heap.size, 0, none⟩) 1 1 [10] (by rfl) (Sl.newB [10] (by decide) (by unfold maxLen; simp) rfl rfl rfl) (L + m + 1) rfl (by omega) (by have := HB3.out.size; rw [World.size_alloc]; omega) ?_; intro a4 c4 w4 hown4 hb4 hnil4; have HO4 := Lib.hid hown4; have HN4 := Lib.hid hnil4; have HB4 : Hid (Below w.heap.size w w4) := (HB3.out.alloc HB3.out.size _).trans hb4; clear hown4 hb4 hnil4))
              go_roundw
              case rel => exact ⟨p' + 1 + 1, a4, L + m + 1, c4, outs ++ bs ++ [10], by omega, rfl, by go_num, by omega, (by show _ = _; rw [HT.out, wlines_snoc, HO.out, HBS.out]), HFN.out, HRN.out, HO4.out, HN4.out, HB4.out⟩
              case measure => simp [intOf]; omega
      · obtain rfl : j = n := by omega
        have HFA : Hid ((nums xs).all Wl.fit = true) := by
          have h := HF.out
          rw [List.take_of_length_le (by rw [HL.out]; exact Nat.le_refl _)] at h
          exact h
        have HRA : Hid (Wl.rises (nums xs) = true) := rises_good fun i hi => HR.out i (by rw [HL.out] at hi; exact hi)
        obtain rfl : p = (wlines (nums xs), 0) := by rw [← HP2.out, HFA.out, HRA.out]; simp
        have HALL : Hid (wlines (nums xs) = outs) := by
          have h := HO.out
          rw [List.take_of_length_le (by rw [HL.out]; exact Nat.le_refl _)] at h
          exact h
        have HLN : Hid (outs.length = L) := by have h := HOWN.out.1; unfold u8s at h; rw [List.length_map] at h; show _ = _; omega
        go_wp2
        go_ret2
        refine ⟨a1, c1, ?_, ?_, HNIL.out, HBW.out⟩
        · show _ = Ending.returned (.tuple #[.slice a1 (wlines (nums xs)).length c1, .int .i64 0])
          rw [HALL.out, HLN.out]; rfl
        · show Sl .u8 _ a1 (wlines (nums xs)).length c1 (wlines (nums xs))
          rw [HALL.out, HLN.out]
          refine Sl.of_owns HOWN.out ?_ HLN.out
          rw [← HALL.out]
          exact lines_bytes fun z hz => (Wl.fit_parts (List.all_eq_true.1 HFA.out z hz)).2.2.1

end Go.Proofs.Ytflikfnehpaohaa

/- The document's Read of layer 9. Written by wip/gen/word_refr.py. -/
namespace Go.Proofs.Ytflikfnehpaohaa
open Go.RowKit

set_option maxRecDepth 100000 in
theorem Ws.single {w : World} {t : TypeId} {B : Nat} (x : Wd) (hg : x.Good w) (hB : B = w.heap.size) : Ws (w.alloc (.cells #[x.v] t)) (some ⟨B, 0, none⟩) 1 1 [x] :=
  Ws.newc [x] (by simpa using hg) (by unfold maxLen; simp) hB rfl rfl

set_option maxHeartbeats 12800000 in
set_option maxRecDepth 100000 in
theorem rwread_is (a0 : Option Addr) (n0 cap0 : Nat) (zs : List Int) (g : Wl.Got) (w : World) (hs : Sl .u8 w a0 n0 cap0 zs) (hn : n0 ≤ 1000000) (hr : Wl.read zs = g) :
    Calls Try.prog 11 #[.slice a0 n0 cap0] w fun e w' => GotW w w' e g := by
  have HS := Lib.hid hs
  have HSH : Hid (∀ x ∈ Line.split zs, x.length ≤ 1000000) := fun x hx => by have := split_le zs x hx; have := hs.1; omega
  obtain ⟨ls, hls⟩ : ∃ ls, Line.split zs = ls := ⟨_, rfl⟩
  unfold Wl.read at hr
  rw [hls] at hr
  have HR0 := Lib.hid hr
  have HLS := Lib.hid hls
  clear hs hr hls
  go_enter Try.func11, Try.ntmps11
  go_wp2_with (go_at_call 28; refine (rsplit_any a0 n0 cap0 zs _ HS.out hn).mono ?_; rintro e w1 ⟨la, M, lc, rows, rfl, hrows, hbn, -, hb1⟩)
  have HB1 := Lib.hid hb1
  have HROWS := Lib.hid hrows
  have HBN : Hid (bnums rows = ls) := by show _ = _; rw [hbn, HLS.out]
  have HLM : Hid (ls.length = M) := by show _ = _; rw [← HBN.out, bnums_length, hrows.1]
  have hlcm := hrows.2.2.1
  have hMlc := hrows.2.1
  unfold maxLen at hlcm
  clear hrows hbn hb1
  go_loopw [6, 7] (fun rv ix wr => ∃ (i : Nat) (a' : Option Addr) (L c' : Nat) (outs : List Wd), i ≤ M ∧ L ≤ 300 ∧ rv = .slice a' L c' ∧ ix = .int .i64 (i : Int) ∧ Hid (Ws wr a' L c' outs) ∧ Hid (Form a' c') ∧ Hid (Below w.heap.size w wr) ∧ Hid (Below w1.heap.size w1 wr) ∧ Hid (Wl.readA i (nums outs) (ls.drop i) = g)) (fun _ ix _ => M - (intOf ix).toNat)
  case atStart =>
    refine ⟨0, none, 0, 0, [], Nat.zero_le _, by omega, rfl, rfl, Ws.nil, .inl ⟨rfl, rfl⟩, HB1.out, Below.refl _ _, ?_⟩
    show Wl.readA 0 [] (ls.drop 0) = g
    rw [List.drop_zero]; exact HR0.out
  case round =>
    obtain ⟨i, a', L, c', outs, hi, hL, rfl, rfl, HO, HF, HBW, HB1W, HREAD⟩ := hrel
    by_cases hlt : i < M
    · obtain ⟨b1, o1, za, zn, zc, z, rfl, hb1, hgd, hcl, hsl, hz⟩ := (HROWS.out.below HB1W.out (Nat.le_refl _)).one i hlt
      have hb1' : b1 < wr.heap.size := hb1
      have hzl : ls.getD i [] = z := by rw [← HBN.out]; exact hz
      have hzin : z ∈ ls := by rw [← hzl, List.getD_eq_getElem?_getD, List.getElem?_eq_getElem (by rw [HLM.out]; exact hlt), Option.getD_some]; exact List.getElem_mem _
      have hznl : zn ≤ 1000000 := by have h1 := HSH.out z (by rw [HLS.out]; exact hzin); have : z.length = zn := hsl.1; omega
      have HSTEP := Lib.hid (wread_step HREAD.out (by rw [HLM.out]; exact hlt) hzl)
      have HSL := Lib.hid hsl
      have HCL := Lib.hid hcl
      have hlti : (i : Int) < (M : Int) := by omega
      have hLc := HO.out.2.1
      have hcm' := HO.out.2.2.1
      unfold maxLen at hcm'
      clear hsl hz hzl hzin hgd
      cases hq : Line.bare z
      · have HQ := Lib.hid hq
        have HST2 : Hid ((if (Wl.word z).2 ≠ 0 then (⟨[], (i : Int), (Wl.word z).2⟩ : Wl.Got) else if 300 < (ins (nums outs) (Wl.word z).1).length then ⟨[], (i : Int), 81⟩ else Wl.readA (i + 1) (ins (nums outs) (Wl.word z).1) (ls.drop (i + 1))) = g) := by
          have h := HSTEP.out
          rw [hq, if_neg (by decide)] at h
          exact h
        clear HSTEP hq
        go_wp2_with (go_at_call 29; refine (rbare_is za zn zc z false _ HSL.out hznl HQ.out).mono ?_; rintro e w2 ⟨rfl, hb2⟩; have HB2 : Hid (Below wr.heap.size wr w2) := hb2; have hcl2 : w2.cell? ⟨b1, o1 + i, none⟩ = some (.slice za zn zc) := (by rw [hb2.cell (p := ⟨b1, o1 + i, none⟩) hb1']; exact HCL.out); have HSL2 := Lib.hid (HSL.out.below hb2 (Nat.le_refl _)); clear hb2)
        refine (rfields_any za zn zc z _ HSL2.out hznl).mono ?_
        rintro e w3 ⟨a3, m3, c3, ys, rfl, hys, hyf, hyn, hb3⟩
        have HYS := Lib.hid hys
        have HYF := Lib.hid hyf
        have HB3 : Hid (Below wr.heap.size wr w3) := HB2.out.trans (hb3.mono HB2.out.size)
        have hmc3 := hys.2.1
        have hcm3 := hys.2.2.1
        clear hys hyf hb3 hcl2
        have HM3 : Hid ((Line.fields z).length = m3) := by show _ = _; rw [← HYF.out, bnums_length, HYS.out.1]
        unfold maxLen at hcm3
        by_cases h1 : m3 = 1
        · subst h1
          obtain ⟨f, hf⟩ : ∃ f, Line.fields z = [f] := List.length_eq_one_iff.1 HM3.out
          have hw : Wl.ofField f = Wl.word z := word_one rfl hf
          obtain ⟨b, off, fa, fn, fc, fz, rfl, hb, hgd, hc, hfs, hfz⟩ := HYS.out.one 0 (by omega)
          have hc0 : w3.cell? ⟨b, off, none⟩ = some (.slice fa fn fc) := hc
          obtain rfl : fz = f := by rw [← hfz, HYF.out, hf]; rfl
          have hfn : fn ≤ 17592186044416 := by
            have h1 := hfs.1
            have h2 := Wl.fields_le z fz (by rw [hf]; simp)
            have h3 := HSL.out.1
            omega
          have HW := Lib.hid hw
          have HFS := Lib.hid hfs
          obtain ⟨l, er, hre⟩ := readIs_ex fz
          have HOR : Hid ((Wl.signs fz = some l ∧ er = 0) ∨ (Wl.signs fz = none ∧ l = [] ∧ er = 10)) := by
            rcases hre with ⟨h1, h2⟩ | ⟨h1, h2, h3⟩
            · exact .inl ⟨Wl.signs_of h1, h2⟩
            · exact .inr ⟨Wl.signs_of h1, h2, h3⟩
          have HRE := Lib.hid hre
          clear hc hfs hfz hgd hf hw hre
          go_wp2_with fail
          refine (rread_gen fa fn fc fz l er _ HRE.out HFS.out hfn).mono ?_
          rintro e w4 ⟨a4, c4, rfl, hs4, hb4⟩
          have HS4 := Lib.hid hs4
          have HB4 : Hid (Below wr.heap.size wr w4) := HB3.out.trans (hb4.mono HB3.out.size)
          have HO4 := Lib.hid (HO.out.below HB4.out (Nat.le_refl _))
          have hl4 := hs4.2.1
          have hm4 := hs4.2.2.1
          clear hs4 hb4
          unfold maxLen at hm4
          rcases HOR.out with ⟨hsg, rfl⟩ | ⟨hsg, rfl, rfl⟩
          · by_cases h20 : l.length ≤ 20
            · have hwd : Wl.word z = (l, 0) := by rw [← HW.out, Wl.ofField_some hsg h20]
              have h20i : ¬ (20 : Int) < (l.length : Int) := by omega
              have HST3 : Hid ((if 300 < (ins (nums outs) l).length then (⟨[], (i : Int), 81⟩ : Wl.Got) else Wl.readA (i + 1) (ins (nums outs) l) (ls.drop (i + 1))) = g) := by
                have h := HST2.out
                rw [hwd] at h
                show _ = _; simpa using h
              obtain ⟨k, hk⟩ : ∃ k, cnt (nums outs) l = k := ⟨_, rfl⟩
              have hkL : k ≤ L := by rw [← hk, ← HO.out.1, ← nums_length]; exact cnt_le _ _
              have HK := Lib.hid hk
              clear hsg hwd hk HST2
              cases hr : decide (l ∈ nums outs)
              · have HR := Lib.hid hr
                have HI := Lib.hid (ins_not hr HK.out)
                clear hr
                rcases HF.out with ⟨rfl, rfl⟩ | ⟨gg, rfl⟩
                · obtain rfl : L = 0 := by omega
                  obtain rfl : k = 0 := by omega
                  have h300 : ¬ 300 < (0 + 1) := by omega
                  go_wp2_with (first
                    | (go_at_call 32; refine (rfind_is _ _ _ _ _ _ outs l 0 false _ HO4.out HS4.out HK.out HR.out).mono ?_; rintro e w5 ⟨rfl, hq5⟩; have HO5 := Lib.hid (HO4.out.drawn hq5); have HS5 := Lib.hid (HS4.out.drawn hq5); have HB5 : Hid (Below wr.heap.size wr w5) := below_drawn HB4.out hq5; clear hq5)
                    | (at_builtin; refine append_words rfl (.tmp 59) (.tmp 62) (by rfl) w5.heap.size _ 0 [] (by rfl) (owns0 w5) none 0 0 [] (by rfl) (Ws.nil) (fun _ => rfl) 0 (by omega) (by omega) (by simp) ?_; intro a6 c6 w6 hown6 hb6 hnil6; simp only [List.nil_append] at hown6; have B6 : Below w5.heap.size w5 w6 := ((Below.refl _ w5).alloc (Nat.le_refl _) _).trans hb6; have HO6 := Lib.hid (HO5.out.below B6 (Nat.le_refl _)); have HR6 : Hid (Ws w6 a6 0 c6 (outs.drop 0)) := (by have e : outs.drop 0 = [] := List.drop_eq_nil_of_le (by have := HO6.out.1; omega); show Ws _ _ _ _ _; rw [e]; exact Ws.of_owns hown6 (by simp) rfl); have HS6 := Lib.hid (HS5.out.below B6 (Nat.le_refl _)); have HB6 : Hid (Below wr.heap.size wr w6) := HB5.out.trans (B6.mono HB5.out.size); have HN6 := Lib.hid hnil6; clear hown6 hb6 hnil6 B6)
                    | (at_builtin; refine append_words rfl (.tmp 64) (.tmp 67) (by rfl) w6.heap.size _ 0 [] (by rfl) (owns0 w6) none 0 0 (outs.take 0) (by rfl) ((HO6.out.first 0 (Nat.le_refl _)).alloc _) (fun _ => rfl) 0 (by omega) (by omega) (by simp) ?_; intro a7 c7 w7 hown7 hb7 hnil7; simp only [List.nil_append] at hown7; have B7 : Below w6.heap.size w6 w7 := ((Below.refl _ w6).alloc (Nat.le_refl _) _).trans hb7; have HOWN7 := Lib.hid hown7; have HB7 := Lib.hid B7; have hsz7 := B7.size; clear hown7 hb7 hnil7 B7)
                    | (at_builtin; refine append_words rfl (.tmp 68) (.tmp 70) (by rfl) w6.heap.size _ 0 (outs.take 0) (by rfl) (HOWN7.out.alloc _) _ 1 1 [⟨a4, l.length, c4, l⟩] (by rfl) (Ws.single ⟨a4, l.length, c4, l⟩ (HS6.out.below HB7.out (Nat.le_refl _)) rfl) (fun h => by cases h) (0 + 1) rfl (by omega) (by rw [World.size_alloc]; omega) ?_; intro a8 c8 w8 hown8 hb8 hnil8; have B8 : Below w6.heap.size w6 w8 := (HB7.out.alloc (by omega) _).trans hb8; have HOWN8 := Lib.hid hown8; have HB8 := Lib.hid B8; have hsz8 := B8.size; clear hown8 hb8 hnil8 B8)
                    | (at_builtin; refine append_words rfl (.tmp 71) (.tmp 72) (by rfl) w6.heap.size _ (0 + 1) (outs.take 0 ++ [⟨a4, l.length, c4, l⟩]) (by rfl) HOWN8.out a6 0 c6 (outs.drop 0) (by rfl) (HR6.out.below HB8.out (Nat.le_refl _)) HN6.out (0 + 1) (by omega) (by omega) (by omega) ?_; intro a9 c9 w9 hown9 hb9 hnil9; have B9 : Below w6.heap.size w6 w9 := HB8.out.trans hb9; have HOWN9 := Lib.hid hown9; have HB9 := Lib.hid B9; have HN9 := Lib.hid hnil9; clear hown9 hb9 hnil9 B9))
                  have hW9 : Ws w9 a9 (0 + 1) c9 (outs.take 0 ++ [⟨a4, l.length, c4, l⟩] ++ outs.drop 0) := Ws.of_owns HOWN9.out (fun x hx => by
                    rcases List.mem_append.1 hx with hx | hx
                    · rcases List.mem_append.1 hx with hx | hx
                      · exact (HO6.out.2.2.2.1 x (List.mem_of_mem_take hx)).below HB9.out (Nat.le_refl _)
                      · simp only [List.mem_singleton] at hx
                        subst hx
                        exact HS6.out.below HB9.out (Nat.le_refl _)
                    · exact (HO6.out.2.2.2.1 x (List.mem_of_mem_drop hx)).below HB9.out (Nat.le_refl _)) (by have := HO6.out.1; simp only [List.length_append, List.length_take, List.length_drop, List.length_cons, List.length_nil]; omega)
                  have HW9 := Lib.hid hW9
                  have HNM : Hid (nums (outs.take 0 ++ [⟨a4, l.length, c4, l⟩] ++ outs.drop 0) = ins (nums outs) l) := by
                    show _ = _
                    rw [HI.out]
                    simp [nums, List.map_take, List.map_drop]
                  have HF9 : Hid (Form a9 c9) := by
                    obtain ⟨x1, x2, hx1, hx2⟩ := form_of HOWN9.out
                    simp only [Value.slice.injEq, true_and] at hx1
                    obtain ⟨rfl, rfl⟩ := hx1
                    exact hx2
                  have HBR : Hid (Below wr.heap.size wr w9) := HB6.out.trans (HB9.out.mono HB6.out.size)
                  have HLN : Hid ((ins (nums outs) l).length = (0 + 1)) := by show _ = _; rw [← HNM.out, nums_length]; exact HW9.out.1
                  clear hW9
                  have HEND : Hid (Wl.readA (i + 1) (nums (outs.take 0 ++ [⟨a4, l.length, c4, l⟩] ++ outs.drop 0)) (ls.drop (i + 1)) = g) := by
                    have h := HST3.out
                    rw [if_neg (by rw [HLN.out]; exact h300), ← HNM.out] at h; exact h
                  go_roundw
                  case rel => exact ⟨i + 1, a9, _, c9, _, by omega, by omega, rfl, by go_num, HW9.out, HF9.out, HBW.out.trans (HBR.out.mono HBW.out.size), HB1W.out.trans (HBR.out.mono HB1W.out.size), HEND.out⟩
                  case measure => simp [intOf]; omega
                · by_cases hkc : k = c'
                  · subst hkc
                    obtain rfl : k = L := by omega
                    have hkc3 : (k : Int) ≤ (k : Int) := Int.le_refl _
                    have hkL2 : (0 : Int) ≤ (k : Int) := by omega
                    by_cases h300 : 300 < (k + 1)
                    · have h300i : (300 : Int) < ((k : Int) + 1 : Int) := by omega
                      go_wp2_with (first
                        | (go_at_call 32; refine (rfind_is _ _ _ _ _ _ outs l _ false _ HO4.out HS4.out HK.out HR.out).mono ?_; rintro e w5 ⟨rfl, hq5⟩; have HO5 := Lib.hid (HO4.out.drawn hq5); have HS5 := Lib.hid (HS4.out.drawn hq5); have HB5 : Hid (Below wr.heap.size wr w5) := below_drawn HB4.out hq5; clear hq5)
                        | (at_builtin; refine append_words rfl (.tmp 59) (.tmp 62) (by rfl) w5.heap.size _ 0 [] (by rfl) (owns0 w5) _ 0 _ [] (by rfl) (Ws.empty (by unfold maxLen; omega)) (fun h => by cases h) 0 (by omega) (by omega) (by simp) ?_; intro a6 c6 w6 hown6 hb6 hnil6; simp only [List.nil_append] at hown6; have B6 : Below w5.heap.size w5 w6 := ((Below.refl _ w5).alloc (Nat.le_refl _) _).trans hb6; have HO6 := Lib.hid (HO5.out.below B6 (Nat.le_refl _)); have HR6 : Hid (Ws w6 a6 0 c6 (outs.drop k)) := (by have e : outs.drop k = [] := List.drop_eq_nil_of_le (by have := HO6.out.1; omega); show Ws _ _ _ _ _; rw [e]; exact Ws.of_owns hown6 (by simp) rfl); have HS6 := Lib.hid (HS5.out.below B6 (Nat.le_refl _)); have HB6 : Hid (Below wr.heap.size wr w6) := HB5.out.trans (B6.mono HB5.out.size); have HN6 := Lib.hid hnil6; clear hown6 hb6 hnil6 B6)
                        | (at_builtin; refine append_words rfl (.tmp 64) (.tmp 67) (by rfl) w6.heap.size _ 0 [] (by rfl) (owns0 w6) (some ⟨gg, 0, none⟩) k k (outs.take k) (by rfl) ((HO6.out.first k hkL).alloc _) (fun h => by cases h) k (by omega) (by omega) (by simp) ?_; intro a7 c7 w7 hown7 hb7 hnil7; simp only [List.nil_append] at hown7; have B7 : Below w6.heap.size w6 w7 := ((Below.refl _ w6).alloc (Nat.le_refl _) _).trans hb7; have HOWN7 := Lib.hid hown7; have HB7 := Lib.hid B7; have hsz7 := B7.size; clear hown7 hb7 hnil7 B7)
                        | (at_builtin; refine append_words rfl (.tmp 68) (.tmp 70) (by rfl) w6.heap.size _ k (outs.take k) (by rfl) (HOWN7.out.alloc _) _ 1 1 [⟨a4, l.length, c4, l⟩] (by rfl) (Ws.single ⟨a4, l.length, c4, l⟩ (HS6.out.below HB7.out (Nat.le_refl _)) rfl) (fun h => by cases h) (k + 1) rfl (by omega) (by rw [World.size_alloc]; omega) ?_; intro a8 c8 w8 hown8 hb8 hnil8; have B8 : Below w6.heap.size w6 w8 := (HB7.out.alloc (by omega) _).trans hb8; have HOWN8 := Lib.hid hown8; have HB8 := Lib.hid B8; have hsz8 := B8.size; clear hown8 hb8 hnil8 B8)
                        | (at_builtin; refine append_words rfl (.tmp 71) (.tmp 72) (by rfl) w6.heap.size _ (k + 1) (outs.take k ++ [⟨a4, l.length, c4, l⟩]) (by rfl) HOWN8.out a6 0 c6 (outs.drop k) (by rfl) (HR6.out.below HB8.out (Nat.le_refl _)) HN6.out (k + 1) (by omega) (by omega) (by omega) ?_; intro a9 c9 w9 hown9 hb9 hnil9; have B9 : Below w6.heap.size w6 w9 := HB8.out.trans hb9; have HOWN9 := Lib.hid hown9; have HB9 := Lib.hid B9; have HN9 := Lib.hid hnil9; clear hown9 hb9 hnil9 B9))
                      have hW9 : Ws w9 a9 (k + 1) c9 (outs.take k ++ [⟨a4, l.length, c4, l⟩] ++ outs.drop k) := Ws.of_owns HOWN9.out (fun x hx => by
                        rcases List.mem_append.1 hx with hx | hx
                        · rcases List.mem_append.1 hx with hx | hx
                          · exact (HO6.out.2.2.2.1 x (List.mem_of_mem_take hx)).below HB9.out (Nat.le_refl _)
                          · simp only [List.mem_singleton] at hx
                            subst hx
                            exact HS6.out.below HB9.out (Nat.le_refl _)
                        · exact (HO6.out.2.2.2.1 x (List.mem_of_mem_drop hx)).below HB9.out (Nat.le_refl _)) (by have := HO6.out.1; simp only [List.length_append, List.length_take, List.length_drop, List.length_cons, List.length_nil]; omega)
                      have HW9 := Lib.hid hW9
                      have HNM : Hid (nums (outs.take k ++ [⟨a4, l.length, c4, l⟩] ++ outs.drop k) = ins (nums outs) l) := by
                        show _ = _
                        rw [HI.out]
                        simp [nums, List.map_take, List.map_drop]
                      have HF9 : Hid (Form a9 c9) := by
                        obtain ⟨x1, x2, hx1, hx2⟩ := form_of HOWN9.out
                        simp only [Value.slice.injEq, true_and] at hx1
                        obtain ⟨rfl, rfl⟩ := hx1
                        exact hx2
                      have HBR : Hid (Below wr.heap.size wr w9) := HB6.out.trans (HB9.out.mono HB6.out.size)
                      have HLN : Hid ((ins (nums outs) l).length = (k + 1)) := by show _ = _; rw [← HNM.out, nums_length]; exact HW9.out.1
                      clear hW9
                      have HEND : Hid ((⟨[], (i : Int), 81⟩ : Wl.Got) = g) := by
                        have h := HST3.out
                        rw [if_pos (by rw [HLN.out]; exact h300)] at h; exact h
                      go_ret3
                      rw [← HEND.out]
                      exact ⟨none, 0, 0, [], rfl, Ws.nil, rfl, fun _ => rfl, HBW.out.trans (HBR.out.mono HBW.out.size)⟩
                    · have h300i : ¬ (300 : Int) < ((k : Int) + 1 : Int) := by omega
                      go_wp2_with (first
                        | (go_at_call 32; refine (rfind_is _ _ _ _ _ _ outs l _ false _ HO4.out HS4.out HK.out HR.out).mono ?_; rintro e w5 ⟨rfl, hq5⟩; have HO5 := Lib.hid (HO4.out.drawn hq5); have HS5 := Lib.hid (HS4.out.drawn hq5); have HB5 : Hid (Below wr.heap.size wr w5) := below_drawn HB4.out hq5; clear hq5)
                        | (at_builtin; refine append_words rfl (.tmp 59) (.tmp 62) (by rfl) w5.heap.size _ 0 [] (by rfl) (owns0 w5) _ 0 _ [] (by rfl) (Ws.empty (by unfold maxLen; omega)) (fun h => by cases h) 0 (by omega) (by omega) (by simp) ?_; intro a6 c6 w6 hown6 hb6 hnil6; simp only [List.nil_append] at hown6; have B6 : Below w5.heap.size w5 w6 := ((Below.refl _ w5).alloc (Nat.le_refl _) _).trans hb6; have HO6 := Lib.hid (HO5.out.below B6 (Nat.le_refl _)); have HR6 : Hid (Ws w6 a6 0 c6 (outs.drop k)) := (by have e : outs.drop k = [] := List.drop_eq_nil_of_le (by have := HO6.out.1; omega); show Ws _ _ _ _ _; rw [e]; exact Ws.of_owns hown6 (by simp) rfl); have HS6 := Lib.hid (HS5.out.below B6 (Nat.le_refl _)); have HB6 : Hid (Below wr.heap.size wr w6) := HB5.out.trans (B6.mono HB5.out.size); have HN6 := Lib.hid hnil6; clear hown6 hb6 hnil6 B6)
                        | (at_builtin; refine append_words rfl (.tmp 64) (.tmp 67) (by rfl) w6.heap.size _ 0 [] (by rfl) (owns0 w6) (some ⟨gg, 0, none⟩) k k (outs.take k) (by rfl) ((HO6.out.first k hkL).alloc _) (fun h => by cases h) k (by omega) (by omega) (by simp) ?_; intro a7 c7 w7 hown7 hb7 hnil7; simp only [List.nil_append] at hown7; have B7 : Below w6.heap.size w6 w7 := ((Below.refl _ w6).alloc (Nat.le_refl _) _).trans hb7; have HOWN7 := Lib.hid hown7; have HB7 := Lib.hid B7; have hsz7 := B7.size; clear hown7 hb7 hnil7 B7)
                        | (at_builtin; refine append_words rfl (.tmp 68) (.tmp 70) (by rfl) w6.heap.size _ k (outs.take k) (by rfl) (HOWN7.out.alloc _) _ 1 1 [⟨a4, l.length, c4, l⟩] (by rfl) (Ws.single ⟨a4, l.length, c4, l⟩ (HS6.out.below HB7.out (Nat.le_refl _)) rfl) (fun h => by cases h) (k + 1) rfl (by omega) (by rw [World.size_alloc]; omega) ?_; intro a8 c8 w8 hown8 hb8 hnil8; have B8 : Below w6.heap.size w6 w8 := (HB7.out.alloc (by omega) _).trans hb8; have HOWN8 := Lib.hid hown8; have HB8 := Lib.hid B8; have hsz8 := B8.size; clear hown8 hb8 hnil8 B8)
                        | (at_builtin; refine append_words rfl (.tmp 71) (.tmp 72) (by rfl) w6.heap.size _ (k + 1) (outs.take k ++ [⟨a4, l.length, c4, l⟩]) (by rfl) HOWN8.out a6 0 c6 (outs.drop k) (by rfl) (HR6.out.below HB8.out (Nat.le_refl _)) HN6.out (k + 1) (by omega) (by omega) (by omega) ?_; intro a9 c9 w9 hown9 hb9 hnil9; have B9 : Below w6.heap.size w6 w9 := HB8.out.trans hb9; have HOWN9 := Lib.hid hown9; have HB9 := Lib.hid B9; have HN9 := Lib.hid hnil9; clear hown9 hb9 hnil9 B9))
                      have hW9 : Ws w9 a9 (k + 1) c9 (outs.take k ++ [⟨a4, l.length, c4, l⟩] ++ outs.drop k) := Ws.of_owns HOWN9.out (fun x hx => by
                        rcases List.mem_append.1 hx with hx | hx
                        · rcases List.mem_append.1 hx with hx | hx
                          · exact (HO6.out.2.2.2.1 x (List.mem_of_mem_take hx)).below HB9.out (Nat.le_refl _)
                          · simp only [List.mem_singleton] at hx
                            subst hx
                            exact HS6.out.below HB9.out (Nat.le_refl _)
                        · exact (HO6.out.2.2.2.1 x (List.mem_of_mem_drop hx)).below HB9.out (Nat.le_refl _)) (by have := HO6.out.1; simp only [List.length_append, List.length_take, List.length_drop, List.length_cons, List.length_nil]; omega)
                      have HW9 := Lib.hid hW9
                      have HNM : Hid (nums (outs.take k ++ [⟨a4, l.length, c4, l⟩] ++ outs.drop k) = ins (nums outs) l) := by
                        show _ = _
                        rw [HI.out]
                        simp [nums, List.map_take, List.map_drop]
                      have HF9 : Hid (Form a9 c9) := by
                        obtain ⟨x1, x2, hx1, hx2⟩ := form_of HOWN9.out
                        simp only [Value.slice.injEq, true_and] at hx1
                        obtain ⟨rfl, rfl⟩ := hx1
                        exact hx2
                      have HBR : Hid (Below wr.heap.size wr w9) := HB6.out.trans (HB9.out.mono HB6.out.size)
                      have HLN : Hid ((ins (nums outs) l).length = (k + 1)) := by show _ = _; rw [← HNM.out, nums_length]; exact HW9.out.1
                      clear hW9
                      have HEND : Hid (Wl.readA (i + 1) (nums (outs.take k ++ [⟨a4, l.length, c4, l⟩] ++ outs.drop k)) (ls.drop (i + 1)) = g) := by
                        have h := HST3.out
                        rw [if_neg (by rw [HLN.out]; exact h300), ← HNM.out] at h; exact h
                      go_roundw
                      case rel => exact ⟨i + 1, a9, _, c9, _, by omega, by omega, rfl, by go_num, HW9.out, HF9.out, HBW.out.trans (HBR.out.mono HBW.out.size), HB1W.out.trans (HBR.out.mono HB1W.out.size), HEND.out⟩
                      case measure => simp [intOf]; omega
                  · have hkc1 : k < c' := by omega
                    have hkL1 : (k : Int) ≤ (L : Int) := by omega
                    have hkL2 : (0 : Int) ≤ (k : Int) := by omega
                    have hLc1 : (L : Int) ≤ (c' : Int) := by omega
                    have hkc2 : ¬ (k : Int) = (c' : Int) := by omega
                    have hkc3 : (k : Int) ≤ (c' : Int) := by omega
                    have hkc4 : k ≤ c' := by omega
                    have HD : Hid (∀ W, Ws W (some ⟨gg, 0, none⟩) L c' outs → Ws W (some ⟨gg, k, none⟩) (L - k) (c' - k) (outs.drop k)) := by
                      intro W hW
                      have h := hW.piece k (L - k) (by omega)
                      rw [Nat.zero_add, List.take_of_length_le (by have := hW.1; simp; omega)] at h
                      exact h
                    by_cases h300 : 300 < (L + 1)
                    · have h300i : (300 : Int) < ((L : Int) + 1 : Int) := by omega
                      go_wp2_with (first
                        | (go_at_call 32; refine (rfind_is _ _ _ _ _ _ outs l _ false _ HO4.out HS4.out HK.out HR.out).mono ?_; rintro e w5 ⟨rfl, hq5⟩; have HO5 := Lib.hid (HO4.out.drawn hq5); have HS5 := Lib.hid (HS4.out.drawn hq5); have HB5 : Hid (Below wr.heap.size wr w5) := below_drawn HB4.out hq5; clear hq5)
                        | (at_builtin; refine append_words rfl (.tmp 59) (.tmp 62) (by rfl) w5.heap.size _ 0 [] (by rfl) (owns0 w5) (some ⟨gg, k, none⟩) (L - k) (c' - k) (outs.drop k) (by rfl) (HD.out _ (HO5.out.alloc _)) (fun h => by cases h) (L - k) (by omega) (by omega) (by simp) ?_; intro a6 c6 w6 hown6 hb6 hnil6; simp only [List.nil_append] at hown6; have B6 : Below w5.heap.size w5 w6 := ((Below.refl _ w5).alloc (Nat.le_refl _) _).trans hb6; have HO6 := Lib.hid (HO5.out.below B6 (Nat.le_refl _)); have HR6 : Hid (Ws w6 a6 (L - k) c6 (outs.drop k)) := (Ws.of_owns hown6 (fun x hx => HO6.out.2.2.2.1 x (List.mem_of_mem_drop hx)) (by have := HO6.out.1; simp; omega)); have HS6 := Lib.hid (HS5.out.below B6 (Nat.le_refl _)); have HB6 : Hid (Below wr.heap.size wr w6) := HB5.out.trans (B6.mono HB5.out.size); have HN6 := Lib.hid hnil6; clear hown6 hb6 hnil6 B6)
                        | (at_builtin; refine append_words rfl (.tmp 64) (.tmp 67) (by rfl) w6.heap.size _ 0 [] (by rfl) (owns0 w6) (some ⟨gg, 0, none⟩) k c' (outs.take k) (by rfl) ((HO6.out.first k hkL).alloc _) (fun h => by cases h) k (by omega) (by omega) (by simp) ?_; intro a7 c7 w7 hown7 hb7 hnil7; simp only [List.nil_append] at hown7; have B7 : Below w6.heap.size w6 w7 := ((Below.refl _ w6).alloc (Nat.le_refl _) _).trans hb7; have HOWN7 := Lib.hid hown7; have HB7 := Lib.hid B7; have hsz7 := B7.size; clear hown7 hb7 hnil7 B7)
                        | (at_builtin; refine append_words rfl (.tmp 68) (.tmp 70) (by rfl) w6.heap.size _ k (outs.take k) (by rfl) (HOWN7.out.alloc _) _ 1 1 [⟨a4, l.length, c4, l⟩] (by rfl) (Ws.single ⟨a4, l.length, c4, l⟩ (HS6.out.below HB7.out (Nat.le_refl _)) rfl) (fun h => by cases h) (k + 1) rfl (by omega) (by rw [World.size_alloc]; omega) ?_; intro a8 c8 w8 hown8 hb8 hnil8; have B8 : Below w6.heap.size w6 w8 := (HB7.out.alloc (by omega) _).trans hb8; have HOWN8 := Lib.hid hown8; have HB8 := Lib.hid B8; have hsz8 := B8.size; clear hown8 hb8 hnil8 B8)
                        | (at_builtin; refine append_words rfl (.tmp 71) (.tmp 72) (by rfl) w6.heap.size _ (k + 1) (outs.take k ++ [⟨a4, l.length, c4, l⟩]) (by rfl) HOWN8.out a6 (L - k) c6 (outs.drop k) (by rfl) (HR6.out.below HB8.out (Nat.le_refl _)) HN6.out (L + 1) (by omega) (by omega) (by omega) ?_; intro a9 c9 w9 hown9 hb9 hnil9; have B9 : Below w6.heap.size w6 w9 := HB8.out.trans hb9; have HOWN9 := Lib.hid hown9; have HB9 := Lib.hid B9; have HN9 := Lib.hid hnil9; clear hown9 hb9 hnil9 B9))
                      have hW9 : Ws w9 a9 (L + 1) c9 (outs.take k ++ [⟨a4, l.length, c4, l⟩] ++ outs.drop k) := Ws.of_owns HOWN9.out (fun x hx => by
                        rcases List.mem_append.1 hx with hx | hx
                        · rcases List.mem_append.1 hx with hx | hx
                          · exact (HO6.out.2.2.2.1 x (List.mem_of_mem_take hx)).below HB9.out (Nat.le_refl _)
                          · simp only [List.mem_singleton] at hx
                            subst hx
                            exact HS6.out.below HB9.out (Nat.le_refl _)
                        · exact (HO6.out.2.2.2.1 x (List.mem_of_mem_drop hx)).below HB9.out (Nat.le_refl _)) (by have := HO6.out.1; simp only [List.length_append, List.length_take, List.length_drop, List.length_cons, List.length_nil]; omega)
                      have HW9 := Lib.hid hW9
                      have HNM : Hid (nums (outs.take k ++ [⟨a4, l.length, c4, l⟩] ++ outs.drop k) = ins (nums outs) l) := by
                        show _ = _
                        rw [HI.out]
                        simp [nums, List.map_take, List.map_drop]
                      have HF9 : Hid (Form a9 c9) := by
                        obtain ⟨x1, x2, hx1, hx2⟩ := form_of HOWN9.out
                        simp only [Value.slice.injEq, true_and] at hx1
                        obtain ⟨rfl, rfl⟩ := hx1
                        exact hx2
                      have HBR : Hid (Below wr.heap.size wr w9) := HB6.out.trans (HB9.out.mono HB6.out.size)
                      have HLN : Hid ((ins (nums outs) l).length = (L + 1)) := by show _ = _; rw [← HNM.out, nums_length]; exact HW9.out.1
                      clear hW9
                      have HEND : Hid ((⟨[], (i : Int), 81⟩ : Wl.Got) = g) := by
                        have h := HST3.out
                        rw [if_pos (by rw [HLN.out]; exact h300)] at h; exact h
                      go_ret3
                      rw [← HEND.out]
                      exact ⟨none, 0, 0, [], rfl, Ws.nil, rfl, fun _ => rfl, HBW.out.trans (HBR.out.mono HBW.out.size)⟩
                    · have h300i : ¬ (300 : Int) < ((L : Int) + 1 : Int) := by omega
                      go_wp2_with (first
                        | (go_at_call 32; refine (rfind_is _ _ _ _ _ _ outs l _ false _ HO4.out HS4.out HK.out HR.out).mono ?_; rintro e w5 ⟨rfl, hq5⟩; have HO5 := Lib.hid (HO4.out.drawn hq5); have HS5 := Lib.hid (HS4.out.drawn hq5); have HB5 : Hid (Below wr.heap.size wr w5) := below_drawn HB4.out hq5; clear hq5)
                        | (at_builtin; refine append_words rfl (.tmp 59) (.tmp 62) (by rfl) w5.heap.size _ 0 [] (by rfl) (owns0 w5) (some ⟨gg, k, none⟩) (L - k) (c' - k) (outs.drop k) (by rfl) (HD.out _ (HO5.out.alloc _)) (fun h => by cases h) (L - k) (by omega) (by omega) (by simp) ?_; intro a6 c6 w6 hown6 hb6 hnil6; simp only [List.nil_append] at hown6; have B6 : Below w5.heap.size w5 w6 := ((Below.refl _ w5).alloc (Nat.le_refl _) _).trans hb6; have HO6 := Lib.hid (HO5.out.below B6 (Nat.le_refl _)); have HR6 : Hid (Ws w6 a6 (L - k) c6 (outs.drop k)) := (Ws.of_owns hown6 (fun x hx => HO6.out.2.2.2.1 x (List.mem_of_mem_drop hx)) (by have := HO6.out.1; simp; omega)); have HS6 := Lib.hid (HS5.out.below B6 (Nat.le_refl _)); have HB6 : Hid (Below wr.heap.size wr w6) := HB5.out.trans (B6.mono HB5.out.size); have HN6 := Lib.hid hnil6; clear hown6 hb6 hnil6 B6)
                        | (at_builtin; refine append_words rfl (.tmp 64) (.tmp 67) (by rfl) w6.heap.size _ 0 [] (by rfl) (owns0 w6) (some ⟨gg, 0, none⟩) k c' (outs.take k) (by rfl) ((HO6.out.first k hkL).alloc _) (fun h => by cases h) k (by omega) (by omega) (by simp) ?_; intro a7 c7 w7 hown7 hb7 hnil7; simp only [List.nil_append] at hown7; have B7 : Below w6.heap.size w6 w7 := ((Below.refl _ w6).alloc (Nat.le_refl _) _).trans hb7; have HOWN7 := Lib.hid hown7; have HB7 := Lib.hid B7; have hsz7 := B7.size; clear hown7 hb7 hnil7 B7)
                        | (at_builtin; refine append_words rfl (.tmp 68) (.tmp 70) (by rfl) w6.heap.size _ k (outs.take k) (by rfl) (HOWN7.out.alloc _) _ 1 1 [⟨a4, l.length, c4, l⟩] (by rfl) (Ws.single ⟨a4, l.length, c4, l⟩ (HS6.out.below HB7.out (Nat.le_refl _)) rfl) (fun h => by cases h) (k + 1) rfl (by omega) (by rw [World.size_alloc]; omega) ?_; intro a8 c8 w8 hown8 hb8 hnil8; have B8 : Below w6.heap.size w6 w8 := (HB7.out.alloc (by omega) _).trans hb8; have HOWN8 := Lib.hid hown8; have HB8 := Lib.hid B8; have hsz8 := B8.size; clear hown8 hb8 hnil8 B8)
                        | (at_builtin; refine append_words rfl (.tmp 71) (.tmp 72) (by rfl) w6.heap.size _ (k + 1) (outs.take k ++ [⟨a4, l.length, c4, l⟩]) (by rfl) HOWN8.out a6 (L - k) c6 (outs.drop k) (by rfl) (HR6.out.below HB8.out (Nat.le_refl _)) HN6.out (L + 1) (by omega) (by omega) (by omega) ?_; intro a9 c9 w9 hown9 hb9 hnil9; have B9 : Below w6.heap.size w6 w9 := HB8.out.trans hb9; have HOWN9 := Lib.hid hown9; have HB9 := Lib.hid B9; have HN9 := Lib.hid hnil9; clear hown9 hb9 hnil9 B9))
                      have hW9 : Ws w9 a9 (L + 1) c9 (outs.take k ++ [⟨a4, l.length, c4, l⟩] ++ outs.drop k) := Ws.of_owns HOWN9.out (fun x hx => by
                        rcases List.mem_append.1 hx with hx | hx
                        · rcases List.mem_append.1 hx with hx | hx
                          · exact (HO6.out.2.2.2.1 x (List.mem_of_mem_take hx)).below HB9.out (Nat.le_refl _)
                          · simp only [List.mem_singleton] at hx
                            subst hx
                            exact HS6.out.below HB9.out (Nat.le_refl _)
                        · exact (HO6.out.2.2.2.1 x (List.mem_of_mem_drop hx)).below HB9.out (Nat.le_refl _)) (by have := HO6.out.1; simp only [List.length_append, List.length_take, List.length_drop, List.length_cons, List.length_nil]; omega)
                      have HW9 := Lib.hid hW9
                      have HNM : Hid (nums (outs.take k ++ [⟨a4, l.length, c4, l⟩] ++ outs.drop k) = ins (nums outs) l) := by
                        show _ = _
                        rw [HI.out]
                        simp [nums, List.map_take, List.map_drop]
                      have HF9 : Hid (Form a9 c9) := by
                        obtain ⟨x1, x2, hx1, hx2⟩ := form_of HOWN9.out
                        simp only [Value.slice.injEq, true_and] at hx1
                        obtain ⟨rfl, rfl⟩ := hx1
                        exact hx2
                      have HBR : Hid (Below wr.heap.size wr w9) := HB6.out.trans (HB9.out.mono HB6.out.size)
                      have HLN : Hid ((ins (nums outs) l).length = (L + 1)) := by show _ = _; rw [← HNM.out, nums_length]; exact HW9.out.1
                      clear hW9
                      have HEND : Hid (Wl.readA (i + 1) (nums (outs.take k ++ [⟨a4, l.length, c4, l⟩] ++ outs.drop k)) (ls.drop (i + 1)) = g) := by
                        have h := HST3.out
                        rw [if_neg (by rw [HLN.out]; exact h300), ← HNM.out] at h; exact h
                      go_roundw
                      case rel => exact ⟨i + 1, a9, _, c9, _, by omega, by omega, rfl, by go_num, HW9.out, HF9.out, HBW.out.trans (HBR.out.mono HBW.out.size), HB1W.out.trans (HBR.out.mono HB1W.out.size), HEND.out⟩
                      case measure => simp [intOf]; omega
              · have HR := Lib.hid hr
                have HI := Lib.hid (ins_is hr)
                clear hr
                have HEND : Hid (Wl.readA (i + 1) (nums outs) (ls.drop (i + 1)) = g) := by
                  have h := HST3.out
                  rw [HI.out, if_neg (by rw [nums_length, HO.out.1]; omega)] at h; exact h
                have h300i : ¬ (300 : Int) < (L : Int) := by omega
                go_wp2_with (go_at_call 32; refine (rfind_is _ _ _ _ _ _ outs l k true _ HO4.out HS4.out HK.out HR.out).mono ?_; rintro e w5 ⟨rfl, hq5⟩; have HO5 := Lib.hid (HO4.out.drawn hq5); have HS5 := Lib.hid (HS4.out.drawn hq5); have HB5 : Hid (Below wr.heap.size wr w5) := below_drawn HB4.out hq5; clear hq5)
                go_roundw
                case rel => exact ⟨i + 1, a', L, c', outs, by omega, hL, rfl, by go_num, HO5.out, HF.out, HBW.out.trans (HB5.out.mono HBW.out.size), HB1W.out.trans (HB5.out.mono HB1W.out.size), HEND.out⟩
                case measure => simp [intOf]; omega
            · have hwd : Wl.word z = ([], 90) := by rw [← HW.out, Wl.ofField_long hsg h20]
              have h20i : (20 : Int) < (l.length : Int) := by omega
              have HEND : Hid ((⟨[], (i : Int), 90⟩ : Wl.Got) = g) := by
                have h := HST2.out
                rw [hwd] at h
                show _ = _; simpa using h
              clear hsg hwd HST2
              go_wp2
              go_ret3
              rw [← HEND.out]
              exact ⟨none, 0, 0, [], rfl, Ws.nil, rfl, fun _ => rfl, HBW.out.trans (HB4.out.mono HBW.out.size)⟩
          · have hwd : Wl.word z = ([], 10) := by rw [← HW.out, Wl.ofField_none hsg]
            have HEND : Hid ((⟨[], (i : Int), 10⟩ : Wl.Got) = g) := by
              have h := HST2.out
              rw [hwd] at h
              show _ = _; simpa using h
            clear hsg hwd HST2
            go_wp2
            go_ret3
            rw [← HEND.out]
            exact ⟨none, 0, 0, [], rfl, Ws.nil, rfl, fun _ => rfl, HBW.out.trans (HB4.out.mono HBW.out.size)⟩
        · have hwd : Wl.word z = ([], 71) := word_many rfl (by rw [HM3.out]; exact h1)
          have hmi : ((m3 : Int) != 1) = true := by simp; omega
          have HEND : Hid ((⟨[], (i : Int), 71⟩ : Wl.Got) = g) := by
            have h := HST2.out
            rw [hwd] at h
            show _ = _; simpa using h
          clear hwd HST2
          go_wp2
          go_ret3
          rw [← HEND.out]
          exact ⟨none, 0, 0, [], rfl, Ws.nil, rfl, fun _ => rfl, HBW.out.trans (HB3.out.mono HBW.out.size)⟩
      · have HQ := Lib.hid hq
        have HEND : Hid (Wl.readA (i + 1) (nums outs) (ls.drop (i + 1)) = g) := by
          have h := HSTEP.out
          rw [hq, if_pos rfl] at h
          exact h
        clear HSTEP hq
        go_wp2_with (go_at_call 29; refine (rbare_is za zn zc z true _ HSL.out hznl HQ.out).mono ?_; rintro e w2 ⟨rfl, hb2⟩; have HB2 : Hid (Below wr.heap.size wr w2) := hb2; have hcl2 : w2.cell? ⟨b1, o1 + i, none⟩ = some (.slice za zn zc) := (by rw [hb2.cell (p := ⟨b1, o1 + i, none⟩) hb1']; exact HCL.out); have HSL2 := Lib.hid (HSL.out.below hb2 (Nat.le_refl _)); clear hb2)
        go_roundw
        case rel => exact ⟨i + 1, a', L, c', outs, by omega, hL, rfl, by go_num, HO.out.below HB2.out (Nat.le_refl _), HF.out, HBW.out.trans (HB2.out.mono HBW.out.size), HB1W.out.trans (HB2.out.mono HB1W.out.size), HEND.out⟩
        case measure => simp [intOf]; omega
    · obtain rfl : i = M := by omega
      have HEND : Hid ((⟨nums outs, -1, 0⟩ : Wl.Got) = g) := by
        have h := HREAD.out
        rw [← HLM.out, List.drop_length] at h
        exact h
      go_wp2
      go_ret3
      rw [← HEND.out]
      exact ⟨a', L, c', outs, rfl, HO.out, rfl, HF.out.nil, HBW.out⟩

end Go.Proofs.Ytflikfnehpaohaa
