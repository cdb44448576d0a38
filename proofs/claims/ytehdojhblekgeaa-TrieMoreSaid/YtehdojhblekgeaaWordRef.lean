/- The document's Fit, Write and Read of layer 9. Written by wip/gen/word_ref.py. -/
import Derived.Test.YtehdojhblekgeaaWordGot
import Derived.Test.YtehdojhblekgeaaOrderRefB
import Derived.Test.YtehdojhblekgeaaPackF
namespace Go.Proofs.Ytehdojhblekgeaa
open Go.RowKit

/-! ### Fit -/
set_option maxHeartbeats 6400000 in
set_option maxRecDepth 100000 in
theorem rwfit_is (a : Option Addr) (n cap : Nat) (zs : List Int) (r : Bool) (w : World) (hs : Sl .i64 w a n cap zs) (hr : Wl.fit zs = r) :
    Calls Try.prog 42 #[.slice a n cap] w fun e w' => e = .returned (.bool r) ∧ w' = w := by
  have hl := hs.1
  have hnc := hs.2.1
  have hcm := hs.2.2.1
  unfold maxLen at hcm
  have hr2 : (decide (1 ≤ n) && decide (n ≤ 20) && zs.all Wl.may && !decide (zs.getD 0 0 = 35)) = r := by rw [← hr, ← hl]; rfl
  have HS := Lib.hid hs
  have HR := Lib.hid hr2
  have HL := Lib.hid hl
  clear hs hr hr2 hl
  go_enter Try.func42, Try.ntmps42
  go_wp2
  go_loopw [3] (fun ix wr => ∃ j : Nat, j ≤ n ∧ ix = .int .i64 (j : Int) ∧ Hid ((zs.take j).all Wl.may = true) ∧ wr = w) (fun ix _ => n - (intOf ix).toNat)
  case atStart => exact ⟨0, Nat.zero_le _, rfl, by first | rfl | trivial, rfl⟩
  case round =>
    obtain ⟨j, hj, rfl, HT, rfl⟩ := hrel
    by_cases hlt : j < n
    · obtain ⟨b, off, rfl, hb, hc⟩ := HS.out.at (by omega)
      have hx := hc j hlt
      have hwf := HS.out.2.2.2.1 (zs.getD j 0) (by rw [List.getD_eq_getElem?_getD, List.getElem?_eq_getElem (by rw [HL.out]; exact hlt), Option.getD_some]; exact List.getElem_mem _)
      obtain ⟨z, hz⟩ : ∃ z, zs.getD j 0 = z := ⟨_, rfl⟩
      rw [hz] at hx hwf
      have hb0 : -9223372036854775808 ≤ z ∧ z ≤ 9223372036854775807 := by
        simp [Lit.wf, IntKind.min, IntKind.max, IntKind.signed, IntKind.bits] at hwf
        omega
      have HB0 := Lib.hid hb0
      have HZ := Lib.hid hz
      have hlti : (j : Int) < (n : Int) := by omega
      have HNO : Hid (∀ q : Bool, Wl.may z = false → r = false) := fun _ h => by
        have h1 : zs.all Wl.may = false := all_not (by rw [HL.out]; exact hlt) (by rw [HZ.out]; exact h)
        rw [← HR.out, h1]; simp
      clear hc hz hwf hb0
      cases hg : Utf.good z
      · have hmay : Wl.may z = false := by unfold Wl.may; rw [hg]; rfl
        go_wp2_with (go_at_call 31; refine (rgood_any z _ HB0.out.1 HB0.out.2).mono ?_; rintro e w1 ⟨rfl, rfl⟩; rw [hg])
        obtain rfl : r = false := HNO.out true hmay
        go_ret
        exact ⟨rfl, rfl⟩
      · by_cases h9 : z = 9
        · subst h9
          have hmay : Wl.may 9 = false := by decide
          go_wp2_with (go_at_call 31; refine (rgood_any _ _ HB0.out.1 HB0.out.2).mono ?_; rintro e w1 ⟨rfl, rfl⟩; rw [hg])
          obtain rfl : r = false := HNO.out true hmay
          go_ret
          exact ⟨rfl, rfl⟩
        · by_cases h10 : z = 10
          · subst h10
            have hmay : Wl.may 10 = false := by decide
            go_wp2_with (go_at_call 31; refine (rgood_any _ _ HB0.out.1 HB0.out.2).mono ?_; rintro e w1 ⟨rfl, rfl⟩; rw [hg])
            obtain rfl : r = false := HNO.out true hmay
            go_ret
            exact ⟨rfl, rfl⟩
          · by_cases h32 : z = 32
            · subst h32
              have hmay : Wl.may 32 = false := by decide
              go_wp2_with (go_at_call 31; refine (rgood_any _ _ HB0.out.1 HB0.out.2).mono ?_; rintro e w1 ⟨rfl, rfl⟩; rw [hg])
              obtain rfl : r = false := HNO.out true hmay
              go_ret
              exact ⟨rfl, rfl⟩
            · have hmay : Wl.may z = true := by unfold Wl.may; rw [hg]; simp [h9, h10, h32]
              have e9 : (z == 9) = false := by simpa using h9
              have e10 : (z == 10) = false := by simpa using h10
              have e32 : (z == 32) = false := by simpa using h32
              have HMAY := Lib.hid hmay
              clear hmay
              go_wp2_with (go_at_call 31; refine (rgood_any z _ HB0.out.1 HB0.out.2).mono ?_; rintro e w1 ⟨rfl, rfl⟩; rw [hg])
              go_roundw
              case rel => exact ⟨j + 1, by omega, by go_num, all_at HT.out (by rw [HL.out]; exact hlt) (by rw [HZ.out]; exact HMAY.out), trivial⟩
              case measure => simp [intOf]; omega
    · obtain rfl : j = n := by omega
      have HA : Hid (zs.all Wl.may = true) := by
        have h := HT.out
        rw [List.take_of_length_le (by rw [HL.out]; exact Nat.le_refl _)] at h
        exact h
      have HR2 : Hid ((decide (1 ≤ j) && decide (j ≤ 20) && !decide (zs.getD 0 0 = 35)) = r) := by
        have h := HR.out
        rw [HA.out, Bool.and_true] at h
        exact h
      have hji : ¬ (j : Int) < (j : Int) := by omega
      rcases Nat.eq_zero_or_pos j with h0 | hp
      · subst h0
        obtain rfl : r = false := by rw [← HR2.out]; rfl
        go_wp2
        go_ret
        exact ⟨rfl, rfl⟩
      · have hp1 : (1 : Int) ≤ (j : Int) := by omega
        by_cases h20 : j ≤ 20
        · have h20i : (j : Int) ≤ 20 := by omega
          have h0i : (0 : Int) < (j : Int) := by omega
          obtain ⟨b, off, rfl, hb, hc⟩ := HS.out.at hp
          have hx : wr.cell? ⟨b, off, none⟩ = some (.int .i64 (zs.getD 0 0)) := hc 0 hp
          have h3 := HR2.out
          rw [decide_eq_true (show 1 ≤ j from hp), decide_eq_true h20, Bool.true_and, Bool.true_and] at h3
          obtain ⟨z, hz⟩ : ∃ z, zs.getD 0 0 = z := ⟨_, rfl⟩
          rw [hz] at hx h3
          clear hc hz
          by_cases hh : z = 35
          · subst hh
            obtain rfl : r = false := by rw [← h3]; rfl
            clear h3
            go_wp2
            go_ret
            exact ⟨rfl, rfl⟩
          · have hzz : (z != 35) = true := by simpa using hh
            obtain rfl : r = true := by rw [← h3, decide_eq_false hh]; rfl
            clear h3 hh
            go_wp2
            go_ret
            exact ⟨rfl, rfl⟩
        · have h20i : ¬ (j : Int) ≤ 20 := by omega
          obtain rfl : r = false := by rw [← HR2.out, decide_eq_false h20]; simp
          go_wp2
          go_ret
          exact ⟨rfl, rfl⟩

end Go.Proofs.Ytehdojhblekgeaa
