import Derived.Test.YtpcebfefbnpbpaaRuleRef
import Derived.Deep.RegionWith
import Derived.Test.YtpcebfefbnpbpaaPackD
set_option linter.all false
set_option maxRecDepth 100000
set_option maxHeartbeats 12800000
namespace Go.Proofs.Ytpcebfefbnpbpaa
open Go.RowKit

theorem stps_take_same {xs ys : List Pw} {j : Nat} (h : (stps xs).take j = (stps ys).take j) (hx : j < xs.length) (hy : j < ys.length) (he : (xs.getD j Pw.no).s = (ys.getD j Pw.no).s) : (stps xs).take (j + 1) = (stps ys).take (j + 1) := by
  have h1 := stps_at xs j
  have h2 := stps_at ys j
  rw [List.getD_eq_getElem?_getD, List.getElem?_eq_getElem (by rw [stps_length]; exact hx), Option.getD_some] at h1
  rw [List.getD_eq_getElem?_getD, List.getElem?_eq_getElem (by rw [stps_length]; exact hy), Option.getD_some] at h2
  rw [List.take_succ_eq_append_getElem (by rw [stps_length]; exact hx), List.take_succ_eq_append_getElem (by rw [stps_length]; exact hy), h, h1, h2, he]

theorem rsame17_is (a b : Option Addr) (n m cap cap2 : Nat) (xs ys : List Pw) (r : Bool) (w : World) (ha : Ps w a n cap xs) (hb : Ps w b m cap2 ys) (h : decide (stps xs = stps ys) = r) :
    Calls Try.prog 12 #[.slice a n cap, .slice b m cap2] w fun e w' => e = .returned (.bool r) ∧ ∃ q, w' = w.drewN q := by
  have hnc := ha.2.1
  have hcm := ha.2.2.1
  unfold maxLen at hcm
  have hmc := hb.2.1
  have hcm2 := hb.2.2.1
  unfold maxLen at hcm2
  have HA := Lib.hid ha
  have HB := Lib.hid hb
  have HR := Lib.hid h
  clear ha hb h
  by_cases hnm : n = m
  · subst hnm
    go_enter Try.func12, Try.ntmps12
    go_wp2
    go_loopw [5] (fun ix wr => ∃ j : Nat, j ≤ n ∧ ix = .int .i64 (j : Int) ∧ Hid ((stps xs).take j = (stps ys).take j) ∧ Hid (∃ q, wr = w.drewN q)) (fun ix _ => n - (intOf ix).toNat)
    case atStart => exact ⟨0, Nat.zero_le _, rfl, rfl, ⟨0, rfl⟩⟩
    case round =>
      obtain ⟨j, hj, rfl, HT, HQ⟩ := hrel
      by_cases hlt : j < n
      · obtain ⟨b1, o1, e1, p1, pn1, pc1, P1, any1, c1, rfl, _, hx1, hx2, hx3, hx4, hsl, _, _, _, hz1⟩ := (HA.out.drawn HQ.out).one j hlt
        obtain ⟨b2, o2, e2, p2, pn2, pc2, P2, any2, c2, rfl, _, hy1, hy2, hy3, hy4, hsl', _, _, _, hz2⟩ := (HB.out.drawn HQ.out).one j hlt
        have HSL := Lib.hid hsl
        have HSL' := Lib.hid hsl'
        have HZ1 := Lib.hid hz1
        have HZ2 := Lib.hid hz2
        have hlti : (j : Int) < (n : Int) := by omega
        clear hsl hsl' hz1 hz2
        by_cases he : e1 = e2 ∧ any1 = any2 ∧ c1 = c2 ∧ P1 = P2
        · obtain ⟨rfl, rfl, rfl, hp⟩ := he
          have HD : Hid (decide (P1 = P2) = true) := Lib.hid (decide_eq_true hp)
          have HE := Lib.hid hp
          clear hp
          go_wp2
          go_quiet (first | (go_at_call_of 16 p1; exact Calls.quiet_of (same_is p1 p2 pn1 pn2 pc1 pc2 P1 P2 true _ (HSL.out.drewN _) (HSL'.out.drewN _) HD.out)) | fail)
          go_wp2
          go_roundw
          case rel => exact ⟨j + 1, by omega, by go_num, stps_take_same HT.out (by rw [HA.out.1]; exact hlt) (by rw [HB.out.1]; exact hlt) (by rw [HZ1.out, HZ2.out]; simp [Pw.s, HE.out]), (by obtain ⟨q, hq⟩ := HQ.out; exact ⟨_, by rw [hq, World.drewN_drewN]⟩)⟩
          case measure => simp [intOf]; omega
        · have hrf : r = false := by
            rw [← HR.out, decide_eq_false_iff_not]; intro h; apply he
            have h1 := stps_at xs j
            have h2 := stps_at ys j
            rw [h, h2, HZ1.out, HZ2.out] at h1
            simp only [Pw.s, Stp.St.mk.injEq] at h1
            exact ⟨h1.1.symm, h1.2.2.1.symm, h1.2.2.2.symm, h1.2.1.symm⟩
          have hcase : e1 ≠ e2 ∨ (e1 = e2 ∧ any1 ≠ any2) ∨ (e1 = e2 ∧ any1 = any2 ∧ c1 ≠ c2) ∨ (e1 = e2 ∧ any1 = any2 ∧ c1 = c2 ∧ P1 ≠ P2) := by
            by_cases h1 : e1 = e2
            · by_cases h2 : any1 = any2
              · by_cases h3 : c1 = c2
                · exact .inr (.inr (.inr ⟨h1, h2, h3, fun h => he ⟨h1, h2, h3, h⟩⟩))
                · exact .inr (.inr (.inl ⟨h1, h2, h3⟩))
              · exact .inr (.inl ⟨h1, h2⟩)
            · exact .inl h1
          have HRF := Lib.hid hrf
          clear he hrf HR
          rcases hcase with h1 | ⟨rfl, h2⟩ | ⟨rfl, rfl, h3⟩ | ⟨rfl, rfl, rfl, h4⟩
          · have h1' : (e1 == e2) = false := by simpa using h1
            have h1'' : (e1 != e2) = true := by simpa using h1
            go_wp2
            go_quiet (fail)
            go_wp2
            go_ret
            exact ⟨by rw [HRF.out]; rfl, (by obtain ⟨q, hq⟩ := HQ.out; exact ⟨_, by rw [hq, World.drewN_drewN]⟩)⟩
          · cases any1 <;> cases any2 <;> first | exact absurd rfl h2 | skip
            all_goals
              clear h2
              go_wp2
              go_quiet (fail)
              go_wp2
              go_ret
              exact ⟨by rw [HRF.out]; rfl, (by obtain ⟨q, hq⟩ := HQ.out; exact ⟨_, by rw [hq, World.drewN_drewN]⟩)⟩
          · have h3' : (c1 == c2) = false := by simpa using h3
            have h3'' : (c1 != c2) = true := by simpa using h3
            go_wp2
            go_quiet (fail)
            go_wp2
            go_ret
            exact ⟨by rw [HRF.out]; rfl, (by obtain ⟨q, hq⟩ := HQ.out; exact ⟨_, by rw [hq, World.drewN_drewN]⟩)⟩
          · have HD : Hid (decide (P1 = P2) = false) := Lib.hid (decide_eq_false h4)
            clear h4
            go_wp2
            go_quiet (first | (go_at_call_of 16 p1; exact Calls.quiet_of (same_is p1 p2 pn1 pn2 pc1 pc2 P1 P2 false _ (HSL.out.drewN _) (HSL'.out.drewN _) HD.out)) | fail)
            go_wp2
            go_ret
            exact ⟨by rw [HRF.out]; rfl, (by obtain ⟨q, hq⟩ := HQ.out; exact ⟨_, by rw [hq, World.drewN_drewN]⟩)⟩
      · have hfin : r = true := by
          rw [← HR.out, decide_eq_true_iff]
          have h := HT.out
          rwa [List.take_of_length_le (by rw [stps_length, HA.out.1]; omega), List.take_of_length_le (by rw [stps_length, HB.out.1]; omega)] at h
        have HF := Lib.hid hfin
        clear hfin HR
        go_wp2
        go_ret
        exact ⟨by rw [HF.out]; rfl, HQ.out⟩
  · have hfin : r = false := by
      rw [← HR.out, decide_eq_false_iff_not]; intro h
      have := congrArg List.length h
      rw [stps_length, stps_length, HA.out.1, HB.out.1] at this
      exact hnm this
    have h1 : ((n : Int) == (m : Int)) = false := by simp; omega
    have h2 : ((n : Int) != (m : Int)) = true := by simp; omega
    subst hfin
    clear HR
    go_enter Try.func12, Try.ntmps12
    go_wp2
    go_ret
    exact ⟨rfl, 0, rfl⟩
end Go.Proofs.Ytpcebfefbnpbpaa
