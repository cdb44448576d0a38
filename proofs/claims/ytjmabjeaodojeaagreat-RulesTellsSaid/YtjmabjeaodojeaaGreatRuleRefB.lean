/- Used by the law. -/
import Derived.Test.YtjmabjeaodojeaaGreatRuleRef
import Derived.Deep.RegionWith
namespace Go.Proofs.YtjmabjeaodojeaaGreat
open Go.RowKit

theorem ruls_take_same {xs ys : List Rw} {j : Nat} (h : (ruls xs).take j = (ruls ys).take j) (hx : j < xs.length) (hy : j < ys.length) (e : (xs.getD j Rw.no).r = (ys.getD j Rw.no).r) :
    (ruls xs).take (j + 1) = (ruls ys).take (j + 1) := by
  have h1 : j < (ruls xs).length := by rw [ruls_length]; exact hx
  have h2 : j < (ruls ys).length := by rw [ruls_length]; exact hy
  rw [List.take_succ_eq_append_getElem h1, List.take_succ_eq_append_getElem h2, h]
  rw [← ruls_at, ← ruls_at] at e
  simp [h1, h2] at e
  rw [e]

set_option maxRecDepth 100000 in
set_option maxHeartbeats 3200000 in
theorem rsames_is (a b : Option Addr) (n m cap cap2 : Nat) (xs ys : List Rw) (r : Bool) (w : World) (ha : Rs w a n cap xs) (hb : Rs w b m cap2 ys) (h : decide (ruls xs = ruls ys) = r) :
    Calls Tryz.prog 24 #[.slice a n cap, .slice b m cap2] w fun e w' => e = .returned (.bool r) ∧ ∃ q, w' = w.drewN q := by
  have hnc := ha.2.1
  have hcm := ha.2.2.1
  unfold maxLen at hcm
  have hmc := hb.2.1
  have hcm2 := hb.2.2.1
  unfold maxLen at hcm2
  have HA := Lib.hid ha
  have HB := Lib.hid hb
  have HR := Lib.hid h
  clear ha hb h
  by_cases hnm : n = m
  · subst hnm
    go_enter Tryz.func24, Tryz.ntmps24
    go_wp2
    go_loopw [5] (fun ix wr => ∃ j : Nat, j ≤ n ∧ ix = .int .i64 (j : Int) ∧ Hid ((ruls xs).take j = (ruls ys).take j) ∧ Hid (∃ q, wr = w.drewN q)) (fun ix _ => n - (intOf ix).toNat)
    case atStart => exact ⟨0, Nat.zero_le _, rfl, rfl, ⟨0, rfl⟩⟩
    case round =>
      obtain ⟨j, hj, rfl, HT, HQ⟩ := hrel
      by_cases hlt : j < n
      · obtain ⟨b1, o1, la, ln, lc, L, ra, rn, rc, R, C, rfl, _, hx1, hx2, hx3, hsl, hsr, _, _, hz1⟩ := (HA.out.drawn HQ.out).one j hlt
        obtain ⟨b2, o2, la', ln', lc', L', ra', rn', rc', R', C', rfl, _, hy1, hy2, hy3, hsl', hsr', _, _, hz2⟩ := (HB.out.drawn HQ.out).one j hlt
        have HSL := Lib.hid hsl
        have HSR := Lib.hid hsr
        have HSL' := Lib.hid hsl'
        have HSR' := Lib.hid hsr'
        have HZ1 := Lib.hid hz1
        have HZ2 := Lib.hid hz2
        have hlti : (j : Int) < (n : Int) := by omega
        clear hsl hsr hsl' hsr' hz1 hz2
        by_cases he : L = L' ∧ R = R' ∧ C = C'
        · obtain ⟨he1, he2, rfl⟩ := he
          have HD1 : Hid (decide (L = L') = true) := Lib.hid (decide_eq_true he1)
          have HD2 : Hid (decide (R = R') = true) := Lib.hid (decide_eq_true he2)
          have HE : Hid (L = L' ∧ R = R') := ⟨he1, he2⟩
          clear he1 he2
          go_wp2
          go_quiet (first | (go_at_call_of 49 la; exact Calls.quiet_of (same_is la la' ln ln' lc lc' L L' true _ (HSL.out.drewN _) (HSL'.out.drewN _) HD1.out)) | (go_at_call_of 49 ra; exact Calls.quiet_of (same_is ra ra' rn rn' rc rc' R R' true _ (HSR.out.drewN _) (HSR'.out.drewN _) HD2.out)))
          go_wp2
          go_roundw
          case rel => exact ⟨j + 1, by omega, by go_num, ruls_take_same HT.out (by rw [HA.out.1]; exact hlt) (by rw [HB.out.1]; exact hlt) (by rw [HZ1.out, HZ2.out]; simp [Rw.r, HE.out]), (by obtain ⟨q, hq⟩ := HQ.out; exact ⟨_, by rw [hq, World.drewN_drewN]⟩)⟩
          case measure => simp [intOf]; omega
        · have hrf : r = false := by
            rw [← HR.out, decide_eq_false_iff_not]; intro h; apply he
            have h1 := ruls_at xs j
            have h2 := ruls_at ys j
            rw [h, h2, HZ1.out, HZ2.out] at h1
            simp only [Rw.r, Rul.mk.injEq] at h1
            exact ⟨h1.1.symm, h1.2.1.symm, h1.2.2.symm⟩
          have hcase : L ≠ L' ∨ (L = L' ∧ R ≠ R') ∨ (L = L' ∧ R = R' ∧ C ≠ C') := by
            by_cases h1 : L = L'
            · by_cases h2 : R = R'
              · exact .inr (.inr ⟨h1, h2, fun h => he ⟨h1, h2, h⟩⟩)
              · exact .inr (.inl ⟨h1, h2⟩)
            · exact .inl h1
          have HRF := Lib.hid hrf
          clear he hrf HR
          rcases hcase with h1 | ⟨h1, h2⟩ | ⟨h1, h2, h3⟩
          · have HD1 : Hid (decide (L = L') = false) := Lib.hid (decide_eq_false h1)
            clear h1
            go_wp2
            go_quiet (first | (go_at_call_of 49 la; exact Calls.quiet_of (same_is la la' ln ln' lc lc' L L' false _ (HSL.out.drewN _) (HSL'.out.drewN _) HD1.out)) | fail)
            go_wp2
            go_ret
            exact ⟨by rw [HRF.out]; rfl, (by obtain ⟨q, hq⟩ := HQ.out; exact ⟨_, by rw [hq, World.drewN_drewN]⟩)⟩
          · have HD1 : Hid (decide (L = L') = true) := Lib.hid (decide_eq_true h1)
            have HD2 : Hid (decide (R = R') = false) := Lib.hid (decide_eq_false h2)
            clear h1 h2
            go_wp2
            go_quiet (first | (go_at_call_of 49 la; exact Calls.quiet_of (same_is la la' ln ln' lc lc' L L' true _ (HSL.out.drewN _) (HSL'.out.drewN _) HD1.out)) | (go_at_call_of 49 ra; exact Calls.quiet_of (same_is ra ra' rn rn' rc rc' R R' false _ (HSR.out.drewN _) (HSR'.out.drewN _) HD2.out)))
            go_wp2
            go_ret
            exact ⟨by rw [HRF.out]; rfl, (by obtain ⟨q, hq⟩ := HQ.out; exact ⟨_, by rw [hq, World.drewN_drewN]⟩)⟩
          · have HD1 : Hid (decide (L = L') = true) := Lib.hid (decide_eq_true h1)
            have HD2 : Hid (decide (R = R') = true) := Lib.hid (decide_eq_true h2)
            have h3' : (C == C') = false := by simpa using h3
            have h3'' : (C != C') = true := by simpa using h3
            clear h1 h2
            go_wp2
            go_quiet (first | (go_at_call_of 49 la; exact Calls.quiet_of (same_is la la' ln ln' lc lc' L L' true _ (HSL.out.drewN _) (HSL'.out.drewN _) HD1.out)) | (go_at_call_of 49 ra; exact Calls.quiet_of (same_is ra ra' rn rn' rc rc' R R' true _ (HSR.out.drewN _) (HSR'.out.drewN _) HD2.out)))
            go_wp2
            go_ret
            exact ⟨by rw [HRF.out]; rfl, (by obtain ⟨q, hq⟩ := HQ.out; exact ⟨_, by rw [hq, World.drewN_drewN]⟩)⟩
      · have hfin : r = true := by
          rw [← HR.out, decide_eq_true_iff]
          have h := HT.out
          rwa [List.take_of_length_le (by rw [ruls_length, HA.out.1]; omega), List.take_of_length_le (by rw [ruls_length, HB.out.1]; omega)] at h
        have HF := Lib.hid hfin
        clear hfin HR
        go_wp2
        go_ret
        exact ⟨by rw [HF.out]; rfl, HQ.out⟩
  · have hfin : r = false := by
      rw [← HR.out, decide_eq_false_iff_not]; intro h
      have := congrArg List.length h
      rw [ruls_length, ruls_length, HA.out.1, HB.out.1] at this
      exact hnm this
    have h1 : ((n : Int) == (m : Int)) = false := by simp; omega
    have h2 : ((n : Int) != (m : Int)) = true := by simp; omega
    subst hfin
    clear HR
    go_enter Tryz.func24, Tryz.ntmps24
    go_wp2
    go_ret
    exact ⟨rfl, 0, rfl⟩

def ShortR (xs : List Rw) : Prop := ∀ x ∈ xs, x.ln ≤ 100 ∧ x.rn ≤ 100

theorem ShortR.snoc {xs : List Rw} {j : Nat} (h : ShortR (xs.take j)) (hj : j < xs.length) (hx : (xs.getD j Rw.no).ln ≤ 100 ∧ (xs.getD j Rw.no).rn ≤ 100) : ShortR (xs.take (j + 1)) := by
  intro x hm
  rw [List.take_succ_eq_append_getElem hj] at hm
  rcases List.mem_append.1 hm with hm | hm
  · exact h x hm
  · rw [List.mem_singleton.1 hm]; simpa [hj] using hx

set_option maxRecDepth 100000 in
theorem rfew_any (a : Option Addr) (n cap : Nat) (xs : List Rw) (most : Nat) (_hmost : most ≤ 1000) (w : World) (ha : Rs w a n cap xs) :
    Calls Tryz.prog 5 #[.slice a n cap, .int .i64 (most : Int)] w fun e w' => (e = .returned (.bool false) ∨ (e = .returned (.bool true) ∧ ShortR xs ∧ n ≤ most)) ∧ w' = w := by
  have hnc := ha.2.1
  have hcm := ha.2.2.1
  unfold maxLen at hcm
  have HA := Lib.hid ha
  clear ha
  go_enter Tryz.func5, Tryz.ntmps5
  go_wp2
  go_loopw [5] (fun ix wr => ∃ j : Nat, j ≤ n ∧ ix = .int .i64 (j : Int) ∧ Hid (ShortR (xs.take j)) ∧ Hid (wr = w)) (fun ix _ => n - (intOf ix).toNat)
  case atStart => exact ⟨0, Nat.zero_le _, rfl, (fun x hx => by simp at hx), rfl⟩
  case round =>
    obtain ⟨j, hj, rfl, HT, HW⟩ := hrel
    obtain rfl := HW.out
    clear HW
    by_cases hlt : j < n
    · obtain ⟨b1, o1, la, ln, lc, L, ra, rn, rc, R, C, rfl, _, hx1, hx2, hx3, _, _, _, _, hz1⟩ := HA.out.one j hlt
      have HZ1 := Lib.hid hz1
      have hlti : (j : Int) < (n : Int) := by omega
      clear hz1
      by_cases h1 : 100 < ln
      · have h1i : (100 : Int) < (ln : Int) := by omega
        go_wp2
        go_ret
        exact ⟨.inl rfl, rfl⟩
      have h1i : ¬ (100 : Int) < (ln : Int) := by omega
      by_cases h2 : 100 < rn
      · have h2i : (100 : Int) < (rn : Int) := by omega
        go_wp2
        go_ret
        exact ⟨.inl rfl, rfl⟩
      have h2i : ¬ (100 : Int) < (rn : Int) := by omega
      go_wp2
      go_roundw
      case rel => exact ⟨j + 1, by omega, by go_num, HT.out.snoc (by rw [HA.out.1]; exact hlt) (by rw [HZ1.out]; exact ⟨by show ln ≤ 100; omega, by show rn ≤ 100; omega⟩), (by first | exact (trivial : True) | rfl)⟩
      case measure => simp [intOf]; omega
    · have hfin : ShortR xs := by
        have h := HT.out
        rwa [List.take_of_length_le (by rw [HA.out.1]; omega)] at h
      have HF := Lib.hid hfin
      clear hfin
      by_cases hm : n ≤ most
      · have hmi : (n : Int) ≤ (most : Int) := by omega
        go_wp2
        go_ret
        exact ⟨.inr ⟨rfl, HF.out, hm⟩, rfl⟩
      · have hmi : ¬ (n : Int) ≤ (most : Int) := by omega
        go_wp2
        go_ret
        exact ⟨by first | exact .inl rfl | rfl, rfl⟩

end Go.Proofs.YtjmabjeaodojeaaGreat
