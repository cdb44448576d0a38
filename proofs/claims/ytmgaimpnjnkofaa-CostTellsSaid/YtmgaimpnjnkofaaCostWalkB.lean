/- cost.Sum and cost.Least: loops that a label ends early; and the document's Sum and Least. They read alone. -/
import Derived.Test.YtmgaimpnjnkofaaCostWalkA
import Derived.Test.YtmgaimpnjnkofaaUtfSl
import Derived.WalkMore
import Derived.OpenShut
import Derived.Laws.Small
import Derived.Lib.Hide
namespace Go.Proofs.Ytmgaimpnjnkofaa
open Go.RowKit

theorem costs_of {l : List Int} (h : ∀ z ∈ l, (Lit.int .u64 z).wf = true) : Cost.Costs l := fun x hx => bounds_u64 (h x hx)
theorem wf_costs {l : List Int} (h : Cost.Costs l) : ∀ z ∈ l, (Lit.int .u64 z).wf = true := fun x hx => WalkArith.wf_u64 (h x hx)

theorem cadd_is (a b r : Int) (w : World) (ha : 0 ≤ a) (ha1 : a ≤ 18446744073709551615) (hb : 0 ≤ b) (hb1 : b ≤ 18446744073709551615) (h : Cost.add a b = r) :
    Calls Try.prog 12 #[.int .u64 a, .int .u64 b] w fun e w' => e = .returned (.int .u64 r) ∧ w = w' := by
  subst h; exact cadd_any a b w ha ha1 hb hb1

set_option maxHeartbeats 800000 in
theorem csum_any (a : Option Addr) (n cap : Nat) (zs : List Int) (w : World) (hs : Sl .u64 w a n cap zs) :
    Calls Try.prog 14 #[.slice a n cap] w fun e w' => e = .returned (.int .u64 (Cost.sum zs)) ∧ w = w' := by
  have hnc := hs.2.1
  have hcm := hs.2.2.1
  unfold maxLen at hcm
  have HC := Lib.hid (costs_of hs.2.2.2.1)
  have HS := Lib.hid hs
  clear hs
  go_enter Try.func14, Try.ntmps14
  go_wp2
  go_step3
  go_wp2
  go_step3
  go_wp2
  go_loop [3, 8] (fun sv ix => ∃ j : Nat, j ≤ n ∧ ix = .int .i64 (j : Int) ∧ sv = .int .u64 (Cost.sum (zs.take j))) (fun _ ix => n - (intOf ix).toNat)
  case atStart => exact ⟨0, Nat.zero_le _, rfl, rfl⟩
  case round =>
    obtain ⟨j, hj, rfl, rfl⟩ := hrel
    by_cases hlt : j < n
    · obtain ⟨b1, o1, rfl, _, hc1⟩ := HS.out.at (by omega)
      have hx1 := hc1 j hlt
      obtain ⟨x, hx⟩ : ∃ x, x = zs.getD j 0 := ⟨_, rfl⟩
      obtain ⟨s, hsm⟩ : ∃ s, s = Cost.sum (zs.take j) := ⟨_, rfl⟩
      have hxb := HC.out.at j
      have hsb := Cost.sum_range (HC.out.take j)
      have e1 : Cost.sum (zs.take (j + 1)) = Cost.add s x := by
        rw [Cost.take_snoc zs j (by rw [HS.out.1]; exact hlt), Cost.sum_snoc (HC.out.take j) hxb.1, hsm, hx]
      rw [← hx] at hx1 hxb
      rw [← hsm] at hsb ⊢
      obtain ⟨hx0, hx9⟩ := hxb
      obtain ⟨hs0, hs9⟩ := hsb
      have hlti : (j : Int) < (n : Int) := by omega
      by_cases he : Cost.add s x = 18446744073709551615
      · have hfin : Cost.sum zs = 18446744073709551615 := Cost.sum_stop HC.out (j + 1) (by rw [e1, he])
        have HE := Lib.hid he
        have HF := Lib.hid hfin
        clear hc1 hx hsm e1 he hfin
        go_wp2_with (go_at_call 12; refine (cadd_is _ _ _ _ hs0 hs9 hx0 hx9 HE.out).mono ?_; rintro e w' ⟨rfl, rfl⟩)
        try rw [Exit.noGoto_ret]
        go_ret
        exact ⟨by rw [HF.out]; rfl, rfl⟩
      · obtain ⟨t, ht⟩ : ∃ t, Cost.add s x = t := ⟨_, rfl⟩
        rw [ht] at he e1
        have he1 : (t == 18446744073709551615) = false := by simpa using he
        have E1 := Lib.hid e1
        have HT := Lib.hid ht
        clear hc1 hx hsm e1 he ht
        go_wp2_with (go_at_call 12; refine (cadd_is _ _ _ _ hs0 hs9 hx0 hx9 HT.out).mono ?_; rintro e w' ⟨rfl, rfl⟩)
        go_round
        case rel => exact ⟨j + 1, by omega, by go_num, by rw [E1.out]⟩
        case measure => simp [intOf]; omega
    · have hfin : zs.take j = zs := List.take_of_length_le (by rw [HS.out.1]; omega)
      rw [hfin]
      clear hfin
      go_wp2
      try rw [Exit.noGoto_ret]
      go_ret
      exact ⟨rfl, rfl⟩

set_option maxHeartbeats 800000 in
theorem cleast_any (a : Option Addr) (n cap : Nat) (zs : List Int) (w : World) (hs : Sl .u64 w a n cap zs) :
    Calls Try.prog 16 #[.slice a n cap] w fun e w' => e = .returned (.int .u64 (Cost.least zs)) ∧ w = w' := by
  have hnc := hs.2.1
  have hcm := hs.2.2.1
  unfold maxLen at hcm
  have HC := Lib.hid (costs_of hs.2.2.2.1)
  have HS := Lib.hid hs
  clear hs
  go_enter Try.func16, Try.ntmps16
  go_wp2
  go_step3
  go_wp2
  go_step3
  go_wp2
  go_loop [3, 8] (fun sv ix => ∃ j : Nat, j ≤ n ∧ ix = .int .i64 (j : Int) ∧ sv = .int .u64 (Cost.least (zs.take j))) (fun _ ix => n - (intOf ix).toNat)
  case atStart => exact ⟨0, Nat.zero_le _, rfl, rfl⟩
  case round =>
    obtain ⟨j, hj, rfl, rfl⟩ := hrel
    by_cases hlt : j < n
    · obtain ⟨b1, o1, rfl, _, hc1⟩ := HS.out.at (by omega)
      have hx1 := hc1 j hlt
      obtain ⟨x, hx⟩ : ∃ x, x = zs.getD j 0 := ⟨_, rfl⟩
      obtain ⟨s, hsm⟩ : ∃ s, s = Cost.least (zs.take j) := ⟨_, rfl⟩
      have hxb := HC.out.at j
      have hsb := Cost.least_range (HC.out.take j)
      have e1 : Cost.least (zs.take (j + 1)) = Cost.lo s x := by
        rw [Cost.take_snoc zs j (by rw [HS.out.1]; exact hlt), Cost.least_snoc hxb.1 hxb.2, hsm, hx]
      rw [← hx] at hx1 hxb
      rw [← hsm] at hsb ⊢
      obtain ⟨hx0, hx9⟩ := hxb
      obtain ⟨hs0, hs9⟩ := hsb
      have hlti : (j : Int) < (n : Int) := by omega
      obtain ⟨t, ht⟩ : ∃ t, (if x < s then x else s) = t := ⟨_, rfl⟩
      have e2 : Cost.least (zs.take (j + 1)) = t := by rw [e1, ← ht]; rfl
      by_cases he : t = 0
      · subst he
        have hfin : Cost.least zs = 0 := Cost.least_stop HC.out (j + 1) e2
        have HF := Lib.hid hfin
        clear hc1 hx hsm e1 e2 hfin
        go_wp2
        try rw [Exit.noGoto_ret]
        go_ret
        exact ⟨by rw [HF.out]; rfl, rfl⟩
      · have he1 : (t == 0) = false := by simpa using he
        have E1 := Lib.hid e2
        clear hc1 hx hsm e1 e2 he
        go_wp2
        go_round
        case rel => exact ⟨j + 1, by omega, by go_num, by rw [E1.out]⟩
        case measure => simp [intOf]; omega
    · have hfin : zs.take j = zs := List.take_of_length_le (by rw [HS.out.1]; omega)
      rw [hfin]
      clear hfin
      go_wp2
      try rw [Exit.noGoto_ret]
      go_ret
      exact ⟨rfl, rfl⟩

end Go.Proofs.Ytmgaimpnjnkofaa
