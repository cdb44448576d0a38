/- The document's own answers for costs: Add, Sum, Least, and Times, by halves. -/
import Derived.Test.YtmgaimpnjnkofaaCostWalkC
namespace Go.Proofs.Ytmgaimpnjnkofaa
open Go.RowKit

set_option maxHeartbeats 400000 in
theorem radd_any (a b : Int) (w : World) (ha : 0 ≤ a) (ha1 : a ≤ 18446744073709551615) (hb : 0 ≤ b) (hb1 : b ≤ 18446744073709551615) :
    Calls Try.prog 13 #[.int .u64 a, .int .u64 b] w fun e w' => e = .returned (.int .u64 (Cost.add a b)) ∧ w = w' := by
  by_cases h : 18446744073709551615 - b < a
  · rw [show Cost.add a b = 18446744073709551615 from by unfold Cost.add Cost.cap; rw [if_pos (by omega)]]
    go_enter Try.func13, Try.ntmps13
    go_wp2
    go_ret
    exact ⟨rfl, rfl⟩
  · rw [show Cost.add a b = a + b from by unfold Cost.add Cost.cap; rw [if_neg (by omega)]]
    have hs : a + b ≤ 18446744073709551615 := by omega
    go_enter Try.func13, Try.ntmps13
    go_wp2
    go_ret
    exact ⟨rfl, rfl⟩
theorem radd_is (a b r : Int) (w : World) (ha : 0 ≤ a) (ha1 : a ≤ 18446744073709551615) (hb : 0 ≤ b) (hb1 : b ≤ 18446744073709551615) (h : Cost.add a b = r) :
    Calls Try.prog 13 #[.int .u64 a, .int .u64 b] w fun e w' => e = .returned (.int .u64 r) ∧ w = w' := by
  subst h; exact radd_any a b w ha ha1 hb hb1

set_option maxHeartbeats 800000 in
theorem rsum_any (a : Option Addr) (n cap : Nat) (zs : List Int) (w : World) (hs : Sl .u64 w a n cap zs) :
    Calls Try.prog 15 #[.slice a n cap] w fun e w' => e = .returned (.int .u64 (Cost.sum zs)) ∧ w = w' := by
  have hnc := hs.2.1
  have hcm := hs.2.2.1
  unfold maxLen at hcm
  have HC := Lib.hid (costs_of hs.2.2.2.1)
  have HS := Lib.hid hs
  clear hs
  go_enter Try.func15, Try.ntmps15
  go_wp2
  go_loop [3, 4] (fun sv ix => ∃ j : Nat, j ≤ n ∧ ix = .int .i64 (j : Int) ∧ sv = .int .u64 (Cost.sum (zs.take j))) (fun _ ix => n - (intOf ix).toNat)
  case atStart => exact ⟨0, Nat.zero_le _, rfl, rfl⟩
  case round =>
    obtain ⟨j, hj, rfl, rfl⟩ := hrel
    by_cases hlt : j < n
    · obtain ⟨b1, o1, rfl, _, hc1⟩ := HS.out.at (by omega)
      have hx1 := hc1 j hlt
      obtain ⟨x, hx⟩ : ∃ x, x = zs.getD j 0 := ⟨_, rfl⟩
      obtain ⟨s, hsm⟩ : ∃ s, s = Cost.sum (zs.take j) := ⟨_, rfl⟩
      have hxb := HC.out.at j
      have hsb := Cost.sum_range (HC.out.take j)
      have e1 : Cost.sum (zs.take (j + 1)) = Cost.add s x := by
        rw [Cost.take_snoc zs j (by rw [HS.out.1]; exact hlt), Cost.sum_snoc (HC.out.take j) hxb.1, hsm, hx]
      rw [← hx] at hx1 hxb
      rw [← hsm] at hsb ⊢
      obtain ⟨hx0, hx9⟩ := hxb
      obtain ⟨hs0, hs9⟩ := hsb
      have hlti : (j : Int) < (n : Int) := by omega
      obtain ⟨t, ht⟩ : ∃ t, Cost.add s x = t := ⟨_, rfl⟩
      have E1 : Hid (Cost.sum (zs.take (j + 1)) = t) := by show _ = _; rw [e1, ← ht]
      have HT := Lib.hid ht
      clear hc1 hx hsm e1 ht
      go_wp2_with (go_at_call 13; refine (radd_is _ _ _ _ hs0 hs9 hx0 hx9 HT.out).mono ?_; rintro e w' ⟨rfl, rfl⟩)
      go_round
      case rel => exact ⟨j + 1, by omega, by go_num, by rw [E1.out]⟩
      case measure => simp [intOf]; omega
    · have hfin : zs.take j = zs := List.take_of_length_le (by rw [HS.out.1]; omega)
      rw [hfin]
      clear hfin
      go_wp2
      go_ret
      exact ⟨rfl, rfl⟩

set_option maxHeartbeats 800000 in
theorem rleast_any (a : Option Addr) (n cap : Nat) (zs : List Int) (w : World) (hs : Sl .u64 w a n cap zs) :
    Calls Try.prog 17 #[.slice a n cap] w fun e w' => e = .returned (.int .u64 (Cost.least zs)) ∧ w = w' := by
  have hnc := hs.2.1
  have hcm := hs.2.2.1
  unfold maxLen at hcm
  have HC := Lib.hid (costs_of hs.2.2.2.1)
  have HS := Lib.hid hs
  clear hs
  go_enter Try.func17, Try.ntmps17
  go_wp2
  go_loop [3, 4] (fun sv ix => ∃ j : Nat, j ≤ n ∧ ix = .int .i64 (j : Int) ∧ sv = .int .u64 (Cost.least (zs.take j))) (fun _ ix => n - (intOf ix).toNat)
  case atStart => exact ⟨0, Nat.zero_le _, rfl, rfl⟩
  case round =>
    obtain ⟨j, hj, rfl, rfl⟩ := hrel
    by_cases hlt : j < n
    · obtain ⟨b1, o1, rfl, _, hc1⟩ := HS.out.at (by omega)
      have hx1 := hc1 j hlt
      obtain ⟨x, hx⟩ : ∃ x, x = zs.getD j 0 := ⟨_, rfl⟩
      obtain ⟨s, hsm⟩ : ∃ s, s = Cost.least (zs.take j) := ⟨_, rfl⟩
      have hxb := HC.out.at j
      have hsb := Cost.least_range (HC.out.take j)
      have e1 : Cost.least (zs.take (j + 1)) = Cost.lo s x := by
        rw [Cost.take_snoc zs j (by rw [HS.out.1]; exact hlt), Cost.least_snoc hxb.1 hxb.2, hsm, hx]
      rw [← hx] at hx1 hxb
      rw [← hsm] at hsb ⊢
      obtain ⟨hx0, hx9⟩ := hxb
      obtain ⟨hs0, hs9⟩ := hsb
      have hlti : (j : Int) < (n : Int) := by omega
      obtain ⟨t, ht⟩ : ∃ t, (if x < s then x else s) = t := ⟨_, rfl⟩
      have E1 : Hid (Cost.least (zs.take (j + 1)) = t) := by show _ = _; rw [e1, ← ht]; rfl
      clear hc1 hx hsm e1
      go_wp2
      go_round
      case rel => exact ⟨j + 1, by omega, by go_num, by rw [E1.out]⟩
      case measure => simp [intOf]; omega
    · have hfin : zs.take j = zs := List.take_of_length_le (by rw [HS.out.1]; omega)
      rw [hfin]
      clear hfin
      go_wp2
      go_ret
      exact ⟨rfl, rfl⟩

theorem rsum_is (a : Option Addr) (n cap : Nat) (zs : List Int) (r : Int) (w : World) (hs : Sl .u64 w a n cap zs) (h : Cost.sum zs = r) :
    Calls Try.prog 15 #[.slice a n cap] w fun e w' => e = .returned (.int .u64 r) ∧ w = w' := by
  subst h; exact rsum_any a n cap zs w hs
theorem rleast_is (a : Option Addr) (n cap : Nat) (zs : List Int) (r : Int) (w : World) (hs : Sl .u64 w a n cap zs) (h : Cost.least zs = r) :
    Calls Try.prog 17 #[.slice a n cap] w fun e w' => e = .returned (.int .u64 r) ∧ w = w' := by
  subst h; exact rleast_any a n cap zs w hs

/-- by halves: k bounds the calls to come -/
theorem rtimes_any (k : Nat) : ∀ (c n : Int) (w : World), n < 2 ^ k → 0 ≤ c → c ≤ 18446744073709551615 → -9223372036854775808 ≤ n → n ≤ 9223372036854775807 →
    Calls Try.prog 19 #[.int .u64 c, .int .i64 n] w fun e w' => e = .returned (.int .u64 (Cost.times c n)) ∧ w = w' := by
  induction k with
  | zero =>
    intro c n w hk hc hc1 hn hn1
    have h : n < 1 := by simpa using hk
    rw [Cost.times_zero c h]
    go_enter Try.func19, Try.ntmps19
    go_wp2_with fail
    go_ret
    exact ⟨rfl, rfl⟩
  | succ k ih =>
    intro c n w hk hc hc1 hn hn1
    by_cases h : n < 1
    · rw [Cost.times_zero c h]
      clear ih
      go_enter Try.func19, Try.ntmps19
      go_wp2_with fail
      go_ret
      exact ⟨rfl, rfl⟩
    · have hh := Cost.times_half (c := c) (n := n) hc (by omega)
      have hk2 : n / 2 < 2 ^ k := by rw [Int.pow_succ] at hk; omega
      have hcall := Lib.hid (fun w : World => ih c (n / 2) w hk2 hc hc1 (by omega) (by omega))
      have htr := Cost.times_range (n / 2) hc
      clear ih hk hk2
      obtain ⟨p, hp⟩ : ∃ p, Cost.times c (n / 2) = p := ⟨_, rfl⟩
      rw [hp] at hh htr hcall
      obtain ⟨hp0, hp1⟩ := htr
      obtain ⟨q, hq⟩ : ∃ q, Cost.add p p = q := ⟨_, rfl⟩
      have hqr := Cost.add_range hp0 hp0
      rw [hq] at hh hqr
      obtain ⟨hq0, hq1⟩ := hqr
      have HQ := Lib.hid hq
      clear hp hq
      by_cases h2 : n % 2 = 1
      · rw [if_pos h2] at hh
        have HH := Lib.hid hh.symm
        obtain ⟨r, hr⟩ : ∃ r, Cost.times c n = r := ⟨_, rfl⟩
        rw [hr] at HH ⊢
        clear hh hr
        have h3 : (n % 2 == 1) = true := by simpa using h2
        go_enter Try.func19, Try.ntmps19
        go_wp2_with fail
        refine (hcall.out _).mono ?_
        rintro e w' ⟨rfl, rfl⟩
        go_wp2_with fail
        refine (radd_is p p q _ hp0 hp1 hp0 hp1 HQ.out).mono ?_
        rintro e w' ⟨rfl, rfl⟩
        go_wp2_with fail
        refine (radd_is q c r _ hq0 hq1 hc hc1 HH.out).mono ?_
        rintro e w' ⟨rfl, rfl⟩
        go_wp2_with fail
        go_ret
        exact ⟨rfl, rfl⟩
      · rw [if_neg h2] at hh
        have HH := Lib.hid hh
        have h3 : (n % 2 == 1) = false := by simpa using h2
        clear hh
        go_enter Try.func19, Try.ntmps19
        go_wp2_with fail
        refine (hcall.out _).mono ?_
        rintro e w' ⟨rfl, rfl⟩
        go_wp2_with fail
        refine (radd_is p p q _ hp0 hp1 hp0 hp1 HQ.out).mono ?_
        rintro e w' ⟨rfl, rfl⟩
        go_wp2_with fail
        go_ret
        exact ⟨by rw [HH.out]; rfl, rfl⟩
theorem rtimes_is (c n r : Int) (w : World) (hc : 0 ≤ c) (hc1 : c ≤ 18446744073709551615) (hn : -9223372036854775808 ≤ n) (hn1 : n ≤ 9223372036854775807) (h : Cost.times c n = r) :
    Calls Try.prog 19 #[.int .u64 c, .int .i64 n] w fun e w' => e = .returned (.int .u64 r) ∧ w = w' := by
  subst h; exact rtimes_any 63 c n w (by omega) hc hc1 hn hn1

end Go.Proofs.Ytmgaimpnjnkofaa
