import Derived.Test.YtpcebfefbnpbpaaPackE
import Derived.Test.YtpcebfefbnpbpaaPackA
import Derived.Test.YtpcebfefbnpbpaaPackB
import Derived.Sort.Grow
set_option linter.all false
set_option maxRecDepth 100000
set_option maxHeartbeats 12800000
namespace Go.Proofs.Ytpcebfefbnpbpaa
section
open Go.RowKit

theorem sleq_any (a b : Option Addr) (n m cap cap2 : Nat) (xs ys : List Int) (w : World) (ha : Sl .i64 w a n cap xs) (hb : Sl .i64 w b m cap2 ys) :
    Calls Try.prog 54 #[.slice a n cap, .slice b m cap2] w fun e w' => e = .returned (.bool (decide (xs = ys))) ∧ ∃ q, w' = w.drewN q := by
  have hnc := ha.2.1
  have hcm := ha.2.2.1
  unfold maxLen at hcm
  have hmc := hb.2.1
  have hcm2 := hb.2.2.1
  unfold maxLen at hcm2
  have HA := Lib.hid ha
  have HB := Lib.hid hb
  clear ha hb
  by_cases hnm : n = m
  · subst hnm
    go_enter Try.func54, Try.ntmps54
    go_wp2
    go_loopw [13] (fun ix wr => ∃ j q : Nat, j ≤ n ∧ ix = .int .i64 (j : Int) ∧ Hid (xs.take j = ys.take j) ∧ wr = w.drewN q) (fun ix _ => n - (intOf ix).toNat)
    case atStart => exact ⟨0, 0, Nat.zero_le _, rfl, rfl, rfl⟩
    case round =>
      obtain ⟨j, q, hj, rfl, HT, rfl⟩ := hrel
      by_cases hlt : j < n
      · obtain ⟨b1, o1, rfl, _, hc1⟩ := HA.out.at (by omega)
        obtain ⟨b2, o2, rfl, _, hc2⟩ := HB.out.at (by omega)
        obtain ⟨x, hx⟩ : ∃ x, x = xs.getD j 0 := ⟨_, rfl⟩
        obtain ⟨y, hy⟩ : ∃ y, y = ys.getD j 0 := ⟨_, rfl⟩
        have hx1 := hc1 j hlt
        have hy1 := hc2 j hlt
        rw [← hx] at hx1
        rw [← hy] at hy1
        have HX := Lib.hid hx
        have HY := Lib.hid hy
        have hlti : (j : Int) < (n : Int) := by omega
        clear hc1 hc2 hx hy
        by_cases he : x = y
        · subst he
          go_wp2
          go_quiet (fail)
          go_wp2
          go_roundw
          case rel => exact ⟨j + 1, _, by omega, by go_num, take_same HT.out (by rw [HA.out.1]; exact hlt) (by rw [HB.out.1]; exact hlt) (by rw [← HX.out, ← HY.out]), rfl⟩
          case measure => simp [intOf]; omega
        · have he1 : (x == y) = false := by simpa using he
          have he2 : (x != y) = true := by simpa using he
          have hfin : decide (xs = ys) = false := by
            rw [decide_eq_false_iff_not]; intro h; apply he; rw [HX.out, HY.out, h]
          have HF := Lib.hid hfin
          clear he hfin
          go_wp2
          go_quiet (fail)
          go_wp2
          go_ret
          exact ⟨by rw [HF.out]; rfl, _, World.drewN_drewN _ _ _⟩
      · have hfin : decide (xs = ys) = true := by
          rw [decide_eq_true_iff]
          have h := HT.out
          rwa [List.take_of_length_le (by rw [HA.out.1]; omega), List.take_of_length_le (by rw [HB.out.1]; omega)] at h
        have HF := Lib.hid hfin
        clear hfin
        go_wp2
        go_ret
        exact ⟨by rw [HF.out]; rfl, q, rfl⟩
  · have h1 : ((n : Int) == (m : Int)) = false := by simp; omega
    have h2 : ((n : Int) != (m : Int)) = true := by simp; omega
    have hfin : decide (xs = ys) = false := by
      rw [decide_eq_false_iff_not]; intro h; apply hnm; rw [← HA.out.1, ← HB.out.1, h]
    have HF := Lib.hid hfin
    clear hnm hfin
    go_enter Try.func54, Try.ntmps54
    go_wp2
    go_ret
    exact ⟨by rw [HF.out]; rfl, 0, rfl⟩

theorem sleq_is (a b : Option Addr) (n m cap cap2 : Nat) (xs ys : List Int) (r : Bool) (w : World) (ha : Sl .i64 w a n cap xs) (hb : Sl .i64 w b m cap2 ys) (h : decide (xs = ys) = r) :
    Calls Try.prog 54 #[.slice a n cap, .slice b m cap2] w fun e w' => e = .returned (.bool r) ∧ ∃ q, w' = w.drewN q := by
  subst h
  exact sleq_any a b n m cap cap2 xs ys w ha hb

end
section
open Go.RowKit

theorem Sl.getD_bounds {w : World} {a : Option Addr} {n cap : Nat} {zs : List Int} (h : Sl .i64 w a n cap zs) (j : Nat) (hj : j < n) : (Lit.int .i64 (zs.getD j 0)).wf = true := by
  refine h.2.2.2.1 _ ?_
  have : j < zs.length := by rw [h.1]; exact hj
  rw [List.getD_eq_getElem?_getD, List.getElem?_eq_getElem this, Option.getD_some]
  exact List.getElem_mem this

theorem first_any (a b : Option Addr) (n m cap cap2 : Nat) (xs ys : List Int) (w : World) (ha : Sl .i64 w a n cap xs) (hb : Sl .i64 w b m cap2 ys) :
    Calls Try.prog 84 #[.slice a n cap, .slice b m cap2] w fun e w' => e = .returned (.int .i64 (common xs ys : Nat)) ∧ ∃ q, w' = w.drewN q := by
  have hnc := ha.2.1
  have hcm := ha.2.2.1
  unfold maxLen at hcm
  have hmc := hb.2.1
  have hcm2 := hb.2.2.1
  unfold maxLen at hcm2
  have HA := Lib.hid ha
  have HB := Lib.hid hb
  clear ha hb
  by_cases hmn : m < n
  · have HE : Hid (m = xs.length ∨ m = ys.length) := .inr HB.out.1.symm
    have HXL : Hid (m ≤ xs.length) := by show _ ≤ _; rw [HA.out.1]; omega
    have HYL : Hid (m ≤ ys.length) := by show _ ≤ _; rw [HB.out.1]; omega
    go_enter Try.func84, Try.ntmps84
    go_wp2
    go_loopw [13] (fun ix wr => ∃ j q : Nat, j ≤ m ∧ ix = .int .i64 (j : Int) ∧ Hid (xs.take j = ys.take j) ∧ wr = w.drewN q) (fun ix _ => m - (intOf ix).toNat)
    case atStart => exact ⟨0, 0, Nat.zero_le _, rfl, rfl, rfl⟩
    case round =>
      obtain ⟨j, q, hj, rfl, HT, rfl⟩ := hrel
      by_cases hlt : j < m
      · obtain ⟨b1, o1, rfl, _, hc1⟩ := HA.out.at (by omega)
        obtain ⟨b2, o2, rfl, _, hc2⟩ := HB.out.at (by omega)
        obtain ⟨x, hx⟩ : ∃ x, x = xs.getD j 0 := ⟨_, rfl⟩
        obtain ⟨y, hy⟩ : ∃ y, y = ys.getD j 0 := ⟨_, rfl⟩
        have hx1 := hc1 j (by omega)
        have hy1 := hc2 j (by omega)
        rw [← hx] at hx1
        rw [← hy] at hy1
        have HX := Lib.hid hx
        have HY := Lib.hid hy
        have hlti : (j : Int) < (m : Int) := by omega
        have hltO : (j : Int) < (n : Int) := by omega
        clear hc1 hc2 hx hy
        by_cases he : x = y
        · subst he
          go_wp2
          go_quiet (fail)
          go_wp2
          go_roundw
          case rel => exact ⟨j + 1, _, by omega, by go_num, take_same HT.out (by have := HXL.out; omega) (by have := HYL.out; omega) (by rw [← HX.out, ← HY.out]), rfl⟩
          case measure => simp [intOf]; omega
        · have he1 : (x == y) = false := by simpa using he
          have he2 : (x != y) = true := by simpa using he
          have hfin : common xs ys = j := common_at HT.out (by have := HXL.out; omega) (by have := HYL.out; omega) (.inr (.inr (by rw [← HX.out, ← HY.out]; exact he)))
          have HF := Lib.hid hfin
          clear he hfin
          go_wp2
          go_quiet (fail)
          go_wp2
          go_ret
          exact ⟨by rw [HF.out]; rfl, _, World.drewN_drewN _ _ _⟩
      · obtain rfl : j = m := by omega
        have hfin : common xs ys = j := common_at HT.out HXL.out HYL.out (by rcases HE.out with h | h <;> omega)
        have HF := Lib.hid hfin
        clear hfin
        go_wp2
        go_ret
        exact ⟨by rw [HF.out]; rfl, q, rfl⟩
  · have HE : Hid (n = xs.length ∨ n = ys.length) := .inl HA.out.1.symm
    have HXL : Hid (n ≤ xs.length) := by show _ ≤ _; rw [HA.out.1]; omega
    have HYL : Hid (n ≤ ys.length) := by show _ ≤ _; rw [HB.out.1]; omega
    have hnm : n ≤ m := by omega
    go_enter Try.func84, Try.ntmps84
    go_wp2
    go_loopw [13] (fun ix wr => ∃ j q : Nat, j ≤ n ∧ ix = .int .i64 (j : Int) ∧ Hid (xs.take j = ys.take j) ∧ wr = w.drewN q) (fun ix _ => n - (intOf ix).toNat)
    case atStart => exact ⟨0, 0, Nat.zero_le _, rfl, rfl, rfl⟩
    case round =>
      obtain ⟨j, q, hj, rfl, HT, rfl⟩ := hrel
      by_cases hlt : j < n
      · obtain ⟨b1, o1, rfl, _, hc1⟩ := HA.out.at (by omega)
        obtain ⟨b2, o2, rfl, _, hc2⟩ := HB.out.at (by omega)
        obtain ⟨x, hx⟩ : ∃ x, x = xs.getD j 0 := ⟨_, rfl⟩
        obtain ⟨y, hy⟩ : ∃ y, y = ys.getD j 0 := ⟨_, rfl⟩
        have hx1 := hc1 j (by omega)
        have hy1 := hc2 j (by omega)
        rw [← hx] at hx1
        rw [← hy] at hy1
        have HX := Lib.hid hx
        have HY := Lib.hid hy
        have hlti : (j : Int) < (n : Int) := by omega
        have hltO : (j : Int) < (m : Int) := by omega
        clear hc1 hc2 hx hy
        by_cases he : x = y
        · subst he
          go_wp2
          go_quiet (fail)
          go_wp2
          go_roundw
          case rel => exact ⟨j + 1, _, by omega, by go_num, take_same HT.out (by have := HXL.out; omega) (by have := HYL.out; omega) (by rw [← HX.out, ← HY.out]), rfl⟩
          case measure => simp [intOf]; omega
        · have he1 : (x == y) = false := by simpa using he
          have he2 : (x != y) = true := by simpa using he
          have hfin : common xs ys = j := common_at HT.out (by have := HXL.out; omega) (by have := HYL.out; omega) (.inr (.inr (by rw [← HX.out, ← HY.out]; exact he)))
          have HF := Lib.hid hfin
          clear he hfin
          go_wp2
          go_quiet (fail)
          go_wp2
          go_ret
          exact ⟨by rw [HF.out]; rfl, _, World.drewN_drewN _ _ _⟩
      · obtain rfl : j = n := by omega
        have hfin : common xs ys = j := common_at HT.out HXL.out HYL.out (by rcases HE.out with h | h <;> omega)
        have HF := Lib.hid hfin
        clear hfin
        go_wp2
        go_ret
        exact ⟨by rw [HF.out]; rfl, q, rfl⟩

theorem first_is (a b : Option Addr) (n m cap cap2 : Nat) (xs ys : List Int) (k : Nat) (w : World) (ha : Sl .i64 w a n cap xs) (hb : Sl .i64 w b m cap2 ys) (h : common xs ys = k) :
    Calls Try.prog 84 #[.slice a n cap, .slice b m cap2] w fun e w' => e = .returned (.int .i64 (k : Nat)) ∧ ∃ q, w' = w.drewN q := by
  subst h; exact first_any a b n m cap cap2 xs ys w ha hb

theorem isNaN_any (x : Int) (w : World) : Calls Try.prog 86 #[.int .i64 x] w fun e w' => e = .returned (.bool false) ∧ w = w' := by
  have h1 : (x != x) = false := by simp
  have h2 : (x == x) = true := by simp
  go_enter Try.func86, Try.ntmps86
  go_wp2
  go_ret
  exact ⟨by first | rfl | simp, rfl⟩

theorem cmpI_any (x y : Int) (w : World) : Calls Try.prog 85 #[.int .i64 x, .int .i64 y] w fun e w' => e = .returned (.int .i64 (cmpI x y)) ∧ w = w' := by
  by_cases h1 : x < y
  · have h : cmpI x y = -1 := by unfold cmpI; rw [if_pos h1]
    have H := Lib.hid h
    clear h
    go_enter Try.func85, Try.ntmps85
    go_wp2_with (go_at_call 86; refine (isNaN_any _ _).mono ?_; rintro e w' ⟨rfl, rfl⟩)
    go_ret
    exact ⟨by rw [H.out]; rfl, rfl⟩
  · by_cases h2 : y < x
    · have h : cmpI x y = 1 := by unfold cmpI; rw [if_neg h1, if_pos h2]
      have H := Lib.hid h
      clear h
      go_enter Try.func85, Try.ntmps85
      go_wp2_with (go_at_call 86; refine (isNaN_any _ _).mono ?_; rintro e w' ⟨rfl, rfl⟩)
      go_ret
      exact ⟨by rw [H.out]; rfl, rfl⟩
    · have h : cmpI x y = 0 := by unfold cmpI; rw [if_neg h1, if_neg h2]
      have H := Lib.hid h
      clear h
      go_enter Try.func85, Try.ntmps85
      go_wp2_with (go_at_call 86; refine (isNaN_any _ _).mono ?_; rintro e w' ⟨rfl, rfl⟩)
      go_ret
      exact ⟨by rw [H.out]; rfl, rfl⟩
theorem cmpI_is (x y r : Int) (w : World) (h : cmpI x y = r) : Calls Try.prog 85 #[.int .i64 x, .int .i64 y] w fun e w' => e = .returned (.int .i64 r) ∧ w = w' := by
  subst h; exact cmpI_any x y w

theorem compare_any (a b : Option Addr) (n m cap cap2 : Nat) (xs ys : List Int) (w : World) (ha : Sl .i64 w a n cap xs) (hb : Sl .i64 w b m cap2 ys) :
    Calls Try.prog 82 #[.slice a n cap, .slice b m cap2] w fun e w' => e = .returned (.int .i64 (cmpL xs ys)) ∧ ∃ q, w' = w.drewN q := by
  have hnc := ha.2.1
  have hcm := ha.2.2.1
  unfold maxLen at hcm
  have hmc := hb.2.1
  have hcm2 := hb.2.2.1
  unfold maxLen at hcm2
  have hcc := cmp_common xs ys
  obtain ⟨k, hk⟩ : ∃ k, common xs ys = k := ⟨_, rfl⟩
  have hle := common_le xs ys
  obtain ⟨r, hr⟩ : ∃ r, cmpL xs ys = r := ⟨_, rfl⟩
  rw [hk] at hcc hle
  rw [hr] at hcc ⊢
  have HK := Lib.hid hk
  have HA := Lib.hid ha
  have HB := Lib.hid hb
  rw [ha.1, hb.1] at hle
  by_cases hin : k < n ∧ k < m
  · rw [if_pos (by rw [ha.1, hb.1]; exact hin)] at hcc
    obtain ⟨b1, o1, rfl, _, hc1⟩ := ha.at (by omega)
    obtain ⟨b2, o2, rfl, _, hc2⟩ := hb.at (by omega)
    have hx1 := hc1 k hin.1
    have hy1 := hc2 k hin.2
    obtain ⟨x, hx⟩ : ∃ x, xs.getD k 0 = x := ⟨_, rfl⟩
    obtain ⟨y, hy⟩ : ∃ y, ys.getD k 0 = y := ⟨_, rfl⟩
    rw [hx] at hx1 hcc
    rw [hy] at hy1 hcc
    have HC := Lib.hid hcc.symm
    have h1 : (k : Int) < (n : Int) := by omega
    have h2 : (k : Int) < (m : Int) := by omega
    clear ha hb hk hr hcc hle hin hc1 hc2 hx hy
    go_enter Try.func82, Try.ntmps82
    go_wp2_with (go_at_call 84; refine (first_is _ _ _ _ _ _ _ _ _ _ HA.out HB.out HK.out).mono ?_; rintro e w1 ⟨rfl, q, hq⟩; have hx2 : w1.cell? ⟨b1, o1 + k, none⟩ = some (.int .i64 x) := (by rw [hq]; exact hx1); have hy2 : w1.cell? ⟨b2, o2 + k, none⟩ = some (.int .i64 y) := (by rw [hq]; exact hy1); have HQ := Lib.hid hq; clear hq)
    go_quiet ((go_at_call 85; exact Calls.quiet_of_same ((cmpI_is _ _ _ _ HC.out).mono fun _ _ h => ⟨h.1, h.2.symm⟩)))
    go_wp2
    go_ret
    exact ⟨rfl, q + nq, by rw [HQ.out, World.drewN_drewN]⟩
  · rw [if_neg (by rw [ha.1, hb.1]; exact hin), ha.1, hb.1] at hcc
    have HC := Lib.hid hcc.symm
    have hdd : ¬ k < n ∨ k < n ∧ ¬ k < m := by omega
    clear ha hb hk hr hcc hle hin
    rcases hdd with h1 | ⟨h1, h2⟩
    · go_enter Try.func82, Try.ntmps82
      go_wp2_with (first | (go_at_call 84; refine (first_is _ _ _ _ _ _ _ _ _ _ HA.out HB.out HK.out).mono ?_; rintro e w' ⟨rfl, q, rfl⟩) | (go_at_call 85; refine (cmpI_is _ _ _ _ HC.out).mono ?_; rintro e w' ⟨rfl, rfl⟩))
      go_ret
      exact ⟨rfl, q, rfl⟩
    · go_enter Try.func82, Try.ntmps82
      go_wp2_with (first | (go_at_call 84; refine (first_is _ _ _ _ _ _ _ _ _ _ HA.out HB.out HK.out).mono ?_; rintro e w' ⟨rfl, q, rfl⟩) | (go_at_call 85; refine (cmpI_is _ _ _ _ HC.out).mono ?_; rintro e w' ⟨rfl, rfl⟩))
      go_ret
      exact ⟨rfl, q, rfl⟩
theorem compare_is (a b : Option Addr) (n m cap cap2 : Nat) (xs ys : List Int) (r : Int) (w : World) (ha : Sl .i64 w a n cap xs) (hb : Sl .i64 w b m cap2 ys) (h : cmpL xs ys = r) :
    Calls Try.prog 82 #[.slice a n cap, .slice b m cap2] w fun e w' => e = .returned (.int .i64 r) ∧ ∃ q, w' = w.drewN q := by
  subst h; exact compare_any a b n m cap cap2 xs ys w ha hb

theorem less_is (a b : Option Addr) (n m cap cap2 : Nat) (xs ys : List Int) (r : Bool) (w : World) (ha : Sl .i64 w a n cap xs) (hb : Sl .i64 w b m cap2 ys) (h : lessL xs ys = r) :
    Calls Try.prog 76 #[.slice a n cap, .slice b m cap2] w fun e w' => e = .returned (.bool r) ∧ ∃ q, w' = w.drewN q := by
  have hc := cmp_less xs ys
  obtain ⟨c, hk⟩ : ∃ c, cmpL xs ys = c := ⟨_, rfl⟩
  rw [hk, h] at hc
  have HA := Lib.hid ha
  have HB := Lib.hid hb
  have HK := Lib.hid hk
  clear ha hb hk h
  go_enter Try.func76, Try.ntmps76
  go_wp2_with (go_at_call 82; refine (compare_is _ _ _ _ _ _ _ _ _ _ HA.out HB.out HK.out).mono ?_; rintro e w' ⟨rfl, q, rfl⟩)
  go_ret
  exact ⟨by first | rfl | (rw [← hc]; rfl) | simp [hc], q, rfl⟩

end
section
open Go.RowKit Go.Sort

def cmpR (a b : Rul) : Int := if lessR a b = true then -1 else if lessR b a = true then 1 else 0
theorem cmpR_lt (a b : Rul) : decide (cmpR a b < 0) = lessR a b := by
  unfold cmpR
  cases h : lessR a b
  · cases h' : lessR b a <;> simp
  · simp

theorem Sl.two {k : IntKind} {w : World} {a : Option Addr} {n cap : Nat} {zs : List Int} (h : Sl k w a n cap zs) (o o' : Obj) (q : Nat) : Sl k (((w.alloc o).alloc o').drewN q) a n cap zs := ((h.alloc o).alloc o').drewN q
theorem grow_below {B : Nat} {w : World} (hB : B ≤ w.heap.size) (q : Nat) (os : Array Obj) : Below B w (grow (w.drewN q) os) := by
  refine ⟨rfl, rfl, rfl, ?_, fun i hi => ?_⟩
  · show w.heap.size ≤ (w.heap ++ os).size
    simp
  · show (w.heap ++ os)[i]? = _
    rw [Array.getElem?_append_left (by omega)]
theorem grow_two (w : World) (q1 q2 : Nat) (o1 o2 : Array Obj) : grow ((grow (w.drewN q1) o1).drewN q2) o2 = grow (w.drewN (q1 + q2)) (o1 ++ o2) := by
  have h : (grow (w.drewN q1) o1).drewN q2 = grow (w.drewN (q1 + q2)) o1 := by
    rw [← World.drewN_drewN]; rfl
  rw [h, grow_grow]

theorem lessR_g (x y : Rw) (r : Bool) (w : World) (hx : x.Good w) (hy : y.Good w) (hr : lessR x.r y.r = r) :
    Calls Try.prog 62 #[x.v, y.v] w fun e w' => e = .returned (.bool r) ∧ ∃ q os, w' = grow (w.drewN q) os := by
  obtain ⟨la, ln, lc, L, ra, rn, rc, R, C⟩ := x
  obtain ⟨la', ln', lc', L', ra', rn', rc', R', C'⟩ := y
  obtain ⟨hl, hrr, h0, h1⟩ := hx
  obtain ⟨hl', hrr', h0', h1'⟩ := hy
  have HL := Lib.hid hl
  have HRR := Lib.hid hrr
  have HL' := Lib.hid hl'
  have HRR' := Lib.hid hrr'
  have HW : ∀ (o o' : Obj) (q : Nat), Hid (∃ q' os, ((w.alloc o).alloc o').drewN q = grow (w.drewN q') os) := fun o o' q => ⟨q, #[o, o'], by rw [alloc_eq_grow, alloc_eq_grow, grow_grow]; rfl⟩
  clear hl hrr hl' hrr'
  simp only [Rw.v, Rw.l, Rw.rt, Rw.c]
  change lessR ⟨L, R, C⟩ ⟨L', R', C'⟩ = r at hr
  unfold lessR at hr
  by_cases e1 : L = L'
  · rw [if_pos e1] at hr
    have HD1 := Lib.hid (decide_eq_true e1)
    by_cases e2 : R = R'
    · rw [if_pos e2] at hr
      have HD2 := Lib.hid (decide_eq_true e2)
      have HR := Lib.hid hr
      clear e1 e2 hr
      go_enter Try.func62, Try.ntmps62
      go_wp2_with fail
      refine (sleq_is _ _ _ _ _ _ L L' true _ ((HL.out.alloc _).alloc _) ((HL'.out.alloc _).alloc _) HD1.out).mono ?_
      rintro e w1 ⟨rfl, q1, rfl⟩
      go_wp2_with fail
      refine (sleq_is _ _ _ _ _ _ R R' true _ (HRR.out.two _ _ _) (HRR'.out.two _ _ _) HD2.out).mono ?_
      rintro e w1 ⟨rfl, q2, rfl⟩
      go_wp2
      go_ret
      exact ⟨by rw [← HR.out]; rfl, (HW _ _ _).out⟩
    · rw [if_neg e2] at hr
      have HD2 := Lib.hid (decide_eq_false e2)
      have HR := Lib.hid hr
      clear e1 e2 hr
      go_enter Try.func62, Try.ntmps62
      go_wp2_with fail
      refine (sleq_is _ _ _ _ _ _ L L' true _ ((HL.out.alloc _).alloc _) ((HL'.out.alloc _).alloc _) HD1.out).mono ?_
      rintro e w1 ⟨rfl, q1, rfl⟩
      go_wp2_with fail
      refine (sleq_is _ _ _ _ _ _ R R' false _ (HRR.out.two _ _ _) (HRR'.out.two _ _ _) HD2.out).mono ?_
      rintro e w1 ⟨rfl, q2, rfl⟩
      go_wp2_with fail
      refine (less_is _ _ _ _ _ _ R R' r _ (HRR.out.two _ _ _) (HRR'.out.two _ _ _) HR.out).mono ?_
      rintro e w1 ⟨rfl, q3, rfl⟩
      go_wp2
      go_ret
      exact ⟨rfl, (HW _ _ _).out⟩
  · rw [if_neg e1] at hr
    have HD1 := Lib.hid (decide_eq_false e1)
    have HR := Lib.hid hr
    clear e1 hr
    go_enter Try.func62, Try.ntmps62
    go_wp2_with fail
    refine (sleq_is _ _ _ _ _ _ L L' false _ ((HL.out.alloc _).alloc _) ((HL'.out.alloc _).alloc _) HD1.out).mono ?_
    rintro e w1 ⟨rfl, q1, rfl⟩
    go_wp2_with fail
    refine (less_is _ _ _ _ _ _ L L' r _ (HL.out.two _ _ _) (HL'.out.two _ _ _) HR.out).mono ?_
    rintro e w1 ⟨rfl, q3, rfl⟩
    go_wp2
    go_ret
    exact ⟨rfl, (HW _ _ _).out⟩

theorem lessR_is (x y : Rw) (r : Bool) (w : World) (hx : x.Good w) (hy : y.Good w) (hr : lessR x.r y.r = r) :
    Calls Try.prog 62 #[x.v, y.v] w fun e w' => e = .returned (.bool r) ∧ Below w.heap.size w w' :=
  (lessR_g x y r w hx hy hr).mono fun e w' ⟨h, q, os, h'⟩ => ⟨h, h' ▸ grow_below (Nat.le_refl _) q os⟩

theorem Rw.Good.grow {w : World} {x : Rw} (h : x.Good w) (q : Nat) (os : Array Obj) : x.Good (grow (w.drewN q) os) := h.below (grow_below (Nat.le_refl _) q os) (Nat.le_refl _)

theorem cmpR_is (x y : Rw) (w : World) (hx : x.Good w) (hy : y.Good w) :
    Calls Try.prog 47 #[x.v, y.v] w fun e w' => e = .returned (.int .i64 (cmpR x.r y.r)) ∧ ∃ q os, w' = grow (w.drewN q) os := by
  have HX := Lib.hid hx
  have HY := Lib.hid hy
  have HW : ∀ (o o' : Obj) (q : Nat) (os : Array Obj), Hid (grow (((w.alloc o).alloc o').drewN q) os = grow (w.drewN q) (#[o, o'] ++ os)) := fun o o' q os => by
    have e : ((w.alloc o).alloc o').drewN q = grow (w.drewN q) #[o, o'] := by rw [alloc_eq_grow, alloc_eq_grow, grow_grow]; rfl
    show _ = _
    rw [e, grow_grow]
  have HB : ∀ (o o' : Obj) (q : Nat) (os : Array Obj), Hid (Below w.heap.size w (grow (((w.alloc o).alloc o').drewN q) os)) := fun o o' q os => by
    show Below _ _ _
    rw [(HW o o' q os).out]; exact grow_below (Nat.le_refl _) _ _
  cases h1 : lessR x.r y.r
  · have HC2 : ∀ r, lessR y.r x.r = r → Hid (cmpR x.r y.r = if r = true then 1 else 0) := fun r h => by
      show _ = _
      unfold cmpR; rw [h1, h]; simp
    obtain ⟨r, hr⟩ : ∃ r, lessR y.r x.r = r := ⟨_, rfl⟩
    have HC := HC2 r hr
    have H1 := Lib.hid h1
    have H2 := Lib.hid hr
    clear hx hy h1 hr HC2
    simp only [Rw.v] at *
    go_enter Try.func47, Try.ntmps47
    go_wp2_with fail
    refine (lessR_g x y false _ ((HX.out.alloc _).alloc _) ((HY.out.alloc _).alloc _) H1.out).mono ?_
    rintro e w1 ⟨rfl, q1, os1, hw1⟩
    have hb1 : Below w.heap.size w w1 := by rw [hw1]; exact (HB _ _ _ _).out
    have hc1 : w1.heap[w.heap.size]? = some (.cells #[x.l, x.rt, x.c] 41 (0, 0)) := by
      rw [hw1, heap_grow_old _ _ (by show w.heap.size < ((w.alloc _).alloc _).heap.size; unfold World.alloc; simp; try omega)]
      show ((w.alloc _).alloc _).heap[w.heap.size]? = _
      unfold World.alloc
      simp [Array.getElem?_push]
    have hc2 : w1.heap[w.heap.size + 1]? = some (.cells #[y.l, y.rt, y.c] 41 (0, 0)) := by
      rw [hw1, heap_grow_old _ _ (by show w.heap.size + 1 < ((w.alloc _).alloc _).heap.size; unfold World.alloc; simp; try omega)]
      show ((w.alloc _).alloc _).heap[w.heap.size + 1]? = _
      unfold World.alloc
      rw [Array.getElem?_push]; simp
    have hw1' : w1 = grow (w.drewN q1) (#[Obj.cells #[x.l, x.rt, x.c] 41 (0, 0), Obj.cells #[y.l, y.rt, y.c] 41 (0, 0)] ++ os1) := by rw [hw1]; exact (HW _ _ _ _).out
    have HW1 := Lib.hid hw1'
    have hd1 : w1.cell? ⟨w.heap.size, 0, none⟩ = some x.l := by simp [World.cell?, hc1]
    have hd2 : w1.cell? ⟨w.heap.size, 1, none⟩ = some x.rt := by simp [World.cell?, hc1]
    have hd3 : w1.cell? ⟨w.heap.size, 2, none⟩ = some x.c := by simp [World.cell?, hc1]
    have he1 : w1.cell? ⟨w.heap.size + 1, 0, none⟩ = some y.l := by simp [World.cell?, hc2]
    have he2 : w1.cell? ⟨w.heap.size + 1, 1, none⟩ = some y.rt := by simp [World.cell?, hc2]
    have he3 : w1.cell? ⟨w.heap.size + 1, 2, none⟩ = some y.c := by simp [World.cell?, hc2]
    have HGX : Hid (x.Good w1) := HX.out.below hb1 (Nat.le_refl _)
    have HGY : Hid (y.Good w1) := HY.out.below hb1 (Nat.le_refl _)
    clear hw1 hb1 hc1 hc2 hw1'
    go_wp2_with fail
    refine (lessR_g y x r w1 HGY.out HGX.out H2.out).mono ?_
    rintro e w2 ⟨rfl, q2, os2, hw2⟩
    have HW2 : Hid (∃ q os, w2 = grow (w.drewN q) os) := ⟨_, _, by rw [hw2, HW1.out]; exact grow_two _ _ _ _ _⟩
    clear hw2
    cases r
    · go_wp2
      go_ret
      exact ⟨by rw [HC.out]; rfl, HW2.out⟩
    · go_wp2
      go_ret
      exact ⟨by rw [HC.out]; rfl, HW2.out⟩
  · have hc : cmpR x.r y.r = -1 := by unfold cmpR; rw [h1]; rfl
    have HC := Lib.hid hc
    have H1 := Lib.hid h1
    clear hx hy h1 hc
    simp only [Rw.v] at *
    go_enter Try.func47, Try.ntmps47
    go_wp2_with fail
    refine (lessR_g x y true _ ((HX.out.alloc _).alloc _) ((HY.out.alloc _).alloc _) H1.out).mono ?_
    rintro e w1 ⟨rfl, q1, os1, hw1⟩
    have HW1 : Hid (∃ q os, w1 = grow (w.drewN q) os) := ⟨_, _, by rw [hw1]; exact (HW _ _ _ _).out⟩
    clear hw1
    go_wp2
    go_ret
    exact ⟨by rw [HC.out]; rfl, HW1.out⟩

end
end Go.Proofs.Ytpcebfefbnpbpaa
