import Derived.Test.YtimjdlbhbiklgaaPackA
import Derived.Test.YtimjdlbhbiklgaaPackK
import Derived.Test.YtimjdlbhbiklgaaPackJ
import Derived.Shelf.Spec.SlicesInsertGrow
import Derived.Deep.AppendLies
import Derived.Test.YtimjdlbhbiklgaaPackB
/- Used by the law. -/
namespace Go.Proofs.Ytimjdlbhbiklgaa
open Go.RowKit

set_option maxRecDepth 100000 in
set_option maxHeartbeats 1600000 in
theorem isNone_is (n : Int) (r : Bool) (w : World) (h0 : -9223372036854775808 ≤ n) (h1 : n ≤ 9223372036854775807) (hr : Wl.may n = !r) :
    Calls Try.prog 87 #[.int .i64 n] w fun e w' => e = .returned (.bool r) ∧ w' = w := by
  unfold Wl.may at hr
  by_cases a : n = 9
  · subst a
    obtain rfl : r = true := by simpa using hr
    go_enter Try.func87, Try.ntmps87
    go_wp2
    go_ret
    exact ⟨rfl, rfl⟩
  · by_cases b : n = 10
    · subst b
      obtain rfl : r = true := by simpa using hr
      go_enter Try.func87, Try.ntmps87
      go_wp2
      go_ret
      exact ⟨rfl, rfl⟩
    · by_cases c : n = 32
      · subst c
        obtain rfl : r = true := by simpa using hr
        go_enter Try.func87, Try.ntmps87
        go_wp2
        go_ret
        exact ⟨rfl, rfl⟩
      · have hg : Utf.good n = !r := by simpa [a, b, c] using hr
        have ea : (n == 9) = false := by simpa using a
        have eb : (n == 10) = false := by simpa using b
        have ec : (n == 32) = false := by simpa using c
        cases r
        · go_enter Try.func87, Try.ntmps87
          go_wp2_with (go_at_call 52; refine (good_any n _ h0 h1).mono ?_; rintro e w' ⟨rfl, rfl⟩; rw [hg])
          go_ret
          exact ⟨rfl, rfl⟩
        · go_enter Try.func87, Try.ntmps87
          go_wp2_with (go_at_call 52; refine (good_any n _ h0 h1).mono ?_; rintro e w' ⟨rfl, rfl⟩; rw [hg])
          go_ret
          exact ⟨rfl, rfl⟩

theorem all_at {p : Int → Bool} {l : List Int} {j : Nat} (h : (l.take j).all p = true) (hj : j < l.length) (hz : p (l.getD j 0) = true) : (l.take (j + 1)).all p = true := by
  rw [List.take_succ_eq_append_getElem hj, List.all_append, h]
  simp only [List.getD_eq_getElem?_getD, List.getElem?_eq_getElem hj, Option.getD_some] at hz
  simp [hz]
set_option maxRecDepth 100000 in
theorem all_not {p : Int → Bool} {l : List Int} {j : Nat} (hj : j < l.length) (hz : p (l.getD j 0) = false) : l.all p = false := by
  rw [List.all_eq_false]
  simp only [List.getD_eq_getElem?_getD, List.getElem?_eq_getElem hj, Option.getD_some] at hz
  exact ⟨_, List.getElem_mem hj, by rw [hz]; decide⟩

set_option maxRecDepth 100000 in
set_option maxHeartbeats 3200000 in
theorem indexNone_is (a : Option Addr) (n cap : Nat) (zs : List Int) (r : Bool) (w : World) (hs : Sl .i64 w a n cap zs) (hr : zs.all Wl.may = !r) :
    Calls Try.prog 109 #[.slice a n cap, .func (.func 87) #[] #[]] w fun e w' => ∃ k : Int, e = .returned (.int .i64 k) ∧ decide (0 ≤ k) = r ∧ w' = w := by
  have hl := hs.1
  have hnc := hs.2.1
  have hcm := hs.2.2.1
  unfold maxLen at hcm
  have HS := Lib.hid hs
  have HR := Lib.hid hr
  have HL := Lib.hid hl
  clear hs hr hl
  go_enter Try.func109, Try.ntmps109
  go_wp2
  go_loopw [8] (fun ix wr => ∃ j : Nat, j ≤ n ∧ ix = .int .i64 (j : Int) ∧ Hid ((zs.take j).all Wl.may = true) ∧ wr = w) (fun ix _ => n - (intOf ix).toNat)
  case atStart => exact ⟨0, Nat.zero_le _, rfl, by first | rfl | trivial, rfl⟩
  case round =>
    obtain ⟨j, hj, rfl, HT, rfl⟩ := hrel
    by_cases hlt : j < n
    · obtain ⟨b, off, rfl, hb, hc⟩ := HS.out.at (by omega)
      have hx := hc j hlt
      have hwf := HS.out.2.2.2.1 (zs.getD j 0) (by rw [List.getD_eq_getElem?_getD, List.getElem?_eq_getElem (by rw [HL.out]; exact hlt), Option.getD_some]; exact List.getElem_mem _)
      obtain ⟨z, hz⟩ : ∃ z, zs.getD j 0 = z := ⟨_, rfl⟩
      rw [hz] at hx hwf
      obtain ⟨q, hq⟩ : ∃ q, Wl.may z = !q := ⟨!Wl.may z, by simp⟩
      have hb0 : -9223372036854775808 ≤ z ∧ z ≤ 9223372036854775807 := by
        simp [Lit.wf, IntKind.min, IntKind.max, IntKind.signed, IntKind.bits] at hwf
        omega
      have HB0 := Lib.hid hb0
      have HZ := Lib.hid hz
      have HQ := Lib.hid hq
      have hlti : (j : Int) < (n : Int) := by omega
      clear hc hz hq hwf hb0
      cases q
      · go_wp2_with (refine (isNone_is z false _ HB0.out.1 HB0.out.2 HQ.out).mono ?_; rintro e w1 ⟨rfl, rfl⟩)
        go_roundw
        case rel => exact ⟨j + 1, by omega, by go_num, all_at HT.out (by rw [HL.out]; exact hlt) (by rw [HZ.out]; exact HQ.out), trivial⟩
        case measure => simp [intOf]; omega
      · have HF : Hid (zs.all Wl.may = false) := all_not (by rw [HL.out]; exact hlt) (by rw [HZ.out]; exact HQ.out)
        go_wp2_with (refine (isNone_is z true _ HB0.out.1 HB0.out.2 HQ.out).mono ?_; rintro e w1 ⟨rfl, rfl⟩)
        go_ret
        refine ⟨(j : Int), rfl, ?_, rfl⟩
        have h := HR.out
        rw [HF.out] at h
        have : r = true := by simpa using h.symm
        rw [this]; simp
    · obtain rfl : j = n := by omega
      have HA : Hid (zs.all Wl.may = true) := by
        have h := HT.out
        rw [List.take_of_length_le (by rw [HL.out]; exact Nat.le_refl _)] at h
        exact h
      go_wp2
      go_ret
      refine ⟨-1, rfl, ?_, rfl⟩
      have h := HR.out
      rw [HA.out] at h
      have : r = false := by simpa using h.symm
      rw [this]; decide

set_option maxRecDepth 100000 in
set_option maxHeartbeats 1600000 in
theorem containsNone_is (a : Option Addr) (n cap : Nat) (zs : List Int) (r : Bool) (w : World) (hs : Sl .i64 w a n cap zs) (hr : zs.all Wl.may = !r) :
    Calls Try.prog 86 #[.slice a n cap, .func (.func 87) #[] #[]] w fun e w' => e = .returned (.bool r) ∧ w' = w := by
  go_enter Try.func86, Try.ntmps86
  go_wp2_with (go_at_call 109; refine (indexNone_is a n cap zs r _ hs hr).mono ?_; rintro e w' ⟨k, rfl, hk, rfl⟩)
  go_ret
  exact ⟨rfl, rfl⟩

set_option maxHeartbeats 3200000 in
set_option maxRecDepth 100000 in
theorem wfit_is (a : Option Addr) (n cap : Nat) (zs : List Int) (r : Bool) (w : World) (hs : Sl .i64 w a n cap zs) (hr : Wl.fit zs = r) :
    Calls Try.prog 78 #[.slice a n cap] w fun e w' => e = .returned (.bool r) ∧ w' = w := by
  have hl := hs.1
  have hnc := hs.2.1
  have hcm := hs.2.2.1
  unfold maxLen at hcm
  unfold Wl.fit at hr
  rw [hl] at hr
  have HS := Lib.hid hs
  rcases Nat.eq_zero_or_pos n with h0 | hp
  · subst h0
    obtain rfl : r = false := by rw [← hr]; rfl
    clear hs
    go_enter Try.func78, Try.ntmps78
    go_wp2
    go_ret
    exact ⟨rfl, rfl⟩
  · have hn0 : ((n : Int) == 0) = false := by simp; omega
    by_cases h20 : 20 < n
    · obtain rfl : r = false := by rw [← hr]; simp [show ¬ n ≤ 20 by omega]
      have h20i : (20 : Int) < (n : Int) := by omega
      clear hs hr
      go_enter Try.func78, Try.ntmps78
      go_wp2
      go_ret
      exact ⟨rfl, rfl⟩
    · obtain ⟨b, off, rfl, hb, hc⟩ := hs.at hp
      have hx : w.cell? ⟨b, off, none⟩ = some (.int .i64 (zs.getD 0 0)) := hc 0 hp
      obtain ⟨z, hz⟩ : ∃ z, zs.getD 0 0 = z := ⟨_, rfl⟩
      rw [hz] at hx hr
      have h20i : ¬ (20 : Int) < (n : Int) := by omega
      have h0i : (0 : Int) < (n : Int) := by omega
      have hr2 : (zs.all Wl.may && !decide (z = 35)) = r := by
        rw [← hr]; simp [show 1 ≤ n by omega, show n ≤ 20 by omega]
      clear hs hr hc hz
      by_cases hh : z = 35
      · subst hh
        obtain rfl : r = false := by rw [← hr2]; simp
        clear hr2
        go_enter Try.func78, Try.ntmps78
        go_wp2
        go_ret
        exact ⟨rfl, rfl⟩
      · have hzz : (z == 35) = false := by simpa using hh
        have hr3 : zs.all Wl.may = r := by rw [← hr2, decide_eq_false hh]; simp
        have HR3 : Hid (zs.all Wl.may = !(!r)) := by show _ = _; rw [Bool.not_not]; exact hr3
        clear hr2 hr3 hh
        go_enter Try.func78, Try.ntmps78
        go_wp2_with (go_at_call 86; refine (containsNone_is (some ⟨b, off, none⟩) n cap zs (!r) _ HS.out HR3.out).mono ?_; rintro e w' ⟨rfl, rfl⟩)
        go_ret
        first | exact ⟨rfl, rfl⟩ | exact ⟨by simp, rfl⟩

theorem nums_step {xs : List Wd} {j : Nat} {z : List Int} (hj : j < xs.length) (hz : (nums xs).getD j [] = z) : (nums xs).take (j + 1) = (nums xs).take j ++ [z] := by
  have hl : j < (nums xs).length := by rw [nums_length]; exact hj
  rw [List.take_succ_eq_append_getElem hl]
  congr 2
  rw [← hz, List.getD_eq_getElem?_getD, List.getElem?_eq_getElem hl, Option.getD_some]

set_option maxRecDepth 100000 in
set_option maxHeartbeats 3200000 in
theorem wallFit_is (a : Option Addr) (n cap : Nat) (xs : List Wd) (r : Bool) (w : World) (hs : Ws w a n cap xs) (hr : (nums xs).all Wl.fit = r) :
    Calls Try.prog 63 #[.slice a n cap] w fun e w' => e = .returned (.bool r) ∧ w' = w := by
  have hnc := hs.2.1
  have hcm := hs.2.2.1
  unfold maxLen at hcm
  have HS := Lib.hid hs
  have HR := Lib.hid hr
  have HL := Lib.hid hs.1
  clear hs hr
  go_enter Try.func63, Try.ntmps63
  go_wp2
  go_loopw [7] (fun ix wr => ∃ j : Nat, j ≤ n ∧ ix = .int .i64 (j : Int) ∧ Hid (((nums xs).take j).all Wl.fit = true) ∧ wr = w) (fun ix _ => n - (intOf ix).toNat)
  case atStart => exact ⟨0, Nat.zero_le _, rfl, by first | rfl | trivial, rfl⟩
  case round =>
    obtain ⟨j, hj, rfl, HT, rfl⟩ := hrel
    by_cases hlt : j < n
    · obtain ⟨b1, o1, a1, n1, c1, z1, rfl, hb1, hx, hc, hs1, hz1⟩ := HS.out.one j hlt
      have HS1 := Lib.hid hs1
      have HZ : Hid ((nums xs).take (j + 1) = (nums xs).take j ++ [z1]) := nums_step (by rw [HL.out]; exact hlt) hz1
      have hlti : (j : Int) < (n : Int) := by omega
      obtain ⟨q, hq⟩ : ∃ q, Wl.fit z1 = q := ⟨_, rfl⟩
      have HQ := Lib.hid hq
      clear hx hs1 hz1 hq
      cases q
      · obtain rfl : r = false := by
          rw [← HR.out, List.all_eq_false]
          refine ⟨z1, ?_, by rw [HQ.out]; decide⟩
          have : z1 ∈ (nums xs).take (j + 1) := by rw [HZ.out]; simp
          exact List.mem_of_mem_take this
        go_wp2_with (go_at_call 78; refine (wfit_is a1 n1 c1 z1 false _ HS1.out HQ.out).mono ?_; rintro e w1 ⟨rfl, rfl⟩)
        go_ret
        exact ⟨rfl, rfl⟩
      · go_wp2_with (go_at_call 78; refine (wfit_is a1 n1 c1 z1 true _ HS1.out HQ.out).mono ?_; rintro e w1 ⟨rfl, rfl⟩)
        go_roundw
        case rel =>
          refine ⟨j + 1, by omega, by go_num, ?_, trivial⟩
          show _ = _
          rw [HZ.out, List.all_append, HT.out]; simp [HQ.out]
        case measure => simp [intOf]; omega
    · obtain rfl : j = n := by omega
      obtain rfl : r = true := by
        rw [← HR.out, ← HT.out, List.take_of_length_le (by rw [nums_length, HL.out]; exact Nat.le_refl _)]
      go_wp2
      go_ret
      exact ⟨rfl, rfl⟩

end Go.Proofs.Ytimjdlbhbiklgaa

/- Used by the law. -/
namespace Go.Proofs.Ytimjdlbhbiklgaa
open Go Go.RowKit Go.Lib

end Go.Proofs.Ytimjdlbhbiklgaa
