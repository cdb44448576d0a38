/- Used by the law. -/
import Derived.Test.YtjmabjeaodojeaaGreatSpecSide
import Derived.Test.YtjmabjeaodojeaaGreatPackB
import Derived.Test.YtjmabjeaodojeaaGreatPackD
import Derived.Test.YtjmabjeaodojeaaGreatSpecRefW
namespace Go.Proofs.YtjmabjeaodojeaaGreat
open Go.RowKit

theorem all_ruls {xs : List Rw} {j : Nat} {r : Rul} (h : j < xs.length) (hr : (xs.getD j Rw.no).r = r) : (ruls xs).take (j + 1) = (ruls xs).take j ++ [r] := by
  have hl : j < (ruls xs).length := by rw [ruls_length]; exact h
  rw [List.take_succ_eq_append_getElem hl]
  congr 2
  have := ruls_at xs j
  rw [hr] at this
  rw [← this, List.getD_eq_getElem?_getD, List.getElem?_eq_getElem hl, Option.getD_some]

set_option maxRecDepth 100000 in
set_option maxHeartbeats 3200000 in
theorem allFit_is (a : Option Addr) (n cap : Nat) (xs : List Rw) (ok : Bool) (w : World) (hs : Rs w a n cap xs) (hok : (ruls xs).all Spec.fit = ok) :
    Calls Tryz.prog 38 #[.slice a n cap] w fun e w' => e = .returned (.bool ok) ∧ Below w.heap.size w w' := by
  have hnc := hs.2.1
  have hcm := hs.2.2.1
  unfold maxLen at hcm
  have HS := Lib.hid hs
  have HXN := Lib.hid hs.1
  have HOK := Lib.hid hok
  clear hs hok
  go_enter Tryz.func38, Tryz.ntmps38
  go_wp2
  go_loopw [7] (fun ix wr => ∃ j : Nat, j ≤ n ∧ ix = .int .i64 (j : Int) ∧ Hid (((ruls xs).take j).all Spec.fit = true) ∧ Hid (Below w.heap.size w wr)) (fun ix _ => n - (intOf ix).toNat)
  case atStart => exact ⟨0, Nat.zero_le _, rfl, by first | rfl | trivial, Below.refl _ _⟩
  case round =>
    obtain ⟨j, hj, rfl, HALL, HBW⟩ := hrel
    by_cases hlt : j < n
    · obtain ⟨b1, o1, la, ln, lc, LL, ra, rn, rc, RR, C, rfl, hb1, hx1, hx2, hx3, hsl, hsr, hC0, hC1, hz1⟩ := HS.out.one j hlt
      have hB := HBW.out
      have hx1' : wr.cell? ⟨b1, o1 + j * 3, none⟩ = some (.slice la ln lc) := by rw [hB.cell (p := ⟨b1, o1 + j * 3, none⟩) hb1]; exact hx1
      have hx2' : wr.cell? ⟨b1, o1 + j * 3 + 1, none⟩ = some (.slice ra rn rc) := by rw [hB.cell (p := ⟨b1, o1 + j * 3 + 1, none⟩) hb1]; exact hx2
      have hx3' : wr.cell? ⟨b1, o1 + j * 3 + 2, none⟩ = some (.int .u64 C) := by rw [hB.cell (p := ⟨b1, o1 + j * 3 + 2, none⟩) hb1]; exact hx3
      have HGX : Hid ((⟨la, ln, lc, LL, ra, rn, rc, RR, C⟩ : Rw).Good wr) := Rw.Good.below (w := w) ⟨hsl, hsr, hC0, hC1⟩ hB (Nat.le_refl _)
      have HT : Hid ((ruls xs).take (j + 1) = (ruls xs).take j ++ [⟨LL, RR, C⟩]) := all_ruls (by rw [HXN.out]; exact hlt) (by rw [hz1]; rfl)
      have HJ : Hid (j < (ruls xs).length) := by show j < _; rw [ruls_length, HXN.out]; exact hlt
      have hlti : (j : Int) < (n : Int) := by omega
      have HBS : Hid (w.heap.size ≤ wr.heap.size) := hB.size
      obtain ⟨q, hq⟩ : ∃ b, Spec.fit ⟨LL, RR, C⟩ = b := ⟨_, rfl⟩
      have HQ := Lib.hid hq
      clear hsl hsr hz1 hq hx1 hx2 hx3 hB
      go_wp2_with fail
      refine (fit7_is ⟨la, ln, lc, LL, ra, rn, rc, RR, C⟩ q _ (HGX.out.alloc _) HQ.out).mono ?_
      rintro e w1 ⟨rfl, hb1w⟩
      have HB1 : Hid (Below w.heap.size w w1) := (HBW.out.alloc HBS.out _).trans (hb1w.mono (by simp; have := HBS.out; omega))
      clear hb1w
      cases q
      · obtain rfl : ok = false := by
          rw [← HOK.out, List.all_eq_false]
          refine ⟨⟨LL, RR, C⟩, ?_, by rw [HQ.out]; decide⟩
          have : (⟨LL, RR, C⟩ : Rul) ∈ (ruls xs).take (j + 1) := by rw [HT.out]; simp
          exact List.mem_of_mem_take this
        go_wp2
        go_ret
        exact ⟨rfl, HB1.out⟩
      · go_wp2
        go_roundw
        case rel =>
          refine ⟨j + 1, by omega, by go_num, ?_, HB1.out⟩
          show _ = _
          rw [HT.out, List.all_append, HALL.out]; simp [HQ.out]
        case measure => simp [intOf]; omega
    · obtain rfl : j = n := by omega
      obtain rfl : ok = true := by
        rw [← HOK.out, ← HALL.out, List.take_of_length_le (by rw [ruls_length, HXN.out]; exact Nat.le_refl _)]
      go_wp2
      go_ret
      exact ⟨rfl, HBW.out⟩

set_option maxHeartbeats 1600000 in
set_option maxRecDepth 100000 in
theorem field_is (a : Option Addr) (n cap : Nat) (l f : List Int) (w : World) (hs : Sl .i64 w a n cap l) (hn : n ≤ 1000000) (hg : Utf.allGood l = true) (hf : Spec.field l = f) :
    Calls Tryz.prog 52 #[.slice a n cap] w fun e w' => FieldIs w w' e f := by
  have hl := hs.1
  have HS := Lib.hid hs
  have HG := Lib.hid hg
  unfold Spec.field at hf
  clear hs hg
  by_cases h0 : l = []
  · rw [if_pos h0] at hf
    subst hf
    subst h0
    obtain rfl : n = 0 := by simpa using hl.symm
    go_enter Tryz.func52, Tryz.ntmps52
    go_wp2
    go_ret
    exact ⟨_, 1, 1, rfl, rfl, Sl.lay [95] (by decide) (by unfold maxLen; simp) rfl rfl rfl, (Below.refl _ w).alloc (Nat.le_refl _) _⟩
  · rw [if_neg h0] at hf
    have hp : 0 < l.length := List.length_pos_iff.2 h0
    have hni : ¬ (n : Int) = 0 := by omega
    have HF := Lib.hid hf
    clear hf h0
    go_enter Tryz.func52, Tryz.ntmps52
    go_wp2_with fail
    refine (put_ok a n cap l w HS.out (by omega) HG.out).mono ?_
    rintro e w1 ⟨g, c, rfl, hs1, hb⟩
    go_wp2
    go_ret
    exact ⟨_, _, c, rfl, by rw [HF.out], by rw [← HF.out]; exact hs1, hb⟩

end Go.Proofs.YtjmabjeaodojeaaGreat
