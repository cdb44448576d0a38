import Derived.Test.YtpcebfefbnpbpaaPackA
import Derived.Test.YtpcebfefbnpbpaaRuleRef
set_option linter.all false
set_option maxRecDepth 100000
set_option maxHeartbeats 12800000
namespace Go.Proofs.Ytpcebfefbnpbpaa
open Go.RowKit

def plainB (c : Int) : Bool := decide (c ≠ 9) && decide (c ≠ 10) && decide (c ≠ 32)
theorem plain_all {l : List Int} : Spec.plain l = (l.all plainB && !decide (l = [95])) := rfl

theorem rplain_is (a : Option Addr) (n cap : Nat) (l : List Int) (r : Bool) (w : World) (hs : Sl .i64 w a n cap l) (hr : Spec.plain l = r) :
    Calls Try.prog 40 #[.slice a n cap] w fun e w' => e = .returned (.bool r) ∧ w = w' := by
  have hnc := hs.2.1
  have hcm := hs.2.2.1
  unfold maxLen at hcm
  have HS := Lib.hid hs
  have HL := Lib.hid hs.1
  rw [plain_all] at hr
  have HR := Lib.hid hr
  clear hs hr
  go_enter Try.func40, Try.ntmps40
  go_wp2
  go_loopw [3] (fun ix wr => ∃ i : Nat, i ≤ n ∧ ix = .int .i64 (i : Int) ∧ Hid (∀ z ∈ l.take i, plainB z = true) ∧ wr = w) (fun ix _ => n - (intOf ix).toNat)
  case atStart => exact ⟨0, Nat.zero_le _, rfl, by first | trivial | (intro z hz; simp at hz), rfl⟩
  case round =>
    obtain ⟨i, hi, rfl, HT, rfl⟩ := hrel
    by_cases hlt : i < n
    · have hlti : (i : Int) < (n : Int) := by omega
      obtain ⟨b1, o1, rfl, hb1, hc1⟩ := HS.out.at (by omega)
      obtain ⟨x, hx⟩ : ∃ x, x = l.getD i 0 := ⟨_, rfl⟩
      have hx1 := hc1 i hlt
      rw [← hx] at hx1
      have hxm : x ∈ l := by rw [hx, List.getD_eq_getElem?_getD, List.getElem?_eq_getElem (by rw [HL.out]; exact hlt), Option.getD_some]; exact List.getElem_mem _
      have HXM := Lib.hid hxm
      have HX := Lib.hid hx
      have hbad : plainB x = false → r = false := fun h => by
        rw [← HR.out, Bool.and_eq_false_iff]; left
        rw [List.all_eq_false]; exact ⟨x, HXM.out, by rw [h]; decide⟩
      have HBAD := Lib.hid hbad
      clear hc1 hx hxm hb1 hbad
      by_cases h9 : x = 9
      · have e9 : (x == 9) = true := by simpa using h9
        obtain rfl := HBAD.out (by rw [h9]; decide)
        clear h9
        go_wp2
        go_ret
        exact ⟨rfl, rfl⟩
      · have e9 : (x == 9) = false := by simpa using h9
        by_cases h10 : x = 10
        · have e10 : (x == 10) = true := by simpa using h10
          obtain rfl := HBAD.out (by rw [h10]; decide)
          clear h9 h10
          go_wp2
          go_ret
          exact ⟨rfl, rfl⟩
        · have e10 : (x == 10) = false := by simpa using h10
          by_cases h32 : x = 32
          · have e32 : (x == 32) = true := by simpa using h32
            obtain rfl := HBAD.out (by rw [h32]; decide)
            clear h9 h10 h32
            go_wp2
            go_ret
            exact ⟨rfl, rfl⟩
          · have e32 : (x == 32) = false := by simpa using h32
            have HP : Hid (plainB x = true) := by show _ = _; simp [plainB, h9, h10, h32]
            clear h9 h10 h32
            go_wp2
            go_roundw
            case rel =>
              refine ⟨i + 1, by omega, by go_num, ?_, by first | rfl | trivial⟩
              intro z hz
              rw [List.take_succ_eq_append_getElem (by rw [HL.out]; exact hlt)] at hz
              rcases List.mem_append.1 hz with hz | hz
              · exact HT.out z hz
              · rw [List.mem_singleton.1 hz]
                have h := HX.out
                rw [List.getD_eq_getElem?_getD, List.getElem?_eq_getElem (by rw [HL.out]; exact hlt), Option.getD_some] at h
                rw [← h]; exact HP.out
            case measure => simp [intOf]; omega
    · obtain rfl : i = n := by omega
      have hall : l.all plainB = true := by
        rw [List.all_eq_true]
        intro z hz
        exact HT.out z (by rw [List.take_of_length_le (by rw [HL.out]; exact Nat.le_refl _)]; exact hz)
      have hr2 : (!decide (l = [95])) = r := by rw [← HR.out, hall]; rfl
      have HR2 := Lib.hid hr2
      clear hall hr2
      by_cases h1 : i = 1
      · subst h1
        obtain ⟨b1, o1, rfl, hb1, hc1⟩ := HS.out.at (by omega)
        have hx1 := hc1 0 (by omega)
        obtain ⟨x, hx⟩ : ∃ x, l = [x] := by
          match l, HL.out with
          | [x], _ => exact ⟨x, rfl⟩
        subst hx
        have hx2 : wr.cell? ⟨b1, o1, none⟩ = some (.int .i64 x) := hx1
        have hxr : (x != 95) = r := by
          rw [← HR2.out]
          by_cases h : x = 95
          · subst h; rfl
          · simp [h]
        clear hc1 hb1
        go_wp2
        go_ret
        exact ⟨by rw [← hxr]; rfl, rfl⟩
      · have e1 : ((i : Int) != 1) = true := by simp; omega
        obtain rfl : r = true := by
          rw [← HR2.out]
          have : l ≠ [95] := fun h => h1 (by rw [← HL.out, h]; rfl)
          simp [this]
        go_wp2
        go_ret
        exact ⟨rfl, rfl⟩

theorem rfit_is (x : Rw) (r : Bool) (w : World) (hx : x.Good w) (hr : Spec.fit x.r = r) :
    Calls Try.prog 27 #[x.v] w fun e w' => e = .returned (.bool r) ∧ Below w.heap.size w w' := by
  obtain ⟨la, ln, lc, L, ra, rn, rc, R, C⟩ := x
  have HX := Lib.hid hx
  obtain ⟨ck, hck⟩ : ∃ b, chk ⟨L, R, C⟩ = b := ⟨_, rfl⟩
  obtain ⟨pl, hpl⟩ : ∃ b, Spec.plain L = b := ⟨_, rfl⟩
  obtain ⟨pr, hpr⟩ : ∃ b, Spec.plain R = b := ⟨_, rfl⟩
  have hrr : (ck && pl && pr) = r := by
    rw [← hr, ← hck, ← hpl, ← hpr]; rfl
  have HCK := Lib.hid hck
  have HPL := Lib.hid hpl
  have HPR := Lib.hid hpr
  have HRR := Lib.hid hrr
  have HB : ∀ o, Hid (Below w.heap.size w (w.alloc o)) := fun o => (Below.refl _ w).alloc (Nat.le_refl _) o
  clear hx hck hpl hpr hrr hr
  simp only [Rw.v, Rw.l, Rw.rt, Rw.c]
  go_enter Try.func27, Try.ntmps27
  go_wp2_with fail
  refine (rcheck_is ⟨la, ln, lc, L, ra, rn, rc, R, C⟩ ck _ (HX.out.alloc _) HCK.out).mono ?_
  rintro e w1 ⟨rfl, hb1⟩
  have hf1 : w1.heap[w.heap.size]? = some (.cells #[.slice la ln lc, .slice ra rn rc, .int .u64 C] 41 (0, 0)) := by
    rw [hb1.block _ (by unfold World.alloc; simp)]
    unfold World.alloc; simp
  have hc0 : w1.cell? ⟨w.heap.size, 0, none⟩ = some (.slice la ln lc) := by simp [World.cell?, hf1]
  have hc1 : w1.cell? ⟨w.heap.size, 1, none⟩ = some (.slice ra rn rc) := by simp [World.cell?, hf1]
  have HB1 : Hid (Below w.heap.size w w1) := (HB _).out.trans (hb1.mono (by simp))
  have HG1 : Hid (Rw.Good w1 ⟨la, ln, lc, L, ra, rn, rc, R, C⟩) := (HX.out.alloc _).below hb1 (Nat.le_refl _)
  clear hb1 hf1
  go_wp2_with fail
  refine (rplain_is la ln lc L pl w1 HG1.out.1 HPL.out).mono ?_
  rintro e w2 ⟨rfl, rfl⟩
  go_wp2_with fail
  refine (rplain_is ra rn rc R pr w1 HG1.out.2.1 HPR.out).mono ?_
  rintro e w2 ⟨rfl, rfl⟩
  cases ck
  · go_wp2
    go_ret
    exact ⟨by rw [← HRR.out]; rfl, HB1.out⟩
  · cases pl
    · go_wp2
      go_ret
      exact ⟨by rw [← HRR.out]; rfl, HB1.out⟩
    · go_wp2
      go_ret
      exact ⟨by rw [← HRR.out]; rfl, HB1.out⟩

end Go.Proofs.Ytpcebfefbnpbpaa
