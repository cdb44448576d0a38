/- walked, of layer 11's laws: over the program's Step. -/
import Derived.Test.YtgbiobhladeooaaPackX
import Derived.Test.YtgbiobhladeooaaPackA
namespace Go.Proofs.Ytgbiobhladeooaa
open Go.RowKit Tri

set_option maxRecDepth 100000 in
theorem step_wf11 {w : World} {a : Option Addr} {n cap : Nat} {xs : List Sw} (h : Ss w a n cap xs) (f s : Int) : (Lit.int .i64 (Tri.step (sts xs) f s).1).wf = true := by
  unfold Tri.step
  split
  · decide
  · cases hf : ((sts xs).getD f.toNat St.no).arcs.find? fun a => decide (a.1 = s) with
    | none => decide
    | some x =>
      have hm := List.mem_of_find?_eq_some hf
      rw [sts_at] at hm
      exact ((h.good f.toNat).2.2.2.1 x hm).2
set_option maxRecDepth 100000 in
theorem drop_one11 {l : List Int} {i : Nat} {z : Int} (h : i < l.length) (hz : l.getD i 0 = z) : l.drop i = z :: l.drop (i + 1) := by
  rw [List.drop_eq_getElem_cons h, ← hz]; simp [h]
/-- what walked answers -/
def walkV11 (n : Nat) : Option Int → Value
  | some k => .tuple #[.int .i64 k, .bool (decide (0 < n))]
  | none => .tuple #[.int .i64 0, .bool false]

set_option maxRecDepth 100000 in
set_option maxHeartbeats 1600000 in
theorem walked11_is (a b : Option Addr) (n m cap cap2 : Nat) (xs : List Sw) (zs : List Int) (r : Option Int) (w : World) (ha : Ss w a n cap xs) (hb : Sl .i64 w b m cap2 zs) (hr : Tri.walk (sts xs) 0 zs = r) :
    Calls Try.prog 17 #[.slice a n cap, .slice b m cap2] w fun e w' => e = .returned (walkV11 n r) ∧ Below w.heap.size w w' := by
  have hnc := ha.2.1
  have hcm := ha.2.2.1
  have hmc := hb.2.1
  have hcm2 := hb.2.2.1
  unfold maxLen at hcm hcm2
  have HA := Lib.hid ha
  have HB := Lib.hid hb
  have HZL := Lib.hid hb.1
  have HR := Lib.hid hr
  clear ha hb hr
  go_enter Try.func17, Try.ntmps17
  go_wp2
  go_loopw [6, 7] (fun pv ix wr => ∃ (i : Nat) (p : Int), i ≤ m ∧ pv = .int .i64 p ∧ ix = .int .i64 (i : Int) ∧ Hid ((Lit.int .i64 p).wf = true) ∧ Hid (Tri.walk (sts xs) p (zs.drop i) = r) ∧ Hid (Below w.heap.size w wr)) (fun _ ix _ => m - (intOf ix).toNat)
  case atStart => exact ⟨0, 0, Nat.zero_le _, rfl, rfl, (by decide : (Lit.int .i64 0).wf = true), HR.out, Below.refl _ _⟩
  case round =>
    obtain ⟨i, p, hi, rfl, rfl, HPW, HWK, HQ⟩ := hrel
    by_cases hlt : i < m
    · obtain ⟨b1, o1, rfl, hb1, hc1⟩ := (HB.out.below HQ.out (Nat.le_refl _)).at (by omega)
      obtain ⟨z, hz⟩ : ∃ z, zs.getD i 0 = z := ⟨_, rfl⟩
      have hx1 := hc1 i hlt
      rw [hz] at hx1
      have hlti : (i : Int) < (m : Int) := by omega
      have hwk := HWK.out
      rw [drop_one11 (by rw [HZL.out]; exact hlt) hz, Tri.walk] at hwk
      obtain ⟨⟨to, is⟩, hst⟩ : ∃ s, Tri.step (sts xs) p z = s := ⟨_, rfl⟩
      rw [hst] at hwk
      have HST := Lib.hid hst
      have HW2 := Lib.hid hwk
      have HTW : Hid ((Lit.int .i64 to).wf = true) := by have h := step_wf11 HA.out p z; rw [hst] at h; exact h
      clear hc1 hb1 hz hst hwk
      go_wp2_with fail
      refine (tstep_is a n cap xs p z _ wr (HA.out.below HQ.out (Nat.le_refl _)) HPW.out HST.out).mono ?_
      rintro e w1 ⟨rfl, hq1⟩
      have HQ1 : Hid (Below w.heap.size w w1) := HQ.out.trans (hq1.mono HQ.out.size)
      clear hq1
      simp only []
      cases is
      · obtain rfl : r = none := by rw [← HW2.out]; rfl
        go_wp2
        go_ret2
        exact ⟨rfl, HQ1.out⟩
      · have HW3 : Hid (Tri.walk (sts xs) to (zs.drop (i + 1)) = r) := by show _ = _; rw [← HW2.out]; rfl
        go_wp2
        go_roundw
        case rel => exact ⟨i + 1, to, by omega, rfl, by go_num, HTW.out, HW3.out, HQ1.out⟩
        case measure => simp [intOf]; omega
    · obtain rfl : r = some p := by
        rw [← HWK.out, List.drop_eq_nil_of_le (by rw [HZL.out]; omega)]; rfl
      by_cases h0 : 0 < n
      · have h0i : (0 : Int) < (n : Int) := by omega
        have h0d : decide (0 < n) = true := decide_eq_true h0
        go_wp2
        go_ret2
        exact ⟨by simp [walkV11, h0], HQ.out⟩
      · have h0i : ¬ (0 : Int) < (n : Int) := by omega
        have h0d : decide (0 < n) = false := decide_eq_false h0
        go_wp2
        go_ret2
        exact ⟨by simp [walkV11, h0], HQ.out⟩

end Go.Proofs.Ytgbiobhladeooaa
