/- The program's Step of layer 10. -/
import Derived.Test.YtimjdlbhbiklgaaPackM
namespace Go.Proofs.Ytimjdlbhbiklgaa
open Go.RowKit Tri

set_option maxRecDepth 100000 in
set_option maxHeartbeats 1600000 in
theorem tstep_is (a : Option Addr) (n cap : Nat) (xs : List Sw) (f s : Int) (r : Int × Bool) (w : World) (ha : Ss w a n cap xs) (_hf : (Lit.int .i64 f).wf = true) (hr : Tri.step (sts xs) f s = r) :
    Calls Try.prog 61 #[.slice a n cap, .int .i64 f, .int .i64 s] w fun e w' => e = .returned (.tuple #[.int .i64 r.1, .bool r.2]) ∧ Below w.heap.size w w' := by
  have hnc := ha.2.1
  have hcm := ha.2.2.1
  unfold maxLen at hcm
  have HA := Lib.hid ha
  have HR := Lib.hid hr
  have HL : Hid ((sts xs).length = n) := by show _ = _; rw [sts_length, ha.1]
  clear ha hr
  by_cases h0 : f < 0
  · have h0d : decide (f < 0) = true := decide_eq_true h0
    have hrr : r = (0, false) := by rw [← HR.out]; exact step_out (.inl h0)
    subst hrr
    go_enter Try.func61, Try.ntmps61
    go_wp2
    go_ret2
    exact ⟨rfl, Below.refl _ _⟩
  have h0d : decide (f < 0) = false := decide_eq_false h0
  by_cases h1 : (n : Int) ≤ f
  · have h1d : decide (f ≥ (n : Int)) = true := decide_eq_true h1
    have hrr : r = (0, false) := by rw [← HR.out]; exact step_out (.inr (by rw [HL.out]; exact h1))
    subst hrr
    clear h0
    go_enter Try.func61, Try.ntmps61
    go_wp2
    go_ret2
    exact ⟨rfl, Below.refl _ _⟩
  have h1d : decide (f ≥ (n : Int)) = false := decide_eq_false h1
  obtain ⟨i, rfl⟩ : ∃ i : Nat, f = (i : Int) := ⟨f.toNat, by omega⟩
  have hi : i < n := by omega
  have hii : (i : Int) < (n : Int) := by omega
  obtain ⟨b1, o1, fi, sa, sn, sc, arcs, rfl, _, hx1, hx2, hars, hz1⟩ := HA.out.one i hi
  have HST : Hid ((match arcs.find? fun a => decide (a.1 = s) with
    | some a => (a.2, true)
    | none => ((0 : Int), false)) = r) := by
    have h := HR.out
    rw [step_in (by rw [HL.out]; exact hi), sts_at, hz1] at h
    exact h
  have HAR := Lib.hid hars
  have HAL := Lib.hid hars.1
  have hsc := hars.2.1
  have hscm := hars.2.2.1
  unfold maxLen at hscm
  clear h0 h1 hars hz1 HR
  go_enter Try.func61, Try.ntmps61
  go_wp2
  go_loopw [24] (fun ix wr => ∃ j : Nat, j ≤ sn ∧ ix = .int .i64 (j : Int) ∧ Hid (∀ x ∈ arcs.take j, x.1 ≠ s) ∧ Hid (Below w.heap.size w wr)) (fun ix _ => sn - (intOf ix).toNat)
  case atStart => exact ⟨0, Nat.zero_le _, rfl, (fun x hx => by simp at hx), Below.refl _ _⟩
  case round =>
    obtain ⟨j, hj, rfl, HT, HW⟩ := hrel
    by_cases hlt : j < sn
    · obtain ⟨b2, o2, s2, t2, rfl, hb2, hy1, hy2, _, _, hz2⟩ := (HAR.out.below HW.out (Nat.le_refl _)).one j hlt
      have HZ2 := Lib.hid hz2
      have hlti : (j : Int) < (sn : Int) := by omega
      have HWA : ∀ o, Hid (Below w.heap.size w (wr.alloc o)) := fun o => HW.out.alloc HW.out.size o
      clear hz2 hx1 hx2 hb2
      by_cases hs : s2 = s
      · subst hs
        have hb : (s2 == s2) = true := by simp
        have hrr : r = (t2, true) := by
          rw [← HST.out, find_at (by rw [HAL.out]; exact hlt) HZ2.out HT.out]
        subst hrr
        go_wp2
        go_ret2
        exact ⟨rfl, (HWA _).out⟩
      · have hb : (s2 == s) = false := by simpa using hs
        have HN := Lib.hid hs
        clear hs
        go_wp2
        go_roundw
        case rel =>
          refine ⟨j + 1, by omega, by go_num, ?_, (HWA _).out⟩
          intro x hx
          rw [arcs_step (by rw [HAL.out]; exact hlt) HZ2.out] at hx
          rcases List.mem_append.1 hx with hx | hx
          · exact HT.out x hx
          · rw [List.mem_singleton.1 hx]; exact HN.out
        case measure => simp [intOf]; omega
    · have hrr : r = (0, false) := by
        rw [← HST.out, find_no]
        intro x hx
        exact HT.out x (by rw [List.take_of_length_le (by rw [HAL.out]; omega)]; exact hx)
      subst hrr
      clear hx1 hx2
      go_wp2
      go_ret2
      exact ⟨rfl, HW.out⟩

end Go.Proofs.Ytimjdlbhbiklgaa
