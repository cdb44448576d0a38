/- The document's Same of layer 10, of automata that are the same. It reads alone. -/
import Derived.Test.YtgbiobhladeooaaPackT
namespace Go.Proofs.Ytgbiobhladeooaa
open Go.RowKit Tri

set_option maxRecDepth 100000 in
theorem drew_more {w w1 : World} {q : Nat} (h : ∃ q, w1 = w.drewN q) : ∃ p, w1.drewN q = w.drewN p := by
  obtain ⟨p, rfl⟩ := h
  exact ⟨_, World.drewN_drewN _ _ _⟩

set_option maxRecDepth 100000 in
set_option maxHeartbeats 3200000 in
theorem rsame10_is (a b : Option Addr) (n m cap cap2 : Nat) (xs ys : List Sw) (w : World) (ha : Ss w a n cap xs) (hb : Ss w b m cap2 ys) (he : sts xs = sts ys) :
    Calls Try.prog 13 #[.slice a n cap, .slice b m cap2] w fun e w' => e = .returned (.bool true) ∧ ∃ q, w' = w.drewN q := by
  have hnm : n = m := by
    have := congrArg List.length he
    rw [sts_length, sts_length, ha.1, hb.1] at this; exact this
  subst hnm
  have hnc := ha.2.1
  have hcm := ha.2.2.1
  have hnc2 := hb.2.1
  have hcm2 := hb.2.2.1
  unfold maxLen at hcm hcm2
  have HA := Lib.hid ha
  have HB := Lib.hid hb
  have HE := Lib.hid he
  clear ha hb he
  go_enter Try.func13, Try.ntmps13
  go_wp2
  go_loopw [5] (fun ix wr => ∃ j : Nat, j ≤ n ∧ ix = .int .i64 (j : Int) ∧ Hid (∃ q, wr = w.drewN q)) (fun ix _ => n - (intOf ix).toNat)
  case atStart => exact ⟨0, Nat.zero_le _, rfl, ⟨0, rfl⟩⟩
  case round =>
    obtain ⟨j, hj, rfl, HQ⟩ := hrel
    by_cases hlt : j < n
    · obtain ⟨b1, o1, f, sa, sn, sc, arcs, rfl, _, hx1, hx2, hars, hz1⟩ := (HA.out.drawn HQ.out).one j hlt
      obtain ⟨b2, o2, f', sa', sn', sc', arcs', rfl, _, hy1, hy2, hars', hz2⟩ := (HB.out.drawn HQ.out).one j hlt
      have hst : (⟨f, arcs⟩ : St) = ⟨f', arcs'⟩ := by
        have h1 := sts_at xs j
        have h2 := sts_at ys j
        rw [HE.out, h2, hz1, hz2] at h1
        exact h1.symm
      obtain rfl : f = f' := congrArg St.final hst
      obtain rfl : arcs = arcs' := congrArg St.arcs hst
      obtain rfl : sn = sn' := by rw [← hars.1, ← hars'.1]
      have HAR := Lib.hid hars
      have HAR' := Lib.hid hars'
      have hsc := hars.2.1
      have hscm := hars.2.2.1
      have hsc' := hars'.2.1
      have hscm' := hars'.2.2.1
      unfold maxLen at hscm hscm'
      have hlti : (j : Int) < (n : Int) := by omega
      have hff : (f != f) = false := by simp
      have hss : ((sn : Int) != (sn : Int)) = false := by simp
      clear hars hars' hz1 hz2 hst
      go_wp2
      go_quiet (fail)
      go_wp2
      generalize wr = wo at *
      go_loopw [6] (fun ix wr => ∃ k : Nat, k ≤ sn ∧ ix = .int .i64 (k : Int) ∧ Hid (∃ q, wr = wo.drewN q)) (fun ix _ => sn - (intOf ix).toNat)
      case atStart => exact ⟨0, Nat.zero_le _, rfl, ⟨_, rfl⟩⟩
      case round =>
        obtain ⟨k, hk, rfl, HQ2⟩ := hrel
        obtain ⟨q2, rfl⟩ := HQ2.out
        by_cases hlk : k < sn
        · obtain ⟨b3, o3, s3, t3, rfl, _, hu1, hu2, _, _, hu3⟩ := HAR.out.one k hlk
          obtain ⟨b4, o4, s4, t4, rfl, _, hv1, hv2, _, _, hv3⟩ := HAR'.out.one k hlk
          rw [hu3] at hv3
          simp only [Prod.mk.injEq] at hv3
          obtain ⟨rfl, rfl⟩ := hv3
          have hlki : (k : Int) < (sn : Int) := by omega
          have e1 : (s3 != s3) = false := by simp
          have e2 : (t3 != t3) = false := by simp
          have e3 : (s3 == s3) = true := by simp
          have e4 : (t3 == t3) = true := by simp
          clear hu3
          go_wp2
          go_quiet (fail)
          go_wp2
          go_roundw
          case rel => exact ⟨k + 1, by omega, by go_num, ⟨_, by first | rfl | exact World.drewN_drewN _ _ _⟩⟩
          case measure => simp [intOf]; omega
        · obtain rfl : sn = k := by omega
          go_wp2
          go_roundw
          case rel => exact ⟨j + 1, by omega, by go_num, drew_more HQ.out⟩
          case measure => simp [intOf]; omega
    · go_wp2
      go_ret
      exact ⟨rfl, HQ.out⟩

end Go.Proofs.Ytgbiobhladeooaa
