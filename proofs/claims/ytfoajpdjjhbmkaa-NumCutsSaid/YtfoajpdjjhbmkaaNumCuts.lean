/- For every cost and every cut NumCuts answers true, and turns nothing that was there. No condition. -/
import Derived.Test.YtfoajpdjjhbmkaaRows
import Derived.Test.YtfoajpdjjhbmkaaNumAwake
import Derived.WalkKit
import Derived.ChangeOld
import Derived.Below
import Derived.ProofKit
import Derived.OpenShut
import Derived.ShutString
namespace Go.Proofs.Ytfoajpdjjhbmkaa.numCuts
open Go.ChangeShapes Go.WideShapes Go.ChangeAt Go.RowKit
open Go.ChangeMaps (open_string shut_string)
set_option linter.unusedVariables false      -- a walk need not use every 'w<i>' (that an integer argument fits its kind)

theorem own : ownKnob Try.prog.godebug = none := by kernel_rfl

/-! ### STEP 1: THE WALK: the Go text returns true. 'Grown w w'': the world has at most new blocks (Derived/RowKit3.lean). Part the cases AHEAD of 'go_enter' where a test parts the walk; take each callee by a contract of your own. -/
set_option maxRecDepth 100000 in
set_option maxHeartbeats 6000000 in
theorem walk (a0 : Int) (a1 : Int) (w0 : (Lit.int .u64 a0).wf = true) (w1 : (Lit.int .u8 a1).wf = true) (w : World) :
    Calls Try.prog 7 #[.int .u64 a0, .int .u8 a1] w fun e w' => e = .returned (.bool true) ∧ Below w.heap.size w w' := by
  obtain ⟨hc00, hc01⟩ := bounds_u64 w0
  obtain ⟨c, rfl⟩ : ∃ c : Nat, a0 = (c : Int) := ⟨a0.toNat, by omega⟩
  have hcb : c < 18446744073709551616 := by omega
  clear w0 hc00 hc01
  obtain ⟨hc10, hc11⟩ := bounds_u8 w1
  obtain ⟨d, rfl⟩ : ∃ c : Nat, a1 = (c : Int) := ⟨a1.toNat, by omega⟩
  have hdb : d < 256 := by omega
  clear w1 hc10 hc11
  have HWC := Lib.hid (fun w => write_any c hcb w)
  have HPOS := Lib.hid (Num.dig_pos c)
  have HL20 := Lib.hid (Num.len_20 hcb)
  go_enter Try.func7, Try.ntmps7
  go_wp2_with fail
  refine (awake_any _).mono ?_
  rintro e w1 ⟨rfl, B1⟩
  go_wp2_with fail
  refine (HWC.out _).mono ?_
  intro e w2 h2
  obtain ⟨a2, n2, c2, rfl, hn2, hs2, _, hb2⟩ := BytesIs.sl h2 (Num.dig_wf _)
  have hpos : 0 < n2 := by rw [hn2]; exact HPOS.out
  have hn20 : n2 ≤ 20 := by rw [hn2]; exact HL20.out
  have hn0 : ((n2 : Int) == 0) = false := by simp; omega
  have S2 := Lib.hid hs2
  have HN2 := Lib.hid hn2
  have B2 := B1.trans (hb2.mono B1.size)
  obtain ⟨b2, off2, rfl, _, _⟩ := hs2.at hpos
  have hnc2 := hs2.2.1
  clear h2 hn2 hs2 hb2 B1
  obtain ⟨q, hq, hqn⟩ : ∃ q : Nat, (d : Int) % (n2 : Int) = (q : Int) ∧ q < n2 := ⟨d % n2, by simp, Nat.mod_lt _ hpos⟩
  go_wp2_with fail
  have X2 := Lib.hid (S2.out.first (1 + q) (by omega))
  obtain ⟨m, hm⟩ : ∃ m, m = c / 10 ^ (n2 - (1 + q)) := ⟨_, rfl⟩
  have hdm : (Num.dig c).take (1 + q) = Num.dig m := by
    rw [hm, Num.dig_cut _ c (by rw [← HN2.out]; omega), ← HN2.out]
    congr 1; omega
  have hmc : m ≤ c := by rw [hm]; exact Nat.div_le_self _ _
  rw [hdm] at X2
  have hmz : m = 0 → c = 0 := by
    intro h0
    refine Decidable.byContradiction fun hc => Num.dig_head hc ?_
    rw [h0] at hdm
    cases hdc : Num.dig c with
    | nil => exact absurd hdc (Num.dig_ne c)
    | cons x xs =>
      rw [hdc, Nat.add_comm, List.take_succ_cons] at hdm
      have hx : x :: xs.take q = [48] := by rw [hdm]; exact Num.dig_small (by omega)
      rw [(List.cons.inj hx).1]; rfl
  have HM := Lib.hid hm
  have HMZ := Lib.hid hmz
  clear hm hdm hmz S2
  by_cases hinf : m = 18446744073709551615
  · have HRD := Lib.hid (Num.read_inf (c := m) (by omega))
    refine (read_any _ _ _ _ _ X2.out).mono ?_
    rintro e w3 ⟨h3, hb3⟩
    obtain rfl := h3.none HRD.out
    have B3 := Lib.hid (B2.trans (hb3.mono B2.size))
    clear h3 hb3 X2 B2
    go_wp2
    go_loopw [10, 11] (fun nv ix wr => ∃ i v : Nat, 1 + q ≤ i ∧ i ≤ n2 ∧ ix = .int .i64 (i : Int) ∧ nv = .int .u64 (v : Int) ∧ Hid (v = c / 10 ^ (i - (1 + q))) ∧ Hid (wr = w3)) (fun _ ix _ => n2 - (intOf ix).toNat)
    case atStart => exact ⟨1 + q, c, Nat.le_refl _, by omega, by go_num, rfl, (by first | exact (trivial : True) | (show c = _; simp)), (by first | exact (trivial : True) | rfl)⟩
    case round =>
      obtain ⟨i, v, hqi, hi, rfl, rfl, HV, HW⟩ := hrel
      obtain rfl := HW.out
      clear HW
      by_cases hlt : i < n2
      · have hlti : (i : Int) < (n2 : Int) := by omega
        have hvn : v / 10 = c / 10 ^ (i + 1 - (1 + q)) := by rw [HV.out, Nat.div_div_eq_div_mul, ← Nat.pow_succ]; congr 2; omega
        have HVN := Lib.hid hvn
        have hvc : v < 18446744073709551616 := by have h1 : v ≤ c := by rw [HV.out]; exact Nat.div_le_self _ _
                                                  omega
        clear hvn
        go_wp2
        go_roundw
        case rel => exact ⟨i + 1, v / 10, by omega, by omega, by go_num, by go_num, HVN.out, (by first | exact (trivial : True) | rfl)⟩
        case measure => simp [intOf]; omega
      · obtain rfl : i = n2 := by omega
        obtain rfl : v = m := by rw [HV.out, HM.out]
        clear HV HM
        have hv1 : ((v : Int) == 18446744073709551615) = true := by simp; omega
        go_wp2
        go_ret
        exact ⟨by first | rfl | simp, B3.out⟩
  · have HRD := Lib.hid (Num.read_dig (c := m) (by omega))
    by_cases hz : c = 0
    · have HZ := Lib.hid hz
      clear hz
      refine (read_any _ _ _ _ _ X2.out).mono ?_
      rintro e w3 ⟨h3, hb3⟩
      obtain rfl := h3.some HRD.out
      have B3 := Lib.hid (B2.trans (hb3.mono B2.size))
      clear h3 hb3 X2 B2
      go_wp2
      go_loopw [10, 11] (fun nv ix wr => ∃ i v : Nat, 1 + q ≤ i ∧ i ≤ n2 ∧ ix = .int .i64 (i : Int) ∧ nv = .int .u64 (v : Int) ∧ Hid (v = c / 10 ^ (i - (1 + q))) ∧ Hid (wr = w3)) (fun _ ix _ => n2 - (intOf ix).toNat)
      case atStart => exact ⟨1 + q, c, Nat.le_refl _, by omega, by go_num, rfl, (by first | exact (trivial : True) | (show c = _; simp)), (by first | exact (trivial : True) | rfl)⟩
      case round =>
        obtain ⟨i, v, hqi, hi, rfl, rfl, HV, HW⟩ := hrel
        obtain rfl := HW.out
        clear HW
        by_cases hlt : i < n2
        · have hlti : (i : Int) < (n2 : Int) := by omega
          have hvn : v / 10 = c / 10 ^ (i + 1 - (1 + q)) := by rw [HV.out, Nat.div_div_eq_div_mul, ← Nat.pow_succ]; congr 2; omega
          have HVN := Lib.hid hvn
          have hvc : v < 18446744073709551616 := by have h1 : v ≤ c := by rw [HV.out]; exact Nat.div_le_self _ _
                                                    omega
          clear hvn
          go_wp2
          go_roundw
          case rel => exact ⟨i + 1, v / 10, by omega, by omega, by go_num, by go_num, HVN.out, (by first | exact (trivial : True) | rfl)⟩
          case measure => simp [intOf]; omega
        · obtain rfl : i = n2 := by omega
          obtain rfl : v = m := by rw [HV.out, HM.out]
          clear HV HM
          have hz := HZ.out
          have hv0 : v = 0 := by omega
          subst hv0
          subst hz
          go_wp2
          go_ret
          exact ⟨by first | rfl | simp, B3.out⟩
    · have hmp : 0 < m := by
        rcases Nat.eq_zero_or_pos m with h0 | h0
        · exact absurd (HMZ.out h0) hz
        · exact h0
      clear hz
      refine (read_any _ _ _ _ _ X2.out).mono ?_
      rintro e w3 ⟨h3, hb3⟩
      obtain rfl := h3.some HRD.out
      have B3 := Lib.hid (B2.trans (hb3.mono B2.size))
      clear h3 hb3 X2 B2
      go_wp2
      go_loopw [10, 11] (fun nv ix wr => ∃ i v : Nat, 1 + q ≤ i ∧ i ≤ n2 ∧ ix = .int .i64 (i : Int) ∧ nv = .int .u64 (v : Int) ∧ Hid (v = c / 10 ^ (i - (1 + q))) ∧ Hid (wr = w3)) (fun _ ix _ => n2 - (intOf ix).toNat)
      case atStart => exact ⟨1 + q, c, Nat.le_refl _, by omega, by go_num, rfl, (by first | exact (trivial : True) | (show c = _; simp)), (by first | exact (trivial : True) | rfl)⟩
      case round =>
        obtain ⟨i, v, hqi, hi, rfl, rfl, HV, HW⟩ := hrel
        obtain rfl := HW.out
        clear HW
        by_cases hlt : i < n2
        · have hlti : (i : Int) < (n2 : Int) := by omega
          have hvn : v / 10 = c / 10 ^ (i + 1 - (1 + q)) := by rw [HV.out, Nat.div_div_eq_div_mul, ← Nat.pow_succ]; congr 2; omega
          have HVN := Lib.hid hvn
          have hvc : v < 18446744073709551616 := by have h1 : v ≤ c := by rw [HV.out]; exact Nat.div_le_self _ _
                                                    omega
          clear hvn
          go_wp2
          go_roundw
          case rel => exact ⟨i + 1, v / 10, by omega, by omega, by go_num, by go_num, HVN.out, (by first | exact (trivial : True) | rfl)⟩
          case measure => simp [intOf]; omega
        · obtain rfl : i = n2 := by omega
          obtain rfl : v = m := by rw [HV.out, HM.out]
          clear HV HM
          have hv1 : ((v : Int) == 18446744073709551615) = false := by simp; omega
          have hv2 : (v : Int) < 18446744073709551615 := by omega
          have hv3 : decide ((v : Int) < 18446744073709551615) = true := by simp; omega
          have hv4 : ((v : Int) == (v : Int)) = true := by simp
          have hv5 : decide (0 < (v : Int)) = true := by simp; omega
          have hv6 : 0 < (v : Int) := by omega
          go_wp2
          go_ret
          exact ⟨by first | rfl | simp, B3.out⟩
  -- go_enter Try.func7, Try.ntmps7
  -- go_wp2
  -- go_ret
  -- exact ⟨rfl, by repeat (first | exact Grown.refl _ | apply Grown.drew | apply Grown.alloc)⟩

/-! ### THE ROW's STEP: WRITTEN OUT: LEAVE IT -/
set_option maxRecDepth 100000 in
theorem lifted (os : Os) (started : os.Started) (H : Type) (enc : TypeId × Value → H) :
    ReturnsInHanded {} Try.checked os 7 .any (Rows.numCutsSpec.pre6 enc Try.prog Try.f7 Rows.numCutsRow.domain false) (Rows.numCutsSpec.post enc Try.prog Try.f7 false true false false) := by
  refine returnsInHanded_of_change (C := Try.checked) own started (by kernel_rfl) Try.func7
    (ChangeSpec.witness6 (enc := enc) (C := Try.checked) false ⟨#[], #[.int .u64 0, .int .u8 0], []⟩ 8 (by kernel_rfl) (by kernel_rfl) (by kernel_rfl) (by kernel_rfl)) ?_
  intro W base args ds gs before hval0 hW hcnd _
  have hval : ∀ (j : Nat) t v, Try.f7.params[j]? = some t → args[j]? = some v → Value.okWide Try.prog W .any base t v := hval0
  have hW' := hW
  obtain ⟨p, q, hA0, hV, rfl, hfz, hnd⟩ := hW
  have hA : DataW.TrodAll enc Try.prog W 0 (fun _ => true) true Try.f7.params.toList args.toList ds p := hA0
  rw [Try.params7] at hA hval
  obtain ⟨v0, vs0, d0, ds0, p0, q0, hargs, rfl, rfl, h0, r0⟩ := trodAll_cons hA
  obtain ⟨v1, vs1, d1, ds1, p1, q1, rfl, rfl, rfl, h1, r1⟩ := trodAll_cons r0
  obtain ⟨rfl, rfl, rfl⟩ := trodAll_nil r1
  obtain rfl : args = #[v0, v1] := by cases args; simp_all
  obtain ⟨rfl, rfl⟩ := trodVars_none hV
  obtain ⟨a0, rfl, rfl, rfl, w0⟩ := open_int Try.underlying22 (hval 0 22 v0 rfl rfl) h0
  obtain ⟨a1, rfl, rfl, rfl, w1⟩ := open_int Try.underlying5 (hval 1 5 v1 rfl rfl) h1
  clear hA0 hval0
  refine (walk a0 a1 w0 w1 W).mono fun e W' ⟨he, bel⟩ => ?_
  subst he
  exact ⟨_, rfl, _, _, _, [], _, [], hW', trodAll_mk1 (shut_bool Try.underlying4 _), (trodAll_cons_mk (shut_int Try.underlying22 w0) (trodAll_cons_mk (shut_int Try.underlying5 w1) trodAll_mk0)), rfl, bel.frame _, fun h => by cases h⟩

theorem over : Rows.numCutsRow.holds Try.pinned (OpenSpec.ofChange Rows.numCutsSpec) :=
  OpenClaim.holds_of_wide 7 Try.f7 rfl rfl rfl rfl rfl rfl rfl ⟨rfl, rfl, rfl, rfl, rfl⟩ rfl rfl rfl rfl rfl (by kernel_rfl) Try.func7 (by kernel_rfl)
    (of_decide_eq_true (by kernel_rfl)) (by unfold Func.isWrapper; first | (rw [if_pos (by decide +kernel)]; kernel_rfl) | (rw [if_neg (by decide +kernel)]; exact ⟨rfl, rfl⟩))
    (fun os started H enc _ => lifted os started H enc)

/-- ████ THE STATEMENT ████ -/
theorem proved : Rows.NumCutsSaid :=
  over
#print axioms proved
end Go.Proofs.Ytfoajpdjjhbmkaa.numCuts
