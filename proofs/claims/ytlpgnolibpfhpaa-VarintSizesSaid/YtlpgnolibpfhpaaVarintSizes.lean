/- For every two numbers VarintSizes answers true, and turns nothing that was there. No condition. -/
import Derived.Test.YtlpgnolibpfhpaaRows
import Derived.Test.YtlpgnolibpfhpaaVarAwake
import Derived.WalkKit
import Derived.ChangeOld
import Derived.Below
import Derived.ProofKit
import Derived.OpenShut
import Derived.ShutString
namespace Go.Proofs.Ytlpgnolibpfhpaa.varintSizes
open Go.ChangeShapes Go.WideShapes Go.ChangeAt Go.RowKit
open Go.ChangeMaps (open_string shut_string)
set_option linter.unusedVariables false      -- a walk need not use every 'w<i>' (that an integer argument fits its kind)

theorem own : ownKnob Try.prog.godebug = none := by kernel_rfl

/-! ### STEP 1: THE WALK: the Go text returns true. 'Grown w w'': the world has at most new blocks (Derived/RowKit3.lean). Part the cases AHEAD of 'go_enter' where a test parts the walk; take each callee by a contract of your own. -/
set_option maxRecDepth 100000 in
set_option maxHeartbeats 6000000 in
theorem walk (a0 : Int) (a1 : Int) (w0 : (Lit.int .u64 a0).wf = true) (w1 : (Lit.int .u64 a1).wf = true) (w : World) :
    Calls Try.prog 5 #[.int .u64 a0, .int .u64 a1] w fun e w' => e = .returned (.bool true) ∧ Below w.heap.size w w' := by
  obtain ⟨ha0, ha1⟩ := bounds_u64 w0
  obtain ⟨hb0, hb1⟩ := bounds_u64 w1
  clear w0 w1
  obtain ⟨n, hn⟩ : ∃ n, (Var.enc a0.toNat).length = n := ⟨_, rfl⟩
  obtain ⟨m, hm⟩ : ∃ m, (Var.enc a1.toNat).length = m := ⟨_, rfl⟩
  have hn1 : 1 ≤ n := by rw [← hn]; exact Var.enc_pos _
  have hn10 : n ≤ 10 := by rw [← hn]; exact Var.len_10 (by omega)
  have HC := Lib.hid (fun w => size_x a0 n ha0 ha1 hn w)
  have HD := Lib.hid (fun w => size_x a1 m hb0 hb1 hm w)
  have hn1i : (1 : Int) ≤ (n : Int) := by omega
  have hn10i : (n : Int) ≤ 10 := by omega
  have hlo : a0 ≤ a1 → n ≤ m := fun h => by rw [← hn, ← hm]; exact Var.len_mono _ _ (by omega)
  have hhi : a1 ≤ a0 → m ≤ n := fun h => by rw [← hn, ← hm]; exact Var.len_mono _ _ (by omega)
  have ht : 0 < a0 → (Var.enc (a0 * 128).toNat).length = n + 1 := fun h => by
    rw [show (a0 * 128).toNat = a0.toNat * 128 from by omega, Var.len_times (by omega), hn]
  clear hn hm hn1 hn10
  obtain ⟨lo, hmin⟩ : ∃ x, min a0 a1 = x := ⟨_, rfl⟩
  obtain ⟨hi, hmax⟩ : ∃ x, max a0 a1 = x := ⟨_, rfl⟩
  have hmin' : (if a1 < a0 then a1 else a0) = lo := by rw [← hmin]; split <;> omega
  have hmax' : (if a0 < a1 then a1 else a0) = hi := by rw [← hmax]; split <;> omega
  obtain ⟨nl, nh, hnm, HLO, HHI⟩ : ∃ nl nh : Nat, (nl : Int) ≤ (nh : Int) ∧ Hid (∀ w, Calls Try.prog 12 #[.int .u64 lo] w fun e w' => e = .returned (.int .i64 (nl : Int)) ∧ Below w.heap.size w w') ∧ Hid (∀ w, Calls Try.prog 12 #[.int .u64 hi] w fun e w' => e = .returned (.int .i64 (nh : Int)) ∧ Below w.heap.size w w') := by
    by_cases hle : a0 ≤ a1
    · obtain rfl : a0 = lo := by omega
      obtain rfl : a1 = hi := by omega
      exact ⟨n, m, by have := hlo hle; omega, HC, HD⟩
    · obtain rfl : a1 = lo := by omega
      obtain rfl : a0 = hi := by omega
      exact ⟨m, n, by have := hhi (by omega); omega, HD, HC⟩
  clear hlo hhi HD hb0 hb1
  by_cases h0 : a0 = 0
  · have hz : (a0 == 0) = true := by simp; omega
    clear h0 ht
    go_enter Try.func5, Try.ntmps5
    go_wp2_with fail
    refine (awake_any _).mono ?_
    rintro e w1 ⟨rfl, B1⟩
    go_wp2_with fail
    refine (HLO.out _).mono ?_
    rintro e w2 ⟨rfl, b2⟩
    have B2 := B1.trans (b2.mono B1.size)
    clear b2 B1
    go_wp2_with fail
    refine (HHI.out _).mono ?_
    rintro e w3 ⟨rfl, b3⟩
    have B3 := B2.trans (b3.mono B2.size)
    clear b3 B2
    go_wp2_with fail
    refine (HC.out _).mono ?_
    rintro e w4 ⟨rfl, b4⟩
    have B4 := B3.trans (b4.mono B3.size)
    clear b4 B3
    go_wp2_with fail
    refine (HC.out _).mono ?_
    rintro e w5 ⟨rfl, b5⟩
    have B5 := B4.trans (b5.mono B4.size)
    clear b5 B4
    go_wp2
    go_ret
    exact ⟨rfl, B5⟩
  have hz : (a0 == 0) = false := by simp; omega
  by_cases hbig : 144115188075855872 ≤ a0
  · clear h0 ht
    go_enter Try.func5, Try.ntmps5
    go_wp2_with fail
    refine (awake_any _).mono ?_
    rintro e w1 ⟨rfl, B1⟩
    go_wp2_with fail
    refine (HLO.out _).mono ?_
    rintro e w2 ⟨rfl, b2⟩
    have B2 := B1.trans (b2.mono B1.size)
    clear b2 B1
    go_wp2_with fail
    refine (HHI.out _).mono ?_
    rintro e w3 ⟨rfl, b3⟩
    have B3 := B2.trans (b3.mono B2.size)
    clear b3 B2
    go_wp2_with fail
    refine (HC.out _).mono ?_
    rintro e w4 ⟨rfl, b4⟩
    have B4 := B3.trans (b4.mono B3.size)
    clear b4 B3
    go_wp2_with fail
    refine (HC.out _).mono ?_
    rintro e w5 ⟨rfl, b5⟩
    have B5 := B4.trans (b5.mono B4.size)
    clear b5 B4
    go_wp2
    go_ret
    exact ⟨rfl, B5⟩
  obtain ⟨q, hq⟩ : ∃ q, q = a0 * 128 := ⟨_, rfl⟩
  have hqi : IntKind.u64.wrap (a0 * 128) = q := by simp [IntKind.wrap, IntKind.signed, IntKind.bits]; omega
  have ht1 := ht (by omega)
  rw [← hq] at ht1
  have HT := Lib.hid (fun w => size_x q (n + 1) (by omega) (by omega) ht1 w)
  clear hq ht1 ht h0
  go_enter Try.func5, Try.ntmps5
  go_wp2_with fail
  refine (awake_any _).mono ?_
  rintro e w1 ⟨rfl, B1⟩
  go_wp2_with fail
  refine (HT.out _).mono ?_
  rintro e w2 ⟨rfl, b2⟩
  have B2 := B1.trans (b2.mono B1.size)
  clear b2 B1
  go_wp2_with fail
  refine (HC.out _).mono ?_
  rintro e w3 ⟨rfl, b3⟩
  have B3 := B2.trans (b3.mono B2.size)
  clear b3 B2
  go_wp2_with fail
  refine (HLO.out _).mono ?_
  rintro e w4 ⟨rfl, b4⟩
  have B4 := B3.trans (b4.mono B3.size)
  clear b4 B3
  go_wp2_with fail
  refine (HHI.out _).mono ?_
  rintro e w5 ⟨rfl, b5⟩
  have B5 := B4.trans (b5.mono B4.size)
  clear b5 B4
  go_wp2_with fail
  refine (HC.out _).mono ?_
  rintro e w6 ⟨rfl, b6⟩
  have B6 := B5.trans (b6.mono B5.size)
  clear b6 B5
  go_wp2_with fail
  refine (HC.out _).mono ?_
  rintro e w7 ⟨rfl, b7⟩
  have B7 := B6.trans (b7.mono B6.size)
  clear b7 B6
  go_wp2
  go_ret
  exact ⟨rfl, B7⟩
  -- go_enter Try.func5, Try.ntmps5
  -- go_wp2
  -- go_ret
  -- exact ⟨rfl, by repeat (first | exact Grown.refl _ | apply Grown.drew | apply Grown.alloc)⟩

/-! ### THE ROW's STEP: WRITTEN OUT: LEAVE IT -/
set_option maxRecDepth 100000 in
theorem lifted (os : Os) (started : os.Started) (H : Type) (enc : TypeId × Value → H) :
    ReturnsInHanded {} Try.checked os 5 .any (Rows.varintSizesSpec.pre6 enc Try.prog Try.f5 Rows.varintSizesRow.domain false) (Rows.varintSizesSpec.post enc Try.prog Try.f5 false true false false) := by
  refine returnsInHanded_of_change (C := Try.checked) own started (by kernel_rfl) Try.func5
    (ChangeSpec.witness6 (enc := enc) (C := Try.checked) false ⟨#[], #[.int .u64 0, .int .u64 0], []⟩ 8 (by kernel_rfl) (by kernel_rfl) (by kernel_rfl) (by kernel_rfl)) ?_
  intro W base args ds gs before hval0 hW hcnd _
  have hval : ∀ (j : Nat) t v, Try.f5.params[j]? = some t → args[j]? = some v → Value.okWide Try.prog W .any base t v := hval0
  have hW' := hW
  obtain ⟨p, q, hA0, hV, rfl, hfz, hnd⟩ := hW
  have hA : DataW.TrodAll enc Try.prog W 0 (fun _ => true) true Try.f5.params.toList args.toList ds p := hA0
  rw [Try.params5] at hA hval
  obtain ⟨v0, vs0, d0, ds0, p0, q0, hargs, rfl, rfl, h0, r0⟩ := trodAll_cons hA
  obtain ⟨v1, vs1, d1, ds1, p1, q1, rfl, rfl, rfl, h1, r1⟩ := trodAll_cons r0
  obtain ⟨rfl, rfl, rfl⟩ := trodAll_nil r1
  obtain rfl : args = #[v0, v1] := by cases args; simp_all
  obtain ⟨rfl, rfl⟩ := trodVars_none hV
  obtain ⟨a0, rfl, rfl, rfl, w0⟩ := open_int Try.underlying23 (hval 0 23 v0 rfl rfl) h0
  obtain ⟨a1, rfl, rfl, rfl, w1⟩ := open_int Try.underlying23 (hval 1 23 v1 rfl rfl) h1
  clear hA0 hval0
  refine (walk a0 a1 w0 w1 W).mono fun e W' ⟨he, bel⟩ => ?_
  subst he
  exact ⟨_, rfl, _, _, _, [], _, [], hW', trodAll_mk1 (shut_bool Try.underlying4 _), (trodAll_cons_mk (shut_int Try.underlying23 w0) (trodAll_cons_mk (shut_int Try.underlying23 w1) trodAll_mk0)), rfl, bel.frame _, fun h => by cases h⟩

theorem over : Rows.varintSizesRow.holds Try.pinned (OpenSpec.ofChange Rows.varintSizesSpec) :=
  OpenClaim.holds_of_wide 5 Try.f5 rfl rfl rfl rfl rfl rfl rfl ⟨rfl, rfl, rfl, rfl, rfl⟩ rfl rfl rfl rfl rfl (by kernel_rfl) Try.func5 (by kernel_rfl)
    (of_decide_eq_true (by kernel_rfl)) (by unfold Func.isWrapper; first | (rw [if_pos (by decide +kernel)]; kernel_rfl) | (rw [if_neg (by decide +kernel)]; exact ⟨rfl, rfl⟩))
    (fun os started H enc _ => lifted os started H enc)

/-- ████ THE STATEMENT ████ -/
theorem proved : Rows.VarintSizesSaid :=
  over
#print axioms proved
end Go.Proofs.Ytlpgnolibpfhpaa.varintSizes
