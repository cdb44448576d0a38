/- For every three costs CostOrder answers true, and turns nothing that was there. No condition. -/
import Derived.Test.YtmgaimpnjnkofaaRows
import Derived.Test.YtmgaimpnjnkofaaCostWalkC
import Derived.WalkKit
import Derived.ChangeOld
import Derived.Below
import Derived.ProofKit
import Derived.OpenShut
import Derived.ShutString
namespace Go.Proofs.Ytmgaimpnjnkofaa.costOrder
open Go.ChangeShapes Go.WideShapes Go.ChangeAt Go.RowKit
open Go.ChangeMaps (open_string shut_string)
set_option linter.unusedVariables false      -- a walk need not use every 'w<i>' (that an integer argument fits its kind)

theorem own : ownKnob Try.prog.godebug = none := by kernel_rfl

theorem order_facts {a b c : Int} (ha : 0 ≤ a) (hb : 0 ≤ b) (hc : 0 ≤ c) : Cost.add (Cost.add a b) c = Cost.add a (Cost.add b c) ∧ (a ≤ b → Cost.add a c ≤ Cost.add b c) := by
  unfold Cost.add Cost.cap
  constructor
  · repeat' split
    all_goals omega
  · intro h; repeat' split
    all_goals omega
theorem sum_facts {a b : Int} (ha : 0 ≤ a) (ha1 : a ≤ 18446744073709551615) (hb : 0 ≤ b) (hb1 : b ≤ 18446744073709551615) :
    a ≤ Cost.add a b ∧ b ≤ Cost.add a b ∧ (Cost.add a b = 18446744073709551615 ∨ (Cost.add a b < 18446744073709551615 ∧ Cost.add a b - b = a)) ∧ Cost.add a 0 = a ∧ Cost.add a 18446744073709551615 = 18446744073709551615 := by
  unfold Cost.add Cost.cap; omega

/-! ### STEP 1: THE WALK: the Go text returns true. 'Grown w w'': the world has at most new blocks (Derived/RowKit3.lean). Part the cases AHEAD of 'go_enter' where a test parts the walk; take each callee by a contract of your own. -/
set_option maxHeartbeats 2000000 in
theorem walk (a0 : Int) (a1 : Int) (a2 : Int) (w0 : (Lit.int .u64 a0).wf = true) (w1 : (Lit.int .u64 a1).wf = true) (w2 : (Lit.int .u64 a2).wf = true) (w : World) :
    Calls Try.prog 4 #[.int .u64 a0, .int .u64 a1, .int .u64 a2] w fun e w' => e = .returned (.bool true) ∧ Below w.heap.size w w' := by
  obtain ⟨ha0, ha1⟩ := bounds_u64 w0
  obtain ⟨hb0, hb1⟩ := bounds_u64 w1
  obtain ⟨hc0, hc1⟩ := bounds_u64 w2
  clear w0 w1 w2
  obtain ⟨f1, f2⟩ := order_facts ha0 hb0 hc0
  obtain ⟨f3, f4, f5, f6, f7⟩ := sum_facts ha0 ha1 hb0 hb1
  obtain ⟨hsr0, hsr1⟩ := Cost.add_range ha0 hb0
  obtain ⟨htr0, htr1⟩ := Cost.add_range hb0 hc0
  obtain ⟨s, hs⟩ : ∃ s, Cost.add a0 a1 = s := ⟨_, rfl⟩
  obtain ⟨t, ht⟩ : ∃ t, Cost.add a1 a2 = t := ⟨_, rfl⟩
  obtain ⟨v, hv⟩ : ∃ v, Cost.add a0 a2 = v := ⟨_, rfl⟩
  obtain ⟨u, hu⟩ : ∃ u, Cost.add s a2 = u := ⟨_, rfl⟩
  rw [hs] at f1 f3 f4 f5 hsr0 hsr1
  rw [ht] at f1 f2 htr0 htr1
  rw [hu] at f1
  rw [hv] at f2
  have hs2 : Cost.add a1 a0 = s := by rw [Cost.add_comm]; exact hs
  have HS := Lib.hid hs
  have HS2 := Lib.hid hs2
  have HT := Lib.hid ht
  have HV := Lib.hid hv
  have HU := Lib.hid hu
  have HU2 := Lib.hid f1.symm
  have H6 := Lib.hid f6
  have H7 := Lib.hid f7
  clear hs hs2 ht hv hu f1 f6 f7
  obtain ⟨ab, hab⟩ : ∃ ab : Bool, (s == 18446744073709551615) = ab := ⟨_, rfl⟩
  have hfin : ab = true ∨ (ab = false ∧ s - a1 = a0) := by
    rcases f5 with f5 | ⟨f5, f8⟩
    · left; rw [← hab]; simpa using f5
    · right; refine ⟨?_, f8⟩; rw [← hab]; simp; omega
  clear f5
  by_cases hgt : a1 < a0
  · clear f2
    rcases hfin with rfl | ⟨rfl, hsub⟩
    · go_enter Try.func4, Try.ntmps4
      go_wp2_with fail
      refine (awake_any _).mono ?_
      rintro e w1 ⟨rfl, B1⟩
      go_wp2_with fail
      refine (cadd_is a0 a1 s _ ha0 ha1 hb0 hb1 HS.out).mono ?_
      rintro e w2 ⟨rfl, rfl⟩
      go_wp2_with fail
      refine (cadd_is a1 a0 s _ hb0 hb1 ha0 ha1 HS2.out).mono ?_
      rintro e w2 ⟨rfl, rfl⟩
      go_wp2_with fail
      refine (cadd_is s a2 u _ hsr0 hsr1 hc0 hc1 HU.out).mono ?_
      rintro e w2 ⟨rfl, rfl⟩
      go_wp2_with fail
      refine (cadd_is a1 a2 t _ hb0 hb1 hc0 hc1 HT.out).mono ?_
      rintro e w2 ⟨rfl, rfl⟩
      go_wp2_with fail
      refine (cadd_is a0 t u _ ha0 ha1 htr0 htr1 HU2.out).mono ?_
      rintro e w2 ⟨rfl, rfl⟩
      go_wp2_with fail
      refine (cadd_is a0 0 a0 _ ha0 ha1 (by decide) (by decide) H6.out).mono ?_
      rintro e w2 ⟨rfl, rfl⟩
      go_wp2_with fail
      refine (cadd_is a0 _ _ _ ha0 ha1 (by decide) (by decide) H7.out).mono ?_
      rintro e w2 ⟨rfl, rfl⟩
      go_wp2
      go_ret
      exact ⟨rfl, B1⟩
    · go_enter Try.func4, Try.ntmps4
      go_wp2_with fail
      refine (awake_any _).mono ?_
      rintro e w1 ⟨rfl, B1⟩
      go_wp2_with fail
      refine (cadd_is a0 a1 s _ ha0 ha1 hb0 hb1 HS.out).mono ?_
      rintro e w2 ⟨rfl, rfl⟩
      go_wp2_with fail
      refine (cadd_is a1 a0 s _ hb0 hb1 ha0 ha1 HS2.out).mono ?_
      rintro e w2 ⟨rfl, rfl⟩
      go_wp2_with fail
      refine (cadd_is s a2 u _ hsr0 hsr1 hc0 hc1 HU.out).mono ?_
      rintro e w2 ⟨rfl, rfl⟩
      go_wp2_with fail
      refine (cadd_is a1 a2 t _ hb0 hb1 hc0 hc1 HT.out).mono ?_
      rintro e w2 ⟨rfl, rfl⟩
      go_wp2_with fail
      refine (cadd_is a0 t u _ ha0 ha1 htr0 htr1 HU2.out).mono ?_
      rintro e w2 ⟨rfl, rfl⟩
      go_wp2_with fail
      refine (cadd_is a0 0 a0 _ ha0 ha1 (by decide) (by decide) H6.out).mono ?_
      rintro e w2 ⟨rfl, rfl⟩
      go_wp2_with fail
      refine (cadd_is a0 _ _ _ ha0 ha1 (by decide) (by decide) H7.out).mono ?_
      rintro e w2 ⟨rfl, rfl⟩
      go_wp2
      go_ret
      exact ⟨rfl, B1⟩
  · have f9 := f2 (by omega)
    clear f2
    rcases hfin with rfl | ⟨rfl, hsub⟩
    · go_enter Try.func4, Try.ntmps4
      go_wp2_with fail
      refine (awake_any _).mono ?_
      rintro e w1 ⟨rfl, B1⟩
      go_wp2_with fail
      refine (cadd_is a0 a1 s _ ha0 ha1 hb0 hb1 HS.out).mono ?_
      rintro e w2 ⟨rfl, rfl⟩
      go_wp2_with fail
      refine (cadd_is a1 a0 s _ hb0 hb1 ha0 ha1 HS2.out).mono ?_
      rintro e w2 ⟨rfl, rfl⟩
      go_wp2_with fail
      refine (cadd_is s a2 u _ hsr0 hsr1 hc0 hc1 HU.out).mono ?_
      rintro e w2 ⟨rfl, rfl⟩
      go_wp2_with fail
      refine (cadd_is a1 a2 t _ hb0 hb1 hc0 hc1 HT.out).mono ?_
      rintro e w2 ⟨rfl, rfl⟩
      go_wp2_with fail
      refine (cadd_is a0 t u _ ha0 ha1 htr0 htr1 HU2.out).mono ?_
      rintro e w2 ⟨rfl, rfl⟩
      go_wp2_with fail
      refine (cadd_is a0 a2 v _ ha0 ha1 hc0 hc1 HV.out).mono ?_
      rintro e w2 ⟨rfl, rfl⟩
      go_wp2_with fail
      refine (cadd_is a1 a2 t _ hb0 hb1 hc0 hc1 HT.out).mono ?_
      rintro e w2 ⟨rfl, rfl⟩
      go_wp2_with fail
      refine (cadd_is a0 0 a0 _ ha0 ha1 (by decide) (by decide) H6.out).mono ?_
      rintro e w2 ⟨rfl, rfl⟩
      go_wp2_with fail
      refine (cadd_is a0 _ _ _ ha0 ha1 (by decide) (by decide) H7.out).mono ?_
      rintro e w2 ⟨rfl, rfl⟩
      go_wp2
      go_ret
      exact ⟨rfl, B1⟩
    · go_enter Try.func4, Try.ntmps4
      go_wp2_with fail
      refine (awake_any _).mono ?_
      rintro e w1 ⟨rfl, B1⟩
      go_wp2_with fail
      refine (cadd_is a0 a1 s _ ha0 ha1 hb0 hb1 HS.out).mono ?_
      rintro e w2 ⟨rfl, rfl⟩
      go_wp2_with fail
      refine (cadd_is a1 a0 s _ hb0 hb1 ha0 ha1 HS2.out).mono ?_
      rintro e w2 ⟨rfl, rfl⟩
      go_wp2_with fail
      refine (cadd_is s a2 u _ hsr0 hsr1 hc0 hc1 HU.out).mono ?_
      rintro e w2 ⟨rfl, rfl⟩
      go_wp2_with fail
      refine (cadd_is a1 a2 t _ hb0 hb1 hc0 hc1 HT.out).mono ?_
      rintro e w2 ⟨rfl, rfl⟩
      go_wp2_with fail
      refine (cadd_is a0 t u _ ha0 ha1 htr0 htr1 HU2.out).mono ?_
      rintro e w2 ⟨rfl, rfl⟩
      go_wp2_with fail
      refine (cadd_is a0 a2 v _ ha0 ha1 hc0 hc1 HV.out).mono ?_
      rintro e w2 ⟨rfl, rfl⟩
      go_wp2_with fail
      refine (cadd_is a1 a2 t _ hb0 hb1 hc0 hc1 HT.out).mono ?_
      rintro e w2 ⟨rfl, rfl⟩
      go_wp2_with fail
      refine (cadd_is a0 0 a0 _ ha0 ha1 (by decide) (by decide) H6.out).mono ?_
      rintro e w2 ⟨rfl, rfl⟩
      go_wp2_with fail
      refine (cadd_is a0 _ _ _ ha0 ha1 (by decide) (by decide) H7.out).mono ?_
      rintro e w2 ⟨rfl, rfl⟩
      go_wp2
      go_ret
      exact ⟨rfl, B1⟩
  -- go_enter Try.func4, Try.ntmps4
  -- go_wp2
  -- go_ret
  -- exact ⟨rfl, by repeat (first | exact Grown.refl _ | apply Grown.drew | apply Grown.alloc)⟩

/-! ### THE ROW's STEP: WRITTEN OUT: LEAVE IT -/
set_option maxRecDepth 100000 in
theorem lifted (os : Os) (started : os.Started) (H : Type) (enc : TypeId × Value → H) :
    ReturnsInHanded {} Try.checked os 4 .any (Rows.costOrderSpec.pre6 enc Try.prog Try.f4 Rows.costOrderRow.domain false) (Rows.costOrderSpec.post enc Try.prog Try.f4 false true false false) := by
  refine returnsInHanded_of_change (C := Try.checked) own started (by kernel_rfl) Try.func4
    (ChangeSpec.witness6 (enc := enc) (C := Try.checked) false ⟨#[], #[.int .u64 0, .int .u64 0, .int .u64 0], []⟩ 8 (by kernel_rfl) (by kernel_rfl) (by kernel_rfl) (by kernel_rfl)) ?_
  intro W base args ds gs before hval0 hW hcnd _
  have hval : ∀ (j : Nat) t v, Try.f4.params[j]? = some t → args[j]? = some v → Value.okWide Try.prog W .any base t v := hval0
  have hW' := hW
  obtain ⟨p, q, hA0, hV, rfl, hfz, hnd⟩ := hW
  have hA : DataW.TrodAll enc Try.prog W 0 (fun _ => true) true Try.f4.params.toList args.toList ds p := hA0
  rw [Try.params4] at hA hval
  obtain ⟨v0, vs0, d0, ds0, p0, q0, hargs, rfl, rfl, h0, r0⟩ := trodAll_cons hA
  obtain ⟨v1, vs1, d1, ds1, p1, q1, rfl, rfl, rfl, h1, r1⟩ := trodAll_cons r0
  obtain ⟨v2, vs2, d2, ds2, p2, q2, rfl, rfl, rfl, h2, r2⟩ := trodAll_cons r1
  obtain ⟨rfl, rfl, rfl⟩ := trodAll_nil r2
  obtain rfl : args = #[v0, v1, v2] := by cases args; simp_all
  obtain ⟨rfl, rfl⟩ := trodVars_none hV
  obtain ⟨a0, rfl, rfl, rfl, w0⟩ := open_int Try.underlying23 (hval 0 23 v0 rfl rfl) h0
  obtain ⟨a1, rfl, rfl, rfl, w1⟩ := open_int Try.underlying23 (hval 1 23 v1 rfl rfl) h1
  obtain ⟨a2, rfl, rfl, rfl, w2⟩ := open_int Try.underlying23 (hval 2 23 v2 rfl rfl) h2
  clear hA0 hval0
  refine (walk a0 a1 a2 w0 w1 w2 W).mono fun e W' ⟨he, bel⟩ => ?_
  subst he
  exact ⟨_, rfl, _, _, _, [], _, [], hW', trodAll_mk1 (shut_bool Try.underlying4 _), (trodAll_cons_mk (shut_int Try.underlying23 w0) (trodAll_cons_mk (shut_int Try.underlying23 w1) (trodAll_cons_mk (shut_int Try.underlying23 w2) trodAll_mk0))), rfl, bel.frame _, fun h => by cases h⟩

theorem over : Rows.costOrderRow.holds Try.pinned (OpenSpec.ofChange Rows.costOrderSpec) :=
  OpenClaim.holds_of_wide 4 Try.f4 rfl rfl rfl rfl rfl rfl rfl ⟨rfl, rfl, rfl, rfl, rfl⟩ rfl rfl rfl rfl rfl (by kernel_rfl) Try.func4 (by kernel_rfl)
    (of_decide_eq_true (by kernel_rfl)) (by unfold Func.isWrapper; first | (rw [if_pos (by decide +kernel)]; kernel_rfl) | (rw [if_neg (by decide +kernel)]; exact ⟨rfl, rfl⟩))
    (fun os started H enc _ => lifted os started H enc)

/-- ████ THE STATEMENT ████ -/
theorem proved : Rows.CostOrderSaid :=
  over
#print axioms proved
end Go.Proofs.Ytmgaimpnjnkofaa.costOrder
