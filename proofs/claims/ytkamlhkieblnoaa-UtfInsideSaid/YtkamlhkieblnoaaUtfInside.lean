/- For every number and every byte UtfInside answers true, and turns nothing that was there. No condition. -/
import Derived.Test.YtkamlhkieblnoaaRows
import Derived.Test.YtkamlhkieblnoaaUtfWalkK
import Derived.WalkKit
import Derived.ChangeOld
import Derived.Below
import Derived.ProofKit
import Derived.OpenShut
import Derived.ShutString
namespace Go.Proofs.Ytkamlhkieblnoaa.utfInside
open Go.ChangeShapes Go.WideShapes Go.ChangeAt Go.RowKit
open Go.ChangeMaps (open_string shut_string)
set_option linter.unusedVariables false      -- a walk need not use every 'w<i>' (that an integer argument fits its kind)

theorem own : ownKnob Try.prog.godebug = none := by kernel_rfl

theorem enc_tail (n : Int) (h : Utf.good n = true) (i : Nat) (h1 : 1 ≤ i) (h2 : i < Utf.size n) : ∃ x r, (Utf.enc n).drop i = x :: r ∧ 128 ≤ x ∧ x < 192 := by
  have hg := (Utf.good_iff n).1 h
  unfold Utf.size at h2
  unfold Utf.enc
  split at h2
  · omega
  · rename_i a
    rw [if_neg a]
    split at h2
    · rename_i b
      rw [if_pos b]
      obtain rfl : i = 1 := by omega
      exact ⟨_, _, rfl, by omega, by omega⟩
    · rename_i b
      rw [if_neg b]
      split at h2
      · rename_i c
        rw [if_pos c]
        obtain rfl | rfl : i = 1 ∨ i = 2 := by omega
        · exact ⟨_, _, rfl, by omega, by omega⟩
        · exact ⟨_, _, rfl, by omega, by omega⟩
      · rename_i c
        rw [if_neg c]
        obtain rfl | rfl | rfl : i = 1 ∨ i = 2 ∨ i = 3 := by omega
        · exact ⟨_, _, rfl, by omega, by omega⟩
        · exact ⟨_, _, rfl, by omega, by omega⟩
        · exact ⟨_, _, rfl, by omega, by omega⟩
theorem inside (n : Int) (h : Utf.good n = true) (i : Nat) (h1 : 1 ≤ i) (h2 : i < Utf.size n) : Utf.takeL ((Utf.enc n).drop i) = none ∧ Utf.IsRead ((Utf.enc n).drop i) none := by
  obtain ⟨x, r, e, hx, hx'⟩ := enc_tail n h i h1 h2
  have ht : Utf.takeL ((Utf.enc n).drop i) = none := by
    rw [e]
    exact Utf.takeL_short x r (.inl (by unfold Utf.byHead; rw [if_neg (by omega), if_pos hx']))
  have hp : ∀ b ∈ (Utf.enc n).drop i, 0 ≤ b := fun b hb => (Utf.enc_bytes n h b (List.mem_of_mem_drop hb)).1
  refine ⟨ht, Utf.read_stop (d := []) rfl rfl (by rw [e]; simp) ?_⟩
  have := Utf.takeL_is _ hp
  rwa [ht] at this

/-! ### STEP 1: THE WALK: the Go text returns true. 'Grown w w'': the world has at most new blocks (Derived/RowKit3.lean). Part the cases AHEAD of 'go_enter' where a test parts the walk; take each callee by a contract of your own. -/
theorem walk (a0 : Int) (a1 : Int) (w0 : (Lit.int .i64 a0).wf = true) (w1 : (Lit.int .u8 a1).wf = true) (w : World) :
    Calls Try.prog 8 #[.int .i64 a0, .int .u8 a1] w fun e w' => e = .returned (.bool true) ∧ Below w.heap.size w w' := by
  obtain ⟨hn0, hn1⟩ := bounds_i64 w0
  obtain ⟨hk0, hk1⟩ := bounds_u8 w1
  clear w0 w1
  have hwf : ∀ z ∈ [a0], (Lit.int .i64 z).wf = true := by intro z hz; simp at hz; subst hz; exact WalkArith.wf_i64 ⟨hn0, hn1⟩
  have HW := Lib.hid hwf
  clear hwf
  cases hg : Utf.good a0 with
  | false =>
    have hag : Utf.allGood [a0] = false := by simp [Utf.allGood, hg]
    have HA := Lib.hid hag
    have HG := Lib.hid hg
    clear hag hg
    go_enter Try.func8, Try.ntmps8
    go_wp2_with fail
    refine (awake_any _).mono ?_
    rintro e w1 ⟨rfl, B1⟩
    go_wp2_with fail
    refine (put_bad _ _ _ [a0] _ (Sl.newi [a0] HW.out (by simp [maxLen])) (by simp) HA.out).mono ?_
    rintro e w2 ⟨rfl, hb2⟩
    have B2 := below_over B1 hb2
    clear hb2
    go_wp2_with fail
    refine (good_is a0 false _ HG.out hn0 hn1).mono ?_
    rintro e w3 ⟨rfl, rfl⟩
    go_wp2
    go_ret
    exact ⟨rfl, B2⟩
  | true =>
    have hgi := (Utf.good_iff a0).1 hg
    have hag : Utf.allGood [a0] = true := by simp [Utf.allGood, hg]
    have hpe : Utf.put [a0] = Utf.enc a0 := by simp [Utf.put]
    have HA := Lib.hid hag
    have HG := Lib.hid hg
    have HP := Lib.hid hpe
    have hz4 := Utf.size_le a0
    have hz1 := Utf.size_pos a0
    clear hag hg hpe
    by_cases hsm : a0 < 128
    · have hz : Utf.size a0 = 1 := by unfold Utf.size; rw [if_pos hsm]
      have hel : (Utf.enc a0).length = 1 := by rw [Utf.enc_length, hz]
      have HE := Lib.hid hel
      clear hz4 hz1 hz hel hgi
      go_enter Try.func8, Try.ntmps8
      go_wp2_with fail
      refine (awake_any _).mono ?_
      rintro e w1 ⟨rfl, B1⟩
      go_wp2_with fail
      refine (put_is _ _ _ [a0] (Utf.enc a0) 1 _ (Sl.newi [a0] HW.out (by simp [maxLen])) (by simp) HA.out HP.out HE.out).mono ?_
      rintro e w2 ⟨g2, c2, rfl, hs2, hb2⟩
      have B2 := below_over B1 hb2
      clear hb2 hs2
      go_wp2
      go_ret
      exact ⟨rfl, B2⟩
    · have hz2 : 2 ≤ Utf.size a0 := by unfold Utf.size; rw [if_neg hsm]; split <;> (try split) <;> omega
      have hel : (Utf.enc a0).length = Utf.size a0 := Utf.enc_length a0
      obtain ⟨t, ht⟩ : ∃ t : Nat, a1 % ((Utf.size a0 : Int) - 1) = (t : Int) := ⟨(a1 % ((Utf.size a0 : Int) - 1)).toNat, (Int.toNat_of_nonneg (Int.emod_nonneg _ (by omega))).symm⟩
      have htl : t + 1 < Utf.size a0 := by
        have := Int.emod_lt_of_pos a1 (show (0 : Int) < (Utf.size a0 : Int) - 1 from by omega)
        omega
      have hin := inside a0 HG.out (1 + t) (by omega) (by omega)
      have hd2 : decide ((Utf.size a0 : Int) < 2) = false := by simp; omega
      have HE := Lib.hid hel
      have HI := Lib.hid hin
      clear hel hin hgi
      go_enter Try.func8, Try.ntmps8
      go_wp2_with fail
      refine (awake_any _).mono ?_
      rintro e w1 ⟨rfl, B1⟩
      go_wp2_with fail
      refine (put_is _ _ _ [a0] (Utf.enc a0) (Utf.size a0) _ (Sl.newi [a0] HW.out (by simp [maxLen])) (by simp) HA.out HP.out HE.out).mono ?_
      rintro e w2 ⟨g2, c2, rfl, hs2, hb2⟩
      have B2 := below_over B1 hb2
      have hmc := hs2.2.1
      have hcm := hs2.2.2.1
      unfold maxLen at hcm
      have hp := hs2.piece (1 + t) (Utf.size a0 - (1 + t)) (by omega)
      rw [Nat.zero_add, List.take_of_length_le (by rw [List.length_drop, HE.out]; exact Nat.le_refl _)] at hp
      have HPC := Lib.hid hp
      clear hb2 hs2 hp
      go_wp2_with fail
      refine (take_not _ _ _ _ _ HPC.out HI.out.1).mono ?_
      rintro e w3 ⟨rfl, hb3⟩
      have B3 : Below w.heap.size w w3 := B2.trans (hb3.mono B2.size)
      have HPD := Lib.hid (HPC.out.below hb3 (Nat.le_refl _))
      clear hb3
      go_wp2_with fail
      refine (read_bad _ _ _ _ _ HPD.out (by omega) HI.out.2).mono ?_
      rintro e w4 ⟨rfl, hb4⟩
      have B4 : Below w.heap.size w w4 := B3.trans (hb4.mono B3.size)
      go_wp2
      go_ret
      exact ⟨rfl, B4⟩
  -- go_enter Try.func8, Try.ntmps8
  -- go_wp2
  -- go_ret
  -- exact ⟨rfl, by repeat (first | exact Grown.refl _ | apply Grown.drew | apply Grown.alloc)⟩

/-! ### THE ROW's STEP: WRITTEN OUT: LEAVE IT -/
set_option maxRecDepth 100000 in
theorem lifted (os : Os) (started : os.Started) (H : Type) (enc : TypeId × Value → H) :
    ReturnsInHanded {} Try.checked os 8 .any (Rows.utfInsideSpec.pre6 enc Try.prog Try.f8 Rows.utfInsideRow.domain false) (Rows.utfInsideSpec.post enc Try.prog Try.f8 false true false false) := by
  refine returnsInHanded_of_change (C := Try.checked) own started (by kernel_rfl) Try.func8
    (ChangeSpec.witness6 (enc := enc) (C := Try.checked) false ⟨#[], #[.int .i64 0, .int .u8 0], []⟩ 8 (by kernel_rfl) (by kernel_rfl) (by kernel_rfl) (by kernel_rfl)) ?_
  intro W base args ds gs before hval0 hW hcnd _
  have hval : ∀ (j : Nat) t v, Try.f8.params[j]? = some t → args[j]? = some v → Value.okWide Try.prog W .any base t v := hval0
  have hW' := hW
  obtain ⟨p, q, hA0, hV, rfl, hfz, hnd⟩ := hW
  have hA : DataW.TrodAll enc Try.prog W 0 (fun _ => true) true Try.f8.params.toList args.toList ds p := hA0
  rw [Try.params8] at hA hval
  obtain ⟨v0, vs0, d0, ds0, p0, q0, hargs, rfl, rfl, h0, r0⟩ := trodAll_cons hA
  obtain ⟨v1, vs1, d1, ds1, p1, q1, rfl, rfl, rfl, h1, r1⟩ := trodAll_cons r0
  obtain ⟨rfl, rfl, rfl⟩ := trodAll_nil r1
  obtain rfl : args = #[v0, v1] := by cases args; simp_all
  obtain ⟨rfl, rfl⟩ := trodVars_none hV
  obtain ⟨a0, rfl, rfl, rfl, w0⟩ := open_int Try.underlying3 (hval 0 3 v0 rfl rfl) h0
  obtain ⟨a1, rfl, rfl, rfl, w1⟩ := open_int Try.underlying5 (hval 1 5 v1 rfl rfl) h1
  clear hA0 hval0
  refine (walk a0 a1 w0 w1 W).mono fun e W' ⟨he, bel⟩ => ?_
  subst he
  exact ⟨_, rfl, _, _, _, [], _, [], hW', trodAll_mk1 (shut_bool Try.underlying4 _), (trodAll_cons_mk (shut_int Try.underlying3 w0) (trodAll_cons_mk (shut_int Try.underlying5 w1) trodAll_mk0)), rfl, bel.frame _, fun h => by cases h⟩

theorem over : Rows.utfInsideRow.holds Try.pinned (OpenSpec.ofChange Rows.utfInsideSpec) :=
  OpenClaim.holds_of_wide 8 Try.f8 rfl rfl rfl rfl rfl rfl rfl ⟨rfl, rfl, rfl, rfl, rfl⟩ rfl rfl rfl rfl rfl (by kernel_rfl) Try.func8 (by kernel_rfl)
    (of_decide_eq_true (by kernel_rfl)) (by unfold Func.isWrapper; first | (rw [if_pos (by decide +kernel)]; kernel_rfl) | (rw [if_neg (by decide +kernel)]; exact ⟨rfl, rfl⟩))
    (fun os started H enc _ => lifted os started H enc)

/-- ████ THE STATEMENT ████ -/
theorem proved : Rows.UtfInsideSaid :=
  over
#print axioms proved
end Go.Proofs.Ytkamlhkieblnoaa.utfInside
