/- For every two lists of bytes LineTells answers true, and turns nothing that was there. No condition. -/
import Derived.Test.YtjdkmfcjflggfaaRows
import Derived.Test.YtjdkmfcjflggfaaLineAwake
import Derived.WalkKit
import Derived.ProofKit
import Derived.OpenShut
import Derived.ShutString
import Derived.ChangeOld
import Derived.Below
namespace Go.Proofs.Ytjdkmfcjflggfaa.lineTells
open Go.ChangeShapes Go.WideShapes Go.ChangeAt Go.RowKit
open Go.ChangeMaps (open_string shut_string)
set_option linter.unusedVariables false

theorem own : ownKnob Try.prog.godebug = none := by kernel_rfl
theorem laidOut : laidOutB Try.prog = true := by kernel_rfl

/-- WHAT THE WALK IS TOLD OF A SLICE OF INTEGERS THAT CAME IN: it is nil; or it leads to a row of 'cap' cells, the numbers 'zs' (the first 'len' are its elements, the rest its spare room), each fitting its kind. -/
def IsRow (k : IntKind) (w : World) (a : Option Addr) (len cap : Nat) (zs : List Int) : Prop :=
  (a = none ∧ len = 0 ∧ cap = 0 ∧ zs = []) ∨
  ∃ x, a = some x ∧ len ≤ cap ∧ cap ≤ maxLen ∧ zs.length = cap ∧ (∀ i, i < zs.length → w.cell? (x.add i) = some (.int k (zs.getD i 0))) ∧ ∀ n ∈ zs, (Lit.int k n).wf = true

/-! ### STEP 1: THE WALK: the Go text returns true, AND WRITES NOTHING THAT WAS THERE: 'Below w.heap.size w w'' (Derived/Below.lean: '.refl', '.alloc', '.drew', '.setCell' at a new block, '.trans'). Open each 'IsRow' by 'rcases' AHEAD of 'go_enter'; part every test ahead of the walk. -/
theorem walk (a0 : Option Addr) (len0 cap0 : Nat) (z0 : List Int) (a1 : Option Addr) (len1 cap1 : Nat) (z1 : List Int) (w : World) (w0 : IsRow .u8 w a0 len0 cap0 z0) (w1 : IsRow .u8 w a1 len1 cap1 z1) :
    Calls Try.prog 3 #[.slice a0 len0 cap0, .slice a1 len1 cap1] w fun e w' => e = .returned (.bool true) ∧ Below w.heap.size w w' := by
  have hn00 : a0 = none → cap0 = 0 := by
    rcases w0 with ⟨_, _, h, _⟩ | ⟨x, h, _⟩
    · exact fun _ => h
    · intro h'; rw [h] at h'; cases h'
  have HN0 := Lib.hid hn00
  clear hn00
  have hs0 := Sl.of_row w0
  generalize z0.take len0 = xs at hs0
  have hcm0 := hs0.2.2.1
  have hnc0 := hs0.2.1
  unfold maxLen at hcm0
  have HS := Lib.hid hs0
  clear hs0 w0
  have hn01 : a1 = none → cap1 = 0 := by
    rcases w1 with ⟨_, _, h, _⟩ | ⟨x, h, _⟩
    · exact fun _ => h
    · intro h'; rw [h] at h'; cases h'
  have HN1 := Lib.hid hn01
  clear hn01
  have hs1 := Sl.of_row w1
  generalize z1.take len1 = ys at hs1
  have hcm1 := hs1.2.2.1
  have hnc1 := hs1.2.1
  unfold maxLen at hcm1
  have HT := Lib.hid hs1
  clear hs1 w1
  by_cases g0 : 1000 < len0
  · have hi0 : (1000 : Int) < (len0 : Int) := by omega
    go_enter Try.func3, Try.ntmps3
    go_wp2_with fail
    refine (awake_any _).mono ?_
    rintro e w1 ⟨rfl, B1⟩
    go_wp2
    go_ret
    exact ⟨rfl, B1⟩
  have hi0 : ¬ (1000 : Int) < (len0 : Int) := by omega
  by_cases g1 : 1000 < len1
  · have hi1 : (1000 : Int) < (len1 : Int) := by omega
    go_enter Try.func3, Try.ntmps3
    go_wp2_with fail
    refine (awake_any _).mono ?_
    rintro e w1 ⟨rfl, B1⟩
    go_wp2
    go_ret
    exact ⟨rfl, B1⟩
  clear hi0
  have hi0 : decide ((1000 : Int) < (len0 : Int)) = false := by simp; omega
  have hi1 : decide ((1000 : Int) < (len1 : Int)) = false := by simp; omega
  obtain ⟨r, hr⟩ : ∃ r, Line.bare ys = r := ⟨_, rfl⟩
  have HR := Lib.hid hr
  clear hr
  go_enter Try.func3, Try.ntmps3
  go_wp2_with fail
  refine (awake_any _).mono ?_
  rintro e w1 ⟨rfl, B1⟩
  have S1 := Lib.hid (HS.out.below B1 (Nat.le_refl _))
  have T1 := Lib.hid (HT.out.below B1 (Nat.le_refl _))
  go_wp2_with fail
  refine (split_any _ _ _ xs _ S1.out HN0.out (by omega)).mono ?_
  rintro e w2 ⟨p2, m2, c2, r2, rfl, hy2, hb2, _, hw2⟩
  have S2 := Lib.hid (S1.out.below hw2 (Nat.le_refl _))
  have T2 := Lib.hid (T1.out.below hw2 (Nat.le_refl _))
  have Y2 := Lib.hid hy2
  have HB2 := Lib.hid hb2
  have B2 := B1.trans (hw2.mono B1.size)
  clear hy2 hb2 hw2
  go_wp2_with fail
  refine (rsplit_any _ _ _ xs _ S2.out (by omega)).mono ?_
  rintro e w3 ⟨p3, m3, c3, r3, rfl, hy3, hb3, _, hw3⟩
  have T3 := Lib.hid (T2.out.below hw3 (Nat.le_refl _))
  have Y3 := Lib.hid (Y2.out.below hw3 (Nat.le_refl _))
  have Z3 := Lib.hid hy3
  have HB3 := Lib.hid hb3
  have B3 := B2.trans (hw3.mono B2.size)
  clear hy3 hb3 hw3
  go_wp2_with fail
  refine (bsames_is _ _ _ _ _ _ r2 r3 true _ Y3.out Z3.out (by rw [HB2.out, HB3.out]; simp)).mono ?_
  rintro e w4 ⟨rfl, hq4⟩
  have T4 := Lib.hid (T3.out.drawn hq4)
  have B4 := below_drawn B3 hq4
  clear hq4
  go_wp2_with fail
  refine (fields_any _ _ _ ys _ T4.out HN1.out (by omega)).mono ?_
  rintro e w5 ⟨p5, m5, c5, r5, rfl, hy5, hb5, _, hw5⟩
  have T5 := Lib.hid (T4.out.below hw5 (Nat.le_refl _))
  have Y5 := Lib.hid hy5
  have HB5 := Lib.hid hb5
  have B5 := B4.trans (hw5.mono B4.size)
  clear hy5 hb5 hw5
  go_wp2_with fail
  refine (rfields_any _ _ _ ys _ T5.out (by omega)).mono ?_
  rintro e w6 ⟨p6, m6, c6, r6, rfl, hy6, hb6, _, hw6⟩
  have T6 := Lib.hid (T5.out.below hw6 (Nat.le_refl _))
  have Y6 := Lib.hid (Y5.out.below hw6 (Nat.le_refl _))
  have Z6 := Lib.hid hy6
  have HB6 := Lib.hid hb6
  have B6 := B5.trans (hw6.mono B5.size)
  clear hy6 hb6 hw6
  go_wp2_with fail
  refine (bsames_is _ _ _ _ _ _ r5 r6 true _ Y6.out Z6.out (by rw [HB5.out, HB6.out]; simp)).mono ?_
  rintro e w7 ⟨rfl, hq7⟩
  have T7 := Lib.hid (T6.out.drawn hq7)
  have B7 := below_drawn B6 hq7
  clear hq7
  go_wp2_with fail
  refine (bare_any _ _ _ ys _ T7.out HN1.out (by omega)).mono ?_
  rintro e w8 ⟨rfl, hw8⟩
  rw [HR.out]
  have T8 := Lib.hid (T7.out.below hw8 (Nat.le_refl _))
  have B8 := B7.trans (hw8.mono B7.size)
  clear hw8
  go_wp2_with fail
  refine (rbare_is _ _ _ ys r _ T8.out (by omega) HR.out).mono ?_
  rintro e w9 ⟨rfl, hw9⟩
  have B9 := B8.trans (hw9.mono B8.size)
  clear hw9
  go_wp2
  go_ret
  exact ⟨rfl, B9⟩

/-! ### THE ROW's STEP: WRITTEN OUT: LEAVE IT -/
set_option maxRecDepth 100000 in
theorem lifted (os : Os) (started : os.Started) (H : Type) (enc : TypeId × Value → H) :
    ReturnsInHanded {} Try.checked os 3 .any (Rows.lineTellsSpec.pre6 enc Try.prog Try.f3 Rows.lineTellsRow.domain false) (Rows.lineTellsSpec.post enc Try.prog Try.f3 false true false false) := by
  refine returnsInHanded_of_change (C := Try.checked) own started (by kernel_rfl) Try.func3
    (ChangeSpec.witness6 (enc := enc) (C := Try.checked) false ⟨#[], #[.slice none 0 0, .slice none 0 0], []⟩ 8 (by kernel_rfl) (by kernel_rfl) (by kernel_rfl) (by kernel_rfl)) ?_
  intro W base args ds gs before hval0 hW hcnd _
  have hval : ∀ (j : Nat) t v, Try.f3.params[j]? = some t → args[j]? = some v → Value.okWide Try.prog W .any base t v := hval0
  have hW' := hW
  obtain ⟨p, q, hA0, hV, rfl, hfz, hnd⟩ := hW
  have hA : DataW.TrodAll enc Try.prog W 0 (fun _ => true) true Try.f3.params.toList args.toList ds p := hA0
  rw [Try.params3] at hA hval
  obtain ⟨v0, vs0, d0, ds0, p0, q0, hargs, rfl, rfl, h0, r0⟩ := trodAll_cons hA
  obtain ⟨v1, vs1, d1, ds1, p1, q1, rfl, rfl, rfl, h1, r1⟩ := trodAll_cons r0
  obtain ⟨rfl, rfl, rfl⟩ := trodAll_nil r1
  obtain rfl : args = #[v0, v1] := by cases args; simp_all
  obtain ⟨rfl, rfl⟩ := trodVars_none hV
  obtain ⟨a0, len0, cap0, rfl⟩ := okWide_slice Try.underlying22 (hval 0 22 v0 rfl rfl)
  have k0 := h0
  have lt0 : ∀ x ∈ p0, x.block < W.heap.size := by obtain ⟨m, hm⟩ := k0; exact DataW.trod_lt m _ _ _ hm
  obtain ⟨z0, w0⟩ : ∃ zs, IsRow .u8 W a0 len0 cap0 zs := by
    obtain ⟨fuel, hf⟩ := h0
    rcases open_ints Try.underlying22 Try.underlying5 (by kernel_rfl) hf with ⟨hcs, _⟩ | ⟨x, l, c, zs, hcs, _, hl, hm, hz, _, hcell, hwz⟩
    · simp [Value.cells] at hcs
      obtain ⟨rfl, rfl, rfl⟩ := hcs
      exact ⟨[], .inl ⟨rfl, rfl, rfl, rfl⟩⟩
    · simp [Value.cells] at hcs
      obtain ⟨rfl, rfl, rfl⟩ := hcs
      exact ⟨zs, .inr ⟨_, rfl, hl, hm, by simpa using hz, hcell, hwz⟩⟩
  obtain ⟨a1, len1, cap1, rfl⟩ := okWide_slice Try.underlying22 (hval 1 22 v1 rfl rfl)
  have k1 := h1
  have lt1 : ∀ x ∈ p1, x.block < W.heap.size := by obtain ⟨m, hm⟩ := k1; exact DataW.trod_lt m _ _ _ hm
  obtain ⟨z1, w1⟩ : ∃ zs, IsRow .u8 W a1 len1 cap1 zs := by
    obtain ⟨fuel, hf⟩ := h1
    rcases open_ints Try.underlying22 Try.underlying5 (by kernel_rfl) hf with ⟨hcs, _⟩ | ⟨x, l, c, zs, hcs, _, hl, hm, hz, _, hcell, hwz⟩
    · simp [Value.cells] at hcs
      obtain ⟨rfl, rfl, rfl⟩ := hcs
      exact ⟨[], .inl ⟨rfl, rfl, rfl, rfl⟩⟩
    · simp [Value.cells] at hcs
      obtain ⟨rfl, rfl, rfl⟩ := hcs
      exact ⟨zs, .inr ⟨_, rfl, hl, hm, by simpa using hz, hcell, hwz⟩⟩
  clear hA0 hval0
  refine (walk a0 len0 cap0 z0 a1 len1 cap1 z1 W w0 w1).mono fun e W' ⟨he, bel⟩ => ?_
  subst he
  exact ⟨_, rfl, _, _, _, [], _, [], hW', trodAll_mk1 (shut_bool Try.underlying4 _), (trodAll_cons_mk (Below.trod laidOut (by kernel_rfl) (of_decide_eq_true (by kernel_rfl)) k0 bel lt0) (trodAll_cons_mk (Below.trod laidOut (by kernel_rfl) (of_decide_eq_true (by kernel_rfl)) k1 bel lt1) trodAll_mk0)), rfl, bel.frame _, fun h => by cases h⟩

theorem over : Rows.lineTellsRow.holds Try.pinned (OpenSpec.ofChange Rows.lineTellsSpec) :=
  OpenClaim.holds_of_wide 3 Try.f3 rfl rfl rfl rfl rfl rfl rfl ⟨rfl, rfl, rfl, rfl, rfl⟩ rfl rfl rfl rfl rfl (by kernel_rfl) Try.func3 (by kernel_rfl)
    (of_decide_eq_true (by kernel_rfl)) (by unfold Func.isWrapper; first | (rw [if_pos (by decide +kernel)]; kernel_rfl) | (rw [if_neg (by decide +kernel)]; exact ⟨rfl, rfl⟩))
    (fun os started H enc _ => lifted os started H enc)

/-- ████ THE STATEMENT ████ -/
theorem proved : Rows.LineTellsSaid := over
#print axioms proved
end Go.Proofs.Ytjdkmfcjflggfaa.lineTells
