/- For every automaton, all words, every state and every sign, TrieTells answers true, and turns nothing that was there. No condition. -/
import Derived.Test.YtehdojhblekgeaaRows
import Derived.Test.YtehdojhblekgeaaTrieAwake
import Derived.Test.YtehdojhblekgeaaTrieLawS
import Derived.Test.YtehdojhblekgeaaTrieOpen
import Derived.Test.YtehdojhblekgeaaTrieRefC
import Derived.Test.YtehdojhblekgeaaTrieRefE
import Derived.WalkKit
import Derived.ProofKit
import Derived.OpenShut
import Derived.ShutString
import Derived.ChangeOld
import Derived.Below
import Derived.Deep.Matrix
import Derived.SizedLaws
namespace Go.Proofs.Ytehdojhblekgeaa.trieTells
open Go.ChangeShapes Go.WideShapes Go.ChangeAt Go.RowKit
set_option linter.unusedVariables false

theorem own : ownKnob Try.prog.godebug = none := by kernel_rfl
theorem laidOut : laidOutB Try.prog = true := by kernel_rfl

/-- a slice of integers that came in -/
def IsRow (k : IntKind) (w : World) (a : Option Addr) (len cap : Nat) (zs : List Int) : Prop :=
  (a = none ∧ len = 0 ∧ cap = 0 ∧ zs = []) ∨
  ∃ x, a = some x ∧ len ≤ cap ∧ cap ≤ maxLen ∧ zs.length = cap ∧ (∀ i, i < zs.length → w.cell? (x.add i) = some (.int k (zs.getD i 0))) ∧ ∀ n ∈ zs, (Lit.int k n).wf = true

open Tri

/-! ### STEP 1: the walk -/
set_option maxHeartbeats 6400000 in
set_option maxRecDepth 100000 in
theorem walk (a0 : Option Addr) (len0 cap0 : Nat) (x0 : List Sw) (a1 : Option Addr) (len1 cap1 : Nat) (x1 : List Wd) (a2 : Int) (a3 : Int) (w : World) (w0 : Ss w a0 len0 cap0 x0) (n0 : a0 = none → cap0 = 0) (w1 : Ws w a1 len1 cap1 x1) (n1 : a1 = none → cap1 = 0) (w2 : (Lit.int .i64 a2).wf = true) (w3 : (Lit.int .i64 a3).wf = true) :
    Calls Try.prog 3 #[.slice a0 len0 cap0, .slice a1 len1 cap1, .int .i64 a2, .int .i64 a3] w fun e w' => e = .returned (.bool true) ∧ Below w.heap.size w w' := by
  have hcm0 := w0.2.2.1
  have hnc0 := w0.2.1
  unfold maxLen at hcm0
  have HX0 := Lib.hid w0
  clear w0 n0
  have hcm1 := w1.2.2.1
  have hnc1 := w1.2.1
  unfold maxLen at hcm1
  have HX1 := Lib.hid w1
  have HXN1 := Lib.hid n1
  clear w1 n1
  have HF := Lib.hid w2
  obtain ⟨⟨gl, ge⟩, hg⟩ : ∃ g, made (nums x1) = g := ⟨_, rfl⟩
  obtain ⟨⟨to, is⟩, hst⟩ : ∃ r, Tri.step (sts x0) a2 a3 = r := ⟨_, rfl⟩
  obtain ⟨ok, hok⟩ : ∃ r, check (sts x0) = r := ⟨_, rfl⟩
  have HG := Lib.hid hg
  have HST := Lib.hid hst
  have HOK := Lib.hid hok
  clear hg hst hok w2 w3
  go_enter Try.func3, Try.ntmps3
  go_wp2_with fail
  refine (awake_any _).mono ?_
  rintro e v1 ⟨rfl, B1⟩
  have S1 := Lib.hid (HX0.out.below B1 (Nat.le_refl _))
  have X1 := Lib.hid (HX1.out.below B1 (Nat.le_refl _))
  go_wp2_with fail
  refine (rfew10_is a0 len0 cap0 x0 500 (by omega) v1 S1.out).mono ?_
  rintro e v2 ⟨he, hv2⟩
  obtain rfl := hv2.symm
  rcases he with rfl | ⟨rfl, -, hn500⟩
  · go_wp2
    go_ret
    exact ⟨rfl, B1⟩
  go_wp2_with fail
  refine (small_is a1 len1 cap1 x1 _ X1.out).mono ?_
  rintro e v3 ⟨he, rfl⟩
  rcases he with rfl | ⟨rfl, -, hn60⟩
  · go_wp2
    go_ret
    exact ⟨rfl, B1⟩
  go_wp2_with fail
  refine (tmake_is a1 len1 cap1 x1 _ _ X1.out HXN1.out HG.out).mono ?_
  rintro e v4 ⟨p4, n4, c4, y4, rfl, hs4, hst4, -, hb4⟩
  have B4 := B1.trans (hb4.mono B1.size)
  have S4 := Lib.hid (S1.out.below hb4 (Nat.le_refl _))
  have X4 := Lib.hid (X1.out.below hb4 (Nat.le_refl _))
  have Y4 := Lib.hid hs4
  have T4 := Lib.hid hst4
  clear hb4 hs4 hst4
  simp only []
  go_wp2_with fail
  refine (rmake10_is a1 len1 cap1 x1 _ _ X4.out HXN1.out HG.out).mono ?_
  rintro e v5 ⟨p5, n5, c5, y5, rfl, hs5, hst5, -, hb5⟩
  have B5 := B4.trans (hb5.mono B4.size)
  have S5 := Lib.hid (S4.out.below hb5 (Nat.le_refl _))
  have Y5 := Lib.hid (Y4.out.below hb5 (Nat.le_refl _))
  have Z5 := Lib.hid hs5
  have T5 := Lib.hid hst5
  clear hb5 hs5 hst5
  simp only []
  go_wp2_with fail
  refine (tstep_is a0 len0 cap0 x0 a2 a3 _ _ S5.out HF.out HST.out).mono ?_
  rintro e v6 ⟨rfl, hq6⟩
  have B6 := B5.trans (hq6.mono B5.size)
  have S6 := Lib.hid (S5.out.below hq6 (Nat.le_refl _))
  have Y6 := Lib.hid (Y5.out.below hq6 (Nat.le_refl _))
  have Z6 := Lib.hid (Z5.out.below hq6 (Nat.le_refl _))
  clear hq6
  simp only []
  go_wp2_with fail
  refine (rstep10_is a0 len0 cap0 x0 a2 a3 _ _ S6.out HST.out).mono ?_
  rintro e v7 ⟨rfl, hv7⟩
  obtain rfl := hv7.symm
  simp only []
  go_wp2_with fail
  refine (rsame10_is p4 p5 n4 n5 c4 c5 y4 y5 _ Y6.out Z6.out (by rw [T4.out, T5.out])).mono ?_
  rintro e v8 ⟨rfl, hq8⟩
  have B8 := below_drawn B6 hq8
  have S8 := Lib.hid (S6.out.drawn hq8)
  have hge : (ge == ge) = true := by simp
  have hto : (to == to) = true := by simp
  have his : (is == is) = true := by simp
  clear hq8
  go_wp2_with fail
  refine (tcheck_is a0 len0 cap0 x0 ok _ S8.out HOK.out).mono ?_
  rintro e v9 ⟨rfl, hb9⟩
  have B9 := B8.trans (hb9.mono B8.size)
  have S9 := Lib.hid (S8.out.below hb9 (Nat.le_refl _))
  clear hb9
  go_wp2_with fail
  refine (rcheck10_is a0 len0 cap0 x0 ok _ S9.out HOK.out).mono ?_
  rintro e v10 ⟨rfl, hb10⟩
  have B10 := B9.trans (hb10.mono B9.size)
  have hok : (ok == ok) = true := by simp
  clear hb10
  go_wp2
  go_ret
  exact ⟨rfl, B10⟩

set_option maxRecDepth 100000 in
theorem lifted (os : Os) (started : os.Started) (H : Type) (enc : TypeId × Value → H) :
    ReturnsInHanded {} Try.checked os 3 .any (Rows.trieTellsSpec.pre6 enc Try.prog Try.f3 Rows.trieTellsRow.domain false) (Rows.trieTellsSpec.post enc Try.prog Try.f3 false true false false) := by
  refine returnsInHanded_of_change (C := Try.checked) own started (by kernel_rfl) Try.func3
    (ChangeSpec.witness6 (enc := enc) (C := Try.checked) false ⟨#[], #[.slice none 0 0, .slice none 0 0, .int .i64 0, .int .i64 0], []⟩ 8 (by kernel_rfl) (by kernel_rfl) (by kernel_rfl) (by kernel_rfl)) ?_
  intro W base args ds gs before hval0 hW hcnd _
  have hval : ∀ (j : Nat) t v, Try.f3.params[j]? = some t → args[j]? = some v → Value.okWide Try.prog W .any base t v := hval0
  have hW' := hW
  obtain ⟨p, q, hA0, hV, rfl, hfz, hnd⟩ := hW
  have hA : DataW.TrodAll enc Try.prog W 0 (fun _ => true) true Try.f3.params.toList args.toList ds p := hA0
  rw [Try.params3] at hA hval
  obtain ⟨v0, vs0, d0, ds0, p0, q0, hargs, rfl, rfl, h0, r0⟩ := trodAll_cons hA
  obtain ⟨v1, vs1, d1, ds1, p1, q1, rfl, rfl, rfl, h1, r1⟩ := trodAll_cons r0
  obtain ⟨v2, vs2, d2, ds2, p2, q2, rfl, rfl, rfl, h2, r2⟩ := trodAll_cons r1
  obtain ⟨v3, vs3, d3, ds3, p3, q3, rfl, rfl, rfl, h3, r3⟩ := trodAll_cons r2
  obtain ⟨rfl, rfl, rfl⟩ := trodAll_nil r3
  obtain rfl : args = #[v0, v1, v2, v3] := by cases args; simp_all
  obtain ⟨rfl, rfl⟩ := trodVars_none hV
  obtain ⟨a0, len0, cap0, rfl⟩ := okWide_slice Try.underlying22 (hval 0 22 v0 rfl rfl)
  have k0 := h0
  have lt0 : ∀ x ∈ p0, x.block < W.heap.size := by obtain ⟨m, hm⟩ := k0; exact DataW.trod_lt m _ _ _ hm
  obtain ⟨x0, w0, n0⟩ : ∃ xs, Ss W a0 len0 cap0 xs ∧ (a0 = none → cap0 = 0) := by
    obtain ⟨fuel, hf⟩ := h0
    obtain ⟨a, l, c, xs, hcs, hrs, hnil⟩ := Ss.open hf
    simp only [Value.slice.injEq] at hcs
    obtain ⟨rfl, rfl, rfl⟩ := hcs
    exact ⟨xs, hrs, hnil⟩
  obtain ⟨a1, len1, cap1, rfl⟩ := okWide_slice Try.underlying23 (hval 1 23 v1 rfl rfl)
  have k1 := h1
  have lt1 : ∀ x ∈ p1, x.block < W.heap.size := by obtain ⟨m, hm⟩ := k1; exact DataW.trod_lt m _ _ _ hm
  obtain ⟨x1, w1, n1⟩ : ∃ xs, Ws W a1 len1 cap1 xs ∧ (a1 = none → cap1 = 0) := by
    obtain ⟨fuel, hf⟩ := h1
    rcases Go.Deep.open_int_rows Try.underlying23 Try.underlying35 Try.underlying3 (by kernel_rfl) (by kernel_rfl) hf with ⟨hcs, _⟩ | ⟨x, l, c, A, L, C, Z, hcs, _, hl, hm, _, hr⟩
    · simp [Value.cells] at hcs
      obtain ⟨rfl, rfl, rfl⟩ := hcs
      exact ⟨[], Ws.nil, fun _ => rfl⟩
    · simp [Value.cells] at hcs
      obtain ⟨rfl, rfl, rfl⟩ := hcs
      exact ⟨_, Ws.of_rows hl hm hr, fun h => by cases h⟩
  obtain ⟨a2, rfl, rfl, rfl, w2⟩ := open_int Try.underlying3 (hval 2 3 v2 rfl rfl) h2
  obtain ⟨a3, rfl, rfl, rfl, w3⟩ := open_int Try.underlying3 (hval 3 3 v3 rfl rfl) h3
  clear hA0 hval0
  refine (walk a0 len0 cap0 x0 a1 len1 cap1 x1 a2 a3 W w0 n0 w1 n1 w2 w3).mono fun e W' ⟨he, bel⟩ => ?_
  subst he
  exact ⟨_, rfl, _, _, _, [], _, [], hW', trodAll_mk1 (shut_bool Try.underlying4 _), (trodAll_cons_mk (Below.trod laidOut (by kernel_rfl) (of_decide_eq_true (by kernel_rfl)) k0 bel lt0) (trodAll_cons_mk (Below.trod laidOut (by kernel_rfl) (of_decide_eq_true (by kernel_rfl)) k1 bel lt1) (trodAll_cons_mk (shut_int Try.underlying3 w2) (trodAll_cons_mk (shut_int Try.underlying3 w3) trodAll_mk0)))), rfl, bel.frame _, fun h => by cases h⟩

theorem over : Rows.trieTellsRow.holds Try.pinned (OpenSpec.ofChange Rows.trieTellsSpec) :=
  OpenClaim.holds_of_wide 3 Try.f3 rfl rfl rfl rfl rfl rfl rfl ⟨rfl, rfl, rfl, rfl, rfl⟩ rfl rfl rfl rfl rfl (by kernel_rfl) Try.func3 (by kernel_rfl)
    (of_decide_eq_true (by kernel_rfl)) (by unfold Func.isWrapper; first | (rw [if_pos (by decide +kernel)]; kernel_rfl) | (rw [if_neg (by decide +kernel)]; exact ⟨rfl, rfl⟩))
    (fun os started H enc _ => lifted os started H enc)

/-- the statement -/
theorem proved : Rows.TrieTellsSaid := over
#print axioms proved
end Go.Proofs.Ytehdojhblekgeaa.trieTells
