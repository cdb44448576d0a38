/- For all words and every automaton, DawgTells answers true, and turns nothing that was there. No condition. -/
import Derived.Test.YtgbiobhladeooaaRows
import Derived.Test.YtgbiobhladeooaaDawgAwake
import Derived.Test.YtgbiobhladeooaaTrieOpen
import Derived.Test.YtgbiobhladeooaaPackT
import Derived.Test.YtgbiobhladeooaaPackP
import Derived.WalkKit
import Derived.ProofKit
import Derived.OpenShut
import Derived.ShutString
import Derived.ChangeOld
import Derived.Below
import Derived.Deep.Matrix
import Derived.SizedLaws
namespace Go.Proofs.Ytgbiobhladeooaa.dawgTells
open Go.ChangeShapes Go.WideShapes Go.ChangeAt Go.RowKit
set_option linter.unusedVariables false

theorem own : ownKnob Try.prog.godebug = none := by kernel_rfl
theorem laidOut : laidOutB Try.prog = true := by kernel_rfl

/-- a slice of integers that came in -/
def IsRow (k : IntKind) (w : World) (a : Option Addr) (len cap : Nat) (zs : List Int) : Prop :=
  (a = none ∧ len = 0 ∧ cap = 0 ∧ zs = []) ∨
  ∃ x, a = some x ∧ len ≤ cap ∧ cap ≤ maxLen ∧ zs.length = cap ∧ (∀ i, i < zs.length → w.cell? (x.add i) = some (.int k (zs.getD i 0))) ∧ ∀ n ∈ zs, (Lit.int k n).wf = true

open Tri Daw

/-! ### STEP 1: the walk -/
set_option maxHeartbeats 6400000 in
set_option maxRecDepth 100000 in
theorem walk (a0 : Option Addr) (len0 cap0 : Nat) (x0 : List Wd) (a1 : Option Addr) (len1 cap1 : Nat) (x1 : List Sw) (w : World) (w0 : Ws w a0 len0 cap0 x0) (n0 : a0 = none → cap0 = 0) (w1 : Ss w a1 len1 cap1 x1) (n1 : a1 = none → cap1 = 0) :
    Calls Try.prog 3 #[.slice a0 len0 cap0, .slice a1 len1 cap1] w fun e w' => e = .returned (.bool true) ∧ Below w.heap.size w w' := by
  have hcm0 := w0.2.2.1
  have hnc0 := w0.2.1
  unfold maxLen at hcm0
  have HX0 := Lib.hid w0
  have HXN0 := Lib.hid n0
  clear w0 n0
  have hcm1 := w1.2.2.1
  have hnc1 := w1.2.1
  unfold maxLen at hcm1
  have HX1 := Lib.hid w1
  clear w1 n1
  obtain ⟨⟨gl, ge⟩, hg⟩ : ∃ g, dmade (nums x0) = g := ⟨_, rfl⟩
  obtain ⟨ok, hok⟩ : ∃ r, least (sts x1) = r := ⟨_, rfl⟩
  have HG := Lib.hid hg
  have HOK := Lib.hid hok
  clear hg hok
  go_enter Try.func3, Try.ntmps3
  go_wp2_with fail
  refine (awake_any _).mono ?_
  rintro e v1 ⟨rfl, B1⟩
  have X1 := Lib.hid (HX0.out.below B1 (Nat.le_refl _))
  have S1 := Lib.hid (HX1.out.below B1 (Nat.le_refl _))
  go_wp2_with fail
  refine (few_of 30 30 a0 len0 cap0 x0 _ rfl X1.out).mono ?_
  rintro e v2 ⟨he, rfl⟩
  rcases he with rfl | ⟨rfl, -, hn30⟩
  · go_wp2
    go_ret
    exact ⟨rfl, B1⟩
  go_wp2_with fail
  refine (rfew10_is a1 len1 cap1 x1 500 (by omega) v1 S1.out).mono ?_
  rintro e v3 ⟨he, hv3⟩
  obtain rfl := hv3.symm
  rcases he with rfl | ⟨rfl, -, hn500⟩
  · go_wp2
    go_ret
    exact ⟨rfl, B1⟩
  go_wp2_with fail
  refine (dmake_is a0 len0 cap0 x0 _ _ X1.out HXN0.out HG.out).mono ?_
  rintro e v4 ⟨p4, n4, c4, y4, rfl, hs4, hst4, -, hb4⟩
  have B4 := B1.trans (hb4.mono B1.size)
  have S4 := Lib.hid (S1.out.below hb4 (Nat.le_refl _))
  have X4 := Lib.hid (X1.out.below hb4 (Nat.le_refl _))
  have Y4 := Lib.hid hs4
  have T4 := Lib.hid hst4
  clear hb4 hs4 hst4
  simp only []
  go_wp2_with fail
  refine (rmake11_is a0 len0 cap0 x0 _ _ X4.out HXN0.out HG.out).mono ?_
  rintro e v5 ⟨p5, n5, c5, y5, rfl, hs5, hst5, -, hb5⟩
  have B5 := B4.trans (hb5.mono B4.size)
  have S5 := Lib.hid (S4.out.below hb5 (Nat.le_refl _))
  have Y5 := Lib.hid (Y4.out.below hb5 (Nat.le_refl _))
  have Z5 := Lib.hid hs5
  have T5 := Lib.hid hst5
  clear hb5 hs5 hst5
  simp only []
  go_wp2_with fail
  refine (rsame10_is p4 p5 n4 n5 c4 c5 y4 y5 _ Y5.out Z5.out (by rw [T4.out, T5.out])).mono ?_
  rintro e v8 ⟨rfl, hq8⟩
  have B8 := below_drawn B5 hq8
  have S8 := Lib.hid (S5.out.drawn hq8)
  have hge : (ge == ge) = true := by simp
  clear hq8
  go_wp2_with fail
  refine (dleast_is a1 len1 cap1 x1 ok _ S8.out HOK.out).mono ?_
  rintro e v9 ⟨rfl, hb9⟩
  have B9 := B8.trans (hb9.mono B8.size)
  have S9 := Lib.hid (S8.out.below hb9 (Nat.le_refl _))
  clear hb9
  go_wp2_with fail
  refine (rleast11_is a1 len1 cap1 x1 ok _ S9.out HOK.out).mono ?_
  rintro e v10 ⟨rfl, hb10⟩
  have B10 := B9.trans (hb10.mono B9.size)
  have hok : (ok == ok) = true := by simp
  clear hb10
  go_wp2
  go_ret
  exact ⟨rfl, B10⟩

set_option maxRecDepth 100000 in
theorem lifted (os : Os) (started : os.Started) (H : Type) (enc : TypeId × Value → H) :
    ReturnsInHanded {} Try.checked os 3 .any (Rows.dawgTellsSpec.pre6 enc Try.prog Try.f3 Rows.dawgTellsRow.domain false) (Rows.dawgTellsSpec.post enc Try.prog Try.f3 false true false false) := by
  refine returnsInHanded_of_change (C := Try.checked) own started (by kernel_rfl) Try.func3
    (ChangeSpec.witness6 (enc := enc) (C := Try.checked) false ⟨#[], #[.slice none 0 0, .slice none 0 0], []⟩ 8 (by kernel_rfl) (by kernel_rfl) (by kernel_rfl) (by kernel_rfl)) ?_
  intro W base args ds gs before hval0 hW hcnd _
  have hval : ∀ (j : Nat) t v, Try.f3.params[j]? = some t → args[j]? = some v → Value.okWide Try.prog W .any base t v := hval0
  have hW' := hW
  obtain ⟨p, q, hA0, hV, rfl, hfz, hnd⟩ := hW
  have hA : DataW.TrodAll enc Try.prog W 0 (fun _ => true) true Try.f3.params.toList args.toList ds p := hA0
  rw [Try.params3] at hA hval
  obtain ⟨v0, vs0, d0, ds0, p0, q0, hargs, rfl, rfl, h0, r0⟩ := trodAll_cons hA
  obtain ⟨v1, vs1, d1, ds1, p1, q1, rfl, rfl, rfl, h1, r1⟩ := trodAll_cons r0
  obtain ⟨rfl, rfl, rfl⟩ := trodAll_nil r1
  obtain rfl : args = #[v0, v1] := by cases args; simp_all
  obtain ⟨rfl, rfl⟩ := trodVars_none hV
  obtain ⟨a0, len0, cap0, rfl⟩ := okWide_slice Try.underlying22 (hval 0 22 v0 rfl rfl)
  have k0 := h0
  have lt0 : ∀ x ∈ p0, x.block < W.heap.size := by obtain ⟨m, hm⟩ := k0; exact DataW.trod_lt m _ _ _ hm
  obtain ⟨x0, w0, n0⟩ : ∃ xs, Ws W a0 len0 cap0 xs ∧ (a0 = none → cap0 = 0) := by
    obtain ⟨fuel, hf⟩ := h0
    rcases Go.Deep.open_int_rows Try.underlying22 Try.underlying33 Try.underlying3 (by kernel_rfl) (by kernel_rfl) hf with ⟨hcs, _⟩ | ⟨x, l, c, A, L, C, Z, hcs, _, hl, hm, _, hr⟩
    · simp [Value.cells] at hcs
      obtain ⟨rfl, rfl, rfl⟩ := hcs
      exact ⟨[], Ws.nil, fun _ => rfl⟩
    · simp [Value.cells] at hcs
      obtain ⟨rfl, rfl, rfl⟩ := hcs
      exact ⟨_, Ws.of_rows hl hm hr, fun h => by cases h⟩
  obtain ⟨a1, len1, cap1, rfl⟩ := okWide_slice Try.underlying23 (hval 1 23 v1 rfl rfl)
  have k1 := h1
  have lt1 : ∀ x ∈ p1, x.block < W.heap.size := by obtain ⟨m, hm⟩ := k1; exact DataW.trod_lt m _ _ _ hm
  obtain ⟨x1, w1, n1⟩ : ∃ xs, Ss W a1 len1 cap1 xs ∧ (a1 = none → cap1 = 0) := by
    obtain ⟨fuel, hf⟩ := h1
    obtain ⟨a, l, c, xs, hcs, hrs, hnil⟩ := Ss.open hf
    simp only [Value.slice.injEq] at hcs
    obtain ⟨rfl, rfl, rfl⟩ := hcs
    exact ⟨xs, hrs, hnil⟩
  clear hA0 hval0
  refine (walk a0 len0 cap0 x0 a1 len1 cap1 x1 W w0 n0 w1 n1).mono fun e W' ⟨he, bel⟩ => ?_
  subst he
  exact ⟨_, rfl, _, _, _, [], _, [], hW', trodAll_mk1 (shut_bool Try.underlying4 _), (trodAll_cons_mk (Below.trod laidOut (by kernel_rfl) (of_decide_eq_true (by kernel_rfl)) k0 bel lt0) (trodAll_cons_mk (Below.trod laidOut (by kernel_rfl) (of_decide_eq_true (by kernel_rfl)) k1 bel lt1) trodAll_mk0)), rfl, bel.frame _, fun h => by cases h⟩

theorem over : Rows.dawgTellsRow.holds Try.pinned (OpenSpec.ofChange Rows.dawgTellsSpec) :=
  OpenClaim.holds_of_wide 3 Try.f3 rfl rfl rfl rfl rfl rfl rfl ⟨rfl, rfl, rfl, rfl, rfl⟩ rfl rfl rfl rfl rfl (by kernel_rfl) Try.func3 (by kernel_rfl)
    (of_decide_eq_true (by kernel_rfl)) (by unfold Func.isWrapper; first | (rw [if_pos (by decide +kernel)]; kernel_rfl) | (rw [if_neg (by decide +kernel)]; exact ⟨rfl, rfl⟩))
    (fun os started H enc _ => lifted os started H enc)

/-- the statement -/
theorem proved : Rows.DawgTellsSaid := over
#print axioms proved
end Go.Proofs.Ytgbiobhladeooaa.dawgTells
