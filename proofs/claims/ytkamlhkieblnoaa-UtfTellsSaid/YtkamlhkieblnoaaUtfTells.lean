/- For every list of numbers, every list of bytes and every number UtfTells answers true, and turns nothing that was there. No condition. -/
import Derived.Test.YtkamlhkieblnoaaRows
import Derived.Test.YtkamlhkieblnoaaUtfWalkK
import Derived.WalkKit
import Derived.ProofKit
import Derived.OpenShut
import Derived.ShutString
import Derived.ChangeOld
import Derived.Below
namespace Go.Proofs.Ytkamlhkieblnoaa.utfTells
open Go.ChangeShapes Go.WideShapes Go.ChangeAt Go.RowKit
open Go.ChangeMaps (open_string shut_string)
set_option linter.unusedVariables false

theorem own : ownKnob Try.prog.godebug = none := by kernel_rfl
theorem laidOut : laidOutB Try.prog = true := by kernel_rfl

/-- WHAT THE WALK IS TOLD OF A SLICE OF INTEGERS THAT CAME IN: it is nil; or it leads to a row of 'cap' cells, the numbers 'zs' (the first 'len' are its elements, the rest its spare room), each fitting its kind. -/
def IsRow (k : IntKind) (w : World) (a : Option Addr) (len cap : Nat) (zs : List Int) : Prop :=
  (a = none ∧ len = 0 ∧ cap = 0 ∧ zs = []) ∨
  ∃ x, a = some x ∧ len ≤ cap ∧ cap ≤ maxLen ∧ zs.length = cap ∧ (∀ i, i < zs.length → w.cell? (x.add i) = some (.int k (zs.getD i 0))) ∧ ∀ n ∈ zs, (Lit.int k n).wf = true

/-! ### STEP 1: THE WALK: the Go text returns true, AND WRITES NOTHING THAT WAS THERE: 'Below w.heap.size w w'' (Derived/Below.lean: '.refl', '.alloc', '.drew', '.setCell' at a new block, '.trans'). Open each 'IsRow' by 'rcases' AHEAD of 'go_enter'; part every test ahead of the walk. -/
theorem walk (a0 : Option Addr) (len0 cap0 : Nat) (z0 : List Int) (a1 : Option Addr) (len1 cap1 : Nat) (z1 : List Int) (a2 : Int) (w : World) (w0 : IsRow .i64 w a0 len0 cap0 z0) (w1 : IsRow .u8 w a1 len1 cap1 z1) (w2 : (Lit.int .i64 a2).wf = true) :
    Calls Try.prog 3 #[.slice a0 len0 cap0, .slice a1 len1 cap1, .int .i64 a2] w fun e w' => e = .returned (.bool true) ∧ Below w.heap.size w w' := by
  have hs := Sl.of_row w0
  have ht := Sl.of_row w1
  generalize z0.take len0 = zs at hs
  generalize z1.take len1 = bs at ht
  obtain ⟨hn0, hn1⟩ := bounds_i64 w2
  have hcm := hs.2.2.1
  have hnc := hs.2.1
  unfold maxLen at hcm
  have hcm1 := ht.2.2.1
  have hnc1 := ht.2.1
  unfold maxLen at hcm1
  have HS := Lib.hid hs
  have HT := Lib.hid ht
  clear hs w0 ht w1 w2
  by_cases hbig : 1000 < len0 ∨ 1000 < len1
  · rcases hbig with h | h
    · have hi : (1000 : Int) < (len0 : Int) := by omega
      go_enter Try.func3, Try.ntmps3
      go_wp2_with (go_at_call 10; refine (awake_any _).mono ?_; rintro e w1 ⟨rfl, hb1⟩)
      go_ret
      exact ⟨rfl, hb1⟩
    · by_cases h' : 1000 < len0
      · have hi : (1000 : Int) < (len0 : Int) := by omega
        go_enter Try.func3, Try.ntmps3
        go_wp2_with (go_at_call 10; refine (awake_any _).mono ?_; rintro e w1 ⟨rfl, hb1⟩)
        go_ret
        exact ⟨rfl, hb1⟩
      · have hi : ¬ (1000 : Int) < (len0 : Int) := by omega
        have hi1 : (1000 : Int) < (len1 : Int) := by omega
        go_enter Try.func3, Try.ntmps3
        go_wp2_with (go_at_call 10; refine (awake_any _).mono ?_; rintro e w1 ⟨rfl, hb1⟩)
        go_ret
        exact ⟨rfl, hb1⟩
  · have hl0 : len0 ≤ 1000 := by omega
    have hl1 : len1 ≤ 1000 := by omega
    have hi0 : decide ((1000 : Int) < (len0 : Int)) = false := by simp; omega
    have hi1 : decide ((1000 : Int) < (len1 : Int)) = false := by simp; omega
    clear hbig
    obtain ⟨pb, per, hp⟩ := putIs_ex zs
    obtain ⟨ts, tk, ter, htk⟩ := takeIs_ex bs
    obtain ⟨rl, rer, hr⟩ := readIs_ex bs
    have HP := Lib.hid hp
    have HK := Lib.hid htk
    have HR := Lib.hid hr
    clear hp htk hr
    go_enter Try.func3, Try.ntmps3
    go_wp2_with fail
    refine (awake_any _).mono ?_
    rintro e w1 ⟨rfl, B1⟩
    go_wp2_with fail
    refine (put_gen _ _ _ zs pb per _ HP.out (HS.out.below B1 (Nat.le_refl _)) (by omega)).mono ?_
    rintro e w2 ⟨a2, c2, rfl, hs2, hb2⟩
    have B2 : Below w.heap.size w w2 := B1.trans (hb2.mono B1.size)
    clear hb2 B1
    go_wp2_with fail
    refine (rput_gen _ _ _ zs pb per _ HP.out (HS.out.below B2 (Nat.le_refl _)) (by omega)).mono ?_
    rintro e w3 ⟨a3, c3, rfl, hs3, hb3⟩
    have B3 : Below w.heap.size w w3 := B2.trans (hb3.mono B2.size)
    have S2 := hs2.below hb3 (Nat.le_refl _)
    clear hb3 B2 hs2
    go_wp2_with fail
    refine (take_gen _ _ _ bs ts tk ter _ HK.out (HT.out.below B3 (Nat.le_refl _))).mono ?_
    rintro e w4 ⟨rfl, hb4⟩
    have B4 : Below w.heap.size w w4 := B3.trans (hb4.mono B3.size)
    have S3 := S2.below hb4 (Nat.le_refl _)
    have T3 := hs3.below hb4 (Nat.le_refl _)
    clear hb4 B3 S2 hs3
    go_wp2_with fail
    refine (rtake_gen _ _ _ bs ts tk ter _ HK.out (HT.out.below B4 (Nat.le_refl _))).mono ?_
    rintro e w5 ⟨rfl, hb5⟩
    have B5 : Below w.heap.size w w5 := B4.trans (hb5.mono B4.size)
    have S4 := S3.below hb5 (Nat.le_refl _)
    have T4 := T3.below hb5 (Nat.le_refl _)
    clear hb5 B4 S3 T3
    go_wp2_with fail
    refine (read_gen _ _ _ bs rl rer _ HR.out (HT.out.below B5 (Nat.le_refl _)) (by omega)).mono ?_
    rintro e w6 ⟨a6, c6, rfl, R6, hb6⟩
    have B6 : Below w.heap.size w w6 := B5.trans (hb6.mono B5.size)
    have S5 := S4.below hb6 (Nat.le_refl _)
    have T5 := T4.below hb6 (Nat.le_refl _)
    clear hb6 B5 S4 T4
    go_wp2_with fail
    refine (rread_gen _ _ _ bs rl rer _ HR.out (HT.out.below B6 (Nat.le_refl _)) (by omega)).mono ?_
    rintro e w7 ⟨a7, c7, rfl, R7, hb7⟩
    have B7 : Below w.heap.size w w7 := B6.trans (hb7.mono B6.size)
    have hcv1 := (S5.below hb7 (Nat.le_refl _)).str
    have hcv2 := (T5.below hb7 (Nat.le_refl _)).str
    have R6' := R6.below hb7 (Nat.le_refl _)
    clear hb7 B6 S5 T5 R6
    generalize strOfNums pb = ps at hcv1 hcv2
    go_wp2_with fail
    refine (same_is _ _ _ _ _ _ rl rl true _ R6' R7 (by simp)).mono ?_
    rintro e w8 ⟨rfl, q, rfl⟩
    clear hcv1 hcv2
    go_wp2_with fail
    refine (good_any _ _ hn0 hn1).mono ?_
    rintro e w8 ⟨rfl, rfl⟩
    go_wp2_with fail
    refine (rgood_any _ _ hn0 hn1).mono ?_
    rintro e w8 ⟨rfl, rfl⟩
    go_wp2
    go_ret
    exact ⟨rfl, below_drewN B7 q⟩

/-! ### THE ROW's STEP: WRITTEN OUT: LEAVE IT -/
set_option maxRecDepth 100000 in
theorem lifted (os : Os) (started : os.Started) (H : Type) (enc : TypeId × Value → H) :
    ReturnsInHanded {} Try.checked os 3 .any (Rows.utfTellsSpec.pre6 enc Try.prog Try.f3 Rows.utfTellsRow.domain false) (Rows.utfTellsSpec.post enc Try.prog Try.f3 false true false false) := by
  refine returnsInHanded_of_change (C := Try.checked) own started (by kernel_rfl) Try.func3
    (ChangeSpec.witness6 (enc := enc) (C := Try.checked) false ⟨#[], #[.slice none 0 0, .slice none 0 0, .int .i64 0], []⟩ 8 (by kernel_rfl) (by kernel_rfl) (by kernel_rfl) (by kernel_rfl)) ?_
  intro W base args ds gs before hval0 hW hcnd _
  have hval : ∀ (j : Nat) t v, Try.f3.params[j]? = some t → args[j]? = some v → Value.okWide Try.prog W .any base t v := hval0
  have hW' := hW
  obtain ⟨p, q, hA0, hV, rfl, hfz, hnd⟩ := hW
  have hA : DataW.TrodAll enc Try.prog W 0 (fun _ => true) true Try.f3.params.toList args.toList ds p := hA0
  rw [Try.params3] at hA hval
  obtain ⟨v0, vs0, d0, ds0, p0, q0, hargs, rfl, rfl, h0, r0⟩ := trodAll_cons hA
  obtain ⟨v1, vs1, d1, ds1, p1, q1, rfl, rfl, rfl, h1, r1⟩ := trodAll_cons r0
  obtain ⟨v2, vs2, d2, ds2, p2, q2, rfl, rfl, rfl, h2, r2⟩ := trodAll_cons r1
  obtain ⟨rfl, rfl, rfl⟩ := trodAll_nil r2
  obtain rfl : args = #[v0, v1, v2] := by cases args; simp_all
  obtain ⟨rfl, rfl⟩ := trodVars_none hV
  obtain ⟨a0, len0, cap0, rfl⟩ := okWide_slice Try.underlying22 (hval 0 22 v0 rfl rfl)
  have k0 := h0
  have lt0 : ∀ x ∈ p0, x.block < W.heap.size := by obtain ⟨m, hm⟩ := k0; exact DataW.trod_lt m _ _ _ hm
  obtain ⟨z0, w0⟩ : ∃ zs, IsRow .i64 W a0 len0 cap0 zs := by
    obtain ⟨fuel, hf⟩ := h0
    rcases open_ints Try.underlying22 Try.underlying3 (by kernel_rfl) hf with ⟨hcs, _⟩ | ⟨x, l, c, zs, hcs, _, hl, hm, hz, _, hcell, hwz⟩
    · simp [Value.cells] at hcs
      obtain ⟨rfl, rfl, rfl⟩ := hcs
      exact ⟨[], .inl ⟨rfl, rfl, rfl, rfl⟩⟩
    · simp [Value.cells] at hcs
      obtain ⟨rfl, rfl, rfl⟩ := hcs
      exact ⟨zs, .inr ⟨_, rfl, hl, hm, by simpa using hz, hcell, hwz⟩⟩
  obtain ⟨a1, len1, cap1, rfl⟩ := okWide_slice Try.underlying23 (hval 1 23 v1 rfl rfl)
  have k1 := h1
  have lt1 : ∀ x ∈ p1, x.block < W.heap.size := by obtain ⟨m, hm⟩ := k1; exact DataW.trod_lt m _ _ _ hm
  obtain ⟨z1, w1⟩ : ∃ zs, IsRow .u8 W a1 len1 cap1 zs := by
    obtain ⟨fuel, hf⟩ := h1
    rcases open_ints Try.underlying23 Try.underlying5 (by kernel_rfl) hf with ⟨hcs, _⟩ | ⟨x, l, c, zs, hcs, _, hl, hm, hz, _, hcell, hwz⟩
    · simp [Value.cells] at hcs
      obtain ⟨rfl, rfl, rfl⟩ := hcs
      exact ⟨[], .inl ⟨rfl, rfl, rfl, rfl⟩⟩
    · simp [Value.cells] at hcs
      obtain ⟨rfl, rfl, rfl⟩ := hcs
      exact ⟨zs, .inr ⟨_, rfl, hl, hm, by simpa using hz, hcell, hwz⟩⟩
  obtain ⟨a2, rfl, rfl, rfl, w2⟩ := open_int Try.underlying3 (hval 2 3 v2 rfl rfl) h2
  clear hA0 hval0
  refine (walk a0 len0 cap0 z0 a1 len1 cap1 z1 a2 W w0 w1 w2).mono fun e W' ⟨he, bel⟩ => ?_
  subst he
  exact ⟨_, rfl, _, _, _, [], _, [], hW', trodAll_mk1 (shut_bool Try.underlying4 _), (trodAll_cons_mk (Below.trod laidOut (by kernel_rfl) (of_decide_eq_true (by kernel_rfl)) k0 bel lt0) (trodAll_cons_mk (Below.trod laidOut (by kernel_rfl) (of_decide_eq_true (by kernel_rfl)) k1 bel lt1) (trodAll_cons_mk (shut_int Try.underlying3 w2) trodAll_mk0))), rfl, bel.frame _, fun h => by cases h⟩

theorem over : Rows.utfTellsRow.holds Try.pinned (OpenSpec.ofChange Rows.utfTellsSpec) :=
  OpenClaim.holds_of_wide 3 Try.f3 rfl rfl rfl rfl rfl rfl rfl ⟨rfl, rfl, rfl, rfl, rfl⟩ rfl rfl rfl rfl rfl (by kernel_rfl) Try.func3 (by kernel_rfl)
    (of_decide_eq_true (by kernel_rfl)) (by unfold Func.isWrapper; first | (rw [if_pos (by decide +kernel)]; kernel_rfl) | (rw [if_neg (by decide +kernel)]; exact ⟨rfl, rfl⟩))
    (fun os started H enc _ => lifted os started H enc)

/-- ████ THE STATEMENT ████ -/
theorem proved : Rows.UtfTellsSaid := over
#print axioms proved
end Go.Proofs.Ytkamlhkieblnoaa.utfTells
