/- For every list of numbers and every list of bytes UtfBack answers true, and turns nothing that was there. No condition. -/
import Derived.Test.YtkamlhkieblnoaaRows
import Derived.Test.YtkamlhkieblnoaaUtfWalkK
import Derived.WalkKit
import Derived.ProofKit
import Derived.OpenShut
import Derived.ShutString
import Derived.ChangeOld
import Derived.Below
namespace Go.Proofs.Ytkamlhkieblnoaa.utfBack
open Go.ChangeShapes Go.WideShapes Go.ChangeAt Go.RowKit
open Go.ChangeMaps (open_string shut_string)
set_option linter.unusedVariables false

theorem own : ownKnob Try.prog.godebug = none := by kernel_rfl
theorem laidOut : laidOutB Try.prog = true := by kernel_rfl

/-- WHAT THE WALK IS TOLD OF A SLICE OF INTEGERS THAT CAME IN: it is nil; or it leads to a row of 'cap' cells, the numbers 'zs' (the first 'len' are its elements, the rest its spare room), each fitting its kind. -/
def IsRow (k : IntKind) (w : World) (a : Option Addr) (len cap : Nat) (zs : List Int) : Prop :=
  (a = none ∧ len = 0 ∧ cap = 0 ∧ zs = []) ∨
  ∃ x, a = some x ∧ len ≤ cap ∧ cap ≤ maxLen ∧ zs.length = cap ∧ (∀ i, i < zs.length → w.cell? (x.add i) = some (.int k (zs.getD i 0))) ∧ ∀ n ∈ zs, (Lit.int k n).wf = true

/-! ### STEP 1: THE WALK: the Go text returns true, AND WRITES NOTHING THAT WAS THERE: 'Below w.heap.size w w'' (Derived/Below.lean: '.refl', '.alloc', '.drew', '.setCell' at a new block, '.trans'). Open each 'IsRow' by 'rcases' AHEAD of 'go_enter'; part every test ahead of the walk. -/
theorem walk (a0 : Option Addr) (len0 cap0 : Nat) (z0 : List Int) (a1 : Option Addr) (len1 cap1 : Nat) (z1 : List Int) (w : World) (w0 : IsRow .i64 w a0 len0 cap0 z0) (w1 : IsRow .u8 w a1 len1 cap1 z1) :
    Calls Try.prog 4 #[.slice a0 len0 cap0, .slice a1 len1 cap1] w fun e w' => e = .returned (.bool true) ∧ Below w.heap.size w w' := by
  have hs := Sl.of_row w0
  generalize z0.take len0 = zs at hs
  have hcm0 := hs.2.2.1
  have hnc0 := hs.2.1
  unfold maxLen at hcm0
  have HS := Lib.hid hs
  clear hs w0
  have ht := Sl.of_row w1
  generalize z1.take len1 = bs at ht
  have hcm1 := ht.2.2.1
  have hnc1 := ht.2.1
  unfold maxLen at hcm1
  have HT := Lib.hid ht
  clear ht w1
  by_cases hbig : 1000 < len0 ∨ 1000 < len1
  · rcases hbig with h | h
    · have hi : (1000 : Int) < (len0 : Int) := by omega
      go_enter Try.func4, Try.ntmps4
      go_wp2_with (go_at_call 10; refine (awake_any _).mono ?_; rintro e w1 ⟨rfl, hb1⟩)
      go_ret
      exact ⟨rfl, hb1⟩
    · by_cases h' : 1000 < len0
      · have hi : (1000 : Int) < (len0 : Int) := by omega
        go_enter Try.func4, Try.ntmps4
        go_wp2_with (go_at_call 10; refine (awake_any _).mono ?_; rintro e w1 ⟨rfl, hb1⟩)
        go_ret
        exact ⟨rfl, hb1⟩
      · have hi : ¬ (1000 : Int) < (len0 : Int) := by omega
        have hi1 : (1000 : Int) < (len1 : Int) := by omega
        go_enter Try.func4, Try.ntmps4
        go_wp2_with (go_at_call 10; refine (awake_any _).mono ?_; rintro e w1 ⟨rfl, hb1⟩)
        go_ret
        exact ⟨rfl, hb1⟩
  · have hl0 : len0 ≤ 1000 := by omega
    have hl1 : len1 ≤ 1000 := by omega
    have hi0 : decide ((1000 : Int) < (len0 : Int)) = false := by simp; omega
    have hi1 : decide ((1000 : Int) < (len1 : Int)) = false := by simp; omega
    clear hbig
    obtain ⟨pb, per, hp⟩ := putIs_ex zs
    obtain ⟨rl, rer, hr⟩ := readIs_ex bs
    obtain ⟨xl, hx, hx2⟩ : ∃ xl, ReadIs pb xl 0 ∧ (per = 0 → xl = zs) := by
      obtain ⟨h1, rfl, rfl⟩ | ⟨h1, rfl, rfl⟩ := hp
      · exact ⟨zs, .inl ⟨⟨h1, rfl⟩, rfl⟩, fun _ => rfl⟩
      · exact ⟨[], .inl ⟨⟨rfl, rfl⟩, rfl⟩, fun h => by cases h⟩
    obtain ⟨qb, hq, hq2⟩ : ∃ qb, PutIs rl qb 0 ∧ (rer = 0 → qb = bs) := by
      obtain ⟨h1, rfl⟩ | ⟨h1, rfl, rfl⟩ := hr
      · exact ⟨_, .inl ⟨h1.1, rfl, rfl⟩, fun _ => h1.2⟩
      · exact ⟨_, .inl ⟨rfl, rfl, rfl⟩, fun h => by cases h⟩
    have hpl : pb.length ≤ 4000 := by have := hp.le; have := HS.out.1; omega
    have hrl : rl.length ≤ 1000 := by
      obtain ⟨h1, _⟩ | ⟨_, rfl, _⟩ := hr
      · have := Utf.put_length_ge rl; rw [h1.2] at this; have := HT.out.1; omega
      · simp
    have hp3 : (per = 0 ∧ xl = zs) ∨ (per = 10 ∧ pb = []) := by
      obtain ⟨_, _, h⟩ | ⟨_, h, h'⟩ := id hp
      · exact .inl ⟨h, hx2 h⟩
      · exact .inr ⟨h', h⟩
    have hr3 : (rer = 0 ∧ qb = bs) ∨ (rer = 10 ∧ rl = []) := by
      obtain ⟨_, h⟩ | ⟨_, h, h'⟩ := id hr
      · exact .inl ⟨h, hq2 h⟩
      · exact .inr ⟨h', h⟩
    have HP := Lib.hid hp
    have HR := Lib.hid hr
    have HX := Lib.hid hx
    have HQ := Lib.hid hq
    clear hp hr hx hq hx2 hq2
    rcases hp3 with ⟨rfl, rfl⟩ | ⟨rfl, rfl⟩
    all_goals (
      rcases hr3 with ⟨rfl, rfl⟩ | ⟨rfl, rfl⟩
      all_goals (
        go_enter Try.func4, Try.ntmps4
        go_wp2_with fail
        refine (awake_any _).mono ?_
        rintro e w1 ⟨rfl, B1⟩
        go_wp2_with fail
        refine (put_gen _ _ _ _ _ _ _ HP.out (HS.out.below B1 (Nat.le_refl _)) (by omega)).mono ?_
        rintro e w2 ⟨a2, c2, rfl, hs2, hb2⟩
        have B2 : Below w.heap.size w w2 := B1.trans (hb2.mono B1.size)
        clear hb2 B1
        go_wp2_with fail
        refine (read_gen _ _ _ _ _ _ _ HX.out hs2 (by omega)).mono ?_
        rintro e w3 ⟨a3, c3, rfl, R3, hb3⟩
        have B3 : Below w.heap.size w w3 := B2.trans (hb3.mono B2.size)
        clear hb3 B2 hs2
        go_wp2_with fail
        refine (read_gen _ _ _ _ _ _ _ HR.out (HT.out.below B3 (Nat.le_refl _)) (by omega)).mono ?_
        rintro e w4 ⟨a4, c4, rfl, R4, hb4⟩
        have B4 : Below w.heap.size w w4 := B3.trans (hb4.mono B3.size)
        have R5 := R3.below hb4 (Nat.le_refl _)
        clear hb4 B3 R3
        go_wp2_with fail
        refine (put_gen _ _ _ _ _ _ _ HQ.out R4 (by omega)).mono ?_
        rintro e w5 ⟨a5, c5, rfl, hs5, hb5⟩
        have B5 : Below w.heap.size w w5 := B4.trans (hb5.mono B4.size)
        have R6 := R5.below hb5 (Nat.le_refl _)
        have S0 := HS.out.below B5 (Nat.le_refl _)
        have hcv1 := hs5.str
        have hcv2 := (HT.out.below B5 (Nat.le_refl _)).str
        have hcv3 := fun m => (hs5.drewN m).str
        have hcv4 := fun m => ((HT.out.below B5 (Nat.le_refl _)).drewN m).str
        clear hb5 B4 R4 R5 hs5
        go_wp2_with (go_at_call 17; refine (same_is _ _ _ _ _ _ _ _ true _ R6 S0 (by simp)).mono ?_; rintro e w8 ⟨rfl, q, rfl⟩)
        go_ret
        first | exact ⟨rfl, below_drewN B5 _⟩ | exact ⟨rfl, B5⟩))

/-! ### THE ROW's STEP: WRITTEN OUT: LEAVE IT -/
set_option maxRecDepth 100000 in
theorem lifted (os : Os) (started : os.Started) (H : Type) (enc : TypeId × Value → H) :
    ReturnsInHanded {} Try.checked os 4 .any (Rows.utfBackSpec.pre6 enc Try.prog Try.f4 Rows.utfBackRow.domain false) (Rows.utfBackSpec.post enc Try.prog Try.f4 false true false false) := by
  refine returnsInHanded_of_change (C := Try.checked) own started (by kernel_rfl) Try.func4
    (ChangeSpec.witness6 (enc := enc) (C := Try.checked) false ⟨#[], #[.slice none 0 0, .slice none 0 0], []⟩ 8 (by kernel_rfl) (by kernel_rfl) (by kernel_rfl) (by kernel_rfl)) ?_
  intro W base args ds gs before hval0 hW hcnd _
  have hval : ∀ (j : Nat) t v, Try.f4.params[j]? = some t → args[j]? = some v → Value.okWide Try.prog W .any base t v := hval0
  have hW' := hW
  obtain ⟨p, q, hA0, hV, rfl, hfz, hnd⟩ := hW
  have hA : DataW.TrodAll enc Try.prog W 0 (fun _ => true) true Try.f4.params.toList args.toList ds p := hA0
  rw [Try.params4] at hA hval
  obtain ⟨v0, vs0, d0, ds0, p0, q0, hargs, rfl, rfl, h0, r0⟩ := trodAll_cons hA
  obtain ⟨v1, vs1, d1, ds1, p1, q1, rfl, rfl, rfl, h1, r1⟩ := trodAll_cons r0
  obtain ⟨rfl, rfl, rfl⟩ := trodAll_nil r1
  obtain rfl : args = #[v0, v1] := by cases args; simp_all
  obtain ⟨rfl, rfl⟩ := trodVars_none hV
  obtain ⟨a0, len0, cap0, rfl⟩ := okWide_slice Try.underlying22 (hval 0 22 v0 rfl rfl)
  have k0 := h0
  have lt0 : ∀ x ∈ p0, x.block < W.heap.size := by obtain ⟨m, hm⟩ := k0; exact DataW.trod_lt m _ _ _ hm
  obtain ⟨z0, w0⟩ : ∃ zs, IsRow .i64 W a0 len0 cap0 zs := by
    obtain ⟨fuel, hf⟩ := h0
    rcases open_ints Try.underlying22 Try.underlying3 (by kernel_rfl) hf with ⟨hcs, _⟩ | ⟨x, l, c, zs, hcs, _, hl, hm, hz, _, hcell, hwz⟩
    · simp [Value.cells] at hcs
      obtain ⟨rfl, rfl, rfl⟩ := hcs
      exact ⟨[], .inl ⟨rfl, rfl, rfl, rfl⟩⟩
    · simp [Value.cells] at hcs
      obtain ⟨rfl, rfl, rfl⟩ := hcs
      exact ⟨zs, .inr ⟨_, rfl, hl, hm, by simpa using hz, hcell, hwz⟩⟩
  obtain ⟨a1, len1, cap1, rfl⟩ := okWide_slice Try.underlying23 (hval 1 23 v1 rfl rfl)
  have k1 := h1
  have lt1 : ∀ x ∈ p1, x.block < W.heap.size := by obtain ⟨m, hm⟩ := k1; exact DataW.trod_lt m _ _ _ hm
  obtain ⟨z1, w1⟩ : ∃ zs, IsRow .u8 W a1 len1 cap1 zs := by
    obtain ⟨fuel, hf⟩ := h1
    rcases open_ints Try.underlying23 Try.underlying5 (by kernel_rfl) hf with ⟨hcs, _⟩ | ⟨x, l, c, zs, hcs, _, hl, hm, hz, _, hcell, hwz⟩
    · simp [Value.cells] at hcs
      obtain ⟨rfl, rfl, rfl⟩ := hcs
      exact ⟨[], .inl ⟨rfl, rfl, rfl, rfl⟩⟩
    · simp [Value.cells] at hcs
      obtain ⟨rfl, rfl, rfl⟩ := hcs
      exact ⟨zs, .inr ⟨_, rfl, hl, hm, by simpa using hz, hcell, hwz⟩⟩
  clear hA0 hval0
  refine (walk a0 len0 cap0 z0 a1 len1 cap1 z1 W w0 w1).mono fun e W' ⟨he, bel⟩ => ?_
  subst he
  exact ⟨_, rfl, _, _, _, [], _, [], hW', trodAll_mk1 (shut_bool Try.underlying4 _), (trodAll_cons_mk (Below.trod laidOut (by kernel_rfl) (of_decide_eq_true (by kernel_rfl)) k0 bel lt0) (trodAll_cons_mk (Below.trod laidOut (by kernel_rfl) (of_decide_eq_true (by kernel_rfl)) k1 bel lt1) trodAll_mk0)), rfl, bel.frame _, fun h => by cases h⟩

theorem over : Rows.utfBackRow.holds Try.pinned (OpenSpec.ofChange Rows.utfBackSpec) :=
  OpenClaim.holds_of_wide 4 Try.f4 rfl rfl rfl rfl rfl rfl rfl ⟨rfl, rfl, rfl, rfl, rfl⟩ rfl rfl rfl rfl rfl (by kernel_rfl) Try.func4 (by kernel_rfl)
    (of_decide_eq_true (by kernel_rfl)) (by unfold Func.isWrapper; first | (rw [if_pos (by decide +kernel)]; kernel_rfl) | (rw [if_neg (by decide +kernel)]; exact ⟨rfl, rfl⟩))
    (fun os started H enc _ => lifted os started H enc)

/-- ████ THE STATEMENT ████ -/
theorem proved : Rows.UtfBackSaid := over
#print axioms proved
end Go.Proofs.Ytkamlhkieblnoaa.utfBack
