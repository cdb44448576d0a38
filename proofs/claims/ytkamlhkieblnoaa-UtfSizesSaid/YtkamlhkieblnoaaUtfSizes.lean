/- For every list of numbers UtfSizes answers true, and turns nothing that was there. No condition. -/
import Derived.Test.YtkamlhkieblnoaaRows
import Derived.Test.YtkamlhkieblnoaaUtfWalkK
import Derived.WalkKit
import Derived.ProofKit
import Derived.OpenShut
import Derived.ShutString
import Derived.ChangeOld
import Derived.Below
namespace Go.Proofs.Ytkamlhkieblnoaa.utfSizes
open Go.ChangeShapes Go.WideShapes Go.ChangeAt Go.RowKit
open Go.ChangeMaps (open_string shut_string)
set_option linter.unusedVariables false

theorem own : ownKnob Try.prog.godebug = none := by kernel_rfl
theorem laidOut : laidOutB Try.prog = true := by kernel_rfl

/-- WHAT THE WALK IS TOLD OF A SLICE OF INTEGERS THAT CAME IN: it is nil; or it leads to a row of 'cap' cells, the numbers 'zs' (the first 'len' are its elements, the rest its spare room), each fitting its kind. -/
def IsRow (k : IntKind) (w : World) (a : Option Addr) (len cap : Nat) (zs : List Int) : Prop :=
  (a = none ∧ len = 0 ∧ cap = 0 ∧ zs = []) ∨
  ∃ x, a = some x ∧ len ≤ cap ∧ cap ≤ maxLen ∧ zs.length = cap ∧ (∀ i, i < zs.length → w.cell? (x.add i) = some (.int k (zs.getD i 0))) ∧ ∀ n ∈ zs, (Lit.int k n).wf = true

/-! ### STEP 1: THE WALK: the Go text returns true, AND WRITES NOTHING THAT WAS THERE: 'Below w.heap.size w w'' (Derived/Below.lean: '.refl', '.alloc', '.drew', '.setCell' at a new block, '.trans'). Open each 'IsRow' by 'rcases' AHEAD of 'go_enter'; part every test ahead of the walk. -/
theorem walk (a0 : Option Addr) (len0 cap0 : Nat) (z0 : List Int) (w : World) (w0 : IsRow .i64 w a0 len0 cap0 z0) :
    Calls Try.prog 7 #[.slice a0 len0 cap0] w fun e w' => e = .returned (.bool true) ∧ Below w.heap.size w w' := by
  have hs := Sl.of_row w0
  generalize z0.take len0 = zs at hs
  have hcm := hs.2.2.1
  have hnc := hs.2.1
  unfold maxLen at hcm
  have HS := Lib.hid hs
  clear hs w0
  by_cases hbig : 1000 < len0
  · go_enter Try.func7, Try.ntmps7
    go_wp2_with (go_at_call 10; refine (awake_any _).mono ?_; rintro e w1 ⟨rfl, hb1⟩)
    go_ret
    exact ⟨rfl, hb1⟩
  · go_enter Try.func7, Try.ntmps7
    go_wp2_with (first
      | (go_at_call 10; refine (awake_any _).mono ?_; rintro e w1 ⟨rfl, hb1⟩; have hsz1 := hb1.size)
      | (go_at_call 11; refine (put_both _ _ _ zs _ (HS.out.below hb1 (Nat.le_refl _)) (by omega)).mono ?_; rintro e w2 ⟨a', m, c, er, rfl, hr, hb2⟩))
    have HR := Lib.hid hr
    have B2 : Below w.heap.size w w2 := hb1.trans (hb2.mono hsz1)
    clear hr hb1 hb2
    go_loop [6, 7, 8] (fun nv gv ix => ∃ j : Nat, ∃ g : Bool, j ≤ len0 ∧ ix = .int .i64 (j : Int) ∧ gv = .bool g ∧ nv = .int .i64 ((Utf.put (zs.take j)).length : Int) ∧ Hid (Utf.allGood (zs.take j) = g)) (fun _ _ ix => len0 - (intOf ix).toNat)
    case atStart => exact ⟨0, true, Nat.zero_le _, rfl, rfl, rfl, rfl⟩
    case round =>
      obtain ⟨j, g, hj, rfl, rfl, rfl, HG⟩ := hrel
      have hput := Utf.put_length_le (zs.take j)
      have htk : (zs.take j).length ≤ j := List.length_take_le _ _
      by_cases hlt : j < len0
      · have hs2 := HS.out.below B2 (Nat.le_refl _)
        obtain ⟨z, hz⟩ : ∃ z, z = zs.getD j 0 := ⟨_, rfl⟩
        have hzb : -9223372036854775808 ≤ z ∧ z ≤ 9223372036854775807 := by have := range_i64 hs2.2.2.2.1 j; rw [hz, List.getD_eq_getElem?_getD]; exact this
        obtain ⟨b, off, rfl, _, hcc⟩ := hs2.at (by omega)
        have hc := hcc j hlt
        rw [← hz] at hc
        have hjz : j < zs.length := by rw [hs2.1]; exact hlt
        have e1 := put_take_succ zs j hjz
        rw [← hz] at e1
        have e2 : (Utf.put (zs.take (j + 1))).length = (Utf.put (zs.take j)).length + Utf.size z := by rw [e1, List.length_append, Utf.enc_length]
        have e3 : Utf.allGood (zs.take (j + 1)) = (g && Utf.good z) := by rw [allGood_take_succ _ _ hjz, HG.out, ← hz]
        have E2 := Lib.hid e2
        have E3 := Lib.hid e3
        have hlti : (j : Int) < (len0 : Int) := by omega
        obtain ⟨hzb0, hzb1⟩ := hzb
        clear hs2 hz hcc hjz e1 e2 e3
        have hz4 : (z < 128 ∧ Utf.size z = 1) ∨ (128 ≤ z ∧ z < 2048 ∧ Utf.size z = 2) ∨ (2048 ≤ z ∧ z < 65536 ∧ Utf.size z = 3) ∨ (65536 ≤ z ∧ Utf.size z = 4) := by
          unfold Utf.size
          split
          · omega
          · split
            · omega
            · split <;> omega
        cases g
        all_goals (
          rcases hz4 with ⟨q1, q2⟩ | ⟨q1, q3, q2⟩ | ⟨q1, q3, q2⟩ | ⟨q1, q2⟩
          all_goals (
            have Q2 := Lib.hid q2
            clear q2
            go_wp2_with (go_at_call 18; refine (good_any _ _ hzb0 hzb1).mono ?_; rintro e w' ⟨rfl, rfl⟩)
            go_round
            case rel => exact ⟨j + 1, _, by omega, by go_num, rfl, congrArg (Value.int .i64) (by rw [E2.out, Q2.out]; omega), by rw [E3.out]; rfl⟩
            case measure => simp [intOf]; omega))
      · have hge : zs.take j = zs := List.take_of_length_le (by rw [HS.out.1]; omega)
        have hgg := HG.out
        rw [hge] at hgg ⊢
        have hnl : ¬ (j : Int) < (len0 : Int) := by omega
        clear hput
        obtain ⟨h1, rfl, h2, h3⟩ | ⟨h1, rfl, rfl, rfl, rfl⟩ := HR.out
        · rw [h1] at hgg
          rw [← h2]
          subst hgg
          clear h1 h2 h3 hge HR HG hlt
          go_wp2
          go_ret
          exact ⟨rfl, B2⟩
        · rw [h1] at hgg
          subst hgg
          clear h1 hge HR HG hlt
          go_wp2
          go_ret
          exact ⟨rfl, B2⟩

/-! ### THE ROW's STEP: WRITTEN OUT: LEAVE IT -/
set_option maxRecDepth 100000 in
theorem lifted (os : Os) (started : os.Started) (H : Type) (enc : TypeId × Value → H) :
    ReturnsInHanded {} Try.checked os 7 .any (Rows.utfSizesSpec.pre6 enc Try.prog Try.f7 Rows.utfSizesRow.domain false) (Rows.utfSizesSpec.post enc Try.prog Try.f7 false true false false) := by
  refine returnsInHanded_of_change (C := Try.checked) own started (by kernel_rfl) Try.func7
    (ChangeSpec.witness6 (enc := enc) (C := Try.checked) false ⟨#[], #[.slice none 0 0], []⟩ 8 (by kernel_rfl) (by kernel_rfl) (by kernel_rfl) (by kernel_rfl)) ?_
  intro W base args ds gs before hval0 hW hcnd _
  have hval : ∀ (j : Nat) t v, Try.f7.params[j]? = some t → args[j]? = some v → Value.okWide Try.prog W .any base t v := hval0
  have hW' := hW
  obtain ⟨p, q, hA0, hV, rfl, hfz, hnd⟩ := hW
  have hA : DataW.TrodAll enc Try.prog W 0 (fun _ => true) true Try.f7.params.toList args.toList ds p := hA0
  rw [Try.params7] at hA hval
  obtain ⟨v0, vs0, d0, ds0, p0, q0, hargs, rfl, rfl, h0, r0⟩ := trodAll_cons hA
  obtain ⟨rfl, rfl, rfl⟩ := trodAll_nil r0
  obtain rfl : args = #[v0] := by cases args; simp_all
  obtain ⟨rfl, rfl⟩ := trodVars_none hV
  obtain ⟨a0, len0, cap0, rfl⟩ := okWide_slice Try.underlying22 (hval 0 22 v0 rfl rfl)
  have k0 := h0
  have lt0 : ∀ x ∈ p0, x.block < W.heap.size := by obtain ⟨m, hm⟩ := k0; exact DataW.trod_lt m _ _ _ hm
  obtain ⟨z0, w0⟩ : ∃ zs, IsRow .i64 W a0 len0 cap0 zs := by
    obtain ⟨fuel, hf⟩ := h0
    rcases open_ints Try.underlying22 Try.underlying3 (by kernel_rfl) hf with ⟨hcs, _⟩ | ⟨x, l, c, zs, hcs, _, hl, hm, hz, _, hcell, hwz⟩
    · simp [Value.cells] at hcs
      obtain ⟨rfl, rfl, rfl⟩ := hcs
      exact ⟨[], .inl ⟨rfl, rfl, rfl, rfl⟩⟩
    · simp [Value.cells] at hcs
      obtain ⟨rfl, rfl, rfl⟩ := hcs
      exact ⟨zs, .inr ⟨_, rfl, hl, hm, by simpa using hz, hcell, hwz⟩⟩
  clear hA0 hval0
  refine (walk a0 len0 cap0 z0 W w0).mono fun e W' ⟨he, bel⟩ => ?_
  subst he
  exact ⟨_, rfl, _, _, _, [], _, [], hW', trodAll_mk1 (shut_bool Try.underlying4 _), (trodAll_cons_mk (Below.trod laidOut (by kernel_rfl) (of_decide_eq_true (by kernel_rfl)) k0 bel lt0) trodAll_mk0), rfl, bel.frame _, fun h => by cases h⟩

theorem over : Rows.utfSizesRow.holds Try.pinned (OpenSpec.ofChange Rows.utfSizesSpec) :=
  OpenClaim.holds_of_wide 7 Try.f7 rfl rfl rfl rfl rfl rfl rfl ⟨rfl, rfl, rfl, rfl, rfl⟩ rfl rfl rfl rfl rfl (by kernel_rfl) Try.func7 (by kernel_rfl)
    (of_decide_eq_true (by kernel_rfl)) (by unfold Func.isWrapper; first | (rw [if_pos (by decide +kernel)]; kernel_rfl) | (rw [if_neg (by decide +kernel)]; exact ⟨rfl, rfl⟩))
    (fun os started H enc _ => lifted os started H enc)

/-- ████ THE STATEMENT ████ -/
theorem proved : Rows.UtfSizesSaid := over
#print axioms proved
end Go.Proofs.Ytkamlhkieblnoaa.utfSizes
