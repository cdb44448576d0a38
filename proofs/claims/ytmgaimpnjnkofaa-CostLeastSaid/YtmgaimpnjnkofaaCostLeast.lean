/- For every list of costs CostLeast answers true, and turns nothing that was there. No condition. -/
import Derived.Test.YtmgaimpnjnkofaaRows
import Derived.Test.YtmgaimpnjnkofaaCostWalkC
import Derived.WalkKit
import Derived.ProofKit
import Derived.OpenShut
import Derived.ShutString
import Derived.ChangeOld
import Derived.Below
namespace Go.Proofs.Ytmgaimpnjnkofaa.costLeast
open Go.ChangeShapes Go.WideShapes Go.ChangeAt Go.RowKit
open Go.ChangeMaps (open_string shut_string)
set_option linter.unusedVariables false

theorem own : ownKnob Try.prog.godebug = none := by kernel_rfl
theorem laidOut : laidOutB Try.prog = true := by kernel_rfl

/-- WHAT THE WALK IS TOLD OF A SLICE OF INTEGERS THAT CAME IN: it is nil; or it leads to a row of 'cap' cells, the numbers 'zs' (the first 'len' are its elements, the rest its spare room), each fitting its kind. -/
def IsRow (k : IntKind) (w : World) (a : Option Addr) (len cap : Nat) (zs : List Int) : Prop :=
  (a = none ∧ len = 0 ∧ cap = 0 ∧ zs = []) ∨
  ∃ x, a = some x ∧ len ≤ cap ∧ cap ≤ maxLen ∧ zs.length = cap ∧ (∀ i, i < zs.length → w.cell? (x.add i) = some (.int k (zs.getD i 0))) ∧ ∀ n ∈ zs, (Lit.int k n).wf = true

/-! ### STEP 1: THE WALK: the Go text returns true, AND WRITES NOTHING THAT WAS THERE: 'Below w.heap.size w w'' (Derived/Below.lean: '.refl', '.alloc', '.drew', '.setCell' at a new block, '.trans'). Open each 'IsRow' by 'rcases' AHEAD of 'go_enter'; part every test ahead of the walk. -/
set_option maxHeartbeats 2000000 in
theorem walk (a0 : Option Addr) (len0 cap0 : Nat) (z0 : List Int) (w : World) (w0 : IsRow .u64 w a0 len0 cap0 z0) :
    Calls Try.prog 8 #[.slice a0 len0 cap0] w fun e w' => e = .returned (.bool true) ∧ Below w.heap.size w w' := by
  have hs := Sl.of_row w0
  generalize z0.take len0 = zs at hs
  have hcm := hs.2.2.1
  have hnc := hs.2.1
  unfold maxLen at hcm
  have HC := Lib.hid (costs_of hs.2.2.2.1)
  have HS := Lib.hid hs
  clear hs w0
  by_cases hbig : 1000 < len0
  · have hi : (1000 : Int) < (len0 : Int) := by omega
    go_enter Try.func8, Try.ntmps8
    go_wp2_with (go_at_call 11; refine (awake_any _).mono ?_; rintro e w1 ⟨rfl, hb1⟩)
    go_ret
    exact ⟨rfl, hb1⟩
  · have hi0 : decide ((1000 : Int) < (len0 : Int)) = false := by simp; omega
    clear hbig
    rcases Nat.eq_zero_or_pos len0 with h0 | hp
    · subst h0
      have hnil : zs = [] := List.eq_nil_of_length_eq_zero HS.out.1
      subst hnil
      go_enter Try.func8, Try.ntmps8
      go_wp2_with (go_at_call 11; refine (awake_any _).mono ?_; rintro e w1 ⟨rfl, B1⟩)
      refine (cleast_is _ _ _ [] 18446744073709551615 _ (HS.out.below B1 (Nat.le_refl _)) rfl).mono ?_
      rintro e w2 ⟨rfl, rfl⟩
      go_wp2_with fail
      go_loop [5, 6] (fun hv ix => hv = .bool true ∧ ix = .int .i64 0) (fun _ _ => 0)
      case atStart => exact ⟨rfl, rfl⟩
      case round =>
        obtain ⟨rfl, rfl⟩ := hrel
        go_wp2
        go_ret
        exact ⟨rfl, B1⟩
    · have hne : ((len0 : Int) == 0) = false := by simp; omega
      have hmr := Cost.least_range HC.out
      have hmem := Cost.least_mem HC.out (by intro h; have := HS.out.1; rw [h] at this; simp at this; omega)
      have hle := Cost.least_le (l := zs)
      obtain ⟨m, hm⟩ : ∃ m, Cost.least zs = m := ⟨_, rfl⟩
      rw [hm] at hmr hmem hle
      obtain ⟨hm0, hm1⟩ := hmr
      have HM := Lib.hid hm
      have HE := Lib.hid hmem
      have HL := Lib.hid hle
      clear hm hmem hle
      go_enter Try.func8, Try.ntmps8
      go_wp2_with (go_at_call 11; refine (awake_any _).mono ?_; rintro e w1 ⟨rfl, B1⟩)
      refine (cleast_is _ _ _ zs m _ (HS.out.below B1 (Nat.le_refl _)) HM.out).mono ?_
      rintro e w2 ⟨rfl, rfl⟩
      go_wp2_with fail
      go_loop [5, 6] (fun hv ix => ∃ j : Nat, ∃ g : Bool, j ≤ len0 ∧ ix = .int .i64 (j : Int) ∧ hv = .bool g ∧ Hid (g = decide (m ∈ zs.take j))) (fun _ ix => len0 - (intOf ix).toNat)
      case atStart => exact ⟨0, false, Nat.zero_le _, rfl, rfl, by show _ = _; simp⟩
      case round =>
        obtain ⟨j, g, hj, rfl, rfl, HG⟩ := hrel
        by_cases hlt : j < len0
        · have hs1 := HS.out.below B1 (Nat.le_refl _)
          obtain ⟨b1, o1, rfl, _, hc1⟩ := hs1.at (by omega)
          have hx1 := hc1 j hlt
          obtain ⟨x, hx⟩ : ∃ x, x = zs.getD j 0 := ⟨_, rfl⟩
          have hjz : j < zs.length := by rw [HS.out.1]; exact hlt
          have hge : m ≤ x := HL.out x (by rw [hx]; simp [hjz])
          have hnext : decide (m ∈ zs.take (j + 1)) = (g || (x == m)) := by
            rw [Cost.take_snoc zs j hjz, ← hx, HG.out, Bool.eq_iff_iff]
            simp only [decide_eq_true_iff, List.mem_append, List.mem_singleton, Bool.or_eq_true, beq_iff_eq]
            constructor
            · rintro (h | h)
              · exact .inl h
              · exact .inr h.symm
            · rintro (h | h)
              · exact .inl h
              · exact .inr h.symm
          rw [← hx] at hx1
          have HN := Lib.hid hnext
          have hlti : (j : Int) < (len0 : Int) := by omega
          clear hs1 hc1 hx hjz hnext
          cases g
          · obtain ⟨t, ht⟩ : ∃ t : Bool, (x == m) = t := ⟨_, rfl⟩
            have HN2 : Hid (decide (m ∈ zs.take (j + 1)) = t) := by show _ = _; rw [HN.out, ht]; rfl
            clear HN
            go_wp2
            go_round
            case rel => exact ⟨j + 1, t, by omega, by go_num, rfl, HN2.out.symm⟩
            case measure => simp [intOf]; omega
          · go_wp2
            go_round
            case rel => exact ⟨j + 1, true, by omega, by go_num, rfl, by show _ = _; rw [HN.out]; rfl⟩
            case measure => simp [intOf]; omega
        · have hfin : zs.take j = zs := List.take_of_length_le (by rw [HS.out.1]; omega)
          have hg := HG.out
          rw [hfin] at hg
          have hgt : g = true := by rw [hg, decide_eq_true_iff]; exact HE.out
          subst hgt
          clear hg hfin
          go_wp2
          go_ret
          exact ⟨rfl, B1⟩

/-! ### THE ROW's STEP: WRITTEN OUT: LEAVE IT -/
set_option maxRecDepth 100000 in
theorem lifted (os : Os) (started : os.Started) (H : Type) (enc : TypeId × Value → H) :
    ReturnsInHanded {} Try.checked os 8 .any (Rows.costLeastSpec.pre6 enc Try.prog Try.f8 Rows.costLeastRow.domain false) (Rows.costLeastSpec.post enc Try.prog Try.f8 false true false false) := by
  refine returnsInHanded_of_change (C := Try.checked) own started (by kernel_rfl) Try.func8
    (ChangeSpec.witness6 (enc := enc) (C := Try.checked) false ⟨#[], #[.slice none 0 0], []⟩ 8 (by kernel_rfl) (by kernel_rfl) (by kernel_rfl) (by kernel_rfl)) ?_
  intro W base args ds gs before hval0 hW hcnd _
  have hval : ∀ (j : Nat) t v, Try.f8.params[j]? = some t → args[j]? = some v → Value.okWide Try.prog W .any base t v := hval0
  have hW' := hW
  obtain ⟨p, q, hA0, hV, rfl, hfz, hnd⟩ := hW
  have hA : DataW.TrodAll enc Try.prog W 0 (fun _ => true) true Try.f8.params.toList args.toList ds p := hA0
  rw [Try.params8] at hA hval
  obtain ⟨v0, vs0, d0, ds0, p0, q0, hargs, rfl, rfl, h0, r0⟩ := trodAll_cons hA
  obtain ⟨rfl, rfl, rfl⟩ := trodAll_nil r0
  obtain rfl : args = #[v0] := by cases args; simp_all
  obtain ⟨rfl, rfl⟩ := trodVars_none hV
  obtain ⟨a0, len0, cap0, rfl⟩ := okWide_slice Try.underlying22 (hval 0 22 v0 rfl rfl)
  have k0 := h0
  have lt0 : ∀ x ∈ p0, x.block < W.heap.size := by obtain ⟨m, hm⟩ := k0; exact DataW.trod_lt m _ _ _ hm
  obtain ⟨z0, w0⟩ : ∃ zs, IsRow .u64 W a0 len0 cap0 zs := by
    obtain ⟨fuel, hf⟩ := h0
    rcases open_ints Try.underlying22 Try.underlying23 (by kernel_rfl) hf with ⟨hcs, _⟩ | ⟨x, l, c, zs, hcs, _, hl, hm, hz, _, hcell, hwz⟩
    · simp [Value.cells] at hcs
      obtain ⟨rfl, rfl, rfl⟩ := hcs
      exact ⟨[], .inl ⟨rfl, rfl, rfl, rfl⟩⟩
    · simp [Value.cells] at hcs
      obtain ⟨rfl, rfl, rfl⟩ := hcs
      exact ⟨zs, .inr ⟨_, rfl, hl, hm, by simpa using hz, hcell, hwz⟩⟩
  clear hA0 hval0
  refine (walk a0 len0 cap0 z0 W w0).mono fun e W' ⟨he, bel⟩ => ?_
  subst he
  exact ⟨_, rfl, _, _, _, [], _, [], hW', trodAll_mk1 (shut_bool Try.underlying4 _), (trodAll_cons_mk (Below.trod laidOut (by kernel_rfl) (of_decide_eq_true (by kernel_rfl)) k0 bel lt0) trodAll_mk0), rfl, bel.frame _, fun h => by cases h⟩

theorem over : Rows.costLeastRow.holds Try.pinned (OpenSpec.ofChange Rows.costLeastSpec) :=
  OpenClaim.holds_of_wide 8 Try.f8 rfl rfl rfl rfl rfl rfl rfl ⟨rfl, rfl, rfl, rfl, rfl⟩ rfl rfl rfl rfl rfl (by kernel_rfl) Try.func8 (by kernel_rfl)
    (of_decide_eq_true (by kernel_rfl)) (by unfold Func.isWrapper; first | (rw [if_pos (by decide +kernel)]; kernel_rfl) | (rw [if_neg (by decide +kernel)]; exact ⟨rfl, rfl⟩))
    (fun os started H enc _ => lifted os started H enc)

/-- ████ THE STATEMENT ████ -/
theorem proved : Rows.CostLeastSaid := over
#print axioms proved
end Go.Proofs.Ytmgaimpnjnkofaa.costLeast
