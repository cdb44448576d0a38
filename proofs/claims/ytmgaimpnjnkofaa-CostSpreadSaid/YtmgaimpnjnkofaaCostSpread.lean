/- For every list of costs and every cost CostSpread answers true, and turns nothing that was there. No condition. -/
import Derived.Test.YtmgaimpnjnkofaaRows
import Derived.Test.YtmgaimpnjnkofaaCostWalkD
import Derived.WalkKit
import Derived.ProofKit
import Derived.OpenShut
import Derived.ShutString
import Derived.ChangeOld
import Derived.Below
namespace Go.Proofs.Ytmgaimpnjnkofaa.costSpread
open Go.ChangeShapes Go.WideShapes Go.ChangeAt Go.RowKit
open Go.ChangeMaps (open_string shut_string)
set_option linter.unusedVariables false

theorem own : ownKnob Try.prog.godebug = none := by kernel_rfl
theorem laidOut : laidOutB Try.prog = true := by kernel_rfl

/-- WHAT THE WALK IS TOLD OF A SLICE OF INTEGERS THAT CAME IN: it is nil; or it leads to a row of 'cap' cells, the numbers 'zs' (the first 'len' are its elements, the rest its spare room), each fitting its kind. -/
def IsRow (k : IntKind) (w : World) (a : Option Addr) (len cap : Nat) (zs : List Int) : Prop :=
  (a = none ∧ len = 0 ∧ cap = 0 ∧ zs = []) ∨
  ∃ x, a = some x ∧ len ≤ cap ∧ cap ≤ maxLen ∧ zs.length = cap ∧ (∀ i, i < zs.length → w.cell? (x.add i) = some (.int k (zs.getD i 0))) ∧ ∀ n ∈ zs, (Lit.int k n).wf = true

/-! ### STEP 1: THE WALK: the Go text returns true, AND WRITES NOTHING THAT WAS THERE: 'Below w.heap.size w w'' (Derived/Below.lean: '.refl', '.alloc', '.drew', '.setCell' at a new block, '.trans'). Open each 'IsRow' by 'rcases' AHEAD of 'go_enter'; part every test ahead of the walk. -/
theorem walk (a0 : Option Addr) (len0 cap0 : Nat) (z0 : List Int) (a1 : Int) (w : World) (w0 : IsRow .u64 w a0 len0 cap0 z0) (w1 : (Lit.int .u64 a1).wf = true) :
    Calls Try.prog 9 #[.slice a0 len0 cap0, .int .u64 a1] w fun e w' => e = .returned (.bool true) ∧ Below w.heap.size w w' := by
  have hs := Sl.of_row w0
  generalize z0.take len0 = zs at hs
  have hcm := hs.2.2.1
  have hnc := hs.2.1
  unfold maxLen at hcm
  have HC := Lib.hid (costs_of hs.2.2.2.1)
  have HS := Lib.hid hs
  clear hs w0
  obtain ⟨hb0, hb1⟩ := bounds_u64 w1
  clear w1
  by_cases hbig : 1000 < len0
  · have hi : (1000 : Int) < (len0 : Int) := by omega
    go_enter Try.func9, Try.ntmps9
    go_wp2_with (go_at_call 11; refine (awake_any _).mono ?_; rintro e w1 ⟨rfl, hb1⟩)
    go_ret
    exact ⟨rfl, hb1⟩
  · have hi0 : decide ((1000 : Int) < (len0 : Int)) = false := by simp; omega
    have hl0 : len0 ≤ 1000 := by omega
    clear hbig
    obtain ⟨i0, hi, hz0, hz1, hz2⟩ := info_parts Try.info23
    have hmr := Cost.least_range HC.out
    have hsp := Cost.least_spread a1 HC.out hb0 hb1
    obtain ⟨m, hm⟩ : ∃ m, Cost.least zs = m := ⟨_, rfl⟩
    obtain ⟨r, hr⟩ : ∃ r, Cost.add a1 m = r := ⟨_, rfl⟩
    rw [hm] at hmr hsp
    rw [hr] at hsp
    obtain ⟨hm0, hm1⟩ := hmr
    have HM := Lib.hid hm
    have HR := Lib.hid hr
    have HP := Lib.hid hsp
    clear hm hr hsp
    go_enter Try.func9, Try.ntmps9
    go_wp2_with (go_at_call 11; refine (awake_any _).mono ?_; rintro e w1 ⟨rfl, B1⟩)
    go_loopw [6, 7] (fun mv ix wr => ∃ j c : Nat, ∃ g : Option Addr, j ≤ len0 ∧ ix = .int .i64 (j : Int) ∧ mv = .slice g j c ∧ wr.ownsRow w.heap.size 23 1 (.slice g j c) j (u64s ((zs.take j).map (Cost.add a1))) ∧ Below w.heap.size w wr) (fun _ ix _ => len0 - (intOf ix).toNat)
    case atStart => exact ⟨0, 0, none, Nat.zero_le _, rfl, rfl, World.ownsRow_nil _ _ _ _, B1⟩
    case round =>
      obtain ⟨j, c, g, hj, rfl, rfl, hown, B2⟩ := hrel
      by_cases hlt : j < len0
      · have hs2 := HS.out.below B2 (Nat.le_refl _)
        obtain ⟨b1, o1, rfl, _, hc1⟩ := hs2.at (by omega)
        have hx1 := hc1 j hlt
        obtain ⟨x, hx⟩ : ∃ x, x = zs.getD j 0 := ⟨_, rfl⟩
        have hxb := HC.out.at j
        rw [← hx] at hx1 hxb
        obtain ⟨hx0, hx9⟩ := hxb
        obtain ⟨y, hy⟩ : ∃ y, Cost.add a1 x = y := ⟨_, rfl⟩
        have hnext : (zs.take (j + 1)).map (Cost.add a1) = (zs.take j).map (Cost.add a1) ++ [y] := by
          rw [Cost.take_snoc zs j (by rw [HS.out.1]; exact hlt), List.map_append, ← hx, List.map_singleton, hy]
        have HN := Lib.hid hnext
        have HY := Lib.hid hy
        have hlti : (j : Int) < (len0 : Int) := by omega
        clear hs2 hc1 hx hnext hy
        go_wp2_with (first
          | (go_at_call 12; refine (cadd_is a1 x y _ hb0 hb1 hx0 hx9 HY.out).mono ?_; rintro e w' ⟨rfl, rfl⟩)
          | (at_builtin; refine wpList_append_lies _ (by rfl) (.tmp 19) (.tmp 26) 22 (by rfl) w.heap.size 23 i0 (.int .u64 0) 1 8 Try.underlying22 hi hz0 hz1 hz2 rfl (by decide) _ _ _ (by rfl) (hown.alloc _) ⟨wr.heap.size, 0, none⟩ 1 1 [.int .u64 y] (by rfl) rfl (one_new rfl) (by simp [Value.oneCell']) (by decide) (by unfold maxLen; omega) (by omega) (by have := B2.size; simp; omega) _ rfl ?_; intro g3 c3 w3 hown3 hgrow3 hat3 hlt3))
        have B3 : Below w.heap.size w w3 := (B2.alloc (by have := B2.size; omega) _).grown hgrow3 (by have := B2.size; simp; omega) (by intro k hk; exact (hown.lt k hk).1)
        rw [u64s_snoc, ← HN.out] at hown3
        clear hgrow3 hat3 hlt3 hown B2
        go_roundw
        case rel => exact ⟨j + 1, c3, some ⟨g3, 0, none⟩, by omega, by go_num, rfl, hown3, B3⟩
        case measure => simp [intOf]; omega
      · obtain rfl : j = len0 := by omega
        have hfin : zs.take j = zs := List.take_of_length_le (by rw [HS.out.1]; omega)
        rw [hfin] at hown
        have hsm := sl_owns hown (costs_map hb0 HC.out) (by rw [List.length_map]; exact HS.out.1)
        have hss := HS.out.below B2 (Nat.le_refl _)
        have HSM := Lib.hid hsm
        have HSS := Lib.hid hss
        clear hfin hown hsm hss
        go_wp2_with fail
        refine (cleast_is _ _ _ _ r _ HSM.out HP.out).mono ?_
        rintro e w2 ⟨rfl, rfl⟩
        go_wp2_with fail
        refine (cleast_is _ _ _ _ m _ HSS.out HM.out).mono ?_
        rintro e w2 ⟨rfl, rfl⟩
        go_wp2_with fail
        refine (cadd_is a1 m r _ hb0 hb1 hm0 hm1 HR.out).mono ?_
        rintro e w2 ⟨rfl, rfl⟩
        go_wp2
        go_ret
        exact ⟨rfl, B2⟩

/-! ### THE ROW's STEP: WRITTEN OUT: LEAVE IT -/
set_option maxRecDepth 100000 in
theorem lifted (os : Os) (started : os.Started) (H : Type) (enc : TypeId × Value → H) :
    ReturnsInHanded {} Try.checked os 9 .any (Rows.costSpreadSpec.pre6 enc Try.prog Try.f9 Rows.costSpreadRow.domain false) (Rows.costSpreadSpec.post enc Try.prog Try.f9 false true false false) := by
  refine returnsInHanded_of_change (C := Try.checked) own started (by kernel_rfl) Try.func9
    (ChangeSpec.witness6 (enc := enc) (C := Try.checked) false ⟨#[], #[.slice none 0 0, .int .u64 0], []⟩ 8 (by kernel_rfl) (by kernel_rfl) (by kernel_rfl) (by kernel_rfl)) ?_
  intro W base args ds gs before hval0 hW hcnd _
  have hval : ∀ (j : Nat) t v, Try.f9.params[j]? = some t → args[j]? = some v → Value.okWide Try.prog W .any base t v := hval0
  have hW' := hW
  obtain ⟨p, q, hA0, hV, rfl, hfz, hnd⟩ := hW
  have hA : DataW.TrodAll enc Try.prog W 0 (fun _ => true) true Try.f9.params.toList args.toList ds p := hA0
  rw [Try.params9] at hA hval
  obtain ⟨v0, vs0, d0, ds0, p0, q0, hargs, rfl, rfl, h0, r0⟩ := trodAll_cons hA
  obtain ⟨v1, vs1, d1, ds1, p1, q1, rfl, rfl, rfl, h1, r1⟩ := trodAll_cons r0
  obtain ⟨rfl, rfl, rfl⟩ := trodAll_nil r1
  obtain rfl : args = #[v0, v1] := by cases args; simp_all
  obtain ⟨rfl, rfl⟩ := trodVars_none hV
  obtain ⟨a0, len0, cap0, rfl⟩ := okWide_slice Try.underlying22 (hval 0 22 v0 rfl rfl)
  have k0 := h0
  have lt0 : ∀ x ∈ p0, x.block < W.heap.size := by obtain ⟨m, hm⟩ := k0; exact DataW.trod_lt m _ _ _ hm
  obtain ⟨z0, w0⟩ : ∃ zs, IsRow .u64 W a0 len0 cap0 zs := by
    obtain ⟨fuel, hf⟩ := h0
    rcases open_ints Try.underlying22 Try.underlying23 (by kernel_rfl) hf with ⟨hcs, _⟩ | ⟨x, l, c, zs, hcs, _, hl, hm, hz, _, hcell, hwz⟩
    · simp [Value.cells] at hcs
      obtain ⟨rfl, rfl, rfl⟩ := hcs
      exact ⟨[], .inl ⟨rfl, rfl, rfl, rfl⟩⟩
    · simp [Value.cells] at hcs
      obtain ⟨rfl, rfl, rfl⟩ := hcs
      exact ⟨zs, .inr ⟨_, rfl, hl, hm, by simpa using hz, hcell, hwz⟩⟩
  obtain ⟨a1, rfl, rfl, rfl, w1⟩ := open_int Try.underlying23 (hval 1 23 v1 rfl rfl) h1
  clear hA0 hval0
  refine (walk a0 len0 cap0 z0 a1 W w0 w1).mono fun e W' ⟨he, bel⟩ => ?_
  subst he
  exact ⟨_, rfl, _, _, _, [], _, [], hW', trodAll_mk1 (shut_bool Try.underlying4 _), (trodAll_cons_mk (Below.trod laidOut (by kernel_rfl) (of_decide_eq_true (by kernel_rfl)) k0 bel lt0) (trodAll_cons_mk (shut_int Try.underlying23 w1) trodAll_mk0)), rfl, bel.frame _, fun h => by cases h⟩

theorem over : Rows.costSpreadRow.holds Try.pinned (OpenSpec.ofChange Rows.costSpreadSpec) :=
  OpenClaim.holds_of_wide 9 Try.f9 rfl rfl rfl rfl rfl rfl rfl ⟨rfl, rfl, rfl, rfl, rfl⟩ rfl rfl rfl rfl rfl (by kernel_rfl) Try.func9 (by kernel_rfl)
    (of_decide_eq_true (by kernel_rfl)) (by unfold Func.isWrapper; first | (rw [if_pos (by decide +kernel)]; kernel_rfl) | (rw [if_neg (by decide +kernel)]; exact ⟨rfl, rfl⟩))
    (fun os started H enc _ => lifted os started H enc)

/-- ████ THE STATEMENT ████ -/
theorem proved : Rows.CostSpreadSaid := over
#print axioms proved
end Go.Proofs.Ytmgaimpnjnkofaa.costSpread
