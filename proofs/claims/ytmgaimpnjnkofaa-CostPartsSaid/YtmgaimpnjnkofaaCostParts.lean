/- For every two lists of costs CostParts answers true, and turns nothing that was there. No condition. -/
import Derived.Test.YtmgaimpnjnkofaaRows
import Derived.Test.YtmgaimpnjnkofaaCostAwake
import Derived.Test.YtmgaimpnjnkofaaCostWalkD
import Derived.WalkKit
import Derived.ProofKit
import Derived.OpenShut
import Derived.ShutString
import Derived.ChangeOld
import Derived.Below
namespace Go.Proofs.Ytmgaimpnjnkofaa.costParts
open Go.ChangeShapes Go.WideShapes Go.ChangeAt Go.RowKit
open Go.ChangeMaps (open_string shut_string)
set_option linter.unusedVariables false

theorem own : ownKnob Try.prog.godebug = none := by kernel_rfl
theorem laidOut : laidOutB Try.prog = true := by kernel_rfl

/-- WHAT THE WALK IS TOLD OF A SLICE OF INTEGERS THAT CAME IN: it is nil; or it leads to a row of 'cap' cells, the numbers 'zs' (the first 'len' are its elements, the rest its spare room), each fitting its kind. -/
def IsRow (k : IntKind) (w : World) (a : Option Addr) (len cap : Nat) (zs : List Int) : Prop :=
  (a = none ∧ len = 0 ∧ cap = 0 ∧ zs = []) ∨
  ∃ x, a = some x ∧ len ≤ cap ∧ cap ≤ maxLen ∧ zs.length = cap ∧ (∀ i, i < zs.length → w.cell? (x.add i) = some (.int k (zs.getD i 0))) ∧ ∀ n ∈ zs, (Lit.int k n).wf = true

theorem least_two {xs ys : List Int} (hx : Cost.Costs xs) (hy : Cost.Costs ys) : Cost.least [Cost.least xs, Cost.least ys] = Cost.least (xs ++ ys) := by
  rw [Cost.least_append hy]
  have h1 := Cost.least_range hx
  have h2 := Cost.least_range hy
  simp only [Cost.least, Cost.lo]
  generalize Cost.least xs = a at *
  generalize Cost.least ys = b at *
  omega

/-! ### STEP 1: THE WALK: the Go text returns true, AND WRITES NOTHING THAT WAS THERE: 'Below w.heap.size w w'' (Derived/Below.lean: '.refl', '.alloc', '.drew', '.setCell' at a new block, '.trans'). Open each 'IsRow' by 'rcases' AHEAD of 'go_enter'; part every test ahead of the walk. -/
set_option maxRecDepth 100000 in
set_option maxHeartbeats 2000000 in
theorem walk (a0 : Option Addr) (len0 cap0 : Nat) (z0 : List Int) (a1 : Option Addr) (len1 cap1 : Nat) (z1 : List Int) (w : World) (w0 : IsRow .u64 w a0 len0 cap0 z0) (w1 : IsRow .u64 w a1 len1 cap1 z1) :
    Calls Try.prog 5 #[.slice a0 len0 cap0, .slice a1 len1 cap1] w fun e w' => e = .returned (.bool true) ∧ Below w.heap.size w w' := by
  have hn00 : a0 = none → cap0 = 0 := by
    rcases w0 with ⟨_, _, h, _⟩ | ⟨x, h, _⟩
    · exact fun _ => h
    · intro h'; rw [h] at h'; cases h'
  have hn01 : a1 = none → cap1 = 0 := by
    rcases w1 with ⟨_, _, h, _⟩ | ⟨x, h, _⟩
    · exact fun _ => h
    · intro h'; rw [h] at h'; cases h'
  have HN0 := Lib.hid hn00
  have HN1 := Lib.hid hn01
  clear hn00 hn01
  have hs := Sl.of_row w0
  generalize z0.take len0 = xs at hs
  have hcm0 := hs.2.2.1
  have hnc0 := hs.2.1
  unfold maxLen at hcm0
  have HS := Lib.hid hs
  clear hs w0
  have ht := Sl.of_row w1
  generalize z1.take len1 = ys at ht
  have hcm1 := ht.2.2.1
  have hnc1 := ht.2.1
  unfold maxLen at hcm1
  have HT := Lib.hid ht
  clear ht w1
  by_cases hbig : 1000 < len0 ∨ 1000 < len1
  · rcases hbig with h | h
    · have hi : (1000 : Int) < (len0 : Int) := by omega
      go_enter Try.func5, Try.ntmps5
      go_wp2_with (go_at_call 11; refine (awake_any _).mono ?_; rintro e w1 ⟨rfl, hb1⟩)
      go_ret
      exact ⟨rfl, hb1⟩
    · by_cases h' : 1000 < len0
      · have hi : (1000 : Int) < (len0 : Int) := by omega
        go_enter Try.func5, Try.ntmps5
        go_wp2_with (go_at_call 11; refine (awake_any _).mono ?_; rintro e w1 ⟨rfl, hb1⟩)
        go_ret
        exact ⟨rfl, hb1⟩
      · have hi : ¬ (1000 : Int) < (len0 : Int) := by omega
        have hi1 : (1000 : Int) < (len1 : Int) := by omega
        go_enter Try.func5, Try.ntmps5
        go_wp2_with (go_at_call 11; refine (awake_any _).mono ?_; rintro e w1 ⟨rfl, hb1⟩)
        go_ret
        exact ⟨rfl, hb1⟩
  · have hl0 : len0 ≤ 1000 := by omega
    have hl1 : len1 ≤ 1000 := by omega
    have hi0 : decide ((1000 : Int) < (len0 : Int)) = false := by simp; omega
    have hi1 : decide ((1000 : Int) < (len1 : Int)) = false := by simp; omega
    clear hbig
    have hcx := costs_of HS.out.2.2.2.1
    have hcy := costs_of HT.out.2.2.2.1
    have hca := hcx.append hcy
    obtain ⟨zs, hzs⟩ : ∃ zs, xs ++ ys = zs := ⟨_, rfl⟩
    obtain ⟨N, hN⟩ : ∃ N, len0 + len1 = N := ⟨_, rfl⟩
    have hN2 : N ≤ 2000 := by omega
    have hzl : zs.length = N := by rw [← hzs, List.length_append, HS.out.1, HT.out.1, hN]
    have hsum := Cost.sum_append hcx hcy
    have hleast := least_two hcx hcy
    rw [hzs] at hca hsum hleast
    obtain ⟨m, hm⟩ : ∃ m, Cost.least zs = m := ⟨_, rfl⟩
    obtain ⟨S, hS⟩ : ∃ S, Cost.sum zs = S := ⟨_, rfl⟩
    obtain ⟨Sx, hSx⟩ : ∃ S, Cost.sum xs = S := ⟨_, rfl⟩
    obtain ⟨Sy, hSy⟩ : ∃ S, Cost.sum ys = S := ⟨_, rfl⟩
    obtain ⟨Lx, hLx⟩ : ∃ S, Cost.least xs = S := ⟨_, rfl⟩
    obtain ⟨Ly, hLy⟩ : ∃ S, Cost.least ys = S := ⟨_, rfl⟩
    have hle := Cost.least_le (l := zs)
    have hge := Cost.mem_le_sum hca
    have hmem : zs = [] ∨ m ∈ zs := by
      by_cases h : zs = []
      · exact .inl h
      · right; rw [← hm]; exact Cost.least_mem hca h
    have rSx := Cost.sum_range hcx
    have rSy := Cost.sum_range hcy
    have rLx := Cost.least_range hcx
    have rLy := Cost.least_range hcy
    rw [hm] at hle hleast
    rw [hS] at hge hsum
    rw [hSx] at hsum rSx
    rw [hSy] at hsum rSy
    rw [hLx] at hleast rLx
    rw [hLy] at hleast rLy
    obtain ⟨rSx0, rSx1⟩ := rSx
    obtain ⟨rSy0, rSy1⟩ := rSy
    have HCL : Hid (Cost.Costs [Lx, Ly]) := by
      intro x hx; simp at hx; rcases hx with rfl | rfl
      · exact rLx
      · exact rLy
    have HZ := Lib.hid hzs
    have HZL := Lib.hid hzl
    have HCA := Lib.hid hca
    have HSUM := Lib.hid hsum.symm
    have HLST := Lib.hid hleast
    have HM := Lib.hid hm
    have HSS := Lib.hid hS
    have HSX := Lib.hid hSx
    have HSY := Lib.hid hSy
    have HLX := Lib.hid hLx
    have HLY := Lib.hid hLy
    have HLE := Lib.hid hle
    have HGE := Lib.hid hge
    have HMEM := Lib.hid hmem
    clear hcx hcy hca hzs hzl hsum hleast hm hS hSx hSy hLx hLy hle hge hmem rLx rLy
    go_enter Try.func5, Try.ntmps5
    go_wp2_with fail
    refine (awake_any _).mono ?_
    rintro e w1 ⟨rfl, B1⟩
    have hz1 := B1.size
    have HOW := Lib.hid (owns_none_u64 w1)
    go_wp2_with (first
      | (at_builtin; refine append_u64 rfl (.tmp 20) (.tmp 21) (by rfl) w1.heap.size _ 0 [] (by rfl) HOW.out a0 len0 cap0 xs (by rfl) ((HS.out.below B1 (Nat.le_refl _)).alloc _) HN0.out len0 (by omega) (by omega) (by simp) ?_; intro a5 c5 w4 hown1 hb4; simp only [List.nil_append] at hown1; have B4 : Below w.heap.size w w4 := (B1.alloc hz1 _).trans (hb4.mono hz1); have T4 := HT.out.below B4 (Nat.le_refl _); have hz4 : w1.heap.size ≤ w4.heap.size := (by have := hb4.size; simp at this; omega))
      | (at_builtin; refine append_u64 rfl (.tmp 22) (.tmp 23) (by rfl) w1.heap.size _ _ _ (by rfl) hown1 a1 len1 cap1 ys (by rfl) T4 HN1.out N hN (by omega) hz4 ?_; intro a6 c6 w5 hown2 hb5)
      | fail)
    have hb45 : Below w1.heap.size w1 w5 := (((Below.refl w1.heap.size w1).alloc (Nat.le_refl _) _).trans hb4).trans hb5
    have B5 : Below w.heap.size w w5 := B1.trans (hb45.mono hz1)
    rw [HZ.out] at hown2
    have S5 := Lib.hid (sl_owns hown2 HCA.out HZL.out)
    clear hb4 hb5 hown1 hown2 hb45 B4 T4 hz4 HOW hz1
    refine (cleast_is _ _ _ zs m _ S5.out HM.out).mono ?_
    rintro e w6 ⟨rfl, rfl⟩
    go_wp2_with fail
    go_loopw [8, 9] (fun hv ix wr => ∃ j : Nat, ∃ g : Bool, j ≤ N ∧ ix = .int .i64 (j : Int) ∧ hv = .bool g ∧ Hid (g = decide (zs = [] ∨ m ∈ zs.take j)) ∧ Below w5.heap.size w5 wr) (fun _ ix _ => N - (intOf ix).toNat)
    case atStart =>
      refine ⟨0, _, Nat.zero_le _, rfl, rfl, ?_, Below.refl _ _⟩
      show _ = _
      rw [Bool.eq_iff_iff, decide_eq_true_iff, beq_iff_eq]
      constructor
      · intro h; exact .inl (List.eq_nil_of_length_eq_zero (by rw [HZL.out]; omega))
      · rintro (h | h)
        · have := HZL.out; rw [h] at this; simp at this; omega
        · simp at h
    case round =>
      obtain ⟨j, g, hj, rfl, rfl, HG, B6⟩ := hrel
      by_cases hlt : j < N
      · have hs6 := S5.out.below B6 (Nat.le_refl _)
        obtain ⟨b1, o1, rfl, _, hc1⟩ := hs6.at (by omega)
        have S6 := Lib.hid hs6
        have hx1 := hc1 j hlt
        obtain ⟨x, hx⟩ : ∃ x, x = zs.getD j 0 := ⟨_, rfl⟩
        have hjz : j < zs.length := by rw [HZL.out]; exact hlt
        have hxm : x ∈ zs := by rw [hx]; simp [hjz]
        have hnlt : decide (x < m) = false := by have := HLE.out x hxm; simp; omega
        have hngt : decide (S < x) = false := by have := HGE.out x hxm; simp; omega
        have hnext : decide (zs = [] ∨ m ∈ zs.take (j + 1)) = (g || (x == m)) := by
          rw [Cost.take_snoc zs j hjz, ← hx, HG.out, Bool.eq_iff_iff]
          simp only [decide_eq_true_iff, List.mem_append, List.mem_singleton, Bool.or_eq_true, beq_iff_eq]
          rw [or_assoc, eq_comm (a := m)]
        rw [← hx] at hx1
        have HN := Lib.hid hnext
        have hlti : (j : Int) < (N : Int) := by omega
        clear hs6 hc1 hx hjz hxm hnext
        cases g
        · obtain ⟨t, ht⟩ : ∃ t : Bool, (x == m) = t := ⟨_, rfl⟩
          have HN2 : Hid (decide (zs = [] ∨ m ∈ zs.take (j + 1)) = t) := by show _ = _; rw [HN.out, ht]; rfl
          clear HN
          go_wp2_with fail
          go_quiet ((go_at_call 14; exact Calls.quiet_of_same ((csum_is _ _ _ zs S _ (S6.out.below (below_drewN (Below.refl _ wr) _) (Nat.le_refl _)) HSS.out).mono fun _ _ h => ⟨h.1, h.2.symm⟩)))
          go_wp2
          go_roundw
          case rel => exact ⟨j + 1, t, by omega, by go_num, rfl, HN2.out.symm, below_drewN B6 _⟩
          case measure => simp [intOf]; omega
        · have HN2 : Hid (decide (zs = [] ∨ m ∈ zs.take (j + 1)) = true) := by show _ = _; rw [HN.out]; rfl
          clear HN
          go_wp2_with fail
          go_quiet ((go_at_call 14; exact Calls.quiet_of_same ((csum_is _ _ _ zs S _ (S6.out.below (below_drewN (Below.refl _ wr) _) (Nat.le_refl _)) HSS.out).mono fun _ _ h => ⟨h.1, h.2.symm⟩)))
          go_wp2
          go_roundw
          case rel => exact ⟨j + 1, true, by omega, by go_num, rfl, HN2.out.symm, below_drewN B6 _⟩
          case measure => simp [intOf]; omega
      · have hfin : zs.take j = zs := List.take_of_length_le (by rw [HZL.out]; omega)
        have hg := HG.out
        rw [hfin] at hg
        have hgt : g = true := by rw [hg, decide_eq_true_iff]; exact HMEM.out
        subst hgt
        clear hg hfin HG
        have B7 : Below w.heap.size w wr := B5.trans (B6.mono B5.size)
        have S6 := Lib.hid (S5.out.below B6 (Nat.le_refl _))
        have SX6 := Lib.hid (HS.out.below B7 (Nat.le_refl _))
        have SY6 := Lib.hid (HT.out.below B7 (Nat.le_refl _))
        clear B5 B6 B1
        go_wp2_with fail
        refine (csum_is _ _ _ zs S _ S6.out HSS.out).mono ?_
        rintro e w7 ⟨rfl, rfl⟩
        go_wp2_with fail
        refine (csum_is _ _ _ xs Sx _ SX6.out HSX.out).mono ?_
        rintro e w7 ⟨rfl, rfl⟩
        go_wp2_with fail
        refine (csum_is _ _ _ ys Sy _ SY6.out HSY.out).mono ?_
        rintro e w7 ⟨rfl, rfl⟩
        go_wp2_with fail
        refine (cadd_is Sx Sy S _ rSx0 rSx1 rSy0 rSy1 HSUM.out).mono ?_
        rintro e w7 ⟨rfl, rfl⟩
        go_wp2_with fail
        refine (cleast_is _ _ _ xs Lx _ SX6.out HLX.out).mono ?_
        rintro e w7 ⟨rfl, rfl⟩
        go_wp2_with fail
        refine (cleast_is _ _ _ ys Ly _ SY6.out HLY.out).mono ?_
        rintro e w7 ⟨rfl, rfl⟩
        go_wp2_with fail
        refine (cleast_is _ _ _ [Lx, Ly] m _ (Sl.newcB [Lx, Ly] HCL.out (by simp [maxLen]) rfl rfl rfl) HLST.out).mono ?_
        rintro e w7 ⟨rfl, rfl⟩
        go_wp2
        go_ret
        exact ⟨rfl, B7.alloc B7.size _⟩

/-! ### THE ROW's STEP: WRITTEN OUT: LEAVE IT -/
set_option maxRecDepth 100000 in
theorem lifted (os : Os) (started : os.Started) (H : Type) (enc : TypeId × Value → H) :
    ReturnsInHanded {} Try.checked os 5 .any (Rows.costPartsSpec.pre6 enc Try.prog Try.f5 Rows.costPartsRow.domain false) (Rows.costPartsSpec.post enc Try.prog Try.f5 false true false false) := by
  refine returnsInHanded_of_change (C := Try.checked) own started (by kernel_rfl) Try.func5
    (ChangeSpec.witness6 (enc := enc) (C := Try.checked) false ⟨#[], #[.slice none 0 0, .slice none 0 0], []⟩ 8 (by kernel_rfl) (by kernel_rfl) (by kernel_rfl) (by kernel_rfl)) ?_
  intro W base args ds gs before hval0 hW hcnd _
  have hval : ∀ (j : Nat) t v, Try.f5.params[j]? = some t → args[j]? = some v → Value.okWide Try.prog W .any base t v := hval0
  have hW' := hW
  obtain ⟨p, q, hA0, hV, rfl, hfz, hnd⟩ := hW
  have hA : DataW.TrodAll enc Try.prog W 0 (fun _ => true) true Try.f5.params.toList args.toList ds p := hA0
  rw [Try.params5] at hA hval
  obtain ⟨v0, vs0, d0, ds0, p0, q0, hargs, rfl, rfl, h0, r0⟩ := trodAll_cons hA
  obtain ⟨v1, vs1, d1, ds1, p1, q1, rfl, rfl, rfl, h1, r1⟩ := trodAll_cons r0
  obtain ⟨rfl, rfl, rfl⟩ := trodAll_nil r1
  obtain rfl : args = #[v0, v1] := by cases args; simp_all
  obtain ⟨rfl, rfl⟩ := trodVars_none hV
  obtain ⟨a0, len0, cap0, rfl⟩ := okWide_slice Try.underlying22 (hval 0 22 v0 rfl rfl)
  have k0 := h0
  have lt0 : ∀ x ∈ p0, x.block < W.heap.size := by obtain ⟨m, hm⟩ := k0; exact DataW.trod_lt m _ _ _ hm
  obtain ⟨z0, w0⟩ : ∃ zs, IsRow .u64 W a0 len0 cap0 zs := by
    obtain ⟨fuel, hf⟩ := h0
    rcases open_ints Try.underlying22 Try.underlying23 (by kernel_rfl) hf with ⟨hcs, _⟩ | ⟨x, l, c, zs, hcs, _, hl, hm, hz, _, hcell, hwz⟩
    · simp [Value.cells] at hcs
      obtain ⟨rfl, rfl, rfl⟩ := hcs
      exact ⟨[], .inl ⟨rfl, rfl, rfl, rfl⟩⟩
    · simp [Value.cells] at hcs
      obtain ⟨rfl, rfl, rfl⟩ := hcs
      exact ⟨zs, .inr ⟨_, rfl, hl, hm, by simpa using hz, hcell, hwz⟩⟩
  obtain ⟨a1, len1, cap1, rfl⟩ := okWide_slice Try.underlying22 (hval 1 22 v1 rfl rfl)
  have k1 := h1
  have lt1 : ∀ x ∈ p1, x.block < W.heap.size := by obtain ⟨m, hm⟩ := k1; exact DataW.trod_lt m _ _ _ hm
  obtain ⟨z1, w1⟩ : ∃ zs, IsRow .u64 W a1 len1 cap1 zs := by
    obtain ⟨fuel, hf⟩ := h1
    rcases open_ints Try.underlying22 Try.underlying23 (by kernel_rfl) hf with ⟨hcs, _⟩ | ⟨x, l, c, zs, hcs, _, hl, hm, hz, _, hcell, hwz⟩
    · simp [Value.cells] at hcs
      obtain ⟨rfl, rfl, rfl⟩ := hcs
      exact ⟨[], .inl ⟨rfl, rfl, rfl, rfl⟩⟩
    · simp [Value.cells] at hcs
      obtain ⟨rfl, rfl, rfl⟩ := hcs
      exact ⟨zs, .inr ⟨_, rfl, hl, hm, by simpa using hz, hcell, hwz⟩⟩
  clear hA0 hval0
  refine (walk a0 len0 cap0 z0 a1 len1 cap1 z1 W w0 w1).mono fun e W' ⟨he, bel⟩ => ?_
  subst he
  exact ⟨_, rfl, _, _, _, [], _, [], hW', trodAll_mk1 (shut_bool Try.underlying4 _), (trodAll_cons_mk (Below.trod laidOut (by kernel_rfl) (of_decide_eq_true (by kernel_rfl)) k0 bel lt0) (trodAll_cons_mk (Below.trod laidOut (by kernel_rfl) (of_decide_eq_true (by kernel_rfl)) k1 bel lt1) trodAll_mk0)), rfl, bel.frame _, fun h => by cases h⟩

theorem over : Rows.costPartsRow.holds Try.pinned (OpenSpec.ofChange Rows.costPartsSpec) :=
  OpenClaim.holds_of_wide 5 Try.f5 rfl rfl rfl rfl rfl rfl rfl ⟨rfl, rfl, rfl, rfl, rfl⟩ rfl rfl rfl rfl rfl (by kernel_rfl) Try.func5 (by kernel_rfl)
    (of_decide_eq_true (by kernel_rfl)) (by unfold Func.isWrapper; first | (rw [if_pos (by decide +kernel)]; kernel_rfl) | (rw [if_neg (by decide +kernel)]; exact ⟨rfl, rfl⟩))
    (fun os started H enc _ => lifted os started H enc)

/-- ████ THE STATEMENT ████ -/
theorem proved : Rows.CostPartsSaid := over
#print axioms proved
end Go.Proofs.Ytmgaimpnjnkofaa.costParts
