/- For every two lists of rules, RuleNorm answers true, and turns nothing that was there. No condition. -/
import Derived.Test.YtcpilhgofdnigaaRows
import Derived.Test.YtcpilhgofdnigaaRuleOpen
import Derived.Test.YtcpilhgofdnigaaRuleAwake
import Derived.Test.YtcpilhgofdnigaaRuleLike
import Derived.Deep.RegionHeld3
import Derived.LoopN
import Derived.WalkKit
import Derived.ProofKit
import Derived.OpenShut
import Derived.ShutString
import Derived.ChangeOld
import Derived.Below
import Derived.Deep.Matrix
import Derived.SizedLaws
namespace Go.Proofs.Ytcpilhgofdnigaa.ruleNorm
open Go.ChangeShapes Go.WideShapes Go.ChangeAt Go.RowKit
set_option linter.unusedVariables false

theorem own : ownKnob Try.prog.godebug = none := by kernel_rfl
theorem laidOut : laidOutB Try.prog = true := by kernel_rfl

/-- a slice of integers that came in -/
def IsRow (k : IntKind) (w : World) (a : Option Addr) (len cap : Nat) (zs : List Int) : Prop :=
  (a = none ∧ len = 0 ∧ cap = 0 ∧ zs = []) ∨
  ∃ x, a = some x ∧ len ≤ cap ∧ cap ≤ maxLen ∧ zs.length = cap ∧ (∀ i, i < zs.length → w.cell? (x.add i) = some (.int k (zs.getD i 0))) ∧ ∀ n ∈ zs, (Lit.int k n).wf = true

/-! ### STEP 1: the walk -/
set_option maxHeartbeats 6400000 in
set_option maxRecDepth 100000 in
theorem walk (a0 : Option Addr) (len0 cap0 : Nat) (x0 : List Rw) (a1 : Option Addr) (len1 cap1 : Nat) (x1 : List Rw) (w : World) (w0 : Rs w a0 len0 cap0 x0) (n0 : a0 = none → cap0 = 0) (hr0 : len0 * 56 ≤ 140737488351232) (w1 : Rs w a1 len1 cap1 x1) (n1 : a1 = none → cap1 = 0) (hr1 : len1 * 56 ≤ 140737488351232) :
    Calls Try.prog 4 #[.slice a0 len0 cap0, .slice a1 len1 cap1] w fun e w' => e = .returned (.bool true) ∧ Below w.heap.size w w' := by
  have hncA := w0.2.1
  have hcmA := w0.2.2.1
  unfold maxLen at hcmA
  have hncB := w1.2.1
  have hcmB := w1.2.2.1
  unfold maxLen at hcmB
  have HX := Lib.hid w0
  have HY := Lib.hid w1
  clear w0 w1 n0 n1
  go_enter Try.func4, Try.ntmps4
  go_wp2_with fail
  refine (awake_any _).mono ?_
  rintro e w1 ⟨rfl, B1⟩
  have X1 := Lib.hid (HX.out.below B1 (Nat.le_refl _))
  have Y1 := Lib.hid (HY.out.below B1 (Nat.le_refl _))
  have HB1 := Lib.hid B1
  clear B1 HX HY
  go_wp2_with fail
  refine (rfew_any a0 len0 cap0 x0 100 (by omega) w1 X1.out).mono ?_
  rintro e w2 ⟨he | ⟨he, _, hla⟩, hw2⟩
  · subst he
    obtain rfl := hw2.symm
    go_wp2
    go_ret
    exact ⟨rfl, HB1.out⟩
  subst he
  obtain rfl := hw2.symm
  clear hw2
  go_wp2_with fail
  refine (rfew_any a1 len1 cap1 x1 100 (by omega) w1 Y1.out).mono ?_
  rintro e w2 ⟨he | ⟨he, _, hlb⟩, hw2⟩
  · subst he
    obtain rfl := hw2.symm
    go_wp2
    go_ret
    exact ⟨rfl, HB1.out⟩
  subst he
  obtain rfl := hw2.symm
  clear hw2
  go_wp2_with fail
  refine (norm_any a0 len0 cap0 x0 w1 X1.out (by omega)).mono ?_
  rintro e w2 ⟨ax, nx, cx, ox, rfl, hrs, hrx, hnx, _, hb⟩
  have X2 := Lib.hid (X1.out.below hb (Nat.le_refl _))
  have Y2 := Lib.hid (Y1.out.below hb (Nat.le_refl _))
  have P2 := Lib.hid hrs
  have HB2 : Hid (Below w.heap.size w w2) := HB1.out.trans (hb.mono HB1.out.size)
  have HRX := Lib.hid hrx
  clear hb hrs hrx X1 Y1 HB1
  go_wp2_with fail
  refine (norm_any a1 len1 cap1 x1 w2 Y2.out (by omega)).mono ?_
  rintro e w3 ⟨ay, ny, cy, oy, rfl, hrs, hry, hny, _, hb⟩
  have X3 := Lib.hid (X2.out.below hb (Nat.le_refl _))
  have Y3 := Lib.hid (Y2.out.below hb (Nat.le_refl _))
  have P3 := Lib.hid (P2.out.below hb (Nat.le_refl _))
  have Q3 := Lib.hid hrs
  have HB3 : Hid (Below w.heap.size w w3) := HB2.out.trans (hb.mono HB2.out.size)
  have HRY := Lib.hid hry
  clear hb hrs hry X2 Y2 P2 HB2
  go_wp2_with (first
    | (at_builtin; refine append_rules (by rfl) (.tmp 26) (.tmp 27) (by rfl) w3.heap.size _ 0 [] (by rfl) (owns0_rules w3) a0 len0 cap0 x0 (by rfl) (X3.out.alloc _) len0 (by omega) (by omega) (by simp) ?_; intro aP cP wP hownP hbP' _ _; simp only [List.nil_append] at hownP; have hbP : Below w3.heap.size w3 wP := ((Below.refl _ w3).alloc (Nat.le_refl _) _).trans hbP'; clear hbP')
    | (at_builtin; refine append_rules (by rfl) (.tmp 28) (.tmp 29) (by rfl) w3.heap.size _ len0 x0 (by rfl) hownP a1 len1 cap1 x1 (by rfl) (Y3.out.below hbP (Nat.le_refl _)) (len0 + len1) (by omega) (by omega) (by have := hbP.size; omega) ?_; intro aQ cQ wQ hownQ hbQ' _ _; have hbQ : Below w3.heap.size w3 wQ := hbP.trans hbQ'; clear hbQ')
    | fail)
  have hrsQ : Rs wQ aQ (len0 + len1) cQ (x0 ++ x1) := Rs.of_owns hownQ (fun x hx => by
    rcases List.mem_append.1 hx with hx | hx
    · exact (X3.out.2.2.2.1 x hx).below hbQ (Nat.le_refl _)
    · exact (Y3.out.2.2.2.1 x hx).below hbQ (Nat.le_refl _)) (by rw [List.length_append, X3.out.1, Y3.out.1])
  clear hownP hownQ hbP
  refine (norm_any aQ (len0 + len1) cQ (x0 ++ x1) wQ hrsQ (by omega)).mono ?_
  rintro e w4 ⟨aa, m, ca, oa, rfl, hrs, hra, hm, _, hb'⟩
  have hb : Below w3.heap.size w3 w4 := hbQ.trans (hb'.mono hbQ.size)
  have X4 := Lib.hid (X3.out.below hb (Nat.le_refl _))
  have Y4 := Lib.hid (Y3.out.below hb (Nat.le_refl _))
  have P4 := Lib.hid (P3.out.below hb (Nat.le_refl _))
  have Q4 := Lib.hid (Q3.out.below hb (Nat.le_refl _))
  have A4 := Lib.hid hrs
  have HB4 : Hid (Below w.heap.size w w4) := HB3.out.trans (hb.mono HB3.out.size)
  have hra' : ruls oa = nrm (ruls x0 ++ ruls x1) := by rw [hra, ruls_app]
  have HRA := Lib.hid hra'
  have HN : Hid (IsNorm (ruls x0 ++ ruls x1) (ruls oa)) := by rw [hra']; exact isNorm_nrm _
  have hma := hrs.2.1
  have hmb := hrs.2.2.1
  unfold maxLen at hmb
  clear hb hb' hrs hra hra' hbQ hrsQ X3 Y3 P3 Q3 HB3
  go_wp2
  go_loopw [9] (fun ix wr => ∃ j : Nat, j ≤ m ∧ ix = .int .i64 (j : Int) ∧ Hid (Below w4.heap.size w4 wr)) (fun ix _ => m - (intOf ix).toNat)
  case atStart => exact ⟨0, Nat.zero_le _, rfl, Below.refl _ _⟩
  case round =>
    obtain ⟨j, hj, rfl, HB⟩ := hrel
    by_cases hlt : j < m
    · obtain ⟨b1, o1, la, ln, lc, LL, ra, rn, rc, RR, C, rfl, hb1, hx1, hx2, hx3, hsl, hsr, hC0, hC1, hz1⟩ := (A4.out.below HB.out (Nat.le_refl _)).one j hlt
      have hlti : (j : Int) < (m : Int) := by omega
      have HG : Hid ((⟨la, ln, lc, LL, ra, rn, rc, RR, C⟩ : Rw).Good wr) := ⟨hsl, hsr, hC0, hC1⟩
      have hjo : j < (ruls oa).length := by rw [ruls_length, A4.out.1]; exact hlt
      have hjr : (ruls oa)[j] = (⟨LL, RR, C⟩ : Rul) := by
        have h1 := ruls_at oa j
        rw [hz1, List.getD_eq_getElem?_getD, List.getElem?_eq_getElem hjo, Option.getD_some] at h1
        exact h1
      have hck : chk ⟨LL, RR, C⟩ = true := by rw [← hjr]; exact (HN.out.2.1 _ (List.getElem_mem hjo)).2
      have HCK := Lib.hid hck
      have hd0 : Below wr.heap.size wr wr.drew := below_drawn (Below.refl _ wr) ⟨1, rfl⟩
      clear hsl hsr hck
      rcases Nat.eq_zero_or_pos j with h0 | hp
      · subst h0
        have KEEP : Hid (∀ W, Below wr.heap.size wr W → W.cell? ⟨b1, o1 + 0 * 3, none⟩ = some (.slice la ln lc) ∧ W.cell? ⟨b1, o1 + 0 * 3 + 1, none⟩ = some (.slice ra rn rc) ∧ W.cell? ⟨b1, o1 + 0 * 3 + 2, none⟩ = some (.int .u64 C)) := fun W hb =>
          ⟨(hb.cell (p := ⟨b1, o1 + 0 * 3, none⟩) hb1).trans hx1, (hb.cell (p := ⟨b1, o1 + 0 * 3 + 1, none⟩) hb1).trans hx2, (hb.cell (p := ⟨b1, o1 + 0 * 3 + 2, none⟩) hb1).trans hx3⟩
        simp only [Nat.zero_mul, Nat.add_zero] at KEEP hx1 hx2 hx3
        clear hjr hz1
        go_wp2
        refine wp_region_held_drew (S := (fun W => W.cell? ⟨b1, o1, none⟩ = some (.slice la ln lc) ∧ W.cell? ⟨b1, o1 + 1, none⟩ = some (.slice ra rn rc) ∧ W.cell? ⟨b1, o1 + 2, none⟩ = some (.int .u64 C))) (by kernel_rfl) (by first | (first | exact KEEP.out _ hd1 | exact KEEP.out _ hd0) | ((try dsimp only); first | exact KEEP.out _ hd1 | exact KEEP.out _ hd0)) (fun hHeld => ?_)
        refine wpAnyH_take (i := 0) (v := ?vu1) rfl (by kernel_rfl) (by kernel_rfl) (by kernel_rfl) (fun _ _ _ h => h) (Or.inl ⟨by rfl, ?hu1⟩) (by assumption) ?ru1
        case hu1 => intro w hSw; (try dsimp only at hSw); go_simp; try with_reducible rfl
        simp only [Act.put, List.getElem_toArray, List.getElem_cons_succ, List.getElem_cons_zero, List.setIfInBounds_toArray, List.set_cons_succ, List.set_cons_zero]
        refine wpAnyH_take (i := 1) (v := ?vu4) rfl (by kernel_rfl) (by kernel_rfl) (by kernel_rfl) (fun _ _ _ h => h) (Or.inl ⟨by rfl, ?hu4⟩) (by assumption) ?ru4
        case hu4 => intro w hSw; (try dsimp only at hSw); go_simp; try with_reducible rfl
        simp only [Act.put, List.getElem_toArray, List.getElem_cons_succ, List.getElem_cons_zero, List.setIfInBounds_toArray, List.set_cons_succ, List.set_cons_zero]
        refine wpAnyH_take (i := 2) (v := ?vu7) rfl (by kernel_rfl) (by kernel_rfl) (by kernel_rfl) (fun _ _ _ h => h) (Or.inl ⟨by rfl, ?hu7⟩) (by assumption) ?ru7
        case hu7 => intro w hSw; (try dsimp only at hSw); go_simp; try with_reducible rfl
        simp only [Act.put, List.getElem_toArray, List.getElem_cons_succ, List.getElem_cons_zero, List.setIfInBounds_toArray, List.set_cons_succ, List.set_cons_zero]
        refine wpAnyH_take (i := 3) (v := ?vu10) rfl (by kernel_rfl) (by kernel_rfl) (by kernel_rfl) (fun _ _ _ h => h) (Or.inl ⟨by rfl, ?hu10⟩) (by assumption) ?ru10
        case hu10 => intro w hSw; (try dsimp only at hSw); go_simp; try with_reducible rfl
        simp only [Act.put, List.getElem_toArray, List.getElem_cons_succ, List.getElem_cons_zero, List.setIfInBounds_toArray, List.set_cons_succ, List.set_cons_zero]
        refine wpAnyH_ready (rs := [4]) (by kernel_rfl) (by simp) ?_
        refine AllReadyH.cons rfl (fun K hK => ?_) AllReadyH.nil
        go_simp
        go_at_call 10
        refine (check_is ⟨la, ln, lc, LL, ra, rn, rc, RR, C⟩ true wr.drew (HG.out.below hd0 (Nat.le_refl _)) HCK.out).mono ?_
        rintro e v1 ⟨rfl, hv⟩
        have hd1 := hd0.trans (hv.mono hd0.size)
        clear hv
        go_wp2_with fail
        refine hK.out _ _ (by first | (first | exact KEEP.out _ hd1 | exact KEEP.out _ hd0) | ((try dsimp only); first | exact KEEP.out _ hd1 | exact KEEP.out _ hd0)) (fun hHeld => ?_)
        clear hK K
        try simp only [Act.put, List.getElem_toArray, List.getElem_cons_succ, List.getElem_cons_zero, List.setIfInBounds_toArray, List.set_cons_succ, List.set_cons_zero]
        refine wpAnyH_take (i := 5) (v := ?vu25) rfl (by kernel_rfl) (by kernel_rfl) (by kernel_rfl) (fun _ _ _ h => h) (Or.inl ⟨by rfl, ?hu25⟩) (by assumption) ?ru25
        case hu25 => intro w hSw; (try dsimp only at hSw); go_simp; try with_reducible rfl
        simp only [Act.put, List.getElem_toArray, List.getElem_cons_succ, List.getElem_cons_zero, List.setIfInBounds_toArray, List.set_cons_succ, List.set_cons_zero]
        refine wpAnyH_take (i := 6) (v := ?vu28) rfl (by kernel_rfl) (by kernel_rfl) (by kernel_rfl) (fun _ _ _ h => h) (Or.inl ⟨by rfl, ?hu28⟩) (by assumption) ?ru28
        case hu28 => intro w hSw; (try dsimp only at hSw); go_simp; try with_reducible rfl
        simp only [Act.put, List.getElem_toArray, List.getElem_cons_succ, List.getElem_cons_zero, List.setIfInBounds_toArray, List.set_cons_succ, List.set_cons_zero]
        refine wpAnyH_take (i := 7) (v := ?vu31) rfl (by kernel_rfl) (by kernel_rfl) (by kernel_rfl) (fun _ _ _ h => h) (Or.inl ⟨by rfl, ?hu31⟩) (by assumption) ?ru31
        case hu31 => intro w hSw; (try dsimp only at hSw); go_simp; try with_reducible rfl
        simp only [Act.put, List.getElem_toArray, List.getElem_cons_succ, List.getElem_cons_zero, List.setIfInBounds_toArray, List.set_cons_succ, List.set_cons_zero]
        refine wpAnyH_take (i := 8) (v := ?vu34) rfl (by kernel_rfl) (by kernel_rfl) (by kernel_rfl) (fun _ _ _ h => h) (Or.inl ⟨by rfl, ?hu34⟩) (by assumption) ?ru34
        case hu34 => intro w hSw; (try dsimp only at hSw); go_simp; try with_reducible rfl
        simp only [Act.put, List.getElem_toArray, List.getElem_cons_succ, List.getElem_cons_zero, List.setIfInBounds_toArray, List.set_cons_succ, List.set_cons_zero]
        refine wpAnyH_take (i := 9) (v := ?vu37) rfl (by kernel_rfl) (by kernel_rfl) (by kernel_rfl) (fun _ _ _ h => h) (Or.inl ⟨by rfl, ?hu37⟩) (by assumption) ?ru37
        case hu37 => intro w hSw; (try dsimp only at hSw); go_simp; try with_reducible rfl
        simp only [Act.put, List.getElem_toArray, List.getElem_cons_succ, List.getElem_cons_zero, List.setIfInBounds_toArray, List.set_cons_succ, List.set_cons_zero]
        refine wpAnyH_take (i := 10) (v := undef) rfl (by kernel_rfl) (by kernel_rfl) (by kernel_rfl) (fun _ _ _ h => h) (Or.inr ⟨by rfl, rfl⟩) (by assumption) ?_
        simp only [Act.put, List.getElem_toArray, List.getElem_cons_succ, List.getElem_cons_zero, List.setIfInBounds_toArray, List.set_cons_succ, List.set_cons_zero]
        refine wpAnyH_take (i := 11) (v := undef) rfl (by kernel_rfl) (by kernel_rfl) (by kernel_rfl) (fun _ _ _ h => h) (Or.inr ⟨by rfl, rfl⟩) (by assumption) ?_
        simp only [Act.put, List.getElem_toArray, List.getElem_cons_succ, List.getElem_cons_zero, List.setIfInBounds_toArray, List.set_cons_succ, List.set_cons_zero]
        refine wpAnyH_take (i := 12) (v := undef) rfl (by kernel_rfl) (by kernel_rfl) (by kernel_rfl) (fun _ _ _ h => h) (Or.inr ⟨by rfl, rfl⟩) (by assumption) ?_
        simp only [Act.put, List.getElem_toArray, List.getElem_cons_succ, List.getElem_cons_zero, List.setIfInBounds_toArray, List.set_cons_succ, List.set_cons_zero]
        refine wpAnyH_take (i := 13) (v := undef) rfl (by kernel_rfl) (by kernel_rfl) (by kernel_rfl) (fun _ _ _ h => h) (Or.inr ⟨by rfl, rfl⟩) (by assumption) ?_
        simp only [Act.put, List.getElem_toArray, List.getElem_cons_succ, List.getElem_cons_zero, List.setIfInBounds_toArray, List.set_cons_succ, List.set_cons_zero]
        refine wpAnyH_take (i := 14) (v := undef) rfl (by kernel_rfl) (by kernel_rfl) (by kernel_rfl) (fun _ _ _ h => h) (Or.inr ⟨by rfl, rfl⟩) (by assumption) ?_
        simp only [Act.put, List.getElem_toArray, List.getElem_cons_succ, List.getElem_cons_zero, List.setIfInBounds_toArray, List.set_cons_succ, List.set_cons_zero]
        refine wpAnyH_take (i := 15) (v := undef) rfl (by kernel_rfl) (by kernel_rfl) (by kernel_rfl) (fun _ _ _ h => h) (Or.inr ⟨by rfl, rfl⟩) (by assumption) ?_
        simp only [Act.put, List.getElem_toArray, List.getElem_cons_succ, List.getElem_cons_zero, List.setIfInBounds_toArray, List.set_cons_succ, List.set_cons_zero]
        refine wpAnyH_take (i := 16) (v := undef) rfl (by kernel_rfl) (by kernel_rfl) (by kernel_rfl) (fun _ _ _ h => h) (Or.inr ⟨by rfl, rfl⟩) (by assumption) ?_
        simp only [Act.put, List.getElem_toArray, List.getElem_cons_succ, List.getElem_cons_zero, List.setIfInBounds_toArray, List.set_cons_succ, List.set_cons_zero]
        refine wpAnyH_take (i := 17) (v := undef) rfl (by kernel_rfl) (by kernel_rfl) (by kernel_rfl) (fun _ _ _ h => h) (Or.inr ⟨by rfl, rfl⟩) (by assumption) ?_
        simp only [Act.put, List.getElem_toArray, List.getElem_cons_succ, List.getElem_cons_zero, List.setIfInBounds_toArray, List.set_cons_succ, List.set_cons_zero]
        refine wpAnyH_take (i := 18) (v := undef) rfl (by kernel_rfl) (by kernel_rfl) (by kernel_rfl) (fun _ _ _ h => h) (Or.inr ⟨by rfl, rfl⟩) (by assumption) ?_
        simp only [Act.put, List.getElem_toArray, List.getElem_cons_succ, List.getElem_cons_zero, List.setIfInBounds_toArray, List.set_cons_succ, List.set_cons_zero]
        refine wpAnyH_take (i := 19) (v := undef) rfl (by kernel_rfl) (by kernel_rfl) (by kernel_rfl) (fun _ _ _ h => h) (Or.inr ⟨by rfl, rfl⟩) (by assumption) ?_
        simp only [Act.put, List.getElem_toArray, List.getElem_cons_succ, List.getElem_cons_zero, List.setIfInBounds_toArray, List.set_cons_succ, List.set_cons_zero]
        refine wpAnyH_take (i := 20) (v := undef) rfl (by kernel_rfl) (by kernel_rfl) (by kernel_rfl) (fun _ _ _ h => h) (Or.inr ⟨by rfl, rfl⟩) (by assumption) ?_
        simp only [Act.put, List.getElem_toArray, List.getElem_cons_succ, List.getElem_cons_zero, List.setIfInBounds_toArray, List.set_cons_succ, List.set_cons_zero]
        refine wpAnyH_take (i := 21) (v := undef) rfl (by kernel_rfl) (by kernel_rfl) (by kernel_rfl) (fun _ _ _ h => h) (Or.inr ⟨by rfl, rfl⟩) (by assumption) ?_
        simp only [Act.put, List.getElem_toArray, List.getElem_cons_succ, List.getElem_cons_zero, List.setIfInBounds_toArray, List.set_cons_succ, List.set_cons_zero]
        refine wpAnyH_take (i := 22) (v := undef) rfl (by kernel_rfl) (by kernel_rfl) (by kernel_rfl) (fun _ _ _ h => h) (Or.inr ⟨by rfl, rfl⟩) (by assumption) ?_
        simp only [Act.put, List.getElem_toArray, List.getElem_cons_succ, List.getElem_cons_zero, List.setIfInBounds_toArray, List.set_cons_succ, List.set_cons_zero]
        refine wpAnyH_take (i := 23) (v := undef) rfl (by kernel_rfl) (by kernel_rfl) (by kernel_rfl) (fun _ _ _ h => h) (Or.inr ⟨by rfl, rfl⟩) (by assumption) ?_
        simp only [Act.put, List.getElem_toArray, List.getElem_cons_succ, List.getElem_cons_zero, List.setIfInBounds_toArray, List.set_cons_succ, List.set_cons_zero]
        refine wpAnyH_take (i := 24) (v := undef) rfl (by kernel_rfl) (by kernel_rfl) (by kernel_rfl) (fun _ _ _ h => h) (Or.inr ⟨by rfl, rfl⟩) (by assumption) ?_
        simp only [Act.put, List.getElem_toArray, List.getElem_cons_succ, List.getElem_cons_zero, List.setIfInBounds_toArray, List.set_cons_succ, List.set_cons_zero]
        refine wpAnyH_take (i := 25) (v := undef) rfl (by kernel_rfl) (by kernel_rfl) (by kernel_rfl) (fun _ _ _ h => h) (Or.inr ⟨by rfl, rfl⟩) (by assumption) ?_
        simp only [Act.put, List.getElem_toArray, List.getElem_cons_succ, List.getElem_cons_zero, List.setIfInBounds_toArray, List.set_cons_succ, List.set_cons_zero]
        refine wpAnyH_take (i := 26) (v := undef) rfl (by kernel_rfl) (by kernel_rfl) (by kernel_rfl) (fun _ _ _ h => h) (Or.inr ⟨by rfl, rfl⟩) (by assumption) ?_
        simp only [Act.put, List.getElem_toArray, List.getElem_cons_succ, List.getElem_cons_zero, List.setIfInBounds_toArray, List.set_cons_succ, List.set_cons_zero]
        refine wpAnyH_take (i := 27) (v := undef) rfl (by kernel_rfl) (by kernel_rfl) (by kernel_rfl) (fun _ _ _ h => h) (Or.inr ⟨by rfl, rfl⟩) (by assumption) ?_
        simp only [Act.put, List.getElem_toArray, List.getElem_cons_succ, List.getElem_cons_zero, List.setIfInBounds_toArray, List.set_cons_succ, List.set_cons_zero]
        refine wpAnyH_take (i := 28) (v := undef) rfl (by kernel_rfl) (by kernel_rfl) (by kernel_rfl) (fun _ _ _ h => h) (Or.inr ⟨by rfl, rfl⟩) (by assumption) ?_
        simp only [Act.put, List.getElem_toArray, List.getElem_cons_succ, List.getElem_cons_zero, List.setIfInBounds_toArray, List.set_cons_succ, List.set_cons_zero]
        refine wpAnyH_take (i := 29) (v := undef) rfl (by kernel_rfl) (by kernel_rfl) (by kernel_rfl) (fun _ _ _ h => h) (Or.inr ⟨by rfl, rfl⟩) (by assumption) ?_
        simp only [Act.put, List.getElem_toArray, List.getElem_cons_succ, List.getElem_cons_zero, List.setIfInBounds_toArray, List.set_cons_succ, List.set_cons_zero]
        refine wpAnyH_take (i := 30) (v := undef) rfl (by kernel_rfl) (by kernel_rfl) (by kernel_rfl) (fun _ _ _ h => h) (Or.inr ⟨by rfl, rfl⟩) (by assumption) ?_
        simp only [Act.put, List.getElem_toArray, List.getElem_cons_succ, List.getElem_cons_zero, List.setIfInBounds_toArray, List.set_cons_succ, List.set_cons_zero]
        refine wpAnyH_take (i := 31) (v := undef) rfl (by kernel_rfl) (by kernel_rfl) (by kernel_rfl) (fun _ _ _ h => h) (Or.inr ⟨by rfl, rfl⟩) (by assumption) ?_
        simp only [Act.put, List.getElem_toArray, List.getElem_cons_succ, List.getElem_cons_zero, List.setIfInBounds_toArray, List.set_cons_succ, List.set_cons_zero]
        refine wpAnyH_take (i := 32) (v := undef) rfl (by kernel_rfl) (by kernel_rfl) (by kernel_rfl) (fun _ _ _ h => h) (Or.inr ⟨by rfl, rfl⟩) (by assumption) ?_
        simp only [Act.put, List.getElem_toArray, List.getElem_cons_succ, List.getElem_cons_zero, List.setIfInBounds_toArray, List.set_cons_succ, List.set_cons_zero]
        refine wpAnyH_take (i := 33) (v := undef) rfl (by kernel_rfl) (by kernel_rfl) (by kernel_rfl) (fun _ _ _ h => h) (Or.inr ⟨by rfl, rfl⟩) (by assumption) ?_
        simp only [Act.put, List.getElem_toArray, List.getElem_cons_succ, List.getElem_cons_zero, List.setIfInBounds_toArray, List.set_cons_succ, List.set_cons_zero]
        refine wpAnyH_take (i := 34) (v := undef) rfl (by kernel_rfl) (by kernel_rfl) (by kernel_rfl) (fun _ _ _ h => h) (Or.inr ⟨by rfl, rfl⟩) (by assumption) ?_
        simp only [Act.put, List.getElem_toArray, List.getElem_cons_succ, List.getElem_cons_zero, List.setIfInBounds_toArray, List.set_cons_succ, List.set_cons_zero]
        refine wpAnyH_take (i := 35) (v := undef) rfl (by kernel_rfl) (by kernel_rfl) (by kernel_rfl) (fun _ _ _ h => h) (Or.inr ⟨by rfl, rfl⟩) (by assumption) ?_
        simp only [Act.put, List.getElem_toArray, List.getElem_cons_succ, List.getElem_cons_zero, List.setIfInBounds_toArray, List.set_cons_succ, List.set_cons_zero]
        refine wpAnyH_take (i := 36) (v := ?vu92) rfl (by kernel_rfl) (by kernel_rfl) (by kernel_rfl) (fun _ _ _ h => h) (Or.inl ⟨by rfl, ?hu92⟩) (by assumption) ?ru92
        case hu92 => intro w hSw; (try dsimp only at hSw); go_simp; try with_reducible rfl
        simp only [Act.put, List.getElem_toArray, List.getElem_cons_succ, List.getElem_cons_zero, List.setIfInBounds_toArray, List.set_cons_succ, List.set_cons_zero]
        refine wpAnyH_take (i := 37) (v := ?vu95) rfl (by kernel_rfl) (by kernel_rfl) (by kernel_rfl) (fun _ _ _ h => h) (Or.inl ⟨by rfl, ?hu95⟩) (by assumption) ?ru95
        case hu95 => intro w hSw; (try dsimp only at hSw); go_simp; try with_reducible rfl
        simp only [Act.put, List.getElem_toArray, List.getElem_cons_succ, List.getElem_cons_zero, List.setIfInBounds_toArray, List.set_cons_succ, List.set_cons_zero]
        refine wpAnyH_done (by kernel_rfl) ?_ _
        have HB5 : Hid (Below w4.heap.size w4 v1) := HB.out.trans (hd1.mono HB.out.size)
        clear hd1
        go_wp2
        go_roundw
        case rel => exact ⟨0 + 1, by omega, by go_num, HB5.out⟩
        case measure => simp [intOf]; omega
      · obtain ⟨p, rfl⟩ : ∃ p, j = p + 1 := ⟨j - 1, by omega⟩
        obtain ⟨b2, o2, la', ln', lc', LL', ra', rn', rc', RR', C', hbo, hb2, hy1, hy2, hy3, hsl', hsr', hC0', hC1', hz2⟩ := (A4.out.below HB.out (Nat.le_refl _)).one p (by omega)
        cases hbo
        have hpo : p < (ruls oa).length := by omega
        have hpr : (ruls oa)[p] = (⟨LL', RR', C'⟩ : Rul) := by
          have h1 := ruls_at oa p
          rw [hz2, List.getD_eq_getElem?_getD, List.getElem?_eq_getElem hpo, Option.getD_some] at h1
          exact h1
        have hls : lessS ⟨LL', RR', C'⟩ ⟨LL, RR, C⟩ = true := by
          rw [← hpr, ← hjr]; exact List.pairwise_iff_getElem.1 HN.out.1 p (p + 1) hpo hjo (by omega)
        have HLS : Hid (lessR ⟨LL', RR', 0⟩ ⟨LL, RR, 0⟩ = true) := (lessR_sides ⟨LL', RR', C'⟩ ⟨LL, RR, C⟩).trans hls
        have HGX : Hid ((⟨la, ln, lc, LL, ra, rn, rc, RR, 0⟩ : Rw).Good wr) := ⟨HG.out.1, HG.out.2.1, Int.le_refl _, by show (0 : Int) < _; decide⟩
        have HGY : Hid ((⟨la', ln', lc', LL', ra', rn', rc', RR', 0⟩ : Rw).Good wr) := ⟨hsl', hsr', Int.le_refl _, by show (0 : Int) < _; decide⟩
        have hpw : IntKind.i64.wrap ((p : Int) + 1 - 1) = (p : Int) := by simp [IntKind.wrap, IntKind.signed, IntKind.bits]; omega
        have hpw2 : IntKind.i64.wrap (p : Int) = (p : Int) := by simp [IntKind.wrap, IntKind.signed, IntKind.bits]; omega
        have hp0 : (0 : Int) < (p : Int) + 1 := by omega
        have hpm : (p : Int) < (m : Int) := by omega
        have hp00 : (0 : Int) ≤ (p : Int) := by omega
        have hlt2 : (p : Int) + 1 < (m : Int) := by omega
        have hp01 : (0 : Int) ≤ (p : Int) + 1 := by omega
        have KEEP : Hid (∀ W, Below wr.heap.size wr W → W.cell? ⟨b1, o1 + (p + 1) * 3, none⟩ = some (.slice la ln lc) ∧ W.cell? ⟨b1, o1 + (p + 1) * 3 + 1, none⟩ = some (.slice ra rn rc) ∧ W.cell? ⟨b1, o1 + (p + 1) * 3 + 2, none⟩ = some (.int .u64 C) ∧ W.cell? ⟨b1, o1 + p * 3, none⟩ = some (.slice la' ln' lc') ∧ W.cell? ⟨b1, o1 + p * 3 + 1, none⟩ = some (.slice ra' rn' rc') ∧ W.cell? ⟨b1, o1 + p * 3 + 2, none⟩ = some (.int .u64 C')) := fun W hb =>
          ⟨(hb.cell (p := ⟨b1, o1 + (p + 1) * 3, none⟩) hb1).trans hx1, (hb.cell (p := ⟨b1, o1 + (p + 1) * 3 + 1, none⟩) hb1).trans hx2, (hb.cell (p := ⟨b1, o1 + (p + 1) * 3 + 2, none⟩) hb1).trans hx3,
            (hb.cell (p := ⟨b1, o1 + p * 3, none⟩) hb1).trans hy1, (hb.cell (p := ⟨b1, o1 + p * 3 + 1, none⟩) hb1).trans hy2, (hb.cell (p := ⟨b1, o1 + p * 3 + 2, none⟩) hb1).trans hy3⟩
        clear hjr hz1 hz2 hpr hls hsl' hsr'
        go_wp2
        refine wp_region_held_drew (S := (fun W => W.cell? ⟨b1, o1 + (p + 1) * 3, none⟩ = some (.slice la ln lc) ∧ W.cell? ⟨b1, o1 + (p + 1) * 3 + 1, none⟩ = some (.slice ra rn rc) ∧ W.cell? ⟨b1, o1 + (p + 1) * 3 + 2, none⟩ = some (.int .u64 C) ∧ W.cell? ⟨b1, o1 + p * 3, none⟩ = some (.slice la' ln' lc') ∧ W.cell? ⟨b1, o1 + p * 3 + 1, none⟩ = some (.slice ra' rn' rc') ∧ W.cell? ⟨b1, o1 + p * 3 + 2, none⟩ = some (.int .u64 C'))) (by kernel_rfl) (by first | (first | exact KEEP.out _ hd2 | exact KEEP.out _ hd1 | exact KEEP.out _ hd0) | ((try dsimp only); first | exact KEEP.out _ hd2 | exact KEEP.out _ hd1 | exact KEEP.out _ hd0)) (fun hHeld => ?_)
        refine wpAnyH_take (i := 0) (v := ?vs1) rfl (by kernel_rfl) (by kernel_rfl) (by kernel_rfl) (fun _ _ _ h => h) (Or.inl ⟨by rfl, ?hs1⟩) (by assumption) ?rs1
        case hs1 => intro w hSw; (try dsimp only at hSw); go_simp; try with_reducible rfl
        simp only [Act.put, List.getElem_toArray, List.getElem_cons_succ, List.getElem_cons_zero, List.setIfInBounds_toArray, List.set_cons_succ, List.set_cons_zero]
        refine wpAnyH_take (i := 1) (v := ?vs4) rfl (by kernel_rfl) (by kernel_rfl) (by kernel_rfl) (fun _ _ _ h => h) (Or.inl ⟨by rfl, ?hs4⟩) (by assumption) ?rs4
        case hs4 => intro w hSw; (try dsimp only at hSw); go_simp; try with_reducible rfl
        simp only [Act.put, List.getElem_toArray, List.getElem_cons_succ, List.getElem_cons_zero, List.setIfInBounds_toArray, List.set_cons_succ, List.set_cons_zero]
        refine wpAnyH_take (i := 2) (v := ?vs7) rfl (by kernel_rfl) (by kernel_rfl) (by kernel_rfl) (fun _ _ _ h => h) (Or.inl ⟨by rfl, ?hs7⟩) (by assumption) ?rs7
        case hs7 => intro w hSw; (try dsimp only at hSw); go_simp; try with_reducible rfl
        simp only [Act.put, List.getElem_toArray, List.getElem_cons_succ, List.getElem_cons_zero, List.setIfInBounds_toArray, List.set_cons_succ, List.set_cons_zero]
        refine wpAnyH_take (i := 3) (v := ?vs10) rfl (by kernel_rfl) (by kernel_rfl) (by kernel_rfl) (fun _ _ _ h => h) (Or.inl ⟨by rfl, ?hs10⟩) (by assumption) ?rs10
        case hs10 => intro w hSw; (try dsimp only at hSw); go_simp; try with_reducible rfl
        simp only [Act.put, List.getElem_toArray, List.getElem_cons_succ, List.getElem_cons_zero, List.setIfInBounds_toArray, List.set_cons_succ, List.set_cons_zero]
        refine wpAnyH_ready (rs := [4]) (by kernel_rfl) (by simp) ?_
        refine AllReadyH.cons rfl (fun K hK => ?_) AllReadyH.nil
        go_simp
        go_at_call 10
        refine (check_is ⟨la, ln, lc, LL, ra, rn, rc, RR, C⟩ true wr.drew (HG.out.below hd0 (Nat.le_refl _)) HCK.out).mono ?_
        rintro e v1 ⟨rfl, hv⟩
        have hd1 := hd0.trans (hv.mono hd0.size)
        clear hv
        go_wp2_with fail
        refine hK.out _ _ (by first | (first | exact KEEP.out _ hd2 | exact KEEP.out _ hd1 | exact KEEP.out _ hd0) | ((try dsimp only); first | exact KEEP.out _ hd2 | exact KEEP.out _ hd1 | exact KEEP.out _ hd0)) (fun hHeld => ?_)
        clear hK K
        try simp only [Act.put, List.getElem_toArray, List.getElem_cons_succ, List.getElem_cons_zero, List.setIfInBounds_toArray, List.set_cons_succ, List.set_cons_zero]
        refine wpAnyH_take (i := 5) (v := ?vs25) rfl (by kernel_rfl) (by kernel_rfl) (by kernel_rfl) (fun _ _ _ h => h) (Or.inl ⟨by rfl, ?hs25⟩) (by assumption) ?rs25
        case hs25 => intro w hSw; (try dsimp only at hSw); go_simp; try with_reducible rfl
        simp only [Act.put, List.getElem_toArray, List.getElem_cons_succ, List.getElem_cons_zero, List.setIfInBounds_toArray, List.set_cons_succ, List.set_cons_zero]
        refine wpAnyH_take (i := 6) (v := ?vs28) rfl (by kernel_rfl) (by kernel_rfl) (by kernel_rfl) (fun _ _ _ h => h) (Or.inl ⟨by rfl, ?hs28⟩) (by assumption) ?rs28
        case hs28 => intro w hSw; (try dsimp only at hSw); go_simp; try with_reducible rfl
        simp only [Act.put, List.getElem_toArray, List.getElem_cons_succ, List.getElem_cons_zero, List.setIfInBounds_toArray, List.set_cons_succ, List.set_cons_zero]
        refine wpAnyH_take (i := 7) (v := ?vs31) rfl (by kernel_rfl) (by kernel_rfl) (by kernel_rfl) (fun _ _ _ h => h) (Or.inl ⟨by rfl, ?hs31⟩) (by assumption) ?rs31
        case hs31 => intro w hSw; (try dsimp only at hSw); go_simp; try with_reducible rfl
        simp only [Act.put, List.getElem_toArray, List.getElem_cons_succ, List.getElem_cons_zero, List.setIfInBounds_toArray, List.set_cons_succ, List.set_cons_zero]
        refine wpAnyH_take (i := 8) (v := ?vs34) rfl (by kernel_rfl) (by kernel_rfl) (by kernel_rfl) (fun _ _ _ h => h) (Or.inl ⟨by rfl, ?hs34⟩) (by assumption) ?rs34
        case hs34 => intro w hSw; (try dsimp only at hSw); go_simp; try with_reducible rfl
        simp only [Act.put, List.getElem_toArray, List.getElem_cons_succ, List.getElem_cons_zero, List.setIfInBounds_toArray, List.set_cons_succ, List.set_cons_zero]
        refine wpAnyH_take (i := 9) (v := ?vs37) rfl (by kernel_rfl) (by kernel_rfl) (by kernel_rfl) (fun _ _ _ h => h) (Or.inl ⟨by rfl, ?hs37⟩) (by assumption) ?rs37
        case hs37 => intro w hSw; (try dsimp only at hSw); go_simp; try with_reducible rfl
        simp only [Act.put, List.getElem_toArray, List.getElem_cons_succ, List.getElem_cons_zero, List.setIfInBounds_toArray, List.set_cons_succ, List.set_cons_zero]
        refine wpAnyH_take (i := 10) (v := ?vs40) rfl (by kernel_rfl) (by kernel_rfl) (by kernel_rfl) (fun _ _ _ h => h) (Or.inl ⟨by rfl, ?hs40⟩) (by assumption) ?rs40
        case hs40 => intro w hSw; (try dsimp only at hSw); go_simp; try with_reducible rfl
        simp only [Act.put, List.getElem_toArray, List.getElem_cons_succ, List.getElem_cons_zero, List.setIfInBounds_toArray, List.set_cons_succ, List.set_cons_zero]
        refine wpAnyH_take (i := 11) (v := ?vs43) rfl (by kernel_rfl) (by kernel_rfl) (by kernel_rfl) (fun _ _ _ h => h) (Or.inl ⟨by rfl, ?hs43⟩) (by assumption) ?rs43
        case hs43 => intro w hSw; (try dsimp only at hSw); go_simp; try with_reducible rfl
        simp only [Act.put, List.getElem_toArray, List.getElem_cons_succ, List.getElem_cons_zero, List.setIfInBounds_toArray, List.set_cons_succ, List.set_cons_zero]
        refine wpAnyH_take (i := 12) (v := ?vs46) rfl (by kernel_rfl) (by kernel_rfl) (by kernel_rfl) (fun _ _ _ h => h) (Or.inl ⟨by rfl, ?hs46⟩) (by assumption) ?rs46
        case hs46 => intro w hSw; (try dsimp only at hSw); go_simp; try with_reducible rfl
        simp only [Act.put, List.getElem_toArray, List.getElem_cons_succ, List.getElem_cons_zero, List.setIfInBounds_toArray, List.set_cons_succ, List.set_cons_zero]
        refine wpAnyH_take (i := 13) (v := ?vs49) rfl (by kernel_rfl) (by kernel_rfl) (by kernel_rfl) (fun _ _ _ h => h) (Or.inl ⟨by rfl, ?hs49⟩) (by assumption) ?rs49
        case hs49 => intro w hSw; (try dsimp only at hSw); go_simp; try with_reducible rfl
        simp only [Act.put, List.getElem_toArray, List.getElem_cons_succ, List.getElem_cons_zero, List.setIfInBounds_toArray, List.set_cons_succ, List.set_cons_zero]
        refine wpAnyH_take (i := 14) (v := ?vs52) rfl (by kernel_rfl) (by kernel_rfl) (by kernel_rfl) (fun _ _ _ h => h) (Or.inl ⟨by rfl, ?hs52⟩) (by assumption) ?rs52
        case hs52 => intro w hSw; (try dsimp only at hSw); go_simp; try with_reducible rfl
        simp only [Act.put, List.getElem_toArray, List.getElem_cons_succ, List.getElem_cons_zero, List.setIfInBounds_toArray, List.set_cons_succ, List.set_cons_zero]
        refine wpAnyH_take (i := 15) (v := ?vs55) rfl (by kernel_rfl) (by kernel_rfl) (by kernel_rfl) (fun _ _ _ h => h) (Or.inl ⟨by rfl, ?hs55⟩) (by assumption) ?rs55
        case hs55 => intro w hSw; (try dsimp only at hSw); go_simp; try with_reducible rfl
        simp only [Act.put, List.getElem_toArray, List.getElem_cons_succ, List.getElem_cons_zero, List.setIfInBounds_toArray, List.set_cons_succ, List.set_cons_zero]
        refine wpAnyH_take (i := 16) (v := ?vs58) rfl (by kernel_rfl) (by kernel_rfl) (by kernel_rfl) (fun _ _ _ h => h) (Or.inl ⟨by rfl, ?hs58⟩) (by assumption) ?rs58
        case hs58 => intro w hSw; (try dsimp only at hSw); go_simp; try with_reducible rfl
        simp only [Act.put, List.getElem_toArray, List.getElem_cons_succ, List.getElem_cons_zero, List.setIfInBounds_toArray, List.set_cons_succ, List.set_cons_zero]
        refine wpAnyH_take (i := 17) (v := ?vs61) rfl (by kernel_rfl) (by kernel_rfl) (by kernel_rfl) (fun _ _ _ h => h) (Or.inl ⟨by rfl, ?hs61⟩) (by assumption) ?rs61
        case hs61 => intro w hSw; (try dsimp only at hSw); go_simp; try with_reducible rfl
        simp only [Act.put, List.getElem_toArray, List.getElem_cons_succ, List.getElem_cons_zero, List.setIfInBounds_toArray, List.set_cons_succ, List.set_cons_zero]
        refine wpAnyH_take (i := 18) (v := ?vs64) rfl (by kernel_rfl) (by kernel_rfl) (by kernel_rfl) (fun _ _ _ h => h) (Or.inl ⟨by rfl, ?hs64⟩) (by assumption) ?rs64
        case hs64 => intro w hSw; (try dsimp only at hSw); go_simp; try with_reducible rfl
        simp only [Act.put, List.getElem_toArray, List.getElem_cons_succ, List.getElem_cons_zero, List.setIfInBounds_toArray, List.set_cons_succ, List.set_cons_zero]
        refine wpAnyH_take (i := 19) (v := ?vs67) rfl (by kernel_rfl) (by kernel_rfl) (by kernel_rfl) (fun _ _ _ h => h) (Or.inl ⟨by rfl, ?hs67⟩) (by assumption) ?rs67
        case hs67 => intro w hSw; (try dsimp only at hSw); go_simp; try with_reducible rfl
        simp only [Act.put, List.getElem_toArray, List.getElem_cons_succ, List.getElem_cons_zero, List.setIfInBounds_toArray, List.set_cons_succ, List.set_cons_zero]
        refine wpAnyH_take (i := 20) (v := ?vs70) rfl (by kernel_rfl) (by kernel_rfl) (by kernel_rfl) (fun _ _ _ h => h) (Or.inl ⟨by rfl, ?hs70⟩) (by assumption) ?rs70
        case hs70 => intro w hSw; (try dsimp only at hSw); go_simp; try with_reducible rfl
        simp only [Act.put, List.getElem_toArray, List.getElem_cons_succ, List.getElem_cons_zero, List.setIfInBounds_toArray, List.set_cons_succ, List.set_cons_zero]
        refine wpAnyH_take (i := 21) (v := ?vs73) rfl (by kernel_rfl) (by kernel_rfl) (by kernel_rfl) (fun _ _ _ h => h) (Or.inl ⟨by rfl, ?hs73⟩) (by assumption) ?rs73
        case hs73 => intro w hSw; (try dsimp only at hSw); go_simp; try with_reducible rfl
        simp only [Act.put, List.getElem_toArray, List.getElem_cons_succ, List.getElem_cons_zero, List.setIfInBounds_toArray, List.set_cons_succ, List.set_cons_zero]
        refine wpAnyH_take (i := 22) (v := ?vs76) rfl (by kernel_rfl) (by kernel_rfl) (by kernel_rfl) (fun _ _ _ h => h) (Or.inl ⟨by rfl, ?hs76⟩) (by assumption) ?rs76
        case hs76 => intro w hSw; (try dsimp only at hSw); go_simp; try with_reducible rfl
        simp only [Act.put, List.getElem_toArray, List.getElem_cons_succ, List.getElem_cons_zero, List.setIfInBounds_toArray, List.set_cons_succ, List.set_cons_zero]
        refine wpAnyH_take (i := 23) (v := ?vs79) rfl (by kernel_rfl) (by kernel_rfl) (by kernel_rfl) (fun _ _ _ h => h) (Or.inl ⟨by rfl, ?hs79⟩) (by assumption) ?rs79
        case hs79 => intro w hSw; (try dsimp only at hSw); go_simp; try with_reducible rfl
        simp only [Act.put, List.getElem_toArray, List.getElem_cons_succ, List.getElem_cons_zero, List.setIfInBounds_toArray, List.set_cons_succ, List.set_cons_zero]
        refine wpAnyH_take (i := 24) (v := ?vs82) rfl (by kernel_rfl) (by kernel_rfl) (by kernel_rfl) (fun _ _ _ h => h) (Or.inl ⟨by rfl, ?hs82⟩) (by assumption) ?rs82
        case hs82 => intro w hSw; (try dsimp only at hSw); go_simp; try with_reducible rfl
        simp only [Act.put, List.getElem_toArray, List.getElem_cons_succ, List.getElem_cons_zero, List.setIfInBounds_toArray, List.set_cons_succ, List.set_cons_zero]
        refine wpAnyH_take (i := 25) (v := ?vs85) rfl (by kernel_rfl) (by kernel_rfl) (by kernel_rfl) (fun _ _ _ h => h) (Or.inl ⟨by rfl, ?hs85⟩) (by assumption) ?rs85
        case hs85 => intro w hSw; (try dsimp only at hSw); go_simp; try with_reducible rfl
        simp only [Act.put, List.getElem_toArray, List.getElem_cons_succ, List.getElem_cons_zero, List.setIfInBounds_toArray, List.set_cons_succ, List.set_cons_zero]
        refine wpAnyH_take (i := 26) (v := ?vs88) rfl (by kernel_rfl) (by kernel_rfl) (by kernel_rfl) (fun _ _ _ h => h) (Or.inl ⟨by rfl, ?hs88⟩) (by assumption) ?rs88
        case hs88 => intro w hSw; (try dsimp only at hSw); go_simp; try with_reducible rfl
        simp only [Act.put, List.getElem_toArray, List.getElem_cons_succ, List.getElem_cons_zero, List.setIfInBounds_toArray, List.set_cons_succ, List.set_cons_zero]
        refine wpAnyH_take (i := 27) (v := ?vs91) rfl (by kernel_rfl) (by kernel_rfl) (by kernel_rfl) (fun _ _ _ h => h) (Or.inl ⟨by rfl, ?hs91⟩) (by assumption) ?rs91
        case hs91 => intro w hSw; (try dsimp only at hSw); go_simp; try with_reducible rfl
        simp only [Act.put, List.getElem_toArray, List.getElem_cons_succ, List.getElem_cons_zero, List.setIfInBounds_toArray, List.set_cons_succ, List.set_cons_zero]
        refine wpAnyH_take (i := 28) (v := ?vs94) rfl (by kernel_rfl) (by kernel_rfl) (by kernel_rfl) (fun _ _ _ h => h) (Or.inl ⟨by rfl, ?hs94⟩) (by assumption) ?rs94
        case hs94 => intro w hSw; (try dsimp only at hSw); go_simp; try with_reducible rfl
        simp only [Act.put, List.getElem_toArray, List.getElem_cons_succ, List.getElem_cons_zero, List.setIfInBounds_toArray, List.set_cons_succ, List.set_cons_zero]
        refine wpAnyH_take (i := 29) (v := ?vs97) rfl (by kernel_rfl) (by kernel_rfl) (by kernel_rfl) (fun _ _ _ h => h) (Or.inl ⟨by rfl, ?hs97⟩) (by assumption) ?rs97
        case hs97 => intro w hSw; (try dsimp only at hSw); go_simp; try with_reducible rfl
        simp only [Act.put, List.getElem_toArray, List.getElem_cons_succ, List.getElem_cons_zero, List.setIfInBounds_toArray, List.set_cons_succ, List.set_cons_zero]
        refine wpAnyH_take (i := 30) (v := ?vs100) rfl (by kernel_rfl) (by kernel_rfl) (by kernel_rfl) (fun _ _ _ h => h) (Or.inl ⟨by rfl, ?hs100⟩) (by assumption) ?rs100
        case hs100 => intro w hSw; (try dsimp only at hSw); go_simp; try with_reducible rfl
        simp only [Act.put, List.getElem_toArray, List.getElem_cons_succ, List.getElem_cons_zero, List.setIfInBounds_toArray, List.set_cons_succ, List.set_cons_zero]
        refine wpAnyH_take (i := 31) (v := ?vs103) rfl (by kernel_rfl) (by kernel_rfl) (by kernel_rfl) (fun _ _ _ h => h) (Or.inl ⟨by rfl, ?hs103⟩) (by assumption) ?rs103
        case hs103 => intro w hSw; (try dsimp only at hSw); go_simp; try with_reducible rfl
        simp only [Act.put, List.getElem_toArray, List.getElem_cons_succ, List.getElem_cons_zero, List.setIfInBounds_toArray, List.set_cons_succ, List.set_cons_zero]
        refine wpAnyH_take (i := 32) (v := ?vs106) rfl (by kernel_rfl) (by kernel_rfl) (by kernel_rfl) (fun _ _ _ h => h) (Or.inl ⟨by rfl, ?hs106⟩) (by assumption) ?rs106
        case hs106 => intro w hSw; (try dsimp only at hSw); go_simp; try with_reducible rfl
        simp only [Act.put, List.getElem_toArray, List.getElem_cons_succ, List.getElem_cons_zero, List.setIfInBounds_toArray, List.set_cons_succ, List.set_cons_zero]
        refine wpAnyH_take (i := 33) (v := ?vs109) rfl (by kernel_rfl) (by kernel_rfl) (by kernel_rfl) (fun _ _ _ h => h) (Or.inl ⟨by rfl, ?hs109⟩) (by assumption) ?rs109
        case hs109 => intro w hSw; (try dsimp only at hSw); go_simp; try with_reducible rfl
        simp only [Act.put, List.getElem_toArray, List.getElem_cons_succ, List.getElem_cons_zero, List.setIfInBounds_toArray, List.set_cons_succ, List.set_cons_zero]
        refine wpAnyH_ready (rs := [34]) (by kernel_rfl) (by simp) ?_
        refine AllReadyH.cons rfl (fun K hK => ?_) AllReadyH.nil
        go_simp
        go_at_call 12
        refine (lessR_is ⟨la', ln', lc', LL', ra', rn', rc', RR', 0⟩ ⟨la, ln, lc, LL, ra, rn, rc, RR, 0⟩ true v1 (HGY.out.below hd1 (Nat.le_refl _)) (HGX.out.below hd1 (Nat.le_refl _)) HLS.out).mono ?_
        rintro e v2 ⟨rfl, hv⟩
        have hd2 := hd1.trans (hv.mono hd1.size)
        clear hv
        go_wp2_with fail
        refine hK.out _ _ (by first | (first | exact KEEP.out _ hd2 | exact KEEP.out _ hd1 | exact KEEP.out _ hd0) | ((try dsimp only); first | exact KEEP.out _ hd2 | exact KEEP.out _ hd1 | exact KEEP.out _ hd0)) (fun hHeld => ?_)
        clear hK K
        try simp only [Act.put, List.getElem_toArray, List.getElem_cons_succ, List.getElem_cons_zero, List.setIfInBounds_toArray, List.set_cons_succ, List.set_cons_zero]
        refine wpAnyH_take (i := 35) (v := ?vs124) rfl (by kernel_rfl) (by kernel_rfl) (by kernel_rfl) (fun _ _ _ h => h) (Or.inl ⟨by rfl, ?hs124⟩) (by assumption) ?rs124
        case hs124 => intro w hSw; (try dsimp only at hSw); go_simp; try with_reducible rfl
        simp only [Act.put, List.getElem_toArray, List.getElem_cons_succ, List.getElem_cons_zero, List.setIfInBounds_toArray, List.set_cons_succ, List.set_cons_zero]
        refine wpAnyH_take (i := 36) (v := ?vs127) rfl (by kernel_rfl) (by kernel_rfl) (by kernel_rfl) (fun _ _ _ h => h) (Or.inl ⟨by rfl, ?hs127⟩) (by assumption) ?rs127
        case hs127 => intro w hSw; (try dsimp only at hSw); go_simp; try with_reducible rfl
        simp only [Act.put, List.getElem_toArray, List.getElem_cons_succ, List.getElem_cons_zero, List.setIfInBounds_toArray, List.set_cons_succ, List.set_cons_zero]
        refine wpAnyH_take (i := 37) (v := ?vs130) rfl (by kernel_rfl) (by kernel_rfl) (by kernel_rfl) (fun _ _ _ h => h) (Or.inl ⟨by rfl, ?hs130⟩) (by assumption) ?rs130
        case hs130 => intro w hSw; (try dsimp only at hSw); go_simp; try with_reducible rfl
        simp only [Act.put, List.getElem_toArray, List.getElem_cons_succ, List.getElem_cons_zero, List.setIfInBounds_toArray, List.set_cons_succ, List.set_cons_zero]
        refine wpAnyH_done (by kernel_rfl) ?_ _
        have HB5 : Hid (Below w4.heap.size w4 v2) := HB.out.trans (hd2.mono HB.out.size)
        clear hd2
        go_wp2
        go_roundw
        case rel => exact ⟨p + 1 + 1, by omega, by go_num, HB5.out⟩
        case measure => simp [intOf]; omega
    · obtain rfl : j = m := by omega
      obtain ⟨w5, hw5⟩ : ∃ w5, w5 = wr := ⟨_, rfl⟩
      rw [← hw5] at HB
      rw [← hw5]
      have X5 := Lib.hid (X4.out.below HB.out (Nat.le_refl _))
      have Y5 := Lib.hid (Y4.out.below HB.out (Nat.le_refl _))
      have P5 := Lib.hid (P4.out.below HB.out (Nat.le_refl _))
      have Q5 := Lib.hid (Q4.out.below HB.out (Nat.le_refl _))
      have A5 := Lib.hid (A4.out.below HB.out (Nat.le_refl _))
      have HB5 : Hid (Below w.heap.size w w5) := HB4.out.trans (HB.out.mono HB4.out.size)
      have hncx := P5.out.2.1
      have hncy := Q5.out.2.1
      have hcmx := P5.out.2.2.1
      have hcmy := Q5.out.2.2.1
      unfold maxLen at hcmx hcmy
      clear hw5 HB X4 Y4 P4 Q4 A4 HB4
      go_wp2_with (first
        | (at_builtin; refine append_rules (by rfl) (.tmp 76) (.tmp 77) (by rfl) w5.heap.size _ 0 [] (by rfl) (owns0_rules w5) a1 len1 cap1 x1 (by rfl) (Y5.out.alloc _) len1 (by omega) (by omega) (by simp) ?_; intro aP cP wP hownP hbP' _ _; simp only [List.nil_append] at hownP; have hbP : Below w5.heap.size w5 wP := ((Below.refl _ w5).alloc (Nat.le_refl _) _).trans hbP'; clear hbP')
        | (at_builtin; refine append_rules (by rfl) (.tmp 78) (.tmp 79) (by rfl) w5.heap.size _ len1 x1 (by rfl) hownP a0 len0 cap0 x0 (by rfl) (X5.out.below hbP (Nat.le_refl _)) (len1 + len0) (by omega) (by omega) (by have := hbP.size; omega) ?_; intro aQ cQ wQ hownQ hbQ' _ _; have hbQ : Below w5.heap.size w5 wQ := hbP.trans hbQ'; clear hbQ')
        | fail)
      have hrsQ : Rs wQ aQ (len1 + len0) cQ (x1 ++ x0) := Rs.of_owns hownQ (fun x hx => by
        rcases List.mem_append.1 hx with hx | hx
        · exact (Y5.out.2.2.2.1 x hx).below hbQ (Nat.le_refl _)
        · exact (X5.out.2.2.2.1 x hx).below hbQ (Nat.le_refl _)) (by rw [List.length_append, Y5.out.1, X5.out.1])
      clear hownP hownQ hbP
      refine (norm_any aQ (len1 + len0) cQ (x1 ++ x0) wQ hrsQ (by omega)).mono ?_
      rintro e w6 ⟨at6, n6, c6, o6, rfl, hrs, hr6, hn6, _, hb'⟩
      have hb : Below w5.heap.size w5 w6 := hbQ.trans (hb'.mono hbQ.size)
      have P6 := Lib.hid (P5.out.below hb (Nat.le_refl _))
      have Q6 := Lib.hid (Q5.out.below hb (Nat.le_refl _))
      have A6 := Lib.hid (A5.out.below hb (Nat.le_refl _))
      have T6 := Lib.hid hrs
      have HB6 : Hid (Below w.heap.size w w6) := HB5.out.trans (hb.mono HB5.out.size)
      have HR6 : Hid (ruls o6 = ruls oa) := by show _ = _; rw [hr6, ruls_app, HRA.out, nrm_turned]
      clear hb hb' hrs hr6 hbQ hrsQ X5 Y5 P5 Q5 A5 HB5
      go_wp2_with (first
        | (at_builtin; refine append_rules (by rfl) (.tmp 82) (.tmp 83) (by rfl) w6.heap.size _ 0 [] (by rfl) (owns0_rules w6) ax nx cx ox (by rfl) (P6.out.alloc _) nx (by omega) (by omega) (by simp) ?_; intro aP cP wP hownP hbP' _ _; simp only [List.nil_append] at hownP; have hbP : Below w6.heap.size w6 wP := ((Below.refl _ w6).alloc (Nat.le_refl _) _).trans hbP'; clear hbP')
        | (at_builtin; refine append_rules (by rfl) (.tmp 84) (.tmp 85) (by rfl) w6.heap.size _ nx ox (by rfl) hownP ay ny cy oy (by rfl) (Q6.out.below hbP (Nat.le_refl _)) (nx + ny) (by omega) (by omega) (by have := hbP.size; omega) ?_; intro aQ cQ wQ hownQ hbQ' _ _; have hbQ : Below w6.heap.size w6 wQ := hbP.trans hbQ'; clear hbQ')
        | fail)
      have hrsQ : Rs wQ aQ (nx + ny) cQ (ox ++ oy) := Rs.of_owns hownQ (fun x hx => by
        rcases List.mem_append.1 hx with hx | hx
        · exact (P6.out.2.2.2.1 x hx).below hbQ (Nat.le_refl _)
        · exact (Q6.out.2.2.2.1 x hx).below hbQ (Nat.le_refl _)) (by rw [List.length_append, P6.out.1, Q6.out.1])
      clear hownP hownQ hbP
      refine (norm_any aQ (nx + ny) cQ (ox ++ oy) wQ hrsQ (by omega)).mono ?_
      rintro e w7 ⟨ap, n7, c7, o7, rfl, hrs, hr7, hn7, _, hb'⟩
      have hb : Below w6.heap.size w6 w7 := hbQ.trans (hb'.mono hbQ.size)
      have A7 := Lib.hid (A6.out.below hb (Nat.le_refl _))
      have T7 := Lib.hid (T6.out.below hb (Nat.le_refl _))
      have U7 := Lib.hid hrs
      have HB7 : Hid (Below w.heap.size w w7) := HB6.out.trans (hb.mono HB6.out.size)
      have HR7 : Hid (ruls o7 = ruls oa) := by show _ = _; rw [hr7, ruls_app, HRX.out, HRY.out, HRA.out, nrm_parts]
      clear hb hb' hrs hr7 hbQ hrsQ P6 Q6 A6 T6 HB6
      go_wp2_with fail
      refine (norm_any aa j ca oa w7 A7.out (by omega)).mono ?_
      rintro e w8 ⟨a8, n8, c8, o8, rfl, hrs, hr8, hn8, _, hb⟩
      have A8 := Lib.hid (A7.out.below hb (Nat.le_refl _))
      have T8 := Lib.hid (T7.out.below hb (Nat.le_refl _))
      have U8 := Lib.hid (U7.out.below hb (Nat.le_refl _))
      have V8 := Lib.hid hrs
      have HB8 : Hid (Below w.heap.size w w8) := HB7.out.trans (hb.mono HB7.out.size)
      have HR8 : Hid (ruls o8 = ruls oa) := by show _ = _; rw [hr8, HRA.out, nrm_nrm]
      clear hb hrs hr8 A7 T7 U7 HB7
      go_wp2_with fail
      refine (rsames_is a8 aa n8 j c8 ca o8 oa true w8 V8.out A8.out (by rw [HR8.out]; simp)).mono ?_
      rintro e w9 ⟨rfl, q9, rfl⟩
      go_wp2_with fail
      refine (rsames_is at6 aa n6 j c6 ca o6 oa true _ (T8.out.drewN _) (A8.out.drewN _) (by rw [HR6.out]; simp)).mono ?_
      rintro e w10 ⟨rfl, q10, rfl⟩
      go_wp2_with fail
      refine (rsames_is ap aa n7 j c7 ca o7 oa true _ (U8.out.drewN _) (A8.out.drewN _) (by rw [HR7.out]; simp)).mono ?_
      rintro e w11 ⟨rfl, hq⟩
      have HB9 : Hid (Below w.heap.size w w11) := below_drawn (below_drawn HB8.out ⟨_, rfl⟩) hq
      clear hq
      go_wp2
      go_ret
      exact ⟨rfl, HB9.out⟩

set_option maxRecDepth 100000 in
theorem lifted (os : Os) (started : os.Started) (H : Type) (enc : TypeId × Value → H) :
    ReturnsInHanded {} Try.checked os 4 .any (Rows.ruleNormSpec.pre6 enc Try.prog Try.f4 Rows.ruleNormRow.domain false) (Rows.ruleNormSpec.post enc Try.prog Try.f4 false true false false) := by
  refine returnsInHanded_of_change_sized (C := Try.checked) own started (by kernel_rfl) Try.func4
    (ChangeSpec.witness6 (enc := enc) (C := Try.checked) false ⟨#[], #[.slice none 0 0, .slice none 0 0], []⟩ 8 (by kernel_rfl) (by kernel_rfl) (by kernel_rfl) (by kernel_rfl)) ?_
  intro W base args ds gs before hval0 hW hcnd hsz0 _
  have hsz : (DataW.weightsEach Try.prog (Try.f4.params.toList ++ Rows.ruleNormSpec.plain.varTypes Try.prog) (ds ++ gs)).all (· ≤ reachBytes) = true := hsz0
  clear hsz0
  have hval : ∀ (j : Nat) t v, Try.f4.params[j]? = some t → args[j]? = some v → Value.okWide Try.prog W .any base t v := hval0
  have hW' := hW
  obtain ⟨p, q, hA0, hV, rfl, hfz, hnd⟩ := hW
  have hA : DataW.TrodAll enc Try.prog W 0 (fun _ => true) true Try.f4.params.toList args.toList ds p := hA0
  rw [Try.params4] at hA hval hsz
  obtain ⟨v0, vs0, d0, ds0, p0, q0, hargs, rfl, rfl, h0, r0⟩ := trodAll_cons hA
  obtain ⟨v1, vs1, d1, ds1, p1, q1, rfl, rfl, rfl, h1, r1⟩ := trodAll_cons r0
  obtain ⟨rfl, rfl, rfl⟩ := trodAll_nil r1
  obtain rfl : args = #[v0, v1] := by cases args; simp_all
  obtain ⟨rfl, rfl⟩ := trodVars_none hV
  obtain ⟨a0, len0, cap0, rfl⟩ := okWide_slice Try.underlying22 (hval 0 22 v0 rfl rfl)
  have k0 := h0
  have lt0 : ∀ x ∈ p0, x.block < W.heap.size := by obtain ⟨m, hm⟩ := k0; exact DataW.trod_lt m _ _ _ hm
  obtain ⟨x0, w0, n0, hr0⟩ : ∃ xs, Rs W a0 len0 cap0 xs ∧ (a0 = none → cap0 = 0) ∧ len0 * 56 ≤ 140737488351232 := by
    obtain ⟨fuel, hf⟩ := h0
    obtain ⟨a, l, c, xs, hcs, hrs, hnil, hsz1⟩ := Rs.open hf
    simp only [Value.slice.injEq] at hcs
    obtain ⟨rfl, rfl, rfl⟩ := hcs
    refine ⟨xs, hrs, hnil, ?_⟩
    rcases hsz1 with h0 | ⟨elems, spare, hd, hel⟩
    · omega
    · have hd' : d0 = .slice elems spare := hd
      subst hd'
      have hb56 : Try.prog.bytesOf 26 = 56 := by kernel_rfl
      have := sized_slice hsz (j := 0) (t := 22) (e := 26) rfl rfl Try.underlying22
      rw [hb56] at this
      simp only [reachBytes] at this
      omega
  obtain ⟨a1, len1, cap1, rfl⟩ := okWide_slice Try.underlying22 (hval 1 22 v1 rfl rfl)
  have k1 := h1
  have lt1 : ∀ x ∈ p1, x.block < W.heap.size := by obtain ⟨m, hm⟩ := k1; exact DataW.trod_lt m _ _ _ hm
  obtain ⟨x1, w1, n1, hr1⟩ : ∃ xs, Rs W a1 len1 cap1 xs ∧ (a1 = none → cap1 = 0) ∧ len1 * 56 ≤ 140737488351232 := by
    obtain ⟨fuel, hf⟩ := h1
    obtain ⟨a, l, c, xs, hcs, hrs, hnil, hsz1⟩ := Rs.open hf
    simp only [Value.slice.injEq] at hcs
    obtain ⟨rfl, rfl, rfl⟩ := hcs
    refine ⟨xs, hrs, hnil, ?_⟩
    rcases hsz1 with h0 | ⟨elems, spare, hd, hel⟩
    · omega
    · have hd' : d1 = .slice elems spare := hd
      subst hd'
      have hb56 : Try.prog.bytesOf 26 = 56 := by kernel_rfl
      have := sized_slice hsz (j := 1) (t := 22) (e := 26) rfl rfl Try.underlying22
      rw [hb56] at this
      simp only [reachBytes] at this
      omega
  clear hA0 hval0
  refine (walk a0 len0 cap0 x0 a1 len1 cap1 x1 W w0 n0 hr0 w1 n1 hr1).mono fun e W' ⟨he, bel⟩ => ?_
  subst he
  exact ⟨_, rfl, _, _, _, [], _, [], hW', trodAll_mk1 (shut_bool Try.underlying4 _), (trodAll_cons_mk (Below.trod laidOut (by kernel_rfl) (of_decide_eq_true (by kernel_rfl)) k0 bel lt0) (trodAll_cons_mk (Below.trod laidOut (by kernel_rfl) (of_decide_eq_true (by kernel_rfl)) k1 bel lt1) trodAll_mk0)), rfl, bel.frame _, fun h => by cases h⟩

theorem over : Rows.ruleNormRow.holds Try.pinned (OpenSpec.ofChange Rows.ruleNormSpec) :=
  OpenClaim.holds_of_wide 4 Try.f4 rfl rfl rfl rfl rfl rfl rfl ⟨rfl, rfl, rfl, rfl, rfl⟩ rfl rfl rfl rfl rfl (by kernel_rfl) Try.func4 (by kernel_rfl)
    (of_decide_eq_true (by kernel_rfl)) (by unfold Func.isWrapper; first | (rw [if_pos (by decide +kernel)]; kernel_rfl) | (rw [if_neg (by decide +kernel)]; exact ⟨rfl, rfl⟩))
    (fun os started H enc _ => lifted os started H enc)

/-- the statement -/
theorem proved : Rows.RuleNormSaid := over
#print axioms proved
end Go.Proofs.Ytcpilhgofdnigaa.ruleNorm
