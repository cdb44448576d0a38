/- For every list of rules, and every two rules, RuleTells answers true, and turns nothing that was there. No condition. -/
import Derived.Test.YtcpilhgofdnigaaRows
import Derived.Test.YtcpilhgofdnigaaRuleOpen
import Derived.Test.YtcpilhgofdnigaaRuleAwake
import Derived.Test.YtcpilhgofdnigaaRuleLike
import Derived.Deep.RegionHeld3
import Derived.WalkKit
import Derived.ProofKit
import Derived.OpenShut
import Derived.ShutString
import Derived.ChangeOld
import Derived.Below
import Derived.Deep.Matrix
import Derived.SizedLaws
namespace Go.Proofs.Ytcpilhgofdnigaa.ruleTells
open Go.ChangeShapes Go.WideShapes Go.ChangeAt Go.RowKit
set_option linter.unusedVariables false

theorem own : ownKnob Try.prog.godebug = none := by kernel_rfl
theorem laidOut : laidOutB Try.prog = true := by kernel_rfl

/-- a slice of integers that came in -/
def IsRow (k : IntKind) (w : World) (a : Option Addr) (len cap : Nat) (zs : List Int) : Prop :=
  (a = none ∧ len = 0 ∧ cap = 0 ∧ zs = []) ∨
  ∃ x, a = some x ∧ len ≤ cap ∧ cap ≤ maxLen ∧ zs.length = cap ∧ (∀ i, i < zs.length → w.cell? (x.add i) = some (.int k (zs.getD i 0))) ∧ ∀ n ∈ zs, (Lit.int k n).wf = true

/-! ### STEP 1: the walk -/
set_option maxHeartbeats 6400000 in
set_option maxRecDepth 100000 in
theorem walk (a0 : Option Addr) (len0 cap0 : Nat) (x0 : List Rw) (x1 : Rw) (x2 : Rw) (w : World) (w0 : Rs w a0 len0 cap0 x0) (n0 : a0 = none → cap0 = 0) (hr0 : len0 * 56 ≤ 140737488351232) (w1 : x1.Good w) (w2 : x2.Good w) :
    Calls Try.prog 3 #[.slice a0 len0 cap0, x1.v, x2.v] w fun e w' => e = .returned (.bool true) ∧ Below w.heap.size w w' := by
  obtain ⟨la, lna, lca, La, ra, rna, rca, Ra, Ca⟩ := x1
  obtain ⟨lb, lnb, lcb, Lb, rb, rnb, rcb, Rb, Cb⟩ := x2
  have HGa := Lib.hid w1
  have HGb := Lib.hid w2
  have hnc := w0.2.1
  have hcm := w0.2.2.1
  unfold maxLen at hcm
  have HX := Lib.hid w0
  have HN0 := Lib.hid n0
  clear w0 w1 w2 n0
  simp only [Rw.v, Rw.l, Rw.rt, Rw.c]
  obtain ⟨ck, hck⟩ : ∃ q, chk ⟨La, Ra, Ca⟩ = q := ⟨_, rfl⟩
  obtain ⟨ls, hls⟩ : ∃ q, lessR ⟨La, Ra, Ca⟩ ⟨Lb, Rb, Cb⟩ = q := ⟨_, rfl⟩
  have HCK := Lib.hid hck
  have HLS := Lib.hid hls
  have hcc : (ck == ck) = true := by simp
  have hll : (ls == ls) = true := by simp
  clear hck hls
  obtain ⟨W, hW⟩ : ∃ W, W = (w.alloc (.cells #[.slice la lna lca, .slice ra rna rca, .int .u64 Ca] 26)).alloc (.cells #[.slice lb lnb lcb, .slice rb rnb rcb, .int .u64 Cb] 26) := ⟨_, rfl⟩
  have hlay : RwAt W (w.heap.size) 0 ⟨la, lna, lca, La, ra, rna, rca, Ra, Ca⟩ ∧ RwAt W (w.heap.size + 1) 0 ⟨lb, lnb, lcb, Lb, rb, rnb, rcb, Rb, Cb⟩ ∧ Below w.heap.size w W := by
    rw [hW]
    refine ⟨(RwAt.new w ⟨la, lna, lca, La, ra, rna, rca, Ra, Ca⟩ _).alloc _, ?_, ((Below.refl _ w).alloc (Nat.le_refl _) _).alloc (by simp) _⟩
    have h := RwAt.new (w.alloc (.cells #[.slice la lna lca, .slice ra rna rca, .int .u64 Ca] 26)) ⟨lb, lnb, lcb, Lb, rb, rnb, rcb, Rb, Cb⟩ 26
    rw [World.size_alloc] at h; exact h
  obtain ⟨Aa, Ab, BW⟩ := hlay
  have HW := Lib.hid hW
  clear hW
  have B0 : Hid (Below w.heap.size w W) := BW
  have Ga0 : Hid ((⟨la, lna, lca, La, ra, rna, rca, Ra, Ca⟩ : Rw).Good W) := HGa.out.below BW (Nat.le_refl _)
  have Aa0 : Hid (RwAt W (w.heap.size) 0 ⟨la, lna, lca, La, ra, rna, rca, Ra, Ca⟩) := Aa
  have Gb0 : Hid ((⟨lb, lnb, lcb, Lb, rb, rnb, rcb, Rb, Cb⟩ : Rw).Good W) := HGb.out.below BW (Nat.le_refl _)
  have Ab0 : Hid (RwAt W (w.heap.size + 1) 0 ⟨lb, lnb, lcb, Lb, rb, rnb, rcb, Rb, Cb⟩) := Ab
  have X0 := Lib.hid (HX.out.below BW (Nat.le_refl _))
  have ha1 : W.cell? ⟨w.heap.size, 0, none⟩ = some (.slice la lna lca) := Aa0.out.1
  have ha2 : W.cell? ⟨w.heap.size, 1, none⟩ = some (.slice ra rna rca) := Aa0.out.2.1
  have ha3 : W.cell? ⟨w.heap.size, 2, none⟩ = some (.int .u64 Ca) := Aa0.out.2.2
  have na : W.heap.size ≠ w.heap.size := by have := cell_lt ha1; omega
  have ma : w.heap.size < W.heap.size := cell_lt ha1
  have hb1 : W.cell? ⟨w.heap.size + 1, 0, none⟩ = some (.slice lb lnb lcb) := Ab0.out.1
  have hb2 : W.cell? ⟨w.heap.size + 1, 1, none⟩ = some (.slice rb rnb rcb) := Ab0.out.2.1
  have hb3 : W.cell? ⟨w.heap.size + 1, 2, none⟩ = some (.int .u64 Cb) := Ab0.out.2.2
  have nb : W.heap.size ≠ w.heap.size + 1 := by have := cell_lt hb1; omega
  have mb : w.heap.size + 1 < W.heap.size := cell_lt hb1
  clear ha1 ha2 ha3 hb1 hb2 hb3 na ma nb mb
  clear Aa Ab BW HGa HGb HX
  go_enter Try.func3, Try.ntmps3
  go_wp2_with fail
  rw [← HW.out]
  clear HW
  refine (awake_any _).mono ?_
  rintro e w1 ⟨rfl, hb⟩
  have B1 : Hid (Below w.heap.size w w1) := B0.out.trans (hb.mono B0.out.size)
  have Ga1 := Lib.hid (Ga0.out.below hb (Nat.le_refl _))
  have Aa1 := Lib.hid (Aa0.out.below hb (Nat.le_refl _))
  have Gb1 := Lib.hid (Gb0.out.below hb (Nat.le_refl _))
  have Ab1 := Lib.hid (Ab0.out.below hb (Nat.le_refl _))
  have X1 := Lib.hid (X0.out.below hb (Nat.le_refl _))
  clear hb B0 Ga0 Aa0 Gb0 Ab0 X0
  have ha1 : w1.cell? ⟨w.heap.size, 0, none⟩ = some (.slice la lna lca) := Aa1.out.1
  have ha2 : w1.cell? ⟨w.heap.size, 1, none⟩ = some (.slice ra rna rca) := Aa1.out.2.1
  have ha3 : w1.cell? ⟨w.heap.size, 2, none⟩ = some (.int .u64 Ca) := Aa1.out.2.2
  have na : w1.heap.size ≠ w.heap.size := by have := cell_lt ha1; omega
  have ma : w.heap.size < w1.heap.size := cell_lt ha1
  have hb1 : w1.cell? ⟨w.heap.size + 1, 0, none⟩ = some (.slice lb lnb lcb) := Ab1.out.1
  have hb2 : w1.cell? ⟨w.heap.size + 1, 1, none⟩ = some (.slice rb rnb rcb) := Ab1.out.2.1
  have hb3 : w1.cell? ⟨w.heap.size + 1, 2, none⟩ = some (.int .u64 Cb) := Ab1.out.2.2
  have nb : w1.heap.size ≠ w.heap.size + 1 := by have := cell_lt hb1; omega
  have mb : w.heap.size + 1 < w1.heap.size := cell_lt hb1
  have KEEP1 : Hid (∀ W, Below w1.heap.size w1 W → W.cell? ⟨w.heap.size, 0, none⟩ = some (.slice la lna lca) ∧ W.cell? ⟨w.heap.size, 1, none⟩ = some (.slice ra rna rca) ∧ W.cell? ⟨w.heap.size, 2, none⟩ = some (.int .u64 Ca) ∧ W.cell? ⟨w.heap.size + 1, 0, none⟩ = some (.slice lb lnb lcb) ∧ W.cell? ⟨w.heap.size + 1, 1, none⟩ = some (.slice rb rnb rcb) ∧ W.cell? ⟨w.heap.size + 1, 2, none⟩ = some (.int .u64 Cb)) := fun W hb =>
    have h1 := Aa1.out.below hb (Nat.le_refl _)
    have h2 := Ab1.out.below hb (Nat.le_refl _)
    ⟨h1.1, h1.2.1, h1.2.2, h2.1, h2.2.1, h2.2.2⟩
  have bel0 : Below w1.heap.size w1 w1.drew := below_drawn (Below.refl _ w1) ⟨1, rfl⟩
  have BEL0 := Lib.hid bel0
  have BEL1 : Hid (∀ o, Below w1.heap.size w1 (w1.alloc o)) := fun o => (Below.refl _ w1).alloc (Nat.le_refl _) o
  have BEL2 : Hid (∀ o o', Below w1.heap.size w1 ((w1.alloc o).alloc o')) := fun o o' => ((Below.refl _ w1).alloc (Nat.le_refl _) o).alloc (by simp) o'
  clear bel0
  go_wp2
  go_region_held3 (fun W => W.cell? ⟨w.heap.size, 0, none⟩ = some (.slice la lna lca) ∧ W.cell? ⟨w.heap.size, 1, none⟩ = some (.slice ra rna rca) ∧ W.cell? ⟨w.heap.size, 2, none⟩ = some (.int .u64 Ca) ∧ W.cell? ⟨w.heap.size + 1, 0, none⟩ = some (.slice lb lnb lcb) ∧ W.cell? ⟨w.heap.size + 1, 1, none⟩ = some (.slice rb rnb rcb) ∧ W.cell? ⟨w.heap.size + 1, 2, none⟩ = some (.int .u64 Cb)) (first | exact KEEP1.out _ BEL0.out | exact KEEP1.out _ (Below.like (BEL1.out _) rfl rfl rfl rfl) | exact KEEP1.out _ (Below.like (BEL2.out _ _) rfl rfl rfl rfl) | exact KEEP1.out _ (Below.like hb5 rfl rfl rfl rfl) | exact KEEP1.out _ (Below.like (hb5.alloc hb5.size _) rfl rfl rfl rfl) | exact KEEP1.out _ (Below.like hb6 rfl rfl rfl rfl)) (first
    | (refine step_append_rules (w0 := w1) (by rfl) (.tmp 9) (.tmp 10) (by rfl) w1.heap.size _ 0 [] (by rfl) (by first | exact owns0_rules w1 | exact (owns0_rules w1).alloc _ | exact owns1_rules w1 _) a0 len0 cap0 x0 (by rfl) (by first | exact X1.out.alloc _ | exact (X1.out.alloc _).alloc _) len0 (by omega) (by omega) (Nat.le_refl _) (by first | exact Below.like (BEL1.out _) rfl rfl rfl rfl | exact Below.like (BEL2.out _ _) rfl rfl rfl rfl) ?_; intro a5 c5 w5 hown5 hb5 hgrow5 _; simp only [List.nil_append] at hown5)
    | (refine step_append_rules (w0 := w1) (by rfl) (.tmp 11) (.tmp 14) (by rfl) w1.heap.size _ len0 x0 (by rfl) (by first | exact hown5 | exact hown5.alloc _) (some ⟨_, 0, none⟩) 2 2 [⟨la, lna, lca, La, ra, rna, rca, Ra, Ca⟩, ⟨lb, lnb, lcb, Lb, rb, rnb, rcb, Rb, Cb⟩] (by rfl) (by first | exact Rs.pairAt (Ga1.out.below hb5 (Nat.le_refl _)) (Gb1.out.below hb5 (Nat.le_refl _)) ((RwAt2.second w1 ⟨la, lna, lca, La, ra, rna, rca, Ra, Ca⟩ ⟨lb, lnb, lcb, Lb, rb, rnb, rcb, Rb, Cb⟩ _ _).drw.grown hgrow5 (fun h => by have h' : some (w1.heap.size + 1) = some w1.heap.size := h; simp at h')) | exact Rs.pairAt (Ga1.out.below hb5 (Nat.le_refl _)) (Gb1.out.below hb5 (Nat.le_refl _)) (((RwAt2.new w1 ⟨la, lna, lca, La, ra, rna, rca, Ra, Ca⟩ ⟨lb, lnb, lcb, Lb, rb, rnb, rcb, Rb, Cb⟩ _).alloc _).drw.grown hgrow5 (fun h => by have h' : some w1.heap.size = some (w1.heap.size + 1) := h; simp at h')) | exact Rs.pairAt ((Ga1.out.below hb5 (Nat.le_refl _)).alloc _) ((Gb1.out.below hb5 (Nat.le_refl _)).alloc _) (RwAt2.new w5 ⟨la, lna, lca, La, ra, rna, rca, Ra, Ca⟩ ⟨lb, lnb, lcb, Lb, rb, rnb, rcb, Rb, Cb⟩ _)) (len0 + 2) (by rfl) (by omega) (Nat.le_refl _) (by first | exact Below.like hb5 rfl rfl rfl rfl | exact Below.like (hb5.alloc hb5.size _) rfl rfl rfl rfl) ?_; intro a6 c6 w6 hown6 hb6 hgrow6 _)
    | (go_at_call 9; refine (rfew_any a6 (len0 + 2) c6 (x0 ++ [⟨la, lna, lca, La, ra, rna, rca, Ra, Ca⟩, ⟨lb, lnb, lcb, Lb, rb, rnb, rcb, Rb, Cb⟩]) 202 (by omega) w6 (Rs.of_owns hown6 (fun x hx => by rcases List.mem_append.1 hx with hx | hx; exact (X1.out.2.2.2.1 x hx).below hb6 (Nat.le_refl _); simp only [List.mem_cons, List.not_mem_nil, or_false] at hx; rcases hx with rfl | rfl; exact Ga1.out.below hb6 (Nat.le_refl _); exact Gb1.out.below hb6 (Nat.le_refl _)) (by rw [List.length_append, X1.out.1]; rfl))).mono ?_; rintro e w2 ⟨he, hw2⟩; obtain rfl := hw2.symm; clear hw2; obtain ⟨fb, rfl, hfb⟩ : ∃ q, e = .returned (.bool q) ∧ (q = true → len0 + 2 ≤ 202) := (by rcases he with h | ⟨h, _, h'⟩; exact ⟨false, h, fun h => by cases h⟩; exact ⟨true, h, fun _ => h'⟩); clear he))
  all_goals
    have hb : Below w1.heap.size w1 w6 := hb6
    clear hown5 hown6 hgrow5 hgrow6 hb5 hb6 BEL0 BEL1 BEL2 KEEP1
    clear ha1 ha2 ha3 hb1 hb2 hb3 na ma nb mb
    have B2 : Hid (Below w.heap.size w w6) := B1.out.trans (hb.mono B1.out.size)
    have Ga2 := Lib.hid (Ga1.out.below hb (Nat.le_refl _))
    have Aa2 := Lib.hid (Aa1.out.below hb (Nat.le_refl _))
    have Gb2 := Lib.hid (Gb1.out.below hb (Nat.le_refl _))
    have Ab2 := Lib.hid (Ab1.out.below hb (Nat.le_refl _))
    have X2 := Lib.hid (X1.out.below hb (Nat.le_refl _))
    clear hb B1 Ga1 Aa1 Gb1 Ab1 X1
    have ha1 : w6.cell? ⟨w.heap.size, 0, none⟩ = some (.slice la lna lca) := Aa2.out.1
    have ha2 : w6.cell? ⟨w.heap.size, 1, none⟩ = some (.slice ra rna rca) := Aa2.out.2.1
    have ha3 : w6.cell? ⟨w.heap.size, 2, none⟩ = some (.int .u64 Ca) := Aa2.out.2.2
    have na : w6.heap.size ≠ w.heap.size := by have := cell_lt ha1; omega
    have ma : w.heap.size < w6.heap.size := cell_lt ha1
    have hb1 : w6.cell? ⟨w.heap.size + 1, 0, none⟩ = some (.slice lb lnb lcb) := Ab2.out.1
    have hb2 : w6.cell? ⟨w.heap.size + 1, 1, none⟩ = some (.slice rb rnb rcb) := Ab2.out.2.1
    have hb3 : w6.cell? ⟨w.heap.size + 1, 2, none⟩ = some (.int .u64 Cb) := Ab2.out.2.2
    have nb : w6.heap.size ≠ w.heap.size + 1 := by have := cell_lt hb1; omega
    have mb : w.heap.size + 1 < w6.heap.size := cell_lt hb1
    cases fb
    · go_wp2
      go_ret
      exact ⟨rfl, B2.out⟩
    have KEEP2 : Hid (∀ W, Below w6.heap.size w6 W → W.cell? ⟨w.heap.size, 0, none⟩ = some (.slice la lna lca) ∧ W.cell? ⟨w.heap.size, 1, none⟩ = some (.slice ra rna rca) ∧ W.cell? ⟨w.heap.size, 2, none⟩ = some (.int .u64 Ca) ∧ W.cell? ⟨w.heap.size + 1, 0, none⟩ = some (.slice lb lnb lcb) ∧ W.cell? ⟨w.heap.size + 1, 1, none⟩ = some (.slice rb rnb rcb) ∧ W.cell? ⟨w.heap.size + 1, 2, none⟩ = some (.int .u64 Cb)) := fun W hb =>
      have h1 := Aa2.out.below hb (Nat.le_refl _)
      have h2 := Ab2.out.below hb (Nat.le_refl _)
      ⟨h1.1, h1.2.1, h1.2.2, h2.1, h2.2.1, h2.2.2⟩
    have hl200 : len0 ≤ 200 := by have := hfb rfl; omega
    have hd0 : Below w6.heap.size w6 w6.drew := below_drawn (Below.refl _ w6) ⟨1, rfl⟩
    clear hfb
    go_wp2
    go_region_held3 (fun W => W.cell? ⟨w.heap.size, 0, none⟩ = some (.slice la lna lca) ∧ W.cell? ⟨w.heap.size, 1, none⟩ = some (.slice ra rna rca) ∧ W.cell? ⟨w.heap.size, 2, none⟩ = some (.int .u64 Ca) ∧ W.cell? ⟨w.heap.size + 1, 0, none⟩ = some (.slice lb lnb lcb) ∧ W.cell? ⟨w.heap.size + 1, 1, none⟩ = some (.slice rb rnb rcb) ∧ W.cell? ⟨w.heap.size + 1, 2, none⟩ = some (.int .u64 Cb)) (first | exact KEEP2.out _ hd7 | exact KEEP2.out _ hd6 | exact KEEP2.out _ hd5 | exact KEEP2.out _ hd4 | exact KEEP2.out _ hd3 | exact KEEP2.out _ hd2 | exact KEEP2.out _ hd1 | exact KEEP2.out _ hd0) (first
      | (go_at_call 10; refine (check_is ⟨la, lna, lca, La, ra, rna, rca, Ra, Ca⟩ ck w6.drew (Ga2.out.below hd0 (Nat.le_refl _)) HCK.out).mono ?_; rintro e v1 ⟨rfl, hv⟩; have hd1 := hd0.trans (hv.mono hd0.size); clear hv)
      | (go_at_call 11; refine (rcheck_is ⟨la, lna, lca, La, ra, rna, rca, Ra, Ca⟩ ck v1 (Ga2.out.below hd1 (Nat.le_refl _)) HCK.out).mono ?_; rintro e v2 ⟨rfl, hv⟩; have hd2 := hd1.trans (hv.mono hd1.size); clear hv)
      | (go_at_call 12; refine (lessR_is ⟨la, lna, lca, La, ra, rna, rca, Ra, Ca⟩ ⟨lb, lnb, lcb, Lb, rb, rnb, rcb, Rb, Cb⟩ ls v2 (Ga2.out.below hd2 (Nat.le_refl _)) (Gb2.out.below hd2 (Nat.le_refl _)) HLS.out).mono ?_; rintro e v3 ⟨rfl, hv⟩; have hd3 := hd2.trans (hv.mono hd2.size); clear hv)
      | (go_at_call 13; refine (rlessR_is ⟨la, lna, lca, La, ra, rna, rca, Ra, Ca⟩ ⟨lb, lnb, lcb, Lb, rb, rnb, rcb, Rb, Cb⟩ ls v3 (Ga2.out.below hd3 (Nat.le_refl _)) (Gb2.out.below hd3 (Nat.le_refl _)) HLS.out).mono ?_; rintro e v4 ⟨rfl, hv⟩; have hd4 := hd3.trans (hv.mono hd3.size); clear hv)
      | (go_at_call 15; refine (norm_any a0 len0 cap0 x0 v4 (X2.out.below hd4 (Nat.le_refl _)) (by omega)).mono ?_; rintro e v5 ⟨a7, n7, c7, o7, rfl, hrs7, hr7, _, _, hv⟩; have hd5 := hd4.trans (hv.mono hd4.size); clear hv)
      | (go_at_call 16; refine (rnorm_any a0 len0 cap0 x0 v5 (X2.out.below hd5 (Nat.le_refl _)) (by omega)).mono ?_; rintro e v6 ⟨a8, n8, c8, o8, rfl, hrs8, hr8, _, _, hv⟩; have hd6 := hd5.trans (hv.mono hd5.size); have hrs7' := hrs7.below hv (Nat.le_refl _); clear hv)
      | (go_at_call 14; refine (rsames_is a7 a8 n7 n8 c7 c8 o7 o8 true v6 hrs7' hrs8 (by rw [hr7, hr8]; simp)).mono ?_; rintro e v7 ⟨rfl, hq⟩; have hd7 := below_drawn hd6 hq; clear hq))
    all_goals
      have B3 := B2.out.trans (hd7.mono B2.out.size)
      go_wp2
      go_ret
      exact ⟨rfl, B3⟩

set_option maxRecDepth 100000 in
theorem lifted (os : Os) (started : os.Started) (H : Type) (enc : TypeId × Value → H) :
    ReturnsInHanded {} Try.checked os 3 .any (Rows.ruleTellsSpec.pre6 enc Try.prog Try.f3 Rows.ruleTellsRow.domain false) (Rows.ruleTellsSpec.post enc Try.prog Try.f3 false true false false) := by
  refine returnsInHanded_of_change_sized (C := Try.checked) own started (by kernel_rfl) Try.func3
    (ChangeSpec.witness6 (enc := enc) (C := Try.checked) false ⟨#[], #[.slice none 0 0, .agg #[.slice none 0 0, .slice none 0 0, .int .u64 0], .agg #[.slice none 0 0, .slice none 0 0, .int .u64 0]], []⟩ 8 (by kernel_rfl) (by kernel_rfl) (by kernel_rfl) (by kernel_rfl)) ?_
  intro W base args ds gs before hval0 hW hcnd hsz0 _
  have hsz : (DataW.weightsEach Try.prog (Try.f3.params.toList ++ Rows.ruleTellsSpec.plain.varTypes Try.prog) (ds ++ gs)).all (· ≤ reachBytes) = true := hsz0
  clear hsz0
  have hval : ∀ (j : Nat) t v, Try.f3.params[j]? = some t → args[j]? = some v → Value.okWide Try.prog W .any base t v := hval0
  have hW' := hW
  obtain ⟨p, q, hA0, hV, rfl, hfz, hnd⟩ := hW
  have hA : DataW.TrodAll enc Try.prog W 0 (fun _ => true) true Try.f3.params.toList args.toList ds p := hA0
  rw [Try.params3] at hA hval hsz
  obtain ⟨v0, vs0, d0, ds0, p0, q0, hargs, rfl, rfl, h0, r0⟩ := trodAll_cons hA
  obtain ⟨v1, vs1, d1, ds1, p1, q1, rfl, rfl, rfl, h1, r1⟩ := trodAll_cons r0
  obtain ⟨v2, vs2, d2, ds2, p2, q2, rfl, rfl, rfl, h2, r2⟩ := trodAll_cons r1
  obtain ⟨rfl, rfl, rfl⟩ := trodAll_nil r2
  obtain rfl : args = #[v0, v1, v2] := by cases args; simp_all
  obtain ⟨rfl, rfl⟩ := trodVars_none hV
  obtain ⟨a0, len0, cap0, rfl⟩ := okWide_slice Try.underlying22 (hval 0 22 v0 rfl rfl)
  have k0 := h0
  have lt0 : ∀ x ∈ p0, x.block < W.heap.size := by obtain ⟨m, hm⟩ := k0; exact DataW.trod_lt m _ _ _ hm
  obtain ⟨x0, w0, n0, hr0⟩ : ∃ xs, Rs W a0 len0 cap0 xs ∧ (a0 = none → cap0 = 0) ∧ len0 * 56 ≤ 140737488351232 := by
    obtain ⟨fuel, hf⟩ := h0
    obtain ⟨a, l, c, xs, hcs, hrs, hnil, hsz1⟩ := Rs.open hf
    simp only [Value.slice.injEq] at hcs
    obtain ⟨rfl, rfl, rfl⟩ := hcs
    refine ⟨xs, hrs, hnil, ?_⟩
    rcases hsz1 with h0 | ⟨elems, spare, hd, hel⟩
    · omega
    · have hd' : d0 = .slice elems spare := hd
      subst hd'
      have hb56 : Try.prog.bytesOf 26 = 56 := by kernel_rfl
      have := sized_slice hsz (j := 0) (t := 22) (e := 26) rfl rfl Try.underlying22
      rw [hb56] at this
      simp only [reachBytes] at this
      omega
  have k1 := h1
  have lt1 : ∀ x ∈ p1, x.block < W.heap.size := by obtain ⟨m, hm⟩ := k1; exact DataW.trod_lt m _ _ _ hm
  obtain ⟨x1, rfl, w1⟩ := Rw.open (hval 1 26 v1 rfl rfl) h1
  have k2 := h2
  have lt2 : ∀ x ∈ p2, x.block < W.heap.size := by obtain ⟨m, hm⟩ := k2; exact DataW.trod_lt m _ _ _ hm
  obtain ⟨x2, rfl, w2⟩ := Rw.open (hval 2 26 v2 rfl rfl) h2
  clear hA0 hval0
  refine (walk a0 len0 cap0 x0 x1 x2 W w0 n0 hr0 w1 w2).mono fun e W' ⟨he, bel⟩ => ?_
  subst he
  exact ⟨_, rfl, _, _, _, [], _, [], hW', trodAll_mk1 (shut_bool Try.underlying4 _), (trodAll_cons_mk (Below.trod laidOut (by kernel_rfl) (of_decide_eq_true (by kernel_rfl)) k0 bel lt0) (trodAll_cons_mk (Below.trod laidOut (by kernel_rfl) (of_decide_eq_true (by kernel_rfl)) k1 bel lt1) (trodAll_cons_mk (Below.trod laidOut (by kernel_rfl) (of_decide_eq_true (by kernel_rfl)) k2 bel lt2) trodAll_mk0))), rfl, bel.frame _, fun h => by cases h⟩

theorem over : Rows.ruleTellsRow.holds Try.pinned (OpenSpec.ofChange Rows.ruleTellsSpec) :=
  OpenClaim.holds_of_wide 3 Try.f3 rfl rfl rfl rfl rfl rfl rfl ⟨rfl, rfl, rfl, rfl, rfl⟩ rfl rfl rfl rfl rfl (by kernel_rfl) Try.func3 (by kernel_rfl)
    (of_decide_eq_true (by kernel_rfl)) (by unfold Func.isWrapper; first | (rw [if_pos (by decide +kernel)]; kernel_rfl) | (rw [if_neg (by decide +kernel)]; exact ⟨rfl, rfl⟩))
    (fun os started H enc _ => lifted os started H enc)

/-- the statement -/
theorem proved : Rows.RuleTellsSaid := over
#print axioms proved
end Go.Proofs.Ytcpilhgofdnigaa.ruleTells
