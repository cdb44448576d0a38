/- For every three rules, RuleThree answers true, and turns nothing that was there. No condition. -/
import Derived.Test.YtcpilhgofdnigaaRows
import Derived.Test.YtcpilhgofdnigaaRuleOpen
import Derived.Test.YtcpilhgofdnigaaRuleAwake
import Derived.Deep.RegionHeld3
import Derived.WalkKit
import Derived.ProofKit
import Derived.OpenShut
import Derived.ShutString
import Derived.ChangeOld
import Derived.Below
import Derived.Deep.Matrix
import Derived.SizedLaws
namespace Go.Proofs.Ytcpilhgofdnigaa.ruleThree
open Go.ChangeShapes Go.WideShapes Go.ChangeAt Go.RowKit
set_option linter.unusedVariables false

theorem own : ownKnob Try.prog.godebug = none := by kernel_rfl
theorem laidOut : laidOutB Try.prog = true := by kernel_rfl

/-- a slice of integers that came in -/
def IsRow (k : IntKind) (w : World) (a : Option Addr) (len cap : Nat) (zs : List Int) : Prop :=
  (a = none ∧ len = 0 ∧ cap = 0 ∧ zs = []) ∨
  ∃ x, a = some x ∧ len ≤ cap ∧ cap ≤ maxLen ∧ zs.length = cap ∧ (∀ i, i < zs.length → w.cell? (x.add i) = some (.int k (zs.getD i 0))) ∧ ∀ n ∈ zs, (Lit.int k n).wf = true

/-! ### STEP 1: the walk -/
set_option maxHeartbeats 6400000 in
set_option maxRecDepth 100000 in
theorem walk (x0 : Rw) (x1 : Rw) (x2 : Rw) (w : World) (w0 : x0.Good w) (w1 : x1.Good w) (w2 : x2.Good w) :
    Calls Try.prog 6 #[x0.v, x1.v, x2.v] w fun e w' => e = .returned (.bool true) ∧ Below w.heap.size w w' := by
  obtain ⟨la, lna, lca, La, ra, rna, rca, Ra, Ca⟩ := x0
  obtain ⟨lb, lnb, lcb, Lb, rb, rnb, rcb, Rb, Cb⟩ := x1
  obtain ⟨lc, lnc, lcc, Lc, rc, rnc, rcc, Rc, Cc⟩ := x2
  have HGa := Lib.hid w0
  have HGb := Lib.hid w1
  have HGc := Lib.hid w2
  clear w0 w1 w2
  simp only [Rw.v, Rw.l, Rw.rt, Rw.c]
  obtain ⟨sm, hsm⟩ : ∃ q, decide ((⟨La, Ra, Ca⟩ : Rul) = ⟨Lb, Rb, Cb⟩) = q := ⟨_, rfl⟩
  obtain ⟨ab, hab⟩ : ∃ q, lessR ⟨La, Ra, Ca⟩ ⟨Lb, Rb, Cb⟩ = q := ⟨_, rfl⟩
  obtain ⟨ba, hba⟩ : ∃ q, lessR ⟨Lb, Rb, Cb⟩ ⟨La, Ra, Ca⟩ = q := ⟨_, rfl⟩
  obtain ⟨bc, hbc⟩ : ∃ q, lessR ⟨Lb, Rb, Cb⟩ ⟨Lc, Rc, Cc⟩ = q := ⟨_, rfl⟩
  obtain ⟨ac, hac⟩ : ∃ q, lessR ⟨La, Ra, Ca⟩ ⟨Lc, Rc, Cc⟩ = q := ⟨_, rfl⟩
  have hway : (sm = false ∧ ab = true ∧ ba = false ∧ bc = true ∧ ac = true) ∨ (sm = false ∧ ab = true ∧ ba = false ∧ bc = false) ∨ (sm = false ∧ ab = false ∧ ba = true) ∨ (sm = true ∧ ab = false ∧ ba = false) := by
    have h1 := lessR_one ⟨La, Ra, Ca⟩ ⟨Lb, Rb, Cb⟩
    rw [hab, hba, hsm] at h1
    have h2 : ab = true → bc = true → ac = true := fun h h' => by rw [← hac]; exact lessR_trans (hab.trans h) (hbc.trans h')
    have h3 : sm = true → ab = false := fun h => by
      have e := of_decide_eq_true (hsm.trans h)
      rw [← hab, e]; exact lessR_irrefl _
    have key : ∀ sm ab ba bc ac : Bool, (ab != ba) = !sm → (sm = true → ab = false) → (ab = true → bc = true → ac = true) → ((sm = false ∧ ab = true ∧ ba = false ∧ bc = true ∧ ac = true) ∨ (sm = false ∧ ab = true ∧ ba = false ∧ bc = false) ∨ (sm = false ∧ ab = false ∧ ba = true) ∨ (sm = true ∧ ab = false ∧ ba = false)) := by
      intro sm ab ba bc ac; cases sm <;> cases ab <;> cases ba <;> cases bc <;> cases ac <;> simp
    exact key sm ab ba bc ac h1 h3 h2
  have HSM := Lib.hid hsm
  have HAB := Lib.hid hab
  have HBA := Lib.hid hba
  have HBC := Lib.hid hbc
  have HAC := Lib.hid hac
  have haa : lessR ⟨La, Ra, Ca⟩ ⟨La, Ra, Ca⟩ = false := lessR_irrefl _
  have HAA := Lib.hid haa
  clear hsm hab hba hbc hac haa
  obtain ⟨W, hW⟩ : ∃ W, W = ((w.alloc (.cells #[.slice la lna lca, .slice ra rna rca, .int .u64 Ca] 26)).alloc (.cells #[.slice lb lnb lcb, .slice rb rnb rcb, .int .u64 Cb] 26)).alloc (.cells #[.slice lc lnc lcc, .slice rc rnc rcc, .int .u64 Cc] 26) := ⟨_, rfl⟩
  have hlay : RwAt W (w.heap.size) 0 ⟨la, lna, lca, La, ra, rna, rca, Ra, Ca⟩ ∧ RwAt W (w.heap.size + 1) 0 ⟨lb, lnb, lcb, Lb, rb, rnb, rcb, Rb, Cb⟩ ∧ RwAt W (w.heap.size + 1 + 1) 0 ⟨lc, lnc, lcc, Lc, rc, rnc, rcc, Rc, Cc⟩ ∧ Below w.heap.size w W := by
    rw [hW]
    refine ⟨((RwAt.new w ⟨la, lna, lca, La, ra, rna, rca, Ra, Ca⟩ _).alloc _).alloc _, ?_, ?_, (((Below.refl _ w).alloc (Nat.le_refl _) _).alloc (by simp) _).alloc (by simp; omega) _⟩
    · have h := (RwAt.new (w.alloc (.cells #[.slice la lna lca, .slice ra rna rca, .int .u64 Ca] 26)) ⟨lb, lnb, lcb, Lb, rb, rnb, rcb, Rb, Cb⟩ 26).alloc (.cells #[.slice lc lnc lcc, .slice rc rnc rcc, .int .u64 Cc] 26)
      rw [World.size_alloc] at h; exact h
    · have h := RwAt.new ((w.alloc (.cells #[.slice la lna lca, .slice ra rna rca, .int .u64 Ca] 26)).alloc (.cells #[.slice lb lnb lcb, .slice rb rnb rcb, .int .u64 Cb] 26)) ⟨lc, lnc, lcc, Lc, rc, rnc, rcc, Rc, Cc⟩ 26
      rw [World.size_alloc, World.size_alloc] at h; exact h
  obtain ⟨Aa, Ab, Ac, BW⟩ := hlay
  have HW := Lib.hid hW
  clear hW
  have B0 : Hid (Below w.heap.size w W) := BW
  have Ga0 : Hid ((⟨la, lna, lca, La, ra, rna, rca, Ra, Ca⟩ : Rw).Good W) := HGa.out.below BW (Nat.le_refl _)
  have Aa0 : Hid (RwAt W (w.heap.size) 0 ⟨la, lna, lca, La, ra, rna, rca, Ra, Ca⟩) := Aa
  have Gb0 : Hid ((⟨lb, lnb, lcb, Lb, rb, rnb, rcb, Rb, Cb⟩ : Rw).Good W) := HGb.out.below BW (Nat.le_refl _)
  have Ab0 : Hid (RwAt W (w.heap.size + 1) 0 ⟨lb, lnb, lcb, Lb, rb, rnb, rcb, Rb, Cb⟩) := Ab
  have Gc0 : Hid ((⟨lc, lnc, lcc, Lc, rc, rnc, rcc, Rc, Cc⟩ : Rw).Good W) := HGc.out.below BW (Nat.le_refl _)
  have Ac0 : Hid (RwAt W (w.heap.size + 1 + 1) 0 ⟨lc, lnc, lcc, Lc, rc, rnc, rcc, Rc, Cc⟩) := Ac
  have ha1 : W.cell? ⟨w.heap.size, 0, none⟩ = some (.slice la lna lca) := Aa0.out.1
  have ha2 : W.cell? ⟨w.heap.size, 1, none⟩ = some (.slice ra rna rca) := Aa0.out.2.1
  have ha3 : W.cell? ⟨w.heap.size, 2, none⟩ = some (.int .u64 Ca) := Aa0.out.2.2
  have na : W.heap.size ≠ w.heap.size := by have := cell_lt ha1; omega
  have ma : w.heap.size < W.heap.size := cell_lt ha1
  have hb1 : W.cell? ⟨w.heap.size + 1, 0, none⟩ = some (.slice lb lnb lcb) := Ab0.out.1
  have hb2 : W.cell? ⟨w.heap.size + 1, 1, none⟩ = some (.slice rb rnb rcb) := Ab0.out.2.1
  have hb3 : W.cell? ⟨w.heap.size + 1, 2, none⟩ = some (.int .u64 Cb) := Ab0.out.2.2
  have nb : W.heap.size ≠ w.heap.size + 1 := by have := cell_lt hb1; omega
  have mb : w.heap.size + 1 < W.heap.size := cell_lt hb1
  have hc1 : W.cell? ⟨w.heap.size + 1 + 1, 0, none⟩ = some (.slice lc lnc lcc) := Ac0.out.1
  have hc2 : W.cell? ⟨w.heap.size + 1 + 1, 1, none⟩ = some (.slice rc rnc rcc) := Ac0.out.2.1
  have hc3 : W.cell? ⟨w.heap.size + 1 + 1, 2, none⟩ = some (.int .u64 Cc) := Ac0.out.2.2
  have nc : W.heap.size ≠ w.heap.size + 1 + 1 := by have := cell_lt hc1; omega
  have mc : w.heap.size + 1 + 1 < W.heap.size := cell_lt hc1
  clear ha1 ha2 ha3 hb1 hb2 hb3 hc1 hc2 hc3 na ma nb mb nc mc
  clear Aa Ab Ac BW HGa HGb HGc
  go_enter Try.func6, Try.ntmps6
  go_wp2_with fail
  rw [← HW.out]
  clear HW
  refine (awake_any _).mono ?_
  rintro e w1 ⟨rfl, hb⟩
  have B1 : Hid (Below w.heap.size w w1) := B0.out.trans (hb.mono B0.out.size)
  have Ga1 := Lib.hid (Ga0.out.below hb (Nat.le_refl _))
  have Aa1 := Lib.hid (Aa0.out.below hb (Nat.le_refl _))
  have Gb1 := Lib.hid (Gb0.out.below hb (Nat.le_refl _))
  have Ab1 := Lib.hid (Ab0.out.below hb (Nat.le_refl _))
  have Gc1 := Lib.hid (Gc0.out.below hb (Nat.le_refl _))
  have Ac1 := Lib.hid (Ac0.out.below hb (Nat.le_refl _))
  clear hb B0 Ga0 Aa0 Gb0 Ab0 Gc0 Ac0
  have ha1 : w1.cell? ⟨w.heap.size, 0, none⟩ = some (.slice la lna lca) := Aa1.out.1
  have ha2 : w1.cell? ⟨w.heap.size, 1, none⟩ = some (.slice ra rna rca) := Aa1.out.2.1
  have ha3 : w1.cell? ⟨w.heap.size, 2, none⟩ = some (.int .u64 Ca) := Aa1.out.2.2
  have na : w1.heap.size ≠ w.heap.size := by have := cell_lt ha1; omega
  have ma : w.heap.size < w1.heap.size := cell_lt ha1
  have hb1 : w1.cell? ⟨w.heap.size + 1, 0, none⟩ = some (.slice lb lnb lcb) := Ab1.out.1
  have hb2 : w1.cell? ⟨w.heap.size + 1, 1, none⟩ = some (.slice rb rnb rcb) := Ab1.out.2.1
  have hb3 : w1.cell? ⟨w.heap.size + 1, 2, none⟩ = some (.int .u64 Cb) := Ab1.out.2.2
  have nb : w1.heap.size ≠ w.heap.size + 1 := by have := cell_lt hb1; omega
  have mb : w.heap.size + 1 < w1.heap.size := cell_lt hb1
  have hc1 : w1.cell? ⟨w.heap.size + 1 + 1, 0, none⟩ = some (.slice lc lnc lcc) := Ac1.out.1
  have hc2 : w1.cell? ⟨w.heap.size + 1 + 1, 1, none⟩ = some (.slice rc rnc rcc) := Ac1.out.2.1
  have hc3 : w1.cell? ⟨w.heap.size + 1 + 1, 2, none⟩ = some (.int .u64 Cc) := Ac1.out.2.2
  have nc : w1.heap.size ≠ w.heap.size + 1 + 1 := by have := cell_lt hc1; omega
  have mc : w.heap.size + 1 + 1 < w1.heap.size := cell_lt hc1
  go_wp2_with fail
  have hR3 : Rs (w1.alloc (.cells #[.slice la lna lca, .slice ra rna rca, .int .u64 Ca, .slice lb lnb lcb, .slice rb rnb rcb, .int .u64 Cb, .slice lc lnc lcc, .slice rc rnc rcc, .int .u64 Cc] 26)) (some ⟨w1.heap.size, 0, none⟩) 3 3 [⟨la, lna, lca, La, ra, rna, rca, Ra, Ca⟩, ⟨lb, lnb, lcb, Lb, rb, rnb, rcb, Rb, Cb⟩, ⟨lc, lnc, lcc, Lc, rc, rnc, rcc, Rc, Cc⟩] :=
    Rs.newc [⟨la, lna, lca, La, ra, rna, rca, Ra, Ca⟩, ⟨lb, lnb, lcb, Lb, rb, rnb, rcb, Rb, Cb⟩, ⟨lc, lnc, lcc, Lc, rc, rnc, rcc, Rc, Cc⟩] (by intro x hx; simp only [List.mem_cons, List.not_mem_nil, or_false] at hx; rcases hx with rfl | rfl | rfl; exact Ga1.out; exact Gb1.out; exact Gc1.out) (by show 3 ≤ maxLen; unfold maxLen; omega) rfl rfl rfl
  refine (rfew_any _ 3 3 [⟨la, lna, lca, La, ra, rna, rca, Ra, Ca⟩, ⟨lb, lnb, lcb, Lb, rb, rnb, rcb, Rb, Cb⟩, ⟨lc, lnc, lcc, Lc, rc, rnc, rcc, Rc, Cc⟩] 3 (by omega) _ hR3).mono ?_
  clear hR3
  rintro e w2 ⟨he | ⟨he, _, _⟩, hw2⟩
  · subst he
    have hb : Below w1.heap.size w1 w2 := by rw [hw2]; exact (Below.refl _ w1).alloc (Nat.le_refl _) _
    have B2 := B1.out.trans (hb.mono B1.out.size)
    clear hw2 hb
    go_wp2
    go_ret
    exact ⟨rfl, B2⟩
  subst he
  have hb : Below w1.heap.size w1 w2 := by rw [hw2]; exact (Below.refl _ w1).alloc (Nat.le_refl _) _
  clear hw2
  clear ha1 ha2 ha3 hb1 hb2 hb3 hc1 hc2 hc3 na ma nb mb nc mc
  have B2 : Hid (Below w.heap.size w w2) := B1.out.trans (hb.mono B1.out.size)
  have Ga2 := Lib.hid (Ga1.out.below hb (Nat.le_refl _))
  have Aa2 := Lib.hid (Aa1.out.below hb (Nat.le_refl _))
  have Gb2 := Lib.hid (Gb1.out.below hb (Nat.le_refl _))
  have Ab2 := Lib.hid (Ab1.out.below hb (Nat.le_refl _))
  have Gc2 := Lib.hid (Gc1.out.below hb (Nat.le_refl _))
  have Ac2 := Lib.hid (Ac1.out.below hb (Nat.le_refl _))
  clear hb B1 Ga1 Aa1 Gb1 Ab1 Gc1 Ac1
  have ha1 : w2.cell? ⟨w.heap.size, 0, none⟩ = some (.slice la lna lca) := Aa2.out.1
  have ha2 : w2.cell? ⟨w.heap.size, 1, none⟩ = some (.slice ra rna rca) := Aa2.out.2.1
  have ha3 : w2.cell? ⟨w.heap.size, 2, none⟩ = some (.int .u64 Ca) := Aa2.out.2.2
  have na : w2.heap.size ≠ w.heap.size := by have := cell_lt ha1; omega
  have ma : w.heap.size < w2.heap.size := cell_lt ha1
  have hb1 : w2.cell? ⟨w.heap.size + 1, 0, none⟩ = some (.slice lb lnb lcb) := Ab2.out.1
  have hb2 : w2.cell? ⟨w.heap.size + 1, 1, none⟩ = some (.slice rb rnb rcb) := Ab2.out.2.1
  have hb3 : w2.cell? ⟨w.heap.size + 1, 2, none⟩ = some (.int .u64 Cb) := Ab2.out.2.2
  have nb : w2.heap.size ≠ w.heap.size + 1 := by have := cell_lt hb1; omega
  have mb : w.heap.size + 1 < w2.heap.size := cell_lt hb1
  have hc1 : w2.cell? ⟨w.heap.size + 1 + 1, 0, none⟩ = some (.slice lc lnc lcc) := Ac2.out.1
  have hc2 : w2.cell? ⟨w.heap.size + 1 + 1, 1, none⟩ = some (.slice rc rnc rcc) := Ac2.out.2.1
  have hc3 : w2.cell? ⟨w.heap.size + 1 + 1, 2, none⟩ = some (.int .u64 Cc) := Ac2.out.2.2
  have nc : w2.heap.size ≠ w.heap.size + 1 + 1 := by have := cell_lt hc1; omega
  have mc : w.heap.size + 1 + 1 < w2.heap.size := cell_lt hc1
  go_wp2_with fail
  have hS : Hid (Rs ((w2.alloc (.cells #[.slice la lna lca, .slice ra rna rca, .int .u64 Ca] 26)).alloc (.cells #[.slice lb lnb lcb, .slice rb rnb rcb, .int .u64 Cb] 26)) (some ⟨w2.heap.size, 0, none⟩) 1 1 [⟨la, lna, lca, La, ra, rna, rca, Ra, Ca⟩]) :=
    (Rs.newc [⟨la, lna, lca, La, ra, rna, rca, Ra, Ca⟩] (by intro x hx; rw [List.mem_singleton.1 hx]; exact Ga2.out) (by show 1 ≤ maxLen; unfold maxLen; omega) rfl rfl rfl).alloc _
  have hT : Hid (Rs ((w2.alloc (.cells #[.slice la lna lca, .slice ra rna rca, .int .u64 Ca] 26)).alloc (.cells #[.slice lb lnb lcb, .slice rb rnb rcb, .int .u64 Cb] 26)) (some ⟨w2.heap.size + 1, 0, none⟩) 1 1 [⟨lb, lnb, lcb, Lb, rb, rnb, rcb, Rb, Cb⟩]) :=
    Rs.newc [⟨lb, lnb, lcb, Lb, rb, rnb, rcb, Rb, Cb⟩] (by intro x hx; rw [List.mem_singleton.1 hx]; exact Gb2.out.alloc _) (by show 1 ≤ maxLen; unfold maxLen; omega) (by simp) rfl rfl
  refine (rsames_is _ _ 1 1 1 1 [⟨la, lna, lca, La, ra, rna, rca, Ra, Ca⟩] [⟨lb, lnb, lcb, Lb, rb, rnb, rcb, Rb, Cb⟩] sm _ hS.out hT.out (by rw [← HSM.out, decide_eq_decide]; simp [ruls, Rw.r])).mono ?_
  rintro e w3 ⟨rfl, hq⟩
  have hb : Below w2.heap.size w2 w3 := below_drawn (((Below.refl _ w2).alloc (Nat.le_refl _) _).alloc (by simp) _) hq
  clear hq hS hT
  clear ha1 ha2 ha3 hb1 hb2 hb3 hc1 hc2 hc3 na ma nb mb nc mc
  have B3 : Hid (Below w.heap.size w w3) := B2.out.trans (hb.mono B2.out.size)
  have Ga3 := Lib.hid (Ga2.out.below hb (Nat.le_refl _))
  have Aa3 := Lib.hid (Aa2.out.below hb (Nat.le_refl _))
  have Gb3 := Lib.hid (Gb2.out.below hb (Nat.le_refl _))
  have Ab3 := Lib.hid (Ab2.out.below hb (Nat.le_refl _))
  have Gc3 := Lib.hid (Gc2.out.below hb (Nat.le_refl _))
  have Ac3 := Lib.hid (Ac2.out.below hb (Nat.le_refl _))
  clear hb B2 Ga2 Aa2 Gb2 Ab2 Gc2 Ac2
  have ha1 : w3.cell? ⟨w.heap.size, 0, none⟩ = some (.slice la lna lca) := Aa3.out.1
  have ha2 : w3.cell? ⟨w.heap.size, 1, none⟩ = some (.slice ra rna rca) := Aa3.out.2.1
  have ha3 : w3.cell? ⟨w.heap.size, 2, none⟩ = some (.int .u64 Ca) := Aa3.out.2.2
  have na : w3.heap.size ≠ w.heap.size := by have := cell_lt ha1; omega
  have ma : w.heap.size < w3.heap.size := cell_lt ha1
  have hb1 : w3.cell? ⟨w.heap.size + 1, 0, none⟩ = some (.slice lb lnb lcb) := Ab3.out.1
  have hb2 : w3.cell? ⟨w.heap.size + 1, 1, none⟩ = some (.slice rb rnb rcb) := Ab3.out.2.1
  have hb3 : w3.cell? ⟨w.heap.size + 1, 2, none⟩ = some (.int .u64 Cb) := Ab3.out.2.2
  have nb : w3.heap.size ≠ w.heap.size + 1 := by have := cell_lt hb1; omega
  have mb : w.heap.size + 1 < w3.heap.size := cell_lt hb1
  have hc1 : w3.cell? ⟨w.heap.size + 1 + 1, 0, none⟩ = some (.slice lc lnc lcc) := Ac3.out.1
  have hc2 : w3.cell? ⟨w.heap.size + 1 + 1, 1, none⟩ = some (.slice rc rnc rcc) := Ac3.out.2.1
  have hc3 : w3.cell? ⟨w.heap.size + 1 + 1, 2, none⟩ = some (.int .u64 Cc) := Ac3.out.2.2
  have nc : w3.heap.size ≠ w.heap.size + 1 + 1 := by have := cell_lt hc1; omega
  have mc : w.heap.size + 1 + 1 < w3.heap.size := cell_lt hc1
  go_wp2_with fail
  rcases hway with ⟨rfl, rfl, rfl, rfl, rfl⟩ | ⟨rfl, rfl, rfl, rfl⟩ | ⟨rfl, rfl, rfl⟩ | ⟨rfl, rfl, rfl⟩
  · go_region_held3 (fun W => W.cell? ⟨w.heap.size, 0, none⟩ = some (.slice la lna lca) ∧ W.cell? ⟨w.heap.size, 1, none⟩ = some (.slice ra rna rca) ∧ W.cell? ⟨w.heap.size, 2, none⟩ = some (.int .u64 Ca) ∧ W.cell? ⟨w.heap.size + 1, 0, none⟩ = some (.slice lb lnb lcb) ∧ W.cell? ⟨w.heap.size + 1, 1, none⟩ = some (.slice rb rnb rcb) ∧ W.cell? ⟨w.heap.size + 1, 2, none⟩ = some (.int .u64 Cb)) (first | exact ⟨ha1, ha2, ha3, hb1, hb2, hb3⟩ | exact ⟨(Aa3.out.below hb5 (Nat.le_refl _)).1, (Aa3.out.below hb5 (Nat.le_refl _)).2.1, (Aa3.out.below hb5 (Nat.le_refl _)).2.2, (Ab3.out.below hb5 (Nat.le_refl _)).1, (Ab3.out.below hb5 (Nat.le_refl _)).2.1, (Ab3.out.below hb5 (Nat.le_refl _)).2.2⟩ | exact ⟨((Aa3.out.below hb5 (Nat.le_refl _)).below hb6 (Nat.le_refl _)).1, ((Aa3.out.below hb5 (Nat.le_refl _)).below hb6 (Nat.le_refl _)).2.1, ((Aa3.out.below hb5 (Nat.le_refl _)).below hb6 (Nat.le_refl _)).2.2, ((Ab3.out.below hb5 (Nat.le_refl _)).below hb6 (Nat.le_refl _)).1, ((Ab3.out.below hb5 (Nat.le_refl _)).below hb6 (Nat.le_refl _)).2.1, ((Ab3.out.below hb5 (Nat.le_refl _)).below hb6 (Nat.le_refl _)).2.2⟩) (first
      | (have _t := hb5; go_at_call 12; refine (lessR_is ⟨lb, lnb, lcb, Lb, rb, rnb, rcb, Rb, Cb⟩ ⟨la, lna, lca, La, ra, rna, rca, Ra, Ca⟩ false _ (Gb3.out.below hb5 (Nat.le_refl _)) (Ga3.out.below hb5 (Nat.le_refl _)) HBA.out).mono ?_; rintro e w6 ⟨rfl, hb6⟩)
      | (go_at_call 12; refine (lessR_is ⟨la, lna, lca, La, ra, rna, rca, Ra, Ca⟩ ⟨lb, lnb, lcb, Lb, rb, rnb, rcb, Rb, Cb⟩ true w3.drew (Ga3.out.drawn ⟨1, rfl⟩) (Gb3.out.drawn ⟨1, rfl⟩) HAB.out).mono ?_; rintro e w5 ⟨rfl, hb5'⟩; have hb5 : Below w3.heap.size w3 w5 := (below_drawn (Below.refl _ w3) ⟨1, rfl⟩).trans hb5'; clear hb5'))
    have hb : Below w3.heap.size w3 w6 := hb5.trans (hb6.mono hb5.size)
    clear hb5 hb6
    clear ha1 ha2 ha3 hb1 hb2 hb3 hc1 hc2 hc3 na ma nb mb nc mc
    have B4 : Hid (Below w.heap.size w w6) := B3.out.trans (hb.mono B3.out.size)
    have Ga4 := Lib.hid (Ga3.out.below hb (Nat.le_refl _))
    have Aa4 := Lib.hid (Aa3.out.below hb (Nat.le_refl _))
    have Gb4 := Lib.hid (Gb3.out.below hb (Nat.le_refl _))
    have Ab4 := Lib.hid (Ab3.out.below hb (Nat.le_refl _))
    have Gc4 := Lib.hid (Gc3.out.below hb (Nat.le_refl _))
    have Ac4 := Lib.hid (Ac3.out.below hb (Nat.le_refl _))
    clear hb B3 Ga3 Aa3 Gb3 Ab3 Gc3 Ac3
    have ha1 : w6.cell? ⟨w.heap.size, 0, none⟩ = some (.slice la lna lca) := Aa4.out.1
    have ha2 : w6.cell? ⟨w.heap.size, 1, none⟩ = some (.slice ra rna rca) := Aa4.out.2.1
    have ha3 : w6.cell? ⟨w.heap.size, 2, none⟩ = some (.int .u64 Ca) := Aa4.out.2.2
    have na : w6.heap.size ≠ w.heap.size := by have := cell_lt ha1; omega
    have ma : w.heap.size < w6.heap.size := cell_lt ha1
    have hb1 : w6.cell? ⟨w.heap.size + 1, 0, none⟩ = some (.slice lb lnb lcb) := Ab4.out.1
    have hb2 : w6.cell? ⟨w.heap.size + 1, 1, none⟩ = some (.slice rb rnb rcb) := Ab4.out.2.1
    have hb3 : w6.cell? ⟨w.heap.size + 1, 2, none⟩ = some (.int .u64 Cb) := Ab4.out.2.2
    have nb : w6.heap.size ≠ w.heap.size + 1 := by have := cell_lt hb1; omega
    have mb : w.heap.size + 1 < w6.heap.size := cell_lt hb1
    have hc1 : w6.cell? ⟨w.heap.size + 1 + 1, 0, none⟩ = some (.slice lc lnc lcc) := Ac4.out.1
    have hc2 : w6.cell? ⟨w.heap.size + 1 + 1, 1, none⟩ = some (.slice rc rnc rcc) := Ac4.out.2.1
    have hc3 : w6.cell? ⟨w.heap.size + 1 + 1, 2, none⟩ = some (.int .u64 Cc) := Ac4.out.2.2
    have nc : w6.heap.size ≠ w.heap.size + 1 + 1 := by have := cell_lt hc1; omega
    have mc : w.heap.size + 1 + 1 < w6.heap.size := cell_lt hc1
    go_wp2_with fail
    refine (lessR_is ⟨la, lna, lca, La, ra, rna, rca, Ra, Ca⟩ ⟨lb, lnb, lcb, Lb, rb, rnb, rcb, Rb, Cb⟩ true _ Ga4.out Gb4.out HAB.out).mono ?_
    rintro e w7 ⟨rfl, hb⟩
    clear ha1 ha2 ha3 hb1 hb2 hb3 hc1 hc2 hc3 na ma nb mb nc mc
    have B5 : Hid (Below w.heap.size w w7) := B4.out.trans (hb.mono B4.out.size)
    have Ga5 := Lib.hid (Ga4.out.below hb (Nat.le_refl _))
    have Aa5 := Lib.hid (Aa4.out.below hb (Nat.le_refl _))
    have Gb5 := Lib.hid (Gb4.out.below hb (Nat.le_refl _))
    have Ab5 := Lib.hid (Ab4.out.below hb (Nat.le_refl _))
    have Gc5 := Lib.hid (Gc4.out.below hb (Nat.le_refl _))
    have Ac5 := Lib.hid (Ac4.out.below hb (Nat.le_refl _))
    clear hb B4 Ga4 Aa4 Gb4 Ab4 Gc4 Ac4
    have ha1 : w7.cell? ⟨w.heap.size, 0, none⟩ = some (.slice la lna lca) := Aa5.out.1
    have ha2 : w7.cell? ⟨w.heap.size, 1, none⟩ = some (.slice ra rna rca) := Aa5.out.2.1
    have ha3 : w7.cell? ⟨w.heap.size, 2, none⟩ = some (.int .u64 Ca) := Aa5.out.2.2
    have na : w7.heap.size ≠ w.heap.size := by have := cell_lt ha1; omega
    have ma : w.heap.size < w7.heap.size := cell_lt ha1
    have hb1 : w7.cell? ⟨w.heap.size + 1, 0, none⟩ = some (.slice lb lnb lcb) := Ab5.out.1
    have hb2 : w7.cell? ⟨w.heap.size + 1, 1, none⟩ = some (.slice rb rnb rcb) := Ab5.out.2.1
    have hb3 : w7.cell? ⟨w.heap.size + 1, 2, none⟩ = some (.int .u64 Cb) := Ab5.out.2.2
    have nb : w7.heap.size ≠ w.heap.size + 1 := by have := cell_lt hb1; omega
    have mb : w.heap.size + 1 < w7.heap.size := cell_lt hb1
    have hc1 : w7.cell? ⟨w.heap.size + 1 + 1, 0, none⟩ = some (.slice lc lnc lcc) := Ac5.out.1
    have hc2 : w7.cell? ⟨w.heap.size + 1 + 1, 1, none⟩ = some (.slice rc rnc rcc) := Ac5.out.2.1
    have hc3 : w7.cell? ⟨w.heap.size + 1 + 1, 2, none⟩ = some (.int .u64 Cc) := Ac5.out.2.2
    have nc : w7.heap.size ≠ w.heap.size + 1 + 1 := by have := cell_lt hc1; omega
    have mc : w.heap.size + 1 + 1 < w7.heap.size := cell_lt hc1
    go_wp2_with fail
    refine (lessR_is ⟨lb, lnb, lcb, Lb, rb, rnb, rcb, Rb, Cb⟩ ⟨lc, lnc, lcc, Lc, rc, rnc, rcc, Rc, Cc⟩ true _ Gb5.out Gc5.out HBC.out).mono ?_
    rintro e w8 ⟨rfl, hb⟩
    clear ha1 ha2 ha3 hb1 hb2 hb3 hc1 hc2 hc3 na ma nb mb nc mc
    have B6 : Hid (Below w.heap.size w w8) := B5.out.trans (hb.mono B5.out.size)
    have Ga6 := Lib.hid (Ga5.out.below hb (Nat.le_refl _))
    have Aa6 := Lib.hid (Aa5.out.below hb (Nat.le_refl _))
    have Gb6 := Lib.hid (Gb5.out.below hb (Nat.le_refl _))
    have Ab6 := Lib.hid (Ab5.out.below hb (Nat.le_refl _))
    have Gc6 := Lib.hid (Gc5.out.below hb (Nat.le_refl _))
    have Ac6 := Lib.hid (Ac5.out.below hb (Nat.le_refl _))
    clear hb B5 Ga5 Aa5 Gb5 Ab5 Gc5 Ac5
    have ha1 : w8.cell? ⟨w.heap.size, 0, none⟩ = some (.slice la lna lca) := Aa6.out.1
    have ha2 : w8.cell? ⟨w.heap.size, 1, none⟩ = some (.slice ra rna rca) := Aa6.out.2.1
    have ha3 : w8.cell? ⟨w.heap.size, 2, none⟩ = some (.int .u64 Ca) := Aa6.out.2.2
    have na : w8.heap.size ≠ w.heap.size := by have := cell_lt ha1; omega
    have ma : w.heap.size < w8.heap.size := cell_lt ha1
    have hb1 : w8.cell? ⟨w.heap.size + 1, 0, none⟩ = some (.slice lb lnb lcb) := Ab6.out.1
    have hb2 : w8.cell? ⟨w.heap.size + 1, 1, none⟩ = some (.slice rb rnb rcb) := Ab6.out.2.1
    have hb3 : w8.cell? ⟨w.heap.size + 1, 2, none⟩ = some (.int .u64 Cb) := Ab6.out.2.2
    have nb : w8.heap.size ≠ w.heap.size + 1 := by have := cell_lt hb1; omega
    have mb : w.heap.size + 1 < w8.heap.size := cell_lt hb1
    have hc1 : w8.cell? ⟨w.heap.size + 1 + 1, 0, none⟩ = some (.slice lc lnc lcc) := Ac6.out.1
    have hc2 : w8.cell? ⟨w.heap.size + 1 + 1, 1, none⟩ = some (.slice rc rnc rcc) := Ac6.out.2.1
    have hc3 : w8.cell? ⟨w.heap.size + 1 + 1, 2, none⟩ = some (.int .u64 Cc) := Ac6.out.2.2
    have nc : w8.heap.size ≠ w.heap.size + 1 + 1 := by have := cell_lt hc1; omega
    have mc : w.heap.size + 1 + 1 < w8.heap.size := cell_lt hc1
    go_wp2_with fail
    refine (lessR_is ⟨la, lna, lca, La, ra, rna, rca, Ra, Ca⟩ ⟨lc, lnc, lcc, Lc, rc, rnc, rcc, Rc, Cc⟩ true _ Ga6.out Gc6.out HAC.out).mono ?_
    rintro e w9 ⟨rfl, hb⟩
    clear ha1 ha2 ha3 hb1 hb2 hb3 hc1 hc2 hc3 na ma nb mb nc mc
    have B7 : Hid (Below w.heap.size w w9) := B6.out.trans (hb.mono B6.out.size)
    have Ga7 := Lib.hid (Ga6.out.below hb (Nat.le_refl _))
    have Aa7 := Lib.hid (Aa6.out.below hb (Nat.le_refl _))
    have Gb7 := Lib.hid (Gb6.out.below hb (Nat.le_refl _))
    have Ab7 := Lib.hid (Ab6.out.below hb (Nat.le_refl _))
    have Gc7 := Lib.hid (Gc6.out.below hb (Nat.le_refl _))
    have Ac7 := Lib.hid (Ac6.out.below hb (Nat.le_refl _))
    clear hb B6 Ga6 Aa6 Gb6 Ab6 Gc6 Ac6
    have ha1 : w9.cell? ⟨w.heap.size, 0, none⟩ = some (.slice la lna lca) := Aa7.out.1
    have ha2 : w9.cell? ⟨w.heap.size, 1, none⟩ = some (.slice ra rna rca) := Aa7.out.2.1
    have ha3 : w9.cell? ⟨w.heap.size, 2, none⟩ = some (.int .u64 Ca) := Aa7.out.2.2
    have na : w9.heap.size ≠ w.heap.size := by have := cell_lt ha1; omega
    have ma : w.heap.size < w9.heap.size := cell_lt ha1
    have hb1 : w9.cell? ⟨w.heap.size + 1, 0, none⟩ = some (.slice lb lnb lcb) := Ab7.out.1
    have hb2 : w9.cell? ⟨w.heap.size + 1, 1, none⟩ = some (.slice rb rnb rcb) := Ab7.out.2.1
    have hb3 : w9.cell? ⟨w.heap.size + 1, 2, none⟩ = some (.int .u64 Cb) := Ab7.out.2.2
    have nb : w9.heap.size ≠ w.heap.size + 1 := by have := cell_lt hb1; omega
    have mb : w.heap.size + 1 < w9.heap.size := cell_lt hb1
    have hc1 : w9.cell? ⟨w.heap.size + 1 + 1, 0, none⟩ = some (.slice lc lnc lcc) := Ac7.out.1
    have hc2 : w9.cell? ⟨w.heap.size + 1 + 1, 1, none⟩ = some (.slice rc rnc rcc) := Ac7.out.2.1
    have hc3 : w9.cell? ⟨w.heap.size + 1 + 1, 2, none⟩ = some (.int .u64 Cc) := Ac7.out.2.2
    have nc : w9.heap.size ≠ w.heap.size + 1 + 1 := by have := cell_lt hc1; omega
    have mc : w.heap.size + 1 + 1 < w9.heap.size := cell_lt hc1
    go_wp2_with fail
    refine (lessR_is ⟨la, lna, lca, La, ra, rna, rca, Ra, Ca⟩ ⟨la, lna, lca, La, ra, rna, rca, Ra, Ca⟩ false _ Ga7.out Ga7.out HAA.out).mono ?_
    rintro e w10 ⟨rfl, hb⟩
    clear ha1 ha2 ha3 hb1 hb2 hb3 hc1 hc2 hc3 na ma nb mb nc mc
    have B8 : Hid (Below w.heap.size w w10) := B7.out.trans (hb.mono B7.out.size)
    have Ga8 := Lib.hid (Ga7.out.below hb (Nat.le_refl _))
    have Aa8 := Lib.hid (Aa7.out.below hb (Nat.le_refl _))
    have Gb8 := Lib.hid (Gb7.out.below hb (Nat.le_refl _))
    have Ab8 := Lib.hid (Ab7.out.below hb (Nat.le_refl _))
    have Gc8 := Lib.hid (Gc7.out.below hb (Nat.le_refl _))
    have Ac8 := Lib.hid (Ac7.out.below hb (Nat.le_refl _))
    clear hb B7 Ga7 Aa7 Gb7 Ab7 Gc7 Ac7
    have ha1 : w10.cell? ⟨w.heap.size, 0, none⟩ = some (.slice la lna lca) := Aa8.out.1
    have ha2 : w10.cell? ⟨w.heap.size, 1, none⟩ = some (.slice ra rna rca) := Aa8.out.2.1
    have ha3 : w10.cell? ⟨w.heap.size, 2, none⟩ = some (.int .u64 Ca) := Aa8.out.2.2
    have na : w10.heap.size ≠ w.heap.size := by have := cell_lt ha1; omega
    have ma : w.heap.size < w10.heap.size := cell_lt ha1
    have hb1 : w10.cell? ⟨w.heap.size + 1, 0, none⟩ = some (.slice lb lnb lcb) := Ab8.out.1
    have hb2 : w10.cell? ⟨w.heap.size + 1, 1, none⟩ = some (.slice rb rnb rcb) := Ab8.out.2.1
    have hb3 : w10.cell? ⟨w.heap.size + 1, 2, none⟩ = some (.int .u64 Cb) := Ab8.out.2.2
    have nb : w10.heap.size ≠ w.heap.size + 1 := by have := cell_lt hb1; omega
    have mb : w.heap.size + 1 < w10.heap.size := cell_lt hb1
    have hc1 : w10.cell? ⟨w.heap.size + 1 + 1, 0, none⟩ = some (.slice lc lnc lcc) := Ac8.out.1
    have hc2 : w10.cell? ⟨w.heap.size + 1 + 1, 1, none⟩ = some (.slice rc rnc rcc) := Ac8.out.2.1
    have hc3 : w10.cell? ⟨w.heap.size + 1 + 1, 2, none⟩ = some (.int .u64 Cc) := Ac8.out.2.2
    have nc : w10.heap.size ≠ w.heap.size + 1 + 1 := by have := cell_lt hc1; omega
    have mc : w.heap.size + 1 + 1 < w10.heap.size := cell_lt hc1
    go_wp2_with fail
    go_ret
    exact ⟨rfl, B8.out⟩
  · go_region_held3 (fun W => W.cell? ⟨w.heap.size, 0, none⟩ = some (.slice la lna lca) ∧ W.cell? ⟨w.heap.size, 1, none⟩ = some (.slice ra rna rca) ∧ W.cell? ⟨w.heap.size, 2, none⟩ = some (.int .u64 Ca) ∧ W.cell? ⟨w.heap.size + 1, 0, none⟩ = some (.slice lb lnb lcb) ∧ W.cell? ⟨w.heap.size + 1, 1, none⟩ = some (.slice rb rnb rcb) ∧ W.cell? ⟨w.heap.size + 1, 2, none⟩ = some (.int .u64 Cb)) (first | exact ⟨ha1, ha2, ha3, hb1, hb2, hb3⟩ | exact ⟨(Aa3.out.below hb5 (Nat.le_refl _)).1, (Aa3.out.below hb5 (Nat.le_refl _)).2.1, (Aa3.out.below hb5 (Nat.le_refl _)).2.2, (Ab3.out.below hb5 (Nat.le_refl _)).1, (Ab3.out.below hb5 (Nat.le_refl _)).2.1, (Ab3.out.below hb5 (Nat.le_refl _)).2.2⟩ | exact ⟨((Aa3.out.below hb5 (Nat.le_refl _)).below hb6 (Nat.le_refl _)).1, ((Aa3.out.below hb5 (Nat.le_refl _)).below hb6 (Nat.le_refl _)).2.1, ((Aa3.out.below hb5 (Nat.le_refl _)).below hb6 (Nat.le_refl _)).2.2, ((Ab3.out.below hb5 (Nat.le_refl _)).below hb6 (Nat.le_refl _)).1, ((Ab3.out.below hb5 (Nat.le_refl _)).below hb6 (Nat.le_refl _)).2.1, ((Ab3.out.below hb5 (Nat.le_refl _)).below hb6 (Nat.le_refl _)).2.2⟩) (first
      | (have _t := hb5; go_at_call 12; refine (lessR_is ⟨lb, lnb, lcb, Lb, rb, rnb, rcb, Rb, Cb⟩ ⟨la, lna, lca, La, ra, rna, rca, Ra, Ca⟩ false _ (Gb3.out.below hb5 (Nat.le_refl _)) (Ga3.out.below hb5 (Nat.le_refl _)) HBA.out).mono ?_; rintro e w6 ⟨rfl, hb6⟩)
      | (go_at_call 12; refine (lessR_is ⟨la, lna, lca, La, ra, rna, rca, Ra, Ca⟩ ⟨lb, lnb, lcb, Lb, rb, rnb, rcb, Rb, Cb⟩ true w3.drew (Ga3.out.drawn ⟨1, rfl⟩) (Gb3.out.drawn ⟨1, rfl⟩) HAB.out).mono ?_; rintro e w5 ⟨rfl, hb5'⟩; have hb5 : Below w3.heap.size w3 w5 := (below_drawn (Below.refl _ w3) ⟨1, rfl⟩).trans hb5'; clear hb5'))
    have hb : Below w3.heap.size w3 w6 := hb5.trans (hb6.mono hb5.size)
    clear hb5 hb6
    clear ha1 ha2 ha3 hb1 hb2 hb3 hc1 hc2 hc3 na ma nb mb nc mc
    have B4 : Hid (Below w.heap.size w w6) := B3.out.trans (hb.mono B3.out.size)
    have Ga4 := Lib.hid (Ga3.out.below hb (Nat.le_refl _))
    have Aa4 := Lib.hid (Aa3.out.below hb (Nat.le_refl _))
    have Gb4 := Lib.hid (Gb3.out.below hb (Nat.le_refl _))
    have Ab4 := Lib.hid (Ab3.out.below hb (Nat.le_refl _))
    have Gc4 := Lib.hid (Gc3.out.below hb (Nat.le_refl _))
    have Ac4 := Lib.hid (Ac3.out.below hb (Nat.le_refl _))
    clear hb B3 Ga3 Aa3 Gb3 Ab3 Gc3 Ac3
    have ha1 : w6.cell? ⟨w.heap.size, 0, none⟩ = some (.slice la lna lca) := Aa4.out.1
    have ha2 : w6.cell? ⟨w.heap.size, 1, none⟩ = some (.slice ra rna rca) := Aa4.out.2.1
    have ha3 : w6.cell? ⟨w.heap.size, 2, none⟩ = some (.int .u64 Ca) := Aa4.out.2.2
    have na : w6.heap.size ≠ w.heap.size := by have := cell_lt ha1; omega
    have ma : w.heap.size < w6.heap.size := cell_lt ha1
    have hb1 : w6.cell? ⟨w.heap.size + 1, 0, none⟩ = some (.slice lb lnb lcb) := Ab4.out.1
    have hb2 : w6.cell? ⟨w.heap.size + 1, 1, none⟩ = some (.slice rb rnb rcb) := Ab4.out.2.1
    have hb3 : w6.cell? ⟨w.heap.size + 1, 2, none⟩ = some (.int .u64 Cb) := Ab4.out.2.2
    have nb : w6.heap.size ≠ w.heap.size + 1 := by have := cell_lt hb1; omega
    have mb : w.heap.size + 1 < w6.heap.size := cell_lt hb1
    have hc1 : w6.cell? ⟨w.heap.size + 1 + 1, 0, none⟩ = some (.slice lc lnc lcc) := Ac4.out.1
    have hc2 : w6.cell? ⟨w.heap.size + 1 + 1, 1, none⟩ = some (.slice rc rnc rcc) := Ac4.out.2.1
    have hc3 : w6.cell? ⟨w.heap.size + 1 + 1, 2, none⟩ = some (.int .u64 Cc) := Ac4.out.2.2
    have nc : w6.heap.size ≠ w.heap.size + 1 + 1 := by have := cell_lt hc1; omega
    have mc : w.heap.size + 1 + 1 < w6.heap.size := cell_lt hc1
    go_wp2_with fail
    refine (lessR_is ⟨la, lna, lca, La, ra, rna, rca, Ra, Ca⟩ ⟨lb, lnb, lcb, Lb, rb, rnb, rcb, Rb, Cb⟩ true _ Ga4.out Gb4.out HAB.out).mono ?_
    rintro e w7 ⟨rfl, hb⟩
    clear ha1 ha2 ha3 hb1 hb2 hb3 hc1 hc2 hc3 na ma nb mb nc mc
    have B5 : Hid (Below w.heap.size w w7) := B4.out.trans (hb.mono B4.out.size)
    have Ga5 := Lib.hid (Ga4.out.below hb (Nat.le_refl _))
    have Aa5 := Lib.hid (Aa4.out.below hb (Nat.le_refl _))
    have Gb5 := Lib.hid (Gb4.out.below hb (Nat.le_refl _))
    have Ab5 := Lib.hid (Ab4.out.below hb (Nat.le_refl _))
    have Gc5 := Lib.hid (Gc4.out.below hb (Nat.le_refl _))
    have Ac5 := Lib.hid (Ac4.out.below hb (Nat.le_refl _))
    clear hb B4 Ga4 Aa4 Gb4 Ab4 Gc4 Ac4
    have ha1 : w7.cell? ⟨w.heap.size, 0, none⟩ = some (.slice la lna lca) := Aa5.out.1
    have ha2 : w7.cell? ⟨w.heap.size, 1, none⟩ = some (.slice ra rna rca) := Aa5.out.2.1
    have ha3 : w7.cell? ⟨w.heap.size, 2, none⟩ = some (.int .u64 Ca) := Aa5.out.2.2
    have na : w7.heap.size ≠ w.heap.size := by have := cell_lt ha1; omega
    have ma : w.heap.size < w7.heap.size := cell_lt ha1
    have hb1 : w7.cell? ⟨w.heap.size + 1, 0, none⟩ = some (.slice lb lnb lcb) := Ab5.out.1
    have hb2 : w7.cell? ⟨w.heap.size + 1, 1, none⟩ = some (.slice rb rnb rcb) := Ab5.out.2.1
    have hb3 : w7.cell? ⟨w.heap.size + 1, 2, none⟩ = some (.int .u64 Cb) := Ab5.out.2.2
    have nb : w7.heap.size ≠ w.heap.size + 1 := by have := cell_lt hb1; omega
    have mb : w.heap.size + 1 < w7.heap.size := cell_lt hb1
    have hc1 : w7.cell? ⟨w.heap.size + 1 + 1, 0, none⟩ = some (.slice lc lnc lcc) := Ac5.out.1
    have hc2 : w7.cell? ⟨w.heap.size + 1 + 1, 1, none⟩ = some (.slice rc rnc rcc) := Ac5.out.2.1
    have hc3 : w7.cell? ⟨w.heap.size + 1 + 1, 2, none⟩ = some (.int .u64 Cc) := Ac5.out.2.2
    have nc : w7.heap.size ≠ w.heap.size + 1 + 1 := by have := cell_lt hc1; omega
    have mc : w.heap.size + 1 + 1 < w7.heap.size := cell_lt hc1
    go_wp2_with fail
    refine (lessR_is ⟨lb, lnb, lcb, Lb, rb, rnb, rcb, Rb, Cb⟩ ⟨lc, lnc, lcc, Lc, rc, rnc, rcc, Rc, Cc⟩ false _ Gb5.out Gc5.out HBC.out).mono ?_
    rintro e w8 ⟨rfl, hb⟩
    clear ha1 ha2 ha3 hb1 hb2 hb3 hc1 hc2 hc3 na ma nb mb nc mc
    have B6 : Hid (Below w.heap.size w w8) := B5.out.trans (hb.mono B5.out.size)
    have Ga6 := Lib.hid (Ga5.out.below hb (Nat.le_refl _))
    have Aa6 := Lib.hid (Aa5.out.below hb (Nat.le_refl _))
    have Gb6 := Lib.hid (Gb5.out.below hb (Nat.le_refl _))
    have Ab6 := Lib.hid (Ab5.out.below hb (Nat.le_refl _))
    have Gc6 := Lib.hid (Gc5.out.below hb (Nat.le_refl _))
    have Ac6 := Lib.hid (Ac5.out.below hb (Nat.le_refl _))
    clear hb B5 Ga5 Aa5 Gb5 Ab5 Gc5 Ac5
    have ha1 : w8.cell? ⟨w.heap.size, 0, none⟩ = some (.slice la lna lca) := Aa6.out.1
    have ha2 : w8.cell? ⟨w.heap.size, 1, none⟩ = some (.slice ra rna rca) := Aa6.out.2.1
    have ha3 : w8.cell? ⟨w.heap.size, 2, none⟩ = some (.int .u64 Ca) := Aa6.out.2.2
    have na : w8.heap.size ≠ w.heap.size := by have := cell_lt ha1; omega
    have ma : w.heap.size < w8.heap.size := cell_lt ha1
    have hb1 : w8.cell? ⟨w.heap.size + 1, 0, none⟩ = some (.slice lb lnb lcb) := Ab6.out.1
    have hb2 : w8.cell? ⟨w.heap.size + 1, 1, none⟩ = some (.slice rb rnb rcb) := Ab6.out.2.1
    have hb3 : w8.cell? ⟨w.heap.size + 1, 2, none⟩ = some (.int .u64 Cb) := Ab6.out.2.2
    have nb : w8.heap.size ≠ w.heap.size + 1 := by have := cell_lt hb1; omega
    have mb : w.heap.size + 1 < w8.heap.size := cell_lt hb1
    have hc1 : w8.cell? ⟨w.heap.size + 1 + 1, 0, none⟩ = some (.slice lc lnc lcc) := Ac6.out.1
    have hc2 : w8.cell? ⟨w.heap.size + 1 + 1, 1, none⟩ = some (.slice rc rnc rcc) := Ac6.out.2.1
    have hc3 : w8.cell? ⟨w.heap.size + 1 + 1, 2, none⟩ = some (.int .u64 Cc) := Ac6.out.2.2
    have nc : w8.heap.size ≠ w.heap.size + 1 + 1 := by have := cell_lt hc1; omega
    have mc : w.heap.size + 1 + 1 < w8.heap.size := cell_lt hc1
    go_wp2_with fail
    refine (lessR_is ⟨la, lna, lca, La, ra, rna, rca, Ra, Ca⟩ ⟨la, lna, lca, La, ra, rna, rca, Ra, Ca⟩ false _ Ga6.out Ga6.out HAA.out).mono ?_
    rintro e w9 ⟨rfl, hb⟩
    clear ha1 ha2 ha3 hb1 hb2 hb3 hc1 hc2 hc3 na ma nb mb nc mc
    have B7 : Hid (Below w.heap.size w w9) := B6.out.trans (hb.mono B6.out.size)
    have Ga7 := Lib.hid (Ga6.out.below hb (Nat.le_refl _))
    have Aa7 := Lib.hid (Aa6.out.below hb (Nat.le_refl _))
    have Gb7 := Lib.hid (Gb6.out.below hb (Nat.le_refl _))
    have Ab7 := Lib.hid (Ab6.out.below hb (Nat.le_refl _))
    have Gc7 := Lib.hid (Gc6.out.below hb (Nat.le_refl _))
    have Ac7 := Lib.hid (Ac6.out.below hb (Nat.le_refl _))
    clear hb B6 Ga6 Aa6 Gb6 Ab6 Gc6 Ac6
    have ha1 : w9.cell? ⟨w.heap.size, 0, none⟩ = some (.slice la lna lca) := Aa7.out.1
    have ha2 : w9.cell? ⟨w.heap.size, 1, none⟩ = some (.slice ra rna rca) := Aa7.out.2.1
    have ha3 : w9.cell? ⟨w.heap.size, 2, none⟩ = some (.int .u64 Ca) := Aa7.out.2.2
    have na : w9.heap.size ≠ w.heap.size := by have := cell_lt ha1; omega
    have ma : w.heap.size < w9.heap.size := cell_lt ha1
    have hb1 : w9.cell? ⟨w.heap.size + 1, 0, none⟩ = some (.slice lb lnb lcb) := Ab7.out.1
    have hb2 : w9.cell? ⟨w.heap.size + 1, 1, none⟩ = some (.slice rb rnb rcb) := Ab7.out.2.1
    have hb3 : w9.cell? ⟨w.heap.size + 1, 2, none⟩ = some (.int .u64 Cb) := Ab7.out.2.2
    have nb : w9.heap.size ≠ w.heap.size + 1 := by have := cell_lt hb1; omega
    have mb : w.heap.size + 1 < w9.heap.size := cell_lt hb1
    have hc1 : w9.cell? ⟨w.heap.size + 1 + 1, 0, none⟩ = some (.slice lc lnc lcc) := Ac7.out.1
    have hc2 : w9.cell? ⟨w.heap.size + 1 + 1, 1, none⟩ = some (.slice rc rnc rcc) := Ac7.out.2.1
    have hc3 : w9.cell? ⟨w.heap.size + 1 + 1, 2, none⟩ = some (.int .u64 Cc) := Ac7.out.2.2
    have nc : w9.heap.size ≠ w.heap.size + 1 + 1 := by have := cell_lt hc1; omega
    have mc : w.heap.size + 1 + 1 < w9.heap.size := cell_lt hc1
    go_wp2_with fail
    go_ret
    exact ⟨rfl, B7.out⟩
  · go_region_held3 (fun W => W.cell? ⟨w.heap.size, 0, none⟩ = some (.slice la lna lca) ∧ W.cell? ⟨w.heap.size, 1, none⟩ = some (.slice ra rna rca) ∧ W.cell? ⟨w.heap.size, 2, none⟩ = some (.int .u64 Ca) ∧ W.cell? ⟨w.heap.size + 1, 0, none⟩ = some (.slice lb lnb lcb) ∧ W.cell? ⟨w.heap.size + 1, 1, none⟩ = some (.slice rb rnb rcb) ∧ W.cell? ⟨w.heap.size + 1, 2, none⟩ = some (.int .u64 Cb)) (first | exact ⟨ha1, ha2, ha3, hb1, hb2, hb3⟩ | exact ⟨(Aa3.out.below hb5 (Nat.le_refl _)).1, (Aa3.out.below hb5 (Nat.le_refl _)).2.1, (Aa3.out.below hb5 (Nat.le_refl _)).2.2, (Ab3.out.below hb5 (Nat.le_refl _)).1, (Ab3.out.below hb5 (Nat.le_refl _)).2.1, (Ab3.out.below hb5 (Nat.le_refl _)).2.2⟩ | exact ⟨((Aa3.out.below hb5 (Nat.le_refl _)).below hb6 (Nat.le_refl _)).1, ((Aa3.out.below hb5 (Nat.le_refl _)).below hb6 (Nat.le_refl _)).2.1, ((Aa3.out.below hb5 (Nat.le_refl _)).below hb6 (Nat.le_refl _)).2.2, ((Ab3.out.below hb5 (Nat.le_refl _)).below hb6 (Nat.le_refl _)).1, ((Ab3.out.below hb5 (Nat.le_refl _)).below hb6 (Nat.le_refl _)).2.1, ((Ab3.out.below hb5 (Nat.le_refl _)).below hb6 (Nat.le_refl _)).2.2⟩) (first
      | (have _t := hb5; go_at_call 12; refine (lessR_is ⟨lb, lnb, lcb, Lb, rb, rnb, rcb, Rb, Cb⟩ ⟨la, lna, lca, La, ra, rna, rca, Ra, Ca⟩ true _ (Gb3.out.below hb5 (Nat.le_refl _)) (Ga3.out.below hb5 (Nat.le_refl _)) HBA.out).mono ?_; rintro e w6 ⟨rfl, hb6⟩)
      | (go_at_call 12; refine (lessR_is ⟨la, lna, lca, La, ra, rna, rca, Ra, Ca⟩ ⟨lb, lnb, lcb, Lb, rb, rnb, rcb, Rb, Cb⟩ false w3.drew (Ga3.out.drawn ⟨1, rfl⟩) (Gb3.out.drawn ⟨1, rfl⟩) HAB.out).mono ?_; rintro e w5 ⟨rfl, hb5'⟩; have hb5 : Below w3.heap.size w3 w5 := (below_drawn (Below.refl _ w3) ⟨1, rfl⟩).trans hb5'; clear hb5'))
    have hb : Below w3.heap.size w3 w6 := hb5.trans (hb6.mono hb5.size)
    clear hb5 hb6
    clear ha1 ha2 ha3 hb1 hb2 hb3 hc1 hc2 hc3 na ma nb mb nc mc
    have B4 : Hid (Below w.heap.size w w6) := B3.out.trans (hb.mono B3.out.size)
    have Ga4 := Lib.hid (Ga3.out.below hb (Nat.le_refl _))
    have Aa4 := Lib.hid (Aa3.out.below hb (Nat.le_refl _))
    have Gb4 := Lib.hid (Gb3.out.below hb (Nat.le_refl _))
    have Ab4 := Lib.hid (Ab3.out.below hb (Nat.le_refl _))
    have Gc4 := Lib.hid (Gc3.out.below hb (Nat.le_refl _))
    have Ac4 := Lib.hid (Ac3.out.below hb (Nat.le_refl _))
    clear hb B3 Ga3 Aa3 Gb3 Ab3 Gc3 Ac3
    have ha1 : w6.cell? ⟨w.heap.size, 0, none⟩ = some (.slice la lna lca) := Aa4.out.1
    have ha2 : w6.cell? ⟨w.heap.size, 1, none⟩ = some (.slice ra rna rca) := Aa4.out.2.1
    have ha3 : w6.cell? ⟨w.heap.size, 2, none⟩ = some (.int .u64 Ca) := Aa4.out.2.2
    have na : w6.heap.size ≠ w.heap.size := by have := cell_lt ha1; omega
    have ma : w.heap.size < w6.heap.size := cell_lt ha1
    have hb1 : w6.cell? ⟨w.heap.size + 1, 0, none⟩ = some (.slice lb lnb lcb) := Ab4.out.1
    have hb2 : w6.cell? ⟨w.heap.size + 1, 1, none⟩ = some (.slice rb rnb rcb) := Ab4.out.2.1
    have hb3 : w6.cell? ⟨w.heap.size + 1, 2, none⟩ = some (.int .u64 Cb) := Ab4.out.2.2
    have nb : w6.heap.size ≠ w.heap.size + 1 := by have := cell_lt hb1; omega
    have mb : w.heap.size + 1 < w6.heap.size := cell_lt hb1
    have hc1 : w6.cell? ⟨w.heap.size + 1 + 1, 0, none⟩ = some (.slice lc lnc lcc) := Ac4.out.1
    have hc2 : w6.cell? ⟨w.heap.size + 1 + 1, 1, none⟩ = some (.slice rc rnc rcc) := Ac4.out.2.1
    have hc3 : w6.cell? ⟨w.heap.size + 1 + 1, 2, none⟩ = some (.int .u64 Cc) := Ac4.out.2.2
    have nc : w6.heap.size ≠ w.heap.size + 1 + 1 := by have := cell_lt hc1; omega
    have mc : w.heap.size + 1 + 1 < w6.heap.size := cell_lt hc1
    go_wp2_with fail
    refine (lessR_is ⟨la, lna, lca, La, ra, rna, rca, Ra, Ca⟩ ⟨lb, lnb, lcb, Lb, rb, rnb, rcb, Rb, Cb⟩ false _ Ga4.out Gb4.out HAB.out).mono ?_
    rintro e w7 ⟨rfl, hb⟩
    clear ha1 ha2 ha3 hb1 hb2 hb3 hc1 hc2 hc3 na ma nb mb nc mc
    have B5 : Hid (Below w.heap.size w w7) := B4.out.trans (hb.mono B4.out.size)
    have Ga5 := Lib.hid (Ga4.out.below hb (Nat.le_refl _))
    have Aa5 := Lib.hid (Aa4.out.below hb (Nat.le_refl _))
    have Gb5 := Lib.hid (Gb4.out.below hb (Nat.le_refl _))
    have Ab5 := Lib.hid (Ab4.out.below hb (Nat.le_refl _))
    have Gc5 := Lib.hid (Gc4.out.below hb (Nat.le_refl _))
    have Ac5 := Lib.hid (Ac4.out.below hb (Nat.le_refl _))
    clear hb B4 Ga4 Aa4 Gb4 Ab4 Gc4 Ac4
    have ha1 : w7.cell? ⟨w.heap.size, 0, none⟩ = some (.slice la lna lca) := Aa5.out.1
    have ha2 : w7.cell? ⟨w.heap.size, 1, none⟩ = some (.slice ra rna rca) := Aa5.out.2.1
    have ha3 : w7.cell? ⟨w.heap.size, 2, none⟩ = some (.int .u64 Ca) := Aa5.out.2.2
    have na : w7.heap.size ≠ w.heap.size := by have := cell_lt ha1; omega
    have ma : w.heap.size < w7.heap.size := cell_lt ha1
    have hb1 : w7.cell? ⟨w.heap.size + 1, 0, none⟩ = some (.slice lb lnb lcb) := Ab5.out.1
    have hb2 : w7.cell? ⟨w.heap.size + 1, 1, none⟩ = some (.slice rb rnb rcb) := Ab5.out.2.1
    have hb3 : w7.cell? ⟨w.heap.size + 1, 2, none⟩ = some (.int .u64 Cb) := Ab5.out.2.2
    have nb : w7.heap.size ≠ w.heap.size + 1 := by have := cell_lt hb1; omega
    have mb : w.heap.size + 1 < w7.heap.size := cell_lt hb1
    have hc1 : w7.cell? ⟨w.heap.size + 1 + 1, 0, none⟩ = some (.slice lc lnc lcc) := Ac5.out.1
    have hc2 : w7.cell? ⟨w.heap.size + 1 + 1, 1, none⟩ = some (.slice rc rnc rcc) := Ac5.out.2.1
    have hc3 : w7.cell? ⟨w.heap.size + 1 + 1, 2, none⟩ = some (.int .u64 Cc) := Ac5.out.2.2
    have nc : w7.heap.size ≠ w.heap.size + 1 + 1 := by have := cell_lt hc1; omega
    have mc : w.heap.size + 1 + 1 < w7.heap.size := cell_lt hc1
    go_wp2_with fail
    refine (lessR_is ⟨la, lna, lca, La, ra, rna, rca, Ra, Ca⟩ ⟨la, lna, lca, La, ra, rna, rca, Ra, Ca⟩ false _ Ga5.out Ga5.out HAA.out).mono ?_
    rintro e w8 ⟨rfl, hb⟩
    clear ha1 ha2 ha3 hb1 hb2 hb3 hc1 hc2 hc3 na ma nb mb nc mc
    have B6 : Hid (Below w.heap.size w w8) := B5.out.trans (hb.mono B5.out.size)
    have Ga6 := Lib.hid (Ga5.out.below hb (Nat.le_refl _))
    have Aa6 := Lib.hid (Aa5.out.below hb (Nat.le_refl _))
    have Gb6 := Lib.hid (Gb5.out.below hb (Nat.le_refl _))
    have Ab6 := Lib.hid (Ab5.out.below hb (Nat.le_refl _))
    have Gc6 := Lib.hid (Gc5.out.below hb (Nat.le_refl _))
    have Ac6 := Lib.hid (Ac5.out.below hb (Nat.le_refl _))
    clear hb B5 Ga5 Aa5 Gb5 Ab5 Gc5 Ac5
    have ha1 : w8.cell? ⟨w.heap.size, 0, none⟩ = some (.slice la lna lca) := Aa6.out.1
    have ha2 : w8.cell? ⟨w.heap.size, 1, none⟩ = some (.slice ra rna rca) := Aa6.out.2.1
    have ha3 : w8.cell? ⟨w.heap.size, 2, none⟩ = some (.int .u64 Ca) := Aa6.out.2.2
    have na : w8.heap.size ≠ w.heap.size := by have := cell_lt ha1; omega
    have ma : w.heap.size < w8.heap.size := cell_lt ha1
    have hb1 : w8.cell? ⟨w.heap.size + 1, 0, none⟩ = some (.slice lb lnb lcb) := Ab6.out.1
    have hb2 : w8.cell? ⟨w.heap.size + 1, 1, none⟩ = some (.slice rb rnb rcb) := Ab6.out.2.1
    have hb3 : w8.cell? ⟨w.heap.size + 1, 2, none⟩ = some (.int .u64 Cb) := Ab6.out.2.2
    have nb : w8.heap.size ≠ w.heap.size + 1 := by have := cell_lt hb1; omega
    have mb : w.heap.size + 1 < w8.heap.size := cell_lt hb1
    have hc1 : w8.cell? ⟨w.heap.size + 1 + 1, 0, none⟩ = some (.slice lc lnc lcc) := Ac6.out.1
    have hc2 : w8.cell? ⟨w.heap.size + 1 + 1, 1, none⟩ = some (.slice rc rnc rcc) := Ac6.out.2.1
    have hc3 : w8.cell? ⟨w.heap.size + 1 + 1, 2, none⟩ = some (.int .u64 Cc) := Ac6.out.2.2
    have nc : w8.heap.size ≠ w.heap.size + 1 + 1 := by have := cell_lt hc1; omega
    have mc : w.heap.size + 1 + 1 < w8.heap.size := cell_lt hc1
    go_wp2_with fail
    go_ret
    exact ⟨rfl, B6.out⟩
  · go_region_held3 (fun W => W.cell? ⟨w.heap.size, 0, none⟩ = some (.slice la lna lca) ∧ W.cell? ⟨w.heap.size, 1, none⟩ = some (.slice ra rna rca) ∧ W.cell? ⟨w.heap.size, 2, none⟩ = some (.int .u64 Ca) ∧ W.cell? ⟨w.heap.size + 1, 0, none⟩ = some (.slice lb lnb lcb) ∧ W.cell? ⟨w.heap.size + 1, 1, none⟩ = some (.slice rb rnb rcb) ∧ W.cell? ⟨w.heap.size + 1, 2, none⟩ = some (.int .u64 Cb)) (first | exact ⟨ha1, ha2, ha3, hb1, hb2, hb3⟩ | exact ⟨(Aa3.out.below hb5 (Nat.le_refl _)).1, (Aa3.out.below hb5 (Nat.le_refl _)).2.1, (Aa3.out.below hb5 (Nat.le_refl _)).2.2, (Ab3.out.below hb5 (Nat.le_refl _)).1, (Ab3.out.below hb5 (Nat.le_refl _)).2.1, (Ab3.out.below hb5 (Nat.le_refl _)).2.2⟩ | exact ⟨((Aa3.out.below hb5 (Nat.le_refl _)).below hb6 (Nat.le_refl _)).1, ((Aa3.out.below hb5 (Nat.le_refl _)).below hb6 (Nat.le_refl _)).2.1, ((Aa3.out.below hb5 (Nat.le_refl _)).below hb6 (Nat.le_refl _)).2.2, ((Ab3.out.below hb5 (Nat.le_refl _)).below hb6 (Nat.le_refl _)).1, ((Ab3.out.below hb5 (Nat.le_refl _)).below hb6 (Nat.le_refl _)).2.1, ((Ab3.out.below hb5 (Nat.le_refl _)).below hb6 (Nat.le_refl _)).2.2⟩) (first
      | (have _t := hb5; go_at_call 12; refine (lessR_is ⟨lb, lnb, lcb, Lb, rb, rnb, rcb, Rb, Cb⟩ ⟨la, lna, lca, La, ra, rna, rca, Ra, Ca⟩ false _ (Gb3.out.below hb5 (Nat.le_refl _)) (Ga3.out.below hb5 (Nat.le_refl _)) HBA.out).mono ?_; rintro e w6 ⟨rfl, hb6⟩)
      | (go_at_call 12; refine (lessR_is ⟨la, lna, lca, La, ra, rna, rca, Ra, Ca⟩ ⟨lb, lnb, lcb, Lb, rb, rnb, rcb, Rb, Cb⟩ false w3.drew (Ga3.out.drawn ⟨1, rfl⟩) (Gb3.out.drawn ⟨1, rfl⟩) HAB.out).mono ?_; rintro e w5 ⟨rfl, hb5'⟩; have hb5 : Below w3.heap.size w3 w5 := (below_drawn (Below.refl _ w3) ⟨1, rfl⟩).trans hb5'; clear hb5'))
    have hb : Below w3.heap.size w3 w6 := hb5.trans (hb6.mono hb5.size)
    clear hb5 hb6
    clear ha1 ha2 ha3 hb1 hb2 hb3 hc1 hc2 hc3 na ma nb mb nc mc
    have B4 : Hid (Below w.heap.size w w6) := B3.out.trans (hb.mono B3.out.size)
    have Ga4 := Lib.hid (Ga3.out.below hb (Nat.le_refl _))
    have Aa4 := Lib.hid (Aa3.out.below hb (Nat.le_refl _))
    have Gb4 := Lib.hid (Gb3.out.below hb (Nat.le_refl _))
    have Ab4 := Lib.hid (Ab3.out.below hb (Nat.le_refl _))
    have Gc4 := Lib.hid (Gc3.out.below hb (Nat.le_refl _))
    have Ac4 := Lib.hid (Ac3.out.below hb (Nat.le_refl _))
    clear hb B3 Ga3 Aa3 Gb3 Ab3 Gc3 Ac3
    have ha1 : w6.cell? ⟨w.heap.size, 0, none⟩ = some (.slice la lna lca) := Aa4.out.1
    have ha2 : w6.cell? ⟨w.heap.size, 1, none⟩ = some (.slice ra rna rca) := Aa4.out.2.1
    have ha3 : w6.cell? ⟨w.heap.size, 2, none⟩ = some (.int .u64 Ca) := Aa4.out.2.2
    have na : w6.heap.size ≠ w.heap.size := by have := cell_lt ha1; omega
    have ma : w.heap.size < w6.heap.size := cell_lt ha1
    have hb1 : w6.cell? ⟨w.heap.size + 1, 0, none⟩ = some (.slice lb lnb lcb) := Ab4.out.1
    have hb2 : w6.cell? ⟨w.heap.size + 1, 1, none⟩ = some (.slice rb rnb rcb) := Ab4.out.2.1
    have hb3 : w6.cell? ⟨w.heap.size + 1, 2, none⟩ = some (.int .u64 Cb) := Ab4.out.2.2
    have nb : w6.heap.size ≠ w.heap.size + 1 := by have := cell_lt hb1; omega
    have mb : w.heap.size + 1 < w6.heap.size := cell_lt hb1
    have hc1 : w6.cell? ⟨w.heap.size + 1 + 1, 0, none⟩ = some (.slice lc lnc lcc) := Ac4.out.1
    have hc2 : w6.cell? ⟨w.heap.size + 1 + 1, 1, none⟩ = some (.slice rc rnc rcc) := Ac4.out.2.1
    have hc3 : w6.cell? ⟨w.heap.size + 1 + 1, 2, none⟩ = some (.int .u64 Cc) := Ac4.out.2.2
    have nc : w6.heap.size ≠ w.heap.size + 1 + 1 := by have := cell_lt hc1; omega
    have mc : w.heap.size + 1 + 1 < w6.heap.size := cell_lt hc1
    go_wp2_with fail
    refine (lessR_is ⟨la, lna, lca, La, ra, rna, rca, Ra, Ca⟩ ⟨lb, lnb, lcb, Lb, rb, rnb, rcb, Rb, Cb⟩ false _ Ga4.out Gb4.out HAB.out).mono ?_
    rintro e w7 ⟨rfl, hb⟩
    clear ha1 ha2 ha3 hb1 hb2 hb3 hc1 hc2 hc3 na ma nb mb nc mc
    have B5 : Hid (Below w.heap.size w w7) := B4.out.trans (hb.mono B4.out.size)
    have Ga5 := Lib.hid (Ga4.out.below hb (Nat.le_refl _))
    have Aa5 := Lib.hid (Aa4.out.below hb (Nat.le_refl _))
    have Gb5 := Lib.hid (Gb4.out.below hb (Nat.le_refl _))
    have Ab5 := Lib.hid (Ab4.out.below hb (Nat.le_refl _))
    have Gc5 := Lib.hid (Gc4.out.below hb (Nat.le_refl _))
    have Ac5 := Lib.hid (Ac4.out.below hb (Nat.le_refl _))
    clear hb B4 Ga4 Aa4 Gb4 Ab4 Gc4 Ac4
    have ha1 : w7.cell? ⟨w.heap.size, 0, none⟩ = some (.slice la lna lca) := Aa5.out.1
    have ha2 : w7.cell? ⟨w.heap.size, 1, none⟩ = some (.slice ra rna rca) := Aa5.out.2.1
    have ha3 : w7.cell? ⟨w.heap.size, 2, none⟩ = some (.int .u64 Ca) := Aa5.out.2.2
    have na : w7.heap.size ≠ w.heap.size := by have := cell_lt ha1; omega
    have ma : w.heap.size < w7.heap.size := cell_lt ha1
    have hb1 : w7.cell? ⟨w.heap.size + 1, 0, none⟩ = some (.slice lb lnb lcb) := Ab5.out.1
    have hb2 : w7.cell? ⟨w.heap.size + 1, 1, none⟩ = some (.slice rb rnb rcb) := Ab5.out.2.1
    have hb3 : w7.cell? ⟨w.heap.size + 1, 2, none⟩ = some (.int .u64 Cb) := Ab5.out.2.2
    have nb : w7.heap.size ≠ w.heap.size + 1 := by have := cell_lt hb1; omega
    have mb : w.heap.size + 1 < w7.heap.size := cell_lt hb1
    have hc1 : w7.cell? ⟨w.heap.size + 1 + 1, 0, none⟩ = some (.slice lc lnc lcc) := Ac5.out.1
    have hc2 : w7.cell? ⟨w.heap.size + 1 + 1, 1, none⟩ = some (.slice rc rnc rcc) := Ac5.out.2.1
    have hc3 : w7.cell? ⟨w.heap.size + 1 + 1, 2, none⟩ = some (.int .u64 Cc) := Ac5.out.2.2
    have nc : w7.heap.size ≠ w.heap.size + 1 + 1 := by have := cell_lt hc1; omega
    have mc : w.heap.size + 1 + 1 < w7.heap.size := cell_lt hc1
    go_wp2_with fail
    refine (lessR_is ⟨la, lna, lca, La, ra, rna, rca, Ra, Ca⟩ ⟨la, lna, lca, La, ra, rna, rca, Ra, Ca⟩ false _ Ga5.out Ga5.out HAA.out).mono ?_
    rintro e w8 ⟨rfl, hb⟩
    clear ha1 ha2 ha3 hb1 hb2 hb3 hc1 hc2 hc3 na ma nb mb nc mc
    have B6 : Hid (Below w.heap.size w w8) := B5.out.trans (hb.mono B5.out.size)
    have Ga6 := Lib.hid (Ga5.out.below hb (Nat.le_refl _))
    have Aa6 := Lib.hid (Aa5.out.below hb (Nat.le_refl _))
    have Gb6 := Lib.hid (Gb5.out.below hb (Nat.le_refl _))
    have Ab6 := Lib.hid (Ab5.out.below hb (Nat.le_refl _))
    have Gc6 := Lib.hid (Gc5.out.below hb (Nat.le_refl _))
    have Ac6 := Lib.hid (Ac5.out.below hb (Nat.le_refl _))
    clear hb B5 Ga5 Aa5 Gb5 Ab5 Gc5 Ac5
    have ha1 : w8.cell? ⟨w.heap.size, 0, none⟩ = some (.slice la lna lca) := Aa6.out.1
    have ha2 : w8.cell? ⟨w.heap.size, 1, none⟩ = some (.slice ra rna rca) := Aa6.out.2.1
    have ha3 : w8.cell? ⟨w.heap.size, 2, none⟩ = some (.int .u64 Ca) := Aa6.out.2.2
    have na : w8.heap.size ≠ w.heap.size := by have := cell_lt ha1; omega
    have ma : w.heap.size < w8.heap.size := cell_lt ha1
    have hb1 : w8.cell? ⟨w.heap.size + 1, 0, none⟩ = some (.slice lb lnb lcb) := Ab6.out.1
    have hb2 : w8.cell? ⟨w.heap.size + 1, 1, none⟩ = some (.slice rb rnb rcb) := Ab6.out.2.1
    have hb3 : w8.cell? ⟨w.heap.size + 1, 2, none⟩ = some (.int .u64 Cb) := Ab6.out.2.2
    have nb : w8.heap.size ≠ w.heap.size + 1 := by have := cell_lt hb1; omega
    have mb : w.heap.size + 1 < w8.heap.size := cell_lt hb1
    have hc1 : w8.cell? ⟨w.heap.size + 1 + 1, 0, none⟩ = some (.slice lc lnc lcc) := Ac6.out.1
    have hc2 : w8.cell? ⟨w.heap.size + 1 + 1, 1, none⟩ = some (.slice rc rnc rcc) := Ac6.out.2.1
    have hc3 : w8.cell? ⟨w.heap.size + 1 + 1, 2, none⟩ = some (.int .u64 Cc) := Ac6.out.2.2
    have nc : w8.heap.size ≠ w.heap.size + 1 + 1 := by have := cell_lt hc1; omega
    have mc : w.heap.size + 1 + 1 < w8.heap.size := cell_lt hc1
    go_wp2_with fail
    go_ret
    exact ⟨rfl, B6.out⟩

set_option maxRecDepth 100000 in
theorem lifted (os : Os) (started : os.Started) (H : Type) (enc : TypeId × Value → H) :
    ReturnsInHanded {} Try.checked os 6 .any (Rows.ruleThreeSpec.pre6 enc Try.prog Try.f6 Rows.ruleThreeRow.domain false) (Rows.ruleThreeSpec.post enc Try.prog Try.f6 false true false false) := by
  refine returnsInHanded_of_change (C := Try.checked) own started (by kernel_rfl) Try.func6
    (ChangeSpec.witness6 (enc := enc) (C := Try.checked) false ⟨#[], #[.agg #[.slice none 0 0, .slice none 0 0, .int .u64 0], .agg #[.slice none 0 0, .slice none 0 0, .int .u64 0], .agg #[.slice none 0 0, .slice none 0 0, .int .u64 0]], []⟩ 8 (by kernel_rfl) (by kernel_rfl) (by kernel_rfl) (by kernel_rfl)) ?_
  intro W base args ds gs before hval0 hW hcnd _
  have hval : ∀ (j : Nat) t v, Try.f6.params[j]? = some t → args[j]? = some v → Value.okWide Try.prog W .any base t v := hval0
  have hW' := hW
  obtain ⟨p, q, hA0, hV, rfl, hfz, hnd⟩ := hW
  have hA : DataW.TrodAll enc Try.prog W 0 (fun _ => true) true Try.f6.params.toList args.toList ds p := hA0
  rw [Try.params6] at hA hval
  obtain ⟨v0, vs0, d0, ds0, p0, q0, hargs, rfl, rfl, h0, r0⟩ := trodAll_cons hA
  obtain ⟨v1, vs1, d1, ds1, p1, q1, rfl, rfl, rfl, h1, r1⟩ := trodAll_cons r0
  obtain ⟨v2, vs2, d2, ds2, p2, q2, rfl, rfl, rfl, h2, r2⟩ := trodAll_cons r1
  obtain ⟨rfl, rfl, rfl⟩ := trodAll_nil r2
  obtain rfl : args = #[v0, v1, v2] := by cases args; simp_all
  obtain ⟨rfl, rfl⟩ := trodVars_none hV
  have k0 := h0
  have lt0 : ∀ x ∈ p0, x.block < W.heap.size := by obtain ⟨m, hm⟩ := k0; exact DataW.trod_lt m _ _ _ hm
  obtain ⟨x0, rfl, w0⟩ := Rw.open (hval 0 26 v0 rfl rfl) h0
  have k1 := h1
  have lt1 : ∀ x ∈ p1, x.block < W.heap.size := by obtain ⟨m, hm⟩ := k1; exact DataW.trod_lt m _ _ _ hm
  obtain ⟨x1, rfl, w1⟩ := Rw.open (hval 1 26 v1 rfl rfl) h1
  have k2 := h2
  have lt2 : ∀ x ∈ p2, x.block < W.heap.size := by obtain ⟨m, hm⟩ := k2; exact DataW.trod_lt m _ _ _ hm
  obtain ⟨x2, rfl, w2⟩ := Rw.open (hval 2 26 v2 rfl rfl) h2
  clear hA0 hval0
  refine (walk x0 x1 x2 W w0 w1 w2).mono fun e W' ⟨he, bel⟩ => ?_
  subst he
  exact ⟨_, rfl, _, _, _, [], _, [], hW', trodAll_mk1 (shut_bool Try.underlying4 _), (trodAll_cons_mk (Below.trod laidOut (by kernel_rfl) (of_decide_eq_true (by kernel_rfl)) k0 bel lt0) (trodAll_cons_mk (Below.trod laidOut (by kernel_rfl) (of_decide_eq_true (by kernel_rfl)) k1 bel lt1) (trodAll_cons_mk (Below.trod laidOut (by kernel_rfl) (of_decide_eq_true (by kernel_rfl)) k2 bel lt2) trodAll_mk0))), rfl, bel.frame _, fun h => by cases h⟩

theorem over : Rows.ruleThreeRow.holds Try.pinned (OpenSpec.ofChange Rows.ruleThreeSpec) :=
  OpenClaim.holds_of_wide 6 Try.f6 rfl rfl rfl rfl rfl rfl rfl ⟨rfl, rfl, rfl, rfl, rfl⟩ rfl rfl rfl rfl rfl (by kernel_rfl) Try.func6 (by kernel_rfl)
    (of_decide_eq_true (by kernel_rfl)) (by unfold Func.isWrapper; first | (rw [if_pos (by decide +kernel)]; kernel_rfl) | (rw [if_neg (by decide +kernel)]; exact ⟨rfl, rfl⟩))
    (fun os started H enc _ => lifted os started H enc)

/-- the statement -/
theorem proved : Rows.RuleThreeSaid := over
#print axioms proved
end Go.Proofs.Ytcpilhgofdnigaa.ruleThree
