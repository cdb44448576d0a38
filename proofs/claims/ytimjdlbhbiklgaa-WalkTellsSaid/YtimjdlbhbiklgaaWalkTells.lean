/- For every automaton, every word and every number, WalkTells answers true, and turns nothing that was there. No condition. -/
import Derived.Test.YtimjdlbhbiklgaaRows
import Derived.Test.YtimjdlbhbiklgaaWalkAwake
import Derived.Test.YtimjdlbhbiklgaaWalkFrom
import Derived.Test.YtimjdlbhbiklgaaWalkHas
import Derived.Test.YtimjdlbhbiklgaaWalkRefB
import Derived.Test.YtimjdlbhbiklgaaWalkRefD
import Derived.Test.YtimjdlbhbiklgaaTrieOpen
import Derived.Test.YtimjdlbhbiklgaaPackM
import Derived.Test.YtimjdlbhbiklgaaPackJ
import Derived.WalkKit
import Derived.ProofKit
import Derived.OpenShut
import Derived.ShutString
import Derived.ChangeOld
import Derived.Below
import Derived.Deep.Matrix
import Derived.SizedLaws
namespace Go.Proofs.Ytimjdlbhbiklgaa.walkTells
open Go.ChangeShapes Go.WideShapes Go.ChangeAt Go.RowKit
set_option linter.unusedVariables false

theorem own : ownKnob Try.prog.godebug = none := by kernel_rfl
theorem laidOut : laidOutB Try.prog = true := by kernel_rfl

/-- a slice of integers that came in -/
def IsRow (k : IntKind) (w : World) (a : Option Addr) (len cap : Nat) (zs : List Int) : Prop :=
  (a = none ∧ len = 0 ∧ cap = 0 ∧ zs = []) ∨
  ∃ x, a = some x ∧ len ≤ cap ∧ cap ≤ maxLen ∧ zs.length = cap ∧ (∀ i, i < zs.length → w.cell? (x.add i) = some (.int k (zs.getD i 0))) ∧ ∀ n ∈ zs, (Lit.int k n).wf = true

open Tri Wlk

/-! ### STEP 1: the walk -/
set_option maxHeartbeats 6400000 in
set_option maxRecDepth 100000 in
theorem walk (a0 : Option Addr) (len0 cap0 : Nat) (x0 : List Sw) (a1 : Option Addr) (len1 cap1 : Nat) (z1 : List Int) (a2 : Int) (w : World) (w0 : Ss w a0 len0 cap0 x0) (n0 : a0 = none → cap0 = 0) (w1 : IsRow .i64 w a1 len1 cap1 z1) (w2 : (Lit.int .i64 a2).wf = true) :
    Calls Try.prog 3 #[.slice a0 len0 cap0, .slice a1 len1 cap1, .int .i64 a2] w fun e w' => e = .returned (.bool true) ∧ Below w.heap.size w w' := by
  have hcm0 := w0.2.2.1
  have hnc0 := w0.2.1
  unfold maxLen at hcm0
  have HX0 := Lib.hid w0
  clear w0 n0
  have hn10 : a1 = none → cap1 = 0 := by
    rcases w1 with ⟨_, _, h, _⟩ | ⟨x, h, _⟩
    · exact fun _ => h
    · intro h'; rw [h] at h'; cases h'
  have HN1 := Lib.hid hn10
  clear hn10
  have hs1 := Sl.of_row w1
  generalize z1.take len1 = zs at hs1
  have hcm1 := hs1.2.2.1
  have hnc1 := hs1.2.1
  unfold maxLen at hcm1
  have HS1 := Lib.hid hs1
  have HLEN1 := Lib.hid hs1.1
  clear hs1 w1
  obtain ⟨⟨LA, ea⟩, hla⟩ : ∃ r, wordsC (sts x0) = r := ⟨_, rfl⟩
  obtain ⟨⟨LX, ex⟩, hlx⟩ : ∃ r, fromC (sts x0) zs a2 = r := ⟨_, rfl⟩
  obtain ⟨h, hh⟩ : ∃ r, hasC (sts x0) zs = r := ⟨_, rfl⟩
  obtain ⟨mn, hmn⟩ : ∃ r, manyC (sts x0) = r := ⟨_, rfl⟩
  obtain ⟨dp_, hdp⟩ : ∃ r, deepC (sts x0) = r := ⟨_, rfl⟩
  have HLA := Lib.hid hla
  have HLX := Lib.hid hlx
  have HH := Lib.hid hh
  have HMN := Lib.hid hmn
  have HDP := Lib.hid hdp
  have hib : (100 < len1 → (100 : Int) < (len1 : Int)) ∧ (len1 ≤ 100 → ¬ (100 : Int) < (len1 : Int)) := ⟨fun h => by omega, fun h => by omega⟩
  clear hla hlx hh hmn hdp w2
  go_enter Try.func3, Try.ntmps3
  go_wp2_with fail
  refine (awake_any _).mono ?_
  rintro e v1 ⟨rfl, B1⟩
  have S1 := Lib.hid (HX0.out.below B1 (Nat.le_refl _))
  have Z1 := Lib.hid (HS1.out.below B1 (Nat.le_refl _))
  go_wp2_with fail
  refine (rfew10_is a0 len0 cap0 x0 200 (by omega) v1 S1.out).mono ?_
  rintro e v2 ⟨he, hv2⟩
  obtain rfl := hv2.symm
  rcases he with rfl | ⟨rfl, hsh, hn200⟩
  · go_wp2
    go_ret
    exact ⟨rfl, B1⟩
  by_cases g1 : 100 < len1
  · have hi1 := hib.1 g1
    clear hib
    go_wp2
    go_ret
    exact ⟨rfl, B1⟩
  have hi1 := hib.2 (by omega)
  clear hib g1
  go_wp2_with fail
  refine (wwords_is a0 len0 cap0 x0 _ LA ea S1.out HLA.out).mono ?_
  rintro e v3 ⟨p3, k3, c3, o3, rfl, m3, n3, b3⟩
  have B3 := B1.trans (b3.mono B1.size)
  have S3 := Lib.hid (S1.out.below b3 (Nat.le_refl _))
  have Z3 := Lib.hid (Z1.out.below b3 (Nat.le_refl _))
  have M3 := Lib.hid m3.words
  have N3 := Lib.hid n3
  clear b3 m3 n3 S1 Z1
  simp only []
  go_wp2_with fail
  refine (rwords12_is a0 len0 cap0 x0 _ LA ea S3.out HLA.out).mono ?_
  rintro e v4 ⟨p4, k4, c4, o4, rfl, m4, n4, b4⟩
  have B4 := B3.trans (b4.mono B3.size)
  have S4 := Lib.hid (S3.out.below b4 (Nat.le_refl _))
  have Z4 := Lib.hid (Z3.out.below b4 (Nat.le_refl _))
  have M34 := Lib.hid (M3.out.below b4 (Nat.le_refl _))
  have M4 := Lib.hid m4.words
  have N4 := Lib.hid n4
  clear b4 m4 n4 S3 Z3 M3
  simp only []
  go_wp2_with fail
  refine (wfrom_is a0 a1 len0 cap0 len1 cap1 x0 zs a2 _ LX ex S4.out Z4.out HN1.out HLX.out).mono ?_
  rintro e v5 ⟨p5, k5, c5, o5, rfl, m5, n5, b5⟩
  have B5 := B4.trans (b5.mono B4.size)
  have S5 := Lib.hid (S4.out.below b5 (Nat.le_refl _))
  have Z5 := Lib.hid (Z4.out.below b5 (Nat.le_refl _))
  have M35 := Lib.hid (M34.out.below b5 (Nat.le_refl _))
  have M45 := Lib.hid (M4.out.below b5 (Nat.le_refl _))
  have M5 := Lib.hid m5.words
  have N5 := Lib.hid n5
  clear b5 m5 n5 S4 Z4 M34 M4
  simp only []
  go_wp2_with fail
  refine (rfrom12_is a0 a1 len0 cap0 len1 cap1 x0 zs a2 _ LX ex S5.out Z5.out HN1.out HLX.out).mono ?_
  rintro e v6 ⟨p6, k6, c6, o6, rfl, m6, n6, b6⟩
  have B6 := B5.trans (b6.mono B5.size)
  have S6 := Lib.hid (S5.out.below b6 (Nat.le_refl _))
  have Z6 := Lib.hid (Z5.out.below b6 (Nat.le_refl _))
  have M36 := Lib.hid (M35.out.below b6 (Nat.le_refl _))
  have M46 := Lib.hid (M45.out.below b6 (Nat.le_refl _))
  have M56 := Lib.hid (M5.out.below b6 (Nat.le_refl _))
  have M6 := Lib.hid m6.words
  have N6 := Lib.hid n6
  have he1 : (ea == ea) = true := by simp
  have he2 : (ex == ex) = true := by simp
  have he3 : (h == h) = true := by simp
  have he4 : (dp_ == dp_) = true := by simp
  have he5 : ((mn : Int) == (mn : Int)) = true := by simp
  clear b6 m6 n6 S5 Z5 M35 M45 M5 B1 B3 B4 B5
  simp only []
  go_wp2_with fail
  refine (sames_is p3 p4 k3 k4 c3 c4 o3 o4 true _ M36.out M46.out (decide_eq_true (by rw [N3.out, N4.out]))).mono ?_
  rintro e w1 ⟨rfl, q1⟩
  have C1 := below_drawn B6 q1
  have S7 := Lib.hid (S6.out.drawn q1)
  have Z7 := Lib.hid (Z6.out.below (below_drawn (Below.refl _ _) q1) (Nat.le_refl _))
  have M57 := Lib.hid (M56.out.drawn q1)
  have M67 := Lib.hid (M6.out.drawn q1)
  clear q1 S6 Z6 M36 M46 M56 M6
  go_wp2_with fail
  refine (sames_is p5 p6 k5 k6 c5 c6 o5 o6 true _ M57.out M67.out (decide_eq_true (by rw [N5.out, N6.out]))).mono ?_
  rintro e w2 ⟨rfl, q2⟩
  have C2 := below_drawn C1 q2
  have S8 := Lib.hid (S7.out.drawn q2)
  have Z8 := Lib.hid (Z7.out.below (below_drawn (Below.refl _ _) q2) (Nat.le_refl _))
  clear q2 S7 Z7 M57 M67
  go_wp2_with fail
  refine (whas_is a0 a1 len0 cap0 len1 cap1 x0 zs _ h S8.out Z8.out HH.out).mono ?_
  rintro e w3 ⟨rfl, b3⟩
  have C3 := C2.trans (b3.mono C2.size)
  have S9 := Lib.hid (S8.out.below b3 (Nat.le_refl _))
  have Z9 := Lib.hid (Z8.out.below b3 (Nat.le_refl _))
  clear b3 S8 Z8
  go_wp2_with fail
  refine (rhas12_is a0 a1 len0 cap0 len1 cap1 x0 zs _ h S9.out Z9.out HH.out).mono ?_
  rintro e w4 ⟨rfl, b4⟩
  have C4 := C3.trans (b4.mono C3.size)
  have S10 := Lib.hid (S9.out.below b4 (Nat.le_refl _))
  clear b4 S9 Z9
  go_wp2_with fail
  refine (wmany_is a0 len0 cap0 x0 _ mn S10.out HMN.out).mono ?_
  rintro e w5 ⟨rfl, b5⟩
  have C5 := C4.trans (b5.mono C4.size)
  have S11 := Lib.hid (S10.out.below b5 (Nat.le_refl _))
  clear b5 S10
  go_wp2_with fail
  refine (rmany12_is a0 len0 cap0 x0 _ mn S11.out HMN.out).mono ?_
  rintro e w6 ⟨rfl, b6⟩
  have C6 := C5.trans (b6.mono C5.size)
  have S12 := Lib.hid (S11.out.below b6 (Nat.le_refl _))
  clear b6 S11
  go_wp2_with fail
  refine (wdeep_is a0 len0 cap0 x0 _ dp_ S12.out HDP.out).mono ?_
  rintro e w7 ⟨rfl, b7⟩
  have C7 := C6.trans (b7.mono C6.size)
  have S13 := Lib.hid (S12.out.below b7 (Nat.le_refl _))
  clear b7 S12
  go_wp2_with fail
  refine (rdeep12_is a0 len0 cap0 x0 _ dp_ S13.out HDP.out).mono ?_
  rintro e w8 ⟨rfl, b8⟩
  have C8 := C7.trans (b8.mono C7.size)
  clear b8
  go_wp2
  go_ret
  exact ⟨rfl, C8⟩

set_option maxRecDepth 100000 in
theorem lifted (os : Os) (started : os.Started) (H : Type) (enc : TypeId × Value → H) :
    ReturnsInHanded {} Try.checked os 3 .any (Rows.walkTellsSpec.pre6 enc Try.prog Try.f3 Rows.walkTellsRow.domain false) (Rows.walkTellsSpec.post enc Try.prog Try.f3 false true false false) := by
  refine returnsInHanded_of_change (C := Try.checked) own started (by kernel_rfl) Try.func3
    (ChangeSpec.witness6 (enc := enc) (C := Try.checked) false ⟨#[], #[.slice none 0 0, .slice none 0 0, .int .i64 0], []⟩ 8 (by kernel_rfl) (by kernel_rfl) (by kernel_rfl) (by kernel_rfl)) ?_
  intro W base args ds gs before hval0 hW hcnd _
  have hval : ∀ (j : Nat) t v, Try.f3.params[j]? = some t → args[j]? = some v → Value.okWide Try.prog W .any base t v := hval0
  have hW' := hW
  obtain ⟨p, q, hA0, hV, rfl, hfz, hnd⟩ := hW
  have hA : DataW.TrodAll enc Try.prog W 0 (fun _ => true) true Try.f3.params.toList args.toList ds p := hA0
  rw [Try.params3] at hA hval
  obtain ⟨v0, vs0, d0, ds0, p0, q0, hargs, rfl, rfl, h0, r0⟩ := trodAll_cons hA
  obtain ⟨v1, vs1, d1, ds1, p1, q1, rfl, rfl, rfl, h1, r1⟩ := trodAll_cons r0
  obtain ⟨v2, vs2, d2, ds2, p2, q2, rfl, rfl, rfl, h2, r2⟩ := trodAll_cons r1
  obtain ⟨rfl, rfl, rfl⟩ := trodAll_nil r2
  obtain rfl : args = #[v0, v1, v2] := by cases args; simp_all
  obtain ⟨rfl, rfl⟩ := trodVars_none hV
  obtain ⟨a0, len0, cap0, rfl⟩ := okWide_slice Try.underlying22 (hval 0 22 v0 rfl rfl)
  have k0 := h0
  have lt0 : ∀ x ∈ p0, x.block < W.heap.size := by obtain ⟨m, hm⟩ := k0; exact DataW.trod_lt m _ _ _ hm
  obtain ⟨x0, w0, n0⟩ : ∃ xs, Ss W a0 len0 cap0 xs ∧ (a0 = none → cap0 = 0) := by
    obtain ⟨fuel, hf⟩ := h0
    obtain ⟨a, l, c, xs, hcs, hrs, hnil⟩ := Ss.open hf
    simp only [Value.slice.injEq] at hcs
    obtain ⟨rfl, rfl, rfl⟩ := hcs
    exact ⟨xs, hrs, hnil⟩
  obtain ⟨a1, len1, cap1, rfl⟩ := okWide_slice Try.underlying23 (hval 1 23 v1 rfl rfl)
  have k1 := h1
  have lt1 : ∀ x ∈ p1, x.block < W.heap.size := by obtain ⟨m, hm⟩ := k1; exact DataW.trod_lt m _ _ _ hm
  obtain ⟨z1, w1⟩ : ∃ zs, IsRow .i64 W a1 len1 cap1 zs := by
    obtain ⟨fuel, hf⟩ := h1
    rcases open_ints Try.underlying23 Try.underlying3 (by kernel_rfl) hf with ⟨hcs, _⟩ | ⟨x, l, c, zs, hcs, _, hl, hm, hz, _, hcell, hwz⟩
    · simp [Value.cells] at hcs
      obtain ⟨rfl, rfl, rfl⟩ := hcs
      exact ⟨[], .inl ⟨rfl, rfl, rfl, rfl⟩⟩
    · simp [Value.cells] at hcs
      obtain ⟨rfl, rfl, rfl⟩ := hcs
      exact ⟨zs, .inr ⟨_, rfl, hl, hm, by simpa using hz, hcell, hwz⟩⟩
  obtain ⟨a2, rfl, rfl, rfl, w2⟩ := open_int Try.underlying3 (hval 2 3 v2 rfl rfl) h2
  clear hA0 hval0
  refine (walk a0 len0 cap0 x0 a1 len1 cap1 z1 a2 W w0 n0 w1 w2).mono fun e W' ⟨he, bel⟩ => ?_
  subst he
  exact ⟨_, rfl, _, _, _, [], _, [], hW', trodAll_mk1 (shut_bool Try.underlying4 _), (trodAll_cons_mk (Below.trod laidOut (by kernel_rfl) (of_decide_eq_true (by kernel_rfl)) k0 bel lt0) (trodAll_cons_mk (Below.trod laidOut (by kernel_rfl) (of_decide_eq_true (by kernel_rfl)) k1 bel lt1) (trodAll_cons_mk (shut_int Try.underlying3 w2) trodAll_mk0))), rfl, bel.frame _, fun h => by cases h⟩

theorem over : Rows.walkTellsRow.holds Try.pinned (OpenSpec.ofChange Rows.walkTellsSpec) :=
  OpenClaim.holds_of_wide 3 Try.f3 rfl rfl rfl rfl rfl rfl rfl ⟨rfl, rfl, rfl, rfl, rfl⟩ rfl rfl rfl rfl rfl (by kernel_rfl) Try.func3 (by kernel_rfl)
    (of_decide_eq_true (by kernel_rfl)) (by unfold Func.isWrapper; first | (rw [if_pos (by decide +kernel)]; kernel_rfl) | (rw [if_neg (by decide +kernel)]; exact ⟨rfl, rfl⟩))
    (fun os started H enc _ => lifted os started H enc)

/-- the statement -/
theorem proved : Rows.WalkTellsSaid := over
#print axioms proved
end Go.Proofs.Ytimjdlbhbiklgaa.walkTells
