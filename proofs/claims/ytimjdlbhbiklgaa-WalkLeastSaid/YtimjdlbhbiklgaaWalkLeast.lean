/- For every automaton, WalkLeast answers true, and turns nothing that was there. No condition. -/
import Derived.Test.YtimjdlbhbiklgaaRows
import Derived.Test.YtimjdlbhbiklgaaWalkAwake
import Derived.Test.YtimjdlbhbiklgaaWalkFrom
import Derived.Test.YtimjdlbhbiklgaaPackZ
import Derived.Test.YtimjdlbhbiklgaaWalkUsed
import Derived.Test.YtimjdlbhbiklgaaDawgProg
import Derived.Test.YtimjdlbhbiklgaaTrieOpen
import Derived.Test.YtimjdlbhbiklgaaPackM
import Derived.Test.YtimjdlbhbiklgaaPackJ
import Derived.WalkKit
import Derived.ProofKit
import Derived.OpenShut
import Derived.ShutString
import Derived.ChangeOld
import Derived.Below
import Derived.Deep.Matrix
import Derived.SizedLaws
namespace Go.Proofs.Ytimjdlbhbiklgaa.walkLeast
open Go.ChangeShapes Go.WideShapes Go.ChangeAt Go.RowKit
set_option linter.unusedVariables false

theorem own : ownKnob Try.prog.godebug = none := by kernel_rfl
theorem laidOut : laidOutB Try.prog = true := by kernel_rfl

/-- a slice of integers that came in -/
def IsRow (k : IntKind) (w : World) (a : Option Addr) (len cap : Nat) (zs : List Int) : Prop :=
  (a = none ∧ len = 0 ∧ cap = 0 ∧ zs = []) ∨
  ∃ x, a = some x ∧ len ≤ cap ∧ cap ≤ maxLen ∧ zs.length = cap ∧ (∀ i, i < zs.length → w.cell? (x.add i) = some (.int k (zs.getD i 0))) ∧ ∀ n ∈ zs, (Lit.int k n).wf = true

open Tri Daw Wlk

/-! ### STEP 1: the walk -/
set_option maxHeartbeats 6400000 in
set_option maxRecDepth 100000 in
theorem walk (a0 : Option Addr) (len0 cap0 : Nat) (x0 : List Sw) (w : World) (w0 : Ss w a0 len0 cap0 x0) (n0 : a0 = none → cap0 = 0) :
    Calls Try.prog 6 #[.slice a0 len0 cap0] w fun e w' => e = .returned (.bool true) ∧ Below w.heap.size w w' := by
  have hcm0 := w0.2.2.1
  have hnc0 := w0.2.1
  unfold maxLen at hcm0
  have HX0 := Lib.hid w0
  clear w0 n0
  obtain ⟨⟨LA, ea⟩, hla⟩ : ∃ r, wordsC (sts x0) = r := ⟨_, rfl⟩
  have HLA := Lib.hid hla
  have HWE := Lib.hid (words_err hla)
  have HLN : Hid ((sts x0).length = len0) := by show _ = _; rw [sts_length, HX0.out.1]
  obtain ⟨ck, hck⟩ : ∃ r, check (sts x0) = r := ⟨_, rfl⟩
  have HCK := Lib.hid hck
  obtain ⟨er, her⟩ : ∃ er, (Wl.write LA).2 = er := ⟨_, rfl⟩
  obtain ⟨dl, hdl, hdm⟩ := Wlk.dmade_is (ws := LA)
  rw [her] at hdl hdm
  have HD := Lib.hid hdl
  have HDM := Lib.hid hdm
  have HER := Lib.hid her
  clear hla hck hdl hdm her
  go_enter Try.func6, Try.ntmps6
  go_wp2_with fail
  refine (awake_any _).mono ?_
  rintro e v1 ⟨rfl, B1⟩
  have S1 := Lib.hid (HX0.out.below B1 (Nat.le_refl _))
  go_wp2_with fail
  refine (wwords_is a0 len0 cap0 x0 _ LA ea S1.out HLA.out).mono ?_
  rintro e v3 ⟨p3, k3, c3, o3, rfl, m3, n3, b3⟩
  have B3 := B1.trans (b3.mono B1.size)
  have S3 := Lib.hid (S1.out.below b3 (Nat.le_refl _))
  have M3 := Lib.hid m3.words
  have HN3 := Lib.hid m3.nil
  have N3 := Lib.hid n3
  clear b3 m3 n3 S1
  simp only []
  go_wp2_with fail
  refine (rfew10_is a0 len0 cap0 x0 200 (by omega) v3 S3.out).mono ?_
  rintro e v2 ⟨he, hv2⟩
  obtain rfl := hv2.symm
  rcases he with rfl | ⟨rfl, hsh, hn200⟩
  · go_wp2
    go_ret
    exact ⟨rfl, B3⟩
  rcases HWE.out with ⟨rfl, hc, hL, hl3, -⟩ | ⟨rfl, -, -⟩ | ⟨rfl, -, -, -⟩
  rotate_left
  · go_wp2
    go_ret
    exact ⟨rfl, B3⟩
  · go_wp2
    go_ret
    exact ⟨rfl, B3⟩
  obtain rfl : ck = true := by rw [← HCK.out]; exact hc
  have HC := Lib.hid hc
  have HL := Lib.hid hL
  have HE9 := Lib.hid (write_some LA hl3)
  clear hc hL hl3
  go_wp2_with fail
  refine (rcheck10_is a0 len0 cap0 x0 true _ S3.out HCK.out).mono ?_
  rintro e v4 ⟨rfl, b4⟩
  have B4 := B3.trans (b4.mono B3.size)
  have S4 := Lib.hid (S3.out.below b4 (Nat.le_refl _))
  have M4 := Lib.hid (M3.out.below b4 (Nat.le_refl _))
  clear b4 S3 M3
  have HD3 : Hid (dmade (nums o3) = (dl, er)) := by show _ = _; rw [N3.out]; exact HD.out
  go_wp2_with fail
  refine (Go.Proofs.Ytimjdlbhbiklgaa.dmake_is p3 k3 c3 o3 (dl, er) _ M4.out HN3.out HD3.out).mono ?_
  rintro e v5 ⟨p5, n5, c5, y5, rfl, hs5, hst5, -, hb5⟩
  have B5 := B4.trans (hb5.mono B4.size)
  have S5 := Lib.hid (S4.out.below hb5 (Nat.le_refl _))
  have M5 := Lib.hid (M4.out.below hb5 (Nat.le_refl _))
  have Z5 := Lib.hid hs5
  have T5 : Hid (sts y5 = dl) := hst5
  clear hb5 hs5 hst5 S4 M4
  simp only []
  by_cases hge : er = 0
  rotate_left
  · obtain rfl : er = 90 := by
      rcases HE9.out with h | h
      · exact absurd (HER.out.symm.trans h) hge
      · exact HER.out.symm.trans h
    clear hge
    go_wp2
    go_ret
    exact ⟨rfl, B5⟩
  subst hge
  have HMD : Hid (Mds (sts y5) LA) := by show Mds _ _; rw [T5.out, HDM.out rfl]; exact mds_dmake HER.out
  have HSH : Hid (Tri.Short (wds (sts x0) 0)) := by show Tri.Short _; rw [← HL.out]; exact (made_good HER.out).2.1
  have HN5 : Hid (n5 = (kinds (wds (sts x0) 0)).length) := by
    show _ = _
    rw [← HL.out, ← dmake_length, ← HDM.out rfl, ← T5.out, sts_length, Z5.out.1]
  have hle : n5 ≤ len0 := by
    have h := kinds_states HC.out HSH.out
    rw [HLN.out, ← HN5.out] at h; exact h
  have hled : decide ((n5 : Int) ≤ (len0 : Int)) = true := decide_eq_true (by omega)
  have HEQ : Hid (least (sts x0) = true → Used (sts x0) → len0 = n5) := fun h1 h2 => by
    have h := states_kinds h1 h2 HSH.out
    rw [HLN.out, ← HN5.out] at h; omega
  clear HD HDM T5
  go_wp2_with fail
  refine (wwords_is p5 n5 c5 y5 _ LA 0 Z5.out HMD.out.words).mono ?_
  rintro e v6 ⟨p6, k6, c6, o6, rfl, m6, n6, b6⟩
  have B6 := B5.trans (b6.mono B5.size)
  have S6 := Lib.hid (S5.out.below b6 (Nat.le_refl _))
  have M6 := Lib.hid (M5.out.below b6 (Nat.le_refl _))
  have X6 := Lib.hid m6.words
  have N6 := Lib.hid n6
  clear b6 m6 n6 S5 M5
  simp only []
  obtain ⟨lv, hlv⟩ : ∃ r, least (sts x0) = r := ⟨_, rfl⟩
  have HLV := Lib.hid hlv
  clear hlv
  go_wp2_with fail
  refine (dleast_is a0 len0 cap0 x0 lv _ S6.out HLV.out).mono ?_
  rintro e v7 ⟨rfl, b7⟩
  have B7 := B6.trans (b7.mono B6.size)
  have S7 := Lib.hid (S6.out.below b7 (Nat.le_refl _))
  have M7 := Lib.hid (M6.out.below b7 (Nat.le_refl _))
  have X7 := Lib.hid (X6.out.below b7 (Nat.le_refl _))
  clear b7 S6 M6 X6
  cases lv
  · go_wp2_with fail
    refine (sames_is p6 p3 k6 k3 c6 c3 o6 o3 true _ X7.out M7.out (decide_eq_true (by rw [N6.out, N3.out]))).mono ?_
    rintro e w1 ⟨rfl, q1⟩
    have C1 := below_drawn B7 q1
    clear q1
    go_wp2
    go_ret
    exact ⟨rfl, C1⟩
  · go_wp2_with fail
    refine (used_is HC.out a0 len0 cap0 x0 _ S7.out rfl).mono ?_
    rintro e v8 ⟨r, rfl, hu, b8⟩
    have B8 := B7.trans (b8.mono B7.size)
    have M8 := Lib.hid (M7.out.below b8 (Nat.le_refl _))
    have X8 := Lib.hid (X7.out.below b8 (Nat.le_refl _))
    have HU := Lib.hid hu
    clear b8 hu S7 M7 X7
    cases r
    · go_wp2_with fail
      refine (sames_is p6 p3 k6 k3 c6 c3 o6 o3 true _ X8.out M8.out (decide_eq_true (by rw [N6.out, N3.out]))).mono ?_
      rintro e w1 ⟨rfl, q1⟩
      have C1 := below_drawn B8 q1
      clear q1
      go_wp2
      go_ret
      exact ⟨rfl, C1⟩
    · obtain rfl : len0 = n5 := HEQ.out HLV.out (HU.out rfl)
      have hnn : ((len0 : Int) == (len0 : Int)) = true := by simp
      go_wp2_with fail
      refine (sames_is p6 p3 k6 k3 c6 c3 o6 o3 true _ X8.out M8.out (decide_eq_true (by rw [N6.out, N3.out]))).mono ?_
      rintro e w1 ⟨rfl, q1⟩
      have C1 := below_drawn B8 q1
      clear q1
      go_wp2
      go_ret
      exact ⟨rfl, C1⟩

set_option maxRecDepth 100000 in
theorem lifted (os : Os) (started : os.Started) (H : Type) (enc : TypeId × Value → H) :
    ReturnsInHanded {} Try.checked os 6 .any (Rows.walkLeastSpec.pre6 enc Try.prog Try.f6 Rows.walkLeastRow.domain false) (Rows.walkLeastSpec.post enc Try.prog Try.f6 false true false false) := by
  refine returnsInHanded_of_change (C := Try.checked) own started (by kernel_rfl) Try.func6
    (ChangeSpec.witness6 (enc := enc) (C := Try.checked) false ⟨#[], #[.slice none 0 0], []⟩ 8 (by kernel_rfl) (by kernel_rfl) (by kernel_rfl) (by kernel_rfl)) ?_
  intro W base args ds gs before hval0 hW hcnd _
  have hval : ∀ (j : Nat) t v, Try.f6.params[j]? = some t → args[j]? = some v → Value.okWide Try.prog W .any base t v := hval0
  have hW' := hW
  obtain ⟨p, q, hA0, hV, rfl, hfz, hnd⟩ := hW
  have hA : DataW.TrodAll enc Try.prog W 0 (fun _ => true) true Try.f6.params.toList args.toList ds p := hA0
  rw [Try.params6] at hA hval
  obtain ⟨v0, vs0, d0, ds0, p0, q0, hargs, rfl, rfl, h0, r0⟩ := trodAll_cons hA
  obtain ⟨rfl, rfl, rfl⟩ := trodAll_nil r0
  obtain rfl : args = #[v0] := by cases args; simp_all
  obtain ⟨rfl, rfl⟩ := trodVars_none hV
  obtain ⟨a0, len0, cap0, rfl⟩ := okWide_slice Try.underlying22 (hval 0 22 v0 rfl rfl)
  have k0 := h0
  have lt0 : ∀ x ∈ p0, x.block < W.heap.size := by obtain ⟨m, hm⟩ := k0; exact DataW.trod_lt m _ _ _ hm
  obtain ⟨x0, w0, n0⟩ : ∃ xs, Ss W a0 len0 cap0 xs ∧ (a0 = none → cap0 = 0) := by
    obtain ⟨fuel, hf⟩ := h0
    obtain ⟨a, l, c, xs, hcs, hrs, hnil⟩ := Ss.open hf
    simp only [Value.slice.injEq] at hcs
    obtain ⟨rfl, rfl, rfl⟩ := hcs
    exact ⟨xs, hrs, hnil⟩
  clear hA0 hval0
  refine (walk a0 len0 cap0 x0 W w0 n0).mono fun e W' ⟨he, bel⟩ => ?_
  subst he
  exact ⟨_, rfl, _, _, _, [], _, [], hW', trodAll_mk1 (shut_bool Try.underlying4 _), (trodAll_cons_mk (Below.trod laidOut (by kernel_rfl) (of_decide_eq_true (by kernel_rfl)) k0 bel lt0) trodAll_mk0), rfl, bel.frame _, fun h => by cases h⟩

theorem over : Rows.walkLeastRow.holds Try.pinned (OpenSpec.ofChange Rows.walkLeastSpec) :=
  OpenClaim.holds_of_wide 6 Try.f6 rfl rfl rfl rfl rfl rfl rfl ⟨rfl, rfl, rfl, rfl, rfl⟩ rfl rfl rfl rfl rfl (by kernel_rfl) Try.func6 (by kernel_rfl)
    (of_decide_eq_true (by kernel_rfl)) (by unfold Func.isWrapper; first | (rw [if_pos (by decide +kernel)]; kernel_rfl) | (rw [if_neg (by decide +kernel)]; exact ⟨rfl, rfl⟩))
    (fun os started H enc _ => lifted os started H enc)

/-- the statement -/
theorem proved : Rows.WalkLeastSaid := over
#print axioms proved
end Go.Proofs.Ytimjdlbhbiklgaa.walkLeast
