/- For all words and every word, WalkMakes answers true, and turns nothing that was there. No condition. -/
import Derived.Test.YtimjdlbhbiklgaaRows
import Derived.Test.YtimjdlbhbiklgaaWalkAwake
import Derived.Test.YtimjdlbhbiklgaaWalkFrom
import Derived.Test.YtimjdlbhbiklgaaWalkHas
import Derived.Test.YtimjdlbhbiklgaaPackZ
import Derived.Test.YtimjdlbhbiklgaaDawgProg
import Derived.Test.YtimjdlbhbiklgaaPackJ
import Derived.WalkKit
import Derived.ProofKit
import Derived.OpenShut
import Derived.ShutString
import Derived.ChangeOld
import Derived.Below
import Derived.Deep.Matrix
import Derived.SizedLaws
namespace Go.Proofs.Ytimjdlbhbiklgaa.walkMakes
open Go.ChangeShapes Go.WideShapes Go.ChangeAt Go.RowKit
set_option linter.unusedVariables false

theorem own : ownKnob Try.prog.godebug = none := by kernel_rfl
theorem laidOut : laidOutB Try.prog = true := by kernel_rfl

/-- a slice of integers that came in -/
def IsRow (k : IntKind) (w : World) (a : Option Addr) (len cap : Nat) (zs : List Int) : Prop :=
  (a = none ∧ len = 0 ∧ cap = 0 ∧ zs = []) ∨
  ∃ x, a = some x ∧ len ≤ cap ∧ cap ≤ maxLen ∧ zs.length = cap ∧ (∀ i, i < zs.length → w.cell? (x.add i) = some (.int k (zs.getD i 0))) ∧ ∀ n ∈ zs, (Lit.int k n).wf = true

open Tri Daw Wlk

/-! ### STEP 1: the walk -/
set_option maxHeartbeats 6400000 in
set_option maxRecDepth 100000 in
theorem walk (a0 : Option Addr) (len0 cap0 : Nat) (x0 : List Wd) (a1 : Option Addr) (len1 cap1 : Nat) (z1 : List Int) (w : World) (w0 : Ws w a0 len0 cap0 x0) (n0 : a0 = none → cap0 = 0) (w1 : IsRow .i64 w a1 len1 cap1 z1) :
    Calls Try.prog 4 #[.slice a0 len0 cap0, .slice a1 len1 cap1] w fun e w' => e = .returned (.bool true) ∧ Below w.heap.size w w' := by
  have hcm0 := w0.2.2.1
  have hnc0 := w0.2.1
  unfold maxLen at hcm0
  have HX0 := Lib.hid w0
  have HXN0 := Lib.hid n0
  clear w0 n0
  have hn10 : a1 = none → cap1 = 0 := by
    rcases w1 with ⟨_, _, h, _⟩ | ⟨x, h, _⟩
    · exact fun _ => h
    · intro h'; rw [h] at h'; cases h'
  have HN1 := Lib.hid hn10
  clear hn10
  have hs1 := Sl.of_row w1
  generalize z1.take len1 = zs at hs1
  have hcm1 := hs1.2.2.1
  have hnc1 := hs1.2.1
  unfold maxLen at hcm1
  have HS1 := Lib.hid hs1
  have HLEN1 := Lib.hid hs1.1
  clear hs1 w1
  obtain ⟨er, her⟩ : ∃ er, (Wl.write (nums x0)).2 = er := ⟨_, rfl⟩
  obtain ⟨gl, hgl, hgm⟩ := made_is (ws := nums x0)
  obtain ⟨dl, hdl, hdm⟩ := Wlk.dmade_is (ws := nums x0)
  rw [her] at hgl hgm hdl hdm
  have HG := Lib.hid hgl
  have HD := Lib.hid hdl
  have HGM := Lib.hid hgm
  have HDM := Lib.hid hdm
  have HER := Lib.hid her
  have HLX : Hid ((nums x0).length = len0) := by show _ = _; rw [nums_length, HX0.out.1]
  have hib : (100 < len1 → (100 : Int) < (len1 : Int)) ∧ (len1 ≤ 100 → ¬ (100 : Int) < (len1 : Int)) := ⟨fun h => by omega, fun h => by omega⟩
  clear hgl hgm hdl hdm her
  go_enter Try.func4, Try.ntmps4
  go_wp2_with fail
  refine (awake_any _).mono ?_
  rintro e v1 ⟨rfl, B1⟩
  have X1 := Lib.hid (HX0.out.below B1 (Nat.le_refl _))
  have S1 := Lib.hid (HS1.out.below B1 (Nat.le_refl _))
  go_wp2_with fail
  refine (few_of 100 100 a0 len0 cap0 x0 _ rfl X1.out).mono ?_
  rintro e v3 ⟨he, rfl⟩
  rcases he with rfl | ⟨rfl, -, hn100⟩
  · go_wp2
    go_ret
    exact ⟨rfl, B1⟩
  by_cases g1 : 100 < len1
  · have hi1 := hib.1 g1
    clear hib
    go_wp2
    go_ret
    exact ⟨rfl, B1⟩
  have hi1 := hib.2 (by omega)
  clear hib
  go_wp2_with fail
  refine (tmake_is a0 len0 cap0 x0 _ _ X1.out HXN0.out HG.out).mono ?_
  rintro e v4 ⟨p4, n4, c4, y4, rfl, hs4, hst4, -, hb4⟩
  have B4 := B1.trans (hb4.mono B1.size)
  have X4 := Lib.hid (X1.out.below hb4 (Nat.le_refl _))
  have S4 := Lib.hid (S1.out.below hb4 (Nat.le_refl _))
  have Y4 := Lib.hid hs4
  have T4 : Hid (sts y4 = gl) := hst4
  clear hb4 hs4 hst4
  simp only []
  go_wp2_with fail
  refine (Go.Proofs.Ytimjdlbhbiklgaa.dmake_is a0 len0 cap0 x0 _ _ X4.out HXN0.out HD.out).mono ?_
  rintro e v5 ⟨p5, n5, c5, y5, rfl, hs5, hst5, -, hb5⟩
  have B5 := B4.trans (hb5.mono B4.size)
  have X5 := Lib.hid (X4.out.below hb5 (Nat.le_refl _))
  have S5 := Lib.hid (S4.out.below hb5 (Nat.le_refl _))
  have Y5 := Lib.hid (Y4.out.below hb5 (Nat.le_refl _))
  have Z5 := Lib.hid hs5
  have T5 : Hid (sts y5 = dl) := hst5
  clear hb5 hs5 hst5 X4 S4 Y4
  simp only []
  by_cases hge : er = 0
  rotate_left
  · have hne : (er != 0) = true := by simpa using hge
    have hee : (er == er) = true := by simp
    clear hge
    go_wp2
    go_ret
    exact ⟨rfl, B5⟩
  subst hge
  have HMG : Hid (Mds (sts y4) (nums x0)) := by show Mds _ _; rw [T4.out, HGM.out rfl]; exact mds_make HER.out
  have HMD : Hid (Mds (sts y5) (nums x0)) := by show Mds _ _; rw [T5.out, HDM.out rfl]; exact mds_dmake HER.out
  have HRI : Hid (Rise (nums x0)) := (made_good HER.out).2.2.1
  obtain ⟨is, his⟩ : ∃ r, decide (zs ∈ nums x0) = r := ⟨_, rfl⟩
  have HIS := Lib.hid his
  clear his HG HD HGM HDM T4 T5
  go_wp2_with fail
  refine (wwords_is p4 n4 c4 y4 _ (nums x0) 0 Y5.out HMG.out.words).mono ?_
  rintro e v6 ⟨p6, k6, c6, o6, rfl, m6, n6, b6⟩
  have B6 := B5.trans (b6.mono B5.size)
  have X6 := Lib.hid (X5.out.below b6 (Nat.le_refl _))
  have S6 := Lib.hid (S5.out.below b6 (Nat.le_refl _))
  have Y6 := Lib.hid (Y5.out.below b6 (Nat.le_refl _))
  have Z6 := Lib.hid (Z5.out.below b6 (Nat.le_refl _))
  have M6 := Lib.hid m6.words
  have N6 := Lib.hid n6
  clear b6 m6 n6 X5 S5 Y5 Z5
  simp only []
  go_wp2_with fail
  refine (wwords_is p5 n5 c5 y5 _ (nums x0) 0 Z6.out HMD.out.words).mono ?_
  rintro e v7 ⟨p7, k7, c7, o7, rfl, m7, n7, b7⟩
  have B7 := B6.trans (b7.mono B6.size)
  have X7 := Lib.hid (X6.out.below b7 (Nat.le_refl _))
  have S7 := Lib.hid (S6.out.below b7 (Nat.le_refl _))
  have Y7 := Lib.hid (Y6.out.below b7 (Nat.le_refl _))
  have Z7 := Lib.hid (Z6.out.below b7 (Nat.le_refl _))
  have M67 := Lib.hid (M6.out.below b7 (Nat.le_refl _))
  have M7 := Lib.hid m7.words
  have N7 := Lib.hid n7
  clear b7 m7 n7 X6 S6 Y6 Z6 M6
  simp only []
  go_wp2_with fail
  refine (find_is a0 a1 len0 len1 cap0 cap1 x0 zs _ is _ X7.out S7.out HRI.out rfl HIS.out (by omega)).mono ?_
  rintro e v8 ⟨rfl, b8⟩
  have B8 := B7.trans (b8.mono B7.size)
  have X8 := Lib.hid (X7.out.below b8 (Nat.le_refl _))
  have S8 := Lib.hid (S7.out.below b8 (Nat.le_refl _))
  have Y8 := Lib.hid (Y7.out.below b8 (Nat.le_refl _))
  have Z8 := Lib.hid (Z7.out.below b8 (Nat.le_refl _))
  have M68 := Lib.hid (M67.out.below b8 (Nat.le_refl _))
  have M78 := Lib.hid (M7.out.below b8 (Nat.le_refl _))
  clear b8 X7 S7 Y7 Z7 M67 M7
  simp only []
  go_wp2
  go_loopw [16, 17] (fun dv ix wr => ∃ (i : Nat) (d : Int), i ≤ len0 ∧ dv = .int .i64 d ∧ ix = .int .i64 (i : Int) ∧ Hid (dp ((nums x0).take i) = d) ∧ Hid (Below v8.heap.size v8 wr)) (fun _ ix _ => len0 - (intOf ix).toNat)
  case atStart => exact ⟨0, -1, Nat.zero_le _, rfl, rfl, rfl, Below.refl _ _⟩
  case round =>
    obtain ⟨i, d, hi, rfl, rfl, HDP, HB⟩ := hrel
    by_cases hlt : i < len0
    · obtain ⟨b1, o1, za, zn, zc, z, rfl, hb1, hgd, hcl, hsl, hz⟩ := X8.out.one i hlt
      have hclw : wr.cell? ⟨b1, o1 + i, none⟩ = some (.slice za zn zc) := by rw [HB.out.cell (p := ⟨b1, o1 + i, none⟩) hb1]; exact hcl
      have hlti : (i : Int) < (len0 : Int) := by omega
      obtain ⟨d2, hd2⟩ : ∃ d2, max d (zn : Int) = d2 := ⟨_, rfl⟩
      have HDN : Hid (dp ((nums x0).take (i + 1)) = d2) := by
        show _ = _
        rw [dp_take (by rw [HLX.out]; exact hlt) hz, HDP.out, hsl.1]; exact hd2
      clear hgd hcl hsl hz hb1
      go_wp2
      go_roundw
      case rel => exact ⟨i + 1, d2, by omega, rfl, by go_num, HDN.out, HB.out⟩
      case measure => simp [intOf]; omega
    · obtain rfl : len0 = i := by omega
      have B9 := B8.trans (HB.out.mono B8.size)
      have X9 := Lib.hid (X8.out.below HB.out (Nat.le_refl _))
      have S9 := Lib.hid (S8.out.below HB.out (Nat.le_refl _))
      have Y9 := Lib.hid (Y8.out.below HB.out (Nat.le_refl _))
      have Z9 := Lib.hid (Z8.out.below HB.out (Nat.le_refl _))
      have M69 := Lib.hid (M68.out.below HB.out (Nat.le_refl _))
      have M79 := Lib.hid (M78.out.below HB.out (Nat.le_refl _))
      have HDD : Hid (deepC (sts y5) = d) := by
        show _ = _
        rw [HMD.out.deep, ← HDP.out, ← HLX.out, List.take_length]
      have HMM : Hid (manyC (sts y5) = len0) := by show _ = _; rw [HMD.out.many]; exact HLX.out
      have H1 : Hid (hasC (sts y4) zs = is) := by show _ = _; rw [HMG.out.has, HIS.out]
      have H2 : Hid (hasC (sts y5) zs = is) := by show _ = _; rw [HMD.out.has, HIS.out]
      have hbb : (is == is) = true := by simp
      have hdd : (d == d) = true := by simp
      clear X8 S8 Y8 Z8 M68 M78 hi B1 B4 B5 B6 B7 B8
      go_wp2_with fail
      refine (sames_is p6 a0 k6 len0 c6 cap0 o6 x0 true _ M69.out X9.out (decide_eq_true N6.out)).mono ?_
      rintro e w1 ⟨rfl, q1⟩
      have C1 := below_drawn B9 q1
      have X10 := Lib.hid (X9.out.drawn q1)
      have S10 := Lib.hid (S9.out.below (below_drawn (Below.refl _ _) q1) (Nat.le_refl _))
      have Y10 := Lib.hid (Y9.out.drawn q1)
      have Z10 := Lib.hid (Z9.out.drawn q1)
      have M710 := Lib.hid (M79.out.drawn q1)
      clear q1 X9 S9 Y9 Z9 M69 M79
      go_wp2_with fail
      refine (sames_is p7 a0 k7 len0 c7 cap0 o7 x0 true _ M710.out X10.out (decide_eq_true N7.out)).mono ?_
      rintro e w2 ⟨rfl, q2⟩
      have C2 := below_drawn C1 q2
      have S11 := Lib.hid (S10.out.below (below_drawn (Below.refl _ _) q2) (Nat.le_refl _))
      have Y11 := Lib.hid (Y10.out.drawn q2)
      have Z11 := Lib.hid (Z10.out.drawn q2)
      clear q2 X10 S10 Y10 Z10 M710
      go_wp2_with fail
      refine (whas_is p4 a1 n4 c4 len1 cap1 y4 zs _ is Y11.out S11.out H1.out).mono ?_
      rintro e w3 ⟨rfl, b3⟩
      have C3 := C2.trans (b3.mono C2.size)
      have S12 := Lib.hid (S11.out.below b3 (Nat.le_refl _))
      have Z12 := Lib.hid (Z11.out.below b3 (Nat.le_refl _))
      clear b3 S11 Y11 Z11
      go_wp2_with fail
      refine (whas_is p5 a1 n5 c5 len1 cap1 y5 zs _ is Z12.out S12.out H2.out).mono ?_
      rintro e w4 ⟨rfl, b4⟩
      have C4 := C3.trans (b4.mono C3.size)
      have Z13 := Lib.hid (Z12.out.below b4 (Nat.le_refl _))
      clear b4 S12 Z12
      go_wp2_with fail
      refine (wmany_is p5 n5 c5 y5 _ len0 Z13.out HMM.out).mono ?_
      rintro e w5 ⟨rfl, b5⟩
      have C5 := C4.trans (b5.mono C4.size)
      have Z14 := Lib.hid (Z13.out.below b5 (Nat.le_refl _))
      clear b5 Z13
      go_wp2_with fail
      refine (wdeep_is p5 n5 c5 y5 _ d Z14.out HDD.out).mono ?_
      rintro e w6 ⟨rfl, b6⟩
      have C6 := C5.trans (b6.mono C5.size)
      clear b6 Z14
      go_wp2
      go_ret
      exact ⟨rfl, C6⟩

set_option maxRecDepth 100000 in
theorem lifted (os : Os) (started : os.Started) (H : Type) (enc : TypeId × Value → H) :
    ReturnsInHanded {} Try.checked os 4 .any (Rows.walkMakesSpec.pre6 enc Try.prog Try.f4 Rows.walkMakesRow.domain false) (Rows.walkMakesSpec.post enc Try.prog Try.f4 false true false false) := by
  refine returnsInHanded_of_change (C := Try.checked) own started (by kernel_rfl) Try.func4
    (ChangeSpec.witness6 (enc := enc) (C := Try.checked) false ⟨#[], #[.slice none 0 0, .slice none 0 0], []⟩ 8 (by kernel_rfl) (by kernel_rfl) (by kernel_rfl) (by kernel_rfl)) ?_
  intro W base args ds gs before hval0 hW hcnd _
  have hval : ∀ (j : Nat) t v, Try.f4.params[j]? = some t → args[j]? = some v → Value.okWide Try.prog W .any base t v := hval0
  have hW' := hW
  obtain ⟨p, q, hA0, hV, rfl, hfz, hnd⟩ := hW
  have hA : DataW.TrodAll enc Try.prog W 0 (fun _ => true) true Try.f4.params.toList args.toList ds p := hA0
  rw [Try.params4] at hA hval
  obtain ⟨v0, vs0, d0, ds0, p0, q0, hargs, rfl, rfl, h0, r0⟩ := trodAll_cons hA
  obtain ⟨v1, vs1, d1, ds1, p1, q1, rfl, rfl, rfl, h1, r1⟩ := trodAll_cons r0
  obtain ⟨rfl, rfl, rfl⟩ := trodAll_nil r1
  obtain rfl : args = #[v0, v1] := by cases args; simp_all
  obtain ⟨rfl, rfl⟩ := trodVars_none hV
  obtain ⟨a0, len0, cap0, rfl⟩ := okWide_slice Try.underlying26 (hval 0 26 v0 rfl rfl)
  have k0 := h0
  have lt0 : ∀ x ∈ p0, x.block < W.heap.size := by obtain ⟨m, hm⟩ := k0; exact DataW.trod_lt m _ _ _ hm
  obtain ⟨x0, w0, n0⟩ : ∃ xs, Ws W a0 len0 cap0 xs ∧ (a0 = none → cap0 = 0) := by
    obtain ⟨fuel, hf⟩ := h0
    rcases Go.Deep.open_int_rows Try.underlying26 Try.underlying23 Try.underlying3 (by kernel_rfl) (by kernel_rfl) hf with ⟨hcs, _⟩ | ⟨x, l, c, A, L, C, Z, hcs, _, hl, hm, _, hr⟩
    · simp [Value.cells] at hcs
      obtain ⟨rfl, rfl, rfl⟩ := hcs
      exact ⟨[], Ws.nil, fun _ => rfl⟩
    · simp [Value.cells] at hcs
      obtain ⟨rfl, rfl, rfl⟩ := hcs
      exact ⟨_, Ws.of_rows hl hm hr, fun h => by cases h⟩
  obtain ⟨a1, len1, cap1, rfl⟩ := okWide_slice Try.underlying23 (hval 1 23 v1 rfl rfl)
  have k1 := h1
  have lt1 : ∀ x ∈ p1, x.block < W.heap.size := by obtain ⟨m, hm⟩ := k1; exact DataW.trod_lt m _ _ _ hm
  obtain ⟨z1, w1⟩ : ∃ zs, IsRow .i64 W a1 len1 cap1 zs := by
    obtain ⟨fuel, hf⟩ := h1
    rcases open_ints Try.underlying23 Try.underlying3 (by kernel_rfl) hf with ⟨hcs, _⟩ | ⟨x, l, c, zs, hcs, _, hl, hm, hz, _, hcell, hwz⟩
    · simp [Value.cells] at hcs
      obtain ⟨rfl, rfl, rfl⟩ := hcs
      exact ⟨[], .inl ⟨rfl, rfl, rfl, rfl⟩⟩
    · simp [Value.cells] at hcs
      obtain ⟨rfl, rfl, rfl⟩ := hcs
      exact ⟨zs, .inr ⟨_, rfl, hl, hm, by simpa using hz, hcell, hwz⟩⟩
  clear hA0 hval0
  refine (walk a0 len0 cap0 x0 a1 len1 cap1 z1 W w0 n0 w1).mono fun e W' ⟨he, bel⟩ => ?_
  subst he
  exact ⟨_, rfl, _, _, _, [], _, [], hW', trodAll_mk1 (shut_bool Try.underlying4 _), (trodAll_cons_mk (Below.trod laidOut (by kernel_rfl) (of_decide_eq_true (by kernel_rfl)) k0 bel lt0) (trodAll_cons_mk (Below.trod laidOut (by kernel_rfl) (of_decide_eq_true (by kernel_rfl)) k1 bel lt1) trodAll_mk0)), rfl, bel.frame _, fun h => by cases h⟩

theorem over : Rows.walkMakesRow.holds Try.pinned (OpenSpec.ofChange Rows.walkMakesSpec) :=
  OpenClaim.holds_of_wide 4 Try.f4 rfl rfl rfl rfl rfl rfl rfl ⟨rfl, rfl, rfl, rfl, rfl⟩ rfl rfl rfl rfl rfl (by kernel_rfl) Try.func4 (by kernel_rfl)
    (of_decide_eq_true (by kernel_rfl)) (by unfold Func.isWrapper; first | (rw [if_pos (by decide +kernel)]; kernel_rfl) | (rw [if_neg (by decide +kernel)]; exact ⟨rfl, rfl⟩))
    (fun os started H enc _ => lifted os started H enc)

/-- the statement -/
theorem proved : Rows.WalkMakesSaid := over
#print axioms proved
end Go.Proofs.Ytimjdlbhbiklgaa.walkMakes
