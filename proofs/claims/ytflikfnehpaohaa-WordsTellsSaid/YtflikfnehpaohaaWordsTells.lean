/- For every list, all words and every word, WordsTells answers true, and turns nothing that was there. No condition. -/
import Derived.Test.YtflikfnehpaohaaRows
import Derived.Test.YtflikfnehpaohaaWordAwake
import Derived.Test.YtflikfnehpaohaaPackB
import Derived.WalkKit
import Derived.ProofKit
import Derived.OpenShut
import Derived.ShutString
import Derived.ChangeOld
import Derived.Below
import Derived.Deep.Matrix
import Derived.SizedLaws
namespace Go.Proofs.Ytflikfnehpaohaa.wordsTells
open Go.ChangeShapes Go.WideShapes Go.ChangeAt Go.RowKit
set_option linter.unusedVariables false

theorem own : ownKnob Try.prog.godebug = none := by kernel_rfl
theorem laidOut : laidOutB Try.prog = true := by kernel_rfl

/-- a slice of integers that came in -/
def IsRow (k : IntKind) (w : World) (a : Option Addr) (len cap : Nat) (zs : List Int) : Prop :=
  (a = none ∧ len = 0 ∧ cap = 0 ∧ zs = []) ∨
  ∃ x, a = some x ∧ len ≤ cap ∧ cap ≤ maxLen ∧ zs.length = cap ∧ (∀ i, i < zs.length → w.cell? (x.add i) = some (.int k (zs.getD i 0))) ∧ ∀ n ∈ zs, (Lit.int k n).wf = true

/-! ### STEP 1: the walk -/
set_option maxHeartbeats 6400000 in
set_option maxRecDepth 100000 in
theorem walk (a0 : Option Addr) (len0 cap0 : Nat) (z0 : List Int) (a1 : Option Addr) (len1 cap1 : Nat) (x1 : List Wd) (a2 : Option Addr) (len2 cap2 : Nat) (z2 : List Int) (w : World) (w0 : IsRow .u8 w a0 len0 cap0 z0) (w1 : Ws w a1 len1 cap1 x1) (n1 : a1 = none → cap1 = 0) (w2 : IsRow .i64 w a2 len2 cap2 z2) :
    Calls Try.prog 3 #[.slice a0 len0 cap0, .slice a1 len1 cap1, .slice a2 len2 cap2] w fun e w' => e = .returned (.bool true) ∧ Below w.heap.size w w' := by
  have hn00 : a0 = none → cap0 = 0 := by
    rcases w0 with ⟨_, _, h, _⟩ | ⟨x, h, _⟩
    · exact fun _ => h
    · intro h'; rw [h] at h'; cases h'
  have HN0 := Lib.hid hn00
  clear hn00
  have hs0 := Sl.of_row w0
  generalize z0.take len0 = xs at hs0
  have hcm0 := hs0.2.2.1
  have hnc0 := hs0.2.1
  unfold maxLen at hcm0
  have HS0 := Lib.hid hs0
  have HLEN0 := Lib.hid hs0.1
  clear hs0 w0
  have hcm1 := w1.2.2.1
  have hnc1 := w1.2.1
  unfold maxLen at hcm1
  have HX1 := Lib.hid w1
  have HXN1 := Lib.hid n1
  clear w1 n1
  have hs2 := Sl.of_row w2
  generalize z2.take len2 = vs at hs2
  have hcm2 := hs2.2.2.1
  have hnc2 := hs2.2.1
  unfold maxLen at hcm2
  have HS2 := Lib.hid hs2
  clear hs2 w2
  obtain ⟨⟨ws, at_, er⟩, hg⟩ : ∃ g, Wl.read xs = g := ⟨_, rfl⟩
  obtain ⟨⟨bs, we⟩, hp⟩ : ∃ p, Wl.write (nums x1) = p := ⟨_, rfl⟩
  obtain ⟨q, hq⟩ : ∃ q, Wl.fit vs = q := ⟨_, rfl⟩
  have HG := Lib.hid hg
  have HP := Lib.hid hp
  have HQ := Lib.hid hq
  clear hg hp hq
  go_enter Try.func3, Try.ntmps3
  go_wp2_with fail
  refine (awake_any _).mono ?_
  rintro e v1 ⟨rfl, B1⟩
  have S1 := Lib.hid (HS0.out.below B1 (Nat.le_refl _))
  have X1 := Lib.hid (HX1.out.below B1 (Nat.le_refl _))
  have T1 := Lib.hid (HS2.out.below B1 (Nat.le_refl _))
  by_cases g0 : 3000 < len0
  · have hi0 : (3000 : Int) < (len0 : Int) := by omega
    go_wp2
    go_ret
    exact ⟨rfl, B1⟩
  have hi0 : decide ((3000 : Int) < (len0 : Int)) = false := by simp; omega
  go_wp2_with fail
  refine (few_of 400 400 _ _ _ _ _ rfl X1.out).mono ?_
  rintro e v2 ⟨he, rfl⟩
  rcases he with rfl | ⟨rfl, -, hn400⟩
  · go_wp2
    go_ret
    exact ⟨rfl, B1⟩
  by_cases g2 : 100 < len2
  · have hi2 : (100 : Int) < (len2 : Int) := by omega
    go_wp2
    go_ret
    exact ⟨rfl, B1⟩
  have hi2 : decide ((100 : Int) < (len2 : Int)) = false := by simp; omega
  go_wp2_with fail
  refine (wread_is a0 len0 cap0 xs _ _ S1.out HN0.out (by omega) HG.out).mono ?_
  rintro e v3 ⟨p3, n3, c3, xs3, rfl, hws3, hnu3, -, hb3⟩
  have B3 := B1.trans (hb3.mono B1.size)
  have S3 := Lib.hid (S1.out.below hb3 (Nat.le_refl _))
  have X3 := Lib.hid (X1.out.below hb3 (Nat.le_refl _))
  have T3 := Lib.hid (T1.out.below hb3 (Nat.le_refl _))
  have W3 := Lib.hid hws3
  have N3 : Hid (nums xs3 = ws) := hnu3
  clear hb3 hws3 hnu3
  simp only []
  go_wp2_with fail
  refine (rwread_is a0 len0 cap0 xs _ _ S3.out (by omega) HG.out).mono ?_
  rintro e v4 ⟨p4, n4, c4, xs4, rfl, hws4, hnu4, -, hb4⟩
  have B4 := B3.trans (hb4.mono B3.size)
  have X4 := Lib.hid (X3.out.below hb4 (Nat.le_refl _))
  have T4 := Lib.hid (T3.out.below hb4 (Nat.le_refl _))
  have V4 := Lib.hid (W3.out.below hb4 (Nat.le_refl _))
  have W4 := Lib.hid hws4
  have N4 : Hid (nums xs4 = ws) := hnu4
  clear hb4 hws4 hnu4
  simp only []
  go_wp2_with fail
  refine (wwrite_is a1 len1 cap1 x1 _ _ X4.out HP.out).mono ?_
  intro e v5 h5
  obtain ⟨p5, c5, rfl, hsw5, -, hb5⟩ := h5.lay rfl
  have B5 := B4.trans (hb5.mono B4.size)
  have X5 := Lib.hid (X4.out.below hb5 (Nat.le_refl _))
  have T5 := Lib.hid (T4.out.below hb5 (Nat.le_refl _))
  have V5 := Lib.hid (V4.out.below hb5 (Nat.le_refl _))
  have W5 := Lib.hid (W4.out.below hb5 (Nat.le_refl _))
  have P5 := Lib.hid hsw5
  clear hb5 hsw5 h5
  obtain ⟨m, hm⟩ : ∃ m, bs.length = m := ⟨_, rfl⟩
  rw [hm] at P5 ⊢
  go_wp2_with fail
  refine (rwwrite_is a1 len1 cap1 x1 _ _ X5.out HP.out).mono ?_
  intro e v6 h6
  obtain ⟨p6, c6, rfl, hsw6, -, hb6⟩ := h6.lay hm
  have B6 := B5.trans (hb6.mono B5.size)
  have T6 := Lib.hid (T5.out.below hb6 (Nat.le_refl _))
  have V6 := Lib.hid (V5.out.below hb6 (Nat.le_refl _))
  have W6 := Lib.hid (W5.out.below hb6 (Nat.le_refl _))
  have P6 := Lib.hid (P5.out.below hb6 (Nat.le_refl _))
  have Q6 := Lib.hid hsw6
  clear hb6 hsw6 h6 hm
  go_wp2_with fail
  refine (sames_is p3 p4 n3 n4 c3 c4 xs3 xs4 true _ V6.out W6.out (decide_eq_true (by rw [N3.out, N4.out]))).mono ?_
  rintro e v7 ⟨rfl, hq7⟩
  have B7 := below_drawn B6 hq7
  have T7 := Lib.hid (T6.out.drawn hq7)
  have hstr1 := (P6.out.drawn hq7).str
  have hstr2 := (Q6.out.drawn hq7).str
  have hat : (at_ == at_) = true := by simp
  have her : (er == er) = true := by simp
  have hwe : (we == we) = true := by simp
  have heq : ((strOfNums bs).toList == (strOfNums bs).toList) = true := by simp
  clear hq7
  go_wp2_with fail
  refine (wfit_is a2 len2 cap2 vs q _ T7.out HQ.out).mono ?_
  rintro e v8 ⟨rfl, rfl⟩
  go_wp2_with fail
  refine (rwfit_is a2 len2 cap2 vs q _ T7.out HQ.out).mono ?_
  rintro e v9 ⟨rfl, rfl⟩
  have hqq : (q == q) = true := by simp
  go_wp2
  go_ret
  exact ⟨rfl, B7⟩

set_option maxRecDepth 100000 in
theorem lifted (os : Os) (started : os.Started) (H : Type) (enc : TypeId × Value → H) :
    ReturnsInHanded {} Try.checked os 3 .any (Rows.wordsTellsSpec.pre6 enc Try.prog Try.f3 Rows.wordsTellsRow.domain false) (Rows.wordsTellsSpec.post enc Try.prog Try.f3 false true false false) := by
  refine returnsInHanded_of_change (C := Try.checked) own started (by kernel_rfl) Try.func3
    (ChangeSpec.witness6 (enc := enc) (C := Try.checked) false ⟨#[], #[.slice none 0 0, .slice none 0 0, .slice none 0 0], []⟩ 8 (by kernel_rfl) (by kernel_rfl) (by kernel_rfl) (by kernel_rfl)) ?_
  intro W base args ds gs before hval0 hW hcnd _
  have hval : ∀ (j : Nat) t v, Try.f3.params[j]? = some t → args[j]? = some v → Value.okWide Try.prog W .any base t v := hval0
  have hW' := hW
  obtain ⟨p, q, hA0, hV, rfl, hfz, hnd⟩ := hW
  have hA : DataW.TrodAll enc Try.prog W 0 (fun _ => true) true Try.f3.params.toList args.toList ds p := hA0
  rw [Try.params3] at hA hval
  obtain ⟨v0, vs0, d0, ds0, p0, q0, hargs, rfl, rfl, h0, r0⟩ := trodAll_cons hA
  obtain ⟨v1, vs1, d1, ds1, p1, q1, rfl, rfl, rfl, h1, r1⟩ := trodAll_cons r0
  obtain ⟨v2, vs2, d2, ds2, p2, q2, rfl, rfl, rfl, h2, r2⟩ := trodAll_cons r1
  obtain ⟨rfl, rfl, rfl⟩ := trodAll_nil r2
  obtain rfl : args = #[v0, v1, v2] := by cases args; simp_all
  obtain ⟨rfl, rfl⟩ := trodVars_none hV
  obtain ⟨a0, len0, cap0, rfl⟩ := okWide_slice Try.underlying22 (hval 0 22 v0 rfl rfl)
  have k0 := h0
  have lt0 : ∀ x ∈ p0, x.block < W.heap.size := by obtain ⟨m, hm⟩ := k0; exact DataW.trod_lt m _ _ _ hm
  obtain ⟨z0, w0⟩ : ∃ zs, IsRow .u8 W a0 len0 cap0 zs := by
    obtain ⟨fuel, hf⟩ := h0
    rcases open_ints Try.underlying22 Try.underlying5 (by kernel_rfl) hf with ⟨hcs, _⟩ | ⟨x, l, c, zs, hcs, _, hl, hm, hz, _, hcell, hwz⟩
    · simp [Value.cells] at hcs
      obtain ⟨rfl, rfl, rfl⟩ := hcs
      exact ⟨[], .inl ⟨rfl, rfl, rfl, rfl⟩⟩
    · simp [Value.cells] at hcs
      obtain ⟨rfl, rfl, rfl⟩ := hcs
      exact ⟨zs, .inr ⟨_, rfl, hl, hm, by simpa using hz, hcell, hwz⟩⟩
  obtain ⟨a1, len1, cap1, rfl⟩ := okWide_slice Try.underlying23 (hval 1 23 v1 rfl rfl)
  have k1 := h1
  have lt1 : ∀ x ∈ p1, x.block < W.heap.size := by obtain ⟨m, hm⟩ := k1; exact DataW.trod_lt m _ _ _ hm
  obtain ⟨x1, w1, n1⟩ : ∃ xs, Ws W a1 len1 cap1 xs ∧ (a1 = none → cap1 = 0) := by
    obtain ⟨fuel, hf⟩ := h1
    rcases Go.Deep.open_int_rows Try.underlying23 Try.underlying24 Try.underlying3 (by kernel_rfl) (by kernel_rfl) hf with ⟨hcs, _⟩ | ⟨x, l, c, A, L, C, Z, hcs, _, hl, hm, _, hr⟩
    · simp [Value.cells] at hcs
      obtain ⟨rfl, rfl, rfl⟩ := hcs
      exact ⟨[], Ws.nil, fun _ => rfl⟩
    · simp [Value.cells] at hcs
      obtain ⟨rfl, rfl, rfl⟩ := hcs
      exact ⟨_, Ws.of_rows hl hm hr, fun h => by cases h⟩
  obtain ⟨a2, len2, cap2, rfl⟩ := okWide_slice Try.underlying24 (hval 2 24 v2 rfl rfl)
  have k2 := h2
  have lt2 : ∀ x ∈ p2, x.block < W.heap.size := by obtain ⟨m, hm⟩ := k2; exact DataW.trod_lt m _ _ _ hm
  obtain ⟨z2, w2⟩ : ∃ zs, IsRow .i64 W a2 len2 cap2 zs := by
    obtain ⟨fuel, hf⟩ := h2
    rcases open_ints Try.underlying24 Try.underlying3 (by kernel_rfl) hf with ⟨hcs, _⟩ | ⟨x, l, c, zs, hcs, _, hl, hm, hz, _, hcell, hwz⟩
    · simp [Value.cells] at hcs
      obtain ⟨rfl, rfl, rfl⟩ := hcs
      exact ⟨[], .inl ⟨rfl, rfl, rfl, rfl⟩⟩
    · simp [Value.cells] at hcs
      obtain ⟨rfl, rfl, rfl⟩ := hcs
      exact ⟨zs, .inr ⟨_, rfl, hl, hm, by simpa using hz, hcell, hwz⟩⟩
  clear hA0 hval0
  refine (walk a0 len0 cap0 z0 a1 len1 cap1 x1 a2 len2 cap2 z2 W w0 w1 n1 w2).mono fun e W' ⟨he, bel⟩ => ?_
  subst he
  exact ⟨_, rfl, _, _, _, [], _, [], hW', trodAll_mk1 (shut_bool Try.underlying4 _), (trodAll_cons_mk (Below.trod laidOut (by kernel_rfl) (of_decide_eq_true (by kernel_rfl)) k0 bel lt0) (trodAll_cons_mk (Below.trod laidOut (by kernel_rfl) (of_decide_eq_true (by kernel_rfl)) k1 bel lt1) (trodAll_cons_mk (Below.trod laidOut (by kernel_rfl) (of_decide_eq_true (by kernel_rfl)) k2 bel lt2) trodAll_mk0))), rfl, bel.frame _, fun h => by cases h⟩

theorem over : Rows.wordsTellsRow.holds Try.pinned (OpenSpec.ofChange Rows.wordsTellsSpec) :=
  OpenClaim.holds_of_wide 3 Try.f3 rfl rfl rfl rfl rfl rfl rfl ⟨rfl, rfl, rfl, rfl, rfl⟩ rfl rfl rfl rfl rfl (by kernel_rfl) Try.func3 (by kernel_rfl)
    (of_decide_eq_true (by kernel_rfl)) (by unfold Func.isWrapper; first | (rw [if_pos (by decide +kernel)]; kernel_rfl) | (rw [if_neg (by decide +kernel)]; exact ⟨rfl, rfl⟩))
    (fun os started H enc _ => lifted os started H enc)

/-- the statement -/
theorem proved : Rows.WordsTellsSaid := over
#print axioms proved
end Go.Proofs.Ytflikfnehpaohaa.wordsTells
