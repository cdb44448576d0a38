/- For every three lists of numbers OrderBegins answers true, and turns nothing that was there. No condition. -/
import Derived.Test.YtooefnihmckinaaRows
import Derived.Test.YtooefnihmckinaaOrderAwake
import Derived.Test.YtooefnihmckinaaOrderInts
import Derived.WalkKit
import Derived.ProofKit
import Derived.OpenShut
import Derived.ShutString
import Derived.ChangeOld
import Derived.Below
namespace Go.Proofs.Ytooefnihmckinaa.orderBegins
open Go.ChangeShapes Go.WideShapes Go.ChangeAt Go.RowKit
open Go.ChangeMaps (open_string shut_string)
set_option linter.unusedVariables false

theorem own : ownKnob Try.prog.godebug = none := by kernel_rfl
theorem laidOut : laidOutB Try.prog = true := by kernel_rfl

/-- WHAT THE WALK IS TOLD OF A SLICE OF INTEGERS THAT CAME IN: it is nil; or it leads to a row of 'cap' cells, the numbers 'zs' (the first 'len' are its elements, the rest its spare room), each fitting its kind. -/
def IsRow (k : IntKind) (w : World) (a : Option Addr) (len cap : Nat) (zs : List Int) : Prop :=
  (a = none ∧ len = 0 ∧ cap = 0 ∧ zs = []) ∨
  ∃ x, a = some x ∧ len ≤ cap ∧ cap ≤ maxLen ∧ zs.length = cap ∧ (∀ i, i < zs.length → w.cell? (x.add i) = some (.int k (zs.getD i 0))) ∧ ∀ n ∈ zs, (Lit.int k n).wf = true

/-! ### STEP 1: THE WALK: the Go text returns true, AND WRITES NOTHING THAT WAS THERE: 'Below w.heap.size w w'' (Derived/Below.lean: '.refl', '.alloc', '.drew', '.setCell' at a new block, '.trans'). Open each 'IsRow' by 'rcases' AHEAD of 'go_enter'; part every test ahead of the walk. -/
theorem walk (a0 : Option Addr) (len0 cap0 : Nat) (z0 : List Int) (a1 : Option Addr) (len1 cap1 : Nat) (z1 : List Int) (a2 : Option Addr) (len2 cap2 : Nat) (z2 : List Int) (w : World) (w0 : IsRow .i64 w a0 len0 cap0 z0) (w1 : IsRow .i64 w a1 len1 cap1 z1) (w2 : IsRow .i64 w a2 len2 cap2 z2) :
    Calls Try.prog 6 #[.slice a0 len0 cap0, .slice a1 len1 cap1, .slice a2 len2 cap2] w fun e w' => e = .returned (.bool true) ∧ Below w.heap.size w w' := by
  have hn00 : a0 = none → cap0 = 0 := by
    rcases w0 with ⟨_, _, h, _⟩ | ⟨x, h, _⟩
    · exact fun _ => h
    · intro h'; rw [h] at h'; cases h'
  have HN0 := Lib.hid hn00
  clear hn00
  have hs0 := Sl.of_row w0
  generalize z0.take len0 = xs at hs0
  have hcm0 := hs0.2.2.1
  have hnc0 := hs0.2.1
  unfold maxLen at hcm0
  have HS := Lib.hid hs0
  clear hs0 w0
  have hn01 : a1 = none → cap1 = 0 := by
    rcases w1 with ⟨_, _, h, _⟩ | ⟨x, h, _⟩
    · exact fun _ => h
    · intro h'; rw [h] at h'; cases h'
  have HN1 := Lib.hid hn01
  clear hn01
  have hs1 := Sl.of_row w1
  generalize z1.take len1 = ys at hs1
  have hcm1 := hs1.2.2.1
  have hnc1 := hs1.2.1
  unfold maxLen at hcm1
  have HT := Lib.hid hs1
  clear hs1 w1
  have hn02 : a2 = none → cap2 = 0 := by
    rcases w2 with ⟨_, _, h, _⟩ | ⟨x, h, _⟩
    · exact fun _ => h
    · intro h'; rw [h] at h'; cases h'
  have HN2 := Lib.hid hn02
  clear hn02
  have hs2 := Sl.of_row w2
  generalize z2.take len2 = zs at hs2
  have hcm2 := hs2.2.2.1
  have hnc2 := hs2.2.1
  unfold maxLen at hcm2
  have HU := Lib.hid hs2
  clear hs2 w2
  by_cases h0 : 100 < len0
  · have hi0 : (100 : Int) < (len0 : Int) := by omega
    go_enter Try.func6, Try.ntmps6
    go_wp2_with (go_at_call 9; refine (awake_any _).mono ?_; rintro e w1 ⟨rfl, hb1⟩)
    go_ret
    exact ⟨rfl, hb1⟩
  have hi0 : ¬ (100 : Int) < (len0 : Int) := by omega
  by_cases h1 : 100 < len1
  · have hi1 : (100 : Int) < (len1 : Int) := by omega
    go_enter Try.func6, Try.ntmps6
    go_wp2_with (go_at_call 9; refine (awake_any _).mono ?_; rintro e w1 ⟨rfl, hb1⟩)
    go_ret
    exact ⟨rfl, hb1⟩
  have hi1 : ¬ (100 : Int) < (len1 : Int) := by omega
  by_cases h2 : 100 < len2
  · have hi2 : (100 : Int) < (len2 : Int) := by omega
    go_enter Try.func6, Try.ntmps6
    go_wp2_with (go_at_call 9; refine (awake_any _).mono ?_; rintro e w1 ⟨rfl, hb1⟩)
    go_ret
    exact ⟨rfl, hb1⟩
  have hi2 : ¬ (100 : Int) < (len2 : Int) := by omega
  clear hi0
  clear hi1
  clear hi2
  have hi0 : decide ((100 : Int) < (len0 : Int)) = false := by simp; omega
  have hi1 : decide ((100 : Int) < (len1 : Int)) = false := by simp; omega
  have hi2 : decide ((100 : Int) < (len2 : Int)) = false := by simp; omega
  have hl := less_app xs ys zs
  have hc := common_app xs ys zs
  obtain ⟨M1, HM1⟩ : ∃ M1, len0 + len1 = M1 := ⟨_, rfl⟩
  obtain ⟨M2, HM2⟩ : ∃ M2, len0 + len2 = M2 := ⟨_, rfl⟩
  obtain ⟨r, hr⟩ : ∃ r, lessL ys zs = r := ⟨_, rfl⟩
  obtain ⟨k, hk⟩ : ∃ k, common ys zs = k := ⟨_, rfl⟩
  rw [hr] at hl
  rw [hk, HS.out.1] at hc
  have hwf1 : ∀ z ∈ xs ++ ys, (Lit.int .i64 z).wf = true := fun z hz => (List.mem_append.1 hz).elim (HS.out.2.2.2.1 z) (HT.out.2.2.2.1 z)
  have hwf2 : ∀ z ∈ xs ++ zs, (Lit.int .i64 z).wf = true := fun z hz => (List.mem_append.1 hz).elim (HS.out.2.2.2.1 z) (HU.out.2.2.2.1 z)
  have hX : (xs ++ ys).length = M1 := by rw [List.length_append, HS.out.1, HT.out.1, HM1]
  have hY : (xs ++ zs).length = M2 := by rw [List.length_append, HS.out.1, HU.out.1, HM2]
  have hk9 : k ≤ 100 := by have := (common_le ys zs).1; rw [hk, HT.out.1] at this; omega
  have HL := Lib.hid hl
  have HC := Lib.hid hc
  have HR := Lib.hid hr
  have HK := Lib.hid hk
  have HW1 := Lib.hid hwf1
  have HW2 := Lib.hid hwf2
  have HX := Lib.hid hX
  have HY := Lib.hid hY
  clear hl hc hr hk hwf1 hwf2 hX hY
  cases r
  · go_enter Try.func6, Try.ntmps6
    go_wp2_with fail
    refine (awake_any _).mono ?_
    rintro e w1 ⟨rfl, B1⟩
    have hz1 := B1.size
    have HOW := Lib.hid (owns_none_ints w1)
    have S1 := Lib.hid (HS.out.below B1 (Nat.le_refl _))
    have T1 := Lib.hid (HT.out.below B1 (Nat.le_refl _))
    have U1 := Lib.hid (HU.out.below B1 (Nat.le_refl _))
    clear hz1
    go_wp2_with (first
      | (at_builtin; refine append_ints rfl (.tmp 25) (.tmp 26) (by rfl) w1.heap.size _ 0 [] (by rfl) HOW.out a0 len0 cap0 xs (by rfl) (S1.out.alloc _) HN0.out len0 (by omega) (by omega) (by simp) ?_; intro a5 c5 w2 hown1 hb2 hnil5; simp only [List.nil_append] at hown1; have B2 : Below w1.heap.size w1 w2 := (((Below.refl w1.heap.size w1).alloc (Nat.le_refl _) _).trans hb2))
      | (at_builtin; refine append_ints rfl (.tmp 27) (.tmp 28) (by rfl) w1.heap.size _ _ _ (by rfl) hown1 a1 len1 cap1 ys (by rfl) (T1.out.below B2 (Nat.le_refl _)) HN1.out M1 HM1 (by omega) B2.size ?_; intro a6 c6 w3 hown2 hb3 hnil6; have B3 : Below w1.heap.size w1 w3 := B2.trans hb3; have X3 := Lib.hid (Sl.of_owns hown2 HW1.out HX.out); have HOW3 := Lib.hid (owns_none_ints w3))
      | (at_builtin; refine append_ints rfl (.tmp 30) (.tmp 31) (by rfl) w3.heap.size _ 0 [] (by rfl) HOW3.out a0 len0 cap0 xs (by rfl) ((S1.out.below B3 (Nat.le_refl _)).alloc _) HN0.out len0 (by omega) (by omega) (by simp) ?_; intro a7 c7 w4 hown3 hb4 hnil7; simp only [List.nil_append] at hown3; have B4 : Below w3.heap.size w3 w4 := (((Below.refl w3.heap.size w3).alloc (Nat.le_refl _) _).trans hb4))
      | (at_builtin; refine append_ints rfl (.tmp 32) (.tmp 33) (by rfl) w3.heap.size _ _ _ (by rfl) hown3 a2 len2 cap2 zs (by rfl) ((U1.out.below B3 (Nat.le_refl _)).below B4 (Nat.le_refl _)) HN2.out M2 HM2 (by omega) B4.size ?_; intro a8 c8 w5 hown4 hb5 hnil8; have B5 : Below w3.heap.size w3 w5 := B4.trans hb5; have Y5 := Lib.hid (Sl.of_owns hown4 HW2.out HY.out); have X5 := Lib.hid (X3.out.below B5 (Nat.le_refl _)))
      | fail)
    have T5 := Lib.hid ((T1.out.below B3 (Nat.le_refl _)).below B5 (Nat.le_refl _))
    have U5 := Lib.hid ((U1.out.below B3 (Nat.le_refl _)).below B5 (Nat.le_refl _))
    have B15 : Below w.heap.size w w5 := (B1.trans (B3.mono B1.size)).trans (B5.mono (by have := B1.size; have := B3.size; omega))
    clear hown1 hown2 hown3 hown4 hb2 hb3 hb4 hb5 B2 B3 B4 B5 HOW HOW3 hnil5 hnil6 hnil7 hnil8
    refine (less_is _ _ _ _ _ _ (xs ++ ys) (xs ++ zs) false _ X5.out Y5.out HL.out).mono ?_
    rintro e w6 ⟨rfl, q1, rfl⟩
    go_wp2_with fail
    refine (less_is _ _ _ _ _ _ ys zs false _ (T5.out.drewN _) (U5.out.drewN _) HR.out).mono ?_
    rintro e w6 ⟨rfl, q2, rfl⟩
    go_wp2_with fail
    refine (common_is _ _ _ _ _ _ (xs ++ ys) (xs ++ zs) _ _ (X5.out.drewN _) (Y5.out.drewN _) HC.out).mono ?_
    rintro e w6 ⟨rfl, q3, rfl⟩
    go_wp2_with fail
    refine (common_is _ _ _ _ _ _ ys zs _ _ (T5.out.drewN _) (U5.out.drewN _) HK.out).mono ?_
    rintro e w6 ⟨rfl, q4, hq4⟩
    have B6 : Below w.heap.size w w6 := by rw [hq4]; exact below_drewN (below_drewN B15 _) _
    clear hq4
    go_wp2
    go_ret
    exact ⟨rfl, B6⟩
  · go_enter Try.func6, Try.ntmps6
    go_wp2_with fail
    refine (awake_any _).mono ?_
    rintro e w1 ⟨rfl, B1⟩
    have hz1 := B1.size
    have HOW := Lib.hid (owns_none_ints w1)
    have S1 := Lib.hid (HS.out.below B1 (Nat.le_refl _))
    have T1 := Lib.hid (HT.out.below B1 (Nat.le_refl _))
    have U1 := Lib.hid (HU.out.below B1 (Nat.le_refl _))
    clear hz1
    go_wp2_with (first
      | (at_builtin; refine append_ints rfl (.tmp 25) (.tmp 26) (by rfl) w1.heap.size _ 0 [] (by rfl) HOW.out a0 len0 cap0 xs (by rfl) (S1.out.alloc _) HN0.out len0 (by omega) (by omega) (by simp) ?_; intro a5 c5 w2 hown1 hb2 hnil5; simp only [List.nil_append] at hown1; have B2 : Below w1.heap.size w1 w2 := (((Below.refl w1.heap.size w1).alloc (Nat.le_refl _) _).trans hb2))
      | (at_builtin; refine append_ints rfl (.tmp 27) (.tmp 28) (by rfl) w1.heap.size _ _ _ (by rfl) hown1 a1 len1 cap1 ys (by rfl) (T1.out.below B2 (Nat.le_refl _)) HN1.out M1 HM1 (by omega) B2.size ?_; intro a6 c6 w3 hown2 hb3 hnil6; have B3 : Below w1.heap.size w1 w3 := B2.trans hb3; have X3 := Lib.hid (Sl.of_owns hown2 HW1.out HX.out); have HOW3 := Lib.hid (owns_none_ints w3))
      | (at_builtin; refine append_ints rfl (.tmp 30) (.tmp 31) (by rfl) w3.heap.size _ 0 [] (by rfl) HOW3.out a0 len0 cap0 xs (by rfl) ((S1.out.below B3 (Nat.le_refl _)).alloc _) HN0.out len0 (by omega) (by omega) (by simp) ?_; intro a7 c7 w4 hown3 hb4 hnil7; simp only [List.nil_append] at hown3; have B4 : Below w3.heap.size w3 w4 := (((Below.refl w3.heap.size w3).alloc (Nat.le_refl _) _).trans hb4))
      | (at_builtin; refine append_ints rfl (.tmp 32) (.tmp 33) (by rfl) w3.heap.size _ _ _ (by rfl) hown3 a2 len2 cap2 zs (by rfl) ((U1.out.below B3 (Nat.le_refl _)).below B4 (Nat.le_refl _)) HN2.out M2 HM2 (by omega) B4.size ?_; intro a8 c8 w5 hown4 hb5 hnil8; have B5 : Below w3.heap.size w3 w5 := B4.trans hb5; have Y5 := Lib.hid (Sl.of_owns hown4 HW2.out HY.out); have X5 := Lib.hid (X3.out.below B5 (Nat.le_refl _)))
      | fail)
    have T5 := Lib.hid ((T1.out.below B3 (Nat.le_refl _)).below B5 (Nat.le_refl _))
    have U5 := Lib.hid ((U1.out.below B3 (Nat.le_refl _)).below B5 (Nat.le_refl _))
    have B15 : Below w.heap.size w w5 := (B1.trans (B3.mono B1.size)).trans (B5.mono (by have := B1.size; have := B3.size; omega))
    clear hown1 hown2 hown3 hown4 hb2 hb3 hb4 hb5 B2 B3 B4 B5 HOW HOW3 hnil5 hnil6 hnil7 hnil8
    refine (less_is _ _ _ _ _ _ (xs ++ ys) (xs ++ zs) true _ X5.out Y5.out HL.out).mono ?_
    rintro e w6 ⟨rfl, q1, rfl⟩
    go_wp2_with fail
    refine (less_is _ _ _ _ _ _ ys zs true _ (T5.out.drewN _) (U5.out.drewN _) HR.out).mono ?_
    rintro e w6 ⟨rfl, q2, rfl⟩
    go_wp2_with fail
    refine (common_is _ _ _ _ _ _ (xs ++ ys) (xs ++ zs) _ _ (X5.out.drewN _) (Y5.out.drewN _) HC.out).mono ?_
    rintro e w6 ⟨rfl, q3, rfl⟩
    go_wp2_with fail
    refine (common_is _ _ _ _ _ _ ys zs _ _ (T5.out.drewN _) (U5.out.drewN _) HK.out).mono ?_
    rintro e w6 ⟨rfl, q4, hq4⟩
    have B6 : Below w.heap.size w w6 := by rw [hq4]; exact below_drewN (below_drewN B15 _) _
    clear hq4
    go_wp2
    go_ret
    exact ⟨rfl, B6⟩

/-! ### THE ROW's STEP: WRITTEN OUT: LEAVE IT -/
set_option maxRecDepth 100000 in
theorem lifted (os : Os) (started : os.Started) (H : Type) (enc : TypeId × Value → H) :
    ReturnsInHanded {} Try.checked os 6 .any (Rows.orderBeginsSpec.pre6 enc Try.prog Try.f6 Rows.orderBeginsRow.domain false) (Rows.orderBeginsSpec.post enc Try.prog Try.f6 false true false false) := by
  refine returnsInHanded_of_change (C := Try.checked) own started (by kernel_rfl) Try.func6
    (ChangeSpec.witness6 (enc := enc) (C := Try.checked) false ⟨#[], #[.slice none 0 0, .slice none 0 0, .slice none 0 0], []⟩ 8 (by kernel_rfl) (by kernel_rfl) (by kernel_rfl) (by kernel_rfl)) ?_
  intro W base args ds gs before hval0 hW hcnd _
  have hval : ∀ (j : Nat) t v, Try.f6.params[j]? = some t → args[j]? = some v → Value.okWide Try.prog W .any base t v := hval0
  have hW' := hW
  obtain ⟨p, q, hA0, hV, rfl, hfz, hnd⟩ := hW
  have hA : DataW.TrodAll enc Try.prog W 0 (fun _ => true) true Try.f6.params.toList args.toList ds p := hA0
  rw [Try.params6] at hA hval
  obtain ⟨v0, vs0, d0, ds0, p0, q0, hargs, rfl, rfl, h0, r0⟩ := trodAll_cons hA
  obtain ⟨v1, vs1, d1, ds1, p1, q1, rfl, rfl, rfl, h1, r1⟩ := trodAll_cons r0
  obtain ⟨v2, vs2, d2, ds2, p2, q2, rfl, rfl, rfl, h2, r2⟩ := trodAll_cons r1
  obtain ⟨rfl, rfl, rfl⟩ := trodAll_nil r2
  obtain rfl : args = #[v0, v1, v2] := by cases args; simp_all
  obtain ⟨rfl, rfl⟩ := trodVars_none hV
  obtain ⟨a0, len0, cap0, rfl⟩ := okWide_slice Try.underlying23 (hval 0 23 v0 rfl rfl)
  have k0 := h0
  have lt0 : ∀ x ∈ p0, x.block < W.heap.size := by obtain ⟨m, hm⟩ := k0; exact DataW.trod_lt m _ _ _ hm
  obtain ⟨z0, w0⟩ : ∃ zs, IsRow .i64 W a0 len0 cap0 zs := by
    obtain ⟨fuel, hf⟩ := h0
    rcases open_ints Try.underlying23 Try.underlying3 (by kernel_rfl) hf with ⟨hcs, _⟩ | ⟨x, l, c, zs, hcs, _, hl, hm, hz, _, hcell, hwz⟩
    · simp [Value.cells] at hcs
      obtain ⟨rfl, rfl, rfl⟩ := hcs
      exact ⟨[], .inl ⟨rfl, rfl, rfl, rfl⟩⟩
    · simp [Value.cells] at hcs
      obtain ⟨rfl, rfl, rfl⟩ := hcs
      exact ⟨zs, .inr ⟨_, rfl, hl, hm, by simpa using hz, hcell, hwz⟩⟩
  obtain ⟨a1, len1, cap1, rfl⟩ := okWide_slice Try.underlying23 (hval 1 23 v1 rfl rfl)
  have k1 := h1
  have lt1 : ∀ x ∈ p1, x.block < W.heap.size := by obtain ⟨m, hm⟩ := k1; exact DataW.trod_lt m _ _ _ hm
  obtain ⟨z1, w1⟩ : ∃ zs, IsRow .i64 W a1 len1 cap1 zs := by
    obtain ⟨fuel, hf⟩ := h1
    rcases open_ints Try.underlying23 Try.underlying3 (by kernel_rfl) hf with ⟨hcs, _⟩ | ⟨x, l, c, zs, hcs, _, hl, hm, hz, _, hcell, hwz⟩
    · simp [Value.cells] at hcs
      obtain ⟨rfl, rfl, rfl⟩ := hcs
      exact ⟨[], .inl ⟨rfl, rfl, rfl, rfl⟩⟩
    · simp [Value.cells] at hcs
      obtain ⟨rfl, rfl, rfl⟩ := hcs
      exact ⟨zs, .inr ⟨_, rfl, hl, hm, by simpa using hz, hcell, hwz⟩⟩
  obtain ⟨a2, len2, cap2, rfl⟩ := okWide_slice Try.underlying23 (hval 2 23 v2 rfl rfl)
  have k2 := h2
  have lt2 : ∀ x ∈ p2, x.block < W.heap.size := by obtain ⟨m, hm⟩ := k2; exact DataW.trod_lt m _ _ _ hm
  obtain ⟨z2, w2⟩ : ∃ zs, IsRow .i64 W a2 len2 cap2 zs := by
    obtain ⟨fuel, hf⟩ := h2
    rcases open_ints Try.underlying23 Try.underlying3 (by kernel_rfl) hf with ⟨hcs, _⟩ | ⟨x, l, c, zs, hcs, _, hl, hm, hz, _, hcell, hwz⟩
    · simp [Value.cells] at hcs
      obtain ⟨rfl, rfl, rfl⟩ := hcs
      exact ⟨[], .inl ⟨rfl, rfl, rfl, rfl⟩⟩
    · simp [Value.cells] at hcs
      obtain ⟨rfl, rfl, rfl⟩ := hcs
      exact ⟨zs, .inr ⟨_, rfl, hl, hm, by simpa using hz, hcell, hwz⟩⟩
  clear hA0 hval0
  refine (walk a0 len0 cap0 z0 a1 len1 cap1 z1 a2 len2 cap2 z2 W w0 w1 w2).mono fun e W' ⟨he, bel⟩ => ?_
  subst he
  exact ⟨_, rfl, _, _, _, [], _, [], hW', trodAll_mk1 (shut_bool Try.underlying4 _), (trodAll_cons_mk (Below.trod laidOut (by kernel_rfl) (of_decide_eq_true (by kernel_rfl)) k0 bel lt0) (trodAll_cons_mk (Below.trod laidOut (by kernel_rfl) (of_decide_eq_true (by kernel_rfl)) k1 bel lt1) (trodAll_cons_mk (Below.trod laidOut (by kernel_rfl) (of_decide_eq_true (by kernel_rfl)) k2 bel lt2) trodAll_mk0))), rfl, bel.frame _, fun h => by cases h⟩

theorem over : Rows.orderBeginsRow.holds Try.pinned (OpenSpec.ofChange Rows.orderBeginsSpec) :=
  OpenClaim.holds_of_wide 6 Try.f6 rfl rfl rfl rfl rfl rfl rfl ⟨rfl, rfl, rfl, rfl, rfl⟩ rfl rfl rfl rfl rfl (by kernel_rfl) Try.func6 (by kernel_rfl)
    (of_decide_eq_true (by kernel_rfl)) (by unfold Func.isWrapper; first | (rw [if_pos (by decide +kernel)]; kernel_rfl) | (rw [if_neg (by decide +kernel)]; exact ⟨rfl, rfl⟩))
    (fun os started H enc _ => lifted os started H enc)

/-- ████ THE STATEMENT ████ -/
theorem proved : Rows.OrderBeginsSaid := over
#print axioms proved
end Go.Proofs.Ytooefnihmckinaa.orderBegins
