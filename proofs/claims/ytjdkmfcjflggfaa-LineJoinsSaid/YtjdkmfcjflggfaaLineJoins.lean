/- For every two lists of bytes LineJoins answers true, and turns nothing that was there. No condition. -/
import Derived.Test.YtjdkmfcjflggfaaRows
import Derived.Test.YtjdkmfcjflggfaaLineApp
import Derived.WalkKit
import Derived.ProofKit
import Derived.OpenShut
import Derived.ShutString
import Derived.ChangeOld
import Derived.Below
namespace Go.Proofs.Ytjdkmfcjflggfaa.lineJoins
open Go.ChangeShapes Go.WideShapes Go.ChangeAt Go.RowKit
open Go.ChangeMaps (open_string shut_string)
set_option linter.unusedVariables false

theorem own : ownKnob Try.prog.godebug = none := by kernel_rfl
theorem laidOut : laidOutB Try.prog = true := by kernel_rfl

/-- WHAT THE WALK IS TOLD OF A SLICE OF INTEGERS THAT CAME IN: it is nil; or it leads to a row of 'cap' cells, the numbers 'zs' (the first 'len' are its elements, the rest its spare room), each fitting its kind. -/
def IsRow (k : IntKind) (w : World) (a : Option Addr) (len cap : Nat) (zs : List Int) : Prop :=
  (a = none ∧ len = 0 ∧ cap = 0 ∧ zs = []) ∨
  ∃ x, a = some x ∧ len ≤ cap ∧ cap ≤ maxLen ∧ zs.length = cap ∧ (∀ i, i < zs.length → w.cell? (x.add i) = some (.int k (zs.getD i 0))) ∧ ∀ n ∈ zs, (Lit.int k n).wf = true

theorem total_length : ∀ l : List (List Int), l.length ≤ Line.total l
  | [] => Nat.zero_le _
  | x :: xs => by
    have := total_length xs
    simp only [Line.total, List.map_cons, List.sum_cons, List.length_cons] at *
    omega
theorem split_length (b : List Int) : (Line.split b).length ≤ b.length + 1 := by
  have h1 := total_length (Line.split b)
  have h2 := Line.split_total b
  omega

/-! ### STEP 1: THE WALK: the Go text returns true, AND WRITES NOTHING THAT WAS THERE: 'Below w.heap.size w w'' (Derived/Below.lean: '.refl', '.alloc', '.drew', '.setCell' at a new block, '.trans'). Open each 'IsRow' by 'rcases' AHEAD of 'go_enter'; part every test ahead of the walk. -/
set_option maxRecDepth 100000 in
set_option maxHeartbeats 6000000 in
theorem walk (a0 : Option Addr) (len0 cap0 : Nat) (z0 : List Int) (a1 : Option Addr) (len1 cap1 : Nat) (z1 : List Int) (w : World) (w0 : IsRow .u8 w a0 len0 cap0 z0) (w1 : IsRow .u8 w a1 len1 cap1 z1) :
    Calls Try.prog 6 #[.slice a0 len0 cap0, .slice a1 len1 cap1] w fun e w' => e = .returned (.bool true) ∧ Below w.heap.size w w' := by
  have hn00 : a0 = none → cap0 = 0 := by
    rcases w0 with ⟨_, _, h, _⟩ | ⟨x, h, _⟩
    · exact fun _ => h
    · intro h'; rw [h] at h'; cases h'
  have HN0 := Lib.hid hn00
  clear hn00
  have hs0 := Sl.of_row w0
  generalize z0.take len0 = xs at hs0
  have hcm0 := hs0.2.2.1
  have hnc0 := hs0.2.1
  unfold maxLen at hcm0
  have HS := Lib.hid hs0
  clear hs0 w0
  have hn01 : a1 = none → cap1 = 0 := by
    rcases w1 with ⟨_, _, h, _⟩ | ⟨x, h, _⟩
    · exact fun _ => h
    · intro h'; rw [h] at h'; cases h'
  have HN1 := Lib.hid hn01
  clear hn01
  have hs1 := Sl.of_row w1
  generalize z1.take len1 = ys at hs1
  have hcm1 := hs1.2.2.1
  have hnc1 := hs1.2.1
  unfold maxLen at hcm1
  have HT := Lib.hid hs1
  clear hs1 w1
  by_cases g0 : 1000 < len0
  · have hi0 : (1000 : Int) < (len0 : Int) := by omega
    go_enter Try.func6, Try.ntmps6
    go_wp2_with fail
    refine (awake_any _).mono ?_
    rintro e w1 ⟨rfl, B1⟩
    go_wp2
    go_ret
    exact ⟨rfl, B1⟩
  have hi0 : ¬ (1000 : Int) < (len0 : Int) := by omega
  by_cases g1 : 1000 < len1
  · have hi1 : (1000 : Int) < (len1 : Int) := by omega
    go_enter Try.func6, Try.ntmps6
    go_wp2_with fail
    refine (awake_any _).mono ?_
    rintro e w1 ⟨rfl, B1⟩
    go_wp2
    go_ret
    exact ⟨rfl, B1⟩
  clear hi0
  have hi0 : decide ((1000 : Int) < (len0 : Int)) = false := by simp; omega
  have hi1 : decide ((1000 : Int) < (len1 : Int)) = false := by simp; omega
  obtain ⟨N, hN⟩ : ∃ N, len0 + 1 = N := ⟨_, rfl⟩
  go_enter Try.func6, Try.ntmps6
  go_wp2_with fail
  refine (awake_any _).mono ?_
  rintro e w1 ⟨rfl, B1⟩
  have S1 := Lib.hid (HS.out.below B1 (Nat.le_refl _))
  have T1 := Lib.hid (HT.out.below B1 (Nat.le_refl _))
  go_wp2_with (first
    | (at_builtin; refine append_bytes (by rfl) (.tmp 19) (.tmp 20) (by rfl) w1.heap.size _ 0 [] (by rfl) (owns0_bytes w1) a0 len0 cap0 xs (by rfl) (S1.out.alloc _) HN0.out len0 (by omega) (by omega) (by simp) ?_; intro a5 c5 w2 hown1 hb2 hn2; have C2 : Below w1.heap.size w1 w2 := ((Below.refl _ w1).alloc (Nat.le_refl _) _).trans hb2)
    | (at_builtin; refine append_bytes (by rfl) (.tmp 21) (.tmp 22) (by rfl) w1.heap.size _ len0 xs (by rfl) (hown1.alloc _) (some ⟨w2.heap.size, 0, none⟩) 1 1 [10] (by rfl) (Sl.newB [10] (by decide) (by decide) rfl rfl rfl) (fun h => by cases h) N hN (by omega) (by have := C2.size; simp; omega) ?_; intro a6 c6 w3 hown2 hb3 hn3; have C3 : Below w1.heap.size w1 w3 := (C2.alloc C2.size _).trans hb3))
  have hxs : (xs ++ [10]).length = N := by rw [List.length_append, HS.out.1]; exact hN
  have hfw : ∀ z ∈ xs ++ [10], (Lit.int .u8 z).wf = true := by
    intro z hz
    rcases List.mem_append.1 hz with hz | hz
    · exact HS.out.2.2.2.1 z hz
    · rw [List.mem_singleton.1 hz]; decide
  have F3 := Lib.hid (Sl.of_owns (k := .u8) hown2 hfw hxs)
  have HFN := Lib.hid hn3
  have T3 := Lib.hid (T1.out.below C3 (Nat.le_refl _))
  have B3 := B1.trans (C3.mono B1.size)
  clear hown1 hown2 hb2 hb3 hn2 hn3 C2 C3 hfw hxs
  refine (split_any _ _ _ (xs ++ [10]) _ F3.out HFN.out (by omega)).mono ?_
  rintro e w4 ⟨p4, m4, c4, r4, rfl, hy4, hb4, hn4, hw4⟩
  have F4 := Lib.hid (F3.out.below hw4 (Nat.le_refl _))
  have T4 := Lib.hid (T3.out.below hw4 (Nat.le_refl _))
  have Y4 := Lib.hid hy4
  have HB4 := Lib.hid hb4
  have HN4 := Lib.hid hn4
  have B4 := B3.trans (hw4.mono B3.size)
  have hm4 : m4 ≤ 1100 := by
    have h := congrArg List.length hb4
    have h2 := split_length (xs ++ [10])
    rw [bnums_length, hy4.1] at h
    rw [List.length_append, HS.out.1] at h2
    simp at h2
    omega
  have hm4' : 1 ≤ m4 := by
    have h := congrArg List.length hb4
    have h2 := Line.split_some xs
    rw [bnums_length, hy4.1] at h
    omega
  clear hy4 hb4 hw4 hn4
  go_wp2_with fail
  refine (split_any _ _ _ ys _ T4.out HN1.out (by omega)).mono ?_
  rintro e w5 ⟨p5, m5, c5, r5, rfl, hy5, hb5, hn5, hw5⟩
  have F5 := Lib.hid (F4.out.below hw5 (Nat.le_refl _))
  have T5 := Lib.hid (T4.out.below hw5 (Nat.le_refl _))
  have Y5 := Lib.hid (Y4.out.below hw5 (Nat.le_refl _))
  have Z5 := Lib.hid hy5
  have HB5 := Lib.hid hb5
  have HN5 := Lib.hid hn5
  have B5 := B4.trans (hw5.mono B4.size)
  have hm5 : m5 ≤ 1100 := by
    have h := congrArg List.length hb5
    have h2 := split_length ys
    rw [bnums_length, hy5.1] at h
    rw [HT.out.1] at h2
    omega
  clear hy5 hb5 hw5 hn5
  obtain ⟨M, hM⟩ : ∃ M, N + len1 = M := ⟨_, rfl⟩
  obtain ⟨K, hK⟩ : ∃ K, m4 + m5 = K := ⟨_, rfl⟩
  go_wp2_with (first
    | (at_builtin; refine append_bytes (by rfl) (.tmp 30) (.tmp 31) (by rfl) w5.heap.size _ 0 [] (by rfl) (owns0_bytes w5) _ _ _ (xs ++ [10]) (by rfl) (F5.out.alloc _) HFN.out N (by omega) (by omega) (by simp) ?_; intro a7 c7 w6 hown1 hb6 hn6; have C6 : Below w5.heap.size w5 w6 := ((Below.refl _ w5).alloc (Nat.le_refl _) _).trans hb6)
    | (at_builtin; refine append_bytes (by rfl) (.tmp 32) (.tmp 33) (by rfl) w5.heap.size _ N ([] ++ (xs ++ [10])) (by rfl) hown1 a1 len1 cap1 ys (by rfl) (T5.out.below C6 (Nat.le_refl _)) HN1.out M hM (by omega) C6.size ?_; intro a8 c8 w7 hown2 hb7 hn7; have C7 : Below w5.heap.size w5 w7 := C6.trans hb7))
  have hal : (xs ++ [10] ++ ys).length = M := by simp only [List.length_append, List.length_singleton, HS.out.1, HT.out.1]; omega
  have haw : ∀ z ∈ xs ++ [10] ++ ys, (Lit.int .u8 z).wf = true := by
    intro z hz
    rcases List.mem_append.1 hz with hz | hz
    · exact F5.out.2.2.2.1 z hz
    · exact HT.out.2.2.2.1 z hz
  have G7 := Lib.hid (Sl.of_owns (k := .u8) (zs := xs ++ [10] ++ ys) (by have h := hown2; rw [List.nil_append] at h; exact h) haw hal)
  have HGN := Lib.hid hn7
  have Y7 := Lib.hid (Y5.out.below C7 (Nat.le_refl _))
  have Z7 := Lib.hid (Z5.out.below C7 (Nat.le_refl _))
  have B7 := B5.trans (C7.mono B5.size)
  clear hown1 hown2 hb6 hb7 hn6 hn7 C6 C7 haw hal
  refine (split_any _ _ _ (xs ++ [10] ++ ys) _ G7.out HGN.out (by omega)).mono ?_
  rintro e w8 ⟨p8, m8, c8, r8, rfl, hy8, hb8, hn8, hw8⟩
  have Y8 := Lib.hid (Y7.out.below hw8 (Nat.le_refl _))
  have Z8 := Lib.hid (Z7.out.below hw8 (Nat.le_refl _))
  have X8 := Lib.hid hy8
  have HB8 := Lib.hid hb8
  have B8 := B7.trans (hw8.mono B7.size)
  clear hy8 hb8 hw8 hn8
  have hge : decide ((1 : Int) ≤ (m4 : Int)) = true := by simp; omega
  have hge' : (1 : Int) ≤ (m4 : Int) := by omega
  go_wp2_with (first
    | (at_builtin; refine append_lines (by rfl) (.tmp 36) (.tmp 37) (by rfl) w8.heap.size _ 0 [] (by rfl) (owns0_lines w8) _ _ _ r4 (by rfl) (Y8.out.alloc _) HN4.out m4 (by omega) (by omega) (by simp) ?_; intro a9 c9 w9 hown1 hb9 hn9; have C9 : Below w8.heap.size w8 w9 := ((Below.refl _ w8).alloc (Nat.le_refl _) _).trans hb9)
    | (at_builtin; refine append_lines (by rfl) (.tmp 38) (.tmp 39) (by rfl) w8.heap.size _ m4 ([] ++ r4) (by rfl) hown1 _ _ _ r5 (by rfl) (Z8.out.below C9 (Nat.le_refl _)) HN5.out K hK (by omega) C9.size ?_; intro aA cA wA hown2 hbA hnA; have CA : Below w8.heap.size w8 wA := C9.trans hbA))
  have hgood : ∀ x ∈ [] ++ r4 ++ r5, x.Good wA := by
    intro x hx
    rcases List.mem_append.1 hx with hx | hx
    · exact (Y8.out.2.2.2.1 x (by simpa using hx)).below CA (Nat.le_refl _)
    · exact (Z8.out.2.2.2.1 x hx).below CA (Nat.le_refl _)
  have QA := Lib.hid (Bs.of_owns hown2 hgood (by simp [Y8.out.1, Z8.out.1]; omega))
  have XA := Lib.hid (X8.out.below CA (Nat.le_refl _))
  have BA := B8.trans (CA.mono B8.size)
  clear hown1 hown2 hb9 hbA hn9 hnA C9 CA hgood
  refine (bsames_is _ _ _ _ _ _ r8 ([] ++ r4 ++ r5) true _ XA.out QA.out (by
    rw [decide_eq_true_iff, HB8.out, List.nil_append, bnums_app, HB4.out, HB5.out]
    exact Line.split_join xs ys)).mono ?_
  rintro e wB ⟨rfl, hqB⟩
  have BB := below_drawn BA hqB
  clear hqB
  go_wp2
  go_ret
  exact ⟨rfl, BB⟩

/-! ### THE ROW's STEP: WRITTEN OUT: LEAVE IT -/
set_option maxRecDepth 100000 in
theorem lifted (os : Os) (started : os.Started) (H : Type) (enc : TypeId × Value → H) :
    ReturnsInHanded {} Try.checked os 6 .any (Rows.lineJoinsSpec.pre6 enc Try.prog Try.f6 Rows.lineJoinsRow.domain false) (Rows.lineJoinsSpec.post enc Try.prog Try.f6 false true false false) := by
  refine returnsInHanded_of_change (C := Try.checked) own started (by kernel_rfl) Try.func6
    (ChangeSpec.witness6 (enc := enc) (C := Try.checked) false ⟨#[], #[.slice none 0 0, .slice none 0 0], []⟩ 8 (by kernel_rfl) (by kernel_rfl) (by kernel_rfl) (by kernel_rfl)) ?_
  intro W base args ds gs before hval0 hW hcnd _
  have hval : ∀ (j : Nat) t v, Try.f6.params[j]? = some t → args[j]? = some v → Value.okWide Try.prog W .any base t v := hval0
  have hW' := hW
  obtain ⟨p, q, hA0, hV, rfl, hfz, hnd⟩ := hW
  have hA : DataW.TrodAll enc Try.prog W 0 (fun _ => true) true Try.f6.params.toList args.toList ds p := hA0
  rw [Try.params6] at hA hval
  obtain ⟨v0, vs0, d0, ds0, p0, q0, hargs, rfl, rfl, h0, r0⟩ := trodAll_cons hA
  obtain ⟨v1, vs1, d1, ds1, p1, q1, rfl, rfl, rfl, h1, r1⟩ := trodAll_cons r0
  obtain ⟨rfl, rfl, rfl⟩ := trodAll_nil r1
  obtain rfl : args = #[v0, v1] := by cases args; simp_all
  obtain ⟨rfl, rfl⟩ := trodVars_none hV
  obtain ⟨a0, len0, cap0, rfl⟩ := okWide_slice Try.underlying22 (hval 0 22 v0 rfl rfl)
  have k0 := h0
  have lt0 : ∀ x ∈ p0, x.block < W.heap.size := by obtain ⟨m, hm⟩ := k0; exact DataW.trod_lt m _ _ _ hm
  obtain ⟨z0, w0⟩ : ∃ zs, IsRow .u8 W a0 len0 cap0 zs := by
    obtain ⟨fuel, hf⟩ := h0
    rcases open_ints Try.underlying22 Try.underlying5 (by kernel_rfl) hf with ⟨hcs, _⟩ | ⟨x, l, c, zs, hcs, _, hl, hm, hz, _, hcell, hwz⟩
    · simp [Value.cells] at hcs
      obtain ⟨rfl, rfl, rfl⟩ := hcs
      exact ⟨[], .inl ⟨rfl, rfl, rfl, rfl⟩⟩
    · simp [Value.cells] at hcs
      obtain ⟨rfl, rfl, rfl⟩ := hcs
      exact ⟨zs, .inr ⟨_, rfl, hl, hm, by simpa using hz, hcell, hwz⟩⟩
  obtain ⟨a1, len1, cap1, rfl⟩ := okWide_slice Try.underlying22 (hval 1 22 v1 rfl rfl)
  have k1 := h1
  have lt1 : ∀ x ∈ p1, x.block < W.heap.size := by obtain ⟨m, hm⟩ := k1; exact DataW.trod_lt m _ _ _ hm
  obtain ⟨z1, w1⟩ : ∃ zs, IsRow .u8 W a1 len1 cap1 zs := by
    obtain ⟨fuel, hf⟩ := h1
    rcases open_ints Try.underlying22 Try.underlying5 (by kernel_rfl) hf with ⟨hcs, _⟩ | ⟨x, l, c, zs, hcs, _, hl, hm, hz, _, hcell, hwz⟩
    · simp [Value.cells] at hcs
      obtain ⟨rfl, rfl, rfl⟩ := hcs
      exact ⟨[], .inl ⟨rfl, rfl, rfl, rfl⟩⟩
    · simp [Value.cells] at hcs
      obtain ⟨rfl, rfl, rfl⟩ := hcs
      exact ⟨zs, .inr ⟨_, rfl, hl, hm, by simpa using hz, hcell, hwz⟩⟩
  clear hA0 hval0
  refine (walk a0 len0 cap0 z0 a1 len1 cap1 z1 W w0 w1).mono fun e W' ⟨he, bel⟩ => ?_
  subst he
  exact ⟨_, rfl, _, _, _, [], _, [], hW', trodAll_mk1 (shut_bool Try.underlying4 _), (trodAll_cons_mk (Below.trod laidOut (by kernel_rfl) (of_decide_eq_true (by kernel_rfl)) k0 bel lt0) (trodAll_cons_mk (Below.trod laidOut (by kernel_rfl) (of_decide_eq_true (by kernel_rfl)) k1 bel lt1) trodAll_mk0)), rfl, bel.frame _, fun h => by cases h⟩

theorem over : Rows.lineJoinsRow.holds Try.pinned (OpenSpec.ofChange Rows.lineJoinsSpec) :=
  OpenClaim.holds_of_wide 6 Try.f6 rfl rfl rfl rfl rfl rfl rfl ⟨rfl, rfl, rfl, rfl, rfl⟩ rfl rfl rfl rfl rfl (by kernel_rfl) Try.func6 (by kernel_rfl)
    (of_decide_eq_true (by kernel_rfl)) (by unfold Func.isWrapper; first | (rw [if_pos (by decide +kernel)]; kernel_rfl) | (rw [if_neg (by decide +kernel)]; exact ⟨rfl, rfl⟩))
    (fun os started H enc _ => lifted os started H enc)

/-- ████ THE STATEMENT ████ -/
theorem proved : Rows.LineJoinsSaid := over
#print axioms proved
end Go.Proofs.Ytjdkmfcjflggfaa.lineJoins
