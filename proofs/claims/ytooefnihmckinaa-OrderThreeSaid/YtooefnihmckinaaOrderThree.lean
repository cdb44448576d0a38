/- For every three lists of numbers OrderThree answers true, and turns nothing that was there. No condition. -/
import Derived.Test.YtooefnihmckinaaRows
import Derived.Test.YtooefnihmckinaaOrderAwake
import Derived.Test.YtooefnihmckinaaOrderInts
import Derived.WalkKit
import Derived.ProofKit
import Derived.OpenShut
import Derived.ShutString
import Derived.ChangeOld
import Derived.Below
namespace Go.Proofs.Ytooefnihmckinaa.orderThree
open Go.ChangeShapes Go.WideShapes Go.ChangeAt Go.RowKit
open Go.ChangeMaps (open_string shut_string)
set_option linter.unusedVariables false

theorem own : ownKnob Try.prog.godebug = none := by kernel_rfl
theorem laidOut : laidOutB Try.prog = true := by kernel_rfl

/-- WHAT THE WALK IS TOLD OF A SLICE OF INTEGERS THAT CAME IN: it is nil; or it leads to a row of 'cap' cells, the numbers 'zs' (the first 'len' are its elements, the rest its spare room), each fitting its kind. -/
def IsRow (k : IntKind) (w : World) (a : Option Addr) (len cap : Nat) (zs : List Int) : Prop :=
  (a = none ∧ len = 0 ∧ cap = 0 ∧ zs = []) ∨
  ∃ x, a = some x ∧ len ≤ cap ∧ cap ≤ maxLen ∧ zs.length = cap ∧ (∀ i, i < zs.length → w.cell? (x.add i) = some (.int k (zs.getD i 0))) ∧ ∀ n ∈ zs, (Lit.int k n).wf = true

/-! ### STEP 1: THE WALK: the Go text returns true, AND WRITES NOTHING THAT WAS THERE: 'Below w.heap.size w w'' (Derived/Below.lean: '.refl', '.alloc', '.drew', '.setCell' at a new block, '.trans'). Open each 'IsRow' by 'rcases' AHEAD of 'go_enter'; part every test ahead of the walk. -/
set_option maxRecDepth 100000 in
set_option maxHeartbeats 8000000 in
theorem walk (a0 : Option Addr) (len0 cap0 : Nat) (z0 : List Int) (a1 : Option Addr) (len1 cap1 : Nat) (z1 : List Int) (a2 : Option Addr) (len2 cap2 : Nat) (z2 : List Int) (w : World) (w0 : IsRow .i64 w a0 len0 cap0 z0) (w1 : IsRow .i64 w a1 len1 cap1 z1) (w2 : IsRow .i64 w a2 len2 cap2 z2) :
    Calls Try.prog 4 #[.slice a0 len0 cap0, .slice a1 len1 cap1, .slice a2 len2 cap2] w fun e w' => e = .returned (.bool true) ∧ Below w.heap.size w w' := by
  have hn00 : a0 = none → cap0 = 0 := by
    rcases w0 with ⟨_, _, h, _⟩ | ⟨x, h, _⟩
    · exact fun _ => h
    · intro h'; rw [h] at h'; cases h'
  have HN0 := Lib.hid hn00
  clear hn00
  have hs0 := Sl.of_row w0
  generalize z0.take len0 = xs at hs0
  have hcm0 := hs0.2.2.1
  have hnc0 := hs0.2.1
  unfold maxLen at hcm0
  have HS := Lib.hid hs0
  clear hs0 w0
  have hn01 : a1 = none → cap1 = 0 := by
    rcases w1 with ⟨_, _, h, _⟩ | ⟨x, h, _⟩
    · exact fun _ => h
    · intro h'; rw [h] at h'; cases h'
  have HN1 := Lib.hid hn01
  clear hn01
  have hs1 := Sl.of_row w1
  generalize z1.take len1 = ys at hs1
  have hcm1 := hs1.2.2.1
  have hnc1 := hs1.2.1
  unfold maxLen at hcm1
  have HT := Lib.hid hs1
  clear hs1 w1
  have hn02 : a2 = none → cap2 = 0 := by
    rcases w2 with ⟨_, _, h, _⟩ | ⟨x, h, _⟩
    · exact fun _ => h
    · intro h'; rw [h] at h'; cases h'
  have HN2 := Lib.hid hn02
  clear hn02
  have hs2 := Sl.of_row w2
  generalize z2.take len2 = zs at hs2
  have hcm2 := hs2.2.2.1
  have hnc2 := hs2.2.1
  unfold maxLen at hcm2
  have HU := Lib.hid hs2
  clear hs2 w2
  by_cases h0 : 100 < len0
  · have hi0 : (100 : Int) < (len0 : Int) := by omega
    go_enter Try.func4, Try.ntmps4
    go_wp2_with (go_at_call 9; refine (awake_any _).mono ?_; rintro e w1 ⟨rfl, hb1⟩)
    go_ret
    exact ⟨rfl, hb1⟩
  have hi0 : ¬ (100 : Int) < (len0 : Int) := by omega
  by_cases h1 : 100 < len1
  · have hi1 : (100 : Int) < (len1 : Int) := by omega
    go_enter Try.func4, Try.ntmps4
    go_wp2_with (go_at_call 9; refine (awake_any _).mono ?_; rintro e w1 ⟨rfl, hb1⟩)
    go_ret
    exact ⟨rfl, hb1⟩
  have hi1 : ¬ (100 : Int) < (len1 : Int) := by omega
  by_cases h2 : 100 < len2
  · have hi2 : (100 : Int) < (len2 : Int) := by omega
    go_enter Try.func4, Try.ntmps4
    go_wp2_with (go_at_call 9; refine (awake_any _).mono ?_; rintro e w1 ⟨rfl, hb1⟩)
    go_ret
    exact ⟨rfl, hb1⟩
  have hi2 : ¬ (100 : Int) < (len2 : Int) := by omega
  clear hi0
  clear hi1
  clear hi2
  have hi0 : decide ((100 : Int) < (len0 : Int)) = false := by simp; omega
  have hi1 : decide ((100 : Int) < (len1 : Int)) = false := by simp; omega
  have hi2 : decide ((100 : Int) < (len2 : Int)) = false := by simp; omega
  have hwm : ∀ z ∈ xs ++ [5], (Lit.int .i64 z).wf = true := fun z hz => (List.mem_append.1 hz).elim (HS.out.2.2.2.1 z) (fun h => by simp only [List.mem_singleton] at h; subst h; decide)
  have HWM := Lib.hid hwm
  have HLM := Lib.hid (less_more xs 5)
  have HLI := Lib.hid (less_irrefl xs)
  obtain ⟨M0, hM0⟩ : ∃ M0, len0 = M0 := ⟨_, rfl⟩
  have HM0 := Lib.hid hM0
  clear hM0
  obtain ⟨k, hk⟩ : ∃ k, common xs ys = k := ⟨_, rfl⟩
  have hk2 : common ys xs = k := by rw [common_comm]; exact hk
  have hle := common_le xs ys
  rw [hk, HS.out.1, HT.out.1] at hle
  obtain ⟨hle0, hle1⟩ := hle
  have hi2a : (k : Int) ≤ (len0 : Int) := by omega
  have hi2b : (k : Int) ≤ (len1 : Int) := by omega
  have hw0 := fun h h' => common_whole (a := xs) (b := ys) (by rw [hk, HS.out.1]; exact h) (by rw [hk, HT.out.1]; exact h')
  have HK := Lib.hid hk
  have HK2 := Lib.hid hk2
  have HWH := Lib.hid hw0
  clear hwm hk hk2 hw0
  cases hr1 : lessL xs ys
  · cases hr2 : lessL ys xs
    · have he := less_total hr1 hr2
      have hsm : decide (xs = ys) = true := by simpa using he
      have hkl : k = len0 := by rw [← HK.out, ← he, common_self, HS.out.1]
      have hl01 : len1 = len0 := by rw [← HS.out.1, ← HT.out.1, he]
      have HSM := Lib.hid hsm
      have HR1 := Lib.hid hr1
      have HR2 := Lib.hid hr2
      clear he hsm hr1 hr2
      subst hkl
      subst hl01
      go_enter Try.func4, Try.ntmps4
      go_wp2_with fail
      refine (awake_any _).mono ?_
      rintro e w1 ⟨rfl, B1⟩
      have S1 := Lib.hid (HS.out.below B1 (Nat.le_refl _))
      have T1 := Lib.hid (HT.out.below B1 (Nat.le_refl _))
      have U1 := Lib.hid (HU.out.below B1 (Nat.le_refl _))
      go_wp2_with fail
      refine (same_is _ _ _ _ _ _ xs ys true _ S1.out T1.out HSM.out).mono ?_
      rintro e w2 ⟨rfl, q1, rfl⟩
      go_wp2_with fail
      refine (less_is _ _ _ _ _ _ xs ys false _ (S1.out.drewN _) (T1.out.drewN _) HR1.out).mono ?_
      rintro e w2 ⟨rfl, q2, rfl⟩
      go_wp2_with fail
      refine (less_is _ _ _ _ _ _ ys xs false _ (T1.out.drewN _) (S1.out.drewN _) HR2.out).mono ?_
      rintro e w2 ⟨rfl, q3, rfl⟩
      go_wp2_with fail
      refine (less_is _ _ _ _ _ _ xs ys false _ (S1.out.drewN _) (T1.out.drewN _) HR1.out).mono ?_
      rintro e w2 ⟨rfl, hq2⟩
      have S2 := Lib.hid (Sl.drawn (S1.out.drewN _) hq2)
      have T2 := Lib.hid (Sl.drawn (T1.out.drewN _) hq2)
      have B2 := below_drawn (below_drewN B1 _) hq2
      have HOW := Lib.hid (owns_none_ints w2)
      clear hq2
      go_wp2_with (first
        | (at_builtin; refine append_ints rfl (.tmp 54) (.tmp 55) (by rfl) w2.heap.size _ 0 [] (by rfl) HOW.out a0 _ _ xs (by rfl) (S2.out.alloc _) HN0.out M0 (by have := HM0.out; omega) (by have := HM0.out; omega) (by simp) ?_; intro a5 c5 w3 hown1 hb3 hnil5; simp only [List.nil_append] at hown1; have B3 : Below w2.heap.size w2 w3 := (((Below.refl w2.heap.size w2).alloc (Nat.le_refl _) _).trans hb3); have hz3 := B3.size)
        | (at_builtin; refine append_ints rfl (.tmp 56) (.tmp 57) (by rfl) w2.heap.size _ _ _ (by rfl) (hown1.alloc _) (some ⟨w3.heap.size, 0, none⟩) 1 1 [5] (by rfl) (Sl.newcI [5] (by decide) (by decide) rfl rfl rfl) (fun h => by cases h) (M0 + 1) (by rfl) (by have := HM0.out; omega) (by simp; omega) ?_; intro a6 c6 w4 hown2 hb4 hnil6; have B4 : Below w2.heap.size w2 w4 := (B3.alloc hz3 _).trans hb4; have X4 := Lib.hid (Sl.of_owns hown2 HWM.out (by have h5 := HM0.out; have h6 := HS.out.1; rw [List.length_append, h6, h5]; rfl)); have S4 := Lib.hid (S2.out.below B4 (Nat.le_refl _)); have T4 := Lib.hid (T2.out.below B4 (Nat.le_refl _)); have B5 : Below w.heap.size w w4 := B2.trans (B4.mono B2.size))
        | fail)
      clear hown1 hown2 hb3 hb4 B3 B4 B2 HOW hnil5 hnil6 hz3
      refine (common_is _ _ _ _ _ _ xs ys _ _ S4.out T4.out HK.out).mono ?_
      rintro e w5 ⟨rfl, q5, rfl⟩
      go_wp2_with fail
      refine (common_is _ _ _ _ _ _ ys xs _ _ (T4.out.drewN _) (S4.out.drewN _) HK2.out).mono ?_
      rintro e w5 ⟨rfl, q6, rfl⟩
      go_wp2_with fail
      refine (less_is _ _ _ _ _ _ xs (xs ++ [5]) true _ (S4.out.drewN _) (X4.out.drewN _) HLM.out).mono ?_
      rintro e w5 ⟨rfl, q7, rfl⟩
      go_wp2_with fail
      refine (less_is _ _ _ _ _ _ xs xs false _ (S4.out.drewN _) (S4.out.drewN _) HLI.out).mono ?_
      rintro e w5 ⟨rfl, q8, hq8⟩
      have B6 : Below w.heap.size w w5 := by rw [hq8]; exact below_drewN (below_drewN B5 _) _
      clear hq8
      go_wp2
      go_ret
      exact ⟨rfl, B6⟩
    · have he : ¬ xs = ys := by rintro rfl; rw [less_irrefl] at hr2; cases hr2
      have hsm : decide (xs = ys) = false := by simpa using he
      have HNE := Lib.hid he
      have HSM := Lib.hid hsm
      have HR1 := Lib.hid hr1
      have HR2 := Lib.hid hr2
      clear he hsm hr1 hr2
      have hkk : k < len0 ∧ k < len1 ∨ k = len0 ∧ k < len1 ∨ k = len1 ∧ k < len0 := by
        by_cases h : k = len0
        · by_cases h' : k = len1
          · exact absurd (HWH.out h h') HNE.out
          · omega
        · omega
      rcases hkk with ⟨h3, h4⟩ | ⟨rfl, h4⟩ | ⟨rfl, h4⟩
      · have hka : (k : Int) < (len0 : Int) := by omega
        have hkb : (k : Int) < (len1 : Int) := by omega
        have hkc : ((k : Int) == (len0 : Int)) = false := by simp; omega
        have hkd : ¬ k = len0 := by omega
        go_enter Try.func4, Try.ntmps4
        go_wp2_with fail
        refine (awake_any _).mono ?_
        rintro e w1 ⟨rfl, B1⟩
        have S1 := Lib.hid (HS.out.below B1 (Nat.le_refl _))
        have T1 := Lib.hid (HT.out.below B1 (Nat.le_refl _))
        have U1 := Lib.hid (HU.out.below B1 (Nat.le_refl _))
        go_wp2_with fail
        refine (same_is _ _ _ _ _ _ xs ys false _ S1.out T1.out HSM.out).mono ?_
        rintro e w2 ⟨rfl, q1, rfl⟩
        go_wp2_with fail
        refine (less_is _ _ _ _ _ _ xs ys false _ (S1.out.drewN _) (T1.out.drewN _) HR1.out).mono ?_
        rintro e w2 ⟨rfl, q2, rfl⟩
        go_wp2_with fail
        refine (less_is _ _ _ _ _ _ ys xs true _ (T1.out.drewN _) (S1.out.drewN _) HR2.out).mono ?_
        rintro e w2 ⟨rfl, q3, rfl⟩
        go_wp2_with fail
        refine (less_is _ _ _ _ _ _ xs ys false _ (S1.out.drewN _) (T1.out.drewN _) HR1.out).mono ?_
        rintro e w2 ⟨rfl, hq2⟩
        have S2 := Lib.hid (Sl.drawn (S1.out.drewN _) hq2)
        have T2 := Lib.hid (Sl.drawn (T1.out.drewN _) hq2)
        have B2 := below_drawn (below_drewN B1 _) hq2
        have HOW := Lib.hid (owns_none_ints w2)
        clear hq2
        go_wp2_with (first
          | (at_builtin; refine append_ints rfl (.tmp 54) (.tmp 55) (by rfl) w2.heap.size _ 0 [] (by rfl) HOW.out a0 _ _ xs (by rfl) (S2.out.alloc _) HN0.out M0 (by have := HM0.out; omega) (by have := HM0.out; omega) (by simp) ?_; intro a5 c5 w3 hown1 hb3 hnil5; simp only [List.nil_append] at hown1; have B3 : Below w2.heap.size w2 w3 := (((Below.refl w2.heap.size w2).alloc (Nat.le_refl _) _).trans hb3); have hz3 := B3.size)
          | (at_builtin; refine append_ints rfl (.tmp 56) (.tmp 57) (by rfl) w2.heap.size _ _ _ (by rfl) (hown1.alloc _) (some ⟨w3.heap.size, 0, none⟩) 1 1 [5] (by rfl) (Sl.newcI [5] (by decide) (by decide) rfl rfl rfl) (fun h => by cases h) (M0 + 1) (by rfl) (by have := HM0.out; omega) (by simp; omega) ?_; intro a6 c6 w4 hown2 hb4 hnil6; have B4 : Below w2.heap.size w2 w4 := (B3.alloc hz3 _).trans hb4; have X4 := Lib.hid (Sl.of_owns hown2 HWM.out (by have h5 := HM0.out; have h6 := HS.out.1; rw [List.length_append, h6, h5]; rfl)); have S4 := Lib.hid (S2.out.below B4 (Nat.le_refl _)); have T4 := Lib.hid (T2.out.below B4 (Nat.le_refl _)); have B5 : Below w.heap.size w w4 := B2.trans (B4.mono B2.size))
          | fail)
        clear hown1 hown2 hb3 hb4 B3 B4 B2 HOW hnil5 hnil6 hz3
        refine (common_is _ _ _ _ _ _ xs ys _ _ S4.out T4.out HK.out).mono ?_
        rintro e w5 ⟨rfl, q5, rfl⟩
        go_wp2_with fail
        refine (common_is _ _ _ _ _ _ ys xs _ _ (T4.out.drewN _) (S4.out.drewN _) HK2.out).mono ?_
        rintro e w5 ⟨rfl, q6, rfl⟩
        go_wp2_with fail
        refine (less_is _ _ _ _ _ _ xs (xs ++ [5]) true _ (S4.out.drewN _) (X4.out.drewN _) HLM.out).mono ?_
        rintro e w5 ⟨rfl, q7, rfl⟩
        go_wp2_with fail
        refine (less_is _ _ _ _ _ _ xs xs false _ (S4.out.drewN _) (S4.out.drewN _) HLI.out).mono ?_
        rintro e w5 ⟨rfl, q8, hq8⟩
        have B6 : Below w.heap.size w w5 := by rw [hq8]; exact below_drewN (below_drewN B5 _) _
        clear hq8
        go_wp2
        go_ret
        exact ⟨rfl, B6⟩
      · have hka : (k : Int) < (len1 : Int) := by omega
        have hkc : ((k : Int) == (len1 : Int)) = false := by simp; omega
        have hkd : ¬ k = len1 := by omega
        have hmn : min (k : Int) (len1 : Int) = (k : Int) := by omega
        go_enter Try.func4, Try.ntmps4
        go_wp2_with fail
        refine (awake_any _).mono ?_
        rintro e w1 ⟨rfl, B1⟩
        have S1 := Lib.hid (HS.out.below B1 (Nat.le_refl _))
        have T1 := Lib.hid (HT.out.below B1 (Nat.le_refl _))
        have U1 := Lib.hid (HU.out.below B1 (Nat.le_refl _))
        go_wp2_with fail
        refine (same_is _ _ _ _ _ _ xs ys false _ S1.out T1.out HSM.out).mono ?_
        rintro e w2 ⟨rfl, q1, rfl⟩
        go_wp2_with fail
        refine (less_is _ _ _ _ _ _ xs ys false _ (S1.out.drewN _) (T1.out.drewN _) HR1.out).mono ?_
        rintro e w2 ⟨rfl, q2, rfl⟩
        go_wp2_with fail
        refine (less_is _ _ _ _ _ _ ys xs true _ (T1.out.drewN _) (S1.out.drewN _) HR2.out).mono ?_
        rintro e w2 ⟨rfl, q3, rfl⟩
        go_wp2_with fail
        refine (less_is _ _ _ _ _ _ xs ys false _ (S1.out.drewN _) (T1.out.drewN _) HR1.out).mono ?_
        rintro e w2 ⟨rfl, hq2⟩
        have S2 := Lib.hid (Sl.drawn (S1.out.drewN _) hq2)
        have T2 := Lib.hid (Sl.drawn (T1.out.drewN _) hq2)
        have B2 := below_drawn (below_drewN B1 _) hq2
        have HOW := Lib.hid (owns_none_ints w2)
        clear hq2
        go_wp2_with (first
          | (at_builtin; refine append_ints rfl (.tmp 54) (.tmp 55) (by rfl) w2.heap.size _ 0 [] (by rfl) HOW.out a0 _ _ xs (by rfl) (S2.out.alloc _) HN0.out M0 (by have := HM0.out; omega) (by have := HM0.out; omega) (by simp) ?_; intro a5 c5 w3 hown1 hb3 hnil5; simp only [List.nil_append] at hown1; have B3 : Below w2.heap.size w2 w3 := (((Below.refl w2.heap.size w2).alloc (Nat.le_refl _) _).trans hb3); have hz3 := B3.size)
          | (at_builtin; refine append_ints rfl (.tmp 56) (.tmp 57) (by rfl) w2.heap.size _ _ _ (by rfl) (hown1.alloc _) (some ⟨w3.heap.size, 0, none⟩) 1 1 [5] (by rfl) (Sl.newcI [5] (by decide) (by decide) rfl rfl rfl) (fun h => by cases h) (M0 + 1) (by rfl) (by have := HM0.out; omega) (by simp; omega) ?_; intro a6 c6 w4 hown2 hb4 hnil6; have B4 : Below w2.heap.size w2 w4 := (B3.alloc hz3 _).trans hb4; have X4 := Lib.hid (Sl.of_owns hown2 HWM.out (by have h5 := HM0.out; have h6 := HS.out.1; rw [List.length_append, h6, h5]; rfl)); have S4 := Lib.hid (S2.out.below B4 (Nat.le_refl _)); have T4 := Lib.hid (T2.out.below B4 (Nat.le_refl _)); have B5 : Below w.heap.size w w4 := B2.trans (B4.mono B2.size))
          | fail)
        clear hown1 hown2 hb3 hb4 B3 B4 B2 HOW hnil5 hnil6 hz3
        refine (common_is _ _ _ _ _ _ xs ys _ _ S4.out T4.out HK.out).mono ?_
        rintro e w5 ⟨rfl, q5, rfl⟩
        go_wp2_with fail
        refine (common_is _ _ _ _ _ _ ys xs _ _ (T4.out.drewN _) (S4.out.drewN _) HK2.out).mono ?_
        rintro e w5 ⟨rfl, q6, rfl⟩
        go_wp2_with fail
        refine (less_is _ _ _ _ _ _ xs (xs ++ [5]) true _ (S4.out.drewN _) (X4.out.drewN _) HLM.out).mono ?_
        rintro e w5 ⟨rfl, q7, rfl⟩
        go_wp2_with fail
        refine (less_is _ _ _ _ _ _ xs xs false _ (S4.out.drewN _) (S4.out.drewN _) HLI.out).mono ?_
        rintro e w5 ⟨rfl, q8, hq8⟩
        have B6 : Below w.heap.size w w5 := by rw [hq8]; exact below_drewN (below_drewN B5 _) _
        clear hq8
        go_wp2
        go_ret
        exact ⟨rfl, B6⟩
      · have hka : (k : Int) < (len0 : Int) := by omega
        have hkc : ((k : Int) == (len0 : Int)) = false := by simp; omega
        have hkd : ¬ k = len0 := by omega
        have hmn : min (len0 : Int) (k : Int) = (k : Int) := by omega
        go_enter Try.func4, Try.ntmps4
        go_wp2_with fail
        refine (awake_any _).mono ?_
        rintro e w1 ⟨rfl, B1⟩
        have S1 := Lib.hid (HS.out.below B1 (Nat.le_refl _))
        have T1 := Lib.hid (HT.out.below B1 (Nat.le_refl _))
        have U1 := Lib.hid (HU.out.below B1 (Nat.le_refl _))
        go_wp2_with fail
        refine (same_is _ _ _ _ _ _ xs ys false _ S1.out T1.out HSM.out).mono ?_
        rintro e w2 ⟨rfl, q1, rfl⟩
        go_wp2_with fail
        refine (less_is _ _ _ _ _ _ xs ys false _ (S1.out.drewN _) (T1.out.drewN _) HR1.out).mono ?_
        rintro e w2 ⟨rfl, q2, rfl⟩
        go_wp2_with fail
        refine (less_is _ _ _ _ _ _ ys xs true _ (T1.out.drewN _) (S1.out.drewN _) HR2.out).mono ?_
        rintro e w2 ⟨rfl, q3, rfl⟩
        go_wp2_with fail
        refine (less_is _ _ _ _ _ _ xs ys false _ (S1.out.drewN _) (T1.out.drewN _) HR1.out).mono ?_
        rintro e w2 ⟨rfl, hq2⟩
        have S2 := Lib.hid (Sl.drawn (S1.out.drewN _) hq2)
        have T2 := Lib.hid (Sl.drawn (T1.out.drewN _) hq2)
        have B2 := below_drawn (below_drewN B1 _) hq2
        have HOW := Lib.hid (owns_none_ints w2)
        clear hq2
        go_wp2_with (first
          | (at_builtin; refine append_ints rfl (.tmp 54) (.tmp 55) (by rfl) w2.heap.size _ 0 [] (by rfl) HOW.out a0 _ _ xs (by rfl) (S2.out.alloc _) HN0.out M0 (by have := HM0.out; omega) (by have := HM0.out; omega) (by simp) ?_; intro a5 c5 w3 hown1 hb3 hnil5; simp only [List.nil_append] at hown1; have B3 : Below w2.heap.size w2 w3 := (((Below.refl w2.heap.size w2).alloc (Nat.le_refl _) _).trans hb3); have hz3 := B3.size)
          | (at_builtin; refine append_ints rfl (.tmp 56) (.tmp 57) (by rfl) w2.heap.size _ _ _ (by rfl) (hown1.alloc _) (some ⟨w3.heap.size, 0, none⟩) 1 1 [5] (by rfl) (Sl.newcI [5] (by decide) (by decide) rfl rfl rfl) (fun h => by cases h) (M0 + 1) (by rfl) (by have := HM0.out; omega) (by simp; omega) ?_; intro a6 c6 w4 hown2 hb4 hnil6; have B4 : Below w2.heap.size w2 w4 := (B3.alloc hz3 _).trans hb4; have X4 := Lib.hid (Sl.of_owns hown2 HWM.out (by have h5 := HM0.out; have h6 := HS.out.1; rw [List.length_append, h6, h5]; rfl)); have S4 := Lib.hid (S2.out.below B4 (Nat.le_refl _)); have T4 := Lib.hid (T2.out.below B4 (Nat.le_refl _)); have B5 : Below w.heap.size w w4 := B2.trans (B4.mono B2.size))
          | fail)
        clear hown1 hown2 hb3 hb4 B3 B4 B2 HOW hnil5 hnil6 hz3
        refine (common_is _ _ _ _ _ _ xs ys _ _ S4.out T4.out HK.out).mono ?_
        rintro e w5 ⟨rfl, q5, rfl⟩
        go_wp2_with fail
        refine (common_is _ _ _ _ _ _ ys xs _ _ (T4.out.drewN _) (S4.out.drewN _) HK2.out).mono ?_
        rintro e w5 ⟨rfl, q6, rfl⟩
        go_wp2_with fail
        refine (less_is _ _ _ _ _ _ xs (xs ++ [5]) true _ (S4.out.drewN _) (X4.out.drewN _) HLM.out).mono ?_
        rintro e w5 ⟨rfl, q7, rfl⟩
        go_wp2_with fail
        refine (less_is _ _ _ _ _ _ xs xs false _ (S4.out.drewN _) (S4.out.drewN _) HLI.out).mono ?_
        rintro e w5 ⟨rfl, q8, hq8⟩
        have B6 : Below w.heap.size w w5 := by rw [hq8]; exact below_drewN (below_drewN B5 _) _
        clear hq8
        go_wp2
        go_ret
        exact ⟨rfl, B6⟩
  · have hr2 := less_asymm hr1
    have he : ¬ xs = ys := by rintro rfl; rw [less_irrefl] at hr1; cases hr1
    have hsm : decide (xs = ys) = false := by simpa using he
    have HNE := Lib.hid he
    have HSM := Lib.hid hsm
    have HR1 := Lib.hid hr1
    have HR2 := Lib.hid hr2
    clear he hsm hr2
    cases hr3 : lessL ys zs
    · have HR3 := Lib.hid hr3
      clear hr1 hr3
      have hkk : k < len0 ∧ k < len1 ∨ k = len0 ∧ k < len1 ∨ k = len1 ∧ k < len0 := by
        by_cases h : k = len0
        · by_cases h' : k = len1
          · exact absurd (HWH.out h h') HNE.out
          · omega
        · omega
      rcases hkk with ⟨h3, h4⟩ | ⟨rfl, h4⟩ | ⟨rfl, h4⟩
      · have hka : (k : Int) < (len0 : Int) := by omega
        have hkb : (k : Int) < (len1 : Int) := by omega
        have hkc : ((k : Int) == (len0 : Int)) = false := by simp; omega
        have hkd : ¬ k = len0 := by omega
        go_enter Try.func4, Try.ntmps4
        go_wp2_with fail
        refine (awake_any _).mono ?_
        rintro e w1 ⟨rfl, B1⟩
        have S1 := Lib.hid (HS.out.below B1 (Nat.le_refl _))
        have T1 := Lib.hid (HT.out.below B1 (Nat.le_refl _))
        have U1 := Lib.hid (HU.out.below B1 (Nat.le_refl _))
        go_wp2_with fail
        refine (same_is _ _ _ _ _ _ xs ys false _ S1.out T1.out HSM.out).mono ?_
        rintro e w2 ⟨rfl, q1, rfl⟩
        go_wp2_with fail
        refine (less_is _ _ _ _ _ _ xs ys true _ (S1.out.drewN _) (T1.out.drewN _) HR1.out).mono ?_
        rintro e w2 ⟨rfl, q2, rfl⟩
        go_wp2_with fail
        refine (less_is _ _ _ _ _ _ ys xs false _ (T1.out.drewN _) (S1.out.drewN _) HR2.out).mono ?_
        rintro e w2 ⟨rfl, q3, rfl⟩
        go_wp2_with fail
        refine (less_is _ _ _ _ _ _ xs ys true _ (S1.out.drewN _) (T1.out.drewN _) HR1.out).mono ?_
        rintro e w2 ⟨rfl, p0, rfl⟩
        go_wp2_with fail
        refine (less_is _ _ _ _ _ _ ys zs false _ (T1.out.drewN _) (U1.out.drewN _) HR3.out).mono ?_
        rintro e w2 ⟨rfl, hq2⟩
        have S2 := Lib.hid (Sl.drawn (S1.out.drewN _) hq2)
        have T2 := Lib.hid (Sl.drawn (T1.out.drewN _) hq2)
        have B2 := below_drawn (below_drewN B1 _) hq2
        have HOW := Lib.hid (owns_none_ints w2)
        clear hq2
        go_wp2_with (first
          | (at_builtin; refine append_ints rfl (.tmp 54) (.tmp 55) (by rfl) w2.heap.size _ 0 [] (by rfl) HOW.out a0 _ _ xs (by rfl) (S2.out.alloc _) HN0.out M0 (by have := HM0.out; omega) (by have := HM0.out; omega) (by simp) ?_; intro a5 c5 w3 hown1 hb3 hnil5; simp only [List.nil_append] at hown1; have B3 : Below w2.heap.size w2 w3 := (((Below.refl w2.heap.size w2).alloc (Nat.le_refl _) _).trans hb3); have hz3 := B3.size)
          | (at_builtin; refine append_ints rfl (.tmp 56) (.tmp 57) (by rfl) w2.heap.size _ _ _ (by rfl) (hown1.alloc _) (some ⟨w3.heap.size, 0, none⟩) 1 1 [5] (by rfl) (Sl.newcI [5] (by decide) (by decide) rfl rfl rfl) (fun h => by cases h) (M0 + 1) (by rfl) (by have := HM0.out; omega) (by simp; omega) ?_; intro a6 c6 w4 hown2 hb4 hnil6; have B4 : Below w2.heap.size w2 w4 := (B3.alloc hz3 _).trans hb4; have X4 := Lib.hid (Sl.of_owns hown2 HWM.out (by have h5 := HM0.out; have h6 := HS.out.1; rw [List.length_append, h6, h5]; rfl)); have S4 := Lib.hid (S2.out.below B4 (Nat.le_refl _)); have T4 := Lib.hid (T2.out.below B4 (Nat.le_refl _)); have B5 : Below w.heap.size w w4 := B2.trans (B4.mono B2.size))
          | fail)
        clear hown1 hown2 hb3 hb4 B3 B4 B2 HOW hnil5 hnil6 hz3
        refine (common_is _ _ _ _ _ _ xs ys _ _ S4.out T4.out HK.out).mono ?_
        rintro e w5 ⟨rfl, q5, rfl⟩
        go_wp2_with fail
        refine (common_is _ _ _ _ _ _ ys xs _ _ (T4.out.drewN _) (S4.out.drewN _) HK2.out).mono ?_
        rintro e w5 ⟨rfl, q6, rfl⟩
        go_wp2_with fail
        refine (less_is _ _ _ _ _ _ xs (xs ++ [5]) true _ (S4.out.drewN _) (X4.out.drewN _) HLM.out).mono ?_
        rintro e w5 ⟨rfl, q7, rfl⟩
        go_wp2_with fail
        refine (less_is _ _ _ _ _ _ xs xs false _ (S4.out.drewN _) (S4.out.drewN _) HLI.out).mono ?_
        rintro e w5 ⟨rfl, q8, hq8⟩
        have B6 : Below w.heap.size w w5 := by rw [hq8]; exact below_drewN (below_drewN B5 _) _
        clear hq8
        go_wp2
        go_ret
        exact ⟨rfl, B6⟩
      · have hka : (k : Int) < (len1 : Int) := by omega
        have hkc : ((k : Int) == (len1 : Int)) = false := by simp; omega
        have hkd : ¬ k = len1 := by omega
        have hmn : min (k : Int) (len1 : Int) = (k : Int) := by omega
        go_enter Try.func4, Try.ntmps4
        go_wp2_with fail
        refine (awake_any _).mono ?_
        rintro e w1 ⟨rfl, B1⟩
        have S1 := Lib.hid (HS.out.below B1 (Nat.le_refl _))
        have T1 := Lib.hid (HT.out.below B1 (Nat.le_refl _))
        have U1 := Lib.hid (HU.out.below B1 (Nat.le_refl _))
        go_wp2_with fail
        refine (same_is _ _ _ _ _ _ xs ys false _ S1.out T1.out HSM.out).mono ?_
        rintro e w2 ⟨rfl, q1, rfl⟩
        go_wp2_with fail
        refine (less_is _ _ _ _ _ _ xs ys true _ (S1.out.drewN _) (T1.out.drewN _) HR1.out).mono ?_
        rintro e w2 ⟨rfl, q2, rfl⟩
        go_wp2_with fail
        refine (less_is _ _ _ _ _ _ ys xs false _ (T1.out.drewN _) (S1.out.drewN _) HR2.out).mono ?_
        rintro e w2 ⟨rfl, q3, rfl⟩
        go_wp2_with fail
        refine (less_is _ _ _ _ _ _ xs ys true _ (S1.out.drewN _) (T1.out.drewN _) HR1.out).mono ?_
        rintro e w2 ⟨rfl, p0, rfl⟩
        go_wp2_with fail
        refine (less_is _ _ _ _ _ _ ys zs false _ (T1.out.drewN _) (U1.out.drewN _) HR3.out).mono ?_
        rintro e w2 ⟨rfl, hq2⟩
        have S2 := Lib.hid (Sl.drawn (S1.out.drewN _) hq2)
        have T2 := Lib.hid (Sl.drawn (T1.out.drewN _) hq2)
        have B2 := below_drawn (below_drewN B1 _) hq2
        have HOW := Lib.hid (owns_none_ints w2)
        clear hq2
        go_wp2_with (first
          | (at_builtin; refine append_ints rfl (.tmp 54) (.tmp 55) (by rfl) w2.heap.size _ 0 [] (by rfl) HOW.out a0 _ _ xs (by rfl) (S2.out.alloc _) HN0.out M0 (by have := HM0.out; omega) (by have := HM0.out; omega) (by simp) ?_; intro a5 c5 w3 hown1 hb3 hnil5; simp only [List.nil_append] at hown1; have B3 : Below w2.heap.size w2 w3 := (((Below.refl w2.heap.size w2).alloc (Nat.le_refl _) _).trans hb3); have hz3 := B3.size)
          | (at_builtin; refine append_ints rfl (.tmp 56) (.tmp 57) (by rfl) w2.heap.size _ _ _ (by rfl) (hown1.alloc _) (some ⟨w3.heap.size, 0, none⟩) 1 1 [5] (by rfl) (Sl.newcI [5] (by decide) (by decide) rfl rfl rfl) (fun h => by cases h) (M0 + 1) (by rfl) (by have := HM0.out; omega) (by simp; omega) ?_; intro a6 c6 w4 hown2 hb4 hnil6; have B4 : Below w2.heap.size w2 w4 := (B3.alloc hz3 _).trans hb4; have X4 := Lib.hid (Sl.of_owns hown2 HWM.out (by have h5 := HM0.out; have h6 := HS.out.1; rw [List.length_append, h6, h5]; rfl)); have S4 := Lib.hid (S2.out.below B4 (Nat.le_refl _)); have T4 := Lib.hid (T2.out.below B4 (Nat.le_refl _)); have B5 : Below w.heap.size w w4 := B2.trans (B4.mono B2.size))
          | fail)
        clear hown1 hown2 hb3 hb4 B3 B4 B2 HOW hnil5 hnil6 hz3
        refine (common_is _ _ _ _ _ _ xs ys _ _ S4.out T4.out HK.out).mono ?_
        rintro e w5 ⟨rfl, q5, rfl⟩
        go_wp2_with fail
        refine (common_is _ _ _ _ _ _ ys xs _ _ (T4.out.drewN _) (S4.out.drewN _) HK2.out).mono ?_
        rintro e w5 ⟨rfl, q6, rfl⟩
        go_wp2_with fail
        refine (less_is _ _ _ _ _ _ xs (xs ++ [5]) true _ (S4.out.drewN _) (X4.out.drewN _) HLM.out).mono ?_
        rintro e w5 ⟨rfl, q7, rfl⟩
        go_wp2_with fail
        refine (less_is _ _ _ _ _ _ xs xs false _ (S4.out.drewN _) (S4.out.drewN _) HLI.out).mono ?_
        rintro e w5 ⟨rfl, q8, hq8⟩
        have B6 : Below w.heap.size w w5 := by rw [hq8]; exact below_drewN (below_drewN B5 _) _
        clear hq8
        go_wp2
        go_ret
        exact ⟨rfl, B6⟩
      · have hka : (k : Int) < (len0 : Int) := by omega
        have hkc : ((k : Int) == (len0 : Int)) = false := by simp; omega
        have hkd : ¬ k = len0 := by omega
        have hmn : min (len0 : Int) (k : Int) = (k : Int) := by omega
        go_enter Try.func4, Try.ntmps4
        go_wp2_with fail
        refine (awake_any _).mono ?_
        rintro e w1 ⟨rfl, B1⟩
        have S1 := Lib.hid (HS.out.below B1 (Nat.le_refl _))
        have T1 := Lib.hid (HT.out.below B1 (Nat.le_refl _))
        have U1 := Lib.hid (HU.out.below B1 (Nat.le_refl _))
        go_wp2_with fail
        refine (same_is _ _ _ _ _ _ xs ys false _ S1.out T1.out HSM.out).mono ?_
        rintro e w2 ⟨rfl, q1, rfl⟩
        go_wp2_with fail
        refine (less_is _ _ _ _ _ _ xs ys true _ (S1.out.drewN _) (T1.out.drewN _) HR1.out).mono ?_
        rintro e w2 ⟨rfl, q2, rfl⟩
        go_wp2_with fail
        refine (less_is _ _ _ _ _ _ ys xs false _ (T1.out.drewN _) (S1.out.drewN _) HR2.out).mono ?_
        rintro e w2 ⟨rfl, q3, rfl⟩
        go_wp2_with fail
        refine (less_is _ _ _ _ _ _ xs ys true _ (S1.out.drewN _) (T1.out.drewN _) HR1.out).mono ?_
        rintro e w2 ⟨rfl, p0, rfl⟩
        go_wp2_with fail
        refine (less_is _ _ _ _ _ _ ys zs false _ (T1.out.drewN _) (U1.out.drewN _) HR3.out).mono ?_
        rintro e w2 ⟨rfl, hq2⟩
        have S2 := Lib.hid (Sl.drawn (S1.out.drewN _) hq2)
        have T2 := Lib.hid (Sl.drawn (T1.out.drewN _) hq2)
        have B2 := below_drawn (below_drewN B1 _) hq2
        have HOW := Lib.hid (owns_none_ints w2)
        clear hq2
        go_wp2_with (first
          | (at_builtin; refine append_ints rfl (.tmp 54) (.tmp 55) (by rfl) w2.heap.size _ 0 [] (by rfl) HOW.out a0 _ _ xs (by rfl) (S2.out.alloc _) HN0.out M0 (by have := HM0.out; omega) (by have := HM0.out; omega) (by simp) ?_; intro a5 c5 w3 hown1 hb3 hnil5; simp only [List.nil_append] at hown1; have B3 : Below w2.heap.size w2 w3 := (((Below.refl w2.heap.size w2).alloc (Nat.le_refl _) _).trans hb3); have hz3 := B3.size)
          | (at_builtin; refine append_ints rfl (.tmp 56) (.tmp 57) (by rfl) w2.heap.size _ _ _ (by rfl) (hown1.alloc _) (some ⟨w3.heap.size, 0, none⟩) 1 1 [5] (by rfl) (Sl.newcI [5] (by decide) (by decide) rfl rfl rfl) (fun h => by cases h) (M0 + 1) (by rfl) (by have := HM0.out; omega) (by simp; omega) ?_; intro a6 c6 w4 hown2 hb4 hnil6; have B4 : Below w2.heap.size w2 w4 := (B3.alloc hz3 _).trans hb4; have X4 := Lib.hid (Sl.of_owns hown2 HWM.out (by have h5 := HM0.out; have h6 := HS.out.1; rw [List.length_append, h6, h5]; rfl)); have S4 := Lib.hid (S2.out.below B4 (Nat.le_refl _)); have T4 := Lib.hid (T2.out.below B4 (Nat.le_refl _)); have B5 : Below w.heap.size w w4 := B2.trans (B4.mono B2.size))
          | fail)
        clear hown1 hown2 hb3 hb4 B3 B4 B2 HOW hnil5 hnil6 hz3
        refine (common_is _ _ _ _ _ _ xs ys _ _ S4.out T4.out HK.out).mono ?_
        rintro e w5 ⟨rfl, q5, rfl⟩
        go_wp2_with fail
        refine (common_is _ _ _ _ _ _ ys xs _ _ (T4.out.drewN _) (S4.out.drewN _) HK2.out).mono ?_
        rintro e w5 ⟨rfl, q6, rfl⟩
        go_wp2_with fail
        refine (less_is _ _ _ _ _ _ xs (xs ++ [5]) true _ (S4.out.drewN _) (X4.out.drewN _) HLM.out).mono ?_
        rintro e w5 ⟨rfl, q7, rfl⟩
        go_wp2_with fail
        refine (less_is _ _ _ _ _ _ xs xs false _ (S4.out.drewN _) (S4.out.drewN _) HLI.out).mono ?_
        rintro e w5 ⟨rfl, q8, hq8⟩
        have B6 : Below w.heap.size w w5 := by rw [hq8]; exact below_drewN (below_drewN B5 _) _
        clear hq8
        go_wp2
        go_ret
        exact ⟨rfl, B6⟩
    · have HR3 := Lib.hid hr3
      have HR4 := Lib.hid (less_trans hr1 hr3)
      clear hr1 hr3
      have hkk : k < len0 ∧ k < len1 ∨ k = len0 ∧ k < len1 ∨ k = len1 ∧ k < len0 := by
        by_cases h : k = len0
        · by_cases h' : k = len1
          · exact absurd (HWH.out h h') HNE.out
          · omega
        · omega
      rcases hkk with ⟨h3, h4⟩ | ⟨rfl, h4⟩ | ⟨rfl, h4⟩
      · have hka : (k : Int) < (len0 : Int) := by omega
        have hkb : (k : Int) < (len1 : Int) := by omega
        have hkc : ((k : Int) == (len0 : Int)) = false := by simp; omega
        have hkd : ¬ k = len0 := by omega
        go_enter Try.func4, Try.ntmps4
        go_wp2_with fail
        refine (awake_any _).mono ?_
        rintro e w1 ⟨rfl, B1⟩
        have S1 := Lib.hid (HS.out.below B1 (Nat.le_refl _))
        have T1 := Lib.hid (HT.out.below B1 (Nat.le_refl _))
        have U1 := Lib.hid (HU.out.below B1 (Nat.le_refl _))
        go_wp2_with fail
        refine (same_is _ _ _ _ _ _ xs ys false _ S1.out T1.out HSM.out).mono ?_
        rintro e w2 ⟨rfl, q1, rfl⟩
        go_wp2_with fail
        refine (less_is _ _ _ _ _ _ xs ys true _ (S1.out.drewN _) (T1.out.drewN _) HR1.out).mono ?_
        rintro e w2 ⟨rfl, q2, rfl⟩
        go_wp2_with fail
        refine (less_is _ _ _ _ _ _ ys xs false _ (T1.out.drewN _) (S1.out.drewN _) HR2.out).mono ?_
        rintro e w2 ⟨rfl, q3, rfl⟩
        go_wp2_with fail
        refine (less_is _ _ _ _ _ _ xs ys true _ (S1.out.drewN _) (T1.out.drewN _) HR1.out).mono ?_
        rintro e w2 ⟨rfl, p0, rfl⟩
        go_wp2_with fail
        refine (less_is _ _ _ _ _ _ ys zs true _ (T1.out.drewN _) (U1.out.drewN _) HR3.out).mono ?_
        rintro e w2 ⟨rfl, p1, rfl⟩
        go_wp2_with fail
        refine (less_is _ _ _ _ _ _ xs zs true _ (S1.out.drewN _) (U1.out.drewN _) HR4.out).mono ?_
        rintro e w2 ⟨rfl, hq2⟩
        have S2 := Lib.hid (Sl.drawn (S1.out.drewN _) hq2)
        have T2 := Lib.hid (Sl.drawn (T1.out.drewN _) hq2)
        have B2 := below_drawn (below_drewN B1 _) hq2
        have HOW := Lib.hid (owns_none_ints w2)
        clear hq2
        go_wp2_with (first
          | (at_builtin; refine append_ints rfl (.tmp 54) (.tmp 55) (by rfl) w2.heap.size _ 0 [] (by rfl) HOW.out a0 _ _ xs (by rfl) (S2.out.alloc _) HN0.out M0 (by have := HM0.out; omega) (by have := HM0.out; omega) (by simp) ?_; intro a5 c5 w3 hown1 hb3 hnil5; simp only [List.nil_append] at hown1; have B3 : Below w2.heap.size w2 w3 := (((Below.refl w2.heap.size w2).alloc (Nat.le_refl _) _).trans hb3); have hz3 := B3.size)
          | (at_builtin; refine append_ints rfl (.tmp 56) (.tmp 57) (by rfl) w2.heap.size _ _ _ (by rfl) (hown1.alloc _) (some ⟨w3.heap.size, 0, none⟩) 1 1 [5] (by rfl) (Sl.newcI [5] (by decide) (by decide) rfl rfl rfl) (fun h => by cases h) (M0 + 1) (by rfl) (by have := HM0.out; omega) (by simp; omega) ?_; intro a6 c6 w4 hown2 hb4 hnil6; have B4 : Below w2.heap.size w2 w4 := (B3.alloc hz3 _).trans hb4; have X4 := Lib.hid (Sl.of_owns hown2 HWM.out (by have h5 := HM0.out; have h6 := HS.out.1; rw [List.length_append, h6, h5]; rfl)); have S4 := Lib.hid (S2.out.below B4 (Nat.le_refl _)); have T4 := Lib.hid (T2.out.below B4 (Nat.le_refl _)); have B5 : Below w.heap.size w w4 := B2.trans (B4.mono B2.size))
          | fail)
        clear hown1 hown2 hb3 hb4 B3 B4 B2 HOW hnil5 hnil6 hz3
        refine (common_is _ _ _ _ _ _ xs ys _ _ S4.out T4.out HK.out).mono ?_
        rintro e w5 ⟨rfl, q5, rfl⟩
        go_wp2_with fail
        refine (common_is _ _ _ _ _ _ ys xs _ _ (T4.out.drewN _) (S4.out.drewN _) HK2.out).mono ?_
        rintro e w5 ⟨rfl, q6, rfl⟩
        go_wp2_with fail
        refine (less_is _ _ _ _ _ _ xs (xs ++ [5]) true _ (S4.out.drewN _) (X4.out.drewN _) HLM.out).mono ?_
        rintro e w5 ⟨rfl, q7, rfl⟩
        go_wp2_with fail
        refine (less_is _ _ _ _ _ _ xs xs false _ (S4.out.drewN _) (S4.out.drewN _) HLI.out).mono ?_
        rintro e w5 ⟨rfl, q8, hq8⟩
        have B6 : Below w.heap.size w w5 := by rw [hq8]; exact below_drewN (below_drewN B5 _) _
        clear hq8
        go_wp2
        go_ret
        exact ⟨rfl, B6⟩
      · have hka : (k : Int) < (len1 : Int) := by omega
        have hkc : ((k : Int) == (len1 : Int)) = false := by simp; omega
        have hkd : ¬ k = len1 := by omega
        have hmn : min (k : Int) (len1 : Int) = (k : Int) := by omega
        go_enter Try.func4, Try.ntmps4
        go_wp2_with fail
        refine (awake_any _).mono ?_
        rintro e w1 ⟨rfl, B1⟩
        have S1 := Lib.hid (HS.out.below B1 (Nat.le_refl _))
        have T1 := Lib.hid (HT.out.below B1 (Nat.le_refl _))
        have U1 := Lib.hid (HU.out.below B1 (Nat.le_refl _))
        go_wp2_with fail
        refine (same_is _ _ _ _ _ _ xs ys false _ S1.out T1.out HSM.out).mono ?_
        rintro e w2 ⟨rfl, q1, rfl⟩
        go_wp2_with fail
        refine (less_is _ _ _ _ _ _ xs ys true _ (S1.out.drewN _) (T1.out.drewN _) HR1.out).mono ?_
        rintro e w2 ⟨rfl, q2, rfl⟩
        go_wp2_with fail
        refine (less_is _ _ _ _ _ _ ys xs false _ (T1.out.drewN _) (S1.out.drewN _) HR2.out).mono ?_
        rintro e w2 ⟨rfl, q3, rfl⟩
        go_wp2_with fail
        refine (less_is _ _ _ _ _ _ xs ys true _ (S1.out.drewN _) (T1.out.drewN _) HR1.out).mono ?_
        rintro e w2 ⟨rfl, p0, rfl⟩
        go_wp2_with fail
        refine (less_is _ _ _ _ _ _ ys zs true _ (T1.out.drewN _) (U1.out.drewN _) HR3.out).mono ?_
        rintro e w2 ⟨rfl, p1, rfl⟩
        go_wp2_with fail
        refine (less_is _ _ _ _ _ _ xs zs true _ (S1.out.drewN _) (U1.out.drewN _) HR4.out).mono ?_
        rintro e w2 ⟨rfl, hq2⟩
        have S2 := Lib.hid (Sl.drawn (S1.out.drewN _) hq2)
        have T2 := Lib.hid (Sl.drawn (T1.out.drewN _) hq2)
        have B2 := below_drawn (below_drewN B1 _) hq2
        have HOW := Lib.hid (owns_none_ints w2)
        clear hq2
        go_wp2_with (first
          | (at_builtin; refine append_ints rfl (.tmp 54) (.tmp 55) (by rfl) w2.heap.size _ 0 [] (by rfl) HOW.out a0 _ _ xs (by rfl) (S2.out.alloc _) HN0.out M0 (by have := HM0.out; omega) (by have := HM0.out; omega) (by simp) ?_; intro a5 c5 w3 hown1 hb3 hnil5; simp only [List.nil_append] at hown1; have B3 : Below w2.heap.size w2 w3 := (((Below.refl w2.heap.size w2).alloc (Nat.le_refl _) _).trans hb3); have hz3 := B3.size)
          | (at_builtin; refine append_ints rfl (.tmp 56) (.tmp 57) (by rfl) w2.heap.size _ _ _ (by rfl) (hown1.alloc _) (some ⟨w3.heap.size, 0, none⟩) 1 1 [5] (by rfl) (Sl.newcI [5] (by decide) (by decide) rfl rfl rfl) (fun h => by cases h) (M0 + 1) (by rfl) (by have := HM0.out; omega) (by simp; omega) ?_; intro a6 c6 w4 hown2 hb4 hnil6; have B4 : Below w2.heap.size w2 w4 := (B3.alloc hz3 _).trans hb4; have X4 := Lib.hid (Sl.of_owns hown2 HWM.out (by have h5 := HM0.out; have h6 := HS.out.1; rw [List.length_append, h6, h5]; rfl)); have S4 := Lib.hid (S2.out.below B4 (Nat.le_refl _)); have T4 := Lib.hid (T2.out.below B4 (Nat.le_refl _)); have B5 : Below w.heap.size w w4 := B2.trans (B4.mono B2.size))
          | fail)
        clear hown1 hown2 hb3 hb4 B3 B4 B2 HOW hnil5 hnil6 hz3
        refine (common_is _ _ _ _ _ _ xs ys _ _ S4.out T4.out HK.out).mono ?_
        rintro e w5 ⟨rfl, q5, rfl⟩
        go_wp2_with fail
        refine (common_is _ _ _ _ _ _ ys xs _ _ (T4.out.drewN _) (S4.out.drewN _) HK2.out).mono ?_
        rintro e w5 ⟨rfl, q6, rfl⟩
        go_wp2_with fail
        refine (less_is _ _ _ _ _ _ xs (xs ++ [5]) true _ (S4.out.drewN _) (X4.out.drewN _) HLM.out).mono ?_
        rintro e w5 ⟨rfl, q7, rfl⟩
        go_wp2_with fail
        refine (less_is _ _ _ _ _ _ xs xs false _ (S4.out.drewN _) (S4.out.drewN _) HLI.out).mono ?_
        rintro e w5 ⟨rfl, q8, hq8⟩
        have B6 : Below w.heap.size w w5 := by rw [hq8]; exact below_drewN (below_drewN B5 _) _
        clear hq8
        go_wp2
        go_ret
        exact ⟨rfl, B6⟩
      · have hka : (k : Int) < (len0 : Int) := by omega
        have hkc : ((k : Int) == (len0 : Int)) = false := by simp; omega
        have hkd : ¬ k = len0 := by omega
        have hmn : min (len0 : Int) (k : Int) = (k : Int) := by omega
        go_enter Try.func4, Try.ntmps4
        go_wp2_with fail
        refine (awake_any _).mono ?_
        rintro e w1 ⟨rfl, B1⟩
        have S1 := Lib.hid (HS.out.below B1 (Nat.le_refl _))
        have T1 := Lib.hid (HT.out.below B1 (Nat.le_refl _))
        have U1 := Lib.hid (HU.out.below B1 (Nat.le_refl _))
        go_wp2_with fail
        refine (same_is _ _ _ _ _ _ xs ys false _ S1.out T1.out HSM.out).mono ?_
        rintro e w2 ⟨rfl, q1, rfl⟩
        go_wp2_with fail
        refine (less_is _ _ _ _ _ _ xs ys true _ (S1.out.drewN _) (T1.out.drewN _) HR1.out).mono ?_
        rintro e w2 ⟨rfl, q2, rfl⟩
        go_wp2_with fail
        refine (less_is _ _ _ _ _ _ ys xs false _ (T1.out.drewN _) (S1.out.drewN _) HR2.out).mono ?_
        rintro e w2 ⟨rfl, q3, rfl⟩
        go_wp2_with fail
        refine (less_is _ _ _ _ _ _ xs ys true _ (S1.out.drewN _) (T1.out.drewN _) HR1.out).mono ?_
        rintro e w2 ⟨rfl, p0, rfl⟩
        go_wp2_with fail
        refine (less_is _ _ _ _ _ _ ys zs true _ (T1.out.drewN _) (U1.out.drewN _) HR3.out).mono ?_
        rintro e w2 ⟨rfl, p1, rfl⟩
        go_wp2_with fail
        refine (less_is _ _ _ _ _ _ xs zs true _ (S1.out.drewN _) (U1.out.drewN _) HR4.out).mono ?_
        rintro e w2 ⟨rfl, hq2⟩
        have S2 := Lib.hid (Sl.drawn (S1.out.drewN _) hq2)
        have T2 := Lib.hid (Sl.drawn (T1.out.drewN _) hq2)
        have B2 := below_drawn (below_drewN B1 _) hq2
        have HOW := Lib.hid (owns_none_ints w2)
        clear hq2
        go_wp2_with (first
          | (at_builtin; refine append_ints rfl (.tmp 54) (.tmp 55) (by rfl) w2.heap.size _ 0 [] (by rfl) HOW.out a0 _ _ xs (by rfl) (S2.out.alloc _) HN0.out M0 (by have := HM0.out; omega) (by have := HM0.out; omega) (by simp) ?_; intro a5 c5 w3 hown1 hb3 hnil5; simp only [List.nil_append] at hown1; have B3 : Below w2.heap.size w2 w3 := (((Below.refl w2.heap.size w2).alloc (Nat.le_refl _) _).trans hb3); have hz3 := B3.size)
          | (at_builtin; refine append_ints rfl (.tmp 56) (.tmp 57) (by rfl) w2.heap.size _ _ _ (by rfl) (hown1.alloc _) (some ⟨w3.heap.size, 0, none⟩) 1 1 [5] (by rfl) (Sl.newcI [5] (by decide) (by decide) rfl rfl rfl) (fun h => by cases h) (M0 + 1) (by rfl) (by have := HM0.out; omega) (by simp; omega) ?_; intro a6 c6 w4 hown2 hb4 hnil6; have B4 : Below w2.heap.size w2 w4 := (B3.alloc hz3 _).trans hb4; have X4 := Lib.hid (Sl.of_owns hown2 HWM.out (by have h5 := HM0.out; have h6 := HS.out.1; rw [List.length_append, h6, h5]; rfl)); have S4 := Lib.hid (S2.out.below B4 (Nat.le_refl _)); have T4 := Lib.hid (T2.out.below B4 (Nat.le_refl _)); have B5 : Below w.heap.size w w4 := B2.trans (B4.mono B2.size))
          | fail)
        clear hown1 hown2 hb3 hb4 B3 B4 B2 HOW hnil5 hnil6 hz3
        refine (common_is _ _ _ _ _ _ xs ys _ _ S4.out T4.out HK.out).mono ?_
        rintro e w5 ⟨rfl, q5, rfl⟩
        go_wp2_with fail
        refine (common_is _ _ _ _ _ _ ys xs _ _ (T4.out.drewN _) (S4.out.drewN _) HK2.out).mono ?_
        rintro e w5 ⟨rfl, q6, rfl⟩
        go_wp2_with fail
        refine (less_is _ _ _ _ _ _ xs (xs ++ [5]) true _ (S4.out.drewN _) (X4.out.drewN _) HLM.out).mono ?_
        rintro e w5 ⟨rfl, q7, rfl⟩
        go_wp2_with fail
        refine (less_is _ _ _ _ _ _ xs xs false _ (S4.out.drewN _) (S4.out.drewN _) HLI.out).mono ?_
        rintro e w5 ⟨rfl, q8, hq8⟩
        have B6 : Below w.heap.size w w5 := by rw [hq8]; exact below_drewN (below_drewN B5 _) _
        clear hq8
        go_wp2
        go_ret
        exact ⟨rfl, B6⟩

/-! ### THE ROW's STEP: WRITTEN OUT: LEAVE IT -/
set_option maxRecDepth 100000 in
theorem lifted (os : Os) (started : os.Started) (H : Type) (enc : TypeId × Value → H) :
    ReturnsInHanded {} Try.checked os 4 .any (Rows.orderThreeSpec.pre6 enc Try.prog Try.f4 Rows.orderThreeRow.domain false) (Rows.orderThreeSpec.post enc Try.prog Try.f4 false true false false) := by
  refine returnsInHanded_of_change (C := Try.checked) own started (by kernel_rfl) Try.func4
    (ChangeSpec.witness6 (enc := enc) (C := Try.checked) false ⟨#[], #[.slice none 0 0, .slice none 0 0, .slice none 0 0], []⟩ 8 (by kernel_rfl) (by kernel_rfl) (by kernel_rfl) (by kernel_rfl)) ?_
  intro W base args ds gs before hval0 hW hcnd _
  have hval : ∀ (j : Nat) t v, Try.f4.params[j]? = some t → args[j]? = some v → Value.okWide Try.prog W .any base t v := hval0
  have hW' := hW
  obtain ⟨p, q, hA0, hV, rfl, hfz, hnd⟩ := hW
  have hA : DataW.TrodAll enc Try.prog W 0 (fun _ => true) true Try.f4.params.toList args.toList ds p := hA0
  rw [Try.params4] at hA hval
  obtain ⟨v0, vs0, d0, ds0, p0, q0, hargs, rfl, rfl, h0, r0⟩ := trodAll_cons hA
  obtain ⟨v1, vs1, d1, ds1, p1, q1, rfl, rfl, rfl, h1, r1⟩ := trodAll_cons r0
  obtain ⟨v2, vs2, d2, ds2, p2, q2, rfl, rfl, rfl, h2, r2⟩ := trodAll_cons r1
  obtain ⟨rfl, rfl, rfl⟩ := trodAll_nil r2
  obtain rfl : args = #[v0, v1, v2] := by cases args; simp_all
  obtain ⟨rfl, rfl⟩ := trodVars_none hV
  obtain ⟨a0, len0, cap0, rfl⟩ := okWide_slice Try.underlying23 (hval 0 23 v0 rfl rfl)
  have k0 := h0
  have lt0 : ∀ x ∈ p0, x.block < W.heap.size := by obtain ⟨m, hm⟩ := k0; exact DataW.trod_lt m _ _ _ hm
  obtain ⟨z0, w0⟩ : ∃ zs, IsRow .i64 W a0 len0 cap0 zs := by
    obtain ⟨fuel, hf⟩ := h0
    rcases open_ints Try.underlying23 Try.underlying3 (by kernel_rfl) hf with ⟨hcs, _⟩ | ⟨x, l, c, zs, hcs, _, hl, hm, hz, _, hcell, hwz⟩
    · simp [Value.cells] at hcs
      obtain ⟨rfl, rfl, rfl⟩ := hcs
      exact ⟨[], .inl ⟨rfl, rfl, rfl, rfl⟩⟩
    · simp [Value.cells] at hcs
      obtain ⟨rfl, rfl, rfl⟩ := hcs
      exact ⟨zs, .inr ⟨_, rfl, hl, hm, by simpa using hz, hcell, hwz⟩⟩
  obtain ⟨a1, len1, cap1, rfl⟩ := okWide_slice Try.underlying23 (hval 1 23 v1 rfl rfl)
  have k1 := h1
  have lt1 : ∀ x ∈ p1, x.block < W.heap.size := by obtain ⟨m, hm⟩ := k1; exact DataW.trod_lt m _ _ _ hm
  obtain ⟨z1, w1⟩ : ∃ zs, IsRow .i64 W a1 len1 cap1 zs := by
    obtain ⟨fuel, hf⟩ := h1
    rcases open_ints Try.underlying23 Try.underlying3 (by kernel_rfl) hf with ⟨hcs, _⟩ | ⟨x, l, c, zs, hcs, _, hl, hm, hz, _, hcell, hwz⟩
    · simp [Value.cells] at hcs
      obtain ⟨rfl, rfl, rfl⟩ := hcs
      exact ⟨[], .inl ⟨rfl, rfl, rfl, rfl⟩⟩
    · simp [Value.cells] at hcs
      obtain ⟨rfl, rfl, rfl⟩ := hcs
      exact ⟨zs, .inr ⟨_, rfl, hl, hm, by simpa using hz, hcell, hwz⟩⟩
  obtain ⟨a2, len2, cap2, rfl⟩ := okWide_slice Try.underlying23 (hval 2 23 v2 rfl rfl)
  have k2 := h2
  have lt2 : ∀ x ∈ p2, x.block < W.heap.size := by obtain ⟨m, hm⟩ := k2; exact DataW.trod_lt m _ _ _ hm
  obtain ⟨z2, w2⟩ : ∃ zs, IsRow .i64 W a2 len2 cap2 zs := by
    obtain ⟨fuel, hf⟩ := h2
    rcases open_ints Try.underlying23 Try.underlying3 (by kernel_rfl) hf with ⟨hcs, _⟩ | ⟨x, l, c, zs, hcs, _, hl, hm, hz, _, hcell, hwz⟩
    · simp [Value.cells] at hcs
      obtain ⟨rfl, rfl, rfl⟩ := hcs
      exact ⟨[], .inl ⟨rfl, rfl, rfl, rfl⟩⟩
    · simp [Value.cells] at hcs
      obtain ⟨rfl, rfl, rfl⟩ := hcs
      exact ⟨zs, .inr ⟨_, rfl, hl, hm, by simpa using hz, hcell, hwz⟩⟩
  clear hA0 hval0
  refine (walk a0 len0 cap0 z0 a1 len1 cap1 z1 a2 len2 cap2 z2 W w0 w1 w2).mono fun e W' ⟨he, bel⟩ => ?_
  subst he
  exact ⟨_, rfl, _, _, _, [], _, [], hW', trodAll_mk1 (shut_bool Try.underlying4 _), (trodAll_cons_mk (Below.trod laidOut (by kernel_rfl) (of_decide_eq_true (by kernel_rfl)) k0 bel lt0) (trodAll_cons_mk (Below.trod laidOut (by kernel_rfl) (of_decide_eq_true (by kernel_rfl)) k1 bel lt1) (trodAll_cons_mk (Below.trod laidOut (by kernel_rfl) (of_decide_eq_true (by kernel_rfl)) k2 bel lt2) trodAll_mk0))), rfl, bel.frame _, fun h => by cases h⟩

theorem over : Rows.orderThreeRow.holds Try.pinned (OpenSpec.ofChange Rows.orderThreeSpec) :=
  OpenClaim.holds_of_wide 4 Try.f4 rfl rfl rfl rfl rfl rfl rfl ⟨rfl, rfl, rfl, rfl, rfl⟩ rfl rfl rfl rfl rfl (by kernel_rfl) Try.func4 (by kernel_rfl)
    (of_decide_eq_true (by kernel_rfl)) (by unfold Func.isWrapper; first | (rw [if_pos (by decide +kernel)]; kernel_rfl) | (rw [if_neg (by decide +kernel)]; exact ⟨rfl, rfl⟩))
    (fun os started H enc _ => lifted os started H enc)

/-- ████ THE STATEMENT ████ -/
theorem proved : Rows.OrderThreeSaid := over
#print axioms proved
end Go.Proofs.Ytooefnihmckinaa.orderThree
