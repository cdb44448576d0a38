/- For every list of lines and every list of bytes LineBack answers true, and turns nothing that was there. No condition. -/
import Derived.Test.YtjdkmfcjflggfaaRows
import Derived.Test.YtjdkmfcjflggfaaLineAppN
import Derived.WalkKit
import Derived.ProofKit
import Derived.OpenShut
import Derived.ShutString
import Derived.ChangeOld
import Derived.Below
import Derived.Deep.Matrix
namespace Go.Proofs.Ytjdkmfcjflggfaa.lineBack
open Go.ChangeShapes Go.WideShapes Go.ChangeAt Go.RowKit
set_option linter.unusedVariables false

theorem own : ownKnob Try.prog.godebug = none := by kernel_rfl
theorem laidOut : laidOutB Try.prog = true := by kernel_rfl

/-- a slice of integers that came in -/
def IsRow (k : IntKind) (w : World) (a : Option Addr) (len cap : Nat) (zs : List Int) : Prop :=
  (a = none ∧ len = 0 ∧ cap = 0 ∧ zs = []) ∨
  ∃ x, a = some x ∧ len ≤ cap ∧ cap ≤ maxLen ∧ zs.length = cap ∧ (∀ i, i < zs.length → w.cell? (x.add i) = some (.int k (zs.getD i 0))) ∧ ∀ n ∈ zs, (Lit.int k n).wf = true

/-- lines, each with its end behind -/
def flat (l : List (List Int)) : List Int := l.flatMap fun x => x ++ [10]
theorem flat_at {l : List (List Int)} {i : Nat} {z : List Int} (h : i < l.length) (hz : l.getD i [] = z) : flat (l.take (i + 1)) = flat (l.take i) ++ z ++ [10] := by
  have e : l[i] = z := by rw [← hz]; simp [h]
  unfold flat
  rw [List.take_succ_eq_append_getElem h, List.flatMap_append, e]
  simp
theorem flat_wf {l : List (List Int)} (h : ∀ x ∈ l, ∀ z ∈ x, (Lit.int .u8 z).wf = true) : ∀ z ∈ flat l, (Lit.int .u8 z).wf = true := by
  intro z hz
  unfold flat at hz
  obtain ⟨x, hx, hz⟩ := List.mem_flatMap.1 hz
  rcases List.mem_append.1 hz with hz | hz
  · exact h x hx z hz
  · rw [List.mem_singleton.1 hz]; decide
theorem ends_at {l : List (List Int)} {i : Nat} {z : List Int} (h : i < l.length) (hz : l.getD i [] = z) (h1 : ∀ x ∈ l.take i, ∀ c ∈ x, c ≠ 10) (h2 : ∀ c ∈ z, c ≠ 10) : ∀ x ∈ l.take (i + 1), ∀ c ∈ x, c ≠ 10 := by
  have e : l[i] = z := by rw [← hz]; simp [h]
  intro x hx
  rw [List.take_succ_eq_append_getElem h, e] at hx
  rcases List.mem_append.1 hx with hx | hx
  · exact h1 x hx
  · rw [List.mem_singleton.1 hx]; exact h2
theorem plain_at {z : List Int} {k : Nat} (h : k < z.length) (h1 : ∀ c ∈ z.take k, c ≠ 10) (h2 : z.getD k 0 ≠ 10) : ∀ c ∈ z.take (k + 1), c ≠ 10 := by
  intro c hc
  rw [List.take_succ_eq_append_getElem h] at hc
  rcases List.mem_append.1 hc with hc | hc
  · exact h1 c hc
  · rw [List.mem_singleton.1 hc]; simpa [h] using h2
theorem total_at {l : List (List Int)} {i : Nat} {z : List Int} (h : i < l.length) (hz : l.getD i [] = z) : Line.total (l.take (i + 1)) = Line.total (l.take i) + z.length + 1 := by
  have e : l[i] = z := by rw [← hz]; simp [h]
  unfold Line.total
  rw [List.take_succ_eq_append_getElem h, List.map_append, List.sum_append, e]
  simp
  omega
theorem total_take (l : List (List Int)) (i : Nat) : Line.total (l.take i) ≤ Line.total l := by
  unfold Line.total
  conv => rhs; rw [← List.take_append_drop i l]
  rw [List.map_append, List.sum_append]
  omega
theorem row_wf {w : World} {a : Option Addr} {n cap : Nat} {xs : List Bd} (h : Bs w a n cap xs) : ∀ x ∈ bnums xs, ∀ z ∈ x, (Lit.int .u8 z).wf = true := by
  intro x hx
  obtain ⟨y, hy, rfl⟩ := List.mem_map.1 hx
  exact (h.2.2.2.1 y hy).2.2.2.1

/-! ### STEP 1: the walk -/
set_option maxRecDepth 100000 in
set_option maxHeartbeats 6000000 in
theorem walk (a0 : Option Addr) (len0 cap0 : Nat) (x0 : List Bd) (a1 : Option Addr) (len1 cap1 : Nat) (z1 : List Int) (w : World) (w0 : Bs w a0 len0 cap0 x0) (n0 : a0 = none → cap0 = 0) (w1 : IsRow .u8 w a1 len1 cap1 z1) :
    Calls Try.prog 4 #[.slice a0 len0 cap0, .slice a1 len1 cap1] w fun e w' => e = .returned (.bool true) ∧ Below w.heap.size w w' := by
  have hcm0 := w0.2.2.1
  have hnc0 := w0.2.1
  unfold maxLen at hcm0
  have HX := Lib.hid w0
  have HN0 := Lib.hid n0
  clear w0 n0
  have hn01 : a1 = none → cap1 = 0 := by
    rcases w1 with ⟨_, _, h, _⟩ | ⟨x, h, _⟩
    · exact fun _ => h
    · intro h'; rw [h] at h'; cases h'
  have HN1 := Lib.hid hn01
  clear hn01
  have hs1 := Sl.of_row w1
  generalize z1.take len1 = ys at hs1
  have hcm1 := hs1.2.2.1
  have hnc1 := hs1.2.1
  unfold maxLen at hcm1
  have HT := Lib.hid hs1
  clear hs1 w1
  by_cases g0 : 100 < len0
  · have hi0 : (100 : Int) < (len0 : Int) := by omega
    go_enter Try.func4, Try.ntmps4
    go_wp2_with fail
    refine (awake_any _).mono ?_
    rintro e w1 ⟨rfl, B1⟩
    go_wp2
    go_ret
    exact ⟨rfl, B1⟩
  have hi0 : ¬ (100 : Int) < (len0 : Int) := by omega
  by_cases g1 : 1000 < len1
  · have hi1 : (1000 : Int) < (len1 : Int) := by omega
    go_enter Try.func4, Try.ntmps4
    go_wp2_with fail
    refine (awake_any _).mono ?_
    rintro e w1 ⟨rfl, B1⟩
    go_wp2
    go_ret
    exact ⟨rfl, B1⟩
  clear hi0
  have hi0 : decide ((100 : Int) < (len0 : Int)) = false := by simp; omega
  have hi1 : decide ((1000 : Int) < (len1 : Int)) = false := by simp; omega
  go_enter Try.func4, Try.ntmps4
  go_wp2_with fail
  refine (awake_any _).mono ?_
  rintro e w1 ⟨rfl, B1⟩
  have X1 := Lib.hid (HX.out.below B1 (Nat.le_refl _))
  have T1 := Lib.hid (HT.out.below B1 (Nat.le_refl _))
  go_wp2
  go_loopw [6, 7] (fun ov ix wr => ∃ (i N : Nat) (a' : Option Addr) (c' : Nat), i ≤ len0 ∧ N ≤ 101 * i ∧ ix = .int .i64 (i : Int) ∧ ov = .slice a' N c' ∧ Hid (wr.ownsRow w1.heap.size 5 1 (.slice a' N c') N (u8s (flat ((bnums x0).take i)))) ∧ Hid (∀ x ∈ (bnums x0).take i, ∀ c ∈ x, c ≠ 10) ∧ Hid (a' = none → c' = 0) ∧ Below w1.heap.size w1 wr) (fun _ ix _ => len0 - (intOf ix).toNat)
  case atStart => exact ⟨0, 0, none, 0, Nat.zero_le _, Nat.zero_le _, rfl, rfl, World.ownsRow_nil _ _ _ _, (by first | exact (trivial : True) | (intro x hx; simp at hx)), (fun _ => rfl), Below.refl _ _⟩
  case round =>
    obtain ⟨i, N, a', c', hi, hNi, rfl, rfl, HO, HE, HN, hb⟩ := hrel
    obtain ⟨wu, hwu⟩ : ∃ wu, wu = wr := ⟨_, rfl⟩
    subst hwu
    by_cases hlt : i < len0
    · obtain ⟨b, off, a4, n4, c4, z4, rfl, _, _, hx4, hs4, hz4⟩ := (X1.out.below hb (Nat.le_refl _)).one i hlt
      have hlti : (i : Int) < (len0 : Int) := by omega
      by_cases hbig : 100 < n4
      · have hbi : (100 : Int) < (n4 : Int) := by omega
        clear hs4 hz4
        go_wp2
        go_ret
        exact ⟨rfl, B1.trans (hb.mono B1.size)⟩
      have hbi : ¬ (100 : Int) < (n4 : Int) := by omega
      have hbi2 : decide ((100 : Int) < (n4 : Int)) = false := by simp; omega
      have hil : i < (bnums x0).length := by rw [bnums_length, HX.out.1]; exact hlt
      have hfl := flat_at hil hz4
      have hea := ends_at hil hz4 HE.out
      have HS4 := Lib.hid hs4
      have HFL := Lib.hid hfl
      have HEA := Lib.hid hea
      have hn4 := hs4.2.1
      have hc4 := hs4.2.2.1
      unfold maxLen at hc4
      clear hs4 hfl hea hz4 hil
      go_wp2
      go_loopw [8] (fun kx wv => ∃ k : Nat, k ≤ n4 ∧ kx = .int .i64 (k : Int) ∧ Hid (wv = wu) ∧ Hid (∀ c ∈ z4.take k, c ≠ 10)) (fun kx _ => n4 - (intOf kx).toNat)
      case atStart => exact ⟨0, Nat.zero_le _, rfl, (by first | exact (trivial : True) | rfl), (by first | exact (trivial : True) | (intro x hx; simp at hx))⟩
      case round =>
        obtain ⟨k, hk, rfl, HW, HP⟩ := hrel
        obtain rfl := HW.out
        clear HW
        by_cases hkl : k < n4
        · obtain ⟨b5, o5, rfl, _, hc5⟩ := HS4.out.at (by omega)
          have hx5 := hc5 k hkl
          have hpl := plain_at (z := z4) (k := k) (by rw [HS4.out.1]; exact hkl) HP.out
          obtain ⟨x, hx⟩ : ∃ x, x = z4.getD k 0 := ⟨_, rfl⟩
          rw [← hx] at hx5 hpl
          have hki : (k : Int) < (n4 : Int) := by omega
          clear hc5 hx
          by_cases h10 : x = 10
          · subst h10
            clear hpl
            go_wp2
            go_ret
            exact ⟨rfl, B1.trans (hb.mono B1.size)⟩
          · have hq : (x == 10) = false := by simpa using h10
            have HPN := Lib.hid (hpl h10)
            clear hpl h10
            go_wp2
            go_roundw
            case rel => exact ⟨k + 1, by omega, by go_num, (by first | exact (trivial : True) | rfl), HPN.out⟩
            case measure => simp [intOf]; omega
        · obtain rfl : k = n4 := by omega
          have hpz : ∀ c ∈ z4, c ≠ 10 := by
            have h := HP.out
            rwa [List.take_of_length_le (by rw [HS4.out.1]; exact Nat.le_refl _)] at h
          have HEN := Lib.hid (HEA.out hpz)
          obtain ⟨M, hM⟩ : ∃ M, N + k = M := ⟨_, rfl⟩
          obtain ⟨L, hL⟩ : ∃ L, M + 1 = L := ⟨_, rfl⟩
          have hzN := hb.size
          clear hpz HP
          go_wp2_with (first
            | (at_builtin; refine append_bytes_any (by rfl) (.tmp 55) (.tmp 59) (by rfl) w1.heap.size _ N (flat ((bnums x0).take i)) (by rfl) HO.out a4 k c4 z4 (by rfl) HS4.out M hM (by omega) hzN ?_; intro a8 c8 w8 hown8 hb8 hn8)
            | (at_builtin; refine append_bytes (by rfl) (.tmp 60) (.tmp 61) (by rfl) w1.heap.size _ M (flat ((bnums x0).take i) ++ z4) (by rfl) (hown8.alloc _) (some ⟨w8.heap.size, 0, none⟩) 1 1 [10] (by rfl) (Sl.newB [10] (by decide) (by decide) rfl rfl rfl) (fun h => by cases h) L hL (by omega) (by have := hb8.size; simp; omega) ?_; intro a9 c9 w9 hown9 hb9 hn9))
          have HO9 : Hid (w9.ownsRow w1.heap.size 5 1 (.slice a9 L c9) L (u8s (flat ((bnums x0).take (i + 1))))) := by show World.ownsRow _ _ _ _ _ _ _; rw [HFL.out]; exact hown9
          have HN9 : Hid (a9 = none → c9 = 0) := hn9
          have hbn := ((hb.trans hb8).alloc (hb.trans hb8).size (.cells #[.int .u8 10] 5)).trans hb9
          clear hown8 hown9 hn8 hn9 hb8 hb9 HO HN
          go_wp2
          go_roundw
          case rel => exact ⟨i + 1, L, a9, c9, by omega, by omega, by go_num, by first | rfl | simp, HO9, HEN.out, HN9, hbn⟩
          case measure => simp [intOf]; omega
    · obtain rfl : i = len0 := by omega
      have htk : (bnums x0).take i = bnums x0 := List.take_of_length_le (by rw [bnums_length, HX.out.1]; exact Nat.le_refl _)
      have hown := HO.out
      have hends := HE.out
      rw [htk] at hown hends
      have hN9 : (flat (bnums x0)).length = N := by
        have h := hown.1
        rw [u8s, List.length_map, Nat.mul_one] at h
        exact h
      have A1 := Lib.hid (Sl.of_owns (k := .u8) hown (flat_wf (row_wf HX.out)) hN9)
      have HSB : Hid (Line.split (flat (bnums x0)) = bnums x0) := Line.split_back (bnums x0) hends
      have X2 := Lib.hid (X1.out.below hb (Nat.le_refl _))
      have T2 := Lib.hid (T1.out.below hb (Nat.le_refl _))
      have B2 := B1.trans (hb.mono B1.size)
      clear htk HO HE hown hends hN9 hb X1 T1 B1
      go_wp2_with fail
      refine (split_any _ _ _ ys _ T2.out HN1.out (by omega)).mono ?_
      rintro e w3 ⟨p3, m3, c3, r3, rfl, hy3, hb3, _, hw3⟩
      have X3 := Lib.hid (X2.out.below hw3 (Nat.le_refl _))
      have A3 := Lib.hid (A1.out.below hw3 (Nat.le_refl _))
      have hmc3 := hy3.2.1
      have hcm3 := hy3.2.2.1
      unfold maxLen at hcm3
      have Y3 := Lib.hid hy3
      have HB3 := Lib.hid hb3
      have B3 := B2.trans (hw3.mono B2.size)
      have htot := Line.split_total ys
      have htk3 : ∀ j, Line.total ((bnums r3).take j) ≤ 1001 := by
        intro j
        have h1 := total_take (bnums r3) j
        rw [hb3] at h1
        have h2 := HT.out.1
        rw [hb3]
        omega
      have HTK := Lib.hid htk3
      have HTOT := Lib.hid htot
      clear hy3 hb3 hw3 X2 A1 B2 htk3 htot
      go_wp2
      go_loopw [10, 11] (fun nv ix wr => ∃ j q : Nat, j ≤ m3 ∧ ix = .int .i64 (j : Int) ∧ nv = .int .i64 (q : Int) ∧ Hid (q = Line.total ((bnums r3).take j)) ∧ Hid (wr = w3)) (fun _ ix _ => m3 - (intOf ix).toNat)
      case atStart => exact ⟨0, 0, Nat.zero_le _, rfl, rfl, (by first | exact (trivial : True) | rfl), (by first | exact (trivial : True) | rfl)⟩
      case round =>
        obtain ⟨j, q, hj, rfl, rfl, HQ, HW⟩ := hrel
        obtain rfl := HW.out
        clear HW
        obtain ⟨wu, hwu⟩ : ∃ wu, wu = wr := ⟨_, rfl⟩
        subst hwu
        have hq1 : q ≤ 1001 := by have := HTK.out j; rw [HQ.out]; exact this
        by_cases hjl : j < m3
        · obtain ⟨b, off, a4, n4, c4, z4, rfl, _, _, hx4, hs4, hz4⟩ := Y3.out.one j hjl
          have hno := Line.split_no ys z4 (by rw [← HB3.out, ← hz4, List.getD_eq_getElem?_getD, List.getElem?_eq_getElem (by rw [bnums_length, Y3.out.1]; exact hjl)]; exact List.getElem_mem _)
          have hta := total_at (l := bnums r3) (by rw [bnums_length, Y3.out.1]; exact hjl) hz4
          rw [hs4.1, ← HQ.out] at hta
          have hji : (j : Int) < (m3 : Int) := by omega
          have hn4 := hs4.2.1
          have hc4 := hs4.2.2.1
          unfold maxLen at hc4
          have hq2 : q + n4 + 1 ≤ 1001 := by have := HTK.out (j + 1); omega
          have HS4 := Lib.hid hs4
          have HNO := Lib.hid hno
          have HTA := Lib.hid hta
          clear hs4 hno hz4 hta
          go_wp2
          go_loopw [12] (fun kx wv => ∃ k : Nat, k ≤ n4 ∧ kx = .int .i64 (k : Int) ∧ Hid (wv = wu)) (fun kx _ => n4 - (intOf kx).toNat)
          case atStart => exact ⟨0, Nat.zero_le _, rfl, (by first | exact (trivial : True) | rfl)⟩
          case round =>
            obtain ⟨k, hk, rfl, HW⟩ := hrel
            obtain rfl := HW.out
            clear HW
            by_cases hkl : k < n4
            · obtain ⟨b5, o5, rfl, _, hc5⟩ := HS4.out.at (by omega)
              have hx5 := hc5 k hkl
              have hbl := HNO.out (z4.getD k 0) (by rw [List.getD_eq_getElem?_getD, List.getElem?_eq_getElem (by rw [HS4.out.1]; exact hkl)]; exact List.getElem_mem _)
              obtain ⟨x, hx⟩ : ∃ x, x = z4.getD k 0 := ⟨_, rfl⟩
              rw [← hx] at hx5 hbl
              have hq10 : (x == 10) = false := by simpa using hbl
              have hki : (k : Int) < (n4 : Int) := by omega
              clear hc5 hx hbl
              go_wp2
              go_roundw
              case rel => exact ⟨k + 1, by omega, by go_num, (by first | exact (trivial : True) | rfl)⟩
              case measure => simp [intOf]; omega
            · obtain rfl : k = n4 := by omega
              go_wp2
              go_roundw
              case rel => exact ⟨j + 1, q + k + 1, by omega, by go_num, by go_num, HTA.out.symm, (by first | exact (trivial : True) | rfl)⟩
              case measure => simp [intOf]; omega
        · obtain rfl : j = m3 := by omega
          have htk : (bnums r3).take j = bnums r3 := List.take_of_length_le (by rw [bnums_length, Y3.out.1]; exact Nat.le_refl _)
          have hql := HQ.out
          rw [htk, HB3.out] at hql
          have hor := HTOT.out
          rw [← hql, HT.out.1] at hor
          clear htk hql HQ HTK HTOT
          rcases hor with rfl | rfl
          · have hq1 : ((q : Int) == (q : Int)) = true := by simp
            go_wp2_with fail
            refine (split_any _ _ _ (flat (bnums x0)) _ A3.out HN.out (by omega)).mono ?_
            rintro e w6 ⟨p6, m6, c6, r6, rfl, hy6, hb6, _, hw6⟩
            have X6 := Lib.hid (X3.out.below hw6 (Nat.le_refl _))
            have Z6 := Lib.hid hy6
            have HB6 := Lib.hid hb6
            have B6 := B3.trans (hw6.mono B3.size)
            clear hy6 hb6 hw6
            go_wp2_with fail
            refine (bsames_is _ _ _ _ _ _ r6 x0 true _ Z6.out X6.out (by rw [HB6.out, HSB.out]; simp)).mono ?_
            rintro e w7 ⟨rfl, hq7⟩
            have B7 := below_drawn B6 hq7
            clear hq7
            go_wp2
            go_ret
            exact ⟨by first | rfl | simp, B7⟩
          · have hq1 : (((len1 + 1 : Nat) : Int) == (len1 : Int)) = false := by simp; omega
            have hq3 : ((len1 : Int) + 1 == (len1 : Int)) = false := by simp; omega
            have hq4 : ((len1 : Int) + 1 == (len1 : Int) + 1) = true := by simp
            go_wp2_with fail
            refine (split_any _ _ _ (flat (bnums x0)) _ A3.out HN.out (by omega)).mono ?_
            rintro e w6 ⟨p6, m6, c6, r6, rfl, hy6, hb6, _, hw6⟩
            have X6 := Lib.hid (X3.out.below hw6 (Nat.le_refl _))
            have Z6 := Lib.hid hy6
            have HB6 := Lib.hid hb6
            have B6 := B3.trans (hw6.mono B3.size)
            clear hy6 hb6 hw6
            go_wp2_with fail
            refine (bsames_is _ _ _ _ _ _ r6 x0 true _ Z6.out X6.out (by rw [HB6.out, HSB.out]; simp)).mono ?_
            rintro e w7 ⟨rfl, hq7⟩
            have B7 := below_drawn B6 hq7
            clear hq7
            go_wp2
            go_ret
            exact ⟨by first | rfl | simp, B7⟩

set_option maxRecDepth 100000 in
theorem lifted (os : Os) (started : os.Started) (H : Type) (enc : TypeId × Value → H) :
    ReturnsInHanded {} Try.checked os 4 .any (Rows.lineBackSpec.pre6 enc Try.prog Try.f4 Rows.lineBackRow.domain false) (Rows.lineBackSpec.post enc Try.prog Try.f4 false true false false) := by
  refine returnsInHanded_of_change (C := Try.checked) own started (by kernel_rfl) Try.func4
    (ChangeSpec.witness6 (enc := enc) (C := Try.checked) false ⟨#[], #[.slice none 0 0, .slice none 0 0], []⟩ 8 (by kernel_rfl) (by kernel_rfl) (by kernel_rfl) (by kernel_rfl)) ?_
  intro W base args ds gs before hval0 hW hcnd _
  have hval : ∀ (j : Nat) t v, Try.f4.params[j]? = some t → args[j]? = some v → Value.okWide Try.prog W .any base t v := hval0
  have hW' := hW
  obtain ⟨p, q, hA0, hV, rfl, hfz, hnd⟩ := hW
  have hA : DataW.TrodAll enc Try.prog W 0 (fun _ => true) true Try.f4.params.toList args.toList ds p := hA0
  rw [Try.params4] at hA hval
  obtain ⟨v0, vs0, d0, ds0, p0, q0, hargs, rfl, rfl, h0, r0⟩ := trodAll_cons hA
  obtain ⟨v1, vs1, d1, ds1, p1, q1, rfl, rfl, rfl, h1, r1⟩ := trodAll_cons r0
  obtain ⟨rfl, rfl, rfl⟩ := trodAll_nil r1
  obtain rfl : args = #[v0, v1] := by cases args; simp_all
  obtain ⟨rfl, rfl⟩ := trodVars_none hV
  obtain ⟨a0, len0, cap0, rfl⟩ := okWide_slice Try.underlying25 (hval 0 25 v0 rfl rfl)
  have k0 := h0
  have lt0 : ∀ x ∈ p0, x.block < W.heap.size := by obtain ⟨m, hm⟩ := k0; exact DataW.trod_lt m _ _ _ hm
  obtain ⟨x0, w0, n0⟩ : ∃ xs, Bs W a0 len0 cap0 xs ∧ (a0 = none → cap0 = 0) := by
    obtain ⟨fuel, hf⟩ := h0
    rcases Go.Deep.open_int_rows Try.underlying25 Try.underlying22 Try.underlying5 (by kernel_rfl) (by kernel_rfl) hf with ⟨hcs, _⟩ | ⟨x, l, c, A, L, C, Z, hcs, _, hl, hm, _, hr⟩
    · simp [Value.cells] at hcs
      obtain ⟨rfl, rfl, rfl⟩ := hcs
      exact ⟨[], Bs.nil, fun _ => rfl⟩
    · simp [Value.cells] at hcs
      obtain ⟨rfl, rfl, rfl⟩ := hcs
      exact ⟨_, Bs.of_rows hl hm hr, fun h => by cases h⟩
  obtain ⟨a1, len1, cap1, rfl⟩ := okWide_slice Try.underlying22 (hval 1 22 v1 rfl rfl)
  have k1 := h1
  have lt1 : ∀ x ∈ p1, x.block < W.heap.size := by obtain ⟨m, hm⟩ := k1; exact DataW.trod_lt m _ _ _ hm
  obtain ⟨z1, w1⟩ : ∃ zs, IsRow .u8 W a1 len1 cap1 zs := by
    obtain ⟨fuel, hf⟩ := h1
    rcases open_ints Try.underlying22 Try.underlying5 (by kernel_rfl) hf with ⟨hcs, _⟩ | ⟨x, l, c, zs, hcs, _, hl, hm, hz, _, hcell, hwz⟩
    · simp [Value.cells] at hcs
      obtain ⟨rfl, rfl, rfl⟩ := hcs
      exact ⟨[], .inl ⟨rfl, rfl, rfl, rfl⟩⟩
    · simp [Value.cells] at hcs
      obtain ⟨rfl, rfl, rfl⟩ := hcs
      exact ⟨zs, .inr ⟨_, rfl, hl, hm, by simpa using hz, hcell, hwz⟩⟩
  clear hA0 hval0
  refine (walk a0 len0 cap0 x0 a1 len1 cap1 z1 W w0 n0 w1).mono fun e W' ⟨he, bel⟩ => ?_
  subst he
  exact ⟨_, rfl, _, _, _, [], _, [], hW', trodAll_mk1 (shut_bool Try.underlying4 _), (trodAll_cons_mk (Below.trod laidOut (by kernel_rfl) (of_decide_eq_true (by kernel_rfl)) k0 bel lt0) (trodAll_cons_mk (Below.trod laidOut (by kernel_rfl) (of_decide_eq_true (by kernel_rfl)) k1 bel lt1) trodAll_mk0)), rfl, bel.frame _, fun h => by cases h⟩

theorem over : Rows.lineBackRow.holds Try.pinned (OpenSpec.ofChange Rows.lineBackSpec) :=
  OpenClaim.holds_of_wide 4 Try.f4 rfl rfl rfl rfl rfl rfl rfl ⟨rfl, rfl, rfl, rfl, rfl⟩ rfl rfl rfl rfl rfl (by kernel_rfl) Try.func4 (by kernel_rfl)
    (of_decide_eq_true (by kernel_rfl)) (by unfold Func.isWrapper; first | (rw [if_pos (by decide +kernel)]; kernel_rfl) | (rw [if_neg (by decide +kernel)]; exact ⟨rfl, rfl⟩))
    (fun os started H enc _ => lifted os started H enc)

/-- the statement -/
theorem proved : Rows.LineBackSaid := over
#print axioms proved
end Go.Proofs.Ytjdkmfcjflggfaa.lineBack
