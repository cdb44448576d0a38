/- For every list of fields and every list of numbers LineFields answers true, and turns nothing that was there. No condition. -/
import Derived.Test.YtjdkmfcjflggfaaRows
import Derived.Test.YtjdkmfcjflggfaaLineAppN
import Derived.WalkKit
import Derived.ProofKit
import Derived.OpenShut
import Derived.ShutString
import Derived.ChangeOld
import Derived.Below
import Derived.Deep.Matrix
namespace Go.Proofs.Ytjdkmfcjflggfaa.lineFields
open Go.ChangeShapes Go.WideShapes Go.ChangeAt Go.RowKit
set_option linter.unusedVariables false

theorem own : ownKnob Try.prog.godebug = none := by kernel_rfl
theorem laidOut : laidOutB Try.prog = true := by kernel_rfl

/-- a slice of integers that came in -/
def IsRow (k : IntKind) (w : World) (a : Option Addr) (len cap : Nat) (zs : List Int) : Prop :=
  (a = none ∧ len = 0 ∧ cap = 0 ∧ zs = []) ∨
  ∃ x, a = some x ∧ len ≤ cap ∧ cap ≤ maxLen ∧ zs.length = cap ∧ (∀ i, i < zs.length → w.cell? (x.add i) = some (.int k (zs.getD i 0))) ∧ ∀ n ∈ zs, (Lit.int k n).wf = true

theorem fields_step {al z rep : List Int} {l : List (List Int)} (h : ∀ rest, Line.fields (al ++ rest) = l ++ Line.fields rest) (hr : ∀ c ∈ rep, Line.isBlank c = true) (hz : ∀ c ∈ z, Line.isBlank c = false) (hn : z ≠ []) :
    ∀ rest, Line.fields (al ++ rep ++ z ++ [32] ++ rest) = l ++ [z] ++ Line.fields rest := by
  intro rest
  rw [List.append_assoc, List.append_assoc, List.append_assoc, h]
  have := Line.fields_one rep z rest hr hz hn 32 (by decide)
  rw [← List.append_assoc rep z, List.singleton_append, this]
  simp
theorem take_at {l : List (List Int)} {i : Nat} {z : List Int} (h : i < l.length) (hz : l.getD i [] = z) : l.take (i + 1) = l.take i ++ [z] := by
  have e : l[i] = z := by rw [← hz]; simp [h]
  rw [List.take_succ_eq_append_getElem h, e]
theorem noblank_at {z : List Int} {k : Nat} (h : k < z.length) (h1 : ∀ c ∈ z.take k, Line.isBlank c = false) (h2 : Line.isBlank (z.getD k 0) = false) : ∀ c ∈ z.take (k + 1), Line.isBlank c = false := by
  intro c hc
  rw [List.take_succ_eq_append_getElem h] at hc
  rcases List.mem_append.1 hc with hc | hc
  · exact h1 c hc
  · rw [List.mem_singleton.1 hc]; simpa [h] using h2
theorem wf_app {al bs : List Int} (h1 : ∀ z ∈ al, (Lit.int .u8 z).wf = true) (h2 : ∀ z ∈ bs, (Lit.int .u8 z).wf = true) : ∀ z ∈ al ++ bs, (Lit.int .u8 z).wf = true := by
  intro z hz
  rcases List.mem_append.1 hz with hz | hz
  · exact h1 z hz
  · exact h2 z hz

/-! ### STEP 1: the walk -/
set_option maxRecDepth 100000 in
set_option maxHeartbeats 6000000 in
theorem walk (a0 : Option Addr) (len0 cap0 : Nat) (x0 : List Bd) (a1 : Option Addr) (len1 cap1 : Nat) (z1 : List Int) (w : World) (w0 : Bs w a0 len0 cap0 x0) (n0 : a0 = none → cap0 = 0) (w1 : IsRow .u8 w a1 len1 cap1 z1) :
    Calls Try.prog 5 #[.slice a0 len0 cap0, .slice a1 len1 cap1] w fun e w' => e = .returned (.bool true) ∧ Below w.heap.size w w' := by
  have hcm0 := w0.2.2.1
  have hnc0 := w0.2.1
  unfold maxLen at hcm0
  have HX := Lib.hid w0
  have HN0 := Lib.hid n0
  clear w0 n0
  have hn01 : a1 = none → cap1 = 0 := by
    rcases w1 with ⟨_, _, h, _⟩ | ⟨x, h, _⟩
    · exact fun _ => h
    · intro h'; rw [h] at h'; cases h'
  have HN1 := Lib.hid hn01
  clear hn01
  have hs1 := Sl.of_row w1
  generalize z1.take len1 = ys at hs1
  have hcm1 := hs1.2.2.1
  have hnc1 := hs1.2.1
  unfold maxLen at hcm1
  have HT := Lib.hid hs1
  clear hs1 w1
  by_cases g0 : 100 < len0
  · have hi0 : (100 : Int) < (len0 : Int) := by omega
    go_enter Try.func5, Try.ntmps5
    go_wp2_with fail
    refine (awake_any _).mono ?_
    rintro e w1 ⟨rfl, B1⟩
    go_wp2
    go_ret
    exact ⟨rfl, B1⟩
  have hi0 : ¬ (100 : Int) < (len0 : Int) := by omega
  by_cases g1 : 300 < len1
  · have hi1 : (300 : Int) < (len1 : Int) := by omega
    go_enter Try.func5, Try.ntmps5
    go_wp2_with fail
    refine (awake_any _).mono ?_
    rintro e w1 ⟨rfl, B1⟩
    go_wp2
    go_ret
    exact ⟨rfl, B1⟩
  clear hi0
  have hi0 : decide ((100 : Int) < (len0 : Int)) = false := by simp; omega
  have hi1 : decide ((300 : Int) < (len1 : Int)) = false := by simp; omega
  go_enter Try.func5, Try.ntmps5
  go_wp2_with fail
  refine (awake_any _).mono ?_
  rintro e w1 ⟨rfl, B1⟩
  have X1 := Lib.hid (HX.out.below B1 (Nat.le_refl _))
  have T1 := Lib.hid (HT.out.below B1 (Nat.le_refl _))
  go_wp2
  go_loopw [6, 7] (fun ov ix wr => ∃ (i N : Nat) (a' : Option Addr) (c' : Nat) (al : List Int), i ≤ len0 ∧ N ≤ 103 * i ∧ ix = .int .i64 (i : Int) ∧ ov = .slice a' N c' ∧ Hid (wr.ownsRow w1.heap.size 5 1 (.slice a' N c') N (u8s al)) ∧ Hid (∀ z ∈ al, (Lit.int .u8 z).wf = true) ∧ Hid (∀ rest, Line.fields (al ++ rest) = (bnums x0).take i ++ Line.fields rest) ∧ Hid (a' = none → c' = 0) ∧ Below w1.heap.size w1 wr) (fun _ ix _ => len0 - (intOf ix).toNat)
  case atStart => exact ⟨0, 0, none, 0, [], Nat.zero_le _, Nat.zero_le _, rfl, rfl, World.ownsRow_nil _ _ _ _, (by first | exact (trivial : True) | (intro x hx; simp at hx)), (by first | exact (trivial : True) | (intro rest; simp)), (fun _ => rfl), Below.refl _ _⟩
  case round =>
    obtain ⟨i, N, a', c', al, hi, hNi, rfl, rfl, HO, HW, HE, HN, hb⟩ := hrel
    obtain ⟨wu, hwu⟩ : ∃ wu, wu = wr := ⟨_, rfl⟩
    subst hwu
    by_cases hlt : i < len0
    · obtain ⟨b, off, a4, n4, c4, z4, rfl, hbl, _, hx1, hs1, hz4⟩ := X1.out.one i hlt
      have HX4 : Hid (∀ wv, Below w1.heap.size w1 wv → wv.cell? ⟨b, off + i, none⟩ = some (.slice a4 n4 c4)) := fun wv hbv => (hbv.cell (p := ⟨b, off + i, none⟩) hbl).trans hx1
      have hx4 := HX4.out wu hb
      have hs4 := hs1.below hb (Nat.le_refl _)
      have HS1 := Lib.hid hs1
      clear hx1 hs1 hbl
      have hlti : (i : Int) < (len0 : Int) := by omega
      by_cases hn0 : n4 = 0
      · have hbi : ((n4 : Int) == 0) = true := by simp [hn0]
        clear hs4 hz4
        go_wp2
        go_ret
        exact ⟨rfl, B1.trans (hb.mono B1.size)⟩
      have hbz : ((n4 : Int) == 0) = false := by simp; omega
      by_cases hbig : 100 < n4
      · have hbi : (100 : Int) < (n4 : Int) := by omega
        clear hs4 hz4
        go_wp2
        go_ret
        exact ⟨rfl, B1.trans (hb.mono B1.size)⟩
      have hbi : ¬ (100 : Int) < (n4 : Int) := by omega
      have hbi2 : decide ((100 : Int) < (n4 : Int)) = false := by simp; omega
      have hil : i < (bnums x0).length := by rw [bnums_length, HX.out.1]; exact hlt
      have hzn : z4 ≠ [] := by intro h; rw [h] at hs4; have := hs4.1; simp at this; omega
      have HTK := Lib.hid (take_at hil hz4)
      have HZN := Lib.hid hzn
      have HS4 := Lib.hid hs4
      have hn4 := hs4.2.1
      have hc4 := hs4.2.2.1
      unfold maxLen at hc4
      clear hs4 hz4 hil hzn
      go_wp2
      go_loopw [8] (fun kx wv => ∃ k : Nat, k ≤ n4 ∧ kx = .int .i64 (k : Int) ∧ Hid (wv = wu) ∧ Hid (∀ c ∈ z4.take k, Line.isBlank c = false)) (fun kx _ => n4 - (intOf kx).toNat)
      case atStart => exact ⟨0, Nat.zero_le _, rfl, (by first | exact (trivial : True) | rfl), (by first | exact (trivial : True) | (intro x hx; simp at hx))⟩
      case round =>
        obtain ⟨k, hk, rfl, HWV, HP⟩ := hrel
        obtain rfl := HWV.out
        clear HWV
        by_cases hkl : k < n4
        · obtain ⟨b5, o5, rfl, _, hc5⟩ := HS4.out.at (by omega)
          have hx5 := hc5 k hkl
          have hpl := noblank_at (z := z4) (k := k) (by rw [HS4.out.1]; exact hkl) HP.out
          obtain ⟨x, hx⟩ : ∃ x, x = z4.getD k 0 := ⟨_, rfl⟩
          rw [← hx] at hx5 hpl
          have hki : (k : Int) < (n4 : Int) := by omega
          clear hc5 hx
          by_cases h32 : x = 32
          · subst h32
            clear hpl
            go_wp2
            go_ret
            exact ⟨rfl, B1.trans (hb.mono B1.size)⟩
          have hq : (x == 32) = false := by simpa using h32
          by_cases h9 : x = 9
          · subst h9
            clear hpl
            go_wp2
            go_ret
            exact ⟨rfl, B1.trans (hb.mono B1.size)⟩
          have hq9 : (x == 9) = false := by simpa using h9
          have HPN := Lib.hid (hpl (by unfold Line.isBlank; rw [hq, hq9]; rfl))
          clear hpl h32 h9
          go_wp2
          go_roundw
          case rel => exact ⟨k + 1, by omega, by go_num, (by first | exact (trivial : True) | rfl), HPN.out⟩
          case measure => simp [intOf]; omega
        · obtain rfl : k = n4 := by omega
          have hpz : ∀ c ∈ z4, Line.isBlank c = false := by
            have h := HP.out
            rwa [List.take_of_length_le (by rw [HS4.out.1]; exact Nat.le_refl _)] at h
          have HZB := Lib.hid hpz
          obtain ⟨n4, hn4e⟩ : ∃ n4, n4 = k := ⟨_, rfl⟩
          subst hn4e
          obtain ⟨D, hD⟩ : ∃ D, D = if i < len1 then (ys.getD i 0).toNat % 3 else 0 := ⟨_, rfl⟩
          have hD2 : D ≤ 2 := by rw [hD]; split <;> omega
          have HDD := Lib.hid hD
          obtain ⟨wt, hwt⟩ : ∃ wt, wt = wr := ⟨_, rfl⟩
          subst hwt
          clear hpz HP hD hkl hk
          go_wp2
          go_loopw [6, 9] (fun ov kx wv => ∃ (k : Nat) (a2 : Option Addr) (c2 : Nat), k ≤ D ∧ kx = .int .i64 (k : Int) ∧ ov = .slice a2 (N + k) c2 ∧ Hid (wv.ownsRow w1.heap.size 5 1 (.slice a2 (N + k) c2) (N + k) (u8s (al ++ List.replicate k 9))) ∧ Hid (a2 = none → c2 = 0) ∧ Below w1.heap.size w1 wv) (fun _ kx _ => D - (intOf kx).toNat)
          case atStart => exact ⟨0, a', c', Nat.zero_le _, rfl, rfl, (by show World.ownsRow _ _ _ _ _ _ _; rw [List.replicate_zero, List.append_nil]; exact HO.out), HN.out, hb⟩
          case round =>
            obtain ⟨k, a2, c2, hkD, rfl, rfl, HO2, HN2, hbv⟩ := hrel
            obtain ⟨wv, hwv⟩ : ∃ wv, wv = wr := ⟨_, rfl⟩
            subst hwv
            by_cases hil : i < len1
            · obtain ⟨b5, o5, rfl, _, hc5⟩ := (T1.out.below hbv (Nat.le_refl _)).at (by omega)
              have hx5 := hc5 i hil
              have hwf := HT.out.2.2.2.1 (ys.getD i 0) (by rw [List.getD_eq_getElem?_getD, List.getElem?_eq_getElem (by rw [HT.out.1]; exact hil)]; exact List.getElem_mem _)
              have hDe := HDD.out
              rw [if_pos hil] at hDe
              obtain ⟨v, hv⟩ : ∃ v, v = ys.getD i 0 := ⟨_, rfl⟩
              rw [← hv] at hx5 hwf hDe
              have hvb := bounds_u8 hwf
              have hili : (i : Int) < (len1 : Int) := by omega
              have hvD : v % 3 = (D : Int) := by omega
              have hvt : v.tmod 3 = (D : Int) := by rw [Int.tmod_eq_emod_of_nonneg (by omega)]; exact hvD
              have hwD : wrap64 (v.tmod 3) = (D : Int) := by rw [hvt]; unfold wrap64; omega
              clear hc5 hv hwf hDe hvb hvD hvt
              by_cases hkl : k < D
              · have hki : (k : Int) < (D : Int) := by omega
                have hzv := hbv.size
                go_wp2_with (at_builtin; refine append_bytes (by rfl) (.tmp 86) (.tmp 87) (by rfl) w1.heap.size _ (N + k) (al ++ List.replicate k 9) (by rfl) (HO2.out.alloc _) (some ⟨wv.heap.size, 0, none⟩) 1 1 [9] (by rfl) (Sl.newB [9] (by decide) (by decide) rfl rfl rfl) (fun h => by cases h) (N + (k + 1)) (by omega) (by omega) (by simp; omega) ?_; intro a9 c9 w9 hown9 hb9 hn9)
                have HO9 : Hid (w9.ownsRow w1.heap.size 5 1 (.slice a9 (N + (k + 1)) c9) (N + (k + 1)) (u8s (al ++ List.replicate (k + 1) 9))) := by show World.ownsRow _ _ _ _ _ _ _; rw [List.replicate_succ', ← List.append_assoc]; exact hown9
                have HN9 : Hid (a9 = none → c9 = 0) := hn9
                have hbn := (hbv.alloc hzv (.cells #[.int .u8 9] 5)).trans hb9
                clear hown9 hn9 hb9 HO2 HN2
                go_wp2
                go_roundw
                case rel => exact ⟨k + 1, a9, c9, by omega, by go_num, by first | rfl | simp, HO9, HN9, hbn⟩
                case measure => simp [intOf]; omega
              · obtain rfl : k = D := by omega
                have HAL : Hid (∀ rest, Line.fields (al ++ List.replicate k 9 ++ z4 ++ [32] ++ rest) = (bnums x0).take (i + 1) ++ Line.fields rest) := by
                  show ∀ rest, _
                  rw [HTK.out]
                  exact fields_step HE.out (by intro c hc; rw [List.eq_of_mem_replicate hc]; rfl) HZB.out HZN.out
                have HWA : Hid (∀ z ∈ al ++ List.replicate k 9 ++ z4 ++ [32], (Lit.int .u8 z).wf = true) :=
                  wf_app (wf_app (wf_app HW.out (by intro z hz; rw [List.eq_of_mem_replicate hz]; decide)) HS4.out.2.2.2.1) (by intro z hz; rw [List.mem_singleton.1 hz]; decide)
                obtain ⟨M, hM⟩ : ∃ M, N + k + n4 = M := ⟨_, rfl⟩
                obtain ⟨L, hL⟩ : ∃ L, M + 1 = L := ⟨_, rfl⟩
                have hzv := hbv.size
                have HS8 := Lib.hid (HS1.out.below hbv (Nat.le_refl _))
                have hx8 := HX4.out _ hbv
                go_wp2_with (first
                  | (at_builtin; refine append_bytes_any (by rfl) (.tmp 89) (.tmp 93) (by rfl) w1.heap.size _ (N + k) (al ++ List.replicate k 9) (by rfl) HO2.out a4 n4 c4 z4 (by rfl) HS8.out M hM (by omega) hzv ?_; intro a8 c8 w8 hown8 hb8 hn8)
                  | (at_builtin; refine append_bytes (by rfl) (.tmp 94) (.tmp 95) (by rfl) w1.heap.size _ M (al ++ List.replicate k 9 ++ z4) (by rfl) (hown8.alloc _) (some ⟨w8.heap.size, 0, none⟩) 1 1 [32] (by rfl) (Sl.newB [32] (by decide) (by decide) rfl rfl rfl) (fun h => by cases h) L hL (by omega) (by have := hb8.size; simp; omega) ?_; intro a9 c9 w9 hown9 hb9 hn9))
                have HO9 := Lib.hid hown9
                have HN9 : Hid (a9 = none → c9 = 0) := hn9
                have hbn := ((hbv.trans hb8).alloc (hbv.trans hb8).size (.cells #[.int .u8 32] 5)).trans hb9
                clear hown8 hown9 hn8 hn9 hb8 hb9 HO2 HN2
                go_wp2
                go_roundw
                case rel => exact ⟨i + 1, L, a9, c9, _, by omega, by omega, by go_num, by first | rfl | simp, HO9.out, HWA.out, HAL.out, HN9, hbn⟩
                case measure => simp [intOf]; omega
            · have hili : ¬ (i : Int) < (len1 : Int) := by omega
              obtain rfl : k = D := by have h := HDD.out; rw [if_neg hil] at h; omega
              have HAL : Hid (∀ rest, Line.fields (al ++ List.replicate k 9 ++ z4 ++ [32] ++ rest) = (bnums x0).take (i + 1) ++ Line.fields rest) := by
                show ∀ rest, _
                rw [HTK.out]
                exact fields_step HE.out (by intro c hc; rw [List.eq_of_mem_replicate hc]; rfl) HZB.out HZN.out
              have HWA : Hid (∀ z ∈ al ++ List.replicate k 9 ++ z4 ++ [32], (Lit.int .u8 z).wf = true) :=
                wf_app (wf_app (wf_app HW.out (by intro z hz; rw [List.eq_of_mem_replicate hz]; decide)) HS4.out.2.2.2.1) (by intro z hz; rw [List.mem_singleton.1 hz]; decide)
              obtain ⟨M, hM⟩ : ∃ M, N + k + n4 = M := ⟨_, rfl⟩
              obtain ⟨L, hL⟩ : ∃ L, M + 1 = L := ⟨_, rfl⟩
              have hzv := hbv.size
              have HS8 := Lib.hid (HS1.out.below hbv (Nat.le_refl _))
              have hx8 := HX4.out _ hbv
              go_wp2_with (first
                | (at_builtin; refine append_bytes_any (by rfl) (.tmp 89) (.tmp 93) (by rfl) w1.heap.size _ (N + k) (al ++ List.replicate k 9) (by rfl) HO2.out a4 n4 c4 z4 (by rfl) HS8.out M hM (by omega) hzv ?_; intro a8 c8 w8 hown8 hb8 hn8)
                | (at_builtin; refine append_bytes (by rfl) (.tmp 94) (.tmp 95) (by rfl) w1.heap.size _ M (al ++ List.replicate k 9 ++ z4) (by rfl) (hown8.alloc _) (some ⟨w8.heap.size, 0, none⟩) 1 1 [32] (by rfl) (Sl.newB [32] (by decide) (by decide) rfl rfl rfl) (fun h => by cases h) L hL (by omega) (by have := hb8.size; simp; omega) ?_; intro a9 c9 w9 hown9 hb9 hn9))
              have HO9 := Lib.hid hown9
              have HN9 : Hid (a9 = none → c9 = 0) := hn9
              have hbn := ((hbv.trans hb8).alloc (hbv.trans hb8).size (.cells #[.int .u8 32] 5)).trans hb9
              clear hown8 hown9 hn8 hn9 hb8 hb9 HO2 HN2
              go_wp2
              go_roundw
              case rel => exact ⟨i + 1, L, a9, c9, _, by omega, by omega, by go_num, by first | rfl | simp, HO9.out, HWA.out, HAL.out, HN9, hbn⟩
              case measure => simp [intOf]; omega
    · obtain rfl : i = len0 := by omega
      have htk : (bnums x0).take i = bnums x0 := List.take_of_length_le (by rw [bnums_length, HX.out.1]; exact Nat.le_refl _)
      have hE := HE.out []
      rw [htk, List.append_nil] at hE
      have hfe : Line.fields al = bnums x0 := by rw [hE]; simp [Line.fields, Line.fieldsA]
      have hown := HO.out
      have hN9 : al.length = N := by
        have h := hown.1
        rw [u8s, List.length_map, Nat.mul_one] at h
        exact h
      have A1 := Lib.hid (Sl.of_owns (k := .u8) hown HW.out hN9)
      have HFE := Lib.hid hfe
      have X2 := Lib.hid (X1.out.below hb (Nat.le_refl _))
      have B2 := B1.trans (hb.mono B1.size)
      clear htk HO HE hE hown hN9 hb hfe X1
      obtain ⟨r, hr⟩ : ∃ r, Line.bare al = r := ⟨_, rfl⟩
      have HR := Lib.hid hr
      by_cases hl0 : i = 0
      · subst hl0
        have hrt : r = true := by
          rw [← hr]
          unfold Line.bare
          rw [HFE.out]
          have h := X2.out.1
          rw [List.eq_nil_of_length_eq_zero h]
          rfl
        subst hrt
        clear hr
        go_wp2_with fail
        refine (fields_any _ _ _ al _ A1.out HN.out (by omega)).mono ?_
        rintro e w6 ⟨p6, m6, c6, r6, rfl, hy6, hb6, _, hw6⟩
        have X6 := Lib.hid (X2.out.below hw6 (Nat.le_refl _))
        have A6 := Lib.hid (A1.out.below hw6 (Nat.le_refl _))
        have Z6 := Lib.hid hy6
        have HB6 := Lib.hid hb6
        have B6 := B2.trans (hw6.mono B2.size)
        clear hy6 hb6 hw6
        go_wp2_with fail
        refine (bsames_is _ _ _ _ _ _ r6 x0 true _ Z6.out X6.out (by rw [HB6.out, HFE.out]; simp)).mono ?_
        rintro e w7 ⟨rfl, hq7⟩
        have A7 := Lib.hid (A6.out.drawn hq7)
        have B7 := below_drawn B6 hq7
        clear hq7
        go_wp2_with fail
        refine (bare_any _ _ _ al _ A7.out HN.out (by omega)).mono ?_
        rintro e w8 ⟨rfl, hw8⟩
        rw [HR.out]
        have B8 := B7.trans (hw8.mono B7.size)
        clear hw8
        go_wp2
        go_ret
        exact ⟨by first | rfl | simp, B8⟩
      · have hli : ((i : Int) == 0) = false := by simp; omega
        obtain ⟨wr, hwr⟩ : ∃ wr, wr = wu := ⟨_, rfl⟩
        subst hwr
        obtain ⟨b, off, a4, n4, c4, z4, rfl, hbl, _, hx4, hs4, hz4⟩ := X2.out.one 0 (by omega)
        have hno := Line.fields_no al z4 (by rw [HFE.out, ← hz4, List.getD_eq_getElem?_getD, List.getElem?_eq_getElem (by rw [bnums_length, X2.out.1]; omega)]; exact List.getElem_mem _)
        have hn4 : 0 < n4 := by rw [← hs4.1]; exact List.length_pos_iff.2 hno.1
        obtain ⟨b5, o5, rfl, _, hc5⟩ := hs4.at hn4
        have hx5 : wr.cell? ⟨b5, o5, none⟩ = some (.int .u8 (z4.getD 0 0)) := hc5 0 hn4
        have hx40 : wr.cell? ⟨b, off, none⟩ = some (.slice (some ⟨b5, o5, none⟩) n4 c4) := hx4
        have hrt : (z4.getD 0 0 == 35) = r := by
          rw [← hr]
          unfold Line.bare
          rw [HFE.out]
          cases hb : bnums x0 with
          | nil =>
            have h := congrArg List.length hb
            rw [bnums_length, X2.out.1] at h
            simp at h; omega
          | cons f fs => rw [hb] at hz4; simp at hz4; rw [hz4]
        obtain ⟨x, hx⟩ : ∃ x, x = z4.getD 0 0 := ⟨_, rfl⟩
        rw [← hx] at hx5 hrt
        have hip : (0 : Int) < (i : Int) := by omega
        have hnp : (0 : Int) < (n4 : Int) := by omega
        clear hc5 hx hs4 hz4 hno hr hx4
        go_wp2_with fail
        refine (fields_any _ _ _ al _ A1.out HN.out (by omega)).mono ?_
        rintro e w6 ⟨p6, m6, c6, r6, rfl, hy6, hb6, _, hw6⟩
        have X6 := Lib.hid (X2.out.below hw6 (Nat.le_refl _))
        have A6 := Lib.hid (A1.out.below hw6 (Nat.le_refl _))
        have Z6 := Lib.hid hy6
        have HB6 := Lib.hid hb6
        have B6 := B2.trans (hw6.mono B2.size)
        clear hy6 hb6 hw6
        go_wp2_with fail
        refine (bsames_is _ _ _ _ _ _ r6 x0 true _ Z6.out X6.out (by rw [HB6.out, HFE.out]; simp)).mono ?_
        rintro e w7 ⟨rfl, hq7⟩
        have A7 := Lib.hid (A6.out.drawn hq7)
        have B7 := below_drawn B6 hq7
        clear hq7
        go_wp2_with fail
        refine (bare_any _ _ _ al _ A7.out HN.out (by omega)).mono ?_
        rintro e w8 ⟨rfl, hw8⟩
        rw [HR.out]
        have B8 := B7.trans (hw8.mono B7.size)
        clear hw8
        go_wp2
        go_ret
        exact ⟨by first | rfl | simp, B8⟩

set_option maxRecDepth 100000 in
theorem lifted (os : Os) (started : os.Started) (H : Type) (enc : TypeId × Value → H) :
    ReturnsInHanded {} Try.checked os 5 .any (Rows.lineFieldsSpec.pre6 enc Try.prog Try.f5 Rows.lineFieldsRow.domain false) (Rows.lineFieldsSpec.post enc Try.prog Try.f5 false true false false) := by
  refine returnsInHanded_of_change (C := Try.checked) own started (by kernel_rfl) Try.func5
    (ChangeSpec.witness6 (enc := enc) (C := Try.checked) false ⟨#[], #[.slice none 0 0, .slice none 0 0], []⟩ 8 (by kernel_rfl) (by kernel_rfl) (by kernel_rfl) (by kernel_rfl)) ?_
  intro W base args ds gs before hval0 hW hcnd _
  have hval : ∀ (j : Nat) t v, Try.f5.params[j]? = some t → args[j]? = some v → Value.okWide Try.prog W .any base t v := hval0
  have hW' := hW
  obtain ⟨p, q, hA0, hV, rfl, hfz, hnd⟩ := hW
  have hA : DataW.TrodAll enc Try.prog W 0 (fun _ => true) true Try.f5.params.toList args.toList ds p := hA0
  rw [Try.params5] at hA hval
  obtain ⟨v0, vs0, d0, ds0, p0, q0, hargs, rfl, rfl, h0, r0⟩ := trodAll_cons hA
  obtain ⟨v1, vs1, d1, ds1, p1, q1, rfl, rfl, rfl, h1, r1⟩ := trodAll_cons r0
  obtain ⟨rfl, rfl, rfl⟩ := trodAll_nil r1
  obtain rfl : args = #[v0, v1] := by cases args; simp_all
  obtain ⟨rfl, rfl⟩ := trodVars_none hV
  obtain ⟨a0, len0, cap0, rfl⟩ := okWide_slice Try.underlying25 (hval 0 25 v0 rfl rfl)
  have k0 := h0
  have lt0 : ∀ x ∈ p0, x.block < W.heap.size := by obtain ⟨m, hm⟩ := k0; exact DataW.trod_lt m _ _ _ hm
  obtain ⟨x0, w0, n0⟩ : ∃ xs, Bs W a0 len0 cap0 xs ∧ (a0 = none → cap0 = 0) := by
    obtain ⟨fuel, hf⟩ := h0
    rcases Go.Deep.open_int_rows Try.underlying25 Try.underlying22 Try.underlying5 (by kernel_rfl) (by kernel_rfl) hf with ⟨hcs, _⟩ | ⟨x, l, c, A, L, C, Z, hcs, _, hl, hm, _, hr⟩
    · simp [Value.cells] at hcs
      obtain ⟨rfl, rfl, rfl⟩ := hcs
      exact ⟨[], Bs.nil, fun _ => rfl⟩
    · simp [Value.cells] at hcs
      obtain ⟨rfl, rfl, rfl⟩ := hcs
      exact ⟨_, Bs.of_rows hl hm hr, fun h => by cases h⟩
  obtain ⟨a1, len1, cap1, rfl⟩ := okWide_slice Try.underlying22 (hval 1 22 v1 rfl rfl)
  have k1 := h1
  have lt1 : ∀ x ∈ p1, x.block < W.heap.size := by obtain ⟨m, hm⟩ := k1; exact DataW.trod_lt m _ _ _ hm
  obtain ⟨z1, w1⟩ : ∃ zs, IsRow .u8 W a1 len1 cap1 zs := by
    obtain ⟨fuel, hf⟩ := h1
    rcases open_ints Try.underlying22 Try.underlying5 (by kernel_rfl) hf with ⟨hcs, _⟩ | ⟨x, l, c, zs, hcs, _, hl, hm, hz, _, hcell, hwz⟩
    · simp [Value.cells] at hcs
      obtain ⟨rfl, rfl, rfl⟩ := hcs
      exact ⟨[], .inl ⟨rfl, rfl, rfl, rfl⟩⟩
    · simp [Value.cells] at hcs
      obtain ⟨rfl, rfl, rfl⟩ := hcs
      exact ⟨zs, .inr ⟨_, rfl, hl, hm, by simpa using hz, hcell, hwz⟩⟩
  clear hA0 hval0
  refine (walk a0 len0 cap0 x0 a1 len1 cap1 z1 W w0 n0 w1).mono fun e W' ⟨he, bel⟩ => ?_
  subst he
  exact ⟨_, rfl, _, _, _, [], _, [], hW', trodAll_mk1 (shut_bool Try.underlying4 _), (trodAll_cons_mk (Below.trod laidOut (by kernel_rfl) (of_decide_eq_true (by kernel_rfl)) k0 bel lt0) (trodAll_cons_mk (Below.trod laidOut (by kernel_rfl) (of_decide_eq_true (by kernel_rfl)) k1 bel lt1) trodAll_mk0)), rfl, bel.frame _, fun h => by cases h⟩

theorem over : Rows.lineFieldsRow.holds Try.pinned (OpenSpec.ofChange Rows.lineFieldsSpec) :=
  OpenClaim.holds_of_wide 5 Try.f5 rfl rfl rfl rfl rfl rfl rfl ⟨rfl, rfl, rfl, rfl, rfl⟩ rfl rfl rfl rfl rfl (by kernel_rfl) Try.func5 (by kernel_rfl)
    (of_decide_eq_true (by kernel_rfl)) (by unfold Func.isWrapper; first | (rw [if_pos (by decide +kernel)]; kernel_rfl) | (rw [if_neg (by decide +kernel)]; exact ⟨rfl, rfl⟩))
    (fun os started H enc _ => lifted os started H enc)

/-- the statement -/
theorem proved : Rows.LineFieldsSaid := over
#print axioms proved
end Go.Proofs.Ytjdkmfcjflggfaa.lineFields
