/- For every two costs and every digit NumOrder answers true, and turns nothing that was there. No condition. -/
import Derived.Test.YtfoajpdjjhbmkaaRows
import Derived.Test.YtfoajpdjjhbmkaaNumAwake
import Derived.WalkKit
import Derived.ChangeOld
import Derived.Below
import Derived.ProofKit
import Derived.OpenShut
import Derived.ShutString
namespace Go.Proofs.Ytfoajpdjjhbmkaa.numOrder
open Go.ChangeShapes Go.WideShapes Go.ChangeAt Go.RowKit
open Go.ChangeMaps (open_string shut_string)
set_option linter.unusedVariables false      -- a walk need not use every 'w<i>' (that an integer argument fits its kind)

theorem own : ownKnob Try.prog.godebug = none := by kernel_rfl

theorem bytesLess_dig (a b : Nat) : Op.bytesLess (strOfNums (Num.dig a)).toList (strOfNums (Num.dig b)).toList = Num.lessL (Num.dig a) (Num.dig b) := by
  rw [← Num.lessL_bytes _ _ (fun z hz => by have := Num.dig_digits a z hz; omega) (fun z hz => by have := Num.dig_digits b z hz; omega)]
  congr 1 <;> (unfold strOfNums; simp)

/-! ### STEP 1: THE WALK: the Go text returns true. 'Grown w w'': the world has at most new blocks (Derived/RowKit3.lean). Part the cases AHEAD of 'go_enter' where a test parts the walk; take each callee by a contract of your own. -/
set_option maxRecDepth 100000 in
set_option maxHeartbeats 6000000 in
theorem walk (a0 : Int) (a1 : Int) (a2 : Int) (w0 : (Lit.int .u64 a0).wf = true) (w1 : (Lit.int .u64 a1).wf = true) (w2 : (Lit.int .u8 a2).wf = true) (w : World) :
    Calls Try.prog 5 #[.int .u64 a0, .int .u64 a1, .int .u8 a2] w fun e w' => e = .returned (.bool true) ∧ Below w.heap.size w w' := by
  obtain ⟨hc00, hc01⟩ := bounds_u64 w0
  obtain ⟨a, rfl⟩ : ∃ c : Nat, a0 = (c : Int) := ⟨a0.toNat, by omega⟩
  have hab : a < 18446744073709551616 := by omega
  clear w0 hc00 hc01
  obtain ⟨hc10, hc11⟩ := bounds_u64 w1
  obtain ⟨b, rfl⟩ : ∃ c : Nat, a1 = (c : Int) := ⟨a1.toNat, by omega⟩
  have hbb : b < 18446744073709551616 := by omega
  clear w1 hc10 hc11
  obtain ⟨hc20, hc21⟩ := bounds_u8 w2
  obtain ⟨d, rfl⟩ : ∃ c : Nat, a2 = (c : Int) := ⟨a2.toNat, by omega⟩
  have hdb : d < 256 := by omega
  clear w2 hc20 hc21
  have HWA := Lib.hid (fun w => write_any a hab w)
  have HWB := Lib.hid (fun w => write_any b hbb w)
  have HLA := Lib.hid (Num.len_20 hab)
  have HLB := Lib.hid (Num.len_20 hbb)
  have HO := Lib.hid (Num.dig_order a b)
  have HBL := Lib.hid (bytesLess_dig a b)
  obtain ⟨SA, hSA⟩ : ∃ S, S = strOfNums (Num.dig a) := ⟨_, rfl⟩
  obtain ⟨SB, hSB⟩ : ∃ S, S = strOfNums (Num.dig b) := ⟨_, rfl⟩
  rw [← hSA, ← hSB] at HBL
  have HSA := Lib.hid hSA
  have HSB := Lib.hid hSB
  clear hSA hSB
  obtain ⟨c, hcd⟩ : ∃ c, c = a % 1000000000000000000 := ⟨_, rfl⟩
  have hcm : (a : Int) % 1000000000000000000 = (c : Int) := by omega
  have hcb : c < 1000000000000000000 := by omega
  have HCB := Lib.hid hcb
  have HCM := Lib.hid hcm
  clear hcd hcm hcb
  by_cases hc0 : c = 0
  · subst hc0
    rcases Nat.lt_trichotomy (Num.dig a).length (Num.dig b).length with hl | hl | hl
    · have HL := Lib.hid hl
      clear hl
      go_enter Try.func5, Try.ntmps5
      go_wp2_with fail
      refine (awake_any _).mono ?_
      rintro e w1 ⟨rfl, B1⟩
      go_wp2_with fail
      refine (HWA.out _).mono ?_
      intro e w2 h2
      obtain ⟨a2, n2, c2, rfl, hn2, hs2, _, hb2⟩ := BytesIs.sl h2 (Num.dig_wf _)
      have S2 := Lib.hid hs2
      have HN2 := Lib.hid hn2
      have B2 := B1.trans (hb2.mono B1.size)
      clear h2 hn2 hs2 hb2 B1
      go_wp2_with fail
      refine (HWB.out _).mono ?_
      intro e w3 h3
      obtain ⟨a3, n3, c3, rfl, hn3, hs3, _, hb3⟩ := BytesIs.sl h3 (Num.dig_wf _)
      have HN3 := Lib.hid hn3
      have k2 : (convert 23 9 (.slice a2 n2 c2)).run Try.prog w3 = .ok (.string SA) w3 := by rw [HSA.out]; exact (S2.out.below hb3 (Nat.le_refl _)).str
      have k3 : (convert 23 9 (.slice a3 n3 c3)).run Try.prog w3 = .ok (.string SB) w3 := by rw [HSB.out]; exact hs3.str
      have B3 := B2.trans (hb3.mono B2.size)
      clear h3 hn3 hs3 hb3 B2
      have hcm := HCM.out
      have hl1 : n2 < n3 := by rw [HN2.out, HN3.out]; exact HL.out
      have hls : a < b := by have h := HO.out; rw [show decide ((Num.dig a).length < (Num.dig b).length) = true from decide_eq_true HL.out] at h; simpa using h.symm
      go_wp2
      go_ret
      exact ⟨by simp, B3⟩
    · have HL := Lib.hid hl
      clear hl
      go_enter Try.func5, Try.ntmps5
      go_wp2_with fail
      refine (awake_any _).mono ?_
      rintro e w1 ⟨rfl, B1⟩
      go_wp2_with fail
      refine (HWA.out _).mono ?_
      intro e w2 h2
      obtain ⟨a2, n2, c2, rfl, hn2, hs2, _, hb2⟩ := BytesIs.sl h2 (Num.dig_wf _)
      have S2 := Lib.hid hs2
      have HN2 := Lib.hid hn2
      have B2 := B1.trans (hb2.mono B1.size)
      clear h2 hn2 hs2 hb2 B1
      go_wp2_with fail
      refine (HWB.out _).mono ?_
      intro e w3 h3
      obtain ⟨a3, n3, c3, rfl, hn3, hs3, _, hb3⟩ := BytesIs.sl h3 (Num.dig_wf _)
      have HN3 := Lib.hid hn3
      have k2 : (convert 23 9 (.slice a2 n2 c2)).run Try.prog w3 = .ok (.string SA) w3 := by rw [HSA.out]; exact (S2.out.below hb3 (Nat.le_refl _)).str
      have k3 : (convert 23 9 (.slice a3 n3 c3)).run Try.prog w3 = .ok (.string SB) w3 := by rw [HSB.out]; exact hs3.str
      have B3 := B2.trans (hb3.mono B2.size)
      clear h3 hn3 hs3 hb3 B2
      have hcm := HCM.out
      have hl1 : ¬ n2 < n3 := by rw [HN2.out, HN3.out]; have := HL.out; omega
      have hl2 : (n2 : Int) = (n3 : Int) := by rw [HN2.out, HN3.out]; have := HL.out; omega
      have hls : Op.bytesLess SA.toList SB.toList = decide (a < b) := by rw [HBL.out, ← HO.out]; simp [HL.out]
      go_wp2
      go_ret
      exact ⟨by simp, B3⟩
    · have HL := Lib.hid hl
      clear hl
      go_enter Try.func5, Try.ntmps5
      go_wp2_with fail
      refine (awake_any _).mono ?_
      rintro e w1 ⟨rfl, B1⟩
      go_wp2_with fail
      refine (HWA.out _).mono ?_
      intro e w2 h2
      obtain ⟨a2, n2, c2, rfl, hn2, hs2, _, hb2⟩ := BytesIs.sl h2 (Num.dig_wf _)
      have S2 := Lib.hid hs2
      have HN2 := Lib.hid hn2
      have B2 := B1.trans (hb2.mono B1.size)
      clear h2 hn2 hs2 hb2 B1
      go_wp2_with fail
      refine (HWB.out _).mono ?_
      intro e w3 h3
      obtain ⟨a3, n3, c3, rfl, hn3, hs3, _, hb3⟩ := BytesIs.sl h3 (Num.dig_wf _)
      have HN3 := Lib.hid hn3
      have k2 : (convert 23 9 (.slice a2 n2 c2)).run Try.prog w3 = .ok (.string SA) w3 := by rw [HSA.out]; exact (S2.out.below hb3 (Nat.le_refl _)).str
      have k3 : (convert 23 9 (.slice a3 n3 c3)).run Try.prog w3 = .ok (.string SB) w3 := by rw [HSB.out]; exact hs3.str
      have B3 := B2.trans (hb3.mono B2.size)
      clear h3 hn3 hs3 hb3 B2
      have hcm := HCM.out
      have hl1 : ¬ n2 < n3 := by rw [HN2.out, HN3.out]; have := HL.out; omega
      have hl2 : ¬ (n2 : Int) = (n3 : Int) := by rw [HN2.out, HN3.out]; have := HL.out; omega
      have hls : ¬ a < b := by
        have h := HO.out
        have h1 := HL.out
        rw [show decide ((Num.dig a).length < (Num.dig b).length) = false from decide_eq_false (by omega), show decide ((Num.dig a).length = (Num.dig b).length) = false from decide_eq_false (by omega)] at h
        simpa using h.symm
      go_wp2
      go_ret
      exact ⟨by simp, B3⟩
  have HWC := Lib.hid (fun w => write_any c (by have := HCB.out; omega) w)
  have hcz : ((c : Int) == 0) = false := by simp; omega
  have HLC : Hid ((Num.dig c).length ≤ 19) := Num.len_le 18 c (by have := HCB.out; omega)
  have HC0 := Lib.hid hc0
  clear hc0
  have hdm : ((d % 10 : Nat) : Int) = (d : Int) % 10 := by omega
  have hwf : ∀ z ∈ [(48 : Int) + (d : Int) % 10], (Lit.int .u8 z).wf = true := by
    intro z hz; rw [List.mem_singleton.1 hz]; exact WalkArith.wf_u8 ⟨by omega, by omega⟩
  have HWF := Lib.hid hwf
  have hrd : Num.read (Num.dig c ++ [48 + (d : Int) % 10]) = some (10 * c + d % 10) := by
    rw [← hdm, ← Num.dig_snoc HC0.out (by omega)]
    exact Num.read_dig (by have := HCB.out; omega)
  have HRD := Lib.hid hrd
  clear hdm hwf hrd
  rcases Nat.lt_trichotomy (Num.dig a).length (Num.dig b).length with hl | hl | hl
  · have HL := Lib.hid hl
    clear hl
    go_enter Try.func5, Try.ntmps5
    go_wp2_with fail
    refine (awake_any _).mono ?_
    rintro e w1 ⟨rfl, B1⟩
    go_wp2_with fail
    refine (HWA.out _).mono ?_
    intro e w2 h2
    obtain ⟨a2, n2, c2, rfl, hn2, hs2, _, hb2⟩ := BytesIs.sl h2 (Num.dig_wf _)
    have S2 := Lib.hid hs2
    have HN2 := Lib.hid hn2
    have B2 := B1.trans (hb2.mono B1.size)
    clear h2 hn2 hs2 hb2 B1
    go_wp2_with fail
    refine (HWB.out _).mono ?_
    intro e w3 h3
    obtain ⟨a3, n3, c3, rfl, hn3, hs3, _, hb3⟩ := BytesIs.sl h3 (Num.dig_wf _)
    have HN3 := Lib.hid hn3
    have k2 : (convert 23 9 (.slice a2 n2 c2)).run Try.prog w3 = .ok (.string SA) w3 := by rw [HSA.out]; exact (S2.out.below hb3 (Nat.le_refl _)).str
    have k3 : (convert 23 9 (.slice a3 n3 c3)).run Try.prog w3 = .ok (.string SB) w3 := by rw [HSB.out]; exact hs3.str
    have B3 := B2.trans (hb3.mono B2.size)
    clear h3 hn3 hs3 hb3 B2
    have hcm := HCM.out
    have hl1 : n2 < n3 := by rw [HN2.out, HN3.out]; exact HL.out
    have hls : a < b := by have h := HO.out; rw [show decide ((Num.dig a).length < (Num.dig b).length) = true from decide_eq_true HL.out] at h; simpa using h.symm
    go_wp2_with fail
    refine (HWC.out _).mono ?_
    rintro e w4 ⟨a4, n4, c4, rfl, hn4, hown4, hnil4, hb4⟩
    have HOWN := Lib.hid hown4
    have HN4 := Lib.hid hn4
    have hn20 : n4 ≤ 19 := by rw [hn4]; exact HLC.out
    have B4 := B3.trans (hb4.mono B3.size)
    have hw03 := B3.size
    have hw34 : w3.heap.size ≤ w4.heap.size := hb4.size
    have hc4' : w3.heap.size ≤ (w4.alloc (.cells #[.int .u8 (48 + (d : Int) % 10)] 5)).heap.size := by simp; omega
    clear hn4 hown4 hb4 B3 k2 k3 hcm
    go_wp2_with (at_builtin; refine append_bytes (by rfl) (.tmp 52) (.tmp 56) (by rfl) w3.heap.size _ n4 (Num.dig c) (by rfl) (HOWN.out.alloc _) (some ⟨w4.heap.size, 0, none⟩) 1 1 [48 + (d : Int) % 10] (by rfl) (Sl.newB [48 + (d : Int) % 10] HWF.out (by show 1 ≤ maxLen; unfold maxLen; omega) rfl rfl rfl) (n4 + 1) rfl (by omega) hc4' ?_; intro a5 c5 w5 hown5 hb5 hn5)
    have X5 := Lib.hid (Sl.of_owns (k := .u8) (zs := Num.dig c ++ [48 + (d : Int) % 10]) hown5 (by intro z hz; rcases List.mem_append.1 hz with hz | hz; exact Num.dig_wf c z hz; exact HWF.out z hz) (by rw [List.length_append, HN4.out]; rfl))
    have B5 := (B4.alloc B4.size _).trans (hb5.mono hw03)
    clear hown5 hb5 hn5 hc4'
    refine (read_any _ _ _ _ _ X5.out).mono ?_
    rintro e w6 ⟨h6, hb6⟩
    obtain rfl := h6.some HRD.out
    have B6 := B5.trans (hb6.mono B5.size)
    clear h6 hb6 B5 B4 X5
    go_wp2
    go_ret
    exact ⟨by simp [HCM.out], B6⟩
  · have HL := Lib.hid hl
    clear hl
    go_enter Try.func5, Try.ntmps5
    go_wp2_with fail
    refine (awake_any _).mono ?_
    rintro e w1 ⟨rfl, B1⟩
    go_wp2_with fail
    refine (HWA.out _).mono ?_
    intro e w2 h2
    obtain ⟨a2, n2, c2, rfl, hn2, hs2, _, hb2⟩ := BytesIs.sl h2 (Num.dig_wf _)
    have S2 := Lib.hid hs2
    have HN2 := Lib.hid hn2
    have B2 := B1.trans (hb2.mono B1.size)
    clear h2 hn2 hs2 hb2 B1
    go_wp2_with fail
    refine (HWB.out _).mono ?_
    intro e w3 h3
    obtain ⟨a3, n3, c3, rfl, hn3, hs3, _, hb3⟩ := BytesIs.sl h3 (Num.dig_wf _)
    have HN3 := Lib.hid hn3
    have k2 : (convert 23 9 (.slice a2 n2 c2)).run Try.prog w3 = .ok (.string SA) w3 := by rw [HSA.out]; exact (S2.out.below hb3 (Nat.le_refl _)).str
    have k3 : (convert 23 9 (.slice a3 n3 c3)).run Try.prog w3 = .ok (.string SB) w3 := by rw [HSB.out]; exact hs3.str
    have B3 := B2.trans (hb3.mono B2.size)
    clear h3 hn3 hs3 hb3 B2
    have hcm := HCM.out
    have hl1 : ¬ n2 < n3 := by rw [HN2.out, HN3.out]; have := HL.out; omega
    have hl2 : (n2 : Int) = (n3 : Int) := by rw [HN2.out, HN3.out]; have := HL.out; omega
    have hls : Op.bytesLess SA.toList SB.toList = decide (a < b) := by rw [HBL.out, ← HO.out]; simp [HL.out]
    go_wp2_with fail
    refine (HWC.out _).mono ?_
    rintro e w4 ⟨a4, n4, c4, rfl, hn4, hown4, hnil4, hb4⟩
    have HOWN := Lib.hid hown4
    have HN4 := Lib.hid hn4
    have hn20 : n4 ≤ 19 := by rw [hn4]; exact HLC.out
    have B4 := B3.trans (hb4.mono B3.size)
    have hw03 := B3.size
    have hw34 : w3.heap.size ≤ w4.heap.size := hb4.size
    have hc4' : w3.heap.size ≤ (w4.alloc (.cells #[.int .u8 (48 + (d : Int) % 10)] 5)).heap.size := by simp; omega
    clear hn4 hown4 hb4 B3 k2 k3 hcm
    go_wp2_with (at_builtin; refine append_bytes (by rfl) (.tmp 52) (.tmp 56) (by rfl) w3.heap.size _ n4 (Num.dig c) (by rfl) (HOWN.out.alloc _) (some ⟨w4.heap.size, 0, none⟩) 1 1 [48 + (d : Int) % 10] (by rfl) (Sl.newB [48 + (d : Int) % 10] HWF.out (by show 1 ≤ maxLen; unfold maxLen; omega) rfl rfl rfl) (n4 + 1) rfl (by omega) hc4' ?_; intro a5 c5 w5 hown5 hb5 hn5)
    have X5 := Lib.hid (Sl.of_owns (k := .u8) (zs := Num.dig c ++ [48 + (d : Int) % 10]) hown5 (by intro z hz; rcases List.mem_append.1 hz with hz | hz; exact Num.dig_wf c z hz; exact HWF.out z hz) (by rw [List.length_append, HN4.out]; rfl))
    have B5 := (B4.alloc B4.size _).trans (hb5.mono hw03)
    clear hown5 hb5 hn5 hc4'
    refine (read_any _ _ _ _ _ X5.out).mono ?_
    rintro e w6 ⟨h6, hb6⟩
    obtain rfl := h6.some HRD.out
    have B6 := B5.trans (hb6.mono B5.size)
    clear h6 hb6 B5 B4 X5
    go_wp2
    go_ret
    exact ⟨by simp [HCM.out], B6⟩
  · have HL := Lib.hid hl
    clear hl
    go_enter Try.func5, Try.ntmps5
    go_wp2_with fail
    refine (awake_any _).mono ?_
    rintro e w1 ⟨rfl, B1⟩
    go_wp2_with fail
    refine (HWA.out _).mono ?_
    intro e w2 h2
    obtain ⟨a2, n2, c2, rfl, hn2, hs2, _, hb2⟩ := BytesIs.sl h2 (Num.dig_wf _)
    have S2 := Lib.hid hs2
    have HN2 := Lib.hid hn2
    have B2 := B1.trans (hb2.mono B1.size)
    clear h2 hn2 hs2 hb2 B1
    go_wp2_with fail
    refine (HWB.out _).mono ?_
    intro e w3 h3
    obtain ⟨a3, n3, c3, rfl, hn3, hs3, _, hb3⟩ := BytesIs.sl h3 (Num.dig_wf _)
    have HN3 := Lib.hid hn3
    have k2 : (convert 23 9 (.slice a2 n2 c2)).run Try.prog w3 = .ok (.string SA) w3 := by rw [HSA.out]; exact (S2.out.below hb3 (Nat.le_refl _)).str
    have k3 : (convert 23 9 (.slice a3 n3 c3)).run Try.prog w3 = .ok (.string SB) w3 := by rw [HSB.out]; exact hs3.str
    have B3 := B2.trans (hb3.mono B2.size)
    clear h3 hn3 hs3 hb3 B2
    have hcm := HCM.out
    have hl1 : ¬ n2 < n3 := by rw [HN2.out, HN3.out]; have := HL.out; omega
    have hl2 : ¬ (n2 : Int) = (n3 : Int) := by rw [HN2.out, HN3.out]; have := HL.out; omega
    have hls : ¬ a < b := by
      have h := HO.out
      have h1 := HL.out
      rw [show decide ((Num.dig a).length < (Num.dig b).length) = false from decide_eq_false (by omega), show decide ((Num.dig a).length = (Num.dig b).length) = false from decide_eq_false (by omega)] at h
      simpa using h.symm
    go_wp2_with fail
    refine (HWC.out _).mono ?_
    rintro e w4 ⟨a4, n4, c4, rfl, hn4, hown4, hnil4, hb4⟩
    have HOWN := Lib.hid hown4
    have HN4 := Lib.hid hn4
    have hn20 : n4 ≤ 19 := by rw [hn4]; exact HLC.out
    have B4 := B3.trans (hb4.mono B3.size)
    have hw03 := B3.size
    have hw34 : w3.heap.size ≤ w4.heap.size := hb4.size
    have hc4' : w3.heap.size ≤ (w4.alloc (.cells #[.int .u8 (48 + (d : Int) % 10)] 5)).heap.size := by simp; omega
    clear hn4 hown4 hb4 B3 k2 k3 hcm
    go_wp2_with (at_builtin; refine append_bytes (by rfl) (.tmp 52) (.tmp 56) (by rfl) w3.heap.size _ n4 (Num.dig c) (by rfl) (HOWN.out.alloc _) (some ⟨w4.heap.size, 0, none⟩) 1 1 [48 + (d : Int) % 10] (by rfl) (Sl.newB [48 + (d : Int) % 10] HWF.out (by show 1 ≤ maxLen; unfold maxLen; omega) rfl rfl rfl) (n4 + 1) rfl (by omega) hc4' ?_; intro a5 c5 w5 hown5 hb5 hn5)
    have X5 := Lib.hid (Sl.of_owns (k := .u8) (zs := Num.dig c ++ [48 + (d : Int) % 10]) hown5 (by intro z hz; rcases List.mem_append.1 hz with hz | hz; exact Num.dig_wf c z hz; exact HWF.out z hz) (by rw [List.length_append, HN4.out]; rfl))
    have B5 := (B4.alloc B4.size _).trans (hb5.mono hw03)
    clear hown5 hb5 hn5 hc4'
    refine (read_any _ _ _ _ _ X5.out).mono ?_
    rintro e w6 ⟨h6, hb6⟩
    obtain rfl := h6.some HRD.out
    have B6 := B5.trans (hb6.mono B5.size)
    clear h6 hb6 B5 B4 X5
    go_wp2
    go_ret
    exact ⟨by simp [HCM.out], B6⟩
  -- go_enter Try.func5, Try.ntmps5
  -- go_wp2
  -- go_ret
  -- exact ⟨rfl, by repeat (first | exact Grown.refl _ | apply Grown.drew | apply Grown.alloc)⟩

/-! ### THE ROW's STEP: WRITTEN OUT: LEAVE IT -/
set_option maxRecDepth 100000 in
theorem lifted (os : Os) (started : os.Started) (H : Type) (enc : TypeId × Value → H) :
    ReturnsInHanded {} Try.checked os 5 .any (Rows.numOrderSpec.pre6 enc Try.prog Try.f5 Rows.numOrderRow.domain false) (Rows.numOrderSpec.post enc Try.prog Try.f5 false true false false) := by
  refine returnsInHanded_of_change (C := Try.checked) own started (by kernel_rfl) Try.func5
    (ChangeSpec.witness6 (enc := enc) (C := Try.checked) false ⟨#[], #[.int .u64 0, .int .u64 0, .int .u8 0], []⟩ 8 (by kernel_rfl) (by kernel_rfl) (by kernel_rfl) (by kernel_rfl)) ?_
  intro W base args ds gs before hval0 hW hcnd _
  have hval : ∀ (j : Nat) t v, Try.f5.params[j]? = some t → args[j]? = some v → Value.okWide Try.prog W .any base t v := hval0
  have hW' := hW
  obtain ⟨p, q, hA0, hV, rfl, hfz, hnd⟩ := hW
  have hA : DataW.TrodAll enc Try.prog W 0 (fun _ => true) true Try.f5.params.toList args.toList ds p := hA0
  rw [Try.params5] at hA hval
  obtain ⟨v0, vs0, d0, ds0, p0, q0, hargs, rfl, rfl, h0, r0⟩ := trodAll_cons hA
  obtain ⟨v1, vs1, d1, ds1, p1, q1, rfl, rfl, rfl, h1, r1⟩ := trodAll_cons r0
  obtain ⟨v2, vs2, d2, ds2, p2, q2, rfl, rfl, rfl, h2, r2⟩ := trodAll_cons r1
  obtain ⟨rfl, rfl, rfl⟩ := trodAll_nil r2
  obtain rfl : args = #[v0, v1, v2] := by cases args; simp_all
  obtain ⟨rfl, rfl⟩ := trodVars_none hV
  obtain ⟨a0, rfl, rfl, rfl, w0⟩ := open_int Try.underlying22 (hval 0 22 v0 rfl rfl) h0
  obtain ⟨a1, rfl, rfl, rfl, w1⟩ := open_int Try.underlying22 (hval 1 22 v1 rfl rfl) h1
  obtain ⟨a2, rfl, rfl, rfl, w2⟩ := open_int Try.underlying5 (hval 2 5 v2 rfl rfl) h2
  clear hA0 hval0
  refine (walk a0 a1 a2 w0 w1 w2 W).mono fun e W' ⟨he, bel⟩ => ?_
  subst he
  exact ⟨_, rfl, _, _, _, [], _, [], hW', trodAll_mk1 (shut_bool Try.underlying4 _), (trodAll_cons_mk (shut_int Try.underlying22 w0) (trodAll_cons_mk (shut_int Try.underlying22 w1) (trodAll_cons_mk (shut_int Try.underlying5 w2) trodAll_mk0))), rfl, bel.frame _, fun h => by cases h⟩

theorem over : Rows.numOrderRow.holds Try.pinned (OpenSpec.ofChange Rows.numOrderSpec) :=
  OpenClaim.holds_of_wide 5 Try.f5 rfl rfl rfl rfl rfl rfl rfl ⟨rfl, rfl, rfl, rfl, rfl⟩ rfl rfl rfl rfl rfl (by kernel_rfl) Try.func5 (by kernel_rfl)
    (of_decide_eq_true (by kernel_rfl)) (by unfold Func.isWrapper; first | (rw [if_pos (by decide +kernel)]; kernel_rfl) | (rw [if_neg (by decide +kernel)]; exact ⟨rfl, rfl⟩))
    (fun os started H enc _ => lifted os started H enc)

/-- ████ THE STATEMENT ████ -/
theorem proved : Rows.NumOrderSaid :=
  over
#print axioms proved
end Go.Proofs.Ytfoajpdjjhbmkaa.numOrder
