/- Used by the law. -/
import Derived.Test.YtbfjihbkkcggmaaGreatCrcOpen
namespace Go.Proofs.YtbfjihbkkcggmaaGreat
open Go.RowKit

theorem xor_odd {s : Nat} (hs : s < 4294967296) (h : s % 2 = 1) : bits .xor .u32 ((s : Int) / 2) 3988292384 = ((Crc.step s : Nat) : Int) := by
  rw [show (s : Int) / 2 = ((s / 2 : Nat) : Int) from by omega]
  have h2 := u32_xor_nat (s / 2) 3988292384 (by omega) (by omega)
  rw [show ((3988292384 : Nat) : Int) = 3988292384 from rfl] at h2
  rw [h2, Crc.step, if_pos h]; rfl
theorem half_even {s : Nat} (h : ¬ s % 2 = 1) : (s : Int) / 2 = ((Crc.step s : Nat) : Int) := by
  rw [Crc.step, if_neg h, Nat.xor_zero]; omega

set_option maxHeartbeats 1600000 in
set_option maxRecDepth 100000 in
theorem rsum_is (a : Option Addr) (n cap : Nat) (b : List Int) (w : World) (hs : Sl .u8 w a n cap b) :
    Calls Tryz.prog 55 #[.slice a n cap] w fun e w' => e = .returned (.int .u32 ((Crc.sum b : Nat) : Int)) ∧ w = w' := by
  have hnc := hs.2.1
  have hcm := hs.2.2.1
  unfold maxLen at hcm
  have HS := Lib.hid hs
  have HL := Lib.hid hs.1
  clear hs
  go_enter Tryz.func55, Tryz.ntmps55
  go_wp2
  go_loop [3, 4] (fun sv ix => ∃ (v j : Nat), sv = .int .u32 (v : Int) ∧ ix = .int .i64 (j : Int) ∧ j ≤ n ∧ v < 4294967296 ∧ Hid (v = Crc.raw Crc.ones (b.take j))) (fun _ ix => n - (intOf ix).toNat)
  case atStart => exact ⟨4294967295, 0, rfl, rfl, Nat.zero_le _, by omega, rfl⟩
  case round =>
    obtain ⟨v, j, rfl, rfl, hj, hv, HV⟩ := hrel
    by_cases hlt : j < n
    · obtain ⟨b1, o1, rfl, _, hc1⟩ := HS.out.at (by omega)
      have hx1 := hc1 j hlt
      obtain ⟨x, hx, hx256⟩ := HS.out.byteAt hlt
      have HN := Lib.hid (raw_next (by rw [HL.out]; exact hlt) hx Crc.ones)
      rw [← hx] at hx1
      have hxor : bits .xor .u32 (v : Int) (x : Int) = ((v ^^^ x : Nat) : Int) := u32_xor_nat _ _ hv (by omega)
      have hy9 : v ^^^ x < 4294967296 := Nat.xor_lt_two_pow (n := 32) hv (by omega)
      obtain ⟨y, hy⟩ : ∃ y, y = v ^^^ x := ⟨_, rfl⟩
      rw [← hy] at hxor hy9
      have HY := Lib.hid hy
      have hlti : (j : Int) < (n : Int) := by omega
      have hx255 : (x : Int) ≤ 255 := by omega
      clear hc1 hx hy
      go_wp2
      go_loop [3, 5] (fun sv kv => ∃ (u k : Nat), sv = .int .u32 (u : Int) ∧ kv = .int .i64 (k : Int) ∧ k ≤ 8 ∧ u < 4294967296 ∧ Hid (u = Crc.steps k y)) (fun _ kv => 8 - (intOf kv).toNat)
      case atStart => exact ⟨y, 0, by first | rfl | simp, rfl, Nat.zero_le _, hy9, rfl⟩
      case round =>
        obtain ⟨u, k, rfl, rfl, hk, hu, HU⟩ := hrel
        by_cases hk8 : k < 8
        · have hk8i : (k : Int) < 8 := by omega
          have hsl := Crc.step_lt hu
          obtain ⟨u', hu'⟩ : ∃ u', u' = Crc.step u := ⟨_, rfl⟩
          rw [← hu'] at hsl
          have HU' : Hid (u' = Crc.steps (k + 1) y) := by show _ = _; rw [hu', steps_next, ← HU.out]
          by_cases ho : u % 2 = 1
          · have e1 := xor_odd hu ho
            rw [← hu'] at e1
            have ho1 : (u : Int) % 2 = 1 := by omega
            clear hu' ho
            go_wp2
            go_round
            case rel => exact ⟨u', k + 1, by first | rfl | simp [e1], by go_num, by omega, hsl, HU'.out⟩
            case measure => simp [intOf]; omega
          · have e1 := half_even ho
            rw [← hu'] at e1
            have ho1 : (u : Int) % 2 = 0 := by omega
            clear hu' ho
            go_wp2
            go_round
            case rel => exact ⟨u', k + 1, by first | rfl | simp [e1], by go_num, by omega, hsl, HU'.out⟩
            case measure => simp [intOf]; omega
        · obtain rfl : k = 8 := by omega
          go_wp2
          go_round
          case rel => exact ⟨u, j + 1, rfl, by go_num, by omega, hu, by show u = _; rw [HN.out, ← HV.out, ← HY.out]; exact HU.out⟩
          case measure => simp [intOf]; omega
    · obtain rfl : j = n := by omega
      have hfin : bits .xor .u32 (v : Int) 4294967295 = ((Crc.sum b : Nat) : Int) := by
        have h := u32_xor_nat v 4294967295 hv (by omega)
        have hv2 := HV.out
        rw [List.take_of_length_le (by rw [HL.out]; exact Nat.le_refl _)] at hv2
        rw [hv2] at h ⊢
        exact h
      go_wp2
      go_ret
      exact ⟨by first | rfl | simp [hfin], rfl⟩

theorem lock_wf {w : World} {a : Option Addr} {n cap : Nat} {b : List Int} (h : Sl .u8 w a n cap b) : ∀ z ∈ Crc.lock b, (Lit.int .u8 z).wf = true := bytes_wf (Crc.lock_bytes h.bytes)

set_option maxHeartbeats 1600000 in
set_option maxRecDepth 100000 in
theorem rseal_is (a : Option Addr) (n1 cap : Nat) (b : List Int) (w : World) (hs : Sl .u8 w a n1 cap b) (hb1 : n1 ≤ 200000000000) :
    Calls Tryz.prog 23 #[.slice a n1 cap] w fun e w' => MadeB w w' e (Crc.lock b) := by
  have hsum := Crc.sum_lt hs.bytes
  obtain ⟨s, hsd⟩ : ∃ s, s = Crc.sum b := ⟨_, rfl⟩
  rw [← hsd] at hsum
  have HSD := Lib.hid hsd
  have HL := Lib.hid hs.1
  have HS := Lib.hid hs
  have HCS : Hid (Calls Tryz.prog 55 #[.slice a n1 cap] w fun e w' => e = .returned (.int .u32 ((s : Nat) : Int)) ∧ w = w') := by
    have h := rsum_is a n1 cap b w hs
    rw [← hsd] at h; exact h
  have HW := Lib.hid (le4_wf s)
  obtain ⟨xa, ha⟩ : ∃ a : Int, a = ((s % 256 : Nat) : Int) := ⟨_, rfl⟩
  obtain ⟨xb, hb⟩ : ∃ b : Int, b = ((s / 256 % 256 : Nat) : Int) := ⟨_, rfl⟩
  obtain ⟨xc, hc⟩ : ∃ c : Int, c = ((s / 65536 % 256 : Nat) : Int) := ⟨_, rfl⟩
  obtain ⟨xd, hd⟩ : ∃ d : Int, d = ((s / 16777216 % 256 : Nat) : Int) := ⟨_, rfl⟩
  have hle : Crc.le4 s = [xa, xb, xc, xd] := by rw [ha, hb, hc, hd]; rfl
  have wa : IntKind.u8.wrap (s : Int) = xa := by rw [wrap_u8n, ha]
  have wb : IntKind.u8.wrap ((s : Int) / 256) = xb := by rw [show (s : Int) / 256 = ((s / 256 : Nat) : Int) from by omega, wrap_u8n, hb]
  have wc : IntKind.u8.wrap ((s : Int) / 65536) = xc := by rw [show (s : Int) / 65536 = ((s / 65536 : Nat) : Int) from by omega, wrap_u8n, hc]
  have wd : IntKind.u8.wrap ((s : Int) / 16777216) = xd := by rw [show (s : Int) / 16777216 = ((s / 16777216 : Nat) : Int) from by omega, wrap_u8n, hd]
  have HMD : Hid ((w.alloc (.cells #[] 5)).ownsRow w.heap.size 5 1 (.slice (some ⟨w.heap.size, 0, none⟩) 0 0) 0 (u8s [])) := World.ownsRow_made w #[] 0 (Nat.le_refl _) (Nat.zero_le _) rfl
  have HB0 : ∀ o, Hid (Below w.heap.size w (w.alloc o)) := fun o => Lib.hid ((Below.refl _ w).alloc (Nat.le_refl _) o)
  have HLE := Lib.hid hle
  rw [hle] at HW
  clear hs hsd ha hb hc hd hle
  go_enter Tryz.func23, Tryz.ntmps23
  go_wp2_with (first
    | (go_at_call 55; refine HCS.out.mono ?_; rintro e wz ⟨rfl, hwz⟩; subst hwz)
    | (at_builtin; first
      | (refine append_bytes (by rfl) (.tmp 6) (.tmp 7) (by rfl) w.heap.size _ 0 [] (by rfl) HMD.out a n1 cap b (by rfl) (HS.out.alloc _) n1 (by omega) (by omega) (by simp) ?_; intro a2 c2 w2 hown2 hb2 hnil2; have HO2 : Hid (w2.ownsRow w.heap.size 5 1 (.slice a2 n1 c2) n1 (u8s b)) := (by show World.ownsRow _ _ _ _ _ _ _; simpa using hown2); have HB2 := Lib.hid ((HB0 _).out.trans hb2); clear hown2 hb2 hnil2)
      | (refine append_bytes (by rfl) (.tmp 8) (.tmp 20) (by rfl) w.heap.size _ n1 b (by rfl) (ownsRow_below HO2.out ((Below.refl w2.heap.size w2).alloc (Nat.le_refl _) _) (Nat.le_refl _)) (some ⟨w2.heap.size, 0, none⟩) 4 4 [xa, xb, xc, xd] (by rfl) (Sl.newB [xa, xb, xc, xd] HW.out (by unfold maxLen; simp) rfl rfl rfl) (n1 + 4) rfl (by omega) (by have := HB2.out.size; simp; omega) ?_; intro a3 c3 w3 hown3 hb3 hnil3; have HO3 := Lib.hid hown3; have HB3 : Hid (Below w.heap.size w w3) := Lib.hid ((HB2.out.alloc HB2.out.size _).trans hb3); have HN3 := Lib.hid hnil3; clear hown3 hb3 hnil3))
    | fail)
  go_ret
  refine ⟨a3, n1 + 4, c3, rfl, by rw [Crc.lock_length, HL.out], ?_, HN3.out, HB3.out⟩
  rw [Crc.lock, ← HSD.out, HLE.out]
  exact HO3.out

set_option maxRecDepth 100000 in
theorem opn_off {b l : List Int} {m : Nat} (hm : b.length = m + 4) (hl : l = Crc.lock (b.take m)) (h : decide (l = b) = false) : Crc.opn b = none := by
  rw [Crc.opn, hm, Nat.add_sub_cancel, if_neg]
  rintro ⟨_, h2⟩
  rw [decide_eq_false_iff_not] at h
  exact h (hl.trans h2)
set_option maxRecDepth 100000 in
theorem opn_on {b l : List Int} {m : Nat} (hm : b.length = m + 4) (hl : l = Crc.lock (b.take m)) (h : decide (l = b) = true) : Crc.opn b = some (b.take m) := by
  rw [decide_eq_true_iff] at h
  rw [Crc.opn, hm, Nat.add_sub_cancel, if_pos ⟨by omega, hl.symm.trans h⟩]

set_option maxHeartbeats 3200000 in
set_option maxRecDepth 100000 in
theorem ropen_is (a : Option Addr) (n cap : Nat) (b : List Int) (w : World) (hs : Sl .u8 w a n cap b) (hb1 : n ≤ 200000000000) :
    Calls Tryz.prog 29 #[.slice a n cap] w fun e w' => OpenIs w' e (Crc.opn b) ∧ Below w.heap.size w w' := by
  have hmx : Tryz.prog.follows .mixedOrders = true := by kernel_rfl
  have hnc := hs.2.1
  have hcm := hs.2.2.1
  unfold maxLen at hcm
  have HS := Lib.hid hs
  have HL := Lib.hid hs.1
  clear hs
  by_cases h4 : n < 4
  · have HR := Lib.hid (opn_short (b := b) (by rw [HL.out]; exact h4))
    have h4i : (n : Int) < 4 := by omega
    go_enter Tryz.func29, Tryz.ntmps29
    go_wp2
    first | (go_quiet (fail)) | fail
    go_wp2
    go_ret2
    exact ⟨.inr ⟨HR.out, rfl⟩, below_drawn (Below.refl _ _) ⟨_, rfl⟩⟩
  · obtain ⟨m, hm⟩ : ∃ m, n = m + 4 := ⟨n - 4, by omega⟩
    obtain ⟨b1, o1, rfl, _, hc1⟩ := HS.out.at (by omega)
    clear hc1
    have h4i : ¬ (n : Int) < 4 := by omega
    have h4d : decide ((n : Int) < 4) = false := by simp; omega
    have hsub : (n : Int) - 4 = (m : Int) := by omega
    have hm0' : (0 : Int) ≤ (m : Int) := by omega
    have hmn : (m : Int) ≤ (n : Int) := by omega
    have hmc : (m : Int) ≤ (cap : Int) := by omega
    have hwm : IntKind.i64.wrap (m : Int) = (m : Int) := by rw [IntKind.wrap_i64]; omega
    have HLM : Hid (b.length = m + 4) := by show _ = _; rw [HL.out, hm]
    have HP := Lib.hid (HS.out.first m (by omega))
    obtain ⟨l, hl⟩ : ∃ l, l = Crc.lock (b.take m) := ⟨_, rfl⟩
    have HLL := Lib.hid hl
    have HWF : Hid (∀ z ∈ l, (Lit.int .u8 z).wf = true) := by rw [hl]; exact lock_wf HP.out
    have HC : Hid (∀ w', Sl .u8 w' (some ⟨b1, o1, none⟩) m cap (b.take m) → Calls Tryz.prog 23 #[.slice (some ⟨b1, o1, none⟩) m cap] w' fun e w2 => MadeB w' w2 e l) := by
      intro w' h
      rw [hl]; exact rseal_is _ _ _ _ w' h (by omega)
    have hse := str_eq HWF.out HS.out.2.2.2.1
    obtain ⟨S1, hS1⟩ : ∃ S1, S1 = strOfNums l := ⟨_, rfl⟩
    obtain ⟨S2, hS2⟩ : ∃ S2, S2 = strOfNums b := ⟨_, rfl⟩
    rw [← hS1, ← hS2] at hse
    have HS1 := Lib.hid hS1
    have HS2 := Lib.hid hS2
    have HK0 : Hid ((convert 29 9 (.slice (some ⟨b1, o1, none⟩) n cap)).run Tryz.prog w.drew = .ok (.string S2) w.drew) := by show _ = _; rw [hS2]; exact HS.out.drew.str
    obtain ⟨r, hr⟩ : ∃ r, decide (l = b) = r := ⟨_, rfl⟩
    have HR := Lib.hid hr
    rw [hr] at hse
    clear hl hS1 hS2 hr hm
    cases r with
    | false =>
      have hbn : (S1.toList != S2.toList) = true := by rw [bne, hse]; rfl
      have HT := Lib.hid (opn_off HLM.out HLL.out HR.out)
      go_enter Tryz.func29, Tryz.ntmps29
      go_wp2
      refine wp_region_held_drew (S := (fun W => (convert 29 9 (.slice (some ⟨b1, o1, none⟩) n cap)).run Tryz.prog W = .ok (.string S2) W)) (by kernel_rfl) (by first | (first | exact HK2.out | exact HK0.out) | ((try dsimp only); first | exact HK2.out | exact HK0.out)) (fun hHeld => ?_)
      refine wpAnyH_take (i := 0) (v := ?vp1) rfl (by kernel_rfl) (by kernel_rfl) (by kernel_rfl) (fun _ _ _ h => h) (Or.inl ⟨by rfl, ?hp1⟩) (by assumption) ?rp1
      case hp1 => intro w hSw; (try dsimp only at hSw); go_simp; try with_reducible rfl
      simp only [Act.put, List.getElem_toArray, List.getElem_cons_succ, List.getElem_cons_zero, List.setIfInBounds_toArray, List.set_cons_succ, List.set_cons_zero]
      refine wpAnyH_take (i := 1) (v := ?vp4) rfl (by kernel_rfl) (by kernel_rfl) (by kernel_rfl) (fun _ _ _ h => h) (Or.inl ⟨by rfl, ?hp4⟩) (by assumption) ?rp4
      case hp4 => intro w hSw; (try dsimp only at hSw); go_simp; try with_reducible rfl
      simp only [Act.put, List.getElem_toArray, List.getElem_cons_succ, List.getElem_cons_zero, List.setIfInBounds_toArray, List.set_cons_succ, List.set_cons_zero]
      refine wpAnyH_take (i := 2) (v := ?vp7) rfl (by kernel_rfl) (by kernel_rfl) (by kernel_rfl) (fun _ _ _ h => h) (Or.inl ⟨by rfl, ?hp7⟩) (by assumption) ?rp7
      case hp7 => intro w hSw; (try dsimp only at hSw); go_simp; try with_reducible rfl
      simp only [Act.put, List.getElem_toArray, List.getElem_cons_succ, List.getElem_cons_zero, List.setIfInBounds_toArray, List.set_cons_succ, List.set_cons_zero]
      refine wpAnyH_take (i := 3) (v := ?vp10) rfl (by kernel_rfl) (by kernel_rfl) (by kernel_rfl) (fun _ _ _ h => h) (Or.inl ⟨by rfl, ?hp10⟩) (by assumption) ?rp10
      case hp10 => intro w hSw; (try dsimp only at hSw); go_simp; try with_reducible rfl
      simp only [Act.put, List.getElem_toArray, List.getElem_cons_succ, List.getElem_cons_zero, List.setIfInBounds_toArray, List.set_cons_succ, List.set_cons_zero]
      refine wpAnyH_take (i := 4) (v := ?vp13) rfl (by kernel_rfl) (by kernel_rfl) (by kernel_rfl) (fun _ _ _ h => h) (Or.inl ⟨by rfl, ?hp13⟩) (by assumption) ?rp13
      case hp13 => intro w hSw; (try dsimp only at hSw); go_simp; try with_reducible rfl
      simp only [Act.put, List.getElem_toArray, List.getElem_cons_succ, List.getElem_cons_zero, List.setIfInBounds_toArray, List.set_cons_succ, List.set_cons_zero]
      refine wpAnyH_take (i := 5) (v := ?vp16) rfl (by kernel_rfl) (by kernel_rfl) (by kernel_rfl) (fun _ _ _ h => h) (Or.inl ⟨by rfl, ?hp16⟩) (by assumption) ?rp16
      case hp16 => intro w hSw; (try dsimp only at hSw); go_simp; try with_reducible rfl
      simp only [Act.put, List.getElem_toArray, List.getElem_cons_succ, List.getElem_cons_zero, List.setIfInBounds_toArray, List.set_cons_succ, List.set_cons_zero]
      refine wpAnyH_take (i := 6) (v := ?vp19) rfl (by kernel_rfl) (by kernel_rfl) (by kernel_rfl) (fun _ _ _ h => h) (Or.inl ⟨by rfl, ?hp19⟩) (by assumption) ?rp19
      case hp19 => intro w hSw; (try dsimp only at hSw); go_simp; try with_reducible rfl
      simp only [Act.put, List.getElem_toArray, List.getElem_cons_succ, List.getElem_cons_zero, List.setIfInBounds_toArray, List.set_cons_succ, List.set_cons_zero]
      refine wpAnyH_take (i := 7) (v := ?vp22) rfl (by kernel_rfl) (by kernel_rfl) (by kernel_rfl) (fun _ _ _ h => h) (Or.inl ⟨by rfl, ?hp22⟩) (by assumption) ?rp22
      case hp22 => intro w hSw; (try dsimp only at hSw); go_simp; try with_reducible rfl
      simp only [Act.put, List.getElem_toArray, List.getElem_cons_succ, List.getElem_cons_zero, List.setIfInBounds_toArray, List.set_cons_succ, List.set_cons_zero]
      refine wpAnyH_take (i := 8) (v := ?vp25) rfl (by kernel_rfl) (by kernel_rfl) (by kernel_rfl) (fun _ _ _ h => h) (Or.inl ⟨by rfl, ?hp25⟩) (by assumption) ?rp25
      case hp25 => intro w hSw; (try dsimp only at hSw); go_simp; try with_reducible rfl
      simp only [Act.put, List.getElem_toArray, List.getElem_cons_succ, List.getElem_cons_zero, List.setIfInBounds_toArray, List.set_cons_succ, List.set_cons_zero]
      refine wpAnyH_take (i := 11) (v := ?vp28) rfl (by kernel_rfl) (by kernel_rfl) (by kernel_rfl) (fun _ _ _ h => h) (Or.inl ⟨by rfl, ?hp28⟩) (by assumption) ?rp28
      case hp28 => intro w hSw; (try dsimp only at hSw); go_simp; try with_reducible rfl
      simp only [Act.put, List.getElem_toArray, List.getElem_cons_succ, List.getElem_cons_zero, List.setIfInBounds_toArray, List.set_cons_succ, List.set_cons_zero]
      refine wpAnyH_take (i := 12) (v := ?vp31) rfl (by kernel_rfl) (by kernel_rfl) (by kernel_rfl) (fun _ _ _ h => h) (Or.inl ⟨by rfl, ?hp31⟩) (by assumption) ?rp31
      case hp31 => intro w hSw; (try dsimp only at hSw); go_simp; try with_reducible rfl
      simp only [Act.put, List.getElem_toArray, List.getElem_cons_succ, List.getElem_cons_zero, List.setIfInBounds_toArray, List.set_cons_succ, List.set_cons_zero]
      refine wpAnyH_ready (rs := [9]) (by kernel_rfl) (by simp) ?_
      refine AllReadyH.cons rfl (fun K hK => ?_) AllReadyH.nil
      go_simp
      refine (HC.out _ HP.out.drew).mono ?_
      rintro e w2 ⟨a2, n2, c2, rfl, hn2, hown2, -, hb2⟩
      have k2 : (convert 29 9 (.slice a2 n2 c2)).run Tryz.prog w2 = .ok (.string S1) w2 := by rw [HS1.out]; exact (Sl.of_owns (k := .u8) hown2 HWF.out hn2.symm).str
      have HK2 : Hid ((convert 29 9 (.slice (some ⟨b1, o1, none⟩) n cap)).run Tryz.prog w2 = .ok (.string S2) w2) := by show _ = _; rw [HS2.out]; exact (HS.out.drew.below hb2 (Nat.le_refl _)).str
      have HB2 : Hid (Below w.heap.size w w2) := ⟨hb2.os, hb2.tape, hb2.output, hb2.size, hb2.block⟩
      clear hn2 hown2 hb2
      refine hK.out _ _ (by first | (first | exact HK2.out | exact HK0.out) | ((try dsimp only); first | exact HK2.out | exact HK0.out)) (fun hHeld => ?_)
      clear hK K
      try simp only [Act.put, List.getElem_toArray, List.getElem_cons_succ, List.getElem_cons_zero, List.setIfInBounds_toArray, List.set_cons_succ, List.set_cons_zero]
      refine wpAnyH_ready (rs := [10]) (by kernel_rfl) (by simp) ?_
      refine AllReadyH.cons rfl (fun K hK => ?_) AllReadyH.nil
      go_simp
      refine hK.out _ _ (by first | (first | exact HK2.out | exact HK0.out) | ((try dsimp only); first | exact HK2.out | exact HK0.out)) (fun hHeld => ?_)
      clear hK K
      try simp only [Act.put, List.getElem_toArray, List.getElem_cons_succ, List.getElem_cons_zero, List.setIfInBounds_toArray, List.set_cons_succ, List.set_cons_zero]
      refine wpAnyH_take (i := 13) (v := ?vp52) rfl (by kernel_rfl) (by kernel_rfl) (by kernel_rfl) (fun _ _ _ h => h) (Or.inl ⟨by rfl, ?hp52⟩) (by assumption) ?rp52
      case hp52 => intro w hSw; (try dsimp only at hSw); go_simp; try with_reducible rfl
      simp only [Act.put, List.getElem_toArray, List.getElem_cons_succ, List.getElem_cons_zero, List.setIfInBounds_toArray, List.set_cons_succ, List.set_cons_zero]
      refine wpAnyH_take (i := 14) (v := ?vp55) rfl (by kernel_rfl) (by kernel_rfl) (by kernel_rfl) (fun _ _ _ h => h) (Or.inl ⟨by rfl, ?hp55⟩) (by assumption) ?rp55
      case hp55 => intro w hSw; (try dsimp only at hSw); go_simp; try with_reducible rfl
      simp only [Act.put, List.getElem_toArray, List.getElem_cons_succ, List.getElem_cons_zero, List.setIfInBounds_toArray, List.set_cons_succ, List.set_cons_zero]
      refine wpAnyH_done (by kernel_rfl) ?_ _
      go_wp2
      go_ret2
      exact ⟨.inr ⟨HT.out, rfl⟩, HB2.out⟩
    | true =>
      have hbn : (S1.toList != S2.toList) = false := by rw [bne, hse]; rfl
      have HT := Lib.hid (opn_on HLM.out HLL.out HR.out)
      go_enter Tryz.func29, Tryz.ntmps29
      go_wp2
      refine wp_region_held_drew (S := (fun W => (convert 29 9 (.slice (some ⟨b1, o1, none⟩) n cap)).run Tryz.prog W = .ok (.string S2) W)) (by kernel_rfl) (by first | (first | exact HK2.out | exact HK0.out) | ((try dsimp only); first | exact HK2.out | exact HK0.out)) (fun hHeld => ?_)
      refine wpAnyH_take (i := 0) (v := ?vq1) rfl (by kernel_rfl) (by kernel_rfl) (by kernel_rfl) (fun _ _ _ h => h) (Or.inl ⟨by rfl, ?hq1⟩) (by assumption) ?rq1
      case hq1 => intro w hSw; (try dsimp only at hSw); go_simp; try with_reducible rfl
      simp only [Act.put, List.getElem_toArray, List.getElem_cons_succ, List.getElem_cons_zero, List.setIfInBounds_toArray, List.set_cons_succ, List.set_cons_zero]
      refine wpAnyH_take (i := 1) (v := ?vq4) rfl (by kernel_rfl) (by kernel_rfl) (by kernel_rfl) (fun _ _ _ h => h) (Or.inl ⟨by rfl, ?hq4⟩) (by assumption) ?rq4
      case hq4 => intro w hSw; (try dsimp only at hSw); go_simp; try with_reducible rfl
      simp only [Act.put, List.getElem_toArray, List.getElem_cons_succ, List.getElem_cons_zero, List.setIfInBounds_toArray, List.set_cons_succ, List.set_cons_zero]
      refine wpAnyH_take (i := 2) (v := ?vq7) rfl (by kernel_rfl) (by kernel_rfl) (by kernel_rfl) (fun _ _ _ h => h) (Or.inl ⟨by rfl, ?hq7⟩) (by assumption) ?rq7
      case hq7 => intro w hSw; (try dsimp only at hSw); go_simp; try with_reducible rfl
      simp only [Act.put, List.getElem_toArray, List.getElem_cons_succ, List.getElem_cons_zero, List.setIfInBounds_toArray, List.set_cons_succ, List.set_cons_zero]
      refine wpAnyH_take (i := 3) (v := ?vq10) rfl (by kernel_rfl) (by kernel_rfl) (by kernel_rfl) (fun _ _ _ h => h) (Or.inl ⟨by rfl, ?hq10⟩) (by assumption) ?rq10
      case hq10 => intro w hSw; (try dsimp only at hSw); go_simp; try with_reducible rfl
      simp only [Act.put, List.getElem_toArray, List.getElem_cons_succ, List.getElem_cons_zero, List.setIfInBounds_toArray, List.set_cons_succ, List.set_cons_zero]
      refine wpAnyH_take (i := 4) (v := ?vq13) rfl (by kernel_rfl) (by kernel_rfl) (by kernel_rfl) (fun _ _ _ h => h) (Or.inl ⟨by rfl, ?hq13⟩) (by assumption) ?rq13
      case hq13 => intro w hSw; (try dsimp only at hSw); go_simp; try with_reducible rfl
      simp only [Act.put, List.getElem_toArray, List.getElem_cons_succ, List.getElem_cons_zero, List.setIfInBounds_toArray, List.set_cons_succ, List.set_cons_zero]
      refine wpAnyH_take (i := 5) (v := ?vq16) rfl (by kernel_rfl) (by kernel_rfl) (by kernel_rfl) (fun _ _ _ h => h) (Or.inl ⟨by rfl, ?hq16⟩) (by assumption) ?rq16
      case hq16 => intro w hSw; (try dsimp only at hSw); go_simp; try with_reducible rfl
      simp only [Act.put, List.getElem_toArray, List.getElem_cons_succ, List.getElem_cons_zero, List.setIfInBounds_toArray, List.set_cons_succ, List.set_cons_zero]
      refine wpAnyH_take (i := 6) (v := ?vq19) rfl (by kernel_rfl) (by kernel_rfl) (by kernel_rfl) (fun _ _ _ h => h) (Or.inl ⟨by rfl, ?hq19⟩) (by assumption) ?rq19
      case hq19 => intro w hSw; (try dsimp only at hSw); go_simp; try with_reducible rfl
      simp only [Act.put, List.getElem_toArray, List.getElem_cons_succ, List.getElem_cons_zero, List.setIfInBounds_toArray, List.set_cons_succ, List.set_cons_zero]
      refine wpAnyH_take (i := 7) (v := ?vq22) rfl (by kernel_rfl) (by kernel_rfl) (by kernel_rfl) (fun _ _ _ h => h) (Or.inl ⟨by rfl, ?hq22⟩) (by assumption) ?rq22
      case hq22 => intro w hSw; (try dsimp only at hSw); go_simp; try with_reducible rfl
      simp only [Act.put, List.getElem_toArray, List.getElem_cons_succ, List.getElem_cons_zero, List.setIfInBounds_toArray, List.set_cons_succ, List.set_cons_zero]
      refine wpAnyH_take (i := 8) (v := ?vq25) rfl (by kernel_rfl) (by kernel_rfl) (by kernel_rfl) (fun _ _ _ h => h) (Or.inl ⟨by rfl, ?hq25⟩) (by assumption) ?rq25
      case hq25 => intro w hSw; (try dsimp only at hSw); go_simp; try with_reducible rfl
      simp only [Act.put, List.getElem_toArray, List.getElem_cons_succ, List.getElem_cons_zero, List.setIfInBounds_toArray, List.set_cons_succ, List.set_cons_zero]
      refine wpAnyH_take (i := 11) (v := ?vq28) rfl (by kernel_rfl) (by kernel_rfl) (by kernel_rfl) (fun _ _ _ h => h) (Or.inl ⟨by rfl, ?hq28⟩) (by assumption) ?rq28
      case hq28 => intro w hSw; (try dsimp only at hSw); go_simp; try with_reducible rfl
      simp only [Act.put, List.getElem_toArray, List.getElem_cons_succ, List.getElem_cons_zero, List.setIfInBounds_toArray, List.set_cons_succ, List.set_cons_zero]
      refine wpAnyH_take (i := 12) (v := ?vq31) rfl (by kernel_rfl) (by kernel_rfl) (by kernel_rfl) (fun _ _ _ h => h) (Or.inl ⟨by rfl, ?hq31⟩) (by assumption) ?rq31
      case hq31 => intro w hSw; (try dsimp only at hSw); go_simp; try with_reducible rfl
      simp only [Act.put, List.getElem_toArray, List.getElem_cons_succ, List.getElem_cons_zero, List.setIfInBounds_toArray, List.set_cons_succ, List.set_cons_zero]
      refine wpAnyH_ready (rs := [9]) (by kernel_rfl) (by simp) ?_
      refine AllReadyH.cons rfl (fun K hK => ?_) AllReadyH.nil
      go_simp
      refine (HC.out _ HP.out.drew).mono ?_
      rintro e w2 ⟨a2, n2, c2, rfl, hn2, hown2, -, hb2⟩
      have k2 : (convert 29 9 (.slice a2 n2 c2)).run Tryz.prog w2 = .ok (.string S1) w2 := by rw [HS1.out]; exact (Sl.of_owns (k := .u8) hown2 HWF.out hn2.symm).str
      have HK2 : Hid ((convert 29 9 (.slice (some ⟨b1, o1, none⟩) n cap)).run Tryz.prog w2 = .ok (.string S2) w2) := by show _ = _; rw [HS2.out]; exact (HS.out.drew.below hb2 (Nat.le_refl _)).str
      have HB2 : Hid (Below w.heap.size w w2) := ⟨hb2.os, hb2.tape, hb2.output, hb2.size, hb2.block⟩
      clear hn2 hown2 hb2
      refine hK.out _ _ (by first | (first | exact HK2.out | exact HK0.out) | ((try dsimp only); first | exact HK2.out | exact HK0.out)) (fun hHeld => ?_)
      clear hK K
      try simp only [Act.put, List.getElem_toArray, List.getElem_cons_succ, List.getElem_cons_zero, List.setIfInBounds_toArray, List.set_cons_succ, List.set_cons_zero]
      refine wpAnyH_ready (rs := [10]) (by kernel_rfl) (by simp) ?_
      refine AllReadyH.cons rfl (fun K hK => ?_) AllReadyH.nil
      go_simp
      refine hK.out _ _ (by first | (first | exact HK2.out | exact HK0.out) | ((try dsimp only); first | exact HK2.out | exact HK0.out)) (fun hHeld => ?_)
      clear hK K
      try simp only [Act.put, List.getElem_toArray, List.getElem_cons_succ, List.getElem_cons_zero, List.setIfInBounds_toArray, List.set_cons_succ, List.set_cons_zero]
      refine wpAnyH_take (i := 13) (v := ?vq52) rfl (by kernel_rfl) (by kernel_rfl) (by kernel_rfl) (fun _ _ _ h => h) (Or.inl ⟨by rfl, ?hq52⟩) (by assumption) ?rq52
      case hq52 => intro w hSw; (try dsimp only at hSw); go_simp; try with_reducible rfl
      simp only [Act.put, List.getElem_toArray, List.getElem_cons_succ, List.getElem_cons_zero, List.setIfInBounds_toArray, List.set_cons_succ, List.set_cons_zero]
      refine wpAnyH_take (i := 14) (v := ?vq55) rfl (by kernel_rfl) (by kernel_rfl) (by kernel_rfl) (fun _ _ _ h => h) (Or.inl ⟨by rfl, ?hq55⟩) (by assumption) ?rq55
      case hq55 => intro w hSw; (try dsimp only at hSw); go_simp; try with_reducible rfl
      simp only [Act.put, List.getElem_toArray, List.getElem_cons_succ, List.getElem_cons_zero, List.setIfInBounds_toArray, List.set_cons_succ, List.set_cons_zero]
      refine wpAnyH_done (by kernel_rfl) ?_ _
      go_wp2
      go_ret2
      exact ⟨.inl ⟨b.take m, _, _, _, HT.out, rfl, HP.out.below HB2.out (Nat.le_refl _)⟩, HB2.out⟩

end Go.Proofs.YtbfjihbkkcggmaaGreat
