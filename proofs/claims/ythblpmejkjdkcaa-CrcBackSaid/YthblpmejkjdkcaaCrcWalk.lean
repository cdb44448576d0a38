/- Layer 14's functions: contracts of step, bytesOf and Sum. -/
import Derived.Laws.BitsAllLaws
import Derived.Test.YthblpmejkjdkcaaCrcMath
import Derived.Test.YthblpmejkjdkcaaGenCell
import Derived.Test.YthblpmejkjdkcaaGenHeap
import Derived.Test.YthblpmejkjdkcaaGenMade
import Derived.WalkMore
namespace Go.Proofs.Ythblpmejkjdkcaa
open Go.RowKit

set_option maxRecDepth 100000 in
theorem Sl.bytes {w : World} {a : Option Addr} {n cap : Nat} {b : List Int} (h : Sl .u8 w a n cap b) : Crc.Bytes b := fun z hz => by
  have := bounds_u8 (h.2.2.2.1 z hz); omega

set_option maxRecDepth 100000 in
theorem Sl.byteAt {w : World} {a : Option Addr} {n cap : Nat} {b : List Int} (h : Sl .u8 w a n cap b) {j : Nat} (hj : j < n) : ∃ x : Nat, (x : Int) = b.getD j 0 ∧ x < 256 := by
  have hl := h.1
  have e : b.getD j 0 = b[j] := by simp [show j < b.length by omega]
  have := h.bytes (b.getD j 0) (by rw [e]; exact List.getElem_mem (by omega))
  exact ⟨(b.getD j 0).toNat, by omega, by omega⟩

set_option maxRecDepth 100000 in
theorem xor_step (s : Nat) (hs : s < 4294967296) : bits .xor .u32 ((s : Int) / 2) ((s : Int) % 2 * 3988292384) = ((Crc.step s : Nat) : Int) := by
  have h1 : (s : Int) / 2 = ((s / 2 : Nat) : Int) := by omega
  have h2 : (s : Int) % 2 * 3988292384 = ((s % 2 * 3988292384 : Nat) : Int) := by omega
  rw [h1, h2, u32_xor_nat _ _ (by omega) (by omega)]
  unfold Crc.step Crc.pol
  by_cases h : s % 2 = 1
  · rw [if_pos h, h, Nat.one_mul]
  · rw [if_neg h, show s % 2 = 0 by omega, Nat.zero_mul]

set_option maxRecDepth 100000 in
theorem cstep_is (s : Nat) (hs : s < 4294967296) (w : World) :
    Calls Try.prog 16 #[.int .u32 (s : Int)] w fun e w' => e = .returned (.int .u32 ((Crc.step s : Nat) : Int)) ∧ w = w' := by
  go_enter Try.func16, Try.ntmps16
  go_wp2
  go_ret
  refine ⟨?_, rfl⟩
  rw [← xor_step s hs]
  rfl

set_option maxRecDepth 100000 in
theorem steps_next (k s : Nat) : Crc.steps (k + 1) s = Crc.step (Crc.steps k s) := by rw [Crc.steps_add]; rfl
set_option maxRecDepth 100000 in
theorem raw_next {b : List Int} {j : Nat} (h : j < b.length) {x : Nat} (hx : (x : Int) = b.getD j 0) (s : Nat) : Crc.raw s (b.take (j + 1)) = Crc.steps 8 (Crc.raw s (b.take j) ^^^ x) := by
  have e : b[j] = (x : Int) := by simpa [h] using hx.symm
  rw [List.take_succ_eq_append_getElem h, Crc.raw_snoc, e, Int.toNat_natCast]

set_option maxHeartbeats 1600000 in
set_option maxRecDepth 100000 in
theorem csum_is (a : Option Addr) (n cap : Nat) (b : List Int) (w : World) (hs : Sl .u8 w a n cap b) :
    Calls Try.prog 10 #[.slice a n cap] w fun e w' => e = .returned (.int .u32 ((Crc.sum b : Nat) : Int)) ∧ w = w' := by
  have hnc := hs.2.1
  have hcm := hs.2.2.1
  unfold maxLen at hcm
  have HS := Lib.hid hs
  have HL := Lib.hid hs.1
  have HBY := Lib.hid hs.bytes
  clear hs
  go_enter Try.func10, Try.ntmps10
  go_wp2
  go_loop [3, 8] (fun sv ix => ∃ (v j : Nat), sv = .int .u32 (v : Int) ∧ ix = .int .i64 (j : Int) ∧ j ≤ n ∧ v < 4294967296 ∧ Hid (v = Crc.raw Crc.ones (b.take j))) (fun _ ix => n - (intOf ix).toNat)
  case atStart => exact ⟨4294967295, 0, rfl, rfl, Nat.zero_le _, by omega, rfl⟩
  case round =>
    obtain ⟨v, j, rfl, rfl, hj, hv, HV⟩ := hrel
    by_cases hlt : j < n
    · obtain ⟨b1, o1, rfl, _, hc1⟩ := HS.out.at (by omega)
      have hx1 := hc1 j hlt
      obtain ⟨x, hx, hx256⟩ := HS.out.byteAt hlt
      have HN := Lib.hid (raw_next (by rw [HL.out]; exact hlt) hx Crc.ones)
      rw [← hx] at hx1
      have hxor : bits .xor .u32 (v : Int) (x : Int) = ((v ^^^ x : Nat) : Int) := u32_xor_nat _ _ hv (by omega)
      have hy9 : v ^^^ x < 4294967296 := Nat.xor_lt_two_pow (n := 32) hv (by omega)
      obtain ⟨y, hy⟩ : ∃ y, y = v ^^^ x := ⟨_, rfl⟩
      rw [← hy] at hxor hy9
      have HY := Lib.hid hy
      have hlti : (j : Int) < (n : Int) := by omega
      have hx255 : (x : Int) ≤ 255 := by omega
      clear hc1 hx hy
      go_wp2
      go_loop [3, 16] (fun sv kv => ∃ (u k : Nat), sv = .int .u32 (u : Int) ∧ kv = .int .i64 (k : Int) ∧ k ≤ 8 ∧ u < 4294967296 ∧ Hid (u = Crc.steps k y)) (fun _ kv => 8 - (intOf kv).toNat)
      case atStart => exact ⟨y, 0, by first | rfl | simp, rfl, Nat.zero_le _, hy9, rfl⟩
      case round =>
        obtain ⟨u, k, rfl, rfl, hk, hu, HU⟩ := hrel
        by_cases hk8 : k < 8
        · have hk8i : (k : Int) < 8 := by omega
          have hsl := Crc.step_lt hu
          obtain ⟨u', hu'⟩ : ∃ u', u' = Crc.step u := ⟨_, rfl⟩
          rw [← hu'] at hsl
          have HC := Lib.hid (cstep_is u hu)
          rw [← hu'] at HC
          have HU' : Hid (u' = Crc.steps (k + 1) y) := by show _ = _; rw [hu', steps_next, ← HU.out]
          clear hu'
          go_wp2_with fail
          refine (HC.out _).mono ?_
          rintro e w1 ⟨rfl, hw1⟩
          obtain rfl := hw1.symm
          go_wp2
          go_round
          case rel => exact ⟨u', k + 1, rfl, by go_num, by omega, hsl, HU'.out⟩
          case measure => simp [intOf]; omega
        · obtain rfl : k = 8 := by omega
          go_wp2
          go_round
          case rel => exact ⟨u, j + 1, rfl, by go_num, by omega, hu, by show u = _; rw [HN.out, ← HV.out, ← HY.out]; exact HU.out⟩
          case measure => simp [intOf]; omega
    · obtain rfl : j = n := by omega
      have hfin : bits .xor .u32 (v : Int) 4294967295 = ((Crc.sum b : Nat) : Int) := by
        have h := u32_xor_nat v 4294967295 hv (by omega)
        have hv2 := HV.out
        rw [List.take_of_length_le (by rw [HL.out]; exact Nat.le_refl _)] at hv2
        rw [hv2] at h ⊢
        exact h
      go_wp2
      go_ret
      exact ⟨by first | rfl | simp [hfin], rfl⟩

end Go.Proofs.Ythblpmejkjdkcaa
