/- The bits that bytes hold: the program's bitsOf. -/
import Derived.Test.YtlpgnolibpfhpaaGenStr
import Derived.Test.YtlpgnolibpfhpaaVarMath
import Derived.WalkMore
namespace Go.Proofs.Ytlpgnolibpfhpaa
open Go.RowKit

set_option maxRecDepth 100000 in
theorem vgetD_mem {zs : List Int} {i : Nat} (h : i < zs.length) : zs.getD i 0 ∈ zs := by
  rw [List.getD_eq_getElem?_getD, List.getElem?_eq_getElem h]; exact List.getElem_mem _
set_option maxRecDepth 100000 in
theorem num_end {b : List Int} {j : Nat} (h : ∀ x ∈ b.take j, 128 ≤ x) (hj : j ≤ 10) (hm : j = b.length ∨ j = 10) : Var.num b = Var.val (b.take j) % 18446744073709551616 := by
  rw [Var.num, Var.upTo_end j 10 b h hm hj]
set_option maxRecDepth 100000 in
theorem take_more {b : List Int} {j : Nat} (h : ∀ x ∈ b.take j, 128 ≤ x) (hj : j < b.length) (hx : 128 ≤ b.getD j 0) : ∀ x ∈ b.take (j + 1), 128 ≤ x := by
  intro x hx'
  rw [List.take_succ_eq_append_getElem hj] at hx'
  rcases List.mem_append.1 hx' with h1 | h1
  · exact h x h1
  · rw [List.mem_singleton.1 h1]; simpa [hj] using hx

set_option maxRecDepth 100000 in
theorem wrap_u64v (x : Int) : IntKind.u64.wrap x = x % 18446744073709551616 := by
  simp [IntKind.wrap, IntKind.signed, IntKind.bits]
set_option maxRecDepth 100000 in
theorem shl_fact {v x j T N : Nat} (hv : v = T % 18446744073709551616) (hN : N = T + 128 ^ j * (x % 128)) :
    IntKind.u64.wrap ((v : Int) + IntKind.u64.wrap ((x : Int) % 128 * 2 ^ (j * 7))) = ((N % 18446744073709551616 : Nat) : Int) := by
  have e1 : (2 : Int) ^ (j * 7) = ((128 ^ j : Nat) : Int) := by
    rw [Nat.mul_comm, Int.pow_mul]
    simp
  have e2 : (x : Int) % 128 = ((x % 128 : Nat) : Int) := by simp
  obtain ⟨q, hq⟩ : ∃ q, q = 128 ^ j * (x % 128) := ⟨_, rfl⟩
  have e3 : ((x % 128 : Nat) : Int) * ((128 ^ j : Nat) : Int) = (q : Int) := by rw [hq, Int.natCast_mul, Int.mul_comm]
  rw [e1, e2, e3, wrap_u64v, wrap_u64v, hN, ← hq]
  omega

set_option maxHeartbeats 1600000 in
set_option maxRecDepth 100000 in
theorem bitsOf_is (a : Option Addr) (n cap : Nat) (b : List Int) (w : World) (hs : Sl .u8 w a n cap b) :
    Calls Try.prog 14 #[.slice a n cap] w fun e w' => e = .returned (.int .u64 (Var.num b : Nat)) ∧ w = w' := by
  have hnc := hs.2.1
  have hcm := hs.2.2.1
  unfold maxLen at hcm
  have HS := Lib.hid hs
  have HL := Lib.hid hs.1
  clear hs
  obtain ⟨m, hm⟩ : ∃ m : Nat, m = min n 10 := ⟨_, rfl⟩
  have hmi : (if (10 : Int) < (n : Int) then (10 : Int) else (n : Int)) = (m : Int) := by split <;> omega
  have hm10 : m ≤ 10 := by omega
  have hmn : m ≤ n := by omega
  have HM := Lib.hid (show m = n ∨ m = 10 by omega)
  have hmj : (min (n : Int) 10) = (m : Int) := by omega
  clear hm
  go_enter Try.func14, Try.ntmps14
  go_wp2
  go_step3
  go_wp2
  go_step3
  go_wp2
  go_loop [3, 8] (fun sv ix => ∃ (v j : Nat), sv = .int .u64 (v : Int) ∧ ix = .int .i64 (j : Int) ∧ j ≤ m ∧ v < 18446744073709551616 ∧ Hid (v = Var.val (b.take j) % 18446744073709551616 ∧ ∀ x ∈ b.take j, 128 ≤ x)) (fun _ ix => m - (intOf ix).toNat)
  case atStart => exact ⟨0, 0, rfl, rfl, Nat.zero_le _, by omega, rfl, by simp⟩
  case round =>
    obtain ⟨v, j, rfl, rfl, hj, hv, HV⟩ := hrel
    by_cases hlt : j < m
    · obtain ⟨b1, o1, rfl, _, hc1⟩ := HS.out.at (by omega)
      have hx1 := hc1 j (by omega)
      have hvt := Var.val_take (l := b) (i := j) (by rw [HL.out]; omega)
      have hwf := bounds_u8 (HS.out.2.2.2.1 _ (vgetD_mem (i := j) (by rw [HL.out]; omega)))
      obtain ⟨x, hx⟩ : ∃ x : Nat, (x : Int) = b.getD j 0 := ⟨(b.getD j 0).toNat, by omega⟩
      rw [← hx] at hx1 hvt hwf
      have hx255 : x ≤ 255 := by omega
      have hlti : (j : Int) < (m : Int) := by omega
      have hjn : (j : Int) < (n : Int) := by omega
      have HXD := Lib.hid hx
      have HVT := Lib.hid (shl_fact (x := x) (j := j) (N := Var.val (b.take (j + 1))) HV.out.1 (by rw [hvt]; rfl))
      have hvb : Var.val (b.take (j + 1)) % 18446744073709551616 < 18446744073709551616 := Nat.mod_lt _ (by omega)
      have HVB := Lib.hid hvb
      clear hc1 hwf hx hvt hvb
      by_cases h128 : x < 128
      · have hb : (x : Int) < 128 := by omega
        have hfin : Var.num b = Var.val (b.take (j + 1)) % 18446744073709551616 := Var.take_at HV.out.2 (by rw [HL.out]; omega) (by rw [← HXD.out]; exact hb) (by omega)
        have HF := Lib.hid hfin
        clear hfin
        go_wp2
        try rw [Exit.noGoto_ret]
        go_ret
        exact ⟨by rw [HF.out, ← HVT.out]; rfl, rfl⟩
      · have hb : ¬ (x : Int) < 128 := by omega
        have HT := Lib.hid (take_more HV.out.2 (by rw [HL.out]; omega) (by rw [← HXD.out]; omega))
        go_wp2
        go_round
        case rel => exact ⟨Var.val (b.take (j + 1)) % 18446744073709551616, j + 1, by rw [← HVT.out], by go_num, by omega, HVB.out, rfl, HT.out⟩
        case measure => simp [intOf]; omega
    · obtain rfl : j = m := by omega
      have hfin : Var.num b = v := by
        rw [num_end HV.out.2 hm10 (by rw [HL.out]; exact HM.out)]
        exact HV.out.1.symm
      have HF := Lib.hid hfin
      clear hfin
      go_wp2
      try rw [Exit.noGoto_ret]
      go_ret
      exact ⟨by rw [HF.out]; rfl, rfl⟩

end Go.Proofs.Ytlpgnolibpfhpaa
