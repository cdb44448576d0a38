/- The document's own Take: one to four bytes are tried. -/
import Derived.Test.YtflikfnehpaohaaGenStr
import Derived.Test.YtflikfnehpaohaaUtfWalkE
import Derived.Laws.BytesArg
namespace Go.Proofs.Ytflikfnehpaohaa
open Go.RowKit

set_option maxRecDepth 100000 in
set_option maxHeartbeats 800000 in
theorem number_any (b off n cap k : Nat) (c : Int) (rest : List Int) (w : World) (hs : Sl .u8 w (some ⟨b, off, none⟩) n cap (c :: rest)) (hk1 : 1 ≤ k) (hk4 : k ≤ 4) (hkn : k ≤ n) :
    Calls Try.prog 72 #[.slice (some ⟨b, off, none⟩) n cap, .int .i64 k] w fun e w' => e = .returned (.int .i64 (Utf.num c k (rest.take (k - 1)))) ∧ w = w' := by
  obtain ⟨hlen, hnc, hcm, hwf, hcell⟩ := hs
  have hcc : ∀ i, i < n → w.cell? ⟨b, off + i, none⟩ = some (.int .u8 ((c :: rest).getD i 0)) := by
    obtain h0 | ⟨b', off', ha, hcc⟩ := hcell
    · omega
    · simp only [Option.some.injEq, Addr.mk.injEq] at ha; obtain ⟨rfl, rfl, _⟩ := ha; exact hcc
  clear hcell
  have hc0 : w.cell? ⟨b, off, none⟩ = some (.int .u8 c) := by have := hcc 0 (by omega); simpa using this
  have hcb : 0 ≤ c ∧ c ≤ 255 := bounds_u8 (hwf c (by simp))
  obtain ⟨hcb0, hcb1⟩ := hcb
  unfold maxLen at hcm
  have HC := Lib.hid hcc
  have HL := Lib.hid hlen
  clear hcc hlen
  have hcases : k = 1 ∨ k = 2 ∨ k = 3 ∨ k = 4 := by omega
  obtain ⟨k', hk'⟩ : ∃ k', k' = k := ⟨_, rfl⟩
  have HK := Lib.hid hk'
  rw [← hk'] at hk1 hk4 hkn
  rcases hcases with rfl | rfl | rfl | rfl
  all_goals (
    clear hk'
    go_enter Try.func72, Try.ntmps72
    go_wp2
    go_loop [5, 6] (fun ou ix => ∃ j : Nat, ∃ s : Int, j + 1 ≤ k' ∧ ix = .int .i64 ((j : Int) + 1) ∧ ou = .int .i64 s ∧ Hid (s = Utf.num c k' (rest.take j))) (fun _ ix => 5 - (intOf ix).toNat)
    case atStart => exact ⟨0, _, by omega, rfl, rfl, by rw [HK.out]; rfl⟩
    case round =>
      obtain ⟨j, s, hj, rfl, rfl, HJ⟩ := hrel
      have hjb := Utf.num_bound c k' (rest.take j) hcb0 hcb1 (by have := List.length_take_le j rest; omega)
      rw [← HJ.out] at hjb
      obtain ⟨hs0, hs1⟩ := hjb
      have hkk := HK.out
      by_cases hlt : j + 1 < k'
      · obtain ⟨d, hd⟩ : ∃ d, d = rest.getD j 0 := ⟨_, rfl⟩
        have hjr : j < rest.length := by have := HL.out; simp at this; omega
        have hcd : w.cell? ⟨b, off + (j + 1), none⟩ = some (.int .u8 d) := by
          rw [HC.out (j + 1) (by omega), hd]; simp
        have hdb : 0 ≤ d ∧ d ≤ 255 := by rw [hd]; exact bounds_u8 (hwf _ (by simp [hjr]))
        obtain ⟨hd0, hd1⟩ := hdb
        have HD := Lib.hid hd
        clear hd
        have hlt2 : j + 2 ≤ k' := hlt
        rw [hkk] at hlt
        clear hkk
        go_wp2
        all_goals (
          have e1 : rest.take (j + 1) = rest.take j ++ [d] := by rw [List.take_succ_eq_append_getElem hjr, HD.out]; simp [hjr]
          have e2 : s * 64 + d % 64 = Utf.num c k' (rest.take (j + 1)) := by rw [e1, Utf.num_snoc, ← HJ.out]
          have E2 := Lib.hid e2
          clear e1 e2
          go_round
          case rel => exact ⟨j + 1, s * 64 + d % 64, by omega, by go_num, rfl, E2⟩
          case measure => simp [intOf]; omega)
      · obtain rfl : k' = j + 1 := by omega
        clear hlt
        go_wp2
        go_ret
        refine ⟨ret_i64 ?_, rfl⟩
        rw [HJ.out]
        simp at hkk; subst hkk; rfl)

end Go.Proofs.Ytflikfnehpaohaa
