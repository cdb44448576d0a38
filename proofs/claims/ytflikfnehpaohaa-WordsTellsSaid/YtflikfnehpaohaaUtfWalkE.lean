/- utf.Take answers the sign that bytes begin with, and how many are its own, or ErrUtf; it reads alone. -/
import Derived.Test.YtflikfnehpaohaaUtfWalkD
import Derived.Test.YtflikfnehpaohaaUtfTakeMath
namespace Go.Proofs.Ytflikfnehpaohaa
open Go.RowKit

def takeV : Option (Int × Nat) → Value
  | some (n, k) => .tuple #[.int .i64 n, .int .i64 k, .int .i64 0]
  | none => .tuple #[.int .i64 0, .int .i64 0, .int .i64 10]

set_option maxRecDepth 100000 in
theorem u8_andNot63 (x : Int) (h0 : 0 ≤ x) (h1 : x < 256) : bits .andNot .u8 x 63 = x - x % 64 := by
  rw [u8_andNot x 63 h0 h1 (by decide) (by decide)]
  obtain ⟨n, rfl⟩ := Int.eq_ofNat_of_zero_le h0
  have : n < 256 := by omega
  have h : ∀ m : Fin 256, (m.1 &&& 192) = m.1 - m.1 % 64 := by decide +kernel
  have := h ⟨n, this⟩
  simp only at this
  show (((n : Int).toNat &&& 192 : Nat) : Int) = _
  rw [show ((n : Int)).toNat = n from rfl, this]
  omega
set_option maxRecDepth 100000 in
theorem u8_and63 (x : Int) (h0 : 0 ≤ x) (h1 : x < 256) : bits .and .u8 x 63 = x % 64 := by
  rw [u8_and x 63 h0 h1 (by decide) (by decide)]
  obtain ⟨n, rfl⟩ := Int.eq_ofNat_of_zero_le h0
  show (((n : Int).toNat &&& 63 : Nat) : Int) = _
  rw [nat_mask6]; omega
set_option maxRecDepth 100000 in
theorem i32_or64 (x y : Int) (h0 : 0 ≤ x) (h1 : x < 32768) (h2 : 0 ≤ y) (h3 : y < 64) : bits .or .i32 (x * 64) y = x * 64 + y := by
  obtain ⟨n, rfl⟩ := Int.eq_ofNat_of_zero_le h0
  obtain ⟨m, rfl⟩ := Int.eq_ofNat_of_zero_le h2
  show IntKind.i32.wrap ((BitVec.ofInt 32 ((n : Int) * 64) ||| BitVec.ofInt 32 (m : Int)).toNat : Int) = _
  rw [show ((n : Int) * 64) = ((n * 64 : Nat) : Int) from by omega, BitVec.toNat_or, ofInt_u32 _ (by omega), ofInt_u32 m (by omega), nat_join 6 _ _ (by omega) (by omega), i32_wrap _ (by omega) (by omega)]
  omega

set_option maxRecDepth 100000 in
theorem take_nil (a : Option Addr) (cap : Nat) (w : World) :
    Calls Try.prog 45 #[.slice a 0 cap] w fun e w' => e = .returned (takeV none) ∧ ∃ m, w' = w.drewN m := by
  go_enter Try.func45, Try.ntmps45
  go_wp2
  go_ret3
  exact ⟨rfl, 0, rfl⟩

set_option maxRecDepth 100000 in
set_option maxHeartbeats 1000000 in
theorem take_some (b off n cap : Nat) (c : Int) (rest : List Int) (w : World) (hs : Sl .u8 w (some ⟨b, off, none⟩) n cap (c :: rest)) :
    Calls Try.prog 45 #[.slice (some ⟨b, off, none⟩) n cap] w fun e w' => e = .returned (takeV (Utf.takeL (c :: rest))) ∧ ∃ m, w' = w.drewN m := by
  obtain ⟨hlen, hnc, hcm, hwf, hcell⟩ := hs
  have hn : 0 < n := by simp at hlen; omega
  have hcc : ∀ i, i < n → w.cell? ⟨b, off + i, none⟩ = some (.int .u8 ((c :: rest).getD i 0)) := by
    obtain h0 | ⟨b', off', ha, hcc⟩ := hcell
    · omega
    · simp only [Option.some.injEq, Addr.mk.injEq] at ha; obtain ⟨rfl, rfl, _⟩ := ha; exact hcc
  clear hcell
  have hc0 : w.cell? ⟨b, off, none⟩ = some (.int .u8 c) := by have := hcc 0 hn; simpa using this
  have hcb : 0 ≤ c ∧ c ≤ 255 := bounds_u8 (hwf c (by simp))
  unfold maxLen at hcm
  by_cases hbad : Utf.byHead c = 0 ∨ n < Utf.byHead c
  · have ht : Utf.takeL (c :: rest) = none := by
      unfold Utf.takeL
      simp only
      rw [if_pos (by rw [hlen]; exact hbad)]
    rw [ht]
    have HC := Lib.hid hcc
    clear hcc hwf hlen ht
    rcases hbad with h | h
    · go_enter Try.func45, Try.ntmps45
      go_wp2_with (go_at_call 63; refine (sizeByHead_any _ _).mono ?_; rintro e w' ⟨rfl, rfl⟩)
      go_ret3
      exact ⟨rfl, 0, rfl⟩
    · have h1 : ((Utf.byHead c : Int) == 0) = false := by simp; omega
      have h2 : (n : Int) < (Utf.byHead c : Int) := by omega
      clear h
      go_enter Try.func45, Try.ntmps45
      go_wp2_with (go_at_call 63; refine (sizeByHead_any _ _).mono ?_; rintro e w' ⟨rfl, rfl⟩)
      go_ret3
      exact ⟨rfl, 0, rfl⟩
  · have hk1 : 1 ≤ Utf.byHead c := by omega
    have hkn : Utf.byHead c ≤ n := by omega
    have hk4 := Utf.byHead_le c
    have h1 : ((Utf.byHead c : Int) == 0) = false := by simp; omega
    have h2 : (Utf.byHead c : Int) ≤ (n : Int) := by omega
    obtain ⟨s0, hs0⟩ : ∃ s0, s0 = Utf.acc c (Utf.byHead c) [] := ⟨_, rfl⟩
    have hsb := Utf.acc_bound c (Utf.byHead c) [] hcb.1 rfl (by omega) (by simp; omega)
    rw [← hs0] at hsb
    have hs0b : 0 ≤ s0 := hsb.1
    have hs1b : s0 ≤ 255 := by rw [hs0]; simp [Utf.acc, Utf.mark]; split <;> (try split) <;> (try split) <;> omega
    have hw0 : IntKind.u8.wrap (c - Utf.mark (Utf.byHead c)) = s0 := by
      have e : c - Utf.mark (Utf.byHead c) = s0 := by rw [hs0]; simp [Utf.acc]
      rw [e, IntKind.wrap_u8']; omega
    have HS := Lib.hid hs0
    have HC := Lib.hid hcc
    have HL := Lib.hid hlen
    have HB := Lib.hid hbad
    clear hs0 hcc hlen hsb hbad
    have hsplit : cap = 1 ∨ ¬ cap = 1 := by omega
    rcases hsplit with rfl | hcap
    · skip
      go_enter Try.func45, Try.ntmps45
      go_wp2_with (go_at_call 63; refine (sizeByHead_any _ _).mono ?_; rintro e w' ⟨rfl, rfl⟩)
      go_quiet ((go_at_call 64; exact Calls.quiet_of_same ((headMark_any _ _).mono fun _ _ h => ⟨h.1, h.2.symm⟩)))
      go_wp2
      clear hw0
      go_loop [6, 35] (fun sg ix => ∃ j : Nat, ∃ sj : Int, j ≤ Utf.byHead c - 1 ∧ ix = .int .i64 (j : Int) ∧ sg = .int .i32 sj ∧ Hid (sj = Utf.acc c (Utf.byHead c) (rest.take j)) ∧ Hid ((rest.take j).all Utf.tail = true)) (fun _ ix => Utf.byHead c - (intOf ix).toNat)
      case atStart => exact ⟨0, s0, Nat.zero_le _, rfl, rfl, HS, rfl⟩
      case round =>
        obtain ⟨j, sj, hj, rfl, rfl, HJ, HT⟩ := hrel
        have hrl : (c :: rest).length = n := HL.out
        have hlt2 : (rest.take j).length ≤ j := List.length_take_le _ _
        have hjb := Utf.acc_bound c (Utf.byHead c) (rest.take j) hcb.1 rfl (by omega) (by omega)
        rw [← HJ.out] at hjb
        obtain ⟨hj0, hj1, hj2⟩ := hjb
        have HJ2 := Lib.hid hj2
        clear hj2
        · obtain rfl : j = Utf.byHead c - 1 := by omega
          clear hlt2 hrl
          by_cases hg : Utf.good sj = true
          · by_cases hz : Utf.size sj = Utf.byHead c
            · have hz1 : ((Utf.size sj : Int) == (Utf.byHead c : Int)) = true := by simp [hz]
              have hz2 : ((Utf.size sj : Int) != (Utf.byHead c : Int)) = false := by simp [hz]
              have hfin : Utf.takeL (c :: rest) = some (sj, Utf.byHead c) := by
                rw [HJ.out]
                exact Utf.takeL_good c rest (by rw [HL.out]; exact HB.out) HT.out (by rw [← HJ.out]; exact ⟨hg, hz⟩)
              have HF := Lib.hid hfin
              clear hz hfin
              go_wp2_with (first
                | (go_at_call 55; refine (good_any _ _ (by omega) (by omega)).mono ?_; rintro e w' ⟨rfl, rfl⟩)
                | (go_at_call 65; refine (sizeOf_any _ _).mono ?_; rintro e w' ⟨rfl, rfl⟩))
              go_ret3
              exact ⟨by rw [HF.out]; rfl, nq, rfl⟩
            · have hz1 : ((Utf.size sj : Int) == (Utf.byHead c : Int)) = false := by simp; omega
              have hz2 : ((Utf.size sj : Int) != (Utf.byHead c : Int)) = true := by simp; omega
              have hfin : Utf.takeL (c :: rest) = none := Utf.takeL_bad c rest (by rw [← HJ.out]; exact fun h => hz h.2)
              have HF := Lib.hid hfin
              clear hz hfin
              go_wp2_with (first
                | (go_at_call 55; refine (good_any _ _ (by omega) (by omega)).mono ?_; rintro e w' ⟨rfl, rfl⟩)
                | (go_at_call 65; refine (sizeOf_any _ _).mono ?_; rintro e w' ⟨rfl, rfl⟩))
              go_ret3
              exact ⟨by rw [HF.out]; rfl, nq, rfl⟩
          · have hgf : Utf.good sj = false := by simpa using hg
            have hfin : Utf.takeL (c :: rest) = none := Utf.takeL_bad c rest (by rw [← HJ.out]; exact fun h => hg h.1)
            have HF := Lib.hid hfin
            clear hg hfin
            go_wp2_with (first
              | (go_at_call 55; refine (good_any _ _ (by omega) (by omega)).mono ?_; rintro e w' ⟨rfl, rfl⟩)
              | (go_at_call 65; refine (sizeOf_any _ _).mono ?_; rintro e w' ⟨rfl, rfl⟩))
            go_ret3
            exact ⟨by rw [HF.out]; rfl, nq, rfl⟩
    · skip
      go_enter Try.func45, Try.ntmps45
      go_wp2_with (go_at_call 63; refine (sizeByHead_any _ _).mono ?_; rintro e w' ⟨rfl, rfl⟩)
      go_quiet ((go_at_call 64; exact Calls.quiet_of_same ((headMark_any _ _).mono fun _ _ h => ⟨h.1, h.2.symm⟩)))
      go_wp2
      clear hw0
      go_loop [6, 35] (fun sg ix => ∃ j : Nat, ∃ sj : Int, j ≤ Utf.byHead c - 1 ∧ ix = .int .i64 (j : Int) ∧ sg = .int .i32 sj ∧ Hid (sj = Utf.acc c (Utf.byHead c) (rest.take j)) ∧ Hid ((rest.take j).all Utf.tail = true)) (fun _ ix => Utf.byHead c - (intOf ix).toNat)
      case atStart => exact ⟨0, s0, Nat.zero_le _, rfl, rfl, HS, rfl⟩
      case round =>
        obtain ⟨j, sj, hj, rfl, rfl, HJ, HT⟩ := hrel
        have hrl : (c :: rest).length = n := HL.out
        have hlt2 : (rest.take j).length ≤ j := List.length_take_le _ _
        have hjb := Utf.acc_bound c (Utf.byHead c) (rest.take j) hcb.1 rfl (by omega) (by omega)
        rw [← HJ.out] at hjb
        obtain ⟨hj0, hj1, hj2⟩ := hjb
        have HJ2 := Lib.hid hj2
        clear hj2
        by_cases hlt : j < Utf.byHead c - 1
        · obtain ⟨d, hd⟩ : ∃ d, d = rest.getD j 0 := ⟨_, rfl⟩
          have hjr : j < rest.length := by simp at hrl; omega
          have hcd : w.cell? ⟨b, off + 1 + j, none⟩ = some (.int .u8 d) := by
            have := HC.out (1 + j) (by omega)
            rw [← Nat.add_assoc] at this
            rw [this, hd, Nat.add_comm 1 j]
            simp
          have hdb : 0 ≤ d ∧ d ≤ 255 := by rw [hd]; exact bounds_u8 (hwf _ (by simp [hjr]))
          obtain ⟨hd0, hd1⟩ := hdb
          have hd63 : bits .andNot .u8 d 63 = d - d % 64 := u8_andNot63 d hd0 (by omega)
          have hd64 : bits .and .u8 d 63 = d % 64 := u8_and63 d hd0 (by omega)
          obtain ⟨m, hm⟩ : ∃ m, m = d % 64 := ⟨_, rfl⟩
          have hm0 : 0 ≤ m := by omega
          have hm1 : m < 64 := by omega
          rw [← hm] at hd64
          have hjb3 : sj < 32768 := HJ2.out (by simp; omega)
          have hor : bits .or .i32 (sj * 64) m = sj * 64 + m := i32_or64 sj m hj0 hjb3 hm0 hm1
          have HD := Lib.hid hd
          have HM := Lib.hid hm
          clear hd hm hlt2 hrl
          by_cases htl : Utf.tail d = true
          · have htd := (Utf.tail_iff d).1 htl
            have hx : bits .andNot .u8 d 63 = 128 := by rw [hd63]; omega
            have HTL := Lib.hid htl
            clear hd63 htd htl
            go_wp2
            have e1 : rest.take (j + 1) = rest.take j ++ [d] := by rw [List.take_succ_eq_append_getElem hjr, HD.out]; simp [hjr]
            have e2 : sj * 64 + m = Utf.acc c (Utf.byHead c) (rest.take (j + 1)) := by rw [e1, Utf.acc_snoc, ← HJ.out, HM.out]
            have e3 : (rest.take (j + 1)).all Utf.tail = true := by rw [e1, List.all_append, HT.out]; simp [HTL.out]
            have E2 := Lib.hid e2
            clear e1 e2
            go_round
            case rel => exact ⟨j + 1, sj * 64 + m, by omega, by go_num, rfl, E2, e3⟩
            case measure => simp [intOf]; omega
          · have hnt : Utf.tail d = false := by simpa using htl
            have hx : ∃ q, bits .andNot .u8 d 63 = q ∧ ¬ q = 128 := ⟨_, hd63, by intro h; exact htl ((Utf.tail_iff d).2 (by omega))⟩
            obtain ⟨q, hx1, hx2⟩ := hx
            have hx3 : (q == 128) = false := by simpa using hx2
            have hx4 : (q != 128) = true := by simpa using hx2
            have hfin : Utf.takeL (c :: rest) = none := Utf.takeL_tail c rest j hlt hjr (by rw [← HD.out]; exact hnt)
            have HF := Lib.hid hfin
            clear hd63 hnt htl hfin
            go_wp2
            go_ret3
            exact ⟨by rw [HF.out]; rfl, nq, rfl⟩
        · obtain rfl : j = Utf.byHead c - 1 := by omega
          clear hlt2 hrl
          by_cases hg : Utf.good sj = true
          · by_cases hz : Utf.size sj = Utf.byHead c
            · have hz1 : ((Utf.size sj : Int) == (Utf.byHead c : Int)) = true := by simp [hz]
              have hz2 : ((Utf.size sj : Int) != (Utf.byHead c : Int)) = false := by simp [hz]
              have hfin : Utf.takeL (c :: rest) = some (sj, Utf.byHead c) := by
                rw [HJ.out]
                exact Utf.takeL_good c rest (by rw [HL.out]; exact HB.out) HT.out (by rw [← HJ.out]; exact ⟨hg, hz⟩)
              have HF := Lib.hid hfin
              clear hz hfin
              go_wp2_with (first
                | (go_at_call 55; refine (good_any _ _ (by omega) (by omega)).mono ?_; rintro e w' ⟨rfl, rfl⟩)
                | (go_at_call 65; refine (sizeOf_any _ _).mono ?_; rintro e w' ⟨rfl, rfl⟩))
              go_ret3
              exact ⟨by rw [HF.out]; rfl, nq, rfl⟩
            · have hz1 : ((Utf.size sj : Int) == (Utf.byHead c : Int)) = false := by simp; omega
              have hz2 : ((Utf.size sj : Int) != (Utf.byHead c : Int)) = true := by simp; omega
              have hfin : Utf.takeL (c :: rest) = none := Utf.takeL_bad c rest (by rw [← HJ.out]; exact fun h => hz h.2)
              have HF := Lib.hid hfin
              clear hz hfin
              go_wp2_with (first
                | (go_at_call 55; refine (good_any _ _ (by omega) (by omega)).mono ?_; rintro e w' ⟨rfl, rfl⟩)
                | (go_at_call 65; refine (sizeOf_any _ _).mono ?_; rintro e w' ⟨rfl, rfl⟩))
              go_ret3
              exact ⟨by rw [HF.out]; rfl, nq, rfl⟩
          · have hgf : Utf.good sj = false := by simpa using hg
            have hfin : Utf.takeL (c :: rest) = none := Utf.takeL_bad c rest (by rw [← HJ.out]; exact fun h => hg h.1)
            have HF := Lib.hid hfin
            clear hg hfin
            go_wp2_with (first
              | (go_at_call 55; refine (good_any _ _ (by omega) (by omega)).mono ?_; rintro e w' ⟨rfl, rfl⟩)
              | (go_at_call 65; refine (sizeOf_any _ _).mono ?_; rintro e w' ⟨rfl, rfl⟩))
            go_ret3
            exact ⟨by rw [HF.out]; rfl, nq, rfl⟩

end Go.Proofs.Ytflikfnehpaohaa
