/- For every list of bytes and every two numbers CrcBack answers true, and turns nothing that was there. No condition. -/
import Derived.Test.YthblpmejkjdkcaaRows
import Derived.Test.YthblpmejkjdkcaaCrcAwake
import Derived.Deep.RegionHeld3
import Derived.WalkKit
import Derived.ProofKit
import Derived.OpenShut
import Derived.ShutString
import Derived.ChangeOld
import Derived.Below
namespace Go.Proofs.Ythblpmejkjdkcaa.crcBack
open Go.ChangeShapes Go.WideShapes Go.ChangeAt Go.RowKit
open Go.ChangeMaps (open_string shut_string)
set_option linter.unusedVariables false

theorem own : ownKnob Try.prog.godebug = none := by kernel_rfl
theorem laidOut : laidOutB Try.prog = true := by kernel_rfl

/-- WHAT THE WALK IS TOLD OF A SLICE OF INTEGERS THAT CAME IN: it is nil; or it leads to a row of 'cap' cells, the numbers 'zs' (the first 'len' are its elements, the rest its spare room), each fitting its kind. -/
def IsRow (k : IntKind) (w : World) (a : Option Addr) (len cap : Nat) (zs : List Int) : Prop :=
  (a = none ∧ len = 0 ∧ cap = 0 ∧ zs = []) ∨
  ∃ x, a = some x ∧ len ≤ cap ∧ cap ≤ maxLen ∧ zs.length = cap ∧ (∀ i, i < zs.length → w.cell? (x.add i) = some (.int k (zs.getD i 0))) ∧ ∀ n ∈ zs, (Lit.int k n).wf = true

/-- bytes of which the first i bits from f on are turned, as B says -/
def Flip (L : List Int) (f B i : Nat) (zs : List Int) : Prop := Crc.Bytes zs ∧ zs.length = L.length ∧ Crc.num zs = Crc.num L ^^^ (B % 2 ^ i * 2 ^ f)
theorem flip_none {L : List Int} (h : Crc.Bytes L) (f B : Nat) : Flip L f B 0 L := ⟨h, rfl, by simp [Nat.mod_one]⟩
theorem xor_mul (a b f : Nat) : (a ^^^ b) * 2 ^ f = (a * 2 ^ f) ^^^ (b * 2 ^ f) := by
  rw [Nat.mul_comm _ (2 ^ f), Nat.mul_comm a, Nat.mul_comm b]
  apply Nat.eq_of_testBit_eq
  intro i
  simp only [Nat.testBit_xor, Nat.testBit_two_pow_mul]
  cases decide (f ≤ i) <;> simp
theorem add_top {x i : Nat} (h : x < 2 ^ i) : x + 2 ^ i = x ^^^ 2 ^ i := by
  apply Nat.eq_of_testBit_eq
  intro j
  rw [Nat.testBit_xor, Nat.add_comm, show 2 ^ i + x = 2 ^ i * 1 + x from by omega, Nat.testBit_two_pow_mul_add _ h]
  by_cases hj : j < i
  · rw [if_pos hj, Nat.testBit_two_pow_of_ne (by omega)]; simp
  · rw [if_neg hj, Nat.testBit_lt_two_pow (Nat.lt_of_lt_of_le h (Nat.pow_le_pow_right (by decide) (by omega)))]
    by_cases he : j = i
    · subst he; simp
    · rw [Nat.testBit_two_pow_of_ne (by omega), Nat.testBit_lt_two_pow (show 1 < 2 ^ (j - i) from Nat.one_lt_two_pow (by omega))]; rfl
theorem mod_next_set {B i : Nat} (h : B / 2 ^ i % 2 = 1) : B % 2 ^ (i + 1) = B % 2 ^ i + 2 ^ i := by
  rw [Nat.pow_succ, Nat.mod_mul, h, Nat.mul_one]
theorem mod_next_same {B i : Nat} (h : ¬ B / 2 ^ i % 2 = 1) : B % 2 ^ (i + 1) = B % 2 ^ i := by
  rw [Nat.pow_succ, Nat.mod_mul, show B / 2 ^ i % 2 = 0 from by omega, Nat.mul_zero, Nat.add_zero]
theorem flip_same {L zs : List Int} {f B i : Nat} (h : Flip L f B i zs) (hb : ¬ B / 2 ^ i % 2 = 1) : Flip L f B (i + 1) zs := by
  obtain ⟨h1, h2, h3⟩ := h
  exact ⟨h1, h2, by rw [mod_next_same hb]; exact h3⟩
theorem flip_next {L zs : List Int} {f B i j r : Nat} (h : Flip L f B i zs) (hb : B / 2 ^ i % 2 = 1) (hj : j = (f + i) / 8) (hr : r = (f + i) % 8) (hl : j < zs.length) {z q : Nat} (hz : (z : Int) = zs.getD j 0) (hq : q = z ^^^ 2 ^ r) : Flip L f B (i + 1) (zs.set j (q : Int)) := by
  obtain ⟨h1, h2, h3⟩ := h
  have hr8 : 2 ^ r < 256 := Nat.pow_lt_pow_right (a := 2) (by decide) (show r < 8 by omega)
  have hzb : z < 256 := by
    have := h1 (zs.getD j 0) (by rw [show zs.getD j 0 = zs[j] from by simp [hl]]; exact List.getElem_mem hl)
    omega
  have hqb : q < 256 := by rw [hq]; exact Nat.xor_lt_two_pow (n := 8) hzb hr8
  have hf := Crc.num_flip zs j (2 ^ r) h1 hl hr8
  rw [← hz, Int.toNat_natCast, ← hq] at hf
  refine ⟨?_, by simpa using h2, ?_⟩
  · intro u hu
    rcases List.mem_or_eq_of_mem_set hu with hu | hu
    · exact h1 u hu
    · subst hu; omega
  · rw [hf, h3, mod_next_set hb, add_top (Nat.mod_lt _ (Nat.two_pow_pos i)), xor_mul, ← Nat.pow_add, ← Nat.pow_add, Nat.xor_assoc, show r + 8 * j = i + f from by omega]
theorem flip_end {L zs : List Int} {f B : Nat} (hB : B < 4294967296) (h : Flip L f B 32 zs) : Crc.num zs = Crc.num L ^^^ (B * 2 ^ f) := by
  have h3 := h.2.2
  rwa [Nat.mod_eq_of_lt (show B < 2 ^ 32 from hB)] at h3
theorem flip_opn {b zs : List Int} {f B n : Nat} (hb : Crc.Bytes b) (hB : B < 4294967296) (hn : (Crc.lock b).length = n) (h4 : 4 ≤ n) (hf : f ≤ 8 * n) (h : Flip (Crc.lock b) f B 32 zs) : (Crc.opn zs).isSome = decide (B = 0) :=
  Crc.flip_seen (Crc.lock_bytes hb) h.1 h.2.1 (by rw [hn]; exact h4) (Crc.raw_lock hb) hB (by rw [hn]; exact hf) (flip_end hB h)
theorem owns_some {w : World} {B : Nat} {T : TypeId} {a : Option Addr} {n c : Nat} {l : List Value} (h : w.ownsRow B T 1 (.slice a n c) n l) (hn : 0 < n) : ∃ g, a = some ⟨g, 0, none⟩ ∧ B ≤ g := by
  rcases h.2 with ⟨_, h0⟩ | ⟨g, cap, cur, hv, hg, _⟩
  · omega
  · cases hv; exact ⟨g, rfl, hg⟩

/-! ### STEP 1: THE WALK: the Go text returns true, AND WRITES NOTHING THAT WAS THERE: 'Below w.heap.size w w'' (Derived/Below.lean: '.refl', '.alloc', '.drew', '.setCell' at a new block, '.trans'). Open each 'IsRow' by 'rcases' AHEAD of 'go_enter'; part every test ahead of the walk. -/
set_option maxRecDepth 100000 in
set_option maxHeartbeats 6000000 in
theorem walk (a0 : Option Addr) (len0 cap0 : Nat) (z0 : List Int) (a1 : Int) (a2 : Int) (w : World) (w0 : IsRow .u8 w a0 len0 cap0 z0) (w1 : (Lit.int .u16 a1).wf = true) (w2 : (Lit.int .u32 a2).wf = true) :
    Calls Try.prog 4 #[.slice a0 len0 cap0, .int .u16 a1, .int .u32 a2] w fun e w' => e = .returned (.bool true) ∧ Below w.heap.size w w' := by
  have hn00 : a0 = none → cap0 = 0 := by
    rcases w0 with ⟨_, _, h, _⟩ | ⟨x, h, _⟩
    · exact fun _ => h
    · intro h'; rw [h] at h'; cases h'
  have HN0 := Lib.hid hn00
  clear hn00
  have hs0 := Sl.of_row w0
  generalize z0.take len0 = b at hs0
  have hcm0 := hs0.2.2.1
  have hnc0 := hs0.2.1
  unfold maxLen at hcm0
  have HS := Lib.hid hs0
  clear hs0 w0
  obtain ⟨hu0, hu1⟩ := bounds_u16 w1
  obtain ⟨u, rfl⟩ : ∃ u : Nat, a1 = (u : Int) := ⟨a1.toNat, by omega⟩
  obtain ⟨hv0, hv1⟩ := bounds_u32 w2
  obtain ⟨B, rfl⟩ : ∃ B : Nat, a2 = (B : Int) := ⟨a2.toNat, by omega⟩
  clear w1 w2
  by_cases g0 : 1000 < len0
  · have hi0 : (1000 : Int) < (len0 : Int) := by omega
    go_enter Try.func4, Try.ntmps4
    go_wp2_with fail
    refine (awake_any _).mono ?_
    rintro e w1 ⟨rfl, B1⟩
    go_wp2
    go_ret
    exact ⟨rfl, B1⟩
  have hi0 : ¬ (1000 : Int) < (len0 : Int) := by omega
  have hmx : Try.prog.follows .mixedOrders = true := by kernel_rfl
  have hB9 : B < 4294967296 := by omega
  have HBY := Lib.hid HS.out.bytes
  obtain ⟨L, hL⟩ : ∃ L, L = Crc.lock b := ⟨_, rfl⟩
  obtain ⟨N, hN⟩ : ∃ N, N = len0 + 4 := ⟨_, rfl⟩
  have HLB : Hid (Crc.Bytes L) := by rw [hL]; exact Crc.lock_bytes HBY.out
  have HLN : Hid (L.length = N) := by show _ = _; rw [hL, Crc.lock_length, HS.out.1, hN]
  have HNL : Hid (∀ zs f, f ≤ 8 * N → Flip L f B 32 zs → (Crc.opn zs).isSome = decide (B = 0)) := by
    intro zs f hf h
    rw [hL] at h
    exact flip_opn HBY.out hB9 (by rw [← hL]; exact HLN.out) (by omega) hf h
  have HSEAL : Hid (∀ w, Sl .u8 w a0 len0 cap0 b → Calls Try.prog 12 #[.slice a0 len0 cap0] w fun e w' => MadeB w w' e L) := by
    intro w h; rw [hL]; exact cseal_is _ _ _ _ w h (by omega)
  have HOPL : Hid (Crc.opn L = some b) := by rw [hL]; exact Crc.opn_lock b
  have hN4 : 4 ≤ N := by omega
  have hN9 : N ≤ 1004 := by omega
  have hN4i : ¬ (N : Int) < 4 := by omega
  have hlen : len0 ≤ 1000 := by omega
  clear hL hN
  obtain ⟨M, hM⟩ : ∃ M : Nat, 8 * (N : Int) - 31 = (M : Int) := ⟨8 * N - 31, by omega⟩
  have hM1 : 1 ≤ M := by omega
  have hMi0 : ((M : Int) == 0) = false := by simp; omega
  have hMi1 : ¬ (M : Int) = 0 := by omega
  obtain ⟨f, hf⟩ : ∃ f, f = u % M := ⟨_, rfl⟩
  have hfM : f < M := by rw [hf]; exact Nat.mod_lt _ (by omega)
  have hf1 : (u : Int) % (M : Int) = (f : Int) := by rw [hf]; simp
  have hf2 : (u : Int).tmod (M : Int) = (f : Int) := by rw [Int.tmod_eq_emod_of_nonneg (by omega)]; exact hf1
  have hf8 : f + 31 < 8 * N := by omega
  obtain ⟨S, hS⟩ : ∃ S, S = strOfNums b := ⟨_, rfl⟩
  have HSD := Lib.hid hS
  have hss : (S.toList == S.toList) = true := by simp
  clear hf hS
  cases hr : Crc.opn b with
  | none =>
    have HR := Lib.hid hr
    clear hr
    go_enter Try.func4, Try.ntmps4
    go_wp2_with fail
    refine (awake_any _).mono ?_
    rintro e w1 ⟨rfl, B1⟩
    have S1 := Lib.hid (HS.out.below B1 (Nat.le_refl _))
    go_wp2_with fail
    refine (HSEAL.out _ S1.out).mono ?_
    intro e w2 h2
    obtain ⟨a2, n2, c2, rfl, hn2, hs2, _, hb2⟩ := h2.sl (bytes_wf HLB.out)
    obtain rfl : n2 = N := by rw [hn2]; exact HLN.out
    have L2 := Lib.hid hs2
    have S2 := Lib.hid (S1.out.below hb2 (Nat.le_refl _))
    have B2 := B1.trans (hb2.mono B1.size)
    clear h2 hn2 hs2 hb2 B1 S1
    go_wp2_with fail
    refine (copen_is _ _ _ L _ L2.out (by omega)).mono ?_
    rintro e w3 ⟨h3, hb3⟩
    obtain ⟨a3, n3, c3, rfl, hs3⟩ := h3.some HOPL.out
    have X3 := Lib.hid hs3
    have L3 := Lib.hid (L2.out.below hb3 (Nat.le_refl _))
    have S3 := Lib.hid (S2.out.below hb3 (Nat.le_refl _))
    have B3 := B2.trans (hb3.mono B2.size)
    clear h3 hs3 hb3 B2 S2 L2
    go_wp2_with fail
    refine (copen_is _ _ _ b _ S3.out (by omega)).mono ?_
    rintro e w4 ⟨h4, hb4⟩
    obtain rfl := h4.none HR.out
    have X4 := Lib.hid (X3.out.below hb4 (Nat.le_refl _))
    have L4 := Lib.hid (L3.out.below hb4 (Nat.le_refl _))
    have S4 := Lib.hid (S3.out.below hb4 (Nat.le_refl _))
    have B4 := Lib.hid (B3.trans (hb4.mono B3.size))
    have HMD : Hid ((w4.alloc (.cells #[] 5)).ownsRow w4.heap.size 5 1 (.slice (some ⟨w4.heap.size, 0, none⟩) 0 0) 0 (u8s [])) := World.ownsRow_made w4 #[] 0 (Nat.le_refl _) (Nat.zero_le _) rfl
    clear h4 hb4 B3 S3 L3 X3
    go_wp2_with (at_builtin; refine append_bytes (by rfl) (.tmp 39) (.tmp 40) (by rfl) w4.heap.size _ 0 [] (by rfl) HMD.out a2 n2 c2 L (by rfl) (L4.out.alloc _) n2 (by omega) (by omega) (by simp) ?_; intro a5 c5 w5 hown5 hb5 hnil5; have HO5 : Hid (w5.ownsRow w4.heap.size 5 1 (.slice a5 n2 c5) n2 (u8s L)) := (by show World.ownsRow _ _ _ _ _ _ _; simpa using hown5); have HB5 : Hid (Below w4.heap.size w4 w5) := ((Below.refl w4.heap.size w4).alloc (Nat.le_refl _) _).trans hb5; clear hown5 hb5 hnil5)
    obtain ⟨g, rfl, hg⟩ := owns_some HO5.out (by omega)
    have HG := Lib.hid hg
    clear hg HMD
    go_loopw [15] (fun ix wr => ∃ (i : Nat) (zs : List Int), ix = .int .i64 (i : Int) ∧ i ≤ 32 ∧ Hid (Flip L f B i zs) ∧ Hid (wr.ownsRow w4.heap.size 5 1 (.slice (some ⟨g, 0, none⟩) n2 c5) n2 (u8s zs)) ∧ Hid (Below w4.heap.size w4 wr)) (fun ix _ => 32 - (intOf ix).toNat)
    case atStart => exact ⟨0, L, rfl, by omega, flip_none HLB.out f B, HO5.out, HB5.out⟩
    case round =>
      obtain ⟨i, zs, rfl, hi, HF, HOW, HBW⟩ := hrel
      by_cases hi32 : i < 32
      · have hi32i : (i : Int) < 32 := by omega
        have HLZ : Hid (zs.length = n2) := by show _ = _; rw [HF.out.2.1, HLN.out]
        obtain ⟨Q, hQ⟩ : ∃ Q, Q = B / 2 ^ i := ⟨_, rfl⟩
        have hQi : (B : Int) / 2 ^ i = (Q : Int) := by rw [hQ]; simp
        by_cases hb : Q % 2 = 1
        · have hq1 : (Q : Int) % 2 = 1 := by omega
          have hq2 : (Q : Int).tmod 2 = 1 := by rw [Int.tmod_eq_emod_of_nonneg (by omega)]; exact hq1
          have hjl : (f + i) / 8 < n2 := by omega
          have HSLZ := Lib.hid (Sl.of_owns (k := .u8) HOW.out (bytes_wf HF.out.1) HLZ.out)
          obtain ⟨z, hz, hz256⟩ := HSLZ.out.byteAt hjl
          have hcell : wr.cell? ⟨g, (f + i) / 8, none⟩ = some (.int .u8 (z : Int)) := by
            rw [HOW.out.cellAt ((f + i) / 8) (by omega), hz]
            have := HLZ.out
            simp [u8s, show (f + i) / 8 < zs.length by omega]
          have hfr : wr.frozen? ⟨g, (f + i) / 8, none⟩ = false := HOW.out.frozenAt _
          have HBQ : Hid (B / 2 ^ i % 2 = 1) := by rw [← hQ]; exact hb
          have hr2 : 2 ^ ((f + i) % 8) < 256 := Nat.pow_lt_pow_right (a := 2) (by decide) (show (f + i) % 8 < 8 by omega)
          obtain ⟨q, hqd⟩ : ∃ q, q = z ^^^ 2 ^ ((f + i) % 8) := ⟨_, rfl⟩
          have hx : bits .xor .u8 (z : Int) (2 ^ ((f + i) % 8) % 256) = (q : Int) := by
            have h := u8_xor_nat z (2 ^ ((f + i) % 8)) hz256 hr2
            rw [← hqd] at h
            rw [← h]
            congr 1
            rw [Int.natCast_pow]
            have h2 : ((2 ^ ((f + i) % 8) : Nat) : Int) < 256 := by omega
            rw [Int.natCast_pow] at h2
            exact Int.emod_eq_of_lt (by exact_mod_cast Nat.zero_le (2 ^ ((f + i) % 8))) h2
          have HFN : Hid (Flip L f B (i + 1) (zs.set ((f + i) / 8) (q : Int))) := flip_next HF.out HBQ.out rfl rfl (by rw [HLZ.out]; exact hjl) hz hqd
          have HOWN := Lib.hid (owns_set HOW.out ((f + i) / 8) (q : Int))
          have HBN : Hid (Below w4.heap.size w4 (wr.setCell ⟨g, (f + i) / 8, none⟩ (.int .u8 (q : Int)))) := HBW.out.setCell (p := ⟨g, (f + i) / 8, none⟩) HG.out _
          clear hQ hb hz hqd hr2 hz256
          go_wp2
          go_roundw
          case rel => exact ⟨i + 1, _, by go_num, by omega, HFN.out, HOWN.out, HBN.out⟩
          case measure => simp [intOf]; omega
        · have hq1 : (Q : Int) % 2 = 0 := by omega
          have hq2 : (Q : Int).tmod 2 = 0 := by rw [Int.tmod_eq_emod_of_nonneg (by omega)]; exact hq1
          have HF1 : Hid (Flip L f B (i + 1) zs) := flip_same HF.out (by rw [← hQ]; exact hb)
          clear hQ hb
          go_wp2
          go_roundw
          case rel => exact ⟨i + 1, zs, by go_num, by omega, HF1.out, HOW.out, HBW.out⟩
          case measure => simp [intOf]; omega
      · obtain rfl : i = 32 := by omega
        have HLZ : Hid (zs.length = n2) := by show _ = _; rw [HF.out.2.1, HLN.out]
        have HSLZ := Lib.hid (Sl.of_owns (k := .u8) HOW.out (bytes_wf HF.out.1) HLZ.out)
        have hop := HNL.out zs f (by omega) HF.out
        have S5 := Lib.hid (S4.out.below HBW.out (Nat.le_refl _))
        have X5 := Lib.hid (X4.out.below HBW.out (Nat.le_refl _))
        have B5 := Lib.hid (B4.out.trans (HBW.out.mono B4.out.size))
        cases hc : Crc.opn zs with
        | none =>
          rw [hc] at hop
          have HRC := Lib.hid hc
          have hbz : ((B : Int) == 0) = false := by simp at hop; simp; omega
          clear hop hc
          go_wp2_with fail
          refine (copen_is _ _ _ zs _ HSLZ.out (by omega)).mono ?_
          rintro e w6 ⟨h6, hb6⟩
          obtain rfl := h6.none HRC.out
          have S6 := Lib.hid (S5.out.below hb6 (Nat.le_refl _))
          have X6 := Lib.hid (X5.out.below hb6 (Nat.le_refl _))
          have B6 := B5.out.trans (hb6.mono B5.out.size)
          have HB6 : Hid (Below w.heap.size w w6.drew) := ⟨B6.os, B6.tape, B6.output, B6.size, B6.block⟩
          have HK0 : Hid ((convert 22 9 (.slice a0 len0 cap0)).run Try.prog w6.drew = .ok (.string S) w6.drew ∧ (convert 22 9 (.slice a3 n3 c3)).run Try.prog w6.drew = .ok (.string S) w6.drew) := ⟨by rw [HSD.out]; exact S6.out.drew.str, by rw [HSD.out]; exact X6.out.drew.str⟩
          clear h6 hb6 B6
          go_wp2
          refine wp_region_held_drew (S := (fun W => (convert 22 9 (.slice a0 len0 cap0)).run Try.prog W = .ok (.string S) W ∧ (convert 22 9 (.slice a3 n3 c3)).run Try.prog W = .ok (.string S) W)) (by kernel_rfl) (by first | (exact HK0.out) | ((try dsimp only); exact HK0.out)) (fun hHeld => ?_)
          refine wpAnyH_take (i := 0) (v := ?vqb1) rfl (by kernel_rfl) (by kernel_rfl) (by kernel_rfl) (fun _ _ _ h => h) (Or.inl ⟨by rfl, ?hqb1⟩) (by assumption) ?rqb1
          case hqb1 => intro w hSw; (try dsimp only at hSw); go_simp; try with_reducible rfl
          simp only [Act.put, List.getElem_toArray, List.getElem_cons_succ, List.getElem_cons_zero, List.setIfInBounds_toArray, List.set_cons_succ, List.set_cons_zero]
          refine wpAnyH_take (i := 1) (v := ?vqb4) rfl (by kernel_rfl) (by kernel_rfl) (by kernel_rfl) (fun _ _ _ h => h) (Or.inl ⟨by rfl, ?hqb4⟩) (by assumption) ?rqb4
          case hqb4 => intro w hSw; (try dsimp only at hSw); go_simp; try with_reducible rfl
          simp only [Act.put, List.getElem_toArray, List.getElem_cons_succ, List.getElem_cons_zero, List.setIfInBounds_toArray, List.set_cons_succ, List.set_cons_zero]
          refine wpAnyH_take (i := 2) (v := ?vqb7) rfl (by kernel_rfl) (by kernel_rfl) (by kernel_rfl) (fun _ _ _ h => h) (Or.inl ⟨by rfl, ?hqb7⟩) (by assumption) ?rqb7
          case hqb7 => intro w hSw; (try dsimp only at hSw); go_simp; try with_reducible rfl
          simp only [Act.put, List.getElem_toArray, List.getElem_cons_succ, List.getElem_cons_zero, List.setIfInBounds_toArray, List.set_cons_succ, List.set_cons_zero]
          refine wpAnyH_take (i := 3) (v := ?vqb10) rfl (by kernel_rfl) (by kernel_rfl) (by kernel_rfl) (fun _ _ _ h => h) (Or.inl ⟨by rfl, ?hqb10⟩) (by assumption) ?rqb10
          case hqb10 => intro w hSw; (try dsimp only at hSw); go_simp; try with_reducible rfl
          simp only [Act.put, List.getElem_toArray, List.getElem_cons_succ, List.getElem_cons_zero, List.setIfInBounds_toArray, List.set_cons_succ, List.set_cons_zero]
          refine wpAnyH_take (i := 4) (v := ?vqb13) rfl (by kernel_rfl) (by kernel_rfl) (by kernel_rfl) (fun _ _ _ h => h) (Or.inl ⟨by rfl, ?hqb13⟩) (by assumption) ?rqb13
          case hqb13 => intro w hSw; (try dsimp only at hSw); go_simp; try with_reducible rfl
          simp only [Act.put, List.getElem_toArray, List.getElem_cons_succ, List.getElem_cons_zero, List.setIfInBounds_toArray, List.set_cons_succ, List.set_cons_zero]
          refine wpAnyH_take (i := 5) (v := ?vqb16) rfl (by kernel_rfl) (by kernel_rfl) (by kernel_rfl) (fun _ _ _ h => h) (Or.inl ⟨by rfl, ?hqb16⟩) (by assumption) ?rqb16
          case hqb16 => intro w hSw; (try dsimp only at hSw); go_simp; try with_reducible rfl
          simp only [Act.put, List.getElem_toArray, List.getElem_cons_succ, List.getElem_cons_zero, List.setIfInBounds_toArray, List.set_cons_succ, List.set_cons_zero]
          refine wpAnyH_take (i := 6) (v := ?vqb19) rfl (by kernel_rfl) (by kernel_rfl) (by kernel_rfl) (fun _ _ _ h => h) (Or.inl ⟨by rfl, ?hqb19⟩) (by assumption) ?rqb19
          case hqb19 => intro w hSw; (try dsimp only at hSw); go_simp; try with_reducible rfl
          simp only [Act.put, List.getElem_toArray, List.getElem_cons_succ, List.getElem_cons_zero, List.setIfInBounds_toArray, List.set_cons_succ, List.set_cons_zero]
          refine wpAnyH_take (i := 7) (v := ?vqb22) rfl (by kernel_rfl) (by kernel_rfl) (by kernel_rfl) (fun _ _ _ h => h) (Or.inl ⟨by rfl, ?hqb22⟩) (by assumption) ?rqb22
          case hqb22 => intro w hSw; (try dsimp only at hSw); go_simp; try with_reducible rfl
          simp only [Act.put, List.getElem_toArray, List.getElem_cons_succ, List.getElem_cons_zero, List.setIfInBounds_toArray, List.set_cons_succ, List.set_cons_zero]
          refine wpAnyH_take (i := 8) (v := ?vqb25) rfl (by kernel_rfl) (by kernel_rfl) (by kernel_rfl) (fun _ _ _ h => h) (Or.inl ⟨by rfl, ?hqb25⟩) (by assumption) ?rqb25
          case hqb25 => intro w hSw; (try dsimp only at hSw); go_simp; try with_reducible rfl
          simp only [Act.put, List.getElem_toArray, List.getElem_cons_succ, List.getElem_cons_zero, List.setIfInBounds_toArray, List.set_cons_succ, List.set_cons_zero]
          refine wpAnyH_take (i := 9) (v := ?vqb28) rfl (by kernel_rfl) (by kernel_rfl) (by kernel_rfl) (fun _ _ _ h => h) (Or.inl ⟨by rfl, ?hqb28⟩) (by assumption) ?rqb28
          case hqb28 => intro w hSw; (try dsimp only at hSw); go_simp; try with_reducible rfl
          simp only [Act.put, List.getElem_toArray, List.getElem_cons_succ, List.getElem_cons_zero, List.setIfInBounds_toArray, List.set_cons_succ, List.set_cons_zero]
          refine wpAnyH_take (i := 10) (v := ?vqb31) rfl (by kernel_rfl) (by kernel_rfl) (by kernel_rfl) (fun _ _ _ h => h) (Or.inl ⟨by rfl, ?hqb31⟩) (by assumption) ?rqb31
          case hqb31 => intro w hSw; (try dsimp only at hSw); go_simp; try with_reducible rfl
          simp only [Act.put, List.getElem_toArray, List.getElem_cons_succ, List.getElem_cons_zero, List.setIfInBounds_toArray, List.set_cons_succ, List.set_cons_zero]
          refine wpAnyH_take (i := 11) (v := ?vqb34) rfl (by kernel_rfl) (by kernel_rfl) (by kernel_rfl) (fun _ _ _ h => h) (Or.inl ⟨by rfl, ?hqb34⟩) (by assumption) ?rqb34
          case hqb34 => intro w hSw; (try dsimp only at hSw); go_simp; try with_reducible rfl
          simp only [Act.put, List.getElem_toArray, List.getElem_cons_succ, List.getElem_cons_zero, List.setIfInBounds_toArray, List.set_cons_succ, List.set_cons_zero]
          refine wpAnyH_take (i := 12) (v := ?vqb37) rfl (by kernel_rfl) (by kernel_rfl) (by kernel_rfl) (fun _ _ _ h => h) (Or.inl ⟨by rfl, ?hqb37⟩) (by assumption) ?rqb37
          case hqb37 => intro w hSw; (try dsimp only at hSw); go_simp; try with_reducible rfl
          simp only [Act.put, List.getElem_toArray, List.getElem_cons_succ, List.getElem_cons_zero, List.setIfInBounds_toArray, List.set_cons_succ, List.set_cons_zero]
          refine wpAnyH_take (i := 13) (v := ?vqb40) rfl (by kernel_rfl) (by kernel_rfl) (by kernel_rfl) (fun _ _ _ h => h) (Or.inl ⟨by rfl, ?hqb40⟩) (by assumption) ?rqb40
          case hqb40 => intro w hSw; (try dsimp only at hSw); go_simp; try with_reducible rfl
          simp only [Act.put, List.getElem_toArray, List.getElem_cons_succ, List.getElem_cons_zero, List.setIfInBounds_toArray, List.set_cons_succ, List.set_cons_zero]
          refine wpAnyH_take (i := 14) (v := ?vqb43) rfl (by kernel_rfl) (by kernel_rfl) (by kernel_rfl) (fun _ _ _ h => h) (Or.inl ⟨by rfl, ?hqb43⟩) (by assumption) ?rqb43
          case hqb43 => intro w hSw; (try dsimp only at hSw); go_simp; try with_reducible rfl
          simp only [Act.put, List.getElem_toArray, List.getElem_cons_succ, List.getElem_cons_zero, List.setIfInBounds_toArray, List.set_cons_succ, List.set_cons_zero]
          refine wpAnyH_take (i := 15) (v := ?vqb46) rfl (by kernel_rfl) (by kernel_rfl) (by kernel_rfl) (fun _ _ _ h => h) (Or.inl ⟨by rfl, ?hqb46⟩) (by assumption) ?rqb46
          case hqb46 => intro w hSw; (try dsimp only at hSw); go_simp; try with_reducible rfl
          simp only [Act.put, List.getElem_toArray, List.getElem_cons_succ, List.getElem_cons_zero, List.setIfInBounds_toArray, List.set_cons_succ, List.set_cons_zero]
          refine wpAnyH_take (i := 16) (v := undef) rfl (by kernel_rfl) (by kernel_rfl) (by kernel_rfl) (fun _ _ _ h => h) (Or.inr ⟨by rfl, rfl⟩) (by assumption) ?_
          simp only [Act.put, List.getElem_toArray, List.getElem_cons_succ, List.getElem_cons_zero, List.setIfInBounds_toArray, List.set_cons_succ, List.set_cons_zero]
          refine wpAnyH_take (i := 17) (v := undef) rfl (by kernel_rfl) (by kernel_rfl) (by kernel_rfl) (fun _ _ _ h => h) (Or.inr ⟨by rfl, rfl⟩) (by assumption) ?_
          simp only [Act.put, List.getElem_toArray, List.getElem_cons_succ, List.getElem_cons_zero, List.setIfInBounds_toArray, List.set_cons_succ, List.set_cons_zero]
          refine wpAnyH_take (i := 18) (v := undef) rfl (by kernel_rfl) (by kernel_rfl) (by kernel_rfl) (fun _ _ _ h => h) (Or.inr ⟨by rfl, rfl⟩) (by assumption) ?_
          simp only [Act.put, List.getElem_toArray, List.getElem_cons_succ, List.getElem_cons_zero, List.setIfInBounds_toArray, List.set_cons_succ, List.set_cons_zero]
          refine wpAnyH_take (i := 19) (v := undef) rfl (by kernel_rfl) (by kernel_rfl) (by kernel_rfl) (fun _ _ _ h => h) (Or.inr ⟨by rfl, rfl⟩) (by assumption) ?_
          simp only [Act.put, List.getElem_toArray, List.getElem_cons_succ, List.getElem_cons_zero, List.setIfInBounds_toArray, List.set_cons_succ, List.set_cons_zero]
          refine wpAnyH_take (i := 20) (v := undef) rfl (by kernel_rfl) (by kernel_rfl) (by kernel_rfl) (fun _ _ _ h => h) (Or.inr ⟨by rfl, rfl⟩) (by assumption) ?_
          simp only [Act.put, List.getElem_toArray, List.getElem_cons_succ, List.getElem_cons_zero, List.setIfInBounds_toArray, List.set_cons_succ, List.set_cons_zero]
          refine wpAnyH_take (i := 21) (v := undef) rfl (by kernel_rfl) (by kernel_rfl) (by kernel_rfl) (fun _ _ _ h => h) (Or.inr ⟨by rfl, rfl⟩) (by assumption) ?_
          simp only [Act.put, List.getElem_toArray, List.getElem_cons_succ, List.getElem_cons_zero, List.setIfInBounds_toArray, List.set_cons_succ, List.set_cons_zero]
          refine wpAnyH_take (i := 22) (v := ?vqb61) rfl (by kernel_rfl) (by kernel_rfl) (by kernel_rfl) (fun _ _ _ h => h) (Or.inl ⟨by rfl, ?hqb61⟩) (by assumption) ?rqb61
          case hqb61 => intro w hSw; (try dsimp only at hSw); go_simp; try with_reducible rfl
          simp only [Act.put, List.getElem_toArray, List.getElem_cons_succ, List.getElem_cons_zero, List.setIfInBounds_toArray, List.set_cons_succ, List.set_cons_zero]
          refine wpAnyH_take (i := 23) (v := ?vqb64) rfl (by kernel_rfl) (by kernel_rfl) (by kernel_rfl) (fun _ _ _ h => h) (Or.inl ⟨by rfl, ?hqb64⟩) (by assumption) ?rqb64
          case hqb64 => intro w hSw; (try dsimp only at hSw); go_simp; try with_reducible rfl
          simp only [Act.put, List.getElem_toArray, List.getElem_cons_succ, List.getElem_cons_zero, List.setIfInBounds_toArray, List.set_cons_succ, List.set_cons_zero]
          refine wpAnyH_take (i := 24) (v := ?vqb67) rfl (by kernel_rfl) (by kernel_rfl) (by kernel_rfl) (fun _ _ _ h => h) (Or.inl ⟨by rfl, ?hqb67⟩) (by assumption) ?rqb67
          case hqb67 => intro w hSw; (try dsimp only at hSw); go_simp; try with_reducible rfl
          simp only [Act.put, List.getElem_toArray, List.getElem_cons_succ, List.getElem_cons_zero, List.setIfInBounds_toArray, List.set_cons_succ, List.set_cons_zero]
          refine wpAnyH_take (i := 25) (v := ?vqb70) rfl (by kernel_rfl) (by kernel_rfl) (by kernel_rfl) (fun _ _ _ h => h) (Or.inl ⟨by rfl, ?hqb70⟩) (by assumption) ?rqb70
          case hqb70 => intro w hSw; (try dsimp only at hSw); go_simp; try with_reducible rfl
          simp only [Act.put, List.getElem_toArray, List.getElem_cons_succ, List.getElem_cons_zero, List.setIfInBounds_toArray, List.set_cons_succ, List.set_cons_zero]
          refine wpAnyH_take (i := 26) (v := ?vqb73) rfl (by kernel_rfl) (by kernel_rfl) (by kernel_rfl) (fun _ _ _ h => h) (Or.inl ⟨by rfl, ?hqb73⟩) (by assumption) ?rqb73
          case hqb73 => intro w hSw; (try dsimp only at hSw); go_simp; try with_reducible rfl
          simp only [Act.put, List.getElem_toArray, List.getElem_cons_succ, List.getElem_cons_zero, List.setIfInBounds_toArray, List.set_cons_succ, List.set_cons_zero]
          refine wpAnyH_take (i := 27) (v := ?vqb76) rfl (by kernel_rfl) (by kernel_rfl) (by kernel_rfl) (fun _ _ _ h => h) (Or.inl ⟨by rfl, ?hqb76⟩) (by assumption) ?rqb76
          case hqb76 => intro w hSw; (try dsimp only at hSw); go_simp; try with_reducible rfl
          simp only [Act.put, List.getElem_toArray, List.getElem_cons_succ, List.getElem_cons_zero, List.setIfInBounds_toArray, List.set_cons_succ, List.set_cons_zero]
          refine wpAnyH_take (i := 28) (v := ?vqb79) rfl (by kernel_rfl) (by kernel_rfl) (by kernel_rfl) (fun _ _ _ h => h) (Or.inl ⟨by rfl, ?hqb79⟩) (by assumption) ?rqb79
          case hqb79 => intro w hSw; (try dsimp only at hSw); go_simp; try with_reducible rfl
          simp only [Act.put, List.getElem_toArray, List.getElem_cons_succ, List.getElem_cons_zero, List.setIfInBounds_toArray, List.set_cons_succ, List.set_cons_zero]
          refine wpAnyH_take (i := 29) (v := ?vqb82) rfl (by kernel_rfl) (by kernel_rfl) (by kernel_rfl) (fun _ _ _ h => h) (Or.inl ⟨by rfl, ?hqb82⟩) (by assumption) ?rqb82
          case hqb82 => intro w hSw; (try dsimp only at hSw); go_simp; try with_reducible rfl
          simp only [Act.put, List.getElem_toArray, List.getElem_cons_succ, List.getElem_cons_zero, List.setIfInBounds_toArray, List.set_cons_succ, List.set_cons_zero]
          refine wpAnyH_take (i := 30) (v := ?vqb85) rfl (by kernel_rfl) (by kernel_rfl) (by kernel_rfl) (fun _ _ _ h => h) (Or.inl ⟨by rfl, ?hqb85⟩) (by assumption) ?rqb85
          case hqb85 => intro w hSw; (try dsimp only at hSw); go_simp; try with_reducible rfl
          simp only [Act.put, List.getElem_toArray, List.getElem_cons_succ, List.getElem_cons_zero, List.setIfInBounds_toArray, List.set_cons_succ, List.set_cons_zero]
          refine wpAnyH_take (i := 31) (v := ?vqb88) rfl (by kernel_rfl) (by kernel_rfl) (by kernel_rfl) (fun _ _ _ h => h) (Or.inl ⟨by rfl, ?hqb88⟩) (by assumption) ?rqb88
          case hqb88 => intro w hSw; (try dsimp only at hSw); go_simp; try with_reducible rfl
          simp only [Act.put, List.getElem_toArray, List.getElem_cons_succ, List.getElem_cons_zero, List.setIfInBounds_toArray, List.set_cons_succ, List.set_cons_zero]
          refine wpAnyH_done (by kernel_rfl) ?_ _
          go_wp2
          go_ret
          exact ⟨by first | rfl | simp, HB6.out⟩
        | some yc =>
          rw [hc] at hop
          have HRC := Lib.hid hc
          have hbz : ((B : Int) == 0) = true := by simp at hop; simp; omega
          clear hop hc
          go_wp2_with fail
          refine (copen_is _ _ _ zs _ HSLZ.out (by omega)).mono ?_
          rintro e w6 ⟨h6, hb6⟩
          obtain ⟨a6, n6, c6, rfl, hs6⟩ := h6.some HRC.out
          have S6 := Lib.hid (S5.out.below hb6 (Nat.le_refl _))
          have X6 := Lib.hid (X5.out.below hb6 (Nat.le_refl _))
          have B6 := B5.out.trans (hb6.mono B5.out.size)
          have HB6 : Hid (Below w.heap.size w w6.drew) := ⟨B6.os, B6.tape, B6.output, B6.size, B6.block⟩
          have HK0 : Hid ((convert 22 9 (.slice a0 len0 cap0)).run Try.prog w6.drew = .ok (.string S) w6.drew ∧ (convert 22 9 (.slice a3 n3 c3)).run Try.prog w6.drew = .ok (.string S) w6.drew) := ⟨by rw [HSD.out]; exact S6.out.drew.str, by rw [HSD.out]; exact X6.out.drew.str⟩
          clear h6 hb6 B6 hs6
          go_wp2
          refine wp_region_held_drew (S := (fun W => (convert 22 9 (.slice a0 len0 cap0)).run Try.prog W = .ok (.string S) W ∧ (convert 22 9 (.slice a3 n3 c3)).run Try.prog W = .ok (.string S) W)) (by kernel_rfl) (by first | (exact HK0.out) | ((try dsimp only); exact HK0.out)) (fun hHeld => ?_)
          refine wpAnyH_take (i := 0) (v := ?vqa1) rfl (by kernel_rfl) (by kernel_rfl) (by kernel_rfl) (fun _ _ _ h => h) (Or.inl ⟨by rfl, ?hqa1⟩) (by assumption) ?rqa1
          case hqa1 => intro w hSw; (try dsimp only at hSw); go_simp; try with_reducible rfl
          simp only [Act.put, List.getElem_toArray, List.getElem_cons_succ, List.getElem_cons_zero, List.setIfInBounds_toArray, List.set_cons_succ, List.set_cons_zero]
          refine wpAnyH_take (i := 1) (v := ?vqa4) rfl (by kernel_rfl) (by kernel_rfl) (by kernel_rfl) (fun _ _ _ h => h) (Or.inl ⟨by rfl, ?hqa4⟩) (by assumption) ?rqa4
          case hqa4 => intro w hSw; (try dsimp only at hSw); go_simp; try with_reducible rfl
          simp only [Act.put, List.getElem_toArray, List.getElem_cons_succ, List.getElem_cons_zero, List.setIfInBounds_toArray, List.set_cons_succ, List.set_cons_zero]
          refine wpAnyH_take (i := 2) (v := ?vqa7) rfl (by kernel_rfl) (by kernel_rfl) (by kernel_rfl) (fun _ _ _ h => h) (Or.inl ⟨by rfl, ?hqa7⟩) (by assumption) ?rqa7
          case hqa7 => intro w hSw; (try dsimp only at hSw); go_simp; try with_reducible rfl
          simp only [Act.put, List.getElem_toArray, List.getElem_cons_succ, List.getElem_cons_zero, List.setIfInBounds_toArray, List.set_cons_succ, List.set_cons_zero]
          refine wpAnyH_take (i := 3) (v := ?vqa10) rfl (by kernel_rfl) (by kernel_rfl) (by kernel_rfl) (fun _ _ _ h => h) (Or.inl ⟨by rfl, ?hqa10⟩) (by assumption) ?rqa10
          case hqa10 => intro w hSw; (try dsimp only at hSw); go_simp; try with_reducible rfl
          simp only [Act.put, List.getElem_toArray, List.getElem_cons_succ, List.getElem_cons_zero, List.setIfInBounds_toArray, List.set_cons_succ, List.set_cons_zero]
          refine wpAnyH_take (i := 4) (v := ?vqa13) rfl (by kernel_rfl) (by kernel_rfl) (by kernel_rfl) (fun _ _ _ h => h) (Or.inl ⟨by rfl, ?hqa13⟩) (by assumption) ?rqa13
          case hqa13 => intro w hSw; (try dsimp only at hSw); go_simp; try with_reducible rfl
          simp only [Act.put, List.getElem_toArray, List.getElem_cons_succ, List.getElem_cons_zero, List.setIfInBounds_toArray, List.set_cons_succ, List.set_cons_zero]
          refine wpAnyH_take (i := 5) (v := ?vqa16) rfl (by kernel_rfl) (by kernel_rfl) (by kernel_rfl) (fun _ _ _ h => h) (Or.inl ⟨by rfl, ?hqa16⟩) (by assumption) ?rqa16
          case hqa16 => intro w hSw; (try dsimp only at hSw); go_simp; try with_reducible rfl
          simp only [Act.put, List.getElem_toArray, List.getElem_cons_succ, List.getElem_cons_zero, List.setIfInBounds_toArray, List.set_cons_succ, List.set_cons_zero]
          refine wpAnyH_take (i := 6) (v := ?vqa19) rfl (by kernel_rfl) (by kernel_rfl) (by kernel_rfl) (fun _ _ _ h => h) (Or.inl ⟨by rfl, ?hqa19⟩) (by assumption) ?rqa19
          case hqa19 => intro w hSw; (try dsimp only at hSw); go_simp; try with_reducible rfl
          simp only [Act.put, List.getElem_toArray, List.getElem_cons_succ, List.getElem_cons_zero, List.setIfInBounds_toArray, List.set_cons_succ, List.set_cons_zero]
          refine wpAnyH_take (i := 7) (v := ?vqa22) rfl (by kernel_rfl) (by kernel_rfl) (by kernel_rfl) (fun _ _ _ h => h) (Or.inl ⟨by rfl, ?hqa22⟩) (by assumption) ?rqa22
          case hqa22 => intro w hSw; (try dsimp only at hSw); go_simp; try with_reducible rfl
          simp only [Act.put, List.getElem_toArray, List.getElem_cons_succ, List.getElem_cons_zero, List.setIfInBounds_toArray, List.set_cons_succ, List.set_cons_zero]
          refine wpAnyH_take (i := 8) (v := ?vqa25) rfl (by kernel_rfl) (by kernel_rfl) (by kernel_rfl) (fun _ _ _ h => h) (Or.inl ⟨by rfl, ?hqa25⟩) (by assumption) ?rqa25
          case hqa25 => intro w hSw; (try dsimp only at hSw); go_simp; try with_reducible rfl
          simp only [Act.put, List.getElem_toArray, List.getElem_cons_succ, List.getElem_cons_zero, List.setIfInBounds_toArray, List.set_cons_succ, List.set_cons_zero]
          refine wpAnyH_take (i := 9) (v := ?vqa28) rfl (by kernel_rfl) (by kernel_rfl) (by kernel_rfl) (fun _ _ _ h => h) (Or.inl ⟨by rfl, ?hqa28⟩) (by assumption) ?rqa28
          case hqa28 => intro w hSw; (try dsimp only at hSw); go_simp; try with_reducible rfl
          simp only [Act.put, List.getElem_toArray, List.getElem_cons_succ, List.getElem_cons_zero, List.setIfInBounds_toArray, List.set_cons_succ, List.set_cons_zero]
          refine wpAnyH_take (i := 10) (v := ?vqa31) rfl (by kernel_rfl) (by kernel_rfl) (by kernel_rfl) (fun _ _ _ h => h) (Or.inl ⟨by rfl, ?hqa31⟩) (by assumption) ?rqa31
          case hqa31 => intro w hSw; (try dsimp only at hSw); go_simp; try with_reducible rfl
          simp only [Act.put, List.getElem_toArray, List.getElem_cons_succ, List.getElem_cons_zero, List.setIfInBounds_toArray, List.set_cons_succ, List.set_cons_zero]
          refine wpAnyH_take (i := 11) (v := ?vqa34) rfl (by kernel_rfl) (by kernel_rfl) (by kernel_rfl) (fun _ _ _ h => h) (Or.inl ⟨by rfl, ?hqa34⟩) (by assumption) ?rqa34
          case hqa34 => intro w hSw; (try dsimp only at hSw); go_simp; try with_reducible rfl
          simp only [Act.put, List.getElem_toArray, List.getElem_cons_succ, List.getElem_cons_zero, List.setIfInBounds_toArray, List.set_cons_succ, List.set_cons_zero]
          refine wpAnyH_take (i := 12) (v := ?vqa37) rfl (by kernel_rfl) (by kernel_rfl) (by kernel_rfl) (fun _ _ _ h => h) (Or.inl ⟨by rfl, ?hqa37⟩) (by assumption) ?rqa37
          case hqa37 => intro w hSw; (try dsimp only at hSw); go_simp; try with_reducible rfl
          simp only [Act.put, List.getElem_toArray, List.getElem_cons_succ, List.getElem_cons_zero, List.setIfInBounds_toArray, List.set_cons_succ, List.set_cons_zero]
          refine wpAnyH_take (i := 13) (v := ?vqa40) rfl (by kernel_rfl) (by kernel_rfl) (by kernel_rfl) (fun _ _ _ h => h) (Or.inl ⟨by rfl, ?hqa40⟩) (by assumption) ?rqa40
          case hqa40 => intro w hSw; (try dsimp only at hSw); go_simp; try with_reducible rfl
          simp only [Act.put, List.getElem_toArray, List.getElem_cons_succ, List.getElem_cons_zero, List.setIfInBounds_toArray, List.set_cons_succ, List.set_cons_zero]
          refine wpAnyH_take (i := 14) (v := ?vqa43) rfl (by kernel_rfl) (by kernel_rfl) (by kernel_rfl) (fun _ _ _ h => h) (Or.inl ⟨by rfl, ?hqa43⟩) (by assumption) ?rqa43
          case hqa43 => intro w hSw; (try dsimp only at hSw); go_simp; try with_reducible rfl
          simp only [Act.put, List.getElem_toArray, List.getElem_cons_succ, List.getElem_cons_zero, List.setIfInBounds_toArray, List.set_cons_succ, List.set_cons_zero]
          refine wpAnyH_take (i := 15) (v := ?vqa46) rfl (by kernel_rfl) (by kernel_rfl) (by kernel_rfl) (fun _ _ _ h => h) (Or.inl ⟨by rfl, ?hqa46⟩) (by assumption) ?rqa46
          case hqa46 => intro w hSw; (try dsimp only at hSw); go_simp; try with_reducible rfl
          simp only [Act.put, List.getElem_toArray, List.getElem_cons_succ, List.getElem_cons_zero, List.setIfInBounds_toArray, List.set_cons_succ, List.set_cons_zero]
          refine wpAnyH_take (i := 16) (v := undef) rfl (by kernel_rfl) (by kernel_rfl) (by kernel_rfl) (fun _ _ _ h => h) (Or.inr ⟨by rfl, rfl⟩) (by assumption) ?_
          simp only [Act.put, List.getElem_toArray, List.getElem_cons_succ, List.getElem_cons_zero, List.setIfInBounds_toArray, List.set_cons_succ, List.set_cons_zero]
          refine wpAnyH_take (i := 17) (v := undef) rfl (by kernel_rfl) (by kernel_rfl) (by kernel_rfl) (fun _ _ _ h => h) (Or.inr ⟨by rfl, rfl⟩) (by assumption) ?_
          simp only [Act.put, List.getElem_toArray, List.getElem_cons_succ, List.getElem_cons_zero, List.setIfInBounds_toArray, List.set_cons_succ, List.set_cons_zero]
          refine wpAnyH_take (i := 18) (v := undef) rfl (by kernel_rfl) (by kernel_rfl) (by kernel_rfl) (fun _ _ _ h => h) (Or.inr ⟨by rfl, rfl⟩) (by assumption) ?_
          simp only [Act.put, List.getElem_toArray, List.getElem_cons_succ, List.getElem_cons_zero, List.setIfInBounds_toArray, List.set_cons_succ, List.set_cons_zero]
          refine wpAnyH_take (i := 19) (v := undef) rfl (by kernel_rfl) (by kernel_rfl) (by kernel_rfl) (fun _ _ _ h => h) (Or.inr ⟨by rfl, rfl⟩) (by assumption) ?_
          simp only [Act.put, List.getElem_toArray, List.getElem_cons_succ, List.getElem_cons_zero, List.setIfInBounds_toArray, List.set_cons_succ, List.set_cons_zero]
          refine wpAnyH_take (i := 20) (v := undef) rfl (by kernel_rfl) (by kernel_rfl) (by kernel_rfl) (fun _ _ _ h => h) (Or.inr ⟨by rfl, rfl⟩) (by assumption) ?_
          simp only [Act.put, List.getElem_toArray, List.getElem_cons_succ, List.getElem_cons_zero, List.setIfInBounds_toArray, List.set_cons_succ, List.set_cons_zero]
          refine wpAnyH_take (i := 21) (v := undef) rfl (by kernel_rfl) (by kernel_rfl) (by kernel_rfl) (fun _ _ _ h => h) (Or.inr ⟨by rfl, rfl⟩) (by assumption) ?_
          simp only [Act.put, List.getElem_toArray, List.getElem_cons_succ, List.getElem_cons_zero, List.setIfInBounds_toArray, List.set_cons_succ, List.set_cons_zero]
          refine wpAnyH_take (i := 22) (v := ?vqa61) rfl (by kernel_rfl) (by kernel_rfl) (by kernel_rfl) (fun _ _ _ h => h) (Or.inl ⟨by rfl, ?hqa61⟩) (by assumption) ?rqa61
          case hqa61 => intro w hSw; (try dsimp only at hSw); go_simp; try with_reducible rfl
          simp only [Act.put, List.getElem_toArray, List.getElem_cons_succ, List.getElem_cons_zero, List.setIfInBounds_toArray, List.set_cons_succ, List.set_cons_zero]
          refine wpAnyH_take (i := 23) (v := ?vqa64) rfl (by kernel_rfl) (by kernel_rfl) (by kernel_rfl) (fun _ _ _ h => h) (Or.inl ⟨by rfl, ?hqa64⟩) (by assumption) ?rqa64
          case hqa64 => intro w hSw; (try dsimp only at hSw); go_simp; try with_reducible rfl
          simp only [Act.put, List.getElem_toArray, List.getElem_cons_succ, List.getElem_cons_zero, List.setIfInBounds_toArray, List.set_cons_succ, List.set_cons_zero]
          refine wpAnyH_take (i := 24) (v := ?vqa67) rfl (by kernel_rfl) (by kernel_rfl) (by kernel_rfl) (fun _ _ _ h => h) (Or.inl ⟨by rfl, ?hqa67⟩) (by assumption) ?rqa67
          case hqa67 => intro w hSw; (try dsimp only at hSw); go_simp; try with_reducible rfl
          simp only [Act.put, List.getElem_toArray, List.getElem_cons_succ, List.getElem_cons_zero, List.setIfInBounds_toArray, List.set_cons_succ, List.set_cons_zero]
          refine wpAnyH_take (i := 25) (v := ?vqa70) rfl (by kernel_rfl) (by kernel_rfl) (by kernel_rfl) (fun _ _ _ h => h) (Or.inl ⟨by rfl, ?hqa70⟩) (by assumption) ?rqa70
          case hqa70 => intro w hSw; (try dsimp only at hSw); go_simp; try with_reducible rfl
          simp only [Act.put, List.getElem_toArray, List.getElem_cons_succ, List.getElem_cons_zero, List.setIfInBounds_toArray, List.set_cons_succ, List.set_cons_zero]
          refine wpAnyH_take (i := 26) (v := ?vqa73) rfl (by kernel_rfl) (by kernel_rfl) (by kernel_rfl) (fun _ _ _ h => h) (Or.inl ⟨by rfl, ?hqa73⟩) (by assumption) ?rqa73
          case hqa73 => intro w hSw; (try dsimp only at hSw); go_simp; try with_reducible rfl
          simp only [Act.put, List.getElem_toArray, List.getElem_cons_succ, List.getElem_cons_zero, List.setIfInBounds_toArray, List.set_cons_succ, List.set_cons_zero]
          refine wpAnyH_take (i := 27) (v := ?vqa76) rfl (by kernel_rfl) (by kernel_rfl) (by kernel_rfl) (fun _ _ _ h => h) (Or.inl ⟨by rfl, ?hqa76⟩) (by assumption) ?rqa76
          case hqa76 => intro w hSw; (try dsimp only at hSw); go_simp; try with_reducible rfl
          simp only [Act.put, List.getElem_toArray, List.getElem_cons_succ, List.getElem_cons_zero, List.setIfInBounds_toArray, List.set_cons_succ, List.set_cons_zero]
          refine wpAnyH_take (i := 28) (v := ?vqa79) rfl (by kernel_rfl) (by kernel_rfl) (by kernel_rfl) (fun _ _ _ h => h) (Or.inl ⟨by rfl, ?hqa79⟩) (by assumption) ?rqa79
          case hqa79 => intro w hSw; (try dsimp only at hSw); go_simp; try with_reducible rfl
          simp only [Act.put, List.getElem_toArray, List.getElem_cons_succ, List.getElem_cons_zero, List.setIfInBounds_toArray, List.set_cons_succ, List.set_cons_zero]
          refine wpAnyH_take (i := 29) (v := ?vqa82) rfl (by kernel_rfl) (by kernel_rfl) (by kernel_rfl) (fun _ _ _ h => h) (Or.inl ⟨by rfl, ?hqa82⟩) (by assumption) ?rqa82
          case hqa82 => intro w hSw; (try dsimp only at hSw); go_simp; try with_reducible rfl
          simp only [Act.put, List.getElem_toArray, List.getElem_cons_succ, List.getElem_cons_zero, List.setIfInBounds_toArray, List.set_cons_succ, List.set_cons_zero]
          refine wpAnyH_take (i := 30) (v := ?vqa85) rfl (by kernel_rfl) (by kernel_rfl) (by kernel_rfl) (fun _ _ _ h => h) (Or.inl ⟨by rfl, ?hqa85⟩) (by assumption) ?rqa85
          case hqa85 => intro w hSw; (try dsimp only at hSw); go_simp; try with_reducible rfl
          simp only [Act.put, List.getElem_toArray, List.getElem_cons_succ, List.getElem_cons_zero, List.setIfInBounds_toArray, List.set_cons_succ, List.set_cons_zero]
          refine wpAnyH_take (i := 31) (v := ?vqa88) rfl (by kernel_rfl) (by kernel_rfl) (by kernel_rfl) (fun _ _ _ h => h) (Or.inl ⟨by rfl, ?hqa88⟩) (by assumption) ?rqa88
          case hqa88 => intro w hSw; (try dsimp only at hSw); go_simp; try with_reducible rfl
          simp only [Act.put, List.getElem_toArray, List.getElem_cons_succ, List.getElem_cons_zero, List.setIfInBounds_toArray, List.set_cons_succ, List.set_cons_zero]
          refine wpAnyH_done (by kernel_rfl) ?_ _
          go_wp2
          go_ret
          exact ⟨by first | rfl | simp, HB6.out⟩
  | some yb =>
    have HR := Lib.hid hr
    have hly := Crc.opn_some hr
    have hyl : yb.length ≤ 1000 := by
      have h := congrArg List.length hly
      rw [Crc.lock_length, HS.out.1] at h
      omega
    have HWB : Hid (∀ z ∈ b, (Lit.int .u8 z).wf = true) := HS.out.2.2.2.1
    have HSY : Hid (∀ a n c w, Sl .u8 w a n c yb → Calls Try.prog 12 #[.slice a n c] w fun e w' => MadeB w w' e b) := by
      intro a n c w h
      have h2 := cseal_is a n c yb w h (by rw [← h.1]; omega)
      rwa [hly] at h2
    clear hr hly hyl
    go_enter Try.func4, Try.ntmps4
    go_wp2_with fail
    refine (awake_any _).mono ?_
    rintro e w1 ⟨rfl, B1⟩
    have S1 := Lib.hid (HS.out.below B1 (Nat.le_refl _))
    go_wp2_with fail
    refine (HSEAL.out _ S1.out).mono ?_
    intro e w2 h2
    obtain ⟨a2, n2, c2, rfl, hn2, hs2, _, hb2⟩ := h2.sl (bytes_wf HLB.out)
    obtain rfl : n2 = N := by rw [hn2]; exact HLN.out
    have L2 := Lib.hid hs2
    have S2 := Lib.hid (S1.out.below hb2 (Nat.le_refl _))
    have B2 := B1.trans (hb2.mono B1.size)
    clear h2 hn2 hs2 hb2 B1 S1
    go_wp2_with fail
    refine (copen_is _ _ _ L _ L2.out (by omega)).mono ?_
    rintro e w3 ⟨h3, hb3⟩
    obtain ⟨a3, n3, c3, rfl, hs3⟩ := h3.some HOPL.out
    have X3 := Lib.hid hs3
    have L3 := Lib.hid (L2.out.below hb3 (Nat.le_refl _))
    have S3 := Lib.hid (S2.out.below hb3 (Nat.le_refl _))
    have B3 := B2.trans (hb3.mono B2.size)
    clear h3 hs3 hb3 B2 S2 L2
    go_wp2_with fail
    refine (copen_is _ _ _ b _ S3.out (by omega)).mono ?_
    rintro e w4 ⟨h4, hb4⟩
    obtain ⟨a4, n4, c4, rfl, hs4⟩ := h4.some HR.out
    have Y4 := Lib.hid hs4
    have X4 := Lib.hid (X3.out.below hb4 (Nat.le_refl _))
    have L4 := Lib.hid (L3.out.below hb4 (Nat.le_refl _))
    have S4 := Lib.hid (S3.out.below hb4 (Nat.le_refl _))
    have B4 := Lib.hid (B3.trans (hb4.mono B3.size))
    have HMD : Hid ((w4.alloc (.cells #[] 5)).ownsRow w4.heap.size 5 1 (.slice (some ⟨w4.heap.size, 0, none⟩) 0 0) 0 (u8s [])) := World.ownsRow_made w4 #[] 0 (Nat.le_refl _) (Nat.zero_le _) rfl
    clear h4 hb4 B3 S3 L3 X3 hs4
    go_wp2_with (at_builtin; refine append_bytes (by rfl) (.tmp 39) (.tmp 40) (by rfl) w4.heap.size _ 0 [] (by rfl) HMD.out a2 n2 c2 L (by rfl) (L4.out.alloc _) n2 (by omega) (by omega) (by simp) ?_; intro a5 c5 w5 hown5 hb5 hnil5; have HO5 : Hid (w5.ownsRow w4.heap.size 5 1 (.slice a5 n2 c5) n2 (u8s L)) := (by show World.ownsRow _ _ _ _ _ _ _; simpa using hown5); have HB5 : Hid (Below w4.heap.size w4 w5) := ((Below.refl w4.heap.size w4).alloc (Nat.le_refl _) _).trans hb5; clear hown5 hb5 hnil5)
    obtain ⟨g, rfl, hg⟩ := owns_some HO5.out (by omega)
    have HG := Lib.hid hg
    clear hg HMD
    go_loopw [15] (fun ix wr => ∃ (i : Nat) (zs : List Int), ix = .int .i64 (i : Int) ∧ i ≤ 32 ∧ Hid (Flip L f B i zs) ∧ Hid (wr.ownsRow w4.heap.size 5 1 (.slice (some ⟨g, 0, none⟩) n2 c5) n2 (u8s zs)) ∧ Hid (Below w4.heap.size w4 wr)) (fun ix _ => 32 - (intOf ix).toNat)
    case atStart => exact ⟨0, L, rfl, by omega, flip_none HLB.out f B, HO5.out, HB5.out⟩
    case round =>
      obtain ⟨i, zs, rfl, hi, HF, HOW, HBW⟩ := hrel
      by_cases hi32 : i < 32
      · have hi32i : (i : Int) < 32 := by omega
        have HLZ : Hid (zs.length = n2) := by show _ = _; rw [HF.out.2.1, HLN.out]
        obtain ⟨Q, hQ⟩ : ∃ Q, Q = B / 2 ^ i := ⟨_, rfl⟩
        have hQi : (B : Int) / 2 ^ i = (Q : Int) := by rw [hQ]; simp
        by_cases hb : Q % 2 = 1
        · have hq1 : (Q : Int) % 2 = 1 := by omega
          have hq2 : (Q : Int).tmod 2 = 1 := by rw [Int.tmod_eq_emod_of_nonneg (by omega)]; exact hq1
          have hjl : (f + i) / 8 < n2 := by omega
          have HSLZ := Lib.hid (Sl.of_owns (k := .u8) HOW.out (bytes_wf HF.out.1) HLZ.out)
          obtain ⟨z, hz, hz256⟩ := HSLZ.out.byteAt hjl
          have hcell : wr.cell? ⟨g, (f + i) / 8, none⟩ = some (.int .u8 (z : Int)) := by
            rw [HOW.out.cellAt ((f + i) / 8) (by omega), hz]
            have := HLZ.out
            simp [u8s, show (f + i) / 8 < zs.length by omega]
          have hfr : wr.frozen? ⟨g, (f + i) / 8, none⟩ = false := HOW.out.frozenAt _
          have HBQ : Hid (B / 2 ^ i % 2 = 1) := by rw [← hQ]; exact hb
          have hr2 : 2 ^ ((f + i) % 8) < 256 := Nat.pow_lt_pow_right (a := 2) (by decide) (show (f + i) % 8 < 8 by omega)
          obtain ⟨q, hqd⟩ : ∃ q, q = z ^^^ 2 ^ ((f + i) % 8) := ⟨_, rfl⟩
          have hx : bits .xor .u8 (z : Int) (2 ^ ((f + i) % 8) % 256) = (q : Int) := by
            have h := u8_xor_nat z (2 ^ ((f + i) % 8)) hz256 hr2
            rw [← hqd] at h
            rw [← h]
            congr 1
            rw [Int.natCast_pow]
            have h2 : ((2 ^ ((f + i) % 8) : Nat) : Int) < 256 := by omega
            rw [Int.natCast_pow] at h2
            exact Int.emod_eq_of_lt (by exact_mod_cast Nat.zero_le (2 ^ ((f + i) % 8))) h2
          have HFN : Hid (Flip L f B (i + 1) (zs.set ((f + i) / 8) (q : Int))) := flip_next HF.out HBQ.out rfl rfl (by rw [HLZ.out]; exact hjl) hz hqd
          have HOWN := Lib.hid (owns_set HOW.out ((f + i) / 8) (q : Int))
          have HBN : Hid (Below w4.heap.size w4 (wr.setCell ⟨g, (f + i) / 8, none⟩ (.int .u8 (q : Int)))) := HBW.out.setCell (p := ⟨g, (f + i) / 8, none⟩) HG.out _
          clear hQ hb hz hqd hr2 hz256
          go_wp2
          go_roundw
          case rel => exact ⟨i + 1, _, by go_num, by omega, HFN.out, HOWN.out, HBN.out⟩
          case measure => simp [intOf]; omega
        · have hq1 : (Q : Int) % 2 = 0 := by omega
          have hq2 : (Q : Int).tmod 2 = 0 := by rw [Int.tmod_eq_emod_of_nonneg (by omega)]; exact hq1
          have HF1 : Hid (Flip L f B (i + 1) zs) := flip_same HF.out (by rw [← hQ]; exact hb)
          clear hQ hb
          go_wp2
          go_roundw
          case rel => exact ⟨i + 1, zs, by go_num, by omega, HF1.out, HOW.out, HBW.out⟩
          case measure => simp [intOf]; omega
      · obtain rfl : i = 32 := by omega
        have HLZ : Hid (zs.length = n2) := by show _ = _; rw [HF.out.2.1, HLN.out]
        have HSLZ := Lib.hid (Sl.of_owns (k := .u8) HOW.out (bytes_wf HF.out.1) HLZ.out)
        have hop := HNL.out zs f (by omega) HF.out
        have S5 := Lib.hid (S4.out.below HBW.out (Nat.le_refl _))
        have X5 := Lib.hid (X4.out.below HBW.out (Nat.le_refl _))
        have B5 := Lib.hid (B4.out.trans (HBW.out.mono B4.out.size))
        have Y5 := Lib.hid (Y4.out.below HBW.out (Nat.le_refl _))
        cases hc : Crc.opn zs with
        | none =>
          rw [hc] at hop
          have HRC := Lib.hid hc
          have hbz : ((B : Int) == 0) = false := by simp at hop; simp; omega
          clear hop hc
          go_wp2_with fail
          refine (copen_is _ _ _ zs _ HSLZ.out (by omega)).mono ?_
          rintro e w6 ⟨h6, hb6⟩
          obtain rfl := h6.none HRC.out
          have S6 := Lib.hid (S5.out.below hb6 (Nat.le_refl _))
          have X6 := Lib.hid (X5.out.below hb6 (Nat.le_refl _))
          have Y6 := Lib.hid (Y5.out.below hb6 (Nat.le_refl _))
          have B6 := B5.out.trans (hb6.mono B5.out.size)
          have HB6 : Hid (Below w.heap.size w w6.drew) := ⟨B6.os, B6.tape, B6.output, B6.size, B6.block⟩
          have HK0 : Hid ((convert 22 9 (.slice a0 len0 cap0)).run Try.prog w6.drew = .ok (.string S) w6.drew ∧ (convert 22 9 (.slice a3 n3 c3)).run Try.prog w6.drew = .ok (.string S) w6.drew) := ⟨by rw [HSD.out]; exact S6.out.drew.str, by rw [HSD.out]; exact X6.out.drew.str⟩
          clear h6 hb6 B6
          go_wp2
          refine wp_region_held_drew (S := (fun W => (convert 22 9 (.slice a0 len0 cap0)).run Try.prog W = .ok (.string S) W ∧ (convert 22 9 (.slice a3 n3 c3)).run Try.prog W = .ok (.string S) W)) (by kernel_rfl) (by first | (first | exact HK7.out | exact HK0.out) | ((try dsimp only); first | exact HK7.out | exact HK0.out)) (fun hHeld => ?_)
          refine wpAnyH_take (i := 0) (v := ?vpb1) rfl (by kernel_rfl) (by kernel_rfl) (by kernel_rfl) (fun _ _ _ h => h) (Or.inl ⟨by rfl, ?hpb1⟩) (by assumption) ?rpb1
          case hpb1 => intro w hSw; (try dsimp only at hSw); go_simp; try with_reducible rfl
          simp only [Act.put, List.getElem_toArray, List.getElem_cons_succ, List.getElem_cons_zero, List.setIfInBounds_toArray, List.set_cons_succ, List.set_cons_zero]
          refine wpAnyH_take (i := 1) (v := ?vpb4) rfl (by kernel_rfl) (by kernel_rfl) (by kernel_rfl) (fun _ _ _ h => h) (Or.inl ⟨by rfl, ?hpb4⟩) (by assumption) ?rpb4
          case hpb4 => intro w hSw; (try dsimp only at hSw); go_simp; try with_reducible rfl
          simp only [Act.put, List.getElem_toArray, List.getElem_cons_succ, List.getElem_cons_zero, List.setIfInBounds_toArray, List.set_cons_succ, List.set_cons_zero]
          refine wpAnyH_take (i := 2) (v := ?vpb7) rfl (by kernel_rfl) (by kernel_rfl) (by kernel_rfl) (fun _ _ _ h => h) (Or.inl ⟨by rfl, ?hpb7⟩) (by assumption) ?rpb7
          case hpb7 => intro w hSw; (try dsimp only at hSw); go_simp; try with_reducible rfl
          simp only [Act.put, List.getElem_toArray, List.getElem_cons_succ, List.getElem_cons_zero, List.setIfInBounds_toArray, List.set_cons_succ, List.set_cons_zero]
          refine wpAnyH_take (i := 3) (v := ?vpb10) rfl (by kernel_rfl) (by kernel_rfl) (by kernel_rfl) (fun _ _ _ h => h) (Or.inl ⟨by rfl, ?hpb10⟩) (by assumption) ?rpb10
          case hpb10 => intro w hSw; (try dsimp only at hSw); go_simp; try with_reducible rfl
          simp only [Act.put, List.getElem_toArray, List.getElem_cons_succ, List.getElem_cons_zero, List.setIfInBounds_toArray, List.set_cons_succ, List.set_cons_zero]
          refine wpAnyH_take (i := 4) (v := ?vpb13) rfl (by kernel_rfl) (by kernel_rfl) (by kernel_rfl) (fun _ _ _ h => h) (Or.inl ⟨by rfl, ?hpb13⟩) (by assumption) ?rpb13
          case hpb13 => intro w hSw; (try dsimp only at hSw); go_simp; try with_reducible rfl
          simp only [Act.put, List.getElem_toArray, List.getElem_cons_succ, List.getElem_cons_zero, List.setIfInBounds_toArray, List.set_cons_succ, List.set_cons_zero]
          refine wpAnyH_take (i := 5) (v := ?vpb16) rfl (by kernel_rfl) (by kernel_rfl) (by kernel_rfl) (fun _ _ _ h => h) (Or.inl ⟨by rfl, ?hpb16⟩) (by assumption) ?rpb16
          case hpb16 => intro w hSw; (try dsimp only at hSw); go_simp; try with_reducible rfl
          simp only [Act.put, List.getElem_toArray, List.getElem_cons_succ, List.getElem_cons_zero, List.setIfInBounds_toArray, List.set_cons_succ, List.set_cons_zero]
          refine wpAnyH_take (i := 6) (v := ?vpb19) rfl (by kernel_rfl) (by kernel_rfl) (by kernel_rfl) (fun _ _ _ h => h) (Or.inl ⟨by rfl, ?hpb19⟩) (by assumption) ?rpb19
          case hpb19 => intro w hSw; (try dsimp only at hSw); go_simp; try with_reducible rfl
          simp only [Act.put, List.getElem_toArray, List.getElem_cons_succ, List.getElem_cons_zero, List.setIfInBounds_toArray, List.set_cons_succ, List.set_cons_zero]
          refine wpAnyH_take (i := 7) (v := ?vpb22) rfl (by kernel_rfl) (by kernel_rfl) (by kernel_rfl) (fun _ _ _ h => h) (Or.inl ⟨by rfl, ?hpb22⟩) (by assumption) ?rpb22
          case hpb22 => intro w hSw; (try dsimp only at hSw); go_simp; try with_reducible rfl
          simp only [Act.put, List.getElem_toArray, List.getElem_cons_succ, List.getElem_cons_zero, List.setIfInBounds_toArray, List.set_cons_succ, List.set_cons_zero]
          refine wpAnyH_take (i := 8) (v := ?vpb25) rfl (by kernel_rfl) (by kernel_rfl) (by kernel_rfl) (fun _ _ _ h => h) (Or.inl ⟨by rfl, ?hpb25⟩) (by assumption) ?rpb25
          case hpb25 => intro w hSw; (try dsimp only at hSw); go_simp; try with_reducible rfl
          simp only [Act.put, List.getElem_toArray, List.getElem_cons_succ, List.getElem_cons_zero, List.setIfInBounds_toArray, List.set_cons_succ, List.set_cons_zero]
          refine wpAnyH_take (i := 9) (v := ?vpb28) rfl (by kernel_rfl) (by kernel_rfl) (by kernel_rfl) (fun _ _ _ h => h) (Or.inl ⟨by rfl, ?hpb28⟩) (by assumption) ?rpb28
          case hpb28 => intro w hSw; (try dsimp only at hSw); go_simp; try with_reducible rfl
          simp only [Act.put, List.getElem_toArray, List.getElem_cons_succ, List.getElem_cons_zero, List.setIfInBounds_toArray, List.set_cons_succ, List.set_cons_zero]
          refine wpAnyH_take (i := 10) (v := ?vpb31) rfl (by kernel_rfl) (by kernel_rfl) (by kernel_rfl) (fun _ _ _ h => h) (Or.inl ⟨by rfl, ?hpb31⟩) (by assumption) ?rpb31
          case hpb31 => intro w hSw; (try dsimp only at hSw); go_simp; try with_reducible rfl
          simp only [Act.put, List.getElem_toArray, List.getElem_cons_succ, List.getElem_cons_zero, List.setIfInBounds_toArray, List.set_cons_succ, List.set_cons_zero]
          refine wpAnyH_take (i := 11) (v := ?vpb34) rfl (by kernel_rfl) (by kernel_rfl) (by kernel_rfl) (fun _ _ _ h => h) (Or.inl ⟨by rfl, ?hpb34⟩) (by assumption) ?rpb34
          case hpb34 => intro w hSw; (try dsimp only at hSw); go_simp; try with_reducible rfl
          simp only [Act.put, List.getElem_toArray, List.getElem_cons_succ, List.getElem_cons_zero, List.setIfInBounds_toArray, List.set_cons_succ, List.set_cons_zero]
          refine wpAnyH_take (i := 12) (v := ?vpb37) rfl (by kernel_rfl) (by kernel_rfl) (by kernel_rfl) (fun _ _ _ h => h) (Or.inl ⟨by rfl, ?hpb37⟩) (by assumption) ?rpb37
          case hpb37 => intro w hSw; (try dsimp only at hSw); go_simp; try with_reducible rfl
          simp only [Act.put, List.getElem_toArray, List.getElem_cons_succ, List.getElem_cons_zero, List.setIfInBounds_toArray, List.set_cons_succ, List.set_cons_zero]
          refine wpAnyH_take (i := 13) (v := ?vpb40) rfl (by kernel_rfl) (by kernel_rfl) (by kernel_rfl) (fun _ _ _ h => h) (Or.inl ⟨by rfl, ?hpb40⟩) (by assumption) ?rpb40
          case hpb40 => intro w hSw; (try dsimp only at hSw); go_simp; try with_reducible rfl
          simp only [Act.put, List.getElem_toArray, List.getElem_cons_succ, List.getElem_cons_zero, List.setIfInBounds_toArray, List.set_cons_succ, List.set_cons_zero]
          refine wpAnyH_take (i := 14) (v := ?vpb43) rfl (by kernel_rfl) (by kernel_rfl) (by kernel_rfl) (fun _ _ _ h => h) (Or.inl ⟨by rfl, ?hpb43⟩) (by assumption) ?rpb43
          case hpb43 => intro w hSw; (try dsimp only at hSw); go_simp; try with_reducible rfl
          simp only [Act.put, List.getElem_toArray, List.getElem_cons_succ, List.getElem_cons_zero, List.setIfInBounds_toArray, List.set_cons_succ, List.set_cons_zero]
          refine wpAnyH_take (i := 15) (v := ?vpb46) rfl (by kernel_rfl) (by kernel_rfl) (by kernel_rfl) (fun _ _ _ h => h) (Or.inl ⟨by rfl, ?hpb46⟩) (by assumption) ?rpb46
          case hpb46 => intro w hSw; (try dsimp only at hSw); go_simp; try with_reducible rfl
          simp only [Act.put, List.getElem_toArray, List.getElem_cons_succ, List.getElem_cons_zero, List.setIfInBounds_toArray, List.set_cons_succ, List.set_cons_zero]
          refine wpAnyH_take (i := 16) (v := ?vpb49) rfl (by kernel_rfl) (by kernel_rfl) (by kernel_rfl) (fun _ _ _ h => h) (Or.inl ⟨by rfl, ?hpb49⟩) (by assumption) ?rpb49
          case hpb49 => intro w hSw; (try dsimp only at hSw); go_simp; try with_reducible rfl
          simp only [Act.put, List.getElem_toArray, List.getElem_cons_succ, List.getElem_cons_zero, List.setIfInBounds_toArray, List.set_cons_succ, List.set_cons_zero]
          refine wpAnyH_take (i := 19) (v := ?vpb52) rfl (by kernel_rfl) (by kernel_rfl) (by kernel_rfl) (fun _ _ _ h => h) (Or.inl ⟨by rfl, ?hpb52⟩) (by assumption) ?rpb52
          case hpb52 => intro w hSw; (try dsimp only at hSw); go_simp; try with_reducible rfl
          simp only [Act.put, List.getElem_toArray, List.getElem_cons_succ, List.getElem_cons_zero, List.setIfInBounds_toArray, List.set_cons_succ, List.set_cons_zero]
          refine wpAnyH_take (i := 20) (v := ?vpb55) rfl (by kernel_rfl) (by kernel_rfl) (by kernel_rfl) (fun _ _ _ h => h) (Or.inl ⟨by rfl, ?hpb55⟩) (by assumption) ?rpb55
          case hpb55 => intro w hSw; (try dsimp only at hSw); go_simp; try with_reducible rfl
          simp only [Act.put, List.getElem_toArray, List.getElem_cons_succ, List.getElem_cons_zero, List.setIfInBounds_toArray, List.set_cons_succ, List.set_cons_zero]
          refine wpAnyH_ready (rs := [17]) (by kernel_rfl) (by simp) ?_
          refine AllReadyH.cons rfl (fun K hK => ?_) AllReadyH.nil
          go_simp
          refine (HSY.out _ _ _ _ Y6.out.drew).mono ?_
          intro e w7 h7
          obtain ⟨a7, n7, c7, rfl, -, hs7, -, hb7⟩ := MadeB.sl h7 HWB.out
          have k7 : (convert 22 9 (.slice a7 n7 c7)).run Try.prog w7 = .ok (.string S) w7 := by rw [HSD.out]; exact hs7.str
          have HK7 : Hid ((convert 22 9 (.slice a0 len0 cap0)).run Try.prog w7 = .ok (.string S) w7 ∧ (convert 22 9 (.slice a3 n3 c3)).run Try.prog w7 = .ok (.string S) w7) := ⟨by rw [HSD.out]; exact (S6.out.drew.below hb7 (Nat.le_refl _)).str, by rw [HSD.out]; exact (X6.out.drew.below hb7 (Nat.le_refl _)).str⟩
          have HB7 : Hid (Below w.heap.size w w7) := HB6.out.trans (hb7.mono HB6.out.size)
          clear h7 hs7 hb7
          refine hK.out _ _ (by first | (first | exact HK7.out | exact HK0.out) | ((try dsimp only); first | exact HK7.out | exact HK0.out)) (fun hHeld => ?_)
          clear hK K
          try simp only [Act.put, List.getElem_toArray, List.getElem_cons_succ, List.getElem_cons_zero, List.setIfInBounds_toArray, List.set_cons_succ, List.set_cons_zero]
          refine wpAnyH_ready (rs := [18]) (by kernel_rfl) (by simp) ?_
          refine AllReadyH.cons rfl (fun K hK => ?_) AllReadyH.nil
          go_simp
          refine hK.out _ _ (by first | (first | exact HK7.out | exact HK0.out) | ((try dsimp only); first | exact HK7.out | exact HK0.out)) (fun hHeld => ?_)
          clear hK K
          try simp only [Act.put, List.getElem_toArray, List.getElem_cons_succ, List.getElem_cons_zero, List.setIfInBounds_toArray, List.set_cons_succ, List.set_cons_zero]
          refine wpAnyH_take (i := 21) (v := ?vpb77) rfl (by kernel_rfl) (by kernel_rfl) (by kernel_rfl) (fun _ _ _ h => h) (Or.inl ⟨by rfl, ?hpb77⟩) (by assumption) ?rpb77
          case hpb77 => intro w hSw; (try dsimp only at hSw); go_simp; try with_reducible rfl
          simp only [Act.put, List.getElem_toArray, List.getElem_cons_succ, List.getElem_cons_zero, List.setIfInBounds_toArray, List.set_cons_succ, List.set_cons_zero]
          refine wpAnyH_take (i := 22) (v := ?vpb80) rfl (by kernel_rfl) (by kernel_rfl) (by kernel_rfl) (fun _ _ _ h => h) (Or.inl ⟨by rfl, ?hpb80⟩) (by assumption) ?rpb80
          case hpb80 => intro w hSw; (try dsimp only at hSw); go_simp; try with_reducible rfl
          simp only [Act.put, List.getElem_toArray, List.getElem_cons_succ, List.getElem_cons_zero, List.setIfInBounds_toArray, List.set_cons_succ, List.set_cons_zero]
          refine wpAnyH_take (i := 23) (v := ?vpb83) rfl (by kernel_rfl) (by kernel_rfl) (by kernel_rfl) (fun _ _ _ h => h) (Or.inl ⟨by rfl, ?hpb83⟩) (by assumption) ?rpb83
          case hpb83 => intro w hSw; (try dsimp only at hSw); go_simp; try with_reducible rfl
          simp only [Act.put, List.getElem_toArray, List.getElem_cons_succ, List.getElem_cons_zero, List.setIfInBounds_toArray, List.set_cons_succ, List.set_cons_zero]
          refine wpAnyH_take (i := 24) (v := ?vpb86) rfl (by kernel_rfl) (by kernel_rfl) (by kernel_rfl) (fun _ _ _ h => h) (Or.inl ⟨by rfl, ?hpb86⟩) (by assumption) ?rpb86
          case hpb86 => intro w hSw; (try dsimp only at hSw); go_simp; try with_reducible rfl
          simp only [Act.put, List.getElem_toArray, List.getElem_cons_succ, List.getElem_cons_zero, List.setIfInBounds_toArray, List.set_cons_succ, List.set_cons_zero]
          refine wpAnyH_take (i := 25) (v := ?vpb89) rfl (by kernel_rfl) (by kernel_rfl) (by kernel_rfl) (fun _ _ _ h => h) (Or.inl ⟨by rfl, ?hpb89⟩) (by assumption) ?rpb89
          case hpb89 => intro w hSw; (try dsimp only at hSw); go_simp; try with_reducible rfl
          simp only [Act.put, List.getElem_toArray, List.getElem_cons_succ, List.getElem_cons_zero, List.setIfInBounds_toArray, List.set_cons_succ, List.set_cons_zero]
          refine wpAnyH_take (i := 26) (v := ?vpb92) rfl (by kernel_rfl) (by kernel_rfl) (by kernel_rfl) (fun _ _ _ h => h) (Or.inl ⟨by rfl, ?hpb92⟩) (by assumption) ?rpb92
          case hpb92 => intro w hSw; (try dsimp only at hSw); go_simp; try with_reducible rfl
          simp only [Act.put, List.getElem_toArray, List.getElem_cons_succ, List.getElem_cons_zero, List.setIfInBounds_toArray, List.set_cons_succ, List.set_cons_zero]
          refine wpAnyH_take (i := 27) (v := ?vpb95) rfl (by kernel_rfl) (by kernel_rfl) (by kernel_rfl) (fun _ _ _ h => h) (Or.inl ⟨by rfl, ?hpb95⟩) (by assumption) ?rpb95
          case hpb95 => intro w hSw; (try dsimp only at hSw); go_simp; try with_reducible rfl
          simp only [Act.put, List.getElem_toArray, List.getElem_cons_succ, List.getElem_cons_zero, List.setIfInBounds_toArray, List.set_cons_succ, List.set_cons_zero]
          refine wpAnyH_take (i := 28) (v := ?vpb98) rfl (by kernel_rfl) (by kernel_rfl) (by kernel_rfl) (fun _ _ _ h => h) (Or.inl ⟨by rfl, ?hpb98⟩) (by assumption) ?rpb98
          case hpb98 => intro w hSw; (try dsimp only at hSw); go_simp; try with_reducible rfl
          simp only [Act.put, List.getElem_toArray, List.getElem_cons_succ, List.getElem_cons_zero, List.setIfInBounds_toArray, List.set_cons_succ, List.set_cons_zero]
          refine wpAnyH_take (i := 29) (v := ?vpb101) rfl (by kernel_rfl) (by kernel_rfl) (by kernel_rfl) (fun _ _ _ h => h) (Or.inl ⟨by rfl, ?hpb101⟩) (by assumption) ?rpb101
          case hpb101 => intro w hSw; (try dsimp only at hSw); go_simp; try with_reducible rfl
          simp only [Act.put, List.getElem_toArray, List.getElem_cons_succ, List.getElem_cons_zero, List.setIfInBounds_toArray, List.set_cons_succ, List.set_cons_zero]
          refine wpAnyH_take (i := 30) (v := ?vpb104) rfl (by kernel_rfl) (by kernel_rfl) (by kernel_rfl) (fun _ _ _ h => h) (Or.inl ⟨by rfl, ?hpb104⟩) (by assumption) ?rpb104
          case hpb104 => intro w hSw; (try dsimp only at hSw); go_simp; try with_reducible rfl
          simp only [Act.put, List.getElem_toArray, List.getElem_cons_succ, List.getElem_cons_zero, List.setIfInBounds_toArray, List.set_cons_succ, List.set_cons_zero]
          refine wpAnyH_take (i := 31) (v := ?vpb107) rfl (by kernel_rfl) (by kernel_rfl) (by kernel_rfl) (fun _ _ _ h => h) (Or.inl ⟨by rfl, ?hpb107⟩) (by assumption) ?rpb107
          case hpb107 => intro w hSw; (try dsimp only at hSw); go_simp; try with_reducible rfl
          simp only [Act.put, List.getElem_toArray, List.getElem_cons_succ, List.getElem_cons_zero, List.setIfInBounds_toArray, List.set_cons_succ, List.set_cons_zero]
          refine wpAnyH_done (by kernel_rfl) ?_ _
          go_wp2
          go_ret
          exact ⟨by first | rfl | simp, HB7.out⟩
        | some yc =>
          rw [hc] at hop
          have HRC := Lib.hid hc
          have hbz : ((B : Int) == 0) = true := by simp at hop; simp; omega
          clear hop hc
          go_wp2_with fail
          refine (copen_is _ _ _ zs _ HSLZ.out (by omega)).mono ?_
          rintro e w6 ⟨h6, hb6⟩
          obtain ⟨a6, n6, c6, rfl, hs6⟩ := h6.some HRC.out
          have S6 := Lib.hid (S5.out.below hb6 (Nat.le_refl _))
          have X6 := Lib.hid (X5.out.below hb6 (Nat.le_refl _))
          have Y6 := Lib.hid (Y5.out.below hb6 (Nat.le_refl _))
          have B6 := B5.out.trans (hb6.mono B5.out.size)
          have HB6 : Hid (Below w.heap.size w w6.drew) := ⟨B6.os, B6.tape, B6.output, B6.size, B6.block⟩
          have HK0 : Hid ((convert 22 9 (.slice a0 len0 cap0)).run Try.prog w6.drew = .ok (.string S) w6.drew ∧ (convert 22 9 (.slice a3 n3 c3)).run Try.prog w6.drew = .ok (.string S) w6.drew) := ⟨by rw [HSD.out]; exact S6.out.drew.str, by rw [HSD.out]; exact X6.out.drew.str⟩
          clear h6 hb6 B6 hs6
          go_wp2
          refine wp_region_held_drew (S := (fun W => (convert 22 9 (.slice a0 len0 cap0)).run Try.prog W = .ok (.string S) W ∧ (convert 22 9 (.slice a3 n3 c3)).run Try.prog W = .ok (.string S) W)) (by kernel_rfl) (by first | (first | exact HK7.out | exact HK0.out) | ((try dsimp only); first | exact HK7.out | exact HK0.out)) (fun hHeld => ?_)
          refine wpAnyH_take (i := 0) (v := ?vpa1) rfl (by kernel_rfl) (by kernel_rfl) (by kernel_rfl) (fun _ _ _ h => h) (Or.inl ⟨by rfl, ?hpa1⟩) (by assumption) ?rpa1
          case hpa1 => intro w hSw; (try dsimp only at hSw); go_simp; try with_reducible rfl
          simp only [Act.put, List.getElem_toArray, List.getElem_cons_succ, List.getElem_cons_zero, List.setIfInBounds_toArray, List.set_cons_succ, List.set_cons_zero]
          refine wpAnyH_take (i := 1) (v := ?vpa4) rfl (by kernel_rfl) (by kernel_rfl) (by kernel_rfl) (fun _ _ _ h => h) (Or.inl ⟨by rfl, ?hpa4⟩) (by assumption) ?rpa4
          case hpa4 => intro w hSw; (try dsimp only at hSw); go_simp; try with_reducible rfl
          simp only [Act.put, List.getElem_toArray, List.getElem_cons_succ, List.getElem_cons_zero, List.setIfInBounds_toArray, List.set_cons_succ, List.set_cons_zero]
          refine wpAnyH_take (i := 2) (v := ?vpa7) rfl (by kernel_rfl) (by kernel_rfl) (by kernel_rfl) (fun _ _ _ h => h) (Or.inl ⟨by rfl, ?hpa7⟩) (by assumption) ?rpa7
          case hpa7 => intro w hSw; (try dsimp only at hSw); go_simp; try with_reducible rfl
          simp only [Act.put, List.getElem_toArray, List.getElem_cons_succ, List.getElem_cons_zero, List.setIfInBounds_toArray, List.set_cons_succ, List.set_cons_zero]
          refine wpAnyH_take (i := 3) (v := ?vpa10) rfl (by kernel_rfl) (by kernel_rfl) (by kernel_rfl) (fun _ _ _ h => h) (Or.inl ⟨by rfl, ?hpa10⟩) (by assumption) ?rpa10
          case hpa10 => intro w hSw; (try dsimp only at hSw); go_simp; try with_reducible rfl
          simp only [Act.put, List.getElem_toArray, List.getElem_cons_succ, List.getElem_cons_zero, List.setIfInBounds_toArray, List.set_cons_succ, List.set_cons_zero]
          refine wpAnyH_take (i := 4) (v := ?vpa13) rfl (by kernel_rfl) (by kernel_rfl) (by kernel_rfl) (fun _ _ _ h => h) (Or.inl ⟨by rfl, ?hpa13⟩) (by assumption) ?rpa13
          case hpa13 => intro w hSw; (try dsimp only at hSw); go_simp; try with_reducible rfl
          simp only [Act.put, List.getElem_toArray, List.getElem_cons_succ, List.getElem_cons_zero, List.setIfInBounds_toArray, List.set_cons_succ, List.set_cons_zero]
          refine wpAnyH_take (i := 5) (v := ?vpa16) rfl (by kernel_rfl) (by kernel_rfl) (by kernel_rfl) (fun _ _ _ h => h) (Or.inl ⟨by rfl, ?hpa16⟩) (by assumption) ?rpa16
          case hpa16 => intro w hSw; (try dsimp only at hSw); go_simp; try with_reducible rfl
          simp only [Act.put, List.getElem_toArray, List.getElem_cons_succ, List.getElem_cons_zero, List.setIfInBounds_toArray, List.set_cons_succ, List.set_cons_zero]
          refine wpAnyH_take (i := 6) (v := ?vpa19) rfl (by kernel_rfl) (by kernel_rfl) (by kernel_rfl) (fun _ _ _ h => h) (Or.inl ⟨by rfl, ?hpa19⟩) (by assumption) ?rpa19
          case hpa19 => intro w hSw; (try dsimp only at hSw); go_simp; try with_reducible rfl
          simp only [Act.put, List.getElem_toArray, List.getElem_cons_succ, List.getElem_cons_zero, List.setIfInBounds_toArray, List.set_cons_succ, List.set_cons_zero]
          refine wpAnyH_take (i := 7) (v := ?vpa22) rfl (by kernel_rfl) (by kernel_rfl) (by kernel_rfl) (fun _ _ _ h => h) (Or.inl ⟨by rfl, ?hpa22⟩) (by assumption) ?rpa22
          case hpa22 => intro w hSw; (try dsimp only at hSw); go_simp; try with_reducible rfl
          simp only [Act.put, List.getElem_toArray, List.getElem_cons_succ, List.getElem_cons_zero, List.setIfInBounds_toArray, List.set_cons_succ, List.set_cons_zero]
          refine wpAnyH_take (i := 8) (v := ?vpa25) rfl (by kernel_rfl) (by kernel_rfl) (by kernel_rfl) (fun _ _ _ h => h) (Or.inl ⟨by rfl, ?hpa25⟩) (by assumption) ?rpa25
          case hpa25 => intro w hSw; (try dsimp only at hSw); go_simp; try with_reducible rfl
          simp only [Act.put, List.getElem_toArray, List.getElem_cons_succ, List.getElem_cons_zero, List.setIfInBounds_toArray, List.set_cons_succ, List.set_cons_zero]
          refine wpAnyH_take (i := 9) (v := ?vpa28) rfl (by kernel_rfl) (by kernel_rfl) (by kernel_rfl) (fun _ _ _ h => h) (Or.inl ⟨by rfl, ?hpa28⟩) (by assumption) ?rpa28
          case hpa28 => intro w hSw; (try dsimp only at hSw); go_simp; try with_reducible rfl
          simp only [Act.put, List.getElem_toArray, List.getElem_cons_succ, List.getElem_cons_zero, List.setIfInBounds_toArray, List.set_cons_succ, List.set_cons_zero]
          refine wpAnyH_take (i := 10) (v := ?vpa31) rfl (by kernel_rfl) (by kernel_rfl) (by kernel_rfl) (fun _ _ _ h => h) (Or.inl ⟨by rfl, ?hpa31⟩) (by assumption) ?rpa31
          case hpa31 => intro w hSw; (try dsimp only at hSw); go_simp; try with_reducible rfl
          simp only [Act.put, List.getElem_toArray, List.getElem_cons_succ, List.getElem_cons_zero, List.setIfInBounds_toArray, List.set_cons_succ, List.set_cons_zero]
          refine wpAnyH_take (i := 11) (v := ?vpa34) rfl (by kernel_rfl) (by kernel_rfl) (by kernel_rfl) (fun _ _ _ h => h) (Or.inl ⟨by rfl, ?hpa34⟩) (by assumption) ?rpa34
          case hpa34 => intro w hSw; (try dsimp only at hSw); go_simp; try with_reducible rfl
          simp only [Act.put, List.getElem_toArray, List.getElem_cons_succ, List.getElem_cons_zero, List.setIfInBounds_toArray, List.set_cons_succ, List.set_cons_zero]
          refine wpAnyH_take (i := 12) (v := ?vpa37) rfl (by kernel_rfl) (by kernel_rfl) (by kernel_rfl) (fun _ _ _ h => h) (Or.inl ⟨by rfl, ?hpa37⟩) (by assumption) ?rpa37
          case hpa37 => intro w hSw; (try dsimp only at hSw); go_simp; try with_reducible rfl
          simp only [Act.put, List.getElem_toArray, List.getElem_cons_succ, List.getElem_cons_zero, List.setIfInBounds_toArray, List.set_cons_succ, List.set_cons_zero]
          refine wpAnyH_take (i := 13) (v := ?vpa40) rfl (by kernel_rfl) (by kernel_rfl) (by kernel_rfl) (fun _ _ _ h => h) (Or.inl ⟨by rfl, ?hpa40⟩) (by assumption) ?rpa40
          case hpa40 => intro w hSw; (try dsimp only at hSw); go_simp; try with_reducible rfl
          simp only [Act.put, List.getElem_toArray, List.getElem_cons_succ, List.getElem_cons_zero, List.setIfInBounds_toArray, List.set_cons_succ, List.set_cons_zero]
          refine wpAnyH_take (i := 14) (v := ?vpa43) rfl (by kernel_rfl) (by kernel_rfl) (by kernel_rfl) (fun _ _ _ h => h) (Or.inl ⟨by rfl, ?hpa43⟩) (by assumption) ?rpa43
          case hpa43 => intro w hSw; (try dsimp only at hSw); go_simp; try with_reducible rfl
          simp only [Act.put, List.getElem_toArray, List.getElem_cons_succ, List.getElem_cons_zero, List.setIfInBounds_toArray, List.set_cons_succ, List.set_cons_zero]
          refine wpAnyH_take (i := 15) (v := ?vpa46) rfl (by kernel_rfl) (by kernel_rfl) (by kernel_rfl) (fun _ _ _ h => h) (Or.inl ⟨by rfl, ?hpa46⟩) (by assumption) ?rpa46
          case hpa46 => intro w hSw; (try dsimp only at hSw); go_simp; try with_reducible rfl
          simp only [Act.put, List.getElem_toArray, List.getElem_cons_succ, List.getElem_cons_zero, List.setIfInBounds_toArray, List.set_cons_succ, List.set_cons_zero]
          refine wpAnyH_take (i := 16) (v := ?vpa49) rfl (by kernel_rfl) (by kernel_rfl) (by kernel_rfl) (fun _ _ _ h => h) (Or.inl ⟨by rfl, ?hpa49⟩) (by assumption) ?rpa49
          case hpa49 => intro w hSw; (try dsimp only at hSw); go_simp; try with_reducible rfl
          simp only [Act.put, List.getElem_toArray, List.getElem_cons_succ, List.getElem_cons_zero, List.setIfInBounds_toArray, List.set_cons_succ, List.set_cons_zero]
          refine wpAnyH_take (i := 19) (v := ?vpa52) rfl (by kernel_rfl) (by kernel_rfl) (by kernel_rfl) (fun _ _ _ h => h) (Or.inl ⟨by rfl, ?hpa52⟩) (by assumption) ?rpa52
          case hpa52 => intro w hSw; (try dsimp only at hSw); go_simp; try with_reducible rfl
          simp only [Act.put, List.getElem_toArray, List.getElem_cons_succ, List.getElem_cons_zero, List.setIfInBounds_toArray, List.set_cons_succ, List.set_cons_zero]
          refine wpAnyH_take (i := 20) (v := ?vpa55) rfl (by kernel_rfl) (by kernel_rfl) (by kernel_rfl) (fun _ _ _ h => h) (Or.inl ⟨by rfl, ?hpa55⟩) (by assumption) ?rpa55
          case hpa55 => intro w hSw; (try dsimp only at hSw); go_simp; try with_reducible rfl
          simp only [Act.put, List.getElem_toArray, List.getElem_cons_succ, List.getElem_cons_zero, List.setIfInBounds_toArray, List.set_cons_succ, List.set_cons_zero]
          refine wpAnyH_ready (rs := [17]) (by kernel_rfl) (by simp) ?_
          refine AllReadyH.cons rfl (fun K hK => ?_) AllReadyH.nil
          go_simp
          refine (HSY.out _ _ _ _ Y6.out.drew).mono ?_
          intro e w7 h7
          obtain ⟨a7, n7, c7, rfl, -, hs7, -, hb7⟩ := MadeB.sl h7 HWB.out
          have k7 : (convert 22 9 (.slice a7 n7 c7)).run Try.prog w7 = .ok (.string S) w7 := by rw [HSD.out]; exact hs7.str
          have HK7 : Hid ((convert 22 9 (.slice a0 len0 cap0)).run Try.prog w7 = .ok (.string S) w7 ∧ (convert 22 9 (.slice a3 n3 c3)).run Try.prog w7 = .ok (.string S) w7) := ⟨by rw [HSD.out]; exact (S6.out.drew.below hb7 (Nat.le_refl _)).str, by rw [HSD.out]; exact (X6.out.drew.below hb7 (Nat.le_refl _)).str⟩
          have HB7 : Hid (Below w.heap.size w w7) := HB6.out.trans (hb7.mono HB6.out.size)
          clear h7 hs7 hb7
          refine hK.out _ _ (by first | (first | exact HK7.out | exact HK0.out) | ((try dsimp only); first | exact HK7.out | exact HK0.out)) (fun hHeld => ?_)
          clear hK K
          try simp only [Act.put, List.getElem_toArray, List.getElem_cons_succ, List.getElem_cons_zero, List.setIfInBounds_toArray, List.set_cons_succ, List.set_cons_zero]
          refine wpAnyH_ready (rs := [18]) (by kernel_rfl) (by simp) ?_
          refine AllReadyH.cons rfl (fun K hK => ?_) AllReadyH.nil
          go_simp
          refine hK.out _ _ (by first | (first | exact HK7.out | exact HK0.out) | ((try dsimp only); first | exact HK7.out | exact HK0.out)) (fun hHeld => ?_)
          clear hK K
          try simp only [Act.put, List.getElem_toArray, List.getElem_cons_succ, List.getElem_cons_zero, List.setIfInBounds_toArray, List.set_cons_succ, List.set_cons_zero]
          refine wpAnyH_take (i := 21) (v := ?vpa77) rfl (by kernel_rfl) (by kernel_rfl) (by kernel_rfl) (fun _ _ _ h => h) (Or.inl ⟨by rfl, ?hpa77⟩) (by assumption) ?rpa77
          case hpa77 => intro w hSw; (try dsimp only at hSw); go_simp; try with_reducible rfl
          simp only [Act.put, List.getElem_toArray, List.getElem_cons_succ, List.getElem_cons_zero, List.setIfInBounds_toArray, List.set_cons_succ, List.set_cons_zero]
          refine wpAnyH_take (i := 22) (v := ?vpa80) rfl (by kernel_rfl) (by kernel_rfl) (by kernel_rfl) (fun _ _ _ h => h) (Or.inl ⟨by rfl, ?hpa80⟩) (by assumption) ?rpa80
          case hpa80 => intro w hSw; (try dsimp only at hSw); go_simp; try with_reducible rfl
          simp only [Act.put, List.getElem_toArray, List.getElem_cons_succ, List.getElem_cons_zero, List.setIfInBounds_toArray, List.set_cons_succ, List.set_cons_zero]
          refine wpAnyH_take (i := 23) (v := ?vpa83) rfl (by kernel_rfl) (by kernel_rfl) (by kernel_rfl) (fun _ _ _ h => h) (Or.inl ⟨by rfl, ?hpa83⟩) (by assumption) ?rpa83
          case hpa83 => intro w hSw; (try dsimp only at hSw); go_simp; try with_reducible rfl
          simp only [Act.put, List.getElem_toArray, List.getElem_cons_succ, List.getElem_cons_zero, List.setIfInBounds_toArray, List.set_cons_succ, List.set_cons_zero]
          refine wpAnyH_take (i := 24) (v := ?vpa86) rfl (by kernel_rfl) (by kernel_rfl) (by kernel_rfl) (fun _ _ _ h => h) (Or.inl ⟨by rfl, ?hpa86⟩) (by assumption) ?rpa86
          case hpa86 => intro w hSw; (try dsimp only at hSw); go_simp; try with_reducible rfl
          simp only [Act.put, List.getElem_toArray, List.getElem_cons_succ, List.getElem_cons_zero, List.setIfInBounds_toArray, List.set_cons_succ, List.set_cons_zero]
          refine wpAnyH_take (i := 25) (v := ?vpa89) rfl (by kernel_rfl) (by kernel_rfl) (by kernel_rfl) (fun _ _ _ h => h) (Or.inl ⟨by rfl, ?hpa89⟩) (by assumption) ?rpa89
          case hpa89 => intro w hSw; (try dsimp only at hSw); go_simp; try with_reducible rfl
          simp only [Act.put, List.getElem_toArray, List.getElem_cons_succ, List.getElem_cons_zero, List.setIfInBounds_toArray, List.set_cons_succ, List.set_cons_zero]
          refine wpAnyH_take (i := 26) (v := ?vpa92) rfl (by kernel_rfl) (by kernel_rfl) (by kernel_rfl) (fun _ _ _ h => h) (Or.inl ⟨by rfl, ?hpa92⟩) (by assumption) ?rpa92
          case hpa92 => intro w hSw; (try dsimp only at hSw); go_simp; try with_reducible rfl
          simp only [Act.put, List.getElem_toArray, List.getElem_cons_succ, List.getElem_cons_zero, List.setIfInBounds_toArray, List.set_cons_succ, List.set_cons_zero]
          refine wpAnyH_take (i := 27) (v := ?vpa95) rfl (by kernel_rfl) (by kernel_rfl) (by kernel_rfl) (fun _ _ _ h => h) (Or.inl ⟨by rfl, ?hpa95⟩) (by assumption) ?rpa95
          case hpa95 => intro w hSw; (try dsimp only at hSw); go_simp; try with_reducible rfl
          simp only [Act.put, List.getElem_toArray, List.getElem_cons_succ, List.getElem_cons_zero, List.setIfInBounds_toArray, List.set_cons_succ, List.set_cons_zero]
          refine wpAnyH_take (i := 28) (v := ?vpa98) rfl (by kernel_rfl) (by kernel_rfl) (by kernel_rfl) (fun _ _ _ h => h) (Or.inl ⟨by rfl, ?hpa98⟩) (by assumption) ?rpa98
          case hpa98 => intro w hSw; (try dsimp only at hSw); go_simp; try with_reducible rfl
          simp only [Act.put, List.getElem_toArray, List.getElem_cons_succ, List.getElem_cons_zero, List.setIfInBounds_toArray, List.set_cons_succ, List.set_cons_zero]
          refine wpAnyH_take (i := 29) (v := ?vpa101) rfl (by kernel_rfl) (by kernel_rfl) (by kernel_rfl) (fun _ _ _ h => h) (Or.inl ⟨by rfl, ?hpa101⟩) (by assumption) ?rpa101
          case hpa101 => intro w hSw; (try dsimp only at hSw); go_simp; try with_reducible rfl
          simp only [Act.put, List.getElem_toArray, List.getElem_cons_succ, List.getElem_cons_zero, List.setIfInBounds_toArray, List.set_cons_succ, List.set_cons_zero]
          refine wpAnyH_take (i := 30) (v := ?vpa104) rfl (by kernel_rfl) (by kernel_rfl) (by kernel_rfl) (fun _ _ _ h => h) (Or.inl ⟨by rfl, ?hpa104⟩) (by assumption) ?rpa104
          case hpa104 => intro w hSw; (try dsimp only at hSw); go_simp; try with_reducible rfl
          simp only [Act.put, List.getElem_toArray, List.getElem_cons_succ, List.getElem_cons_zero, List.setIfInBounds_toArray, List.set_cons_succ, List.set_cons_zero]
          refine wpAnyH_take (i := 31) (v := ?vpa107) rfl (by kernel_rfl) (by kernel_rfl) (by kernel_rfl) (fun _ _ _ h => h) (Or.inl ⟨by rfl, ?hpa107⟩) (by assumption) ?rpa107
          case hpa107 => intro w hSw; (try dsimp only at hSw); go_simp; try with_reducible rfl
          simp only [Act.put, List.getElem_toArray, List.getElem_cons_succ, List.getElem_cons_zero, List.setIfInBounds_toArray, List.set_cons_succ, List.set_cons_zero]
          refine wpAnyH_done (by kernel_rfl) ?_ _
          go_wp2
          go_ret
          exact ⟨by first | rfl | simp, HB7.out⟩

/-! ### THE ROW's STEP: WRITTEN OUT: LEAVE IT -/
set_option maxRecDepth 100000 in
theorem lifted (os : Os) (started : os.Started) (H : Type) (enc : TypeId × Value → H) :
    ReturnsInHanded {} Try.checked os 4 .any (Rows.crcBackSpec.pre6 enc Try.prog Try.f4 Rows.crcBackRow.domain false) (Rows.crcBackSpec.post enc Try.prog Try.f4 false true false false) := by
  refine returnsInHanded_of_change (C := Try.checked) own started (by kernel_rfl) Try.func4
    (ChangeSpec.witness6 (enc := enc) (C := Try.checked) false ⟨#[], #[.slice none 0 0, .int .u16 0, .int .u32 0], []⟩ 8 (by kernel_rfl) (by kernel_rfl) (by kernel_rfl) (by kernel_rfl)) ?_
  intro W base args ds gs before hval0 hW hcnd _
  have hval : ∀ (j : Nat) t v, Try.f4.params[j]? = some t → args[j]? = some v → Value.okWide Try.prog W .any base t v := hval0
  have hW' := hW
  obtain ⟨p, q, hA0, hV, rfl, hfz, hnd⟩ := hW
  have hA : DataW.TrodAll enc Try.prog W 0 (fun _ => true) true Try.f4.params.toList args.toList ds p := hA0
  rw [Try.params4] at hA hval
  obtain ⟨v0, vs0, d0, ds0, p0, q0, hargs, rfl, rfl, h0, r0⟩ := trodAll_cons hA
  obtain ⟨v1, vs1, d1, ds1, p1, q1, rfl, rfl, rfl, h1, r1⟩ := trodAll_cons r0
  obtain ⟨v2, vs2, d2, ds2, p2, q2, rfl, rfl, rfl, h2, r2⟩ := trodAll_cons r1
  obtain ⟨rfl, rfl, rfl⟩ := trodAll_nil r2
  obtain rfl : args = #[v0, v1, v2] := by cases args; simp_all
  obtain ⟨rfl, rfl⟩ := trodVars_none hV
  obtain ⟨a0, len0, cap0, rfl⟩ := okWide_slice Try.underlying22 (hval 0 22 v0 rfl rfl)
  have k0 := h0
  have lt0 : ∀ x ∈ p0, x.block < W.heap.size := by obtain ⟨m, hm⟩ := k0; exact DataW.trod_lt m _ _ _ hm
  obtain ⟨z0, w0⟩ : ∃ zs, IsRow .u8 W a0 len0 cap0 zs := by
    obtain ⟨fuel, hf⟩ := h0
    rcases open_ints Try.underlying22 Try.underlying5 (by kernel_rfl) hf with ⟨hcs, _⟩ | ⟨x, l, c, zs, hcs, _, hl, hm, hz, _, hcell, hwz⟩
    · simp [Value.cells] at hcs
      obtain ⟨rfl, rfl, rfl⟩ := hcs
      exact ⟨[], .inl ⟨rfl, rfl, rfl, rfl⟩⟩
    · simp [Value.cells] at hcs
      obtain ⟨rfl, rfl, rfl⟩ := hcs
      exact ⟨zs, .inr ⟨_, rfl, hl, hm, by simpa using hz, hcell, hwz⟩⟩
  obtain ⟨a1, rfl, rfl, rfl, w1⟩ := open_int Try.underlying31 (hval 1 31 v1 rfl rfl) h1
  obtain ⟨a2, rfl, rfl, rfl, w2⟩ := open_int Try.underlying27 (hval 2 27 v2 rfl rfl) h2
  clear hA0 hval0
  refine (walk a0 len0 cap0 z0 a1 a2 W w0 w1 w2).mono fun e W' ⟨he, bel⟩ => ?_
  subst he
  exact ⟨_, rfl, _, _, _, [], _, [], hW', trodAll_mk1 (shut_bool Try.underlying4 _), (trodAll_cons_mk (Below.trod laidOut (by kernel_rfl) (of_decide_eq_true (by kernel_rfl)) k0 bel lt0) (trodAll_cons_mk (shut_int Try.underlying31 w1) (trodAll_cons_mk (shut_int Try.underlying27 w2) trodAll_mk0))), rfl, bel.frame _, fun h => by cases h⟩

theorem over : Rows.crcBackRow.holds Try.pinned (OpenSpec.ofChange Rows.crcBackSpec) :=
  OpenClaim.holds_of_wide 4 Try.f4 rfl rfl rfl rfl rfl rfl rfl ⟨rfl, rfl, rfl, rfl, rfl⟩ rfl rfl rfl rfl rfl (by kernel_rfl) Try.func4 (by kernel_rfl)
    (of_decide_eq_true (by kernel_rfl)) (by unfold Func.isWrapper; first | (rw [if_pos (by decide +kernel)]; kernel_rfl) | (rw [if_neg (by decide +kernel)]; exact ⟨rfl, rfl⟩))
    (fun os started H enc _ => lifted os started H enc)

/-- ████ THE STATEMENT ████ -/
theorem proved : Rows.CrcBackSaid := over
#print axioms proved
end Go.Proofs.Ythblpmejkjdkcaa.crcBack
