/- For all costs, whatever was asked, and any place, StepsMany answers true, and turns nothing that was there. No condition. -/
import Derived.Test.YtpcebfefbnpbpaaRows
import Derived.Test.YtpcebfefbnpbpaaStpLaw
import Derived.Test.YtpcebfefbnpbpaaStpProg
import Derived.Test.YtpcebfefbnpbpaaPackN
import Derived.BigQuiet
import Derived.WalkKit
import Derived.ProofKit
import Derived.OpenShut
import Derived.ShutString
import Derived.ChangeOld
import Derived.Below
import Derived.Deep.Matrix
import Derived.SizedLaws
set_option linter.all false
set_option maxRecDepth 100000
set_option maxHeartbeats 12800000
namespace Go.Proofs.Ytpcebfefbnpbpaa.stepsMany
open Go.ChangeShapes Go.WideShapes Go.ChangeAt Go.RowKit
set_option linter.unusedVariables false

theorem own : ownKnob Try.prog.godebug = none := by kernel_rfl
theorem laidOut : laidOutB Try.prog = true := by kernel_rfl

/-- a slice of integers that came in -/
def IsRow (k : IntKind) (w : World) (a : Option Addr) (len cap : Nat) (zs : List Int) : Prop :=
  (a = none ∧ len = 0 ∧ cap = 0 ∧ zs = []) ∨
  ∃ x, a = some x ∧ len ≤ cap ∧ cap ≤ maxLen ∧ zs.length = cap ∧ (∀ i, i < zs.length → w.cell? (x.add i) = some (.int k (zs.getD i 0))) ∧ ∀ n ∈ zs, (Lit.int k n).wf = true

theorem unlike_no7 {l : List Int} (h : l.length ≤ 1) : Stp.unlike l = false := by
  unfold Stp.unlike
  rw [decide_eq_false (show ¬ 1 < l.length by omega)]; rfl

theorem walk (x0 : Cw) (a1 : Option Addr) (len1 cap1 : Nat) (z1 : List Int) (a2 : Int) (w : World) (w0 : x0.Good w) (n0 : x0.a = none → x0.cap = 0) (w1 : IsRow .i64 w a1 len1 cap1 z1) (w2 : (Lit.int .i64 a2).wf = true) :
    Calls Try.prog 7 #[x0.v, .slice a1 len1 cap1, .int .i64 a2] w fun e w' => e = .returned (.bool true) ∧ Below w.heap.size w w' := by
  have hs1 := Sl.of_row w1
  generalize z1.take len1 = zs at hs1
  have hnc1 := hs1.2.1
  have hcm1 := hs1.2.2.1
  unfold maxLen at hcm1
  have HQ := Lib.hid hs1
  have HQL : Hid (zs.length = len1) := Lib.hid hs1.1
  clear hs1 w1
  have hi2 := bounds_i64 w2
  clear w2
  have hmx : Try.prog.follows .mixedOrders = true := by kernel_rfl
  obtain ⟨cm, cl, co, ct, ra, rn, rcap, xs⟩ := x0
  have HC := Lib.hid w0
  have hrc := w0.1.2.1
  have hrm := w0.1.2.2.1
  unfold maxLen at hrm
  have HRL : Hid (xs.length = rn) := Lib.hid w0.1.1
  clear w0 n0
  obtain ⟨W0, hW0⟩ : ∃ W, W = w.alloc (.cells #[.int .u64 cm, .int .u64 cl, .int .u64 co, .int .u64 ct, .slice ra rn rcap] 25) := ⟨_, rfl⟩
  have HWB : Hid (Below w.heap.size w W0) := Lib.hid (by rw [hW0]; exact (Below.refl _ w).alloc (Nat.le_refl _) _)
  have HKP : Hid (∀ W, Below W0.heap.size W0 W → W.cell? ⟨w.heap.size, 0, none⟩ = some (.int .u64 cm) ∧ W.cell? ⟨w.heap.size, 1, none⟩ = some (.int .u64 cl) ∧ W.cell? ⟨w.heap.size, 2, none⟩ = some (.int .u64 co) ∧ W.cell? ⟨w.heap.size, 3, none⟩ = some (.int .u64 ct) ∧ W.cell? ⟨w.heap.size, 4, none⟩ = some (.slice ra rn rcap)) := Lib.hid fun W hb =>
    five_cells ((hb.block w.heap.size (by rw [hW0]; simp)).trans (show W0.heap[w.heap.size]? = some (.cells #[.int .u64 cm, .int .u64 cl, .int .u64 co, .int .u64 ct, .slice ra rn rcap] 25 (0, 0)) by rw [hW0]; exact heap_alloc_new w _))
  have HIN : Hid (∀ W, Below W0.heap.size W0 W → Below w.heap.size w W) := Lib.hid fun W hb => HWB.out.trans (hb.mono HWB.out.size)
  have HCG : Hid (∀ W, Below W0.heap.size W0 W → Cw.Good W ⟨cm, cl, co, ct, ra, rn, rcap, xs⟩) := Lib.hid fun W hb => HC.out.below (HIN.out W hb) (Nat.le_refl _)
  simp only [Cw.v, Cw.cells]
  go_enter Try.func7, Try.ntmps7
  go_wp2_with fail
  rw [← hW0]
  refine (awake_any _).mono ?_
  rintro e w1 ⟨rfl, hb⟩
  have HB1 : Hid (Below W0.heap.size W0 w1) := Lib.hid hb
  clear hb hW0
  obtain ⟨k0, k1, k2, k3, k4⟩ := HKP.out _ HB1.out
  go_wp2_with fail
  clear k0 k1 k2 k3 k4
  refine (few17_is ⟨cm, cl, co, ct, ra, rn, rcap, xs⟩ a1 len1 cap1 w1 (HCG.out _ HB1.out) (by omega)).mono ?_
  rintro e w2 ⟨he, hb⟩
  have HB2 : Hid (Below W0.heap.size W0 w2) := Lib.hid (HB1.out.trans (hb.mono HB1.out.size))
  clear hb
  rcases he with rfl | ⟨rfl, hn300, hq100⟩
  · go_wp2
    go_ret
    exact ⟨rfl, HIN.out _ HB2.out⟩
  dsimp only at hn300
  obtain ⟨k0, k1, k2, k3, k4⟩ := HKP.out _ HB2.out
  go_wp2_with fail
  clear k0 k1 k2 k3 k4
  refine (sat17_is ⟨cm, cl, co, ct, ra, rn, rcap, xs⟩ a1 len1 cap1 zs a2 w2 w2 (Below.refl _ _) (HCG.out _ HB2.out) (HQ.out.below (HIN.out _ HB2.out) (Nat.le_refl _))).mono ?_
  rintro e w5 ⟨p5, n5, c5, xs5, rfl, hm, ht, hn, hb⟩
  have HT5 := Lib.hid ht
  have HB5 : Hid (Below W0.heap.size W0 w5) := Lib.hid (HB2.out.trans (hb.mono HB2.out.size))
  have HL5 : Hid ((Stp.at' (Cw.c ⟨cm, cl, co, ct, ra, rn, rcap, xs⟩) zs a2).length = n5) := Lib.hid (by rw [← ht, stps_length]; exact hm.len)
  clear hm ht hn hb
  obtain ⟨d, hd⟩ : ∃ d, File.check (Cw.c ⟨cm, cl, co, ct, ra, rn, rcap, xs⟩) = d := ⟨_, rfl⟩
  have HD := Lib.hid hd
  clear hd
  obtain ⟨k0, k1, k2, k3, k4⟩ := HKP.out _ HB5.out
  go_wp2_with fail
  clear k0 k1 k2 k3 k4
  refine (fcheck_is ⟨cm, cl, co, ct, ra, rn, rcap, xs⟩ d w5 (HCG.out _ HB5.out) HD.out).mono ?_
  rintro e w6 ⟨rfl, hb⟩
  have HB6 : Hid (Below W0.heap.size W0 w6) := Lib.hid (HB5.out.trans (hb.mono HB5.out.size))
  clear hb
  have HOUT : Hid (d = false ∨ 20 < len1 ∨ a2 < 0 ∨ (len1 : Int) < a2 → n5 = 0) := Lib.hid fun h => by
    rw [← HL5.out, Stp.at_out]
    · rfl
    · unfold Stp.ok
      rw [HD.out, HQL.out]
      rcases h with rfl | h | h | h
      · exact .inl rfl
      · exact .inl (by rw [decide_eq_false (by omega), Bool.and_false])
      · exact .inr (.inl h)
      · exact .inr (.inr h)
  cases d with
  | false =>
    obtain rfl : n5 = 0 := HOUT.out (.inl rfl)
    have hf1 : ((0 : Int) == (0 : Int)) = true := by simp
    go_wp2
    go_ret
    exact ⟨rfl, HIN.out _ HB6.out⟩
  | true =>
    by_cases hl20 : len1 ≤ 20
    · have hl1 : ¬ (20 : Int) < (len1 : Int) := by omega
      have hl2 : decide ((20 : Int) < (len1 : Int)) = false := decide_eq_false hl1
      by_cases hi0 : a2 < 0
      · have hi3 : decide (a2 < 0) = true := decide_eq_true hi0
        obtain rfl : n5 = 0 := HOUT.out (.inr (.inr (.inl hi0)))
        have hf1 : ((0 : Int) == (0 : Int)) = true := by simp
        go_wp2
        go_ret
        exact ⟨rfl, HIN.out _ HB6.out⟩
      · have hi3 : decide (a2 < 0) = false := decide_eq_false hi0
        by_cases hil : (len1 : Int) < a2
        · have hi4 : decide ((len1 : Int) < a2) = true := decide_eq_true hil
          obtain rfl : n5 = 0 := HOUT.out (.inr (.inr (.inr hil)))
          have hf1 : ((0 : Int) == (0 : Int)) = true := by simp
          go_wp2
          go_ret
          exact ⟨rfl, HIN.out _ HB6.out⟩
        · have hi4 : decide ((len1 : Int) < a2) = false := decide_eq_false hil
          obtain ⟨i, rfl⟩ : ∃ i : Nat, a2 = (i : Int) := ⟨a2.toNat, by omega⟩
          obtain ⟨ml, hml⟩ : ∃ m, m = len1 - i := ⟨_, rfl⟩
          obtain ⟨mc, hmc⟩ : ∃ m, m = cap1 - i := ⟨_, rfl⟩
          obtain ⟨rs, hrs⟩ : ∃ l, l = zs.drop i := ⟨_, rfl⟩
          have hil' : i ≤ len1 := by omega
          have hi5 : decide (len1 < i) = false := decide_eq_false (by omega)
          have hi6 : ¬ len1 < i := by omega
          have HSB : Hid (∀ W, Below W0.heap.size W0 W → Sl .i64 W (if cap1 = i then a1 else Option.map (fun x => x.add i) a1) ml mc rs) := Lib.hid fun W hb => by
            rw [hml, hmc, hrs]
            exact (HQ.out.below (HIN.out W hb) (Nat.le_refl _)).fromIfS i hil'
          have HRSL : Hid (rs.length = ml) := Lib.hid (by rw [hrs, List.length_drop, HQL.out, hml])
          have HHERE : Hid ((Stp.here (Cw.c ⟨cm, cl, co, ct, ra, rn, rcap, xs⟩) rs).length = n5) := Lib.hid (by
            rw [hrs, ← HL5.out, Stp.at_in (by unfold Stp.ok; rw [HD.out, HQL.out, decide_eq_true hl20]; rfl) (by rw [HQL.out]; omega)])
          have hs1 : (i : Int) ≤ (cap1 : Int) := by omega
          have hs2 : (i : Int) ≤ (len1 : Int) := by omega
          have hs3 : (0 : Int) ≤ (i : Int) := by omega
          have hs4 : (len1 : Int) - (i : Int) = (ml : Int) := by omega
          have hs5 : (cap1 : Int) - (i : Int) = (mc : Int) := by omega
          have hs6 : len1 - i = ml := hml.symm
          have hs7 : cap1 - i = mc := hmc.symm
          have hs8 : ml ≤ mc := by omega
          have hs9 : mc ≤ 9223372036854775807 := by omega
          have hsa : ml ≤ 20 := by omega
          clear hml hmc hrs hi2
          by_cases hm0 : ml = 0
          · have hg0 : ¬ (0 : Int) < (ml : Int) := by omega
            have hg1 : ¬ (1 : Int) < (ml : Int) := by omega
            have hn1 : ¬ 1 < ml := by omega
            have hn1d : decide (1 < ml) = false := decide_eq_false hn1
            have hg2 : decide ((1 : Int) < (ml : Int)) = false := decide_eq_false hg1
            have HCNT : Hid (n5 = 1 + (Stp.ruled rs (ruls xs)).length) := Lib.hid (by
              rw [← HHERE.out, Stp.here_count, if_neg (by rw [HRSL.out]; omega), if_neg (by rw [unlike_no7 (by rw [HRSL.out]; omega)]; decide)]; rfl)
            have HNIL : Hid (rs = []) := Lib.hid (List.eq_nil_of_length_eq_zero (by rw [HRSL.out]; exact hm0))
            have HSV0 : Hid (∀ (W : World) (A : Option Addr), Sl .i64 W A ml mc rs) := Lib.hid fun W A => by
              rw [HNIL.out, hm0]
              exact ⟨rfl, Nat.zero_le _, by unfold maxLen; omega, by simp, .inl rfl⟩
            clear hm0
            go_wp2
            all_goals
              skip
              go_quiet (fail)
              generalize hV : w6.drewN nq = V
              have HBV : Hid (Below W0.heap.size W0 V) := Lib.hid (by rw [← hV]; exact below_drawn HB6.out ⟨_, rfl⟩)
              have HSV := HSV0
              clear hV
              go_wp2
              go_loopw [10, 11, 12] (fun nv kv _ wr => ∃ (k n : Nat), k ≤ rn ∧ kv = .int .i64 (k : Int) ∧ nv = .int .i64 (n : Int) ∧ n ≤ 1 + k ∧ Hid (n = 1 + (Stp.ruled rs ((ruls xs).take k)).length) ∧ Hid (∃ q, wr = V.drewN q)) (fun _ kv _ _ => rn - (intOf kv).toNat)
              case atStart => exact ⟨0, 1, Nat.zero_le _, rfl, rfl, by omega, (by show _ = _; simp [Stp.ruled]), ⟨0, rfl⟩⟩
              case round =>
                obtain ⟨k, n, hk, rfl, rfl, hnk, HNE, HQD⟩ := hrel
                have HBR : Hid (Below V.heap.size V wr) := Lib.hid (below_drawn (Below.refl _ _) HQD.out)
                have HBW : Hid (Below W0.heap.size W0 wr) := Lib.hid (HBV.out.trans (HBR.out.mono HBV.out.size))
                obtain ⟨-, -, -, -, hrl⟩ := HKP.out _ HBW.out
                by_cases hlt : k < rn
                · obtain ⟨rb, ro, la, ln, lc, L, ya, yn, yc, R, CC, rfl, hrb, e1, e2, e3, hsL, hsR, hC0, hC9, hg⟩ := (HCG.out _ HBW.out).1.one k hlt
                  have hat : (ruls xs).getD k Rul.no = ⟨L, R, CC⟩ := by rw [ruls_at, hg]; rfl
                  have hkx : k < (ruls xs).length := by rw [ruls_length, HRL.out]; exact hlt
                  have hnx := Stp.ruled_take (rest := rs) hkx
                  rw [hat] at hnx
                  have HNX := Lib.hid hnx
                  have HSL := Lib.hid hsL
                  have HLN : Hid (L.length = ln) := Lib.hid hsL.1
                  have hlnc := hsL.2.1
                  have hlncm := hsL.2.2.1
                  unfold maxLen at hlncm
                  have hki : (k : Int) < (rn : Int) := by omega
                  clear hat hnx hsL hsR hC0 hC9 hg e2 e3
                  by_cases hge : ln ≤ ml
                  · have hle : (ln : Int) ≤ (ml : Int) := by omega
                    have hle2 : decide ((ln : Int) ≤ (ml : Int)) = true := decide_eq_true hle
                    have hle3 : decide (ln ≤ ml) = true := decide_eq_true hge
                    have hlm : ln ≤ mc := by omega
                    have hlm2 : (ln : Int) ≤ (mc : Int) := by omega
                    have HPC := Lib.hid (fun A : Option Addr => (HSV.out wr A).cutS ln hge)
                    by_cases hs : rs.take ln = L
                    · have HD2 : Hid (decide (rs.take ln = L) = true) := Lib.hid (decide_eq_true hs)
                      have HYS : Hid (Stp.stands rs ⟨L, R, CC⟩ = true) := Lib.hid (by
                        unfold Stp.stands
                        rw [show (⟨L, R, CC⟩ : Rul).L.length = ln from HLN.out]
                        exact HD2.out)
                      clear hs
                      go_wp2
                      go_quiet (exact Calls.quiet_of (same_is _ la ln ln mc lc (rs.take ln) L true _ ((HPC.out _).drewN _) (HSL.out.drewN _) HD2.out))
                      go_wp2
                      go_roundw
                      case rel => exact ⟨k + 1, n + 1, by omega, by go_num, by go_num, by omega, (by show _ = _; rw [HNX.out, HYS.out, HNE.out]; simp; omega), (by obtain ⟨q, hq⟩ := HQD.out; exact ⟨_, by rw [hq, World.drewN_drewN]⟩)⟩
                      case measure => simp [intOf]; omega
                    · have HD2 : Hid (decide (rs.take ln = L) = false) := Lib.hid (decide_eq_false hs)
                      have HYS : Hid (Stp.stands rs ⟨L, R, CC⟩ = false) := Lib.hid (by
                        unfold Stp.stands
                        rw [show (⟨L, R, CC⟩ : Rul).L.length = ln from HLN.out]
                        exact HD2.out)
                      clear hs
                      go_wp2
                      go_quiet (exact Calls.quiet_of (same_is _ la ln ln mc lc (rs.take ln) L false _ ((HPC.out _).drewN _) (HSL.out.drewN _) HD2.out))
                      go_wp2
                      go_roundw
                      case rel => exact ⟨k + 1, n, by omega, by go_num, rfl, by omega, (by show _ = _; rw [HNX.out, HYS.out, HNE.out]; simp), (by obtain ⟨q, hq⟩ := HQD.out; exact ⟨_, by rw [hq, World.drewN_drewN]⟩)⟩
                      case measure => simp [intOf]; omega
                  · have hle : ¬ (ln : Int) ≤ (ml : Int) := by omega
                    have hle2 : decide ((ln : Int) ≤ (ml : Int)) = false := decide_eq_false hle
                    have hle3 : decide (ln ≤ ml) = false := decide_eq_false hge
                    have HYS : Hid (Stp.stands rs ⟨L, R, CC⟩ = false) := Lib.hid (Stp.stands_no (by rw [HRSL.out]; show ml < L.length; rw [HLN.out]; omega))
                    skip
                    go_wp2
                    go_quiet (fail)
                    go_wp2
                    go_roundw
                    case rel => exact ⟨k + 1, n, by omega, by go_num, rfl, by omega, (by show _ = _; rw [HNX.out, HYS.out, HNE.out]; simp), (by obtain ⟨q, hq⟩ := HQD.out; exact ⟨_, by rw [hq, World.drewN_drewN]⟩)⟩
                    case measure => simp [intOf]; omega
                · obtain rfl : k = rn := by omega
                  have hfin : n5 = n := by
                    rw [HCNT.out, HNE.out, List.take_of_length_le (by rw [ruls_length, HRL.out]; exact Nat.le_refl _)]
                  have hf1 : ((n5 : Int) == (n : Int)) = true := by rw [hfin]; simp
                  have hf2 : decide ((n5 : Int) = (n : Int)) = true := by rw [hfin]; simp
                  have HBW2 := HBW
                  clear hfin
                  go_wp2
                  go_ret
                  exact ⟨rfl, HIN.out _ HBW2.out⟩
          · have hne1 : ¬ cap1 = i := by omega
            have hne2 : ¬ i = cap1 := by omega
            obtain ⟨qb, qo, rfl, -, -⟩ := HQ.out.at (by omega)
            have HSA : Hid (∀ W, Below W0.heap.size W0 W → Sl .i64 W (some ⟨qb, qo + i, none⟩) ml mc rs) := Lib.hid fun W hb => by
              have h := HSB.out W hb
              rw [if_neg hne1, Option.map_some, show (⟨qb, qo, none⟩ : Addr).add i = ⟨qb, qo + i, none⟩ from by simp [Addr.add]] at h
              exact h
            clear HSB
            by_cases hm1 : ml = 1
            · have hg0 : (0 : Int) < (ml : Int) := by omega
              have hg1 : ¬ (1 : Int) < (ml : Int) := by omega
              have hn1 : ¬ 1 < ml := by omega
              have hn1d : decide (1 < ml) = false := decide_eq_false hn1
              have hg2 : decide ((1 : Int) < (ml : Int)) = false := decide_eq_false hg1
              have HCNT : Hid (n5 = 4 + (Stp.ruled rs (ruls xs)).length) := Lib.hid (by
                rw [← HHERE.out, Stp.here_count, if_pos (by rw [HRSL.out]; omega), if_neg (by rw [unlike_no7 (by rw [HRSL.out]; omega)]; decide)]; rfl)
              clear hm0 hm1
              go_wp2
              try simp only [show (0 < ml) = True from eq_true (by omega), decide_true]
              go_quiet (fail)
              generalize hV : w6.drewN nq = V
              have HBV : Hid (Below W0.heap.size W0 V) := Lib.hid (by rw [← hV]; exact below_drawn HB6.out ⟨_, rfl⟩)
              have HSV : Hid (∀ W, Below V.heap.size V W → Sl .i64 W (some ⟨qb, qo + i, none⟩) ml mc rs) := Lib.hid fun W hb => HSA.out W (HBV.out.trans (hb.mono HBV.out.size))
              clear hV
              go_wp2
              go_loopw [10, 11, 12] (fun nv kv _ wr => ∃ (k n : Nat), k ≤ rn ∧ kv = .int .i64 (k : Int) ∧ nv = .int .i64 (n : Int) ∧ n ≤ 4 + k ∧ Hid (n = 4 + (Stp.ruled rs ((ruls xs).take k)).length) ∧ Hid (∃ q, wr = V.drewN q)) (fun _ kv _ _ => rn - (intOf kv).toNat)
              case atStart => exact ⟨0, 4, Nat.zero_le _, rfl, rfl, by omega, (by show _ = _; simp [Stp.ruled]), ⟨0, rfl⟩⟩
              case round =>
                obtain ⟨k, n, hk, rfl, rfl, hnk, HNE, HQD⟩ := hrel
                have HBR : Hid (Below V.heap.size V wr) := Lib.hid (below_drawn (Below.refl _ _) HQD.out)
                have HBW : Hid (Below W0.heap.size W0 wr) := Lib.hid (HBV.out.trans (HBR.out.mono HBV.out.size))
                obtain ⟨-, -, -, -, hrl⟩ := HKP.out _ HBW.out
                by_cases hlt : k < rn
                · obtain ⟨rb, ro, la, ln, lc, L, ya, yn, yc, R, CC, rfl, hrb, e1, e2, e3, hsL, hsR, hC0, hC9, hg⟩ := (HCG.out _ HBW.out).1.one k hlt
                  have hat : (ruls xs).getD k Rul.no = ⟨L, R, CC⟩ := by rw [ruls_at, hg]; rfl
                  have hkx : k < (ruls xs).length := by rw [ruls_length, HRL.out]; exact hlt
                  have hnx := Stp.ruled_take (rest := rs) hkx
                  rw [hat] at hnx
                  have HNX := Lib.hid hnx
                  have HSL := Lib.hid hsL
                  have HLN : Hid (L.length = ln) := Lib.hid hsL.1
                  have hlnc := hsL.2.1
                  have hlncm := hsL.2.2.1
                  unfold maxLen at hlncm
                  have hki : (k : Int) < (rn : Int) := by omega
                  clear hat hnx hsL hsR hC0 hC9 hg e2 e3
                  by_cases hge : ln ≤ ml
                  · have hle : (ln : Int) ≤ (ml : Int) := by omega
                    have hle2 : decide ((ln : Int) ≤ (ml : Int)) = true := decide_eq_true hle
                    have hle3 : decide (ln ≤ ml) = true := decide_eq_true hge
                    have hlm : ln ≤ mc := by omega
                    have hlm2 : (ln : Int) ≤ (mc : Int) := by omega
                    have HPC := Lib.hid ((HSV.out _ HBR.out).cutS ln hge)
                    by_cases hs : rs.take ln = L
                    · have HD2 : Hid (decide (rs.take ln = L) = true) := Lib.hid (decide_eq_true hs)
                      have HYS : Hid (Stp.stands rs ⟨L, R, CC⟩ = true) := Lib.hid (by
                        unfold Stp.stands
                        rw [show (⟨L, R, CC⟩ : Rul).L.length = ln from HLN.out]
                        exact HD2.out)
                      clear hs
                      go_wp2
                      go_quiet (exact Calls.quiet_of (same_is _ la ln ln mc lc (rs.take ln) L true _ (HPC.out.drewN _) (HSL.out.drewN _) HD2.out))
                      go_wp2
                      go_roundw
                      case rel => exact ⟨k + 1, n + 1, by omega, by go_num, by go_num, by omega, (by show _ = _; rw [HNX.out, HYS.out, HNE.out]; simp; omega), (by obtain ⟨q, hq⟩ := HQD.out; exact ⟨_, by rw [hq, World.drewN_drewN]⟩)⟩
                      case measure => simp [intOf]; omega
                    · have HD2 : Hid (decide (rs.take ln = L) = false) := Lib.hid (decide_eq_false hs)
                      have HYS : Hid (Stp.stands rs ⟨L, R, CC⟩ = false) := Lib.hid (by
                        unfold Stp.stands
                        rw [show (⟨L, R, CC⟩ : Rul).L.length = ln from HLN.out]
                        exact HD2.out)
                      clear hs
                      go_wp2
                      go_quiet (exact Calls.quiet_of (same_is _ la ln ln mc lc (rs.take ln) L false _ (HPC.out.drewN _) (HSL.out.drewN _) HD2.out))
                      go_wp2
                      go_roundw
                      case rel => exact ⟨k + 1, n, by omega, by go_num, rfl, by omega, (by show _ = _; rw [HNX.out, HYS.out, HNE.out]; simp), (by obtain ⟨q, hq⟩ := HQD.out; exact ⟨_, by rw [hq, World.drewN_drewN]⟩)⟩
                      case measure => simp [intOf]; omega
                  · have hle : ¬ (ln : Int) ≤ (ml : Int) := by omega
                    have hle2 : decide ((ln : Int) ≤ (ml : Int)) = false := decide_eq_false hle
                    have hle3 : decide (ln ≤ ml) = false := decide_eq_false hge
                    have HYS : Hid (Stp.stands rs ⟨L, R, CC⟩ = false) := Lib.hid (Stp.stands_no (by rw [HRSL.out]; show ml < L.length; rw [HLN.out]; omega))
                    skip
                    go_wp2
                    go_quiet (fail)
                    go_wp2
                    go_roundw
                    case rel => exact ⟨k + 1, n, by omega, by go_num, rfl, by omega, (by show _ = _; rw [HNX.out, HYS.out, HNE.out]; simp), (by obtain ⟨q, hq⟩ := HQD.out; exact ⟨_, by rw [hq, World.drewN_drewN]⟩)⟩
                    case measure => simp [intOf]; omega
                · obtain rfl : k = rn := by omega
                  have hfin : n5 = n := by
                    rw [HCNT.out, HNE.out, List.take_of_length_le (by rw [ruls_length, HRL.out]; exact Nat.le_refl _)]
                  have hf1 : ((n5 : Int) == (n : Int)) = true := by rw [hfin]; simp
                  have hf2 : decide ((n5 : Int) = (n : Int)) = true := by rw [hfin]; simp
                  have HBW2 := HBW
                  clear hfin
                  go_wp2
                  go_ret
                  exact ⟨rfl, HIN.out _ HBW2.out⟩
            · have hg0 : (0 : Int) < (ml : Int) := by omega
              have hg1 : (1 : Int) < (ml : Int) := by omega
              have hn1 : 1 < ml := by omega
              have hn1d : decide (1 < ml) = true := decide_eq_true hn1
              have hg2 : decide ((1 : Int) < (ml : Int)) = true := decide_eq_true hg1
              have hg3 : (0 : Int) < (mc : Int) := by omega
              have hqcl : ∀ k, k < ml → w6.cell? ⟨qb, qo + i + k, none⟩ = some (.int .i64 (rs.getD k 0)) := by
                obtain ⟨b', o', e, _, h⟩ := (HSA.out _ HB6.out).at (by omega)
                simp only [Option.some.injEq, Addr.mk.injEq, and_true] at e
                obtain ⟨rfl, rfl⟩ := e
                exact h
              obtain ⟨z0, hz0⟩ : ∃ z, z = rs.getD 0 0 := ⟨_, rfl⟩
              obtain ⟨z1, hz1⟩ : ∃ z, z = rs.getD 1 0 := ⟨_, rfl⟩
              have hq0 := hqcl 0 (by omega)
              have hq1 := hqcl 1 (by omega)
              rw [← hz0, Nat.add_zero] at hq0
              rw [← hz1] at hq1
              have h2 : 2 ≤ rs.length := by rw [HRSL.out]; omega
              clear hqcl hm0 hm1
              by_cases he : rs.getD 0 0 = rs.getD 1 0
              · have HEQ : Hid (z0 = z1) := Lib.hid (by rw [hz0, hz1]; exact he)
                have hzz : (z0 == z1) = true := by rw [HEQ.out]; simp
                have hzn : (z0 != z1) = false := by rw [HEQ.out]; simp
                have hzd : decide (z0 = z1) = true := decide_eq_true HEQ.out
                have HCNT : Hid (n5 = 4 + (Stp.ruled rs (ruls xs)).length) := Lib.hid (by
                  rw [← HHERE.out, Stp.here_count, if_pos (by rw [HRSL.out]; omega), if_neg (by rw [unlike_no he]; decide)]; rfl)
                clear he hz0 hz1 h2
                go_wp2
                try simp only [show (0 < ml) = True from eq_true (by omega), decide_true]
                go_quiet (fail)
                generalize hV : w6.drewN nq = V
                have HBV : Hid (Below W0.heap.size W0 V) := Lib.hid (by rw [← hV]; exact below_drawn HB6.out ⟨_, rfl⟩)
                have HSV : Hid (∀ W, Below V.heap.size V W → Sl .i64 W (some ⟨qb, qo + i, none⟩) ml mc rs) := Lib.hid fun W hb => HSA.out W (HBV.out.trans (hb.mono HBV.out.size))
                clear hV
                go_wp2
                go_loopw [10, 11, 12] (fun nv kv _ wr => ∃ (k n : Nat), k ≤ rn ∧ kv = .int .i64 (k : Int) ∧ nv = .int .i64 (n : Int) ∧ n ≤ 4 + k ∧ Hid (n = 4 + (Stp.ruled rs ((ruls xs).take k)).length) ∧ Hid (∃ q, wr = V.drewN q)) (fun _ kv _ _ => rn - (intOf kv).toNat)
                case atStart => exact ⟨0, 4, Nat.zero_le _, rfl, rfl, by omega, (by show _ = _; simp [Stp.ruled]), ⟨0, rfl⟩⟩
                case round =>
                  obtain ⟨k, n, hk, rfl, rfl, hnk, HNE, HQD⟩ := hrel
                  have HBR : Hid (Below V.heap.size V wr) := Lib.hid (below_drawn (Below.refl _ _) HQD.out)
                  have HBW : Hid (Below W0.heap.size W0 wr) := Lib.hid (HBV.out.trans (HBR.out.mono HBV.out.size))
                  obtain ⟨-, -, -, -, hrl⟩ := HKP.out _ HBW.out
                  by_cases hlt : k < rn
                  · obtain ⟨rb, ro, la, ln, lc, L, ya, yn, yc, R, CC, rfl, hrb, e1, e2, e3, hsL, hsR, hC0, hC9, hg⟩ := (HCG.out _ HBW.out).1.one k hlt
                    have hat : (ruls xs).getD k Rul.no = ⟨L, R, CC⟩ := by rw [ruls_at, hg]; rfl
                    have hkx : k < (ruls xs).length := by rw [ruls_length, HRL.out]; exact hlt
                    have hnx := Stp.ruled_take (rest := rs) hkx
                    rw [hat] at hnx
                    have HNX := Lib.hid hnx
                    have HSL := Lib.hid hsL
                    have HLN : Hid (L.length = ln) := Lib.hid hsL.1
                    have hlnc := hsL.2.1
                    have hlncm := hsL.2.2.1
                    unfold maxLen at hlncm
                    have hki : (k : Int) < (rn : Int) := by omega
                    clear hat hnx hsL hsR hC0 hC9 hg e2 e3
                    by_cases hge : ln ≤ ml
                    · have hle : (ln : Int) ≤ (ml : Int) := by omega
                      have hle2 : decide ((ln : Int) ≤ (ml : Int)) = true := decide_eq_true hle
                      have hle3 : decide (ln ≤ ml) = true := decide_eq_true hge
                      have hlm : ln ≤ mc := by omega
                      have hlm2 : (ln : Int) ≤ (mc : Int) := by omega
                      have HPC := Lib.hid ((HSV.out _ HBR.out).cutS ln hge)
                      by_cases hs : rs.take ln = L
                      · have HD2 : Hid (decide (rs.take ln = L) = true) := Lib.hid (decide_eq_true hs)
                        have HYS : Hid (Stp.stands rs ⟨L, R, CC⟩ = true) := Lib.hid (by
                          unfold Stp.stands
                          rw [show (⟨L, R, CC⟩ : Rul).L.length = ln from HLN.out]
                          exact HD2.out)
                        clear hs
                        go_wp2
                        go_quiet (exact Calls.quiet_of (same_is _ la ln ln mc lc (rs.take ln) L true _ (HPC.out.drewN _) (HSL.out.drewN _) HD2.out))
                        go_wp2
                        go_roundw
                        case rel => exact ⟨k + 1, n + 1, by omega, by go_num, by go_num, by omega, (by show _ = _; rw [HNX.out, HYS.out, HNE.out]; simp; omega), (by obtain ⟨q, hq⟩ := HQD.out; exact ⟨_, by rw [hq, World.drewN_drewN]⟩)⟩
                        case measure => simp [intOf]; omega
                      · have HD2 : Hid (decide (rs.take ln = L) = false) := Lib.hid (decide_eq_false hs)
                        have HYS : Hid (Stp.stands rs ⟨L, R, CC⟩ = false) := Lib.hid (by
                          unfold Stp.stands
                          rw [show (⟨L, R, CC⟩ : Rul).L.length = ln from HLN.out]
                          exact HD2.out)
                        clear hs
                        go_wp2
                        go_quiet (exact Calls.quiet_of (same_is _ la ln ln mc lc (rs.take ln) L false _ (HPC.out.drewN _) (HSL.out.drewN _) HD2.out))
                        go_wp2
                        go_roundw
                        case rel => exact ⟨k + 1, n, by omega, by go_num, rfl, by omega, (by show _ = _; rw [HNX.out, HYS.out, HNE.out]; simp), (by obtain ⟨q, hq⟩ := HQD.out; exact ⟨_, by rw [hq, World.drewN_drewN]⟩)⟩
                        case measure => simp [intOf]; omega
                    · have hle : ¬ (ln : Int) ≤ (ml : Int) := by omega
                      have hle2 : decide ((ln : Int) ≤ (ml : Int)) = false := decide_eq_false hle
                      have hle3 : decide (ln ≤ ml) = false := decide_eq_false hge
                      have HYS : Hid (Stp.stands rs ⟨L, R, CC⟩ = false) := Lib.hid (Stp.stands_no (by rw [HRSL.out]; show ml < L.length; rw [HLN.out]; omega))
                      skip
                      go_wp2
                      go_quiet (fail)
                      go_wp2
                      go_roundw
                      case rel => exact ⟨k + 1, n, by omega, by go_num, rfl, by omega, (by show _ = _; rw [HNX.out, HYS.out, HNE.out]; simp), (by obtain ⟨q, hq⟩ := HQD.out; exact ⟨_, by rw [hq, World.drewN_drewN]⟩)⟩
                      case measure => simp [intOf]; omega
                  · obtain rfl : k = rn := by omega
                    have hfin : n5 = n := by
                      rw [HCNT.out, HNE.out, List.take_of_length_le (by rw [ruls_length, HRL.out]; exact Nat.le_refl _)]
                    have hf1 : ((n5 : Int) == (n : Int)) = true := by rw [hfin]; simp
                    have hf2 : decide ((n5 : Int) = (n : Int)) = true := by rw [hfin]; simp
                    have HBW2 := HBW
                    clear hfin
                    go_wp2
                    go_ret
                    exact ⟨rfl, HIN.out _ HBW2.out⟩
              · have HNE0 : Hid (z0 ≠ z1) := Lib.hid (by rw [hz0, hz1]; exact he)
                have hzz : (z0 == z1) = false := by simpa using HNE0.out
                have hzn : (z0 != z1) = true := by simpa using HNE0.out
                have hzd : decide (z0 = z1) = false := decide_eq_false HNE0.out
                have HCNT : Hid (n5 = 5 + (Stp.ruled rs (ruls xs)).length) := Lib.hid (by
                  rw [← HHERE.out, Stp.here_count, if_pos (by rw [HRSL.out]; omega), if_pos (unlike_yes h2 he)]; rfl)
                clear he hz0 hz1 h2
                go_wp2
                try simp only [show (0 < ml) = True from eq_true (by omega), decide_true]
                go_quiet (fail)
                generalize hV : w6.drewN nq = V
                have HBV : Hid (Below W0.heap.size W0 V) := Lib.hid (by rw [← hV]; exact below_drawn HB6.out ⟨_, rfl⟩)
                have HSV : Hid (∀ W, Below V.heap.size V W → Sl .i64 W (some ⟨qb, qo + i, none⟩) ml mc rs) := Lib.hid fun W hb => HSA.out W (HBV.out.trans (hb.mono HBV.out.size))
                clear hV
                go_wp2
                go_loopw [10, 11, 12] (fun nv kv _ wr => ∃ (k n : Nat), k ≤ rn ∧ kv = .int .i64 (k : Int) ∧ nv = .int .i64 (n : Int) ∧ n ≤ 5 + k ∧ Hid (n = 5 + (Stp.ruled rs ((ruls xs).take k)).length) ∧ Hid (∃ q, wr = V.drewN q)) (fun _ kv _ _ => rn - (intOf kv).toNat)
                case atStart => exact ⟨0, 5, Nat.zero_le _, rfl, rfl, by omega, (by show _ = _; simp [Stp.ruled]), ⟨0, rfl⟩⟩
                case round =>
                  obtain ⟨k, n, hk, rfl, rfl, hnk, HNE, HQD⟩ := hrel
                  have HBR : Hid (Below V.heap.size V wr) := Lib.hid (below_drawn (Below.refl _ _) HQD.out)
                  have HBW : Hid (Below W0.heap.size W0 wr) := Lib.hid (HBV.out.trans (HBR.out.mono HBV.out.size))
                  obtain ⟨-, -, -, -, hrl⟩ := HKP.out _ HBW.out
                  by_cases hlt : k < rn
                  · obtain ⟨rb, ro, la, ln, lc, L, ya, yn, yc, R, CC, rfl, hrb, e1, e2, e3, hsL, hsR, hC0, hC9, hg⟩ := (HCG.out _ HBW.out).1.one k hlt
                    have hat : (ruls xs).getD k Rul.no = ⟨L, R, CC⟩ := by rw [ruls_at, hg]; rfl
                    have hkx : k < (ruls xs).length := by rw [ruls_length, HRL.out]; exact hlt
                    have hnx := Stp.ruled_take (rest := rs) hkx
                    rw [hat] at hnx
                    have HNX := Lib.hid hnx
                    have HSL := Lib.hid hsL
                    have HLN : Hid (L.length = ln) := Lib.hid hsL.1
                    have hlnc := hsL.2.1
                    have hlncm := hsL.2.2.1
                    unfold maxLen at hlncm
                    have hki : (k : Int) < (rn : Int) := by omega
                    clear hat hnx hsL hsR hC0 hC9 hg e2 e3
                    by_cases hge : ln ≤ ml
                    · have hle : (ln : Int) ≤ (ml : Int) := by omega
                      have hle2 : decide ((ln : Int) ≤ (ml : Int)) = true := decide_eq_true hle
                      have hle3 : decide (ln ≤ ml) = true := decide_eq_true hge
                      have hlm : ln ≤ mc := by omega
                      have hlm2 : (ln : Int) ≤ (mc : Int) := by omega
                      have HPC := Lib.hid ((HSV.out _ HBR.out).cutS ln hge)
                      by_cases hs : rs.take ln = L
                      · have HD2 : Hid (decide (rs.take ln = L) = true) := Lib.hid (decide_eq_true hs)
                        have HYS : Hid (Stp.stands rs ⟨L, R, CC⟩ = true) := Lib.hid (by
                          unfold Stp.stands
                          rw [show (⟨L, R, CC⟩ : Rul).L.length = ln from HLN.out]
                          exact HD2.out)
                        clear hs
                        go_wp2
                        go_quiet (exact Calls.quiet_of (same_is _ la ln ln mc lc (rs.take ln) L true _ (HPC.out.drewN _) (HSL.out.drewN _) HD2.out))
                        go_wp2
                        go_roundw
                        case rel => exact ⟨k + 1, n + 1, by omega, by go_num, by go_num, by omega, (by show _ = _; rw [HNX.out, HYS.out, HNE.out]; simp; omega), (by obtain ⟨q, hq⟩ := HQD.out; exact ⟨_, by rw [hq, World.drewN_drewN]⟩)⟩
                        case measure => simp [intOf]; omega
                      · have HD2 : Hid (decide (rs.take ln = L) = false) := Lib.hid (decide_eq_false hs)
                        have HYS : Hid (Stp.stands rs ⟨L, R, CC⟩ = false) := Lib.hid (by
                          unfold Stp.stands
                          rw [show (⟨L, R, CC⟩ : Rul).L.length = ln from HLN.out]
                          exact HD2.out)
                        clear hs
                        go_wp2
                        go_quiet (exact Calls.quiet_of (same_is _ la ln ln mc lc (rs.take ln) L false _ (HPC.out.drewN _) (HSL.out.drewN _) HD2.out))
                        go_wp2
                        go_roundw
                        case rel => exact ⟨k + 1, n, by omega, by go_num, rfl, by omega, (by show _ = _; rw [HNX.out, HYS.out, HNE.out]; simp), (by obtain ⟨q, hq⟩ := HQD.out; exact ⟨_, by rw [hq, World.drewN_drewN]⟩)⟩
                        case measure => simp [intOf]; omega
                    · have hle : ¬ (ln : Int) ≤ (ml : Int) := by omega
                      have hle2 : decide ((ln : Int) ≤ (ml : Int)) = false := decide_eq_false hle
                      have hle3 : decide (ln ≤ ml) = false := decide_eq_false hge
                      have HYS : Hid (Stp.stands rs ⟨L, R, CC⟩ = false) := Lib.hid (Stp.stands_no (by rw [HRSL.out]; show ml < L.length; rw [HLN.out]; omega))
                      skip
                      go_wp2
                      go_quiet (fail)
                      go_wp2
                      go_roundw
                      case rel => exact ⟨k + 1, n, by omega, by go_num, rfl, by omega, (by show _ = _; rw [HNX.out, HYS.out, HNE.out]; simp), (by obtain ⟨q, hq⟩ := HQD.out; exact ⟨_, by rw [hq, World.drewN_drewN]⟩)⟩
                      case measure => simp [intOf]; omega
                  · obtain rfl : k = rn := by omega
                    have hfin : n5 = n := by
                      rw [HCNT.out, HNE.out, List.take_of_length_le (by rw [ruls_length, HRL.out]; exact Nat.le_refl _)]
                    have hf1 : ((n5 : Int) == (n : Int)) = true := by rw [hfin]; simp
                    have hf2 : decide ((n5 : Int) = (n : Int)) = true := by rw [hfin]; simp
                    have HBW2 := HBW
                    clear hfin
                    go_wp2
                    go_ret
                    exact ⟨rfl, HIN.out _ HBW2.out⟩
    · have hl1 : (20 : Int) < (len1 : Int) := by omega
      have hl2 : decide ((20 : Int) < (len1 : Int)) = true := decide_eq_true hl1
      obtain rfl : n5 = 0 := HOUT.out (.inr (.inl (by omega)))
      have hf1 : ((0 : Int) == (0 : Int)) = true := by simp
      go_wp2
      go_ret
      exact ⟨rfl, HIN.out _ HB6.out⟩

theorem lifted (os : Os) (started : os.Started) (H : Type) (enc : TypeId × Value → H) :
    ReturnsInHanded {} Try.checked os 7 .any (Rows.stepsManySpec.pre6 enc Try.prog Try.f7 Rows.stepsManyRow.domain false) (Rows.stepsManySpec.post enc Try.prog Try.f7 false true false false) := by
  refine returnsInHanded_of_change (C := Try.checked) own started (by kernel_rfl) Try.func7
    (ChangeSpec.witness6 (enc := enc) (C := Try.checked) false ⟨#[], #[.agg #[.int .u64 0, .int .u64 0, .int .u64 0, .int .u64 0, .slice none 0 0], .slice none 0 0, .int .i64 0], []⟩ 8 (by kernel_rfl) (by kernel_rfl) (by kernel_rfl) (by kernel_rfl)) ?_
  intro W base args ds gs before hval0 hW hcnd _
  have hval : ∀ (j : Nat) t v, Try.f7.params[j]? = some t → args[j]? = some v → Value.okWide Try.prog W .any base t v := hval0
  have hW' := hW
  obtain ⟨p, q, hA0, hV, rfl, hfz, hnd⟩ := hW
  have hA : DataW.TrodAll enc Try.prog W 0 (fun _ => true) true Try.f7.params.toList args.toList ds p := hA0
  rw [Try.params7] at hA hval
  obtain ⟨v0, vs0, d0, ds0, p0, q0, hargs, rfl, rfl, h0, r0⟩ := trodAll_cons hA
  obtain ⟨v1, vs1, d1, ds1, p1, q1, rfl, rfl, rfl, h1, r1⟩ := trodAll_cons r0
  obtain ⟨v2, vs2, d2, ds2, p2, q2, rfl, rfl, rfl, h2, r2⟩ := trodAll_cons r1
  obtain ⟨rfl, rfl, rfl⟩ := trodAll_nil r2
  obtain rfl : args = #[v0, v1, v2] := by cases args; simp_all
  obtain ⟨rfl, rfl⟩ := trodVars_none hV
  have k0 := h0
  have lt0 : ∀ x ∈ p0, x.block < W.heap.size := by obtain ⟨m, hm⟩ := k0; exact DataW.trod_lt m _ _ _ hm
  obtain ⟨x0, rfl, w0, n0⟩ := Cw.open (hval 0 25 v0 rfl rfl) h0
  obtain ⟨a1, len1, cap1, rfl⟩ := okWide_slice Try.underlying26 (hval 1 26 v1 rfl rfl)
  have k1 := h1
  have lt1 : ∀ x ∈ p1, x.block < W.heap.size := by obtain ⟨m, hm⟩ := k1; exact DataW.trod_lt m _ _ _ hm
  obtain ⟨z1, w1⟩ : ∃ zs, IsRow .i64 W a1 len1 cap1 zs := by
    obtain ⟨fuel, hf⟩ := h1
    rcases open_ints Try.underlying26 Try.underlying3 (by kernel_rfl) hf with ⟨hcs, _⟩ | ⟨x, l, c, zs, hcs, _, hl, hm, hz, _, hcell, hwz⟩
    · simp [Value.cells] at hcs
      obtain ⟨rfl, rfl, rfl⟩ := hcs
      exact ⟨[], .inl ⟨rfl, rfl, rfl, rfl⟩⟩
    · simp [Value.cells] at hcs
      obtain ⟨rfl, rfl, rfl⟩ := hcs
      exact ⟨zs, .inr ⟨_, rfl, hl, hm, by simpa using hz, hcell, hwz⟩⟩
  obtain ⟨a2, rfl, rfl, rfl, w2⟩ := open_int Try.underlying3 (hval 2 3 v2 rfl rfl) h2
  clear hA0 hval0
  refine (walk x0 a1 len1 cap1 z1 a2 W w0 n0 w1 w2).mono fun e W' ⟨he, bel⟩ => ?_
  subst he
  exact ⟨_, rfl, _, _, _, [], _, [], hW', trodAll_mk1 (shut_bool Try.underlying4 _), (trodAll_cons_mk (Below.trod laidOut (by kernel_rfl) (of_decide_eq_true (by kernel_rfl)) k0 bel lt0) (trodAll_cons_mk (Below.trod laidOut (by kernel_rfl) (of_decide_eq_true (by kernel_rfl)) k1 bel lt1) (trodAll_cons_mk (shut_int Try.underlying3 w2) trodAll_mk0))), rfl, bel.frame _, fun h => by cases h⟩

theorem over : Rows.stepsManyRow.holds Try.pinned (OpenSpec.ofChange Rows.stepsManySpec) :=
  OpenClaim.holds_of_wide 7 Try.f7 rfl rfl rfl rfl rfl rfl rfl ⟨rfl, rfl, rfl, rfl, rfl⟩ rfl rfl rfl rfl rfl (by kernel_rfl) Try.func7 (by kernel_rfl)
    (of_decide_eq_true (by kernel_rfl)) (by unfold Func.isWrapper; first | (rw [if_pos (by decide +kernel)]; kernel_rfl) | (rw [if_neg (by decide +kernel)]; exact ⟨rfl, rfl⟩))
    (fun os started H enc _ => lifted os started H enc)

/-- the statement -/
theorem proved : Rows.StepsManySaid := over
#print axioms proved
end Go.Proofs.Ytpcebfefbnpbpaa.stepsMany
