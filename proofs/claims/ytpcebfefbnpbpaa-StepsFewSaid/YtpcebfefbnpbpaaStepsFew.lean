/- For all costs, whatever was asked, any place, and any number of rules, StepsFew answers true, and turns nothing that was there. No condition. -/
import Derived.Test.YtpcebfefbnpbpaaRows
import Derived.Test.YtpcebfefbnpbpaaStpLaw
import Derived.Test.YtpcebfefbnpbpaaPackN
import Derived.Deep.RegionHeld3
import Derived.WalkKit
import Derived.ProofKit
import Derived.OpenShut
import Derived.ShutString
import Derived.ChangeOld
import Derived.Below
import Derived.Deep.Matrix
import Derived.SizedLaws
set_option linter.all false
set_option maxRecDepth 100000
set_option maxHeartbeats 12800000
namespace Go.Proofs.Ytpcebfefbnpbpaa.stepsFew
open Go.ChangeShapes Go.WideShapes Go.ChangeAt Go.RowKit
set_option linter.unusedVariables false

theorem own : ownKnob Try.prog.godebug = none := by kernel_rfl
theorem laidOut : laidOutB Try.prog = true := by kernel_rfl

/-- a slice of integers that came in -/
def IsRow (k : IntKind) (w : World) (a : Option Addr) (len cap : Nat) (zs : List Int) : Prop :=
  (a = none ∧ len = 0 ∧ cap = 0 ∧ zs = []) ∨
  ∃ x, a = some x ∧ len ≤ cap ∧ cap ≤ maxLen ∧ zs.length = cap ∧ (∀ i, i < zs.length → w.cell? (x.add i) = some (.int k (zs.getD i 0))) ∧ ∀ n ∈ zs, (Lit.int k n).wf = true

theorem walk (x0 : Cw) (a1 : Option Addr) (len1 cap1 : Nat) (z1 : List Int) (a2 : Int) (a3 : Int) (w : World) (w0 : x0.Good w) (n0 : x0.a = none → x0.cap = 0) (w1 : IsRow .i64 w a1 len1 cap1 z1) (w2 : (Lit.int .i64 a2).wf = true) (w3 : (Lit.int .u8 a3).wf = true) :
    Calls Try.prog 6 #[x0.v, .slice a1 len1 cap1, .int .i64 a2, .int .u8 a3] w fun e w' => e = .returned (.bool true) ∧ Below w.heap.size w w' := by
  have hs1 := Sl.of_row w1
  generalize z1.take len1 = zs at hs1
  have hnc1 := hs1.2.1
  have hcm1 := hs1.2.2.1
  unfold maxLen at hcm1
  have HQ := Lib.hid hs1
  have HQL : Hid (zs.length = len1) := Lib.hid hs1.1
  clear hs1 w1
  have hb3 := bounds_u8 w3
  clear w3
  obtain ⟨u, rfl⟩ : ∃ u : Nat, a3 = (u : Int) := ⟨a3.toNat, by omega⟩
  have hu : u < 256 := by omega
  clear hb3
  obtain ⟨cm, cl, co, ct, ra, rn, rcap, xs⟩ := x0
  have HC := Lib.hid w0
  have hrc := w0.1.2.1
  have hrm := w0.1.2.2.1
  unfold maxLen at hrm
  have HRL : Hid (xs.length = rn) := Lib.hid w0.1.1
  clear w0 n0
  obtain ⟨W0, hW0⟩ : ∃ W, W = w.alloc (.cells #[.int .u64 cm, .int .u64 cl, .int .u64 co, .int .u64 ct, .slice ra rn rcap] 25) := ⟨_, rfl⟩
  have HWB : Hid (Below w.heap.size w W0) := Lib.hid (by rw [hW0]; exact (Below.refl _ w).alloc (Nat.le_refl _) _)
  have HKP : Hid (∀ W, Below W0.heap.size W0 W → W.cell? ⟨w.heap.size, 0, none⟩ = some (.int .u64 cm) ∧ W.cell? ⟨w.heap.size, 1, none⟩ = some (.int .u64 cl) ∧ W.cell? ⟨w.heap.size, 2, none⟩ = some (.int .u64 co) ∧ W.cell? ⟨w.heap.size, 3, none⟩ = some (.int .u64 ct) ∧ W.cell? ⟨w.heap.size, 4, none⟩ = some (.slice ra rn rcap)) := Lib.hid fun W hb =>
    five_cells ((hb.block w.heap.size (by rw [hW0]; simp)).trans (show W0.heap[w.heap.size]? = some (.cells #[.int .u64 cm, .int .u64 cl, .int .u64 co, .int .u64 ct, .slice ra rn rcap] 25 (0, 0)) by rw [hW0]; exact heap_alloc_new w _))
  have HIN : Hid (∀ W, Below W0.heap.size W0 W → Below w.heap.size w W) := Lib.hid fun W hb => HWB.out.trans (hb.mono HWB.out.size)
  have HCG : Hid (∀ W, Below W0.heap.size W0 W → Cw.Good W ⟨cm, cl, co, ct, ra, rn, rcap, xs⟩) := Lib.hid fun W hb => HC.out.below (HIN.out W hb) (Nat.le_refl _)
  simp only [Cw.v, Cw.cells]
  go_enter Try.func6, Try.ntmps6
  go_wp2_with fail
  rw [← hW0]
  refine (awake_any _).mono ?_
  rintro e w1 ⟨rfl, hb⟩
  have HB1 : Hid (Below W0.heap.size W0 w1) := Lib.hid hb
  clear hb hW0
  obtain ⟨k0, k1, k2, k3, k4⟩ := HKP.out _ HB1.out
  go_wp2_with fail
  clear k0 k1 k2 k3 k4
  refine (few17_is ⟨cm, cl, co, ct, ra, rn, rcap, xs⟩ a1 len1 cap1 w1 (HCG.out _ HB1.out) (by omega)).mono ?_
  rintro e w2 ⟨he, hb⟩
  have HB2 : Hid (Below W0.heap.size W0 w2) := Lib.hid (HB1.out.trans (hb.mono HB1.out.size))
  clear hb
  rcases he with rfl | ⟨rfl, hn300, hq100⟩
  · go_wp2
    go_ret
    exact ⟨rfl, HIN.out _ HB2.out⟩
  dsimp only at hn300
  obtain ⟨d, hd⟩ : ∃ d, File.check (Cw.c ⟨cm, cl, co, ct, ra, rn, rcap, xs⟩) = d := ⟨_, rfl⟩
  have HD := Lib.hid hd
  clear hd
  have hmx : Try.prog.follows .mixedOrders = true := by kernel_rfl
  obtain ⟨k0, k1, k2, k3, k4⟩ := HKP.out _ HB2.out
  go_wp2_with fail
  clear k0 k1 k2 k3 k4
  refine (fcheck_is ⟨cm, cl, co, ct, ra, rn, rcap, xs⟩ d w2 (HCG.out _ HB2.out) HD.out).mono ?_
  rintro e w3 ⟨rfl, hb⟩
  have HB3 : Hid (Below W0.heap.size W0 w3) := Lib.hid (HB2.out.trans (hb.mono HB2.out.size))
  clear hb
  cases d with
  | false =>
    go_wp2
    go_ret
    exact ⟨rfl, HIN.out _ HB3.out⟩
  | true =>
    obtain ⟨k0, k1, k2, k3, k4⟩ := HKP.out _ HB3.out
    obtain ⟨kk, hkk⟩ : ∃ k, k = u % (rn + 1) := ⟨_, rfl⟩
    have hkr : kk ≤ rn := by have := Nat.mod_lt u (show 0 < rn + 1 by omega); omega
    have hm1 : (u : Int) % ((rn : Int) + 1) = (kk : Int) := by rw [hkk]; simp
    have hm2 : (u : Int).tmod ((rn : Int) + 1) = (kk : Int) := by rw [Int.tmod_eq_emod_of_nonneg (by omega)]; exact hm1
    have hwr : IntKind.i64.wrap ((rn : Int) + 1) = (rn : Int) + 1 := by rw [IntKind.wrap_i64]; omega
    have hwu : IntKind.i64.wrap (u : Int) = (u : Int) := by rw [IntKind.wrap_i64]; omega
    have hwk : IntKind.i64.wrap (kk : Int) = (kk : Int) := by rw [IntKind.wrap_i64]; omega
    have hnz : ¬ (rn : Int) + 1 = 0 := by omega
    have hk0 : (0 : Int) ≤ (kk : Int) := by omega
    have hkc : (kk : Int) ≤ (rcap : Int) := by omega
    have hkn : ¬ rcap < kk := by omega
    have HKK := Lib.hid hkk
    clear hkk
    go_wp2
    obtain ⟨V, hV⟩ : ∃ V, V = w3.alloc (.cells #[.int .u64 cm, .int .u64 cl, .int .u64 co, .int .u64 ct, .slice ra rn rcap] 25) := ⟨_, rfl⟩
    have HBV : Hid (Below W0.heap.size W0 V) := Lib.hid (by rw [hV]; exact HB3.out.alloc HB3.out.size _)
    have HVB : Hid (V.heap[w3.heap.size]? = some (.cells #[.int .u64 cm, .int .u64 cl, .int .u64 co, .int .u64 ct, .slice ra rn rcap] 25 (0, 0))) := Lib.hid (by rw [hV]; exact heap_alloc_new w3 _)
    have HBD : Hid (Below W0.heap.size W0 V.drew) := Lib.hid (below_drawn HBV.out ⟨1, rfl⟩)
    have HVS : Hid (W0.heap.size ≤ w3.heap.size) := HB3.out.size
    rw [← hV]
    clear hV k0 k1 k2 k3 k4
    have hfz : V.drew.frozen? ⟨w3.heap.size, 4, none⟩ = false := frozen_of_row V.drew _ _ _ _ HVB.out
    have hcl : V.drew.cell? ⟨w3.heap.size, 4, none⟩ = some (.slice ra rn rcap) := by rw [cell_of_row V.drew _ _ _ _ _ HVB.out]; rfl
    have HBE : Hid (Below W0.heap.size W0 (V.drew.setCell ⟨w3.heap.size, 4, none⟩ (.slice ra kk rcap))) := Lib.hid (HBD.out.setCell (p := ⟨w3.heap.size, 4, none⟩) HVS.out _)
    refine wp_region_held_drew (S := (fun W => W.cell? ⟨w.heap.size, 4, none⟩ = some (.slice ra rn rcap))) (by kernel_rfl) (by first | (exact (HKP.out _ (by first | exact HBE.out | exact HBD.out)).2.2.2.2) | ((try dsimp only); exact (HKP.out _ (by first | exact HBE.out | exact HBD.out)).2.2.2.2)) (fun hHeld => ?_)
    refine wpAnyH_take (i := 0) (v := ?vk1) rfl (by kernel_rfl) (by kernel_rfl) (by kernel_rfl) (fun _ _ _ h => h) (Or.inl ⟨by rfl, ?hk1⟩) (by assumption) ?rk1
    case hk1 => intro w hSw; (try dsimp only at hSw); go_simp; try with_reducible rfl
    simp only [Act.put, List.getElem_toArray, List.getElem_cons_succ, List.getElem_cons_zero, List.setIfInBounds_toArray, List.set_cons_succ, List.set_cons_zero]
    refine wpAnyH_take (i := 1) (v := ?vk4) rfl (by kernel_rfl) (by kernel_rfl) (by kernel_rfl) (fun _ _ _ h => h) (Or.inl ⟨by rfl, ?hk4⟩) (by assumption) ?rk4
    case hk4 => intro w hSw; (try dsimp only at hSw); go_simp; try with_reducible rfl
    simp only [Act.put, List.getElem_toArray, List.getElem_cons_succ, List.getElem_cons_zero, List.setIfInBounds_toArray, List.set_cons_succ, List.set_cons_zero]
    refine wpAnyH_take (i := 2) (v := ?vk7) rfl (by kernel_rfl) (by kernel_rfl) (by kernel_rfl) (fun _ _ _ h => h) (Or.inl ⟨by rfl, ?hk7⟩) (by assumption) ?rk7
    case hk7 => intro w hSw; (try dsimp only at hSw); go_simp; try with_reducible rfl
    simp only [Act.put, List.getElem_toArray, List.getElem_cons_succ, List.getElem_cons_zero, List.setIfInBounds_toArray, List.set_cons_succ, List.set_cons_zero]
    refine wpAnyH_take (i := 3) (v := ?vk10) rfl (by kernel_rfl) (by kernel_rfl) (by kernel_rfl) (fun _ _ _ h => h) (Or.inl ⟨by rfl, ?hk10⟩) (by assumption) ?rk10
    case hk10 => intro w hSw; (try dsimp only at hSw); go_simp; try with_reducible rfl
    simp only [Act.put, List.getElem_toArray, List.getElem_cons_succ, List.getElem_cons_zero, List.setIfInBounds_toArray, List.set_cons_succ, List.set_cons_zero]
    refine wpAnyH_take (i := 4) (v := ?vk13) rfl (by kernel_rfl) (by kernel_rfl) (by kernel_rfl) (fun _ _ _ h => h) (Or.inl ⟨by rfl, ?hk13⟩) (by assumption) ?rk13
    case hk13 => intro w hSw; (try dsimp only at hSw); go_simp; try with_reducible rfl
    simp only [Act.put, List.getElem_toArray, List.getElem_cons_succ, List.getElem_cons_zero, List.setIfInBounds_toArray, List.set_cons_succ, List.set_cons_zero]
    refine wpAnyH_take (i := 5) (v := ?vk16) rfl (by kernel_rfl) (by kernel_rfl) (by kernel_rfl) (fun _ _ _ h => h) (Or.inl ⟨by rfl, ?hk16⟩) (by assumption) ?rk16
    case hk16 => intro w hSw; (try dsimp only at hSw); go_simp; try with_reducible rfl
    simp only [Act.put, List.getElem_toArray, List.getElem_cons_succ, List.getElem_cons_zero, List.setIfInBounds_toArray, List.set_cons_succ, List.set_cons_zero]
    refine wpAnyH_take (i := 6) (v := ?vk19) rfl (by kernel_rfl) (by kernel_rfl) (by kernel_rfl) (fun _ _ _ h => h) (Or.inl ⟨by rfl, ?hk19⟩) (by assumption) ?rk19
    case hk19 => intro w hSw; (try dsimp only at hSw); go_simp; try with_reducible rfl
    simp only [Act.put, List.getElem_toArray, List.getElem_cons_succ, List.getElem_cons_zero, List.setIfInBounds_toArray, List.set_cons_succ, List.set_cons_zero]
    refine wpAnyH_take (i := 7) (v := ?vk22) rfl (by kernel_rfl) (by kernel_rfl) (by kernel_rfl) (fun _ _ _ h => h) (Or.inl ⟨by rfl, ?hk22⟩) (by assumption) ?rk22
    case hk22 => intro w hSw; (try dsimp only at hSw); go_simp; try with_reducible rfl
    simp only [Act.put, List.getElem_toArray, List.getElem_cons_succ, List.getElem_cons_zero, List.setIfInBounds_toArray, List.set_cons_succ, List.set_cons_zero]
    refine wpAnyH_take (i := 8) (v := ?vk25) rfl (by kernel_rfl) (by kernel_rfl) (by kernel_rfl) (fun _ _ _ h => h) (Or.inl ⟨by rfl, ?hk25⟩) (by assumption) ?rk25
    case hk25 => intro w hSw; (try dsimp only at hSw); go_simp; try with_reducible rfl
    simp only [Act.put, List.getElem_toArray, List.getElem_cons_succ, List.getElem_cons_zero, List.setIfInBounds_toArray, List.set_cons_succ, List.set_cons_zero]
    refine wpAnyH_take (i := 9) (v := ?vk28) rfl (by kernel_rfl) (by kernel_rfl) (by kernel_rfl) (fun _ _ _ h => h) (Or.inl ⟨by rfl, ?hk28⟩) (by assumption) ?rk28
    case hk28 => intro w hSw; (try dsimp only at hSw); go_simp; try with_reducible rfl
    simp only [Act.put, List.getElem_toArray, List.getElem_cons_succ, List.getElem_cons_zero, List.setIfInBounds_toArray, List.set_cons_succ, List.set_cons_zero]
    refine wpAnyH_take (i := 10) (v := ?vk31) rfl (by kernel_rfl) (by kernel_rfl) (by kernel_rfl) (fun _ _ _ h => h) (Or.inl ⟨by rfl, ?hk31⟩) (by assumption) ?rk31
    case hk31 => intro w hSw; (try dsimp only at hSw); go_simp; try with_reducible rfl
    simp only [Act.put, List.getElem_toArray, List.getElem_cons_succ, List.getElem_cons_zero, List.setIfInBounds_toArray, List.set_cons_succ, List.set_cons_zero]
    refine wpAnyH_ready (rs := [11]) (by kernel_rfl) (by simp) ?_
    refine AllReadyH.cons rfl (fun K hK => ?_) AllReadyH.nil
    go_simp
    refine hK.out _ _ (by first | (exact (HKP.out _ (by first | exact HBE.out | exact HBD.out)).2.2.2.2) | ((try dsimp only); exact (HKP.out _ (by first | exact HBE.out | exact HBD.out)).2.2.2.2)) (fun hHeld => ?_)
    clear hK K
    try simp only [Act.put, List.getElem_toArray, List.getElem_cons_succ, List.getElem_cons_zero, List.setIfInBounds_toArray, List.set_cons_succ, List.set_cons_zero]
    refine wpAnyH_done (by kernel_rfl) ?_ _
    obtain ⟨X, hX⟩ : ∃ X, X = (V.setCell ⟨w3.heap.size, 4, none⟩ (.slice ra kk rcap)).drew := ⟨_, rfl⟩
    have HBX : Hid (Below W0.heap.size W0 X) := Lib.hid (by rw [hX]; exact below_drawn (HBV.out.setCell (p := ⟨w3.heap.size, 4, none⟩) HVS.out _) ⟨1, rfl⟩)
    have HDX : Hid (∀ W, Below X.heap.size X W → W.cell? ⟨w3.heap.size, 0, none⟩ = some (.int .u64 cm) ∧ W.cell? ⟨w3.heap.size, 1, none⟩ = some (.int .u64 cl) ∧ W.cell? ⟨w3.heap.size, 2, none⟩ = some (.int .u64 co) ∧ W.cell? ⟨w3.heap.size, 3, none⟩ = some (.int .u64 ct) ∧ W.cell? ⟨w3.heap.size, 4, none⟩ = some (.slice ra kk rcap)) := Lib.hid fun W hb => by
      have h : X.heap[w3.heap.size]? = some (.cells #[.int .u64 cm, .int .u64 cl, .int .u64 co, .int .u64 ct, .slice ra kk rcap] 25 (0, 0)) := by rw [hX]; exact heap_setCell_same V _ 4 _ _ _ HVB.out
      exact five_cells ((hb.block _ (lt_of_obj h)).trans h)
    have HCD : Hid (∀ W, Below W0.heap.size W0 W → Cw.Good W ⟨cm, cl, co, ct, ra, kk, rcap, xs.take kk⟩) := Lib.hid fun W hb => ⟨(HCG.out W hb).1.first kk hkr, (HCG.out W hb).2⟩
    have HDC : Hid (Cw.c ⟨cm, cl, co, ct, ra, kk, rcap, xs.take kk⟩ = ⟨((Cw.c ⟨cm, cl, co, ct, ra, rn, rcap, xs⟩)).base, ((Cw.c ⟨cm, cl, co, ct, ra, rn, rcap, xs⟩)).rules.take kk⟩) := Lib.hid (by show File.Cst.mk _ (ruls (xs.take kk)) = ⟨_, (ruls xs).take kk⟩; unfold ruls; rw [List.map_take]; rfl)
    rw [← hX]
    clear hX hfz hcl hHeld
    obtain ⟨k0, k1, k2, k3, k4⟩ := HKP.out _ HBX.out
    go_wp2_with fail
    clear k0 k1 k2 k3 k4
    refine (sat17_is ⟨cm, cl, co, ct, ra, rn, rcap, xs⟩ a1 len1 cap1 zs a2 X X (Below.refl _ _) (HCG.out _ HBX.out) (HQ.out.below (HIN.out _ HBX.out) (Nat.le_refl _))).mono ?_
    rintro e w5 ⟨p5, n5, c5, xs5, rfl, hm, ht, hn, hb⟩
    have HP5 := Lib.hid hm.ps
    have HT5 := Lib.hid ht
    have HX5 := Lib.hid hb
    have HB5 : Hid (Below W0.heap.size W0 w5) := Lib.hid (HBX.out.trans (hb.mono HBX.out.size))
    clear hm ht hn hb
    obtain ⟨k0, k1, k2, k3, k4⟩ := HDX.out _ HX5.out
    go_wp2_with fail
    clear k0 k1 k2 k3 k4
    refine (sat17_is ⟨cm, cl, co, ct, ra, kk, rcap, xs.take kk⟩ a1 len1 cap1 zs a2 w5 w5 (Below.refl _ _) (HCD.out _ HB5.out) (HQ.out.below (HIN.out _ HB5.out) (Nat.le_refl _))).mono ?_
    rintro e w6 ⟨p6, n6, c6, xs6, rfl, hm, ht, hn, hb⟩
    have HP6 := Lib.hid hm.ps
    rw [HDC.out] at ht
    have HP5' := Lib.hid (HP5.out.below hb (Nat.le_refl _))
    have HX6 := Lib.hid (HX5.out.trans (hb.mono HX5.out.size))
    have HB6 : Hid (Below W0.heap.size W0 w6) := Lib.hid (HB5.out.trans (hb.mono HB5.out.size))
    obtain ⟨l, hl1, hl2⟩ := Stp.at_first zs a2 kk HD.out (Stp.check_first HD.out kk)
    rw [← HT5.out, ← ht] at hl1
    have hl3 := congrArg List.length hl1
    rw [List.length_append, stps_length, stps_length, HP5.out.1, HP6.out.1] at hl3
    have hrl : (((Cw.c ⟨cm, cl, co, ct, ra, rn, rcap, xs⟩)).rules).length = rn := by show (ruls xs).length = rn; rw [ruls_length]; exact HRL.out
    rw [hrl] at hl2
    have h205 : n5 ≤ 205 := by
      rw [← HP5.out.1, ← stps_length, HT5.out]
      unfold Stp.at'
      split
      · exact here_few HD.out _
      · exact Nat.zero_le _
    have hc5 := HP5.out.2.1
    have hc5m := HP5.out.2.2.1
    unfold maxLen at hc5m
    obtain ⟨dn, hdn⟩ : ∃ d, d = n5 - n6 := ⟨_, rfl⟩
    obtain ⟨dr, hdr⟩ : ∃ d, d = rn - kk := ⟨_, rfl⟩
    have g1 : ¬ (n5 : Int) < (n6 : Int) := by omega
    have g2 : decide ((n5 : Int) < (n6 : Int)) = false := decide_eq_false g1
    have g3 : (n5 : Int) - (n6 : Int) = (dn : Int) := by omega
    have g4 : (rn : Int) - (kk : Int) = (dr : Int) := by omega
    have g5 : ¬ (dr : Int) < (dn : Int) := by omega
    have g6 : decide ((dr : Int) < (dn : Int)) = false := decide_eq_false g5
    have g7 : n6 ≤ c5 := by omega
    have g8 : (n6 : Int) ≤ (c5 : Int) := by omega
    have HSM : Hid (decide (stps xs6 = stps (xs5.take n6)) = true) := Lib.hid (decide_eq_true (by
      have e : stps (xs5.take n6) = (stps xs5).take n6 := by unfold stps; rw [List.map_take]
      rw [e, hl1, ← HP6.out.1, ← stps_length, List.take_left]))
    have HPF := Lib.hid (HP5'.out.first n6 (by omega))
    clear hm ht hn hb hl1 hl2 hl3 hrl hdn hdr
    obtain ⟨-, -, -, -, k4⟩ := HKP.out _ HB6.out
    obtain ⟨-, -, -, -, q4⟩ := HDX.out _ HX6.out
    go_wp2_with fail
    refine (rsame17_is p6 p5 n6 n6 c6 c5 xs6 (xs5.take n6) true w6 HP6.out HPF.out HSM.out).mono ?_
    rintro e w7 ⟨rfl, hd⟩
    have HB7 : Hid (Below W0.heap.size W0 w7) := Lib.hid (below_drawn HB6.out hd)
    clear hd
    go_wp2
    go_ret
    exact ⟨rfl, HIN.out _ HB7.out⟩

theorem lifted (os : Os) (started : os.Started) (H : Type) (enc : TypeId × Value → H) :
    ReturnsInHanded {} Try.checked os 6 .any (Rows.stepsFewSpec.pre6 enc Try.prog Try.f6 Rows.stepsFewRow.domain false) (Rows.stepsFewSpec.post enc Try.prog Try.f6 false true false false) := by
  refine returnsInHanded_of_change (C := Try.checked) own started (by kernel_rfl) Try.func6
    (ChangeSpec.witness6 (enc := enc) (C := Try.checked) false ⟨#[], #[.agg #[.int .u64 0, .int .u64 0, .int .u64 0, .int .u64 0, .slice none 0 0], .slice none 0 0, .int .i64 0, .int .u8 0], []⟩ 8 (by kernel_rfl) (by kernel_rfl) (by kernel_rfl) (by kernel_rfl)) ?_
  intro W base args ds gs before hval0 hW hcnd _
  have hval : ∀ (j : Nat) t v, Try.f6.params[j]? = some t → args[j]? = some v → Value.okWide Try.prog W .any base t v := hval0
  have hW' := hW
  obtain ⟨p, q, hA0, hV, rfl, hfz, hnd⟩ := hW
  have hA : DataW.TrodAll enc Try.prog W 0 (fun _ => true) true Try.f6.params.toList args.toList ds p := hA0
  rw [Try.params6] at hA hval
  obtain ⟨v0, vs0, d0, ds0, p0, q0, hargs, rfl, rfl, h0, r0⟩ := trodAll_cons hA
  obtain ⟨v1, vs1, d1, ds1, p1, q1, rfl, rfl, rfl, h1, r1⟩ := trodAll_cons r0
  obtain ⟨v2, vs2, d2, ds2, p2, q2, rfl, rfl, rfl, h2, r2⟩ := trodAll_cons r1
  obtain ⟨v3, vs3, d3, ds3, p3, q3, rfl, rfl, rfl, h3, r3⟩ := trodAll_cons r2
  obtain ⟨rfl, rfl, rfl⟩ := trodAll_nil r3
  obtain rfl : args = #[v0, v1, v2, v3] := by cases args; simp_all
  obtain ⟨rfl, rfl⟩ := trodVars_none hV
  have k0 := h0
  have lt0 : ∀ x ∈ p0, x.block < W.heap.size := by obtain ⟨m, hm⟩ := k0; exact DataW.trod_lt m _ _ _ hm
  obtain ⟨x0, rfl, w0, n0⟩ := Cw.open (hval 0 25 v0 rfl rfl) h0
  obtain ⟨a1, len1, cap1, rfl⟩ := okWide_slice Try.underlying26 (hval 1 26 v1 rfl rfl)
  have k1 := h1
  have lt1 : ∀ x ∈ p1, x.block < W.heap.size := by obtain ⟨m, hm⟩ := k1; exact DataW.trod_lt m _ _ _ hm
  obtain ⟨z1, w1⟩ : ∃ zs, IsRow .i64 W a1 len1 cap1 zs := by
    obtain ⟨fuel, hf⟩ := h1
    rcases open_ints Try.underlying26 Try.underlying3 (by kernel_rfl) hf with ⟨hcs, _⟩ | ⟨x, l, c, zs, hcs, _, hl, hm, hz, _, hcell, hwz⟩
    · simp [Value.cells] at hcs
      obtain ⟨rfl, rfl, rfl⟩ := hcs
      exact ⟨[], .inl ⟨rfl, rfl, rfl, rfl⟩⟩
    · simp [Value.cells] at hcs
      obtain ⟨rfl, rfl, rfl⟩ := hcs
      exact ⟨zs, .inr ⟨_, rfl, hl, hm, by simpa using hz, hcell, hwz⟩⟩
  obtain ⟨a2, rfl, rfl, rfl, w2⟩ := open_int Try.underlying3 (hval 2 3 v2 rfl rfl) h2
  obtain ⟨a3, rfl, rfl, rfl, w3⟩ := open_int Try.underlying5 (hval 3 5 v3 rfl rfl) h3
  clear hA0 hval0
  refine (walk x0 a1 len1 cap1 z1 a2 a3 W w0 n0 w1 w2 w3).mono fun e W' ⟨he, bel⟩ => ?_
  subst he
  exact ⟨_, rfl, _, _, _, [], _, [], hW', trodAll_mk1 (shut_bool Try.underlying4 _), (trodAll_cons_mk (Below.trod laidOut (by kernel_rfl) (of_decide_eq_true (by kernel_rfl)) k0 bel lt0) (trodAll_cons_mk (Below.trod laidOut (by kernel_rfl) (of_decide_eq_true (by kernel_rfl)) k1 bel lt1) (trodAll_cons_mk (shut_int Try.underlying3 w2) (trodAll_cons_mk (shut_int Try.underlying5 w3) trodAll_mk0)))), rfl, bel.frame _, fun h => by cases h⟩

theorem over : Rows.stepsFewRow.holds Try.pinned (OpenSpec.ofChange Rows.stepsFewSpec) :=
  OpenClaim.holds_of_wide 6 Try.f6 rfl rfl rfl rfl rfl rfl rfl ⟨rfl, rfl, rfl, rfl, rfl⟩ rfl rfl rfl rfl rfl (by kernel_rfl) Try.func6 (by kernel_rfl)
    (of_decide_eq_true (by kernel_rfl)) (by unfold Func.isWrapper; first | (rw [if_pos (by decide +kernel)]; kernel_rfl) | (rw [if_neg (by decide +kernel)]; exact ⟨rfl, rfl⟩))
    (fun os started H enc _ => lifted os started H enc)

/-- the statement -/
theorem proved : Rows.StepsFewSaid := over
#print axioms proved
end Go.Proofs.Ytpcebfefbnpbpaa.stepsFew
