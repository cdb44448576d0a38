/- For all costs, whatever was asked, and any place, StepsTell answers true, and turns nothing that was there. No condition. -/
import Derived.Test.YtpcebfefbnpbpaaRows
import Derived.Test.YtpcebfefbnpbpaaStpLaw
import Derived.Test.YtpcebfefbnpbpaaStpRefA
import Derived.Test.YtpcebfefbnpbpaaPackN
import Derived.Deep.RegionHeld3
import Derived.WalkKit
import Derived.ProofKit
import Derived.OpenShut
import Derived.ShutString
import Derived.ChangeOld
import Derived.Below
import Derived.Deep.Matrix
import Derived.SizedLaws
set_option linter.all false
set_option maxRecDepth 100000
set_option maxHeartbeats 12800000
namespace Go.Proofs.Ytpcebfefbnpbpaa.stepsTell
open Go.ChangeShapes Go.WideShapes Go.ChangeAt Go.RowKit
set_option linter.unusedVariables false

theorem own : ownKnob Try.prog.godebug = none := by kernel_rfl
theorem laidOut : laidOutB Try.prog = true := by kernel_rfl

/-- a slice of integers that came in -/
def IsRow (k : IntKind) (w : World) (a : Option Addr) (len cap : Nat) (zs : List Int) : Prop :=
  (a = none ∧ len = 0 ∧ cap = 0 ∧ zs = []) ∨
  ∃ x, a = some x ∧ len ≤ cap ∧ cap ≤ maxLen ∧ zs.length = cap ∧ (∀ i, i < zs.length → w.cell? (x.add i) = some (.int k (zs.getD i 0))) ∧ ∀ n ∈ zs, (Lit.int k n).wf = true

theorem walk (x0 : Cw) (a1 : Option Addr) (len1 cap1 : Nat) (z1 : List Int) (a2 : Int) (w : World) (w0 : x0.Good w) (n0 : x0.a = none → x0.cap = 0) (w1 : IsRow .i64 w a1 len1 cap1 z1) (w2 : (Lit.int .i64 a2).wf = true) :
    Calls Try.prog 3 #[x0.v, .slice a1 len1 cap1, .int .i64 a2] w fun e w' => e = .returned (.bool true) ∧ Below w.heap.size w w' := by
  have hs1 := Sl.of_row w1
  generalize z1.take len1 = zs at hs1
  have hnc1 := hs1.2.1
  have hcm1 := hs1.2.2.1
  unfold maxLen at hcm1
  have HQ := Lib.hid hs1
  have HQL : Hid (zs.length = len1) := Lib.hid hs1.1
  clear hs1 w1
  obtain ⟨cm, cl, co, ct, ra, rn, rcap, xs⟩ := x0
  have HC := Lib.hid w0
  have hrc := w0.1.2.1
  have hrm := w0.1.2.2.1
  unfold maxLen at hrm
  have HRL : Hid (xs.length = rn) := Lib.hid w0.1.1
  clear w0 n0
  obtain ⟨W0, hW0⟩ : ∃ W, W = w.alloc (.cells #[.int .u64 cm, .int .u64 cl, .int .u64 co, .int .u64 ct, .slice ra rn rcap] 25) := ⟨_, rfl⟩
  have HWB : Hid (Below w.heap.size w W0) := Lib.hid (by rw [hW0]; exact (Below.refl _ w).alloc (Nat.le_refl _) _)
  have HKP : Hid (∀ W, Below W0.heap.size W0 W → W.cell? ⟨w.heap.size, 0, none⟩ = some (.int .u64 cm) ∧ W.cell? ⟨w.heap.size, 1, none⟩ = some (.int .u64 cl) ∧ W.cell? ⟨w.heap.size, 2, none⟩ = some (.int .u64 co) ∧ W.cell? ⟨w.heap.size, 3, none⟩ = some (.int .u64 ct) ∧ W.cell? ⟨w.heap.size, 4, none⟩ = some (.slice ra rn rcap)) := Lib.hid fun W hb =>
    five_cells ((hb.block w.heap.size (by rw [hW0]; simp)).trans (show W0.heap[w.heap.size]? = some (.cells #[.int .u64 cm, .int .u64 cl, .int .u64 co, .int .u64 ct, .slice ra rn rcap] 25 (0, 0)) by rw [hW0]; exact heap_alloc_new w _))
  have HIN : Hid (∀ W, Below W0.heap.size W0 W → Below w.heap.size w W) := Lib.hid fun W hb => HWB.out.trans (hb.mono HWB.out.size)
  have HCG : Hid (∀ W, Below W0.heap.size W0 W → Cw.Good W ⟨cm, cl, co, ct, ra, rn, rcap, xs⟩) := Lib.hid fun W hb => HC.out.below (HIN.out W hb) (Nat.le_refl _)
  simp only [Cw.v, Cw.cells]
  go_enter Try.func3, Try.ntmps3
  go_wp2_with fail
  rw [← hW0]
  refine (awake_any _).mono ?_
  rintro e w1 ⟨rfl, hb⟩
  have HB1 : Hid (Below W0.heap.size W0 w1) := Lib.hid hb
  clear hb hW0
  obtain ⟨k0, k1, k2, k3, k4⟩ := HKP.out _ HB1.out
  go_wp2_with fail
  clear k0 k1 k2 k3 k4
  refine (few17_is ⟨cm, cl, co, ct, ra, rn, rcap, xs⟩ a1 len1 cap1 w1 (HCG.out _ HB1.out) (by omega)).mono ?_
  rintro e w2 ⟨he, hb⟩
  have HB2 : Hid (Below W0.heap.size W0 w2) := Lib.hid (HB1.out.trans (hb.mono HB1.out.size))
  clear hb
  rcases he with rfl | ⟨rfl, hn300, hq100⟩
  · go_wp2
    go_ret
    exact ⟨rfl, HIN.out _ HB2.out⟩
  dsimp only at hn300
  have HN20 : Hid ((⟨cm, cl, co, ct, ra, rn, rcap, xs⟩ : Cw).n ≤ 20000) := Lib.hid (show rn ≤ 20000 by omega)
  obtain ⟨k0, k1, k2, k3, k4⟩ := HKP.out _ HB2.out
  go_wp2_with fail
  clear k0 k1 k2 k3 k4
  refine (sall17_is ⟨cm, cl, co, ct, ra, rn, rcap, xs⟩ a1 len1 cap1 zs w w2 (HIN.out _ HB2.out) (HCG.out _ HB2.out) (HQ.out.below (HIN.out _ HB2.out) (Nat.le_refl _))).mono ?_
  rintro e w3 ⟨a3, n3, c3, ys3, rfl, hm, ht, hn, hb⟩
  have HA3 := Lib.hid hm
  have HT3 := Lib.hid ht
  have HB3 : Hid (Below W0.heap.size W0 w3) := Lib.hid (HB2.out.trans (hb.mono HB2.out.size))
  clear hm ht hn hb
  obtain ⟨k0, k1, k2, k3, k4⟩ := HKP.out _ HB3.out
  go_wp2_with fail
  clear k0 k1 k2 k3 k4
  refine (rAll17_is ⟨cm, cl, co, ct, ra, rn, rcap, xs⟩ a1 len1 cap1 zs w w3 (HIN.out _ HB3.out) HC.out HQ.out HN20.out).mono ?_
  rintro e w4 ⟨a4, n4, c4, ys4, rfl, hm, ht, hn, hb⟩
  have HA4 := Lib.hid hm
  have HT4 := Lib.hid ht
  have HA3 := Lib.hid (HA3.out.below hb)
  have HB4 : Hid (Below W0.heap.size W0 w4) := Lib.hid (HB3.out.trans (hb.mono HB3.out.size))
  obtain rfl : n4 = n3 := by rw [← HA4.out.len, ← HA3.out.len, ← lsts_length, ← lsts_length, HT3.out, HT4.out]
  have hn21 : n4 ≤ 9223372036854775807 := by
    have h1 := HA4.out.len
    have h2 := lsts_length ys4
    have h3 := HT4.out
    have h4 := Stp.all_len (c := (Cw.c ⟨cm, cl, co, ct, ra, rn, rcap, xs⟩)) (q := zs)
    have h5 := HQL.out
    rw [h3] at h2
    split at h4 <;> omega
  clear hm ht hn hb
  go_wp2
  go_loopw [10] (fun ix wr => ∃ k : Nat, k ≤ n4 ∧ ix = .int .i64 (k : Int) ∧ Hid (∃ q, wr = w4.drewN q)) (fun ix _ => n4 - (intOf ix).toNat)
  case atStart => exact ⟨0, Nat.zero_le _, rfl, ⟨0, rfl⟩⟩
  case round =>
    obtain ⟨k, hk, rfl, HD⟩ := hrel
    have HBR : Hid (Below w4.heap.size w4 wr) := Lib.hid (below_drawn (Below.refl _ _) HD.out)
    by_cases hlt : k < n4
    · have HA3' := Lib.hid (HA3.out.below HBR.out)
      have HA4' := Lib.hid (HA4.out.below HBR.out)
      obtain ⟨g3, rfl, hc3⟩ := HA3'.out.at (by omega)
      obtain ⟨g4, rfl, hc4⟩ := HA4'.out.at (by omega)
      have hx3 := hc3 k hlt
      have hx4 := hc4 k hlt
      obtain ⟨hp3, hs3⟩ := HA3'.out.ps k hlt
      obtain ⟨hp4, hs4⟩ := HA4'.out.ps k hlt
      rw [HT3.out] at hs3
      rw [HT4.out] at hs4
      generalize ys3.getD k Lw.no = y3 at hx3 hp3 hs3
      generalize ys4.getD k Lw.no = y4 at hx4 hp4 hs4
      obtain ⟨pa3, pn3, pc3, px3⟩ := y3
      obtain ⟨pa4, pn4, pc4, px4⟩ := y4
      simp only [Lw.v] at hx3 hx4
      dsimp only at hp3 hs3 hp4 hs4
      have HP3 := Lib.hid hp3
      have HP4 := Lib.hid hp4
      have HDE : Hid (decide (stps px3 = stps px4) = true) := Lib.hid (decide_eq_true (by rw [hs3, hs4]))
      have hki : (k : Int) < (n4 : Int) := by omega
      clear hc3 hc4 hp3 hp4 hs3 hs4
      go_wp2
      go_quiet (exact Calls.quiet_of (rsame17_is _ pa4 pn3 pn4 pc3 pc4 px3 px4 true _ (HP3.out.drewN _) (HP4.out.drewN _) HDE.out))
      go_wp2
      go_roundw
      case rel => exact ⟨k + 1, by omega, by go_num, (by obtain ⟨q, hq⟩ := HD.out; exact ⟨_, by rw [hq, World.drewN_drewN]⟩)⟩
      case measure => simp [intOf]; omega
    · obtain rfl : k = n4 := by omega
      go_wp2
      obtain ⟨v0, hv0⟩ : ∃ v, v = wr := ⟨_, rfl⟩
      rw [← hv0]
      have HB5 : Hid (Below W0.heap.size W0 v0) := Lib.hid (by rw [hv0]; exact HB4.out.trans (HBR.out.mono HB4.out.size))
      have HBD : Hid (Below W0.heap.size W0 v0.drew) := Lib.hid (below_drawn HB5.out ⟨1, rfl⟩)
      have hmx : Try.prog.follows .mixedOrders = true := by kernel_rfl
      clear hv0
      refine wp_region_held_drew (S := (fun W => W.cell? ⟨w.heap.size, 0, none⟩ = some (.int .u64 cm) ∧ W.cell? ⟨w.heap.size, 1, none⟩ = some (.int .u64 cl) ∧ W.cell? ⟨w.heap.size, 2, none⟩ = some (.int .u64 co) ∧ W.cell? ⟨w.heap.size, 3, none⟩ = some (.int .u64 ct) ∧ W.cell? ⟨w.heap.size, 4, none⟩ = some (.slice ra rn rcap))) (by kernel_rfl) (by first | (exact HKP.out _ (by first | exact HB9.out | exact HB8.out | exact HB7.out | exact HBD.out)) | ((try dsimp only); exact HKP.out _ (by first | exact HB9.out | exact HB8.out | exact HB7.out | exact HBD.out))) (fun hHeld => ?_)
      refine wpAnyH_take (i := 0) (v := ?vk1) rfl (by kernel_rfl) (by kernel_rfl) (by kernel_rfl) (fun _ _ _ h => h) (Or.inl ⟨by rfl, ?hk1⟩) (by assumption) ?rk1
      case hk1 => intro w hSw; (try dsimp only at hSw); go_simp; try with_reducible rfl
      simp only [Act.put, List.getElem_toArray, List.getElem_cons_succ, List.getElem_cons_zero, List.setIfInBounds_toArray, List.set_cons_succ, List.set_cons_zero]
      refine wpAnyH_take (i := 1) (v := ?vk4) rfl (by kernel_rfl) (by kernel_rfl) (by kernel_rfl) (fun _ _ _ h => h) (Or.inl ⟨by rfl, ?hk4⟩) (by assumption) ?rk4
      case hk4 => intro w hSw; (try dsimp only at hSw); go_simp; try with_reducible rfl
      simp only [Act.put, List.getElem_toArray, List.getElem_cons_succ, List.getElem_cons_zero, List.setIfInBounds_toArray, List.set_cons_succ, List.set_cons_zero]
      refine wpAnyH_take (i := 2) (v := ?vk7) rfl (by kernel_rfl) (by kernel_rfl) (by kernel_rfl) (fun _ _ _ h => h) (Or.inl ⟨by rfl, ?hk7⟩) (by assumption) ?rk7
      case hk7 => intro w hSw; (try dsimp only at hSw); go_simp; try with_reducible rfl
      simp only [Act.put, List.getElem_toArray, List.getElem_cons_succ, List.getElem_cons_zero, List.setIfInBounds_toArray, List.set_cons_succ, List.set_cons_zero]
      refine wpAnyH_take (i := 3) (v := ?vk10) rfl (by kernel_rfl) (by kernel_rfl) (by kernel_rfl) (fun _ _ _ h => h) (Or.inl ⟨by rfl, ?hk10⟩) (by assumption) ?rk10
      case hk10 => intro w hSw; (try dsimp only at hSw); go_simp; try with_reducible rfl
      simp only [Act.put, List.getElem_toArray, List.getElem_cons_succ, List.getElem_cons_zero, List.setIfInBounds_toArray, List.set_cons_succ, List.set_cons_zero]
      refine wpAnyH_take (i := 4) (v := ?vk13) rfl (by kernel_rfl) (by kernel_rfl) (by kernel_rfl) (fun _ _ _ h => h) (Or.inl ⟨by rfl, ?hk13⟩) (by assumption) ?rk13
      case hk13 => intro w hSw; (try dsimp only at hSw); go_simp; try with_reducible rfl
      simp only [Act.put, List.getElem_toArray, List.getElem_cons_succ, List.getElem_cons_zero, List.setIfInBounds_toArray, List.set_cons_succ, List.set_cons_zero]
      refine wpAnyH_take (i := 6) (v := ?vk16) rfl (by kernel_rfl) (by kernel_rfl) (by kernel_rfl) (fun _ _ _ h => h) (Or.inl ⟨by rfl, ?hk16⟩) (by assumption) ?rk16
      case hk16 => intro w hSw; (try dsimp only at hSw); go_simp; try with_reducible rfl
      simp only [Act.put, List.getElem_toArray, List.getElem_cons_succ, List.getElem_cons_zero, List.setIfInBounds_toArray, List.set_cons_succ, List.set_cons_zero]
      refine wpAnyH_take (i := 7) (v := ?vk19) rfl (by kernel_rfl) (by kernel_rfl) (by kernel_rfl) (fun _ _ _ h => h) (Or.inl ⟨by rfl, ?hk19⟩) (by assumption) ?rk19
      case hk19 => intro w hSw; (try dsimp only at hSw); go_simp; try with_reducible rfl
      simp only [Act.put, List.getElem_toArray, List.getElem_cons_succ, List.getElem_cons_zero, List.setIfInBounds_toArray, List.set_cons_succ, List.set_cons_zero]
      refine wpAnyH_take (i := 8) (v := ?vk22) rfl (by kernel_rfl) (by kernel_rfl) (by kernel_rfl) (fun _ _ _ h => h) (Or.inl ⟨by rfl, ?hk22⟩) (by assumption) ?rk22
      case hk22 => intro w hSw; (try dsimp only at hSw); go_simp; try with_reducible rfl
      simp only [Act.put, List.getElem_toArray, List.getElem_cons_succ, List.getElem_cons_zero, List.setIfInBounds_toArray, List.set_cons_succ, List.set_cons_zero]
      refine wpAnyH_ready (rs := [5]) (by kernel_rfl) (by simp) ?_
      refine AllReadyH.cons rfl (fun K hK => ?_) AllReadyH.nil
      go_simp
      refine (sat17_is ⟨cm, cl, co, ct, ra, rn, rcap, xs⟩ a1 len1 cap1 zs a2 w v0.drew (HIN.out _ HBD.out) (HCG.out _ HBD.out) (HQ.out.below (HIN.out _ HBD.out) (Nat.le_refl _))).mono ?_
      rintro e w7 ⟨a7, n7, c7, xs7, rfl, hm, ht, hn, hb⟩
      have HP7 := Lib.hid hm.ps
      have HT7 := Lib.hid ht
      have HB7 : Hid (Below W0.heap.size W0 w7) := Lib.hid (HBD.out.trans (hb.mono HBD.out.size))
      have HL7 := Lib.hid hb
      clear hm ht hn hb
      refine hK.out _ _ (by first | (exact HKP.out _ (by first | exact HB9.out | exact HB8.out | exact HB7.out | exact HBD.out)) | ((try dsimp only); exact HKP.out _ (by first | exact HB9.out | exact HB8.out | exact HB7.out | exact HBD.out))) (fun hHeld => ?_)
      clear hK K
      try simp only [Act.put, List.getElem_toArray, List.getElem_cons_succ, List.getElem_cons_zero, List.setIfInBounds_toArray, List.set_cons_succ, List.set_cons_zero]
      refine wpAnyH_ready (rs := [9]) (by kernel_rfl) (by simp) ?_
      refine AllReadyH.cons rfl (fun K hK => ?_) AllReadyH.nil
      go_simp
      refine (rAt17_is ⟨cm, cl, co, ct, ra, rn, rcap, xs⟩ a1 len1 cap1 zs a2 w w7 (HIN.out _ HB7.out) HC.out HQ.out HN20.out).mono ?_
      rintro e w8 ⟨a8, n8, c8, xs8, rfl, hm, ht, hn, hb⟩
      have HP8 := Lib.hid hm.ps
      have HT8 := Lib.hid ht
      have HB8 : Hid (Below W0.heap.size W0 w8) := Lib.hid (HB7.out.trans (hb.mono HB7.out.size))
      have HL8 := Lib.hid hb
      clear hm ht hn hb
      refine hK.out _ _ (by first | (exact HKP.out _ (by first | exact HB9.out | exact HB8.out | exact HB7.out | exact HBD.out)) | ((try dsimp only); exact HKP.out _ (by first | exact HB9.out | exact HB8.out | exact HB7.out | exact HBD.out))) (fun hHeld => ?_)
      clear hK K
      try simp only [Act.put, List.getElem_toArray, List.getElem_cons_succ, List.getElem_cons_zero, List.setIfInBounds_toArray, List.set_cons_succ, List.set_cons_zero]
      refine wpAnyH_ready (rs := [10]) (by kernel_rfl) (by simp) ?_
      refine AllReadyH.cons rfl (fun K hK => ?_) AllReadyH.nil
      go_simp
      refine (rsame17_is a7 a8 n7 n8 c7 c8 xs7 xs8 true w8 (HP7.out.below HL8.out (Nat.le_refl _)) HP8.out (decide_eq_true (by rw [HT7.out, HT8.out]))).mono ?_
      rintro e w9 ⟨rfl, hd⟩
      have HB9 : Hid (Below W0.heap.size W0 w9) := Lib.hid (below_drawn HB8.out hd)
      clear hd
      refine hK.out _ _ (by first | (exact HKP.out _ (by first | exact HB9.out | exact HB8.out | exact HB7.out | exact HBD.out)) | ((try dsimp only); exact HKP.out _ (by first | exact HB9.out | exact HB8.out | exact HB7.out | exact HBD.out))) (fun hHeld => ?_)
      clear hK K
      try simp only [Act.put, List.getElem_toArray, List.getElem_cons_succ, List.getElem_cons_zero, List.setIfInBounds_toArray, List.set_cons_succ, List.set_cons_zero]
      refine wpAnyH_take (i := 11) (v := ?vk61) rfl (by kernel_rfl) (by kernel_rfl) (by kernel_rfl) (fun _ _ _ h => h) (Or.inl ⟨by rfl, ?hk61⟩) (by assumption) ?rk61
      case hk61 => intro w hSw; (try dsimp only at hSw); go_simp; try with_reducible rfl
      simp only [Act.put, List.getElem_toArray, List.getElem_cons_succ, List.getElem_cons_zero, List.setIfInBounds_toArray, List.set_cons_succ, List.set_cons_zero]
      refine wpAnyH_take (i := 12) (v := ?vk64) rfl (by kernel_rfl) (by kernel_rfl) (by kernel_rfl) (fun _ _ _ h => h) (Or.inl ⟨by rfl, ?hk64⟩) (by assumption) ?rk64
      case hk64 => intro w hSw; (try dsimp only at hSw); go_simp; try with_reducible rfl
      simp only [Act.put, List.getElem_toArray, List.getElem_cons_succ, List.getElem_cons_zero, List.setIfInBounds_toArray, List.set_cons_succ, List.set_cons_zero]
      refine wpAnyH_done (by kernel_rfl) ?_ _
      go_wp2
      go_ret
      exact ⟨rfl, HIN.out _ HB9.out⟩

theorem lifted (os : Os) (started : os.Started) (H : Type) (enc : TypeId × Value → H) :
    ReturnsInHanded {} Try.checked os 3 .any (Rows.stepsTellSpec.pre6 enc Try.prog Try.f3 Rows.stepsTellRow.domain false) (Rows.stepsTellSpec.post enc Try.prog Try.f3 false true false false) := by
  refine returnsInHanded_of_change (C := Try.checked) own started (by kernel_rfl) Try.func3
    (ChangeSpec.witness6 (enc := enc) (C := Try.checked) false ⟨#[], #[.agg #[.int .u64 0, .int .u64 0, .int .u64 0, .int .u64 0, .slice none 0 0], .slice none 0 0, .int .i64 0], []⟩ 8 (by kernel_rfl) (by kernel_rfl) (by kernel_rfl) (by kernel_rfl)) ?_
  intro W base args ds gs before hval0 hW hcnd _
  have hval : ∀ (j : Nat) t v, Try.f3.params[j]? = some t → args[j]? = some v → Value.okWide Try.prog W .any base t v := hval0
  have hW' := hW
  obtain ⟨p, q, hA0, hV, rfl, hfz, hnd⟩ := hW
  have hA : DataW.TrodAll enc Try.prog W 0 (fun _ => true) true Try.f3.params.toList args.toList ds p := hA0
  rw [Try.params3] at hA hval
  obtain ⟨v0, vs0, d0, ds0, p0, q0, hargs, rfl, rfl, h0, r0⟩ := trodAll_cons hA
  obtain ⟨v1, vs1, d1, ds1, p1, q1, rfl, rfl, rfl, h1, r1⟩ := trodAll_cons r0
  obtain ⟨v2, vs2, d2, ds2, p2, q2, rfl, rfl, rfl, h2, r2⟩ := trodAll_cons r1
  obtain ⟨rfl, rfl, rfl⟩ := trodAll_nil r2
  obtain rfl : args = #[v0, v1, v2] := by cases args; simp_all
  obtain ⟨rfl, rfl⟩ := trodVars_none hV
  have k0 := h0
  have lt0 : ∀ x ∈ p0, x.block < W.heap.size := by obtain ⟨m, hm⟩ := k0; exact DataW.trod_lt m _ _ _ hm
  obtain ⟨x0, rfl, w0, n0⟩ := Cw.open (hval 0 25 v0 rfl rfl) h0
  obtain ⟨a1, len1, cap1, rfl⟩ := okWide_slice Try.underlying26 (hval 1 26 v1 rfl rfl)
  have k1 := h1
  have lt1 : ∀ x ∈ p1, x.block < W.heap.size := by obtain ⟨m, hm⟩ := k1; exact DataW.trod_lt m _ _ _ hm
  obtain ⟨z1, w1⟩ : ∃ zs, IsRow .i64 W a1 len1 cap1 zs := by
    obtain ⟨fuel, hf⟩ := h1
    rcases open_ints Try.underlying26 Try.underlying3 (by kernel_rfl) hf with ⟨hcs, _⟩ | ⟨x, l, c, zs, hcs, _, hl, hm, hz, _, hcell, hwz⟩
    · simp [Value.cells] at hcs
      obtain ⟨rfl, rfl, rfl⟩ := hcs
      exact ⟨[], .inl ⟨rfl, rfl, rfl, rfl⟩⟩
    · simp [Value.cells] at hcs
      obtain ⟨rfl, rfl, rfl⟩ := hcs
      exact ⟨zs, .inr ⟨_, rfl, hl, hm, by simpa using hz, hcell, hwz⟩⟩
  obtain ⟨a2, rfl, rfl, rfl, w2⟩ := open_int Try.underlying3 (hval 2 3 v2 rfl rfl) h2
  clear hA0 hval0
  refine (walk x0 a1 len1 cap1 z1 a2 W w0 n0 w1 w2).mono fun e W' ⟨he, bel⟩ => ?_
  subst he
  exact ⟨_, rfl, _, _, _, [], _, [], hW', trodAll_mk1 (shut_bool Try.underlying4 _), (trodAll_cons_mk (Below.trod laidOut (by kernel_rfl) (of_decide_eq_true (by kernel_rfl)) k0 bel lt0) (trodAll_cons_mk (Below.trod laidOut (by kernel_rfl) (of_decide_eq_true (by kernel_rfl)) k1 bel lt1) (trodAll_cons_mk (shut_int Try.underlying3 w2) trodAll_mk0))), rfl, bel.frame _, fun h => by cases h⟩

theorem over : Rows.stepsTellRow.holds Try.pinned (OpenSpec.ofChange Rows.stepsTellSpec) :=
  OpenClaim.holds_of_wide 3 Try.f3 rfl rfl rfl rfl rfl rfl rfl ⟨rfl, rfl, rfl, rfl, rfl⟩ rfl rfl rfl rfl rfl (by kernel_rfl) Try.func3 (by kernel_rfl)
    (of_decide_eq_true (by kernel_rfl)) (by unfold Func.isWrapper; first | (rw [if_pos (by decide +kernel)]; kernel_rfl) | (rw [if_neg (by decide +kernel)]; exact ⟨rfl, rfl⟩))
    (fun os started H enc _ => lifted os started H enc)

/-- the statement -/
theorem proved : Rows.StepsTellSaid := over
#print axioms proved
end Go.Proofs.Ytpcebfefbnpbpaa.stepsTell
