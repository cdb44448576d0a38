/- For all costs, whatever was asked, and any two beginnings, StepsBehind answers true, and turns nothing that was there. No condition. -/
import Derived.Test.YtpcebfefbnpbpaaRows
import Derived.Test.YtpcebfefbnpbpaaStpLaw
import Derived.Test.YtpcebfefbnpbpaaPackD
import Derived.Test.YtpcebfefbnpbpaaPackN
import Derived.Deep.RegionHeld3
import Derived.WalkKit
import Derived.ProofKit
import Derived.OpenShut
import Derived.ShutString
import Derived.ChangeOld
import Derived.Below
import Derived.Deep.Matrix
import Derived.SizedLaws
set_option linter.all false
set_option maxRecDepth 100000
set_option maxHeartbeats 12800000
namespace Go.Proofs.Ytpcebfefbnpbpaa.stepsBehind
open Go.ChangeShapes Go.WideShapes Go.ChangeAt Go.RowKit
set_option linter.unusedVariables false

theorem own : ownKnob Try.prog.godebug = none := by kernel_rfl
theorem laidOut : laidOutB Try.prog = true := by kernel_rfl

/-- a slice of integers that came in -/
def IsRow (k : IntKind) (w : World) (a : Option Addr) (len cap : Nat) (zs : List Int) : Prop :=
  (a = none ∧ len = 0 ∧ cap = 0 ∧ zs = []) ∨
  ∃ x, a = some x ∧ len ≤ cap ∧ cap ≤ maxLen ∧ zs.length = cap ∧ (∀ i, i < zs.length → w.cell? (x.add i) = some (.int k (zs.getD i 0))) ∧ ∀ n ∈ zs, (Lit.int k n).wf = true

theorem walk (x0 : Cw) (a1 : Option Addr) (len1 cap1 : Nat) (z1 : List Int) (a2 : Option Addr) (len2 cap2 : Nat) (z2 : List Int) (a3 : Option Addr) (len3 cap3 : Nat) (z3 : List Int) (w : World) (w0 : x0.Good w) (n0 : x0.a = none → x0.cap = 0) (w1 : IsRow .i64 w a1 len1 cap1 z1) (w2 : IsRow .i64 w a2 len2 cap2 z2) (w3 : IsRow .i64 w a3 len3 cap3 z3) :
    Calls Try.prog 5 #[x0.v, .slice a1 len1 cap1, .slice a2 len2 cap2, .slice a3 len3 cap3] w fun e w' => e = .returned (.bool true) ∧ Below w.heap.size w w' := by
  have hs1 := Sl.of_row w1
  generalize z1.take len1 = za at hs1
  have hnc1 := hs1.2.1
  have hcm1 := hs1.2.2.1
  unfold maxLen at hcm1
  have HA := Lib.hid hs1
  have HAL : Hid (za.length = len1) := Lib.hid hs1.1
  clear hs1 w1
  have hs2 := Sl.of_row w2
  generalize z2.take len2 = zb at hs2
  have hnc2 := hs2.2.1
  have hcm2 := hs2.2.2.1
  unfold maxLen at hcm2
  have HBQ := Lib.hid hs2
  have HBQL : Hid (zb.length = len2) := Lib.hid hs2.1
  clear hs2 w2
  have hs3 := Sl.of_row w3
  generalize z3.take len3 = qs at hs3
  have hnc3 := hs3.2.1
  have hcm3 := hs3.2.2.1
  unfold maxLen at hcm3
  have HQ := Lib.hid hs3
  have HQL : Hid (qs.length = len3) := Lib.hid hs3.1
  clear hs3 w3
  obtain ⟨cm, cl, co, ct, ra, rn, rcap, xs⟩ := x0
  have HC := Lib.hid w0
  have hrc := w0.1.2.1
  have hrm := w0.1.2.2.1
  unfold maxLen at hrm
  have HRL : Hid (xs.length = rn) := Lib.hid w0.1.1
  clear w0 n0
  obtain ⟨W0, hW0⟩ : ∃ W, W = w.alloc (.cells #[.int .u64 cm, .int .u64 cl, .int .u64 co, .int .u64 ct, .slice ra rn rcap] 25) := ⟨_, rfl⟩
  have HWB : Hid (Below w.heap.size w W0) := Lib.hid (by rw [hW0]; exact (Below.refl _ w).alloc (Nat.le_refl _) _)
  have HKP : Hid (∀ W, Below W0.heap.size W0 W → W.cell? ⟨w.heap.size, 0, none⟩ = some (.int .u64 cm) ∧ W.cell? ⟨w.heap.size, 1, none⟩ = some (.int .u64 cl) ∧ W.cell? ⟨w.heap.size, 2, none⟩ = some (.int .u64 co) ∧ W.cell? ⟨w.heap.size, 3, none⟩ = some (.int .u64 ct) ∧ W.cell? ⟨w.heap.size, 4, none⟩ = some (.slice ra rn rcap)) := Lib.hid fun W hb =>
    five_cells ((hb.block w.heap.size (by rw [hW0]; simp)).trans (show W0.heap[w.heap.size]? = some (.cells #[.int .u64 cm, .int .u64 cl, .int .u64 co, .int .u64 ct, .slice ra rn rcap] 25 (0, 0)) by rw [hW0]; exact heap_alloc_new w _))
  have HIN : Hid (∀ W, Below W0.heap.size W0 W → Below w.heap.size w W) := Lib.hid fun W hb => HWB.out.trans (hb.mono HWB.out.size)
  have HCG : Hid (∀ W, Below W0.heap.size W0 W → Cw.Good W ⟨cm, cl, co, ct, ra, rn, rcap, xs⟩) := Lib.hid fun W hb => HC.out.below (HIN.out W hb) (Nat.le_refl _)
  simp only [Cw.v, Cw.cells]
  go_enter Try.func5, Try.ntmps5
  go_wp2_with fail
  rw [← hW0]
  refine (awake_any _).mono ?_
  rintro e w1 ⟨rfl, hb⟩
  have HB1 : Hid (Below W0.heap.size W0 w1) := Lib.hid hb
  clear hb hW0
  obtain ⟨k0, k1, k2, k3, k4⟩ := HKP.out _ HB1.out
  go_wp2_with fail
  clear k0 k1 k2 k3 k4
  refine (few17_is ⟨cm, cl, co, ct, ra, rn, rcap, xs⟩ a3 len3 cap3 w1 (HCG.out _ HB1.out) (by omega)).mono ?_
  rintro e w2 ⟨he, hb⟩
  have HB2 : Hid (Below W0.heap.size W0 w2) := Lib.hid (HB1.out.trans (hb.mono HB1.out.size))
  clear hb
  rcases he with rfl | ⟨rfl, hn300, hq100⟩
  · go_wp2
    go_ret
    exact ⟨rfl, HIN.out _ HB2.out⟩
  dsimp only at hn300
  rcases Nat.lt_or_ge 10 len1 with g1 | g1
  · have hg : (10 : Int) < (len1 : Int) := by omega
    have hgd : decide ((10 : Int) < (len1 : Int)) = true := decide_eq_true hg
    go_wp2
    go_ret
    exact ⟨rfl, HIN.out _ HB2.out⟩
  have hs1 : ¬ (10 : Int) < (len1 : Int) := by omega
  have hsd1 : decide ((10 : Int) < (len1 : Int)) = false := decide_eq_false hs1
  rcases Nat.lt_or_ge 10 len2 with g2 | g2
  · have hg : (10 : Int) < (len2 : Int) := by omega
    have hgd : decide ((10 : Int) < (len2 : Int)) = true := decide_eq_true hg
    go_wp2
    go_ret
    exact ⟨rfl, HIN.out _ HB2.out⟩
  have hs2 : ¬ (10 : Int) < (len2 : Int) := by omega
  have hsd2 : decide ((10 : Int) < (len2 : Int)) = false := decide_eq_false hs2
  rcases Nat.lt_or_ge 10 len3 with g3 | g3
  · have hg : (10 : Int) < (len3 : Int) := by omega
    have hgd : decide ((10 : Int) < (len3 : Int)) = true := decide_eq_true hg
    go_wp2
    go_ret
    exact ⟨rfl, HIN.out _ HB2.out⟩
  have hs3 : ¬ (10 : Int) < (len3 : Int) := by omega
  have hsd3 : decide ((10 : Int) < (len3 : Int)) = false := decide_eq_false hs3
  have hmx : Try.prog.follows .mixedOrders = true := by kernel_rfl
  have HBD : Hid (Below W0.heap.size W0 w2.drew) := Lib.hid (below_drawn HB2.out ⟨1, rfl⟩)
  go_wp2
  refine wp_region_held_drew (S := (fun W => W.cell? ⟨w.heap.size, 0, none⟩ = some (.int .u64 cm) ∧ W.cell? ⟨w.heap.size, 1, none⟩ = some (.int .u64 cl) ∧ W.cell? ⟨w.heap.size, 2, none⟩ = some (.int .u64 co) ∧ W.cell? ⟨w.heap.size, 3, none⟩ = some (.int .u64 ct) ∧ W.cell? ⟨w.heap.size, 4, none⟩ = some (.slice ra rn rcap))) (by kernel_rfl) (by first | (exact HKP.out _ (by first | exact HB5.out | exact HBY.out | exact HBV.out | exact HBS.out | exact HBD.out)) | ((try dsimp only); exact HKP.out _ (by first | exact HB5.out | exact HBY.out | exact HBV.out | exact HBS.out | exact HBD.out))) (fun hHeld => ?_)
  refine wpAnyH_take (i := 0) (v := ?vk1) rfl (by kernel_rfl) (by kernel_rfl) (by kernel_rfl) (fun _ _ _ h => h) (Or.inl ⟨by rfl, ?hk1⟩) (by assumption) ?rk1
  case hk1 => intro w hSw; (try dsimp only at hSw); go_simp; try with_reducible rfl
  simp only [Act.put, List.getElem_toArray, List.getElem_cons_succ, List.getElem_cons_zero, List.setIfInBounds_toArray, List.set_cons_succ, List.set_cons_zero]
  refine wpAnyH_take (i := 2) (v := ?vk4) rfl (by kernel_rfl) (by kernel_rfl) (by kernel_rfl) (fun _ _ _ h => h) (Or.inl ⟨by rfl, ?hk4⟩) (by assumption) ?rk4
  case hk4 => intro w hSw; (try dsimp only at hSw); go_simp; try with_reducible rfl
  simp only [Act.put, List.getElem_toArray, List.getElem_cons_succ, List.getElem_cons_zero, List.setIfInBounds_toArray, List.set_cons_succ, List.set_cons_zero]
  refine wpAnyH_take (i := 4) (v := ?vk7) rfl (by kernel_rfl) (by kernel_rfl) (by kernel_rfl) (fun _ _ _ h => h) (Or.inl ⟨by rfl, ?hk7⟩) (by assumption) ?rk7
  case hk7 => intro w hSw; (try dsimp only at hSw); go_simp; try with_reducible rfl
  simp only [Act.put, List.getElem_toArray, List.getElem_cons_succ, List.getElem_cons_zero, List.setIfInBounds_toArray, List.set_cons_succ, List.set_cons_zero]
  refine wpAnyH_take (i := 6) (v := ?vk10) rfl (by kernel_rfl) (by kernel_rfl) (by kernel_rfl) (fun _ _ _ h => h) (Or.inl ⟨by rfl, ?hk10⟩) (by assumption) ?rk10
  case hk10 => intro w hSw; (try dsimp only at hSw); go_simp; try with_reducible rfl
  simp only [Act.put, List.getElem_toArray, List.getElem_cons_succ, List.getElem_cons_zero, List.setIfInBounds_toArray, List.set_cons_succ, List.set_cons_zero]
  refine wpAnyH_take (i := 7) (v := ?vk13) rfl (by kernel_rfl) (by kernel_rfl) (by kernel_rfl) (fun _ _ _ h => h) (Or.inl ⟨by rfl, ?hk13⟩) (by assumption) ?rk13
  case hk13 => intro w hSw; (try dsimp only at hSw); go_simp; try with_reducible rfl
  simp only [Act.put, List.getElem_toArray, List.getElem_cons_succ, List.getElem_cons_zero, List.setIfInBounds_toArray, List.set_cons_succ, List.set_cons_zero]
  refine wpAnyH_ready (rs := [1]) (by kernel_rfl) (by simp) ?_
  refine AllReadyH.cons rfl (fun K hK => ?_) AllReadyH.nil
  go_simp
  have HBS : Hid (Below W0.heap.size W0 ((w2.drew).alloc (.cells #[] 3))) := Lib.hid (HBD.out.alloc HBD.out.size _)
  refine hK.out _ _ (by first | (exact HKP.out _ (by first | exact HB5.out | exact HBY.out | exact HBV.out | exact HBS.out | exact HBD.out)) | ((try dsimp only); exact HKP.out _ (by first | exact HB5.out | exact HBY.out | exact HBV.out | exact HBS.out | exact HBD.out))) (fun hHeld => ?_)
  clear hK K
  try simp only [Act.put, List.getElem_toArray, List.getElem_cons_succ, List.getElem_cons_zero, List.setIfInBounds_toArray, List.set_cons_succ, List.set_cons_zero]
  refine wpAnyH_ready (rs := [3]) (by kernel_rfl) (by simp) ?_
  refine AllReadyH.cons rfl (fun K hK => ?_) AllReadyH.nil
  refine step_append_i64 (by rfl) (.tmp 35) (.tmp 36) (by rfl) w2.drew.heap.size _ 0 [] (by rfl) (by exact ownsI_lit w2.drew [] 0 rfl (Nat.zero_le _)) a1 len1 cap1 za (by rfl) (HA.out.below (HIN.out _ HBS.out) (Nat.le_refl _)) len1 (by omega) (by omega) (show w2.drew.heap.size ≤ (w2.drew.alloc (.cells #[] 3)).heap.size from by rw [World.size_alloc]; omega) (Below.refl _ _) ?_
  intro p5 u5 v5 hown hb hnil
  have HOW5 := Lib.hid hown
  have HBV : Hid (Below W0.heap.size W0 v5) := Lib.hid (HBS.out.trans (hb.mono HBD.out.size))
  have HLV : Hid (Below w2.drew.heap.size w2.drew v5) := Lib.hid (((Below.refl _ w2.drew).alloc (Nat.le_refl _) _).trans hb)
  clear hown hb hnil
  refine hK.out _ _ (by first | (exact HKP.out _ (by first | exact HB5.out | exact HBY.out | exact HBV.out | exact HBS.out | exact HBD.out)) | ((try dsimp only); exact HKP.out _ (by first | exact HB5.out | exact HBY.out | exact HBV.out | exact HBS.out | exact HBD.out))) (fun hHeld => ?_)
  clear hK K
  try simp only [Act.put, List.getElem_toArray, List.getElem_cons_succ, List.getElem_cons_zero, List.setIfInBounds_toArray, List.set_cons_succ, List.set_cons_zero]
  refine wpAnyH_ready (rs := [5]) (by kernel_rfl) (by simp) ?_
  refine AllReadyH.cons rfl (fun K hK => ?_) AllReadyH.nil
  refine step_append_i64 (by rfl) (.tmp 37) (.tmp 38) (by rfl) w2.drew.heap.size _ len1 ([] ++ za) (by rfl) (by exact HOW5.out) a3 len3 cap3 qs (by rfl) (HQ.out.below (HIN.out _ HBV.out) (Nat.le_refl _)) (len1 + len3) (by omega) (by omega) HLV.out.size (Below.refl _ _) ?_
  intro p5 u5 y5 hown hb hnil
  have HOX5 := Lib.hid hown
  have HBY : Hid (Below W0.heap.size W0 y5) := Lib.hid (HBV.out.trans (hb.mono HBD.out.size))
  have HLY : Hid (Below w2.drew.heap.size w2.drew y5) := Lib.hid (HLV.out.trans hb)
  clear hown hb hnil
  refine hK.out _ _ (by first | (exact HKP.out _ (by first | exact HB5.out | exact HBY.out | exact HBV.out | exact HBS.out | exact HBD.out)) | ((try dsimp only); exact HKP.out _ (by first | exact HB5.out | exact HBY.out | exact HBV.out | exact HBS.out | exact HBD.out))) (fun hHeld => ?_)
  clear hK K
  try simp only [Act.put, List.getElem_toArray, List.getElem_cons_succ, List.getElem_cons_zero, List.setIfInBounds_toArray, List.set_cons_succ, List.set_cons_zero]
  refine wpAnyH_ready (rs := [8]) (by kernel_rfl) (by simp) ?_
  refine AllReadyH.cons rfl (fun K hK => ?_) AllReadyH.nil
  go_simp
  refine (sat17_is ⟨cm, cl, co, ct, ra, rn, rcap, xs⟩ p5 (len1 + len3) u5 ([] ++ za ++ qs) (len1 : Int) y5 y5 (Below.refl _ _) (HCG.out _ HBY.out) (Sl.of_owns HOX5.out (fun z' hz' => by
    rcases List.mem_append.1 hz' with hz' | hz'
    · exact HA.out.2.2.2.1 z' hz'
    · exact HQ.out.2.2.2.1 z' hz') (by rw [List.length_append, List.nil_append, HAL.out, HQL.out]))).mono ?_
  rintro e w5 ⟨a5', n5, c5, xs5, rfl, hm, ht, hn, hb⟩
  have HP5 := Lib.hid hm.ps
  have HT5 : Hid (stps xs5 = Stp.at' (Cw.c ⟨cm, cl, co, ct, ra, rn, rcap, xs⟩) qs 0) := Lib.hid (ht.trans (by rw [List.nil_append, ← HAL.out]; exact Stp.at_behind (by rw [HAL.out]; omega) (by rw [HQL.out]; omega)))
  have HB5 : Hid (Below W0.heap.size W0 w5) := Lib.hid (HBY.out.trans (hb.mono HBY.out.size))
  have HL5 : Hid (Below w2.drew.heap.size w2.drew w5) := Lib.hid (HLY.out.trans (hb.mono HLY.out.size))
  clear hm ht hn hb
  refine hK.out _ _ (by first | (exact HKP.out _ (by first | exact HB5.out | exact HBY.out | exact HBV.out | exact HBS.out | exact HBD.out)) | ((try dsimp only); exact HKP.out _ (by first | exact HB5.out | exact HBY.out | exact HBV.out | exact HBS.out | exact HBD.out))) (fun hHeld => ?_)
  clear hK K
  try simp only [Act.put, List.getElem_toArray, List.getElem_cons_succ, List.getElem_cons_zero, List.setIfInBounds_toArray, List.set_cons_succ, List.set_cons_zero]
  refine wpAnyH_take (i := 9) (v := ?vk61) rfl (by kernel_rfl) (by kernel_rfl) (by kernel_rfl) (fun _ _ _ h => h) (Or.inl ⟨by rfl, ?hk61⟩) (by assumption) ?rk61
  case hk61 => intro w hSw; (try dsimp only at hSw); go_simp; try with_reducible rfl
  simp only [Act.put, List.getElem_toArray, List.getElem_cons_succ, List.getElem_cons_zero, List.setIfInBounds_toArray, List.set_cons_succ, List.set_cons_zero]
  refine wpAnyH_done (by kernel_rfl) ?_ _
  have HPX := HP5
  have HBW5 := HB5
  have HBD : Hid (Below W0.heap.size W0 w5.drew) := Lib.hid (below_drawn HB5.out ⟨1, rfl⟩)
  clear HBS HBV HBY HLV HLY
  go_wp2
  refine wp_region_held_drew (S := (fun W => W.cell? ⟨w.heap.size, 0, none⟩ = some (.int .u64 cm) ∧ W.cell? ⟨w.heap.size, 1, none⟩ = some (.int .u64 cl) ∧ W.cell? ⟨w.heap.size, 2, none⟩ = some (.int .u64 co) ∧ W.cell? ⟨w.heap.size, 3, none⟩ = some (.int .u64 ct) ∧ W.cell? ⟨w.heap.size, 4, none⟩ = some (.slice ra rn rcap))) (by kernel_rfl) (by first | (exact HKP.out _ (by first | exact HB6.out | exact HBY.out | exact HBV.out | exact HBS.out | exact HBD.out)) | ((try dsimp only); exact HKP.out _ (by first | exact HB6.out | exact HBY.out | exact HBV.out | exact HBS.out | exact HBD.out))) (fun hHeld => ?_)
  refine wpAnyH_take (i := 0) (v := ?vl1) rfl (by kernel_rfl) (by kernel_rfl) (by kernel_rfl) (fun _ _ _ h => h) (Or.inl ⟨by rfl, ?hl1⟩) (by assumption) ?rl1
  case hl1 => intro w hSw; (try dsimp only at hSw); go_simp; try with_reducible rfl
  simp only [Act.put, List.getElem_toArray, List.getElem_cons_succ, List.getElem_cons_zero, List.setIfInBounds_toArray, List.set_cons_succ, List.set_cons_zero]
  refine wpAnyH_take (i := 2) (v := ?vl4) rfl (by kernel_rfl) (by kernel_rfl) (by kernel_rfl) (fun _ _ _ h => h) (Or.inl ⟨by rfl, ?hl4⟩) (by assumption) ?rl4
  case hl4 => intro w hSw; (try dsimp only at hSw); go_simp; try with_reducible rfl
  simp only [Act.put, List.getElem_toArray, List.getElem_cons_succ, List.getElem_cons_zero, List.setIfInBounds_toArray, List.set_cons_succ, List.set_cons_zero]
  refine wpAnyH_take (i := 4) (v := ?vl7) rfl (by kernel_rfl) (by kernel_rfl) (by kernel_rfl) (fun _ _ _ h => h) (Or.inl ⟨by rfl, ?hl7⟩) (by assumption) ?rl7
  case hl7 => intro w hSw; (try dsimp only at hSw); go_simp; try with_reducible rfl
  simp only [Act.put, List.getElem_toArray, List.getElem_cons_succ, List.getElem_cons_zero, List.setIfInBounds_toArray, List.set_cons_succ, List.set_cons_zero]
  refine wpAnyH_take (i := 6) (v := ?vl10) rfl (by kernel_rfl) (by kernel_rfl) (by kernel_rfl) (fun _ _ _ h => h) (Or.inl ⟨by rfl, ?hl10⟩) (by assumption) ?rl10
  case hl10 => intro w hSw; (try dsimp only at hSw); go_simp; try with_reducible rfl
  simp only [Act.put, List.getElem_toArray, List.getElem_cons_succ, List.getElem_cons_zero, List.setIfInBounds_toArray, List.set_cons_succ, List.set_cons_zero]
  refine wpAnyH_take (i := 7) (v := ?vl13) rfl (by kernel_rfl) (by kernel_rfl) (by kernel_rfl) (fun _ _ _ h => h) (Or.inl ⟨by rfl, ?hl13⟩) (by assumption) ?rl13
  case hl13 => intro w hSw; (try dsimp only at hSw); go_simp; try with_reducible rfl
  simp only [Act.put, List.getElem_toArray, List.getElem_cons_succ, List.getElem_cons_zero, List.setIfInBounds_toArray, List.set_cons_succ, List.set_cons_zero]
  refine wpAnyH_ready (rs := [1]) (by kernel_rfl) (by simp) ?_
  refine AllReadyH.cons rfl (fun K hK => ?_) AllReadyH.nil
  go_simp
  have HBS : Hid (Below W0.heap.size W0 ((w5.drew).alloc (.cells #[] 3))) := Lib.hid (HBD.out.alloc HBD.out.size _)
  refine hK.out _ _ (by first | (exact HKP.out _ (by first | exact HB6.out | exact HBY.out | exact HBV.out | exact HBS.out | exact HBD.out)) | ((try dsimp only); exact HKP.out _ (by first | exact HB6.out | exact HBY.out | exact HBV.out | exact HBS.out | exact HBD.out))) (fun hHeld => ?_)
  clear hK K
  try simp only [Act.put, List.getElem_toArray, List.getElem_cons_succ, List.getElem_cons_zero, List.setIfInBounds_toArray, List.set_cons_succ, List.set_cons_zero]
  refine wpAnyH_ready (rs := [3]) (by kernel_rfl) (by simp) ?_
  refine AllReadyH.cons rfl (fun K hK => ?_) AllReadyH.nil
  refine step_append_i64 (by rfl) (.tmp 44) (.tmp 45) (by rfl) w5.drew.heap.size _ 0 [] (by rfl) (by exact ownsI_lit w5.drew [] 0 rfl (Nat.zero_le _)) a2 len2 cap2 zb (by rfl) (HBQ.out.below (HIN.out _ HBS.out) (Nat.le_refl _)) len2 (by omega) (by omega) (show w5.drew.heap.size ≤ (w5.drew.alloc (.cells #[] 3)).heap.size from by rw [World.size_alloc]; omega) (Below.refl _ _) ?_
  intro p6 u6 v6 hown hb hnil
  have HOW6 := Lib.hid hown
  have HBV : Hid (Below W0.heap.size W0 v6) := Lib.hid (HBS.out.trans (hb.mono HBD.out.size))
  have HLV : Hid (Below w5.drew.heap.size w5.drew v6) := Lib.hid (((Below.refl _ w5.drew).alloc (Nat.le_refl _) _).trans hb)
  clear hown hb hnil
  refine hK.out _ _ (by first | (exact HKP.out _ (by first | exact HB6.out | exact HBY.out | exact HBV.out | exact HBS.out | exact HBD.out)) | ((try dsimp only); exact HKP.out _ (by first | exact HB6.out | exact HBY.out | exact HBV.out | exact HBS.out | exact HBD.out))) (fun hHeld => ?_)
  clear hK K
  try simp only [Act.put, List.getElem_toArray, List.getElem_cons_succ, List.getElem_cons_zero, List.setIfInBounds_toArray, List.set_cons_succ, List.set_cons_zero]
  refine wpAnyH_ready (rs := [5]) (by kernel_rfl) (by simp) ?_
  refine AllReadyH.cons rfl (fun K hK => ?_) AllReadyH.nil
  refine step_append_i64 (by rfl) (.tmp 46) (.tmp 47) (by rfl) w5.drew.heap.size _ len2 ([] ++ zb) (by rfl) (by exact HOW6.out) a3 len3 cap3 qs (by rfl) (HQ.out.below (HIN.out _ HBV.out) (Nat.le_refl _)) (len2 + len3) (by omega) (by omega) HLV.out.size (Below.refl _ _) ?_
  intro p6 u6 y6 hown hb hnil
  have HOX6 := Lib.hid hown
  have HBY : Hid (Below W0.heap.size W0 y6) := Lib.hid (HBV.out.trans (hb.mono HBD.out.size))
  have HLY : Hid (Below w5.drew.heap.size w5.drew y6) := Lib.hid (HLV.out.trans hb)
  clear hown hb hnil
  refine hK.out _ _ (by first | (exact HKP.out _ (by first | exact HB6.out | exact HBY.out | exact HBV.out | exact HBS.out | exact HBD.out)) | ((try dsimp only); exact HKP.out _ (by first | exact HB6.out | exact HBY.out | exact HBV.out | exact HBS.out | exact HBD.out))) (fun hHeld => ?_)
  clear hK K
  try simp only [Act.put, List.getElem_toArray, List.getElem_cons_succ, List.getElem_cons_zero, List.setIfInBounds_toArray, List.set_cons_succ, List.set_cons_zero]
  refine wpAnyH_ready (rs := [8]) (by kernel_rfl) (by simp) ?_
  refine AllReadyH.cons rfl (fun K hK => ?_) AllReadyH.nil
  go_simp
  refine (sat17_is ⟨cm, cl, co, ct, ra, rn, rcap, xs⟩ p6 (len2 + len3) u6 ([] ++ zb ++ qs) (len2 : Int) y6 y6 (Below.refl _ _) (HCG.out _ HBY.out) (Sl.of_owns HOX6.out (fun z' hz' => by
    rcases List.mem_append.1 hz' with hz' | hz'
    · exact HBQ.out.2.2.2.1 z' hz'
    · exact HQ.out.2.2.2.1 z' hz') (by rw [List.length_append, List.nil_append, HBQL.out, HQL.out]))).mono ?_
  rintro e w6 ⟨a6', n6, c6, xs6, rfl, hm, ht, hn, hb⟩
  have HP6 := Lib.hid hm.ps
  have HT6 : Hid (stps xs6 = Stp.at' (Cw.c ⟨cm, cl, co, ct, ra, rn, rcap, xs⟩) qs 0) := Lib.hid (ht.trans (by rw [List.nil_append, ← HBQL.out]; exact Stp.at_behind (by rw [HBQL.out]; omega) (by rw [HQL.out]; omega)))
  have HB6 : Hid (Below W0.heap.size W0 w6) := Lib.hid (HBY.out.trans (hb.mono HBY.out.size))
  have HL6 : Hid (Below w5.drew.heap.size w5.drew w6) := Lib.hid (HLY.out.trans (hb.mono HLY.out.size))
  clear hm ht hn hb
  refine hK.out _ _ (by first | (exact HKP.out _ (by first | exact HB6.out | exact HBY.out | exact HBV.out | exact HBS.out | exact HBD.out)) | ((try dsimp only); exact HKP.out _ (by first | exact HB6.out | exact HBY.out | exact HBV.out | exact HBS.out | exact HBD.out))) (fun hHeld => ?_)
  clear hK K
  try simp only [Act.put, List.getElem_toArray, List.getElem_cons_succ, List.getElem_cons_zero, List.setIfInBounds_toArray, List.set_cons_succ, List.set_cons_zero]
  refine wpAnyH_take (i := 9) (v := ?vl61) rfl (by kernel_rfl) (by kernel_rfl) (by kernel_rfl) (fun _ _ _ h => h) (Or.inl ⟨by rfl, ?hl61⟩) (by assumption) ?rl61
  case hl61 => intro w hSw; (try dsimp only at hSw); go_simp; try with_reducible rfl
  simp only [Act.put, List.getElem_toArray, List.getElem_cons_succ, List.getElem_cons_zero, List.setIfInBounds_toArray, List.set_cons_succ, List.set_cons_zero]
  refine wpAnyH_done (by kernel_rfl) ?_ _
  have HP5' : Hid (Ps w6 a5' n5 c5 xs5) := Lib.hid (HPX.out.below (Below.trans (below_drawn (Below.refl _ w5) ⟨1, rfl⟩) HL6.out) (Nat.le_refl _))
  obtain ⟨k0, k1, k2, k3, k4⟩ := HKP.out _ HB6.out
  go_wp2_with (first
    | (go_at_call 13; refine (sat17_is ⟨cm, cl, co, ct, ra, rn, rcap, xs⟩ a3 len3 cap3 qs 0 w6 w6 (Below.refl _ _) (HCG.out _ HB6.out) (HQ.out.below (HIN.out _ HB6.out) (Nat.le_refl _))).mono ?_; rintro e w7 ⟨a7', n7, c7, xs7, rfl, hm, ht, hn, hb⟩; have HP7 := Lib.hid hm.ps; have HT7 := Lib.hid ht; have HB7 : Hid (Below W0.heap.size W0 w7) := Lib.hid (HB6.out.trans (hb.mono HB6.out.size)); have HL7 := Lib.hid hb; clear hm ht hn hb k0 k1 k2 k3 k4)
    | fail)
  have HX := Lib.hid (HP5'.out.below HL7.out (Nat.le_refl _))
  have HY := Lib.hid (HP6.out.below HL7.out (Nat.le_refl _))
  go_wp2_with fail
  have HS1 := Lib.hid (rsame17_is a5' a6' n5 n6 c5 c6 xs5 xs6 true w7 HX.out HY.out (decide_eq_true (by rw [HT5.out, HT6.out])))
  refine HS1.out.mono ?_
  rintro e w8 ⟨rfl, hd8⟩
  have HD8 : Hid (Below w7.heap.size w7 w8) := Lib.hid (below_drawn (Below.refl _ _) hd8)
  clear hd8
  go_wp2_with fail
  refine (rsame17_is a5' a7' n5 n7 c5 c7 xs5 xs7 true w8 (HX.out.below HD8.out (Nat.le_refl _)) (HP7.out.below HD8.out (Nat.le_refl _)) (decide_eq_true (by rw [HT5.out, HT7.out]))).mono ?_
  rintro e w9 ⟨rfl, hd9⟩
  have HB9 : Hid (Below W0.heap.size W0 w9) := Lib.hid (below_drawn (HB7.out.trans (HD8.out.mono HB7.out.size)) hd9)
  clear hd9
  go_wp2
  go_ret
  exact ⟨rfl, HIN.out _ HB9.out⟩

theorem lifted (os : Os) (started : os.Started) (H : Type) (enc : TypeId × Value → H) :
    ReturnsInHanded {} Try.checked os 5 .any (Rows.stepsBehindSpec.pre6 enc Try.prog Try.f5 Rows.stepsBehindRow.domain false) (Rows.stepsBehindSpec.post enc Try.prog Try.f5 false true false false) := by
  refine returnsInHanded_of_change (C := Try.checked) own started (by kernel_rfl) Try.func5
    (ChangeSpec.witness6 (enc := enc) (C := Try.checked) false ⟨#[], #[.agg #[.int .u64 0, .int .u64 0, .int .u64 0, .int .u64 0, .slice none 0 0], .slice none 0 0, .slice none 0 0, .slice none 0 0], []⟩ 8 (by kernel_rfl) (by kernel_rfl) (by kernel_rfl) (by kernel_rfl)) ?_
  intro W base args ds gs before hval0 hW hcnd _
  have hval : ∀ (j : Nat) t v, Try.f5.params[j]? = some t → args[j]? = some v → Value.okWide Try.prog W .any base t v := hval0
  have hW' := hW
  obtain ⟨p, q, hA0, hV, rfl, hfz, hnd⟩ := hW
  have hA : DataW.TrodAll enc Try.prog W 0 (fun _ => true) true Try.f5.params.toList args.toList ds p := hA0
  rw [Try.params5] at hA hval
  obtain ⟨v0, vs0, d0, ds0, p0, q0, hargs, rfl, rfl, h0, r0⟩ := trodAll_cons hA
  obtain ⟨v1, vs1, d1, ds1, p1, q1, rfl, rfl, rfl, h1, r1⟩ := trodAll_cons r0
  obtain ⟨v2, vs2, d2, ds2, p2, q2, rfl, rfl, rfl, h2, r2⟩ := trodAll_cons r1
  obtain ⟨v3, vs3, d3, ds3, p3, q3, rfl, rfl, rfl, h3, r3⟩ := trodAll_cons r2
  obtain ⟨rfl, rfl, rfl⟩ := trodAll_nil r3
  obtain rfl : args = #[v0, v1, v2, v3] := by cases args; simp_all
  obtain ⟨rfl, rfl⟩ := trodVars_none hV
  have k0 := h0
  have lt0 : ∀ x ∈ p0, x.block < W.heap.size := by obtain ⟨m, hm⟩ := k0; exact DataW.trod_lt m _ _ _ hm
  obtain ⟨x0, rfl, w0, n0⟩ := Cw.open (hval 0 25 v0 rfl rfl) h0
  obtain ⟨a1, len1, cap1, rfl⟩ := okWide_slice Try.underlying26 (hval 1 26 v1 rfl rfl)
  have k1 := h1
  have lt1 : ∀ x ∈ p1, x.block < W.heap.size := by obtain ⟨m, hm⟩ := k1; exact DataW.trod_lt m _ _ _ hm
  obtain ⟨z1, w1⟩ : ∃ zs, IsRow .i64 W a1 len1 cap1 zs := by
    obtain ⟨fuel, hf⟩ := h1
    rcases open_ints Try.underlying26 Try.underlying3 (by kernel_rfl) hf with ⟨hcs, _⟩ | ⟨x, l, c, zs, hcs, _, hl, hm, hz, _, hcell, hwz⟩
    · simp [Value.cells] at hcs
      obtain ⟨rfl, rfl, rfl⟩ := hcs
      exact ⟨[], .inl ⟨rfl, rfl, rfl, rfl⟩⟩
    · simp [Value.cells] at hcs
      obtain ⟨rfl, rfl, rfl⟩ := hcs
      exact ⟨zs, .inr ⟨_, rfl, hl, hm, by simpa using hz, hcell, hwz⟩⟩
  obtain ⟨a2, len2, cap2, rfl⟩ := okWide_slice Try.underlying26 (hval 2 26 v2 rfl rfl)
  have k2 := h2
  have lt2 : ∀ x ∈ p2, x.block < W.heap.size := by obtain ⟨m, hm⟩ := k2; exact DataW.trod_lt m _ _ _ hm
  obtain ⟨z2, w2⟩ : ∃ zs, IsRow .i64 W a2 len2 cap2 zs := by
    obtain ⟨fuel, hf⟩ := h2
    rcases open_ints Try.underlying26 Try.underlying3 (by kernel_rfl) hf with ⟨hcs, _⟩ | ⟨x, l, c, zs, hcs, _, hl, hm, hz, _, hcell, hwz⟩
    · simp [Value.cells] at hcs
      obtain ⟨rfl, rfl, rfl⟩ := hcs
      exact ⟨[], .inl ⟨rfl, rfl, rfl, rfl⟩⟩
    · simp [Value.cells] at hcs
      obtain ⟨rfl, rfl, rfl⟩ := hcs
      exact ⟨zs, .inr ⟨_, rfl, hl, hm, by simpa using hz, hcell, hwz⟩⟩
  obtain ⟨a3, len3, cap3, rfl⟩ := okWide_slice Try.underlying26 (hval 3 26 v3 rfl rfl)
  have k3 := h3
  have lt3 : ∀ x ∈ p3, x.block < W.heap.size := by obtain ⟨m, hm⟩ := k3; exact DataW.trod_lt m _ _ _ hm
  obtain ⟨z3, w3⟩ : ∃ zs, IsRow .i64 W a3 len3 cap3 zs := by
    obtain ⟨fuel, hf⟩ := h3
    rcases open_ints Try.underlying26 Try.underlying3 (by kernel_rfl) hf with ⟨hcs, _⟩ | ⟨x, l, c, zs, hcs, _, hl, hm, hz, _, hcell, hwz⟩
    · simp [Value.cells] at hcs
      obtain ⟨rfl, rfl, rfl⟩ := hcs
      exact ⟨[], .inl ⟨rfl, rfl, rfl, rfl⟩⟩
    · simp [Value.cells] at hcs
      obtain ⟨rfl, rfl, rfl⟩ := hcs
      exact ⟨zs, .inr ⟨_, rfl, hl, hm, by simpa using hz, hcell, hwz⟩⟩
  clear hA0 hval0
  refine (walk x0 a1 len1 cap1 z1 a2 len2 cap2 z2 a3 len3 cap3 z3 W w0 n0 w1 w2 w3).mono fun e W' ⟨he, bel⟩ => ?_
  subst he
  exact ⟨_, rfl, _, _, _, [], _, [], hW', trodAll_mk1 (shut_bool Try.underlying4 _), (trodAll_cons_mk (Below.trod laidOut (by kernel_rfl) (of_decide_eq_true (by kernel_rfl)) k0 bel lt0) (trodAll_cons_mk (Below.trod laidOut (by kernel_rfl) (of_decide_eq_true (by kernel_rfl)) k1 bel lt1) (trodAll_cons_mk (Below.trod laidOut (by kernel_rfl) (of_decide_eq_true (by kernel_rfl)) k2 bel lt2) (trodAll_cons_mk (Below.trod laidOut (by kernel_rfl) (of_decide_eq_true (by kernel_rfl)) k3 bel lt3) trodAll_mk0)))), rfl, bel.frame _, fun h => by cases h⟩

theorem over : Rows.stepsBehindRow.holds Try.pinned (OpenSpec.ofChange Rows.stepsBehindSpec) :=
  OpenClaim.holds_of_wide 5 Try.f5 rfl rfl rfl rfl rfl rfl rfl ⟨rfl, rfl, rfl, rfl, rfl⟩ rfl rfl rfl rfl rfl (by kernel_rfl) Try.func5 (by kernel_rfl)
    (of_decide_eq_true (by kernel_rfl)) (by unfold Func.isWrapper; first | (rw [if_pos (by decide +kernel)]; kernel_rfl) | (rw [if_neg (by decide +kernel)]; exact ⟨rfl, rfl⟩))
    (fun os started H enc _ => lifted os started H enc)

/-- the statement -/
theorem proved : Rows.StepsBehindSaid := over
#print axioms proved
end Go.Proofs.Ytpcebfefbnpbpaa.stepsBehind
