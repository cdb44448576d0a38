/- The program's final and putStates: the states' numbers. -/
import Derived.Test.YtbfjihbkkcggmaaPackI
import Derived.Test.YtbfjihbkkcggmaaPackC
import Derived.Test.YtbfjihbkkcggmaaPackD
import Derived.Deep.RegionHeld3
namespace Go.Proofs.Ytbfjihbkkcggmaa
open Go.RowKit

namespace Img
set_option maxRecDepth 100000 in
theorem stsNums_nextP : ∀ (l : List Tri.St) (j k : Nat), k < l.length → stsNums (j : Int) (l.take (k + 1)) = stsNums (j : Int) (l.take k) ++ stNums ((j + k : Nat) : Int) (l.getD k Tri.St.no)
  | [], j, k, h => by simp at h
  | s :: l, j, 0, h => by simp [stsNums]
  | s :: l, j, k + 1, h => by
    have ih := stsNums_nextP l (j + 1) k (by simpa using h)
    rw [Int.natCast_add, Int.natCast_one] at ih
    rw [List.take_succ_cons, List.take_succ_cons, stsNums, stsNums, ih, List.getD_cons_succ, List.append_assoc, show j + 1 + k = j + (k + 1) from by omega]
set_option maxRecDepth 100000 in
theorem checkA_atP {n : Nat} : ∀ (l : List Tri.St) (j k : Nat), Tri.checkA n j l = true → k < l.length → Tri.arcsOk n (j + k) none (l.getD k Tri.St.no).arcs = true
  | [], j, k, _, h => by simp at h
  | s :: l, j, 0, hc, h => by
    unfold Tri.checkA at hc
    simp only [Bool.and_eq_true] at hc
    simpa using hc.1
  | s :: l, j, k + 1, hc, h => by
    unfold Tri.checkA at hc
    simp only [Bool.and_eq_true] at hc
    have ih := checkA_atP l (j + 1) k hc.2 (by simpa using h)
    rw [List.getD_cons_succ, show j + (k + 1) = j + 1 + k from by omega]
    exact ih
set_option maxRecDepth 100000 in
theorem stsNums_leP : ∀ (l : List Tri.St) (j : Int) (k : Nat), (flat (stsNums j (l.take k))).length ≤ (flat (stsNums j l)).length
  | [], j, k => by simp [stsNums]
  | s :: l, j, 0 => by simp [stsNums, flat]
  | s :: l, j, k + 1 => by
    have ih := stsNums_leP l (j + 1) k
    rw [List.take_succ_cons, stsNums, stsNums, flat_app, flat_app, List.length_append, List.length_append]
    omega
set_option maxRecDepth 100000 in
theorem flat_take_le (A : List Nat) (j : Nat) : (flat (A.take j)).length ≤ (flat A).length := by
  have h : A = A.take j ++ A.drop j := (List.take_append_drop j A).symm
  have h2 := congrArg (fun l => (flat l).length) h
  simp only [flat_app, List.length_append] at h2
  omega
/-- the sign ahead of arc k -/
def lastAt (l : List (Int × Int)) : Nat → Int
  | 0 => -1
  | m + 1 => (l.getD m (0, 0)).1
set_option maxRecDepth 100000 in
theorem arc_step {n i : Nat} {l : List (Int × Int)} (ho : Tri.arcsOk n i none l = true) (hn : n ≤ 6001) (k : Nat) (hk : k < l.length) (s t : Int) (hg : l.getD k (0, 0) = (s, t)) :
    ∃ sq tq : Nat, s - lastAt l k - 1 = (sq : Int) ∧ t - (i : Int) - 1 = (tq : Int) ∧ -1 ≤ lastAt l k ∧ lastAt l k ≤ 1114111 ∧ 0 ≤ s ∧ s ≤ 1114111 ∧ 0 ≤ t ∧ t ≤ 6001 ∧ lastAt l (k + 1) = s ∧ (arcNums (i : Int) (-1) l).take (2 * (k + 1)) = (arcNums (i : Int) (-1) l).take (2 * k) ++ [sq, tq] := by
  have h1 := arcs_at l none ho k hk
  have h2 := arcNums_next (i : Int) l (-1) k hk
  rw [hg] at h1 h2
  simp only at h1 h2
  have hl : -1 ≤ lastAt l k ∧ lastAt l k ≤ 1114111 ∧ lastAt l k < s := by
    cases k with
    | zero => simp only [lastAt]; omega
    | succ m =>
      have h3 := arcs_at l none ho m (by omega)
      have h4 := h1.2.2 m rfl
      simp only [lastAt]; omega
  refine ⟨(s - lastAt l k - 1).toNat, (t - (i : Int) - 1).toNat, by omega, by omega, hl.1, hl.2.1, by omega, by omega, by omega, by omega, by show (l.getD k (0, 0)).1 = s; rw [hg], ?_⟩
  rw [h2]
  cases k <;> rfl
end Img

set_option maxRecDepth 100000 in
theorem wrap_head (t f : Nat) (ht : t ≤ 1114112) (hf : f ≤ 1) : IntKind.i64.wrap (IntKind.i64.wrap (2 * (t : Int)) + (f : Int)) = 2 * (t : Int) + (f : Int) := by
  have e1 : IntKind.i64.wrap (2 * (t : Int)) = 2 * (t : Int) := by rw [IntKind.wrap_i64]; omega
  rw [e1, IntKind.wrap_i64]; omega

set_option maxRecDepth 100000 in
/-- two numbers -/
theorem puti2_is (B : Nat) (a : Option Addr) (n c : Nat) (b : List Int) (x y : Nat) (g : Nat) (W w : World) (ho : w.ownsRow B 5 1 (.slice a n c) n (u8s b)) (hW : Keeps B (W.alloc (.cells #[.int .i64 (x : Int), .int .i64 (y : Int)] 3)) w) (hg : g = W.heap.size) (hx : x < 9223372036854775808) (hy : y < 9223372036854775808) (hb : (b ++ Img.flat [x, y]).length ≤ 200000000000) (hB : B ≤ w.heap.size) :
    Calls Try.prog 41 #[.slice a n c, .slice (some ⟨g, 0, none⟩) 2 2] w fun e w' => PutsIs B w' e (b ++ Img.flat [x, y]) ∧ Keeps B w w' := by
  have e : b ++ Img.flat [x, y] = b ++ Img.flat ([(x : Int), (y : Int)].map Int.toNat) := by simp [Img.flat]
  rw [e] at hb ⊢
  have hwx : ∀ z ∈ [(x : Int), (y : Int)], (Lit.int .i64 z).wf = true ∧ 0 ≤ z := by
    intro z hz
    simp only [List.mem_cons, List.not_mem_nil, or_false] at hz
    rcases hz with rfl | rfl <;> exact ⟨WalkArith.wf_i64 ⟨by omega, by omega⟩, by omega⟩
  exact puti_is B a n c b _ 2 2 [(x : Int), (y : Int)] w ho (fun w1 hk => Keeps.lit [(x : Int), (y : Int)] (hW.trans hk) (by decide) hg (fun z hz => (hwx z hz).1) (by unfold maxLen; simp) rfl rfl) (fun z hz => (hwx z hz).2) hb hB

set_option maxHeartbeats 1600000 in
set_option maxRecDepth 100000 in
theorem final_is (ff : Bool) (ta : Option Addr) (tn tc : Nat) (w : World) :
    Calls Try.prog 43 #[.agg #[.bool ff, .slice ta tn tc]] w fun e w' => e = .returned (.int .i64 ((if ff = true then 1 else 0 : Nat) : Int)) ∧ Below w.heap.size w w' := by
  cases ff with
  | false =>
    go_enter Try.func43, Try.ntmps43
    go_wp2
    go_ret
    exact ⟨rfl, (Below.refl _ w).alloc (Nat.le_refl _) _⟩
  | true =>
    go_enter Try.func43, Try.ntmps43
    go_wp2
    go_ret
    exact ⟨rfl, (Below.refl _ w).alloc (Nat.le_refl _) _⟩

set_option maxHeartbeats 6400000 in
set_option maxRecDepth 100000 in
theorem putStates_is (sa : Option Addr) (sn sc : Nat) (xs : List Sw) (w : World) (hS : Ss w sa sn sc xs) (hck : Tri.check (sts xs) = true) (hb : (Var.enc sn ++ Img.flat (Img.stsNums 0 (sts xs))).length ≤ 200000000000) :
    Calls Try.prog 21 #[.slice none 0 0, .slice sa sn sc] w fun e w' => PutsIs w.heap.size w' e (Var.enc sn ++ Img.flat (Img.stsNums 0 (sts xs))) ∧ Keeps w.heap.size w w' := by
  have hmx : Try.prog.follows .mixedOrders = true := by kernel_rfl
  have HSS := Lib.hid hS
  have hnc := hS.2.1
  have hcm := hS.2.2.1
  unfold maxLen at hcm
  have HLX : Hid (xs.length = sn) := hS.1
  have HST := Lib.hid (Img.check_sts hck)
  have hsn : sn ≤ 6001 := by have h := HST.out.2.2; rw [sts_length, HLX.out] at h; exact h
  have HB := Lib.hid hb
  have HB1 : Hid ((([] : List Int) ++ Var.enc sn).length ≤ 200000000000) := by show _ ≤ _; rw [List.length_append] at hb; simp; omega
  have HP1 := Lib.hid (puti1_is w.heap.size none 0 0 [] sn w.heap.size w (w.alloc (.cells #[.int .i64 (sn : Int)] 3)) (World.ownsRow_nil _ _ _ _) (Keeps.refl _ _) rfl (by omega) HB1.out (by simp))
  clear hS hck hb
  go_enter Try.func21, Try.ntmps21
  go_wp2_with fail
  refine HP1.out.mono ?_
  rintro e w1 ⟨⟨a1, n1, c1, rfl, ho1⟩, hk1⟩
  rw [List.nil_append] at ho1
  have K1 : Hid (Keeps w.heap.size w w1) := (Keeps.alloc (Nat.le_refl _) _).trans hk1
  have O1 := Lib.hid ho1
  clear ho1 hk1 HP1
  go_wp2
  go_loopw [0, 17] (fun bv ix wr => ∃ (i k c : Nat) (a : Option Addr), bv = .slice a k c ∧ ix = .int .i64 (i : Int) ∧ i ≤ sn ∧ Hid (wr.ownsRow w.heap.size 5 1 (.slice a k c) k (u8s (Var.enc sn ++ Img.flat (Img.stsNums 0 ((sts xs).take i))))) ∧ Hid (Keeps w.heap.size w wr)) (fun _ ix _ => sn - (intOf ix).toNat)
  case atStart => exact ⟨0, n1, c1, a1, rfl, rfl, Nat.zero_le _, by show World.ownsRow _ _ _ _ _ _ _; simpa [Img.flat, Img.stsNums] using O1.out, K1.out⟩
  case round =>
    obtain ⟨i, k, c, a', rfl, rfl, hi, HX, HK⟩ := hrel
    by_cases hlt : i < sn
    · obtain ⟨sb, so, ff, ta, tn, tc, arcs, rfl, hsb, e1, e2, hta, hg⟩ := (HSS.out.below HK.out.low (Nat.le_refl _)).one i hlt
      have hat : (sts xs).getD i Tri.St.no = Sw.st ⟨ff, ta, tn, tc, arcs⟩ := by rw [sts_at, hg]
      have hok := Img.checkA_atP (sts xs) 0 i HST.out.1 (by rw [sts_length, HLX.out]; exact hlt)
      rw [Nat.zero_add, hat] at hok
      have hok : Tri.arcsOk (sts xs).length i none arcs = true := hok
      have hnx := Img.stsNums_nextP (sts xs) 0 i (by rw [sts_length, HLX.out]; exact hlt)
      rw [Nat.zero_add, hat, Int.natCast_zero] at hnx
      have hli : (i : Int) < (sn : Int) := by omega
      have htnc := hta.2.1
      have htcm := hta.2.2.1
      unfold maxLen at htcm
      have HLA : Hid (arcs.length = tn) := hta.1
      have hfew := Img.arcs_len _ _ hok (by intro q hq; cases hq)
      simp only [Option.getD_none] at hfew
      have htn : tn ≤ 1114112 := by have := HLA.out; omega
      have HOK := Lib.hid hok
      have HNL := Lib.hid HST.out.2.2
      obtain ⟨A, hA⟩ : ∃ A, A = Img.arcNums (i : Int) (-1) arcs := ⟨_, rfl⟩
      have HSTEP : Hid (∀ j, j < tn → ∀ s t, arcs.getD j (0, 0) = (s, t) → ∃ sq tq : Nat, s - Img.lastAt arcs j - 1 = (sq : Int) ∧ t - (i : Int) - 1 = (tq : Int) ∧ -1 ≤ Img.lastAt arcs j ∧ Img.lastAt arcs j ≤ 1114111 ∧ 0 ≤ s ∧ s ≤ 1114111 ∧ 0 ≤ t ∧ t ≤ 6001 ∧ Img.lastAt arcs (j + 1) = s ∧ A.take (2 * (j + 1)) = A.take (2 * j) ++ [sq, tq]) := by
        intro j hj s t hst
        rw [hA]
        exact Img.arc_step HOK.out HNL.out j (by rw [HLA.out]; exact hj) s t hst
      have HAL : Hid (A.take (2 * tn) = A) := by show _ = _; rw [hA]; exact List.take_of_length_le (by rw [Img.arcNums_len, HLA.out]; exact Nat.le_refl _)
      obtain ⟨H, hH⟩ : ∃ H : Nat, H = 2 * tn + (if ff = true then 1 else 0) := ⟨_, rfl⟩
      have hH2 : ((2 * (tn : Int)) + ((if ff = true then 1 else 0 : Nat) : Int)) = (H : Int) := by rw [hH]; omega
      have hH9 : H ≤ 3000000 := by rw [hH]; split <;> omega
      obtain ⟨F, hF⟩ : ∃ F : Nat, F = (if ff = true then 1 else 0 : Nat) := ⟨_, rfl⟩
      have hF1 : F ≤ 1 := by rw [hF]; split <;> omega
      have HFI : Hid (∀ w : World, Calls Try.prog 43 #[.agg #[.bool ff, .slice ta tn tc]] w fun e w' => e = .returned (.int .i64 (F : Int)) ∧ Below w.heap.size w w') := by
        intro w; rw [hF]; exact final_is ff ta tn tc w
      rw [← hF] at hH2
      obtain ⟨Y0, hY0⟩ : ∃ Y, Y = Var.enc sn ++ Img.flat (Img.stsNums 0 ((sts xs).take i)) := ⟨_, rfl⟩
      have hY : Var.enc sn ++ Img.flat (Img.stsNums 0 ((sts xs).take (i + 1))) = (Y0 ++ Var.enc H) ++ Img.flat A := by
        rw [hnx, Img.flat_app, ← List.append_assoc, ← hY0, Img.stNums, Img.headNum, Img.flat_cons, ← List.append_assoc]
        show Y0 ++ Var.enc (2 * arcs.length + _) ++ _ = _
        rw [HLA.out, hH, hA]; rfl
      have hyl : ((Y0 ++ Var.enc H) ++ Img.flat A).length ≤ 200000000000 := by
        rw [← hY]
        have h := HB.out
        have h2 := Img.stsNums_leP (sts xs) 0 (i + 1)
        rw [List.length_append] at h ⊢
        omega
      have HY := Lib.hid hY
      have HYL := Lib.hid hyl
      have HYL1 : Hid ((Y0 ++ Var.enc H).length ≤ 200000000000) := by show _ ≤ _; rw [List.length_append] at hyl; omega
      have HX0 : Hid (wr.ownsRow w.heap.size 5 1 (.slice a' k c) k (u8s Y0)) := by rw [hY0]; exact HX.out
      have HSZ : Hid (w.heap.size ≤ wr.heap.size) := HK.out.size
      obtain ⟨WB, hWB⟩ : ∃ WB, WB = wr.alloc (.cells #[.bool ff, .slice ta tn tc] 49) := ⟨_, rfl⟩
      have KB : Hid (Keeps w.heap.size wr WB) := by rw [hWB]; exact Keeps.alloc HSZ.out _
      have HWB : Hid (∀ W, Keeps w.heap.size WB W → W.cell? ⟨wr.heap.size, 0, none⟩ = some (.bool ff) ∧ W.cell? ⟨wr.heap.size, 1, none⟩ = some (.slice ta tn tc)) := by
        intro W hW
        rw [hWB] at hW
        exact ⟨hW.cell (heap_alloc_new wr _) (by decide), hW.cell (heap_alloc_new wr _) (by decide)⟩
      have HWR : Hid (IntKind.i64.wrap (IntKind.i64.wrap (2 * (tn : Int)) + (F : Int)) = (H : Int)) := by
        show _ = _
        rw [wrap_head tn F htn hF1]; exact hH2
      have HGD : Hid (∀ W, Keeps w.heap.size w W → Ars W ta tn tc arcs) := by
        intro W hW
        have h := (HSS.out.below hW.low (Nat.le_refl _)).good i
        rw [hg] at h; exact h
      have OB : Hid (WB.ownsRow w.heap.size 5 1 (.slice a' k c) k (u8s Y0)) := by rw [hWB]; exact ownsRow_below HX0.out ((Below.refl _ wr).alloc (Nat.le_refl _) _) (Nat.le_refl _)
      have KD : Hid (Keeps w.heap.size WB WB.drew) := (Keeps.refl _ WB).drew
      clear hg hat hok hnx hY hyl hY0 hH hA hF HX HX0 hfew htcm htnc hta
      go_wp2
      rw [← hWB]
      clear hWB
      refine wp_region_held_drew (S := (fun W => W.cell? ⟨wr.heap.size, 0, none⟩ = some (.bool ff) ∧ W.cell? ⟨wr.heap.size, 1, none⟩ = some (.slice ta tn tc))) (by kernel_rfl) (by first | (first | exact C5.out | exact C4.out | exact HWB.out _ KD.out | exact HWB.out _ (K4.out.trans (Keeps.alloc Z4.out _))) | ((try dsimp only); first | exact C5.out | exact C4.out | exact HWB.out _ KD.out | exact HWB.out _ (K4.out.trans (Keeps.alloc Z4.out _)))) (fun hHeld => ?_)
      refine wpAnyH_take (i := 0) (v := ?va1) rfl (by kernel_rfl) (by kernel_rfl) (by kernel_rfl) (fun _ _ _ h => h) (Or.inl ⟨by rfl, ?ha1⟩) (by assumption) ?ra1
      case ha1 => intro w hSw; (try dsimp only at hSw); go_simp; try with_reducible rfl
      simp only [Act.put, List.getElem_toArray, List.getElem_cons_succ, List.getElem_cons_zero, List.setIfInBounds_toArray, List.set_cons_succ, List.set_cons_zero]
      refine wpAnyH_take (i := 1) (v := ?va4) rfl (by kernel_rfl) (by kernel_rfl) (by kernel_rfl) (fun _ _ _ h => h) (Or.inl ⟨by rfl, ?ha4⟩) (by assumption) ?ra4
      case ha4 => intro w hSw; (try dsimp only at hSw); go_simp; try with_reducible rfl
      simp only [Act.put, List.getElem_toArray, List.getElem_cons_succ, List.getElem_cons_zero, List.setIfInBounds_toArray, List.set_cons_succ, List.set_cons_zero]
      refine wpAnyH_take (i := 2) (v := ?va7) rfl (by kernel_rfl) (by kernel_rfl) (by kernel_rfl) (fun _ _ _ h => h) (Or.inl ⟨by rfl, ?ha7⟩) (by assumption) ?ra7
      case ha7 => intro w hSw; (try dsimp only at hSw); go_simp; try with_reducible rfl
      simp only [Act.put, List.getElem_toArray, List.getElem_cons_succ, List.getElem_cons_zero, List.setIfInBounds_toArray, List.set_cons_succ, List.set_cons_zero]
      refine wpAnyH_take (i := 3) (v := ?va10) rfl (by kernel_rfl) (by kernel_rfl) (by kernel_rfl) (fun _ _ _ h => h) (Or.inl ⟨by rfl, ?ha10⟩) (by assumption) ?ra10
      case ha10 => intro w hSw; (try dsimp only at hSw); go_simp; try with_reducible rfl
      simp only [Act.put, List.getElem_toArray, List.getElem_cons_succ, List.getElem_cons_zero, List.setIfInBounds_toArray, List.set_cons_succ, List.set_cons_zero]
      refine wpAnyH_take (i := 4) (v := ?va13) rfl (by kernel_rfl) (by kernel_rfl) (by kernel_rfl) (fun _ _ _ h => h) (Or.inl ⟨by rfl, ?ha13⟩) (by assumption) ?ra13
      case ha13 => intro w hSw; (try dsimp only at hSw); go_simp; try with_reducible rfl
      simp only [Act.put, List.getElem_toArray, List.getElem_cons_succ, List.getElem_cons_zero, List.setIfInBounds_toArray, List.set_cons_succ, List.set_cons_zero]
      refine wpAnyH_take (i := 5) (v := ?va16) rfl (by kernel_rfl) (by kernel_rfl) (by kernel_rfl) (fun _ _ _ h => h) (Or.inl ⟨by rfl, ?ha16⟩) (by assumption) ?ra16
      case ha16 => intro w hSw; (try dsimp only at hSw); go_simp; try with_reducible rfl
      simp only [Act.put, List.getElem_toArray, List.getElem_cons_succ, List.getElem_cons_zero, List.setIfInBounds_toArray, List.set_cons_succ, List.set_cons_zero]
      refine wpAnyH_ready (rs := [6]) (by kernel_rfl) (by simp) ?_
      refine AllReadyH.cons rfl (fun K hK => ?_) AllReadyH.nil
      go_simp
      refine (HFI.out _).mono ?_
      rintro e w4 ⟨rfl, hb4⟩
      have K4 : Hid (Keeps w.heap.size WB w4) := KD.out.trans (Keeps.of_below hb4 (Nat.le_trans HSZ.out KB.out.size))
      have O4 : Hid (w4.ownsRow w.heap.size 5 1 (.slice a' k c) k (u8s Y0)) := ownsRow_below (show WB.drew.ownsRow _ _ _ _ _ _ from OB.out) hb4 (Nat.le_refl _)
      have C4 := Lib.hid (HWB.out _ K4.out)
      have Z4 : Hid (w.heap.size ≤ w4.heap.size) := Nat.le_trans HSZ.out (Nat.le_trans KB.out.size K4.out.size)
      clear hb4
      refine hK.out _ _ (by first | (first | exact C5.out | exact C4.out | exact HWB.out _ KD.out | exact HWB.out _ (K4.out.trans (Keeps.alloc Z4.out _))) | ((try dsimp only); first | exact C5.out | exact C4.out | exact HWB.out _ KD.out | exact HWB.out _ (K4.out.trans (Keeps.alloc Z4.out _)))) (fun hHeld => ?_)
      clear hK K
      try simp only [Act.put, List.getElem_toArray, List.getElem_cons_succ, List.getElem_cons_zero, List.setIfInBounds_toArray, List.set_cons_succ, List.set_cons_zero]
      refine wpAnyH_take (i := 7) (v := ?va32) rfl (by kernel_rfl) (by kernel_rfl) (by kernel_rfl) (fun _ _ _ h => h) (Or.inl ⟨by rfl, ?ha32⟩) (by assumption) ?ra32
      case ha32 => intro w hSw; (try dsimp only at hSw); go_simp; try with_reducible rfl
      simp only [Act.put, List.getElem_toArray, List.getElem_cons_succ, List.getElem_cons_zero, List.setIfInBounds_toArray, List.set_cons_succ, List.set_cons_zero]
      refine wpAnyH_ready (rs := [8]) (by kernel_rfl) (by simp) ?_
      refine AllReadyH.cons rfl (fun K hK => ?_) AllReadyH.nil
      go_simp
      refine hK.out _ _ (by first | (first | exact C5.out | exact C4.out | exact HWB.out _ KD.out | exact HWB.out _ (K4.out.trans (Keeps.alloc Z4.out _))) | ((try dsimp only); first | exact C5.out | exact C4.out | exact HWB.out _ KD.out | exact HWB.out _ (K4.out.trans (Keeps.alloc Z4.out _)))) (fun hHeld => ?_)
      clear hK K
      try simp only [Act.put, List.getElem_toArray, List.getElem_cons_succ, List.getElem_cons_zero, List.setIfInBounds_toArray, List.set_cons_succ, List.set_cons_zero]
      refine wpAnyH_ready (rs := [9]) (by kernel_rfl) (by simp) ?_
      refine AllReadyH.cons rfl (fun K hK => ?_) AllReadyH.nil
      go_simp
      rw [HWR.out]
      refine (puti1_is w.heap.size a' k c Y0 H w4.heap.size w4 _ (ownsRow_below O4.out ((Below.refl _ w4).alloc (Nat.le_refl _) _) (Nat.le_refl _)) (Keeps.refl _ _) rfl (by omega) HYL1.out (Nat.le_trans Z4.out (by simp))).mono ?_
      rintro e w5 ⟨⟨a5, n5, c5, rfl, ho5⟩, hk5⟩
      have K5 : Hid (Keeps w.heap.size WB w5) := K4.out.trans ((Keeps.alloc Z4.out _).trans hk5)
      have O5 := Lib.hid ho5
      have C5 := Lib.hid (HWB.out _ K5.out)
      clear ho5 hk5
      refine hK.out _ _ (by first | (first | exact C5.out | exact C4.out | exact HWB.out _ KD.out | exact HWB.out _ (K4.out.trans (Keeps.alloc Z4.out _))) | ((try dsimp only); first | exact C5.out | exact C4.out | exact HWB.out _ KD.out | exact HWB.out _ (K4.out.trans (Keeps.alloc Z4.out _)))) (fun hHeld => ?_)
      clear hK K
      try simp only [Act.put, List.getElem_toArray, List.getElem_cons_succ, List.getElem_cons_zero, List.setIfInBounds_toArray, List.set_cons_succ, List.set_cons_zero]
      refine wpAnyH_take (i := 10) (v := ?va54) rfl (by kernel_rfl) (by kernel_rfl) (by kernel_rfl) (fun _ _ _ h => h) (Or.inl ⟨by rfl, ?ha54⟩) (by assumption) ?ra54
      case ha54 => intro w hSw; (try dsimp only at hSw); go_simp; try with_reducible rfl
      simp only [Act.put, List.getElem_toArray, List.getElem_cons_succ, List.getElem_cons_zero, List.setIfInBounds_toArray, List.set_cons_succ, List.set_cons_zero]
      refine wpAnyH_done (by kernel_rfl) ?_ _
      have KW5 : Hid (Keeps w.heap.size w w5) := HK.out.trans (KB.out.trans K5.out)
      have g1 := C5.out.2
      clear C4 K4 O4 Z4 KD OB HFI hH2 hF1 HWR
      go_wp2
      go_loopw [0, 7, 35] (fun bv lv jx wr2 => ∃ (j k c : Nat) (a : Option Addr), bv = .slice a k c ∧ lv = .int .i64 (Img.lastAt arcs j) ∧ jx = .int .i64 (j : Int) ∧ j ≤ tn ∧ Hid (wr2.ownsRow w.heap.size 5 1 (.slice a k c) k (u8s ((Y0 ++ Var.enc H) ++ Img.flat (A.take (2 * j))))) ∧ Hid (Keeps w.heap.size w wr2)) (fun _ _ jx _ => tn - (intOf jx).toNat)
      case atStart => exact ⟨0, n5, c5, a5, rfl, rfl, rfl, Nat.zero_le _, by show World.ownsRow _ _ _ _ _ _ _; simpa [Img.flat] using O5.out, KW5.out⟩
      case round =>
        obtain ⟨j, k2, c2, a2, rfl, rfl, rfl, hj, HX2, HK2⟩ := hrel
        by_cases hlt2 : j < tn
        · obtain ⟨b2, o2, s1, t1, rfl, hb2, f1, f2, hs1, ht1, hg1⟩ := (HGD.out _ HK2.out).one j hlt2
          obtain ⟨sq, tq, hsq, htq, hl0, hl9, hs0, hs9, ht0, ht9, hls, htk⟩ := HSTEP.out j hlt2 s1 t1 hg1
          obtain ⟨p, hp⟩ : ∃ p, p = Img.lastAt arcs j := ⟨_, rfl⟩
          rw [← hp] at hsq hl0 hl9 ⊢
          have hsq1 : s1 - p = (sq : Int) + 1 := by omega
          have htq1 : t1 - (i : Int) = (tq : Int) + 1 := by omega
          have hji : (j : Int) < (tn : Int) := by omega
          have HTK := Lib.hid htk
          have HLS := Lib.hid hls
          have hyl2 : ((Y0 ++ Var.enc H) ++ Img.flat (A.take (2 * j)) ++ Img.flat [sq, tq]).length ≤ 200000000000 := by
            have h := HYL.out
            have h2 := Img.flat_take_le A (2 * (j + 1))
            rw [htk, Img.flat_app] at h2
            simp only [List.length_append] at h h2 ⊢
            omega
          have HYL2 := Lib.hid hyl2
          have HSZ2 : Hid (w.heap.size ≤ wr.heap.size) := HK2.out.size
          obtain ⟨WA, hWA⟩ : ∃ WA, WA = wr.alloc (.cells #[.int .i64 s1, .int .i64 t1] 51) := ⟨_, rfl⟩
          have KA : Hid (Keeps w.heap.size wr WA ∧ WA.heap.size = wr.heap.size + 1) := by rw [hWA]; exact ⟨Keeps.alloc HSZ2.out _, by simp⟩
          have HWA : Hid (∀ W, Keeps w.heap.size WA W → W.cell? ⟨wr.heap.size, 0, none⟩ = some (.int .i64 s1)) := by
            intro W hW
            rw [hWA] at hW
            exact hW.cell (heap_alloc_new wr _) (by decide)
          have OA : Hid (WA.ownsRow w.heap.size 5 1 (.slice a2 k2 c2) k2 (u8s ((Y0 ++ Var.enc H) ++ Img.flat (A.take (2 * j))))) := by rw [hWA]; exact ownsRow_below HX2.out ((Below.refl _ wr).alloc (Nat.le_refl _) _) (Nat.le_refl _)
          have hWA2 : (wr.alloc (.cells #[.int .i64 s1, .int .i64 t1] 51)).alloc (.cells #[.int .i64 (sq : Int), .int .i64 (tq : Int)] 3) = WA.alloc (.cells #[.int .i64 (sq : Int), .int .i64 (tq : Int)] 3) := by rw [hWA]
          have HPI := Lib.hid (puti2_is w.heap.size a2 k2 c2 _ sq tq (wr.heap.size + 1) WA (WA.alloc (.cells #[.int .i64 (sq : Int), .int .i64 (tq : Int)] 3)) (ownsRow_below OA.out ((Below.refl _ WA).alloc (Nat.le_refl _) _) (Nat.le_refl _)) (Keeps.refl _ _) KA.out.2.symm (by omega) (by omega) HYL2.out (by have := KA.out.2; have := HSZ2.out; simp; omega))
          rw [← hWA2] at HPI
          have HW2 := Lib.hid hWA2
          clear hWA hWA2 hls htk hyl2 hg1 hs1 ht1 hp
          go_wp2_with (first
            | (go_at_call 41; refine HPI.out.mono ?_; rintro e w8 ⟨⟨a8, n8, c8, rfl, ho8⟩, hk8⟩; rw [HW2.out] at hk8; have K8 : Hid (Keeps w.heap.size WA w8) := (Keeps.alloc (by have := KA.out.2; have := HSZ2.out; omega) _).trans hk8; have O8 := Lib.hid ho8; have g8 := HWA.out _ K8.out; clear ho8 hk8)
            | fail)
          go_wp2
          go_roundw
          case rel => exact ⟨j + 1, n8, c8, a8, rfl, by rw [HLS.out], by go_num, by omega, by show World.ownsRow _ _ _ _ _ _ _; rw [HTK.out, Img.flat_app, ← List.append_assoc]; exact O8.out, HK2.out.trans (KA.out.1.trans K8.out)⟩
          case measure => simp [intOf]; omega
        · obtain rfl : j = tn := by omega
          have HXF : Hid (wr.ownsRow w.heap.size 5 1 (.slice a2 k2 c2) k2 (u8s (Var.enc sn ++ Img.flat (Img.stsNums 0 ((sts xs).take (i + 1)))))) := by
            show World.ownsRow _ _ _ _ _ _ _
            rw [HY.out]
            have h := HX2.out
            rwa [HAL.out] at h
          clear HX2
          go_wp2
          go_roundw
          case rel => exact ⟨i + 1, k2, c2, a2, rfl, by go_num, by omega, HXF.out, HK2.out⟩
          case measure => simp [intOf]; omega
    · obtain rfl : i = sn := by omega
      have htk : (sts xs).take i = sts xs := List.take_of_length_le (by rw [sts_length, HLX.out]; exact Nat.le_refl _)
      have HXF : Hid (wr.ownsRow w.heap.size 5 1 (.slice a' k c) k (u8s (Var.enc i ++ Img.flat (Img.stsNums 0 (sts xs))))) := by
        have h := HX.out
        rwa [htk] at h
      clear htk HX
      go_wp2
      go_ret
      exact ⟨⟨a', k, c, rfl, HXF.out⟩, HK.out⟩

end Go.Proofs.Ytbfjihbkkcggmaa
