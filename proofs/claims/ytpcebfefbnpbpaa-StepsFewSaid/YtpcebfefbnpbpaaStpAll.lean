import Derived.Test.YtpcebfefbnpbpaaStpProg
import Derived.Test.YtpcebfefbnpbpaaStpLists
import Derived.OwnWalk
set_option linter.all false
set_option maxRecDepth 100000
set_option maxHeartbeats 12800000
namespace Go.Proofs.Ytpcebfefbnpbpaa
open Go.RowKit

theorem AllP.lower {w0 W : World} {B B' : Nat} {a : Option Addr} {n c : Nat} {ys : List Lw} (h : AllP w0 W B a n c ys) (hB : B' ≤ B) : AllP w0 W B' a n c ys := ⟨own_mono h.own hB, h.rows, h.len, h.bel⟩
theorem set_room {ys : List Lw} {i m : Nat} (hl : ys.length = i) (h : i < m) (y : Lw) : (ys ++ List.replicate (m - i) Lw.no).set i y = (ys ++ [y]) ++ List.replicate (m - (i + 1)) Lw.no := by
  have e : m - i = (m - (i + 1)) + 1 := by omega
  rw [e, List.replicate_succ, List.set_append_right _ _ (by omega), hl, Nat.sub_self, List.set_cons_zero, List.append_assoc]
  rfl
theorem sall17_is (c : Cw) (qa : Option Addr) (qn qc : Nat) (zs : List Int) (w0 w : World) (hb0 : Below w0.heap.size w0 w) (hc : c.Good w) (hq : Sl .i64 w qa qn qc zs) :
    Calls Try.prog 10 #[c.v, .slice qa qn qc] w fun e w' => AllIs w0 w w' e (Stp.all c.c zs) := by
  have hmx : Try.prog.follows .mixedOrders = true := by kernel_rfl
  obtain ⟨il, hil, hl0, hl1, hl2⟩ := info_parts info_list17
  obtain ⟨r, hr⟩ : ∃ r, Stp.ok c.c zs = r := ⟨_, rfl⟩
  have hqc := hq.2.1
  have hqm := hq.2.2.1
  unfold maxLen at hqm
  obtain ⟨cm, cl, co, ct, ra, rn, rcap, xs⟩ := c
  have HC := Lib.hid hc
  have HQ := Lib.hid hq
  have HR := Lib.hid hr
  have HB0 := Lib.hid hb0
  clear hc hq hr hb0
  obtain ⟨W0, hW0⟩ : ∃ W0, W0 = w.alloc (.cells #[.int .u64 cm, .int .u64 cl, .int .u64 co, .int .u64 ct, .slice ra rn rcap] 25) := ⟨_, rfl⟩
  have HW : Hid (Below w.heap.size w W0) := Lib.hid (by rw [hW0]; exact (Below.refl _ w).alloc (Nat.le_refl _) _)
  have HKP : Hid (∀ W, Below W0.heap.size W0 W → W.cell? ⟨w.heap.size, 0, none⟩ = some (.int .u64 cm) ∧ W.cell? ⟨w.heap.size, 1, none⟩ = some (.int .u64 cl) ∧ W.cell? ⟨w.heap.size, 2, none⟩ = some (.int .u64 co) ∧ W.cell? ⟨w.heap.size, 3, none⟩ = some (.int .u64 ct) ∧ W.cell? ⟨w.heap.size, 4, none⟩ = some (.slice ra rn rcap)) := Lib.hid fun W hb => by
    have h := (hb.block w.heap.size (by rw [hW0]; simp)).trans (show W0.heap[w.heap.size]? = some (.cells #[.int .u64 cm, .int .u64 cl, .int .u64 co, .int .u64 ct, .slice ra rn rcap] 25 (0, 0)) by rw [hW0]; exact heap_alloc_new w _)
    refine ⟨?_, ?_, ?_, ?_, ?_⟩ <;> (rw [cell_of_row W _ _ _ _ _ h]; rfl)
  have HMAY := Lib.hid (mayAsk_is ⟨cm, cl, co, ct, ra, rn, rcap, xs⟩ qa qn qc zs r W0 (HC.out.below HW.out (Nat.le_refl _)) (HQ.out.below HW.out (Nat.le_refl _)) HR.out)
  show Calls _ _ #[.agg #[.int .u64 cm, .int .u64 cl, .int .u64 co, .int .u64 ct, .slice ra rn rcap], .slice qa qn qc] w _
  cases r with
  | false =>
    go_enter Try.func10, Try.ntmps10
    go_wp2_with (go_at_call 18; rw [← hW0]; refine HMAY.out.mono ?_; rintro e w2 ⟨rfl, hb⟩; have HB2 := Lib.hid hb; clear hb)
    go_ret
    have hbw : Below w.heap.size w w2 := HW.out.trans (HB2.out.mono HW.out.size)
    refine ⟨none, 0, 0, [], rfl, ⟨World.ownsRow_nil _ _ _ _, by simp, rfl, HB0.out.trans (hbw.mono HB0.out.size)⟩, ?_, fun _ => rfl, hbw⟩
    unfold Stp.all
    rw [if_neg (by rw [HR.out]; decide)]; rfl
  | true =>
    have hok : File.check (Cw.c ⟨cm, cl, co, ct, ra, rn, rcap, xs⟩) = true ∧ qn ≤ 20 := by
      have h := HR.out
      unfold Stp.ok at h
      rw [Bool.and_eq_true, decide_eq_true_iff, HQ.out.1] at h
      exact h
    have HOK : Hid (File.check (Cw.c ⟨cm, cl, co, ct, ra, rn, rcap, xs⟩) = true) := Lib.hid hok.1
    have hq20 := hok.2
    obtain ⟨m, hm⟩ : ∃ m, m = qn + 1 := ⟨_, rfl⟩
    have hmI : (qn : Int) + 1 = (m : Int) := by omega
    have hm21 : m ≤ 21 := by omega
    have HM := Lib.hid hm
    clear hok hm
    go_enter Try.func10, Try.ntmps10
    go_wp2_with (first
      | (go_at_call 18; rw [← hW0]; refine HMAY.out.mono ?_; rintro e w2 ⟨rfl, hb⟩; have HB2 := Lib.hid hb; clear hb)
      | (at_make; refine wpList_make_full _ (by rfl) _ _ 29 (by rfl) W0.heap.size 32 il _ 1 Try.underlying29 hil hl0 hl1 .i64 .i64 (m : Int) (m : Int) m (by rfl) (by rfl) rfl rfl (by rw [hl2]; omega) (by unfold maxLen; omega) HB2.out.size ?_; intro w3 hown3 hg3))
    have HB3 : Hid (Below W0.heap.size W0 w3) := Lib.hid (HB2.out.grown hg3 HB2.out.size (fun k e => by cases e))
    have hap : AllP w0 w3 W0.heap.size (some ⟨w2.heap.size, 0, none⟩) m m ([] ++ List.replicate (m - 0) Lw.no) := by
      have hbw : Below w0.heap.size w0 w3 := HB0.out.trans ((HW.out.trans (HB3.out.mono HW.out.size)).mono HB0.out.size)
      refine ⟨?_, fun y hy => ?_, by simp, hbw⟩
      · rw [Nat.mul_one] at hown3
        rw [show lvals ([] ++ List.replicate (m - 0) Lw.no) = (madeCells (Value.slice none 0 0).cells m).toList from by rw [show (Value.slice none 0 0).cells = #[.slice none 0 0] from rfl, toList_madeCells_one]; simp [lvals, Lw.v, Lw.no]]
        exact hown3
      · have hy : y ∈ List.replicate (m - 0) Lw.no := hy
        obtain rfl : y = Lw.no := List.eq_of_mem_replicate hy
        exact MadeP.none hbw
    have HAP := Lib.hid hap
    obtain ⟨g, hg⟩ : ∃ g, g = w2.heap.size := ⟨_, rfl⟩
    rw [← hg] at HAP ⊢
    have HGW : Hid (W0.heap.size ≤ g) := Lib.hid (by rw [hg]; exact HB2.out.size)
    clear hown3 hg3 hap hW0 hg
    go_loopw [6, 17] (fun _ ix wr => ∃ (i : Nat) (ys : List Lw), i ≤ m ∧ ix = .int .i64 (i : Int) ∧ Hid (ys.length = i) ∧ Hid (AllP w0 wr W0.heap.size (some ⟨g, 0, none⟩) m m (ys ++ List.replicate (m - i) Lw.no)) ∧ Hid (lsts ys = (Stp.all (Cw.c ⟨cm, cl, co, ct, ra, rn, rcap, xs⟩) zs).take i) ∧ Hid (Below W0.heap.size W0 wr)) (fun _ ix _ => m - (intOf ix).toNat)
    case atStart => exact ⟨0, [], Nat.zero_le _, rfl, rfl, HAP.out, rfl, HB3.out⟩
    case round =>
      obtain ⟨i, ys, him, rfl, HYL, HA, HT, HBR⟩ := hrel
      by_cases hlt : i < m
      · have hiq : i ≤ qn := by have := HM.out; omega
        have HIQ := Lib.hid hiq
        have hilt : (i : Int) < (m : Int) := by omega
        have hic : (i : Int) ≤ (qc : Int) := by omega
        have hi2 : (i : Int) ≤ (qn : Int) := by omega
        have hi0 : (0 : Int) ≤ (i : Int) := by omega
        have hk6 : (qn : Int) - (i : Int) = ((qn - i : Nat) : Int) := by omega
        have hk7 : (qc : Int) - (i : Int) = ((qc - i : Nat) : Int) := by omega
        have HBA : Hid (Below W0.heap.size W0 wr.drew) := Lib.hid (below_drawn HBR.out ⟨1, rfl⟩)
        have HBW : Hid (Below w.heap.size w wr.drew) := Lib.hid (HW.out.trans (HBA.out.mono HW.out.size))
        clear hiq
        go_wp2
        refine wp_region_held_drew (S := (fun W => W.cell? ⟨w.heap.size, 0, none⟩ = some (.int .u64 cm) ∧ W.cell? ⟨w.heap.size, 1, none⟩ = some (.int .u64 cl) ∧ W.cell? ⟨w.heap.size, 2, none⟩ = some (.int .u64 co) ∧ W.cell? ⟨w.heap.size, 3, none⟩ = some (.int .u64 ct) ∧ W.cell? ⟨w.heap.size, 4, none⟩ = some (.slice ra rn rcap))) (by kernel_rfl) (by first | (exact HKP.out _ (by first | exact HBA.out | exact HBB.out | exact HBB.out.setCell (p := ⟨g, i, none⟩) HGW.out _)) | ((try dsimp only); exact HKP.out _ (by first | exact HBA.out | exact HBB.out | exact HBB.out.setCell (p := ⟨g, i, none⟩) HGW.out _))) (fun hHeld => ?_)
        refine wpAnyH_take (i := 0) (v := ?vk1) rfl (by kernel_rfl) (by kernel_rfl) (by kernel_rfl) (fun _ _ _ h => h) (Or.inl ⟨by rfl, ?hk1⟩) (by assumption) ?rk1
        case hk1 => intro w hSw; (try dsimp only at hSw); go_simp; try with_reducible rfl
        simp only [Act.put, List.getElem_toArray, List.getElem_cons_succ, List.getElem_cons_zero, List.setIfInBounds_toArray, List.set_cons_succ, List.set_cons_zero]
        refine wpAnyH_take (i := 1) (v := ?vk4) rfl (by kernel_rfl) (by kernel_rfl) (by kernel_rfl) (fun _ _ _ h => h) (Or.inl ⟨by rfl, ?hk4⟩) (by assumption) ?rk4
        case hk4 => intro w hSw; (try dsimp only at hSw); go_simp; try with_reducible rfl
        simp only [Act.put, List.getElem_toArray, List.getElem_cons_succ, List.getElem_cons_zero, List.setIfInBounds_toArray, List.set_cons_succ, List.set_cons_zero]
        refine wpAnyH_take (i := 2) (v := ?vk7) rfl (by kernel_rfl) (by kernel_rfl) (by kernel_rfl) (fun _ _ _ h => h) (Or.inl ⟨by rfl, ?hk7⟩) (by assumption) ?rk7
        case hk7 => intro w hSw; (try dsimp only at hSw); go_simp; try with_reducible rfl
        simp only [Act.put, List.getElem_toArray, List.getElem_cons_succ, List.getElem_cons_zero, List.setIfInBounds_toArray, List.set_cons_succ, List.set_cons_zero]
        refine wpAnyH_take (i := 3) (v := ?vk10) rfl (by kernel_rfl) (by kernel_rfl) (by kernel_rfl) (fun _ _ _ h => h) (Or.inl ⟨by rfl, ?hk10⟩) (by assumption) ?rk10
        case hk10 => intro w hSw; (try dsimp only at hSw); go_simp; try with_reducible rfl
        simp only [Act.put, List.getElem_toArray, List.getElem_cons_succ, List.getElem_cons_zero, List.setIfInBounds_toArray, List.set_cons_succ, List.set_cons_zero]
        refine wpAnyH_take (i := 4) (v := ?vk13) rfl (by kernel_rfl) (by kernel_rfl) (by kernel_rfl) (fun _ _ _ h => h) (Or.inl ⟨by rfl, ?hk13⟩) (by assumption) ?rk13
        case hk13 => intro w hSw; (try dsimp only at hSw); go_simp; try with_reducible rfl
        simp only [Act.put, List.getElem_toArray, List.getElem_cons_succ, List.getElem_cons_zero, List.setIfInBounds_toArray, List.set_cons_succ, List.set_cons_zero]
        refine wpAnyH_take (i := 5) (v := ?vk16) rfl (by kernel_rfl) (by kernel_rfl) (by kernel_rfl) (fun _ _ _ h => h) (Or.inl ⟨by rfl, ?hk16⟩) (by assumption) ?rk16
        case hk16 => intro w hSw; (try dsimp only at hSw); go_simp; try with_reducible rfl
        simp only [Act.put, List.getElem_toArray, List.getElem_cons_succ, List.getElem_cons_zero, List.setIfInBounds_toArray, List.set_cons_succ, List.set_cons_zero]
        refine wpAnyH_ready (rs := [6]) (by kernel_rfl) (by simp) ?_
        refine AllReadyH.cons rfl (fun K hK => ?_) AllReadyH.nil
        go_simp
        refine (listOf_is ⟨cm, cl, co, ct, ra, rn, rcap, xs⟩ HOK.out _ _ _ (zs.drop i) w0 wr.drew (HB0.out.trans (HBW.out.mono HB0.out.size)) (HC.out.below HBW.out (Nat.le_refl _)) ((HQ.out.below HBW.out (Nat.le_refl _)).fromIfS i HIQ.out)).mono ?_
        rintro e w3' ⟨a3, n3, c3, ys3, rfl, hm3, ht3, hn3, hb3⟩
        have HM3 : Hid (MadeP w0 w3' w0.heap.size a3 n3 c3 ys3) := Lib.hid (hm3.lower (by have := HB0.out.size; have := HBW.out.size; omega))
        have HT3 := Lib.hid ht3
        have HBB : Hid (Below W0.heap.size W0 w3') := Lib.hid (HBA.out.trans (hb3.mono HBA.out.size))
        have HA3 : Hid (AllP w0 w3' W0.heap.size (some ⟨g, 0, none⟩) m m (ys ++ List.replicate (m - i) Lw.no)) := Lib.hid ((HA.out.below (below_drawn (Below.refl _ _) ⟨1, rfl⟩)).below hb3)
        have hfz := HA3.out.own.frozenAt i
        have hcl : w3'.cell? ⟨g, i, none⟩ = some (.slice none 0 0) := by
          rw [HA3.out.own.cellAt i (by omega), lvals_app, List.getElem?_append_right (by rw [lvals_length, HYL.out]; exact Nat.le_refl _), lvals_length, HYL.out, Nat.sub_self]
          rw [show m - i = (m - i - 1) + 1 by omega, List.replicate_succ]; rfl
        clear hm3 ht3 hn3 hb3
        refine hK.out _ _ (by first | (exact HKP.out _ (by first | exact HBA.out | exact HBB.out | exact HBB.out.setCell (p := ⟨g, i, none⟩) HGW.out _)) | ((try dsimp only); exact HKP.out _ (by first | exact HBA.out | exact HBB.out | exact HBB.out.setCell (p := ⟨g, i, none⟩) HGW.out _))) (fun hHeld => ?_)
        clear hK K
        try simp only [Act.put, List.getElem_toArray, List.getElem_cons_succ, List.getElem_cons_zero, List.setIfInBounds_toArray, List.set_cons_succ, List.set_cons_zero]
        refine wpAnyH_take (i := 7) (v := ?vk36) rfl (by kernel_rfl) (by kernel_rfl) (by kernel_rfl) (fun _ _ _ h => h) (Or.inl ⟨by rfl, ?hk36⟩) (by assumption) ?rk36
        case hk36 => intro w hSw; (try dsimp only at hSw); go_simp; try with_reducible rfl
        simp only [Act.put, List.getElem_toArray, List.getElem_cons_succ, List.getElem_cons_zero, List.setIfInBounds_toArray, List.set_cons_succ, List.set_cons_zero]
        refine wpAnyH_ready (rs := [8]) (by kernel_rfl) (by simp) ?_
        refine AllReadyH.cons rfl (fun K hK => ?_) AllReadyH.nil
        go_simp
        refine hK.out _ _ (by first | (exact HKP.out _ (by first | exact HBA.out | exact HBB.out | exact HBB.out.setCell (p := ⟨g, i, none⟩) HGW.out _)) | ((try dsimp only); exact HKP.out _ (by first | exact HBA.out | exact HBB.out | exact HBB.out.setCell (p := ⟨g, i, none⟩) HGW.out _))) (fun hHeld => ?_)
        clear hK K
        try simp only [Act.put, List.getElem_toArray, List.getElem_cons_succ, List.getElem_cons_zero, List.setIfInBounds_toArray, List.set_cons_succ, List.set_cons_zero]
        refine wpAnyH_done (by kernel_rfl) ?_ _
        have HBC : Hid (Below W0.heap.size W0 (w3'.setCell ⟨g, i, none⟩ (.slice a3 n3 c3))) := Lib.hid (HBB.out.setCell (p := ⟨g, i, none⟩) HGW.out _)
        have hset : AllP w0 (w3'.setCell ⟨g, i, none⟩ (.slice a3 n3 c3)) W0.heap.size (some ⟨g, 0, none⟩) m m ((ys ++ [⟨a3, n3, c3, ys3⟩]) ++ List.replicate (m - (i + 1)) Lw.no) := by
          rw [← set_room HYL.out hlt]
          exact (HA3.out.set (i := i) (Nat.le_trans HB0.out.size HW.out.size) ⟨a3, n3, c3, ys3⟩ HM3.out)
        have HA4 := Lib.hid hset
        have HT4 : Hid (lsts (ys ++ [⟨a3, n3, c3, ys3⟩]) = (Stp.all (Cw.c ⟨cm, cl, co, ct, ra, rn, rcap, xs⟩) zs).take (i + 1)) := Lib.hid (by
          rw [lsts_app, HT.out, Stp.all_take HR.out (by rw [HQ.out.1]; exact HIQ.out)]
          show _ ++ [stps ys3] = _
          rw [HT3.out])
        have HL4 : Hid ((ys ++ [(⟨a3, n3, c3, ys3⟩ : Lw)]).length = i + 1) := Lib.hid (by rw [List.length_append, HYL.out]; rfl)
        clear hset hHeld
        go_wp2
        all_goals
          go_roundw
          case rel => exact ⟨i + 1, _, by omega, by go_num, HL4.out, HA4.out, HT4.out, HBC.out⟩
          case measure => simp [intOf]; omega
      · obtain rfl : i = m := by omega
        go_wp2
        go_ret
        have hbw : Below w.heap.size w wr := HW.out.trans (HBR.out.mono HW.out.size)
        refine ⟨_, i, i, ys, rfl, ?_, ?_, (fun h => by cases h), hbw⟩
        · have h := HA.out
          rw [Nat.sub_self, List.replicate_zero, List.append_nil] at h
          exact h.lower HW.out.size
        · rw [HT.out, List.take_of_length_le]
          rw [Stp.all_len, if_pos HR.out, HQ.out.1, HM.out]
          exact Nat.le_refl _
end Go.Proofs.Ytpcebfefbnpbpaa
