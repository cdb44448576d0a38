import Derived.Test.YtpcebfefbnpbpaaStpList
import Derived.Test.YtpcebfefbnpbpaaPackL
set_option linter.all false
set_option maxRecDepth 100000
set_option maxHeartbeats 12800000
namespace Go.Proofs.Ytpcebfefbnpbpaa
open Go.RowKit

theorem Sl.fromIfS {k : IntKind} {w : World} {a : Option Addr} {n cap : Nat} {zs : List Int} (h : Sl k w a n cap zs) (j : Nat) (hj : j ≤ n) : Sl k w (if cap = j then a else Option.map (fun x => x.add j) a) (n - j) (cap - j) (zs.drop j) := by
  obtain ⟨h1, h2, h3, h4, h5⟩ := h
  split
  · exact ⟨by simp; omega, by omega, by omega, fun z hz => h4 z (List.mem_of_mem_drop hz), .inl (by omega)⟩
  · refine ⟨by simp; omega, by omega, by omega, fun z hz => h4 z (List.mem_of_mem_drop hz), ?_⟩
    rcases h5 with h5 | ⟨b, off, ha, hc⟩
    · exact .inl (by omega)
    · refine .inr ⟨b, off + j, by rw [ha]; simp [Addr.add], fun i hi => ?_⟩
      rw [Nat.add_assoc, hc (j + i) (by omega)]
      simp [Nat.add_comm]
theorem mayAsk_is (c : Cw) (qa : Option Addr) (qn qc : Nat) (zs : List Int) (r : Bool) (w : World) (hc : c.Good w) (hq : Sl .i64 w qa qn qc zs) (hr : Stp.ok c.c zs = r) :
    Calls Try.prog 18 #[c.v, .slice qa qn qc] w fun e w' => e = .returned (.bool r) ∧ Below w.heap.size w w' := by
  have hok : Stp.ok c.c zs = (File.check c.c && decide (qn ≤ 20)) := by unfold Stp.ok; rw [hq.1]
  obtain ⟨d, hd⟩ : ∃ d, File.check c.c = d := ⟨_, rfl⟩
  rw [hok, hd] at hr
  have hqc := hq.2.1
  have hqm := hq.2.2.1
  unfold maxLen at hqm
  obtain ⟨cm, cl, co, ct, ra, rn, rcap, xs⟩ := c
  have HC := Lib.hid hc
  have HD := Lib.hid hd
  clear hc hq hok hd
  have HB : ∀ o, Hid (Below w.heap.size w (w.alloc o)) := fun o => (Below.refl _ w).alloc (Nat.le_refl _) _
  show Calls _ _ #[.agg #[.int .u64 cm, .int .u64 cl, .int .u64 co, .int .u64 ct, .slice ra rn rcap], .slice qa qn qc] w _
  by_cases h20 : qn ≤ 20
  · have h1 : (qn : Int) ≤ 20 := by omega
    have h2 : decide ((qn : Int) ≤ 20) = true := decide_eq_true h1
    obtain rfl : d = r := by rw [← hr, decide_eq_true h20, Bool.and_true]
    clear hr
    go_enter Try.func18, Try.ntmps18
    go_wp2_with (go_at_call 15; refine (fcheck_is ⟨cm, cl, co, ct, ra, rn, rcap, xs⟩ d _ (HC.out.alloc _) HD.out).mono ?_; rintro e w2 ⟨rfl, hb⟩; have HB2 := Lib.hid hb; clear hb)
    go_ret
    exact ⟨rfl, (HB _).out.trans (HB2.out.mono (by simp))⟩
  · have h1 : ¬ (qn : Int) ≤ 20 := by omega
    have h2 : decide ((qn : Int) ≤ 20) = false := decide_eq_false h1
    obtain rfl : r = false := by rw [← hr, decide_eq_false h20, Bool.and_false]
    clear hr
    go_enter Try.func18, Try.ntmps18
    go_wp2
    go_ret
    exact ⟨rfl, (HB _).out⟩

theorem sat17_is (c : Cw) (qa : Option Addr) (qn qc : Nat) (zs : List Int) (i : Int) (w0 w : World) (hb0 : Below w0.heap.size w0 w) (hc : c.Good w) (hq : Sl .i64 w qa qn qc zs) :
    Calls Try.prog 13 #[c.v, .slice qa qn qc, .int .i64 i] w fun e w' => StepsIs w0 w w' e (Stp.at' c.c zs i) := by
  have hmx : Try.prog.follows .mixedOrders = true := by kernel_rfl
  obtain ⟨r, hr⟩ : ∃ r, Stp.ok c.c zs = r := ⟨_, rfl⟩
  have hqc := hq.2.1
  have hqm := hq.2.2.1
  unfold maxLen at hqm
  obtain ⟨cm, cl, co, ct, ra, rn, rcap, xs⟩ := c
  have HC := Lib.hid hc
  have HQ := Lib.hid hq
  have HR := Lib.hid hr
  have HB0 := Lib.hid hb0
  clear hc hq hr hb0
  obtain ⟨W0, hW0⟩ : ∃ W0, W0 = w.alloc (.cells #[.int .u64 cm, .int .u64 cl, .int .u64 co, .int .u64 ct, .slice ra rn rcap] 25) := ⟨_, rfl⟩
  have HW : Hid (Below w.heap.size w W0) := Lib.hid (by rw [hW0]; exact (Below.refl _ w).alloc (Nat.le_refl _) _)
  have HKP : Hid (∀ W, Below W0.heap.size W0 W → W.cell? ⟨w.heap.size, 0, none⟩ = some (.int .u64 cm) ∧ W.cell? ⟨w.heap.size, 1, none⟩ = some (.int .u64 cl) ∧ W.cell? ⟨w.heap.size, 2, none⟩ = some (.int .u64 co) ∧ W.cell? ⟨w.heap.size, 3, none⟩ = some (.int .u64 ct) ∧ W.cell? ⟨w.heap.size, 4, none⟩ = some (.slice ra rn rcap)) := Lib.hid fun W hb => by
    have h := (hb.block w.heap.size (by rw [hW0]; simp)).trans (show W0.heap[w.heap.size]? = some (.cells #[.int .u64 cm, .int .u64 cl, .int .u64 co, .int .u64 ct, .slice ra rn rcap] 25 (0, 0)) by rw [hW0]; exact heap_alloc_new w _)
    refine ⟨?_, ?_, ?_, ?_, ?_⟩ <;> (rw [cell_of_row W _ _ _ _ _ h]; rfl)
  have HMAY := Lib.hid (mayAsk_is ⟨cm, cl, co, ct, ra, rn, rcap, xs⟩ qa qn qc zs r W0 (HC.out.below HW.out (Nat.le_refl _)) (HQ.out.below HW.out (Nat.le_refl _)) HR.out)
  have hnone : ∀ W, Below W0.heap.size W0 W → (r = false ∨ i < 0 ∨ (qn : Int) < i) → StepsIs w0 w W (.returned (.slice none 0 0)) (Stp.at' (Cw.c ⟨cm, cl, co, ct, ra, rn, rcap, xs⟩) zs i) := fun W hb hx => by
    have hbw : Below w.heap.size w W := HW.out.trans (hb.mono HW.out.size)
    refine ⟨none, 0, 0, [], rfl, MadeP.start w0 W _ (HB0.out.trans (hbw.mono HB0.out.size)), ?_, fun _ => rfl, hbw⟩
    rw [Stp.at_out]
    · rfl
    · rw [HR.out, HQ.out.1]; exact hx
  have HNO := Lib.hid hnone
  clear hnone
  show Calls _ _ #[.agg #[.int .u64 cm, .int .u64 cl, .int .u64 co, .int .u64 ct, .slice ra rn rcap], .slice qa qn qc, .int .i64 i] w _
  cases r with
  | false =>
    go_enter Try.func13, Try.ntmps13
    go_wp2_with (go_at_call 18; rw [← hW0]; refine HMAY.out.mono ?_; rintro e w2 ⟨rfl, hb⟩; have HB2 := Lib.hid hb; clear hb)
    go_ret
    exact HNO.out _ HB2.out (by simp)
  | true =>
    by_cases hi0 : i < 0
    · have hi1 : decide (i < 0) = true := decide_eq_true hi0
      go_enter Try.func13, Try.ntmps13
      go_wp2_with (go_at_call 18; rw [← hW0]; refine HMAY.out.mono ?_; rintro e w2 ⟨rfl, hb⟩; have HB2 := Lib.hid hb; clear hb)
      go_ret
      exact HNO.out _ HB2.out (.inr (.inl hi0))
    · have hi1 : decide (i < 0) = false := decide_eq_false hi0
      by_cases hiq : (qn : Int) < i
      · have hiq1 : decide ((qn : Int) < i) = true := decide_eq_true hiq
        go_enter Try.func13, Try.ntmps13
        go_wp2_with (go_at_call 18; rw [← hW0]; refine HMAY.out.mono ?_; rintro e w2 ⟨rfl, hb⟩; have HB2 := Lib.hid hb; clear hb)
        go_ret
        exact HNO.out _ HB2.out (.inr (.inr hiq))
      · obtain ⟨k, rfl⟩ : ∃ k : Nat, i = k := ⟨i.toNat, by omega⟩
        have hiq1 : decide ((qn : Int) < (k : Int)) = false := decide_eq_false hiq
        have hkq : k ≤ qn := by omega
        go_enter Try.func13, Try.ntmps13
        go_wp2_with (go_at_call 18; rw [← hW0]; refine HMAY.out.mono ?_; rintro e w2 ⟨rfl, hb⟩; have HB2 := Lib.hid hb; clear hb)
        have HBA : Hid (Below W0.heap.size W0 w2.drew) := Lib.hid (below_drawn HB2.out ⟨1, rfl⟩)
        have HBW : Hid (Below w.heap.size w w2.drew) := Lib.hid (HW.out.trans (HBA.out.mono HW.out.size))
        have hkc : (k : Int) ≤ (qc : Int) := by omega
        have hkq2 : (k : Int) ≤ (qn : Int) := by omega
        have hk0 : (0 : Int) ≤ (k : Int) := by omega
        have hk6 : (qn : Int) - (k : Int) = ((qn - k : Nat) : Int) := by omega
        have hk7 : (qc : Int) - (k : Int) = ((qc - k : Nat) : Int) := by omega
        have hok : File.check (Cw.c ⟨cm, cl, co, ct, ra, rn, rcap, xs⟩) = true := by
          have h := HR.out
          unfold Stp.ok at h
          rw [Bool.and_eq_true] at h
          exact h.1
        have HOK := Lib.hid hok
        have HKQ := Lib.hid hkq
        clear hok hW0
        refine wp_region_held_drew (S := (fun W => W.cell? ⟨w.heap.size, 0, none⟩ = some (.int .u64 cm) ∧ W.cell? ⟨w.heap.size, 1, none⟩ = some (.int .u64 cl) ∧ W.cell? ⟨w.heap.size, 2, none⟩ = some (.int .u64 co) ∧ W.cell? ⟨w.heap.size, 3, none⟩ = some (.int .u64 ct) ∧ W.cell? ⟨w.heap.size, 4, none⟩ = some (.slice ra rn rcap))) (by kernel_rfl) (by first | (exact HKP.out _ (by first | exact HBB.out | exact HBA.out)) | ((try dsimp only); exact HKP.out _ (by first | exact HBB.out | exact HBA.out))) (fun hHeld => ?_)
        refine wpAnyH_take (i := 0) (v := ?vk1) rfl (by kernel_rfl) (by kernel_rfl) (by kernel_rfl) (fun _ _ _ h => h) (Or.inl ⟨by rfl, ?hk1⟩) (by assumption) ?rk1
        case hk1 => intro w hSw; (try dsimp only at hSw); go_simp; try with_reducible rfl
        simp only [Act.put, List.getElem_toArray, List.getElem_cons_succ, List.getElem_cons_zero, List.setIfInBounds_toArray, List.set_cons_succ, List.set_cons_zero]
        refine wpAnyH_take (i := 1) (v := ?vk4) rfl (by kernel_rfl) (by kernel_rfl) (by kernel_rfl) (fun _ _ _ h => h) (Or.inl ⟨by rfl, ?hk4⟩) (by assumption) ?rk4
        case hk4 => intro w hSw; (try dsimp only at hSw); go_simp; try with_reducible rfl
        simp only [Act.put, List.getElem_toArray, List.getElem_cons_succ, List.getElem_cons_zero, List.setIfInBounds_toArray, List.set_cons_succ, List.set_cons_zero]
        refine wpAnyH_take (i := 2) (v := ?vk7) rfl (by kernel_rfl) (by kernel_rfl) (by kernel_rfl) (fun _ _ _ h => h) (Or.inl ⟨by rfl, ?hk7⟩) (by assumption) ?rk7
        case hk7 => intro w hSw; (try dsimp only at hSw); go_simp; try with_reducible rfl
        simp only [Act.put, List.getElem_toArray, List.getElem_cons_succ, List.getElem_cons_zero, List.setIfInBounds_toArray, List.set_cons_succ, List.set_cons_zero]
        refine wpAnyH_take (i := 3) (v := ?vk10) rfl (by kernel_rfl) (by kernel_rfl) (by kernel_rfl) (fun _ _ _ h => h) (Or.inl ⟨by rfl, ?hk10⟩) (by assumption) ?rk10
        case hk10 => intro w hSw; (try dsimp only at hSw); go_simp; try with_reducible rfl
        simp only [Act.put, List.getElem_toArray, List.getElem_cons_succ, List.getElem_cons_zero, List.setIfInBounds_toArray, List.set_cons_succ, List.set_cons_zero]
        refine wpAnyH_ready (rs := [4]) (by kernel_rfl) (by simp) ?_
        refine AllReadyH.cons rfl (fun K hK => ?_) AllReadyH.nil
        go_simp
        refine (listOf_is ⟨cm, cl, co, ct, ra, rn, rcap, xs⟩ HOK.out _ _ _ (zs.drop k) w0 w2.drew (HB0.out.trans (HBW.out.mono HB0.out.size)) (HC.out.below HBW.out (Nat.le_refl _)) ((HQ.out.below HBW.out (Nat.le_refl _)).fromIfS k HKQ.out)).mono ?_
        rintro e w3 hs3
        have HE3 := Lib.hid hs3
        obtain ⟨a3, n3, c3, ys3, rfl, hm3, ht3, hn3, hb3⟩ := hs3
        have HBB : Hid (Below W0.heap.size W0 w3) := Lib.hid (HBA.out.trans (hb3.mono HBA.out.size))
        have HS3 := HE3
        clear hm3 ht3 hn3 hb3 HE3
        refine hK.out _ _ (by first | (exact HKP.out _ (by first | exact HBB.out | exact HBA.out)) | ((try dsimp only); exact HKP.out _ (by first | exact HBB.out | exact HBA.out))) (fun hHeld => ?_)
        clear hK K
        try simp only [Act.put, List.getElem_toArray, List.getElem_cons_succ, List.getElem_cons_zero, List.setIfInBounds_toArray, List.set_cons_succ, List.set_cons_zero]
        refine wpAnyH_take (i := 5) (v := ?vk26) rfl (by kernel_rfl) (by kernel_rfl) (by kernel_rfl) (fun _ _ _ h => h) (Or.inl ⟨by rfl, ?hk26⟩) (by assumption) ?rk26
        case hk26 => intro w hSw; (try dsimp only at hSw); go_simp; try with_reducible rfl
        simp only [Act.put, List.getElem_toArray, List.getElem_cons_succ, List.getElem_cons_zero, List.setIfInBounds_toArray, List.set_cons_succ, List.set_cons_zero]
        refine wpAnyH_done (by kernel_rfl) ?_ _
        go_wp2
        all_goals
          go_ret
          obtain ⟨a, n, cc, ys, h0, h1, h2, h3, h4⟩ := HS3.out
          refine ⟨a, n, cc, ys, h0, ⟨own_mono h1.own HBW.out.size, h1.good, h1.len, h1.bel⟩, ?_, h3, HBW.out.trans (h4.mono HBW.out.size)⟩
          rw [h2, Stp.at_in HR.out (by rw [HQ.out.1]; exact HKQ.out)]
end Go.Proofs.Ytpcebfefbnpbpaa
