import Derived.Test.YtpcebfefbnpbpaaPackL
import Derived.Test.YtpcebfefbnpbpaaSpecRefF
import Derived.Test.YtpcebfefbnpbpaaRuleRefD
import Derived.Deep.RegionHeld3
set_option linter.all false
set_option maxRecDepth 100000
set_option maxHeartbeats 12800000
namespace Go.Proofs.Ytpcebfefbnpbpaa
open Go.RowKit

@[go_sem high] theorem run_max_ints4 {P : Program} (w : World) (ts : Array TypeId) (ty : TypeId) (k : IntKind) (x y z u : Int) :
    (Builtin.max_ ts ty #[.int k x, .int k y, .int k z, .int k u]).run P w = .ok (.int k (max (max (max x y) z) u)) w := by
  have e : ∀ x y : Int, (if y > x then y else x) = max x y := by
    intro x y
    rw [Int.max_def]
    split <;> split <;> omega
  simp [Builtin.max_, Builtin.max2, e]
theorem below_drew {B : Nat} {w w1 : World} (h : Below B w w1) : Below B w w1.drew := ⟨h.os, h.tape, h.output, h.size, h.block⟩

theorem rcheck8_is (c : Cw) (r : Bool) (w : World) (hc : c.Good w) (hn : c.n ≤ 20000) (hr : File.check c.c = r) :
    Calls Try.prog 20 #[c.v] w fun e w' => e = .returned (.bool r) ∧ Below w.heap.size w w' := by
  obtain ⟨d1, hd1⟩ : ∃ d, (c.base.all fun x => decide (x < 18446744073709551615)) = d := ⟨_, rfl⟩
  obtain ⟨d3, hd3⟩ : ∃ d, (ruls c.xs).all Spec.fit = d := ⟨_, rfl⟩
  obtain ⟨d4, hd4⟩ : ∃ d, decide (nrm (ruls c.xs) = ruls c.xs) = d := ⟨_, rfl⟩
  have hl : (ruls c.xs).length = c.n := by rw [ruls_length, hc.1.1]
  have hr' : (d1 && decide (c.n ≤ 200) && d3 && d4) = r := by
    rw [← hr]
    unfold File.check
    show _ = ((c.base.all fun x => decide (x < 18446744073709551615)) && decide ((ruls c.xs).length ≤ 200) && (ruls c.xs).all Spec.fit && decide (nrm (ruls c.xs) = ruls c.xs))
    rw [hd1, hd3, hd4, hl]
  have hcm := hc.1.2.1
  have hcm2 := hc.1.2.2.1
  unfold maxLen at hcm2
  obtain ⟨m, l, o, t, a, n, cap, xs⟩ := c
  have hmx4 : decide (max m (max l (max o t)) < 18446744073709551615) = d1 := by
    rw [← hd1, Bool.eq_iff_iff]
    simp only [Cw.base, List.all_cons, List.all_nil, Bool.and_true, Bool.and_eq_true, decide_eq_true_eq]
    omega
  have HD3 := Lib.hid hd3
  have HD4 := Lib.hid hd4
  have HR := Lib.hid hr'
  have HS := Lib.hid hc.1
  have HXN := Lib.hid hc.1.1
  clear hd1 hd3 hd4 hr' hr hl hc
  simp only [Cw.v, Cw.cells] at *
  have HB0 : ∀ ob, Hid (Below w.heap.size w (w.alloc ob)) := fun ob => (Below.refl _ w).alloc (Nat.le_refl _) ob
  have HN0 : ∀ ob, Hid ((w.alloc ob).heap[w.heap.size]? = some ob) := fun ob => heap_alloc_new w ob
  go_enter Try.func20, Try.ntmps20
  go_wp2
  go_loopw [3] (fun ix wr => ∃ j : Nat, j ≤ n ∧ ix = .int .i64 (j : Int) ∧ Hid (((ruls xs).take j).all Spec.fit = true) ∧ Hid (wr.heap[w.heap.size]? = some (.cells #[Value.int .u64 m, Value.int .u64 l, Value.int .u64 o, Value.int .u64 t, Value.slice a n cap] 25 (0, 0))) ∧ Hid (Below w.heap.size w wr)) (fun ix _ => n - (intOf ix).toNat)
  case atStart => exact ⟨0, Nat.zero_le _, rfl, by first | rfl | trivial, (HN0 _).out, (HB0 _).out⟩
  case round =>
    obtain ⟨j, hj, rfl, HALL, HBOX, HBV⟩ := hrel
    have hk4 : wr.cell? ⟨w.heap.size, 4, none⟩ = some (.slice a n cap) := by simp [World.cell?, HBOX.out]
    by_cases hlt : j < n
    · obtain ⟨b1, o1, la, ln, lc, LL, ra, rn, rc, RR, C, rfl, hb1, hx1, hx2, hx3, hsl, hsr, hC0, hC1, hz1⟩ := HS.out.one j hlt
      have hB := HBV.out
      have hx1' : wr.cell? ⟨b1, o1 + j * 3, none⟩ = some (.slice la ln lc) := by rw [hB.cell (p := ⟨b1, o1 + j * 3, none⟩) hb1]; exact hx1
      have hx2' : wr.cell? ⟨b1, o1 + j * 3 + 1, none⟩ = some (.slice ra rn rc) := by rw [hB.cell (p := ⟨b1, o1 + j * 3 + 1, none⟩) hb1]; exact hx2
      have hx3' : wr.cell? ⟨b1, o1 + j * 3 + 2, none⟩ = some (.int .u64 C) := by rw [hB.cell (p := ⟨b1, o1 + j * 3 + 2, none⟩) hb1]; exact hx3
      have HGX : Hid ((⟨la, ln, lc, LL, ra, rn, rc, RR, C⟩ : Rw).Good wr) := Rw.Good.below (w := w) ⟨hsl, hsr, hC0, hC1⟩ hB (Nat.le_refl _)
      have HT : Hid ((ruls xs).take (j + 1) = (ruls xs).take j ++ [⟨LL, RR, C⟩]) := all_ruls (by rw [HXN.out]; exact hlt) (by rw [hz1]; rfl)
      have hlti : (j : Int) < (n : Int) := by omega
      obtain ⟨q, hq⟩ : ∃ b, Spec.fit ⟨LL, RR, C⟩ = b := ⟨_, rfl⟩
      have HQ := Lib.hid hq
      clear hsl hsr hz1 hq hx1 hx2 hx3 hB
      go_wp2_with fail
      refine (rfit_is ⟨la, ln, lc, LL, ra, rn, rc, RR, C⟩ q _ HGX.out HQ.out).mono ?_
      rintro e w1 ⟨rfl, hb1w⟩
      have HB1 : Hid (Below w.heap.size w w1) := HBV.out.trans (hb1w.mono HBV.out.size)
      have HBOX1 := Lib.hid ((hb1w.block _ (Array.getElem?_eq_some_iff.1 HBOX.out).1).trans HBOX.out)
      clear hb1w hk4
      cases q
      · obtain rfl : r = false := by
          have : d3 = false := by
            rw [← HD3.out, List.all_eq_false]
            refine ⟨⟨LL, RR, C⟩, ?_, by rw [HQ.out]; decide⟩
            have : (⟨LL, RR, C⟩ : Rul) ∈ (ruls xs).take (j + 1) := by rw [HT.out]; simp
            exact List.mem_of_mem_take this
          rw [← HR.out, this]; simp
        go_wp2
        go_ret
        exact ⟨rfl, HB1.out⟩
      · go_wp2
        go_roundw
        case rel =>
          refine ⟨j + 1, by omega, by go_num, ?_, HBOX1.out, HB1.out⟩
          show _ = _
          rw [HT.out, List.all_append, HALL.out]; simp [HQ.out]
        case measure => simp [intOf]; omega
    · obtain rfl : n = j := by omega
      obtain rfl : d3 = true := by
        rw [← HD3.out, ← HALL.out, List.take_of_length_le (by rw [ruls_length, HXN.out]; exact Nat.le_refl _)]
      have HKEEP : Hid (∀ W, Below wr.heap.size wr W → W.cell? ⟨w.heap.size, 4, none⟩ = some (.slice a n cap)) := fun W hW => by
        simp [World.cell?, (hW.block _ (Array.getElem?_eq_some_iff.1 HBOX.out).1).trans HBOX.out]
      have hmx : Try.prog.follows .mixedOrders = true := by kernel_rfl
      go_wp2
      refine wp_region_held_drew (S := (fun W => W.cell? ⟨w.heap.size, 4, none⟩ = some (.slice a n cap))) (by kernel_rfl) (by first | (first | exact HKEEP.out _ hbn | exact HKEEP.out _ hbn0 | exact HKEEP.out _ (Below.refl _ _) | exact HKEEP.out _ (below_drew (Below.refl _ _))) | ((try dsimp only); first | exact HKEEP.out _ hbn | exact HKEEP.out _ hbn0 | exact HKEEP.out _ (Below.refl _ _) | exact HKEEP.out _ (below_drew (Below.refl _ _)))) (fun hHeld => ?_)
      refine wpAnyH_take (i := 0) (v := ?vj1) rfl (by kernel_rfl) (by kernel_rfl) (by kernel_rfl) (fun _ _ _ h => h) (Or.inl ⟨by rfl, ?hj1⟩) (by assumption) ?rj1
      case hj1 => intro w hSw; (try dsimp only at hSw); go_simp; try with_reducible rfl
      simp only [Act.put, List.getElem_toArray, List.getElem_cons_succ, List.getElem_cons_zero, List.setIfInBounds_toArray, List.set_cons_succ, List.set_cons_zero]
      refine wpAnyH_take (i := 1) (v := ?vj4) rfl (by kernel_rfl) (by kernel_rfl) (by kernel_rfl) (fun _ _ _ h => h) (Or.inl ⟨by rfl, ?hj4⟩) (by assumption) ?rj4
      case hj4 => intro w hSw; (try dsimp only at hSw); go_simp; try with_reducible rfl
      simp only [Act.put, List.getElem_toArray, List.getElem_cons_succ, List.getElem_cons_zero, List.setIfInBounds_toArray, List.set_cons_succ, List.set_cons_zero]
      refine wpAnyH_take (i := 3) (v := ?vj7) rfl (by kernel_rfl) (by kernel_rfl) (by kernel_rfl) (fun _ _ _ h => h) (Or.inl ⟨by rfl, ?hj7⟩) (by assumption) ?rj7
      case hj7 => intro w hSw; (try dsimp only at hSw); go_simp; try with_reducible rfl
      simp only [Act.put, List.getElem_toArray, List.getElem_cons_succ, List.getElem_cons_zero, List.setIfInBounds_toArray, List.set_cons_succ, List.set_cons_zero]
      refine wpAnyH_take (i := 4) (v := ?vj10) rfl (by kernel_rfl) (by kernel_rfl) (by kernel_rfl) (fun _ _ _ h => h) (Or.inl ⟨by rfl, ?hj10⟩) (by assumption) ?rj10
      case hj10 => intro w hSw; (try dsimp only at hSw); go_simp; try with_reducible rfl
      simp only [Act.put, List.getElem_toArray, List.getElem_cons_succ, List.getElem_cons_zero, List.setIfInBounds_toArray, List.set_cons_succ, List.set_cons_zero]
      refine wpAnyH_ready (rs := [2]) (by kernel_rfl) (by simp) ?_
      refine AllReadyH.cons rfl (fun K hK => ?_) AllReadyH.nil
      go_simp
      go_at_call 29
      refine (rnorm_any a n cap xs _ ((HS.out.below HBV.out (Nat.le_refl _)).drew) hn).mono ?_
      rintro e v1 ⟨an, nn, cn, os, rfl, hrs, hru, hnn, _, hbn⟩
      have hbn : Below wr.heap.size wr v1 := (below_drew (Below.refl wr.heap.size wr)).trans hbn
      go_wp2_with fail
      refine hK.out _ _ (by first | (first | exact HKEEP.out _ hbn | exact HKEEP.out _ hbn0 | exact HKEEP.out _ (Below.refl _ _) | exact HKEEP.out _ (below_drew (Below.refl _ _))) | ((try dsimp only); first | exact HKEEP.out _ hbn | exact HKEEP.out _ hbn0 | exact HKEEP.out _ (Below.refl _ _) | exact HKEEP.out _ (below_drew (Below.refl _ _)))) (fun hHeld => ?_)
      clear hK K
      try simp only [Act.put, List.getElem_toArray, List.getElem_cons_succ, List.getElem_cons_zero, List.setIfInBounds_toArray, List.set_cons_succ, List.set_cons_zero]
      refine wpAnyH_ready (rs := [5]) (by kernel_rfl) (by simp) ?_
      refine AllReadyH.cons rfl (fun K hK => ?_) AllReadyH.nil
      go_simp
      go_at_call 28
      refine (rsames_is an a nn n cn cap os xs d4 _ hrs (HS.out.below (HBV.out.trans (hbn.mono HBV.out.size)) (Nat.le_refl _)) (by rw [hru]; exact HD4.out)).mono ?_
      rintro e v2 ⟨rfl, hq2⟩
      have hb2 := below_drawn hbn hq2
      have hbn0 := hbn
      replace hbn := hb2
      go_wp2_with fail
      refine hK.out _ _ (by first | (first | exact HKEEP.out _ hbn | exact HKEEP.out _ hbn0 | exact HKEEP.out _ (Below.refl _ _) | exact HKEEP.out _ (below_drew (Below.refl _ _))) | ((try dsimp only); first | exact HKEEP.out _ hbn | exact HKEEP.out _ hbn0 | exact HKEEP.out _ (Below.refl _ _) | exact HKEEP.out _ (below_drew (Below.refl _ _)))) (fun hHeld => ?_)
      clear hK K
      try simp only [Act.put, List.getElem_toArray, List.getElem_cons_succ, List.getElem_cons_zero, List.setIfInBounds_toArray, List.set_cons_succ, List.set_cons_zero]
      refine wpAnyH_take (i := 6) (v := ?vj37) rfl (by kernel_rfl) (by kernel_rfl) (by kernel_rfl) (fun _ _ _ h => h) (Or.inl ⟨by rfl, ?hj37⟩) (by assumption) ?rj37
      case hj37 => intro w hSw; (try dsimp only at hSw); go_simp; try with_reducible rfl
      simp only [Act.put, List.getElem_toArray, List.getElem_cons_succ, List.getElem_cons_zero, List.setIfInBounds_toArray, List.set_cons_succ, List.set_cons_zero]
      refine wpAnyH_done (by kernel_rfl) ?_ _
      have HB2 : Hid (Below w.heap.size w v2) := HBV.out.trans (hb2.mono HBV.out.size)
      have hh2 := (hb2.block _ (Array.getElem?_eq_some_iff.1 HBOX.out).1).trans HBOX.out
      have hk0 : v2.cell? ⟨w.heap.size, 0, none⟩ = some (.int .u64 m) := by simp [World.cell?, hh2]
      have hk1 : v2.cell? ⟨w.heap.size, 1, none⟩ = some (.int .u64 l) := by simp [World.cell?, hh2]
      have hk2 : v2.cell? ⟨w.heap.size, 2, none⟩ = some (.int .u64 o) := by simp [World.cell?, hh2]
      have hk3 : v2.cell? ⟨w.heap.size, 3, none⟩ = some (.int .u64 t) := by simp [World.cell?, hh2]
      have hk4 : v2.cell? ⟨w.heap.size, 4, none⟩ = some (.slice a n cap) := by simp [World.cell?, hh2]
      clear hh2 hrs hru hnn hb2 hbn hbn0 hHeld hq2
      cases d4
      · obtain rfl : r = false := by rw [← HR.out]; simp
        go_wp2
        go_ret
        exact ⟨rfl, HB2.out⟩
      · by_cases h200 : n ≤ 200
        · have h200i : (n : Int) ≤ 200 := by omega
          obtain rfl : r = d1 := by rw [← HR.out]; simp [h200]
          go_wp2
          go_ret
          exact ⟨by first | rfl | (simp [hmx4]), HB2.out⟩
        · have h200i : ¬ (n : Int) ≤ 200 := by omega
          obtain rfl : r = false := by rw [← HR.out]; simp [h200]
          go_wp2
          go_ret
          exact ⟨rfl, HB2.out⟩


end Go.Proofs.Ytpcebfefbnpbpaa
