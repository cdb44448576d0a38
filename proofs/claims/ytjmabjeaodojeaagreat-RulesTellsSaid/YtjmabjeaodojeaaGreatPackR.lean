import Derived.Test.YtjmabjeaodojeaaGreatPackN
import Derived.Test.YtjmabjeaodojeaaGreatSpecRefF
import Derived.Test.YtjmabjeaodojeaaGreatPackU
import Derived.Deep.RegionHeld3
import Derived.Test.YtjmabjeaodojeaaGreatFileWriteW
import Derived.Test.YtjmabjeaodojeaaGreatSpecRefW
import Derived.Deep.Cut
/- Used by the law. -/
namespace Go.Proofs.YtjmabjeaodojeaaGreat
open Go.RowKit

set_option maxRecDepth 100000 in
@[go_sem high] theorem run_max_ints4 {P : Program} (w : World) (ts : Array TypeId) (ty : TypeId) (k : IntKind) (x y z u : Int) :
    (Builtin.max_ ts ty #[.int k x, .int k y, .int k z, .int k u]).run P w = .ok (.int k (max (max (max x y) z) u)) w := by
  have e : ∀ x y : Int, (if y > x then y else x) = max x y := by
    intro x y
    rw [Int.max_def]
    split <;> split <;> omega
  simp [Builtin.max_, Builtin.max2, e]
theorem below_drew {B : Nat} {w w1 : World} (h : Below B w w1) : Below B w w1.drew := ⟨h.os, h.tape, h.output, h.size, h.block⟩

set_option maxHeartbeats 6400000 in
set_option maxRecDepth 100000 in
theorem rcheck8_is (c : Cw) (r : Bool) (w : World) (hc : c.Good w) (hn : c.n ≤ 20000) (hr : File.check c.c = r) :
    Calls Tryz.prog 12 #[c.v] w fun e w' => e = .returned (.bool r) ∧ Below w.heap.size w w' := by
  obtain ⟨d1, hd1⟩ : ∃ d, (c.base.all fun x => decide (x < 18446744073709551615)) = d := ⟨_, rfl⟩
  obtain ⟨d3, hd3⟩ : ∃ d, (ruls c.xs).all Spec.fit = d := ⟨_, rfl⟩
  obtain ⟨d4, hd4⟩ : ∃ d, decide (nrm (ruls c.xs) = ruls c.xs) = d := ⟨_, rfl⟩
  have hl : (ruls c.xs).length = c.n := by rw [ruls_length, hc.1.1]
  have hr' : (d1 && decide (c.n ≤ 200) && d3 && d4) = r := by
    rw [← hr]
    unfold File.check
    show _ = ((c.base.all fun x => decide (x < 18446744073709551615)) && decide ((ruls c.xs).length ≤ 200) && (ruls c.xs).all Spec.fit && decide (nrm (ruls c.xs) = ruls c.xs))
    rw [hd1, hd3, hd4, hl]
  have hcm := hc.1.2.1
  have hcm2 := hc.1.2.2.1
  unfold maxLen at hcm2
  obtain ⟨m, l, o, t, a, n, cap, xs⟩ := c
  have hmx4 : decide (max m (max l (max o t)) < 18446744073709551615) = d1 := by
    rw [← hd1, Bool.eq_iff_iff]
    simp only [Cw.base, List.all_cons, List.all_nil, Bool.and_true, Bool.and_eq_true, decide_eq_true_eq]
    omega
  have HD3 := Lib.hid hd3
  have HD4 := Lib.hid hd4
  have HR := Lib.hid hr'
  have HS := Lib.hid hc.1
  have HXN := Lib.hid hc.1.1
  clear hd1 hd3 hd4 hr' hr hl hc
  simp only [Cw.v, Cw.cells] at *
  have HB0 : ∀ ob, Hid (Below w.heap.size w (w.alloc ob)) := fun ob => (Below.refl _ w).alloc (Nat.le_refl _) ob
  have HN0 : ∀ ob, Hid ((w.alloc ob).heap[w.heap.size]? = some ob) := fun ob => heap_alloc_new w ob
  go_enter Tryz.func12, Tryz.ntmps12
  go_wp2
  go_loopw [3] (fun ix wr => ∃ j : Nat, j ≤ n ∧ ix = .int .i64 (j : Int) ∧ Hid (((ruls xs).take j).all Spec.fit = true) ∧ Hid (wr.heap[w.heap.size]? = some (.cells #[Value.int .u64 m, Value.int .u64 l, Value.int .u64 o, Value.int .u64 t, Value.slice a n cap] 26 (0, 0))) ∧ Hid (Below w.heap.size w wr)) (fun ix _ => n - (intOf ix).toNat)
  case atStart => exact ⟨0, Nat.zero_le _, rfl, by first | rfl | trivial, (HN0 _).out, (HB0 _).out⟩
  case round =>
    obtain ⟨j, hj, rfl, HALL, HBOX, HBV⟩ := hrel
    have hk4 : wr.cell? ⟨w.heap.size, 4, none⟩ = some (.slice a n cap) := by simp [World.cell?, HBOX.out]
    by_cases hlt : j < n
    · obtain ⟨b1, o1, la, ln, lc, LL, ra, rn, rc, RR, C, rfl, hb1, hx1, hx2, hx3, hsl, hsr, hC0, hC1, hz1⟩ := HS.out.one j hlt
      have hB := HBV.out
      have hx1' : wr.cell? ⟨b1, o1 + j * 3, none⟩ = some (.slice la ln lc) := by rw [hB.cell (p := ⟨b1, o1 + j * 3, none⟩) hb1]; exact hx1
      have hx2' : wr.cell? ⟨b1, o1 + j * 3 + 1, none⟩ = some (.slice ra rn rc) := by rw [hB.cell (p := ⟨b1, o1 + j * 3 + 1, none⟩) hb1]; exact hx2
      have hx3' : wr.cell? ⟨b1, o1 + j * 3 + 2, none⟩ = some (.int .u64 C) := by rw [hB.cell (p := ⟨b1, o1 + j * 3 + 2, none⟩) hb1]; exact hx3
      have HGX : Hid ((⟨la, ln, lc, LL, ra, rn, rc, RR, C⟩ : Rw).Good wr) := Rw.Good.below (w := w) ⟨hsl, hsr, hC0, hC1⟩ hB (Nat.le_refl _)
      have HT : Hid ((ruls xs).take (j + 1) = (ruls xs).take j ++ [⟨LL, RR, C⟩]) := all_ruls (by rw [HXN.out]; exact hlt) (by rw [hz1]; rfl)
      have hlti : (j : Int) < (n : Int) := by omega
      obtain ⟨q, hq⟩ : ∃ b, Spec.fit ⟨LL, RR, C⟩ = b := ⟨_, rfl⟩
      have HQ := Lib.hid hq
      clear hsl hsr hz1 hq hx1 hx2 hx3 hB
      go_wp2_with fail
      refine (rfit_is ⟨la, ln, lc, LL, ra, rn, rc, RR, C⟩ q _ HGX.out HQ.out).mono ?_
      rintro e w1 ⟨rfl, hb1w⟩
      have HB1 : Hid (Below w.heap.size w w1) := HBV.out.trans (hb1w.mono HBV.out.size)
      have HBOX1 := Lib.hid ((hb1w.block _ (Array.getElem?_eq_some_iff.1 HBOX.out).1).trans HBOX.out)
      clear hb1w hk4
      cases q
      · obtain rfl : r = false := by
          have : d3 = false := by
            rw [← HD3.out, List.all_eq_false]
            refine ⟨⟨LL, RR, C⟩, ?_, by rw [HQ.out]; decide⟩
            have : (⟨LL, RR, C⟩ : Rul) ∈ (ruls xs).take (j + 1) := by rw [HT.out]; simp
            exact List.mem_of_mem_take this
          rw [← HR.out, this]; simp
        go_wp2
        go_ret
        exact ⟨rfl, HB1.out⟩
      · go_wp2
        go_roundw
        case rel =>
          refine ⟨j + 1, by omega, by go_num, ?_, HBOX1.out, HB1.out⟩
          show _ = _
          rw [HT.out, List.all_append, HALL.out]; simp [HQ.out]
        case measure => simp [intOf]; omega
    · obtain rfl : n = j := by omega
      obtain rfl : d3 = true := by
        rw [← HD3.out, ← HALL.out, List.take_of_length_le (by rw [ruls_length, HXN.out]; exact Nat.le_refl _)]
      have HKEEP : Hid (∀ W, Below wr.heap.size wr W → W.cell? ⟨w.heap.size, 4, none⟩ = some (.slice a n cap)) := fun W hW => by
        simp [World.cell?, (hW.block _ (Array.getElem?_eq_some_iff.1 HBOX.out).1).trans HBOX.out]
      have hmx : Tryz.prog.follows .mixedOrders = true := by kernel_rfl
      go_wp2
      refine wp_region_held_drew (S := (fun W => W.cell? ⟨w.heap.size, 4, none⟩ = some (.slice a n cap))) (by kernel_rfl) (by first | (first | exact HKEEP.out _ hbn | exact HKEEP.out _ hbn0 | exact HKEEP.out _ (Below.refl _ _) | exact HKEEP.out _ (below_drew (Below.refl _ _))) | ((try dsimp only); first | exact HKEEP.out _ hbn | exact HKEEP.out _ hbn0 | exact HKEEP.out _ (Below.refl _ _) | exact HKEEP.out _ (below_drew (Below.refl _ _)))) (fun hHeld => ?_)
      refine wpAnyH_take (i := 0) (v := ?vj1) rfl (by kernel_rfl) (by kernel_rfl) (by kernel_rfl) (fun _ _ _ h => h) (Or.inl ⟨by rfl, ?hj1⟩) (by assumption) ?rj1
      case hj1 => intro w hSw; (try dsimp only at hSw); go_simp; try with_reducible rfl
      simp only [Act.put, List.getElem_toArray, List.getElem_cons_succ, List.getElem_cons_zero, List.setIfInBounds_toArray, List.set_cons_succ, List.set_cons_zero]
      refine wpAnyH_take (i := 1) (v := ?vj4) rfl (by kernel_rfl) (by kernel_rfl) (by kernel_rfl) (fun _ _ _ h => h) (Or.inl ⟨by rfl, ?hj4⟩) (by assumption) ?rj4
      case hj4 => intro w hSw; (try dsimp only at hSw); go_simp; try with_reducible rfl
      simp only [Act.put, List.getElem_toArray, List.getElem_cons_succ, List.getElem_cons_zero, List.setIfInBounds_toArray, List.set_cons_succ, List.set_cons_zero]
      refine wpAnyH_take (i := 3) (v := ?vj7) rfl (by kernel_rfl) (by kernel_rfl) (by kernel_rfl) (fun _ _ _ h => h) (Or.inl ⟨by rfl, ?hj7⟩) (by assumption) ?rj7
      case hj7 => intro w hSw; (try dsimp only at hSw); go_simp; try with_reducible rfl
      simp only [Act.put, List.getElem_toArray, List.getElem_cons_succ, List.getElem_cons_zero, List.setIfInBounds_toArray, List.set_cons_succ, List.set_cons_zero]
      refine wpAnyH_take (i := 4) (v := ?vj10) rfl (by kernel_rfl) (by kernel_rfl) (by kernel_rfl) (fun _ _ _ h => h) (Or.inl ⟨by rfl, ?hj10⟩) (by assumption) ?rj10
      case hj10 => intro w hSw; (try dsimp only at hSw); go_simp; try with_reducible rfl
      simp only [Act.put, List.getElem_toArray, List.getElem_cons_succ, List.getElem_cons_zero, List.setIfInBounds_toArray, List.set_cons_succ, List.set_cons_zero]
      refine wpAnyH_ready (rs := [2]) (by kernel_rfl) (by simp) ?_
      refine AllReadyH.cons rfl (fun K hK => ?_) AllReadyH.nil
      go_simp
      go_at_call 18
      refine (rnorm_any a n cap xs _ ((HS.out.below HBV.out (Nat.le_refl _)).drew) hn).mono ?_
      rintro e v1 ⟨an, nn, cn, os, rfl, hrs, hru, hnn, _, hbn⟩
      have hbn : Below wr.heap.size wr v1 := (below_drew (Below.refl wr.heap.size wr)).trans hbn
      go_wp2_with fail
      refine hK.out _ _ (by first | (first | exact HKEEP.out _ hbn | exact HKEEP.out _ hbn0 | exact HKEEP.out _ (Below.refl _ _) | exact HKEEP.out _ (below_drew (Below.refl _ _))) | ((try dsimp only); first | exact HKEEP.out _ hbn | exact HKEEP.out _ hbn0 | exact HKEEP.out _ (Below.refl _ _) | exact HKEEP.out _ (below_drew (Below.refl _ _)))) (fun hHeld => ?_)
      clear hK K
      try simp only [Act.put, List.getElem_toArray, List.getElem_cons_succ, List.getElem_cons_zero, List.setIfInBounds_toArray, List.set_cons_succ, List.set_cons_zero]
      refine wpAnyH_ready (rs := [5]) (by kernel_rfl) (by simp) ?_
      refine AllReadyH.cons rfl (fun K hK => ?_) AllReadyH.nil
      go_simp
      go_at_call 24
      refine (rsames_is an a nn n cn cap os xs d4 _ hrs (HS.out.below (HBV.out.trans (hbn.mono HBV.out.size)) (Nat.le_refl _)) (by rw [hru]; exact HD4.out)).mono ?_
      rintro e v2 ⟨rfl, hq2⟩
      have hb2 := below_drawn hbn hq2
      have hbn0 := hbn
      replace hbn := hb2
      go_wp2_with fail
      refine hK.out _ _ (by first | (first | exact HKEEP.out _ hbn | exact HKEEP.out _ hbn0 | exact HKEEP.out _ (Below.refl _ _) | exact HKEEP.out _ (below_drew (Below.refl _ _))) | ((try dsimp only); first | exact HKEEP.out _ hbn | exact HKEEP.out _ hbn0 | exact HKEEP.out _ (Below.refl _ _) | exact HKEEP.out _ (below_drew (Below.refl _ _)))) (fun hHeld => ?_)
      clear hK K
      try simp only [Act.put, List.getElem_toArray, List.getElem_cons_succ, List.getElem_cons_zero, List.setIfInBounds_toArray, List.set_cons_succ, List.set_cons_zero]
      refine wpAnyH_take (i := 6) (v := ?vj37) rfl (by kernel_rfl) (by kernel_rfl) (by kernel_rfl) (fun _ _ _ h => h) (Or.inl ⟨by rfl, ?hj37⟩) (by assumption) ?rj37
      case hj37 => intro w hSw; (try dsimp only at hSw); go_simp; try with_reducible rfl
      simp only [Act.put, List.getElem_toArray, List.getElem_cons_succ, List.getElem_cons_zero, List.setIfInBounds_toArray, List.set_cons_succ, List.set_cons_zero]
      refine wpAnyH_done (by kernel_rfl) ?_ _
      have HB2 : Hid (Below w.heap.size w v2) := HBV.out.trans (hb2.mono HBV.out.size)
      have hh2 := (hb2.block _ (Array.getElem?_eq_some_iff.1 HBOX.out).1).trans HBOX.out
      have hk0 : v2.cell? ⟨w.heap.size, 0, none⟩ = some (.int .u64 m) := by simp [World.cell?, hh2]
      have hk1 : v2.cell? ⟨w.heap.size, 1, none⟩ = some (.int .u64 l) := by simp [World.cell?, hh2]
      have hk2 : v2.cell? ⟨w.heap.size, 2, none⟩ = some (.int .u64 o) := by simp [World.cell?, hh2]
      have hk3 : v2.cell? ⟨w.heap.size, 3, none⟩ = some (.int .u64 t) := by simp [World.cell?, hh2]
      have hk4 : v2.cell? ⟨w.heap.size, 4, none⟩ = some (.slice a n cap) := by simp [World.cell?, hh2]
      clear hh2 hrs hru hnn hb2 hbn hbn0 hHeld hq2
      cases d4
      · obtain rfl : r = false := by rw [← HR.out]; simp
        go_wp2
        go_ret
        exact ⟨rfl, HB2.out⟩
      · by_cases h200 : n ≤ 200
        · have h200i : (n : Int) ≤ 200 := by omega
          obtain rfl : r = d1 := by rw [← HR.out]; simp [h200]
          go_wp2
          go_ret
          exact ⟨by first | rfl | (simp [hmx4]), HB2.out⟩
        · have h200i : ¬ (n : Int) ≤ 200 := by omega
          obtain rfl : r = false := by rw [← HR.out]; simp [h200]
          go_wp2
          go_ret
          exact ⟨rfl, HB2.out⟩


end Go.Proofs.YtjmabjeaodojeaaGreat

/- Used by the law. -/
namespace Go.Proofs.YtjmabjeaodojeaaGreat
open Go.RowKit

theorem le_alloc {B : Nat} {w : World} (h : B ≤ w.heap.size) (o : Obj) : B ≤ (w.alloc o).heap.size := by rw [World.size_alloc]; omega
theorem head_app {xs : List Int} (h : xs.getD 0 0 = 66) (zs : List Int) : (xs ++ zs).getD 0 0 = 66 := by
  cases xs with
  | nil => simp at h
  | cons x xs => simpa using h
theorem apart_of {w : World} {B n m c g : Nat} {v : Value} {xs zs : List Int} (hown : w.ownsRow B 5 1 v n (u8s xs)) (hx : xs.getD 0 0 = 66) (hz : Sl .u8 w (some ⟨g, 0, none⟩) m c zs) (h0 : zs.getD 0 0 ≠ 66) : Slf v.ownBlock (some ⟨g, 0, none⟩) m := by
  rcases Nat.eq_zero_or_pos m with hm | hm
  · exact .inl hm
  · refine .inr ⟨g, 0, rfl, fun e => ?_⟩
    obtain ⟨b, off, hb, _, hc⟩ := hz.at hm
    simp only [Option.some.injEq, Addr.mk.injEq, and_true] at hb
    obtain ⟨rfl, rfl⟩ := hb
    have h1 := hc 0 hm
    have hxl : 0 < xs.length := by
      cases xs with
      | nil => simp at hx
      | cons x xs => simp
    rcases hown.2 with ⟨rfl, _⟩ | ⟨g', cap, cur, rfl, hb', hg', _⟩
    · cases e
    · have hgg : g' = g := by simpa [Value.ownBlock] using e
      subst hgg
      have h2 := hown.cellAt 0 (by have h := hown.1; simp [u8s] at h; omega)
      rw [Nat.zero_add] at h1
      rw [h1] at h2
      simp [u8s] at h2
      have h3 : xs[0]'hxl = 66 := by rw [← hx]; simp [hxl]
      rw [List.getElem?_eq_getElem hxl] at h2
      simp at h2
      rw [h3] at h2
      exact h0 (by simpa using h2)
set_option maxRecDepth 100000 in
theorem step_build1 {w : World} {ops : Array Oper} {o : Oper} {act : Act} {K : Act → World → Prop} {Q : Exit → Act → World → Prop} {E : Prop} (hw : Region.wanted o (yielded ops act.tmps) = true) (b : Int) (hb : (Lit.int .u8 b).wf = true)
    (ho : o.op = .buildSlice 22 1 #[(0, .const (.int .u8 b))]) (h : ∀ g w', Sl .u8 w' (some ⟨g, 0, none⟩) 1 1 [b] → Below w.heap.size w w' → K (act.put o.dst (.slice (some ⟨g, 0, none⟩) 1 1)) w') :
    if Region.wanted o (yielded ops act.tmps) = true then o.wp Tryz.prog act w K Q else E := by
  rw [if_pos hw]
  unfold Oper.wp
  simp only [execOp, ho]
  go_simp
  exact h _ _ (Sl.newB [b] (by simpa using hb) (by unfold maxLen; simp) rfl rfl rfl) ((Below.refl _ w).alloc (Nat.le_refl _) _)
set_option maxRecDepth 100000 in
theorem rwrite_row (d D : Nat) (hd : d < 18446744073709551616) (hD : (Num.dig d).length = D) (w : World) :
    Calls Tryz.prog 22 #[.int .u64 (d : Int)] w fun e w' => ∃ g c, e = .returned (.slice (some ⟨g, 0, none⟩) D c) ∧ Sl .u8 w' (some ⟨g, 0, none⟩) D c (Num.dig d) ∧ Below w.heap.size w w' := by
  refine (rwrite_any d hd w).mono ?_
  rintro e w' ⟨a, n, c, rfl, hn, hown, _, hb⟩
  have hs : Sl .u8 w' a n c (Num.dig d) := Sl.of_owns (k := .u8) hown (Num.dig_wf d) hn.symm
  have hp := Num.dig_pos d
  rcases hown.2 with ⟨h, h0⟩ | ⟨g, cap, cur, h, _⟩
  · omega
  · simp only [Value.slice.injEq] at h
    obtain ⟨rfl, -, -⟩ := h
    obtain rfl : n = D := by omega
    exact ⟨g, c, rfl, hs, hb⟩

set_option maxHeartbeats 12800000 in
set_option maxRecDepth 100000 in
theorem rwrite8_is (c : Cw) (ok : Bool) (out : List Int) (er : Int) (w : World) (hc : c.Good w) (hn : c.n ≤ 20000) (hok : File.check c.c = ok) (ho : (if ok = true then File.write c.c else []) = out) (he : (if ok = true then 0 else 60) = er) :
    Calls Tryz.prog 9 #[c.v] w fun e w' => ∃ a' n c', e = .returned (.tuple #[.slice a' n c', .int .i64 er]) ∧ n = out.length ∧ Sl .u8 w' a' n c' out ∧ Below w.heap.size w w' := by
  have HBX : ∀ ob, ob = Obj.cells c.cells 26 (0, 0) → ∀ w1, Below (w.alloc ob).heap.size (w.alloc ob) w1 → Hid (w1.heap[w.heap.size]? = some (.cells c.cells 26 (0, 0)) ∧ Below w.heap.size w w1 ∧ w.heap.size + 1 ≤ w1.heap.size) := fun ob hob w1 h => ⟨(box5_kept (c := c) hob h).1, (box5_kept (c := c) hob h).2, by have := h.size; rw [World.size_alloc] at this; exact this⟩
  obtain ⟨m, l, o, t, a, n, cap, xs⟩ := c
  obtain ⟨cc, hcc⟩ : ∃ cc, Cw.c ⟨m, l, o, t, a, n, cap, xs⟩ = cc := ⟨_, rfl⟩
  have HCC := Lib.hid hcc
  have hrl : cc.rules = ruls xs := by rw [← hcc]; rfl
  have hbl : cc.base = [m, l, o, t] := by rw [← hcc]; rfl
  have hnl : cc.rules.length = n := by rw [hrl, ruls_length, hc.1.1]
  have HRL := Lib.hid hrl
  have HNL := Lib.hid hnl
  rw [hcc] at hok ho
  have hncap : n ≤ maxLen := Nat.le_trans hc.1.2.1 hc.1.2.2.1
  unfold maxLen at hncap
  have hcb : ∀ x ∈ ([m, l, o, t] : List Int), 0 ≤ x ∧ x < 18446744073709551616 := hc.2
  obtain ⟨dm, rfl⟩ : ∃ d : Nat, m = (d : Int) := ⟨m.toNat, by have := hcb m (by simp); omega⟩
  obtain ⟨dl, rfl⟩ : ∃ d : Nat, l = (d : Int) := ⟨l.toNat, by have := hcb l (by simp); omega⟩
  obtain ⟨do_, rfl⟩ : ∃ d : Nat, o = (d : Int) := ⟨o.toNat, by have := hcb o (by simp); omega⟩
  obtain ⟨dt, rfl⟩ : ∃ d : Nat, t = (d : Int) := ⟨t.toNat, by have := hcb t (by simp); omega⟩
  have hdm : dm < 18446744073709551616 := by have := hcb dm (by simp); omega
  have hdl : dl < 18446744073709551616 := by have := hcb dl (by simp); omega
  have hdo_ : do_ < 18446744073709551616 := by have := hcb do_ (by simp); omega
  have hdt : dt < 18446744073709551616 := by have := hcb dt (by simp); omega
  have HBASE : Hid (writeUp cc 0 = [66, 65, 83, 69, 32] ++ Num.dig dm ++ [32] ++ Num.dig dl ++ [32] ++ Num.dig do_ ++ [32] ++ Num.dig dt ++ [10]) := by
    show _ = _
    unfold writeUp File.baseLine Spec.wBASE
    rw [hbl]
    simp
  obtain ⟨Dm, hDm⟩ : ∃ D, (Num.dig dm).length = D := ⟨_, rfl⟩
  obtain ⟨Dl, hDl⟩ : ∃ D, (Num.dig dl).length = D := ⟨_, rfl⟩
  obtain ⟨Do, hDo⟩ : ∃ D, (Num.dig do_).length = D := ⟨_, rfl⟩
  obtain ⟨Dt, hDt⟩ : ∃ D, (Num.dig dt).length = D := ⟨_, rfl⟩
  have hDm20 := Num.len_20 hdm
  have hDl20 := Num.len_20 hdl
  have hDo20 := Num.len_20 hdo_
  have hDt20 := Num.len_20 hdt
  have hDmp := Num.dig_pos dm
  rw [hDm] at hDm20 hDmp
  rw [hDl] at hDl20
  rw [hDo] at hDo20
  rw [hDt] at hDt20
  have HDdm := Lib.hid hDm
  have HDdl := Lib.hid hDl
  have HDdo_ := Lib.hid hDo
  have HDdt := Lib.hid hDt
  have HC := Lib.hid hc
  have HOK := Lib.hid hok
  have HO := Lib.hid ho
  have HE := Lib.hid he
  have HI : Hid ((Tryz.prog.info? 26).map (·.size) = some (#[Value.int .u64 (dm : Int), Value.int .u64 (dl : Int), Value.int .u64 (do_ : Int), Value.int .u64 (dt : Int), Value.slice a n cap]).size) := info_costs
  have hmx : Tryz.prog.follows .mixedOrders = true := by kernel_rfl
  have HMX := Lib.hid hmx
  clear hc hok ho he hcc hrl hbl hnl hcb hDm hDl hDo hDt hmx
  simp only [Cw.v, Cw.cells] at *
  have HCV : Hid (∀ W, Below w.heap.size w W → Cw.Good W ⟨(dm : Int), (dl : Int), (do_ : Int), (dt : Int), a, n, cap, xs⟩) := fun W hW => HC.out.below hW (Nat.le_refl _)
  have kc := fun (w : World) (C : Array Value) (n c : Nat) => Lib.run_convert_bytes_const (P := Tryz.prog) w 22 5 C n c Tryz.underlying22 Tryz.underlying5
  go_enter Tryz.func9, Tryz.ntmps9
  go_wp2_with fail
  refine (rcheck8_is ⟨(dm : Int), (dl : Int), (do_ : Int), (dt : Int), a, n, cap, xs⟩ ok _ (HC.out.alloc _) hn (by rw [HCC.out]; exact HOK.out)).mono ?_
  rintro e w1 ⟨rfl, hb1⟩
  obtain ⟨hh1, hbb1, hz1⟩ := (HBX _ rfl _ hb1).out
  have HH1 := Lib.hid hh1
  have HB1 := Lib.hid hbb1
  have HZ1 := Lib.hid hz1
  have hk0 : w1.cell? ⟨w.heap.size, 0, none⟩ = some (.int .u64 (dm : Int)) := by simp [World.cell?, hh1]
  clear hb1 hh1 hbb1 HBX hz1
  cases ok
  · obtain rfl : er = 60 := by rw [← HE.out]; rfl
    obtain rfl : out = [] := by rw [← HO.out]; rfl
    go_wp2
    go_ret2
    exact ⟨none, 0, 0, rfl, rfl, Sl.nil, HB1.out⟩
  · obtain rfl : er = 0 := by rw [← HE.out]; rfl
    obtain ⟨B0, hB0⟩ : ∃ B, w.heap.size + 1 = B := ⟨_, rfl⟩
    have HZB : Hid (B0 ≤ w1.heap.size) := by show _ ≤ _; rw [← hB0]; exact HZ1.out
    have HCELL : Hid (∀ (k : Nat) (v : Value), #[Value.int .u64 (dm : Int), Value.int .u64 (dl : Int), Value.int .u64 (do_ : Int), Value.int .u64 (dt : Int), Value.slice a n cap][k]? = some v → ∀ W, Below B0 w1 W → W.cell? ⟨w.heap.size, k, none⟩ = some v) := fun k v hk W hW => by
      have h1 := (hW.block w.heap.size (by omega)).trans HH1.out
      simp only [World.cell?, h1]
      simpa using hk
    have hk0' : ∀ ob, (w1.alloc ob).cell? ⟨w.heap.size, 0, none⟩ = some (.int .u64 (dm : Int)) := fun ob => HCELL.out 0 _ rfl _ ((Below.refl _ w1).alloc HZB.out ob)
    have HLW : ∀ fr, Hid (Sl .u8 (w1.alloc (.cells #[.int .u8 66, .int .u8 65, .int .u8 83, .int .u8 69, .int .u8 32] 5 fr)) (some ⟨w1.heap.size, 0, none⟩) 5 5 [66, 65, 83, 69, 32]) := fun fr =>
      Sl.of_heap (zs := [66, 65, 83, 69, 32]) (t := 5) (fr := fr) (heap_alloc_new w1 _) (by decide) rfl (by unfold maxLen; omega)
    obtain ⟨M5, hM5⟩ : ∃ q, 5 + Dm = q := ⟨_, rfl⟩
    go_wp2_with fail
    refine (rwrite_row dm Dm hdm HDdm.out _).mono ?_
    rintro e w2 ⟨g2, c2, rfl, hs2, hb2⟩
    have HS2 := Lib.hid hs2
    have HL2 := Lib.hid ((HLW _).out.below hb2 (Nat.le_refl _))
    have HB2 : Hid (Below B0 w1 w2) := ((Below.refl _ w1).alloc HZB.out _).trans (hb2.mono (le_alloc HZB.out _))
    have HZ2 : Hid (B0 ≤ w2.heap.size) := Nat.le_trans HZB.out HB2.out.size
    clear hs2 hb2
    go_wp2_with (at_builtin; refine append_full (by rfl) (.tmp 14) (.tmp 17) (by rfl) B0 _ 5 [66, 65, 83, 69, 32] (by rfl) HL2.out (by omega) _ _ _ (Num.dig dm) (by rfl) HS2.out (by omega) M5 hM5 (by omega) HZ2.out ?_
                 intro a5 c5 w5 hown5 hbw5 hnil5
                 have HO5 := Lib.hid hown5
                 have HB5 : Hid (Below B0 w1 w5) := HB2.out.trans hbw5
                 clear hnil5 hown5 hbw5)
    obtain ⟨N1, hN15⟩ : ∃ q, M5 + 1 = q := ⟨_, rfl⟩
    obtain ⟨N2, hN25⟩ : ∃ q, N1 + Dl = q := ⟨_, rfl⟩
    obtain ⟨N3, hN35⟩ : ∃ q, N2 + 1 = q := ⟨_, rfl⟩
    have HHD : Hid (([66, 65, 83, 69, 32] ++ Num.dig dm).getD 0 0 = 66) := rfl
    have HKEEP : Hid (∀ W, Below B0 w5 W → W.cell? ⟨w.heap.size, 1, none⟩ = some (.int .u64 (dl : Int))) := fun W hW => HCELL.out 1 _ rfl W (HB5.out.trans hW)
    have HDR : Hid (Below B0 w5 w5.drew) := below_drew (Below.refl B0 w5)
    have HZB5 : Hid (B0 ≤ w5.heap.size) := Nat.le_trans HZB.out HB5.out.size
    go_cut [5] from 19 (fun v W => ∃ a' c', v = .slice a' N2 c' ∧ Hid (W.ownsRow B0 5 1 (.slice a' N2 c') N2 (u8s (([66, 65, 83, 69, 32] ++ Num.dig dm) ++ [32] ++ Num.dig dl))) ∧ Hid (Below B0 w5 W))
    case first =>
      have hmx := HMX.out
      refine wp_region_held_drew (S := (fun W => W.cell? ⟨w.heap.size, 1, none⟩ = some (.int .u64 (dl : Int)))) (by kernel_rfl) (by first | (exact HKEEP.out _ (by first | assumption | exact HDR.out)) | ((try dsimp only); exact HKEEP.out _ (by first | assumption | exact HDR.out))) (fun hHeld => ?_)
      refine wpAnyH_take (i := 0) (v := ?vr51) rfl (by kernel_rfl) (by kernel_rfl) (by kernel_rfl) (fun _ _ _ h => h) (Or.inl ⟨by rfl, ?hr51⟩) (by assumption) ?rr51
      case hr51 => intro w hSw; (try dsimp only at hSw); go_simp; try with_reducible rfl
      simp only [Act.put, List.getElem_toArray, List.getElem_cons_succ, List.getElem_cons_zero, List.setIfInBounds_toArray, List.set_cons_succ, List.set_cons_zero]
      refine wpAnyH_take (i := 3) (v := ?vr54) rfl (by kernel_rfl) (by kernel_rfl) (by kernel_rfl) (fun _ _ _ h => h) (Or.inl ⟨by rfl, ?hr54⟩) (by assumption) ?rr54
      case hr54 => intro w hSw; (try dsimp only at hSw); go_simp; try with_reducible rfl
      simp only [Act.put, List.getElem_toArray, List.getElem_cons_succ, List.getElem_cons_zero, List.setIfInBounds_toArray, List.set_cons_succ, List.set_cons_zero]
      refine wpAnyH_take (i := 4) (v := ?vr57) rfl (by kernel_rfl) (by kernel_rfl) (by kernel_rfl) (fun _ _ _ h => h) (Or.inl ⟨by rfl, ?hr57⟩) (by assumption) ?rr57
      case hr57 => intro w hSw; (try dsimp only at hSw); go_simp; try with_reducible rfl
      simp only [Act.put, List.getElem_toArray, List.getElem_cons_succ, List.getElem_cons_zero, List.setIfInBounds_toArray, List.set_cons_succ, List.set_cons_zero]
      refine wpAnyH_ready (rs := [1]) (by kernel_rfl) (by simp) ?_
      refine AllReadyH.cons rfl (fun K hK => ?_) AllReadyH.nil
      refine step_build1 (by rfl) 32 (by decide) (by rfl) ?_
      intro gq1 wq1 hpaq1 hbc
      have hbq1 := ((below_drew (Below.refl B0 w5))).trans (hbc.mono (show B0 ≤ w5.drew.heap.size from HZB5.out))
      have hzq1 := Nat.le_trans (show B0 ≤ w5.drew.heap.size from HZB5.out) hbc.size
      have hoq1 := ownsRow_below ((show w5.drew.ownsRow B0 5 1 _ _ _ from HO5.out)) hbc (Nat.le_refl _)
      clear hbc
      refine hK.out _ _ (by (try dsimp only); exact HKEEP.out _ (by first | assumption | exact HDR.out)) (fun hHeld => ?_)
      clear hK K
      try simp only [Act.put, List.getElem_toArray, List.getElem_cons_succ, List.getElem_cons_zero, List.setIfInBounds_toArray, List.set_cons_succ, List.set_cons_zero]
      refine wpAnyH_ready (rs := [2]) (by kernel_rfl) (by simp) ?_
      refine AllReadyH.cons rfl (fun K hK => ?_) AllReadyH.nil
      refine step_append_bytes (by rfl) (.tmp 19) (.tmp 20) (by rfl) B0 _ M5 _ (by rfl) hoq1 (some ⟨gq1, 0, none⟩) 1 _ [32] (by rfl) hpaq1 N1 (by omega) (by omega) hzq1 ?_
      intro aq12 cq12 wq12 hoq12 hbc hgq12
      have hbq12 := (hbq1).trans hbc
      have hzq12 := Nat.le_trans hzq1 hbc.size
      have hdq12 := head_app HHD.out [32]
      clear hbc hgq12
      refine hK.out _ _ (by (try dsimp only); exact HKEEP.out _ (by first | assumption | exact HDR.out)) (fun hHeld => ?_)
      clear hK K
      try simp only [Act.put, List.getElem_toArray, List.getElem_cons_succ, List.getElem_cons_zero, List.setIfInBounds_toArray, List.set_cons_succ, List.set_cons_zero]
      refine wpAnyH_ready (rs := [5]) (by kernel_rfl) (by simp) ?_
      refine AllReadyH.cons rfl (fun K hK => ?_) AllReadyH.nil
      go_simp
      go_at_call 22
      refine (rwrite_row dl Dl hdl HDdl.out _).mono ?_
      rintro e wq125 ⟨gq125, cq125, rfl, hpdq125, hbc⟩
      have hbq125 := (hbq12).trans (hbc.mono hzq12)
      have hzq125 := Nat.le_trans hzq12 hbc.size
      have hoq125 := ownsRow_below (hoq12) hbc (Nat.le_refl _)
      clear hbc
      go_wp2_with fail
      refine hK.out _ _ (by (try dsimp only); exact HKEEP.out _ (by first | assumption | exact HDR.out)) (fun hHeld => ?_)
      clear hK K
      try simp only [Act.put, List.getElem_toArray, List.getElem_cons_succ, List.getElem_cons_zero, List.setIfInBounds_toArray, List.set_cons_succ, List.set_cons_zero]
      refine wpAnyH_ready (rs := [6]) (by kernel_rfl) (by simp) ?_
      refine AllReadyH.cons rfl (fun K hK => ?_) AllReadyH.nil
      refine step_append_bytes (by rfl) (.tmp 21) (.tmp 24) (by rfl) B0 _ N1 _ (by rfl) hoq125 (some ⟨gq125, 0, none⟩) Dl _ (Num.dig dl) (by rfl) hpdq125 N2 (by omega) (by omega) hzq125 ?_
      intro aq1256 cq1256 wq1256 hoq1256 hbc hgq1256
      have hbq1256 := (hbq125).trans hbc
      have hzq1256 := Nat.le_trans hzq125 hbc.size
      have hdq1256 := head_app hdq12 (Num.dig dl)
      clear hbc hgq1256
      refine hK.out _ _ (by (try dsimp only); exact HKEEP.out _ (by first | assumption | exact HDR.out)) (fun hHeld => ?_)
      clear hK K
      try simp only [Act.put, List.getElem_toArray, List.getElem_cons_succ, List.getElem_cons_zero, List.setIfInBounds_toArray, List.set_cons_succ, List.set_cons_zero]
      refine wpAnyH_take (i := 7) (v := ?vr557) rfl (by kernel_rfl) (by kernel_rfl) (by kernel_rfl) (fun _ _ _ h => h) (Or.inl ⟨by rfl, ?hr557⟩) (by assumption) ?rr557
      case hr557 => intro w hSw; (try dsimp only at hSw); go_simp; try with_reducible rfl
      simp only [Act.put, List.getElem_toArray, List.getElem_cons_succ, List.getElem_cons_zero, List.setIfInBounds_toArray, List.set_cons_succ, List.set_cons_zero]
      refine wpAnyH_done (by kernel_rfl) ?_ _
      go_wp2_with fail
      go_meet
      case rel => exact ⟨_, _, rfl, by first | assumption | (simp only [List.append_assoc] at *; assumption), by assumption⟩

    case rest =>
    obtain ⟨w6a, w6c, rfl, HOw6, HBb⟩ := hcut
    obtain ⟨w6, hw6⟩ : ∃ W, W = wc := ⟨_, rfl⟩
    subst hw6
    have HBw6 : Hid (Below B0 w1 w6) := HB5.out.trans HBb.out
    have HHDn : Hid ((([66, 65, 83, 69, 32] ++ Num.dig dm) ++ [32] ++ Num.dig dl).getD 0 0 = 66) := head_app (head_app HHD.out _) _
    obtain ⟨M6, hM6⟩ : ∃ q, q = N2 := ⟨_, rfl⟩
    rw [← hM6] at HOw6 ⊢
    have hM6' : M6 ≤ 50 := by omega
    clear hM6 hN15 hN25 hN35 HBb HHD HKEEP HDR N1 N2 N3
    go_wp2_with fail
    obtain ⟨N1, hN16⟩ : ∃ q, M6 + 1 = q := ⟨_, rfl⟩
    obtain ⟨N2, hN26⟩ : ∃ q, N1 + Do = q := ⟨_, rfl⟩
    obtain ⟨N3, hN36⟩ : ∃ q, N2 + 1 = q := ⟨_, rfl⟩
    have HHD : Hid ((([66, 65, 83, 69, 32] ++ Num.dig dm) ++ [32] ++ Num.dig dl).getD 0 0 = 66) := HHDn.out
    have HKEEP : Hid (∀ W, Below B0 w6 W → W.cell? ⟨w.heap.size, 2, none⟩ = some (.int .u64 (do_ : Int))) := fun W hW => HCELL.out 2 _ rfl W (HBw6.out.trans hW)
    have HDR : Hid (Below B0 w6 w6.drew) := below_drew (Below.refl B0 w6)
    have HZB6 : Hid (B0 ≤ w6.heap.size) := Nat.le_trans HZB.out HBw6.out.size
    go_cut [5] from 26 (fun v W => ∃ a' c', v = .slice a' N2 c' ∧ Hid (W.ownsRow B0 5 1 (.slice a' N2 c') N2 (u8s ((([66, 65, 83, 69, 32] ++ Num.dig dm) ++ [32] ++ Num.dig dl) ++ [32] ++ Num.dig do_))) ∧ Hid (Below B0 w6 W))
    case first =>
      have hmx := HMX.out
      refine wp_region_held_drew (S := (fun W => W.cell? ⟨w.heap.size, 2, none⟩ = some (.int .u64 (do_ : Int)))) (by kernel_rfl) (by first | (exact HKEEP.out _ (by first | assumption | exact HDR.out)) | ((try dsimp only); exact HKEEP.out _ (by first | assumption | exact HDR.out))) (fun hHeld => ?_)
      refine wpAnyH_take (i := 0) (v := ?vr61) rfl (by kernel_rfl) (by kernel_rfl) (by kernel_rfl) (fun _ _ _ h => h) (Or.inl ⟨by rfl, ?hr61⟩) (by assumption) ?rr61
      case hr61 => intro w hSw; (try dsimp only at hSw); go_simp; try with_reducible rfl
      simp only [Act.put, List.getElem_toArray, List.getElem_cons_succ, List.getElem_cons_zero, List.setIfInBounds_toArray, List.set_cons_succ, List.set_cons_zero]
      refine wpAnyH_take (i := 3) (v := ?vr64) rfl (by kernel_rfl) (by kernel_rfl) (by kernel_rfl) (fun _ _ _ h => h) (Or.inl ⟨by rfl, ?hr64⟩) (by assumption) ?rr64
      case hr64 => intro w hSw; (try dsimp only at hSw); go_simp; try with_reducible rfl
      simp only [Act.put, List.getElem_toArray, List.getElem_cons_succ, List.getElem_cons_zero, List.setIfInBounds_toArray, List.set_cons_succ, List.set_cons_zero]
      refine wpAnyH_take (i := 4) (v := ?vr67) rfl (by kernel_rfl) (by kernel_rfl) (by kernel_rfl) (fun _ _ _ h => h) (Or.inl ⟨by rfl, ?hr67⟩) (by assumption) ?rr67
      case hr67 => intro w hSw; (try dsimp only at hSw); go_simp; try with_reducible rfl
      simp only [Act.put, List.getElem_toArray, List.getElem_cons_succ, List.getElem_cons_zero, List.setIfInBounds_toArray, List.set_cons_succ, List.set_cons_zero]
      refine wpAnyH_ready (rs := [1]) (by kernel_rfl) (by simp) ?_
      refine AllReadyH.cons rfl (fun K hK => ?_) AllReadyH.nil
      refine step_build1 (by rfl) 32 (by decide) (by rfl) ?_
      intro gq1 wq1 hpaq1 hbc
      have hbq1 := ((below_drew (Below.refl B0 w6))).trans (hbc.mono (show B0 ≤ w6.drew.heap.size from HZB6.out))
      have hzq1 := Nat.le_trans (show B0 ≤ w6.drew.heap.size from HZB6.out) hbc.size
      have hoq1 := ownsRow_below ((show w6.drew.ownsRow B0 5 1 _ _ _ from HOw6.out)) hbc (Nat.le_refl _)
      clear hbc
      refine hK.out _ _ (by (try dsimp only); exact HKEEP.out _ (by first | assumption | exact HDR.out)) (fun hHeld => ?_)
      clear hK K
      try simp only [Act.put, List.getElem_toArray, List.getElem_cons_succ, List.getElem_cons_zero, List.setIfInBounds_toArray, List.set_cons_succ, List.set_cons_zero]
      refine wpAnyH_ready (rs := [2]) (by kernel_rfl) (by simp) ?_
      refine AllReadyH.cons rfl (fun K hK => ?_) AllReadyH.nil
      refine step_append_bytes (by rfl) (.tmp 26) (.tmp 27) (by rfl) B0 _ M6 _ (by rfl) hoq1 (some ⟨gq1, 0, none⟩) 1 _ [32] (by rfl) hpaq1 N1 (by omega) (by omega) hzq1 ?_
      intro aq12 cq12 wq12 hoq12 hbc hgq12
      have hbq12 := (hbq1).trans hbc
      have hzq12 := Nat.le_trans hzq1 hbc.size
      have hdq12 := head_app HHD.out [32]
      clear hbc hgq12
      refine hK.out _ _ (by (try dsimp only); exact HKEEP.out _ (by first | assumption | exact HDR.out)) (fun hHeld => ?_)
      clear hK K
      try simp only [Act.put, List.getElem_toArray, List.getElem_cons_succ, List.getElem_cons_zero, List.setIfInBounds_toArray, List.set_cons_succ, List.set_cons_zero]
      refine wpAnyH_ready (rs := [5]) (by kernel_rfl) (by simp) ?_
      refine AllReadyH.cons rfl (fun K hK => ?_) AllReadyH.nil
      go_simp
      go_at_call 22
      refine (rwrite_row do_ Do hdo_ HDdo_.out _).mono ?_
      rintro e wq125 ⟨gq125, cq125, rfl, hpdq125, hbc⟩
      have hbq125 := (hbq12).trans (hbc.mono hzq12)
      have hzq125 := Nat.le_trans hzq12 hbc.size
      have hoq125 := ownsRow_below (hoq12) hbc (Nat.le_refl _)
      clear hbc
      go_wp2_with fail
      refine hK.out _ _ (by (try dsimp only); exact HKEEP.out _ (by first | assumption | exact HDR.out)) (fun hHeld => ?_)
      clear hK K
      try simp only [Act.put, List.getElem_toArray, List.getElem_cons_succ, List.getElem_cons_zero, List.setIfInBounds_toArray, List.set_cons_succ, List.set_cons_zero]
      refine wpAnyH_ready (rs := [6]) (by kernel_rfl) (by simp) ?_
      refine AllReadyH.cons rfl (fun K hK => ?_) AllReadyH.nil
      refine step_append_bytes (by rfl) (.tmp 28) (.tmp 31) (by rfl) B0 _ N1 _ (by rfl) hoq125 (some ⟨gq125, 0, none⟩) Do _ (Num.dig do_) (by rfl) hpdq125 N2 (by omega) (by omega) hzq125 ?_
      intro aq1256 cq1256 wq1256 hoq1256 hbc hgq1256
      have hbq1256 := (hbq125).trans hbc
      have hzq1256 := Nat.le_trans hzq125 hbc.size
      have hdq1256 := head_app hdq12 (Num.dig do_)
      clear hbc hgq1256
      refine hK.out _ _ (by (try dsimp only); exact HKEEP.out _ (by first | assumption | exact HDR.out)) (fun hHeld => ?_)
      clear hK K
      try simp only [Act.put, List.getElem_toArray, List.getElem_cons_succ, List.getElem_cons_zero, List.setIfInBounds_toArray, List.set_cons_succ, List.set_cons_zero]
      refine wpAnyH_take (i := 7) (v := ?vr657) rfl (by kernel_rfl) (by kernel_rfl) (by kernel_rfl) (fun _ _ _ h => h) (Or.inl ⟨by rfl, ?hr657⟩) (by assumption) ?rr657
      case hr657 => intro w hSw; (try dsimp only at hSw); go_simp; try with_reducible rfl
      simp only [Act.put, List.getElem_toArray, List.getElem_cons_succ, List.getElem_cons_zero, List.setIfInBounds_toArray, List.set_cons_succ, List.set_cons_zero]
      refine wpAnyH_done (by kernel_rfl) ?_ _
      go_wp2_with fail
      go_meet
      case rel => exact ⟨_, _, rfl, by first | assumption | (simp only [List.append_assoc] at *; assumption), by assumption⟩

    case rest =>
    obtain ⟨w7a, w7c, rfl, HOw7, HBb⟩ := hcut
    obtain ⟨w7, hw7⟩ : ∃ W, W = wc := ⟨_, rfl⟩
    subst hw7
    have HBw7 : Hid (Below B0 w1 w7) := HBw6.out.trans HBb.out
    have HHDn : Hid (((([66, 65, 83, 69, 32] ++ Num.dig dm) ++ [32] ++ Num.dig dl) ++ [32] ++ Num.dig do_).getD 0 0 = 66) := head_app (head_app HHD.out _) _
    obtain ⟨M7, hM7⟩ : ∃ q, q = N2 := ⟨_, rfl⟩
    rw [← hM7] at HOw7 ⊢
    have hM7' : M7 ≤ 75 := by omega
    clear hM7 hN16 hN26 hN36 HBb HHD HKEEP HDR N1 N2 N3
    go_wp2_with fail
    obtain ⟨N1, hN17⟩ : ∃ q, M7 + 1 = q := ⟨_, rfl⟩
    obtain ⟨N2, hN27⟩ : ∃ q, N1 + Dt = q := ⟨_, rfl⟩
    obtain ⟨N3, hN37⟩ : ∃ q, N2 + 1 = q := ⟨_, rfl⟩
    have HHD : Hid (((([66, 65, 83, 69, 32] ++ Num.dig dm) ++ [32] ++ Num.dig dl) ++ [32] ++ Num.dig do_).getD 0 0 = 66) := HHDn.out
    have HKEEP : Hid (∀ W, Below B0 w7 W → W.cell? ⟨w.heap.size, 3, none⟩ = some (.int .u64 (dt : Int))) := fun W hW => HCELL.out 3 _ rfl W (HBw7.out.trans hW)
    have HDR : Hid (Below B0 w7 w7.drew) := below_drew (Below.refl B0 w7)
    have HZB7 : Hid (B0 ≤ w7.heap.size) := Nat.le_trans HZB.out HBw7.out.size
    go_cut [5] from 33 (fun v W => ∃ a' c', v = .slice a' N3 c' ∧ Hid (W.ownsRow B0 5 1 (.slice a' N3 c') N3 (u8s (((([66, 65, 83, 69, 32] ++ Num.dig dm) ++ [32] ++ Num.dig dl) ++ [32] ++ Num.dig do_) ++ [32] ++ Num.dig dt ++ [10]))) ∧ Hid (Below B0 w7 W))
    case first =>
      have hmx := HMX.out
      refine wp_region_held_drew (S := (fun W => W.cell? ⟨w.heap.size, 3, none⟩ = some (.int .u64 (dt : Int)))) (by kernel_rfl) (by first | (exact HKEEP.out _ (by first | assumption | exact HDR.out)) | ((try dsimp only); exact HKEEP.out _ (by first | assumption | exact HDR.out))) (fun hHeld => ?_)
      refine wpAnyH_take (i := 0) (v := ?vr71) rfl (by kernel_rfl) (by kernel_rfl) (by kernel_rfl) (fun _ _ _ h => h) (Or.inl ⟨by rfl, ?hr71⟩) (by assumption) ?rr71
      case hr71 => intro w hSw; (try dsimp only at hSw); go_simp; try with_reducible rfl
      simp only [Act.put, List.getElem_toArray, List.getElem_cons_succ, List.getElem_cons_zero, List.setIfInBounds_toArray, List.set_cons_succ, List.set_cons_zero]
      refine wpAnyH_take (i := 3) (v := ?vr74) rfl (by kernel_rfl) (by kernel_rfl) (by kernel_rfl) (fun _ _ _ h => h) (Or.inl ⟨by rfl, ?hr74⟩) (by assumption) ?rr74
      case hr74 => intro w hSw; (try dsimp only at hSw); go_simp; try with_reducible rfl
      simp only [Act.put, List.getElem_toArray, List.getElem_cons_succ, List.getElem_cons_zero, List.setIfInBounds_toArray, List.set_cons_succ, List.set_cons_zero]
      refine wpAnyH_take (i := 4) (v := ?vr77) rfl (by kernel_rfl) (by kernel_rfl) (by kernel_rfl) (fun _ _ _ h => h) (Or.inl ⟨by rfl, ?hr77⟩) (by assumption) ?rr77
      case hr77 => intro w hSw; (try dsimp only at hSw); go_simp; try with_reducible rfl
      simp only [Act.put, List.getElem_toArray, List.getElem_cons_succ, List.getElem_cons_zero, List.setIfInBounds_toArray, List.set_cons_succ, List.set_cons_zero]
      refine wpAnyH_ready (rs := [1, 7]) (by kernel_rfl) (by simp) ?_
      refine AllReadyH.cons rfl (fun K hK => ?_) (AllReadyH.cons rfl (fun K hK => ?_) AllReadyH.nil)
      · refine step_build1 (by rfl) 32 (by decide) (by rfl) ?_
        intro gq1 wq1 hpaq1 hbc
        have hbq1 := ((below_drew (Below.refl B0 w7))).trans (hbc.mono (show B0 ≤ w7.drew.heap.size from HZB7.out))
        have hzq1 := Nat.le_trans (show B0 ≤ w7.drew.heap.size from HZB7.out) hbc.size
        have hoq1 := ownsRow_below ((show w7.drew.ownsRow B0 5 1 _ _ _ from HOw7.out)) hbc (Nat.le_refl _)
        clear hbc
        refine hK.out _ _ (by (try dsimp only); exact HKEEP.out _ (by first | assumption | exact HDR.out)) (fun hHeld => ?_)
        clear hK K
        try simp only [Act.put, List.getElem_toArray, List.getElem_cons_succ, List.getElem_cons_zero, List.setIfInBounds_toArray, List.set_cons_succ, List.set_cons_zero]
        refine wpAnyH_ready (rs := [2, 7]) (by kernel_rfl) (by simp) ?_
        refine AllReadyH.cons rfl (fun K hK => ?_) (AllReadyH.cons rfl (fun K hK => ?_) AllReadyH.nil)
        · refine step_append_bytes (by rfl) (.tmp 33) (.tmp 34) (by rfl) B0 _ M7 _ (by rfl) hoq1 (some ⟨gq1, 0, none⟩) 1 _ [32] (by rfl) hpaq1 N1 (by omega) (by omega) hzq1 ?_
          intro aq12 cq12 wq12 hoq12 hbc hgq12
          have hbq12 := (hbq1).trans hbc
          have hzq12 := Nat.le_trans hzq1 hbc.size
          have hdq12 := head_app HHD.out [32]
          clear hbc hgq12
          refine hK.out _ _ (by (try dsimp only); exact HKEEP.out _ (by first | assumption | exact HDR.out)) (fun hHeld => ?_)
          clear hK K
          try simp only [Act.put, List.getElem_toArray, List.getElem_cons_succ, List.getElem_cons_zero, List.setIfInBounds_toArray, List.set_cons_succ, List.set_cons_zero]
          refine wpAnyH_ready (rs := [5, 7]) (by kernel_rfl) (by simp) ?_
          refine AllReadyH.cons rfl (fun K hK => ?_) (AllReadyH.cons rfl (fun K hK => ?_) AllReadyH.nil)
          · go_simp
            go_at_call 22
            refine (rwrite_row dt Dt hdt HDdt.out _).mono ?_
            rintro e wq125 ⟨gq125, cq125, rfl, hpdq125, hbc⟩
            have hbq125 := (hbq12).trans (hbc.mono hzq12)
            have hzq125 := Nat.le_trans hzq12 hbc.size
            have hoq125 := ownsRow_below (hoq12) hbc (Nat.le_refl _)
            clear hbc
            go_wp2_with fail
            refine hK.out _ _ (by (try dsimp only); exact HKEEP.out _ (by first | assumption | exact HDR.out)) (fun hHeld => ?_)
            clear hK K
            try simp only [Act.put, List.getElem_toArray, List.getElem_cons_succ, List.getElem_cons_zero, List.setIfInBounds_toArray, List.set_cons_succ, List.set_cons_zero]
            refine wpAnyH_ready (rs := [6, 7]) (by kernel_rfl) (by simp) ?_
            refine AllReadyH.cons rfl (fun K hK => ?_) (AllReadyH.cons rfl (fun K hK => ?_) AllReadyH.nil)
            · refine step_append_bytes (by rfl) (.tmp 35) (.tmp 38) (by rfl) B0 _ N1 _ (by rfl) hoq125 (some ⟨gq125, 0, none⟩) Dt _ (Num.dig dt) (by rfl) hpdq125 N2 (by omega) (by omega) hzq125 ?_
              intro aq1256 cq1256 wq1256 hoq1256 hbc hgq1256
              have hbq1256 := (hbq125).trans hbc
              have hzq1256 := Nat.le_trans hzq125 hbc.size
              have hdq1256 := head_app hdq12 (Num.dig dt)
              clear hbc hgq1256
              refine hK.out _ _ (by (try dsimp only); exact HKEEP.out _ (by first | assumption | exact HDR.out)) (fun hHeld => ?_)
              clear hK K
              try simp only [Act.put, List.getElem_toArray, List.getElem_cons_succ, List.getElem_cons_zero, List.setIfInBounds_toArray, List.set_cons_succ, List.set_cons_zero]
              refine wpAnyH_ready (rs := [7]) (by kernel_rfl) (by simp) ?_
              refine AllReadyH.cons rfl (fun K hK => ?_) AllReadyH.nil
              refine step_build1 (by rfl) 10 (by decide) (by rfl) ?_
              intro gq12567 wq12567 hpzq12567 hbc
              have hbq12567 := (hbq1256).trans (hbc.mono hzq1256)
              have hzq12567 := Nat.le_trans hzq1256 hbc.size
              have hoq12567 := ownsRow_below (hoq1256) hbc (Nat.le_refl _)
              clear hbc
              refine hK.out _ _ (by (try dsimp only); exact HKEEP.out _ (by first | assumption | exact HDR.out)) (fun hHeld => ?_)
              clear hK K
              try simp only [Act.put, List.getElem_toArray, List.getElem_cons_succ, List.getElem_cons_zero, List.setIfInBounds_toArray, List.set_cons_succ, List.set_cons_zero]
              refine wpAnyH_ready (rs := [8]) (by kernel_rfl) (by simp) ?_
              refine AllReadyH.cons rfl (fun K hK => ?_) AllReadyH.nil
              refine step_append_bytes (by rfl) (.tmp 39) (.tmp 40) (by rfl) B0 _ N2 _ (by rfl) hoq12567 (some ⟨gq12567, 0, none⟩) 1 _ [10] (by rfl) hpzq12567 N3 (by omega) (by omega) hzq12567 ?_
              intro aq125678 cq125678 wq125678 hoq125678 hbc hgq125678
              have hbq125678 := (hbq12567).trans hbc
              have hzq125678 := Nat.le_trans hzq12567 hbc.size
              have hdq125678 := head_app hdq1256 [10]
              clear hbc hgq125678
              refine hK.out _ _ (by (try dsimp only); exact HKEEP.out _ (by first | assumption | exact HDR.out)) (fun hHeld => ?_)
              clear hK K
              try simp only [Act.put, List.getElem_toArray, List.getElem_cons_succ, List.getElem_cons_zero, List.setIfInBounds_toArray, List.set_cons_succ, List.set_cons_zero]
              refine wpAnyH_take (i := 9) (v := ?vr779) rfl (by kernel_rfl) (by kernel_rfl) (by kernel_rfl) (fun _ _ _ h => h) (Or.inl ⟨by rfl, ?hr779⟩) (by assumption) ?rr779
              case hr779 => intro w hSw; (try dsimp only at hSw); go_simp; try with_reducible rfl
              simp only [Act.put, List.getElem_toArray, List.getElem_cons_succ, List.getElem_cons_zero, List.setIfInBounds_toArray, List.set_cons_succ, List.set_cons_zero]
              refine wpAnyH_done (by kernel_rfl) ?_ _
              go_wp2_with fail
              go_meet
              case rel => exact ⟨_, _, rfl, by first | assumption | (simp only [List.append_assoc] at *; assumption), by assumption⟩
        
            · refine step_build1 (by rfl) 10 (by decide) (by rfl) ?_
              intro gq1257 wq1257 hpzq1257 hbc
              have hbq1257 := (hbq125).trans (hbc.mono hzq125)
              have hzq1257 := Nat.le_trans hzq125 hbc.size
              have hoq1257 := ownsRow_below (hoq125) hbc (Nat.le_refl _)
              have hpdq1257 := Sl.below hpdq125 hbc (Nat.le_refl _)
              clear hbc
              refine hK.out _ _ (by (try dsimp only); exact HKEEP.out _ (by first | assumption | exact HDR.out)) (fun hHeld => ?_)
              clear hK K
              try simp only [Act.put, List.getElem_toArray, List.getElem_cons_succ, List.getElem_cons_zero, List.setIfInBounds_toArray, List.set_cons_succ, List.set_cons_zero]
              refine wpAnyH_ready (rs := [6]) (by kernel_rfl) (by simp) ?_
              refine AllReadyH.cons rfl (fun K hK => ?_) AllReadyH.nil
              refine step_append_bytes (by rfl) (.tmp 35) (.tmp 38) (by rfl) B0 _ N1 _ (by rfl) hoq1257 (some ⟨gq125, 0, none⟩) Dt _ (Num.dig dt) (by rfl) hpdq1257 N2 (by omega) (by omega) hzq1257 ?_
              intro aq12576 cq12576 wq12576 hoq12576 hbc hgq12576
              have hbq12576 := (hbq1257).trans hbc
              have hzq12576 := Nat.le_trans hzq1257 hbc.size
              have hdq12576 := head_app hdq12 (Num.dig dt)
              have hpzq12576 := Sl.grown hpzq1257 hgq12576 (apart_of hoq1257 hdq12 hpzq1257 (by decide))
              clear hbc hgq12576
              refine hK.out _ _ (by (try dsimp only); exact HKEEP.out _ (by first | assumption | exact HDR.out)) (fun hHeld => ?_)
              clear hK K
              try simp only [Act.put, List.getElem_toArray, List.getElem_cons_succ, List.getElem_cons_zero, List.setIfInBounds_toArray, List.set_cons_succ, List.set_cons_zero]
              refine wpAnyH_ready (rs := [8]) (by kernel_rfl) (by simp) ?_
              refine AllReadyH.cons rfl (fun K hK => ?_) AllReadyH.nil
              refine step_append_bytes (by rfl) (.tmp 39) (.tmp 40) (by rfl) B0 _ N2 _ (by rfl) hoq12576 (some ⟨gq1257, 0, none⟩) 1 _ [10] (by rfl) hpzq12576 N3 (by omega) (by omega) hzq12576 ?_
              intro aq125768 cq125768 wq125768 hoq125768 hbc hgq125768
              have hbq125768 := (hbq12576).trans hbc
              have hzq125768 := Nat.le_trans hzq12576 hbc.size
              have hdq125768 := head_app hdq12576 [10]
              clear hbc hgq125768
              refine hK.out _ _ (by (try dsimp only); exact HKEEP.out _ (by first | assumption | exact HDR.out)) (fun hHeld => ?_)
              clear hK K
              try simp only [Act.put, List.getElem_toArray, List.getElem_cons_succ, List.getElem_cons_zero, List.setIfInBounds_toArray, List.set_cons_succ, List.set_cons_zero]
              refine wpAnyH_take (i := 9) (v := ?vr7120) rfl (by kernel_rfl) (by kernel_rfl) (by kernel_rfl) (fun _ _ _ h => h) (Or.inl ⟨by rfl, ?hr7120⟩) (by assumption) ?rr7120
              case hr7120 => intro w hSw; (try dsimp only at hSw); go_simp; try with_reducible rfl
              simp only [Act.put, List.getElem_toArray, List.getElem_cons_succ, List.getElem_cons_zero, List.setIfInBounds_toArray, List.set_cons_succ, List.set_cons_zero]
              refine wpAnyH_done (by kernel_rfl) ?_ _
              go_wp2_with fail
              go_meet
              case rel => exact ⟨_, _, rfl, by first | assumption | (simp only [List.append_assoc] at *; assumption), by assumption⟩
        
          · refine step_build1 (by rfl) 10 (by decide) (by rfl) ?_
            intro gq127 wq127 hpzq127 hbc
            have hbq127 := (hbq12).trans (hbc.mono hzq12)
            have hzq127 := Nat.le_trans hzq12 hbc.size
            have hoq127 := ownsRow_below (hoq12) hbc (Nat.le_refl _)
            clear hbc
            refine hK.out _ _ (by (try dsimp only); exact HKEEP.out _ (by first | assumption | exact HDR.out)) (fun hHeld => ?_)
            clear hK K
            try simp only [Act.put, List.getElem_toArray, List.getElem_cons_succ, List.getElem_cons_zero, List.setIfInBounds_toArray, List.set_cons_succ, List.set_cons_zero]
            refine wpAnyH_ready (rs := [5]) (by kernel_rfl) (by simp) ?_
            refine AllReadyH.cons rfl (fun K hK => ?_) AllReadyH.nil
            go_simp
            go_at_call 22
            refine (rwrite_row dt Dt hdt HDdt.out _).mono ?_
            rintro e wq1275 ⟨gq1275, cq1275, rfl, hpdq1275, hbc⟩
            have hbq1275 := (hbq127).trans (hbc.mono hzq127)
            have hzq1275 := Nat.le_trans hzq127 hbc.size
            have hoq1275 := ownsRow_below (hoq127) hbc (Nat.le_refl _)
            have hpzq1275 := Sl.below hpzq127 hbc (Nat.le_refl _)
            clear hbc
            go_wp2_with fail
            refine hK.out _ _ (by (try dsimp only); exact HKEEP.out _ (by first | assumption | exact HDR.out)) (fun hHeld => ?_)
            clear hK K
            try simp only [Act.put, List.getElem_toArray, List.getElem_cons_succ, List.getElem_cons_zero, List.setIfInBounds_toArray, List.set_cons_succ, List.set_cons_zero]
            refine wpAnyH_ready (rs := [6]) (by kernel_rfl) (by simp) ?_
            refine AllReadyH.cons rfl (fun K hK => ?_) AllReadyH.nil
            refine step_append_bytes (by rfl) (.tmp 35) (.tmp 38) (by rfl) B0 _ N1 _ (by rfl) hoq1275 (some ⟨gq1275, 0, none⟩) Dt _ (Num.dig dt) (by rfl) hpdq1275 N2 (by omega) (by omega) hzq1275 ?_
            intro aq12756 cq12756 wq12756 hoq12756 hbc hgq12756
            have hbq12756 := (hbq1275).trans hbc
            have hzq12756 := Nat.le_trans hzq1275 hbc.size
            have hdq12756 := head_app hdq12 (Num.dig dt)
            have hpzq12756 := Sl.grown hpzq1275 hgq12756 (apart_of hoq1275 hdq12 hpzq1275 (by decide))
            clear hbc hgq12756
            refine hK.out _ _ (by (try dsimp only); exact HKEEP.out _ (by first | assumption | exact HDR.out)) (fun hHeld => ?_)
            clear hK K
            try simp only [Act.put, List.getElem_toArray, List.getElem_cons_succ, List.getElem_cons_zero, List.setIfInBounds_toArray, List.set_cons_succ, List.set_cons_zero]
            refine wpAnyH_ready (rs := [8]) (by kernel_rfl) (by simp) ?_
            refine AllReadyH.cons rfl (fun K hK => ?_) AllReadyH.nil
            refine step_append_bytes (by rfl) (.tmp 39) (.tmp 40) (by rfl) B0 _ N2 _ (by rfl) hoq12756 (some ⟨gq127, 0, none⟩) 1 _ [10] (by rfl) hpzq12756 N3 (by omega) (by omega) hzq12756 ?_
            intro aq127568 cq127568 wq127568 hoq127568 hbc hgq127568
            have hbq127568 := (hbq12756).trans hbc
            have hzq127568 := Nat.le_trans hzq12756 hbc.size
            have hdq127568 := head_app hdq12756 [10]
            clear hbc hgq127568
            refine hK.out _ _ (by (try dsimp only); exact HKEEP.out _ (by first | assumption | exact HDR.out)) (fun hHeld => ?_)
            clear hK K
            try simp only [Act.put, List.getElem_toArray, List.getElem_cons_succ, List.getElem_cons_zero, List.setIfInBounds_toArray, List.set_cons_succ, List.set_cons_zero]
            refine wpAnyH_take (i := 9) (v := ?vr7175) rfl (by kernel_rfl) (by kernel_rfl) (by kernel_rfl) (fun _ _ _ h => h) (Or.inl ⟨by rfl, ?hr7175⟩) (by assumption) ?rr7175
            case hr7175 => intro w hSw; (try dsimp only at hSw); go_simp; try with_reducible rfl
            simp only [Act.put, List.getElem_toArray, List.getElem_cons_succ, List.getElem_cons_zero, List.setIfInBounds_toArray, List.set_cons_succ, List.set_cons_zero]
            refine wpAnyH_done (by kernel_rfl) ?_ _
            go_wp2_with fail
            go_meet
            case rel => exact ⟨_, _, rfl, by first | assumption | (simp only [List.append_assoc] at *; assumption), by assumption⟩
      
        · refine step_build1 (by rfl) 10 (by decide) (by rfl) ?_
          intro gq17 wq17 hpzq17 hbc
          have hbq17 := (hbq1).trans (hbc.mono hzq1)
          have hzq17 := Nat.le_trans hzq1 hbc.size
          have hoq17 := ownsRow_below (hoq1) hbc (Nat.le_refl _)
          have hpaq17 := Sl.below hpaq1 hbc (Nat.le_refl _)
          clear hbc
          refine hK.out _ _ (by (try dsimp only); exact HKEEP.out _ (by first | assumption | exact HDR.out)) (fun hHeld => ?_)
          clear hK K
          try simp only [Act.put, List.getElem_toArray, List.getElem_cons_succ, List.getElem_cons_zero, List.setIfInBounds_toArray, List.set_cons_succ, List.set_cons_zero]
          refine wpAnyH_ready (rs := [2]) (by kernel_rfl) (by simp) ?_
          refine AllReadyH.cons rfl (fun K hK => ?_) AllReadyH.nil
          refine step_append_bytes (by rfl) (.tmp 33) (.tmp 34) (by rfl) B0 _ M7 _ (by rfl) hoq17 (some ⟨gq1, 0, none⟩) 1 _ [32] (by rfl) hpaq17 N1 (by omega) (by omega) hzq17 ?_
          intro aq172 cq172 wq172 hoq172 hbc hgq172
          have hbq172 := (hbq17).trans hbc
          have hzq172 := Nat.le_trans hzq17 hbc.size
          have hdq172 := head_app HHD.out [32]
          have hpzq172 := Sl.grown hpzq17 hgq172 (apart_of hoq17 HHD.out hpzq17 (by decide))
          clear hbc hgq172
          refine hK.out _ _ (by (try dsimp only); exact HKEEP.out _ (by first | assumption | exact HDR.out)) (fun hHeld => ?_)
          clear hK K
          try simp only [Act.put, List.getElem_toArray, List.getElem_cons_succ, List.getElem_cons_zero, List.setIfInBounds_toArray, List.set_cons_succ, List.set_cons_zero]
          refine wpAnyH_ready (rs := [5]) (by kernel_rfl) (by simp) ?_
          refine AllReadyH.cons rfl (fun K hK => ?_) AllReadyH.nil
          go_simp
          go_at_call 22
          refine (rwrite_row dt Dt hdt HDdt.out _).mono ?_
          rintro e wq1725 ⟨gq1725, cq1725, rfl, hpdq1725, hbc⟩
          have hbq1725 := (hbq172).trans (hbc.mono hzq172)
          have hzq1725 := Nat.le_trans hzq172 hbc.size
          have hoq1725 := ownsRow_below (hoq172) hbc (Nat.le_refl _)
          have hpzq1725 := Sl.below hpzq172 hbc (Nat.le_refl _)
          clear hbc
          go_wp2_with fail
          refine hK.out _ _ (by (try dsimp only); exact HKEEP.out _ (by first | assumption | exact HDR.out)) (fun hHeld => ?_)
          clear hK K
          try simp only [Act.put, List.getElem_toArray, List.getElem_cons_succ, List.getElem_cons_zero, List.setIfInBounds_toArray, List.set_cons_succ, List.set_cons_zero]
          refine wpAnyH_ready (rs := [6]) (by kernel_rfl) (by simp) ?_
          refine AllReadyH.cons rfl (fun K hK => ?_) AllReadyH.nil
          refine step_append_bytes (by rfl) (.tmp 35) (.tmp 38) (by rfl) B0 _ N1 _ (by rfl) hoq1725 (some ⟨gq1725, 0, none⟩) Dt _ (Num.dig dt) (by rfl) hpdq1725 N2 (by omega) (by omega) hzq1725 ?_
          intro aq17256 cq17256 wq17256 hoq17256 hbc hgq17256
          have hbq17256 := (hbq1725).trans hbc
          have hzq17256 := Nat.le_trans hzq1725 hbc.size
          have hdq17256 := head_app hdq172 (Num.dig dt)
          have hpzq17256 := Sl.grown hpzq1725 hgq17256 (apart_of hoq1725 hdq172 hpzq1725 (by decide))
          clear hbc hgq17256
          refine hK.out _ _ (by (try dsimp only); exact HKEEP.out _ (by first | assumption | exact HDR.out)) (fun hHeld => ?_)
          clear hK K
          try simp only [Act.put, List.getElem_toArray, List.getElem_cons_succ, List.getElem_cons_zero, List.setIfInBounds_toArray, List.set_cons_succ, List.set_cons_zero]
          refine wpAnyH_ready (rs := [8]) (by kernel_rfl) (by simp) ?_
          refine AllReadyH.cons rfl (fun K hK => ?_) AllReadyH.nil
          refine step_append_bytes (by rfl) (.tmp 39) (.tmp 40) (by rfl) B0 _ N2 _ (by rfl) hoq17256 (some ⟨gq17, 0, none⟩) 1 _ [10] (by rfl) hpzq17256 N3 (by omega) (by omega) hzq17256 ?_
          intro aq172568 cq172568 wq172568 hoq172568 hbc hgq172568
          have hbq172568 := (hbq17256).trans hbc
          have hzq172568 := Nat.le_trans hzq17256 hbc.size
          have hdq172568 := head_app hdq17256 [10]
          clear hbc hgq172568
          refine hK.out _ _ (by (try dsimp only); exact HKEEP.out _ (by first | assumption | exact HDR.out)) (fun hHeld => ?_)
          clear hK K
          try simp only [Act.put, List.getElem_toArray, List.getElem_cons_succ, List.getElem_cons_zero, List.setIfInBounds_toArray, List.set_cons_succ, List.set_cons_zero]
          refine wpAnyH_take (i := 9) (v := ?vr7243) rfl (by kernel_rfl) (by kernel_rfl) (by kernel_rfl) (fun _ _ _ h => h) (Or.inl ⟨by rfl, ?hr7243⟩) (by assumption) ?rr7243
          case hr7243 => intro w hSw; (try dsimp only at hSw); go_simp; try with_reducible rfl
          simp only [Act.put, List.getElem_toArray, List.getElem_cons_succ, List.getElem_cons_zero, List.setIfInBounds_toArray, List.set_cons_succ, List.set_cons_zero]
          refine wpAnyH_done (by kernel_rfl) ?_ _
          go_wp2_with fail
          go_meet
          case rel => exact ⟨_, _, rfl, by first | assumption | (simp only [List.append_assoc] at *; assumption), by assumption⟩
    
      · refine step_build1 (by rfl) 10 (by decide) (by rfl) ?_
        intro gq7 wq7 hpzq7 hbc
        have hbq7 := ((below_drew (Below.refl B0 w7))).trans (hbc.mono (show B0 ≤ w7.drew.heap.size from HZB7.out))
        have hzq7 := Nat.le_trans (show B0 ≤ w7.drew.heap.size from HZB7.out) hbc.size
        have hoq7 := ownsRow_below ((show w7.drew.ownsRow B0 5 1 _ _ _ from HOw7.out)) hbc (Nat.le_refl _)
        clear hbc
        refine hK.out _ _ (by (try dsimp only); exact HKEEP.out _ (by first | assumption | exact HDR.out)) (fun hHeld => ?_)
        clear hK K
        try simp only [Act.put, List.getElem_toArray, List.getElem_cons_succ, List.getElem_cons_zero, List.setIfInBounds_toArray, List.set_cons_succ, List.set_cons_zero]
        refine wpAnyH_ready (rs := [1]) (by kernel_rfl) (by simp) ?_
        refine AllReadyH.cons rfl (fun K hK => ?_) AllReadyH.nil
        refine step_build1 (by rfl) 32 (by decide) (by rfl) ?_
        intro gq71 wq71 hpaq71 hbc
        have hbq71 := (hbq7).trans (hbc.mono hzq7)
        have hzq71 := Nat.le_trans hzq7 hbc.size
        have hoq71 := ownsRow_below (hoq7) hbc (Nat.le_refl _)
        have hpzq71 := Sl.below hpzq7 hbc (Nat.le_refl _)
        clear hbc
        refine hK.out _ _ (by (try dsimp only); exact HKEEP.out _ (by first | assumption | exact HDR.out)) (fun hHeld => ?_)
        clear hK K
        try simp only [Act.put, List.getElem_toArray, List.getElem_cons_succ, List.getElem_cons_zero, List.setIfInBounds_toArray, List.set_cons_succ, List.set_cons_zero]
        refine wpAnyH_ready (rs := [2]) (by kernel_rfl) (by simp) ?_
        refine AllReadyH.cons rfl (fun K hK => ?_) AllReadyH.nil
        refine step_append_bytes (by rfl) (.tmp 33) (.tmp 34) (by rfl) B0 _ M7 _ (by rfl) hoq71 (some ⟨gq71, 0, none⟩) 1 _ [32] (by rfl) hpaq71 N1 (by omega) (by omega) hzq71 ?_
        intro aq712 cq712 wq712 hoq712 hbc hgq712
        have hbq712 := (hbq71).trans hbc
        have hzq712 := Nat.le_trans hzq71 hbc.size
        have hdq712 := head_app HHD.out [32]
        have hpzq712 := Sl.grown hpzq71 hgq712 (apart_of hoq71 HHD.out hpzq71 (by decide))
        clear hbc hgq712
        refine hK.out _ _ (by (try dsimp only); exact HKEEP.out _ (by first | assumption | exact HDR.out)) (fun hHeld => ?_)
        clear hK K
        try simp only [Act.put, List.getElem_toArray, List.getElem_cons_succ, List.getElem_cons_zero, List.setIfInBounds_toArray, List.set_cons_succ, List.set_cons_zero]
        refine wpAnyH_ready (rs := [5]) (by kernel_rfl) (by simp) ?_
        refine AllReadyH.cons rfl (fun K hK => ?_) AllReadyH.nil
        go_simp
        go_at_call 22
        refine (rwrite_row dt Dt hdt HDdt.out _).mono ?_
        rintro e wq7125 ⟨gq7125, cq7125, rfl, hpdq7125, hbc⟩
        have hbq7125 := (hbq712).trans (hbc.mono hzq712)
        have hzq7125 := Nat.le_trans hzq712 hbc.size
        have hoq7125 := ownsRow_below (hoq712) hbc (Nat.le_refl _)
        have hpzq7125 := Sl.below hpzq712 hbc (Nat.le_refl _)
        clear hbc
        go_wp2_with fail
        refine hK.out _ _ (by (try dsimp only); exact HKEEP.out _ (by first | assumption | exact HDR.out)) (fun hHeld => ?_)
        clear hK K
        try simp only [Act.put, List.getElem_toArray, List.getElem_cons_succ, List.getElem_cons_zero, List.setIfInBounds_toArray, List.set_cons_succ, List.set_cons_zero]
        refine wpAnyH_ready (rs := [6]) (by kernel_rfl) (by simp) ?_
        refine AllReadyH.cons rfl (fun K hK => ?_) AllReadyH.nil
        refine step_append_bytes (by rfl) (.tmp 35) (.tmp 38) (by rfl) B0 _ N1 _ (by rfl) hoq7125 (some ⟨gq7125, 0, none⟩) Dt _ (Num.dig dt) (by rfl) hpdq7125 N2 (by omega) (by omega) hzq7125 ?_
        intro aq71256 cq71256 wq71256 hoq71256 hbc hgq71256
        have hbq71256 := (hbq7125).trans hbc
        have hzq71256 := Nat.le_trans hzq7125 hbc.size
        have hdq71256 := head_app hdq712 (Num.dig dt)
        have hpzq71256 := Sl.grown hpzq7125 hgq71256 (apart_of hoq7125 hdq712 hpzq7125 (by decide))
        clear hbc hgq71256
        refine hK.out _ _ (by (try dsimp only); exact HKEEP.out _ (by first | assumption | exact HDR.out)) (fun hHeld => ?_)
        clear hK K
        try simp only [Act.put, List.getElem_toArray, List.getElem_cons_succ, List.getElem_cons_zero, List.setIfInBounds_toArray, List.set_cons_succ, List.set_cons_zero]
        refine wpAnyH_ready (rs := [8]) (by kernel_rfl) (by simp) ?_
        refine AllReadyH.cons rfl (fun K hK => ?_) AllReadyH.nil
        refine step_append_bytes (by rfl) (.tmp 39) (.tmp 40) (by rfl) B0 _ N2 _ (by rfl) hoq71256 (some ⟨gq7, 0, none⟩) 1 _ [10] (by rfl) hpzq71256 N3 (by omega) (by omega) hzq71256 ?_
        intro aq712568 cq712568 wq712568 hoq712568 hbc hgq712568
        have hbq712568 := (hbq71256).trans hbc
        have hzq712568 := Nat.le_trans hzq71256 hbc.size
        have hdq712568 := head_app hdq71256 [10]
        clear hbc hgq712568
        refine hK.out _ _ (by (try dsimp only); exact HKEEP.out _ (by first | assumption | exact HDR.out)) (fun hHeld => ?_)
        clear hK K
        try simp only [Act.put, List.getElem_toArray, List.getElem_cons_succ, List.getElem_cons_zero, List.setIfInBounds_toArray, List.set_cons_succ, List.set_cons_zero]
        refine wpAnyH_take (i := 9) (v := ?vr7322) rfl (by kernel_rfl) (by kernel_rfl) (by kernel_rfl) (fun _ _ _ h => h) (Or.inl ⟨by rfl, ?hr7322⟩) (by assumption) ?rr7322
        case hr7322 => intro w hSw; (try dsimp only at hSw); go_simp; try with_reducible rfl
        simp only [Act.put, List.getElem_toArray, List.getElem_cons_succ, List.getElem_cons_zero, List.setIfInBounds_toArray, List.set_cons_succ, List.set_cons_zero]
        refine wpAnyH_done (by kernel_rfl) ?_ _
        go_wp2_with fail
        go_meet
        case rel => exact ⟨_, _, rfl, by first | assumption | (simp only [List.append_assoc] at *; assumption), by assumption⟩
  
    case rest =>
    obtain ⟨w8a, w8c, rfl, HOw8, HBb⟩ := hcut
    obtain ⟨w8, hw8⟩ : ∃ W, W = wc := ⟨_, rfl⟩
    subst hw8
    have HBw8 : Hid (Below B0 w1 w8) := HBw7.out.trans HBb.out
    have HHDn : Hid ((((([66, 65, 83, 69, 32] ++ Num.dig dm) ++ [32] ++ Num.dig dl) ++ [32] ++ Num.dig do_) ++ [32] ++ Num.dig dt ++ [10]).getD 0 0 = 66) := head_app (head_app (head_app HHD.out _) _) _
    obtain ⟨M8, hM8⟩ : ∃ q, q = N3 := ⟨_, rfl⟩
    rw [← hM8] at HOw8 ⊢
    have hM8' : M8 ≤ 100 := by omega
    clear hM8 hN17 hN27 hN37 HBb HHD HKEEP HDR N1 N2 N3
    clear hM7' hM6' hM5
    have HOUT : Hid (File.write cc = out) := by show _ = _; rw [← HO.out]; rfl
    have hck := File.check_parts HOK.out
    have HFIT : Hid (∀ r ∈ cc.rules, Spec.fit r = true) := hck.2.2.1
    have hn200 : n ≤ 200 := by rw [← HNL.out]; exact hck.2.1
    have HO8 : Hid (w8.ownsRow B0 5 1 (.slice w8a M8 w8c) M8 (u8s (writeUp cc 0))) := by
      have h := HOw8.out
      rw [← HBASE.out] at h
      exact h
    have HL8 : Hid ((writeUp cc 0).length = M8) := by have h := HO8.out.1; unfold u8s at h; rw [List.length_map] at h; show _ = _; omega
    clear hck HOw8 HBASE HHDn
    go_wp2
    go_loopw [5, 6] (fun lv ix wr => ∃ (i N : Nat) (a1 : Option Addr) (c1 : Nat), i ≤ n ∧ ix = .int .i64 (i : Int) ∧ lv = .slice a1 N c1 ∧ N ≤ 200 + i * 1001 ∧ Hid ((writeUp cc i).length = N) ∧ Hid (wr.ownsRow B0 5 1 (.slice a1 N c1) N (u8s (writeUp cc i))) ∧ Hid (Below B0 w1 wr)) (fun _ ix _ => n - (intOf ix).toNat)
    case atStart => exact ⟨0, M8, w8a, w8c, Nat.zero_le _, rfl, rfl, by omega, HL8.out, HO8.out, HBw8.out⟩
    case round =>
      obtain ⟨i, N, a1, c1, hi, rfl, rfl, hN, HLN, HOW, HBW⟩ := hrel
      have hk4 : wr.cell? ⟨w.heap.size, 4, none⟩ = some (.slice a n cap) := HCELL.out 4 _ rfl wr HBW.out
      have HBF : Hid (Below w.heap.size w wr) := HB1.out.trans (HBW.out.mono (by omega))
      by_cases hlt : i < n
      · obtain ⟨b1, o1, la, ln, lc, LL, ra, rn, rc, RR, C, rfl, hb1, hx1, hx2, hx3, hsl, hsr, hC0, hC1, hz1⟩ := HC.out.1.one i hlt
        have hB : Below w.heap.size w wr := HBF.out
        have hx1' : wr.cell? ⟨b1, o1 + i * 3, none⟩ = some (.slice la ln lc) := by rw [hB.cell (p := ⟨b1, o1 + i * 3, none⟩) hb1]; exact hx1
        have hx2' : wr.cell? ⟨b1, o1 + i * 3 + 1, none⟩ = some (.slice ra rn rc) := by rw [hB.cell (p := ⟨b1, o1 + i * 3 + 1, none⟩) hb1]; exact hx2
        have hx3' : wr.cell? ⟨b1, o1 + i * 3 + 2, none⟩ = some (.int .u64 C) := by rw [hB.cell (p := ⟨b1, o1 + i * 3 + 2, none⟩) hb1]; exact hx3
        have HGX : Hid ((⟨la, ln, lc, LL, ra, rn, rc, RR, C⟩ : Rw).Good wr) := Rw.Good.below (w := w) ⟨hsl, hsr, hC0, hC1⟩ hB (Nat.le_refl _)
        have hget : cc.rules.getD i Rul.no = ⟨LL, RR, C⟩ := by rw [HRL.out, ruls_at, hz1]; rfl
        have hil : i < cc.rules.length := by rw [HNL.out]; exact hlt
        have hfit : Spec.fit ⟨LL, RR, C⟩ = true := by
          refine HFIT.out _ ?_
          rw [← hget, List.getD_eq_getElem?_getD, List.getElem?_eq_getElem hil, Option.getD_some]; exact List.getElem_mem _
        have hsh := fit_short hfit
        have HLL : Hid (LL.length ≤ 1000 ∧ RR.length ≤ 1000) := ⟨by have : LL.length ≤ 8 := hsh.1; omega, by have : RR.length ≤ 8 := hsh.2; omega⟩
        obtain ⟨sw, hsw⟩ : ∃ q, Spec.write ⟨LL, RR, C⟩ = q := ⟨_, rfl⟩
        have hwln : sw.length ≤ 1000 := by rw [← hsw]; exact write_len (r := ⟨LL, RR, C⟩) (by have : LL.length ≤ 8 := hsh.1; show LL.length ≤ 100; omega) (by have : RR.length ≤ 8 := hsh.2; show RR.length ≤ 100; omega) hC0 hC1
        have HSW := Lib.hid hsw
        have HNX : Hid (writeUp cc (i + 1) = writeUp cc i ++ sw ++ [10]) := by show _ = _; rw [← hsw]; exact writeUp_next hil hget
        have HFX := Lib.hid hfit
        have hlti : (i : Int) < (n : Int) := by omega
        have HZW : Hid (B0 ≤ wr.heap.size) := Nat.le_trans HZB.out HBW.out.size
        obtain ⟨S, hS⟩ : ∃ q, sw.length = q := ⟨_, rfl⟩
        rw [hS] at hwln
        have HSL := Lib.hid hS
        obtain ⟨N1, hN1⟩ : ∃ q, N + S = q := ⟨_, rfl⟩
        obtain ⟨N2, hN2⟩ : ∃ q, N1 + 1 = q := ⟨_, rfl⟩
        clear hsl hsr hz1 hx1 hx2 hx3 hB hget hil hfit hsh hsw hS
        go_wp2_with fail
        refine (rwrite7_is ⟨la, ln, lc, LL, ra, rn, rc, RR, C⟩ true sw 0 _ HGX.out HLL.out HFX.out (by rw [if_pos rfl]; exact HSW.out) (by simp)).mono ?_
        rintro e w4 ⟨a4, n4, c4, rfl, hn4, hs4, -, hb4⟩
        rw [HSL.out] at hn4
        subst hn4
        have HS4 := Lib.hid hs4
        have HO4 := Lib.hid (ownsRow_below HOW.out hb4 (Nat.le_refl _))
        have HB4 : Hid (Below B0 w1 w4) := HBW.out.trans (hb4.mono HZW.out)
        have HZ4 : Hid (B0 ≤ w4.heap.size) := Nat.le_trans HZB.out HB4.out.size
        clear hs4 hb4 hk4
        go_wp2_with first
          | (at_builtin; refine append_bytes (by rfl) (.tmp 58) (.tmp 59) (by rfl) B0 _ N (writeUp cc i) (by rfl) HO4.out a4 n4 c4 sw (by rfl) HS4.out N1 hN1 (by omega) HZ4.out ?_
             intro a5' c5' w5' hown5 hb5 hnil5
             have HO5' := Lib.hid hown5
             have HB5' : Hid (Below B0 w1 w5') := HB4.out.trans hb5
             have HZ5' : Hid (B0 ≤ w5'.heap.size) := Nat.le_trans HZB.out HB5'.out.size
             clear hown5 hb5 hnil5)
          | (at_builtin; refine append_bytes (by rfl) (.tmp 60) (.tmp 61) (by rfl) B0 _ N1 (writeUp cc i ++ sw) (by rfl) (HO5'.out.alloc _) (some ⟨w5'.heap.size, 0, none⟩) 1 1 [10] (by rfl) (Sl.newB [10] (by decide) (by unfold maxLen; simp) rfl rfl rfl) N2 hN2 (by omega) (le_alloc HZ5'.out _) ?_
             intro a6 c6 w6 hown6 hb6 hnil6
             have HO6 := Lib.hid hown6
             have HB6 : Hid (Below B0 w1 w6) := (HB5'.out.alloc HZ5'.out _).trans hb6
             clear hown6 hb6 hnil6)
        go_roundw
        case rel =>
          refine ⟨i + 1, N2, a6, c6, by omega, by go_num, rfl, by omega, ?_, ?_, HB6.out⟩
          · show _ = _
            rw [HNX.out]
            have h1 := HLN.out
            have h2 := HSL.out
            simp only [List.length_append, List.length_cons, List.length_nil]
            omega
          · show World.ownsRow _ _ _ _ _ _ _
            rw [HNX.out]; exact HO6.out
        case measure => simp [intOf]; omega
      · obtain rfl : n = i := by omega
        have hall : writeUp cc n = out := by rw [← HOUT.out, ← writeUp_all, HNL.out]
        have hs6 : Sl .u8 wr a1 N c1 (writeUp cc n) := Sl.of_owns (k := .u8) HOW.out (by rw [hall, ← HOUT.out]; exact fwrite_wf HFIT.out) HLN.out
        rw [hall] at hs6
        have HS6 := Lib.hid hs6
        have HNE : Hid (out.length = N) := by rw [← hall]; exact HLN.out
        clear hs6 hall
        go_wp2
        go_ret2
        exact ⟨a1, N, c1, rfl, HNE.out.symm, HS6.out, HBF.out⟩

end Go.Proofs.YtjmabjeaodojeaaGreat
