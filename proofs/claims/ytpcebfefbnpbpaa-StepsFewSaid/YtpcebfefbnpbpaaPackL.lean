import Derived.Test.YtpcebfefbnpbpaaPackC
import Derived.Test.YtpcebfefbnpbpaaRuleNormW
import Derived.Test.YtpcebfefbnpbpaaPackI
import Derived.Test.YtpcebfefbnpbpaaPackA
import Derived.Test.YtpcebfefbnpbpaaPackB
set_option linter.all false
set_option maxRecDepth 100000
set_option maxHeartbeats 12800000
namespace Go.Proofs.Ytpcebfefbnpbpaa
section
open Go.RowKit

theorem fallFit_is (a : Option Addr) (n cap : Nat) (xs : List Rw) (ok : Bool) (w : World) (hs : Rs w a n cap xs) (hok : (ruls xs).all Spec.fit = ok) :
    Calls Try.prog 24 #[.slice a n cap] w fun e w' => e = .returned (.bool ok) ∧ Below w.heap.size w w' := by
  have hnc := hs.2.1
  have hcm := hs.2.2.1
  unfold maxLen at hcm
  have HS := Lib.hid hs
  have HXN := Lib.hid hs.1
  have HOK := Lib.hid hok
  clear hs hok
  go_enter Try.func24, Try.ntmps24
  go_wp2
  go_loopw [7] (fun ix wr => ∃ j : Nat, j ≤ n ∧ ix = .int .i64 (j : Int) ∧ Hid (((ruls xs).take j).all Spec.fit = true) ∧ Hid (Below w.heap.size w wr)) (fun ix _ => n - (intOf ix).toNat)
  case atStart => exact ⟨0, Nat.zero_le _, rfl, by first | rfl | trivial, Below.refl _ _⟩
  case round =>
    obtain ⟨j, hj, rfl, HALL, HBW⟩ := hrel
    by_cases hlt : j < n
    · obtain ⟨b1, o1, la, ln, lc, LL, ra, rn, rc, RR, C, rfl, hb1, hx1, hx2, hx3, hsl, hsr, hC0, hC1, hz1⟩ := HS.out.one j hlt
      have hB := HBW.out
      have hx1' : wr.cell? ⟨b1, o1 + j * 3, none⟩ = some (.slice la ln lc) := by rw [hB.cell (p := ⟨b1, o1 + j * 3, none⟩) hb1]; exact hx1
      have hx2' : wr.cell? ⟨b1, o1 + j * 3 + 1, none⟩ = some (.slice ra rn rc) := by rw [hB.cell (p := ⟨b1, o1 + j * 3 + 1, none⟩) hb1]; exact hx2
      have hx3' : wr.cell? ⟨b1, o1 + j * 3 + 2, none⟩ = some (.int .u64 C) := by rw [hB.cell (p := ⟨b1, o1 + j * 3 + 2, none⟩) hb1]; exact hx3
      have HGX : Hid ((⟨la, ln, lc, LL, ra, rn, rc, RR, C⟩ : Rw).Good wr) := Rw.Good.below (w := w) ⟨hsl, hsr, hC0, hC1⟩ hB (Nat.le_refl _)
      have HT : Hid ((ruls xs).take (j + 1) = (ruls xs).take j ++ [⟨LL, RR, C⟩]) := all_ruls (by rw [HXN.out]; exact hlt) (by rw [hz1]; rfl)
      have HJ : Hid (j < (ruls xs).length) := by show j < _; rw [ruls_length, HXN.out]; exact hlt
      have hlti : (j : Int) < (n : Int) := by omega
      have HBS : Hid (w.heap.size ≤ wr.heap.size) := hB.size
      obtain ⟨q, hq⟩ : ∃ b, Spec.fit ⟨LL, RR, C⟩ = b := ⟨_, rfl⟩
      have HQ := Lib.hid hq
      clear hsl hsr hz1 hq hx1 hx2 hx3 hB
      go_wp2_with fail
      refine (fit7_is ⟨la, ln, lc, LL, ra, rn, rc, RR, C⟩ q _ (HGX.out.alloc _) HQ.out).mono ?_
      rintro e w1 ⟨rfl, hb1w⟩
      have HB1 : Hid (Below w.heap.size w w1) := (HBW.out.alloc HBS.out _).trans (hb1w.mono (by simp; have := HBS.out; omega))
      clear hb1w
      cases q
      · obtain rfl : ok = false := by
          rw [← HOK.out, List.all_eq_false]
          refine ⟨⟨LL, RR, C⟩, ?_, by rw [HQ.out]; decide⟩
          have : (⟨LL, RR, C⟩ : Rul) ∈ (ruls xs).take (j + 1) := by rw [HT.out]; simp
          exact List.mem_of_mem_take this
        go_wp2
        go_ret
        exact ⟨rfl, HB1.out⟩
      · go_wp2
        go_roundw
        case rel =>
          refine ⟨j + 1, by omega, by go_num, ?_, HB1.out⟩
          show _ = _
          rw [HT.out, List.all_append, HALL.out]; simp [HQ.out]
        case measure => simp [intOf]; omega
    · obtain rfl : j = n := by omega
      obtain rfl : ok = true := by
        rw [← HOK.out, ← HALL.out, List.take_of_length_le (by rw [ruls_length, HXN.out]; exact Nat.le_refl _)]
      go_wp2
      go_ret
      exact ⟨rfl, HBW.out⟩

theorem uindex_is (a : Option Addr) (n cap : Nat) (l : List Int) (x : Int) (w : World) (hs : Sl .u64 w a n cap l) :
    Calls Try.prog 30 #[.slice a n cap, .int .u64 x] w fun e w' => ∃ r : Int, e = .returned (.int .i64 r) ∧ Hid (decide (0 ≤ r) = l.any fun y => decide (x = y)) ∧ w = w' := by
  have hnc := hs.2.1
  have hcm := hs.2.2.1
  unfold maxLen at hcm
  have HS := Lib.hid hs
  have HL := Lib.hid hs.1
  clear hs
  go_enter Try.func30, Try.ntmps30
  go_wp2
  go_loopw [8] (fun ix wr => ∃ i : Nat, i ≤ n ∧ ix = .int .i64 (i : Int) ∧ Hid (∀ z ∈ l.take i, x ≠ z) ∧ wr = w) (fun ix _ => n - (intOf ix).toNat)
  case atStart => exact ⟨0, Nat.zero_le _, rfl, by first | trivial | (intro z hz; simp at hz), rfl⟩
  case round =>
    obtain ⟨i, hi, rfl, HT, rfl⟩ := hrel
    by_cases hlt : i < n
    · have hlti : (i : Int) < (n : Int) := by omega
      obtain ⟨b1, o1, rfl, hb1, hc1⟩ := HS.out.at (by omega)
      obtain ⟨y, hy⟩ : ∃ y, y = l.getD i 0 := ⟨_, rfl⟩
      have hx1 := hc1 i hlt
      rw [← hy] at hx1
      have hyl : l[i]'(by rw [HL.out]; exact hlt) = y := by
        rw [hy, List.getD_eq_getElem?_getD, List.getElem?_eq_getElem (by rw [HL.out]; exact hlt), Option.getD_some]
      have HY := Lib.hid hyl
      clear hc1 hy hb1 hyl
      by_cases h : x = y
      · have hb : (x == y) = true := by simpa using h
        have HA : Hid (l.any (fun y => decide (x = y)) = true) := by
          show _ = _
          rw [List.any_eq_true]
          exact ⟨y, by rw [← HY.out]; exact List.getElem_mem _, by simpa using h⟩
        clear h
        go_wp2
        go_ret
        exact ⟨(i : Int), rfl, by show _ = _; rw [HA.out]; simp, rfl⟩
      · have hb : (x == y) = false := by simpa using h
        have HN := Lib.hid h
        clear h
        go_wp2
        go_roundw
        case rel =>
          refine ⟨i + 1, by omega, by go_num, ?_, by first | rfl | trivial⟩
          intro z hz
          rw [List.take_succ_eq_append_getElem (by rw [HL.out]; exact hlt)] at hz
          rcases List.mem_append.1 hz with hz | hz
          · exact HT.out z hz
          · rw [List.mem_singleton.1 hz, HY.out]; exact HN.out
        case measure => simp [intOf]; omega
    · obtain rfl : i = n := by omega
      have HA : Hid (l.any (fun y => decide (x = y)) = false) := by
        show _ = _
        rw [List.any_eq_false]
        intro z hz
        have := HT.out z (by rw [List.take_of_length_le (by rw [HL.out]; exact Nat.le_refl _)]; exact hz)
        simpa using this
      go_wp2
      go_ret
      exact ⟨-1, rfl, by show _ = _; rw [HA.out]; rfl, rfl⟩

theorem ucontains_is (a : Option Addr) (n cap : Nat) (l : List Int) (x : Int) (r : Bool) (w : World) (hs : Sl .u64 w a n cap l) (hr : (l.any fun y => decide (x = y)) = r) :
    Calls Try.prog 22 #[.slice a n cap, .int .u64 x] w fun e w' => e = .returned (.bool r) ∧ w = w' := by
  have HR := Lib.hid hr
  have HS := Lib.hid hs
  clear hr hs
  go_enter Try.func22, Try.ntmps22
  go_wp2_with fail
  refine (uindex_is a n cap l x w HS.out).mono ?_
  rintro e w1 ⟨k, rfl, hk, rfl⟩
  have hkr : decide (k ≥ 0) = r := by rw [← HR.out, ← hk.out]
  clear hk
  go_wp2
  go_ret
  exact ⟨by first | rfl | (rw [← hkr]) | (simp [hkr]), rfl⟩


theorem sameSides_is (x y : Rw) (r : Bool) (w : World) (hx : x.Good w) (hy : y.Good w) (hr : decide (x.r.like y.r) = r) :
    Calls Try.prog 48 #[x.v, y.v] w fun e w' => e = .returned (.bool r) ∧ Below w.heap.size w w' := by
  obtain ⟨la, ln, lc, L, ra, rn, rc, R, C⟩ := x
  obtain ⟨la', ln', lc', L', ra', rn', rc', R', C'⟩ := y
  obtain ⟨hl, hrr, h0, h1⟩ := hx
  obtain ⟨hl', hrr', h0', h1'⟩ := hy
  have HL := Lib.hid hl
  have HRR := Lib.hid hrr
  have HL' := Lib.hid hl'
  have HRR' := Lib.hid hrr'
  have HW : ∀ (o o' : Obj) (q : Nat), Hid (Below w.heap.size w (((w.alloc o).alloc o').drewN q)) := fun o o' q => by
    show Below _ _ _
    have e : ((w.alloc o).alloc o').drewN q = Go.Sort.grow (w.drewN q) #[o, o'] := by rw [Go.Sort.alloc_eq_grow, Go.Sort.alloc_eq_grow, Go.Sort.grow_grow]; rfl
    rw [e]; exact grow_below (Nat.le_refl _) _ _
  clear hl hrr hl' hrr'
  simp only [Rw.v, Rw.l, Rw.rt, Rw.c]
  have hr' : (decide (L = L') && decide (R = R')) = r := by
    rw [← hr]; show _ = decide (L = L' ∧ R = R'); simp
  clear hr
  obtain ⟨d1, hd1⟩ : ∃ d, decide (L = L') = d := ⟨_, rfl⟩
  obtain ⟨d2, hd2⟩ : ∃ d, decide (R = R') = d := ⟨_, rfl⟩
  rw [hd1, hd2] at hr'
  have HD1 := Lib.hid hd1
  have HD2 := Lib.hid hd2
  have HR := Lib.hid hr'
  clear hd1 hd2 hr'
  go_enter Try.func48, Try.ntmps48
  go_wp2_with fail
  refine (sleq_is _ _ _ _ _ _ L L' d1 _ ((HL.out.alloc _).alloc _) ((HL'.out.alloc _).alloc _) HD1.out).mono ?_
  rintro e w1 ⟨rfl, q1, rfl⟩
  cases d1
  · go_wp2
    go_ret
    exact ⟨by rw [← HR.out]; rfl, (HW _ _ _).out⟩
  · go_wp2_with fail
    refine (sleq_is _ _ _ _ _ _ R R' d2 _ (HRR.out.two _ _ _) (HRR'.out.two _ _ _) HD2.out).mono ?_
    rintro e w1 ⟨rfl, q2, rfl⟩
    go_wp2
    go_ret
    exact ⟨by rw [← HR.out]; rfl, (HW _ _ _).out⟩

/-- two boxes of rules, and what a call leaves of them -/
theorem boxes_kept {w w1 : World} {x y : Rw} {o o' : Obj} (ho : o = .cells #[x.l, x.rt, x.c] 41 (0, 0)) (ho' : o' = .cells #[y.l, y.rt, y.c] 41 (0, 0)) (hb : Below ((w.alloc o).alloc o').heap.size ((w.alloc o).alloc o') w1) :
    RwAt w1 w.heap.size 0 x ∧ RwAt w1 (w.heap.size + 1) 0 y ∧ Below w.heap.size w w1 := by
  subst ho ho'
  have e1 : ∀ o, (w.alloc o).heap.size = w.heap.size + 1 := fun o => World.size_alloc w o
  refine ⟨(((RwAt.new w x _).alloc _).below hb (Nat.le_refl _)), ?_, ?_⟩
  · have := RwAt.new (w.alloc (.cells #[x.l, x.rt, x.c] 41 (0, 0))) y 41
    rw [e1] at this
    exact this.below hb (Nat.le_refl _)
  · refine (((Below.refl _ w).alloc (Nat.le_refl _) _).alloc (by rw [e1]; omega) _).trans (hb.mono ?_)
    rw [World.size_alloc, e1]; omega

theorem same8_is (x y : Rw) (r : Bool) (w : World) (hx : x.Good w) (hy : y.Good w) (hr : decide (x.r = y.r) = r) :
    Calls Try.prog 34 #[x.v, y.v] w fun e w' => e = .returned (.bool r) ∧ Below w.heap.size w w' := by
  have hr' : (decide (x.r.like y.r) && decide (x.C = y.C)) = r := by
    rw [← hr]
    cases h1 : decide (x.r.like y.r) && decide (x.C = y.C) with
    | true =>
      simp only [Bool.and_eq_true, decide_eq_true_eq] at h1
      exact (decide_eq_true (Rul.ext' h1.1.1 h1.1.2 h1.2)).symm
    | false =>
      refine (decide_eq_false fun h => ?_).symm
      rw [Bool.and_eq_false_iff] at h1
      rcases h1 with h1 | h1
      · exact of_decide_eq_false h1 (by rw [h]; exact ⟨rfl, rfl⟩)
      · exact of_decide_eq_false h1 (congrArg Rul.C h)
  clear hr
  obtain ⟨d1, hd1⟩ : ∃ d, decide (x.r.like y.r) = d := ⟨_, rfl⟩
  rw [hd1] at hr'
  have HD1 := Lib.hid hd1
  have HR := Lib.hid hr'
  have HX := Lib.hid hx
  have HY := Lib.hid hy
  clear hd1 hr' hx hy
  simp only [Rw.v] at *
  go_enter Try.func34, Try.ntmps34
  go_wp2_with fail
  refine (sameSides_is x y d1 _ ((HX.out.alloc _).alloc _) ((HY.out.alloc _).alloc _) HD1.out).mono ?_
  rintro e w1 ⟨rfl, hb1⟩
  obtain ⟨⟨hx1, hx2, hx3⟩, ⟨hy1, hy2, hy3⟩, hb⟩ := boxes_kept rfl rfl hb1
  have HB := Lib.hid hb
  clear hb1 hb
  cases d1
  · go_wp2
    go_ret
    exact ⟨by rw [← HR.out]; rfl, HB.out⟩
  · have HR2 : Hid (decide (x.C = y.C) = r) := by show _ = _; rw [← HR.out]; simp
    simp only [Rw.c] at hx3 hy3
    have hxy : (x.C == y.C) = r := by rw [← HR2.out]; rfl
    go_wp2
    go_ret
    exact ⟨by first | rfl | (rw [hxy]), HB.out⟩

theorem take_eqR {xs ys : List Rul} {j : Nat} (h : xs.take j = ys.take j) (h1 : j < xs.length) (h2 : j < ys.length) (he : xs.getD j Rul.no = ys.getD j Rul.no) : xs.take (j + 1) = ys.take (j + 1) := by
  rw [List.take_succ_eq_append_getElem h1, List.take_succ_eq_append_getElem h2, h]
  congr 2
  rw [List.getD_eq_getElem?_getD, List.getElem?_eq_getElem h1, List.getD_eq_getElem?_getD, List.getElem?_eq_getElem h2] at he
  exact he

theorem equalFunc_is (a b : Option Addr) (n m cap cap2 : Nat) (xs ys : List Rw) (r : Bool) (w : World) (ha : Rs w a n cap xs) (hb : Rs w b m cap2 ys) (hr : decide (ruls xs = ruls ys) = r) :
    Calls Try.prog 32 #[.slice a n cap, .slice b m cap2, .func (.func 34) #[] #[]] w fun e w' => e = .returned (.bool r) ∧ Below w.heap.size w w' := by
  have hnc := ha.2.1
  have hcm := ha.2.2.1
  unfold maxLen at hcm
  have hmc := hb.2.1
  have hcm2 := hb.2.2.1
  unfold maxLen at hcm2
  have HXL : Hid ((ruls xs).length = n) := by show _ = _; rw [ruls_length, ha.1]
  have HYL : Hid ((ruls ys).length = m) := by show _ = _; rw [ruls_length, hb.1]
  have HA := Lib.hid ha
  have HB := Lib.hid hb
  have HR := Lib.hid hr
  have eg : ∀ args w, (callFunc 34 args).run Try.prog w = .ok (.enter 34 args) w := enters_of Try.func34 (by kernel_rfl) rfl
  clear ha hb hr
  by_cases hnm : n = m
  · subst hnm
    go_enter Try.func32, Try.ntmps32
    go_wp2
    go_loopw [17] (fun ix wr => ∃ j : Nat, j ≤ n ∧ ix = .int .i64 (j : Int) ∧ Hid ((ruls xs).take j = (ruls ys).take j) ∧ Hid (Below w.heap.size w wr)) (fun ix _ => n - (intOf ix).toNat)
    case atStart => exact ⟨0, Nat.zero_le _, rfl, rfl, Below.refl _ _⟩
    case round =>
      obtain ⟨j, hj, rfl, HT, HBW⟩ := hrel
      by_cases hlt : j < n
      · obtain ⟨b1, o1, la, ln, lc, LL, ra, rn, rc, RR, C, rfl, hb1, hx1, hx2, hx3, hsl, hsr, hC0, hC1, hz1⟩ := HA.out.one j hlt
        obtain ⟨b2, o2, la', ln', lc', LL', ra', rn', rc', RR', C', rfl, hb2, hy1, hy2, hy3, hsl', hsr', hC0', hC1', hz2⟩ := HB.out.one j hlt
        have hB := HBW.out
        have hx1' : wr.cell? ⟨b1, o1 + j * 3, none⟩ = some (.slice la ln lc) := by rw [hB.cell (p := ⟨b1, o1 + j * 3, none⟩) hb1]; exact hx1
        have hx2' : wr.cell? ⟨b1, o1 + j * 3 + 1, none⟩ = some (.slice ra rn rc) := by rw [hB.cell (p := ⟨b1, o1 + j * 3 + 1, none⟩) hb1]; exact hx2
        have hx3' : wr.cell? ⟨b1, o1 + j * 3 + 2, none⟩ = some (.int .u64 C) := by rw [hB.cell (p := ⟨b1, o1 + j * 3 + 2, none⟩) hb1]; exact hx3
        have hy1' : wr.cell? ⟨b2, o2 + j * 3, none⟩ = some (.slice la' ln' lc') := by rw [hB.cell (p := ⟨b2, o2 + j * 3, none⟩) hb2]; exact hy1
        have hy2' : wr.cell? ⟨b2, o2 + j * 3 + 1, none⟩ = some (.slice ra' rn' rc') := by rw [hB.cell (p := ⟨b2, o2 + j * 3 + 1, none⟩) hb2]; exact hy2
        have hy3' : wr.cell? ⟨b2, o2 + j * 3 + 2, none⟩ = some (.int .u64 C') := by rw [hB.cell (p := ⟨b2, o2 + j * 3 + 2, none⟩) hb2]; exact hy3
        have hwl : w.heap.size ≤ wr.heap.size := hB.size
        have hb1r : b1 < wr.heap.size := Nat.lt_of_lt_of_le hb1 hwl
        have hb2r : b2 < wr.heap.size := Nat.lt_of_lt_of_le hb2 hwl
        have HGX : Hid ((⟨la, ln, lc, LL, ra, rn, rc, RR, C⟩ : Rw).Good wr) := Rw.Good.below (w := w) ⟨hsl, hsr, hC0, hC1⟩ hB (Nat.le_refl _)
        have HGY : Hid ((⟨la', ln', lc', LL', ra', rn', rc', RR', C'⟩ : Rw).Good wr) := Rw.Good.below (w := w) ⟨hsl', hsr', hC0', hC1'⟩ hB (Nat.le_refl _)
        have HZX : Hid ((ruls xs).getD j Rul.no = ⟨LL, RR, C⟩) := by show _ = _; rw [ruls_at, hz1]; rfl
        have HZY : Hid ((ruls ys).getD j Rul.no = ⟨LL', RR', C'⟩) := by show _ = _; rw [ruls_at, hz2]; rfl
        have hlti : (j : Int) < (n : Int) := by omega
        obtain ⟨q, hq⟩ : ∃ q, decide ((⟨LL, RR, C⟩ : Rul) = ⟨LL', RR', C'⟩) = q := ⟨_, rfl⟩
        have HQ := Lib.hid hq
        have HWL := Lib.hid hwl
        have HBA : ∀ o o', Hid (Below w.heap.size w ((wr.alloc o).alloc o') ∧ ((wr.alloc o).alloc o').heap.size = wr.heap.size + 2) := fun o o' => ⟨(HBW.out.alloc hwl o).alloc (by rw [World.size_alloc]; omega) o', by rw [World.size_alloc, World.size_alloc]⟩
        clear hsl hsr hsl' hsr' hz1 hz2 hq hx1 hx2 hx3 hy1 hy2 hy3 hB hwl
        go_wp2_with fail
        refine (same8_is ⟨la, ln, lc, LL, ra, rn, rc, RR, C⟩ ⟨la', ln', lc', LL', ra', rn', rc', RR', C'⟩ q _ ((HGX.out.alloc _).alloc _) ((HGY.out.alloc _).alloc _) HQ.out).mono ?_
        rintro e w1 ⟨rfl, hb1w⟩
        have HB1 : Hid (Below w.heap.size w w1) := (HBA _ _).out.1.trans (hb1w.mono (by rw [(HBA _ _).out.2]; have := HWL.out; omega))
        clear hb1w
        cases q
        · obtain rfl : r = false := by
            rw [← HR.out]
            refine decide_eq_false fun h => ?_
            have h1 := HZX.out
            rw [h, HZY.out] at h1
            exact of_decide_eq_false HQ.out h1.symm
          go_wp2
          go_ret
          exact ⟨rfl, HB1.out⟩
        · go_wp2
          go_roundw
          case rel =>
            refine ⟨j + 1, by omega, by go_num, ?_, HB1.out⟩
            exact take_eqR HT.out (by rw [HXL.out]; exact hlt) (by rw [HYL.out]; exact hlt) (by rw [HZX.out, HZY.out]; exact of_decide_eq_true HQ.out)
          case measure => simp [intOf]; omega
      · obtain rfl : j = n := by omega
        obtain rfl : r = true := by
          rw [← HR.out]
          have h := HT.out
          rw [List.take_of_length_le (by rw [HXL.out]; exact Nat.le_refl _), List.take_of_length_le (by rw [HYL.out]; exact Nat.le_refl _)] at h
          exact decide_eq_true h
        go_wp2
        go_ret
        exact ⟨rfl, HBW.out⟩
  · have h1 : ((n : Int) == (m : Int)) = false := by simp; omega
    have h2 : ((n : Int) != (m : Int)) = true := by simp; omega
    obtain rfl : r = false := by
      rw [← HR.out]
      refine decide_eq_false fun h => hnm ?_
      rw [← HXL.out, ← HYL.out, h]
    clear hnm
    go_enter Try.func32, Try.ntmps32
    go_wp2
    go_ret
    exact ⟨rfl, Below.refl _ _⟩

theorem isNorm_is (a : Option Addr) (n cap : Nat) (xs : List Rw) (r : Bool) (w : World) (hs : Rs w a n cap xs) (hn : n ≤ 20000) (hr : decide (nrm (ruls xs) = ruls xs) = r) :
    Calls Try.prog 25 #[.slice a n cap] w fun e w' => e = .returned (.bool r) ∧ Below w.heap.size w w' := by
  have HS := Lib.hid hs
  have HR := Lib.hid hr
  clear hs hr
  go_enter Try.func25, Try.ntmps25
  go_wp2_with fail
  refine (norm_any a n cap xs w HS.out hn).mono ?_
  rintro e w1 ⟨a', n', c', outs, rfl, hrs, hru, hn', hnil, hb⟩
  have HRS := Lib.hid hrs
  have HRU := Lib.hid hru
  have HB := Lib.hid hb
  clear hrs hru hb hn' hnil
  go_wp2_with fail
  refine (equalFunc_is a' a n' n c' cap outs xs r w1 HRS.out (HS.out.below HB.out (Nat.le_refl _)) (by rw [HRU.out]; exact HR.out)).mono ?_
  rintro e w2 ⟨rfl, hb2⟩
  have HB2 : Hid (Below w.heap.size w w2) := HB.out.trans (hb2.mono HB.out.size)
  clear hb2
  go_wp2
  go_ret
  exact ⟨rfl, HB2.out⟩


end
section
open Go.RowKit

theorem Sl.lay_grown {k : IntKind} {w : World} {t : TypeId} {fr : Nat × Nat} {n : Nat} (zs : List Int) (hw : ∀ z ∈ zs, (Lit.int k z).wf = true) (hn : zs.length = n) (hm : n ≤ maxLen) (o : Obj) :
    Sl k ((w.alloc o).alloc (.cells (zs.map (Value.int k)).toArray t fr)) (some ⟨w.heap.size + 1, 0, none⟩) n n zs :=
  Sl.lay zs hw (by omega) (by rw [World.size_alloc]) hn hn

theorem baseSteps_is (c : Cw) (w : World) (hc : c.Good w) :
    Calls Try.prog 23 #[c.v] w fun e w' => ∃ g, e = .returned (.slice (some ⟨g, 0, none⟩) 4 4) ∧ Sl .u64 w' (some ⟨g, 0, none⟩) 4 4 c.base ∧ Below w.heap.size w w' := by
  have hw := Cw.base_wf hc
  obtain ⟨m, l, o, t, a, n, cap, xs⟩ := c
  have HE : ∀ ob : Obj, Hid (Sl .u64 ((w.alloc ob).alloc (.cells (([m, l, o, t] : List Int).map (Value.int .u64)).toArray 22 (0, 0))) (some ⟨w.heap.size + 1, 0, none⟩) 4 4 [m, l, o, t]) := fun ob => Sl.lay_grown [m, l, o, t] hw rfl (by simp [maxLen]) ob
  have HB : ∀ o o' : Obj, Hid (Below w.heap.size w ((w.alloc o).alloc o')) := fun o o' => ((Below.refl _ w).alloc (Nat.le_refl _) o).alloc (by rw [World.size_alloc]; omega) o'
  clear hc hw
  simp only [Cw.v, Cw.cells]
  go_enter Try.func23, Try.ntmps23
  go_wp2
  go_ret
  exact ⟨_, by first | rfl | simp, (HE _).out, (HB _ _).out⟩

theorem inf_any (c : Cw) : (c.base.any fun y => decide ((18446744073709551615 : Int) = y)) = !(c.base.all fun y => !decide ((18446744073709551615 : Int) = y)) := by
  simp [Cw.base]

theorem box5_kept {w w1 : World} {c : Cw} {o : Obj} (ho : o = .cells c.cells 25 (0, 0)) (hb : Below (w.alloc o).heap.size (w.alloc o) w1) :
    w1.heap[w.heap.size]? = some (.cells c.cells 25 (0, 0)) ∧ Below w.heap.size w w1 := by
  subst ho
  refine ⟨?_, ((Below.refl _ w).alloc (Nat.le_refl _) _).trans (hb.mono (by rw [World.size_alloc]; omega))⟩
  rw [hb.block _ (by rw [World.size_alloc]; omega)]
  exact heap_alloc_new w _

theorem fcheck_is (c : Cw) (r : Bool) (w : World) (hc : c.Good w) (hr : File.check c.c = r) :
    Calls Try.prog 15 #[c.v] w fun e w' => e = .returned (.bool r) ∧ Below w.heap.size w w' := by
  obtain ⟨d1, hd1⟩ : ∃ d, (c.base.any fun y => decide ((18446744073709551615 : Int) = y)) = d := ⟨_, rfl⟩
  obtain ⟨d3, hd3⟩ : ∃ d, (ruls c.xs).all Spec.fit = d := ⟨_, rfl⟩
  obtain ⟨d4, hd4⟩ : ∃ d, decide (nrm (ruls c.xs) = ruls c.xs) = d := ⟨_, rfl⟩
  have hb1 : (c.base.all fun x => decide (x < 18446744073709551615)) = !d1 := by
    rw [← hd1]
    have h := hc.2
    cases hx : c.base.all fun x => decide (x < 18446744073709551615) with
    | true =>
      have : (c.base.any fun y => decide ((18446744073709551615 : Int) = y)) = false := by
        rw [List.any_eq_false]
        intro z hz
        have := List.all_eq_true.1 hx z hz
        simp only [decide_eq_true_eq] at this ⊢
        omega
      rw [this]; rfl
    | false =>
      obtain ⟨z, hz, h1⟩ := List.all_eq_false.1 hx
      have : (c.base.any fun y => decide ((18446744073709551615 : Int) = y)) = true := by
        rw [List.any_eq_true]
        refine ⟨z, hz, ?_⟩
        have := h z hz
        simp only [decide_eq_true_eq] at h1 ⊢
        omega
      rw [this]; rfl
  have hl : (ruls c.xs).length = c.n := by rw [ruls_length, hc.1.1]
  have hr' : (!d1 && decide (c.n ≤ 200) && d3 && d4) = r := by
    rw [← hr]
    unfold File.check
    show _ = ((c.base.all fun x => decide (x < 18446744073709551615)) && decide ((ruls c.xs).length ≤ 200) && (ruls c.xs).all Spec.fit && decide (nrm (ruls c.xs) = ruls c.xs))
    rw [hb1, hd3, hd4, hl]
  have hcm := hc.1.2.1
  have hcm2 := hc.1.2.2.1
  unfold maxLen at hcm2
  have HD1 := Lib.hid hd1
  have HD3 := Lib.hid hd3
  have HD4 := Lib.hid hd4
  have HR := Lib.hid hr'
  have HC := Lib.hid hc
  clear hd1 hd3 hd4 hb1 hr' hr hl
  obtain ⟨m, l, o, t, a, n, cap, xs⟩ := c
  simp only [Cw.v, Cw.cells] at *
  have HT : ∀ ob, ob = Obj.cells #[Value.int .u64 m, Value.int .u64 l, Value.int .u64 o, Value.int .u64 t, Value.slice a n cap] 25 (0, 0) → ∀ w1, Below (w.alloc ob).heap.size (w.alloc ob) w1 → Hid (w1.heap[w.heap.size]? = some (.cells #[Value.int .u64 m, Value.int .u64 l, Value.int .u64 o, Value.int .u64 t, Value.slice a n cap] 25 (0, 0)) ∧ Below w.heap.size w w1) := fun ob hob w1 h => box5_kept (c := ⟨m, l, o, t, a, n, cap, xs⟩) hob h
  clear hc
  go_enter Try.func15, Try.ntmps15
  go_wp2_with fail
  refine (baseSteps_is ⟨m, l, o, t, a, n, cap, xs⟩ _ (HC.out.alloc _)).mono ?_
  rintro e w1 ⟨g, rfl, hg, hb1⟩
  have HG := Lib.hid hg
  obtain ⟨hh1, hbb1⟩ := (HT _ rfl _ hb1).out
  have hc4 : w1.cell? ⟨w.heap.size, 4, none⟩ = some (.slice a n cap) := by simp [World.cell?, hh1]
  have HB1 := Lib.hid hbb1
  clear hg hb1 hh1 hbb1
  go_wp2_with fail
  refine (ucontains_is (some ⟨g, 0, none⟩) 4 4 [m, l, o, t] 18446744073709551615 d1 w1 HG.out HD1.out).mono ?_
  rintro e w2 ⟨rfl, rfl⟩
  cases d1
  · by_cases h200 : n ≤ 200
    · have h200i : (n : Int) ≤ 200 := by omega
      have H200 : Hid (decide (n ≤ 200) = true) := decide_eq_true h200
      go_wp2_with fail
      refine (fallFit_is a n cap xs d3 w1 (HC.out.1.below HB1.out (Nat.le_refl _)) HD3.out).mono ?_
      rintro e w2 ⟨rfl, hb2⟩
      have hc4' : w2.cell? ⟨w.heap.size, 4, none⟩ = some (.slice a n cap) := by rw [hb2.cell (p := ⟨w.heap.size, 4, none⟩) (cell_lt hc4)]; exact hc4
      have HB2 : Hid (Below w.heap.size w w2) := HB1.out.trans (hb2.mono HB1.out.size)
      clear hb2 hc4
      cases d3
      · obtain rfl : r = false := by rw [← HR.out, H200.out]; rfl
        go_wp2
        go_ret
        exact ⟨rfl, HB2.out⟩
      · go_wp2_with fail
        refine (isNorm_is a n cap xs d4 w2 (HC.out.1.below HB2.out (Nat.le_refl _)) (by omega) HD4.out).mono ?_
        rintro e w3 ⟨rfl, hb3⟩
        have HB3 : Hid (Below w.heap.size w w3) := HB2.out.trans (hb3.mono HB2.out.size)
        clear hb3
        obtain rfl : r = d4 := by rw [← HR.out, H200.out]; rfl
        go_wp2
        go_ret
        exact ⟨rfl, HB3.out⟩
    · have h200i : ¬ (n : Int) ≤ 200 := by omega
      obtain rfl : r = false := by rw [← HR.out, decide_eq_false h200]; rfl
      go_wp2
      go_ret
      exact ⟨rfl, HB1.out⟩
  · obtain rfl : r = false := by rw [← HR.out]; rfl
    go_wp2
    go_ret
    exact ⟨rfl, HB1.out⟩

end
end Go.Proofs.Ytpcebfefbnpbpaa
