/- Used by the law. -/
import Derived.Test.YtjmabjeaodojeaaGreatPackB
import Derived.Test.YtjmabjeaodojeaaGreatPackM
import Derived.Sort.Grow
namespace Go.Proofs.YtjmabjeaodojeaaGreat
open Go.RowKit Go.Sort

def cmpR (a b : Rul) : Int := if lessR a b = true then -1 else if lessR b a = true then 1 else 0
set_option maxRecDepth 100000 in
theorem cmpR_lt (a b : Rul) : decide (cmpR a b < 0) = lessR a b := by
  unfold cmpR
  cases h : lessR a b
  · cases h' : lessR b a <;> simp
  · simp

theorem Sl.two {k : IntKind} {w : World} {a : Option Addr} {n cap : Nat} {zs : List Int} (h : Sl k w a n cap zs) (o o' : Obj) (q : Nat) : Sl k (((w.alloc o).alloc o').drewN q) a n cap zs := ((h.alloc o).alloc o').drewN q
theorem grow_below {B : Nat} {w : World} (hB : B ≤ w.heap.size) (q : Nat) (os : Array Obj) : Below B w (grow (w.drewN q) os) := by
  refine ⟨rfl, rfl, rfl, ?_, fun i hi => ?_⟩
  · show w.heap.size ≤ (w.heap ++ os).size
    simp
  · show (w.heap ++ os)[i]? = _
    rw [Array.getElem?_append_left (by omega)]
theorem grow_two (w : World) (q1 q2 : Nat) (o1 o2 : Array Obj) : grow ((grow (w.drewN q1) o1).drewN q2) o2 = grow (w.drewN (q1 + q2)) (o1 ++ o2) := by
  have h : (grow (w.drewN q1) o1).drewN q2 = grow (w.drewN (q1 + q2)) o1 := by
    rw [← World.drewN_drewN]; rfl
  rw [h, grow_grow]

set_option maxRecDepth 100000 in
set_option maxHeartbeats 3200000 in
theorem lessR_g (x y : Rw) (r : Bool) (w : World) (hx : x.Good w) (hy : y.Good w) (hr : lessR x.r y.r = r) :
    Calls Tryz.prog 71 #[x.v, y.v] w fun e w' => e = .returned (.bool r) ∧ ∃ q os, w' = grow (w.drewN q) os := by
  obtain ⟨la, ln, lc, L, ra, rn, rc, R, C⟩ := x
  obtain ⟨la', ln', lc', L', ra', rn', rc', R', C'⟩ := y
  obtain ⟨hl, hrr, h0, h1⟩ := hx
  obtain ⟨hl', hrr', h0', h1'⟩ := hy
  have HL := Lib.hid hl
  have HRR := Lib.hid hrr
  have HL' := Lib.hid hl'
  have HRR' := Lib.hid hrr'
  have HW : ∀ (o o' : Obj) (q : Nat), Hid (∃ q' os, ((w.alloc o).alloc o').drewN q = grow (w.drewN q') os) := fun o o' q => ⟨q, #[o, o'], by rw [alloc_eq_grow, alloc_eq_grow, grow_grow]; rfl⟩
  clear hl hrr hl' hrr'
  simp only [Rw.v, Rw.l, Rw.rt, Rw.c]
  change lessR ⟨L, R, C⟩ ⟨L', R', C'⟩ = r at hr
  unfold lessR at hr
  by_cases e1 : L = L'
  · rw [if_pos e1] at hr
    have HD1 := Lib.hid (decide_eq_true e1)
    by_cases e2 : R = R'
    · rw [if_pos e2] at hr
      have HD2 := Lib.hid (decide_eq_true e2)
      have HR := Lib.hid hr
      clear e1 e2 hr
      go_enter Tryz.func71, Tryz.ntmps71
      go_wp2_with fail
      refine (sleq_is _ _ _ _ _ _ L L' true _ ((HL.out.alloc _).alloc _) ((HL'.out.alloc _).alloc _) HD1.out).mono ?_
      rintro e w1 ⟨rfl, q1, rfl⟩
      go_wp2_with fail
      refine (sleq_is _ _ _ _ _ _ R R' true _ (HRR.out.two _ _ _) (HRR'.out.two _ _ _) HD2.out).mono ?_
      rintro e w1 ⟨rfl, q2, rfl⟩
      go_wp2
      go_ret
      exact ⟨by rw [← HR.out]; rfl, (HW _ _ _).out⟩
    · rw [if_neg e2] at hr
      have HD2 := Lib.hid (decide_eq_false e2)
      have HR := Lib.hid hr
      clear e1 e2 hr
      go_enter Tryz.func71, Tryz.ntmps71
      go_wp2_with fail
      refine (sleq_is _ _ _ _ _ _ L L' true _ ((HL.out.alloc _).alloc _) ((HL'.out.alloc _).alloc _) HD1.out).mono ?_
      rintro e w1 ⟨rfl, q1, rfl⟩
      go_wp2_with fail
      refine (sleq_is _ _ _ _ _ _ R R' false _ (HRR.out.two _ _ _) (HRR'.out.two _ _ _) HD2.out).mono ?_
      rintro e w1 ⟨rfl, q2, rfl⟩
      go_wp2_with fail
      refine (less_is _ _ _ _ _ _ R R' r _ (HRR.out.two _ _ _) (HRR'.out.two _ _ _) HR.out).mono ?_
      rintro e w1 ⟨rfl, q3, rfl⟩
      go_wp2
      go_ret
      exact ⟨rfl, (HW _ _ _).out⟩
  · rw [if_neg e1] at hr
    have HD1 := Lib.hid (decide_eq_false e1)
    have HR := Lib.hid hr
    clear e1 hr
    go_enter Tryz.func71, Tryz.ntmps71
    go_wp2_with fail
    refine (sleq_is _ _ _ _ _ _ L L' false _ ((HL.out.alloc _).alloc _) ((HL'.out.alloc _).alloc _) HD1.out).mono ?_
    rintro e w1 ⟨rfl, q1, rfl⟩
    go_wp2_with fail
    refine (less_is _ _ _ _ _ _ L L' r _ (HL.out.two _ _ _) (HL'.out.two _ _ _) HR.out).mono ?_
    rintro e w1 ⟨rfl, q3, rfl⟩
    go_wp2
    go_ret
    exact ⟨rfl, (HW _ _ _).out⟩

set_option maxRecDepth 100000 in
theorem lessR_is (x y : Rw) (r : Bool) (w : World) (hx : x.Good w) (hy : y.Good w) (hr : lessR x.r y.r = r) :
    Calls Tryz.prog 71 #[x.v, y.v] w fun e w' => e = .returned (.bool r) ∧ Below w.heap.size w w' :=
  (lessR_g x y r w hx hy hr).mono fun e w' ⟨h, q, os, h'⟩ => ⟨h, h' ▸ grow_below (Nat.le_refl _) q os⟩

theorem Rw.Good.grow {w : World} {x : Rw} (h : x.Good w) (q : Nat) (os : Array Obj) : x.Good (grow (w.drewN q) os) := h.below (grow_below (Nat.le_refl _) q os) (Nat.le_refl _)

set_option maxRecDepth 100000 in
set_option maxHeartbeats 3200000 in
theorem cmpR_is (x y : Rw) (w : World) (hx : x.Good w) (hy : y.Good w) :
    Calls Tryz.prog 76 #[x.v, y.v] w fun e w' => e = .returned (.int .i64 (cmpR x.r y.r)) ∧ ∃ q os, w' = grow (w.drewN q) os := by
  have HX := Lib.hid hx
  have HY := Lib.hid hy
  have HW : ∀ (o o' : Obj) (q : Nat) (os : Array Obj), Hid (grow (((w.alloc o).alloc o').drewN q) os = grow (w.drewN q) (#[o, o'] ++ os)) := fun o o' q os => by
    have e : ((w.alloc o).alloc o').drewN q = grow (w.drewN q) #[o, o'] := by rw [alloc_eq_grow, alloc_eq_grow, grow_grow]; rfl
    show _ = _
    rw [e, grow_grow]
  have HB : ∀ (o o' : Obj) (q : Nat) (os : Array Obj), Hid (Below w.heap.size w (grow (((w.alloc o).alloc o').drewN q) os)) := fun o o' q os => by
    show Below _ _ _
    rw [(HW o o' q os).out]; exact grow_below (Nat.le_refl _) _ _
  cases h1 : lessR x.r y.r
  · have HC2 : ∀ r, lessR y.r x.r = r → Hid (cmpR x.r y.r = if r = true then 1 else 0) := fun r h => by
      show _ = _
      unfold cmpR; rw [h1, h]; simp
    obtain ⟨r, hr⟩ : ∃ r, lessR y.r x.r = r := ⟨_, rfl⟩
    have HC := HC2 r hr
    have H1 := Lib.hid h1
    have H2 := Lib.hid hr
    clear hx hy h1 hr HC2
    simp only [Rw.v] at *
    go_enter Tryz.func76, Tryz.ntmps76
    go_wp2_with fail
    refine (lessR_g x y false _ ((HX.out.alloc _).alloc _) ((HY.out.alloc _).alloc _) H1.out).mono ?_
    rintro e w1 ⟨rfl, q1, os1, hw1⟩
    have hb1 : Below w.heap.size w w1 := by rw [hw1]; exact (HB _ _ _ _).out
    have hc1 : w1.heap[w.heap.size]? = some (.cells #[x.l, x.rt, x.c] 39 (0, 0)) := by
      rw [hw1, heap_grow_old _ _ (by show w.heap.size < ((w.alloc _).alloc _).heap.size; unfold World.alloc; simp; try omega)]
      show ((w.alloc _).alloc _).heap[w.heap.size]? = _
      unfold World.alloc
      simp [Array.getElem?_push]
    have hc2 : w1.heap[w.heap.size + 1]? = some (.cells #[y.l, y.rt, y.c] 39 (0, 0)) := by
      rw [hw1, heap_grow_old _ _ (by show w.heap.size + 1 < ((w.alloc _).alloc _).heap.size; unfold World.alloc; simp; try omega)]
      show ((w.alloc _).alloc _).heap[w.heap.size + 1]? = _
      unfold World.alloc
      rw [Array.getElem?_push]; simp
    have hw1' : w1 = grow (w.drewN q1) (#[Obj.cells #[x.l, x.rt, x.c] 39 (0, 0), Obj.cells #[y.l, y.rt, y.c] 39 (0, 0)] ++ os1) := by rw [hw1]; exact (HW _ _ _ _).out
    have HW1 := Lib.hid hw1'
    have hd1 : w1.cell? ⟨w.heap.size, 0, none⟩ = some x.l := by simp [World.cell?, hc1]
    have hd2 : w1.cell? ⟨w.heap.size, 1, none⟩ = some x.rt := by simp [World.cell?, hc1]
    have hd3 : w1.cell? ⟨w.heap.size, 2, none⟩ = some x.c := by simp [World.cell?, hc1]
    have he1 : w1.cell? ⟨w.heap.size + 1, 0, none⟩ = some y.l := by simp [World.cell?, hc2]
    have he2 : w1.cell? ⟨w.heap.size + 1, 1, none⟩ = some y.rt := by simp [World.cell?, hc2]
    have he3 : w1.cell? ⟨w.heap.size + 1, 2, none⟩ = some y.c := by simp [World.cell?, hc2]
    have HGX : Hid (x.Good w1) := HX.out.below hb1 (Nat.le_refl _)
    have HGY : Hid (y.Good w1) := HY.out.below hb1 (Nat.le_refl _)
    clear hw1 hb1 hc1 hc2 hw1'
    go_wp2_with fail
    refine (lessR_g y x r w1 HGY.out HGX.out H2.out).mono ?_
    rintro e w2 ⟨rfl, q2, os2, hw2⟩
    have HW2 : Hid (∃ q os, w2 = grow (w.drewN q) os) := ⟨_, _, by rw [hw2, HW1.out]; exact grow_two _ _ _ _ _⟩
    clear hw2
    cases r
    · go_wp2
      go_ret
      exact ⟨by rw [HC.out]; rfl, HW2.out⟩
    · go_wp2
      go_ret
      exact ⟨by rw [HC.out]; rfl, HW2.out⟩
  · have hc : cmpR x.r y.r = -1 := by unfold cmpR; rw [h1]; rfl
    have HC := Lib.hid hc
    have H1 := Lib.hid h1
    clear hx hy h1 hc
    simp only [Rw.v] at *
    go_enter Tryz.func76, Tryz.ntmps76
    go_wp2_with fail
    refine (lessR_g x y true _ ((HX.out.alloc _).alloc _) ((HY.out.alloc _).alloc _) H1.out).mono ?_
    rintro e w1 ⟨rfl, q1, os1, hw1⟩
    have HW1 : Hid (∃ q os, w1 = grow (w.drewN q) os) := ⟨_, _, by rw [hw1]; exact (HW _ _ _ _).out⟩
    clear hw1
    go_wp2
    go_ret
    exact ⟨by rw [HC.out]; rfl, HW1.out⟩

end Go.Proofs.YtjmabjeaodojeaaGreat
