/- For every line and every rule, SpecTells answers true, and turns nothing that was there. No condition. -/
import Derived.Test.YtdeicfdbjmpliaaRows
import Derived.Test.YtdeicfdbjmpliaaSpecAwake
import Derived.Test.YtdeicfdbjmpliaaSpecSteps2
import Derived.Test.YtdeicfdbjmpliaaRuleOpen
import Derived.WalkKit
import Derived.ProofKit
import Derived.OpenShut
import Derived.ShutString
import Derived.ChangeOld
import Derived.Below
import Derived.Deep.Matrix
import Derived.SizedLaws
namespace Go.Proofs.Ytdeicfdbjmpliaa.specTells
open Go.ChangeShapes Go.WideShapes Go.ChangeAt Go.RowKit
set_option linter.unusedVariables false

theorem own : ownKnob Try.prog.godebug = none := by kernel_rfl
theorem laidOut : laidOutB Try.prog = true := by kernel_rfl

/-- a slice of integers that came in -/
def IsRow (k : IntKind) (w : World) (a : Option Addr) (len cap : Nat) (zs : List Int) : Prop :=
  (a = none ∧ len = 0 ∧ cap = 0 ∧ zs = []) ∨
  ∃ x, a = some x ∧ len ≤ cap ∧ cap ≤ maxLen ∧ zs.length = cap ∧ (∀ i, i < zs.length → w.cell? (x.add i) = some (.int k (zs.getD i 0))) ∧ ∀ n ∈ zs, (Lit.int k n).wf = true

section
variable {o : Oper} {a : Act} {w : World} {x y : Operand} {ts : Array TypeId} {u v : Value}
theorem run_same7 (ho : o.op = .call { callee := .value (.func 14), args := #[x, y], argTypes := ts }) (hx : a.eval x = u) (hy : a.eval y = v) : (execOp a.eval o).run Try.prog w = .ok (.enter 14 #[u, v]) w := by
  subst hx hy
  simp only [execOp, ho]
  go_simp
theorem run_fit7 (ho : o.op = .call { callee := .value (.func 15), args := #[x], argTypes := ts }) (hx : a.eval x = v) : (execOp a.eval o).run Try.prog w = .ok (.enter 15 #[v]) w := by
  subst hx
  simp only [execOp, ho]
  go_simp
theorem run_rfit7 (ho : o.op = .call { callee := .value (.func 16), args := #[x], argTypes := ts }) (hx : a.eval x = v) : (execOp a.eval o).run Try.prog w = .ok (.enter 16 #[v]) w := by
  subst hx
  simp only [execOp, ho]
  go_simp
end

/-! ### STEP 1: the walk -/
set_option maxHeartbeats 6400000 in
set_option maxRecDepth 100000 in
theorem walk (a0 : Option Addr) (len0 cap0 : Nat) (z0 : List Int) (x1 : Rw) (w : World) (w0 : IsRow .u8 w a0 len0 cap0 z0) (w1 : x1.Good w) :
    Calls Try.prog 3 #[.slice a0 len0 cap0, x1.v] w fun e w' => e = .returned (.bool true) ∧ Below w.heap.size w w' := by
  have hn00 : a0 = none → cap0 = 0 := by
    rcases w0 with ⟨_, _, h, _⟩ | ⟨x, h, _⟩
    · exact fun _ => h
    · intro h'; rw [h] at h'; cases h'
  have HN0 := Lib.hid hn00
  clear hn00
  have hs0 := Sl.of_row w0
  generalize z0.take len0 = xs at hs0
  have hcm0 := hs0.2.2.1
  have hnc0 := hs0.2.1
  unfold maxLen at hcm0
  have HS := Lib.hid hs0
  clear hs0 w0
  obtain ⟨la, ln, lc, L, ra, rn, rc, R, C⟩ := x1
  have HX := Lib.hid w1
  clear w1
  simp only [Rw.v, Rw.l, Rw.rt, Rw.c]
  have HI : Hid ((Try.prog.info? 32).map (·.size) = some 2) := info_spec
  have HIR : Hid ((Try.prog.info? 26).map (·.size) = some (#[Value.slice la ln lc, Value.slice ra rn rc, Value.int .u64 C]).size) := by show _ = _; kernel_rfl
  have hmx : Try.prog.follows .mixedOrders = true := by kernel_rfl
  have HMX := Lib.hid hmx
  have HBX : Hid (∀ o, Below w.heap.size w (w.alloc o)) := fun o => (Below.refl _ w).alloc (Nat.le_refl _) o
  have HNW : Hid (∀ o, (w.alloc o).heap[w.heap.size]? = some o) := fun o => heap_alloc_new w o
  have HSZ : Hid (∀ o, (w.alloc o).heap.size = w.heap.size + 1) := fun o => World.size_alloc w o
  clear hmx
  have hor : 1000 < len0 ∨ len0 ≤ 1000 := by omega
  have hib : (1000 < len0 → (1000 : Int) < (len0 : Int)) ∧ (len0 ≤ 1000 → ¬ (1000 : Int) < (len0 : Int)) := ⟨fun h => by omega, fun h => by omega⟩
  rcases hor with g0 | g0
  · have hi0 := hib.1 g0
    clear hib
    go_enter Try.func3, Try.ntmps3
    go_wp2_with fail
    refine (awake_any _).mono ?_
    rintro e v1 ⟨rfl, B1⟩
    have HB1 : Hid (Below w.heap.size w v1) := (HBX.out _).trans (B1.mono (by simp))
    clear B1
    go_wp2
    go_ret
    exact ⟨rfl, HB1.out⟩
  have hi0 := hib.2 g0
  clear hib
  go_enter Try.func3, Try.ntmps3
  go_wp2_with fail
  refine (awake_any _).mono ?_
  rintro e v1 ⟨rfl, B1⟩
  have HB1 : Hid (Below w.heap.size w v1) := (HBX.out _).trans (B1.mono (by simp))
  have H31 : Hid (v1.heap[w.heap.size]? = some (.cells #[.slice la ln lc, .slice ra rn rc, .int .u64 C] 26 (0, 0))) := (B1.block _ (by rw [HSZ.out]; exact Nat.lt_succ_self _)).trans (HNW.out _)
  have HX1 : Hid (Rw.Good v1 ⟨la, ln, lc, L, ra, rn, rc, R, C⟩) := HX.out.below HB1.out (Nat.le_refl _)
  have S1 := Lib.hid (HS.out.below HB1.out (Nat.le_refl _))
  clear B1 HX HS HBX HNW HSZ
  go_wp2_with (refine wpList_load_row_w (by rfl) 26 (.tmp 3) (by rfl) w.heap.size (by rfl) 26 #[.slice la ln lc, .slice ra rn rc, .int .u64 C] (0, 0) _ H31.out Try.underlying26 (by rfl) HIR.out ?_)
  refine (rfew_any _ 1 1 [⟨la, ln, lc, L, ra, rn, rc, R, C⟩] 1 (by omega) _ (Rs.newc [⟨la, ln, lc, L, ra, rn, rc, R, C⟩] (by intro x hx; rw [List.mem_singleton.1 hx]; exact HX1.out) (by simp [maxLen]) rfl rfl rfl)).mono ?_
  rintro e v2 ⟨he | ⟨he, hsh, _⟩, hw2⟩
  · subst he
    obtain rfl := hw2.symm
    have HB2 : Hid (∀ o, Below w.heap.size w (v1.alloc o)) := fun o => HB1.out.alloc HB1.out.size o
    go_wp2
    go_ret
    exact ⟨rfl, HB2.out _⟩
  subst he
  have hb12 : Below v1.heap.size v1 v2 := by rw [hw2]; exact (Below.refl _ v1).alloc (Nat.le_refl _) _
  have HB2 : Hid (Below w.heap.size w v2) := HB1.out.trans (hb12.mono HB1.out.size)
  have H32 : Hid (v2.heap[w.heap.size]? = some (.cells #[.slice la ln lc, .slice ra rn rc, .int .u64 C] 26 (0, 0))) := (hb12.block _ (Array.getElem?_eq_some_iff.1 H31.out).1).trans H31.out
  have HX2 : Hid (Rw.Good v2 ⟨la, ln, lc, L, ra, rn, rc, R, C⟩) := HX1.out.below hb12 (Nat.le_refl _)
  have S2 := Lib.hid (S1.out.below hb12 (Nat.le_refl _))
  have hlr : ln ≤ 100 ∧ rn ≤ 100 := hsh _ (List.mem_singleton.2 rfl)
  have HLR : Hid (L.length ≤ 1000 ∧ R.length ≤ 1000) := by
    have h1 : L.length = ln := HX1.out.1.1
    have h2 : R.length = rn := HX1.out.2.1.1
    exact ⟨by omega, by omega⟩
  clear hw2 hb12 hsh hlr H31 HX1 S1
  obtain ⟨s, hsr⟩ : ∃ s, Spec.read xs = s := ⟨_, rfl⟩
  obtain ⟨ft, hft⟩ : ∃ q, Spec.fit ⟨L, R, C⟩ = q := ⟨_, rfl⟩
  obtain ⟨out, hout⟩ : ∃ o, (if ft = true then Spec.write ⟨L, R, C⟩ else []) = o := ⟨_, rfl⟩
  obtain ⟨er, her⟩ : ∃ o : Int, (if ft = true then 0 else 60) = o := ⟨_, rfl⟩
  have HSR := Lib.hid hsr
  have HFT := Lib.hid hft
  have HOUT := Lib.hid hout
  have HER := Lib.hid her
  clear hsr hft hout her
  go_wp2_with fail
  refine (read7_is a0 len0 cap0 xs s v2 S2.out HN0.out (by omega) HSR.out).mono ?_
  rintro e v3 ⟨ba1, bn1, bc1, ra1, rn1, rc1, xs1, rfl, hbs1, _, hrs1, hru1, _, hb3⟩
  have HB3 : Hid (Below w.heap.size w v3) := HB2.out.trans (hb3.mono HB2.out.size)
  have H33 := Lib.hid ((hb3.block _ (Array.getElem?_eq_some_iff.1 H32.out).1).trans H32.out)
  have HX3 := Lib.hid (HX2.out.below hb3 (Nat.le_refl _))
  have S3 := Lib.hid (S2.out.below hb3 (Nat.le_refl _))
  have HBS1' := Lib.hid hbs1
  have HRS1' := Lib.hid hrs1
  have HRU1 := Lib.hid hru1
  have HI1 : Hid ((Try.prog.info? 32).map (·.size) = some (#[Value.slice ba1 bn1 bc1, Value.slice ra1 rn1 rc1]).size) := HI.out
  clear hbs1 hrs1 hru1 hb3 H32 HX2 S2
  go_wp2_with fail
  refine (rread7_is a0 len0 cap0 xs s _ (S3.out.alloc _) (by omega) HSR.out).mono ?_
  rintro e v4 ⟨ba2, bn2, bc2, ra2, rn2, rc2, xs2, rfl, hbs2, _, hrs2, hru2, _, hb4⟩
  have h34 : Below v3.heap.size v3 v4 := ((Below.refl v3.heap.size v3).alloc (Nat.le_refl _) _).trans (hb4.mono (by simp))
  have hp1 : v4.heap[v3.heap.size]? = some (.cells #[.slice ba1 bn1 bc1, .slice ra1 rn1 rc1] 32 (0, 0)) := (hb4.block _ (by simp)).trans (heap_alloc_new v3 _)
  have HP1a := Lib.hid hp1
  have HB4 : Hid (Below w.heap.size w v4) := HB3.out.trans (h34.mono HB3.out.size)
  have H34 := Lib.hid ((h34.block _ (Array.getElem?_eq_some_iff.1 H33.out).1).trans H33.out)
  have HX4 := Lib.hid (HX3.out.below h34 (Nat.le_refl _))
  have HBS1a := Lib.hid (HBS1'.out.below h34 (Nat.le_refl _))
  have HRS1a := Lib.hid (HRS1'.out.below h34 (Nat.le_refl _))
  have HBS2' := Lib.hid hbs2
  have HRS2' := Lib.hid hrs2
  have HRU2 := Lib.hid hru2
  have HI2 : Hid ((Try.prog.info? 32).map (·.size) = some (#[Value.slice ba2 bn2 bc2, Value.slice ra2 rn2 rc2]).size) := HI.out
  have H34a : Hid (∀ o, (v4.alloc o).heap[w.heap.size]? = some (.cells #[.slice la ln lc, .slice ra rn rc, .int .u64 C] 26 (0, 0))) := fun o => ((World.grownBy_alloc v4 o none).block _ (Array.getElem?_eq_some_iff.1 H34.out).1 (by simp)).trans H34.out
  clear hbs2 hrs2 hru2 hb4 h34 hp1 H33 HX3 S3
  go_wp2_with (refine wpList_load_row_w (by rfl) 26 (.tmp 3) (by rfl) w.heap.size (by rfl) 26 #[.slice la ln lc, .slice ra rn rc, .int .u64 C] (0, 0) _ (H34a.out _) Try.underlying26 (by rfl) HIR.out ?_)
  refine (write7_is ⟨la, ln, lc, L, ra, rn, rc, R, C⟩ ft out er _ (HX4.out.alloc _) HLR.out HFT.out HOUT.out HER.out).mono ?_
  rintro e v5 ⟨wa1, wn1, wc1, rfl, hwn1, hw1, _, hb5⟩
  have h45 : Below v4.heap.size v4 v5 := ((Below.refl v4.heap.size v4).alloc (Nat.le_refl _) _).trans (hb5.mono (by simp))
  have hp2 : v5.heap[v4.heap.size]? = some (.cells #[.slice ba2 bn2 bc2, .slice ra2 rn2 rc2] 32 (0, 0)) := (hb5.block _ (by simp)).trans (heap_alloc_new v4 _)
  have HP2a := Lib.hid hp2
  have HP1b := Lib.hid ((h45.block _ (Array.getElem?_eq_some_iff.1 HP1a.out).1).trans HP1a.out)
  have HB5 : Hid (Below w.heap.size w v5) := HB4.out.trans (h45.mono HB4.out.size)
  have H35 := Lib.hid ((h45.block _ (Array.getElem?_eq_some_iff.1 H34.out).1).trans H34.out)
  have HX5 := Lib.hid (HX4.out.below h45 (Nat.le_refl _))
  have HBS1b := Lib.hid (HBS1a.out.below h45 (Nat.le_refl _))
  have HRS1b := Lib.hid (HRS1a.out.below h45 (Nat.le_refl _))
  have HBS2b := Lib.hid (HBS2'.out.below h45 (Nat.le_refl _))
  have HRS2b := Lib.hid (HRS2'.out.below h45 (Nat.le_refl _))
  have HSW1a := Lib.hid hw1
  clear hwn1 hw1 hb5 h45 hp2 H34 H34a HX4 HP1a HBS1a HRS1a HBS2' HRS2'
  go_wp2_with (refine wpList_load_row_w (by rfl) 26 (.tmp 3) (by rfl) w.heap.size (by rfl) 26 #[.slice la ln lc, .slice ra rn rc, .int .u64 C] (0, 0) _ H35.out Try.underlying26 (by rfl) HIR.out ?_)
  refine (rwrite7_is ⟨la, ln, lc, L, ra, rn, rc, R, C⟩ ft out er v5 HX5.out HLR.out HFT.out HOUT.out HER.out).mono ?_
  rintro e v6 ⟨wa2, wn2, wc2, rfl, hwn2, hw2, _, hb6⟩
  have HB6 : Hid (Below w.heap.size w v6) := HB5.out.trans (hb6.mono HB5.out.size)
  have HP1 : Hid (v6.drew.heap[v3.heap.size]? = _) := (hb6.block _ (Array.getElem?_eq_some_iff.1 HP1b.out).1).trans HP1b.out
  have HP2 : Hid (v6.drew.heap[v4.heap.size]? = _) := (hb6.block _ (Array.getElem?_eq_some_iff.1 HP2a.out).1).trans HP2a.out
  have HP3 : Hid (v6.drew.heap[w.heap.size]? = _) := (hb6.block _ (Array.getElem?_eq_some_iff.1 H35.out).1).trans H35.out
  have HX6 := Lib.hid (HX5.out.below hb6 (Nat.le_refl _))
  have HBS1 := Lib.hid (HBS1b.out.below hb6 (Nat.le_refl _))
  have HRS1 := Lib.hid (HRS1b.out.below hb6 (Nat.le_refl _))
  have HBS2 := Lib.hid (HBS2b.out.below hb6 (Nat.le_refl _))
  have HRS2 := Lib.hid (HRS2b.out.below hb6 (Nat.le_refl _))
  have HSW1 := Lib.hid (HSW1a.out.below hb6 (Nat.le_refl _))
  have HSW2 := Lib.hid hw2
  clear hwn2 hw2 hb6 H35 HX5 HP1b HP2a HBS1b HRS1b HBS2b HRS2b HSW1a
  go_wp2_with fail
  refine wp_region_told2 HMX.out 31 [(45, 45), (46, 46), (47, 47), (48, 48), (49, 49), (50, 50), (51, 51), (52, 52), (53, 53), (54, 54), (55, 55), (56, 56), (57, 57), (58, 58), (59, 59), (60, 60), (61, 61), (62, 62), (63, 63), (64, 64), (65, 65), (66, 66), (67, 67), (68, 68), (69, 69), (70, 70), (71, 71), (72, 72), (73, 73), (74, 74), (4, 4)]
    (fun (j : Nat) (v u : Value) (w0 : World) => match j with
      | 0 => v = .bool true
      | 1 => v = .bool true
      | 2 => v = .agg #[Value.slice ba1 bn1 bc1, Value.slice ra1 rn1 rc1]
      | 3 => v = .agg #[Value.slice ba2 bn2 bc2, Value.slice ra2 rn2 rc2]
      | 4 => v = .bool true
      | 5 => v = .bool true
      | 6 => v = .bool true
      | 7 => v = .int .i64 s.e
      | 8 => v = .int .i64 s.e
      | 9 => v = .bool true
      | 10 => v = .bool true
      | 11 => v = .bool true
      | 12 => v = .slice wa1 wn1 wc1
      | 13 => v = .string (strOfNums out)
      | 14 => v = .slice wa2 wn2 wc2
      | 15 => v = .string (strOfNums out)
      | 16 => v = .bool true
      | 17 => v = .bool true
      | 18 => v = .bool true
      | 19 => v = .int .i64 er
      | 20 => v = .int .i64 er
      | 21 => v = .bool true
      | 22 => v = .bool true
      | 23 => v = .bool true
      | 24 => v = .agg #[Value.slice la ln lc, Value.slice ra rn rc, Value.int .u64 C]
      | 25 => v = .bool ft
      | 26 => v = .agg #[Value.slice la ln lc, Value.slice ra rn rc, Value.int .u64 C]
      | 27 => v = .bool ft
      | 28 => v = .bool true
      | 29 => v = .bool true
      | 30 => v = .bool true
      | _ => True)
    (fun W => (v6).drew.grownBy W none) (fun _ _ _ => False) (by kernel_rfl) (by kernel_rfl) (World.grownBy.refl _ _) (fun _ _ h1 h2 => h1.trans h2) (fun _ _ _ _ h => h.elim) ?_ ?_ ?_ ?_
  · intro j v u w0 w' h hg
    match j, h with
    | 0, h => exact h
    | 1, h => exact h
    | 2, h => exact h
    | 3, h => exact h
    | 4, h => exact h
    | 5, h => exact h
    | 6, h => exact h
    | 7, h => exact h
    | 8, h => exact h
    | 9, h => exact h
    | 10, h => exact h
    | 11, h => exact h
    | 12, h => exact h
    | 13, h => exact h
    | 14, h => exact h
    | 15, h => exact h
    | 16, h => exact h
    | 17, h => exact h
    | 18, h => exact h
    | 19, h => exact h
    | 20, h => exact h
    | 21, h => exact h
    | 22, h => exact h
    | 23, h => exact h
    | 24, h => exact h
    | 25, h => exact h
    | 26, h => exact h
    | 27, h => exact h
    | 28, h => exact h
    | 29, h => exact h
    | 30, h => exact h
    | j + 31, h => exact h
  · intro j v u a0 w0 w' hne h hr
    match j, hne, h with
    | 0, hne, h => exact h
    | 1, hne, h => exact h
    | 2, hne, h => exact h
    | 3, hne, h => exact h
    | 4, hne, h => exact h
    | 5, hne, h => exact h
    | 6, hne, h => exact h
    | 7, hne, h => exact h
    | 8, hne, h => exact h
    | 9, hne, h => exact h
    | 10, hne, h => exact h
    | 11, hne, h => exact h
    | 12, hne, h => exact h
    | 13, hne, h => exact h
    | 14, hne, h => exact h
    | 15, hne, h => exact h
    | 16, hne, h => exact h
    | 17, hne, h => exact h
    | 18, hne, h => exact h
    | 19, hne, h => exact h
    | 20, hne, h => exact h
    | 21, hne, h => exact h
    | 22, hne, h => exact h
    | 23, hne, h => exact h
    | 24, hne, h => exact h
    | 25, hne, h => exact h
    | 26, hne, h => exact h
    | 27, hne, h => exact h
    | 28, hne, h => exact h
    | 29, hne, h => exact h
    | 30, hne, h => exact h
    | j + 31, _, h => exact h
  · intro i1 o ho a1 w1 hJ hw ht
    match i1, ho with
    | 0, ho =>
      obtain rfl := Option.some.inj ho
      exact StepsTo.move rfl (.tmp 5) (.inl rfl) ⟨(hw 5 (by kernel_rfl)), fun h => absurd h (by decide), fun _ => World.grownBy.refl _ _⟩
    | 1, ho =>
      obtain rfl := Option.some.inj ho
      exact StepsTo.move rfl (.tmp 45) (.inl rfl) ⟨(ht 0 (by kernel_rfl)), fun h => absurd h (by decide), fun _ => World.grownBy.refl _ _⟩
    | 2, ho =>
      obtain rfl := Option.some.inj ho
      refine StepsTo.guarded (wanted_of rfl rfl (show a1.eval (.tmp 46) = .bool true from (ht 1 (by kernel_rfl)))) ?_
      have e1 : a1.eval (.tmp 6) = .pointer (some ⟨v3.heap.size, 0, none⟩) := (hw 6 (by kernel_rfl))
      exact StepsTo.load_row rfl 32 (.tmp 6) rfl e1 ((hJ.block _ (Array.getElem?_eq_some_iff.1 HP1.out).1 (by simp)).trans HP1.out) Try.underlying32 rfl HI1.out ⟨rfl, fun h => absurd h (by decide), fun _ => World.grownBy.refl _ _⟩
    | 3, ho =>
      obtain rfl := Option.some.inj ho
      refine StepsTo.guarded (wanted_of rfl rfl (show a1.eval (.tmp 46) = .bool true from (ht 1 (by kernel_rfl)))) ?_
      have e1 : a1.eval (.tmp 8) = .pointer (some ⟨v4.heap.size, 0, none⟩) := (hw 8 (by kernel_rfl))
      exact StepsTo.load_row rfl 32 (.tmp 8) rfl e1 ((hJ.block _ (Array.getElem?_eq_some_iff.1 HP2.out).1 (by simp)).trans HP2.out) Try.underlying32 rfl HI2.out ⟨rfl, fun h => absurd h (by decide), fun _ => World.grownBy.refl _ _⟩
    | 4, ho =>
      obtain rfl := Option.some.inj ho
      refine StepsTo.guarded (wanted_of rfl rfl (show a1.eval (.tmp 46) = .bool true from (ht 1 (by kernel_rfl)))) ?_
      have e1 : a1.eval (.tmp 47) = .agg #[Value.slice ba1 bn1 bc1, Value.slice ra1 rn1 rc1] := (ht 2 (by kernel_rfl))
      have e2 : a1.eval (.tmp 48) = .agg #[Value.slice ba2 bn2 bc2, Value.slice ra2 rn2 rc2] := (ht 3 (by kernel_rfl))
      have hb := grown_below7 hJ
      refine StepsTo.enter rfl _ _ (run_same7 rfl e1 e2) (rsamesp_is ba1 bn1 bc1 s.base ra1 rn1 rc1 xs1 ba2 bn2 bc2 s.base ra2 rn2 rc2 xs2 true w1 (HBS1.out.below hb (Nat.le_refl _)) (HRS1.out.below hb (Nat.le_refl _)) (HBS2.out.below hb (Nat.le_refl _)) (HRS2.out.below hb (Nat.le_refl _)) (by rw [HRU1.out, HRU2.out]; simp)) (fun e w' h => ?_)
      exact ⟨_, h.1, rfl, fun h => absurd h (by decide), fun _ => below_grew7 h.2⟩
    | 5, ho =>
      obtain rfl := Option.some.inj ho
      exact StepsTo.of_run rfl (run_pick rfl (show a1.eval (.tmp 46) = .bool true from (ht 1 (by kernel_rfl))) (show a1.eval (.tmp 49) = .bool true from (ht 4 (by kernel_rfl))) rfl) ⟨rfl, fun h => absurd h (by decide), fun _ => World.grownBy.refl _ _⟩
    | 6, ho =>
      obtain rfl := Option.some.inj ho
      exact StepsTo.move rfl (.tmp 50) (.inl rfl) ⟨(ht 5 (by kernel_rfl)), fun h => absurd h (by decide), fun _ => World.grownBy.refl _ _⟩
    | 7, ho =>
      obtain rfl := Option.some.inj ho
      refine StepsTo.guarded (wanted_of rfl rfl (show a1.eval (.tmp 51) = .bool true from (ht 6 (by kernel_rfl)))) ?_
      exact StepsTo.move rfl (.tmp 7) (.inl rfl) ⟨(hw 7 (by kernel_rfl)), fun h => absurd h (by decide), fun _ => World.grownBy.refl _ _⟩
    | 8, ho =>
      obtain rfl := Option.some.inj ho
      refine StepsTo.guarded (wanted_of rfl rfl (show a1.eval (.tmp 51) = .bool true from (ht 6 (by kernel_rfl)))) ?_
      exact StepsTo.move rfl (.tmp 9) (.inl rfl) ⟨(hw 9 (by kernel_rfl)), fun h => absurd h (by decide), fun _ => World.grownBy.refl _ _⟩
    | 9, ho =>
      obtain rfl := Option.some.inj ho
      refine StepsTo.guarded (wanted_of rfl rfl (show a1.eval (.tmp 51) = .bool true from (ht 6 (by kernel_rfl)))) ?_
      exact StepsTo.of_run rfl (run_eqlE rfl (show a1.eval (.tmp 52) = .int .i64 s.e from (ht 7 (by kernel_rfl))) (show a1.eval (.tmp 53) = .int .i64 s.e from (ht 8 (by kernel_rfl)))) ⟨by show Value.bool (s.e == s.e) = _; simp, fun h => absurd h (by decide), fun _ => World.grownBy.refl _ _⟩
    | 10, ho =>
      obtain rfl := Option.some.inj ho
      exact StepsTo.of_run rfl (run_pick rfl (show a1.eval (.tmp 51) = .bool true from (ht 6 (by kernel_rfl))) (show a1.eval (.tmp 54) = .bool true from (ht 9 (by kernel_rfl))) rfl) ⟨rfl, fun h => absurd h (by decide), fun _ => World.grownBy.refl _ _⟩
    | 11, ho =>
      obtain rfl := Option.some.inj ho
      exact StepsTo.move rfl (.tmp 55) (.inl rfl) ⟨(ht 10 (by kernel_rfl)), fun h => absurd h (by decide), fun _ => World.grownBy.refl _ _⟩
    | 12, ho =>
      obtain rfl := Option.some.inj ho
      refine StepsTo.guarded (wanted_of rfl rfl (show a1.eval (.tmp 56) = .bool true from (ht 11 (by kernel_rfl)))) ?_
      exact StepsTo.move rfl (.tmp 10) (.inl rfl) ⟨(hw 10 (by kernel_rfl)), fun h => absurd h (by decide), fun _ => World.grownBy.refl _ _⟩
    | 13, ho =>
      obtain rfl := Option.some.inj ho
      refine StepsTo.guarded (wanted_of rfl rfl (show a1.eval (.tmp 56) = .bool true from (ht 11 (by kernel_rfl)))) ?_
      exact StepsTo.of_run rfl (run_str rfl (show a1.eval (.tmp 57) = .slice wa1 wn1 wc1 from (ht 12 (by kernel_rfl))) (HSW1.out.below (grown_below7 hJ) (Nat.le_refl _))) ⟨rfl, fun h => absurd h (by decide), fun _ => World.grownBy.refl _ _⟩
    | 14, ho =>
      obtain rfl := Option.some.inj ho
      refine StepsTo.guarded (wanted_of rfl rfl (show a1.eval (.tmp 56) = .bool true from (ht 11 (by kernel_rfl)))) ?_
      exact StepsTo.move rfl (.tmp 12) (.inl rfl) ⟨(hw 12 (by kernel_rfl)), fun h => absurd h (by decide), fun _ => World.grownBy.refl _ _⟩
    | 15, ho =>
      obtain rfl := Option.some.inj ho
      refine StepsTo.guarded (wanted_of rfl rfl (show a1.eval (.tmp 56) = .bool true from (ht 11 (by kernel_rfl)))) ?_
      exact StepsTo.of_run rfl (run_str rfl (show a1.eval (.tmp 59) = .slice wa2 wn2 wc2 from (ht 14 (by kernel_rfl))) (HSW2.out.below (grown_below7 hJ) (Nat.le_refl _))) ⟨rfl, fun h => absurd h (by decide), fun _ => World.grownBy.refl _ _⟩
    | 16, ho =>
      obtain rfl := Option.some.inj ho
      refine StepsTo.guarded (wanted_of rfl rfl (show a1.eval (.tmp 56) = .bool true from (ht 11 (by kernel_rfl)))) ?_
      exact StepsTo.of_run rfl (run_eqlS rfl (show a1.eval (.tmp 58) = .string (strOfNums out) from (ht 13 (by kernel_rfl))) (show a1.eval (.tmp 60) = .string (strOfNums out) from (ht 15 (by kernel_rfl)))) ⟨rfl, fun h => absurd h (by decide), fun _ => World.grownBy.refl _ _⟩
    | 17, ho =>
      obtain rfl := Option.some.inj ho
      exact StepsTo.of_run rfl (run_pick rfl (show a1.eval (.tmp 56) = .bool true from (ht 11 (by kernel_rfl))) (show a1.eval (.tmp 61) = .bool true from (ht 16 (by kernel_rfl))) rfl) ⟨rfl, fun h => absurd h (by decide), fun _ => World.grownBy.refl _ _⟩
    | 18, ho =>
      obtain rfl := Option.some.inj ho
      exact StepsTo.move rfl (.tmp 62) (.inl rfl) ⟨(ht 17 (by kernel_rfl)), fun h => absurd h (by decide), fun _ => World.grownBy.refl _ _⟩
    | 19, ho =>
      obtain rfl := Option.some.inj ho
      refine StepsTo.guarded (wanted_of rfl rfl (show a1.eval (.tmp 63) = .bool true from (ht 18 (by kernel_rfl)))) ?_
      exact StepsTo.move rfl (.tmp 11) (.inl rfl) ⟨(hw 11 (by kernel_rfl)), fun h => absurd h (by decide), fun _ => World.grownBy.refl _ _⟩
    | 20, ho =>
      obtain rfl := Option.some.inj ho
      refine StepsTo.guarded (wanted_of rfl rfl (show a1.eval (.tmp 63) = .bool true from (ht 18 (by kernel_rfl)))) ?_
      exact StepsTo.move rfl (.tmp 13) (.inl rfl) ⟨(hw 13 (by kernel_rfl)), fun h => absurd h (by decide), fun _ => World.grownBy.refl _ _⟩
    | 21, ho =>
      obtain rfl := Option.some.inj ho
      refine StepsTo.guarded (wanted_of rfl rfl (show a1.eval (.tmp 63) = .bool true from (ht 18 (by kernel_rfl)))) ?_
      exact StepsTo.of_run rfl (run_eqlE rfl (show a1.eval (.tmp 64) = .int .i64 er from (ht 19 (by kernel_rfl))) (show a1.eval (.tmp 65) = .int .i64 er from (ht 20 (by kernel_rfl)))) ⟨by show Value.bool (er == er) = _; simp, fun h => absurd h (by decide), fun _ => World.grownBy.refl _ _⟩
    | 22, ho =>
      obtain rfl := Option.some.inj ho
      exact StepsTo.of_run rfl (run_pick rfl (show a1.eval (.tmp 63) = .bool true from (ht 18 (by kernel_rfl))) (show a1.eval (.tmp 66) = .bool true from (ht 21 (by kernel_rfl))) rfl) ⟨rfl, fun h => absurd h (by decide), fun _ => World.grownBy.refl _ _⟩
    | 23, ho =>
      obtain rfl := Option.some.inj ho
      exact StepsTo.move rfl (.tmp 67) (.inl rfl) ⟨(ht 22 (by kernel_rfl)), fun h => absurd h (by decide), fun _ => World.grownBy.refl _ _⟩
    | 24, ho =>
      obtain rfl := Option.some.inj ho
      refine StepsTo.guarded (wanted_of rfl rfl (show a1.eval (.tmp 68) = .bool true from (ht 23 (by kernel_rfl)))) ?_
      have e1 : a1.eval (.tmp 3) = .pointer (some ⟨w.heap.size, 0, none⟩) := (hw 3 (by kernel_rfl))
      exact StepsTo.load_row rfl 26 (.tmp 3) rfl e1 ((hJ.block _ (Array.getElem?_eq_some_iff.1 HP3.out).1 (by simp)).trans HP3.out) Try.underlying26 rfl HIR.out ⟨rfl, fun h => absurd h (by decide), fun _ => World.grownBy.refl _ _⟩
    | 25, ho =>
      obtain rfl := Option.some.inj ho
      refine StepsTo.guarded (wanted_of rfl rfl (show a1.eval (.tmp 68) = .bool true from (ht 23 (by kernel_rfl)))) ?_
      have e1 : a1.eval (.tmp 69) = .agg #[Value.slice la ln lc, Value.slice ra rn rc, Value.int .u64 C] := (ht 24 (by kernel_rfl))
      refine StepsTo.enter rfl _ _ (run_fit7 rfl e1) (fit7_is ⟨la, ln, lc, L, ra, rn, rc, R, C⟩ ft w1 (HX6.out.below (grown_below7 hJ) (Nat.le_refl _)) HFT.out) (fun e w' h => ?_)
      exact ⟨_, h.1, rfl, fun h => absurd h (by decide), fun _ => below_grew7 h.2⟩
    | 26, ho =>
      obtain rfl := Option.some.inj ho
      refine StepsTo.guarded (wanted_of rfl rfl (show a1.eval (.tmp 68) = .bool true from (ht 23 (by kernel_rfl)))) ?_
      have e1 : a1.eval (.tmp 3) = .pointer (some ⟨w.heap.size, 0, none⟩) := (hw 3 (by kernel_rfl))
      exact StepsTo.load_row rfl 26 (.tmp 3) rfl e1 ((hJ.block _ (Array.getElem?_eq_some_iff.1 HP3.out).1 (by simp)).trans HP3.out) Try.underlying26 rfl HIR.out ⟨rfl, fun h => absurd h (by decide), fun _ => World.grownBy.refl _ _⟩
    | 27, ho =>
      obtain rfl := Option.some.inj ho
      refine StepsTo.guarded (wanted_of rfl rfl (show a1.eval (.tmp 68) = .bool true from (ht 23 (by kernel_rfl)))) ?_
      have e1 : a1.eval (.tmp 71) = .agg #[Value.slice la ln lc, Value.slice ra rn rc, Value.int .u64 C] := (ht 26 (by kernel_rfl))
      refine StepsTo.enter rfl _ _ (run_rfit7 rfl e1) (rfit_is ⟨la, ln, lc, L, ra, rn, rc, R, C⟩ ft w1 (HX6.out.below (grown_below7 hJ) (Nat.le_refl _)) HFT.out) (fun e w' h => ?_)
      exact ⟨_, h.1, rfl, fun h => absurd h (by decide), fun _ => below_grew7 h.2⟩
    | 28, ho =>
      obtain rfl := Option.some.inj ho
      refine StepsTo.guarded (wanted_of rfl rfl (show a1.eval (.tmp 68) = .bool true from (ht 23 (by kernel_rfl)))) ?_
      exact StepsTo.of_run rfl (run_eqlB rfl (show a1.eval (.tmp 70) = .bool ft from (ht 25 (by kernel_rfl))) (show a1.eval (.tmp 72) = .bool ft from (ht 27 (by kernel_rfl)))) ⟨by show Value.bool (ft == ft) = _; simp, fun h => absurd h (by decide), fun _ => World.grownBy.refl _ _⟩
    | 29, ho =>
      obtain rfl := Option.some.inj ho
      exact StepsTo.of_run rfl (run_pick rfl (show a1.eval (.tmp 68) = .bool true from (ht 23 (by kernel_rfl))) (show a1.eval (.tmp 73) = .bool true from (ht 28 (by kernel_rfl))) rfl) ⟨rfl, fun h => absurd h (by decide), fun _ => World.grownBy.refl _ _⟩
    | 30, ho =>
      obtain rfl := Option.some.inj ho
      exact StepsTo.move rfl (.tmp 74) (.inr rfl) ⟨(ht 29 (by kernel_rfl)), fun h => absurd h (by decide), fun _ => World.grownBy.refl _ _⟩
    | j1 + 31, ho => exact absurd (Array.getElem?_eq_some_iff.1 ho).1 (by simp)
  intro tm w9 hsz hJ hfr hto
  rw [act_lit2 tm (show tm.size = 75 from hsz)]
  simp only [List.range, List.range.loop, List.map_cons, List.map_nil]
  rw [hfr 0 (by kernel_rfl), hfr 1 (by kernel_rfl), hfr 2 (by kernel_rfl), hfr 3 (by kernel_rfl), hfr 5 (by kernel_rfl), hfr 6 (by kernel_rfl), hfr 7 (by kernel_rfl), hfr 8 (by kernel_rfl), hfr 9 (by kernel_rfl), hfr 10 (by kernel_rfl), hfr 11 (by kernel_rfl), hfr 12 (by kernel_rfl), hfr 13 (by kernel_rfl), hfr 14 (by kernel_rfl), hfr 15 (by kernel_rfl), hfr 16 (by kernel_rfl), hfr 17 (by kernel_rfl), hfr 18 (by kernel_rfl), hfr 19 (by kernel_rfl), hfr 20 (by kernel_rfl), hfr 21 (by kernel_rfl), hfr 22 (by kernel_rfl), hfr 23 (by kernel_rfl), hfr 24 (by kernel_rfl), hfr 25 (by kernel_rfl), hfr 26 (by kernel_rfl), hfr 27 (by kernel_rfl), hfr 28 (by kernel_rfl), hfr 29 (by kernel_rfl), hfr 30 (by kernel_rfl), hfr 31 (by kernel_rfl), hfr 32 (by kernel_rfl), hfr 33 (by kernel_rfl), hfr 34 (by kernel_rfl), hfr 35 (by kernel_rfl), hfr 36 (by kernel_rfl), hfr 37 (by kernel_rfl), hfr 38 (by kernel_rfl), hfr 39 (by kernel_rfl), hfr 40 (by kernel_rfl), hfr 41 (by kernel_rfl), hfr 42 (by kernel_rfl), hfr 43 (by kernel_rfl), hfr 44 (by kernel_rfl)]
  simp only [Array.getD_eq_getD_getElem?, List.getElem?_toArray, List.getElem?_cons_succ, List.getElem?_cons_zero, Option.getD_some]
  have t0 : (tm[45]?.getD undef) = .bool true := by have h := hto 0 (by decide); simp only [Array.getD_eq_getD_getElem?] at h; exact h
  have t1 : (tm[46]?.getD undef) = .bool true := by have h := hto 1 (by decide); simp only [Array.getD_eq_getD_getElem?] at h; exact h
  have t2 : (tm[47]?.getD undef) = .agg #[Value.slice ba1 bn1 bc1, Value.slice ra1 rn1 rc1] := by have h := hto 2 (by decide); simp only [Array.getD_eq_getD_getElem?] at h; exact h
  have t3 : (tm[48]?.getD undef) = .agg #[Value.slice ba2 bn2 bc2, Value.slice ra2 rn2 rc2] := by have h := hto 3 (by decide); simp only [Array.getD_eq_getD_getElem?] at h; exact h
  have t4 : (tm[49]?.getD undef) = .bool true := by have h := hto 4 (by decide); simp only [Array.getD_eq_getD_getElem?] at h; exact h
  have t5 : (tm[50]?.getD undef) = .bool true := by have h := hto 5 (by decide); simp only [Array.getD_eq_getD_getElem?] at h; exact h
  have t6 : (tm[51]?.getD undef) = .bool true := by have h := hto 6 (by decide); simp only [Array.getD_eq_getD_getElem?] at h; exact h
  have t7 : (tm[52]?.getD undef) = .int .i64 s.e := by have h := hto 7 (by decide); simp only [Array.getD_eq_getD_getElem?] at h; exact h
  have t8 : (tm[53]?.getD undef) = .int .i64 s.e := by have h := hto 8 (by decide); simp only [Array.getD_eq_getD_getElem?] at h; exact h
  have t9 : (tm[54]?.getD undef) = .bool true := by have h := hto 9 (by decide); simp only [Array.getD_eq_getD_getElem?] at h; exact h
  have t10 : (tm[55]?.getD undef) = .bool true := by have h := hto 10 (by decide); simp only [Array.getD_eq_getD_getElem?] at h; exact h
  have t11 : (tm[56]?.getD undef) = .bool true := by have h := hto 11 (by decide); simp only [Array.getD_eq_getD_getElem?] at h; exact h
  have t12 : (tm[57]?.getD undef) = .slice wa1 wn1 wc1 := by have h := hto 12 (by decide); simp only [Array.getD_eq_getD_getElem?] at h; exact h
  have t13 : (tm[58]?.getD undef) = .string (strOfNums out) := by have h := hto 13 (by decide); simp only [Array.getD_eq_getD_getElem?] at h; exact h
  have t14 : (tm[59]?.getD undef) = .slice wa2 wn2 wc2 := by have h := hto 14 (by decide); simp only [Array.getD_eq_getD_getElem?] at h; exact h
  have t15 : (tm[60]?.getD undef) = .string (strOfNums out) := by have h := hto 15 (by decide); simp only [Array.getD_eq_getD_getElem?] at h; exact h
  have t16 : (tm[61]?.getD undef) = .bool true := by have h := hto 16 (by decide); simp only [Array.getD_eq_getD_getElem?] at h; exact h
  have t17 : (tm[62]?.getD undef) = .bool true := by have h := hto 17 (by decide); simp only [Array.getD_eq_getD_getElem?] at h; exact h
  have t18 : (tm[63]?.getD undef) = .bool true := by have h := hto 18 (by decide); simp only [Array.getD_eq_getD_getElem?] at h; exact h
  have t19 : (tm[64]?.getD undef) = .int .i64 er := by have h := hto 19 (by decide); simp only [Array.getD_eq_getD_getElem?] at h; exact h
  have t20 : (tm[65]?.getD undef) = .int .i64 er := by have h := hto 20 (by decide); simp only [Array.getD_eq_getD_getElem?] at h; exact h
  have t21 : (tm[66]?.getD undef) = .bool true := by have h := hto 21 (by decide); simp only [Array.getD_eq_getD_getElem?] at h; exact h
  have t22 : (tm[67]?.getD undef) = .bool true := by have h := hto 22 (by decide); simp only [Array.getD_eq_getD_getElem?] at h; exact h
  have t23 : (tm[68]?.getD undef) = .bool true := by have h := hto 23 (by decide); simp only [Array.getD_eq_getD_getElem?] at h; exact h
  have t24 : (tm[69]?.getD undef) = .agg #[Value.slice la ln lc, Value.slice ra rn rc, Value.int .u64 C] := by have h := hto 24 (by decide); simp only [Array.getD_eq_getD_getElem?] at h; exact h
  have t25 : (tm[70]?.getD undef) = .bool ft := by have h := hto 25 (by decide); simp only [Array.getD_eq_getD_getElem?] at h; exact h
  have t26 : (tm[71]?.getD undef) = .agg #[Value.slice la ln lc, Value.slice ra rn rc, Value.int .u64 C] := by have h := hto 26 (by decide); simp only [Array.getD_eq_getD_getElem?] at h; exact h
  have t27 : (tm[72]?.getD undef) = .bool ft := by have h := hto 27 (by decide); simp only [Array.getD_eq_getD_getElem?] at h; exact h
  have t28 : (tm[73]?.getD undef) = .bool true := by have h := hto 28 (by decide); simp only [Array.getD_eq_getD_getElem?] at h; exact h
  have t29 : (tm[74]?.getD undef) = .bool true := by have h := hto 29 (by decide); simp only [Array.getD_eq_getD_getElem?] at h; exact h
  have t30 : (tm[4]?.getD undef) = .bool true := by have h := hto 30 (by decide); simp only [Array.getD_eq_getD_getElem?] at h; exact h
  clear hto
  generalize tm[4]?.getD undef = y4 at *
  generalize tm[45]?.getD undef = y45 at *
  generalize tm[46]?.getD undef = y46 at *
  generalize tm[47]?.getD undef = y47 at *
  generalize tm[48]?.getD undef = y48 at *
  generalize tm[49]?.getD undef = y49 at *
  generalize tm[50]?.getD undef = y50 at *
  generalize tm[51]?.getD undef = y51 at *
  generalize tm[52]?.getD undef = y52 at *
  generalize tm[53]?.getD undef = y53 at *
  generalize tm[54]?.getD undef = y54 at *
  generalize tm[55]?.getD undef = y55 at *
  generalize tm[56]?.getD undef = y56 at *
  generalize tm[57]?.getD undef = y57 at *
  generalize tm[58]?.getD undef = y58 at *
  generalize tm[59]?.getD undef = y59 at *
  generalize tm[60]?.getD undef = y60 at *
  generalize tm[61]?.getD undef = y61 at *
  generalize tm[62]?.getD undef = y62 at *
  generalize tm[63]?.getD undef = y63 at *
  generalize tm[64]?.getD undef = y64 at *
  generalize tm[65]?.getD undef = y65 at *
  generalize tm[66]?.getD undef = y66 at *
  generalize tm[67]?.getD undef = y67 at *
  generalize tm[68]?.getD undef = y68 at *
  generalize tm[69]?.getD undef = y69 at *
  generalize tm[70]?.getD undef = y70 at *
  generalize tm[71]?.getD undef = y71 at *
  generalize tm[72]?.getD undef = y72 at *
  generalize tm[73]?.getD undef = y73 at *
  generalize tm[74]?.getD undef = y74 at *
  clear hfr hsz tm
  obtain rfl := t30
  have HB9 : Hid (Below w.heap.size w w9) := HB6.out.trans ((grown_below7 hJ).mono HB6.out.size)
  clear t0 t1 t2 t3 t4 t5 t6 t7 t8 t9 t10 t11 t12 t13 t14 t15 t16 t17 t18 t19 t20 t21 t22 t23 t24 t25 t26 t27 t28 t29 hJ
  go_wp2
  go_ret
  exact ⟨rfl, HB9.out⟩

set_option maxRecDepth 100000 in
theorem lifted (os : Os) (started : os.Started) (H : Type) (enc : TypeId × Value → H) :
    ReturnsInHanded {} Try.checked os 3 .any (Rows.specTellsSpec.pre6 enc Try.prog Try.f3 Rows.specTellsRow.domain false) (Rows.specTellsSpec.post enc Try.prog Try.f3 false true false false) := by
  refine returnsInHanded_of_change (C := Try.checked) own started (by kernel_rfl) Try.func3
    (ChangeSpec.witness6 (enc := enc) (C := Try.checked) false ⟨#[], #[.slice none 0 0, .agg #[.slice none 0 0, .slice none 0 0, .int .u64 0]], []⟩ 8 (by kernel_rfl) (by kernel_rfl) (by kernel_rfl) (by kernel_rfl)) ?_
  intro W base args ds gs before hval0 hW hcnd _
  have hval : ∀ (j : Nat) t v, Try.f3.params[j]? = some t → args[j]? = some v → Value.okWide Try.prog W .any base t v := hval0
  have hW' := hW
  obtain ⟨p, q, hA0, hV, rfl, hfz, hnd⟩ := hW
  have hA : DataW.TrodAll enc Try.prog W 0 (fun _ => true) true Try.f3.params.toList args.toList ds p := hA0
  rw [Try.params3] at hA hval
  obtain ⟨v0, vs0, d0, ds0, p0, q0, hargs, rfl, rfl, h0, r0⟩ := trodAll_cons hA
  obtain ⟨v1, vs1, d1, ds1, p1, q1, rfl, rfl, rfl, h1, r1⟩ := trodAll_cons r0
  obtain ⟨rfl, rfl, rfl⟩ := trodAll_nil r1
  obtain rfl : args = #[v0, v1] := by cases args; simp_all
  obtain ⟨rfl, rfl⟩ := trodVars_none hV
  obtain ⟨a0, len0, cap0, rfl⟩ := okWide_slice Try.underlying22 (hval 0 22 v0 rfl rfl)
  have k0 := h0
  have lt0 : ∀ x ∈ p0, x.block < W.heap.size := by obtain ⟨m, hm⟩ := k0; exact DataW.trod_lt m _ _ _ hm
  obtain ⟨z0, w0⟩ : ∃ zs, IsRow .u8 W a0 len0 cap0 zs := by
    obtain ⟨fuel, hf⟩ := h0
    rcases open_ints Try.underlying22 Try.underlying5 (by kernel_rfl) hf with ⟨hcs, _⟩ | ⟨x, l, c, zs, hcs, _, hl, hm, hz, _, hcell, hwz⟩
    · simp [Value.cells] at hcs
      obtain ⟨rfl, rfl, rfl⟩ := hcs
      exact ⟨[], .inl ⟨rfl, rfl, rfl, rfl⟩⟩
    · simp [Value.cells] at hcs
      obtain ⟨rfl, rfl, rfl⟩ := hcs
      exact ⟨zs, .inr ⟨_, rfl, hl, hm, by simpa using hz, hcell, hwz⟩⟩
  have k1 := h1
  have lt1 : ∀ x ∈ p1, x.block < W.heap.size := by obtain ⟨m, hm⟩ := k1; exact DataW.trod_lt m _ _ _ hm
  obtain ⟨x1, rfl, w1⟩ := Rw.open (hval 1 26 v1 rfl rfl) h1
  clear hA0 hval0
  refine (walk a0 len0 cap0 z0 x1 W w0 w1).mono fun e W' ⟨he, bel⟩ => ?_
  subst he
  exact ⟨_, rfl, _, _, _, [], _, [], hW', trodAll_mk1 (shut_bool Try.underlying4 _), (trodAll_cons_mk (Below.trod laidOut (by kernel_rfl) (of_decide_eq_true (by kernel_rfl)) k0 bel lt0) (trodAll_cons_mk (Below.trod laidOut (by kernel_rfl) (of_decide_eq_true (by kernel_rfl)) k1 bel lt1) trodAll_mk0)), rfl, bel.frame _, fun h => by cases h⟩

theorem over : Rows.specTellsRow.holds Try.pinned (OpenSpec.ofChange Rows.specTellsSpec) :=
  OpenClaim.holds_of_wide 3 Try.f3 rfl rfl rfl rfl rfl rfl rfl ⟨rfl, rfl, rfl, rfl, rfl⟩ rfl rfl rfl rfl rfl (by kernel_rfl) Try.func3 (by kernel_rfl)
    (of_decide_eq_true (by kernel_rfl)) (by unfold Func.isWrapper; first | (rw [if_pos (by decide +kernel)]; kernel_rfl) | (rw [if_neg (by decide +kernel)]; exact ⟨rfl, rfl⟩))
    (fun os started H enc _ => lifted os started H enc)

/-- the statement -/
theorem proved : Rows.SpecTellsSaid := over
#print axioms proved
end Go.Proofs.Ytdeicfdbjmpliaa.specTells
