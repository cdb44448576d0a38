/- For every file and all costs, RulesTells answers true, and turns nothing that was there. No condition. -/
import Derived.Test.YtjmabjeaodojeaaGreatRows
import Derived.Test.YtjmabjeaodojeaaGreatFileAwake
import Derived.Test.YtjmabjeaodojeaaGreatPackN
import Derived.Test.YtjmabjeaodojeaaGreatPackO
import Derived.Test.YtjmabjeaodojeaaGreatPackR
import Derived.Test.YtjmabjeaodojeaaGreatFileRefR
import Derived.Test.YtjmabjeaodojeaaGreatPackI
import Derived.WalkKit
import Derived.ProofKit
import Derived.OpenShut
import Derived.ShutString
import Derived.ChangeOld
import Derived.Below
import Derived.Deep.Matrix
import Derived.SizedLaws
namespace Go.Proofs.YtjmabjeaodojeaaGreat.rulesTells
open Go.ChangeShapes Go.WideShapes Go.ChangeAt Go.RowKit
set_option linter.unusedVariables false

theorem own : ownKnob Tryz.prog.godebug = none := by kernel_rfl
theorem laidOut : laidOutB Tryz.prog = true := by kernel_rfl

/-- a slice of integers that came in -/
def IsRow (k : IntKind) (w : World) (a : Option Addr) (len cap : Nat) (zs : List Int) : Prop :=
  (a = none ∧ len = 0 ∧ cap = 0 ∧ zs = []) ∨
  ∃ x, a = some x ∧ len ≤ cap ∧ cap ≤ maxLen ∧ zs.length = cap ∧ (∀ i, i < zs.length → w.cell? (x.add i) = some (.int k (zs.getD i 0))) ∧ ∀ n ∈ zs, (Lit.int k n).wf = true

section
variable {o : Oper} {a : Act} {w : World} {x y : Operand} {ts : Array TypeId} {u v : Value}
theorem run_same8 (ho : o.op = .call { callee := .value (.func 10), args := #[x, y], argTypes := ts }) (hx : a.eval x = u) (hy : a.eval y = v) : (execOp a.eval o).run Tryz.prog w = .ok (.enter 10 #[u, v]) w := by
  subst hx hy
  simp only [execOp, ho]
  go_simp
theorem run_eqlI8 {m n : Int} (ho : o.op = .binOp .eql 3 x y 3) (hx : a.eval x = .int .i64 m) (hy : a.eval y = .int .i64 n) : (execOp a.eval o).run Tryz.prog w = .ok (.value (.bool (m == n))) w := by
  simp only [execOp, ho, hx, hy]
  go_simp
theorem run_check8 (ho : o.op = .call { callee := .value (.func 11), args := #[x], argTypes := ts }) (hx : a.eval x = v) : (execOp a.eval o).run Tryz.prog w = .ok (.enter 11 #[v]) w := by
  subst hx
  simp only [execOp, ho]
  go_simp
theorem run_rcheck8 (ho : o.op = .call { callee := .value (.func 12), args := #[x], argTypes := ts }) (hx : a.eval x = v) : (execOp a.eval o).run Tryz.prog w = .ok (.enter 12 #[v]) w := by
  subst hx
  simp only [execOp, ho]
  go_simp
end

/-! ### STEP 1: the walk -/
set_option maxHeartbeats 6400000 in
set_option maxRecDepth 100000 in
theorem walk (a0 : Option Addr) (len0 cap0 : Nat) (z0 : List Int) (x1 : Cw) (w : World) (w0 : IsRow .u8 w a0 len0 cap0 z0) (w1 : x1.Good w) (n1 : x1.a = none → x1.cap = 0) :
    Calls Tryz.prog 3 #[.slice a0 len0 cap0, x1.v] w fun e w' => e = .returned (.bool true) ∧ Below w.heap.size w w' := by
  have hn00 : a0 = none → cap0 = 0 := by
    rcases w0 with ⟨_, _, h, _⟩ | ⟨x, h, _⟩
    · exact fun _ => h
    · intro h'; rw [h] at h'; cases h'
  have HN0 := Lib.hid hn00
  clear hn00
  have hs0 := Sl.of_row w0
  generalize z0.take len0 = xs at hs0
  have hcm0 := hs0.2.2.1
  have hnc0 := hs0.2.1
  unfold maxLen at hcm0
  have HS := Lib.hid hs0
  have HLEN0 := Lib.hid hs0.1
  clear hs0 w0
  obtain ⟨cm, cl, co, ct, ca, cn, ccap, cxs⟩ := x1
  have HX := Lib.hid w1
  have hccap := w1.1.2.1
  have hccap' := w1.1.2.2.1
  unfold maxLen at hccap'
  clear w1 n1
  obtain ⟨ok, hok⟩ : ∃ ok, File.check (Cw.c (⟨cm, cl, co, ct, ca, cn, ccap, cxs⟩ : Cw)) = ok := ⟨_, rfl⟩
  obtain ⟨out, hout⟩ : ∃ o, (if ok = true then File.write (Cw.c (⟨cm, cl, co, ct, ca, cn, ccap, cxs⟩ : Cw)) else []) = o := ⟨_, rfl⟩
  obtain ⟨er, her⟩ : ∃ o : Int, (if ok = true then 0 else 60) = o := ⟨_, rfl⟩
  obtain ⟨gx, hgx⟩ : ∃ g, File.read xs = g := ⟨_, rfl⟩
  have HOK := Lib.hid hok
  have HOUT := Lib.hid hout
  have HER := Lib.hid her
  have HGX := Lib.hid hgx
  have hmx : Tryz.prog.follows .mixedOrders = true := by kernel_rfl
  have HMX := Lib.hid hmx
  have HBX : Hid (∀ o, Below w.heap.size w (w.alloc o)) := fun o => (Below.refl _ w).alloc (Nat.le_refl _) o
  have HNW : Hid (∀ o, (w.alloc o).heap[w.heap.size]? = some o) := fun o => heap_alloc_new w o
  have HSZ : Hid (∀ o, (w.alloc o).heap.size = w.heap.size + 1) := fun o => World.size_alloc w o
  clear hok hout her hgx hmx
  simp only [Cw.v, Cw.cells]
  have hor : 3000 < len0 ∨ len0 ≤ 3000 := by omega
  have hib : (3000 < len0 → (3000 : Int) < (len0 : Int)) ∧ (len0 ≤ 3000 → ¬ (3000 : Int) < (len0 : Int)) := ⟨fun h => by omega, fun h => by omega⟩
  rcases hor with g0 | g0
  · have hi0 := hib.1 g0
    clear hib
    go_enter Tryz.func3, Tryz.ntmps3
    go_wp2_with fail
    refine (awake_any _).mono ?_
    rintro e v1 ⟨rfl, B1⟩
    have HB1 : Hid (Below w.heap.size w v1) := (HBX.out _).trans (B1.mono (by simp))
    clear B1
    go_wp2
    go_ret
    exact ⟨rfl, HB1.out⟩
  have hi0 := hib.2 g0
  clear hib
  go_enter Tryz.func3, Tryz.ntmps3
  go_wp2_with fail
  refine (awake_any _).mono ?_
  rintro e v1 ⟨rfl, B1⟩
  have HB1 : Hid (Below w.heap.size w v1) := (HBX.out _).trans (B1.mono (by simp))
  have HP31 : Hid (v1.heap[w.heap.size]? = some (.cells #[Value.int .u64 cm, Value.int .u64 cl, Value.int .u64 co, Value.int .u64 ct, Value.slice ca cn ccap] 26 (0, 0))) := (B1.block _ (by rw [HSZ.out]; exact Nat.lt_succ_self _)).trans (HNW.out _)
  have HX1 := Lib.hid (HX.out.below HB1.out (Nat.le_refl _))
  have HS1 := Lib.hid (HS.out.below HB1.out (Nat.le_refl _))
  have hc4 : v1.cell? ⟨w.heap.size, 4, none⟩ = some (.slice ca cn ccap) := by simp [World.cell?, HP31.out]
  clear B1 HBX HNW HSZ HX HS
  go_wp2_with fail
  refine (rfew_any ca cn ccap cxs 300 (by omega) v1 HX1.out.1).mono ?_
  rintro e v2 ⟨he | ⟨he, -, hn300⟩, hw2⟩
  · subst he
    obtain rfl := hw2.symm
    go_wp2
    go_ret
    exact ⟨rfl, HB1.out⟩
  subst he
  obtain rfl := hw2.symm
  clear hc4
  go_wp2_with fail
  refine (fread_is a0 len0 cap0 xs gx v1 HS1.out HN0.out (by omega) (split_short (by have := HLEN0.out; omega)) HGX.out).mono ?_
  rintro e v3 ⟨⟨m3, l3, o3, t3, p3, n3, c3, xs3⟩, rfl, hcc, hgd, -, -, hst⟩
  have HC3 : Hid (Cw.c (⟨m3, l3, o3, t3, p3, n3, c3, xs3⟩ : Cw) = gx.c) := hcc
  have HG3a := Lib.hid hgd
  have HB3 : Hid (Below w.heap.size w v3) := HB1.out.trans (hst.mono HB1.out.size)
  have HP33 := Lib.hid ((hst.block _ (Array.getElem?_eq_some_iff.1 HP31.out).1).trans HP31.out)
  have HX3 := Lib.hid (HX1.out.below hst (Nat.le_refl _))
  have HS3 := Lib.hid (HS1.out.below hst (Nat.le_refl _))
  clear hcc hgd hst HP31 HX1 HS1
  simp only [Cw.v, Cw.cells]
  go_wp2_with fail
  refine (rread8_is a0 len0 cap0 xs gx _ (HS3.out.alloc _) (by omega) (split_short (by have := HLEN0.out; omega)) HGX.out).mono ?_
  rintro e v4 ⟨⟨m4, l4, o4, t4, p4, n4, c4, xs4⟩, rfl, hcc, hgd, -, -, hb4⟩
  have h34 : Below v3.heap.size v3 v4 := ((Below.refl v3.heap.size v3).alloc (Nat.le_refl _) _).trans (hb4.mono (by simp))
  have hp1 : v4.heap[v3.heap.size]? = some (.cells #[Value.int .u64 m3, Value.int .u64 l3, Value.int .u64 o3, Value.int .u64 t3, Value.slice p3 n3 c3] 26 (0, 0)) := (hb4.block _ (by simp)).trans (heap_alloc_new v3 _)
  have HP1a := Lib.hid hp1
  have HC4 : Hid (Cw.c (⟨m4, l4, o4, t4, p4, n4, c4, xs4⟩ : Cw) = gx.c) := hcc
  have HG4a := Lib.hid hgd
  have HG3b := Lib.hid (HG3a.out.below h34 (Nat.le_refl _))
  have HB4 : Hid (Below w.heap.size w v4) := HB3.out.trans (h34.mono HB3.out.size)
  have HP34 := Lib.hid ((h34.block _ (Array.getElem?_eq_some_iff.1 HP33.out).1).trans HP33.out)
  have HX4 := Lib.hid (HX3.out.below h34 (Nat.le_refl _))
  have HP34a : Hid (∀ o, (v4.alloc o).heap[w.heap.size]? = some (.cells #[Value.int .u64 cm, Value.int .u64 cl, Value.int .u64 co, Value.int .u64 ct, Value.slice ca cn ccap] 26 (0, 0))) := fun o => ((World.grownBy_alloc v4 o none).block _ (Array.getElem?_eq_some_iff.1 HP34.out).1 (by simp)).trans HP34.out
  clear hcc hgd hb4 h34 hp1 HP33 HX3 HS3 HG3a
  simp only [Cw.v, Cw.cells]
  go_wp2_with (refine wpList_load_row_w (by rfl) 26 (.tmp 3) (by rfl) w.heap.size (by rfl) 26 #[Value.int .u64 cm, Value.int .u64 cl, Value.int .u64 co, Value.int .u64 ct, Value.slice ca cn ccap] (0, 0) _ (HP34a.out _) Tryz.underlying26 (by rfl) (show _ = some #[Value.int .u64 cm, Value.int .u64 cl, Value.int .u64 co, Value.int .u64 ct, Value.slice ca cn ccap].size from info_cost5) ?_)
  refine (fwrite_is (⟨cm, cl, co, ct, ca, cn, ccap, cxs⟩ : Cw) ok out er _ (HX4.out.alloc _) HOK.out HOUT.out HER.out).mono ?_
  rintro e v5 ⟨wa1, wn1, wc1, rfl, hwn1, hw1, -, hb5, -⟩
  have h45 : Below v4.heap.size v4 v5 := ((Below.refl v4.heap.size v4).alloc (Nat.le_refl _) _).trans (hb5.mono (by simp))
  have hp2 : v5.heap[v4.heap.size]? = some (.cells #[Value.int .u64 m4, Value.int .u64 l4, Value.int .u64 o4, Value.int .u64 t4, Value.slice p4 n4 c4] 26 (0, 0)) := (hb5.block _ (by simp)).trans (heap_alloc_new v4 _)
  have HP2a := Lib.hid hp2
  have HP1b := Lib.hid ((h45.block _ (Array.getElem?_eq_some_iff.1 HP1a.out).1).trans HP1a.out)
  have HB5 : Hid (Below w.heap.size w v5) := HB4.out.trans (h45.mono HB4.out.size)
  have HP35 := Lib.hid ((h45.block _ (Array.getElem?_eq_some_iff.1 HP34.out).1).trans HP34.out)
  have HX5 := Lib.hid (HX4.out.below h45 (Nat.le_refl _))
  have HG3c := Lib.hid (HG3b.out.below h45 (Nat.le_refl _))
  have HG4c := Lib.hid (HG4a.out.below h45 (Nat.le_refl _))
  have HSW1a := Lib.hid hw1
  clear hwn1 hw1 hb5 h45 hp2 HP34 HP34a HX4 HP1a HG3b HG4a
  go_wp2_with (refine wpList_load_row_w (by rfl) 26 (.tmp 3) (by rfl) w.heap.size (by rfl) 26 #[Value.int .u64 cm, Value.int .u64 cl, Value.int .u64 co, Value.int .u64 ct, Value.slice ca cn ccap] (0, 0) _ HP35.out Tryz.underlying26 (by rfl) (show _ = some #[Value.int .u64 cm, Value.int .u64 cl, Value.int .u64 co, Value.int .u64 ct, Value.slice ca cn ccap].size from info_cost5) ?_)
  refine (rwrite8_is (⟨cm, cl, co, ct, ca, cn, ccap, cxs⟩ : Cw) ok out er v5 HX5.out (by show cn ≤ 20000; omega) HOK.out HOUT.out HER.out).mono ?_
  rintro e v6 ⟨wa2, wn2, wc2, rfl, hwn2, hw2, hb6⟩
  have HB6 : Hid (Below w.heap.size w v6) := HB5.out.trans (hb6.mono HB5.out.size)
  have HP1 : Hid (v6.drew.heap[v3.heap.size]? = _) := (hb6.block _ (Array.getElem?_eq_some_iff.1 HP1b.out).1).trans HP1b.out
  have HP2 : Hid (v6.drew.heap[v4.heap.size]? = _) := (hb6.block _ (Array.getElem?_eq_some_iff.1 HP2a.out).1).trans HP2a.out
  have HP3 : Hid (v6.drew.heap[w.heap.size]? = _) := (hb6.block _ (Array.getElem?_eq_some_iff.1 HP35.out).1).trans HP35.out
  have HX6 := Lib.hid (HX5.out.below hb6 (Nat.le_refl _))
  have HG3 := Lib.hid (HG3c.out.below hb6 (Nat.le_refl _))
  have HG4 := Lib.hid (HG4c.out.below hb6 (Nat.le_refl _))
  have HSW1 := Lib.hid (HSW1a.out.below hb6 (Nat.le_refl _))
  have HSW2 := Lib.hid hw2
  clear hwn2 hw2 hb6 HP35 HX5 HP1b HP2a HG3c HG4c HSW1a
  go_wp2_with fail
  refine wp_region_told2 HMX.out 36 [(49, 49), (50, 50), (51, 51), (52, 52), (53, 53), (54, 54), (55, 55), (56, 56), (57, 57), (58, 58), (59, 59), (60, 60), (61, 61), (62, 62), (63, 63), (64, 64), (65, 65), (66, 66), (67, 67), (68, 68), (69, 69), (70, 70), (71, 71), (72, 72), (73, 73), (74, 74), (75, 75), (76, 76), (77, 77), (78, 78), (79, 79), (80, 80), (81, 81), (82, 82), (83, 83), (4, 4)]
    (fun (j : Nat) (v u : Value) (w0 : World) => match j with
      | 0 => v = .bool true
      | 1 => v = .bool true
      | 2 => v = .agg #[Value.int .u64 m3, Value.int .u64 l3, Value.int .u64 o3, Value.int .u64 t3, Value.slice p3 n3 c3]
      | 3 => v = .agg #[Value.int .u64 m4, Value.int .u64 l4, Value.int .u64 o4, Value.int .u64 t4, Value.slice p4 n4 c4]
      | 4 => v = .bool true
      | 5 => v = .bool true
      | 6 => v = .bool true
      | 7 => v = .int .i64 gx.at_
      | 8 => v = .int .i64 gx.at_
      | 9 => v = .bool true
      | 10 => v = .bool true
      | 11 => v = .bool true
      | 12 => v = .int .i64 gx.e
      | 13 => v = .int .i64 gx.e
      | 14 => v = .bool true
      | 15 => v = .bool true
      | 16 => v = .bool true
      | 17 => v = .slice wa1 wn1 wc1
      | 18 => v = .string (strOfNums out)
      | 19 => v = .slice wa2 wn2 wc2
      | 20 => v = .string (strOfNums out)
      | 21 => v = .bool true
      | 22 => v = .bool true
      | 23 => v = .bool true
      | 24 => v = .int .i64 er
      | 25 => v = .int .i64 er
      | 26 => v = .bool true
      | 27 => v = .bool true
      | 28 => v = .bool true
      | 29 => v = .agg #[Value.int .u64 cm, Value.int .u64 cl, Value.int .u64 co, Value.int .u64 ct, Value.slice ca cn ccap]
      | 30 => v = .bool ok
      | 31 => v = .agg #[Value.int .u64 cm, Value.int .u64 cl, Value.int .u64 co, Value.int .u64 ct, Value.slice ca cn ccap]
      | 32 => v = .bool ok
      | 33 => v = .bool true
      | 34 => v = .bool true
      | 35 => v = .bool true
      | _ => True)
    (fun W => (v6).drew.grownBy W none) (fun _ _ _ => False) (by kernel_rfl) (by kernel_rfl) (World.grownBy.refl _ _) (fun _ _ h1 h2 => h1.trans h2) (fun _ _ _ _ h => h.elim) ?_ ?_ ?_ ?_
  · intro j v u w0 w' h hg
    match j, h with
    | 0, h => exact h
    | 1, h => exact h
    | 2, h => exact h
    | 3, h => exact h
    | 4, h => exact h
    | 5, h => exact h
    | 6, h => exact h
    | 7, h => exact h
    | 8, h => exact h
    | 9, h => exact h
    | 10, h => exact h
    | 11, h => exact h
    | 12, h => exact h
    | 13, h => exact h
    | 14, h => exact h
    | 15, h => exact h
    | 16, h => exact h
    | 17, h => exact h
    | 18, h => exact h
    | 19, h => exact h
    | 20, h => exact h
    | 21, h => exact h
    | 22, h => exact h
    | 23, h => exact h
    | 24, h => exact h
    | 25, h => exact h
    | 26, h => exact h
    | 27, h => exact h
    | 28, h => exact h
    | 29, h => exact h
    | 30, h => exact h
    | 31, h => exact h
    | 32, h => exact h
    | 33, h => exact h
    | 34, h => exact h
    | 35, h => exact h
    | j + 36, h => exact h
  · intro j v u a0 w0 w' hne h hr
    match j, hne, h with
    | 0, hne, h => exact h
    | 1, hne, h => exact h
    | 2, hne, h => exact h
    | 3, hne, h => exact h
    | 4, hne, h => exact h
    | 5, hne, h => exact h
    | 6, hne, h => exact h
    | 7, hne, h => exact h
    | 8, hne, h => exact h
    | 9, hne, h => exact h
    | 10, hne, h => exact h
    | 11, hne, h => exact h
    | 12, hne, h => exact h
    | 13, hne, h => exact h
    | 14, hne, h => exact h
    | 15, hne, h => exact h
    | 16, hne, h => exact h
    | 17, hne, h => exact h
    | 18, hne, h => exact h
    | 19, hne, h => exact h
    | 20, hne, h => exact h
    | 21, hne, h => exact h
    | 22, hne, h => exact h
    | 23, hne, h => exact h
    | 24, hne, h => exact h
    | 25, hne, h => exact h
    | 26, hne, h => exact h
    | 27, hne, h => exact h
    | 28, hne, h => exact h
    | 29, hne, h => exact h
    | 30, hne, h => exact h
    | 31, hne, h => exact h
    | 32, hne, h => exact h
    | 33, hne, h => exact h
    | 34, hne, h => exact h
    | 35, hne, h => exact h
    | j + 36, _, h => exact h
  · intro i1 o ho a1 w1 hJ hw ht
    match i1, ho with
    | 0, ho =>
      obtain rfl := Option.some.inj ho
      exact StepsTo.move rfl (.tmp 5) (.inl rfl) ⟨(hw 5 (by kernel_rfl)), fun h => absurd h (by decide), fun _ => World.grownBy.refl _ _⟩
    | 1, ho =>
      obtain rfl := Option.some.inj ho
      exact StepsTo.move rfl (.tmp 49) (.inl rfl) ⟨(ht 0 (by kernel_rfl)), fun h => absurd h (by decide), fun _ => World.grownBy.refl _ _⟩
    | 2, ho =>
      obtain rfl := Option.some.inj ho
      refine StepsTo.guarded (wanted_of rfl rfl (show a1.eval (.tmp 50) = .bool true from (ht 1 (by kernel_rfl)))) ?_
      have e1 : a1.eval (.tmp 6) = .pointer (some ⟨v3.heap.size, 0, none⟩) := (hw 6 (by kernel_rfl))
      exact StepsTo.load_row rfl 26 (.tmp 6) rfl e1 ((hJ.block _ (Array.getElem?_eq_some_iff.1 HP1.out).1 (by simp)).trans HP1.out) Tryz.underlying26 rfl (show _ = some (#[Value.int .u64 m3, Value.int .u64 l3, Value.int .u64 o3, Value.int .u64 t3, Value.slice p3 n3 c3]).size from info_cost5) ⟨rfl, fun h => absurd h (by decide), fun _ => World.grownBy.refl _ _⟩
    | 3, ho =>
      obtain rfl := Option.some.inj ho
      refine StepsTo.guarded (wanted_of rfl rfl (show a1.eval (.tmp 50) = .bool true from (ht 1 (by kernel_rfl)))) ?_
      have e1 : a1.eval (.tmp 9) = .pointer (some ⟨v4.heap.size, 0, none⟩) := (hw 9 (by kernel_rfl))
      exact StepsTo.load_row rfl 26 (.tmp 9) rfl e1 ((hJ.block _ (Array.getElem?_eq_some_iff.1 HP2.out).1 (by simp)).trans HP2.out) Tryz.underlying26 rfl (show _ = some (#[Value.int .u64 m4, Value.int .u64 l4, Value.int .u64 o4, Value.int .u64 t4, Value.slice p4 n4 c4]).size from info_cost5) ⟨rfl, fun h => absurd h (by decide), fun _ => World.grownBy.refl _ _⟩
    | 4, ho =>
      obtain rfl := Option.some.inj ho
      refine StepsTo.guarded (wanted_of rfl rfl (show a1.eval (.tmp 50) = .bool true from (ht 1 (by kernel_rfl)))) ?_
      have e1 : a1.eval (.tmp 51) = .agg #[Value.int .u64 m3, Value.int .u64 l3, Value.int .u64 o3, Value.int .u64 t3, Value.slice p3 n3 c3] := (ht 2 (by kernel_rfl))
      have e2 : a1.eval (.tmp 52) = .agg #[Value.int .u64 m4, Value.int .u64 l4, Value.int .u64 o4, Value.int .u64 t4, Value.slice p4 n4 c4] := (ht 3 (by kernel_rfl))
      have hb := grown_below7 hJ
      refine StepsTo.enter rfl _ _ (run_same8 rfl e1 e2) (rsame8_is (⟨m3, l3, o3, t3, p3, n3, c3, xs3⟩ : Cw) (⟨m4, l4, o4, t4, p4, n4, c4, xs4⟩ : Cw) w1 (HG3.out.below hb (Nat.le_refl _)) (HG4.out.below hb (Nat.le_refl _)) (by rw [HC3.out, HC4.out])) (fun e w' h => ?_)
      exact ⟨_, h.1, rfl, fun h => absurd h (by decide), fun _ => below_grew7 h.2⟩
    | 5, ho =>
      obtain rfl := Option.some.inj ho
      exact StepsTo.of_run rfl (run_pick rfl (show a1.eval (.tmp 50) = .bool true from (ht 1 (by kernel_rfl))) (show a1.eval (.tmp 53) = .bool true from (ht 4 (by kernel_rfl))) rfl) ⟨rfl, fun h => absurd h (by decide), fun _ => World.grownBy.refl _ _⟩
    | 6, ho =>
      obtain rfl := Option.some.inj ho
      exact StepsTo.move rfl (.tmp 54) (.inl rfl) ⟨(ht 5 (by kernel_rfl)), fun h => absurd h (by decide), fun _ => World.grownBy.refl _ _⟩
    | 7, ho =>
      obtain rfl := Option.some.inj ho
      refine StepsTo.guarded (wanted_of rfl rfl (show a1.eval (.tmp 55) = .bool true from (ht 6 (by kernel_rfl)))) ?_
      exact StepsTo.move rfl (.tmp 7) (.inl rfl) ⟨(hw 7 (by kernel_rfl)), fun h => absurd h (by decide), fun _ => World.grownBy.refl _ _⟩
    | 8, ho =>
      obtain rfl := Option.some.inj ho
      refine StepsTo.guarded (wanted_of rfl rfl (show a1.eval (.tmp 55) = .bool true from (ht 6 (by kernel_rfl)))) ?_
      exact StepsTo.move rfl (.tmp 10) (.inl rfl) ⟨(hw 10 (by kernel_rfl)), fun h => absurd h (by decide), fun _ => World.grownBy.refl _ _⟩
    | 9, ho =>
      obtain rfl := Option.some.inj ho
      refine StepsTo.guarded (wanted_of rfl rfl (show a1.eval (.tmp 55) = .bool true from (ht 6 (by kernel_rfl)))) ?_
      exact StepsTo.of_run rfl (run_eqlI8 rfl (show a1.eval (.tmp 56) = .int .i64 gx.at_ from (ht 7 (by kernel_rfl))) (show a1.eval (.tmp 57) = .int .i64 gx.at_ from (ht 8 (by kernel_rfl)))) ⟨by show Value.bool (gx.at_ == gx.at_) = _; simp, fun h => absurd h (by decide), fun _ => World.grownBy.refl _ _⟩
    | 10, ho =>
      obtain rfl := Option.some.inj ho
      exact StepsTo.of_run rfl (run_pick rfl (show a1.eval (.tmp 55) = .bool true from (ht 6 (by kernel_rfl))) (show a1.eval (.tmp 58) = .bool true from (ht 9 (by kernel_rfl))) rfl) ⟨rfl, fun h => absurd h (by decide), fun _ => World.grownBy.refl _ _⟩
    | 11, ho =>
      obtain rfl := Option.some.inj ho
      exact StepsTo.move rfl (.tmp 59) (.inl rfl) ⟨(ht 10 (by kernel_rfl)), fun h => absurd h (by decide), fun _ => World.grownBy.refl _ _⟩
    | 12, ho =>
      obtain rfl := Option.some.inj ho
      refine StepsTo.guarded (wanted_of rfl rfl (show a1.eval (.tmp 60) = .bool true from (ht 11 (by kernel_rfl)))) ?_
      exact StepsTo.move rfl (.tmp 8) (.inl rfl) ⟨(hw 8 (by kernel_rfl)), fun h => absurd h (by decide), fun _ => World.grownBy.refl _ _⟩
    | 13, ho =>
      obtain rfl := Option.some.inj ho
      refine StepsTo.guarded (wanted_of rfl rfl (show a1.eval (.tmp 60) = .bool true from (ht 11 (by kernel_rfl)))) ?_
      exact StepsTo.move rfl (.tmp 11) (.inl rfl) ⟨(hw 11 (by kernel_rfl)), fun h => absurd h (by decide), fun _ => World.grownBy.refl _ _⟩
    | 14, ho =>
      obtain rfl := Option.some.inj ho
      refine StepsTo.guarded (wanted_of rfl rfl (show a1.eval (.tmp 60) = .bool true from (ht 11 (by kernel_rfl)))) ?_
      exact StepsTo.of_run rfl (run_eqlE rfl (show a1.eval (.tmp 61) = .int .i64 gx.e from (ht 12 (by kernel_rfl))) (show a1.eval (.tmp 62) = .int .i64 gx.e from (ht 13 (by kernel_rfl)))) ⟨by show Value.bool (gx.e == gx.e) = _; simp, fun h => absurd h (by decide), fun _ => World.grownBy.refl _ _⟩
    | 15, ho =>
      obtain rfl := Option.some.inj ho
      exact StepsTo.of_run rfl (run_pick rfl (show a1.eval (.tmp 60) = .bool true from (ht 11 (by kernel_rfl))) (show a1.eval (.tmp 63) = .bool true from (ht 14 (by kernel_rfl))) rfl) ⟨rfl, fun h => absurd h (by decide), fun _ => World.grownBy.refl _ _⟩
    | 16, ho =>
      obtain rfl := Option.some.inj ho
      exact StepsTo.move rfl (.tmp 64) (.inl rfl) ⟨(ht 15 (by kernel_rfl)), fun h => absurd h (by decide), fun _ => World.grownBy.refl _ _⟩
    | 17, ho =>
      obtain rfl := Option.some.inj ho
      refine StepsTo.guarded (wanted_of rfl rfl (show a1.eval (.tmp 65) = .bool true from (ht 16 (by kernel_rfl)))) ?_
      exact StepsTo.move rfl (.tmp 12) (.inl rfl) ⟨(hw 12 (by kernel_rfl)), fun h => absurd h (by decide), fun _ => World.grownBy.refl _ _⟩
    | 18, ho =>
      obtain rfl := Option.some.inj ho
      refine StepsTo.guarded (wanted_of rfl rfl (show a1.eval (.tmp 65) = .bool true from (ht 16 (by kernel_rfl)))) ?_
      exact StepsTo.of_run rfl (run_str rfl (show a1.eval (.tmp 66) = .slice wa1 wn1 wc1 from (ht 17 (by kernel_rfl))) (HSW1.out.below (grown_below7 hJ) (Nat.le_refl _))) ⟨rfl, fun h => absurd h (by decide), fun _ => World.grownBy.refl _ _⟩
    | 19, ho =>
      obtain rfl := Option.some.inj ho
      refine StepsTo.guarded (wanted_of rfl rfl (show a1.eval (.tmp 65) = .bool true from (ht 16 (by kernel_rfl)))) ?_
      exact StepsTo.move rfl (.tmp 14) (.inl rfl) ⟨(hw 14 (by kernel_rfl)), fun h => absurd h (by decide), fun _ => World.grownBy.refl _ _⟩
    | 20, ho =>
      obtain rfl := Option.some.inj ho
      refine StepsTo.guarded (wanted_of rfl rfl (show a1.eval (.tmp 65) = .bool true from (ht 16 (by kernel_rfl)))) ?_
      exact StepsTo.of_run rfl (run_str rfl (show a1.eval (.tmp 68) = .slice wa2 wn2 wc2 from (ht 19 (by kernel_rfl))) (HSW2.out.below (grown_below7 hJ) (Nat.le_refl _))) ⟨rfl, fun h => absurd h (by decide), fun _ => World.grownBy.refl _ _⟩
    | 21, ho =>
      obtain rfl := Option.some.inj ho
      refine StepsTo.guarded (wanted_of rfl rfl (show a1.eval (.tmp 65) = .bool true from (ht 16 (by kernel_rfl)))) ?_
      exact StepsTo.of_run rfl (run_eqlS rfl (show a1.eval (.tmp 67) = .string (strOfNums out) from (ht 18 (by kernel_rfl))) (show a1.eval (.tmp 69) = .string (strOfNums out) from (ht 20 (by kernel_rfl)))) ⟨rfl, fun h => absurd h (by decide), fun _ => World.grownBy.refl _ _⟩
    | 22, ho =>
      obtain rfl := Option.some.inj ho
      exact StepsTo.of_run rfl (run_pick rfl (show a1.eval (.tmp 65) = .bool true from (ht 16 (by kernel_rfl))) (show a1.eval (.tmp 70) = .bool true from (ht 21 (by kernel_rfl))) rfl) ⟨rfl, fun h => absurd h (by decide), fun _ => World.grownBy.refl _ _⟩
    | 23, ho =>
      obtain rfl := Option.some.inj ho
      exact StepsTo.move rfl (.tmp 71) (.inl rfl) ⟨(ht 22 (by kernel_rfl)), fun h => absurd h (by decide), fun _ => World.grownBy.refl _ _⟩
    | 24, ho =>
      obtain rfl := Option.some.inj ho
      refine StepsTo.guarded (wanted_of rfl rfl (show a1.eval (.tmp 72) = .bool true from (ht 23 (by kernel_rfl)))) ?_
      exact StepsTo.move rfl (.tmp 13) (.inl rfl) ⟨(hw 13 (by kernel_rfl)), fun h => absurd h (by decide), fun _ => World.grownBy.refl _ _⟩
    | 25, ho =>
      obtain rfl := Option.some.inj ho
      refine StepsTo.guarded (wanted_of rfl rfl (show a1.eval (.tmp 72) = .bool true from (ht 23 (by kernel_rfl)))) ?_
      exact StepsTo.move rfl (.tmp 15) (.inl rfl) ⟨(hw 15 (by kernel_rfl)), fun h => absurd h (by decide), fun _ => World.grownBy.refl _ _⟩
    | 26, ho =>
      obtain rfl := Option.some.inj ho
      refine StepsTo.guarded (wanted_of rfl rfl (show a1.eval (.tmp 72) = .bool true from (ht 23 (by kernel_rfl)))) ?_
      exact StepsTo.of_run rfl (run_eqlE rfl (show a1.eval (.tmp 73) = .int .i64 er from (ht 24 (by kernel_rfl))) (show a1.eval (.tmp 74) = .int .i64 er from (ht 25 (by kernel_rfl)))) ⟨by show Value.bool (er == er) = _; simp, fun h => absurd h (by decide), fun _ => World.grownBy.refl _ _⟩
    | 27, ho =>
      obtain rfl := Option.some.inj ho
      exact StepsTo.of_run rfl (run_pick rfl (show a1.eval (.tmp 72) = .bool true from (ht 23 (by kernel_rfl))) (show a1.eval (.tmp 75) = .bool true from (ht 26 (by kernel_rfl))) rfl) ⟨rfl, fun h => absurd h (by decide), fun _ => World.grownBy.refl _ _⟩
    | 28, ho =>
      obtain rfl := Option.some.inj ho
      exact StepsTo.move rfl (.tmp 76) (.inl rfl) ⟨(ht 27 (by kernel_rfl)), fun h => absurd h (by decide), fun _ => World.grownBy.refl _ _⟩
    | 29, ho =>
      obtain rfl := Option.some.inj ho
      refine StepsTo.guarded (wanted_of rfl rfl (show a1.eval (.tmp 77) = .bool true from (ht 28 (by kernel_rfl)))) ?_
      have e1 : a1.eval (.tmp 3) = .pointer (some ⟨w.heap.size, 0, none⟩) := (hw 3 (by kernel_rfl))
      exact StepsTo.load_row rfl 26 (.tmp 3) rfl e1 ((hJ.block _ (Array.getElem?_eq_some_iff.1 HP3.out).1 (by simp)).trans HP3.out) Tryz.underlying26 rfl (show _ = some (#[Value.int .u64 cm, Value.int .u64 cl, Value.int .u64 co, Value.int .u64 ct, Value.slice ca cn ccap]).size from info_cost5) ⟨rfl, fun h => absurd h (by decide), fun _ => World.grownBy.refl _ _⟩
    | 30, ho =>
      obtain rfl := Option.some.inj ho
      refine StepsTo.guarded (wanted_of rfl rfl (show a1.eval (.tmp 77) = .bool true from (ht 28 (by kernel_rfl)))) ?_
      have e1 : a1.eval (.tmp 78) = .agg #[Value.int .u64 cm, Value.int .u64 cl, Value.int .u64 co, Value.int .u64 ct, Value.slice ca cn ccap] := (ht 29 (by kernel_rfl))
      refine StepsTo.enter rfl _ _ (run_check8 rfl e1) (fcheck_is (⟨cm, cl, co, ct, ca, cn, ccap, cxs⟩ : Cw) ok w1 (HX6.out.below (grown_below7 hJ) (Nat.le_refl _)) HOK.out) (fun e w' h => ?_)
      exact ⟨_, h.1, rfl, fun h => absurd h (by decide), fun _ => below_grew7 h.2⟩
    | 31, ho =>
      obtain rfl := Option.some.inj ho
      refine StepsTo.guarded (wanted_of rfl rfl (show a1.eval (.tmp 77) = .bool true from (ht 28 (by kernel_rfl)))) ?_
      have e1 : a1.eval (.tmp 3) = .pointer (some ⟨w.heap.size, 0, none⟩) := (hw 3 (by kernel_rfl))
      exact StepsTo.load_row rfl 26 (.tmp 3) rfl e1 ((hJ.block _ (Array.getElem?_eq_some_iff.1 HP3.out).1 (by simp)).trans HP3.out) Tryz.underlying26 rfl (show _ = some (#[Value.int .u64 cm, Value.int .u64 cl, Value.int .u64 co, Value.int .u64 ct, Value.slice ca cn ccap]).size from info_cost5) ⟨rfl, fun h => absurd h (by decide), fun _ => World.grownBy.refl _ _⟩
    | 32, ho =>
      obtain rfl := Option.some.inj ho
      refine StepsTo.guarded (wanted_of rfl rfl (show a1.eval (.tmp 77) = .bool true from (ht 28 (by kernel_rfl)))) ?_
      have e1 : a1.eval (.tmp 80) = .agg #[Value.int .u64 cm, Value.int .u64 cl, Value.int .u64 co, Value.int .u64 ct, Value.slice ca cn ccap] := (ht 31 (by kernel_rfl))
      refine StepsTo.enter rfl _ _ (run_rcheck8 rfl e1) (rcheck8_is (⟨cm, cl, co, ct, ca, cn, ccap, cxs⟩ : Cw) ok w1 (HX6.out.below (grown_below7 hJ) (Nat.le_refl _)) (by show cn ≤ 20000; omega) HOK.out) (fun e w' h => ?_)
      exact ⟨_, h.1, rfl, fun h => absurd h (by decide), fun _ => below_grew7 h.2⟩
    | 33, ho =>
      obtain rfl := Option.some.inj ho
      refine StepsTo.guarded (wanted_of rfl rfl (show a1.eval (.tmp 77) = .bool true from (ht 28 (by kernel_rfl)))) ?_
      exact StepsTo.of_run rfl (run_eqlB rfl (show a1.eval (.tmp 79) = .bool ok from (ht 30 (by kernel_rfl))) (show a1.eval (.tmp 81) = .bool ok from (ht 32 (by kernel_rfl)))) ⟨by show Value.bool (ok == ok) = _; simp, fun h => absurd h (by decide), fun _ => World.grownBy.refl _ _⟩
    | 34, ho =>
      obtain rfl := Option.some.inj ho
      exact StepsTo.of_run rfl (run_pick rfl (show a1.eval (.tmp 77) = .bool true from (ht 28 (by kernel_rfl))) (show a1.eval (.tmp 82) = .bool true from (ht 33 (by kernel_rfl))) rfl) ⟨rfl, fun h => absurd h (by decide), fun _ => World.grownBy.refl _ _⟩
    | 35, ho =>
      obtain rfl := Option.some.inj ho
      exact StepsTo.move rfl (.tmp 83) (.inr rfl) ⟨(ht 34 (by kernel_rfl)), fun h => absurd h (by decide), fun _ => World.grownBy.refl _ _⟩
    | j1 + 36, ho => exact absurd (Array.getElem?_eq_some_iff.1 ho).1 (by simp)
  intro tm w9 hsz hJ hfr hto
  rw [act_lit2 tm (show tm.size = 84 from hsz)]
  simp only [List.range, List.range.loop, List.map_cons, List.map_nil]
  rw [hfr 0 (by kernel_rfl), hfr 1 (by kernel_rfl), hfr 2 (by kernel_rfl), hfr 3 (by kernel_rfl), hfr 5 (by kernel_rfl), hfr 6 (by kernel_rfl), hfr 7 (by kernel_rfl), hfr 8 (by kernel_rfl), hfr 9 (by kernel_rfl), hfr 10 (by kernel_rfl), hfr 11 (by kernel_rfl), hfr 12 (by kernel_rfl), hfr 13 (by kernel_rfl), hfr 14 (by kernel_rfl), hfr 15 (by kernel_rfl), hfr 16 (by kernel_rfl), hfr 17 (by kernel_rfl), hfr 18 (by kernel_rfl), hfr 19 (by kernel_rfl), hfr 20 (by kernel_rfl), hfr 21 (by kernel_rfl), hfr 22 (by kernel_rfl), hfr 23 (by kernel_rfl), hfr 24 (by kernel_rfl), hfr 25 (by kernel_rfl), hfr 26 (by kernel_rfl), hfr 27 (by kernel_rfl), hfr 28 (by kernel_rfl), hfr 29 (by kernel_rfl), hfr 30 (by kernel_rfl), hfr 31 (by kernel_rfl), hfr 32 (by kernel_rfl), hfr 33 (by kernel_rfl), hfr 34 (by kernel_rfl), hfr 35 (by kernel_rfl), hfr 36 (by kernel_rfl), hfr 37 (by kernel_rfl), hfr 38 (by kernel_rfl), hfr 39 (by kernel_rfl), hfr 40 (by kernel_rfl), hfr 41 (by kernel_rfl), hfr 42 (by kernel_rfl), hfr 43 (by kernel_rfl), hfr 44 (by kernel_rfl), hfr 45 (by kernel_rfl), hfr 46 (by kernel_rfl), hfr 47 (by kernel_rfl), hfr 48 (by kernel_rfl)]
  simp only [Array.getD_eq_getD_getElem?, List.getElem?_toArray, List.getElem?_cons_succ, List.getElem?_cons_zero, Option.getD_some]
  have t0 : (tm[49]?.getD undef) = .bool true := by have h := hto 0 (by decide); simp only [Array.getD_eq_getD_getElem?] at h; exact h
  have t1 : (tm[50]?.getD undef) = .bool true := by have h := hto 1 (by decide); simp only [Array.getD_eq_getD_getElem?] at h; exact h
  have t2 : (tm[51]?.getD undef) = .agg #[Value.int .u64 m3, Value.int .u64 l3, Value.int .u64 o3, Value.int .u64 t3, Value.slice p3 n3 c3] := by have h := hto 2 (by decide); simp only [Array.getD_eq_getD_getElem?] at h; exact h
  have t3 : (tm[52]?.getD undef) = .agg #[Value.int .u64 m4, Value.int .u64 l4, Value.int .u64 o4, Value.int .u64 t4, Value.slice p4 n4 c4] := by have h := hto 3 (by decide); simp only [Array.getD_eq_getD_getElem?] at h; exact h
  have t4 : (tm[53]?.getD undef) = .bool true := by have h := hto 4 (by decide); simp only [Array.getD_eq_getD_getElem?] at h; exact h
  have t5 : (tm[54]?.getD undef) = .bool true := by have h := hto 5 (by decide); simp only [Array.getD_eq_getD_getElem?] at h; exact h
  have t6 : (tm[55]?.getD undef) = .bool true := by have h := hto 6 (by decide); simp only [Array.getD_eq_getD_getElem?] at h; exact h
  have t7 : (tm[56]?.getD undef) = .int .i64 gx.at_ := by have h := hto 7 (by decide); simp only [Array.getD_eq_getD_getElem?] at h; exact h
  have t8 : (tm[57]?.getD undef) = .int .i64 gx.at_ := by have h := hto 8 (by decide); simp only [Array.getD_eq_getD_getElem?] at h; exact h
  have t9 : (tm[58]?.getD undef) = .bool true := by have h := hto 9 (by decide); simp only [Array.getD_eq_getD_getElem?] at h; exact h
  have t10 : (tm[59]?.getD undef) = .bool true := by have h := hto 10 (by decide); simp only [Array.getD_eq_getD_getElem?] at h; exact h
  have t11 : (tm[60]?.getD undef) = .bool true := by have h := hto 11 (by decide); simp only [Array.getD_eq_getD_getElem?] at h; exact h
  have t12 : (tm[61]?.getD undef) = .int .i64 gx.e := by have h := hto 12 (by decide); simp only [Array.getD_eq_getD_getElem?] at h; exact h
  have t13 : (tm[62]?.getD undef) = .int .i64 gx.e := by have h := hto 13 (by decide); simp only [Array.getD_eq_getD_getElem?] at h; exact h
  have t14 : (tm[63]?.getD undef) = .bool true := by have h := hto 14 (by decide); simp only [Array.getD_eq_getD_getElem?] at h; exact h
  have t15 : (tm[64]?.getD undef) = .bool true := by have h := hto 15 (by decide); simp only [Array.getD_eq_getD_getElem?] at h; exact h
  have t16 : (tm[65]?.getD undef) = .bool true := by have h := hto 16 (by decide); simp only [Array.getD_eq_getD_getElem?] at h; exact h
  have t17 : (tm[66]?.getD undef) = .slice wa1 wn1 wc1 := by have h := hto 17 (by decide); simp only [Array.getD_eq_getD_getElem?] at h; exact h
  have t18 : (tm[67]?.getD undef) = .string (strOfNums out) := by have h := hto 18 (by decide); simp only [Array.getD_eq_getD_getElem?] at h; exact h
  have t19 : (tm[68]?.getD undef) = .slice wa2 wn2 wc2 := by have h := hto 19 (by decide); simp only [Array.getD_eq_getD_getElem?] at h; exact h
  have t20 : (tm[69]?.getD undef) = .string (strOfNums out) := by have h := hto 20 (by decide); simp only [Array.getD_eq_getD_getElem?] at h; exact h
  have t21 : (tm[70]?.getD undef) = .bool true := by have h := hto 21 (by decide); simp only [Array.getD_eq_getD_getElem?] at h; exact h
  have t22 : (tm[71]?.getD undef) = .bool true := by have h := hto 22 (by decide); simp only [Array.getD_eq_getD_getElem?] at h; exact h
  have t23 : (tm[72]?.getD undef) = .bool true := by have h := hto 23 (by decide); simp only [Array.getD_eq_getD_getElem?] at h; exact h
  have t24 : (tm[73]?.getD undef) = .int .i64 er := by have h := hto 24 (by decide); simp only [Array.getD_eq_getD_getElem?] at h; exact h
  have t25 : (tm[74]?.getD undef) = .int .i64 er := by have h := hto 25 (by decide); simp only [Array.getD_eq_getD_getElem?] at h; exact h
  have t26 : (tm[75]?.getD undef) = .bool true := by have h := hto 26 (by decide); simp only [Array.getD_eq_getD_getElem?] at h; exact h
  have t27 : (tm[76]?.getD undef) = .bool true := by have h := hto 27 (by decide); simp only [Array.getD_eq_getD_getElem?] at h; exact h
  have t28 : (tm[77]?.getD undef) = .bool true := by have h := hto 28 (by decide); simp only [Array.getD_eq_getD_getElem?] at h; exact h
  have t29 : (tm[78]?.getD undef) = .agg #[Value.int .u64 cm, Value.int .u64 cl, Value.int .u64 co, Value.int .u64 ct, Value.slice ca cn ccap] := by have h := hto 29 (by decide); simp only [Array.getD_eq_getD_getElem?] at h; exact h
  have t30 : (tm[79]?.getD undef) = .bool ok := by have h := hto 30 (by decide); simp only [Array.getD_eq_getD_getElem?] at h; exact h
  have t31 : (tm[80]?.getD undef) = .agg #[Value.int .u64 cm, Value.int .u64 cl, Value.int .u64 co, Value.int .u64 ct, Value.slice ca cn ccap] := by have h := hto 31 (by decide); simp only [Array.getD_eq_getD_getElem?] at h; exact h
  have t32 : (tm[81]?.getD undef) = .bool ok := by have h := hto 32 (by decide); simp only [Array.getD_eq_getD_getElem?] at h; exact h
  have t33 : (tm[82]?.getD undef) = .bool true := by have h := hto 33 (by decide); simp only [Array.getD_eq_getD_getElem?] at h; exact h
  have t34 : (tm[83]?.getD undef) = .bool true := by have h := hto 34 (by decide); simp only [Array.getD_eq_getD_getElem?] at h; exact h
  have t35 : (tm[4]?.getD undef) = .bool true := by have h := hto 35 (by decide); simp only [Array.getD_eq_getD_getElem?] at h; exact h
  clear hto
  generalize tm[4]?.getD undef = y4 at *
  generalize tm[49]?.getD undef = y49 at *
  generalize tm[50]?.getD undef = y50 at *
  generalize tm[51]?.getD undef = y51 at *
  generalize tm[52]?.getD undef = y52 at *
  generalize tm[53]?.getD undef = y53 at *
  generalize tm[54]?.getD undef = y54 at *
  generalize tm[55]?.getD undef = y55 at *
  generalize tm[56]?.getD undef = y56 at *
  generalize tm[57]?.getD undef = y57 at *
  generalize tm[58]?.getD undef = y58 at *
  generalize tm[59]?.getD undef = y59 at *
  generalize tm[60]?.getD undef = y60 at *
  generalize tm[61]?.getD undef = y61 at *
  generalize tm[62]?.getD undef = y62 at *
  generalize tm[63]?.getD undef = y63 at *
  generalize tm[64]?.getD undef = y64 at *
  generalize tm[65]?.getD undef = y65 at *
  generalize tm[66]?.getD undef = y66 at *
  generalize tm[67]?.getD undef = y67 at *
  generalize tm[68]?.getD undef = y68 at *
  generalize tm[69]?.getD undef = y69 at *
  generalize tm[70]?.getD undef = y70 at *
  generalize tm[71]?.getD undef = y71 at *
  generalize tm[72]?.getD undef = y72 at *
  generalize tm[73]?.getD undef = y73 at *
  generalize tm[74]?.getD undef = y74 at *
  generalize tm[75]?.getD undef = y75 at *
  generalize tm[76]?.getD undef = y76 at *
  generalize tm[77]?.getD undef = y77 at *
  generalize tm[78]?.getD undef = y78 at *
  generalize tm[79]?.getD undef = y79 at *
  generalize tm[80]?.getD undef = y80 at *
  generalize tm[81]?.getD undef = y81 at *
  generalize tm[82]?.getD undef = y82 at *
  generalize tm[83]?.getD undef = y83 at *
  clear hfr hsz tm
  obtain rfl := t35
  have HB9 : Hid (Below w.heap.size w w9) := HB6.out.trans ((grown_below7 hJ).mono HB6.out.size)
  clear t0 t1 t2 t3 t4 t5 t6 t7 t8 t9 t10 t11 t12 t13 t14 t15 t16 t17 t18 t19 t20 t21 t22 t23 t24 t25 t26 t27 t28 t29 t30 t31 t32 t33 t34 hJ
  go_wp2
  go_ret
  exact ⟨rfl, HB9.out⟩

set_option maxRecDepth 100000 in
theorem lifted (os : Os) (started : os.Started) (H : Type) (enc : TypeId × Value → H) :
    ReturnsInHanded {} Tryz.checked os 3 .any (Rows.rulesTellsSpec.pre6 enc Tryz.prog Tryz.f3 Rows.rulesTellsRow.domain false) (Rows.rulesTellsSpec.post enc Tryz.prog Tryz.f3 false true false false) := by
  refine returnsInHanded_of_change (C := Tryz.checked) own started (by kernel_rfl) Tryz.func3
    (ChangeSpec.witness6 (enc := enc) (C := Tryz.checked) false ⟨#[], #[.slice none 0 0, .agg #[.int .u64 0, .int .u64 0, .int .u64 0, .int .u64 0, .slice none 0 0]], []⟩ 8 (by kernel_rfl) (by kernel_rfl) (by kernel_rfl) (by kernel_rfl)) ?_
  intro W base args ds gs before hval0 hW hcnd _
  have hval : ∀ (j : Nat) t v, Tryz.f3.params[j]? = some t → args[j]? = some v → Value.okWide Tryz.prog W .any base t v := hval0
  have hW' := hW
  obtain ⟨p, q, hA0, hV, rfl, hfz, hnd⟩ := hW
  have hA : DataW.TrodAll enc Tryz.prog W 0 (fun _ => true) true Tryz.f3.params.toList args.toList ds p := hA0
  rw [Tryz.params3] at hA hval
  obtain ⟨v0, vs0, d0, ds0, p0, q0, hargs, rfl, rfl, h0, r0⟩ := trodAll_cons hA
  obtain ⟨v1, vs1, d1, ds1, p1, q1, rfl, rfl, rfl, h1, r1⟩ := trodAll_cons r0
  obtain ⟨rfl, rfl, rfl⟩ := trodAll_nil r1
  obtain rfl : args = #[v0, v1] := by cases args; simp_all
  obtain ⟨rfl, rfl⟩ := trodVars_none hV
  obtain ⟨a0, len0, cap0, rfl⟩ := okWide_slice Tryz.underlying22 (hval 0 22 v0 rfl rfl)
  have k0 := h0
  have lt0 : ∀ x ∈ p0, x.block < W.heap.size := by obtain ⟨m, hm⟩ := k0; exact DataW.trod_lt m _ _ _ hm
  obtain ⟨z0, w0⟩ : ∃ zs, IsRow .u8 W a0 len0 cap0 zs := by
    obtain ⟨fuel, hf⟩ := h0
    rcases open_ints Tryz.underlying22 Tryz.underlying5 (by kernel_rfl) hf with ⟨hcs, _⟩ | ⟨x, l, c, zs, hcs, _, hl, hm, hz, _, hcell, hwz⟩
    · simp [Value.cells] at hcs
      obtain ⟨rfl, rfl, rfl⟩ := hcs
      exact ⟨[], .inl ⟨rfl, rfl, rfl, rfl⟩⟩
    · simp [Value.cells] at hcs
      obtain ⟨rfl, rfl, rfl⟩ := hcs
      exact ⟨zs, .inr ⟨_, rfl, hl, hm, by simpa using hz, hcell, hwz⟩⟩
  have k1 := h1
  have lt1 : ∀ x ∈ p1, x.block < W.heap.size := by obtain ⟨m, hm⟩ := k1; exact DataW.trod_lt m _ _ _ hm
  obtain ⟨x1, rfl, w1, n1⟩ := Cw.open (hval 1 26 v1 rfl rfl) h1
  clear hA0 hval0
  refine (walk a0 len0 cap0 z0 x1 W w0 w1 n1).mono fun e W' ⟨he, bel⟩ => ?_
  subst he
  exact ⟨_, rfl, _, _, _, [], _, [], hW', trodAll_mk1 (shut_bool Tryz.underlying4 _), (trodAll_cons_mk (Below.trod laidOut (by kernel_rfl) (of_decide_eq_true (by kernel_rfl)) k0 bel lt0) (trodAll_cons_mk (Below.trod laidOut (by kernel_rfl) (of_decide_eq_true (by kernel_rfl)) k1 bel lt1) trodAll_mk0)), rfl, bel.frame _, fun h => by cases h⟩

theorem over : Rows.rulesTellsRow.holds Tryz.pinned (OpenSpec.ofChange Rows.rulesTellsSpec) :=
  OpenClaim.holds_of_wide 3 Tryz.f3 rfl rfl rfl rfl rfl rfl rfl ⟨rfl, rfl, rfl, rfl, rfl⟩ rfl rfl rfl rfl rfl (by kernel_rfl) Tryz.func3 (by kernel_rfl)
    (of_decide_eq_true (by kernel_rfl)) (by unfold Func.isWrapper; first | (rw [if_pos (by decide +kernel)]; kernel_rfl) | (rw [if_neg (by decide +kernel)]; exact ⟨rfl, rfl⟩))
    (fun os started H enc _ => lifted os started H enc)

/-- the statement -/
theorem proved : Rows.RulesTellsSaid := over
#print axioms proved
end Go.Proofs.YtjmabjeaodojeaaGreat.rulesTells
