/- For any two images, ImageApart answers true, and turns nothing that was there. No condition. -/
import Derived.Test.YtbfjihbkkcggmaaRows
import Derived.Test.YtbfjihbkkcggmaaImgLaw
import Derived.Test.YtbfjihbkkcggmaaPackW
import Derived.Test.YtbfjihbkkcggmaaPackX
import Derived.Test.YtbfjihbkkcggmaaPackZ
import Derived.WalkKit
import Derived.ProofKit
import Derived.OpenShut
import Derived.ShutString
import Derived.ChangeOld
import Derived.Below
import Derived.Deep.Matrix
import Derived.SizedLaws
namespace Go.Proofs.Ytbfjihbkkcggmaa.imageApart
open Go.ChangeShapes Go.WideShapes Go.ChangeAt Go.RowKit
set_option linter.unusedVariables false

theorem own : ownKnob Try.prog.godebug = none := by kernel_rfl
theorem laidOut : laidOutB Try.prog = true := by kernel_rfl

/-- a slice of integers that came in -/
def IsRow (k : IntKind) (w : World) (a : Option Addr) (len cap : Nat) (zs : List Int) : Prop :=
  (a = none ∧ len = 0 ∧ cap = 0 ∧ zs = []) ∨
  ∃ x, a = some x ∧ len ≤ cap ∧ cap ≤ maxLen ∧ zs.length = cap ∧ (∀ i, i < zs.length → w.cell? (x.add i) = some (.int k (zs.getD i 0))) ∧ ∀ n ∈ zs, (Lit.int k n).wf = true

section
variable {o : Oper} {a : Act} {w : World} {x y : Operand} {ts : Array TypeId} {u v : Value}
theorem run_same15 (ho : o.op = .call { callee := .value (.func 14), args := #[x, y], argTypes := ts }) (hx : a.eval x = u) (hy : a.eval y = v) : (execOp a.eval o).run Try.prog w = .ok (.enter 14 #[u, v]) w := by
  subst hx hy
  simp only [execOp, ho]
  go_simp
theorem run_eqlS2 {s t : ByteArray} (ho : o.op = .binOp .eql 9 x y 9) (hx : a.eval x = .string s) (hy : a.eval y = .string t) : (execOp a.eval o).run Try.prog w = .ok (.value (.bool (s.toList == t.toList))) w := by
  simp only [execOp, ho, hx, hy]
  go_simp
end

/-! ### STEP 1: the walk -/
set_option maxHeartbeats 6400000 in
set_option maxRecDepth 100000 in
theorem walk (x0 : Iw) (x1 : Iw) (w : World) (w0 : x0.Good w) (n0 : (x0.a = none → x0.cap = 0) ∧ (x0.c.a = none → x0.c.cap = 0)) (w1 : x1.Good w) (n1 : (x1.a = none → x1.cap = 0) ∧ (x1.c.a = none → x1.c.cap = 0)) :
    Calls Try.prog 6 #[x0.v, x1.v] w fun e w' => e = .returned (.bool true) ∧ Below w.heap.size w w' := by
  have HX_0a := Lib.hid w0
  have HY_0a := Lib.hid w1
  clear w0 n0 w1 n1
  obtain ⟨⟨l0, e0⟩, hw0⟩ : ∃ g, Img.wr x0.im = g := ⟨_, rfl⟩
  obtain ⟨⟨l1, e1⟩, hw1⟩ : ∃ g, Img.wr x1.im = g := ⟨_, rfl⟩
  have HC0 := Lib.hid (Img.wr_code x0.im)
  have HC1 := Lib.hid (Img.wr_code x1.im)
  have HW0 := Lib.hid hw0
  have HW1 := Lib.hid hw1
  have HMX : Hid (Try.prog.follows .mixedOrders = true) := by show _ = _; kernel_rfl
  have HBX : Hid (∀ o p, Below w.heap.size w ((w.alloc o).alloc p)) := fun o p => ((Below.refl _ w).alloc (Nat.le_refl _) o).alloc (by simp) p
  have HN0 : Hid (∀ o p, ((w.alloc o).alloc p).heap[w.heap.size]? = some o) := fun o p => (((Below.refl (w.alloc o).heap.size (w.alloc o)).alloc (Nat.le_refl _) p).block _ (by simp)).trans (heap_alloc_new w o)
  have HN1 : Hid (∀ o p, ((w.alloc o).alloc p).heap[w.heap.size + 1]? = some p) := fun o p => by have h := heap_alloc_new (w.alloc o) p; rw [World.size_alloc] at h; exact h
  have HSZ : Hid (∀ o p, ((w.alloc o).alloc p).heap.size = w.heap.size + 1 + 1) := fun o p => by rw [World.size_alloc, World.size_alloc]
  clear hw0 hw1
  simp only [Iw.v]
  go_enter Try.func6, Try.ntmps6
  go_wp2_with fail
  refine (awake_any _).mono ?_
  rintro e v1 ⟨rfl, hb1⟩
  have HB_0 : Hid (Below w.heap.size w v1) := (HBX.out _ _).trans (hb1.mono (by rw [HSZ.out]; omega))
  have HP_0 : Hid (v1.heap[w.heap.size]? = some (.cells #[Value.slice x0.a x0.n x0.cap, Value.int .u64 x0.c.m, Value.int .u64 x0.c.l, Value.int .u64 x0.c.o, Value.int .u64 x0.c.t, Value.slice x0.c.a x0.c.n x0.c.cap] 28 (0, 0))) := (hb1.block _ (by rw [HSZ.out]; omega)).trans (HN0.out _ _)
  have HQ_0 : Hid (v1.heap[w.heap.size + 1]? = some (.cells #[Value.slice x1.a x1.n x1.cap, Value.int .u64 x1.c.m, Value.int .u64 x1.c.l, Value.int .u64 x1.c.o, Value.int .u64 x1.c.t, Value.slice x1.c.a x1.c.n x1.c.cap] 28 (0, 0))) := (hb1.block _ (by rw [HSZ.out]; omega)).trans (HN1.out _ _)
  have HX_0 := Lib.hid (HX_0a.out.below HB_0.out (Nat.le_refl _))
  have HY_0 := Lib.hid (HY_0a.out.below HB_0.out (Nat.le_refl _))
  clear hb1 HBX HN0 HN1 HSZ HX_0a HY_0a
  go_wp2_with first
    | (refine wpList_load_row_w (by rfl) 28 (.tmp 2) (by rfl) w.heap.size (by rfl) 28 #[Value.slice x0.a x0.n x0.cap, Value.int .u64 x0.c.m, Value.int .u64 x0.c.l, Value.int .u64 x0.c.o, Value.int .u64 x0.c.t, Value.slice x0.c.a x0.c.n x0.c.cap] (0, 0) _ HP_0.out Try.underlying28 (by rfl) (show _ = some (#[Value.slice x0.a x0.n x0.cap, Value.int .u64 x0.c.m, Value.int .u64 x0.c.l, Value.int .u64 x0.c.o, Value.int .u64 x0.c.t, Value.slice x0.c.a x0.c.n x0.c.cap] : Array Value).size from info_im6') ?_)
    | (refine wpList_load_row_w (by rfl) 28 (.tmp 3) (by rfl) (w.heap.size + 1) (by rfl) 28 #[Value.slice x1.a x1.n x1.cap, Value.int .u64 x1.c.m, Value.int .u64 x1.c.l, Value.int .u64 x1.c.o, Value.int .u64 x1.c.t, Value.slice x1.c.a x1.c.n x1.c.cap] (0, 0) _ HQ_0.out Try.underlying28 (by rfl) (show _ = some (#[Value.slice x1.a x1.n x1.cap, Value.int .u64 x1.c.m, Value.int .u64 x1.c.l, Value.int .u64 x1.c.o, Value.int .u64 x1.c.t, Value.slice x1.c.a x1.c.n x1.c.cap] : Array Value).size from info_im6') ?_)
  refine (iwrite_is x0 v1 HX_0.out).mono ?_
  rintro e v2 ⟨h, hb⟩
  obtain ⟨wa1, wn1, wc1, he, hs1⟩ := h.any
  rw [HW0.out] at he hs1
  subst he
  have HP_1 := Lib.hid ((hb.block _ (Array.getElem?_eq_some_iff.1 HP_0.out).1).trans HP_0.out)
  have HQ_1 := Lib.hid ((hb.block _ (Array.getElem?_eq_some_iff.1 HQ_0.out).1).trans HQ_0.out)
  have HX_1 := Lib.hid (HX_0.out.below hb (Nat.le_refl _))
  have HY_1 := Lib.hid (HY_0.out.below hb (Nat.le_refl _))
  have HB_1 := Lib.hid (HB_0.out.trans (hb.mono HB_0.out.size))
  clear HP_0 HQ_0 HX_0 HY_0 HB_0 hb
  have HU_1 := Lib.hid (hs1)
  clear h hs1
  simp only []
  go_wp2_with first
    | (refine wpList_load_row_w (by rfl) 28 (.tmp 2) (by rfl) w.heap.size (by rfl) 28 #[Value.slice x0.a x0.n x0.cap, Value.int .u64 x0.c.m, Value.int .u64 x0.c.l, Value.int .u64 x0.c.o, Value.int .u64 x0.c.t, Value.slice x0.c.a x0.c.n x0.c.cap] (0, 0) _ HP_1.out Try.underlying28 (by rfl) (show _ = some (#[Value.slice x0.a x0.n x0.cap, Value.int .u64 x0.c.m, Value.int .u64 x0.c.l, Value.int .u64 x0.c.o, Value.int .u64 x0.c.t, Value.slice x0.c.a x0.c.n x0.c.cap] : Array Value).size from info_im6') ?_)
    | (refine wpList_load_row_w (by rfl) 28 (.tmp 3) (by rfl) (w.heap.size + 1) (by rfl) 28 #[Value.slice x1.a x1.n x1.cap, Value.int .u64 x1.c.m, Value.int .u64 x1.c.l, Value.int .u64 x1.c.o, Value.int .u64 x1.c.t, Value.slice x1.c.a x1.c.n x1.c.cap] (0, 0) _ HQ_1.out Try.underlying28 (by rfl) (show _ = some (#[Value.slice x1.a x1.n x1.cap, Value.int .u64 x1.c.m, Value.int .u64 x1.c.l, Value.int .u64 x1.c.o, Value.int .u64 x1.c.t, Value.slice x1.c.a x1.c.n x1.c.cap] : Array Value).size from info_im6') ?_)
  refine (iwrite_is x1 v2 HY_1.out).mono ?_
  rintro e v3 ⟨h, hb⟩
  obtain ⟨wa2, wn2, wc2, he, hs2⟩ := h.any
  rw [HW1.out] at he hs2
  subst he
  have HP_2 := Lib.hid ((hb.block _ (Array.getElem?_eq_some_iff.1 HP_1.out).1).trans HP_1.out)
  have HQ_2 := Lib.hid ((hb.block _ (Array.getElem?_eq_some_iff.1 HQ_1.out).1).trans HQ_1.out)
  have HX_2 := Lib.hid (HX_1.out.below hb (Nat.le_refl _))
  have HY_2 := Lib.hid (HY_1.out.below hb (Nat.le_refl _))
  have HU_2 := Lib.hid (HU_1.out.below hb (Nat.le_refl _))
  have HB_2 := Lib.hid (HB_1.out.trans (hb.mono HB_1.out.size))
  clear HP_1 HQ_1 HX_1 HY_1 HU_1 HB_1 hb
  have HV_2 := Lib.hid (hs2)
  clear h hs2
  simp only []
  go_wp2_with first
    | (refine wpList_load_row_w (by rfl) 28 (.tmp 2) (by rfl) w.heap.size (by rfl) 28 #[Value.slice x0.a x0.n x0.cap, Value.int .u64 x0.c.m, Value.int .u64 x0.c.l, Value.int .u64 x0.c.o, Value.int .u64 x0.c.t, Value.slice x0.c.a x0.c.n x0.c.cap] (0, 0) _ HP_2.out Try.underlying28 (by rfl) (show _ = some (#[Value.slice x0.a x0.n x0.cap, Value.int .u64 x0.c.m, Value.int .u64 x0.c.l, Value.int .u64 x0.c.o, Value.int .u64 x0.c.t, Value.slice x0.c.a x0.c.n x0.c.cap] : Array Value).size from info_im6') ?_)
    | (refine wpList_load_row_w (by rfl) 28 (.tmp 3) (by rfl) (w.heap.size + 1) (by rfl) 28 #[Value.slice x1.a x1.n x1.cap, Value.int .u64 x1.c.m, Value.int .u64 x1.c.l, Value.int .u64 x1.c.o, Value.int .u64 x1.c.t, Value.slice x1.c.a x1.c.n x1.c.cap] (0, 0) _ HQ_2.out Try.underlying28 (by rfl) (show _ = some (#[Value.slice x1.a x1.n x1.cap, Value.int .u64 x1.c.m, Value.int .u64 x1.c.l, Value.int .u64 x1.c.o, Value.int .u64 x1.c.t, Value.slice x1.c.a x1.c.n x1.c.cap] : Array Value).size from info_im6') ?_)
  refine (few15_is x0 v3 HX_2.out).mono ?_
  rintro e v4 ⟨he, hb⟩
  have HP_3 := Lib.hid ((hb.block _ (Array.getElem?_eq_some_iff.1 HP_2.out).1).trans HP_2.out)
  have HQ_3 := Lib.hid ((hb.block _ (Array.getElem?_eq_some_iff.1 HQ_2.out).1).trans HQ_2.out)
  have HX_3 := Lib.hid (HX_2.out.below hb (Nat.le_refl _))
  have HY_3 := Lib.hid (HY_2.out.below hb (Nat.le_refl _))
  have HU_3 := Lib.hid (HU_2.out.below hb (Nat.le_refl _))
  have HV_3 := Lib.hid (HV_2.out.below hb (Nat.le_refl _))
  have HB_3 := Lib.hid (HB_2.out.trans (hb.mono HB_2.out.size))
  clear HP_2 HQ_2 HX_2 HY_2 HU_2 HV_2 HB_2 hb
  rcases he with rfl | ⟨rfl, -, -, -, -⟩
  · go_wp2
    go_ret
    exact ⟨rfl, HB_3.out⟩
  go_wp2_with first
    | (refine wpList_load_row_w (by rfl) 28 (.tmp 2) (by rfl) w.heap.size (by rfl) 28 #[Value.slice x0.a x0.n x0.cap, Value.int .u64 x0.c.m, Value.int .u64 x0.c.l, Value.int .u64 x0.c.o, Value.int .u64 x0.c.t, Value.slice x0.c.a x0.c.n x0.c.cap] (0, 0) _ HP_3.out Try.underlying28 (by rfl) (show _ = some (#[Value.slice x0.a x0.n x0.cap, Value.int .u64 x0.c.m, Value.int .u64 x0.c.l, Value.int .u64 x0.c.o, Value.int .u64 x0.c.t, Value.slice x0.c.a x0.c.n x0.c.cap] : Array Value).size from info_im6') ?_)
    | (refine wpList_load_row_w (by rfl) 28 (.tmp 3) (by rfl) (w.heap.size + 1) (by rfl) 28 #[Value.slice x1.a x1.n x1.cap, Value.int .u64 x1.c.m, Value.int .u64 x1.c.l, Value.int .u64 x1.c.o, Value.int .u64 x1.c.t, Value.slice x1.c.a x1.c.n x1.c.cap] (0, 0) _ HQ_3.out Try.underlying28 (by rfl) (show _ = some (#[Value.slice x1.a x1.n x1.cap, Value.int .u64 x1.c.m, Value.int .u64 x1.c.l, Value.int .u64 x1.c.o, Value.int .u64 x1.c.t, Value.slice x1.c.a x1.c.n x1.c.cap] : Array Value).size from info_im6') ?_)
  refine (few15_is x1 v4 HY_3.out).mono ?_
  rintro e v5 ⟨he, hb⟩
  have HP_4 := Lib.hid ((hb.block _ (Array.getElem?_eq_some_iff.1 HP_3.out).1).trans HP_3.out)
  have HQ_4 := Lib.hid ((hb.block _ (Array.getElem?_eq_some_iff.1 HQ_3.out).1).trans HQ_3.out)
  have HX_4 := Lib.hid (HX_3.out.below hb (Nat.le_refl _))
  have HY_4 := Lib.hid (HY_3.out.below hb (Nat.le_refl _))
  have HU_4 := Lib.hid (HU_3.out.below hb (Nat.le_refl _))
  have HV_4 := Lib.hid (HV_3.out.below hb (Nat.le_refl _))
  have HB_4 := Lib.hid (HB_3.out.trans (hb.mono HB_3.out.size))
  clear HP_3 HQ_3 HX_3 HY_3 HU_3 HV_3 HB_3 hb
  rcases he with rfl | ⟨rfl, -, -, -, -⟩
  · go_wp2
    go_ret
    exact ⟨rfl, HB_4.out⟩
  have C0 := HC0.out
  have C1 := HC1.out
  rw [HW0.out] at C0
  rw [HW1.out] at C1
  rcases C0 with ⟨c0, k0, d0⟩ | ⟨c0, -⟩ | ⟨c0, -⟩
  rotate_left 1
  · simp only [] at c0
    subst c0
    go_wp2
    go_ret
    exact ⟨rfl, HB_4.out⟩
  · simp only [] at c0
    subst c0
    go_wp2
    go_ret
    exact ⟨rfl, HB_4.out⟩
  rcases C1 with ⟨c1, k1, d1⟩ | ⟨c1, -⟩ | ⟨c1, -⟩
  rotate_left 1
  · simp only [] at c0 c1
    subst c0 c1
    go_wp2
    go_ret
    exact ⟨rfl, HB_4.out⟩
  · simp only [] at c0 c1
    subst c0 c1
    go_wp2
    go_ret
    exact ⟨rfl, HB_4.out⟩
  simp only [] at c0 c1 d0 d1
  subst c0 c1
  obtain ⟨d, hd⟩ : ∃ d, decide (l0 = l1) = d := ⟨_, rfl⟩
  have HSE : Hid (((strOfNums l0).toList == (strOfNums l1).toList) = d) := by
    show _ = _
    rw [← hd]
    exact str_eq HU_4.out.2.2.2.1 HV_4.out.2.2.2.1
  have HD : Hid (d = true ↔ x0.im = x1.im) := by
    show _ ↔ _
    rw [← hd, decide_eq_true_iff, d0, d1]
    exact ⟨fun h => Img.body_inj k0 k1 HX_4.out.2.plain HY_4.out.2.plain (Img.lock_inj h), fun h => by rw [h]⟩
  have HP : Hid (v5.drew.heap[w.heap.size]? = _) := HP_4.out
  have HQ : Hid (v5.drew.heap[w.heap.size + 1]? = _) := HQ_4.out
  clear hd d0 d1 k0 k1
  go_wp2_with fail
  have hmx := HMX.out
  refine wp_region_told2 HMX.out 13 [(38, 38), (39, 39), (40, 40), (41, 41), (42, 42), (43, 43), (44, 44), (45, 45), (46, 46), (47, 47), (48, 48), (49, 49), (4, 4)]
    (fun (j : Nat) (v u : Value) (w0 : World) => match j with
      | 0 => v = .bool true
      | 1 => v = .bool true
      | 2 => v = .slice wa1 wn1 wc1
      | 3 => v = .string (strOfNums l0)
      | 4 => v = .slice wa2 wn2 wc2
      | 5 => v = .string (strOfNums l1)
      | 6 => v = .bool d
      | 7 => v = .agg #[Value.slice x0.a x0.n x0.cap, Value.int .u64 x0.c.m, Value.int .u64 x0.c.l, Value.int .u64 x0.c.o, Value.int .u64 x0.c.t, Value.slice x0.c.a x0.c.n x0.c.cap]
      | 8 => v = .agg #[Value.slice x1.a x1.n x1.cap, Value.int .u64 x1.c.m, Value.int .u64 x1.c.l, Value.int .u64 x1.c.o, Value.int .u64 x1.c.t, Value.slice x1.c.a x1.c.n x1.c.cap]
      | 9 => v = .bool d
      | 10 => v = .bool true
      | 11 => v = .bool true
      | 12 => v = .bool true
      | _ => True)
    (fun W => (v5).drew.grownBy W none) (fun _ _ _ => False) (by kernel_rfl) (by kernel_rfl) (World.grownBy.refl _ _) (fun _ _ h1 h2 => h1.trans h2) (fun _ _ _ _ h => h.elim) ?_ ?_ ?_ ?_
  · intro j v u w0 w' h hg
    match j, h with
    | 0, h => exact h
    | 1, h => exact h
    | 2, h => exact h
    | 3, h => exact h
    | 4, h => exact h
    | 5, h => exact h
    | 6, h => exact h
    | 7, h => exact h
    | 8, h => exact h
    | 9, h => exact h
    | 10, h => exact h
    | 11, h => exact h
    | 12, h => exact h
    | j + 13, h => exact h
  · intro j v u a0 w0 w' hne h hr
    match j, hne, h with
    | 0, hne, h => exact h
    | 1, hne, h => exact h
    | 2, hne, h => exact h
    | 3, hne, h => exact h
    | 4, hne, h => exact h
    | 5, hne, h => exact h
    | 6, hne, h => exact h
    | 7, hne, h => exact h
    | 8, hne, h => exact h
    | 9, hne, h => exact h
    | 10, hne, h => exact h
    | 11, hne, h => exact h
    | 12, hne, h => exact h
    | j + 13, _, h => exact h
  · intro i1 o ho a1 w1 hJ hw ht
    match i1, ho with
    | 0, ho =>
      obtain rfl := Option.some.inj ho
      exact StepsTo.move rfl (.tmp 5) (.inl rfl) ⟨(hw 5 (by kernel_rfl)), fun h => absurd h (by decide), fun _ => World.grownBy.refl _ _⟩
    | 1, ho =>
      obtain rfl := Option.some.inj ho
      exact StepsTo.move rfl (.tmp 38) (.inl rfl) ⟨(ht 0 (by kernel_rfl)), fun h => absurd h (by decide), fun _ => World.grownBy.refl _ _⟩
    | 2, ho =>
      obtain rfl := Option.some.inj ho
      refine StepsTo.guarded (wanted_of rfl rfl (show a1.eval (.tmp 39) = .bool true from (ht 1 (by kernel_rfl)))) ?_
      exact StepsTo.move rfl (.tmp 6) (.inl rfl) ⟨(hw 6 (by kernel_rfl)), fun h => absurd h (by decide), fun _ => World.grownBy.refl _ _⟩
    | 3, ho =>
      obtain rfl := Option.some.inj ho
      refine StepsTo.guarded (wanted_of rfl rfl (show a1.eval (.tmp 39) = .bool true from (ht 1 (by kernel_rfl)))) ?_
      exact StepsTo.of_run rfl (run_str rfl (show a1.eval (.tmp 40) = .slice wa1 wn1 wc1 from (ht 2 (by kernel_rfl))) (HU_4.out.below (grown_below15 hJ) (Nat.le_refl _))) ⟨rfl, fun h => absurd h (by decide), fun _ => World.grownBy.refl _ _⟩
    | 4, ho =>
      obtain rfl := Option.some.inj ho
      refine StepsTo.guarded (wanted_of rfl rfl (show a1.eval (.tmp 39) = .bool true from (ht 1 (by kernel_rfl)))) ?_
      exact StepsTo.move rfl (.tmp 8) (.inl rfl) ⟨(hw 8 (by kernel_rfl)), fun h => absurd h (by decide), fun _ => World.grownBy.refl _ _⟩
    | 5, ho =>
      obtain rfl := Option.some.inj ho
      refine StepsTo.guarded (wanted_of rfl rfl (show a1.eval (.tmp 39) = .bool true from (ht 1 (by kernel_rfl)))) ?_
      exact StepsTo.of_run rfl (run_str rfl (show a1.eval (.tmp 42) = .slice wa2 wn2 wc2 from (ht 4 (by kernel_rfl))) (HV_4.out.below (grown_below15 hJ) (Nat.le_refl _))) ⟨rfl, fun h => absurd h (by decide), fun _ => World.grownBy.refl _ _⟩
    | 6, ho =>
      obtain rfl := Option.some.inj ho
      refine StepsTo.guarded (wanted_of rfl rfl (show a1.eval (.tmp 39) = .bool true from (ht 1 (by kernel_rfl)))) ?_
      exact StepsTo.of_run rfl (run_eqlS2 rfl (show a1.eval (.tmp 41) = .string (strOfNums l0) from (ht 3 (by kernel_rfl))) (show a1.eval (.tmp 43) = .string (strOfNums l1) from (ht 5 (by kernel_rfl)))) ⟨by show Value.bool ((strOfNums l0).toList == (strOfNums l1).toList) = _; rw [HSE.out], fun h => absurd h (by decide), fun _ => World.grownBy.refl _ _⟩
    | 7, ho =>
      obtain rfl := Option.some.inj ho
      refine StepsTo.guarded (wanted_of rfl rfl (show a1.eval (.tmp 39) = .bool true from (ht 1 (by kernel_rfl)))) ?_
      have e1 : a1.eval (.tmp 2) = .pointer (some ⟨w.heap.size, 0, none⟩) := (hw 2 (by kernel_rfl))
      exact StepsTo.load_row rfl 28 (.tmp 2) rfl e1 ((hJ.block _ (Array.getElem?_eq_some_iff.1 HP.out).1 (by simp)).trans HP.out) Try.underlying28 rfl (show _ = some (#[Value.slice x0.a x0.n x0.cap, Value.int .u64 x0.c.m, Value.int .u64 x0.c.l, Value.int .u64 x0.c.o, Value.int .u64 x0.c.t, Value.slice x0.c.a x0.c.n x0.c.cap] : Array Value).size from info_im6') ⟨rfl, fun h => absurd h (by decide), fun _ => World.grownBy.refl _ _⟩
    | 8, ho =>
      obtain rfl := Option.some.inj ho
      refine StepsTo.guarded (wanted_of rfl rfl (show a1.eval (.tmp 39) = .bool true from (ht 1 (by kernel_rfl)))) ?_
      have e1 : a1.eval (.tmp 3) = .pointer (some ⟨w.heap.size + 1, 0, none⟩) := (hw 3 (by kernel_rfl))
      exact StepsTo.load_row rfl 28 (.tmp 3) rfl e1 ((hJ.block _ (Array.getElem?_eq_some_iff.1 HQ.out).1 (by simp)).trans HQ.out) Try.underlying28 rfl (show _ = some (#[Value.slice x1.a x1.n x1.cap, Value.int .u64 x1.c.m, Value.int .u64 x1.c.l, Value.int .u64 x1.c.o, Value.int .u64 x1.c.t, Value.slice x1.c.a x1.c.n x1.c.cap] : Array Value).size from info_im6') ⟨rfl, fun h => absurd h (by decide), fun _ => World.grownBy.refl _ _⟩
    | 9, ho =>
      obtain rfl := Option.some.inj ho
      refine StepsTo.guarded (wanted_of rfl rfl (show a1.eval (.tmp 39) = .bool true from (ht 1 (by kernel_rfl)))) ?_
      have e1 : a1.eval (.tmp 45) = .agg #[Value.slice x0.a x0.n x0.cap, Value.int .u64 x0.c.m, Value.int .u64 x0.c.l, Value.int .u64 x0.c.o, Value.int .u64 x0.c.t, Value.slice x0.c.a x0.c.n x0.c.cap] := (ht 7 (by kernel_rfl))
      have e2 : a1.eval (.tmp 46) = .agg #[Value.slice x1.a x1.n x1.cap, Value.int .u64 x1.c.m, Value.int .u64 x1.c.l, Value.int .u64 x1.c.o, Value.int .u64 x1.c.t, Value.slice x1.c.a x1.c.n x1.c.cap] := (ht 8 (by kernel_rfl))
      have hb := grown_below15 hJ
      refine StepsTo.enter rfl _ _ (run_same15 rfl e1 e2) (rsame15_is x0 x1 d w1 (HX_4.out.below hb (Nat.le_refl _)) (HY_4.out.below hb (Nat.le_refl _)) HD.out) (fun e w' h => ?_)
      exact ⟨_, h.1, rfl, fun h => absurd h (by decide), fun _ => below_grew15 h.2⟩
    | 10, ho =>
      obtain rfl := Option.some.inj ho
      refine StepsTo.guarded (wanted_of rfl rfl (show a1.eval (.tmp 39) = .bool true from (ht 1 (by kernel_rfl)))) ?_
      exact StepsTo.of_run rfl (run_eqlB rfl (show a1.eval (.tmp 44) = .bool d from (ht 6 (by kernel_rfl))) (show a1.eval (.tmp 47) = .bool d from (ht 9 (by kernel_rfl)))) ⟨by show Value.bool (d == d) = _; simp, fun h => absurd h (by decide), fun _ => World.grownBy.refl _ _⟩
    | 11, ho =>
      obtain rfl := Option.some.inj ho
      exact StepsTo.of_run rfl (run_pick rfl (show a1.eval (.tmp 39) = .bool true from (ht 1 (by kernel_rfl))) (show a1.eval (.tmp 48) = .bool true from (ht 10 (by kernel_rfl))) rfl) ⟨rfl, fun h => absurd h (by decide), fun _ => World.grownBy.refl _ _⟩
    | 12, ho =>
      obtain rfl := Option.some.inj ho
      exact StepsTo.move rfl (.tmp 49) (.inr rfl) ⟨(ht 11 (by kernel_rfl)), fun h => absurd h (by decide), fun _ => World.grownBy.refl _ _⟩
    | j1 + 13, ho => exact absurd (Array.getElem?_eq_some_iff.1 ho).1 (by simp)
  intro tm W9 hsz hJ hfr hto
  rw [act_lit2 tm (show tm.size = 50 from hsz)]
  simp only [List.range, List.range.loop, List.map_cons, List.map_nil]
  rw [hfr 0 (by kernel_rfl), hfr 1 (by kernel_rfl), hfr 2 (by kernel_rfl), hfr 3 (by kernel_rfl), hfr 5 (by kernel_rfl), hfr 6 (by kernel_rfl), hfr 7 (by kernel_rfl), hfr 8 (by kernel_rfl), hfr 9 (by kernel_rfl), hfr 10 (by kernel_rfl), hfr 11 (by kernel_rfl), hfr 12 (by kernel_rfl), hfr 13 (by kernel_rfl), hfr 14 (by kernel_rfl), hfr 15 (by kernel_rfl), hfr 16 (by kernel_rfl), hfr 17 (by kernel_rfl), hfr 18 (by kernel_rfl), hfr 19 (by kernel_rfl), hfr 20 (by kernel_rfl), hfr 21 (by kernel_rfl), hfr 22 (by kernel_rfl), hfr 23 (by kernel_rfl), hfr 24 (by kernel_rfl), hfr 25 (by kernel_rfl), hfr 26 (by kernel_rfl), hfr 27 (by kernel_rfl), hfr 28 (by kernel_rfl), hfr 29 (by kernel_rfl), hfr 30 (by kernel_rfl), hfr 31 (by kernel_rfl), hfr 32 (by kernel_rfl), hfr 33 (by kernel_rfl), hfr 34 (by kernel_rfl), hfr 35 (by kernel_rfl), hfr 36 (by kernel_rfl), hfr 37 (by kernel_rfl)]
  have t0 : (tm.getD 38 undef) = .bool true := hto 0 (by decide)
  have t1 : (tm.getD 39 undef) = .bool true := hto 1 (by decide)
  have t2 : (tm.getD 40 undef) = .slice wa1 wn1 wc1 := hto 2 (by decide)
  have t3 : (tm.getD 41 undef) = .string (strOfNums l0) := hto 3 (by decide)
  have t4 : (tm.getD 42 undef) = .slice wa2 wn2 wc2 := hto 4 (by decide)
  have t5 : (tm.getD 43 undef) = .string (strOfNums l1) := hto 5 (by decide)
  have t6 : (tm.getD 44 undef) = .bool d := hto 6 (by decide)
  have t7 : (tm.getD 45 undef) = .agg #[Value.slice x0.a x0.n x0.cap, Value.int .u64 x0.c.m, Value.int .u64 x0.c.l, Value.int .u64 x0.c.o, Value.int .u64 x0.c.t, Value.slice x0.c.a x0.c.n x0.c.cap] := hto 7 (by decide)
  have t8 : (tm.getD 46 undef) = .agg #[Value.slice x1.a x1.n x1.cap, Value.int .u64 x1.c.m, Value.int .u64 x1.c.l, Value.int .u64 x1.c.o, Value.int .u64 x1.c.t, Value.slice x1.c.a x1.c.n x1.c.cap] := hto 8 (by decide)
  have t9 : (tm.getD 47 undef) = .bool d := hto 9 (by decide)
  have t10 : (tm.getD 48 undef) = .bool true := hto 10 (by decide)
  have t11 : (tm.getD 49 undef) = .bool true := hto 11 (by decide)
  have t12 : (tm.getD 4 undef) = .bool true := hto 12 (by decide)
  clear hto
  generalize tm.getD 4 undef = y4 at *
  generalize tm.getD 38 undef = y38 at *
  generalize tm.getD 39 undef = y39 at *
  generalize tm.getD 40 undef = y40 at *
  generalize tm.getD 41 undef = y41 at *
  generalize tm.getD 42 undef = y42 at *
  generalize tm.getD 43 undef = y43 at *
  generalize tm.getD 44 undef = y44 at *
  generalize tm.getD 45 undef = y45 at *
  generalize tm.getD 46 undef = y46 at *
  generalize tm.getD 47 undef = y47 at *
  generalize tm.getD 48 undef = y48 at *
  generalize tm.getD 49 undef = y49 at *
  clear hfr hsz tm
  obtain rfl := t12
  have HB9 : Hid (Below w.heap.size w W9) := HB_4.out.trans ((grown_below15 hJ).mono HB_4.out.size)
  clear t0 t1 t2 t3 t4 t5 t6 t7 t8 t9 t10 t11 hJ hmx
  go_wp2
  go_ret
  exact ⟨rfl, HB9.out⟩

set_option maxRecDepth 100000 in
theorem lifted (os : Os) (started : os.Started) (H : Type) (enc : TypeId × Value → H) :
    ReturnsInHanded {} Try.checked os 6 .any (Rows.imageApartSpec.pre6 enc Try.prog Try.f6 Rows.imageApartRow.domain false) (Rows.imageApartSpec.post enc Try.prog Try.f6 false true false false) := by
  refine returnsInHanded_of_change (C := Try.checked) own started (by kernel_rfl) Try.func6
    (ChangeSpec.witness6 (enc := enc) (C := Try.checked) false ⟨#[], #[.agg #[.slice none 0 0, .int .u64 0, .int .u64 0, .int .u64 0, .int .u64 0, .slice none 0 0], .agg #[.slice none 0 0, .int .u64 0, .int .u64 0, .int .u64 0, .int .u64 0, .slice none 0 0]], []⟩ 8 (by kernel_rfl) (by kernel_rfl) (by kernel_rfl) (by kernel_rfl)) ?_
  intro W base args ds gs before hval0 hW hcnd _
  have hval : ∀ (j : Nat) t v, Try.f6.params[j]? = some t → args[j]? = some v → Value.okWide Try.prog W .any base t v := hval0
  have hW' := hW
  obtain ⟨p, q, hA0, hV, rfl, hfz, hnd⟩ := hW
  have hA : DataW.TrodAll enc Try.prog W 0 (fun _ => true) true Try.f6.params.toList args.toList ds p := hA0
  rw [Try.params6] at hA hval
  obtain ⟨v0, vs0, d0, ds0, p0, q0, hargs, rfl, rfl, h0, r0⟩ := trodAll_cons hA
  obtain ⟨v1, vs1, d1, ds1, p1, q1, rfl, rfl, rfl, h1, r1⟩ := trodAll_cons r0
  obtain ⟨rfl, rfl, rfl⟩ := trodAll_nil r1
  obtain rfl : args = #[v0, v1] := by cases args; simp_all
  obtain ⟨rfl, rfl⟩ := trodVars_none hV
  have k0 := h0
  have lt0 : ∀ x ∈ p0, x.block < W.heap.size := by obtain ⟨m, hm⟩ := k0; exact DataW.trod_lt m _ _ _ hm
  obtain ⟨x0, rfl, w0, n0⟩ := Iw.open (hval 0 28 v0 rfl rfl) h0
  have k1 := h1
  have lt1 : ∀ x ∈ p1, x.block < W.heap.size := by obtain ⟨m, hm⟩ := k1; exact DataW.trod_lt m _ _ _ hm
  obtain ⟨x1, rfl, w1, n1⟩ := Iw.open (hval 1 28 v1 rfl rfl) h1
  clear hA0 hval0
  refine (walk x0 x1 W w0 n0 w1 n1).mono fun e W' ⟨he, bel⟩ => ?_
  subst he
  exact ⟨_, rfl, _, _, _, [], _, [], hW', trodAll_mk1 (shut_bool Try.underlying4 _), (trodAll_cons_mk (Below.trod laidOut (by kernel_rfl) (of_decide_eq_true (by kernel_rfl)) k0 bel lt0) (trodAll_cons_mk (Below.trod laidOut (by kernel_rfl) (of_decide_eq_true (by kernel_rfl)) k1 bel lt1) trodAll_mk0)), rfl, bel.frame _, fun h => by cases h⟩

theorem over : Rows.imageApartRow.holds Try.pinned (OpenSpec.ofChange Rows.imageApartSpec) :=
  OpenClaim.holds_of_wide 6 Try.f6 rfl rfl rfl rfl rfl rfl rfl ⟨rfl, rfl, rfl, rfl, rfl⟩ rfl rfl rfl rfl rfl (by kernel_rfl) Try.func6 (by kernel_rfl)
    (of_decide_eq_true (by kernel_rfl)) (by unfold Func.isWrapper; first | (rw [if_pos (by decide +kernel)]; kernel_rfl) | (rw [if_neg (by decide +kernel)]; exact ⟨rfl, rfl⟩))
    (fun os started H enc _ => lifted os started H enc)

/-- the statement -/
theorem proved : Rows.ImageApartSaid := over
#print axioms proved
end Go.Proofs.Ytbfjihbkkcggmaa.imageApart
