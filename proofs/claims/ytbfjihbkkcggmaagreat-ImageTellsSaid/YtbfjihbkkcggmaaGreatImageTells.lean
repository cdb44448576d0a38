/- For every image and all bytes, ImageTells answers true, and turns nothing that was there. No condition. -/
import Derived.Test.YtbfjihbkkcggmaaGreatRows
import Derived.Test.YtbfjihbkkcggmaaGreatImgLaw
import Derived.Test.YtbfjihbkkcggmaaGreatPackW
import Derived.Test.YtbfjihbkkcggmaaGreatPackX
import Derived.Test.YtbfjihbkkcggmaaGreatImgRefRead
import Derived.WalkKit
import Derived.ProofKit
import Derived.OpenShut
import Derived.ShutString
import Derived.ChangeOld
import Derived.Below
import Derived.Deep.Matrix
import Derived.SizedLaws
namespace Go.Proofs.YtbfjihbkkcggmaaGreat.imageTells
open Go.ChangeShapes Go.WideShapes Go.ChangeAt Go.RowKit
set_option linter.unusedVariables false

theorem own : ownKnob Tryz.prog.godebug = none := by kernel_rfl
theorem laidOut : laidOutB Tryz.prog = true := by kernel_rfl

/-- a slice of integers that came in -/
def IsRow (k : IntKind) (w : World) (a : Option Addr) (len cap : Nat) (zs : List Int) : Prop :=
  (a = none ∧ len = 0 ∧ cap = 0 ∧ zs = []) ∨
  ∃ x, a = some x ∧ len ≤ cap ∧ cap ≤ maxLen ∧ zs.length = cap ∧ (∀ i, i < zs.length → w.cell? (x.add i) = some (.int k (zs.getD i 0))) ∧ ∀ n ∈ zs, (Lit.int k n).wf = true

/-! ### STEP 1: the walk -/
set_option maxHeartbeats 6400000 in
set_option maxRecDepth 100000 in
theorem walk (x0 : Iw) (a1 : Option Addr) (len1 cap1 : Nat) (z1 : List Int) (w : World) (w0 : x0.Good w) (n0 : (x0.a = none → x0.cap = 0) ∧ (x0.c.a = none → x0.c.cap = 0)) (w1 : IsRow .u8 w a1 len1 cap1 z1) :
    Calls Tryz.prog 3 #[x0.v, .slice a1 len1 cap1] w fun e w' => e = .returned (.bool true) ∧ Below w.heap.size w w' := by
  have hn10 : a1 = none → cap1 = 0 := by
    rcases w1 with ⟨_, _, h, _⟩ | ⟨x, h, _⟩
    · exact fun _ => h
    · intro h'; rw [h] at h'; cases h'
  have HN1 := Lib.hid hn10
  clear hn10
  have hs1 := Sl.of_row w1
  generalize z1.take len1 = bs at hs1
  have hcm1 := hs1.2.2.1
  have hnc1 := hs1.2.1
  unfold maxLen at hcm1
  have HS_0a := Lib.hid hs1
  have HLEN1 := Lib.hid hs1.1
  clear hs1 w1
  have HX_0a := Lib.hid w0
  clear w0 n0
  obtain ⟨⟨wl, we⟩, hw⟩ : ∃ g, Img.wr x0.im = g := ⟨_, rfl⟩
  obtain ⟨⟨r1, e1⟩, hr1⟩ : ∃ g, Img.rd bs = g := ⟨_, rfl⟩
  obtain ⟨⟨r2, e2⟩, hr2⟩ : ∃ g, Img.rd (Crc.lock bs) = g := ⟨_, rfl⟩
  have HW := Lib.hid hw
  have HR1 := Lib.hid hr1
  have HR2 := Lib.hid hr2
  have HBX : Hid (∀ o, Below w.heap.size w (w.alloc o)) := fun o => (Below.refl _ w).alloc (Nat.le_refl _) o
  have HNW : Hid (∀ o, (w.alloc o).heap[w.heap.size]? = some o) := fun o => heap_alloc_new w o
  have HSZ : Hid (∀ o, (w.alloc o).heap.size = w.heap.size + 1) := fun o => World.size_alloc w o
  clear hw hr1 hr2
  simp only [Iw.v]
  go_enter Tryz.func3, Tryz.ntmps3
  go_wp2_with fail
  refine (awake_any _).mono ?_
  rintro e v1 ⟨rfl, B1⟩
  have HB_0 : Hid (Below w.heap.size w v1) := (HBX.out _).trans (B1.mono (by simp))
  have HP_0 : Hid (v1.heap[w.heap.size]? = some (.cells #[Value.slice x0.a x0.n x0.cap, Value.int .u64 x0.c.m, Value.int .u64 x0.c.l, Value.int .u64 x0.c.o, Value.int .u64 x0.c.t, Value.slice x0.c.a x0.c.n x0.c.cap] 28 (0, 0))) := (B1.block _ (by rw [HSZ.out]; exact Nat.lt_succ_self _)).trans (HNW.out _)
  have HX_0 := Lib.hid (HX_0a.out.below HB_0.out (Nat.le_refl _))
  have HS_0 := Lib.hid (HS_0a.out.below HB_0.out (Nat.le_refl _))
  clear B1 HBX HNW HSZ HX_0a HS_0a
  go_wp2_with (refine wpList_load_row_w (by rfl) 28 (.tmp 2) (by rfl) w.heap.size (by rfl) 28 #[Value.slice x0.a x0.n x0.cap, Value.int .u64 x0.c.m, Value.int .u64 x0.c.l, Value.int .u64 x0.c.o, Value.int .u64 x0.c.t, Value.slice x0.c.a x0.c.n x0.c.cap] (0, 0) _ HP_0.out Tryz.underlying28 (by rfl) (show _ = some (#[Value.slice x0.a x0.n x0.cap, Value.int .u64 x0.c.m, Value.int .u64 x0.c.l, Value.int .u64 x0.c.o, Value.int .u64 x0.c.t, Value.slice x0.c.a x0.c.n x0.c.cap] : Array Value).size from info_im6') ?_)
  refine (few15_is x0 v1 HX_0.out).mono ?_
  rintro e v2 ⟨he, hb⟩
  have HP_1 := Lib.hid ((hb.block _ (Array.getElem?_eq_some_iff.1 HP_0.out).1).trans HP_0.out)
  have HX_1 := Lib.hid (HX_0.out.below hb (Nat.le_refl _))
  have HS_1 := Lib.hid (HS_0.out.below hb (Nat.le_refl _))
  have HB_1 := Lib.hid (HB_0.out.trans (hb.mono HB_0.out.size))
  clear HP_0 HX_0 HS_0 HB_0 hb
  rcases he with rfl | ⟨rfl, -, -, -, hn300⟩
  · go_wp2
    go_ret
    exact ⟨rfl, HB_1.out⟩
  have hor : 3000 < len1 ∨ len1 ≤ 3000 := by omega
  have hib : (3000 < len1 → (3000 : Int) < (len1 : Int)) ∧ (len1 ≤ 3000 → ¬ (3000 : Int) < (len1 : Int)) := ⟨fun h => by omega, fun h => by omega⟩
  rcases hor with g0 | g0
  · have hi0 := hib.1 g0
    clear hib
    go_wp2
    go_ret
    exact ⟨rfl, HB_1.out⟩
  have hi0 := hib.2 g0
  clear hib
  go_wp2_with (refine wpList_load_row_w (by rfl) 28 (.tmp 2) (by rfl) w.heap.size (by rfl) 28 #[Value.slice x0.a x0.n x0.cap, Value.int .u64 x0.c.m, Value.int .u64 x0.c.l, Value.int .u64 x0.c.o, Value.int .u64 x0.c.t, Value.slice x0.c.a x0.c.n x0.c.cap] (0, 0) _ HP_1.out Tryz.underlying28 (by rfl) (show _ = some (#[Value.slice x0.a x0.n x0.cap, Value.int .u64 x0.c.m, Value.int .u64 x0.c.l, Value.int .u64 x0.c.o, Value.int .u64 x0.c.t, Value.slice x0.c.a x0.c.n x0.c.cap] : Array Value).size from info_im6') ?_)
  refine (iwrite_is x0 v2 HX_1.out).mono ?_
  rintro e v3 ⟨h, hb⟩
  obtain ⟨wa1, wn1, wc1, he, hw1⟩ := h.any
  rw [HW.out] at he hw1
  subst he
  have HP_2 := Lib.hid ((hb.block _ (Array.getElem?_eq_some_iff.1 HP_1.out).1).trans HP_1.out)
  have HX_2 := Lib.hid (HX_1.out.below hb (Nat.le_refl _))
  have HS_2 := Lib.hid (HS_1.out.below hb (Nat.le_refl _))
  have HB_2 := Lib.hid (HB_1.out.trans (hb.mono HB_1.out.size))
  clear HP_1 HX_1 HS_1 HB_1 hb
  have HU_2 := Lib.hid (hw1)
  clear h hw1
  simp only []
  go_wp2_with (refine wpList_load_row_w (by rfl) 28 (.tmp 2) (by rfl) w.heap.size (by rfl) 28 #[Value.slice x0.a x0.n x0.cap, Value.int .u64 x0.c.m, Value.int .u64 x0.c.l, Value.int .u64 x0.c.o, Value.int .u64 x0.c.t, Value.slice x0.c.a x0.c.n x0.c.cap] (0, 0) _ HP_2.out Tryz.underlying28 (by rfl) (show _ = some (#[Value.slice x0.a x0.n x0.cap, Value.int .u64 x0.c.m, Value.int .u64 x0.c.l, Value.int .u64 x0.c.o, Value.int .u64 x0.c.t, Value.slice x0.c.a x0.c.n x0.c.cap] : Array Value).size from info_im6') ?_)
  refine (rwrite15_is x0 v3 HX_2.out (by omega)).mono ?_
  rintro e v4 ⟨h, hb⟩
  obtain ⟨wa2, wn2, wc2, he, hw2⟩ := h.any
  rw [HW.out] at he hw2
  subst he
  have HP_3 := Lib.hid ((hb.block _ (Array.getElem?_eq_some_iff.1 HP_2.out).1).trans HP_2.out)
  have HX_3 := Lib.hid (HX_2.out.below hb (Nat.le_refl _))
  have HS_3 := Lib.hid (HS_2.out.below hb (Nat.le_refl _))
  have HU_3 := Lib.hid (HU_2.out.below hb (Nat.le_refl _))
  have HB_3 := Lib.hid (HB_2.out.trans (hb.mono HB_2.out.size))
  clear HP_2 HX_2 HS_2 HU_2 HB_2 hb
  have HV_3 := Lib.hid (hw2)
  clear h hw2
  simp only []
  go_wp2_with fail
  refine (iread_is a1 len1 cap1 bs _ HS_3.out (by omega)).mono ?_
  rintro e v5 ⟨h, hb⟩
  obtain ⟨x5, hx5, hg5, he⟩ := h.any
  rw [HR1.out] at he hx5
  subst he
  have HI5 := Lib.hid hx5
  have HP_4 := Lib.hid ((hb.block _ (Array.getElem?_eq_some_iff.1 HP_3.out).1).trans HP_3.out)
  have HX_4 := Lib.hid (HX_3.out.below hb (Nat.le_refl _))
  have HS_4 := Lib.hid (HS_3.out.below hb (Nat.le_refl _))
  have HU_4 := Lib.hid (HU_3.out.below hb (Nat.le_refl _))
  have HV_4 := Lib.hid (HV_3.out.below hb (Nat.le_refl _))
  have HB_4 := Lib.hid (HB_3.out.trans (hb.mono HB_3.out.size))
  clear HP_3 HX_3 HS_3 HU_3 HV_3 HB_3 hb
  have HG5_4 := Lib.hid (hg5)
  clear h hg5 hx5
  simp only [Iw.v]
  go_wp2_with fail
  refine (rread15_is a1 len1 cap1 bs _ (HS_4.out.alloc _) (by omega)).mono ?_
  rintro e v6 ⟨h, hb6⟩
  obtain ⟨x6, hx6, hg6, he⟩ := h.any
  rw [HR1.out] at he hx6
  subst he
  have HI6 := Lib.hid hx6
  have hp : v6.heap[v5.heap.size]? = some (.cells #[Value.slice x5.a x5.n x5.cap, Value.int .u64 x5.c.m, Value.int .u64 x5.c.l, Value.int .u64 x5.c.o, Value.int .u64 x5.c.t, Value.slice x5.c.a x5.c.n x5.c.cap] 28 (0, 0)) := (hb6.block _ (by simp)).trans (heap_alloc_new v5 _)
  have hb : Below v5.heap.size v5 v6 := ((Below.refl v5.heap.size v5).alloc (Nat.le_refl _) _).trans (hb6.mono (by simp))
  have HP_5 := Lib.hid ((hb.block _ (Array.getElem?_eq_some_iff.1 HP_4.out).1).trans HP_4.out)
  have HX_5 := Lib.hid (HX_4.out.below hb (Nat.le_refl _))
  have HS_5 := Lib.hid (HS_4.out.below hb (Nat.le_refl _))
  have HU_5 := Lib.hid (HU_4.out.below hb (Nat.le_refl _))
  have HV_5 := Lib.hid (HV_4.out.below hb (Nat.le_refl _))
  have HG5_5 := Lib.hid (HG5_4.out.below hb (Nat.le_refl _))
  have HB_5 := Lib.hid (HB_4.out.trans (hb.mono HB_4.out.size))
  clear HP_4 HX_4 HS_4 HU_4 HV_4 HG5_4 HB_4 hb
  have HG6_5 := Lib.hid (hg6)
  have HP5_5 := Lib.hid (hp)
  clear h hg6 hx6 hp hb6
  simp only [Iw.v]
  go_wp2_with fail
  refine (cseal_is a1 len1 cap1 bs _ (HS_5.out.alloc _) (by omega)).mono ?_
  intro e v7 h7
  obtain ⟨a7, n7, c7, rfl, hn7, hs7, -, hb7⟩ := h7.sl (bytes_wf (Crc.lock_bytes HS_5.out.bytes))
  have hp : v7.heap[v6.heap.size]? = some (.cells #[Value.slice x6.a x6.n x6.cap, Value.int .u64 x6.c.m, Value.int .u64 x6.c.l, Value.int .u64 x6.c.o, Value.int .u64 x6.c.t, Value.slice x6.c.a x6.c.n x6.c.cap] 28 (0, 0)) := (hb7.block _ (by simp)).trans (heap_alloc_new v6 _)
  have hb : Below v6.heap.size v6 v7 := ((Below.refl v6.heap.size v6).alloc (Nat.le_refl _) _).trans (hb7.mono (by simp))
  have hn7' : n7 ≤ 3004 := by have := HS_5.out.1; rw [hn7, Crc.lock_length]; omega
  have HP_6 := Lib.hid ((hb.block _ (Array.getElem?_eq_some_iff.1 HP_5.out).1).trans HP_5.out)
  have HX_6 := Lib.hid (HX_5.out.below hb (Nat.le_refl _))
  have HS_6 := Lib.hid (HS_5.out.below hb (Nat.le_refl _))
  have HU_6 := Lib.hid (HU_5.out.below hb (Nat.le_refl _))
  have HV_6 := Lib.hid (HV_5.out.below hb (Nat.le_refl _))
  have HG5_6 := Lib.hid (HG5_5.out.below hb (Nat.le_refl _))
  have HG6_6 := Lib.hid (HG6_5.out.below hb (Nat.le_refl _))
  have HP5_6 := Lib.hid ((hb.block _ (Array.getElem?_eq_some_iff.1 HP5_5.out).1).trans HP5_5.out)
  have HB_6 := Lib.hid (HB_5.out.trans (hb.mono HB_5.out.size))
  clear HP_5 HX_5 HS_5 HU_5 HV_5 HG5_5 HG6_5 HP5_5 HB_5 hb
  have HS7_6 := Lib.hid (hs7)
  have HP6_6 := Lib.hid (hp)
  clear h7 hn7 hs7 hp hb7
  go_wp2_with fail
  refine (iread_is a7 n7 c7 _ _ HS7_6.out (by omega)).mono ?_
  rintro e v8 ⟨h, hb⟩
  obtain ⟨x8, hx8, hg8, he⟩ := h.any
  rw [HR2.out] at he hx8
  subst he
  have HI8 := Lib.hid hx8
  have HP_7 := Lib.hid ((hb.block _ (Array.getElem?_eq_some_iff.1 HP_6.out).1).trans HP_6.out)
  have HX_7 := Lib.hid (HX_6.out.below hb (Nat.le_refl _))
  have HS_7 := Lib.hid (HS_6.out.below hb (Nat.le_refl _))
  have HU_7 := Lib.hid (HU_6.out.below hb (Nat.le_refl _))
  have HV_7 := Lib.hid (HV_6.out.below hb (Nat.le_refl _))
  have HG5_7 := Lib.hid (HG5_6.out.below hb (Nat.le_refl _))
  have HG6_7 := Lib.hid (HG6_6.out.below hb (Nat.le_refl _))
  have HP5_7 := Lib.hid ((hb.block _ (Array.getElem?_eq_some_iff.1 HP5_6.out).1).trans HP5_6.out)
  have HS7_7 := Lib.hid (HS7_6.out.below hb (Nat.le_refl _))
  have HP6_7 := Lib.hid ((hb.block _ (Array.getElem?_eq_some_iff.1 HP6_6.out).1).trans HP6_6.out)
  have HB_7 := Lib.hid (HB_6.out.trans (hb.mono HB_6.out.size))
  clear HP_6 HX_6 HS_6 HU_6 HV_6 HG5_6 HG6_6 HP5_6 HS7_6 HP6_6 HB_6 hb
  have HG8_7 := Lib.hid (hg8)
  clear h hg8 hx8
  simp only [Iw.v]
  go_wp2_with fail
  refine (cseal_is a1 len1 cap1 bs _ (HS_7.out.alloc _) (by omega)).mono ?_
  intro e v9 h9
  obtain ⟨a9, n9, c9, rfl, hn9, hs9, -, hb9⟩ := h9.sl (bytes_wf (Crc.lock_bytes HS_7.out.bytes))
  have hp : v9.heap[v8.heap.size]? = some (.cells #[Value.slice x8.a x8.n x8.cap, Value.int .u64 x8.c.m, Value.int .u64 x8.c.l, Value.int .u64 x8.c.o, Value.int .u64 x8.c.t, Value.slice x8.c.a x8.c.n x8.c.cap] 28 (0, 0)) := (hb9.block _ (by simp)).trans (heap_alloc_new v8 _)
  have hb : Below v8.heap.size v8 v9 := ((Below.refl v8.heap.size v8).alloc (Nat.le_refl _) _).trans (hb9.mono (by simp))
  have hn9' : n9 ≤ 3004 := by have := HS_7.out.1; rw [hn9, Crc.lock_length]; omega
  have HP_8 := Lib.hid ((hb.block _ (Array.getElem?_eq_some_iff.1 HP_7.out).1).trans HP_7.out)
  have HX_8 := Lib.hid (HX_7.out.below hb (Nat.le_refl _))
  have HS_8 := Lib.hid (HS_7.out.below hb (Nat.le_refl _))
  have HU_8 := Lib.hid (HU_7.out.below hb (Nat.le_refl _))
  have HV_8 := Lib.hid (HV_7.out.below hb (Nat.le_refl _))
  have HG5_8 := Lib.hid (HG5_7.out.below hb (Nat.le_refl _))
  have HG6_8 := Lib.hid (HG6_7.out.below hb (Nat.le_refl _))
  have HP5_8 := Lib.hid ((hb.block _ (Array.getElem?_eq_some_iff.1 HP5_7.out).1).trans HP5_7.out)
  have HS7_8 := Lib.hid (HS7_7.out.below hb (Nat.le_refl _))
  have HP6_8 := Lib.hid ((hb.block _ (Array.getElem?_eq_some_iff.1 HP6_7.out).1).trans HP6_7.out)
  have HG8_8 := Lib.hid (HG8_7.out.below hb (Nat.le_refl _))
  have HB_8 := Lib.hid (HB_7.out.trans (hb.mono HB_7.out.size))
  clear HP_7 HX_7 HS_7 HU_7 HV_7 HG5_7 HG6_7 HP5_7 HS7_7 HP6_7 HG8_7 HB_7 hb
  have HS9_8 := Lib.hid (hs9)
  have HP8_8 := Lib.hid (hp)
  clear h9 hn9 hs9 hp hb9
  go_wp2_with fail
  refine (rread15_is a9 n9 c9 _ _ HS9_8.out (by omega)).mono ?_
  rintro e v10 ⟨h, hb⟩
  obtain ⟨x10, hx10, hg10, he⟩ := h.any
  rw [HR2.out] at he hx10
  subst he
  have HI10 := Lib.hid hx10
  have HP_9 := Lib.hid ((hb.block _ (Array.getElem?_eq_some_iff.1 HP_8.out).1).trans HP_8.out)
  have HX_9 := Lib.hid (HX_8.out.below hb (Nat.le_refl _))
  have HS_9 := Lib.hid (HS_8.out.below hb (Nat.le_refl _))
  have HU_9 := Lib.hid (HU_8.out.below hb (Nat.le_refl _))
  have HV_9 := Lib.hid (HV_8.out.below hb (Nat.le_refl _))
  have HG5_9 := Lib.hid (HG5_8.out.below hb (Nat.le_refl _))
  have HG6_9 := Lib.hid (HG6_8.out.below hb (Nat.le_refl _))
  have HP5_9 := Lib.hid ((hb.block _ (Array.getElem?_eq_some_iff.1 HP5_8.out).1).trans HP5_8.out)
  have HS7_9 := Lib.hid (HS7_8.out.below hb (Nat.le_refl _))
  have HP6_9 := Lib.hid ((hb.block _ (Array.getElem?_eq_some_iff.1 HP6_8.out).1).trans HP6_8.out)
  have HG8_9 := Lib.hid (HG8_8.out.below hb (Nat.le_refl _))
  have HS9_9 := Lib.hid (HS9_8.out.below hb (Nat.le_refl _))
  have HP8_9 := Lib.hid ((hb.block _ (Array.getElem?_eq_some_iff.1 HP8_8.out).1).trans HP8_8.out)
  have HB_9 := Lib.hid (HB_8.out.trans (hb.mono HB_8.out.size))
  clear HP_8 HX_8 HS_8 HU_8 HV_8 HG5_8 HG6_8 HP5_8 HS7_8 HP6_8 HG8_8 HS9_8 HP8_8 HB_8 hb
  have HG10_9 := Lib.hid (hg10)
  clear h hg10 hx10
  simp only [Iw.v]
  go_wp2_with fail
  obtain ⟨W0, hWd⟩ : ∃ W, W = v10.alloc (.cells #[Value.slice x10.a x10.n x10.cap, Value.int .u64 x10.c.m, Value.int .u64 x10.c.l, Value.int .u64 x10.c.o, Value.int .u64 x10.c.t, Value.slice x10.c.a x10.c.n x10.c.cap] 28) := ⟨_, rfl⟩
  rw [← hWd]
  have hb : Below v10.heap.size v10 W0 := by rw [hWd]; exact (Below.refl v10.heap.size v10).alloc (Nat.le_refl _) _
  have hp : W0.heap[v10.heap.size]? = some (.cells #[Value.slice x10.a x10.n x10.cap, Value.int .u64 x10.c.m, Value.int .u64 x10.c.l, Value.int .u64 x10.c.o, Value.int .u64 x10.c.t, Value.slice x10.c.a x10.c.n x10.c.cap] 28 (0, 0)) := by rw [hWd]; exact heap_alloc_new v10 _
  have HP_10 := Lib.hid ((hb.block _ (Array.getElem?_eq_some_iff.1 HP_9.out).1).trans HP_9.out)
  have HX_10 := Lib.hid (HX_9.out.below hb (Nat.le_refl _))
  have HS_10 := Lib.hid (HS_9.out.below hb (Nat.le_refl _))
  have HU_10 := Lib.hid (HU_9.out.below hb (Nat.le_refl _))
  have HV_10 := Lib.hid (HV_9.out.below hb (Nat.le_refl _))
  have HG5_10 := Lib.hid (HG5_9.out.below hb (Nat.le_refl _))
  have HG6_10 := Lib.hid (HG6_9.out.below hb (Nat.le_refl _))
  have HP5_10 := Lib.hid ((hb.block _ (Array.getElem?_eq_some_iff.1 HP5_9.out).1).trans HP5_9.out)
  have HS7_10 := Lib.hid (HS7_9.out.below hb (Nat.le_refl _))
  have HP6_10 := Lib.hid ((hb.block _ (Array.getElem?_eq_some_iff.1 HP6_9.out).1).trans HP6_9.out)
  have HG8_10 := Lib.hid (HG8_9.out.below hb (Nat.le_refl _))
  have HS9_10 := Lib.hid (HS9_9.out.below hb (Nat.le_refl _))
  have HP8_10 := Lib.hid ((hb.block _ (Array.getElem?_eq_some_iff.1 HP8_9.out).1).trans HP8_9.out)
  have HG10_10 := Lib.hid (HG10_9.out.below hb (Nat.le_refl _))
  have HB_10 := Lib.hid (HB_9.out.trans (hb.mono HB_9.out.size))
  clear HP_9 HX_9 HS_9 HU_9 HV_9 HG5_9 HG6_9 HP5_9 HS7_9 HP6_9 HG8_9 HS9_9 HP8_9 HG10_9 HB_9 hb
  have HP10_10 := Lib.hid (hp)
  clear hp hWd
  obtain ⟨S, hS⟩ : ∃ S, S = strOfNums wl := ⟨_, rfl⟩
  have k1 : (convert 29 9 (.slice wa1 wn1 wc1)).run Tryz.prog W0 = .ok (.string S) W0 := by rw [hS]; exact HU_10.out.str
  have k2 : (convert 29 9 (.slice wa2 wn2 wc2)).run Tryz.prog W0 = .ok (.string S) W0 := by rw [hS]; exact HV_10.out.str
  have hwe : (we == we) = true := by simp
  have he1 : (e1 == e1) = true := by simp
  have he2 : (e2 == e2) = true := by simp
  clear hS
  rw [k1, Result.andThen_ok]
  simp only [Oper.upon]
  go_wp2_with first
    | (refine wpList_load_row_w (by rfl) 28 (.tmp 10) (by rfl) v5.heap.size (by rfl) 28 #[Value.slice x5.a x5.n x5.cap, Value.int .u64 x5.c.m, Value.int .u64 x5.c.l, Value.int .u64 x5.c.o, Value.int .u64 x5.c.t, Value.slice x5.c.a x5.c.n x5.c.cap] (0, 0) _ HP5_10.out Tryz.underlying28 (by rfl) (show _ = some (#[Value.slice x5.a x5.n x5.cap, Value.int .u64 x5.c.m, Value.int .u64 x5.c.l, Value.int .u64 x5.c.o, Value.int .u64 x5.c.t, Value.slice x5.c.a x5.c.n x5.c.cap] : Array Value).size from info_im6') ?_)
    | (refine wpList_load_row_w (by rfl) 28 (.tmp 12) (by rfl) v6.heap.size (by rfl) 28 #[Value.slice x6.a x6.n x6.cap, Value.int .u64 x6.c.m, Value.int .u64 x6.c.l, Value.int .u64 x6.c.o, Value.int .u64 x6.c.t, Value.slice x6.c.a x6.c.n x6.c.cap] (0, 0) _ HP6_10.out Tryz.underlying28 (by rfl) (show _ = some (#[Value.slice x6.a x6.n x6.cap, Value.int .u64 x6.c.m, Value.int .u64 x6.c.l, Value.int .u64 x6.c.o, Value.int .u64 x6.c.t, Value.slice x6.c.a x6.c.n x6.c.cap] : Array Value).size from info_im6') ?_)
  refine (rsame15_is x5 x6 true W0 HG5_10.out HG6_10.out (by rw [HI5.out, HI6.out]; simp)).mono ?_
  rintro e W1 ⟨rfl, hb⟩
  have HP_11 := Lib.hid ((hb.block _ (Array.getElem?_eq_some_iff.1 HP_10.out).1).trans HP_10.out)
  have HX_11 := Lib.hid (HX_10.out.below hb (Nat.le_refl _))
  have HS_11 := Lib.hid (HS_10.out.below hb (Nat.le_refl _))
  have HU_11 := Lib.hid (HU_10.out.below hb (Nat.le_refl _))
  have HV_11 := Lib.hid (HV_10.out.below hb (Nat.le_refl _))
  have HG5_11 := Lib.hid (HG5_10.out.below hb (Nat.le_refl _))
  have HG6_11 := Lib.hid (HG6_10.out.below hb (Nat.le_refl _))
  have HP5_11 := Lib.hid ((hb.block _ (Array.getElem?_eq_some_iff.1 HP5_10.out).1).trans HP5_10.out)
  have HS7_11 := Lib.hid (HS7_10.out.below hb (Nat.le_refl _))
  have HP6_11 := Lib.hid ((hb.block _ (Array.getElem?_eq_some_iff.1 HP6_10.out).1).trans HP6_10.out)
  have HG8_11 := Lib.hid (HG8_10.out.below hb (Nat.le_refl _))
  have HS9_11 := Lib.hid (HS9_10.out.below hb (Nat.le_refl _))
  have HP8_11 := Lib.hid ((hb.block _ (Array.getElem?_eq_some_iff.1 HP8_10.out).1).trans HP8_10.out)
  have HG10_11 := Lib.hid (HG10_10.out.below hb (Nat.le_refl _))
  have HP10_11 := Lib.hid ((hb.block _ (Array.getElem?_eq_some_iff.1 HP10_10.out).1).trans HP10_10.out)
  have HB_11 := Lib.hid (HB_10.out.trans (hb.mono HB_10.out.size))
  clear HP_10 HX_10 HS_10 HU_10 HV_10 HG5_10 HG6_10 HP5_10 HS7_10 HP6_10 HG8_10 HS9_10 HP8_10 HG10_10 HP10_10 HB_10 hb
  clear k1 k2
  go_wp2_with first
    | (refine wpList_load_row_w (by rfl) 28 (.tmp 14) (by rfl) v8.heap.size (by rfl) 28 #[Value.slice x8.a x8.n x8.cap, Value.int .u64 x8.c.m, Value.int .u64 x8.c.l, Value.int .u64 x8.c.o, Value.int .u64 x8.c.t, Value.slice x8.c.a x8.c.n x8.c.cap] (0, 0) _ HP8_11.out Tryz.underlying28 (by rfl) (show _ = some (#[Value.slice x8.a x8.n x8.cap, Value.int .u64 x8.c.m, Value.int .u64 x8.c.l, Value.int .u64 x8.c.o, Value.int .u64 x8.c.t, Value.slice x8.c.a x8.c.n x8.c.cap] : Array Value).size from info_im6') ?_)
    | (refine wpList_load_row_w (by rfl) 28 (.tmp 16) (by rfl) v10.heap.size (by rfl) 28 #[Value.slice x10.a x10.n x10.cap, Value.int .u64 x10.c.m, Value.int .u64 x10.c.l, Value.int .u64 x10.c.o, Value.int .u64 x10.c.t, Value.slice x10.c.a x10.c.n x10.c.cap] (0, 0) _ HP10_11.out Tryz.underlying28 (by rfl) (show _ = some (#[Value.slice x10.a x10.n x10.cap, Value.int .u64 x10.c.m, Value.int .u64 x10.c.l, Value.int .u64 x10.c.o, Value.int .u64 x10.c.t, Value.slice x10.c.a x10.c.n x10.c.cap] : Array Value).size from info_im6') ?_)
  refine (rsame15_is x8 x10 true W1 HG8_11.out HG10_11.out (by rw [HI8.out, HI10.out]; simp)).mono ?_
  rintro e W2 ⟨rfl, hb⟩
  have HP_12 := Lib.hid ((hb.block _ (Array.getElem?_eq_some_iff.1 HP_11.out).1).trans HP_11.out)
  have HX_12 := Lib.hid (HX_11.out.below hb (Nat.le_refl _))
  have HS_12 := Lib.hid (HS_11.out.below hb (Nat.le_refl _))
  have HU_12 := Lib.hid (HU_11.out.below hb (Nat.le_refl _))
  have HV_12 := Lib.hid (HV_11.out.below hb (Nat.le_refl _))
  have HG5_12 := Lib.hid (HG5_11.out.below hb (Nat.le_refl _))
  have HG6_12 := Lib.hid (HG6_11.out.below hb (Nat.le_refl _))
  have HP5_12 := Lib.hid ((hb.block _ (Array.getElem?_eq_some_iff.1 HP5_11.out).1).trans HP5_11.out)
  have HS7_12 := Lib.hid (HS7_11.out.below hb (Nat.le_refl _))
  have HP6_12 := Lib.hid ((hb.block _ (Array.getElem?_eq_some_iff.1 HP6_11.out).1).trans HP6_11.out)
  have HG8_12 := Lib.hid (HG8_11.out.below hb (Nat.le_refl _))
  have HS9_12 := Lib.hid (HS9_11.out.below hb (Nat.le_refl _))
  have HP8_12 := Lib.hid ((hb.block _ (Array.getElem?_eq_some_iff.1 HP8_11.out).1).trans HP8_11.out)
  have HG10_12 := Lib.hid (HG10_11.out.below hb (Nat.le_refl _))
  have HP10_12 := Lib.hid ((hb.block _ (Array.getElem?_eq_some_iff.1 HP10_11.out).1).trans HP10_11.out)
  have HB_12 := Lib.hid (HB_11.out.trans (hb.mono HB_11.out.size))
  clear HP_11 HX_11 HS_11 HU_11 HV_11 HG5_11 HG6_11 HP5_11 HS7_11 HP6_11 HG8_11 HS9_11 HP8_11 HG10_11 HP10_11 HB_11 hb
  go_wp2
  go_ret
  exact ⟨rfl, HB_12.out⟩

set_option maxRecDepth 100000 in
theorem lifted (os : Os) (started : os.Started) (H : Type) (enc : TypeId × Value → H) :
    ReturnsInHanded {} Tryz.checked os 3 .any (Rows.imageTellsSpec.pre6 enc Tryz.prog Tryz.f3 Rows.imageTellsRow.domain false) (Rows.imageTellsSpec.post enc Tryz.prog Tryz.f3 false true false false) := by
  refine returnsInHanded_of_change (C := Tryz.checked) own started (by kernel_rfl) Tryz.func3
    (ChangeSpec.witness6 (enc := enc) (C := Tryz.checked) false ⟨#[], #[.agg #[.slice none 0 0, .int .u64 0, .int .u64 0, .int .u64 0, .int .u64 0, .slice none 0 0], .slice none 0 0], []⟩ 8 (by kernel_rfl) (by kernel_rfl) (by kernel_rfl) (by kernel_rfl)) ?_
  intro W base args ds gs before hval0 hW hcnd _
  have hval : ∀ (j : Nat) t v, Tryz.f3.params[j]? = some t → args[j]? = some v → Value.okWide Tryz.prog W .any base t v := hval0
  have hW' := hW
  obtain ⟨p, q, hA0, hV, rfl, hfz, hnd⟩ := hW
  have hA : DataW.TrodAll enc Tryz.prog W 0 (fun _ => true) true Tryz.f3.params.toList args.toList ds p := hA0
  rw [Tryz.params3] at hA hval
  obtain ⟨v0, vs0, d0, ds0, p0, q0, hargs, rfl, rfl, h0, r0⟩ := trodAll_cons hA
  obtain ⟨v1, vs1, d1, ds1, p1, q1, rfl, rfl, rfl, h1, r1⟩ := trodAll_cons r0
  obtain ⟨rfl, rfl, rfl⟩ := trodAll_nil r1
  obtain rfl : args = #[v0, v1] := by cases args; simp_all
  obtain ⟨rfl, rfl⟩ := trodVars_none hV
  have k0 := h0
  have lt0 : ∀ x ∈ p0, x.block < W.heap.size := by obtain ⟨m, hm⟩ := k0; exact DataW.trod_lt m _ _ _ hm
  obtain ⟨x0, rfl, w0, n0⟩ := Iw.open (hval 0 28 v0 rfl rfl) h0
  obtain ⟨a1, len1, cap1, rfl⟩ := okWide_slice Tryz.underlying29 (hval 1 29 v1 rfl rfl)
  have k1 := h1
  have lt1 : ∀ x ∈ p1, x.block < W.heap.size := by obtain ⟨m, hm⟩ := k1; exact DataW.trod_lt m _ _ _ hm
  obtain ⟨z1, w1⟩ : ∃ zs, IsRow .u8 W a1 len1 cap1 zs := by
    obtain ⟨fuel, hf⟩ := h1
    rcases open_ints Tryz.underlying29 Tryz.underlying5 (by kernel_rfl) hf with ⟨hcs, _⟩ | ⟨x, l, c, zs, hcs, _, hl, hm, hz, _, hcell, hwz⟩
    · simp [Value.cells] at hcs
      obtain ⟨rfl, rfl, rfl⟩ := hcs
      exact ⟨[], .inl ⟨rfl, rfl, rfl, rfl⟩⟩
    · simp [Value.cells] at hcs
      obtain ⟨rfl, rfl, rfl⟩ := hcs
      exact ⟨zs, .inr ⟨_, rfl, hl, hm, by simpa using hz, hcell, hwz⟩⟩
  clear hA0 hval0
  refine (walk x0 a1 len1 cap1 z1 W w0 n0 w1).mono fun e W' ⟨he, bel⟩ => ?_
  subst he
  exact ⟨_, rfl, _, _, _, [], _, [], hW', trodAll_mk1 (shut_bool Tryz.underlying4 _), (trodAll_cons_mk (Below.trod laidOut (by kernel_rfl) (of_decide_eq_true (by kernel_rfl)) k0 bel lt0) (trodAll_cons_mk (Below.trod laidOut (by kernel_rfl) (of_decide_eq_true (by kernel_rfl)) k1 bel lt1) trodAll_mk0)), rfl, bel.frame _, fun h => by cases h⟩

theorem over : Rows.imageTellsRow.holds Tryz.pinned (OpenSpec.ofChange Rows.imageTellsSpec) :=
  OpenClaim.holds_of_wide 3 Tryz.f3 rfl rfl rfl rfl rfl rfl rfl ⟨rfl, rfl, rfl, rfl, rfl⟩ rfl rfl rfl rfl rfl (by kernel_rfl) Tryz.func3 (by kernel_rfl)
    (of_decide_eq_true (by kernel_rfl)) (by unfold Func.isWrapper; first | (rw [if_pos (by decide +kernel)]; kernel_rfl) | (rw [if_neg (by decide +kernel)]; exact ⟨rfl, rfl⟩))
    (fun os started H enc _ => lifted os started H enc)

/-- the statement -/
theorem proved : Rows.ImageTellsSaid := over
#print axioms proved
end Go.Proofs.YtbfjihbkkcggmaaGreat.imageTells
