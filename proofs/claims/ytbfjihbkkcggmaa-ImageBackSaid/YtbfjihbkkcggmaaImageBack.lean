/- For every image and all bytes, ImageBack answers true, and turns nothing that was there. No condition. -/
import Derived.Test.YtbfjihbkkcggmaaRows
import Derived.Test.YtbfjihbkkcggmaaImgLaw
import Derived.Test.YtbfjihbkkcggmaaPackW
import Derived.Test.YtbfjihbkkcggmaaPackX
import Derived.Test.YtbfjihbkkcggmaaPackS
import Derived.Test.YtbfjihbkkcggmaaPackQ
import Derived.WalkKit
import Derived.ProofKit
import Derived.OpenShut
import Derived.ShutString
import Derived.ChangeOld
import Derived.Below
import Derived.Deep.Matrix
import Derived.SizedLaws
namespace Go.Proofs.Ytbfjihbkkcggmaa.imageBack
open Go.ChangeShapes Go.WideShapes Go.ChangeAt Go.RowKit
set_option linter.unusedVariables false

theorem own : ownKnob Try.prog.godebug = none := by kernel_rfl
theorem laidOut : laidOutB Try.prog = true := by kernel_rfl

/-- a slice of integers that came in -/
def IsRow (k : IntKind) (w : World) (a : Option Addr) (len cap : Nat) (zs : List Int) : Prop :=
  (a = none ∧ len = 0 ∧ cap = 0 ∧ zs = []) ∨
  ∃ x, a = some x ∧ len ≤ cap ∧ cap ≤ maxLen ∧ zs.length = cap ∧ (∀ i, i < zs.length → w.cell? (x.add i) = some (.int k (zs.getD i 0))) ∧ ∀ n ∈ zs, (Lit.int k n).wf = true

/-! ### STEP 1: the walk -/
set_option maxHeartbeats 6400000 in
set_option maxRecDepth 100000 in
theorem walk (x0 : Iw) (a1 : Option Addr) (len1 cap1 : Nat) (z1 : List Int) (w : World) (w0 : x0.Good w) (n0 : (x0.a = none → x0.cap = 0) ∧ (x0.c.a = none → x0.c.cap = 0)) (w1 : IsRow .u8 w a1 len1 cap1 z1) :
    Calls Try.prog 3 #[x0.v, .slice a1 len1 cap1] w fun e w' => e = .returned (.bool true) ∧ Below w.heap.size w w' := by
  have hn10 : a1 = none → cap1 = 0 := by
    rcases w1 with ⟨_, _, h, _⟩ | ⟨x, h, _⟩
    · exact fun _ => h
    · intro h'; rw [h] at h'; cases h'
  have HN1 := Lib.hid hn10
  clear hn10
  have hs1 := Sl.of_row w1
  generalize z1.take len1 = bs at hs1
  have hcm1 := hs1.2.2.1
  have hnc1 := hs1.2.1
  unfold maxLen at hcm1
  have HS_0a := Lib.hid hs1
  have HLEN1 := Lib.hid hs1.1
  clear hs1 w1
  have HX_0a := Lib.hid w0
  clear w0 n0
  obtain ⟨⟨wl, we⟩, hw⟩ : ∃ g, Img.wr x0.im = g := ⟨_, rfl⟩
  obtain ⟨⟨r1, e1⟩, hr1⟩ : ∃ g, Img.rd wl = g := ⟨_, rfl⟩
  obtain ⟨⟨r2, e2⟩, hr2⟩ : ∃ g, Img.rd (Crc.lock bs) = g := ⟨_, rfl⟩
  obtain ⟨⟨zl, ze⟩, hz⟩ : ∃ g, Img.wr r2 = g := ⟨_, rfl⟩
  have HC0 := Lib.hid (Img.wr_code x0.im)
  have HC2 := Lib.hid (Img.rd_code (Crc.lock bs))
  have HZ := Lib.hid hz
  have HW := Lib.hid hw
  have HR1 := Lib.hid hr1
  have HR2 := Lib.hid hr2
  have HBX : Hid (∀ o, Below w.heap.size w (w.alloc o)) := fun o => (Below.refl _ w).alloc (Nat.le_refl _) o
  have HNW : Hid (∀ o, (w.alloc o).heap[w.heap.size]? = some o) := fun o => heap_alloc_new w o
  have HSZ : Hid (∀ o, (w.alloc o).heap.size = w.heap.size + 1) := fun o => World.size_alloc w o
  clear hw hr1 hr2 hz
  simp only [Iw.v]
  go_enter Try.func3, Try.ntmps3
  go_wp2_with fail
  refine (awake_any _).mono ?_
  rintro e v1 ⟨rfl, B1⟩
  have HB_0 : Hid (Below w.heap.size w v1) := (HBX.out _).trans (B1.mono (by simp))
  have HP_0 : Hid (v1.heap[w.heap.size]? = some (.cells #[Value.slice x0.a x0.n x0.cap, Value.int .u64 x0.c.m, Value.int .u64 x0.c.l, Value.int .u64 x0.c.o, Value.int .u64 x0.c.t, Value.slice x0.c.a x0.c.n x0.c.cap] 28 (0, 0))) := (B1.block _ (by rw [HSZ.out]; exact Nat.lt_succ_self _)).trans (HNW.out _)
  have HX_0 := Lib.hid (HX_0a.out.below HB_0.out (Nat.le_refl _))
  have HS_0 := Lib.hid (HS_0a.out.below HB_0.out (Nat.le_refl _))
  clear B1 HBX HNW HSZ HX_0a HS_0a
  go_wp2_with (refine wpList_load_row_w (by rfl) 28 (.tmp 2) (by rfl) w.heap.size (by rfl) 28 #[Value.slice x0.a x0.n x0.cap, Value.int .u64 x0.c.m, Value.int .u64 x0.c.l, Value.int .u64 x0.c.o, Value.int .u64 x0.c.t, Value.slice x0.c.a x0.c.n x0.c.cap] (0, 0) _ HP_0.out Try.underlying28 (by rfl) (show _ = some (#[Value.slice x0.a x0.n x0.cap, Value.int .u64 x0.c.m, Value.int .u64 x0.c.l, Value.int .u64 x0.c.o, Value.int .u64 x0.c.t, Value.slice x0.c.a x0.c.n x0.c.cap] : Array Value).size from info_im6') ?_)
  refine (few15_is x0 v1 HX_0.out).mono ?_
  rintro e v2 ⟨he, hb⟩
  have HP_1 := Lib.hid ((hb.block _ (Array.getElem?_eq_some_iff.1 HP_0.out).1).trans HP_0.out)
  have HX_1 := Lib.hid (HX_0.out.below hb (Nat.le_refl _))
  have HS_1 := Lib.hid (HS_0.out.below hb (Nat.le_refl _))
  have HB_1 := Lib.hid (HB_0.out.trans (hb.mono HB_0.out.size))
  clear HP_0 HX_0 HS_0 HB_0 hb
  rcases he with rfl | ⟨rfl, hsh, hn500, -, -⟩
  · go_wp2
    go_ret
    exact ⟨rfl, HB_1.out⟩
  have hlen : wl.length ≤ 1100000 := by
    have h := Img.wr_len (x := x0.im) HX_1.out.2.plain (short_arcs hsh HX_1.out.1.2.2.2.1) (by show (sts x0.xs).length ≤ 500; rw [sts_length, HX_1.out.1.1]; exact hn500)
    rw [HW.out] at h
    exact h
  have HLEN := Lib.hid hlen
  clear hsh hn500 hlen
  have hor : 3000 < len1 ∨ len1 ≤ 3000 := by omega
  have hib : (3000 < len1 → (3000 : Int) < (len1 : Int)) ∧ (len1 ≤ 3000 → ¬ (3000 : Int) < (len1 : Int)) := ⟨fun h => by omega, fun h => by omega⟩
  rcases hor with g0 | g0
  · have hi0 := hib.1 g0
    clear hib
    go_wp2
    go_ret
    exact ⟨rfl, HB_1.out⟩
  have hi0 := hib.2 g0
  clear hib
  go_wp2_with (refine wpList_load_row_w (by rfl) 28 (.tmp 2) (by rfl) w.heap.size (by rfl) 28 #[Value.slice x0.a x0.n x0.cap, Value.int .u64 x0.c.m, Value.int .u64 x0.c.l, Value.int .u64 x0.c.o, Value.int .u64 x0.c.t, Value.slice x0.c.a x0.c.n x0.c.cap] (0, 0) _ HP_1.out Try.underlying28 (by rfl) (show _ = some (#[Value.slice x0.a x0.n x0.cap, Value.int .u64 x0.c.m, Value.int .u64 x0.c.l, Value.int .u64 x0.c.o, Value.int .u64 x0.c.t, Value.slice x0.c.a x0.c.n x0.c.cap] : Array Value).size from info_im6') ?_)
  refine (iwrite_is x0 v2 HX_1.out).mono ?_
  rintro e v3 ⟨h, hb⟩
  obtain ⟨wa1, wn1, wc1, he, hw1⟩ := h.any
  rw [HW.out] at he hw1
  subst he
  have hwn1 : wn1 ≤ 1100000 := by rw [← hw1.1]; exact HLEN.out
  have HP_2 := Lib.hid ((hb.block _ (Array.getElem?_eq_some_iff.1 HP_1.out).1).trans HP_1.out)
  have HX_2 := Lib.hid (HX_1.out.below hb (Nat.le_refl _))
  have HS_2 := Lib.hid (HS_1.out.below hb (Nat.le_refl _))
  have HB_2 := Lib.hid (HB_1.out.trans (hb.mono HB_1.out.size))
  clear HP_1 HX_1 HS_1 HB_1 hb
  have HU_2 := Lib.hid (hw1)
  clear h hw1
  simp only []
  go_wp2_with fail
  refine (iread_is wa1 wn1 wc1 wl _ HU_2.out hwn1).mono ?_
  rintro e v4 ⟨h, hb⟩
  obtain ⟨x4, hx4, hg4, he⟩ := h.any
  rw [HR1.out] at he hx4
  subst he
  have HI4 := Lib.hid hx4
  have HP_3 := Lib.hid ((hb.block _ (Array.getElem?_eq_some_iff.1 HP_2.out).1).trans HP_2.out)
  have HX_3 := Lib.hid (HX_2.out.below hb (Nat.le_refl _))
  have HS_3 := Lib.hid (HS_2.out.below hb (Nat.le_refl _))
  have HU_3 := Lib.hid (HU_2.out.below hb (Nat.le_refl _))
  have HB_3 := Lib.hid (HB_2.out.trans (hb.mono HB_2.out.size))
  clear HP_2 HX_2 HS_2 HU_2 HB_2 hb
  have HG4_3 := Lib.hid (hg4)
  clear h hg4 hx4
  simp only [Iw.v]
  go_wp2_with fail
  refine (cseal_is a1 len1 cap1 bs _ (HS_3.out.alloc _) (by omega)).mono ?_
  intro e v6 h6
  obtain ⟨a6, n6, c6, rfl, hn6, hs6, -, hb6⟩ := h6.sl (bytes_wf (Crc.lock_bytes HS_3.out.bytes))
  have hp : v6.heap[v4.heap.size]? = some (.cells #[Value.slice x4.a x4.n x4.cap, Value.int .u64 x4.c.m, Value.int .u64 x4.c.l, Value.int .u64 x4.c.o, Value.int .u64 x4.c.t, Value.slice x4.c.a x4.c.n x4.c.cap] 28 (0, 0)) := (hb6.block _ (by simp)).trans (heap_alloc_new v4 _)
  have hb : Below v4.heap.size v4 v6 := ((Below.refl v4.heap.size v4).alloc (Nat.le_refl _) _).trans (hb6.mono (by simp))
  have hn6' : n6 ≤ 3004 := by have := HS_3.out.1; rw [hn6, Crc.lock_length]; omega
  have HP_4 := Lib.hid ((hb.block _ (Array.getElem?_eq_some_iff.1 HP_3.out).1).trans HP_3.out)
  have HX_4 := Lib.hid (HX_3.out.below hb (Nat.le_refl _))
  have HS_4 := Lib.hid (HS_3.out.below hb (Nat.le_refl _))
  have HU_4 := Lib.hid (HU_3.out.below hb (Nat.le_refl _))
  have HG4_4 := Lib.hid (HG4_3.out.below hb (Nat.le_refl _))
  have HB_4 := Lib.hid (HB_3.out.trans (hb.mono HB_3.out.size))
  clear HP_3 HX_3 HS_3 HU_3 HG4_3 HB_3 hb
  have HS6_4 := Lib.hid (hs6)
  have HP4_4 := Lib.hid (hp)
  clear h6 hn6 hs6 hp hb6
  go_wp2_with fail
  refine (iread_is a6 n6 c6 _ _ HS6_4.out (by omega)).mono ?_
  rintro e v7 ⟨h, hb⟩
  obtain ⟨x7, hx7, hg7, he⟩ := h.any
  rw [HR2.out] at he hx7
  subst he
  have HI7 := Lib.hid hx7
  have HP_5 := Lib.hid ((hb.block _ (Array.getElem?_eq_some_iff.1 HP_4.out).1).trans HP_4.out)
  have HX_5 := Lib.hid (HX_4.out.below hb (Nat.le_refl _))
  have HS_5 := Lib.hid (HS_4.out.below hb (Nat.le_refl _))
  have HU_5 := Lib.hid (HU_4.out.below hb (Nat.le_refl _))
  have HG4_5 := Lib.hid (HG4_4.out.below hb (Nat.le_refl _))
  have HS6_5 := Lib.hid (HS6_4.out.below hb (Nat.le_refl _))
  have HP4_5 := Lib.hid ((hb.block _ (Array.getElem?_eq_some_iff.1 HP4_4.out).1).trans HP4_4.out)
  have HB_5 := Lib.hid (HB_4.out.trans (hb.mono HB_4.out.size))
  clear HP_4 HX_4 HS_4 HU_4 HG4_4 HS6_4 HP4_4 HB_4 hb
  have HG7_5 := Lib.hid (hg7)
  clear h hg7 hx7
  simp only [Iw.v]
  have HNW7 : Hid (∀ o, (v7.alloc o).heap[v7.heap.size]? = some o) := fun o => heap_alloc_new v7 o
  go_wp2_with (refine wpList_load_row_w (by rfl) 28 (.tmp 11) (by rfl) v7.heap.size (by rfl) 28 #[Value.slice x7.a x7.n x7.cap, Value.int .u64 x7.c.m, Value.int .u64 x7.c.l, Value.int .u64 x7.c.o, Value.int .u64 x7.c.t, Value.slice x7.c.a x7.c.n x7.c.cap] (0, 0) _ (HNW7.out _) Try.underlying28 (by rfl) (show _ = some (#[Value.slice x7.a x7.n x7.cap, Value.int .u64 x7.c.m, Value.int .u64 x7.c.l, Value.int .u64 x7.c.o, Value.int .u64 x7.c.t, Value.slice x7.c.a x7.c.n x7.c.cap] : Array Value).size from info_im6') ?_)
  refine (iwrite_is x7 _ (HG7_5.out.alloc _)).mono ?_
  rintro e v8 ⟨h, hb8⟩
  obtain ⟨za, zn, zc, he, hs8⟩ := h.any
  replace he : e = .returned (.tuple #[.slice za zn zc, .int .i64 ze]) := by have hz := HZ.out; rw [← HI7.out] at hz; rw [hz] at he; exact he
  replace hs8 : Sl .u8 v8 za zn zc zl := by have hz := HZ.out; rw [← HI7.out] at hz; rw [hz] at hs8; exact hs8
  subst he
  have hp : v8.heap[v7.heap.size]? = some (.cells #[Value.slice x7.a x7.n x7.cap, Value.int .u64 x7.c.m, Value.int .u64 x7.c.l, Value.int .u64 x7.c.o, Value.int .u64 x7.c.t, Value.slice x7.c.a x7.c.n x7.c.cap] 28 (0, 0)) := (hb8.block _ (by simp)).trans (heap_alloc_new v7 _)
  have hb : Below v7.heap.size v7 v8 := ((Below.refl v7.heap.size v7).alloc (Nat.le_refl _) _).trans (hb8.mono (by simp))
  have HP_6 := Lib.hid ((hb.block _ (Array.getElem?_eq_some_iff.1 HP_5.out).1).trans HP_5.out)
  have HX_6 := Lib.hid (HX_5.out.below hb (Nat.le_refl _))
  have HS_6 := Lib.hid (HS_5.out.below hb (Nat.le_refl _))
  have HU_6 := Lib.hid (HU_5.out.below hb (Nat.le_refl _))
  have HG4_6 := Lib.hid (HG4_5.out.below hb (Nat.le_refl _))
  have HS6_6 := Lib.hid (HS6_5.out.below hb (Nat.le_refl _))
  have HP4_6 := Lib.hid ((hb.block _ (Array.getElem?_eq_some_iff.1 HP4_5.out).1).trans HP4_5.out)
  have HG7_6 := Lib.hid (HG7_5.out.below hb (Nat.le_refl _))
  have HB_6 := Lib.hid (HB_5.out.trans (hb.mono HB_5.out.size))
  clear HP_5 HX_5 HS_5 HU_5 HG4_5 HS6_5 HP4_5 HG7_5 HB_5 hb
  have HZL_6 := Lib.hid (hs8)
  have HP7_6 := Lib.hid (hp)
  clear h hs8 hp hb8 HNW7
  have C0 := HC0.out
  have C2 := HC2.out
  rw [HW.out] at C0
  rw [HR2.out] at C2
  rcases C0 with ⟨c0, k0, d0⟩ | ⟨c0, l0, d0, k0⟩ | ⟨c0, l0, k0⟩
  · simp only [] at c0 d0
    subst c0 d0
    have hrr := Img.rd_wr HX_6.out.2.plain k0
    rw [HR1.out] at hrr
    obtain ⟨rfl, rfl⟩ := Prod.mk.inj hrr
    clear hrr k0
    obtain ⟨p0, p1, p2, p3, p4, p5⟩ := six_cells HP4_6.out
    obtain ⟨q0, q1, q2, q3, q4, q5⟩ := six_cells HP_6.out
    go_wp2_with fail
    refine (rsame15_is x4 x0 true _ HG4_6.out HX_6.out (by rw [HI4.out]; simp)).mono ?_
    rintro e y0 ⟨rfl, hb⟩
    clear p0 p1 p2 p3 p4 p5 q0 q1 q2 q3 q4 q5
    have HP_7 := Lib.hid ((hb.block _ (Array.getElem?_eq_some_iff.1 HP_6.out).1).trans HP_6.out)
    have HX_7 := Lib.hid (HX_6.out.below hb (Nat.le_refl _))
    have HS_7 := Lib.hid (HS_6.out.below hb (Nat.le_refl _))
    have HU_7 := Lib.hid (HU_6.out.below hb (Nat.le_refl _))
    have HG4_7 := Lib.hid (HG4_6.out.below hb (Nat.le_refl _))
    have HS6_7 := Lib.hid (HS6_6.out.below hb (Nat.le_refl _))
    have HP4_7 := Lib.hid ((hb.block _ (Array.getElem?_eq_some_iff.1 HP4_6.out).1).trans HP4_6.out)
    have HG7_7 := Lib.hid (HG7_6.out.below hb (Nat.le_refl _))
    have HZL_7 := Lib.hid (HZL_6.out.below hb (Nat.le_refl _))
    have HP7_7 := Lib.hid ((hb.block _ (Array.getElem?_eq_some_iff.1 HP7_6.out).1).trans HP7_6.out)
    have HB_7 := Lib.hid (HB_6.out.trans (hb.mono HB_6.out.size))
    clear HP_6 HX_6 HS_6 HU_6 HG4_6 HS6_6 HP4_6 HG7_6 HZL_6 HP7_6 HB_6 hb
    rcases C2 with ⟨c2, k2⟩ | ⟨c2, k2⟩ | ⟨c2, k2⟩
    · try simp only [] at c2 k2
      subst c2
      have hzz := Img.wr_of k2
      rw [HZ.out] at hzz
      obtain ⟨rfl, rfl⟩ := Prod.mk.inj hzz
      clear hzz
      have HOK : Hid (Img.Ok x7.im) := by show Img.Ok _; rw [HI7.out]; exact k2.2.1
      obtain ⟨S, hS⟩ : ∃ S, S = strOfNums (Crc.lock bs) := ⟨_, rfl⟩
      have k1 : (convert 29 9 (.slice za zn zc)).run Try.prog y0 = .ok (.string S) y0 := by rw [hS]; exact HZL_7.out.str
      have k3 : (convert 29 9 (.slice a6 n6 c6)).run Try.prog y0 = .ok (.string S) y0 := by rw [hS]; exact HS6_7.out.str
      clear hS k2
      obtain ⟨q0, q1, q2, q3, q4, q5⟩ := six_cells HP7_7.out
      go_wp2_with fail
      refine (tcheck_is x7.a x7.n x7.cap x7.xs true _ HG7_7.out.1 HOK.out.1).mono ?_
      rintro e y1 ⟨rfl, hb⟩
      clear k1 k3 q0 q1 q2 q3 q4 q5
      have HP_8 := Lib.hid ((hb.block _ (Array.getElem?_eq_some_iff.1 HP_7.out).1).trans HP_7.out)
      have HX_8 := Lib.hid (HX_7.out.below hb (Nat.le_refl _))
      have HS_8 := Lib.hid (HS_7.out.below hb (Nat.le_refl _))
      have HU_8 := Lib.hid (HU_7.out.below hb (Nat.le_refl _))
      have HG4_8 := Lib.hid (HG4_7.out.below hb (Nat.le_refl _))
      have HS6_8 := Lib.hid (HS6_7.out.below hb (Nat.le_refl _))
      have HP4_8 := Lib.hid ((hb.block _ (Array.getElem?_eq_some_iff.1 HP4_7.out).1).trans HP4_7.out)
      have HG7_8 := Lib.hid (HG7_7.out.below hb (Nat.le_refl _))
      have HZL_8 := Lib.hid (HZL_7.out.below hb (Nat.le_refl _))
      have HP7_8 := Lib.hid ((hb.block _ (Array.getElem?_eq_some_iff.1 HP7_7.out).1).trans HP7_7.out)
      have HB_8 := Lib.hid (HB_7.out.trans (hb.mono HB_7.out.size))
      clear HP_7 HX_7 HS_7 HU_7 HG4_7 HS6_7 HP4_7 HG7_7 HZL_7 HP7_7 HB_7 hb
      obtain ⟨q0, q1, q2, q3, q4, q5⟩ := six_cells HP7_8.out
      go_wp2_with fail
      refine (fcheck_is x7.c true _ HG7_8.out.2 HOK.out.2).mono ?_
      rintro e y2 ⟨rfl, hb⟩
      clear q0 q1 q2 q3 q4 q5
      have HP_9 := Lib.hid ((hb.block _ (Array.getElem?_eq_some_iff.1 HP_8.out).1).trans HP_8.out)
      have HX_9 := Lib.hid (HX_8.out.below hb (Nat.le_refl _))
      have HS_9 := Lib.hid (HS_8.out.below hb (Nat.le_refl _))
      have HU_9 := Lib.hid (HU_8.out.below hb (Nat.le_refl _))
      have HG4_9 := Lib.hid (HG4_8.out.below hb (Nat.le_refl _))
      have HS6_9 := Lib.hid (HS6_8.out.below hb (Nat.le_refl _))
      have HP4_9 := Lib.hid ((hb.block _ (Array.getElem?_eq_some_iff.1 HP4_8.out).1).trans HP4_8.out)
      have HG7_9 := Lib.hid (HG7_8.out.below hb (Nat.le_refl _))
      have HZL_9 := Lib.hid (HZL_8.out.below hb (Nat.le_refl _))
      have HP7_9 := Lib.hid ((hb.block _ (Array.getElem?_eq_some_iff.1 HP7_8.out).1).trans HP7_8.out)
      have HB_9 := Lib.hid (HB_8.out.trans (hb.mono HB_8.out.size))
      clear HP_8 HX_8 HS_8 HU_8 HG4_8 HS6_8 HP4_8 HG7_8 HZL_8 HP7_8 HB_8 hb
      go_wp2
      go_ret
      exact ⟨rfl, HB_9.out⟩
    · try simp only [] at c2 k2
      subst c2
      obtain ⟨q0, q1, q2, q3, q4, q5⟩ := six_cells HP7_7.out
      have hx : x7.n = 0 := by
        rw [← HG7_7.out.1.1, ← sts_length]
        show x7.im.sts.length = 0
        rw [HI7.out, k2]; rfl
      rw [hx] at q0
      clear hx k2
      go_wp2
      go_ret
      exact ⟨rfl, HB_7.out⟩
    · try simp only [] at c2 k2
      subst c2
      obtain ⟨q0, q1, q2, q3, q4, q5⟩ := six_cells HP7_7.out
      have hx : x7.n = 0 := by
        rw [← HG7_7.out.1.1, ← sts_length]
        show x7.im.sts.length = 0
        rw [HI7.out, k2]; rfl
      rw [hx] at q0
      clear hx k2
      go_wp2
      go_ret
      exact ⟨rfl, HB_7.out⟩
  · simp only [] at c0
    subst c0
    obtain ⟨p0, p1, p2, p3, p4, p5⟩ := six_cells HP_6.out
    have hwn0 : wn1 = 0 := by have h := HU_6.out.1; simp only [] at l0; rw [l0] at h; exact h.symm
    subst hwn0
    go_wp2_with fail
    refine (tcheck_is x0.a x0.n x0.cap x0.xs true _ HX_6.out.1 d0).mono ?_
    rintro e y ⟨rfl, hb⟩
    clear p0 p1 p2 p3 p4 p5
    have HP_7 := Lib.hid ((hb.block _ (Array.getElem?_eq_some_iff.1 HP_6.out).1).trans HP_6.out)
    have HX_7 := Lib.hid (HX_6.out.below hb (Nat.le_refl _))
    have HS_7 := Lib.hid (HS_6.out.below hb (Nat.le_refl _))
    have HU_7 := Lib.hid (HU_6.out.below hb (Nat.le_refl _))
    have HG4_7 := Lib.hid (HG4_6.out.below hb (Nat.le_refl _))
    have HS6_7 := Lib.hid (HS6_6.out.below hb (Nat.le_refl _))
    have HP4_7 := Lib.hid ((hb.block _ (Array.getElem?_eq_some_iff.1 HP4_6.out).1).trans HP4_6.out)
    have HG7_7 := Lib.hid (HG7_6.out.below hb (Nat.le_refl _))
    have HZL_7 := Lib.hid (HZL_6.out.below hb (Nat.le_refl _))
    have HP7_7 := Lib.hid ((hb.block _ (Array.getElem?_eq_some_iff.1 HP7_6.out).1).trans HP7_6.out)
    have HB_7 := Lib.hid (HB_6.out.trans (hb.mono HB_6.out.size))
    clear HP_6 HX_6 HS_6 HU_6 HG4_6 HS6_6 HP4_6 HG7_6 HZL_6 HP7_6 HB_6 hb
    obtain ⟨p0, p1, p2, p3, p4, p5⟩ := six_cells HP_7.out
    go_wp2_with fail
    refine (fcheck_is x0.c false _ HX_7.out.2 k0).mono ?_
    rintro e y0 ⟨rfl, hb⟩
    clear p0 p1 p2 p3 p4 p5
    have HP_8 := Lib.hid ((hb.block _ (Array.getElem?_eq_some_iff.1 HP_7.out).1).trans HP_7.out)
    have HX_8 := Lib.hid (HX_7.out.below hb (Nat.le_refl _))
    have HS_8 := Lib.hid (HS_7.out.below hb (Nat.le_refl _))
    have HU_8 := Lib.hid (HU_7.out.below hb (Nat.le_refl _))
    have HG4_8 := Lib.hid (HG4_7.out.below hb (Nat.le_refl _))
    have HS6_8 := Lib.hid (HS6_7.out.below hb (Nat.le_refl _))
    have HP4_8 := Lib.hid ((hb.block _ (Array.getElem?_eq_some_iff.1 HP4_7.out).1).trans HP4_7.out)
    have HG7_8 := Lib.hid (HG7_7.out.below hb (Nat.le_refl _))
    have HZL_8 := Lib.hid (HZL_7.out.below hb (Nat.le_refl _))
    have HP7_8 := Lib.hid ((hb.block _ (Array.getElem?_eq_some_iff.1 HP7_7.out).1).trans HP7_7.out)
    have HB_8 := Lib.hid (HB_7.out.trans (hb.mono HB_7.out.size))
    clear HP_7 HX_7 HS_7 HU_7 HG4_7 HS6_7 HP4_7 HG7_7 HZL_7 HP7_7 HB_7 hb
    rcases C2 with ⟨c2, k2⟩ | ⟨c2, k2⟩ | ⟨c2, k2⟩
    · try simp only [] at c2 k2
      subst c2
      have hzz := Img.wr_of k2
      rw [HZ.out] at hzz
      obtain ⟨rfl, rfl⟩ := Prod.mk.inj hzz
      clear hzz
      have HOK : Hid (Img.Ok x7.im) := by show Img.Ok _; rw [HI7.out]; exact k2.2.1
      obtain ⟨S, hS⟩ : ∃ S, S = strOfNums (Crc.lock bs) := ⟨_, rfl⟩
      have k1 : (convert 29 9 (.slice za zn zc)).run Try.prog y0 = .ok (.string S) y0 := by rw [hS]; exact HZL_8.out.str
      have k3 : (convert 29 9 (.slice a6 n6 c6)).run Try.prog y0 = .ok (.string S) y0 := by rw [hS]; exact HS6_8.out.str
      clear hS k2
      obtain ⟨q0, q1, q2, q3, q4, q5⟩ := six_cells HP7_8.out
      go_wp2_with fail
      refine (tcheck_is x7.a x7.n x7.cap x7.xs true _ HG7_8.out.1 HOK.out.1).mono ?_
      rintro e y1 ⟨rfl, hb⟩
      clear k1 k3 q0 q1 q2 q3 q4 q5
      have HP_9 := Lib.hid ((hb.block _ (Array.getElem?_eq_some_iff.1 HP_8.out).1).trans HP_8.out)
      have HX_9 := Lib.hid (HX_8.out.below hb (Nat.le_refl _))
      have HS_9 := Lib.hid (HS_8.out.below hb (Nat.le_refl _))
      have HU_9 := Lib.hid (HU_8.out.below hb (Nat.le_refl _))
      have HG4_9 := Lib.hid (HG4_8.out.below hb (Nat.le_refl _))
      have HS6_9 := Lib.hid (HS6_8.out.below hb (Nat.le_refl _))
      have HP4_9 := Lib.hid ((hb.block _ (Array.getElem?_eq_some_iff.1 HP4_8.out).1).trans HP4_8.out)
      have HG7_9 := Lib.hid (HG7_8.out.below hb (Nat.le_refl _))
      have HZL_9 := Lib.hid (HZL_8.out.below hb (Nat.le_refl _))
      have HP7_9 := Lib.hid ((hb.block _ (Array.getElem?_eq_some_iff.1 HP7_8.out).1).trans HP7_8.out)
      have HB_9 := Lib.hid (HB_8.out.trans (hb.mono HB_8.out.size))
      clear HP_8 HX_8 HS_8 HU_8 HG4_8 HS6_8 HP4_8 HG7_8 HZL_8 HP7_8 HB_8 hb
      obtain ⟨q0, q1, q2, q3, q4, q5⟩ := six_cells HP7_9.out
      go_wp2_with fail
      refine (fcheck_is x7.c true _ HG7_9.out.2 HOK.out.2).mono ?_
      rintro e y2 ⟨rfl, hb⟩
      clear q0 q1 q2 q3 q4 q5
      have HP_10 := Lib.hid ((hb.block _ (Array.getElem?_eq_some_iff.1 HP_9.out).1).trans HP_9.out)
      have HX_10 := Lib.hid (HX_9.out.below hb (Nat.le_refl _))
      have HS_10 := Lib.hid (HS_9.out.below hb (Nat.le_refl _))
      have HU_10 := Lib.hid (HU_9.out.below hb (Nat.le_refl _))
      have HG4_10 := Lib.hid (HG4_9.out.below hb (Nat.le_refl _))
      have HS6_10 := Lib.hid (HS6_9.out.below hb (Nat.le_refl _))
      have HP4_10 := Lib.hid ((hb.block _ (Array.getElem?_eq_some_iff.1 HP4_9.out).1).trans HP4_9.out)
      have HG7_10 := Lib.hid (HG7_9.out.below hb (Nat.le_refl _))
      have HZL_10 := Lib.hid (HZL_9.out.below hb (Nat.le_refl _))
      have HP7_10 := Lib.hid ((hb.block _ (Array.getElem?_eq_some_iff.1 HP7_9.out).1).trans HP7_9.out)
      have HB_10 := Lib.hid (HB_9.out.trans (hb.mono HB_9.out.size))
      clear HP_9 HX_9 HS_9 HU_9 HG4_9 HS6_9 HP4_9 HG7_9 HZL_9 HP7_9 HB_9 hb
      go_wp2
      go_ret
      exact ⟨rfl, HB_10.out⟩
    · try simp only [] at c2 k2
      subst c2
      obtain ⟨q0, q1, q2, q3, q4, q5⟩ := six_cells HP7_8.out
      have hx : x7.n = 0 := by
        rw [← HG7_8.out.1.1, ← sts_length]
        show x7.im.sts.length = 0
        rw [HI7.out, k2]; rfl
      rw [hx] at q0
      clear hx k2
      go_wp2
      go_ret
      exact ⟨rfl, HB_8.out⟩
    · try simp only [] at c2 k2
      subst c2
      obtain ⟨q0, q1, q2, q3, q4, q5⟩ := six_cells HP7_8.out
      have hx : x7.n = 0 := by
        rw [← HG7_8.out.1.1, ← sts_length]
        show x7.im.sts.length = 0
        rw [HI7.out, k2]; rfl
      rw [hx] at q0
      clear hx k2
      go_wp2
      go_ret
      exact ⟨rfl, HB_8.out⟩
  · simp only [] at c0
    subst c0
    obtain ⟨p0, p1, p2, p3, p4, p5⟩ := six_cells HP_6.out
    have hwn0 : wn1 = 0 := by have h := HU_6.out.1; simp only [] at l0; rw [l0] at h; exact h.symm
    subst hwn0
    go_wp2_with fail
    refine (tcheck_is x0.a x0.n x0.cap x0.xs false _ HX_6.out.1 k0).mono ?_
    rintro e y0 ⟨rfl, hb⟩
    clear p0 p1 p2 p3 p4 p5
    have HP_7 := Lib.hid ((hb.block _ (Array.getElem?_eq_some_iff.1 HP_6.out).1).trans HP_6.out)
    have HX_7 := Lib.hid (HX_6.out.below hb (Nat.le_refl _))
    have HS_7 := Lib.hid (HS_6.out.below hb (Nat.le_refl _))
    have HU_7 := Lib.hid (HU_6.out.below hb (Nat.le_refl _))
    have HG4_7 := Lib.hid (HG4_6.out.below hb (Nat.le_refl _))
    have HS6_7 := Lib.hid (HS6_6.out.below hb (Nat.le_refl _))
    have HP4_7 := Lib.hid ((hb.block _ (Array.getElem?_eq_some_iff.1 HP4_6.out).1).trans HP4_6.out)
    have HG7_7 := Lib.hid (HG7_6.out.below hb (Nat.le_refl _))
    have HZL_7 := Lib.hid (HZL_6.out.below hb (Nat.le_refl _))
    have HP7_7 := Lib.hid ((hb.block _ (Array.getElem?_eq_some_iff.1 HP7_6.out).1).trans HP7_6.out)
    have HB_7 := Lib.hid (HB_6.out.trans (hb.mono HB_6.out.size))
    clear HP_6 HX_6 HS_6 HU_6 HG4_6 HS6_6 HP4_6 HG7_6 HZL_6 HP7_6 HB_6 hb
    rcases C2 with ⟨c2, k2⟩ | ⟨c2, k2⟩ | ⟨c2, k2⟩
    · try simp only [] at c2 k2
      subst c2
      have hzz := Img.wr_of k2
      rw [HZ.out] at hzz
      obtain ⟨rfl, rfl⟩ := Prod.mk.inj hzz
      clear hzz
      have HOK : Hid (Img.Ok x7.im) := by show Img.Ok _; rw [HI7.out]; exact k2.2.1
      obtain ⟨S, hS⟩ : ∃ S, S = strOfNums (Crc.lock bs) := ⟨_, rfl⟩
      have k1 : (convert 29 9 (.slice za zn zc)).run Try.prog y0 = .ok (.string S) y0 := by rw [hS]; exact HZL_7.out.str
      have k3 : (convert 29 9 (.slice a6 n6 c6)).run Try.prog y0 = .ok (.string S) y0 := by rw [hS]; exact HS6_7.out.str
      clear hS k2
      obtain ⟨q0, q1, q2, q3, q4, q5⟩ := six_cells HP7_7.out
      go_wp2_with fail
      refine (tcheck_is x7.a x7.n x7.cap x7.xs true _ HG7_7.out.1 HOK.out.1).mono ?_
      rintro e y1 ⟨rfl, hb⟩
      clear k1 k3 q0 q1 q2 q3 q4 q5
      have HP_8 := Lib.hid ((hb.block _ (Array.getElem?_eq_some_iff.1 HP_7.out).1).trans HP_7.out)
      have HX_8 := Lib.hid (HX_7.out.below hb (Nat.le_refl _))
      have HS_8 := Lib.hid (HS_7.out.below hb (Nat.le_refl _))
      have HU_8 := Lib.hid (HU_7.out.below hb (Nat.le_refl _))
      have HG4_8 := Lib.hid (HG4_7.out.below hb (Nat.le_refl _))
      have HS6_8 := Lib.hid (HS6_7.out.below hb (Nat.le_refl _))
      have HP4_8 := Lib.hid ((hb.block _ (Array.getElem?_eq_some_iff.1 HP4_7.out).1).trans HP4_7.out)
      have HG7_8 := Lib.hid (HG7_7.out.below hb (Nat.le_refl _))
      have HZL_8 := Lib.hid (HZL_7.out.below hb (Nat.le_refl _))
      have HP7_8 := Lib.hid ((hb.block _ (Array.getElem?_eq_some_iff.1 HP7_7.out).1).trans HP7_7.out)
      have HB_8 := Lib.hid (HB_7.out.trans (hb.mono HB_7.out.size))
      clear HP_7 HX_7 HS_7 HU_7 HG4_7 HS6_7 HP4_7 HG7_7 HZL_7 HP7_7 HB_7 hb
      obtain ⟨q0, q1, q2, q3, q4, q5⟩ := six_cells HP7_8.out
      go_wp2_with fail
      refine (fcheck_is x7.c true _ HG7_8.out.2 HOK.out.2).mono ?_
      rintro e y2 ⟨rfl, hb⟩
      clear q0 q1 q2 q3 q4 q5
      have HP_9 := Lib.hid ((hb.block _ (Array.getElem?_eq_some_iff.1 HP_8.out).1).trans HP_8.out)
      have HX_9 := Lib.hid (HX_8.out.below hb (Nat.le_refl _))
      have HS_9 := Lib.hid (HS_8.out.below hb (Nat.le_refl _))
      have HU_9 := Lib.hid (HU_8.out.below hb (Nat.le_refl _))
      have HG4_9 := Lib.hid (HG4_8.out.below hb (Nat.le_refl _))
      have HS6_9 := Lib.hid (HS6_8.out.below hb (Nat.le_refl _))
      have HP4_9 := Lib.hid ((hb.block _ (Array.getElem?_eq_some_iff.1 HP4_8.out).1).trans HP4_8.out)
      have HG7_9 := Lib.hid (HG7_8.out.below hb (Nat.le_refl _))
      have HZL_9 := Lib.hid (HZL_8.out.below hb (Nat.le_refl _))
      have HP7_9 := Lib.hid ((hb.block _ (Array.getElem?_eq_some_iff.1 HP7_8.out).1).trans HP7_8.out)
      have HB_9 := Lib.hid (HB_8.out.trans (hb.mono HB_8.out.size))
      clear HP_8 HX_8 HS_8 HU_8 HG4_8 HS6_8 HP4_8 HG7_8 HZL_8 HP7_8 HB_8 hb
      go_wp2
      go_ret
      exact ⟨rfl, HB_9.out⟩
    · try simp only [] at c2 k2
      subst c2
      obtain ⟨q0, q1, q2, q3, q4, q5⟩ := six_cells HP7_7.out
      have hx : x7.n = 0 := by
        rw [← HG7_7.out.1.1, ← sts_length]
        show x7.im.sts.length = 0
        rw [HI7.out, k2]; rfl
      rw [hx] at q0
      clear hx k2
      go_wp2
      go_ret
      exact ⟨rfl, HB_7.out⟩
    · try simp only [] at c2 k2
      subst c2
      obtain ⟨q0, q1, q2, q3, q4, q5⟩ := six_cells HP7_7.out
      have hx : x7.n = 0 := by
        rw [← HG7_7.out.1.1, ← sts_length]
        show x7.im.sts.length = 0
        rw [HI7.out, k2]; rfl
      rw [hx] at q0
      clear hx k2
      go_wp2
      go_ret
      exact ⟨rfl, HB_7.out⟩

set_option maxRecDepth 100000 in
theorem lifted (os : Os) (started : os.Started) (H : Type) (enc : TypeId × Value → H) :
    ReturnsInHanded {} Try.checked os 3 .any (Rows.imageBackSpec.pre6 enc Try.prog Try.f3 Rows.imageBackRow.domain false) (Rows.imageBackSpec.post enc Try.prog Try.f3 false true false false) := by
  refine returnsInHanded_of_change (C := Try.checked) own started (by kernel_rfl) Try.func3
    (ChangeSpec.witness6 (enc := enc) (C := Try.checked) false ⟨#[], #[.agg #[.slice none 0 0, .int .u64 0, .int .u64 0, .int .u64 0, .int .u64 0, .slice none 0 0], .slice none 0 0], []⟩ 8 (by kernel_rfl) (by kernel_rfl) (by kernel_rfl) (by kernel_rfl)) ?_
  intro W base args ds gs before hval0 hW hcnd _
  have hval : ∀ (j : Nat) t v, Try.f3.params[j]? = some t → args[j]? = some v → Value.okWide Try.prog W .any base t v := hval0
  have hW' := hW
  obtain ⟨p, q, hA0, hV, rfl, hfz, hnd⟩ := hW
  have hA : DataW.TrodAll enc Try.prog W 0 (fun _ => true) true Try.f3.params.toList args.toList ds p := hA0
  rw [Try.params3] at hA hval
  obtain ⟨v0, vs0, d0, ds0, p0, q0, hargs, rfl, rfl, h0, r0⟩ := trodAll_cons hA
  obtain ⟨v1, vs1, d1, ds1, p1, q1, rfl, rfl, rfl, h1, r1⟩ := trodAll_cons r0
  obtain ⟨rfl, rfl, rfl⟩ := trodAll_nil r1
  obtain rfl : args = #[v0, v1] := by cases args; simp_all
  obtain ⟨rfl, rfl⟩ := trodVars_none hV
  have k0 := h0
  have lt0 : ∀ x ∈ p0, x.block < W.heap.size := by obtain ⟨m, hm⟩ := k0; exact DataW.trod_lt m _ _ _ hm
  obtain ⟨x0, rfl, w0, n0⟩ := Iw.open (hval 0 28 v0 rfl rfl) h0
  obtain ⟨a1, len1, cap1, rfl⟩ := okWide_slice Try.underlying29 (hval 1 29 v1 rfl rfl)
  have k1 := h1
  have lt1 : ∀ x ∈ p1, x.block < W.heap.size := by obtain ⟨m, hm⟩ := k1; exact DataW.trod_lt m _ _ _ hm
  obtain ⟨z1, w1⟩ : ∃ zs, IsRow .u8 W a1 len1 cap1 zs := by
    obtain ⟨fuel, hf⟩ := h1
    rcases open_ints Try.underlying29 Try.underlying5 (by kernel_rfl) hf with ⟨hcs, _⟩ | ⟨x, l, c, zs, hcs, _, hl, hm, hz, _, hcell, hwz⟩
    · simp [Value.cells] at hcs
      obtain ⟨rfl, rfl, rfl⟩ := hcs
      exact ⟨[], .inl ⟨rfl, rfl, rfl, rfl⟩⟩
    · simp [Value.cells] at hcs
      obtain ⟨rfl, rfl, rfl⟩ := hcs
      exact ⟨zs, .inr ⟨_, rfl, hl, hm, by simpa using hz, hcell, hwz⟩⟩
  clear hA0 hval0
  refine (walk x0 a1 len1 cap1 z1 W w0 n0 w1).mono fun e W' ⟨he, bel⟩ => ?_
  subst he
  exact ⟨_, rfl, _, _, _, [], _, [], hW', trodAll_mk1 (shut_bool Try.underlying4 _), (trodAll_cons_mk (Below.trod laidOut (by kernel_rfl) (of_decide_eq_true (by kernel_rfl)) k0 bel lt0) (trodAll_cons_mk (Below.trod laidOut (by kernel_rfl) (of_decide_eq_true (by kernel_rfl)) k1 bel lt1) trodAll_mk0)), rfl, bel.frame _, fun h => by cases h⟩

theorem over : Rows.imageBackRow.holds Try.pinned (OpenSpec.ofChange Rows.imageBackSpec) :=
  OpenClaim.holds_of_wide 3 Try.f3 rfl rfl rfl rfl rfl rfl rfl ⟨rfl, rfl, rfl, rfl, rfl⟩ rfl rfl rfl rfl rfl (by kernel_rfl) Try.func3 (by kernel_rfl)
    (of_decide_eq_true (by kernel_rfl)) (by unfold Func.isWrapper; first | (rw [if_pos (by decide +kernel)]; kernel_rfl) | (rw [if_neg (by decide +kernel)]; exact ⟨rfl, rfl⟩))
    (fun os started H enc _ => lifted os started H enc)

/-- the statement -/
theorem proved : Rows.ImageBackSaid := over
#print axioms proved
end Go.Proofs.Ytbfjihbkkcggmaa.imageBack
