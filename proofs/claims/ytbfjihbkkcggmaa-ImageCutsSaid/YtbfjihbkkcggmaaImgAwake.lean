/- awake, the head of all laws of layer 15: it answers true. -/
import Derived.Test.YtbfjihbkkcggmaaPackY
import Derived.Test.YtbfjihbkkcggmaaPackG
import Derived.Test.YtbfjihbkkcggmaaCrcOpen
namespace Go.Proofs.Ytbfjihbkkcggmaa
open Go.RowKit

set_option maxRecDepth 100000 in
theorem WriteIs.good {w' : World} {e : Ending} {x : Img.Im} (h : WriteIs w' e x) (h1 : Tri.check x.sts = true) (h2 : File.check x.c = true) :
    ∃ a n c, e = .returned (.tuple #[.slice a n c, .int .i64 0]) ∧ Sl .u8 w' a n c (Crc.lock (Img.body x)) := by
  rcases h with ⟨h, -⟩ | ⟨-, h, -⟩ | ⟨-, -, h⟩
  · rw [h1] at h; cases h
  · rw [h2] at h; cases h
  · exact h
set_option maxRecDepth 100000 in
theorem WriteIs.auto {w' : World} {e : Ending} {x : Img.Im} (h : WriteIs w' e x) (h1 : Tri.check x.sts = false) : e = .returned (.tuple #[.slice none 0 0, .int .i64 100]) := by
  rcases h with ⟨-, h⟩ | ⟨h, -⟩ | ⟨h, -⟩
  · exact h
  · rw [h1] at h; cases h
  · rw [h1] at h; cases h
set_option maxRecDepth 100000 in
theorem ImgIs.some {w' : World} {e : Ending} {r : Sum Img.Im Int} {y : Img.Im} (h : ImgIs w' e r) (hr : r = .inl y) : ∃ x : Iw, x.im = y ∧ x.Good w' ∧ e = .returned (.tuple #[x.v, .int .i64 0]) := by
  rcases h with ⟨x, h, hg, he⟩ | ⟨c, h, -⟩
  · rw [hr] at h; exact ⟨x, (Sum.inl.inj h).symm, hg, he⟩
  · rw [hr] at h; cases h
set_option maxRecDepth 100000 in
theorem ImgIs.none {w' : World} {e : Ending} {r : Sum Img.Im Int} {c : Int} (h : ImgIs w' e r) (hr : r = .inr c) : e = .returned (.tuple #[imgZero, .int .i64 c]) := by
  rcases h with ⟨x, h, -⟩ | ⟨c', h, he⟩
  · rw [hr] at h; cases h
  · rw [hr] at h; rw [Sum.inr.inj h]; exact he
def aw15 : Img.Im := ⟨[⟨false, []⟩], ⟨[1, 1, 1, 1], []⟩⟩
set_option maxRecDepth 100000 in
theorem aw15_sts : Tri.check aw15.sts = true := by decide +kernel
set_option maxRecDepth 100000 in
theorem aw15_costs : File.check aw15.c = true := by decide +kernel
set_option maxRecDepth 100000 in
theorem aw15_body : Img.body aw15 = [1, 0, 1, 1, 1, 1, 0] := by decide +kernel
set_option maxRecDepth 100000 in
theorem aw15_is : Img.IsOf (Crc.lock [1, 0, 1, 1, 1, 1, 0]) aw15 :=
  ⟨⟨rfl, by intro z hz; simp [aw15] at hz; omega, by intro x hx; simp [aw15] at hx⟩, ⟨aw15_sts, aw15_costs⟩, by rw [aw15_body]⟩
set_option maxRecDepth 100000 in
theorem aw15_bad : Img.read (Crc.lock [1]) = .inr 150 := by
  refine Img.read_form (by rw [Crc.opn_lock]; simp) fun x hx => ?_
  have h := Img.isOf_opn hx
  rw [Crc.opn_lock] at h
  have hb := Option.some.inj h
  have hl := Img.flat_len (Img.nums x)
  have hl1 : (Img.flat (Img.nums x)).length = 1 := by show (Img.body x).length = 1; rw [← hb]; rfl
  have h4 := hx.1.1
  rw [hl1, Img.nums, Img.costNums] at hl
  simp only [List.cons_append, List.length_cons, List.length_append, List.length_map] at hl
  omega
def awSw : List Sw := [⟨false, none, 0, 0, []⟩]
set_option maxRecDepth 100000 in
theorem awSs {w : World} {t : TypeId} {B : Nat} (hB : B = w.heap.size) : Ss (w.alloc (.cells #[.bool false, .slice none 0 0] t)) (some ⟨B, 0, none⟩) 1 1 awSw := by
  subst hB
  refine ⟨rfl, Nat.le_refl _, by unfold maxLen; omega, fun x hx => ?_, .inr ⟨w.heap.size, 0, rfl, fun i hi => ?_⟩⟩
  · simp only [awSw, List.mem_cons, List.not_mem_nil, or_false] at hx
    subst hx
    exact Ars.nil
  · obtain rfl : i = 0 := by omega
    exact ⟨by rw [World.cell?_alloc_at _ _ _ _ (by rfl)]; rfl, by rw [World.cell?_alloc_at _ _ _ _ (by rfl)]; rfl⟩
set_option maxRecDepth 100000 in
theorem aw15_one {w : World} {x : Iw} (h : x.im = aw15) (hg : x.Good w) : x.n = 1 ∧ x.c.o = 1 := by
  have h1 : sts x.xs = aw15.sts := congrArg Img.Im.sts h
  have h2 : x.c.c = aw15.c := congrArg Img.Im.c h
  have h3 : [x.c.m, x.c.l, x.c.o, x.c.t] = [1, 1, 1, 1] := congrArg File.Cst.base h2
  refine ⟨by rw [← hg.1.1, ← sts_length, h1]; rfl, ?_⟩
  simp only [List.cons.injEq] at h3
  exact h3.2.2.1
set_option maxRecDepth 100000 in
theorem awCw {w : World} : Cw.Good w ⟨1, 1, 1, 1, none, 0, 0, []⟩ := ⟨Rs.nil, by intro z hz; simp [Cw.base] at hz; omega⟩
set_option maxRecDepth 100000 in
theorem zeroCw {w : World} : Cw.Good w ⟨0, 0, 0, 0, none, 0, 0, []⟩ := ⟨Rs.nil, by intro z hz; simp [Cw.base] at hz; omega⟩

set_option maxHeartbeats 3200000 in
set_option maxRecDepth 100000 in
theorem awake_any (w : World) : Calls Try.prog 7 #[] w fun e w' => e = .returned (.bool true) ∧ Below w.heap.size w w' := by
  go_enter Try.func7, Try.ntmps7
  go_wp2_with fail
  refine (iwrite_is ⟨some ⟨w.heap.size, 0, none⟩, 1, 1, awSw, ⟨1, 1, 1, 1, none, 0, 0, []⟩⟩ _ ⟨(awSs rfl).alloc _, awCw⟩).mono ?_
  rintro e w1 ⟨h1, hb1⟩
  obtain ⟨a1, n1, c1, rfl, hs1⟩ := h1.good aw15_sts aw15_costs
  replace hs1 : Sl .u8 w1 a1 n1 c1 (Crc.lock [1, 0, 1, 1, 1, 1, 0]) := aw15_body ▸ hs1
  have hn1 : n1 ≤ 1100000 := by have := hs1.1; rw [Crc.lock_length] at this; simp at this; omega
  have B1 : Below w.heap.size w w1 := (((Below.refl _ w).alloc (Nat.le_refl _) _).alloc (by simp) _).trans (hb1.mono (by simp; omega))
  have S1 := Lib.hid hs1
  clear h1 hs1 hb1
  go_wp2_with fail
  refine (iread_is _ _ _ _ _ S1.out hn1).mono ?_
  rintro e w2 ⟨h2, hb2⟩
  obtain ⟨x2, hx2, hg2, rfl⟩ := h2.some (Img.read_of aw15_is)
  obtain ⟨hn2, ho2⟩ := aw15_one hx2 hg2
  have B2 : Below w.heap.size w w2 := B1.trans (hb2.mono B1.size)
  have S2 := Lib.hid (S1.out.below hb2 (Nat.le_refl _))
  have HN2 := Lib.hid hn2
  have HO2 := Lib.hid ho2
  clear h2 hb2 hx2 hg2 hn2 ho2 B1 S1
  simp only [Iw.v]
  go_wp2_with fail
  refine (copen_is _ _ _ _ _ (S2.out.alloc _) (by omega)).mono ?_
  rintro e w3 ⟨h3, hb3⟩
  obtain ⟨a3, n3, c3, rfl, hs3⟩ := h3.some (Crc.opn_lock [1, 0, 1, 1, 1, 1, 0])
  have B3 : Below w.heap.size w w3 := (B2.alloc B2.size _).trans (hb3.mono (by have := B2.size; simp; omega))
  have S3 := Lib.hid hs3
  have HY3 : Hid (w2.heap.size < w3.heap.size ∧ w3.cell? ⟨w2.heap.size, 0, none⟩ = some (.slice x2.a 1 x2.cap) ∧ w3.cell? ⟨w2.heap.size, 3, none⟩ = some (.int .u64 1)) := by
    refine ⟨by have := hb3.size; simp at this; omega, ?_, ?_⟩
    · rw [hb3.cell (p := ⟨w2.heap.size, 0, none⟩) (by simp), World.cell?_alloc_at _ _ _ _ (by rfl), ← HN2.out]; rfl
    · rw [hb3.cell (p := ⟨w2.heap.size, 3, none⟩) (by simp), World.cell?_alloc_at _ _ _ _ (by rfl), ← HO2.out]; rfl
  clear h3 hs3 hb3 B2 S2
  have hY : ∀ {w w' : World} {u v : Value}, Below w.heap.size w w' → (w2.heap.size < w.heap.size ∧ w.cell? ⟨w2.heap.size, 0, none⟩ = some u ∧ w.cell? ⟨w2.heap.size, 3, none⟩ = some v) →
      (w2.heap.size < w'.heap.size ∧ w'.cell? ⟨w2.heap.size, 0, none⟩ = some u ∧ w'.cell? ⟨w2.heap.size, 3, none⟩ = some v) := fun hb h =>
    ⟨Nat.lt_of_lt_of_le h.1 hb.size, by rw [hb.cell (p := ⟨w2.heap.size, 0, none⟩) h.1]; exact h.2.1, by rw [hb.cell (p := ⟨w2.heap.size, 3, none⟩) h.1]; exact h.2.2⟩
  have HH := Lib.hid (fun w w' u v => @hY w w' u v)
  clear hY
  go_wp2_with fail
  refine (iwrite_is ⟨none, 0, 0, [], ⟨0, 0, 0, 0, none, 0, 0, []⟩⟩ _ ⟨Ss.nil, zeroCw⟩).mono ?_
  rintro e w4 ⟨h4, hb4⟩
  obtain rfl := h4.auto (by decide +kernel)
  have B4 := B3.trans (hb4.mono B3.size)
  have S4 := Lib.hid (S3.out.below hb4 (Nat.le_refl _))
  have HY4 := Lib.hid (HH.out _ _ _ _ hb4 HY3.out)
  clear h4 hb4 HY3 B3 S3
  go_wp2_with fail
  refine (iread_is _ 5 5 [1, 2, 3, 4, 5] _ (Sl.newB [1, 2, 3, 4, 5] (by decide) (by decide) rfl rfl rfl) (by omega)).mono ?_
  rintro e w5 ⟨h5, hb5⟩
  obtain rfl := h5.none (Img.read_crc (by decide +kernel))
  have hb45 : Below w4.heap.size w4 w5 := ((Below.refl _ w4).alloc (Nat.le_refl _) _).trans (hb5.mono (by simp))
  have B5 := B4.trans (hb45.mono B4.size)
  have S5 := Lib.hid (S4.out.below hb45 (Nat.le_refl _))
  have HY5 := Lib.hid (HH.out _ _ _ _ hb45 HY4.out)
  clear h5 hb5 hb45 HY4 B4 S4
  simp only [imgZero]
  go_wp2_with fail
  refine (cseal_is _ 1 1 [1] _ (Sl.newB [1] (by decide) (by decide) (by simp) rfl rfl) (by omega)).mono ?_
  intro e w6 h6
  obtain ⟨a6, n6, c6, rfl, hn6, hs6, -, hb6⟩ := h6.sl (bytes_wf (Crc.lock_bytes (by intro z hz; simp at hz; omega)))
  have hb56 : Below w5.heap.size w5 w6 := (((Below.refl _ w5).alloc (Nat.le_refl _) _).alloc (by simp) _).trans (hb6.mono (by simp; omega))
  have B6 := B5.trans (hb56.mono B5.size)
  have S6 := Lib.hid (S5.out.below hb56 (Nat.le_refl _))
  have HY6 := Lib.hid (HH.out _ _ _ _ hb56 HY5.out)
  have X6 := Lib.hid hs6
  have hn6' : n6 ≤ 1100000 := by rw [hn6, Crc.lock_length]; simp
  clear h6 hn6 hs6 hb6 hb56 HY5 B5 S5
  go_wp2_with fail
  refine (iread_is _ _ _ _ _ X6.out hn6').mono ?_
  rintro e w7 ⟨h7, hb7⟩
  obtain rfl := h7.none aw15_bad
  have B7 := B6.trans (hb7.mono B6.size)
  have S7 := Lib.hid (S6.out.below hb7 (Nat.le_refl _))
  have HY7 := Lib.hid (HH.out _ _ _ _ hb7 HY6.out)
  clear h7 hb7 HY6 B6 S6 X6 hn6'
  simp only [imgZero]
  go_wp2_with fail
  obtain ⟨w8, hw8⟩ : ∃ W, W = w7.alloc (Obj.cells #[.slice none 0 0, .int .u64 0, .int .u64 0, .int .u64 0, .int .u64 0, .slice none 0 0] 28) := ⟨_, rfl⟩
  rw [← hw8]
  have B8 : Below w.heap.size w w8 := by rw [hw8]; exact B7.alloc B7.size _
  have hb78 : Below w7.heap.size w7 w8 := by rw [hw8]; exact (Below.refl _ w7).alloc (Nat.le_refl _) _
  have S8 : Sl .u8 w8 a3 n3 c3 [1, 0, 1, 1, 1, 1, 0] := by rw [hw8]; exact S7.out.alloc _
  have k8 : (convert 29 9 (.slice a3 n3 c3)).run Try.prog w8 = .ok (.string ⟨#[1, 0, 1, 1, 1, 1, 0]⟩) w8 := by rw [S8.str]; rfl
  obtain ⟨-, y0, y3⟩ := HH.out _ _ _ _ hb78 HY7.out
  clear hw8 hb78 S8 HY7 S7 HH
  rw [k8, Result.andThen_ok]
  simp only [Oper.upon]
  go_wp2_with fail
  go_ret
  exact ⟨rfl, B8⟩

end Go.Proofs.Ytbfjihbkkcggmaa
