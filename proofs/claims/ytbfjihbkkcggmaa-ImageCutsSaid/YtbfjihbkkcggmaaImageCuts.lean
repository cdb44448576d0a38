/- For every image and every two numbers ImageCuts answers true, and turns nothing that was there. No condition. -/
import Derived.Test.YtbfjihbkkcggmaaRows
import Derived.Test.YtbfjihbkkcggmaaImgLaw
import Derived.Test.YtbfjihbkkcggmaaPackW
import Derived.Test.YtbfjihbkkcggmaaCrcFlip
import Derived.WalkKit
import Derived.ProofKit
import Derived.OpenShut
import Derived.ShutString
import Derived.ChangeOld
import Derived.Below
import Derived.Deep.Matrix
import Derived.SizedLaws
namespace Go.Proofs.Ytbfjihbkkcggmaa.imageCuts
open Go.ChangeShapes Go.WideShapes Go.ChangeAt Go.RowKit
set_option linter.unusedVariables false

theorem own : ownKnob Try.prog.godebug = none := by kernel_rfl
theorem laidOut : laidOutB Try.prog = true := by kernel_rfl

/-- a slice of integers that came in -/
def IsRow (k : IntKind) (w : World) (a : Option Addr) (len cap : Nat) (zs : List Int) : Prop :=
  (a = none ∧ len = 0 ∧ cap = 0 ∧ zs = []) ∨
  ∃ x, a = some x ∧ len ≤ cap ∧ cap ≤ maxLen ∧ zs.length = cap ∧ (∀ i, i < zs.length → w.cell? (x.add i) = some (.int k (zs.getD i 0))) ∧ ∀ n ∈ zs, (Lit.int k n).wf = true

/-! ### STEP 1: the walk -/
set_option maxHeartbeats 6400000 in
set_option maxRecDepth 100000 in
theorem walk (x0 : Iw) (a1 : Int) (a2 : Int) (w : World) (w0 : x0.Good w) (n0 : (x0.a = none → x0.cap = 0) ∧ (x0.c.a = none → x0.c.cap = 0)) (w1 : (Lit.int .u32 a1).wf = true) (w2 : (Lit.int .u32 a2).wf = true) :
    Calls Try.prog 4 #[x0.v, .int .u32 a1, .int .u32 a2] w fun e w' => e = .returned (.bool true) ∧ Below w.heap.size w w' := by
  obtain ⟨hu0, hu1⟩ := bounds_u32 w1
  obtain ⟨u, rfl⟩ : ∃ u : Nat, a1 = (u : Int) := ⟨a1.toNat, by omega⟩
  obtain ⟨hv0, hv1⟩ := bounds_u32 w2
  obtain ⟨B, rfl⟩ : ∃ B : Nat, a2 = (B : Int) := ⟨a2.toNat, by omega⟩
  have hB9 : B < 4294967296 := by omega
  have HX_0a := Lib.hid w0
  clear w0 n0 w1 w2
  obtain ⟨⟨wl, we⟩, hw⟩ : ∃ g, Img.wr x0.im = g := ⟨_, rfl⟩
  have HC0 := Lib.hid (Img.wr_code x0.im)
  have HW := Lib.hid hw
  have HBX : Hid (∀ o, Below w.heap.size w (w.alloc o)) := fun o => (Below.refl _ w).alloc (Nat.le_refl _) o
  have HNW : Hid (∀ o, (w.alloc o).heap[w.heap.size]? = some o) := fun o => heap_alloc_new w o
  have HSZ : Hid (∀ o, (w.alloc o).heap.size = w.heap.size + 1) := fun o => World.size_alloc w o
  clear hw
  simp only [Iw.v]
  go_enter Try.func4, Try.ntmps4
  go_wp2_with fail
  refine (awake_any _).mono ?_
  rintro e v1 ⟨rfl, B1⟩
  have HB_0 : Hid (Below w.heap.size w v1) := (HBX.out _).trans (B1.mono (by simp))
  have HP_0 : Hid (v1.heap[w.heap.size]? = some (.cells #[Value.slice x0.a x0.n x0.cap, Value.int .u64 x0.c.m, Value.int .u64 x0.c.l, Value.int .u64 x0.c.o, Value.int .u64 x0.c.t, Value.slice x0.c.a x0.c.n x0.c.cap] 28 (0, 0))) := (B1.block _ (by rw [HSZ.out]; exact Nat.lt_succ_self _)).trans (HNW.out _)
  have HX_0 := Lib.hid (HX_0a.out.below HB_0.out (Nat.le_refl _))
  clear B1 HBX HNW HSZ HX_0a
  go_wp2_with (refine wpList_load_row_w (by rfl) 28 (.tmp 3) (by rfl) w.heap.size (by rfl) 28 #[Value.slice x0.a x0.n x0.cap, Value.int .u64 x0.c.m, Value.int .u64 x0.c.l, Value.int .u64 x0.c.o, Value.int .u64 x0.c.t, Value.slice x0.c.a x0.c.n x0.c.cap] (0, 0) _ HP_0.out Try.underlying28 (by rfl) (show _ = some (#[Value.slice x0.a x0.n x0.cap, Value.int .u64 x0.c.m, Value.int .u64 x0.c.l, Value.int .u64 x0.c.o, Value.int .u64 x0.c.t, Value.slice x0.c.a x0.c.n x0.c.cap] : Array Value).size from info_im6') ?_)
  refine (few15_is x0 v1 HX_0.out).mono ?_
  rintro e v2 ⟨he, hb⟩
  have HP_1 := Lib.hid ((hb.block _ (Array.getElem?_eq_some_iff.1 HP_0.out).1).trans HP_0.out)
  have HX_1 := Lib.hid (HX_0.out.below hb (Nat.le_refl _))
  have HB_1 := Lib.hid (HB_0.out.trans (hb.mono HB_0.out.size))
  clear HP_0 HX_0 HB_0 hb
  rcases he with rfl | ⟨rfl, hsh, hn500, -, -⟩
  · go_wp2
    go_ret
    exact ⟨rfl, HB_1.out⟩
  have hlen : wl.length ≤ 1100000 := by
    have h := Img.wr_len (x := x0.im) HX_1.out.2.plain (short_arcs hsh HX_1.out.1.2.2.2.1) (by show (sts x0.xs).length ≤ 500; rw [sts_length, HX_1.out.1.1]; exact hn500)
    rw [HW.out] at h
    exact h
  have HPL := Lib.hid HX_1.out.2.plain
  clear hsh hn500
  go_wp2_with (refine wpList_load_row_w (by rfl) 28 (.tmp 3) (by rfl) w.heap.size (by rfl) 28 #[Value.slice x0.a x0.n x0.cap, Value.int .u64 x0.c.m, Value.int .u64 x0.c.l, Value.int .u64 x0.c.o, Value.int .u64 x0.c.t, Value.slice x0.c.a x0.c.n x0.c.cap] (0, 0) _ HP_1.out Try.underlying28 (by rfl) (show _ = some (#[Value.slice x0.a x0.n x0.cap, Value.int .u64 x0.c.m, Value.int .u64 x0.c.l, Value.int .u64 x0.c.o, Value.int .u64 x0.c.t, Value.slice x0.c.a x0.c.n x0.c.cap] : Array Value).size from info_im6') ?_)
  refine (iwrite_is x0 v2 HX_1.out).mono ?_
  rintro e v3 ⟨h, hb⟩
  obtain ⟨wa1, N, wc1, he, hw1⟩ := h.any
  rw [HW.out] at he hw1
  subst he
  have HP_2 := Lib.hid ((hb.block _ (Array.getElem?_eq_some_iff.1 HP_1.out).1).trans HP_1.out)
  have HX_2 := Lib.hid (HX_1.out.below hb (Nat.le_refl _))
  have HB_2 := Lib.hid (HB_1.out.trans (hb.mono HB_1.out.size))
  clear HP_1 HX_1 HB_1 hb
  have HU_2 := Lib.hid (hw1)
  clear h hw1
  have C0 := HC0.out
  rw [HW.out] at C0
  try simp only [] at C0
  rcases C0 with ⟨c0, k0, d0⟩ | ⟨c0, -⟩ | ⟨c0, -⟩
  rotate_left
  · subst c0
    go_wp2
    go_ret
    exact ⟨rfl, HB_2.out⟩
  · subst c0
    go_wp2
    go_ret
    exact ⟨rfl, HB_2.out⟩
  try simp only [] at c0 d0
  subst c0
  obtain ⟨b, hb0⟩ : ∃ b, b = Img.body x0.im := ⟨_, rfl⟩
  rw [← hb0] at d0
  have hb1 : 1 ≤ b.length := by
    have h1 := Img.flat_len (Img.nums x0.im)
    have h2 : 1 ≤ (Img.nums x0.im).length := by rw [Img.nums, List.cons_append, List.length_cons]; omega
    rw [hb0, Img.body]; omega
  have hNl : wl.length = N := HU_2.out.1
  have hNb : N = b.length + 4 := by rw [← hNl, d0, Crc.lock_length]
  have hN9 : N ≤ 1100000 := by rw [← hNl]; exact hlen
  have HOPL : Hid (Crc.opn wl = some b) := by rw [d0]; exact Crc.opn_lock b
  have HBY : Hid (Crc.Bytes b) := by
    intro z hz
    have h := Img.flat_wf (Img.nums x0.im) z (by rw [← Img.body, ← hb0]; exact hz)
    have := bounds_u8 h
    omega
  have HLB : Hid (Crc.Bytes wl) := by rw [d0]; exact Crc.lock_bytes HBY.out
  have HLN : Hid (wl.length = N) := hNl
  have HRDB : Hid (Img.read wl = .inl x0.im) := Img.read_of ⟨HPL.out, k0, by rw [d0, hb0]⟩
  have HCUT : Hid (∀ k, k < b.length → Img.read (Crc.lock (b.take k)) = .inr 150) := by
    intro k hk
    refine Img.read_form (by rw [Crc.opn_lock]; simp) (fun x hx => ?_)
    have h1 := Img.lock_inj hx.2.2
    have h2 : Img.body x0.im = Img.body x ++ b.drop k := by rw [h1, ← hb0, List.take_append_drop]
    have h3 := (Img.body_begin k0 hx.2.1 HPL.out hx.1 h2).2
    have h4 := congrArg List.length h3
    simp at h4
    omega
  have HNL : Hid (∀ zs f, f ≤ 8 * N → Flip wl f B 32 zs → (Crc.opn zs).isSome = decide (B = 0)) := by
    intro zs f hf h
    rw [d0] at h
    exact flip_opn HBY.out hB9 (by rw [← d0]; exact hNl) (by omega) hf h
  have hN4i : ¬ (N : Int) < 4 := by omega
  obtain ⟨n3, hn3⟩ : ∃ n3, n3 = b.length := ⟨_, rfl⟩
  have HLB3 : Hid (b.length = n3) := hn3.symm
  have hn31 : 1 ≤ n3 := by omega
  have hn39 : n3 + 4 ≤ 1100000 := by omega
  have m1 : max (1 : Int) (n3 : Int) = (n3 : Int) := by omega
  have m2 : (if (1 : Int) < (n3 : Int) then (n3 : Int) else (1 : Int)) = (n3 : Int) := by split <;> omega
  have m3 : (if (n3 : Int) < (1 : Int) then (1 : Int) else (n3 : Int)) = (n3 : Int) := by split <;> omega
  have m4 : ((n3 : Int) == 0) = false := by simp; omega
  have m5 : ¬ (n3 : Int) = 0 := by omega
  obtain ⟨k, hk⟩ : ∃ k, k = u % n3 := ⟨_, rfl⟩
  have hkn : k < n3 := by rw [hk]; exact Nat.mod_lt _ (by omega)
  have k1 : (u : Int) % (n3 : Int) = (k : Int) := by rw [hk]; simp
  have k2 : (u : Int).tmod (n3 : Int) = (k : Int) := by rw [Int.tmod_eq_emod_of_nonneg (by omega)]; exact k1
  obtain ⟨M, hM⟩ : ∃ M : Nat, 8 * (N : Int) - 31 = (M : Int) := ⟨8 * N - 31, by omega⟩
  have hM1 : 1 ≤ M := by omega
  have hMi0 : ((M : Int) == 0) = false := by simp; omega
  have hMi1 : ¬ (M : Int) = 0 := by omega
  obtain ⟨f, hf⟩ : ∃ f, f = u % M := ⟨_, rfl⟩
  have hfM : f < M := by rw [hf]; exact Nat.mod_lt _ (by omega)
  have hf1 : (u : Int) % (M : Int) = (f : Int) := by rw [hf]; simp
  have hf2 : (u : Int).tmod (M : Int) = (f : Int) := by rw [Int.tmod_eq_emod_of_nonneg (by omega)]; exact hf1
  have hf8 : f + 31 < 8 * N := by omega
  have HKN : Hid (k < b.length) := by show _ < _; rw [HLB3.out]; exact hkn
  clear hb0 d0 k0 hNl hNb hn3 hk hf hlen HW HC0 HPL
  go_wp2_with fail
  refine (copen_is wa1 N wc1 wl _ HU_2.out (by omega)).mono ?_
  rintro e v4 ⟨h4, hb⟩
  obtain ⟨a3, n3', c3, rfl, hs3⟩ := h4.some HOPL.out
  obtain rfl : n3' = n3 := by rw [← HLB3.out]; exact hs3.1.symm
  have HP_3 := Lib.hid ((hb.block _ (Array.getElem?_eq_some_iff.1 HP_2.out).1).trans HP_2.out)
  have HX_3 := Lib.hid (HX_2.out.below hb (Nat.le_refl _))
  have HU_3 := Lib.hid (HU_2.out.below hb (Nat.le_refl _))
  have HB_3 := Lib.hid (HB_2.out.trans (hb.mono HB_2.out.size))
  clear HP_2 HX_2 HU_2 HB_2 hb
  have HI_3 := Lib.hid (hs3)
  clear h4 hs3
  have hma := add_zero a3
  have hnc3 := HI_3.out.2.1
  have hcm3 := HI_3.out.2.2.1
  unfold maxLen at hcm3
  have hkc : (k : Int) ≤ (c3 : Int) := by omega
  go_wp2_with fail
  refine (cseal_is a3 k c3 (b.take k) v4 (HI_3.out.cut k (by omega)) (by omega)).mono ?_
  intro e v5 h5
  obtain ⟨a5, n5, c5, rfl, hn5, hs5, -, hb⟩ := h5.sl (bytes_wf (Crc.lock_bytes (HI_3.out.cut k (by omega)).bytes))
  have hn59 : n5 ≤ 1100000 := by rw [hn5, Crc.lock_length, List.length_take]; have := HLB3.out; omega
  have HP_4 := Lib.hid ((hb.block _ (Array.getElem?_eq_some_iff.1 HP_3.out).1).trans HP_3.out)
  have HX_4 := Lib.hid (HX_3.out.below hb (Nat.le_refl _))
  have HU_4 := Lib.hid (HU_3.out.below hb (Nat.le_refl _))
  have HI_4 := Lib.hid (HI_3.out.below hb (Nat.le_refl _))
  have HB_4 := Lib.hid (HB_3.out.trans (hb.mono HB_3.out.size))
  clear HP_3 HX_3 HU_3 HI_3 HB_3 hb
  have HS5_4 := Lib.hid (hs5)
  clear h5 hn5 hs5
  go_wp2_with fail
  refine (iread_is a5 n5 c5 _ v5 HS5_4.out hn59).mono ?_
  rintro e v6 ⟨h6, hb⟩
  obtain rfl := h6.none (HCUT.out k HKN.out)
  have HP_5 := Lib.hid ((hb.block _ (Array.getElem?_eq_some_iff.1 HP_4.out).1).trans HP_4.out)
  have HX_5 := Lib.hid (HX_4.out.below hb (Nat.le_refl _))
  have HU_5 := Lib.hid (HU_4.out.below hb (Nat.le_refl _))
  have HI_5 := Lib.hid (HI_4.out.below hb (Nat.le_refl _))
  have HS5_5 := Lib.hid (HS5_4.out.below hb (Nat.le_refl _))
  have HB_5 := Lib.hid (HB_4.out.trans (hb.mono HB_4.out.size))
  clear HP_4 HX_4 HU_4 HI_4 HS5_4 HB_4 hb
  clear h6
  simp only [imgZero]
  have HV7 : Hid (∀ o, Below v6.heap.size v6 (v6.alloc o)) := fun o => (Below.refl _ v6).alloc (Nat.le_refl _) o
  obtain ⟨v7, hv7⟩ : ∃ v7, v7 = v6.alloc (.cells #[.slice none 0 0, .int .u64 0, .int .u64 0, .int .u64 0, .int .u64 0, .slice none 0 0] 28) := ⟨_, rfl⟩
  have hb : Below v6.heap.size v6 v7 := by rw [hv7]; exact HV7.out _
  have HMD : Hid ((v7.alloc (.cells #[] 5)).ownsRow v7.heap.size 5 1 (.slice (some ⟨v7.heap.size, 0, none⟩) 0 0) 0 (u8s [])) := World.ownsRow_made v7 #[] 0 (Nat.le_refl _) (Nat.zero_le _) rfl
  have HP_6 := Lib.hid ((hb.block _ (Array.getElem?_eq_some_iff.1 HP_5.out).1).trans HP_5.out)
  have HX_6 := Lib.hid (HX_5.out.below hb (Nat.le_refl _))
  have HU_6 := Lib.hid (HU_5.out.below hb (Nat.le_refl _))
  have HI_6 := Lib.hid (HI_5.out.below hb (Nat.le_refl _))
  have HS5_6 := Lib.hid (HS5_5.out.below hb (Nat.le_refl _))
  have HB_6 := Lib.hid (HB_5.out.trans (hb.mono HB_5.out.size))
  clear HP_5 HX_5 HU_5 HI_5 HS5_5 HB_5 hb
  have HV7E := Lib.hid hv7
  have HSV7 : Hid (v7.heap.size = v6.heap.size + 1) := by show _ = _; rw [hv7]; simp
  have hu7 := HU_6.out.alloc (.cells #[] 5)
  have HU7 := Lib.hid hu7
  rw [HV7E.out] at HU7 HMD
  rw [show (v6.alloc (.cells #[.slice none 0 0, .int .u64 0, .int .u64 0, .int .u64 0, .int .u64 0, .slice none 0 0] 28)).heap.size = v6.heap.size + 1 from by simp] at HMD
  clear hu7 HV7 hv7
  go_wp2_with (at_builtin; refine append_bytes (by rfl) (.tmp 64) (.tmp 65) (by rfl) (v6.heap.size + 1) _ 0 [] (by rfl) HMD.out wa1 N wc1 wl (by rfl) HU7.out N (by omega) (by omega) (by simp) ?_; intro a8 c8 w8 hown8 hb8 hnil8; rw [← HV7E.out, ← HSV7.out] at hb8; rw [← HSV7.out] at hown8; have HO8 : Hid (w8.ownsRow v7.heap.size 5 1 (.slice a8 N c8) N (u8s wl)) := (by show World.ownsRow _ _ _ _ _ _ _; simpa using hown8); have HB8 : Hid (Below v7.heap.size v7 w8) := ((Below.refl v7.heap.size v7).alloc (Nat.le_refl _) _).trans hb8; clear hown8 hb8 hnil8)
  obtain ⟨g, rfl, hg⟩ := owns_some HO8.out (by omega)
  have HG := Lib.hid hg
  clear hg HMD HU7 m1 m2 m3 m4 m5 k1 k2 hkc hma hnc3 hcm3
  go_loopw [16] (fun ix wr => ∃ (i : Nat) (zs : List Int), ix = .int .i64 (i : Int) ∧ i ≤ 32 ∧ Hid (Flip wl f B i zs) ∧ Hid (B = 0 → zs = wl) ∧ Hid (wr.ownsRow v7.heap.size 5 1 (.slice (some ⟨g, 0, none⟩) N c8) N (u8s zs)) ∧ Hid (Below v7.heap.size v7 wr)) (fun ix _ => 32 - (intOf ix).toNat)
  case atStart => exact ⟨0, wl, rfl, by omega, flip_none HLB.out f B, fun _ => rfl, HO8.out, HB8.out⟩
  case round =>
    obtain ⟨i, zs, rfl, hi, HF, HZ, HOW, HBW⟩ := hrel
    by_cases hi32 : i < 32
    · have hi32i : (i : Int) < 32 := by omega
      have HLZ : Hid (zs.length = N) := by show _ = _; rw [HF.out.2.1, HLN.out]
      obtain ⟨Q, hQ⟩ : ∃ Q, Q = B / 2 ^ i := ⟨_, rfl⟩
      have hQi : (B : Int) / 2 ^ i = (Q : Int) := by rw [hQ]; simp
      by_cases hb : Q % 2 = 1
      · have hq1 : (Q : Int) % 2 = 1 := by omega
        have hq2 : (Q : Int).tmod 2 = 1 := by rw [Int.tmod_eq_emod_of_nonneg (by omega)]; exact hq1
        have hjl : (f + i) / 8 < N := by omega
        have HSLZ := Lib.hid (Sl.of_owns (k := .u8) HOW.out (bytes_wf HF.out.1) HLZ.out)
        obtain ⟨z, hz, hz256⟩ := HSLZ.out.byteAt hjl
        have hcell : wr.cell? ⟨g, (f + i) / 8, none⟩ = some (.int .u8 (z : Int)) := by
          rw [HOW.out.cellAt ((f + i) / 8) (by omega), hz]
          have := HLZ.out
          simp [u8s, show (f + i) / 8 < zs.length by omega]
        have hfr : wr.frozen? ⟨g, (f + i) / 8, none⟩ = false := HOW.out.frozenAt _
        have HBQ : Hid (B / 2 ^ i % 2 = 1) := by rw [← hQ]; exact hb
        have HZN : Hid (B = 0 → (zs.set ((f + i) / 8) (0 : Int)) = wl) := by
          intro h0
          have h := HBQ.out
          rw [h0, Nat.zero_div] at h
          exact absurd h (by decide)
        have hr2 : 2 ^ ((f + i) % 8) < 256 := Nat.pow_lt_pow_right (a := 2) (by decide) (show (f + i) % 8 < 8 by omega)
        obtain ⟨q, hqd⟩ : ∃ q, q = z ^^^ 2 ^ ((f + i) % 8) := ⟨_, rfl⟩
        have hx : bits .xor .u8 (z : Int) (2 ^ ((f + i) % 8) % 256) = (q : Int) := by
          have h := u8_xor_nat z (2 ^ ((f + i) % 8)) hz256 hr2
          rw [← hqd] at h
          rw [← h]
          congr 1
          rw [Int.natCast_pow]
          have h2 : ((2 ^ ((f + i) % 8) : Nat) : Int) < 256 := by omega
          rw [Int.natCast_pow] at h2
          exact Int.emod_eq_of_lt (by exact_mod_cast Nat.zero_le (2 ^ ((f + i) % 8))) h2
        have HFN : Hid (Flip wl f B (i + 1) (zs.set ((f + i) / 8) (q : Int))) := flip_next HF.out HBQ.out rfl rfl (by rw [HLZ.out]; exact hjl) hz hqd
        have HZQ : Hid (B = 0 → (zs.set ((f + i) / 8) (q : Int)) = wl) := by
          intro h0
          have h := HBQ.out
          rw [h0, Nat.zero_div] at h
          exact absurd h (by decide)
        have HOWN := Lib.hid (owns_set HOW.out ((f + i) / 8) (q : Int))
        have HBN : Hid (Below v7.heap.size v7 (wr.setCell ⟨g, (f + i) / 8, none⟩ (.int .u8 (q : Int)))) := HBW.out.setCell (p := ⟨g, (f + i) / 8, none⟩) HG.out _
        clear hQ hb hz hqd hr2 hz256 HZN
        go_wp2
        go_roundw
        case rel => exact ⟨i + 1, _, by go_num, by omega, HFN.out, HZQ.out, HOWN.out, HBN.out⟩
        case measure => simp [intOf]; omega
      · have hq1 : (Q : Int) % 2 = 0 := by omega
        have hq2 : (Q : Int).tmod 2 = 0 := by rw [Int.tmod_eq_emod_of_nonneg (by omega)]; exact hq1
        have HF1 : Hid (Flip wl f B (i + 1) zs) := flip_same HF.out (by rw [← hQ]; exact hb)
        clear hQ hb
        go_wp2
        go_roundw
        case rel => exact ⟨i + 1, zs, by go_num, by omega, HF1.out, HZ.out, HOW.out, HBW.out⟩
        case measure => simp [intOf]; omega
    · obtain rfl : i = 32 := by omega
      have HLZ : Hid (zs.length = N) := by show _ = _; rw [HF.out.2.1, HLN.out]
      have HSLZ := Lib.hid (Sl.of_owns (k := .u8) HOW.out (bytes_wf HF.out.1) HLZ.out)
      have hop := HNL.out zs f (by omega) HF.out
      have B8 := Lib.hid (HB_6.out.trans (HBW.out.mono HB_6.out.size))
      have hn3i : (0 : Int) < (n3' : Int) := by omega
      by_cases hB0 : B = 0
      · have HRE : Hid (Img.read zs = .inl x0.im) := by show _ = _; rw [HZ.out hB0]; exact HRDB.out
        have hbz : ((B : Int) == 0) = true := by simp [hB0]
        clear hop
        go_wp2_with fail
        refine (iread_is _ N _ zs _ HSLZ.out (by omega)).mono ?_
        rintro e w9 ⟨h9, hb9⟩
        obtain ⟨x9, -, -, rfl⟩ := h9.some HRE.out
        have B9 := Lib.hid ((B8.out.trans (hb9.mono B8.out.size)).alloc (B8.out.trans (hb9.mono B8.out.size)).size (.cells #[Value.slice x9.a x9.n x9.cap, Value.int .u64 x9.c.m, Value.int .u64 x9.c.l, Value.int .u64 x9.c.o, Value.int .u64 x9.c.t, Value.slice x9.c.a x9.c.n x9.c.cap] 28))
        simp only [Iw.v]
        clear h9 hb9
        go_wp2
        go_ret
        exact ⟨by first | rfl | simp, B9.out⟩
      · have HRE : Hid (Img.read zs = .inr 140) := by
          refine Img.read_crc ?_
          cases hc : Crc.opn zs with
          | none => rfl
          | some yc => rw [hc] at hop; simp [hB0] at hop
        have hbz : ((B : Int) == 0) = false := by simp; omega
        have hbz1 : ((B : Int) != 0) = true := by simp; omega
        have hbz2 : ¬ (B : Int) = 0 := by omega
        clear hop
        go_wp2_with fail
        refine (iread_is _ N _ zs _ HSLZ.out (by omega)).mono ?_
        rintro e w9 ⟨h9, hb9⟩
        obtain rfl := h9.none HRE.out
        have B9 := Lib.hid ((B8.out.trans (hb9.mono B8.out.size)).alloc (B8.out.trans (hb9.mono B8.out.size)).size (.cells #[Value.slice none 0 0, Value.int .u64 0, Value.int .u64 0, Value.int .u64 0, Value.int .u64 0, Value.slice none 0 0] 28))
        simp only [imgZero]
        clear h9 hb9
        go_wp2
        go_ret
        exact ⟨by first | rfl | simp, B9.out⟩

set_option maxRecDepth 100000 in
theorem lifted (os : Os) (started : os.Started) (H : Type) (enc : TypeId × Value → H) :
    ReturnsInHanded {} Try.checked os 4 .any (Rows.imageCutsSpec.pre6 enc Try.prog Try.f4 Rows.imageCutsRow.domain false) (Rows.imageCutsSpec.post enc Try.prog Try.f4 false true false false) := by
  refine returnsInHanded_of_change (C := Try.checked) own started (by kernel_rfl) Try.func4
    (ChangeSpec.witness6 (enc := enc) (C := Try.checked) false ⟨#[], #[.agg #[.slice none 0 0, .int .u64 0, .int .u64 0, .int .u64 0, .int .u64 0, .slice none 0 0], .int .u32 0, .int .u32 0], []⟩ 8 (by kernel_rfl) (by kernel_rfl) (by kernel_rfl) (by kernel_rfl)) ?_
  intro W base args ds gs before hval0 hW hcnd _
  have hval : ∀ (j : Nat) t v, Try.f4.params[j]? = some t → args[j]? = some v → Value.okWide Try.prog W .any base t v := hval0
  have hW' := hW
  obtain ⟨p, q, hA0, hV, rfl, hfz, hnd⟩ := hW
  have hA : DataW.TrodAll enc Try.prog W 0 (fun _ => true) true Try.f4.params.toList args.toList ds p := hA0
  rw [Try.params4] at hA hval
  obtain ⟨v0, vs0, d0, ds0, p0, q0, hargs, rfl, rfl, h0, r0⟩ := trodAll_cons hA
  obtain ⟨v1, vs1, d1, ds1, p1, q1, rfl, rfl, rfl, h1, r1⟩ := trodAll_cons r0
  obtain ⟨v2, vs2, d2, ds2, p2, q2, rfl, rfl, rfl, h2, r2⟩ := trodAll_cons r1
  obtain ⟨rfl, rfl, rfl⟩ := trodAll_nil r2
  obtain rfl : args = #[v0, v1, v2] := by cases args; simp_all
  obtain ⟨rfl, rfl⟩ := trodVars_none hV
  have k0 := h0
  have lt0 : ∀ x ∈ p0, x.block < W.heap.size := by obtain ⟨m, hm⟩ := k0; exact DataW.trod_lt m _ _ _ hm
  obtain ⟨x0, rfl, w0, n0⟩ := Iw.open (hval 0 28 v0 rfl rfl) h0
  obtain ⟨a1, rfl, rfl, rfl, w1⟩ := open_int Try.underlying42 (hval 1 42 v1 rfl rfl) h1
  obtain ⟨a2, rfl, rfl, rfl, w2⟩ := open_int Try.underlying42 (hval 2 42 v2 rfl rfl) h2
  clear hA0 hval0
  refine (walk x0 a1 a2 W w0 n0 w1 w2).mono fun e W' ⟨he, bel⟩ => ?_
  subst he
  exact ⟨_, rfl, _, _, _, [], _, [], hW', trodAll_mk1 (shut_bool Try.underlying4 _), (trodAll_cons_mk (Below.trod laidOut (by kernel_rfl) (of_decide_eq_true (by kernel_rfl)) k0 bel lt0) (trodAll_cons_mk (shut_int Try.underlying42 w1) (trodAll_cons_mk (shut_int Try.underlying42 w2) trodAll_mk0))), rfl, bel.frame _, fun h => by cases h⟩

theorem over : Rows.imageCutsRow.holds Try.pinned (OpenSpec.ofChange Rows.imageCutsSpec) :=
  OpenClaim.holds_of_wide 4 Try.f4 rfl rfl rfl rfl rfl rfl rfl ⟨rfl, rfl, rfl, rfl, rfl⟩ rfl rfl rfl rfl rfl (by kernel_rfl) Try.func4 (by kernel_rfl)
    (of_decide_eq_true (by kernel_rfl)) (by unfold Func.isWrapper; first | (rw [if_pos (by decide +kernel)]; kernel_rfl) | (rw [if_neg (by decide +kernel)]; exact ⟨rfl, rfl⟩))
    (fun os started H enc _ => lifted os started H enc)

/-- the statement -/
theorem proved : Rows.ImageCutsSaid := over
#print axioms proved
end Go.Proofs.Ytbfjihbkkcggmaa.imageCuts
