/- For every image ImageSizes answers true, and turns nothing that was there. No condition. -/
import Derived.Test.YtbfjihbkkcggmaaRows
import Derived.Test.YtbfjihbkkcggmaaImgLaw
import Derived.Test.YtbfjihbkkcggmaaPackW
import Derived.Test.YtbfjihbkkcggmaaImgSz
import Derived.Deep.RegionHeld3
import Derived.WalkKit
import Derived.ProofKit
import Derived.OpenShut
import Derived.ShutString
import Derived.ChangeOld
import Derived.Below
import Derived.Deep.Matrix
import Derived.SizedLaws
namespace Go.Proofs.Ytbfjihbkkcggmaa.imageSizes
open Go.ChangeShapes Go.WideShapes Go.ChangeAt Go.RowKit
set_option linter.unusedVariables false

theorem own : ownKnob Try.prog.godebug = none := by kernel_rfl
theorem laidOut : laidOutB Try.prog = true := by kernel_rfl

/-- a slice of integers that came in -/
def IsRow (k : IntKind) (w : World) (a : Option Addr) (len cap : Nat) (zs : List Int) : Prop :=
  (a = none ∧ len = 0 ∧ cap = 0 ∧ zs = []) ∨
  ∃ x, a = some x ∧ len ≤ cap ∧ cap ≤ maxLen ∧ zs.length = cap ∧ (∀ i, i < zs.length → w.cell? (x.add i) = some (.int k (zs.getD i 0))) ∧ ∀ n ∈ zs, (Lit.int k n).wf = true

/-! ### STEP 1: the walk -/
set_option maxHeartbeats 6400000 in
set_option maxRecDepth 100000 in
theorem walk (x0 : Iw) (w : World) (w0 : x0.Good w) (n0 : (x0.a = none → x0.cap = 0) ∧ (x0.c.a = none → x0.c.cap = 0)) :
    Calls Try.prog 5 #[x0.v] w fun e w' => e = .returned (.bool true) ∧ Below w.heap.size w w' := by
  obtain ⟨sa, sn, sc, xs, cm, cl, co, ct, ra, rn, rcap, rs⟩ := x0
  have HX_0a : Hid (Iw.Good w (Iw.mk sa sn sc xs (Cw.mk cm cl co ct ra rn rcap rs))) := w0
  clear w0 n0
  obtain ⟨⟨wl, we⟩, hw⟩ : ∃ g, Img.wr (Iw.im ⟨sa, sn, sc, xs, ⟨cm, cl, co, ct, ra, rn, rcap, rs⟩⟩) = g := ⟨_, rfl⟩
  have HC0 := Lib.hid (Img.wr_code (Iw.im ⟨sa, sn, sc, xs, ⟨cm, cl, co, ct, ra, rn, rcap, rs⟩⟩))
  have HW := Lib.hid hw
  have HMX : Hid (Try.prog.follows .mixedOrders = true) := by show _ = _; kernel_rfl
  have HBX : Hid (∀ o, Below w.heap.size w (w.alloc o)) := fun o => (Below.refl _ w).alloc (Nat.le_refl _) o
  have HNW : Hid (∀ o, (w.alloc o).heap[w.heap.size]? = some o) := fun o => heap_alloc_new w o
  have HSZ : Hid (∀ o, (w.alloc o).heap.size = w.heap.size + 1) := fun o => World.size_alloc w o
  clear hw
  simp only [Iw.v]
  go_enter Try.func5, Try.ntmps5
  go_wp2_with fail
  refine (awake_any _).mono ?_
  rintro e v1 ⟨rfl, B1⟩
  have HB_0 : Hid (Below w.heap.size w v1) := (HBX.out _).trans (B1.mono (by simp))
  have HP_0 : Hid (v1.heap[w.heap.size]? = some (.cells #[Value.slice sa sn sc, Value.int .u64 cm, Value.int .u64 cl, Value.int .u64 co, Value.int .u64 ct, Value.slice ra rn rcap] 28 (0, 0))) := (B1.block _ (by rw [HSZ.out]; exact Nat.lt_succ_self _)).trans (HNW.out _)
  have HX_0 := Lib.hid (HX_0a.out.below HB_0.out (Nat.le_refl _))
  clear B1 HBX HNW HSZ HX_0a
  go_wp2_with (refine wpList_load_row_w (by rfl) 28 (.tmp 1) (by rfl) w.heap.size (by rfl) 28 #[Value.slice sa sn sc, Value.int .u64 cm, Value.int .u64 cl, Value.int .u64 co, Value.int .u64 ct, Value.slice ra rn rcap] (0, 0) _ HP_0.out Try.underlying28 (by rfl) (show _ = some (#[Value.slice sa sn sc, Value.int .u64 cm, Value.int .u64 cl, Value.int .u64 co, Value.int .u64 ct, Value.slice ra rn rcap] : Array Value).size from info_im6') ?_)
  refine (iwrite_is ⟨sa, sn, sc, xs, ⟨cm, cl, co, ct, ra, rn, rcap, rs⟩⟩ v1 HX_0.out).mono ?_
  rintro e v2 ⟨h, hb⟩
  obtain ⟨wa1, NN, wc1, he, hw1⟩ := h.any
  rw [HW.out] at he hw1
  subst he
  have HP_1 := Lib.hid ((hb.block _ (Array.getElem?_eq_some_iff.1 HP_0.out).1).trans HP_0.out)
  have HX_1 := Lib.hid (HX_0.out.below hb (Nat.le_refl _))
  have HB_1 := Lib.hid (HB_0.out.trans (hb.mono HB_0.out.size))
  clear HP_0 HX_0 HB_0 hb
  have HU_1 := Lib.hid (hw1)
  clear h hw1
  go_wp2_with (refine wpList_load_row_w (by rfl) 28 (.tmp 1) (by rfl) w.heap.size (by rfl) 28 #[Value.slice sa sn sc, Value.int .u64 cm, Value.int .u64 cl, Value.int .u64 co, Value.int .u64 ct, Value.slice ra rn rcap] (0, 0) _ HP_1.out Try.underlying28 (by rfl) (show _ = some (#[Value.slice sa sn sc, Value.int .u64 cm, Value.int .u64 cl, Value.int .u64 co, Value.int .u64 ct, Value.slice ra rn rcap] : Array Value).size from info_im6') ?_)
  refine (few15_is ⟨sa, sn, sc, xs, ⟨cm, cl, co, ct, ra, rn, rcap, rs⟩⟩ v2 HX_1.out).mono ?_
  rintro e v3 ⟨he, hb⟩
  have HP_2 := Lib.hid ((hb.block _ (Array.getElem?_eq_some_iff.1 HP_1.out).1).trans HP_1.out)
  have HX_2 := Lib.hid (HX_1.out.below hb (Nat.le_refl _))
  have HU_2 := Lib.hid (HU_1.out.below hb (Nat.le_refl _))
  have HB_2 := Lib.hid (HB_1.out.trans (hb.mono HB_1.out.size))
  clear HP_1 HX_1 HU_1 HB_1 hb
  rcases he with rfl | ⟨rfl, hsh, hn500, -, -⟩
  · go_wp2
    go_ret
    exact ⟨rfl, HB_2.out⟩
  have hlen : wl.length ≤ 1100000 := by
    have h := Img.wr_len (x := Iw.im ⟨sa, sn, sc, xs, ⟨cm, cl, co, ct, ra, rn, rcap, rs⟩⟩) HX_2.out.2.plain (short_arcs hsh HX_2.out.1.2.2.2.1) (by show (sts xs).length ≤ 500; rw [sts_length, HX_2.out.1.1]; exact hn500)
    rw [HW.out] at h
    exact h
  clear hsh hn500
  have C0 := HC0.out
  rw [HW.out] at C0
  try simp only [] at C0
  rcases C0 with ⟨c0, k0, d0⟩ | ⟨c0, -⟩ | ⟨c0, -⟩
  rotate_left
  · subst c0
    go_wp2
    go_ret
    exact ⟨rfl, HB_2.out⟩
  · subst c0
    go_wp2
    go_ret
    exact ⟨rfl, HB_2.out⟩
  try simp only [] at c0 d0
  subst c0
  have hmx := HMX.out
  have HNL : Hid (wl.length = NN) := HU_2.out.1
  have HST : Hid (Tri.checkA (sts xs).length 0 (sts xs) = true ∧ 1 ≤ (sts xs).length ∧ (sts xs).length ≤ 6001) := Img.check_sts k0.1
  have HLX : Hid (xs.length = sn) := HX_2.out.1.1
  have HLR : Hid (rs.length = rn) := HX_2.out.2.1.1
  have hsn : sn ≤ 6001 := by have h := HST.out.2.2; rw [sts_length, HLX.out] at h; exact h
  have HFIT : Hid (∀ x ∈ ruls rs, Spec.fit x = true) := (File.check_parts k0.2).2.2.1
  have hrn : rn ≤ 200 := by
    have h2 : (ruls rs).length ≤ 200 := (File.check_parts k0.2).2.1
    rw [ruls_length, HLR.out] at h2
    exact h2
  have hbs := HX_2.out.2.2
  simp only [Cw.base, List.mem_cons, List.not_mem_nil, or_false, forall_eq_or_imp, forall_eq] at hbs
  obtain ⟨⟨hm0, hm1⟩, ⟨hl0, hl1⟩, ⟨ho0, ho1⟩, ⟨ht0, ht1⟩⟩ := hbs
  obtain ⟨m, rfl⟩ : ∃ m : Nat, cm = (m : Int) := ⟨cm.toNat, by omega⟩
  obtain ⟨l, rfl⟩ : ∃ m : Nat, cl = (m : Int) := ⟨cl.toNat, by omega⟩
  obtain ⟨o, rfl⟩ : ∃ m : Nat, co = (m : Int) := ⟨co.toNat, by omega⟩
  obtain ⟨t, rfl⟩ : ∃ m : Nat, ct = (m : Int) := ⟨ct.toNat, by omega⟩
  have H9 : Hid (m < 18446744073709551616 ∧ l < 18446744073709551616 ∧ o < 18446744073709551616 ∧ t < 18446744073709551616) := ⟨by omega, by omega, by omega, by omega⟩
  obtain ⟨zm, hzm⟩ : ∃ z, (Var.enc m).length = z := ⟨_, rfl⟩
  obtain ⟨zl, hzl⟩ : ∃ z, (Var.enc l).length = z := ⟨_, rfl⟩
  obtain ⟨zo, hzo⟩ : ∃ z, (Var.enc o).length = z := ⟨_, rfl⟩
  obtain ⟨zt, hzt⟩ : ∃ z, (Var.enc t).length = z := ⟨_, rfl⟩
  obtain ⟨c0, hc0⟩ : ∃ c, c = szl [(sn : Int), (rn : Int)] := ⟨_, rfl⟩
  obtain ⟨SS, hSS⟩ : ∃ s, s = (Img.flat (Img.stsNums 0 (sts xs))).length := ⟨_, rfl⟩
  obtain ⟨SR, hSR⟩ : ∃ s, s = (Img.flat (Img.rulesNums (ruls rs))).length := ⟨_, rfl⟩
  have htot : NN = c0 + SS + (4 + zm + zl + zo + zt) + SR := by
    have h1 : wl.length = (Img.flat (Img.nums (Iw.im (Iw.mk sa sn sc xs (Cw.mk m l o t ra rn rcap rs))))).length + 4 := by rw [d0, Crc.lock_length]; rfl
    have h2 : Img.nums (Iw.im (Iw.mk sa sn sc xs (Cw.mk m l o t ra rn rcap rs))) = sn :: (Img.stsNums 0 (sts xs) ++ (m :: l :: o :: t :: rn :: Img.rulesNums (ruls rs))) := by
      show (sts xs).length :: Img.stsNums 0 (sts xs) ++ (([(m : Int), (l : Int), (o : Int), (t : Int)].map Int.toNat) ++ (ruls rs).length :: Img.rulesNums (ruls rs)) = _
      rw [sts_length, HLX.out, ruls_length, HLR.out]
      simp only [List.map_cons, List.map_nil, Int.toNat_natCast, List.cons_append, List.nil_append]
    rw [HNL.out, h2] at h1
    simp only [Img.flat_cons, Img.flat_app, List.length_append] at h1
    rw [hc0, szl_two, hSS, hSR, ← hzm, ← hzl, ← hzo, ← hzt, Int.toNat_natCast, Int.toNat_natCast]
    omega
  have hN9 : NN ≤ 1100000 := by rw [← HNL.out]; exact hlen
  have HZ4 : Hid ((Var.enc m).length = zm ∧ (Var.enc l).length = zl ∧ (Var.enc o).length = zo ∧ (Var.enc t).length = zt) := ⟨hzm, hzl, hzo, hzt⟩
  have HC0E := Lib.hid hc0
  have HSS := Lib.hid hSS
  have HSR := Lib.hid hSR
  have HTOT := Lib.hid htot
  have hSSle : c0 + SS ≤ 1100000 := by omega
  have hall : c0 + SS + (4 + zm + zl + zo + zt) + SR ≤ 1100000 := by omega
  clear hc0 hSS hSR htot hlen HC0 d0 k0 hzm hzl hzo hzt hm0 hm1 hl0 hl1 ho0 ho1 ht0 ht1 HW
  have HPW : Hid (∀ V, Keep64 v3.heap.size v3 V → V.heap[w.heap.size]? = some (.cells #[Value.slice sa sn sc, Value.int .u64 (m : Int), Value.int .u64 (l : Int), Value.int .u64 (o : Int), Value.int .u64 (t : Int), Value.slice ra rn rcap] 28 (0, 0))) := fun V hV => (hV.low.block _ (Array.getElem?_eq_some_iff.1 HP_2.out).1).trans HP_2.out
  have HXW : Hid (∀ V, Keep64 v3.heap.size v3 V → Ss V sa sn sc xs ∧ Rs V ra rn rcap rs) := fun V hV => ⟨HX_2.out.1.below hV.low (Nat.le_refl _), HX_2.out.2.1.below hV.low (Nat.le_refl _)⟩
  have HUW : Hid (∀ V, Keep64 v3.heap.size v3 V → Sl .u8 V wa1 NN wc1 wl) := fun V hV => HU_2.out.below hV.low (Nat.le_refl _)
  have HBW0 : Hid (∀ V, Keep64 v3.heap.size v3 V → Below w.heap.size w V) := fun V hV => HB_2.out.trans (hV.low.mono HB_2.out.size)
  have hnc := HX_2.out.1.2.1
  have hcm := HX_2.out.1.2.2.1
  have hnr := HX_2.out.2.1.2.1
  have hcr := HX_2.out.2.1.2.2.1
  unfold maxLen at hcm hcr
  obtain ⟨p0, p1, p2, p3, p4, p5⟩ := six_cells (HPW.out v3 (Keep64.refl _ _))
  have hwl2 : ∀ z ∈ [(sn : Int), (rn : Int)], 0 ≤ z ∧ z ≤ 3000000 := by
    intro z hz
    simp only [List.mem_cons, List.not_mem_nil, or_false] at hz
    rcases hz with rfl | rfl <;> omega
  have O4 := Lib.hid (ownsI_lit v3 [(sn : Int), (rn : Int)] 2 rfl (by unfold maxLen; omega))
  have K4 : Hid (Keep64 v3.heap.size v3 (v3.alloc (.cells ([(sn : Int), (rn : Int)].map (Value.int .i64)).toArray 3))) := Keep64.alloc (Nat.le_refl _) _
  have HWL2 := Lib.hid hwl2
  obtain ⟨v4, hv4⟩ : ∃ v4, v4 = v3.alloc (.cells ([(sn : Int), (rn : Int)].map (Value.int .i64)).toArray 3) := ⟨_, rfl⟩
  rw [← hv4] at O4 K4
  have hv4' : v3.alloc (.cells #[.int .i64 (sn : Int), .int .i64 (rn : Int)] 3) = v4 := by rw [hv4]; rfl
  have HV4 := Lib.hid hv4'
  clear hwl2 hv4 hv4'
  clear HP_2
  clear HX_2
  clear HU_2
  go_wp2
  rw [HV4.out]
  clear p0 p1 p2 p3 p4 p5
  obtain ⟨q0, q1, q2, q3, q4, q5⟩ := six_cells (HPW.out v4 K4.out)
  go_loopw [6, 7] (fun lv iv wr => ∃ (i k c : Nat) (a : Option Addr) (zs : List Int), lv = .slice a k c ∧ iv = .int .i64 (i : Int) ∧ i ≤ sn ∧ Hid (wr.ownsRow v3.heap.size 3 1 (.slice a k c) k (i64s zs)) ∧ Hid (∀ z ∈ zs, 0 ≤ z ∧ z ≤ 3000000) ∧ Hid (szl zs = c0 + (Img.flat (Img.stsNums 0 ((sts xs).take i))).length) ∧ Hid (Keep64 v3.heap.size v3 wr)) (fun _ iv _ => sn - (intOf iv).toNat)
  case atStart => exact ⟨0, 2, 2, _, [(sn : Int), (rn : Int)], rfl, rfl, Nat.zero_le _, O4.out, HWL2.out, by show _ = _; rw [← HC0E.out]; simp [Img.flat, Img.stsNums], K4.out⟩
  case round =>
    obtain ⟨i, k, c, a, zs, rfl, rfl, hi, HO, HZS, HSQ, HK⟩ := hrel
    obtain ⟨q0, q1, q2, q3, q4, q5⟩ := six_cells (HPW.out wr HK.out)
    have hkz : zs.length = k := by have h := HO.out.1; simpa [i64s] using h
    have hbz := szl_len zs
    have hle0 : (Img.flat (Img.stsNums 0 ((sts xs).take i))).length ≤ SS := by rw [HSS.out]; exact Img.stsNums_leP (sts xs) 0 i
    have hk9 : k ≤ 1100000 := by have h := HSQ.out; omega
    clear hkz hbz hle0
    by_cases hlt : i < sn
    · obtain ⟨sb, so, ff, ta, tn, tc, arcs, rfl, hsb, e1, e2, hta, hg⟩ := (HXW.out _ HK.out).1.one i hlt
      have hat : (sts xs).getD i Tri.St.no = Sw.st ⟨ff, ta, tn, tc, arcs⟩ := by rw [sts_at, hg]
      have hok := Img.checkA_atP (sts xs) 0 i HST.out.1 (by rw [sts_length, HLX.out]; exact hlt)
      rw [Nat.zero_add, hat] at hok
      have hok : Tri.arcsOk (sts xs).length i none arcs = true := hok
      have hnx := Img.stsNums_nextP (sts xs) 0 i (by rw [sts_length, HLX.out]; exact hlt)
      rw [Nat.zero_add, hat, Int.natCast_zero] at hnx
      have hli : (i : Int) < (sn : Int) := by omega
      have htnc := hta.2.1
      have htcm := hta.2.2.1
      unfold maxLen at htcm
      have HLA : Hid (arcs.length = tn) := hta.1
      have hfew := Img.arcs_len _ _ hok (by intro q hq; cases hq)
      simp only [Option.getD_none] at hfew
      have htn : tn ≤ 1114112 := by have := HLA.out; omega
      have HOK := Lib.hid hok
      have HNLS := Lib.hid HST.out.2.2
      obtain ⟨A, hA⟩ : ∃ A, A = Img.arcNums (i : Int) (-1) arcs := ⟨_, rfl⟩
      have HSTEP : Hid (∀ j, j < tn → ∀ s t, arcs.getD j (0, 0) = (s, t) → ∃ sq tq : Nat, s - Img.lastAt arcs j - 1 = (sq : Int) ∧ t - (i : Int) - 1 = (tq : Int) ∧ -1 ≤ Img.lastAt arcs j ∧ Img.lastAt arcs j ≤ 1114111 ∧ 0 ≤ s ∧ s ≤ 1114111 ∧ 0 ≤ t ∧ t ≤ 6001 ∧ Img.lastAt arcs (j + 1) = s ∧ A.take (2 * (j + 1)) = A.take (2 * j) ++ [sq, tq]) := by
        intro j hj s t hst
        rw [hA]
        exact Img.arc_step HOK.out HNLS.out j (by rw [HLA.out]; exact hj) s t hst
      have HAL : Hid (A.take (2 * tn) = A) := by show _ = _; rw [hA]; exact List.take_of_length_le (by rw [Img.arcNums_len, HLA.out]; exact Nat.le_refl _)
      have HGD : Hid (∀ V, Keep64 v3.heap.size v3 V → Ars V ta tn tc arcs) := by
        intro V hV
        have h := (HXW.out V hV).1.good i
        rw [hg] at h; exact h
      obtain ⟨c1, hc1⟩ : ∃ c1, c1 = c0 + (Img.flat (Img.stsNums 0 ((sts xs).take i))).length := ⟨_, rfl⟩
      have hHn : (Img.flat (Img.stsNums 0 ((sts xs).take (i + 1)))).length = (Img.flat (Img.stsNums 0 ((sts xs).take i))).length + (Var.enc (2 * tn + (if ff = true then 1 else 0))).length + (Img.flat (A)).length := by
        have hst : Img.stNums (i : Int) (Sw.st ⟨ff, ta, tn, tc, arcs⟩) = (2 * tn + (if ff = true then 1 else 0)) :: A := by
          rw [Img.stNums, Img.headNum, hA]
          show (2 * arcs.length + _) :: _ = _
          rw [HLA.out]; rfl
        rw [hnx, Img.flat_app, List.length_append, hst, Img.flat_cons, List.length_append, Nat.add_assoc]
      have hle1 := Img.stsNums_leP (sts xs) 0 (i + 1)
      rw [← HSS.out] at hle1
      have HNEXT : Hid (c0 + (Img.flat (Img.stsNums 0 ((sts xs).take (i + 1)))).length = c1 + (Var.enc (2 * tn + (if ff = true then 1 else 0))).length + (Img.flat (A)).length) := by show _ = _; omega
      have hcap : c1 + (Var.enc (2 * tn + (if ff = true then 1 else 0))).length + (Img.flat (A)).length ≤ 1100000 := by omega
      have HCAP := Lib.hid hcap
      have HSQ1 : Hid (szl zs = c1) := by show _ = _; rw [HSQ.out, hc1]
      have HSZR : Hid (v3.heap.size ≤ wr.heap.size) := HK.out.size
      obtain ⟨G8, hG8⟩ : ∃ g, g = wr.heap.size := ⟨_, rfl⟩
      obtain ⟨WB, hWB⟩ : ∃ WB, WB = wr.alloc (.cells #[.bool ff, .slice ta tn tc] 49) := ⟨_, rfl⟩
      have KB : Hid (Keep64 v3.heap.size v3 WB) := by rw [hWB]; exact HK.out.trans (Keep64.alloc HSZR.out _)
      have ZB : Hid (v3.heap.size ≤ WB.heap.size) := KB.out.size
      have ZB1 : Hid (wr.heap.size + 1 = WB.heap.size) := by show _ = _; rw [hWB]; simp
      have HWB : Hid (∀ V, Keep64 v3.heap.size WB V → V.cell? ⟨G8, 0, none⟩ = some (.bool ff) ∧ V.cell? ⟨G8, 1, none⟩ = some (.slice ta tn tc)) := by
        intro V hV
        rw [hWB] at hV
        rw [hG8]
        exact ⟨hV.cell (heap_alloc_new wr _) (by decide), hV.cell (heap_alloc_new wr _) (by decide)⟩
      have OB : Hid (WB.ownsRow v3.heap.size 3 1 (.slice a k c) k (i64s zs)) := by rw [hWB]; exact ownsRow_below HO.out ((Below.refl _ wr).alloc (Nat.le_refl _) _) (Nat.le_refl _)
      have hWG : wr.alloc (.cells #[.bool ff, .slice ta tn tc] 49) = WB := hWB.symm
      have HWG := Lib.hid hWG
      have HG8 := Lib.hid hG8
      clear hg hat hok hnx hfew hta hA hc1 hHn hle1 hcap hWB hWG hG8 HSQ HO
      cases ff with
      | false =>
        obtain ⟨H, hH⟩ : ∃ H : Nat, H = 2 * tn := ⟨_, rfl⟩
        have hH1 : 2 * (tn : Int) = (H : Int) := by omega
        have hH9 : H ≤ 3000000 := by omega
        have HCAPH : Hid (c1 + (Var.enc H).length + (Img.flat (A)).length ≤ 1100000) := by
          have h := HCAP.out
          show _ ≤ _
          rw [hH]; simpa using h
        have HNXH : Hid (c0 + (Img.flat (Img.stsNums 0 ((sts xs).take (i + 1)))).length = c1 + (Var.enc H).length + (Img.flat (A)).length) := by
          have h := HNEXT.out
          show _ = _
          rw [hH]; simpa using h
        have HWH : Hid (∀ z ∈ [(H : Int)], (Lit.int .i64 z).wf = true) := by intro z hz; simp at hz; subst hz; exact WalkArith.wf_i64 ⟨by omega, by omega⟩
        clear hH
        go_wp2_with (at_builtin; (try rw [HWG.out]); refine append_i64_g (by rfl) (.tmp 56) (.tmp 58) (by rfl) v3.heap.size _ k zs (by rfl) (ownsRow_below OB.out ((Below.refl WB.heap.size WB).alloc (Nat.le_refl _) _) (Nat.le_refl _)) (some ⟨wr.heap.size + 1, 0, none⟩) 1 1 [(H : Int)] (by rfl) (Sl.newI [(H : Int)] HWH.out (by unfold maxLen; simp) ZB1.out rfl rfl) (k + 1) rfl (by omega) (by have := ZB.out; simp; omega) ?_; intro a5 c5 w5 hown5 hk5; have O5 := Lib.hid hown5; have KS5 : Hid (Keep64 v3.heap.size WB w5) := (Keep64.alloc ZB.out _).trans hk5; clear hown5 hk5)
        rw [← HG8.out]
        clear OB
        have S5 : Hid (szl (zs ++ [(H : Int)]) = c1 + (Var.enc H).length) := by show _ = _; rw [szl_app, szl_one, HSQ1.out, Int.toNat_natCast]
        have Z5 : Hid (∀ z ∈ zs ++ [(H : Int)], 0 ≤ z ∧ z ≤ 3000000) := by
          intro z hz
          rcases List.mem_append.1 hz with hz | hz
          · exact HZS.out z hz
          · simp only [List.mem_singleton] at hz
            subst hz; omega
        obtain ⟨c2, hc2⟩ : ∃ c2, c2 = c1 + (Var.enc H).length := ⟨_, rfl⟩
        rw [← hc2] at S5 HCAPH HNXH
        have KW5 : Hid (Keep64 v3.heap.size v3 w5) := KB.out.trans KS5.out
        clear hc2 HCAP HNEXT HSQ1 HZS
        obtain ⟨-, g1⟩ := HWB.out _ KS5.out
        go_loopw [6, 10] (fun lv jv wr => ∃ (j k c : Nat) (a : Option Addr) (zs : List Int), lv = .slice a k c ∧ jv = .int .i64 (j : Int) ∧ j ≤ tn ∧ Hid (wr.ownsRow v3.heap.size 3 1 (.slice a k c) k (i64s zs)) ∧ Hid (∀ z ∈ zs, 0 ≤ z ∧ z ≤ 3000000) ∧ Hid (szl zs = c2 + (Img.flat (A.take (2 * j))).length) ∧ Hid (Keep64 v3.heap.size WB wr)) (fun _ jv _ => tn - (intOf jv).toNat)
        case atStart => exact ⟨0, k + 1, c5, a5, _, rfl, rfl, Nat.zero_le _, O5.out, Z5.out, by show _ = _; rw [S5.out]; simp [Img.flat], KS5.out⟩
        case round =>
          obtain ⟨j, k2, c2', a2, zs2, rfl, rfl, hj, HO2, HZ2, HQ2, HK2⟩ := hrel
          obtain ⟨-, g1⟩ := HWB.out _ HK2.out
          have KW2 : Hid (Keep64 v3.heap.size v3 wr) := KB.out.trans HK2.out
          have hkz : zs2.length = k2 := by have h := HO2.out.1; simpa [i64s] using h
          have hbz := szl_len zs2
          have hle0 := Img.flat_take_le A (2 * j)
          have hk9 : k2 ≤ 1100000 := by have h := HQ2.out; have h2 := HCAPH.out; omega
          clear hkz hbz hle0
          by_cases hlt2 : j < tn
          · obtain ⟨b2, o2, s1, t1, rfl, hb2, f1, f2, hs1, ht1, hg1⟩ := (HGD.out _ KW2.out).one j hlt2
            obtain ⟨sq, tq, hsq, htq, hl0, hl9, hs0, hs9, ht0, ht9, -, htk⟩ := HSTEP.out j hlt2 s1 t1 hg1
            have htq1 : t1 - (i : Int) = (tq : Int) + 1 := by omega
            have hji : (j : Int) < (tn : Int) := by omega
            have hsq9 : sq ≤ 1114111 := by omega
            have htq9 : tq ≤ 6001 := by omega
            have HQT : Hid (szl ((zs2 ++ [(tq : Int)]) ++ [(sq : Int)]) = c2 + (Img.flat (A.take (2 * (j + 1)))).length) := by
              show _ = _
              rw [szl_app, szl_app, szl_one, szl_one, HQ2.out, htk, Img.flat_app, List.length_append, Img.flat_cons, Img.flat_one, List.length_append, Int.toNat_natCast, Int.toNat_natCast]
              omega
            have HZT : Hid (∀ z ∈ (zs2 ++ [(tq : Int)]) ++ [(sq : Int)], 0 ≤ z ∧ z ≤ 3000000) := by
              intro z hz
              simp only [List.mem_append, List.mem_singleton] at hz
              rcases hz with (hz | rfl) | rfl
              · exact HZ2.out z hz
              · omega
              · omega
            have HWT : Hid (∀ z ∈ [(tq : Int)], (Lit.int .i64 z).wf = true) := by intro z hz; simp at hz; subst hz; exact WalkArith.wf_i64 ⟨by omega, by omega⟩
            have HWS : Hid (∀ z ∈ [(sq : Int)], (Lit.int .i64 z).wf = true) := by intro z hz; simp at hz; subst hz; exact WalkArith.wf_i64 ⟨by omega, by omega⟩
            have HSZ2 : Hid (v3.heap.size ≤ wr.heap.size) := Nat.le_trans ZB.out HK2.out.size
            clear htk ht1 hs1
            rcases Nat.eq_zero_or_pos j with hj0 | hjp
            · subst hj0
              obtain rfl : s1 = (sq : Int) := by have h := hsq; simp only [Img.lastAt] at h; omega
              simp only [Nat.zero_mul, Nat.add_zero] at f1 f2
              clear hsq hl0 hl9
              go_wp2_with (at_builtin; first | (refine append_i64_g (by rfl) (.tmp 67) (.tmp 77) (by rfl) v3.heap.size _ k2 zs2 (by rfl) (ownsRow_below HO2.out ((Below.refl wr.heap.size wr).alloc (Nat.le_refl _) _) (Nat.le_refl _)) (some ⟨wr.heap.size, 0, none⟩) 1 1 [(tq : Int)] (by rfl) (Sl.newI [(tq : Int)] HWT.out (by unfold maxLen; simp) rfl rfl rfl) (k2 + 1) rfl (by omega) (by have := HSZ2.out; simp; omega) ?_; intro a8 c8 w8 hown8 hk8; have O8 := Lib.hid hown8; have K8 : Hid (Keep64 v3.heap.size WB w8) := HK2.out.trans ((Keep64.alloc HSZ2.out _).trans hk8); have Z8 : Hid (v3.heap.size ≤ w8.heap.size) := Nat.le_trans ZB.out K8.out.size; clear hown8 hk8; have g8 := (HWB.out _ K8.out).2; obtain ⟨x8, y8, z8, m8, hx8, -, e8, -, -, -, hq8⟩ := (HGD.out _ (KB.out.trans K8.out)).one 0 hlt2; cases hx8; rw [hg1] at hq8; obtain ⟨hqa, hqb⟩ := Prod.mk.inj hq8; subst hqa hqb; simp only [Nat.zero_mul, Nat.add_zero] at e8) | (refine append_i64_g (by rfl) (.tmp 81) (.tmp 88) (by rfl) v3.heap.size _ (k2 + 1) (zs2 ++ [(tq : Int)]) (by rfl) (ownsRow_below O8.out ((Below.refl w8.heap.size w8).alloc (Nat.le_refl _) _) (Nat.le_refl _)) (some ⟨w8.heap.size, 0, none⟩) 1 1 [(sq : Int)] (by rfl) (Sl.newI [(sq : Int)] HWS.out (by unfold maxLen; simp) rfl rfl rfl) (k2 + 1 + 1) rfl (by omega) (by have := Z8.out; simp; omega) ?_; intro a9 c9 w9 hown9 hk9p; have O9 := Lib.hid hown9; have K9 : Hid (Keep64 v3.heap.size WB w9) := K8.out.trans ((Keep64.alloc Z8.out _).trans hk9p); clear hown9 hk9p))
              go_roundw
              case rel => exact ⟨0 + 1, k2 + 1 + 1, c9, a9, _, rfl, by go_num, by omega, O9.out, HZT.out, HQT.out, K9.out⟩
              case measure => simp [intOf]; omega
            · obtain ⟨mm, hmm⟩ : ∃ mm, j = mm + 1 := ⟨j - 1, by omega⟩
              obtain ⟨b3, o3, s2, t2, hba, hb3, f3, f4, -, -, hg2⟩ := (HGD.out _ KW2.out).one mm (by omega)
              cases hba
              have hla : Img.lastAt arcs j = s2 := by rw [hmm]; show (arcs.getD mm (0, 0)).1 = s2; rw [hg2]
              rw [hla] at hsq hl0 hl9
              have HSALL : Hid (∀ V, Keep64 v3.heap.size WB V → V.cell? ⟨G8, 1, none⟩ = some (.slice (some ⟨b2, o2, none⟩) tn tc) ∧ V.cell? ⟨b2, o2 + j * 2, none⟩ = some (.int .i64 s1) ∧ V.cell? ⟨b2, o2 + mm * 2, none⟩ = some (.int .i64 s2)) := by
                intro V hV
                obtain ⟨x8, y8, z8, m8, hx8, -, e8, -, -, -, hq8⟩ := (HGD.out _ (KB.out.trans hV)).one j hlt2
                cases hx8
                rw [hg1] at hq8
                cases hq8
                obtain ⟨x9, y9, z9, m9, hx9, -, e9, -, -, -, hq9⟩ := (HGD.out _ (KB.out.trans hV)).one mm (by omega)
                cases hx9
                rw [hg2] at hq9
                cases hq9
                exact ⟨(HWB.out V hV).2, e8, e9⟩
              have hj1 : (j : Int) - 1 = (mm : Int) := by omega
              have hjz : ((j : Int) == 0) = false := by simp; omega
              have hjz2 : ¬ (j : Int) = 0 := by omega
              have hmt : (mm : Int) < (tn : Int) := by omega
              have hjw : IntKind.i64.wrap (mm : Int) = (mm : Int) := Img.wrap_small (by omega)
              have hvv : IntKind.i64.wrap (IntKind.i64.wrap (s1 - s2) - 1) = (sq : Int) := by
                rw [Img.wrap_small (x := s1 - s2) (by omega), Img.wrap_small (by omega)]
                exact hsq
              have HVV := Lib.hid hvv
              clear hmm hla hg2 hsq hl0 hl9
              go_wp2_with (at_builtin; refine append_i64_g (by rfl) (.tmp 67) (.tmp 77) (by rfl) v3.heap.size _ k2 zs2 (by rfl) (ownsRow_below HO2.out ((Below.refl wr.heap.size wr).alloc (Nat.le_refl _) _) (Nat.le_refl _)) (some ⟨wr.heap.size, 0, none⟩) 1 1 [(tq : Int)] (by rfl) (Sl.newI [(tq : Int)] HWT.out (by unfold maxLen; simp) rfl rfl rfl) (k2 + 1) rfl (by omega) (by have := HSZ2.out; simp; omega) ?_; intro a8 c8 w8 hown8 hk8; have O8 := Lib.hid hown8; have K8 : Hid (Keep64 v3.heap.size WB w8) := HK2.out.trans ((Keep64.alloc HSZ2.out _).trans hk8); have Z8 : Hid (v3.heap.size ≤ w8.heap.size) := Nat.le_trans ZB.out K8.out.size; clear hown8 hk8; have hS8 := HSALL.out _ K8.out)
              have KD8 : Hid (Keep64 v3.heap.size WB w8.drew) := K8.out.drew
              have hSD := HSALL.out _ KD8.out
              refine wp_region_held_drew (S := (fun V => V.cell? ⟨G8, 1, none⟩ = some (.slice (some ⟨b2, o2, none⟩) tn tc) ∧ V.cell? ⟨b2, o2 + j * 2, none⟩ = some (.int .i64 s1) ∧ V.cell? ⟨b2, o2 + mm * 2, none⟩ = some (.int .i64 s2))) (by kernel_rfl) (by first | (first | exact hS9 | exact hSD | exact HSALL.out _ (K8.out.trans (Keep64.alloc Z8.out _).drew)) | ((try dsimp only); first | exact hS9 | exact hSD | exact HSALL.out _ (K8.out.trans (Keep64.alloc Z8.out _).drew))) (fun hHeld => ?_)
              refine wpAnyH_take (i := 0) (v := ?va1) rfl (by kernel_rfl) (by kernel_rfl) (by kernel_rfl) (fun _ _ _ h => h) (Or.inl ⟨by rfl, ?ha1⟩) (by assumption) ?ra1
              case ha1 => intro w hSw; (try dsimp only at hSw); go_simp; try with_reducible rfl
              simp only [Act.put, List.getElem_toArray, List.getElem_cons_succ, List.getElem_cons_zero, List.setIfInBounds_toArray, List.set_cons_succ, List.set_cons_zero]
              refine wpAnyH_take (i := 1) (v := ?va4) rfl (by kernel_rfl) (by kernel_rfl) (by kernel_rfl) (fun _ _ _ h => h) (Or.inl ⟨by rfl, ?ha4⟩) (by assumption) ?ra4
              case ha4 => intro w hSw; (try dsimp only at hSw); go_simp; try with_reducible rfl
              simp only [Act.put, List.getElem_toArray, List.getElem_cons_succ, List.getElem_cons_zero, List.setIfInBounds_toArray, List.set_cons_succ, List.set_cons_zero]
              refine wpAnyH_take (i := 2) (v := ?va7) rfl (by kernel_rfl) (by kernel_rfl) (by kernel_rfl) (fun _ _ _ h => h) (Or.inl ⟨by rfl, ?ha7⟩) (by assumption) ?ra7
              case ha7 => intro w hSw; (try dsimp only at hSw); go_simp; try with_reducible rfl
              simp only [Act.put, List.getElem_toArray, List.getElem_cons_succ, List.getElem_cons_zero, List.setIfInBounds_toArray, List.set_cons_succ, List.set_cons_zero]
              refine wpAnyH_take (i := 3) (v := ?va10) rfl (by kernel_rfl) (by kernel_rfl) (by kernel_rfl) (fun _ _ _ h => h) (Or.inl ⟨by rfl, ?ha10⟩) (by assumption) ?ra10
              case ha10 => intro w hSw; (try dsimp only at hSw); go_simp; try with_reducible rfl
              simp only [Act.put, List.getElem_toArray, List.getElem_cons_succ, List.getElem_cons_zero, List.setIfInBounds_toArray, List.set_cons_succ, List.set_cons_zero]
              refine wpAnyH_take (i := 4) (v := ?va13) rfl (by kernel_rfl) (by kernel_rfl) (by kernel_rfl) (fun _ _ _ h => h) (Or.inl ⟨by rfl, ?ha13⟩) (by assumption) ?ra13
              case ha13 => intro w hSw; (try dsimp only at hSw); go_simp; try with_reducible rfl
              simp only [Act.put, List.getElem_toArray, List.getElem_cons_succ, List.getElem_cons_zero, List.setIfInBounds_toArray, List.set_cons_succ, List.set_cons_zero]
              refine wpAnyH_take (i := 5) (v := ?va16) rfl (by kernel_rfl) (by kernel_rfl) (by kernel_rfl) (fun _ _ _ h => h) (Or.inl ⟨by rfl, ?ha16⟩) (by assumption) ?ra16
              case ha16 => intro w hSw; (try dsimp only at hSw); go_simp; try with_reducible rfl
              simp only [Act.put, List.getElem_toArray, List.getElem_cons_succ, List.getElem_cons_zero, List.setIfInBounds_toArray, List.set_cons_succ, List.set_cons_zero]
              refine wpAnyH_take (i := 6) (v := ?va19) rfl (by kernel_rfl) (by kernel_rfl) (by kernel_rfl) (fun _ _ _ h => h) (Or.inl ⟨by rfl, ?ha19⟩) (by assumption) ?ra19
              case ha19 => intro w hSw; (try dsimp only at hSw); go_simp; try with_reducible rfl
              simp only [Act.put, List.getElem_toArray, List.getElem_cons_succ, List.getElem_cons_zero, List.setIfInBounds_toArray, List.set_cons_succ, List.set_cons_zero]
              refine wpAnyH_take (i := 7) (v := ?va22) rfl (by kernel_rfl) (by kernel_rfl) (by kernel_rfl) (fun _ _ _ h => h) (Or.inl ⟨by rfl, ?ha22⟩) (by assumption) ?ra22
              case ha22 => intro w hSw; (try dsimp only at hSw); go_simp; try with_reducible rfl
              simp only [Act.put, List.getElem_toArray, List.getElem_cons_succ, List.getElem_cons_zero, List.setIfInBounds_toArray, List.set_cons_succ, List.set_cons_zero]
              refine wpAnyH_take (i := 8) (v := ?va25) rfl (by kernel_rfl) (by kernel_rfl) (by kernel_rfl) (fun _ _ _ h => h) (Or.inl ⟨by rfl, ?ha25⟩) (by assumption) ?ra25
              case ha25 => intro w hSw; (try dsimp only at hSw); go_simp; try with_reducible rfl
              simp only [Act.put, List.getElem_toArray, List.getElem_cons_succ, List.getElem_cons_zero, List.setIfInBounds_toArray, List.set_cons_succ, List.set_cons_zero]
              refine wpAnyH_take (i := 9) (v := ?va28) rfl (by kernel_rfl) (by kernel_rfl) (by kernel_rfl) (fun _ _ _ h => h) (Or.inl ⟨by rfl, ?ha28⟩) (by assumption) ?ra28
              case ha28 => intro w hSw; (try dsimp only at hSw); go_simp; try with_reducible rfl
              simp only [Act.put, List.getElem_toArray, List.getElem_cons_succ, List.getElem_cons_zero, List.setIfInBounds_toArray, List.set_cons_succ, List.set_cons_zero]
              refine wpAnyH_take (i := 10) (v := ?va31) rfl (by kernel_rfl) (by kernel_rfl) (by kernel_rfl) (fun _ _ _ h => h) (Or.inl ⟨by rfl, ?ha31⟩) (by assumption) ?ra31
              case ha31 => intro w hSw; (try dsimp only at hSw); go_simp; try with_reducible rfl
              simp only [Act.put, List.getElem_toArray, List.getElem_cons_succ, List.getElem_cons_zero, List.setIfInBounds_toArray, List.set_cons_succ, List.set_cons_zero]
              refine wpAnyH_take (i := 11) (v := ?va34) rfl (by kernel_rfl) (by kernel_rfl) (by kernel_rfl) (fun _ _ _ h => h) (Or.inl ⟨by rfl, ?ha34⟩) (by assumption) ?ra34
              case ha34 => intro w hSw; (try dsimp only at hSw); go_simp; try with_reducible rfl
              simp only [Act.put, List.getElem_toArray, List.getElem_cons_succ, List.getElem_cons_zero, List.setIfInBounds_toArray, List.set_cons_succ, List.set_cons_zero]
              refine wpAnyH_take (i := 12) (v := ?va37) rfl (by kernel_rfl) (by kernel_rfl) (by kernel_rfl) (fun _ _ _ h => h) (Or.inl ⟨by rfl, ?ha37⟩) (by assumption) ?ra37
              case ha37 => intro w hSw; (try dsimp only at hSw); go_simp; try with_reducible rfl
              simp only [Act.put, List.getElem_toArray, List.getElem_cons_succ, List.getElem_cons_zero, List.setIfInBounds_toArray, List.set_cons_succ, List.set_cons_zero]
              refine wpAnyH_take (i := 13) (v := ?va40) rfl (by kernel_rfl) (by kernel_rfl) (by kernel_rfl) (fun _ _ _ h => h) (Or.inl ⟨by rfl, ?ha40⟩) (by assumption) ?ra40
              case ha40 => intro w hSw; (try dsimp only at hSw); go_simp; try with_reducible rfl
              simp only [Act.put, List.getElem_toArray, List.getElem_cons_succ, List.getElem_cons_zero, List.setIfInBounds_toArray, List.set_cons_succ, List.set_cons_zero]
              refine wpAnyH_take (i := 14) (v := ?va43) rfl (by kernel_rfl) (by kernel_rfl) (by kernel_rfl) (fun _ _ _ h => h) (Or.inl ⟨by rfl, ?ha43⟩) (by assumption) ?ra43
              case ha43 => intro w hSw; (try dsimp only at hSw); go_simp; try with_reducible rfl
              simp only [Act.put, List.getElem_toArray, List.getElem_cons_succ, List.getElem_cons_zero, List.setIfInBounds_toArray, List.set_cons_succ, List.set_cons_zero]
              refine wpAnyH_take (i := 15) (v := ?va46) rfl (by kernel_rfl) (by kernel_rfl) (by kernel_rfl) (fun _ _ _ h => h) (Or.inl ⟨by rfl, ?ha46⟩) (by assumption) ?ra46
              case ha46 => intro w hSw; (try dsimp only at hSw); go_simp; try with_reducible rfl
              simp only [Act.put, List.getElem_toArray, List.getElem_cons_succ, List.getElem_cons_zero, List.setIfInBounds_toArray, List.set_cons_succ, List.set_cons_zero]
              refine wpAnyH_ready (rs := [16]) (by kernel_rfl) (by simp) ?_
              refine AllReadyH.cons rfl (fun K hK => ?_) AllReadyH.nil
              go_simp
              refine hK.out _ _ (by first | (first | exact hS9 | exact hSD | exact HSALL.out _ (K8.out.trans (Keep64.alloc Z8.out _).drew)) | ((try dsimp only); first | exact hS9 | exact hSD | exact HSALL.out _ (K8.out.trans (Keep64.alloc Z8.out _).drew))) (fun hHeld => ?_)
              clear hK K
              try simp only [Act.put, List.getElem_toArray, List.getElem_cons_succ, List.getElem_cons_zero, List.setIfInBounds_toArray, List.set_cons_succ, List.set_cons_zero]
              refine wpAnyH_ready (rs := [17]) (by kernel_rfl) (by simp) ?_
              refine AllReadyH.cons rfl (fun K hK => ?_) AllReadyH.nil
              try rw [HVV.out]
              refine step_append_i64_g (by rfl) (.tmp 90) (.tmp 106) (by rfl) v3.heap.size _ (k2 + 1) (zs2 ++ [(tq : Int)]) (by rfl) (ownsRow_below (show w8.drew.ownsRow _ _ _ _ _ _ from O8.out) ((Below.refl w8.drew.heap.size w8.drew).alloc (Nat.le_refl _) _) (Nat.le_refl _)) (some ⟨w8.heap.size, 0, none⟩) 1 1 [(sq : Int)] (by rfl) (Sl.newI (w := w8.drew) [(sq : Int)] HWS.out (by unfold maxLen; simp) rfl rfl rfl) (k2 + 1 + 1) rfl (by omega) (by have := Z8.out; simp; omega) ?_
              intro a9 c9 w9 hown9 hk9p
              have O9 := Lib.hid hown9
              have K9 : Hid (Keep64 v3.heap.size WB w9) := K8.out.trans ((Keep64.alloc Z8.out _).drew.trans hk9p)
              have hS9 := HSALL.out _ K9.out
              clear hown9 hk9p
              refine hK.out _ _ (by first | (first | exact hS9 | exact hSD | exact HSALL.out _ (K8.out.trans (Keep64.alloc Z8.out _).drew)) | ((try dsimp only); first | exact hS9 | exact hSD | exact HSALL.out _ (K8.out.trans (Keep64.alloc Z8.out _).drew))) (fun hHeld => ?_)
              clear hK K
              try simp only [Act.put, List.getElem_toArray, List.getElem_cons_succ, List.getElem_cons_zero, List.setIfInBounds_toArray, List.set_cons_succ, List.set_cons_zero]
              refine wpAnyH_take (i := 18) (v := ?va67) rfl (by kernel_rfl) (by kernel_rfl) (by kernel_rfl) (fun _ _ _ h => h) (Or.inl ⟨by rfl, ?ha67⟩) (by assumption) ?ra67
              case ha67 => intro w hSw; (try dsimp only at hSw); go_simp; try with_reducible rfl
              simp only [Act.put, List.getElem_toArray, List.getElem_cons_succ, List.getElem_cons_zero, List.setIfInBounds_toArray, List.set_cons_succ, List.set_cons_zero]
              refine wpAnyH_done (by kernel_rfl) ?_ _
              go_wp2
              go_roundw
              case rel => exact ⟨j + 1, k2 + 1 + 1, c9, a9, _, rfl, by go_num, by omega, O9.out, HZT.out, HQT.out, K9.out⟩
              case measure => simp [intOf]; omega
  
          · obtain rfl : j = tn := by omega
            have HXF : Hid (szl zs2 = c0 + (Img.flat (Img.stsNums 0 ((sts xs).take (i + 1)))).length) := by
              show _ = _
              rw [HNXH.out]
              have h := HQ2.out
              rwa [HAL.out] at h
            clear HQ2
            go_wp2
            go_roundw
            case rel => exact ⟨i + 1, k2, c2', a2, zs2, rfl, by go_num, by omega, HO2.out, HZ2.out, HXF.out, KW2.out⟩
            case measure => simp [intOf]; omega
      | true =>
        obtain ⟨H, hH⟩ : ∃ H : Nat, H = 2 * tn + 1 := ⟨_, rfl⟩
        have hH1 : 2 * (tn : Int) = (H : Int) - 1 := by omega
        have hH9 : H ≤ 3000000 := by omega
        have HCAPH : Hid (c1 + (Var.enc H).length + (Img.flat (A)).length ≤ 1100000) := by
          have h := HCAP.out
          show _ ≤ _
          rw [hH]; simpa using h
        have HNXH : Hid (c0 + (Img.flat (Img.stsNums 0 ((sts xs).take (i + 1)))).length = c1 + (Var.enc H).length + (Img.flat (A)).length) := by
          have h := HNEXT.out
          show _ = _
          rw [hH]; simpa using h
        have HWH : Hid (∀ z ∈ [(H : Int)], (Lit.int .i64 z).wf = true) := by intro z hz; simp at hz; subst hz; exact WalkArith.wf_i64 ⟨by omega, by omega⟩
        clear hH
        go_wp2_with (at_builtin; (try rw [HWG.out]); refine append_i64_g (by rfl) (.tmp 56) (.tmp 58) (by rfl) v3.heap.size _ k zs (by rfl) (ownsRow_below OB.out ((Below.refl WB.heap.size WB).alloc (Nat.le_refl _) _) (Nat.le_refl _)) (some ⟨wr.heap.size + 1, 0, none⟩) 1 1 [(H : Int)] (by rfl) (Sl.newI [(H : Int)] HWH.out (by unfold maxLen; simp) ZB1.out rfl rfl) (k + 1) rfl (by omega) (by have := ZB.out; simp; omega) ?_; intro a5 c5 w5 hown5 hk5; have O5 := Lib.hid hown5; have KS5 : Hid (Keep64 v3.heap.size WB w5) := (Keep64.alloc ZB.out _).trans hk5; clear hown5 hk5)
        rw [← HG8.out]
        clear OB
        have S5 : Hid (szl (zs ++ [(H : Int)]) = c1 + (Var.enc H).length) := by show _ = _; rw [szl_app, szl_one, HSQ1.out, Int.toNat_natCast]
        have Z5 : Hid (∀ z ∈ zs ++ [(H : Int)], 0 ≤ z ∧ z ≤ 3000000) := by
          intro z hz
          rcases List.mem_append.1 hz with hz | hz
          · exact HZS.out z hz
          · simp only [List.mem_singleton] at hz
            subst hz; omega
        obtain ⟨c2, hc2⟩ : ∃ c2, c2 = c1 + (Var.enc H).length := ⟨_, rfl⟩
        rw [← hc2] at S5 HCAPH HNXH
        have KW5 : Hid (Keep64 v3.heap.size v3 w5) := KB.out.trans KS5.out
        clear hc2 HCAP HNEXT HSQ1 HZS
        obtain ⟨-, g1⟩ := HWB.out _ KS5.out
        go_loopw [6, 10] (fun lv jv wr => ∃ (j k c : Nat) (a : Option Addr) (zs : List Int), lv = .slice a k c ∧ jv = .int .i64 (j : Int) ∧ j ≤ tn ∧ Hid (wr.ownsRow v3.heap.size 3 1 (.slice a k c) k (i64s zs)) ∧ Hid (∀ z ∈ zs, 0 ≤ z ∧ z ≤ 3000000) ∧ Hid (szl zs = c2 + (Img.flat (A.take (2 * j))).length) ∧ Hid (Keep64 v3.heap.size WB wr)) (fun _ jv _ => tn - (intOf jv).toNat)
        case atStart => exact ⟨0, k + 1, c5, a5, _, rfl, rfl, Nat.zero_le _, O5.out, Z5.out, by show _ = _; rw [S5.out]; simp [Img.flat], KS5.out⟩
        case round =>
          obtain ⟨j, k2, c2', a2, zs2, rfl, rfl, hj, HO2, HZ2, HQ2, HK2⟩ := hrel
          obtain ⟨-, g1⟩ := HWB.out _ HK2.out
          have KW2 : Hid (Keep64 v3.heap.size v3 wr) := KB.out.trans HK2.out
          have hkz : zs2.length = k2 := by have h := HO2.out.1; simpa [i64s] using h
          have hbz := szl_len zs2
          have hle0 := Img.flat_take_le A (2 * j)
          have hk9 : k2 ≤ 1100000 := by have h := HQ2.out; have h2 := HCAPH.out; omega
          clear hkz hbz hle0
          by_cases hlt2 : j < tn
          · obtain ⟨b2, o2, s1, t1, rfl, hb2, f1, f2, hs1, ht1, hg1⟩ := (HGD.out _ KW2.out).one j hlt2
            obtain ⟨sq, tq, hsq, htq, hl0, hl9, hs0, hs9, ht0, ht9, -, htk⟩ := HSTEP.out j hlt2 s1 t1 hg1
            have htq1 : t1 - (i : Int) = (tq : Int) + 1 := by omega
            have hji : (j : Int) < (tn : Int) := by omega
            have hsq9 : sq ≤ 1114111 := by omega
            have htq9 : tq ≤ 6001 := by omega
            have HQT : Hid (szl ((zs2 ++ [(tq : Int)]) ++ [(sq : Int)]) = c2 + (Img.flat (A.take (2 * (j + 1)))).length) := by
              show _ = _
              rw [szl_app, szl_app, szl_one, szl_one, HQ2.out, htk, Img.flat_app, List.length_append, Img.flat_cons, Img.flat_one, List.length_append, Int.toNat_natCast, Int.toNat_natCast]
              omega
            have HZT : Hid (∀ z ∈ (zs2 ++ [(tq : Int)]) ++ [(sq : Int)], 0 ≤ z ∧ z ≤ 3000000) := by
              intro z hz
              simp only [List.mem_append, List.mem_singleton] at hz
              rcases hz with (hz | rfl) | rfl
              · exact HZ2.out z hz
              · omega
              · omega
            have HWT : Hid (∀ z ∈ [(tq : Int)], (Lit.int .i64 z).wf = true) := by intro z hz; simp at hz; subst hz; exact WalkArith.wf_i64 ⟨by omega, by omega⟩
            have HWS : Hid (∀ z ∈ [(sq : Int)], (Lit.int .i64 z).wf = true) := by intro z hz; simp at hz; subst hz; exact WalkArith.wf_i64 ⟨by omega, by omega⟩
            have HSZ2 : Hid (v3.heap.size ≤ wr.heap.size) := Nat.le_trans ZB.out HK2.out.size
            clear htk ht1 hs1
            rcases Nat.eq_zero_or_pos j with hj0 | hjp
            · subst hj0
              obtain rfl : s1 = (sq : Int) := by have h := hsq; simp only [Img.lastAt] at h; omega
              simp only [Nat.zero_mul, Nat.add_zero] at f1 f2
              clear hsq hl0 hl9
              go_wp2_with (at_builtin; first | (refine append_i64_g (by rfl) (.tmp 67) (.tmp 77) (by rfl) v3.heap.size _ k2 zs2 (by rfl) (ownsRow_below HO2.out ((Below.refl wr.heap.size wr).alloc (Nat.le_refl _) _) (Nat.le_refl _)) (some ⟨wr.heap.size, 0, none⟩) 1 1 [(tq : Int)] (by rfl) (Sl.newI [(tq : Int)] HWT.out (by unfold maxLen; simp) rfl rfl rfl) (k2 + 1) rfl (by omega) (by have := HSZ2.out; simp; omega) ?_; intro a8 c8 w8 hown8 hk8; have O8 := Lib.hid hown8; have K8 : Hid (Keep64 v3.heap.size WB w8) := HK2.out.trans ((Keep64.alloc HSZ2.out _).trans hk8); have Z8 : Hid (v3.heap.size ≤ w8.heap.size) := Nat.le_trans ZB.out K8.out.size; clear hown8 hk8; have g8 := (HWB.out _ K8.out).2; obtain ⟨x8, y8, z8, m8, hx8, -, e8, -, -, -, hq8⟩ := (HGD.out _ (KB.out.trans K8.out)).one 0 hlt2; cases hx8; rw [hg1] at hq8; obtain ⟨hqa, hqb⟩ := Prod.mk.inj hq8; subst hqa hqb; simp only [Nat.zero_mul, Nat.add_zero] at e8) | (refine append_i64_g (by rfl) (.tmp 81) (.tmp 88) (by rfl) v3.heap.size _ (k2 + 1) (zs2 ++ [(tq : Int)]) (by rfl) (ownsRow_below O8.out ((Below.refl w8.heap.size w8).alloc (Nat.le_refl _) _) (Nat.le_refl _)) (some ⟨w8.heap.size, 0, none⟩) 1 1 [(sq : Int)] (by rfl) (Sl.newI [(sq : Int)] HWS.out (by unfold maxLen; simp) rfl rfl rfl) (k2 + 1 + 1) rfl (by omega) (by have := Z8.out; simp; omega) ?_; intro a9 c9 w9 hown9 hk9p; have O9 := Lib.hid hown9; have K9 : Hid (Keep64 v3.heap.size WB w9) := K8.out.trans ((Keep64.alloc Z8.out _).trans hk9p); clear hown9 hk9p))
              go_roundw
              case rel => exact ⟨0 + 1, k2 + 1 + 1, c9, a9, _, rfl, by go_num, by omega, O9.out, HZT.out, HQT.out, K9.out⟩
              case measure => simp [intOf]; omega
            · obtain ⟨mm, hmm⟩ : ∃ mm, j = mm + 1 := ⟨j - 1, by omega⟩
              obtain ⟨b3, o3, s2, t2, hba, hb3, f3, f4, -, -, hg2⟩ := (HGD.out _ KW2.out).one mm (by omega)
              cases hba
              have hla : Img.lastAt arcs j = s2 := by rw [hmm]; show (arcs.getD mm (0, 0)).1 = s2; rw [hg2]
              rw [hla] at hsq hl0 hl9
              have HSALL : Hid (∀ V, Keep64 v3.heap.size WB V → V.cell? ⟨G8, 1, none⟩ = some (.slice (some ⟨b2, o2, none⟩) tn tc) ∧ V.cell? ⟨b2, o2 + j * 2, none⟩ = some (.int .i64 s1) ∧ V.cell? ⟨b2, o2 + mm * 2, none⟩ = some (.int .i64 s2)) := by
                intro V hV
                obtain ⟨x8, y8, z8, m8, hx8, -, e8, -, -, -, hq8⟩ := (HGD.out _ (KB.out.trans hV)).one j hlt2
                cases hx8
                rw [hg1] at hq8
                cases hq8
                obtain ⟨x9, y9, z9, m9, hx9, -, e9, -, -, -, hq9⟩ := (HGD.out _ (KB.out.trans hV)).one mm (by omega)
                cases hx9
                rw [hg2] at hq9
                cases hq9
                exact ⟨(HWB.out V hV).2, e8, e9⟩
              have hj1 : (j : Int) - 1 = (mm : Int) := by omega
              have hjz : ((j : Int) == 0) = false := by simp; omega
              have hjz2 : ¬ (j : Int) = 0 := by omega
              have hmt : (mm : Int) < (tn : Int) := by omega
              have hjw : IntKind.i64.wrap (mm : Int) = (mm : Int) := Img.wrap_small (by omega)
              have hvv : IntKind.i64.wrap (IntKind.i64.wrap (s1 - s2) - 1) = (sq : Int) := by
                rw [Img.wrap_small (x := s1 - s2) (by omega), Img.wrap_small (by omega)]
                exact hsq
              have HVV := Lib.hid hvv
              clear hmm hla hg2 hsq hl0 hl9
              go_wp2_with (at_builtin; refine append_i64_g (by rfl) (.tmp 67) (.tmp 77) (by rfl) v3.heap.size _ k2 zs2 (by rfl) (ownsRow_below HO2.out ((Below.refl wr.heap.size wr).alloc (Nat.le_refl _) _) (Nat.le_refl _)) (some ⟨wr.heap.size, 0, none⟩) 1 1 [(tq : Int)] (by rfl) (Sl.newI [(tq : Int)] HWT.out (by unfold maxLen; simp) rfl rfl rfl) (k2 + 1) rfl (by omega) (by have := HSZ2.out; simp; omega) ?_; intro a8 c8 w8 hown8 hk8; have O8 := Lib.hid hown8; have K8 : Hid (Keep64 v3.heap.size WB w8) := HK2.out.trans ((Keep64.alloc HSZ2.out _).trans hk8); have Z8 : Hid (v3.heap.size ≤ w8.heap.size) := Nat.le_trans ZB.out K8.out.size; clear hown8 hk8; have hS8 := HSALL.out _ K8.out)
              have KD8 : Hid (Keep64 v3.heap.size WB w8.drew) := K8.out.drew
              have hSD := HSALL.out _ KD8.out
              refine wp_region_held_drew (S := (fun V => V.cell? ⟨G8, 1, none⟩ = some (.slice (some ⟨b2, o2, none⟩) tn tc) ∧ V.cell? ⟨b2, o2 + j * 2, none⟩ = some (.int .i64 s1) ∧ V.cell? ⟨b2, o2 + mm * 2, none⟩ = some (.int .i64 s2))) (by kernel_rfl) (by first | (first | exact hS9 | exact hSD | exact HSALL.out _ (K8.out.trans (Keep64.alloc Z8.out _).drew)) | ((try dsimp only); first | exact hS9 | exact hSD | exact HSALL.out _ (K8.out.trans (Keep64.alloc Z8.out _).drew))) (fun hHeld => ?_)
              refine wpAnyH_take (i := 0) (v := ?vb1) rfl (by kernel_rfl) (by kernel_rfl) (by kernel_rfl) (fun _ _ _ h => h) (Or.inl ⟨by rfl, ?hb1⟩) (by assumption) ?rb1
              case hb1 => intro w hSw; (try dsimp only at hSw); go_simp; try with_reducible rfl
              simp only [Act.put, List.getElem_toArray, List.getElem_cons_succ, List.getElem_cons_zero, List.setIfInBounds_toArray, List.set_cons_succ, List.set_cons_zero]
              refine wpAnyH_take (i := 1) (v := ?vb4) rfl (by kernel_rfl) (by kernel_rfl) (by kernel_rfl) (fun _ _ _ h => h) (Or.inl ⟨by rfl, ?hb4⟩) (by assumption) ?rb4
              case hb4 => intro w hSw; (try dsimp only at hSw); go_simp; try with_reducible rfl
              simp only [Act.put, List.getElem_toArray, List.getElem_cons_succ, List.getElem_cons_zero, List.setIfInBounds_toArray, List.set_cons_succ, List.set_cons_zero]
              refine wpAnyH_take (i := 2) (v := ?vb7) rfl (by kernel_rfl) (by kernel_rfl) (by kernel_rfl) (fun _ _ _ h => h) (Or.inl ⟨by rfl, ?hb7⟩) (by assumption) ?rb7
              case hb7 => intro w hSw; (try dsimp only at hSw); go_simp; try with_reducible rfl
              simp only [Act.put, List.getElem_toArray, List.getElem_cons_succ, List.getElem_cons_zero, List.setIfInBounds_toArray, List.set_cons_succ, List.set_cons_zero]
              refine wpAnyH_take (i := 3) (v := ?vb10) rfl (by kernel_rfl) (by kernel_rfl) (by kernel_rfl) (fun _ _ _ h => h) (Or.inl ⟨by rfl, ?hb10⟩) (by assumption) ?rb10
              case hb10 => intro w hSw; (try dsimp only at hSw); go_simp; try with_reducible rfl
              simp only [Act.put, List.getElem_toArray, List.getElem_cons_succ, List.getElem_cons_zero, List.setIfInBounds_toArray, List.set_cons_succ, List.set_cons_zero]
              refine wpAnyH_take (i := 4) (v := ?vb13) rfl (by kernel_rfl) (by kernel_rfl) (by kernel_rfl) (fun _ _ _ h => h) (Or.inl ⟨by rfl, ?hb13⟩) (by assumption) ?rb13
              case hb13 => intro w hSw; (try dsimp only at hSw); go_simp; try with_reducible rfl
              simp only [Act.put, List.getElem_toArray, List.getElem_cons_succ, List.getElem_cons_zero, List.setIfInBounds_toArray, List.set_cons_succ, List.set_cons_zero]
              refine wpAnyH_take (i := 5) (v := ?vb16) rfl (by kernel_rfl) (by kernel_rfl) (by kernel_rfl) (fun _ _ _ h => h) (Or.inl ⟨by rfl, ?hb16⟩) (by assumption) ?rb16
              case hb16 => intro w hSw; (try dsimp only at hSw); go_simp; try with_reducible rfl
              simp only [Act.put, List.getElem_toArray, List.getElem_cons_succ, List.getElem_cons_zero, List.setIfInBounds_toArray, List.set_cons_succ, List.set_cons_zero]
              refine wpAnyH_take (i := 6) (v := ?vb19) rfl (by kernel_rfl) (by kernel_rfl) (by kernel_rfl) (fun _ _ _ h => h) (Or.inl ⟨by rfl, ?hb19⟩) (by assumption) ?rb19
              case hb19 => intro w hSw; (try dsimp only at hSw); go_simp; try with_reducible rfl
              simp only [Act.put, List.getElem_toArray, List.getElem_cons_succ, List.getElem_cons_zero, List.setIfInBounds_toArray, List.set_cons_succ, List.set_cons_zero]
              refine wpAnyH_take (i := 7) (v := ?vb22) rfl (by kernel_rfl) (by kernel_rfl) (by kernel_rfl) (fun _ _ _ h => h) (Or.inl ⟨by rfl, ?hb22⟩) (by assumption) ?rb22
              case hb22 => intro w hSw; (try dsimp only at hSw); go_simp; try with_reducible rfl
              simp only [Act.put, List.getElem_toArray, List.getElem_cons_succ, List.getElem_cons_zero, List.setIfInBounds_toArray, List.set_cons_succ, List.set_cons_zero]
              refine wpAnyH_take (i := 8) (v := ?vb25) rfl (by kernel_rfl) (by kernel_rfl) (by kernel_rfl) (fun _ _ _ h => h) (Or.inl ⟨by rfl, ?hb25⟩) (by assumption) ?rb25
              case hb25 => intro w hSw; (try dsimp only at hSw); go_simp; try with_reducible rfl
              simp only [Act.put, List.getElem_toArray, List.getElem_cons_succ, List.getElem_cons_zero, List.setIfInBounds_toArray, List.set_cons_succ, List.set_cons_zero]
              refine wpAnyH_take (i := 9) (v := ?vb28) rfl (by kernel_rfl) (by kernel_rfl) (by kernel_rfl) (fun _ _ _ h => h) (Or.inl ⟨by rfl, ?hb28⟩) (by assumption) ?rb28
              case hb28 => intro w hSw; (try dsimp only at hSw); go_simp; try with_reducible rfl
              simp only [Act.put, List.getElem_toArray, List.getElem_cons_succ, List.getElem_cons_zero, List.setIfInBounds_toArray, List.set_cons_succ, List.set_cons_zero]
              refine wpAnyH_take (i := 10) (v := ?vb31) rfl (by kernel_rfl) (by kernel_rfl) (by kernel_rfl) (fun _ _ _ h => h) (Or.inl ⟨by rfl, ?hb31⟩) (by assumption) ?rb31
              case hb31 => intro w hSw; (try dsimp only at hSw); go_simp; try with_reducible rfl
              simp only [Act.put, List.getElem_toArray, List.getElem_cons_succ, List.getElem_cons_zero, List.setIfInBounds_toArray, List.set_cons_succ, List.set_cons_zero]
              refine wpAnyH_take (i := 11) (v := ?vb34) rfl (by kernel_rfl) (by kernel_rfl) (by kernel_rfl) (fun _ _ _ h => h) (Or.inl ⟨by rfl, ?hb34⟩) (by assumption) ?rb34
              case hb34 => intro w hSw; (try dsimp only at hSw); go_simp; try with_reducible rfl
              simp only [Act.put, List.getElem_toArray, List.getElem_cons_succ, List.getElem_cons_zero, List.setIfInBounds_toArray, List.set_cons_succ, List.set_cons_zero]
              refine wpAnyH_take (i := 12) (v := ?vb37) rfl (by kernel_rfl) (by kernel_rfl) (by kernel_rfl) (fun _ _ _ h => h) (Or.inl ⟨by rfl, ?hb37⟩) (by assumption) ?rb37
              case hb37 => intro w hSw; (try dsimp only at hSw); go_simp; try with_reducible rfl
              simp only [Act.put, List.getElem_toArray, List.getElem_cons_succ, List.getElem_cons_zero, List.setIfInBounds_toArray, List.set_cons_succ, List.set_cons_zero]
              refine wpAnyH_take (i := 13) (v := ?vb40) rfl (by kernel_rfl) (by kernel_rfl) (by kernel_rfl) (fun _ _ _ h => h) (Or.inl ⟨by rfl, ?hb40⟩) (by assumption) ?rb40
              case hb40 => intro w hSw; (try dsimp only at hSw); go_simp; try with_reducible rfl
              simp only [Act.put, List.getElem_toArray, List.getElem_cons_succ, List.getElem_cons_zero, List.setIfInBounds_toArray, List.set_cons_succ, List.set_cons_zero]
              refine wpAnyH_take (i := 14) (v := ?vb43) rfl (by kernel_rfl) (by kernel_rfl) (by kernel_rfl) (fun _ _ _ h => h) (Or.inl ⟨by rfl, ?hb43⟩) (by assumption) ?rb43
              case hb43 => intro w hSw; (try dsimp only at hSw); go_simp; try with_reducible rfl
              simp only [Act.put, List.getElem_toArray, List.getElem_cons_succ, List.getElem_cons_zero, List.setIfInBounds_toArray, List.set_cons_succ, List.set_cons_zero]
              refine wpAnyH_take (i := 15) (v := ?vb46) rfl (by kernel_rfl) (by kernel_rfl) (by kernel_rfl) (fun _ _ _ h => h) (Or.inl ⟨by rfl, ?hb46⟩) (by assumption) ?rb46
              case hb46 => intro w hSw; (try dsimp only at hSw); go_simp; try with_reducible rfl
              simp only [Act.put, List.getElem_toArray, List.getElem_cons_succ, List.getElem_cons_zero, List.setIfInBounds_toArray, List.set_cons_succ, List.set_cons_zero]
              refine wpAnyH_ready (rs := [16]) (by kernel_rfl) (by simp) ?_
              refine AllReadyH.cons rfl (fun K hK => ?_) AllReadyH.nil
              go_simp
              refine hK.out _ _ (by first | (first | exact hS9 | exact hSD | exact HSALL.out _ (K8.out.trans (Keep64.alloc Z8.out _).drew)) | ((try dsimp only); first | exact hS9 | exact hSD | exact HSALL.out _ (K8.out.trans (Keep64.alloc Z8.out _).drew))) (fun hHeld => ?_)
              clear hK K
              try simp only [Act.put, List.getElem_toArray, List.getElem_cons_succ, List.getElem_cons_zero, List.setIfInBounds_toArray, List.set_cons_succ, List.set_cons_zero]
              refine wpAnyH_ready (rs := [17]) (by kernel_rfl) (by simp) ?_
              refine AllReadyH.cons rfl (fun K hK => ?_) AllReadyH.nil
              try rw [HVV.out]
              refine step_append_i64_g (by rfl) (.tmp 90) (.tmp 106) (by rfl) v3.heap.size _ (k2 + 1) (zs2 ++ [(tq : Int)]) (by rfl) (ownsRow_below (show w8.drew.ownsRow _ _ _ _ _ _ from O8.out) ((Below.refl w8.drew.heap.size w8.drew).alloc (Nat.le_refl _) _) (Nat.le_refl _)) (some ⟨w8.heap.size, 0, none⟩) 1 1 [(sq : Int)] (by rfl) (Sl.newI (w := w8.drew) [(sq : Int)] HWS.out (by unfold maxLen; simp) rfl rfl rfl) (k2 + 1 + 1) rfl (by omega) (by have := Z8.out; simp; omega) ?_
              intro a9 c9 w9 hown9 hk9p
              have O9 := Lib.hid hown9
              have K9 : Hid (Keep64 v3.heap.size WB w9) := K8.out.trans ((Keep64.alloc Z8.out _).drew.trans hk9p)
              have hS9 := HSALL.out _ K9.out
              clear hown9 hk9p
              refine hK.out _ _ (by first | (first | exact hS9 | exact hSD | exact HSALL.out _ (K8.out.trans (Keep64.alloc Z8.out _).drew)) | ((try dsimp only); first | exact hS9 | exact hSD | exact HSALL.out _ (K8.out.trans (Keep64.alloc Z8.out _).drew))) (fun hHeld => ?_)
              clear hK K
              try simp only [Act.put, List.getElem_toArray, List.getElem_cons_succ, List.getElem_cons_zero, List.setIfInBounds_toArray, List.set_cons_succ, List.set_cons_zero]
              refine wpAnyH_take (i := 18) (v := ?vb67) rfl (by kernel_rfl) (by kernel_rfl) (by kernel_rfl) (fun _ _ _ h => h) (Or.inl ⟨by rfl, ?hb67⟩) (by assumption) ?rb67
              case hb67 => intro w hSw; (try dsimp only at hSw); go_simp; try with_reducible rfl
              simp only [Act.put, List.getElem_toArray, List.getElem_cons_succ, List.getElem_cons_zero, List.setIfInBounds_toArray, List.set_cons_succ, List.set_cons_zero]
              refine wpAnyH_done (by kernel_rfl) ?_ _
              go_wp2
              go_roundw
              case rel => exact ⟨j + 1, k2 + 1 + 1, c9, a9, _, rfl, by go_num, by omega, O9.out, HZT.out, HQT.out, K9.out⟩
              case measure => simp [intOf]; omega
  
          · obtain rfl : j = tn := by omega
            have HXF : Hid (szl zs2 = c0 + (Img.flat (Img.stsNums 0 ((sts xs).take (i + 1)))).length) := by
              show _ = _
              rw [HNXH.out]
              have h := HQ2.out
              rwa [HAL.out] at h
            clear HQ2
            go_wp2
            go_roundw
            case rel => exact ⟨i + 1, k2, c2', a2, zs2, rfl, by go_num, by omega, HO2.out, HZ2.out, HXF.out, KW2.out⟩
            case measure => simp [intOf]; omega
    · obtain rfl : sn = i := by omega
      have htk : (sts xs).take sn = sts xs := List.take_of_length_le (by rw [sts_length, HLX.out]; exact Nat.le_refl _)
      have HSF : Hid (szl zs = c0 + SS) := by
        show _ = _
        have h := HSQ.out
        rw [htk, ← HSS.out] at h
        exact h
      clear htk HSQ
      have HSZR : Hid (v3.heap.size ≤ wr.heap.size) := HK.out.size
      obtain ⟨G11, hG11⟩ : ∃ g, g = wr.heap.size := ⟨_, rfl⟩
      obtain ⟨WC, hWC⟩ : ∃ WC, WC = wr.alloc (.cells #[.int .u64 (m : Int), .int .u64 (l : Int), .int .u64 (o : Int), .int .u64 (t : Int), .slice ra rn rcap] 26) := ⟨_, rfl⟩
      have KC : Hid (Keep64 v3.heap.size v3 WC) := by rw [hWC]; exact HK.out.trans (Keep64.alloc HSZR.out _)
      have ZC : Hid (v3.heap.size ≤ WC.heap.size) := KC.out.size
      have HWC : Hid (∀ V, Keep64 v3.heap.size WC V → V.cell? ⟨G11, 0, none⟩ = some (.int .u64 (m : Int)) ∧ V.cell? ⟨G11, 1, none⟩ = some (.int .u64 (l : Int)) ∧ V.cell? ⟨G11, 2, none⟩ = some (.int .u64 (o : Int)) ∧ V.cell? ⟨G11, 3, none⟩ = some (.int .u64 (t : Int)) ∧ V.cell? ⟨G11, 4, none⟩ = some (.slice ra rn rcap)) := by
        intro V hV
        rw [hWC] at hV
        rw [hG11]
        exact ⟨hV.cell (heap_alloc_new wr _) (by decide), hV.cell (heap_alloc_new wr _) (by decide), hV.cell (heap_alloc_new wr _) (by decide), hV.cell (heap_alloc_new wr _) (by decide), hV.cell (heap_alloc_new wr _) (by decide)⟩
      have OC : Hid (WC.ownsRow v3.heap.size 3 1 (.slice a k c) k (i64s zs)) := by rw [hWC]; exact ownsRow_below HO.out ((Below.refl _ wr).alloc (Nat.le_refl _) _) (Nat.le_refl _)
      have HZM : Hid (∀ V : World, Calls Try.prog 16 #[.int .u64 (m : Int)] V fun e w' => e = .returned (.int .i64 (zm : Int)) ∧ Below V.heap.size V w') := fun V => size_is m zm H9.out.1 HZ4.out.1 V
      have HZL : Hid (∀ V : World, Calls Try.prog 16 #[.int .u64 (l : Int)] V fun e w' => e = .returned (.int .i64 (zl : Int)) ∧ Below V.heap.size V w') := fun V => size_is l zl H9.out.2.1 HZ4.out.2.1 V
      have HZO : Hid (∀ V : World, Calls Try.prog 16 #[.int .u64 (o : Int)] V fun e w' => e = .returned (.int .i64 (zo : Int)) ∧ Below V.heap.size V w') := fun V => size_is o zo H9.out.2.2.1 HZ4.out.2.2.1 V
      have HZT : Hid (∀ V : World, Calls Try.prog 16 #[.int .u64 (t : Int)] V fun e w' => e = .returned (.int .i64 (zt : Int)) ∧ Below V.heap.size V w') := fun V => size_is t zt H9.out.2.2.2 HZ4.out.2.2.2 V
      obtain ⟨n0, hn0⟩ : ∃ n0, n0 = 4 + zm + zl + zo + zt := ⟨_, rfl⟩
      have HN0 := Lib.hid hn0
      have hn09 : n0 ≤ 1100000 := by omega
      have hsum : IntKind.i64.wrap (IntKind.i64.wrap (IntKind.i64.wrap (IntKind.i64.wrap (4 + (zm : Int)) + (zl : Int)) + (zo : Int)) + (zt : Int)) = (n0 : Int) := by
        rw [Img.wrap_small (x := 4 + (zm : Int)) (by omega), Img.wrap_small (x := 4 + (zm : Int) + (zl : Int)) (by omega), Img.wrap_small (x := 4 + (zm : Int) + (zl : Int) + (zo : Int)) (by omega), Img.wrap_small (by omega)]
        omega
      have HSUM := Lib.hid hsum
      have hWG : wr.alloc (.cells #[.int .u64 (m : Int), .int .u64 (l : Int), .int .u64 (o : Int), .int .u64 (t : Int), .slice ra rn rcap] 26) = WC := hWC.symm
      have HWGC := Lib.hid hWG
      have HG11 := Lib.hid hG11
      have KD0 : Hid (Keep64 v3.heap.size WC WC.drew) := (Keep64.refl _ WC).drew
      have OD0 : Hid (WC.drew.ownsRow v3.heap.size 3 1 (.slice a k c) k (i64s zs)) := OC.out
      clear hn0 hsum hWC hWG hG11 HO OC
      go_wp2
      rw [HWGC.out, ← HG11.out]
      refine wp_region_held_drew (S := (fun V => V.cell? ⟨G11, 0, none⟩ = some (.int .u64 (m : Int)) ∧ V.cell? ⟨G11, 1, none⟩ = some (.int .u64 (l : Int)) ∧ V.cell? ⟨G11, 2, none⟩ = some (.int .u64 (o : Int)) ∧ V.cell? ⟨G11, 3, none⟩ = some (.int .u64 (t : Int)) ∧ V.cell? ⟨G11, 4, none⟩ = some (.slice ra rn rcap))) (by kernel_rfl) (by first | (first | exact CD4 | exact CD3 | exact CD2 | exact CD1 | exact HWC.out _ KD0.out) | ((try dsimp only); first | exact CD4 | exact CD3 | exact CD2 | exact CD1 | exact HWC.out _ KD0.out)) (fun hHeld => ?_)
      refine wpAnyH_take (i := 0) (v := ?vq1) rfl (by kernel_rfl) (by kernel_rfl) (by kernel_rfl) (fun _ _ _ h => h) (Or.inl ⟨by rfl, ?hq1⟩) (by assumption) ?rq1
      case hq1 => intro w hSw; (try dsimp only at hSw); go_simp; try with_reducible rfl
      simp only [Act.put, List.getElem_toArray, List.getElem_cons_succ, List.getElem_cons_zero, List.setIfInBounds_toArray, List.set_cons_succ, List.set_cons_zero]
      refine wpAnyH_take (i := 1) (v := ?vq4) rfl (by kernel_rfl) (by kernel_rfl) (by kernel_rfl) (fun _ _ _ h => h) (Or.inl ⟨by rfl, ?hq4⟩) (by assumption) ?rq4
      case hq4 => intro w hSw; (try dsimp only at hSw); go_simp; try with_reducible rfl
      simp only [Act.put, List.getElem_toArray, List.getElem_cons_succ, List.getElem_cons_zero, List.setIfInBounds_toArray, List.set_cons_succ, List.set_cons_zero]
      refine wpAnyH_take (i := 4) (v := ?vq7) rfl (by kernel_rfl) (by kernel_rfl) (by kernel_rfl) (fun _ _ _ h => h) (Or.inl ⟨by rfl, ?hq7⟩) (by assumption) ?rq7
      case hq7 => intro w hSw; (try dsimp only at hSw); go_simp; try with_reducible rfl
      simp only [Act.put, List.getElem_toArray, List.getElem_cons_succ, List.getElem_cons_zero, List.setIfInBounds_toArray, List.set_cons_succ, List.set_cons_zero]
      refine wpAnyH_take (i := 5) (v := ?vq10) rfl (by kernel_rfl) (by kernel_rfl) (by kernel_rfl) (fun _ _ _ h => h) (Or.inl ⟨by rfl, ?hq10⟩) (by assumption) ?rq10
      case hq10 => intro w hSw; (try dsimp only at hSw); go_simp; try with_reducible rfl
      simp only [Act.put, List.getElem_toArray, List.getElem_cons_succ, List.getElem_cons_zero, List.setIfInBounds_toArray, List.set_cons_succ, List.set_cons_zero]
      refine wpAnyH_take (i := 8) (v := ?vq13) rfl (by kernel_rfl) (by kernel_rfl) (by kernel_rfl) (fun _ _ _ h => h) (Or.inl ⟨by rfl, ?hq13⟩) (by assumption) ?rq13
      case hq13 => intro w hSw; (try dsimp only at hSw); go_simp; try with_reducible rfl
      simp only [Act.put, List.getElem_toArray, List.getElem_cons_succ, List.getElem_cons_zero, List.setIfInBounds_toArray, List.set_cons_succ, List.set_cons_zero]
      refine wpAnyH_take (i := 9) (v := ?vq16) rfl (by kernel_rfl) (by kernel_rfl) (by kernel_rfl) (fun _ _ _ h => h) (Or.inl ⟨by rfl, ?hq16⟩) (by assumption) ?rq16
      case hq16 => intro w hSw; (try dsimp only at hSw); go_simp; try with_reducible rfl
      simp only [Act.put, List.getElem_toArray, List.getElem_cons_succ, List.getElem_cons_zero, List.setIfInBounds_toArray, List.set_cons_succ, List.set_cons_zero]
      refine wpAnyH_take (i := 12) (v := ?vq19) rfl (by kernel_rfl) (by kernel_rfl) (by kernel_rfl) (fun _ _ _ h => h) (Or.inl ⟨by rfl, ?hq19⟩) (by assumption) ?rq19
      case hq19 => intro w hSw; (try dsimp only at hSw); go_simp; try with_reducible rfl
      simp only [Act.put, List.getElem_toArray, List.getElem_cons_succ, List.getElem_cons_zero, List.setIfInBounds_toArray, List.set_cons_succ, List.set_cons_zero]
      refine wpAnyH_take (i := 13) (v := ?vq22) rfl (by kernel_rfl) (by kernel_rfl) (by kernel_rfl) (fun _ _ _ h => h) (Or.inl ⟨by rfl, ?hq22⟩) (by assumption) ?rq22
      case hq22 => intro w hSw; (try dsimp only at hSw); go_simp; try with_reducible rfl
      simp only [Act.put, List.getElem_toArray, List.getElem_cons_succ, List.getElem_cons_zero, List.setIfInBounds_toArray, List.set_cons_succ, List.set_cons_zero]
      refine wpAnyH_ready (rs := [2]) (by kernel_rfl) (by simp) ?_
      refine AllReadyH.cons rfl (fun K hK => ?_) AllReadyH.nil
      go_simp
      refine (HZM.out _).mono ?_
      rintro e y1 ⟨rfl, hb1⟩
      have KD1 : Hid (Keep64 v3.heap.size WC y1) := KD0.out.trans (Keep64.of_below hb1 (Nat.le_trans ZC.out KD0.out.size))
      have OD1 : Hid (y1.ownsRow v3.heap.size 3 1 (.slice a k c) k (i64s zs)) := ownsRow_below OD0.out hb1 (Nat.le_refl _)
      have CD1 := HWC.out _ KD1.out
      clear hb1
      refine hK.out _ _ (by first | (first | exact CD4 | exact CD3 | exact CD2 | exact CD1 | exact HWC.out _ KD0.out) | ((try dsimp only); first | exact CD4 | exact CD3 | exact CD2 | exact CD1 | exact HWC.out _ KD0.out)) (fun hHeld => ?_)
      clear hK K
      try simp only [Act.put, List.getElem_toArray, List.getElem_cons_succ, List.getElem_cons_zero, List.setIfInBounds_toArray, List.set_cons_succ, List.set_cons_zero]
      refine wpAnyH_take (i := 3) (v := ?vq37) rfl (by kernel_rfl) (by kernel_rfl) (by kernel_rfl) (fun _ _ _ h => h) (Or.inl ⟨by rfl, ?hq37⟩) (by assumption) ?rq37
      case hq37 => intro w hSw; (try dsimp only at hSw); go_simp; try with_reducible rfl
      simp only [Act.put, List.getElem_toArray, List.getElem_cons_succ, List.getElem_cons_zero, List.setIfInBounds_toArray, List.set_cons_succ, List.set_cons_zero]
      refine wpAnyH_ready (rs := [6]) (by kernel_rfl) (by simp) ?_
      refine AllReadyH.cons rfl (fun K hK => ?_) AllReadyH.nil
      go_simp
      refine (HZL.out _).mono ?_
      rintro e y2 ⟨rfl, hb2⟩
      have KD2 : Hid (Keep64 v3.heap.size WC y2) := KD1.out.trans (Keep64.of_below hb2 (Nat.le_trans ZC.out KD1.out.size))
      have OD2 : Hid (y2.ownsRow v3.heap.size 3 1 (.slice a k c) k (i64s zs)) := ownsRow_below OD1.out hb2 (Nat.le_refl _)
      have CD2 := HWC.out _ KD2.out
      clear hb2
      refine hK.out _ _ (by first | (first | exact CD4 | exact CD3 | exact CD2 | exact CD1 | exact HWC.out _ KD0.out) | ((try dsimp only); first | exact CD4 | exact CD3 | exact CD2 | exact CD1 | exact HWC.out _ KD0.out)) (fun hHeld => ?_)
      clear hK K
      try simp only [Act.put, List.getElem_toArray, List.getElem_cons_succ, List.getElem_cons_zero, List.setIfInBounds_toArray, List.set_cons_succ, List.set_cons_zero]
      refine wpAnyH_take (i := 7) (v := ?vq52) rfl (by kernel_rfl) (by kernel_rfl) (by kernel_rfl) (fun _ _ _ h => h) (Or.inl ⟨by rfl, ?hq52⟩) (by assumption) ?rq52
      case hq52 => intro w hSw; (try dsimp only at hSw); go_simp; try with_reducible rfl
      simp only [Act.put, List.getElem_toArray, List.getElem_cons_succ, List.getElem_cons_zero, List.setIfInBounds_toArray, List.set_cons_succ, List.set_cons_zero]
      refine wpAnyH_ready (rs := [10]) (by kernel_rfl) (by simp) ?_
      refine AllReadyH.cons rfl (fun K hK => ?_) AllReadyH.nil
      go_simp
      refine (HZO.out _).mono ?_
      rintro e y3 ⟨rfl, hb3⟩
      have KD3 : Hid (Keep64 v3.heap.size WC y3) := KD2.out.trans (Keep64.of_below hb3 (Nat.le_trans ZC.out KD2.out.size))
      have OD3 : Hid (y3.ownsRow v3.heap.size 3 1 (.slice a k c) k (i64s zs)) := ownsRow_below OD2.out hb3 (Nat.le_refl _)
      have CD3 := HWC.out _ KD3.out
      clear hb3
      refine hK.out _ _ (by first | (first | exact CD4 | exact CD3 | exact CD2 | exact CD1 | exact HWC.out _ KD0.out) | ((try dsimp only); first | exact CD4 | exact CD3 | exact CD2 | exact CD1 | exact HWC.out _ KD0.out)) (fun hHeld => ?_)
      clear hK K
      try simp only [Act.put, List.getElem_toArray, List.getElem_cons_succ, List.getElem_cons_zero, List.setIfInBounds_toArray, List.set_cons_succ, List.set_cons_zero]
      refine wpAnyH_take (i := 11) (v := ?vq67) rfl (by kernel_rfl) (by kernel_rfl) (by kernel_rfl) (fun _ _ _ h => h) (Or.inl ⟨by rfl, ?hq67⟩) (by assumption) ?rq67
      case hq67 => intro w hSw; (try dsimp only at hSw); go_simp; try with_reducible rfl
      simp only [Act.put, List.getElem_toArray, List.getElem_cons_succ, List.getElem_cons_zero, List.setIfInBounds_toArray, List.set_cons_succ, List.set_cons_zero]
      refine wpAnyH_ready (rs := [14]) (by kernel_rfl) (by simp) ?_
      refine AllReadyH.cons rfl (fun K hK => ?_) AllReadyH.nil
      go_simp
      refine (HZT.out _).mono ?_
      rintro e y4 ⟨rfl, hb4⟩
      have KD4 : Hid (Keep64 v3.heap.size WC y4) := KD3.out.trans (Keep64.of_below hb4 (Nat.le_trans ZC.out KD3.out.size))
      have OD4 : Hid (y4.ownsRow v3.heap.size 3 1 (.slice a k c) k (i64s zs)) := ownsRow_below OD3.out hb4 (Nat.le_refl _)
      have CD4 := HWC.out _ KD4.out
      clear hb4
      refine hK.out _ _ (by first | (first | exact CD4 | exact CD3 | exact CD2 | exact CD1 | exact HWC.out _ KD0.out) | ((try dsimp only); first | exact CD4 | exact CD3 | exact CD2 | exact CD1 | exact HWC.out _ KD0.out)) (fun hHeld => ?_)
      clear hK K
      try simp only [Act.put, List.getElem_toArray, List.getElem_cons_succ, List.getElem_cons_zero, List.setIfInBounds_toArray, List.set_cons_succ, List.set_cons_zero]
      refine wpAnyH_take (i := 15) (v := ?vq82) rfl (by kernel_rfl) (by kernel_rfl) (by kernel_rfl) (fun _ _ _ h => h) (Or.inl ⟨by rfl, ?hq82⟩) (by assumption) ?rq82
      case hq82 => intro w hSw; (try dsimp only at hSw); go_simp; try with_reducible rfl
      simp only [Act.put, List.getElem_toArray, List.getElem_cons_succ, List.getElem_cons_zero, List.setIfInBounds_toArray, List.set_cons_succ, List.set_cons_zero]
      refine wpAnyH_take (i := 16) (v := ?vq85) rfl (by kernel_rfl) (by kernel_rfl) (by kernel_rfl) (fun _ _ _ h => h) (Or.inl ⟨by rfl, ?hq85⟩) (by assumption) ?rq85
      case hq85 => intro w hSw; (try dsimp only at hSw); go_simp; try with_reducible rfl
      simp only [Act.put, List.getElem_toArray, List.getElem_cons_succ, List.getElem_cons_zero, List.setIfInBounds_toArray, List.set_cons_succ, List.set_cons_zero]
      refine wpAnyH_done (by kernel_rfl) ?_ _
      rw [HSUM.out]
      clear CD1 CD2 CD3 CD4 KD0 KD1 KD2 KD3 OD0 OD1 OD2 OD3 HZM HZL HZO HZT
      go_wp2
      obtain ⟨r0, r1, r2, r3, r4⟩ := HWC.out _ KD4.out
      go_loopw [6, 12, 13] (fun lv nv iv wr => ∃ (i k c n : Nat) (a : Option Addr) (zs : List Int), lv = .slice a k c ∧ nv = .int .i64 (n : Int) ∧ iv = .int .i64 (i : Int) ∧ i ≤ rn ∧ Hid (wr.ownsRow v3.heap.size 3 1 (.slice a k c) k (i64s zs)) ∧ Hid (∀ z ∈ zs, 0 ≤ z ∧ z ≤ 3000000) ∧ Hid (szl zs + n = c0 + SS + n0 + (Img.flat (Img.rulesNums ((ruls rs).take i))).length) ∧ Hid (Keep64 v3.heap.size WC wr)) (fun _ _ iv _ => rn - (intOf iv).toNat)
      case atStart => exact ⟨0, k, c, n0, a, zs, rfl, rfl, rfl, Nat.zero_le _, OD4.out, HZS.out, by show _ = _; rw [HSF.out]; simp [Img.flat, Img.rulesNums], KD4.out⟩
      case round =>
        obtain ⟨i, k, c, n, a, zs, rfl, rfl, rfl, hi, HO, HZS, HSQ, HK⟩ := hrel
        obtain ⟨r0, r1, r2, r3, r4⟩ := HWC.out _ HK.out
        have KW : Hid (Keep64 v3.heap.size v3 wr) := KC.out.trans HK.out
        have hkz : zs.length = k := by have h := HO.out.1; simpa [i64s] using h
        have hbz := szl_len zs
        have hle0 : (Img.flat (Img.rulesNums ((ruls rs).take i))).length ≤ SR := by
          rw [HSR.out]
          have h := rulesNums_leP (l := ruls rs) i []
          simpa using h
        have hn0E := HN0.out
        have hsqe := HSQ.out
        have hk9 : k ≤ 1100000 := by omega
        have hn9 : n ≤ 1100000 := by omega
        clear hkz hbz hle0 hn0E hsqe
        by_cases hlt : i < rn
        · obtain ⟨rb, ro, la, ln, lc, L, qa, qn, qc, R, C, rfl, hrb, e1, e2, e3, hsL, hsR, hC0, hC9, hg⟩ := (HXW.out _ KW.out).2.one i hlt
          have hat : (ruls rs).getD i Rul.no = ⟨L, R, C⟩ := by rw [ruls_at, hg]; rfl
          have hnx := rulesNums_nextP (by rw [ruls_length, HLR.out]; exact hlt) _ hat
          have hfit := Img.fit_rule (HFIT.out ⟨L, R, C⟩ (by rw [← hat]; rw [show (ruls rs).getD i Rul.no = (ruls rs)[i]'(by rw [ruls_length, HLR.out]; exact hlt) from by simp [ruls_length, HLR.out, hlt]]; exact List.getElem_mem _))
          have HFL := Lib.hid (Img.side_small hfit.1)
          have HFR := Lib.hid (Img.side_small hfit.2.1)
          have hln8 : ln ≤ 8 := by rw [← hsL.1]; exact hfit.2.2.1
          have hqn8 : qn ≤ 8 := by rw [← hsR.1]; exact hfit.2.2.2.1
          have HLL : Hid (L.length = ln) := hsL.1
          have HLQ : Hid (R.length = qn) := hsR.1
          obtain ⟨C, rfl⟩ : ∃ m : Nat, C = (m : Int) := ⟨C.toNat, by omega⟩
          have hC9' : C < 18446744073709551616 := by omega
          obtain ⟨zc, hzc⟩ : ∃ z, (Var.enc C).length = z := ⟨_, rfl⟩
          have hzc10 : zc ≤ 10 := by rw [← hzc]; exact Var.len_10 hC9'
          have HXR : Hid (∀ V, Keep64 v3.heap.size WC V → V.cell? ⟨rb, ro + i * 3, none⟩ = some (.slice la ln lc) ∧ V.cell? ⟨rb, ro + i * 3 + 1, none⟩ = some (.slice qa qn qc) ∧ V.cell? ⟨rb, ro + i * 3 + 2, none⟩ = some (.int .u64 (C : Int)) ∧ Sl .i64 V la ln lc L ∧ Sl .i64 V qa qn qc R) := by
            intro V hV
            obtain ⟨b8, o8, a8, n8, d8, L8, a9, n9, d9, R8, C8, hx8, -, f1, f2, f3, hL8, hR8, -, -, hq8⟩ := (HXW.out _ (KC.out.trans hV)).2.one i hlt
            cases hx8
            rw [hg] at hq8
            cases hq8
            exact ⟨f1, f2, f3, hL8, hR8⟩
          have hli : (i : Int) < (rn : Int) := by omega
          have HSN : Hid (szl (((zs ++ [(ln : Int), (qn : Int)]) ++ L) ++ R) + (n + zc) = c0 + SS + n0 + (Img.flat (Img.rulesNums ((ruls rs).take (i + 1)))).length) := by
            show _ = _
            have h := HSQ.out
            rw [hnx, Img.flat_app, List.length_append, Img.ruleNums, Img.sideNums, Img.sideNums, Img.flat_app, Img.flat_app, Img.flat_cons, Img.flat_cons, Img.flat_one, List.length_append, List.length_append, List.length_append, List.length_append, Int.toNat_natCast, hzc, HLL.out, HLQ.out]
            rw [szl_app, szl_app, szl_app, szl_two, Int.toNat_natCast, Int.toNat_natCast]
            show szl zs + ((Var.enc ln).length + (Var.enc qn).length) + szl L + szl R + (n + zc) = c0 + SS + n0 + ((Img.flat (Img.rulesNums ((ruls rs).take i))).length + ((Var.enc ln).length + szl L + ((Var.enc qn).length + szl R + zc)))
            omega
          have HZN : Hid (∀ z ∈ ((zs ++ [(ln : Int), (qn : Int)]) ++ L) ++ R, 0 ≤ z ∧ z ≤ 3000000) := by
            intro z hz
            simp only [List.mem_append, List.mem_cons, List.not_mem_nil, or_false] at hz
            rcases hz with ((hz | rfl | rfl) | hz) | hz
            · exact HZS.out z hz
            · omega
            · omega
            · have := HFL.out z hz; omega
            · have := HFR.out z hz; omega
          have HW2 : Hid (∀ z ∈ [(ln : Int), (qn : Int)], (Lit.int .i64 z).wf = true) := by
            intro z hz
            simp only [List.mem_cons, List.not_mem_nil, or_false] at hz
            rcases hz with rfl | rfl <;> exact WalkArith.wf_i64 ⟨by omega, by omega⟩
          have HSC := Lib.hid (fun V : World => size_is C zc hC9' hzc V)
          have HSZW : Hid (v3.heap.size ≤ wr.heap.size) := Nat.le_trans ZC.out HK.out.size
          have KR0 : Hid (Keep64 v3.heap.size WC wr.drew) := HK.out.drew
          clear hg hat hnx hfit hsL hsR hzc HSQ
          go_wp2
          refine wp_region_held_drew (S := (fun V => V.cell? ⟨G11, 4, none⟩ = some (.slice (some ⟨rb, ro, none⟩) rn rcap) ∧ V.cell? ⟨rb, ro + i * 3, none⟩ = some (.slice la ln lc) ∧ V.cell? ⟨rb, ro + i * 3 + 1, none⟩ = some (.slice qa qn qc))) (by kernel_rfl) (by first | (first | exact ⟨(HWC.out _ K8.out).2.2.2.2, (HXR.out _ K8.out).1, (HXR.out _ K8.out).2.1⟩ | exact ⟨(HWC.out _ K7.out).2.2.2.2, (HXR.out _ K7.out).1, (HXR.out _ K7.out).2.1⟩ | exact ⟨(HWC.out _ K6.out).2.2.2.2, (HXR.out _ K6.out).1, (HXR.out _ K6.out).2.1⟩ | exact ⟨(HWC.out _ KR0.out).2.2.2.2, (HXR.out _ KR0.out).1, (HXR.out _ KR0.out).2.1⟩ | exact ⟨(HWC.out _ (HK.out.trans (Keep64.alloc HSZW.out _).drew)).2.2.2.2, (HXR.out _ (HK.out.trans (Keep64.alloc HSZW.out _).drew)).1, (HXR.out _ (HK.out.trans (Keep64.alloc HSZW.out _).drew)).2.1⟩) | ((try dsimp only); first | exact ⟨(HWC.out _ K8.out).2.2.2.2, (HXR.out _ K8.out).1, (HXR.out _ K8.out).2.1⟩ | exact ⟨(HWC.out _ K7.out).2.2.2.2, (HXR.out _ K7.out).1, (HXR.out _ K7.out).2.1⟩ | exact ⟨(HWC.out _ K6.out).2.2.2.2, (HXR.out _ K6.out).1, (HXR.out _ K6.out).2.1⟩ | exact ⟨(HWC.out _ KR0.out).2.2.2.2, (HXR.out _ KR0.out).1, (HXR.out _ KR0.out).2.1⟩ | exact ⟨(HWC.out _ (HK.out.trans (Keep64.alloc HSZW.out _).drew)).2.2.2.2, (HXR.out _ (HK.out.trans (Keep64.alloc HSZW.out _).drew)).1, (HXR.out _ (HK.out.trans (Keep64.alloc HSZW.out _).drew)).2.1⟩)) (fun hHeld => ?_)
          refine wpAnyH_take (i := 0) (v := ?vr1) rfl (by kernel_rfl) (by kernel_rfl) (by kernel_rfl) (fun _ _ _ h => h) (Or.inl ⟨by rfl, ?hr1⟩) (by assumption) ?rr1
          case hr1 => intro w hSw; (try dsimp only at hSw); go_simp; try with_reducible rfl
          simp only [Act.put, List.getElem_toArray, List.getElem_cons_succ, List.getElem_cons_zero, List.setIfInBounds_toArray, List.set_cons_succ, List.set_cons_zero]
          refine wpAnyH_take (i := 1) (v := ?vr4) rfl (by kernel_rfl) (by kernel_rfl) (by kernel_rfl) (fun _ _ _ h => h) (Or.inl ⟨by rfl, ?hr4⟩) (by assumption) ?rr4
          case hr4 => intro w hSw; (try dsimp only at hSw); go_simp; try with_reducible rfl
          simp only [Act.put, List.getElem_toArray, List.getElem_cons_succ, List.getElem_cons_zero, List.setIfInBounds_toArray, List.set_cons_succ, List.set_cons_zero]
          refine wpAnyH_take (i := 2) (v := ?vr7) rfl (by kernel_rfl) (by kernel_rfl) (by kernel_rfl) (fun _ _ _ h => h) (Or.inl ⟨by rfl, ?hr7⟩) (by assumption) ?rr7
          case hr7 => intro w hSw; (try dsimp only at hSw); go_simp; try with_reducible rfl
          simp only [Act.put, List.getElem_toArray, List.getElem_cons_succ, List.getElem_cons_zero, List.setIfInBounds_toArray, List.set_cons_succ, List.set_cons_zero]
          refine wpAnyH_take (i := 3) (v := ?vr10) rfl (by kernel_rfl) (by kernel_rfl) (by kernel_rfl) (fun _ _ _ h => h) (Or.inl ⟨by rfl, ?hr10⟩) (by assumption) ?rr10
          case hr10 => intro w hSw; (try dsimp only at hSw); go_simp; try with_reducible rfl
          simp only [Act.put, List.getElem_toArray, List.getElem_cons_succ, List.getElem_cons_zero, List.setIfInBounds_toArray, List.set_cons_succ, List.set_cons_zero]
          refine wpAnyH_take (i := 4) (v := ?vr13) rfl (by kernel_rfl) (by kernel_rfl) (by kernel_rfl) (fun _ _ _ h => h) (Or.inl ⟨by rfl, ?hr13⟩) (by assumption) ?rr13
          case hr13 => intro w hSw; (try dsimp only at hSw); go_simp; try with_reducible rfl
          simp only [Act.put, List.getElem_toArray, List.getElem_cons_succ, List.getElem_cons_zero, List.setIfInBounds_toArray, List.set_cons_succ, List.set_cons_zero]
          refine wpAnyH_take (i := 5) (v := ?vr16) rfl (by kernel_rfl) (by kernel_rfl) (by kernel_rfl) (fun _ _ _ h => h) (Or.inl ⟨by rfl, ?hr16⟩) (by assumption) ?rr16
          case hr16 => intro w hSw; (try dsimp only at hSw); go_simp; try with_reducible rfl
          simp only [Act.put, List.getElem_toArray, List.getElem_cons_succ, List.getElem_cons_zero, List.setIfInBounds_toArray, List.set_cons_succ, List.set_cons_zero]
          refine wpAnyH_take (i := 6) (v := ?vr19) rfl (by kernel_rfl) (by kernel_rfl) (by kernel_rfl) (fun _ _ _ h => h) (Or.inl ⟨by rfl, ?hr19⟩) (by assumption) ?rr19
          case hr19 => intro w hSw; (try dsimp only at hSw); go_simp; try with_reducible rfl
          simp only [Act.put, List.getElem_toArray, List.getElem_cons_succ, List.getElem_cons_zero, List.setIfInBounds_toArray, List.set_cons_succ, List.set_cons_zero]
          refine wpAnyH_take (i := 7) (v := ?vr22) rfl (by kernel_rfl) (by kernel_rfl) (by kernel_rfl) (fun _ _ _ h => h) (Or.inl ⟨by rfl, ?hr22⟩) (by assumption) ?rr22
          case hr22 => intro w hSw; (try dsimp only at hSw); go_simp; try with_reducible rfl
          simp only [Act.put, List.getElem_toArray, List.getElem_cons_succ, List.getElem_cons_zero, List.setIfInBounds_toArray, List.set_cons_succ, List.set_cons_zero]
          refine wpAnyH_take (i := 8) (v := ?vr25) rfl (by kernel_rfl) (by kernel_rfl) (by kernel_rfl) (fun _ _ _ h => h) (Or.inl ⟨by rfl, ?hr25⟩) (by assumption) ?rr25
          case hr25 => intro w hSw; (try dsimp only at hSw); go_simp; try with_reducible rfl
          simp only [Act.put, List.getElem_toArray, List.getElem_cons_succ, List.getElem_cons_zero, List.setIfInBounds_toArray, List.set_cons_succ, List.set_cons_zero]
          refine wpAnyH_take (i := 9) (v := ?vr28) rfl (by kernel_rfl) (by kernel_rfl) (by kernel_rfl) (fun _ _ _ h => h) (Or.inl ⟨by rfl, ?hr28⟩) (by assumption) ?rr28
          case hr28 => intro w hSw; (try dsimp only at hSw); go_simp; try with_reducible rfl
          simp only [Act.put, List.getElem_toArray, List.getElem_cons_succ, List.getElem_cons_zero, List.setIfInBounds_toArray, List.set_cons_succ, List.set_cons_zero]
          refine wpAnyH_take (i := 10) (v := ?vr31) rfl (by kernel_rfl) (by kernel_rfl) (by kernel_rfl) (fun _ _ _ h => h) (Or.inl ⟨by rfl, ?hr31⟩) (by assumption) ?rr31
          case hr31 => intro w hSw; (try dsimp only at hSw); go_simp; try with_reducible rfl
          simp only [Act.put, List.getElem_toArray, List.getElem_cons_succ, List.getElem_cons_zero, List.setIfInBounds_toArray, List.set_cons_succ, List.set_cons_zero]
          refine wpAnyH_take (i := 11) (v := ?vr34) rfl (by kernel_rfl) (by kernel_rfl) (by kernel_rfl) (fun _ _ _ h => h) (Or.inl ⟨by rfl, ?hr34⟩) (by assumption) ?rr34
          case hr34 => intro w hSw; (try dsimp only at hSw); go_simp; try with_reducible rfl
          simp only [Act.put, List.getElem_toArray, List.getElem_cons_succ, List.getElem_cons_zero, List.setIfInBounds_toArray, List.set_cons_succ, List.set_cons_zero]
          refine wpAnyH_take (i := 12) (v := ?vr37) rfl (by kernel_rfl) (by kernel_rfl) (by kernel_rfl) (fun _ _ _ h => h) (Or.inl ⟨by rfl, ?hr37⟩) (by assumption) ?rr37
          case hr37 => intro w hSw; (try dsimp only at hSw); go_simp; try with_reducible rfl
          simp only [Act.put, List.getElem_toArray, List.getElem_cons_succ, List.getElem_cons_zero, List.setIfInBounds_toArray, List.set_cons_succ, List.set_cons_zero]
          refine wpAnyH_take (i := 13) (v := ?vr40) rfl (by kernel_rfl) (by kernel_rfl) (by kernel_rfl) (fun _ _ _ h => h) (Or.inl ⟨by rfl, ?hr40⟩) (by assumption) ?rr40
          case hr40 => intro w hSw; (try dsimp only at hSw); go_simp; try with_reducible rfl
          simp only [Act.put, List.getElem_toArray, List.getElem_cons_succ, List.getElem_cons_zero, List.setIfInBounds_toArray, List.set_cons_succ, List.set_cons_zero]
          refine wpAnyH_take (i := 14) (v := ?vr43) rfl (by kernel_rfl) (by kernel_rfl) (by kernel_rfl) (fun _ _ _ h => h) (Or.inl ⟨by rfl, ?hr43⟩) (by assumption) ?rr43
          case hr43 => intro w hSw; (try dsimp only at hSw); go_simp; try with_reducible rfl
          simp only [Act.put, List.getElem_toArray, List.getElem_cons_succ, List.getElem_cons_zero, List.setIfInBounds_toArray, List.set_cons_succ, List.set_cons_zero]
          refine wpAnyH_take (i := 17) (v := ?vr46) rfl (by kernel_rfl) (by kernel_rfl) (by kernel_rfl) (fun _ _ _ h => h) (Or.inl ⟨by rfl, ?hr46⟩) (by assumption) ?rr46
          case hr46 => intro w hSw; (try dsimp only at hSw); go_simp; try with_reducible rfl
          simp only [Act.put, List.getElem_toArray, List.getElem_cons_succ, List.getElem_cons_zero, List.setIfInBounds_toArray, List.set_cons_succ, List.set_cons_zero]
          refine wpAnyH_take (i := 18) (v := ?vr49) rfl (by kernel_rfl) (by kernel_rfl) (by kernel_rfl) (fun _ _ _ h => h) (Or.inl ⟨by rfl, ?hr49⟩) (by assumption) ?rr49
          case hr49 => intro w hSw; (try dsimp only at hSw); go_simp; try with_reducible rfl
          simp only [Act.put, List.getElem_toArray, List.getElem_cons_succ, List.getElem_cons_zero, List.setIfInBounds_toArray, List.set_cons_succ, List.set_cons_zero]
          refine wpAnyH_take (i := 19) (v := ?vr52) rfl (by kernel_rfl) (by kernel_rfl) (by kernel_rfl) (fun _ _ _ h => h) (Or.inl ⟨by rfl, ?hr52⟩) (by assumption) ?rr52
          case hr52 => intro w hSw; (try dsimp only at hSw); go_simp; try with_reducible rfl
          simp only [Act.put, List.getElem_toArray, List.getElem_cons_succ, List.getElem_cons_zero, List.setIfInBounds_toArray, List.set_cons_succ, List.set_cons_zero]
          refine wpAnyH_take (i := 20) (v := ?vr55) rfl (by kernel_rfl) (by kernel_rfl) (by kernel_rfl) (fun _ _ _ h => h) (Or.inl ⟨by rfl, ?hr55⟩) (by assumption) ?rr55
          case hr55 => intro w hSw; (try dsimp only at hSw); go_simp; try with_reducible rfl
          simp only [Act.put, List.getElem_toArray, List.getElem_cons_succ, List.getElem_cons_zero, List.setIfInBounds_toArray, List.set_cons_succ, List.set_cons_zero]
          refine wpAnyH_take (i := 21) (v := ?vr58) rfl (by kernel_rfl) (by kernel_rfl) (by kernel_rfl) (fun _ _ _ h => h) (Or.inl ⟨by rfl, ?hr58⟩) (by assumption) ?rr58
          case hr58 => intro w hSw; (try dsimp only at hSw); go_simp; try with_reducible rfl
          simp only [Act.put, List.getElem_toArray, List.getElem_cons_succ, List.getElem_cons_zero, List.setIfInBounds_toArray, List.set_cons_succ, List.set_cons_zero]
          refine wpAnyH_take (i := 22) (v := ?vr61) rfl (by kernel_rfl) (by kernel_rfl) (by kernel_rfl) (fun _ _ _ h => h) (Or.inl ⟨by rfl, ?hr61⟩) (by assumption) ?rr61
          case hr61 => intro w hSw; (try dsimp only at hSw); go_simp; try with_reducible rfl
          simp only [Act.put, List.getElem_toArray, List.getElem_cons_succ, List.getElem_cons_zero, List.setIfInBounds_toArray, List.set_cons_succ, List.set_cons_zero]
          refine wpAnyH_take (i := 24) (v := ?vr64) rfl (by kernel_rfl) (by kernel_rfl) (by kernel_rfl) (fun _ _ _ h => h) (Or.inl ⟨by rfl, ?hr64⟩) (by assumption) ?rr64
          case hr64 => intro w hSw; (try dsimp only at hSw); go_simp; try with_reducible rfl
          simp only [Act.put, List.getElem_toArray, List.getElem_cons_succ, List.getElem_cons_zero, List.setIfInBounds_toArray, List.set_cons_succ, List.set_cons_zero]
          refine wpAnyH_take (i := 25) (v := ?vr67) rfl (by kernel_rfl) (by kernel_rfl) (by kernel_rfl) (fun _ _ _ h => h) (Or.inl ⟨by rfl, ?hr67⟩) (by assumption) ?rr67
          case hr67 => intro w hSw; (try dsimp only at hSw); go_simp; try with_reducible rfl
          simp only [Act.put, List.getElem_toArray, List.getElem_cons_succ, List.getElem_cons_zero, List.setIfInBounds_toArray, List.set_cons_succ, List.set_cons_zero]
          refine wpAnyH_take (i := 26) (v := ?vr70) rfl (by kernel_rfl) (by kernel_rfl) (by kernel_rfl) (fun _ _ _ h => h) (Or.inl ⟨by rfl, ?hr70⟩) (by assumption) ?rr70
          case hr70 => intro w hSw; (try dsimp only at hSw); go_simp; try with_reducible rfl
          simp only [Act.put, List.getElem_toArray, List.getElem_cons_succ, List.getElem_cons_zero, List.setIfInBounds_toArray, List.set_cons_succ, List.set_cons_zero]
          refine wpAnyH_take (i := 27) (v := ?vr73) rfl (by kernel_rfl) (by kernel_rfl) (by kernel_rfl) (fun _ _ _ h => h) (Or.inl ⟨by rfl, ?hr73⟩) (by assumption) ?rr73
          case hr73 => intro w hSw; (try dsimp only at hSw); go_simp; try with_reducible rfl
          simp only [Act.put, List.getElem_toArray, List.getElem_cons_succ, List.getElem_cons_zero, List.setIfInBounds_toArray, List.set_cons_succ, List.set_cons_zero]
          refine wpAnyH_take (i := 28) (v := ?vr76) rfl (by kernel_rfl) (by kernel_rfl) (by kernel_rfl) (fun _ _ _ h => h) (Or.inl ⟨by rfl, ?hr76⟩) (by assumption) ?rr76
          case hr76 => intro w hSw; (try dsimp only at hSw); go_simp; try with_reducible rfl
          simp only [Act.put, List.getElem_toArray, List.getElem_cons_succ, List.getElem_cons_zero, List.setIfInBounds_toArray, List.set_cons_succ, List.set_cons_zero]
          refine wpAnyH_take (i := 29) (v := ?vr79) rfl (by kernel_rfl) (by kernel_rfl) (by kernel_rfl) (fun _ _ _ h => h) (Or.inl ⟨by rfl, ?hr79⟩) (by assumption) ?rr79
          case hr79 => intro w hSw; (try dsimp only at hSw); go_simp; try with_reducible rfl
          simp only [Act.put, List.getElem_toArray, List.getElem_cons_succ, List.getElem_cons_zero, List.setIfInBounds_toArray, List.set_cons_succ, List.set_cons_zero]
          refine wpAnyH_ready (rs := [15]) (by kernel_rfl) (by simp) ?_
          refine AllReadyH.cons rfl (fun K hK => ?_) AllReadyH.nil
          go_simp
          refine hK.out _ _ (by first | (first | exact ⟨(HWC.out _ K8.out).2.2.2.2, (HXR.out _ K8.out).1, (HXR.out _ K8.out).2.1⟩ | exact ⟨(HWC.out _ K7.out).2.2.2.2, (HXR.out _ K7.out).1, (HXR.out _ K7.out).2.1⟩ | exact ⟨(HWC.out _ K6.out).2.2.2.2, (HXR.out _ K6.out).1, (HXR.out _ K6.out).2.1⟩ | exact ⟨(HWC.out _ KR0.out).2.2.2.2, (HXR.out _ KR0.out).1, (HXR.out _ KR0.out).2.1⟩ | exact ⟨(HWC.out _ (HK.out.trans (Keep64.alloc HSZW.out _).drew)).2.2.2.2, (HXR.out _ (HK.out.trans (Keep64.alloc HSZW.out _).drew)).1, (HXR.out _ (HK.out.trans (Keep64.alloc HSZW.out _).drew)).2.1⟩) | ((try dsimp only); first | exact ⟨(HWC.out _ K8.out).2.2.2.2, (HXR.out _ K8.out).1, (HXR.out _ K8.out).2.1⟩ | exact ⟨(HWC.out _ K7.out).2.2.2.2, (HXR.out _ K7.out).1, (HXR.out _ K7.out).2.1⟩ | exact ⟨(HWC.out _ K6.out).2.2.2.2, (HXR.out _ K6.out).1, (HXR.out _ K6.out).2.1⟩ | exact ⟨(HWC.out _ KR0.out).2.2.2.2, (HXR.out _ KR0.out).1, (HXR.out _ KR0.out).2.1⟩ | exact ⟨(HWC.out _ (HK.out.trans (Keep64.alloc HSZW.out _).drew)).2.2.2.2, (HXR.out _ (HK.out.trans (Keep64.alloc HSZW.out _).drew)).1, (HXR.out _ (HK.out.trans (Keep64.alloc HSZW.out _).drew)).2.1⟩)) (fun hHeld => ?_)
          clear hK K
          try simp only [Act.put, List.getElem_toArray, List.getElem_cons_succ, List.getElem_cons_zero, List.setIfInBounds_toArray, List.set_cons_succ, List.set_cons_zero]
          refine wpAnyH_ready (rs := [16]) (by kernel_rfl) (by simp) ?_
          refine AllReadyH.cons rfl (fun K hK => ?_) AllReadyH.nil
          refine step_append_i64_g (by rfl) (.tmp 133) (.tmp 148) (by rfl) v3.heap.size _ k zs (by rfl) (ownsRow_below (show wr.drew.ownsRow _ _ _ _ _ _ from HO.out) ((Below.refl wr.drew.heap.size wr.drew).alloc (Nat.le_refl _) _) (Nat.le_refl _)) (some ⟨wr.heap.size, 0, none⟩) 2 2 [(ln : Int), (qn : Int)] (by rfl) (Sl.newI (w := wr.drew) [(ln : Int), (qn : Int)] HW2.out (by unfold maxLen; simp) rfl rfl rfl) (k + 2) rfl (by omega) (by have := HSZW.out; simp; omega) ?_
          intro a6 c6 w6 hown6 hk6
          have O6 := Lib.hid hown6
          have K6 : Hid (Keep64 v3.heap.size WC w6) := HK.out.trans ((Keep64.alloc HSZW.out _).drew.trans hk6)
          have Z6 : Hid (v3.heap.size ≤ w6.heap.size) := Nat.le_trans ZC.out K6.out.size
          clear hown6 hk6
          refine hK.out _ _ (by first | (first | exact ⟨(HWC.out _ K8.out).2.2.2.2, (HXR.out _ K8.out).1, (HXR.out _ K8.out).2.1⟩ | exact ⟨(HWC.out _ K7.out).2.2.2.2, (HXR.out _ K7.out).1, (HXR.out _ K7.out).2.1⟩ | exact ⟨(HWC.out _ K6.out).2.2.2.2, (HXR.out _ K6.out).1, (HXR.out _ K6.out).2.1⟩ | exact ⟨(HWC.out _ KR0.out).2.2.2.2, (HXR.out _ KR0.out).1, (HXR.out _ KR0.out).2.1⟩ | exact ⟨(HWC.out _ (HK.out.trans (Keep64.alloc HSZW.out _).drew)).2.2.2.2, (HXR.out _ (HK.out.trans (Keep64.alloc HSZW.out _).drew)).1, (HXR.out _ (HK.out.trans (Keep64.alloc HSZW.out _).drew)).2.1⟩) | ((try dsimp only); first | exact ⟨(HWC.out _ K8.out).2.2.2.2, (HXR.out _ K8.out).1, (HXR.out _ K8.out).2.1⟩ | exact ⟨(HWC.out _ K7.out).2.2.2.2, (HXR.out _ K7.out).1, (HXR.out _ K7.out).2.1⟩ | exact ⟨(HWC.out _ K6.out).2.2.2.2, (HXR.out _ K6.out).1, (HXR.out _ K6.out).2.1⟩ | exact ⟨(HWC.out _ KR0.out).2.2.2.2, (HXR.out _ KR0.out).1, (HXR.out _ KR0.out).2.1⟩ | exact ⟨(HWC.out _ (HK.out.trans (Keep64.alloc HSZW.out _).drew)).2.2.2.2, (HXR.out _ (HK.out.trans (Keep64.alloc HSZW.out _).drew)).1, (HXR.out _ (HK.out.trans (Keep64.alloc HSZW.out _).drew)).2.1⟩)) (fun hHeld => ?_)
          clear hK K
          try simp only [Act.put, List.getElem_toArray, List.getElem_cons_succ, List.getElem_cons_zero, List.setIfInBounds_toArray, List.set_cons_succ, List.set_cons_zero]
          refine wpAnyH_ready (rs := [23]) (by kernel_rfl) (by simp) ?_
          refine AllReadyH.cons rfl (fun K hK => ?_) AllReadyH.nil
          refine step_append_i64_g (by rfl) (.tmp 149) (.tmp 155) (by rfl) v3.heap.size _ (k + 2) _ (by rfl) O6.out la ln lc L (by rfl) (HXR.out _ K6.out).2.2.2.1 (k + 2 + ln) rfl (by omega) Z6.out ?_
          intro a7 c7 w7 hown7 hk7
          have O7 := Lib.hid hown7
          have K7 : Hid (Keep64 v3.heap.size WC w7) := K6.out.trans hk7
          have Z7 : Hid (v3.heap.size ≤ w7.heap.size) := Nat.le_trans ZC.out K7.out.size
          clear hown7 hk7
          refine hK.out _ _ (by first | (first | exact ⟨(HWC.out _ K8.out).2.2.2.2, (HXR.out _ K8.out).1, (HXR.out _ K8.out).2.1⟩ | exact ⟨(HWC.out _ K7.out).2.2.2.2, (HXR.out _ K7.out).1, (HXR.out _ K7.out).2.1⟩ | exact ⟨(HWC.out _ K6.out).2.2.2.2, (HXR.out _ K6.out).1, (HXR.out _ K6.out).2.1⟩ | exact ⟨(HWC.out _ KR0.out).2.2.2.2, (HXR.out _ KR0.out).1, (HXR.out _ KR0.out).2.1⟩ | exact ⟨(HWC.out _ (HK.out.trans (Keep64.alloc HSZW.out _).drew)).2.2.2.2, (HXR.out _ (HK.out.trans (Keep64.alloc HSZW.out _).drew)).1, (HXR.out _ (HK.out.trans (Keep64.alloc HSZW.out _).drew)).2.1⟩) | ((try dsimp only); first | exact ⟨(HWC.out _ K8.out).2.2.2.2, (HXR.out _ K8.out).1, (HXR.out _ K8.out).2.1⟩ | exact ⟨(HWC.out _ K7.out).2.2.2.2, (HXR.out _ K7.out).1, (HXR.out _ K7.out).2.1⟩ | exact ⟨(HWC.out _ K6.out).2.2.2.2, (HXR.out _ K6.out).1, (HXR.out _ K6.out).2.1⟩ | exact ⟨(HWC.out _ KR0.out).2.2.2.2, (HXR.out _ KR0.out).1, (HXR.out _ KR0.out).2.1⟩ | exact ⟨(HWC.out _ (HK.out.trans (Keep64.alloc HSZW.out _).drew)).2.2.2.2, (HXR.out _ (HK.out.trans (Keep64.alloc HSZW.out _).drew)).1, (HXR.out _ (HK.out.trans (Keep64.alloc HSZW.out _).drew)).2.1⟩)) (fun hHeld => ?_)
          clear hK K
          try simp only [Act.put, List.getElem_toArray, List.getElem_cons_succ, List.getElem_cons_zero, List.setIfInBounds_toArray, List.set_cons_succ, List.set_cons_zero]
          refine wpAnyH_ready (rs := [30]) (by kernel_rfl) (by simp) ?_
          refine AllReadyH.cons rfl (fun K hK => ?_) AllReadyH.nil
          refine step_append_i64_g (by rfl) (.tmp 156) (.tmp 162) (by rfl) v3.heap.size _ (k + 2 + ln) _ (by rfl) O7.out qa qn qc R (by rfl) (HXR.out _ K7.out).2.2.2.2 (k + 2 + ln + qn) rfl (by omega) Z7.out ?_
          intro a8 c8 w8 hown8 hk8
          have O8 := Lib.hid hown8
          have K8 : Hid (Keep64 v3.heap.size WC w8) := K7.out.trans hk8
          clear hown8 hk8
          refine hK.out _ _ (by first | (first | exact ⟨(HWC.out _ K8.out).2.2.2.2, (HXR.out _ K8.out).1, (HXR.out _ K8.out).2.1⟩ | exact ⟨(HWC.out _ K7.out).2.2.2.2, (HXR.out _ K7.out).1, (HXR.out _ K7.out).2.1⟩ | exact ⟨(HWC.out _ K6.out).2.2.2.2, (HXR.out _ K6.out).1, (HXR.out _ K6.out).2.1⟩ | exact ⟨(HWC.out _ KR0.out).2.2.2.2, (HXR.out _ KR0.out).1, (HXR.out _ KR0.out).2.1⟩ | exact ⟨(HWC.out _ (HK.out.trans (Keep64.alloc HSZW.out _).drew)).2.2.2.2, (HXR.out _ (HK.out.trans (Keep64.alloc HSZW.out _).drew)).1, (HXR.out _ (HK.out.trans (Keep64.alloc HSZW.out _).drew)).2.1⟩) | ((try dsimp only); first | exact ⟨(HWC.out _ K8.out).2.2.2.2, (HXR.out _ K8.out).1, (HXR.out _ K8.out).2.1⟩ | exact ⟨(HWC.out _ K7.out).2.2.2.2, (HXR.out _ K7.out).1, (HXR.out _ K7.out).2.1⟩ | exact ⟨(HWC.out _ K6.out).2.2.2.2, (HXR.out _ K6.out).1, (HXR.out _ K6.out).2.1⟩ | exact ⟨(HWC.out _ KR0.out).2.2.2.2, (HXR.out _ KR0.out).1, (HXR.out _ KR0.out).2.1⟩ | exact ⟨(HWC.out _ (HK.out.trans (Keep64.alloc HSZW.out _).drew)).2.2.2.2, (HXR.out _ (HK.out.trans (Keep64.alloc HSZW.out _).drew)).1, (HXR.out _ (HK.out.trans (Keep64.alloc HSZW.out _).drew)).2.1⟩)) (fun hHeld => ?_)
          clear hK K
          try simp only [Act.put, List.getElem_toArray, List.getElem_cons_succ, List.getElem_cons_zero, List.setIfInBounds_toArray, List.set_cons_succ, List.set_cons_zero]
          refine wpAnyH_take (i := 31) (v := ?vr120) rfl (by kernel_rfl) (by kernel_rfl) (by kernel_rfl) (fun _ _ _ h => h) (Or.inl ⟨by rfl, ?hr120⟩) (by assumption) ?rr120
          case hr120 => intro w hSw; (try dsimp only at hSw); go_simp; try with_reducible rfl
          simp only [Act.put, List.getElem_toArray, List.getElem_cons_succ, List.getElem_cons_zero, List.setIfInBounds_toArray, List.set_cons_succ, List.set_cons_zero]
          refine wpAnyH_done (by kernel_rfl) ?_ _
          have x3 := (HXR.out _ K8.out).2.2.1
          have x4 := (HWC.out _ K8.out).2.2.2.2
          go_wp2_with (first | (go_at_call 16; refine (HSC.out _).mono ?_; rintro e w9 ⟨rfl, hb9⟩; have K9 : Hid (Keep64 v3.heap.size WC w9) := K8.out.trans (Keep64.of_below hb9 (Nat.le_trans ZC.out K8.out.size)); have O9 := Lib.hid (ownsRow_below O8.out hb9 (Nat.le_refl _)); clear hb9) | fail)
          go_roundw
          case rel => exact ⟨i + 1, k + 2 + ln + qn, c8, n + zc, a8, _, rfl, by go_num, by go_num, by omega, O9.out, HZN.out, HSN.out, K9.out⟩
          case measure => simp [intOf]; omega
        · obtain rfl : rn = i := by omega
          have htk : (ruls rs).take rn = ruls rs := List.take_of_length_le (by rw [ruls_length, HLR.out]; exact Nat.le_refl _)
          obtain ⟨s, hs⟩ : ∃ s, s = szl zs := ⟨_, rfl⟩
          have hq := HSQ.out
          rw [htk, ← HSR.out, ← hs] at hq
          have hfin : NN = n + s := by
            have h1 := HTOT.out
            have h2 := HN0.out
            omega
          have hsl : Sl .i64 wr a k c zs := Sl.of_owns (k := .i64) HO.out (fun z hz => by have := HZS.out z hz; exact WalkArith.wf_i64 ⟨by omega, by omega⟩) (by have h := HO.out.1; simpa [i64s] using h)
          have HCS := Lib.hid (sizes_is a k c zs wr hsl (fun z hz => (HZS.out z hz).1) (by rw [← hs]; omega))
          rw [← hs] at HCS
          have hs9 : s ≤ 1100000 := by omega
          have hfi : (NN : Int) = (n : Int) + (s : Int) := by omega
          have hfb : ((NN : Int) == (n : Int) + (s : Int)) = true := by simp; omega
          have BW := HBW0.out _ KW.out
          clear htk hq hs hsl hfin
          go_wp2_with (first | (go_at_call 17; refine HCS.out.mono ?_; rintro e w9 ⟨rfl, hb9⟩; have B9 := Lib.hid (BW.trans (hb9.mono BW.size)); clear hb9) | fail)
          go_ret
          exact ⟨by first | rfl | simp [hfi] | simp, B9.out⟩

set_option maxRecDepth 100000 in
theorem lifted (os : Os) (started : os.Started) (H : Type) (enc : TypeId × Value → H) :
    ReturnsInHanded {} Try.checked os 5 .any (Rows.imageSizesSpec.pre6 enc Try.prog Try.f5 Rows.imageSizesRow.domain false) (Rows.imageSizesSpec.post enc Try.prog Try.f5 false true false false) := by
  refine returnsInHanded_of_change (C := Try.checked) own started (by kernel_rfl) Try.func5
    (ChangeSpec.witness6 (enc := enc) (C := Try.checked) false ⟨#[], #[.agg #[.slice none 0 0, .int .u64 0, .int .u64 0, .int .u64 0, .int .u64 0, .slice none 0 0]], []⟩ 8 (by kernel_rfl) (by kernel_rfl) (by kernel_rfl) (by kernel_rfl)) ?_
  intro W base args ds gs before hval0 hW hcnd _
  have hval : ∀ (j : Nat) t v, Try.f5.params[j]? = some t → args[j]? = some v → Value.okWide Try.prog W .any base t v := hval0
  have hW' := hW
  obtain ⟨p, q, hA0, hV, rfl, hfz, hnd⟩ := hW
  have hA : DataW.TrodAll enc Try.prog W 0 (fun _ => true) true Try.f5.params.toList args.toList ds p := hA0
  rw [Try.params5] at hA hval
  obtain ⟨v0, vs0, d0, ds0, p0, q0, hargs, rfl, rfl, h0, r0⟩ := trodAll_cons hA
  obtain ⟨rfl, rfl, rfl⟩ := trodAll_nil r0
  obtain rfl : args = #[v0] := by cases args; simp_all
  obtain ⟨rfl, rfl⟩ := trodVars_none hV
  have k0 := h0
  have lt0 : ∀ x ∈ p0, x.block < W.heap.size := by obtain ⟨m, hm⟩ := k0; exact DataW.trod_lt m _ _ _ hm
  obtain ⟨x0, rfl, w0, n0⟩ := Iw.open (hval 0 28 v0 rfl rfl) h0
  clear hA0 hval0
  refine (walk x0 W w0 n0).mono fun e W' ⟨he, bel⟩ => ?_
  subst he
  exact ⟨_, rfl, _, _, _, [], _, [], hW', trodAll_mk1 (shut_bool Try.underlying4 _), (trodAll_cons_mk (Below.trod laidOut (by kernel_rfl) (of_decide_eq_true (by kernel_rfl)) k0 bel lt0) trodAll_mk0), rfl, bel.frame _, fun h => by cases h⟩

theorem over : Rows.imageSizesRow.holds Try.pinned (OpenSpec.ofChange Rows.imageSizesSpec) :=
  OpenClaim.holds_of_wide 5 Try.f5 rfl rfl rfl rfl rfl rfl rfl ⟨rfl, rfl, rfl, rfl, rfl⟩ rfl rfl rfl rfl rfl (by kernel_rfl) Try.func5 (by kernel_rfl)
    (of_decide_eq_true (by kernel_rfl)) (by unfold Func.isWrapper; first | (rw [if_pos (by decide +kernel)]; kernel_rfl) | (rw [if_neg (by decide +kernel)]; exact ⟨rfl, rfl⟩))
    (fun os started H enc _ => lifted os started H enc)

/-- the statement -/
theorem proved : Rows.ImageSizesSaid := over
#print axioms proved
end Go.Proofs.Ytbfjihbkkcggmaa.imageSizes
