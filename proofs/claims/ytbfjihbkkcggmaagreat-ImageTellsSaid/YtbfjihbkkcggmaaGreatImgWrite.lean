/- Used by the law. -/
import Derived.Test.YtbfjihbkkcggmaaGreatImgState
import Derived.Test.YtbfjihbkkcggmaaGreatImgCosts
import Derived.Test.YtbfjihbkkcggmaaGreatPackC
import Derived.Test.YtbfjihbkkcggmaaGreatFileRefC
import Derived.Test.YtbfjihbkkcggmaaGreatPackR
import Derived.Test.YtbfjihbkkcggmaaGreatCrcRef
import Derived.Test.YtbfjihbkkcggmaaGreatPackD
namespace Go.Proofs.YtbfjihbkkcggmaaGreat
open Go.RowKit

namespace Img
theorem stsNums_next : ∀ (l : List Tri.St) (j k : Nat), k < l.length → stsNums (j : Int) (l.take (k + 1)) = stsNums (j : Int) (l.take k) ++ stNums ((j + k : Nat) : Int) (l.getD k Tri.St.no)
  | [], j, k, h => by simp at h
  | s :: l, j, 0, h => by simp [stsNums]
  | s :: l, j, k + 1, h => by
    have ih := stsNums_next l (j + 1) k (by simpa using h)
    rw [Int.natCast_add, Int.natCast_one] at ih
    rw [List.take_succ_cons, List.take_succ_cons, stsNums, stsNums, ih, List.getD_cons_succ, List.append_assoc, show j + 1 + k = j + (k + 1) from by omega]
theorem checkA_at {n : Nat} : ∀ (l : List Tri.St) (j k : Nat), Tri.checkA n j l = true → k < l.length → Tri.arcsOk n (j + k) none (l.getD k Tri.St.no).arcs = true
  | [], j, k, _, h => by simp at h
  | s :: l, j, 0, hc, h => by
    unfold Tri.checkA at hc
    simp only [Bool.and_eq_true] at hc
    simpa using hc.1
  | s :: l, j, k + 1, hc, h => by
    unfold Tri.checkA at hc
    simp only [Bool.and_eq_true] at hc
    have ih := checkA_at l (j + 1) k hc.2 (by simpa using h)
    rw [List.getD_cons_succ, show j + (k + 1) = j + 1 + k from by omega]
    exact ih
theorem stsNums_le : ∀ (l : List Tri.St) (j : Int) (k : Nat), (flat (stsNums j (l.take k))).length ≤ (flat (stsNums j l)).length
  | [], j, k => by simp [stsNums]
  | s :: l, j, 0 => by simp [stsNums, flat]
  | s :: l, j, k + 1 => by
    have ih := stsNums_le l (j + 1) k
    rw [List.take_succ_cons, stsNums, stsNums, flat_app, flat_app, List.length_append, List.length_append]
    omega
end Img

set_option maxHeartbeats 6400000 in
set_option maxRecDepth 100000 in
theorem rwrite15_is (x : Iw) (w : World) (hx : x.Good w) (hn : x.c.n ≤ 20000) :
    Calls Tryz.prog 7 #[x.v] w fun e w' => WriteIs w' e x.im ∧ Below w.heap.size w w' := by
  obtain ⟨sa, sn, sc, xs, cm, cl, co, ct, ra, rn, rcap, rs⟩ := x
  have HSS : Hid (Ss w sa sn sc xs) := hx.1
  have HC : Hid (Cw.Good w ⟨cm, cl, co, ct, ra, rn, rcap, rs⟩) := hx.2
  have hnc := HSS.out.2.1
  have hcm := HSS.out.2.2.1
  unfold maxLen at hcm
  have HLX : Hid (xs.length = sn) := HSS.out.1
  have HN : Hid (rn ≤ 20000) := hn
  obtain ⟨W0, hW0⟩ : ∃ W0, W0 = w.alloc (.cells #[.slice sa sn sc, .int .u64 cm, .int .u64 cl, .int .u64 co, .int .u64 ct, .slice ra rn rcap] 28) := ⟨_, rfl⟩
  have HBX0 : Hid (Below w.heap.size w W0 ∧ W0.heap.size = w.heap.size + 1) := by
    rw [hW0]; exact ⟨(Below.refl _ w).alloc (Nat.le_refl _) _, by simp⟩
  have HBOX : Hid (∀ W, Below (w.heap.size + 1) W0 W → W.cell? ⟨w.heap.size, 0, none⟩ = some (.slice sa sn sc) ∧ W.cell? ⟨w.heap.size, 1, none⟩ = some (.int .u64 cm) ∧ W.cell? ⟨w.heap.size, 2, none⟩ = some (.int .u64 cl) ∧ W.cell? ⟨w.heap.size, 3, none⟩ = some (.int .u64 co) ∧ W.cell? ⟨w.heap.size, 4, none⟩ = some (.int .u64 ct) ∧ W.cell? ⟨w.heap.size, 5, none⟩ = some (.slice ra rn rcap)) := by
    intro W hW
    have e : ∀ j, W.cell? ⟨w.heap.size, j, none⟩ = W0.cell? ⟨w.heap.size, j, none⟩ := fun j => hW.cell (p := ⟨w.heap.size, j, none⟩) (by show w.heap.size < w.heap.size + 1; omega)
    rw [e, e, e, e, e, e, hW0]
    simp only [World.cell?_alloc_mark]
    exact ⟨rfl, rfl, rfl, rfl, rfl, rfl⟩
  have HSS0 : Hid (Ss W0 sa sn sc xs) := by show Ss _ _ _ _ _; rw [hW0]; exact HSS.out.alloc _
  have HC0 : Hid (Cw.Good W0 ⟨cm, cl, co, ct, ra, rn, rcap, rs⟩) := by show Cw.Good _ _; rw [hW0]; exact HC.out.alloc _
  obtain ⟨d1, hd1⟩ : ∃ d, Tri.check (sts xs) = d := ⟨_, rfl⟩
  obtain ⟨d2, hd2⟩ : ∃ d, File.check (Cw.c ⟨cm, cl, co, ct, ra, rn, rcap, rs⟩) = d := ⟨_, rfl⟩
  have HD1 := Lib.hid hd1
  have HD2 := Lib.hid hd2
  clear hx hn hd1 hd2
  show Calls _ _ #[.agg #[.slice sa sn sc, .int .u64 cm, .int .u64 cl, .int .u64 co, .int .u64 ct, .slice ra rn rcap]] w _
  have h0 := HBOX.out W0 (Below.refl _ _)
  obtain ⟨k0, k1, k2, k3, k4, k5⟩ := h0
  go_enter Tryz.func7, Tryz.ntmps7
  rw [hW0] at k0
  go_wp2_with fail
  rw [← hW0]
  refine (rcheck10_is _ _ _ xs d1 _ HSS0.out HD1.out).mono ?_
  rintro e w1 ⟨rfl, hb1⟩
  have B1 : Hid (Below (w.heap.size + 1) W0 w1) := by rw [← HBX0.out.2]; exact hb1
  obtain ⟨k0, k1, k2, k3, k4, k5⟩ := HBOX.out _ B1.out
  have C1 := Lib.hid (HC0.out.below hb1 (Nat.le_refl _))
  have S1 := Lib.hid (HSS0.out.below hb1 (Nat.le_refl _))
  clear hb1 hW0
  go_wp2_with fail
  refine (rcheck8_is ⟨cm, cl, co, ct, ra, rn, rcap, rs⟩ d2 _ C1.out HN.out HD2.out).mono ?_
  rintro e w2 ⟨rfl, hb2⟩
  have B2 : Hid (Below (w.heap.size + 1) W0 w2) := B1.out.trans (hb2.mono (by rw [← HBX0.out.2]; exact B1.out.size))
  obtain ⟨k0, k1, k2, k3, k4, k5⟩ := HBOX.out _ B2.out
  have BW2 : Hid (Below w.heap.size w w2) := HBX0.out.1.trans (B2.out.mono (by omega))
  clear hb2 C1 S1 B1
  cases d1 with
  | false =>
    go_wp2
    go_ret2
    exact ⟨.inl ⟨HD1.out, rfl⟩, BW2.out⟩
  | true =>
    cases d2 with
    | false =>
      go_wp2
      go_ret2
      exact ⟨.inr (.inl ⟨HD1.out, HD2.out, rfl⟩), BW2.out⟩
    | true =>
      have HST := Lib.hid (Img.check_sts HD1.out)
      have hsn : sn ≤ 6001 := by have h := HST.out.2.2; rw [sts_length, HLX.out] at h; exact h
      have HPL := Lib.hid HC.out.plain
      have hbl := Img.body_len (x := ⟨sts xs, Cw.c ⟨cm, cl, co, ct, ra, rn, rcap, rs⟩⟩) HPL.out ⟨HD1.out, HD2.out⟩
      obtain ⟨Z, hZ⟩ : ∃ Z, Z = Img.body ⟨sts xs, Cw.c ⟨cm, cl, co, ct, ra, rn, rcap, rs⟩⟩ := ⟨_, rfl⟩
      rw [← hZ] at hbl
      have hZb : Z = (Var.enc sn ++ Img.flat (Img.stsNums 0 (sts xs))) ++ Img.flat (Img.costNums (Cw.c ⟨cm, cl, co, ct, ra, rn, rcap, rs⟩)) := by
        rw [hZ, Img.body, Img.nums]
        show Img.flat ((sts xs).length :: Img.stsNums 0 (sts xs) ++ _) = _
        rw [sts_length, HLX.out, Img.flat_app, Img.flat_cons]
      have HZB := Lib.hid hZb
      have HZ := Lib.hid hZ
      have hlen : (Var.enc sn ++ Img.flat (Img.stsNums 0 (sts xs))).length ≤ 140000000000 := by
        rw [hZb, List.length_append] at hbl; omega
      have HLEN := Lib.hid hlen
      have HBL := Lib.hid hbl
      have HWZ : Hid (∀ z ∈ Z, (Lit.int .u8 z).wf = true) := by rw [hZ]; exact Img.flat_wf _
      have hszw : w.heap.size + 1 ≤ w2.heap.size := by rw [← HBX0.out.2]; exact B2.out.size
      have HP0 : Hid (Sl .u8 (w2.alloc (.cells #[.int .i64 (sn : Int)] 3)) none 0 0 []) := Sl.nil
      have HPI : Hid (Sl .i64 (w2.alloc (.cells #[.int .i64 (sn : Int)] 3)) (some ⟨w2.heap.size, 0, none⟩) 1 1 [(sn : Int)]) := Sl.newI [(sn : Int)] (by intro z hz; simp at hz; subst hz; exact WalkArith.wf_i64 ⟨by omega, by omega⟩) (by unfold maxLen; simp) rfl rfl rfl
      clear hZ hZb hlen hbl
      go_wp2_with fail
      refine (rput15_is none 0 0 [] _ 1 1 [(sn : Int)] _ HP0.out HPI.out (by intro z hz; simp at hz; omega) (by have h := HLEN.out; rw [List.length_append] at h; simp [Img.flat]; omega)).mono ?_
      rintro e w3 ⟨⟨a3, n3, c3, rfl, hs3⟩, hb3⟩
      have X3 : Hid (Sl .u8 w3 a3 n3 c3 (Var.enc sn)) := by show Sl _ _ _ _ _ _; simpa [Img.flat] using hs3
      have B3 : Hid (Below (w.heap.size + 1) W0 w3) := (B2.out.alloc hszw _).trans (hb3.mono (by simp; omega))
      clear hs3 hb3 HP0 HPI k0 k1 k2 k3 k4 k5
      go_wp2
      go_loopw [6, 7] (fun bv ix wr => ∃ (i k c : Nat) (a : Option Addr), bv = .slice a k c ∧ ix = .int .i64 (i : Int) ∧ i ≤ sn ∧ Hid (Sl .u8 wr a k c (Var.enc sn ++ Img.flat (Img.stsNums 0 ((sts xs).take i)))) ∧ Hid (Below (w.heap.size + 1) W0 wr)) (fun _ ix _ => sn - (intOf ix).toNat)
      case atStart => exact ⟨0, n3, c3, a3, rfl, rfl, Nat.zero_le _, by show Sl _ _ _ _ _ _; simpa [Img.flat, Img.stsNums] using X3.out, B3.out⟩
      case round =>
        obtain ⟨i, k, c, a', rfl, rfl, hi, HX, HBW⟩ := hrel
        obtain ⟨k0, k1, k2, k3, k4, k5⟩ := HBOX.out _ HBW.out
        have HBX : Hid (Below w.heap.size w wr) := HBX0.out.1.trans (HBW.out.mono (by omega))
        by_cases hlt : i < sn
        · obtain ⟨sb, so, ff, ta, tn, tc, arcs, rfl, hsb, e1, e2, hta, hg⟩ := (HSS.out.below HBX.out (Nat.le_refl _)).one i hlt
          have hat : (sts xs).getD i Tri.St.no = Sw.st ⟨ff, ta, tn, tc, arcs⟩ := by rw [sts_at, hg]
          have hok := Img.checkA_at (sts xs) 0 i HST.out.1 (by rw [sts_length, HLX.out]; exact hlt)
          rw [Nat.zero_add, hat] at hok
          have hnx := Img.stsNums_next (sts xs) 0 i (by rw [sts_length, HLX.out]; exact hlt)
          rw [Nat.zero_add, hat, Int.natCast_zero] at hnx
          have HNX := Lib.hid hnx
          have HST1 := Lib.hid (rstate15_is ⟨ff, ta, tn, tc, arcs⟩ (sts xs).length i wr hta hok HST.out.2.2 (by omega))
          have hle := Img.stsNums_le (sts xs) 0 (i + 1)
          have HLE : Hid ((Var.enc sn ++ Img.flat (Img.stsNums 0 ((sts xs).take i)) ++ Img.flat (Img.stNums (i : Int) (Sw.st ⟨ff, ta, tn, tc, arcs⟩))).length ≤ 200000000000) := by
            show _ ≤ _
            have h := HLEN.out
            rw [hnx, Img.flat_app, List.length_append] at hle
            simp only [List.length_append] at h ⊢
            omega
          have hli : (i : Int) < (sn : Int) := by omega
          have hszr : w.heap.size + 1 ≤ wr.heap.size := by rw [← HBX0.out.2]; exact HBW.out.size
          clear hat hok hnx hle hg hta
          go_wp2_with fail
          refine HST1.out.mono ?_
          rintro e w6 ⟨a6, n6, c6, rfl, hs6, hb6⟩
          have I6 := Lib.hid hs6
          have X6 := Lib.hid (HX.out.below hb6 (Nat.le_refl _))
          have B6 : Hid (Below (w.heap.size + 1) W0 w6) := HBW.out.trans (hb6.mono hszr)
          clear hs6 hb6 HST1
          go_wp2_with fail
          refine (rput15_is _ _ _ _ _ _ _ _ _ X6.out I6.out (ints_nonneg _) (by rw [ints_toNat]; exact HLE.out)).mono ?_
          rintro e w7 ⟨⟨a7, n7, c7, rfl, hs7⟩, hb7⟩
          rw [ints_toNat, List.append_assoc, ← Img.flat_app, ← HNX.out] at hs7
          have X7 := Lib.hid hs7
          have B7 : Hid (Below (w.heap.size + 1) W0 w7) := B6.out.trans (hb7.mono (by rw [← HBX0.out.2]; exact B6.out.size))
          clear hs7 hb7 X6 I6 B6
          go_wp2
          go_roundw
          case rel => exact ⟨i + 1, n7, c7, a7, rfl, by go_num, by omega, X7.out, B7.out⟩
          case measure => simp [intOf]; omega
        · obtain rfl : i = sn := by omega
          have htk : (sts xs).take i = sts xs := List.take_of_length_le (by rw [sts_length, HLX.out]; exact Nat.le_refl _)
          have HXF : Hid (Sl .u8 wr a' k c (Var.enc i ++ Img.flat (Img.stsNums 0 (sts xs)))) := by
            have h := HX.out
            rwa [htk] at h
          have CW := Lib.hid (HC.out.below HBX.out (Nat.le_refl _))
          clear htk HX
          go_wp2_with fail
          refine (rcosts15_is _ _ _ _ ⟨cm, cl, co, ct, ra, rn, rcap, rs⟩ _ HXF.out CW.out HD2.out (by rw [← HZB.out]; have := HBL.out; omega)).mono ?_
          rintro e w8 ⟨⟨a8, n8, c8, rfl, hs8⟩, hb8⟩
          rw [← HZB.out] at hs8
          have X8 := Lib.hid hs8
          have B8 : Hid (Below w.heap.size w w8) := HBX.out.trans (hb8.mono HBX.out.size)
          have hn8 : n8 ≤ 200000000000 := by rw [← hs8.1]; have := HBL.out; omega
          clear hs8 hb8 HXF CW
          go_wp2_with fail
          refine (rseal_is _ _ _ Z _ X8.out hn8).mono ?_
          intro e w9 h9
          obtain ⟨a9, n9, c9, rfl, -, hs9, -, hb9⟩ := h9.sl (lock_wf X8.out)
          rw [HZ.out] at hs9
          have X9 := Lib.hid hs9
          have B9 : Hid (Below w.heap.size w w9) := B8.out.trans (hb9.mono B8.out.size)
          clear h9 hs9 hb9 X8 B8
          go_wp2
          go_ret2
          exact ⟨.inr (.inr ⟨HD1.out, HD2.out, a9, n9, c9, rfl, X9.out⟩), B9.out⟩

end Go.Proofs.YtbfjihbkkcggmaaGreat
