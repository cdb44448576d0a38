/- The program's Write of layer 15. -/
import Derived.Test.YtbfjihbkkcggmaaImgPsts
import Derived.Test.YtbfjihbkkcggmaaPackI
import Derived.Test.YtbfjihbkkcggmaaPackD
import Derived.Test.YtbfjihbkkcggmaaPackQ
import Derived.Test.YtbfjihbkkcggmaaPackS
import Derived.Test.YtbfjihbkkcggmaaPackG
namespace Go.Proofs.Ytbfjihbkkcggmaa
open Go.RowKit

set_option maxHeartbeats 6400000 in
set_option maxRecDepth 100000 in
theorem iwrite_is (x : Iw) (w : World) (hx : x.Good w) :
    Calls Try.prog 9 #[x.v] w fun e w' => WriteIs w' e x.im ∧ Below w.heap.size w w' := by
  have hmx : Try.prog.follows .mixedOrders = true := by kernel_rfl
  obtain ⟨sa, sn, sc, xs, cm, cl, co, ct, ra, rn, rcap, rs⟩ := x
  have HSS : Hid (Ss w sa sn sc xs) := hx.1
  have HC : Hid (Cw.Good w ⟨cm, cl, co, ct, ra, rn, rcap, rs⟩) := hx.2
  have hnc := HSS.out.2.1
  have hcm := HSS.out.2.2.1
  unfold maxLen at hcm
  have HLX : Hid (xs.length = sn) := HSS.out.1
  obtain ⟨W0, hW0⟩ : ∃ W0, W0 = w.alloc (.cells #[.slice sa sn sc, .int .u64 cm, .int .u64 cl, .int .u64 co, .int .u64 ct, .slice ra rn rcap] 28) := ⟨_, rfl⟩
  have HBX0 : Hid (Below w.heap.size w W0 ∧ W0.heap.size = w.heap.size + 1) := by
    rw [hW0]; exact ⟨(Below.refl _ w).alloc (Nat.le_refl _) _, by simp⟩
  have HBOX : Hid (∀ W, Below (w.heap.size + 1) W0 W → W.cell? ⟨w.heap.size, 0, none⟩ = some (.slice sa sn sc) ∧ W.cell? ⟨w.heap.size, 1, none⟩ = some (.int .u64 cm) ∧ W.cell? ⟨w.heap.size, 2, none⟩ = some (.int .u64 cl) ∧ W.cell? ⟨w.heap.size, 3, none⟩ = some (.int .u64 co) ∧ W.cell? ⟨w.heap.size, 4, none⟩ = some (.int .u64 ct) ∧ W.cell? ⟨w.heap.size, 5, none⟩ = some (.slice ra rn rcap)) := by
    intro W hW
    have e : ∀ j, W.cell? ⟨w.heap.size, j, none⟩ = W0.cell? ⟨w.heap.size, j, none⟩ := fun j => hW.cell (p := ⟨w.heap.size, j, none⟩) (by show w.heap.size < w.heap.size + 1; omega)
    rw [e, e, e, e, e, e, hW0]
    simp only [World.cell?_alloc_mark]
    exact ⟨rfl, rfl, rfl, rfl, rfl, rfl⟩
  have HSS0 : Hid (∀ W, Below (w.heap.size + 1) W0 W → Ss W sa sn sc xs) := fun W hW => HSS.out.below (HBX0.out.1.trans (hW.mono (by omega))) (Nat.le_refl _)
  have HC0 : Hid (∀ W, Below (w.heap.size + 1) W0 W → Cw.Good W ⟨cm, cl, co, ct, ra, rn, rcap, rs⟩) := fun W hW => HC.out.below (HBX0.out.1.trans (hW.mono (by omega))) (Nat.le_refl _)
  obtain ⟨d1, hd1⟩ : ∃ d, Tri.check (sts xs) = d := ⟨_, rfl⟩
  obtain ⟨d2, hd2⟩ : ∃ d, File.check (Cw.c ⟨cm, cl, co, ct, ra, rn, rcap, rs⟩) = d := ⟨_, rfl⟩
  have HD1 := Lib.hid hd1
  have HD2 := Lib.hid hd2
  clear hx hd1 hd2
  show Calls _ _ #[.agg #[.slice sa sn sc, .int .u64 cm, .int .u64 cl, .int .u64 co, .int .u64 ct, .slice ra rn rcap]] w _
  obtain ⟨k0, k1, k2, k3, k4, k5⟩ := HBOX.out W0 (Below.refl _ _)
  go_enter Try.func9, Try.ntmps9
  rw [hW0] at k0
  go_wp2_with fail
  rw [← hW0]
  refine (tcheck_is _ _ _ xs d1 _ (HSS0.out _ (Below.refl _ _)) HD1.out).mono ?_
  rintro e w1 ⟨rfl, hb1⟩
  have B1 : Hid (Below (w.heap.size + 1) W0 w1) := by rw [← HBX0.out.2]; exact hb1
  clear k0 k1 k2 k3 k4 k5
  obtain ⟨k0, k1, k2, k3, k4, k5⟩ := HBOX.out _ B1.out
  have BW1 : Hid (Below w.heap.size w w1) := HBX0.out.1.trans (B1.out.mono (by omega))
  clear hb1 hW0
  cases d1 with
  | false =>
    go_wp2
    go_ret2
    exact ⟨.inl ⟨HD1.out, rfl⟩, BW1.out⟩
  | true =>
    go_wp2_with fail
    refine (fcheck_is ⟨cm, cl, co, ct, ra, rn, rcap, rs⟩ d2 _ (HC0.out _ B1.out) HD2.out).mono ?_
    rintro e w2 ⟨rfl, hb2⟩
    have B2 : Hid (Below (w.heap.size + 1) W0 w2) := B1.out.trans (hb2.mono (by rw [← HBX0.out.2]; exact B1.out.size))
    have BW2 : Hid (Below w.heap.size w w2) := HBX0.out.1.trans (B2.out.mono (by omega))
    clear hb2 B1 k0 k1 k2 k3 k4 k5
    cases d2 with
    | false =>
      go_wp2
      go_ret2
      exact ⟨.inr (.inl ⟨HD1.out, HD2.out, rfl⟩), BW2.out⟩
    | true =>
      have HPL := Lib.hid HC.out.plain
      have hbl := Img.body_len (x := ⟨sts xs, Cw.c ⟨cm, cl, co, ct, ra, rn, rcap, rs⟩⟩) HPL.out ⟨HD1.out, HD2.out⟩
      obtain ⟨Z, hZ⟩ : ∃ Z, Z = Img.body ⟨sts xs, Cw.c ⟨cm, cl, co, ct, ra, rn, rcap, rs⟩⟩ := ⟨_, rfl⟩
      rw [← hZ] at hbl
      have hZb : Z = (Var.enc sn ++ Img.flat (Img.stsNums 0 (sts xs))) ++ Img.flat (Img.costNums (Cw.c ⟨cm, cl, co, ct, ra, rn, rcap, rs⟩)) := by
        rw [hZ, Img.body, Img.nums]
        show Img.flat ((sts xs).length :: Img.stsNums 0 (sts xs) ++ _) = _
        rw [sts_length, HLX.out, Img.flat_app, Img.flat_cons]
      have HZB := Lib.hid hZb
      have HZ := Lib.hid hZ
      have HLEN : Hid ((Var.enc sn ++ Img.flat (Img.stsNums 0 (sts xs))).length ≤ 200000000000) := by
        show _ ≤ _
        rw [hZb, List.length_append] at hbl; omega
      have HLZ : Hid ((Var.enc sn ++ Img.flat (Img.stsNums 0 (sts xs)) ++ Img.flat (Img.costNums (Cw.c ⟨cm, cl, co, ct, ra, rn, rcap, rs⟩))).length ≤ 200000000000) := by
        show _ ≤ _
        rw [← hZb]; omega
      have HBL := Lib.hid hbl
      have HWZ : Hid (∀ z ∈ Z, (Lit.int .u8 z).wf = true) := by rw [hZ]; exact Img.flat_wf _
      have HSW : Hid (w.heap.size + 1 ≤ w2.heap.size) := by show _ ≤ _; rw [← HBX0.out.2]; exact B2.out.size
      have HD : Hid (Below (w.heap.size + 1) W0 w2.drew) := ⟨B2.out.os, B2.out.tape, B2.out.output, B2.out.size, B2.out.block⟩
      clear hZ hZb hbl
      go_wp2
      refine wp_region_held_drew (S := (fun W => W.cell? ⟨w.heap.size, 0, none⟩ = some (.slice sa sn sc) ∧ W.cell? ⟨w.heap.size, 1, none⟩ = some (.int .u64 cm) ∧ W.cell? ⟨w.heap.size, 2, none⟩ = some (.int .u64 cl) ∧ W.cell? ⟨w.heap.size, 3, none⟩ = some (.int .u64 co) ∧ W.cell? ⟨w.heap.size, 4, none⟩ = some (.int .u64 ct) ∧ W.cell? ⟨w.heap.size, 5, none⟩ = some (.slice ra rn rcap))) (by kernel_rfl) (by first | (first | exact K9.out | exact K4.out | exact K3.out | exact HBOX.out _ HD.out | exact HBOX.out _ B2.out) | ((try dsimp only); first | exact K9.out | exact K4.out | exact K3.out | exact HBOX.out _ HD.out | exact HBOX.out _ B2.out)) (fun hHeld => ?_)
      refine wpAnyH_take (i := 0) (v := ?va1) rfl (by kernel_rfl) (by kernel_rfl) (by kernel_rfl) (fun _ _ _ h => h) (Or.inl ⟨by rfl, ?ha1⟩) (by assumption) ?ra1
      case ha1 => intro w hSw; (try dsimp only at hSw); go_simp; try with_reducible rfl
      simp only [Act.put, List.getElem_toArray, List.getElem_cons_succ, List.getElem_cons_zero, List.setIfInBounds_toArray, List.set_cons_succ, List.set_cons_zero]
      refine wpAnyH_take (i := 1) (v := ?va4) rfl (by kernel_rfl) (by kernel_rfl) (by kernel_rfl) (fun _ _ _ h => h) (Or.inl ⟨by rfl, ?ha4⟩) (by assumption) ?ra4
      case ha4 => intro w hSw; (try dsimp only at hSw); go_simp; try with_reducible rfl
      simp only [Act.put, List.getElem_toArray, List.getElem_cons_succ, List.getElem_cons_zero, List.setIfInBounds_toArray, List.set_cons_succ, List.set_cons_zero]
      refine wpAnyH_take (i := 3) (v := ?va7) rfl (by kernel_rfl) (by kernel_rfl) (by kernel_rfl) (fun _ _ _ h => h) (Or.inl ⟨by rfl, ?ha7⟩) (by assumption) ?ra7
      case ha7 => intro w hSw; (try dsimp only at hSw); go_simp; try with_reducible rfl
      simp only [Act.put, List.getElem_toArray, List.getElem_cons_succ, List.getElem_cons_zero, List.setIfInBounds_toArray, List.set_cons_succ, List.set_cons_zero]
      refine wpAnyH_take (i := 4) (v := ?va10) rfl (by kernel_rfl) (by kernel_rfl) (by kernel_rfl) (fun _ _ _ h => h) (Or.inl ⟨by rfl, ?ha10⟩) (by assumption) ?ra10
      case ha10 => intro w hSw; (try dsimp only at hSw); go_simp; try with_reducible rfl
      simp only [Act.put, List.getElem_toArray, List.getElem_cons_succ, List.getElem_cons_zero, List.setIfInBounds_toArray, List.set_cons_succ, List.set_cons_zero]
      refine wpAnyH_ready (rs := [2]) (by kernel_rfl) (by simp) ?_
      refine AllReadyH.cons rfl (fun K hK => ?_) AllReadyH.nil
      go_simp
      refine (putStates_is sa sn sc xs _ (HSS0.out _ HD.out) HD1.out HLEN.out).mono ?_
      rintro e w3 ⟨⟨a3, n3, c3, rfl, ho3⟩, hk3⟩
      have O3 : Hid (w3.ownsRow w2.heap.size 5 1 (.slice a3 n3 c3) n3 (u8s (Var.enc sn ++ Img.flat (Img.stsNums 0 (sts xs))))) := ho3
      have Z3 : Hid (w2.heap.size ≤ w3.heap.size) := hk3.size
      have B3 : Hid (Below (w.heap.size + 1) W0 w3) := HD.out.trans (hk3.low.mono HSW.out)
      have K3 := Lib.hid (HBOX.out _ B3.out)
      clear ho3 hk3
      refine hK.out _ _ (by first | (first | exact K9.out | exact K4.out | exact K3.out | exact HBOX.out _ HD.out | exact HBOX.out _ B2.out) | ((try dsimp only); first | exact K9.out | exact K4.out | exact K3.out | exact HBOX.out _ HD.out | exact HBOX.out _ B2.out)) (fun hHeld => ?_)
      clear hK K
      try simp only [Act.put, List.getElem_toArray, List.getElem_cons_succ, List.getElem_cons_zero, List.setIfInBounds_toArray, List.set_cons_succ, List.set_cons_zero]
      refine wpAnyH_ready (rs := [5]) (by kernel_rfl) (by simp) ?_
      refine AllReadyH.cons rfl (fun K hK => ?_) AllReadyH.nil
      go_simp
      refine (putCosts_is w2.heap.size a3 n3 c3 _ ⟨cm, cl, co, ct, ra, rn, rcap, rs⟩ w3 O3.out (fun w1 hk => HC0.out _ (B3.out.trans (hk.low.mono HSW.out))) HD2.out HLZ.out Z3.out).mono ?_
      rintro e w4 ⟨⟨a4, n4, c4, rfl, ho4⟩, hk4⟩
      rw [← HZB.out] at ho4
      have hn4 : n4 ≤ 200000000000 := by rw [← u8s_len ho4]; have := HBL.out; omega
      have S4 : Hid (Sl .u8 w4 a4 n4 c4 Z) := Sl.of_owns ho4 HWZ.out (u8s_len ho4)
      have B4 : Hid (Below (w.heap.size + 1) W0 w4) := B3.out.trans (hk4.low.mono HSW.out)
      have K4 := Lib.hid (HBOX.out _ B4.out)
      clear ho4 hk4
      refine hK.out _ _ (by first | (first | exact K9.out | exact K4.out | exact K3.out | exact HBOX.out _ HD.out | exact HBOX.out _ B2.out) | ((try dsimp only); first | exact K9.out | exact K4.out | exact K3.out | exact HBOX.out _ HD.out | exact HBOX.out _ B2.out)) (fun hHeld => ?_)
      clear hK K
      try simp only [Act.put, List.getElem_toArray, List.getElem_cons_succ, List.getElem_cons_zero, List.setIfInBounds_toArray, List.set_cons_succ, List.set_cons_zero]
      refine wpAnyH_ready (rs := [6]) (by kernel_rfl) (by simp) ?_
      refine AllReadyH.cons rfl (fun K hK => ?_) AllReadyH.nil
      go_simp
      refine (cseal_is a4 n4 c4 Z w4 S4.out hn4).mono ?_
      intro e w9 h9
      obtain ⟨a9, n9, c9, rfl, -, hs9, -, hb9⟩ := h9.sl (bytes_wf (Crc.lock_bytes S4.out.bytes))
      rw [HZ.out] at hs9
      have X9 := Lib.hid hs9
      have B9 : Hid (Below (w.heap.size + 1) W0 w9) := B4.out.trans (hb9.mono (by rw [← HBX0.out.2]; exact B4.out.size))
      have K9 := Lib.hid (HBOX.out _ B9.out)
      clear h9 hs9 hb9
      refine hK.out _ _ (by first | (first | exact K9.out | exact K4.out | exact K3.out | exact HBOX.out _ HD.out | exact HBOX.out _ B2.out) | ((try dsimp only); first | exact K9.out | exact K4.out | exact K3.out | exact HBOX.out _ HD.out | exact HBOX.out _ B2.out)) (fun hHeld => ?_)
      clear hK K
      try simp only [Act.put, List.getElem_toArray, List.getElem_cons_succ, List.getElem_cons_zero, List.setIfInBounds_toArray, List.set_cons_succ, List.set_cons_zero]
      refine wpAnyH_take (i := 7) (v := ?va54) rfl (by kernel_rfl) (by kernel_rfl) (by kernel_rfl) (fun _ _ _ h => h) (Or.inl ⟨by rfl, ?ha54⟩) (by assumption) ?ra54
      case ha54 => intro w hSw; (try dsimp only at hSw); go_simp; try with_reducible rfl
      simp only [Act.put, List.getElem_toArray, List.getElem_cons_succ, List.getElem_cons_zero, List.setIfInBounds_toArray, List.set_cons_succ, List.set_cons_zero]
      refine wpAnyH_take (i := 8) (v := ?va57) rfl (by kernel_rfl) (by kernel_rfl) (by kernel_rfl) (fun _ _ _ h => h) (Or.inl ⟨by rfl, ?ha57⟩) (by assumption) ?ra57
      case ha57 => intro w hSw; (try dsimp only at hSw); go_simp; try with_reducible rfl
      simp only [Act.put, List.getElem_toArray, List.getElem_cons_succ, List.getElem_cons_zero, List.setIfInBounds_toArray, List.set_cons_succ, List.set_cons_zero]
      refine wpAnyH_done (by kernel_rfl) ?_ _
      have BW9 : Hid (Below w.heap.size w w9) := HBX0.out.1.trans (B9.out.mono (by omega))
      clear O3 Z3 B3 K3 S4 B4 K4 B9 K9 HD
      go_wp2
      go_ret2
      exact ⟨.inr (.inr ⟨HD1.out, HD2.out, a9, n9, c9, rfl, X9.out⟩), BW9.out⟩

end Go.Proofs.Ytbfjihbkkcggmaa
