/- Used by the law. -/
import Derived.Test.YtbfjihbkkcggmaaGreatPackF
import Derived.Test.YtbfjihbkkcggmaaGreatPackD
import Derived.Test.YtbfjihbkkcggmaaGreatPackC
namespace Go.Proofs.YtbfjihbkkcggmaaGreat
open Go.RowKit


set_option maxHeartbeats 6400000 in
set_option maxRecDepth 100000 in
theorem rstate15_is (x : Sw) (n i : Nat) (w : World) (hx : x.Good w) (ho : Tri.arcsOk n i none x.arcs = true) (hn : n ≤ 6001) (hi : i ≤ 6001) :
    Calls Tryz.prog 22 #[x.v, .int .i64 (i : Int)] w fun e w' => ∃ a m c, e = .returned (.slice a m c) ∧ Sl .i64 w' a m c (ints (Img.stNums (i : Int) x.st)) ∧ Below w.heap.size w w' := by
  obtain ⟨fin, sa, sn, sc, arcs⟩ := x
  have HX : Hid (Ars w sa sn sc arcs) := hx
  have hnc := HX.out.2.1
  have hcm := HX.out.2.2.1
  unfold maxLen at hcm
  have HL : Hid (arcs.length = sn) := HX.out.1
  have HO := Lib.hid (Img.arcs_at _ _ ho)
  have hfew := Img.arcs_len _ _ ho (by intro q hq; cases hq)
  simp only [Option.getD_none] at hfew
  have hsn : sn ≤ 1114112 := by have := HL.out; omega
  have HST : Hid (Img.stNums (i : Int) (Sw.st ⟨fin, sa, sn, sc, arcs⟩) = (2 * sn + (if fin = true then 1 else 0)) :: Img.arcNums (i : Int) (-1) arcs) := by
    show _ = _
    rw [Img.stNums, Img.headNum]
    show (2 * arcs.length + _) :: _ = _
    rw [HL.out]; rfl
  have HLN : Hid ((Img.arcNums (i : Int) (-1) arcs).length = 2 * sn) := by show _ = _; rw [Img.arcNums_len, HL.out]
  have HSM := Lib.hid (Img.arcNums_small hn arcs none ho (by intro q hq; cases hq))
  simp only [Option.getD_none] at HSM
  have HNX := Lib.hid (fun k hk => Img.arcNums_next (i : Int) arcs (-1) k hk)
  clear hx ho hfew
  show Calls _ _ #[.agg #[.bool fin, .slice sa sn sc], .int .i64 (i : Int)] w _
  obtain ⟨A, hA⟩ : ∃ A, A = Img.arcNums (i : Int) (-1) arcs := ⟨_, rfl⟩
  rw [← hA] at HST HLN HNX HSM
  clear hA
  obtain ⟨E, hE⟩ : ∃ E : Nat, 2 * (sn : Int) = (E : Int) := ⟨2 * sn, by omega⟩
  cases fin with
  | false =>
    obtain ⟨D, rfl⟩ : ∃ D : Nat, D = E := ⟨E, by omega⟩
    have HST1 : Hid (Img.stNums (i : Int) (Sw.st ⟨false, sa, sn, sc, arcs⟩) = D :: A) := by
      show _ = _
      rw [HST.out]; simp; omega
    go_enter Tryz.func22, Tryz.ntmps22
    go_wp2
    obtain ⟨W0, hW0⟩ : ∃ W0, W0 = w.alloc (.cells #[.bool false, .slice sa sn sc] 42) := ⟨_, rfl⟩
    have hbx : (w.alloc (.cells #[.bool false, .slice sa sn sc] 42)).heap.size = w.heap.size + 1 := by simp
    have HW0 : Hid (Below w.heap.size w W0 ∧ W0.cell? ⟨w.heap.size, 1, none⟩ = some (.slice sa sn sc) ∧ W0.heap.size = w.heap.size + 1) := by
      rw [hW0]
      exact ⟨(Below.refl _ w).alloc (Nat.le_refl _) _, by rw [World.cell?_alloc_mark]; rfl, hbx⟩
    have HLIT := Lib.hid (ownsI_lit W0 [(D : Int)] 1 rfl (by unfold maxLen; omega))
    have HS0 := Lib.hid ((Below.refl W0.heap.size W0).alloc (o := .cells ([(D : Int)].map (Value.int .i64)).toArray 3) (Nat.le_refl _))
    rw [HW0.out.2.2] at HLIT HS0
    rw [← hW0]
    clear hW0 hbx
    go_loopw [6, 7] (fun ov kv wr => ∃ (k c : Nat) (a : Option Addr), ov = .slice a (1 + 2 * k : Nat) c ∧ kv = .int .i64 (k : Int) ∧ k ≤ sn ∧ Hid (wr.ownsRow (w.heap.size + 1) 3 1 (.slice a (1 + 2 * k) c) (1 + 2 * k) (i64s (ints (D :: A.take (2 * k))))) ∧ Hid (Below (w.heap.size + 1) W0 wr)) (fun _ kv _ => sn - (intOf kv).toNat)
    case atStart => exact ⟨0, 1, _, rfl, rfl, Nat.zero_le _, HLIT.out, HS0.out⟩
    case round =>
      obtain ⟨k, c, a, rfl, rfl, hk, HOW, HBW⟩ := hrel
      have hsc : wr.cell? ⟨w.heap.size, 1, none⟩ = some (.slice sa sn sc) := by rw [HBW.out.cell (p := ⟨w.heap.size, 1, none⟩) (by show w.heap.size < w.heap.size + 1; omega)]; exact HW0.out.2.1
      have HBX : Hid (Below w.heap.size w wr) := HW0.out.1.trans (HBW.out.mono (by omega))
      by_cases hlt : k < sn
      · obtain ⟨b1, o1, s1, t1, rfl, hb1, e1, e2, hs1, ht1, hg1⟩ := (HX.out.below HBX.out (Nat.le_refl _)).one k hlt
        have hat := HO.out k (by rw [HL.out]; exact hlt)
        have hnx := HNX.out k (by rw [HL.out]; exact hlt)
        rw [hg1] at hat hnx
        obtain ⟨⟨hs0, hs9⟩, ⟨ht0, ht9⟩, hbef⟩ := hat
        simp only at hs0 hs9 ht0 ht9 hnx
        obtain ⟨tq, htq⟩ : ∃ tq : Nat, t1 - (i : Int) - 1 = (tq : Int) := ⟨(t1 - (i : Int) - 1).toNat, by omega⟩
        have htq1 : t1 - (i : Int) = (tq : Int) + 1 := by omega
        have hki : (k : Int) < (sn : Int) := by omega
        have hszw : w.heap.size + 1 ≤ wr.heap.size := by rw [← HW0.out.2.2]; exact HBW.out.size
        obtain ⟨N, hN⟩ : ∃ N, 1 + 2 * k + 2 = N := ⟨_, rfl⟩
        have hN1 : N = 1 + 2 * (k + 1) := by omega
        have hN9 : N ≤ 3000000 := by omega
        clear hg1 hs1 ht1
        cases k with
        | zero =>
          obtain ⟨sq, hsq⟩ : ∃ sq : Nat, s1 = (sq : Int) := ⟨s1.toNat, by omega⟩
          have hnx2 : A.take (2 * (0 + 1)) = A.take (2 * 0) ++ [sq, tq] := by
            rw [hnx]
            simp only [hsq, htq, Int.toNat_natCast]
            congr 2
            omega
          subst hsq
          simp only [Nat.zero_mul, Nat.add_zero] at e1 e2
          have HNX2 := Lib.hid hnx2
          have HN1 := Lib.hid hN1
          have HN := Lib.hid hN
          have hwx : ∀ z ∈ [(sq : Int), (tq : Int)], (Lit.int .i64 z).wf = true := by
            intro z hz
            simp only [List.mem_cons, List.not_mem_nil, or_false] at hz
            rcases hz with rfl | rfl <;> exact WalkArith.wf_i64 ⟨by omega, by omega⟩
          have HWX := Lib.hid hwx
          clear hnx hnx2 hN1 hN hwx hbef
          go_wp2_with (at_builtin; refine append_i64 (by rfl) (.tmp 44) (.tmp 55) (by rfl) (w.heap.size + 1) _ (1 + 2 * 0) _ (by rfl) (ownsRow_below HOW.out ((Below.refl wr.heap.size wr).alloc (Nat.le_refl _) _) (Nat.le_refl _)) (some ⟨wr.heap.size, 0, none⟩) 2 2 [(sq : Int), (tq : Int)] (by rfl) (Sl.newI [(sq : Int), (tq : Int)] HWX.out (by unfold maxLen; simp) rfl rfl rfl) N HN.out (by omega) (by simp; omega) ?_; intro a3 c3 w3 hown3 hb3 hnil3; have HO3 := Lib.hid hown3; have HB3 : Hid (Below (w.heap.size + 1) W0 w3) := Lib.hid ((HBW.out.alloc (by rw [← HW0.out.2.2]; exact HBW.out.size) _).trans hb3); clear hown3 hb3 hnil3)
          go_roundw
          case rel =>
            obtain rfl := HN1.out
            refine ⟨0 + 1, c3, a3, rfl, by go_num, by omega, ?_, HB3.out⟩
            show World.ownsRow _ _ _ _ _ _ _
            rw [HNX2.out, ← List.cons_append, ints_app]
            exact HO3.out
          case measure => simp [intOf]; try omega
        | succ m =>
          obtain ⟨b2, o2, s2, t2, hba, hb2, f1, f2, hs2, ht2, hg2⟩ := (HX.out.below HBX.out (Nat.le_refl _)).one m (by omega)
          cases hba
          have hlt2 := hbef m rfl
          rw [hg2] at hlt2
          simp only [hg2] at hnx hlt2
          have hat2 := HO.out m (by rw [HL.out]; omega)
          rw [hg2] at hat2
          have hs20 := hat2.1.1
          simp only at hs20
          obtain ⟨sq, hsq⟩ : ∃ sq : Nat, s1 - s2 - 1 = (sq : Int) := ⟨(s1 - s2 - 1).toNat, by omega⟩
          have hsq1 : s1 - s2 = (sq : Int) + 1 := by omega
          have hnx2 : A.take (2 * (m + 1 + 1)) = A.take (2 * (m + 1)) ++ [sq, tq] := by
            rw [hnx]
            simp only [hsq, htq, Int.toNat_natCast]
          have hm0 : (0 : Int) < ((m + 1 : Nat) : Int) := by omega
          have hmi : (m : Int) < (sn : Int) := by omega
          clear hg2 hat2 hs2 ht2 f2 hlt2
          have HNX2 := Lib.hid hnx2
          have HN1 := Lib.hid hN1
          have HN := Lib.hid hN
          have hwx : ∀ z ∈ [(sq : Int), (tq : Int)], (Lit.int .i64 z).wf = true := by
            intro z hz
            simp only [List.mem_cons, List.not_mem_nil, or_false] at hz
            rcases hz with rfl | rfl <;> exact WalkArith.wf_i64 ⟨by omega, by omega⟩
          have HWX := Lib.hid hwx
          clear hnx hnx2 hN1 hN hwx hbef
          go_wp2_with (at_builtin; refine append_i64 (by rfl) (.tmp 44) (.tmp 55) (by rfl) (w.heap.size + 1) _ (1 + 2 * (m + 1)) _ (by rfl) (ownsRow_below HOW.out ((Below.refl wr.heap.size wr).alloc (Nat.le_refl _) _) (Nat.le_refl _)) (some ⟨wr.heap.size, 0, none⟩) 2 2 [(sq : Int), (tq : Int)] (by rfl) (Sl.newI [(sq : Int), (tq : Int)] HWX.out (by unfold maxLen; simp) rfl rfl rfl) N HN.out (by omega) (by simp; omega) ?_; intro a3 c3 w3 hown3 hb3 hnil3; have HO3 := Lib.hid hown3; have HB3 : Hid (Below (w.heap.size + 1) W0 w3) := Lib.hid ((HBW.out.alloc (by rw [← HW0.out.2.2]; exact HBW.out.size) _).trans hb3); clear hown3 hb3 hnil3)
          go_roundw
          case rel =>
            obtain rfl := HN1.out
            refine ⟨(m + 1) + 1, c3, a3, rfl, by go_num, by omega, ?_, HB3.out⟩
            show World.ownsRow _ _ _ _ _ _ _
            rw [HNX2.out, ← List.cons_append, ints_app]
            exact HO3.out
          case measure => simp [intOf]; try omega
      · obtain rfl : k = sn := by omega
        have htk : A.take (2 * k) = A := List.take_of_length_le (by rw [HLN.out]; exact Nat.le_refl _)
        have HAW : Hid (∀ z ∈ ints (D :: A), (Lit.int .i64 z).wf = true) := by
          intro z hz
          obtain ⟨x, hx, rfl⟩ := List.mem_map.1 hz
          rcases List.mem_cons.1 hx with rfl | hx
          · exact WalkArith.wf_i64 ⟨by omega, by omega⟩
          · have := HSM.out x hx
            exact WalkArith.wf_i64 ⟨by omega, by omega⟩
        go_wp2
        go_ret
        refine ⟨a, 1 + 2 * k, c, rfl, ?_, HBX.out⟩
        rw [HST1.out]
        have h := HOW.out
        rw [htk] at h
        exact Sl.of_owns (k := .i64) h HAW.out (by rw [ints_length, List.length_cons, HLN.out]; omega)
  | true =>
    obtain ⟨D, hD⟩ : ∃ D : Nat, (E : Int) + 1 = (D : Int) := ⟨E + 1, by omega⟩
    have HST1 : Hid (Img.stNums (i : Int) (Sw.st ⟨true, sa, sn, sc, arcs⟩) = D :: A) := by
      show _ = _
      rw [HST.out]; simp; omega
    go_enter Tryz.func22, Tryz.ntmps22
    go_wp2
    obtain ⟨W0, hW0⟩ : ∃ W0, W0 = w.alloc (.cells #[.bool true, .slice sa sn sc] 42) := ⟨_, rfl⟩
    have hbx : (w.alloc (.cells #[.bool true, .slice sa sn sc] 42)).heap.size = w.heap.size + 1 := by simp
    have HW0 : Hid (Below w.heap.size w W0 ∧ W0.cell? ⟨w.heap.size, 1, none⟩ = some (.slice sa sn sc) ∧ W0.heap.size = w.heap.size + 1) := by
      rw [hW0]
      exact ⟨(Below.refl _ w).alloc (Nat.le_refl _) _, by rw [World.cell?_alloc_mark]; rfl, hbx⟩
    have HLIT := Lib.hid (ownsI_lit W0 [(D : Int)] 1 rfl (by unfold maxLen; omega))
    have HS0 := Lib.hid ((Below.refl W0.heap.size W0).alloc (o := .cells ([(D : Int)].map (Value.int .i64)).toArray 3) (Nat.le_refl _))
    rw [HW0.out.2.2] at HLIT HS0
    rw [← hW0]
    clear hW0 hbx
    go_loopw [6, 7] (fun ov kv wr => ∃ (k c : Nat) (a : Option Addr), ov = .slice a (1 + 2 * k : Nat) c ∧ kv = .int .i64 (k : Int) ∧ k ≤ sn ∧ Hid (wr.ownsRow (w.heap.size + 1) 3 1 (.slice a (1 + 2 * k) c) (1 + 2 * k) (i64s (ints (D :: A.take (2 * k))))) ∧ Hid (Below (w.heap.size + 1) W0 wr)) (fun _ kv _ => sn - (intOf kv).toNat)
    case atStart => exact ⟨0, 1, _, rfl, rfl, Nat.zero_le _, HLIT.out, HS0.out⟩
    case round =>
      obtain ⟨k, c, a, rfl, rfl, hk, HOW, HBW⟩ := hrel
      have hsc : wr.cell? ⟨w.heap.size, 1, none⟩ = some (.slice sa sn sc) := by rw [HBW.out.cell (p := ⟨w.heap.size, 1, none⟩) (by show w.heap.size < w.heap.size + 1; omega)]; exact HW0.out.2.1
      have HBX : Hid (Below w.heap.size w wr) := HW0.out.1.trans (HBW.out.mono (by omega))
      by_cases hlt : k < sn
      · obtain ⟨b1, o1, s1, t1, rfl, hb1, e1, e2, hs1, ht1, hg1⟩ := (HX.out.below HBX.out (Nat.le_refl _)).one k hlt
        have hat := HO.out k (by rw [HL.out]; exact hlt)
        have hnx := HNX.out k (by rw [HL.out]; exact hlt)
        rw [hg1] at hat hnx
        obtain ⟨⟨hs0, hs9⟩, ⟨ht0, ht9⟩, hbef⟩ := hat
        simp only at hs0 hs9 ht0 ht9 hnx
        obtain ⟨tq, htq⟩ : ∃ tq : Nat, t1 - (i : Int) - 1 = (tq : Int) := ⟨(t1 - (i : Int) - 1).toNat, by omega⟩
        have htq1 : t1 - (i : Int) = (tq : Int) + 1 := by omega
        have hki : (k : Int) < (sn : Int) := by omega
        have hszw : w.heap.size + 1 ≤ wr.heap.size := by rw [← HW0.out.2.2]; exact HBW.out.size
        obtain ⟨N, hN⟩ : ∃ N, 1 + 2 * k + 2 = N := ⟨_, rfl⟩
        have hN1 : N = 1 + 2 * (k + 1) := by omega
        have hN9 : N ≤ 3000000 := by omega
        clear hg1 hs1 ht1
        cases k with
        | zero =>
          obtain ⟨sq, hsq⟩ : ∃ sq : Nat, s1 = (sq : Int) := ⟨s1.toNat, by omega⟩
          have hnx2 : A.take (2 * (0 + 1)) = A.take (2 * 0) ++ [sq, tq] := by
            rw [hnx]
            simp only [hsq, htq, Int.toNat_natCast]
            congr 2
            omega
          subst hsq
          simp only [Nat.zero_mul, Nat.add_zero] at e1 e2
          have HNX2 := Lib.hid hnx2
          have HN1 := Lib.hid hN1
          have HN := Lib.hid hN
          have hwx : ∀ z ∈ [(sq : Int), (tq : Int)], (Lit.int .i64 z).wf = true := by
            intro z hz
            simp only [List.mem_cons, List.not_mem_nil, or_false] at hz
            rcases hz with rfl | rfl <;> exact WalkArith.wf_i64 ⟨by omega, by omega⟩
          have HWX := Lib.hid hwx
          clear hnx hnx2 hN1 hN hwx hbef
          go_wp2_with (at_builtin; refine append_i64 (by rfl) (.tmp 44) (.tmp 55) (by rfl) (w.heap.size + 1) _ (1 + 2 * 0) _ (by rfl) (ownsRow_below HOW.out ((Below.refl wr.heap.size wr).alloc (Nat.le_refl _) _) (Nat.le_refl _)) (some ⟨wr.heap.size, 0, none⟩) 2 2 [(sq : Int), (tq : Int)] (by rfl) (Sl.newI [(sq : Int), (tq : Int)] HWX.out (by unfold maxLen; simp) rfl rfl rfl) N HN.out (by omega) (by simp; omega) ?_; intro a3 c3 w3 hown3 hb3 hnil3; have HO3 := Lib.hid hown3; have HB3 : Hid (Below (w.heap.size + 1) W0 w3) := Lib.hid ((HBW.out.alloc (by rw [← HW0.out.2.2]; exact HBW.out.size) _).trans hb3); clear hown3 hb3 hnil3)
          go_roundw
          case rel =>
            obtain rfl := HN1.out
            refine ⟨0 + 1, c3, a3, rfl, by go_num, by omega, ?_, HB3.out⟩
            show World.ownsRow _ _ _ _ _ _ _
            rw [HNX2.out, ← List.cons_append, ints_app]
            exact HO3.out
          case measure => simp [intOf]; try omega
        | succ m =>
          obtain ⟨b2, o2, s2, t2, hba, hb2, f1, f2, hs2, ht2, hg2⟩ := (HX.out.below HBX.out (Nat.le_refl _)).one m (by omega)
          cases hba
          have hlt2 := hbef m rfl
          rw [hg2] at hlt2
          simp only [hg2] at hnx hlt2
          have hat2 := HO.out m (by rw [HL.out]; omega)
          rw [hg2] at hat2
          have hs20 := hat2.1.1
          simp only at hs20
          obtain ⟨sq, hsq⟩ : ∃ sq : Nat, s1 - s2 - 1 = (sq : Int) := ⟨(s1 - s2 - 1).toNat, by omega⟩
          have hsq1 : s1 - s2 = (sq : Int) + 1 := by omega
          have hnx2 : A.take (2 * (m + 1 + 1)) = A.take (2 * (m + 1)) ++ [sq, tq] := by
            rw [hnx]
            simp only [hsq, htq, Int.toNat_natCast]
          have hm0 : (0 : Int) < ((m + 1 : Nat) : Int) := by omega
          have hmi : (m : Int) < (sn : Int) := by omega
          clear hg2 hat2 hs2 ht2 f2 hlt2
          have HNX2 := Lib.hid hnx2
          have HN1 := Lib.hid hN1
          have HN := Lib.hid hN
          have hwx : ∀ z ∈ [(sq : Int), (tq : Int)], (Lit.int .i64 z).wf = true := by
            intro z hz
            simp only [List.mem_cons, List.not_mem_nil, or_false] at hz
            rcases hz with rfl | rfl <;> exact WalkArith.wf_i64 ⟨by omega, by omega⟩
          have HWX := Lib.hid hwx
          clear hnx hnx2 hN1 hN hwx hbef
          go_wp2_with (at_builtin; refine append_i64 (by rfl) (.tmp 44) (.tmp 55) (by rfl) (w.heap.size + 1) _ (1 + 2 * (m + 1)) _ (by rfl) (ownsRow_below HOW.out ((Below.refl wr.heap.size wr).alloc (Nat.le_refl _) _) (Nat.le_refl _)) (some ⟨wr.heap.size, 0, none⟩) 2 2 [(sq : Int), (tq : Int)] (by rfl) (Sl.newI [(sq : Int), (tq : Int)] HWX.out (by unfold maxLen; simp) rfl rfl rfl) N HN.out (by omega) (by simp; omega) ?_; intro a3 c3 w3 hown3 hb3 hnil3; have HO3 := Lib.hid hown3; have HB3 : Hid (Below (w.heap.size + 1) W0 w3) := Lib.hid ((HBW.out.alloc (by rw [← HW0.out.2.2]; exact HBW.out.size) _).trans hb3); clear hown3 hb3 hnil3)
          go_roundw
          case rel =>
            obtain rfl := HN1.out
            refine ⟨(m + 1) + 1, c3, a3, rfl, by go_num, by omega, ?_, HB3.out⟩
            show World.ownsRow _ _ _ _ _ _ _
            rw [HNX2.out, ← List.cons_append, ints_app]
            exact HO3.out
          case measure => simp [intOf]; try omega
      · obtain rfl : k = sn := by omega
        have htk : A.take (2 * k) = A := List.take_of_length_le (by rw [HLN.out]; exact Nat.le_refl _)
        have HAW : Hid (∀ z ∈ ints (D :: A), (Lit.int .i64 z).wf = true) := by
          intro z hz
          obtain ⟨x, hx, rfl⟩ := List.mem_map.1 hz
          rcases List.mem_cons.1 hx with rfl | hx
          · exact WalkArith.wf_i64 ⟨by omega, by omega⟩
          · have := HSM.out x hx
            exact WalkArith.wf_i64 ⟨by omega, by omega⟩
        go_wp2
        go_ret
        refine ⟨a, 1 + 2 * k, c, rfl, ?_, HBX.out⟩
        rw [HST1.out]
        have h := HOW.out
        rw [htk] at h
        exact Sl.of_owns (k := .i64) h HAW.out (by rw [ints_length, List.length_cons, HLN.out]; omega)

end Go.Proofs.YtbfjihbkkcggmaaGreat
