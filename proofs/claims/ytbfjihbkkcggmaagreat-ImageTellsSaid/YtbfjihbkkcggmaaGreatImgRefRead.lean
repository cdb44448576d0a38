/- Used by the law. -/
import Derived.Test.YtbfjihbkkcggmaaGreatPackU
import Derived.Test.YtbfjihbkkcggmaaGreatImgWrite
namespace Go.Proofs.YtbfjihbkkcggmaaGreat
open Go.RowKit

set_option maxRecDepth 100000 in
theorem info_im6 : (Tryz.prog.info? 28).map (·.size) = some 6 := by kernel_rfl
theorem five_set {w : World} {G : Nat} {u v0 v1 v2 v3 v4 m l o t r : Value} {T : TypeId} (h : w.heap[G]? = some (.cells #[u, v0, v1, v2, v3, v4] T (0, 0))) :
    (((((w.setCell ⟨G, 1, none⟩ m).setCell ⟨G, 2, none⟩ l).setCell ⟨G, 3, none⟩ o).setCell ⟨G, 4, none⟩ t).setCell ⟨G, 5, none⟩ r).heap[G]? = some (.cells #[u, m, l, o, t, r] T (0, 0)) := by
  have h1 : (w.setCell ⟨G, 1, none⟩ m).heap[G]? = some (.cells #[u, m, v1, v2, v3, v4] T (0, 0)) := by rw [heap_setCell_same _ _ _ _ _ _ h]; rfl
  have h2 : ((w.setCell ⟨G, 1, none⟩ m).setCell ⟨G, 2, none⟩ l).heap[G]? = some (.cells #[u, m, l, v2, v3, v4] T (0, 0)) := by rw [heap_setCell_same _ _ _ _ _ _ h1]; rfl
  have h3 : (((w.setCell ⟨G, 1, none⟩ m).setCell ⟨G, 2, none⟩ l).setCell ⟨G, 3, none⟩ o).heap[G]? = some (.cells #[u, m, l, o, v3, v4] T (0, 0)) := by rw [heap_setCell_same _ _ _ _ _ _ h2]; rfl
  have h4 : ((((w.setCell ⟨G, 1, none⟩ m).setCell ⟨G, 2, none⟩ l).setCell ⟨G, 3, none⟩ o).setCell ⟨G, 4, none⟩ t).heap[G]? = some (.cells #[u, m, l, o, t, v4] T (0, 0)) := by rw [heap_setCell_same _ _ _ _ _ _ h3]; rfl
  rw [heap_setCell_same _ _ _ _ _ _ h4]; rfl

namespace Img
theorem read_bad {b zin : List Int} {X : Im} {f : Bool} (ho : Crc.opn b = some zin) (hd : dBody zin = (X, f)) (hb : b.length ≤ 1000000) (hbad : f = true → Ok X → Crc.lock (body X) = b → False) : read b = .inr 150 := by
  refine read_form (by rw [ho]; simp) fun x hx => ?_
  have h := dBody_is hx hb ho
  rw [hd] at h
  cases h
  exact hbad rfl hx.2.1 hx.2.2
end Img
theorem Iw.good_set {w w' : World} {x : Iw} {B : Nat} (h : x.Good w) (h1 : High B x.a x.n) (h2 : ∀ y ∈ x.xs, High B y.a y.n) (h3 : x.c.High B) (hc : ∀ b, B ≤ b → b < w.heap.size → w'.heap[b]? = w.heap[b]?) : x.Good w' := ⟨h.1.high h1 h2 hc, h.2.high h3 hc⟩

set_option maxHeartbeats 12800000 in
set_option maxRecDepth 100000 in
theorem rread15_is (a : Option Addr) (n cap : Nat) (b : List Int) (w : World) (hs : Sl .u8 w a n cap b) (hn : n ≤ 10000) :
    Calls Tryz.prog 9 #[.slice a n cap] w fun e w' => ImgIs w' e (Img.read b) ∧ Below w.heap.size w w' := by
  have HS := Lib.hid hs
  have HLB := Lib.hid hs.1
  have hn9 : n ≤ 200000000000 := by omega
  clear hs
  cases hop : Crc.opn b with
  | none =>
    have HR := Lib.hid hop
    have HF := Lib.hid (Img.read_crc hop)
    clear hop
    go_enter Tryz.func9, Tryz.ntmps9
    go_wp2_with fail
    refine (ropen_is a n cap b _ (HS.out.alloc _) hn9).mono ?_
    rintro e w1 ⟨h1, hb1⟩
    obtain rfl := h1.none HR.out
    have R1 : Hid (w1.heap[w.heap.size]? = some (.cells #[Value.slice none 0 0, Value.int .u64 0, Value.int .u64 0, Value.int .u64 0, Value.int .u64 0, Value.slice none 0 0] 28 (0, 0))) := by
      have h := hb1.block w.heap.size (by simp)
      rw [heap_alloc_new] at h; exact h
    have B1 : Hid (Below w.heap.size w w1) := ((Below.refl _ w).alloc (Nat.le_refl _) _).trans (hb1.mono (by simp))
    clear h1 hb1
    go_wp2_with (refine wpList_store_g (by rfl) 28 (.tmp 2) (.tmp 26) (by rfl) w.heap.size #[Value.slice none 0 0, Value.int .u64 0, Value.int .u64 0, Value.int .u64 0, Value.int .u64 0, Value.slice none 0 0] (by rfl) (by rfl) 28 #[Value.slice none 0 0, Value.int .u64 0, Value.int .u64 0, Value.int .u64 0, Value.int .u64 0, Value.slice none 0 0] R1.out info_im6 rfl (by simp [Value.oneCell']) ?_; intro we hwe hge hsze; have HWE := Lib.hid hwe; have HGE := Lib.hid hge; clear hwe hge hsze)
    try rw [Exit.noGoto_ret]
    refine bodyPost_ret (results_cell_row_tmp rfl _ _ w.heap.size 28 #[Value.slice none 0 0, Value.int .u64 0, Value.int .u64 0, Value.int .u64 0, Value.int .u64 0, Value.slice none 0 0] (0, 0) _ (by rfl) HWE.out Tryz.underlying28 (by rfl) info_im6) rfl ?_
    exact ⟨.inr ⟨140, HF.out, rfl⟩, B1.out.grown HGE.out B1.out.size (fun k hk => by cases hk; exact Nat.le_refl _)⟩
  | some zin =>
    have HR := Lib.hid hop
    have hzl : zin.length ≤ 10000 := by
      have h1 := congrArg List.length (Crc.opn_some hop)
      rw [Crc.lock_length, HLB.out] at h1
      omega
    obtain ⟨N, b0, ok0, hD⟩ : ∃ N b0 ok0, Img.dTake zin = (N, b0, ok0) := ⟨_, _, _, rfl⟩
    have hN := Img.dTake_le zin
    rw [hD] at hN
    simp only at hN
    have HD := Lib.hid hD
    have hz0 : ok0 = false → N = 0 ∧ b0 = [] := by
      intro h
      subst h
      unfold Img.dTake at hD
      split at hD
      · cases hD
      · cases hD; exact ⟨rfl, rfl⟩
    have HZ := Lib.hid hz0
    have HZL := Lib.hid hzl
    clear hop hD hz0
    go_enter Tryz.func9, Tryz.ntmps9
    go_wp2_with fail
    refine (ropen_is a n cap b _ (HS.out.alloc _) hn9).mono ?_
    rintro e w1 ⟨h1, hb1⟩
    obtain ⟨a1, n1, c1, rfl, hs1⟩ := h1.some HR.out
    have R1 : Hid (w1.heap[w.heap.size]? = some (.cells #[Value.slice none 0 0, Value.int .u64 0, Value.int .u64 0, Value.int .u64 0, Value.int .u64 0, Value.slice none 0 0] 28 (0, 0))) := by
      have h := hb1.block w.heap.size (by simp)
      rw [heap_alloc_new] at h; exact h
    have B1 : Hid (Below w.heap.size w w1) := ((Below.refl _ w).alloc (Nat.le_refl _) _).trans (hb1.mono (by simp))
    have Z1 : Hid (w.heap.size + 1 ≤ w1.heap.size) := by have := hb1.size; show _ ≤ _; simpa using this
    have S1 := Lib.hid hs1
    have L1 := Lib.hid (Low.of hs1)
    clear h1 hb1 hs1
    go_wp2_with fail
    refine (rtake15_is w1.heap.size a1 n1 c1 zin w1 S1.out L1.out).mono ?_
    rw [HD.out]
    rintro e w2 ⟨⟨a2, n2, c2, rfl, hs2, hl2⟩, hb2⟩
    have R2 : Hid (w2.heap[w.heap.size]? = some (.cells #[Value.slice none 0 0, Value.int .u64 0, Value.int .u64 0, Value.int .u64 0, Value.int .u64 0, Value.slice none 0 0] 28 (0, 0))) := by show _ = _; rw [hb2.block _ (by have := Z1.out; omega)]; exact R1.out
    have B2 : Hid (Below w.heap.size w w2) := B1.out.trans (hb2.mono B1.out.size)
    have Z2 : Hid (w.heap.size + 1 ≤ w2.heap.size ∧ w1.heap.size ≤ w2.heap.size) := ⟨Nat.le_trans Z1.out hb2.size, hb2.size⟩
    have S2 := Lib.hid hs2
    have L2 := Lib.hid hl2
    clear hs2 hl2 hb2 R1 B1 S1 L1
    go_wp2
    go_loopw [7, 8, 10] (fun rv okv kv wr => ∃ (k c nb cb : Nat) (ao ab : Option Addr) (xs : List Sw) (bb : List Int) (ok : Bool), rv = .slice ab nb cb ∧ okv = .bool ok ∧ kv = .int .i64 (k : Int) ∧ k ≤ N ∧ Hid (ok0 = false → ok = false ∧ xs = [] ∧ bb = []) ∧ Hid (ok0 = true → StatesAt N b0 k (sts xs) bb ok) ∧ Hid (Sl .u8 wr ab nb cb bb) ∧ Hid (Low w1.heap.size ab nb) ∧ Hid (wr.heap[w.heap.size]? = some (.cells #[Value.slice none 0 0, Value.int .u64 0, Value.int .u64 0, Value.int .u64 0, Value.int .u64 0, Value.slice none 0 0] 28 (0, 0))) ∧ Hid (wr.heap[w2.heap.size]? = some (.cells #[Value.slice ao k c, Value.int .u64 0, Value.int .u64 0, Value.int .u64 0, Value.int .u64 0, Value.slice none 0 0] 28 (0, 0))) ∧ Hid (wr.ownsRow (w2.heap.size + 1) 42 2 (.slice ao k c) k (scells xs)) ∧ Hid (k = 0 → ao = none) ∧ Hid (∀ x ∈ xs, x.Good wr ∧ x.Front ∧ High (w2.heap.size + 1) x.a x.n) ∧ Hid (Below w.heap.size w wr) ∧ Hid (w2.heap.size + 1 ≤ wr.heap.size)) (fun _ _ kv _ => N - (intOf kv).toNat)
    case atStart =>
      refine ⟨0, 0, n2, c2, none, a2, [], b0, ok0, rfl, rfl, rfl, Nat.zero_le _, fun h => ⟨h, rfl, (HZ.out h).2⟩, fun h => ⟨rfl, by rw [if_pos h, Nat.sub_zero]; simp [sts]⟩, S2.out.alloc _, L2.out, ?_, heap_alloc_new _ _, World.ownsRow_nil _ _ _ _, fun _ => rfl, by first | exact (trivial : True) | (intro x hx; cases hx), B2.out.alloc B2.out.size _, by show _ ≤ _; simp⟩
      show _ = _
      rw [heap_alloc_old _ _ (by have := Z2.out; omega)]; exact R2.out
    case round =>
      obtain ⟨k, c, nb, cb, ao, ab, xs, bb, ok, rfl, rfl, rfl, hk, HE, HI, HX, HLW, H0, H1, HOW, HNO, HCH, HBW, HZW⟩ := hrel
      cases ok with
      | false =>
        have HSO : Hid (Img.dStatesOf zin = (sts xs, bb, false)) := by
          show _ = _
          rw [Img.dStatesOf, HD.out]
          cases h0 : ok0 with
          | false =>
            obtain ⟨_, h1, h2⟩ := HE.out h0
            subst h1 h2; rfl
          | true => exact (HI.out h0).done (.inr rfl)
        by_cases hlt : k < N
        · have hki : (k : Int) < (N : Int) := by omega
          obtain ⟨cc, b6, o6, hDC⟩ : ∃ N b0 ok0, Img.dCosts bb = (N, b0, ok0) := ⟨_, _, _, rfl⟩
          have HCC : Hid (Calls Tryz.prog 32 #[.slice ab nb cb] wr fun e w' => CostsIs w1.heap.size wr.heap.size w' e (cc, b6, o6) ∧ Below wr.heap.size wr w') := by
            rw [← hDC]
            exact rtakeCosts15_is w1.heap.size ab nb cb bb wr HX.out HLW.out (by have := Z2.out; have := HZW.out; omega)
          have HBODY : Hid (Img.dBody zin = (⟨sts xs, cc⟩, false && o6)) := by
            show _ = _
            rw [Img.dBody, HSO.out]
            simp only [hDC]
          have HFEW : Hid (cc.rules.length ≤ 20000) := by
            have h := Img.body_few zin
            rw [HBODY.out] at h
            simp only at h
            have := HZL.out
            show _ ≤ _
            omega
          clear hDC
          go_wp2_with fail
          refine HCC.out.mono ?_
          rintro e w5 ⟨⟨⟨cm, cl, co, ct, qa, qn, qc, rs⟩, a5, n5, c5, he, hcx, hcg, hch, hs5, hl5⟩, hb5⟩
          obtain rfl : e = .returned (.tuple #[.agg #[.int .u64 cm, .int .u64 cl, .int .u64 co, .int .u64 ct, .slice qa qn qc], .slice a5 n5 c5, .bool o6]) := he
          have HCX : Hid (Cw.c ⟨cm, cl, co, ct, qa, qn, qc, rs⟩ = cc) := hcx
          have HCG : Hid (Cw.Good w5 ⟨cm, cl, co, ct, qa, qn, qc, rs⟩ ∧ Cw.High (w2.heap.size + 1) ⟨cm, cl, co, ct, qa, qn, qc, rs⟩) := ⟨hcg, ⟨hch.1.mono HZW.out, fun x hx => ⟨(hch.2 x hx).1.mono HZW.out, (hch.2 x hx).2.mono HZW.out⟩⟩⟩
          have G0 : Hid (w5.heap[w.heap.size]? = some (.cells #[Value.slice none 0 0, Value.int .u64 0, Value.int .u64 0, Value.int .u64 0, Value.int .u64 0, Value.slice none 0 0] 28 (0, 0))) := by show _ = _; rw [hb5.block _ (by have := HZW.out; have := Z2.out; omega)]; exact H0.out
          have G1 : Hid (w5.heap[w2.heap.size]? = some (.cells #[Value.slice ao k c, Value.int .u64 0, Value.int .u64 0, Value.int .u64 0, Value.int .u64 0, Value.slice none 0 0] 28 (0, 0))) := by show _ = _; rw [hb5.block _ (by have := HZW.out; omega)]; exact H1.out
          have O5 := Lib.hid (ownsRow_below HOW.out hb5 (Nat.le_refl _))
          have C5 : Hid (∀ x ∈ xs, x.Good w5 ∧ x.Front ∧ High (w2.heap.size + 1) x.a x.n) := fun x hx => ⟨(HCH.out x hx).1.below hb5 (Nat.le_refl _), (HCH.out x hx).2⟩
          have Y5 : Hid (w2.heap.size + 1 ≤ w5.heap.size) := Nat.le_trans HZW.out hb5.size
          have E5 : Hid (Below w.heap.size w w5) := HBW.out.trans (hb5.mono HBW.out.size)
          have hq0 : w5.cell? ⟨w2.heap.size, 0, none⟩ = some (.slice ao k c) := by rw [cell_of_row w5 w2.heap.size 0 _ _ _ G1.out]; rfl
          have hq1 : w5.cell? ⟨w2.heap.size, 1, none⟩ = some (.int .u64 0) := by rw [cell_of_row w5 w2.heap.size 1 _ _ _ G1.out]; rfl
          have hq2 : w5.cell? ⟨w2.heap.size, 2, none⟩ = some (.int .u64 0) := by rw [cell_of_row w5 w2.heap.size 2 _ _ _ G1.out]; rfl
          have hq3 : w5.cell? ⟨w2.heap.size, 3, none⟩ = some (.int .u64 0) := by rw [cell_of_row w5 w2.heap.size 3 _ _ _ G1.out]; rfl
          have hq4 : w5.cell? ⟨w2.heap.size, 4, none⟩ = some (.int .u64 0) := by rw [cell_of_row w5 w2.heap.size 4 _ _ _ G1.out]; rfl
          have hq5 : w5.cell? ⟨w2.heap.size, 5, none⟩ = some (.slice none 0 0) := by rw [cell_of_row w5 w2.heap.size 5 _ _ _ G1.out]; rfl
          have hfz : ∀ j, w5.frozen? ⟨w2.heap.size, j, none⟩ = false := by
            intro j
            have h := G1.out
            simp [World.frozen?, h]
          have hlt5 : w2.heap.size < w5.heap.size := by have := Y5.out; omega
          clear hcx hcg hch hs5 hl5 hb5 HCC H0 H1 HOW HCH HZW HBW HX HLW
          go_wp2_with fail
          obtain ⟨WS, hWS⟩ : ∃ WS, WS = ((((w5.setCell ⟨w2.heap.size, 1, none⟩ (.int .u64 cm)).setCell ⟨w2.heap.size, 2, none⟩ (.int .u64 cl)).setCell ⟨w2.heap.size, 3, none⟩ (.int .u64 co)).setCell ⟨w2.heap.size, 4, none⟩ (.int .u64 ct)).setCell ⟨w2.heap.size, 5, none⟩ (.slice qa qn qc) := ⟨_, rfl⟩
          rw [← hWS]
          have HG : Hid (WS.heap[w2.heap.size]? = some (.cells #[Value.slice ao k c, Value.int .u64 cm, Value.int .u64 cl, Value.int .u64 co, Value.int .u64 ct, Value.slice qa qn qc] 28 (0, 0))) := by rw [hWS]; exact five_set G1.out
          have HSET : Hid (∀ b, b ≠ w2.heap.size → WS.heap[b]? = w5.heap[b]?) := by
            intro b' hb'
            rw [hWS, heap_setCell_other _ _ _ _ hb', heap_setCell_other _ _ _ _ hb', heap_setCell_other _ _ _ _ hb', heap_setCell_other _ _ _ _ hb', heap_setCell_other _ _ _ _ hb']
          have HSZ : Hid (WS.heap.size = w5.heap.size) := by show _ = _; rw [hWS]; simp
          have HBS : Hid (Below w.heap.size w WS) := by
            rw [hWS]
            have hw2 : w.heap.size ≤ w2.heap.size := by have := Z2.out; omega
            exact ((((E5.out.setCell (p := ⟨w2.heap.size, 1, none⟩) hw2 _).setCell (p := ⟨w2.heap.size, 2, none⟩) hw2 _).setCell (p := ⟨w2.heap.size, 3, none⟩) hw2 _).setCell (p := ⟨w2.heap.size, 4, none⟩) hw2 _).setCell (p := ⟨w2.heap.size, 5, none⟩) hw2 _
          have HR0 : Hid (WS.heap[w.heap.size]? = some (.cells #[Value.slice none 0 0, Value.int .u64 0, Value.int .u64 0, Value.int .u64 0, Value.int .u64 0, Value.slice none 0 0] 28 (0, 0))) := by show _ = _; rw [HSET.out _ (by have := Z2.out; omega)]; exact G0.out
          have HHI : Hid (High (w2.heap.size + 1) ao k ∧ (∀ y ∈ xs, High (w2.heap.size + 1) y.a y.n) ∧ Cw.High (w2.heap.size + 1) ⟨cm, cl, co, ct, qa, qn, qc, rs⟩) := ⟨High.of_owns O5.out, fun y hy => (C5.out y hy).2.2, HCG.out.2⟩
          have hsx : xs.length = k := by have h := O5.out.1; rw [scells_length] at h; omega
          have HXG : Hid (Iw.Good (WS.alloc (.cells #[Value.int .u64 cm, Value.int .u64 cl, Value.int .u64 co, Value.int .u64 ct, Value.slice qa qn qc] 26)) ⟨ao, k, c, xs, ⟨cm, cl, co, ct, qa, qn, qc, rs⟩⟩) := by
            refine Iw.Good.alloc (Iw.good_set (x := ⟨ao, k, c, xs, ⟨cm, cl, co, ct, qa, qn, qc, rs⟩⟩) (w := w5) (B := w2.heap.size + 1) ⟨Ss.of_owns O5.out (fun y hy => (C5.out y hy).1) hsx, HCG.out.1⟩ HHI.out.1 HHI.out.2.1 HHI.out.2.2 ?_) _
            intro b' h1 h2
            exact HSET.out b' (by omega)
          have hqn : qn ≤ 20000 := by
            have h := HFEW.out
            rw [← HCX.out] at h
            have h2 : (ruls rs).length ≤ 20000 := h
            rw [ruls_length, HCG.out.1.1.1] at h2
            exact h2
          clear hWS hq0 hq1 hq2 hq3 hq4 hq5 hfz hlt5 hsx G0 G1
          refine (rwrite15_is ⟨ao, k, c, xs, ⟨cm, cl, co, ct, qa, qn, qc, rs⟩⟩ _ HXG.out hqn).mono ?_
          rintro e w7 ⟨h7, hb7⟩
          have HXG7 := Lib.hid (HXG.out.below hb7 (Nat.le_refl _))
          have F0 : Hid (w7.heap[w.heap.size]? = some (.cells #[Value.slice none 0 0, Value.int .u64 0, Value.int .u64 0, Value.int .u64 0, Value.int .u64 0, Value.slice none 0 0] 28 (0, 0))) := by
            show _ = _
            rw [hb7.block _ (by have := HSZ.out; have := Y5.out; have := Z2.out; simp; omega), heap_alloc_old _ _ (by have := HSZ.out; have := Y5.out; have := Z2.out; omega)]; exact HR0.out
          have F1 : Hid (w7.heap[w2.heap.size]? = some (.cells #[Value.slice ao k c, Value.int .u64 cm, Value.int .u64 cl, Value.int .u64 co, Value.int .u64 ct, Value.slice qa qn qc] 28 (0, 0))) := by
            show _ = _
            rw [hb7.block _ (by have := HSZ.out; have := Y5.out; simp; omega), heap_alloc_old _ _ (by have := HSZ.out; have := Y5.out; omega)]; exact HG.out
          have B7 : Hid (Below w.heap.size w w7) := (HBS.out.alloc HBS.out.size _).trans (hb7.mono (by have := HBS.out.size; simp; omega))
          have Y7 : Hid (w2.heap.size + 1 ≤ w7.heap.size) := by have h := hb7.size; have := HSZ.out; have := Y5.out; show _ ≤ _; simp at h; omega
          have HPL : Hid (Img.Plain cc) := by rw [← HCX.out]; exact HCG.out.1.plain
          have HIM : Hid (Iw.im ⟨ao, k, c, xs, ⟨cm, cl, co, ct, qa, qn, qc, rs⟩⟩ = ⟨sts xs, cc⟩) := by show _ = _; rw [Iw.im]; simp only; rw [HCX.out]
          rw [HIM.out] at h7
          have HB9 : Hid (b.length ≤ 1000000) := by show _ ≤ _; rw [HLB.out]; omega
          clear hb7 HXG HG HSET HSZ HBS HR0 O5 C5 Y5 E5 HCG
          rcases h7 with ⟨hc, rfl⟩ | ⟨hc1, hc2, rfl⟩ | ⟨hc1, hc2, a7, n7, c7, rfl, hs7⟩
          · clear hc
            have HF : Hid (Img.read b = .inr 150) := Img.read_bad HR.out HBODY.out HB9.out (by intro h; cases h)
            go_wp2_with (refine wpList_store_g (by rfl) 28 (.tmp 2) (.tmp 87) (by rfl) w.heap.size #[Value.slice none 0 0, Value.int .u64 0, Value.int .u64 0, Value.int .u64 0, Value.int .u64 0, Value.slice none 0 0] (by rfl) (by rfl) 28 #[Value.slice none 0 0, Value.int .u64 0, Value.int .u64 0, Value.int .u64 0, Value.int .u64 0, Value.slice none 0 0] F0.out info_im6 rfl (by simp [Value.oneCell']) ?_; intro we hwe hge hsze; have HWE := Lib.hid hwe; have HGE := Lib.hid hge; clear hwe hge hsze)
            try rw [Exit.noGoto_ret]
            refine bodyPost_ret (results_cell_row_tmp rfl _ _ w.heap.size 28 #[Value.slice none 0 0, Value.int .u64 0, Value.int .u64 0, Value.int .u64 0, Value.int .u64 0, Value.slice none 0 0] (0, 0) _ (by rfl) HWE.out Tryz.underlying28 (by rfl) info_im6) rfl ?_
            exact ⟨.inr ⟨150, HF.out, rfl⟩, B7.out.grown HGE.out B7.out.size (fun k hk => by cases hk; exact Nat.le_refl _)⟩
          · clear hc1 hc2
            have HF : Hid (Img.read b = .inr 150) := Img.read_bad HR.out HBODY.out HB9.out (by intro h; cases h)
            go_wp2_with (refine wpList_store_g (by rfl) 28 (.tmp 2) (.tmp 87) (by rfl) w.heap.size #[Value.slice none 0 0, Value.int .u64 0, Value.int .u64 0, Value.int .u64 0, Value.int .u64 0, Value.slice none 0 0] (by rfl) (by rfl) 28 #[Value.slice none 0 0, Value.int .u64 0, Value.int .u64 0, Value.int .u64 0, Value.int .u64 0, Value.slice none 0 0] F0.out info_im6 rfl (by simp [Value.oneCell']) ?_; intro we hwe hge hsze; have HWE := Lib.hid hwe; have HGE := Lib.hid hge; clear hwe hge hsze)
            try rw [Exit.noGoto_ret]
            refine bodyPost_ret (results_cell_row_tmp rfl _ _ w.heap.size 28 #[Value.slice none 0 0, Value.int .u64 0, Value.int .u64 0, Value.int .u64 0, Value.int .u64 0, Value.slice none 0 0] (0, 0) _ (by rfl) HWE.out Tryz.underlying28 (by rfl) info_im6) rfl ?_
            exact ⟨.inr ⟨150, HF.out, rfl⟩, B7.out.grown HGE.out B7.out.size (fun k hk => by cases hk; exact Nat.le_refl _)⟩
          · clear hc1 hc2 hs7
            have HF : Hid (Img.read b = .inr 150) := Img.read_bad HR.out HBODY.out HB9.out (by intro h; cases h)
            go_wp2_with (refine wpList_store_g (by rfl) 28 (.tmp 2) (.tmp 87) (by rfl) w.heap.size #[Value.slice none 0 0, Value.int .u64 0, Value.int .u64 0, Value.int .u64 0, Value.int .u64 0, Value.slice none 0 0] (by rfl) (by rfl) 28 #[Value.slice none 0 0, Value.int .u64 0, Value.int .u64 0, Value.int .u64 0, Value.int .u64 0, Value.slice none 0 0] F0.out info_im6 rfl (by simp [Value.oneCell']) ?_; intro we hwe hge hsze; have HWE := Lib.hid hwe; have HGE := Lib.hid hge; clear hwe hge hsze)
            try rw [Exit.noGoto_ret]
            refine bodyPost_ret (results_cell_row_tmp rfl _ _ w.heap.size 28 #[Value.slice none 0 0, Value.int .u64 0, Value.int .u64 0, Value.int .u64 0, Value.int .u64 0, Value.slice none 0 0] (0, 0) _ (by rfl) HWE.out Tryz.underlying28 (by rfl) info_im6) rfl ?_
            exact ⟨.inr ⟨150, HF.out, rfl⟩, B7.out.grown HGE.out B7.out.size (fun k hk => by cases hk; exact Nat.le_refl _)⟩
        · have hki : ¬ (k : Int) < (N : Int) := by omega
          obtain ⟨cc, b6, o6, hDC⟩ : ∃ N b0 ok0, Img.dCosts bb = (N, b0, ok0) := ⟨_, _, _, rfl⟩
          have HCC : Hid (Calls Tryz.prog 32 #[.slice ab nb cb] wr fun e w' => CostsIs w1.heap.size wr.heap.size w' e (cc, b6, o6) ∧ Below wr.heap.size wr w') := by
            rw [← hDC]
            exact rtakeCosts15_is w1.heap.size ab nb cb bb wr HX.out HLW.out (by have := Z2.out; have := HZW.out; omega)
          have HBODY : Hid (Img.dBody zin = (⟨sts xs, cc⟩, false && o6)) := by
            show _ = _
            rw [Img.dBody, HSO.out]
            simp only [hDC]
          have HFEW : Hid (cc.rules.length ≤ 20000) := by
            have h := Img.body_few zin
            rw [HBODY.out] at h
            simp only at h
            have := HZL.out
            show _ ≤ _
            omega
          clear hDC
          go_wp2_with fail
          refine HCC.out.mono ?_
          rintro e w5 ⟨⟨⟨cm, cl, co, ct, qa, qn, qc, rs⟩, a5, n5, c5, he, hcx, hcg, hch, hs5, hl5⟩, hb5⟩
          obtain rfl : e = .returned (.tuple #[.agg #[.int .u64 cm, .int .u64 cl, .int .u64 co, .int .u64 ct, .slice qa qn qc], .slice a5 n5 c5, .bool o6]) := he
          have HCX : Hid (Cw.c ⟨cm, cl, co, ct, qa, qn, qc, rs⟩ = cc) := hcx
          have HCG : Hid (Cw.Good w5 ⟨cm, cl, co, ct, qa, qn, qc, rs⟩ ∧ Cw.High (w2.heap.size + 1) ⟨cm, cl, co, ct, qa, qn, qc, rs⟩) := ⟨hcg, ⟨hch.1.mono HZW.out, fun x hx => ⟨(hch.2 x hx).1.mono HZW.out, (hch.2 x hx).2.mono HZW.out⟩⟩⟩
          have G0 : Hid (w5.heap[w.heap.size]? = some (.cells #[Value.slice none 0 0, Value.int .u64 0, Value.int .u64 0, Value.int .u64 0, Value.int .u64 0, Value.slice none 0 0] 28 (0, 0))) := by show _ = _; rw [hb5.block _ (by have := HZW.out; have := Z2.out; omega)]; exact H0.out
          have G1 : Hid (w5.heap[w2.heap.size]? = some (.cells #[Value.slice ao k c, Value.int .u64 0, Value.int .u64 0, Value.int .u64 0, Value.int .u64 0, Value.slice none 0 0] 28 (0, 0))) := by show _ = _; rw [hb5.block _ (by have := HZW.out; omega)]; exact H1.out
          have O5 := Lib.hid (ownsRow_below HOW.out hb5 (Nat.le_refl _))
          have C5 : Hid (∀ x ∈ xs, x.Good w5 ∧ x.Front ∧ High (w2.heap.size + 1) x.a x.n) := fun x hx => ⟨(HCH.out x hx).1.below hb5 (Nat.le_refl _), (HCH.out x hx).2⟩
          have Y5 : Hid (w2.heap.size + 1 ≤ w5.heap.size) := Nat.le_trans HZW.out hb5.size
          have E5 : Hid (Below w.heap.size w w5) := HBW.out.trans (hb5.mono HBW.out.size)
          have hq0 : w5.cell? ⟨w2.heap.size, 0, none⟩ = some (.slice ao k c) := by rw [cell_of_row w5 w2.heap.size 0 _ _ _ G1.out]; rfl
          have hq1 : w5.cell? ⟨w2.heap.size, 1, none⟩ = some (.int .u64 0) := by rw [cell_of_row w5 w2.heap.size 1 _ _ _ G1.out]; rfl
          have hq2 : w5.cell? ⟨w2.heap.size, 2, none⟩ = some (.int .u64 0) := by rw [cell_of_row w5 w2.heap.size 2 _ _ _ G1.out]; rfl
          have hq3 : w5.cell? ⟨w2.heap.size, 3, none⟩ = some (.int .u64 0) := by rw [cell_of_row w5 w2.heap.size 3 _ _ _ G1.out]; rfl
          have hq4 : w5.cell? ⟨w2.heap.size, 4, none⟩ = some (.int .u64 0) := by rw [cell_of_row w5 w2.heap.size 4 _ _ _ G1.out]; rfl
          have hq5 : w5.cell? ⟨w2.heap.size, 5, none⟩ = some (.slice none 0 0) := by rw [cell_of_row w5 w2.heap.size 5 _ _ _ G1.out]; rfl
          have hfz : ∀ j, w5.frozen? ⟨w2.heap.size, j, none⟩ = false := by
            intro j
            have h := G1.out
            simp [World.frozen?, h]
          have hlt5 : w2.heap.size < w5.heap.size := by have := Y5.out; omega
          clear hcx hcg hch hs5 hl5 hb5 HCC H0 H1 HOW HCH HZW HBW HX HLW
          go_wp2_with fail
          obtain ⟨WS, hWS⟩ : ∃ WS, WS = ((((w5.setCell ⟨w2.heap.size, 1, none⟩ (.int .u64 cm)).setCell ⟨w2.heap.size, 2, none⟩ (.int .u64 cl)).setCell ⟨w2.heap.size, 3, none⟩ (.int .u64 co)).setCell ⟨w2.heap.size, 4, none⟩ (.int .u64 ct)).setCell ⟨w2.heap.size, 5, none⟩ (.slice qa qn qc) := ⟨_, rfl⟩
          rw [← hWS]
          have HG : Hid (WS.heap[w2.heap.size]? = some (.cells #[Value.slice ao k c, Value.int .u64 cm, Value.int .u64 cl, Value.int .u64 co, Value.int .u64 ct, Value.slice qa qn qc] 28 (0, 0))) := by rw [hWS]; exact five_set G1.out
          have HSET : Hid (∀ b, b ≠ w2.heap.size → WS.heap[b]? = w5.heap[b]?) := by
            intro b' hb'
            rw [hWS, heap_setCell_other _ _ _ _ hb', heap_setCell_other _ _ _ _ hb', heap_setCell_other _ _ _ _ hb', heap_setCell_other _ _ _ _ hb', heap_setCell_other _ _ _ _ hb']
          have HSZ : Hid (WS.heap.size = w5.heap.size) := by show _ = _; rw [hWS]; simp
          have HBS : Hid (Below w.heap.size w WS) := by
            rw [hWS]
            have hw2 : w.heap.size ≤ w2.heap.size := by have := Z2.out; omega
            exact ((((E5.out.setCell (p := ⟨w2.heap.size, 1, none⟩) hw2 _).setCell (p := ⟨w2.heap.size, 2, none⟩) hw2 _).setCell (p := ⟨w2.heap.size, 3, none⟩) hw2 _).setCell (p := ⟨w2.heap.size, 4, none⟩) hw2 _).setCell (p := ⟨w2.heap.size, 5, none⟩) hw2 _
          have HR0 : Hid (WS.heap[w.heap.size]? = some (.cells #[Value.slice none 0 0, Value.int .u64 0, Value.int .u64 0, Value.int .u64 0, Value.int .u64 0, Value.slice none 0 0] 28 (0, 0))) := by show _ = _; rw [HSET.out _ (by have := Z2.out; omega)]; exact G0.out
          have HHI : Hid (High (w2.heap.size + 1) ao k ∧ (∀ y ∈ xs, High (w2.heap.size + 1) y.a y.n) ∧ Cw.High (w2.heap.size + 1) ⟨cm, cl, co, ct, qa, qn, qc, rs⟩) := ⟨High.of_owns O5.out, fun y hy => (C5.out y hy).2.2, HCG.out.2⟩
          have hsx : xs.length = k := by have h := O5.out.1; rw [scells_length] at h; omega
          have HXG : Hid (Iw.Good (WS.alloc (.cells #[Value.int .u64 cm, Value.int .u64 cl, Value.int .u64 co, Value.int .u64 ct, Value.slice qa qn qc] 26)) ⟨ao, k, c, xs, ⟨cm, cl, co, ct, qa, qn, qc, rs⟩⟩) := by
            refine Iw.Good.alloc (Iw.good_set (x := ⟨ao, k, c, xs, ⟨cm, cl, co, ct, qa, qn, qc, rs⟩⟩) (w := w5) (B := w2.heap.size + 1) ⟨Ss.of_owns O5.out (fun y hy => (C5.out y hy).1) hsx, HCG.out.1⟩ HHI.out.1 HHI.out.2.1 HHI.out.2.2 ?_) _
            intro b' h1 h2
            exact HSET.out b' (by omega)
          have hqn : qn ≤ 20000 := by
            have h := HFEW.out
            rw [← HCX.out] at h
            have h2 : (ruls rs).length ≤ 20000 := h
            rw [ruls_length, HCG.out.1.1.1] at h2
            exact h2
          clear hWS hq0 hq1 hq2 hq3 hq4 hq5 hfz hlt5 hsx G0 G1
          refine (rwrite15_is ⟨ao, k, c, xs, ⟨cm, cl, co, ct, qa, qn, qc, rs⟩⟩ _ HXG.out hqn).mono ?_
          rintro e w7 ⟨h7, hb7⟩
          have HXG7 := Lib.hid (HXG.out.below hb7 (Nat.le_refl _))
          have F0 : Hid (w7.heap[w.heap.size]? = some (.cells #[Value.slice none 0 0, Value.int .u64 0, Value.int .u64 0, Value.int .u64 0, Value.int .u64 0, Value.slice none 0 0] 28 (0, 0))) := by
            show _ = _
            rw [hb7.block _ (by have := HSZ.out; have := Y5.out; have := Z2.out; simp; omega), heap_alloc_old _ _ (by have := HSZ.out; have := Y5.out; have := Z2.out; omega)]; exact HR0.out
          have F1 : Hid (w7.heap[w2.heap.size]? = some (.cells #[Value.slice ao k c, Value.int .u64 cm, Value.int .u64 cl, Value.int .u64 co, Value.int .u64 ct, Value.slice qa qn qc] 28 (0, 0))) := by
            show _ = _
            rw [hb7.block _ (by have := HSZ.out; have := Y5.out; simp; omega), heap_alloc_old _ _ (by have := HSZ.out; have := Y5.out; omega)]; exact HG.out
          have B7 : Hid (Below w.heap.size w w7) := (HBS.out.alloc HBS.out.size _).trans (hb7.mono (by have := HBS.out.size; simp; omega))
          have Y7 : Hid (w2.heap.size + 1 ≤ w7.heap.size) := by have h := hb7.size; have := HSZ.out; have := Y5.out; show _ ≤ _; simp at h; omega
          have HPL : Hid (Img.Plain cc) := by rw [← HCX.out]; exact HCG.out.1.plain
          have HIM : Hid (Iw.im ⟨ao, k, c, xs, ⟨cm, cl, co, ct, qa, qn, qc, rs⟩⟩ = ⟨sts xs, cc⟩) := by show _ = _; rw [Iw.im]; simp only; rw [HCX.out]
          rw [HIM.out] at h7
          have HB9 : Hid (b.length ≤ 1000000) := by show _ ≤ _; rw [HLB.out]; omega
          clear hb7 HXG HG HSET HSZ HBS HR0 O5 C5 Y5 E5 HCG
          rcases h7 with ⟨hc, rfl⟩ | ⟨hc1, hc2, rfl⟩ | ⟨hc1, hc2, a7, n7, c7, rfl, hs7⟩
          · clear hc
            have HF : Hid (Img.read b = .inr 150) := Img.read_bad HR.out HBODY.out HB9.out (by intro h; cases h)
            go_wp2_with (refine wpList_store_g (by rfl) 28 (.tmp 2) (.tmp 87) (by rfl) w.heap.size #[Value.slice none 0 0, Value.int .u64 0, Value.int .u64 0, Value.int .u64 0, Value.int .u64 0, Value.slice none 0 0] (by rfl) (by rfl) 28 #[Value.slice none 0 0, Value.int .u64 0, Value.int .u64 0, Value.int .u64 0, Value.int .u64 0, Value.slice none 0 0] F0.out info_im6 rfl (by simp [Value.oneCell']) ?_; intro we hwe hge hsze; have HWE := Lib.hid hwe; have HGE := Lib.hid hge; clear hwe hge hsze)
            try rw [Exit.noGoto_ret]
            refine bodyPost_ret (results_cell_row_tmp rfl _ _ w.heap.size 28 #[Value.slice none 0 0, Value.int .u64 0, Value.int .u64 0, Value.int .u64 0, Value.int .u64 0, Value.slice none 0 0] (0, 0) _ (by rfl) HWE.out Tryz.underlying28 (by rfl) info_im6) rfl ?_
            exact ⟨.inr ⟨150, HF.out, rfl⟩, B7.out.grown HGE.out B7.out.size (fun k hk => by cases hk; exact Nat.le_refl _)⟩
          · clear hc1 hc2
            have HF : Hid (Img.read b = .inr 150) := Img.read_bad HR.out HBODY.out HB9.out (by intro h; cases h)
            go_wp2_with (refine wpList_store_g (by rfl) 28 (.tmp 2) (.tmp 87) (by rfl) w.heap.size #[Value.slice none 0 0, Value.int .u64 0, Value.int .u64 0, Value.int .u64 0, Value.int .u64 0, Value.slice none 0 0] (by rfl) (by rfl) 28 #[Value.slice none 0 0, Value.int .u64 0, Value.int .u64 0, Value.int .u64 0, Value.int .u64 0, Value.slice none 0 0] F0.out info_im6 rfl (by simp [Value.oneCell']) ?_; intro we hwe hge hsze; have HWE := Lib.hid hwe; have HGE := Lib.hid hge; clear hwe hge hsze)
            try rw [Exit.noGoto_ret]
            refine bodyPost_ret (results_cell_row_tmp rfl _ _ w.heap.size 28 #[Value.slice none 0 0, Value.int .u64 0, Value.int .u64 0, Value.int .u64 0, Value.int .u64 0, Value.slice none 0 0] (0, 0) _ (by rfl) HWE.out Tryz.underlying28 (by rfl) info_im6) rfl ?_
            exact ⟨.inr ⟨150, HF.out, rfl⟩, B7.out.grown HGE.out B7.out.size (fun k hk => by cases hk; exact Nat.le_refl _)⟩
          · clear hc1 hc2 hs7
            have HF : Hid (Img.read b = .inr 150) := Img.read_bad HR.out HBODY.out HB9.out (by intro h; cases h)
            go_wp2_with (refine wpList_store_g (by rfl) 28 (.tmp 2) (.tmp 87) (by rfl) w.heap.size #[Value.slice none 0 0, Value.int .u64 0, Value.int .u64 0, Value.int .u64 0, Value.int .u64 0, Value.slice none 0 0] (by rfl) (by rfl) 28 #[Value.slice none 0 0, Value.int .u64 0, Value.int .u64 0, Value.int .u64 0, Value.int .u64 0, Value.slice none 0 0] F0.out info_im6 rfl (by simp [Value.oneCell']) ?_; intro we hwe hge hsze; have HWE := Lib.hid hwe; have HGE := Lib.hid hge; clear hwe hge hsze)
            try rw [Exit.noGoto_ret]
            refine bodyPost_ret (results_cell_row_tmp rfl _ _ w.heap.size 28 #[Value.slice none 0 0, Value.int .u64 0, Value.int .u64 0, Value.int .u64 0, Value.int .u64 0, Value.slice none 0 0] (0, 0) _ (by rfl) HWE.out Tryz.underlying28 (by rfl) info_im6) rfl ?_
            exact ⟨.inr ⟨150, HF.out, rfl⟩, B7.out.grown HGE.out B7.out.size (fun k hk => by cases hk; exact Nat.le_refl _)⟩
      | true =>
        have h0 : ok0 = true := by
          cases h : ok0 with
          | true => rfl
          | false => have := (HE.out h).1; cases this
        have HIN := Lib.hid (HI.out h0)
        by_cases hlt : k < N
        · skip
          have hki : (k : Int) < (N : Int) := by omega
          have hin := HIN.out.next hlt
          obtain ⟨st, b4, o4, hD4⟩ : ∃ N b0 ok0, Img.dState (k : Int) bb = (N, b0, ok0) := ⟨_, _, _, rfl⟩
          rw [hD4] at hin
          simp only at hin
          have HNX := Lib.hid hin
          have HSC : Hid (Calls Tryz.prog 31 #[.slice ab nb cb, .int .i64 (k : Int)] wr fun e w' => StateIs w1.heap.size wr.heap.size w' e (st, b4, o4) ∧ Below wr.heap.size wr w') := by
            rw [← hD4]
            exact rtakeState15_is w1.heap.size ab nb cb bb k wr HX.out HLW.out (by have := Z2.out; have := HZW.out; omega) (by omega)
          have HOK := Lib.hid h0
          clear hD4 hin h0
          go_wp2_with fail
          refine HSC.out.mono ?_
          rintro e w3 ⟨⟨⟨ff, ta, tn, tc, arcs⟩, a3, n3, c3, he, hst, hgd, hfr, hhi, hs3, hl3⟩, hb3⟩
          obtain rfl : e = .returned (.tuple #[.agg #[.bool ff, .slice ta tn tc], .slice a3 n3 c3, .bool o4]) := he
          have HST : Hid (Sw.st ⟨ff, ta, tn, tc, arcs⟩ = st) := hst
          have HGD : Hid (Sw.Good w3 ⟨ff, ta, tn, tc, arcs⟩ ∧ Sw.Front ⟨ff, ta, tn, tc, arcs⟩ ∧ High (w2.heap.size + 1) ta tn) := ⟨hgd, hfr, hhi.mono HZW.out⟩
          have S3 := Lib.hid hs3
          have L3 := Lib.hid hl3
          have G0 : Hid (w3.heap[w.heap.size]? = some (.cells #[Value.slice none 0 0, Value.int .u64 0, Value.int .u64 0, Value.int .u64 0, Value.int .u64 0, Value.slice none 0 0] 28 (0, 0))) := by show _ = _; rw [hb3.block _ (by have := HZW.out; have := Z2.out; omega)]; exact H0.out
          have G1 : Hid (w3.heap[w2.heap.size]? = some (.cells #[Value.slice ao k c, Value.int .u64 0, Value.int .u64 0, Value.int .u64 0, Value.int .u64 0, Value.slice none 0 0] 28 (0, 0))) := by show _ = _; rw [hb3.block _ (by have := HZW.out; omega)]; exact H1.out
          have O3 := Lib.hid (ownsRow_below HOW.out hb3 (Nat.le_refl _))
          have C3 : Hid (∀ x ∈ xs, x.Good w3 ∧ x.Front ∧ High (w2.heap.size + 1) x.a x.n) := fun x hx => ⟨(HCH.out x hx).1.below hb3 (Nat.le_refl _), (HCH.out x hx).2⟩
          have Y3 : Hid (w2.heap.size + 1 ≤ w3.heap.size) := Nat.le_trans HZW.out hb3.size
          have E3 : Hid (Below w.heap.size w w3) := HBW.out.trans (hb3.mono HBW.out.size)
          have hx3 : w3.cell? ⟨w2.heap.size, 0, none⟩ = some (.slice ao k c) := by rw [cell_of_row w3 w2.heap.size 0 _ _ _ G1.out]; rfl
          have hlt3 : w2.heap.size < w3.heap.size := by have := Y3.out; omega
          clear hst hgd hfr hhi hs3 hl3 hb3 HSC H0 H1 HOW HCH HZW HBW HX HLW
          have HA0 : Hid (((w3.alloc (.cells #[.bool ff, .slice ta tn tc] 42)).alloc (.cells #[.bool ff, .slice ta tn tc] 42)).cell? ⟨w3.heap.size + 1, 0, none⟩ = some (.bool ff) ∧ ((w3.alloc (.cells #[.bool ff, .slice ta tn tc] 42)).alloc (.cells #[.bool ff, .slice ta tn tc] 42)).cell? ⟨w3.heap.size + 1, 1, none⟩ = some (.slice ta tn tc)) := by
            have h := lit2 (w3.alloc (.cells #[.bool ff, .slice ta tn tc] 42)) (.bool ff) (.slice ta tn tc) 42 (0, 0)
            rw [World.size_alloc] at h; exact h
          go_wp2_with (at_builtin; refine append_state (by rfl) (.tmp 50) (.tmp 52) (by rfl) (w2.heap.size + 1) _ k xs (by rfl) (ownsRow_below (ownsRow_below O3.out ((Below.refl w3.heap.size w3).alloc (Nat.le_refl _) _) (Nat.le_refl _)) ((Below.refl _ _).alloc (Nat.le_refl _) _) (Nat.le_refl _)) (w3.heap.size + 1) ⟨ff, ta, tn, tc, arcs⟩ (by rfl) HA0.out.1 HA0.out.2 (k + 1) rfl (by omega) (by have := Y3.out; simp; omega) ?_; intro a5 c5 w5 hown5 hb5 hg5 hnil5; have O5 := Lib.hid hown5; have GR5 := Lib.hid hg5; have B5 : Hid (Below (w2.heap.size + 1) w3 w5) := (((Below.refl _ w3).alloc Y3.out _).alloc (by have := Y3.out; simp; omega) _).trans hb5; have hx5 : w5.cell? ⟨w2.heap.size, 0, none⟩ = some (.slice ao k c) := (by rw [B5.out.cell (p := ⟨w2.heap.size, 0, none⟩) (by show w2.heap.size < w2.heap.size + 1; omega)]; exact hx3); have hf5 : w5.frozen? ⟨w2.heap.size, 0, none⟩ = false := (by have h : w5.heap[w2.heap.size]? = _ := B5.out.block w2.heap.size (by omega); rw [G1.out] at h; simp [World.frozen?, h]); clear hown5 hb5 hg5 hnil5)
          go_roundw
          case rel =>
            obtain ⟨WA, hWA⟩ : ∃ WA, WA = (w3.alloc (.cells #[.bool ff, .slice ta tn tc] 42)).alloc (.cells #[.bool ff, .slice ta tn tc] 42) := ⟨_, rfl⟩
            have hgr := GR5.out
            rw [← hWA] at hgr
            have hga : ∀ {x : Sw}, x.Good w3 → x.Good WA := by intro x h; rw [hWA]; exact (h.alloc _).alloc _
            have hoa : WA.ownsRow (w2.heap.size + 1) 42 2 (.slice ao k c) k (scells xs) := by
              rw [hWA]; exact ownsRow_below (ownsRow_below O3.out ((Below.refl w3.heap.size w3).alloc (Nat.le_refl _) _) (Nat.le_refl _)) ((Below.refl _ _).alloc (Nat.le_refl _) _) (Nat.le_refl _)
            have hlx : xs.length = k := by have h := O3.out.1; rw [scells_length] at h; omega
            have hap : ∀ b, (Value.slice ao k c).ownBlock = some b → ∀ z : Int, WA.cell? ⟨b, 0, none⟩ ≠ some (.int .i64 z) := by
              intro b' hb' z
              by_cases hk0 : k = 0
              · rw [HNO.out hk0] at hb'; cases hb'
              · exact owns_front hoa b' hb' (by intro e; rw [e] at hlx; exact hk0 hlx.symm) z
            have BE : Below w.heap.size w3 (w5.setCell ⟨w2.heap.size, 0, none⟩ (.slice a5 (k + 1) c5)) := (B5.out.mono (by have := Z2.out; omega)).setCell (p := ⟨w2.heap.size, 0, none⟩) (by show w.heap.size ≤ w2.heap.size; have := Z2.out; omega) _
            have BE1 : Below w1.heap.size w3 (w5.setCell ⟨w2.heap.size, 0, none⟩ (.slice a5 (k + 1) c5)) := (B5.out.mono (by have := Z2.out; omega)).setCell (p := ⟨w2.heap.size, 0, none⟩) (by show w1.heap.size ≤ w2.heap.size; have := Z2.out; omega) _
            have h5 : w5.heap[w2.heap.size]? = _ := B5.out.block w2.heap.size (by omega)
            rw [G1.out] at h5
            have h6 : w5.heap[w.heap.size]? = _ := B5.out.block w.heap.size (by have := Z2.out; omega)
            rw [G0.out] at h6
            have hset : ∀ b, w2.heap.size + 1 ≤ b → b < w5.heap.size → (w5.setCell ⟨w2.heap.size, 0, none⟩ (.slice a5 (k + 1) c5)).heap[b]? = w5.heap[b]? := by
              intro b' h1 h2
              rw [heap_setCell_other _ _ _ _ (by show b' ≠ w2.heap.size; omega)]
            have hsl : ∀ {x : Sw}, x.Good w3 → x.Front → High (w2.heap.size + 1) x.a x.n → x.Good (w5.setCell ⟨w2.heap.size, 0, none⟩ (.slice a5 (k + 1) c5)) := by
              intro x hg hf hh
              exact ((hga hg).apart hf hgr hap).high hh hset
            refine ⟨k + 1, c5, n3, c3, a5, a3, xs ++ [Sw.mk ff ta tn tc arcs], b4, o4, rfl, rfl, by go_num, by omega, fun h => absurd (HOK.out.symm.trans h) (by simp), fun _ => ?_, S3.out.low L3.out BE1, L3.out, ?_, ?_, ownsRow_setCell_below (a := ⟨w2.heap.size, 0, none⟩) O5.out (by show w2.heap.size < w2.heap.size + 1; omega) _, fun h => by omega, ?_, E3.out.trans BE, ?_⟩
            · show StatesAt _ _ _ _ _ _
              rw [sts_app, show sts [Sw.mk ff ta tn tc arcs] = [st] from by rw [← HST.out]; rfl]; exact HNX.out
            · show (World.setCell _ _ _).heap[_]? = _
              rw [heap_setCell_other _ _ _ _ (by show w.heap.size ≠ w2.heap.size; have := Z2.out; omega)]; exact h6
            · show (World.setCell _ _ _).heap[_]? = _
              rw [heap_setCell_same _ _ _ _ _ _ h5]; rfl
            · intro x hx
              rcases List.mem_append.1 hx with hx | hx
              · obtain ⟨g1, g2, g3⟩ := C3.out x hx
                exact ⟨hsl g1 g2 g3, g2, g3⟩
              · simp only [List.mem_singleton] at hx
                subst hx
                exact ⟨hsl HGD.out.1 HGD.out.2.1 HGD.out.2.2, HGD.out.2.1, HGD.out.2.2⟩
            · show _ ≤ _
              have := B5.out.size
              have := Y3.out
              simp
              omega
          case measure => simp [intOf]; omega
        · obtain rfl : k = N := by omega
          have HSO : Hid (Img.dStatesOf zin = (sts xs, bb, true)) := by
            show _ = _
            rw [Img.dStatesOf, HD.out, h0]
            exact HIN.out.done (.inl rfl)
          obtain ⟨cc, b6, o6, hDC⟩ : ∃ N b0 ok0, Img.dCosts bb = (N, b0, ok0) := ⟨_, _, _, rfl⟩
          have HCC : Hid (Calls Tryz.prog 32 #[.slice ab nb cb] wr fun e w' => CostsIs w1.heap.size wr.heap.size w' e (cc, b6, o6) ∧ Below wr.heap.size wr w') := by
            rw [← hDC]
            exact rtakeCosts15_is w1.heap.size ab nb cb bb wr HX.out HLW.out (by have := Z2.out; have := HZW.out; omega)
          have HBODY : Hid (Img.dBody zin = (⟨sts xs, cc⟩, true && o6)) := by
            show _ = _
            rw [Img.dBody, HSO.out]
            simp only [hDC]
          have HFEW : Hid (cc.rules.length ≤ 20000) := by
            have h := Img.body_few zin
            rw [HBODY.out] at h
            simp only at h
            have := HZL.out
            show _ ≤ _
            omega
          clear hDC
          go_wp2_with fail
          refine HCC.out.mono ?_
          rintro e w5 ⟨⟨⟨cm, cl, co, ct, qa, qn, qc, rs⟩, a5, n5, c5, he, hcx, hcg, hch, hs5, hl5⟩, hb5⟩
          obtain rfl : e = .returned (.tuple #[.agg #[.int .u64 cm, .int .u64 cl, .int .u64 co, .int .u64 ct, .slice qa qn qc], .slice a5 n5 c5, .bool o6]) := he
          have HCX : Hid (Cw.c ⟨cm, cl, co, ct, qa, qn, qc, rs⟩ = cc) := hcx
          have HCG : Hid (Cw.Good w5 ⟨cm, cl, co, ct, qa, qn, qc, rs⟩ ∧ Cw.High (w2.heap.size + 1) ⟨cm, cl, co, ct, qa, qn, qc, rs⟩) := ⟨hcg, ⟨hch.1.mono HZW.out, fun x hx => ⟨(hch.2 x hx).1.mono HZW.out, (hch.2 x hx).2.mono HZW.out⟩⟩⟩
          have G0 : Hid (w5.heap[w.heap.size]? = some (.cells #[Value.slice none 0 0, Value.int .u64 0, Value.int .u64 0, Value.int .u64 0, Value.int .u64 0, Value.slice none 0 0] 28 (0, 0))) := by show _ = _; rw [hb5.block _ (by have := HZW.out; have := Z2.out; omega)]; exact H0.out
          have G1 : Hid (w5.heap[w2.heap.size]? = some (.cells #[Value.slice ao k c, Value.int .u64 0, Value.int .u64 0, Value.int .u64 0, Value.int .u64 0, Value.slice none 0 0] 28 (0, 0))) := by show _ = _; rw [hb5.block _ (by have := HZW.out; omega)]; exact H1.out
          have O5 := Lib.hid (ownsRow_below HOW.out hb5 (Nat.le_refl _))
          have C5 : Hid (∀ x ∈ xs, x.Good w5 ∧ x.Front ∧ High (w2.heap.size + 1) x.a x.n) := fun x hx => ⟨(HCH.out x hx).1.below hb5 (Nat.le_refl _), (HCH.out x hx).2⟩
          have Y5 : Hid (w2.heap.size + 1 ≤ w5.heap.size) := Nat.le_trans HZW.out hb5.size
          have E5 : Hid (Below w.heap.size w w5) := HBW.out.trans (hb5.mono HBW.out.size)
          have hq0 : w5.cell? ⟨w2.heap.size, 0, none⟩ = some (.slice ao k c) := by rw [cell_of_row w5 w2.heap.size 0 _ _ _ G1.out]; rfl
          have hq1 : w5.cell? ⟨w2.heap.size, 1, none⟩ = some (.int .u64 0) := by rw [cell_of_row w5 w2.heap.size 1 _ _ _ G1.out]; rfl
          have hq2 : w5.cell? ⟨w2.heap.size, 2, none⟩ = some (.int .u64 0) := by rw [cell_of_row w5 w2.heap.size 2 _ _ _ G1.out]; rfl
          have hq3 : w5.cell? ⟨w2.heap.size, 3, none⟩ = some (.int .u64 0) := by rw [cell_of_row w5 w2.heap.size 3 _ _ _ G1.out]; rfl
          have hq4 : w5.cell? ⟨w2.heap.size, 4, none⟩ = some (.int .u64 0) := by rw [cell_of_row w5 w2.heap.size 4 _ _ _ G1.out]; rfl
          have hq5 : w5.cell? ⟨w2.heap.size, 5, none⟩ = some (.slice none 0 0) := by rw [cell_of_row w5 w2.heap.size 5 _ _ _ G1.out]; rfl
          have hfz : ∀ j, w5.frozen? ⟨w2.heap.size, j, none⟩ = false := by
            intro j
            have h := G1.out
            simp [World.frozen?, h]
          have hlt5 : w2.heap.size < w5.heap.size := by have := Y5.out; omega
          clear hcx hcg hch hs5 hl5 hb5 HCC H0 H1 HOW HCH HZW HBW HX HLW
          go_wp2_with fail
          obtain ⟨WS, hWS⟩ : ∃ WS, WS = ((((w5.setCell ⟨w2.heap.size, 1, none⟩ (.int .u64 cm)).setCell ⟨w2.heap.size, 2, none⟩ (.int .u64 cl)).setCell ⟨w2.heap.size, 3, none⟩ (.int .u64 co)).setCell ⟨w2.heap.size, 4, none⟩ (.int .u64 ct)).setCell ⟨w2.heap.size, 5, none⟩ (.slice qa qn qc) := ⟨_, rfl⟩
          rw [← hWS]
          have HG : Hid (WS.heap[w2.heap.size]? = some (.cells #[Value.slice ao k c, Value.int .u64 cm, Value.int .u64 cl, Value.int .u64 co, Value.int .u64 ct, Value.slice qa qn qc] 28 (0, 0))) := by rw [hWS]; exact five_set G1.out
          have HSET : Hid (∀ b, b ≠ w2.heap.size → WS.heap[b]? = w5.heap[b]?) := by
            intro b' hb'
            rw [hWS, heap_setCell_other _ _ _ _ hb', heap_setCell_other _ _ _ _ hb', heap_setCell_other _ _ _ _ hb', heap_setCell_other _ _ _ _ hb', heap_setCell_other _ _ _ _ hb']
          have HSZ : Hid (WS.heap.size = w5.heap.size) := by show _ = _; rw [hWS]; simp
          have HBS : Hid (Below w.heap.size w WS) := by
            rw [hWS]
            have hw2 : w.heap.size ≤ w2.heap.size := by have := Z2.out; omega
            exact ((((E5.out.setCell (p := ⟨w2.heap.size, 1, none⟩) hw2 _).setCell (p := ⟨w2.heap.size, 2, none⟩) hw2 _).setCell (p := ⟨w2.heap.size, 3, none⟩) hw2 _).setCell (p := ⟨w2.heap.size, 4, none⟩) hw2 _).setCell (p := ⟨w2.heap.size, 5, none⟩) hw2 _
          have HR0 : Hid (WS.heap[w.heap.size]? = some (.cells #[Value.slice none 0 0, Value.int .u64 0, Value.int .u64 0, Value.int .u64 0, Value.int .u64 0, Value.slice none 0 0] 28 (0, 0))) := by show _ = _; rw [HSET.out _ (by have := Z2.out; omega)]; exact G0.out
          have HHI : Hid (High (w2.heap.size + 1) ao k ∧ (∀ y ∈ xs, High (w2.heap.size + 1) y.a y.n) ∧ Cw.High (w2.heap.size + 1) ⟨cm, cl, co, ct, qa, qn, qc, rs⟩) := ⟨High.of_owns O5.out, fun y hy => (C5.out y hy).2.2, HCG.out.2⟩
          have hsx : xs.length = k := by have h := O5.out.1; rw [scells_length] at h; omega
          have HXG : Hid (Iw.Good (WS.alloc (.cells #[Value.int .u64 cm, Value.int .u64 cl, Value.int .u64 co, Value.int .u64 ct, Value.slice qa qn qc] 26)) ⟨ao, k, c, xs, ⟨cm, cl, co, ct, qa, qn, qc, rs⟩⟩) := by
            refine Iw.Good.alloc (Iw.good_set (x := ⟨ao, k, c, xs, ⟨cm, cl, co, ct, qa, qn, qc, rs⟩⟩) (w := w5) (B := w2.heap.size + 1) ⟨Ss.of_owns O5.out (fun y hy => (C5.out y hy).1) hsx, HCG.out.1⟩ HHI.out.1 HHI.out.2.1 HHI.out.2.2 ?_) _
            intro b' h1 h2
            exact HSET.out b' (by omega)
          have hqn : qn ≤ 20000 := by
            have h := HFEW.out
            rw [← HCX.out] at h
            have h2 : (ruls rs).length ≤ 20000 := h
            rw [ruls_length, HCG.out.1.1.1] at h2
            exact h2
          clear hWS hq0 hq1 hq2 hq3 hq4 hq5 hfz hlt5 hsx G0 G1
          refine (rwrite15_is ⟨ao, k, c, xs, ⟨cm, cl, co, ct, qa, qn, qc, rs⟩⟩ _ HXG.out hqn).mono ?_
          rintro e w7 ⟨h7, hb7⟩
          have HXG7 := Lib.hid (HXG.out.below hb7 (Nat.le_refl _))
          have F0 : Hid (w7.heap[w.heap.size]? = some (.cells #[Value.slice none 0 0, Value.int .u64 0, Value.int .u64 0, Value.int .u64 0, Value.int .u64 0, Value.slice none 0 0] 28 (0, 0))) := by
            show _ = _
            rw [hb7.block _ (by have := HSZ.out; have := Y5.out; have := Z2.out; simp; omega), heap_alloc_old _ _ (by have := HSZ.out; have := Y5.out; have := Z2.out; omega)]; exact HR0.out
          have F1 : Hid (w7.heap[w2.heap.size]? = some (.cells #[Value.slice ao k c, Value.int .u64 cm, Value.int .u64 cl, Value.int .u64 co, Value.int .u64 ct, Value.slice qa qn qc] 28 (0, 0))) := by
            show _ = _
            rw [hb7.block _ (by have := HSZ.out; have := Y5.out; simp; omega), heap_alloc_old _ _ (by have := HSZ.out; have := Y5.out; omega)]; exact HG.out
          have B7 : Hid (Below w.heap.size w w7) := (HBS.out.alloc HBS.out.size _).trans (hb7.mono (by have := HBS.out.size; simp; omega))
          have Y7 : Hid (w2.heap.size + 1 ≤ w7.heap.size) := by have h := hb7.size; have := HSZ.out; have := Y5.out; show _ ≤ _; simp at h; omega
          have HPL : Hid (Img.Plain cc) := by rw [← HCX.out]; exact HCG.out.1.plain
          have HIM : Hid (Iw.im ⟨ao, k, c, xs, ⟨cm, cl, co, ct, qa, qn, qc, rs⟩⟩ = ⟨sts xs, cc⟩) := by show _ = _; rw [Iw.im]; simp only; rw [HCX.out]
          rw [HIM.out] at h7
          have HB9 : Hid (b.length ≤ 1000000) := by show _ ≤ _; rw [HLB.out]; omega
          clear hb7 HXG HG HSET HSZ HBS HR0 O5 C5 Y5 E5 HCG
          cases o6 with
          | false =>
            rcases h7 with ⟨hc, rfl⟩ | ⟨hc1, hc2, rfl⟩ | ⟨hc1, hc2, a7, n7, c7, rfl, hs7⟩
            · clear hc
              have HF : Hid (Img.read b = .inr 150) := Img.read_bad HR.out HBODY.out HB9.out (by intro h; cases h)
              go_wp2_with (refine wpList_store_g (by rfl) 28 (.tmp 2) (.tmp 87) (by rfl) w.heap.size #[Value.slice none 0 0, Value.int .u64 0, Value.int .u64 0, Value.int .u64 0, Value.int .u64 0, Value.slice none 0 0] (by rfl) (by rfl) 28 #[Value.slice none 0 0, Value.int .u64 0, Value.int .u64 0, Value.int .u64 0, Value.int .u64 0, Value.slice none 0 0] F0.out info_im6 rfl (by simp [Value.oneCell']) ?_; intro we hwe hge hsze; have HWE := Lib.hid hwe; have HGE := Lib.hid hge; clear hwe hge hsze)
              try rw [Exit.noGoto_ret]
              refine bodyPost_ret (results_cell_row_tmp rfl _ _ w.heap.size 28 #[Value.slice none 0 0, Value.int .u64 0, Value.int .u64 0, Value.int .u64 0, Value.int .u64 0, Value.slice none 0 0] (0, 0) _ (by rfl) HWE.out Tryz.underlying28 (by rfl) info_im6) rfl ?_
              exact ⟨.inr ⟨150, HF.out, rfl⟩, B7.out.grown HGE.out B7.out.size (fun k hk => by cases hk; exact Nat.le_refl _)⟩
            · clear hc1 hc2
              have HF : Hid (Img.read b = .inr 150) := Img.read_bad HR.out HBODY.out HB9.out (by intro h; cases h)
              go_wp2_with (refine wpList_store_g (by rfl) 28 (.tmp 2) (.tmp 87) (by rfl) w.heap.size #[Value.slice none 0 0, Value.int .u64 0, Value.int .u64 0, Value.int .u64 0, Value.int .u64 0, Value.slice none 0 0] (by rfl) (by rfl) 28 #[Value.slice none 0 0, Value.int .u64 0, Value.int .u64 0, Value.int .u64 0, Value.int .u64 0, Value.slice none 0 0] F0.out info_im6 rfl (by simp [Value.oneCell']) ?_; intro we hwe hge hsze; have HWE := Lib.hid hwe; have HGE := Lib.hid hge; clear hwe hge hsze)
              try rw [Exit.noGoto_ret]
              refine bodyPost_ret (results_cell_row_tmp rfl _ _ w.heap.size 28 #[Value.slice none 0 0, Value.int .u64 0, Value.int .u64 0, Value.int .u64 0, Value.int .u64 0, Value.slice none 0 0] (0, 0) _ (by rfl) HWE.out Tryz.underlying28 (by rfl) info_im6) rfl ?_
              exact ⟨.inr ⟨150, HF.out, rfl⟩, B7.out.grown HGE.out B7.out.size (fun k hk => by cases hk; exact Nat.le_refl _)⟩
            · clear hc1 hc2 hs7
              have HF : Hid (Img.read b = .inr 150) := Img.read_bad HR.out HBODY.out HB9.out (by intro h; cases h)
              go_wp2_with (refine wpList_store_g (by rfl) 28 (.tmp 2) (.tmp 87) (by rfl) w.heap.size #[Value.slice none 0 0, Value.int .u64 0, Value.int .u64 0, Value.int .u64 0, Value.int .u64 0, Value.slice none 0 0] (by rfl) (by rfl) 28 #[Value.slice none 0 0, Value.int .u64 0, Value.int .u64 0, Value.int .u64 0, Value.int .u64 0, Value.slice none 0 0] F0.out info_im6 rfl (by simp [Value.oneCell']) ?_; intro we hwe hge hsze; have HWE := Lib.hid hwe; have HGE := Lib.hid hge; clear hwe hge hsze)
              try rw [Exit.noGoto_ret]
              refine bodyPost_ret (results_cell_row_tmp rfl _ _ w.heap.size 28 #[Value.slice none 0 0, Value.int .u64 0, Value.int .u64 0, Value.int .u64 0, Value.int .u64 0, Value.slice none 0 0] (0, 0) _ (by rfl) HWE.out Tryz.underlying28 (by rfl) info_im6) rfl ?_
              exact ⟨.inr ⟨150, HF.out, rfl⟩, B7.out.grown HGE.out B7.out.size (fun k hk => by cases hk; exact Nat.le_refl _)⟩
          | true =>
            rcases h7 with ⟨hc, rfl⟩ | ⟨hc1, hc2, rfl⟩ | ⟨hc1, hc2, a7, n7, c7, rfl, hs7⟩
            · have HC1 := Lib.hid hc
              clear hc
              have HF : Hid (Img.read b = .inr 150) := Img.read_bad HR.out HBODY.out HB9.out (by intro _ h _; have h1 := h.1; rw [HC1.out] at h1; cases h1)
              go_wp2_with (refine wpList_store_g (by rfl) 28 (.tmp 2) (.tmp 87) (by rfl) w.heap.size #[Value.slice none 0 0, Value.int .u64 0, Value.int .u64 0, Value.int .u64 0, Value.int .u64 0, Value.slice none 0 0] (by rfl) (by rfl) 28 #[Value.slice none 0 0, Value.int .u64 0, Value.int .u64 0, Value.int .u64 0, Value.int .u64 0, Value.slice none 0 0] F0.out info_im6 rfl (by simp [Value.oneCell']) ?_; intro we hwe hge hsze; have HWE := Lib.hid hwe; have HGE := Lib.hid hge; clear hwe hge hsze)
              try rw [Exit.noGoto_ret]
              refine bodyPost_ret (results_cell_row_tmp rfl _ _ w.heap.size 28 #[Value.slice none 0 0, Value.int .u64 0, Value.int .u64 0, Value.int .u64 0, Value.int .u64 0, Value.slice none 0 0] (0, 0) _ (by rfl) HWE.out Tryz.underlying28 (by rfl) info_im6) rfl ?_
              exact ⟨.inr ⟨150, HF.out, rfl⟩, B7.out.grown HGE.out B7.out.size (fun k hk => by cases hk; exact Nat.le_refl _)⟩
            · have HC1 := Lib.hid hc2
              clear hc1 hc2
              have HF : Hid (Img.read b = .inr 150) := Img.read_bad HR.out HBODY.out HB9.out (by intro _ h _; have h1 := h.2; rw [HC1.out] at h1; cases h1)
              go_wp2_with (refine wpList_store_g (by rfl) 28 (.tmp 2) (.tmp 87) (by rfl) w.heap.size #[Value.slice none 0 0, Value.int .u64 0, Value.int .u64 0, Value.int .u64 0, Value.int .u64 0, Value.slice none 0 0] (by rfl) (by rfl) 28 #[Value.slice none 0 0, Value.int .u64 0, Value.int .u64 0, Value.int .u64 0, Value.int .u64 0, Value.slice none 0 0] F0.out info_im6 rfl (by simp [Value.oneCell']) ?_; intro we hwe hge hsze; have HWE := Lib.hid hwe; have HGE := Lib.hid hge; clear hwe hge hsze)
              try rw [Exit.noGoto_ret]
              refine bodyPost_ret (results_cell_row_tmp rfl _ _ w.heap.size 28 #[Value.slice none 0 0, Value.int .u64 0, Value.int .u64 0, Value.int .u64 0, Value.int .u64 0, Value.slice none 0 0] (0, 0) _ (by rfl) HWE.out Tryz.underlying28 (by rfl) info_im6) rfl ?_
              exact ⟨.inr ⟨150, HF.out, rfl⟩, B7.out.grown HGE.out B7.out.size (fun k hk => by cases hk; exact Nat.le_refl _)⟩
            · have HC1 := Lib.hid (And.intro hc1 hc2)
              have hwf := hs7.2.2.2.1
              obtain ⟨l, hl⟩ : ∃ l, l = Crc.lock (Img.body ⟨sts xs, cc⟩) := ⟨_, rfl⟩
              rw [← hl] at hs7 hwf
              have HLL := Lib.hid hl
              have S7 := Lib.hid (HS.out.below B7.out (Nat.le_refl _))
              have hse := str_eq hwf S7.out.2.2.2.1
              obtain ⟨T1, hT1⟩ : ∃ S, S = strOfNums l := ⟨_, rfl⟩
              obtain ⟨T2, hT2⟩ : ∃ S, S = strOfNums b := ⟨_, rfl⟩
              have k1 : (convert 29 9 (.slice a7 n7 c7)).run Tryz.prog w7 = .ok (.string T1) w7 := by rw [hT1]; exact hs7.str
              have k2 : (convert 29 9 (.slice a n cap)).run Tryz.prog w7 = .ok (.string T2) w7 := by rw [hT2]; exact S7.out.str
              rw [← hT1, ← hT2] at hse
              obtain ⟨r, hr⟩ : ∃ r, decide (l = b) = r := ⟨_, rfl⟩
              have HRR := Lib.hid hr
              rw [hr] at hse
              clear hc1 hc2 hwf hs7 hl hT1 hT2 hr
              cases r with
              | false =>
                have hbn : (T1.toList != T2.toList) = true := by rw [bne, hse]; rfl
                have HF : Hid (Img.read b = .inr 150) := Img.read_bad HR.out HBODY.out HB9.out (by intro _ _ h; have h1 := HRR.out; rw [decide_eq_false_iff_not] at h1; exact h1 (HLL.out.trans h))
                go_wp2_with (refine wpList_store_g (by rfl) 28 (.tmp 2) (.tmp 87) (by rfl) w.heap.size #[Value.slice none 0 0, Value.int .u64 0, Value.int .u64 0, Value.int .u64 0, Value.int .u64 0, Value.slice none 0 0] (by rfl) (by rfl) 28 #[Value.slice none 0 0, Value.int .u64 0, Value.int .u64 0, Value.int .u64 0, Value.int .u64 0, Value.slice none 0 0] F0.out info_im6 rfl (by simp [Value.oneCell']) ?_; intro we hwe hge hsze; have HWE := Lib.hid hwe; have HGE := Lib.hid hge; clear hwe hge hsze)
                try rw [Exit.noGoto_ret]
                refine bodyPost_ret (results_cell_row_tmp rfl _ _ w.heap.size 28 #[Value.slice none 0 0, Value.int .u64 0, Value.int .u64 0, Value.int .u64 0, Value.int .u64 0, Value.slice none 0 0] (0, 0) _ (by rfl) HWE.out Tryz.underlying28 (by rfl) info_im6) rfl ?_
                exact ⟨.inr ⟨150, HF.out, rfl⟩, B7.out.grown HGE.out B7.out.size (fun k hk => by cases hk; exact Nat.le_refl _)⟩
              | true =>
                have hbn : (T1.toList != T2.toList) = false := by rw [bne, hse]; rfl
                have HF : Hid (Img.read b = .inl ⟨sts xs, cc⟩) := Img.read_of ⟨HPL.out, HC1.out, HLL.out.symm.trans (by have h := HRR.out; rwa [decide_eq_true_iff] at h)⟩
                go_wp2_with (first
                  | (refine wpList_load_row (by rfl) 28 (.tmp 9) (by rfl) w2.heap.size (by rfl) 28 #[Value.slice ao k c, Value.int .u64 cm, Value.int .u64 cl, Value.int .u64 co, Value.int .u64 ct, Value.slice qa qn qc] (0, 0) _ F1.out Tryz.underlying28 (by rfl) info_im6 ?_)
                  | (refine wpList_store_g (by rfl) 28 (.tmp 2) (.tmp 88) (by rfl) w.heap.size #[Value.slice ao k c, Value.int .u64 cm, Value.int .u64 cl, Value.int .u64 co, Value.int .u64 ct, Value.slice qa qn qc] (by rfl) (by rfl) 28 #[Value.slice none 0 0, Value.int .u64 0, Value.int .u64 0, Value.int .u64 0, Value.int .u64 0, Value.slice none 0 0] F0.out info_im6 rfl (by simp [Value.oneCell']) ?_; intro we hwe hge hsze; have HWE := Lib.hid hwe; have HGE := Lib.hid hge; clear hwe hge hsze))
                try rw [Exit.noGoto_ret]
                refine bodyPost_ret (results_cell_row_tmp rfl _ _ w.heap.size 28 #[Value.slice ao k c, Value.int .u64 cm, Value.int .u64 cl, Value.int .u64 co, Value.int .u64 ct, Value.slice qa qn qc] (0, 0) _ (by rfl) HWE.out Tryz.underlying28 (by rfl) info_im6) rfl ?_
                refine ⟨.inl ⟨⟨ao, k, c, xs, ⟨cm, cl, co, ct, qa, qn, qc, rs⟩⟩, ?_, ?_, rfl⟩, B7.out.grown HGE.out B7.out.size (fun k hk => by cases hk; exact Nat.le_refl _)⟩
                · rw [HF.out, HIM.out]
                · refine Iw.good_set (B := w2.heap.size + 1) HXG7.out HHI.out.1 HHI.out.2.1 HHI.out.2.2 ?_
                  intro b' h1 h2
                  exact HGE.out.block b' h2 (by intro e; cases e; have := Z2.out; omega)

end Go.Proofs.YtbfjihbkkcggmaaGreat
