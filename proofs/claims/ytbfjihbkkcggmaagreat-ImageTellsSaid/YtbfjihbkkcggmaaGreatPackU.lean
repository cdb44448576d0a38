import Derived.Test.YtbfjihbkkcggmaaGreatImgTake
import Derived.Test.YtbfjihbkkcggmaaGreatTrieApp
import Derived.Test.YtbfjihbkkcggmaaGreatPackD
import Derived.Test.YtbfjihbkkcggmaaGreatRuleApp
/- Used by the law. -/
namespace Go.Proofs.YtbfjihbkkcggmaaGreat
open Go.RowKit

theorem results_cell_row_tmp2 {P : Program} {fn : Func} {p u v : Tmp} {ty : TypeId} (h : fn.results = #[.cell p ty, .tmp u, .tmp v]) (tmps : Array Value) (w : World) (g : Nat) (t : TypeId) (cs : Array Value) (fr : Nat × Nat) (d : TypeDesc)
    (hp : tmps.getD p undef = .pointer (some ⟨g, 0, none⟩)) (hg : w.heap[g]? = some (.cells cs t fr))
    (hu : P.underlying ty = some d) (hd : (match d with | .struct _ | .array _ _ => true | _ => false) = true) (hi : (P.info? ty).map (·.size) = some cs.size) :
    (results fn tmps).run P w = .ok (.tuple #[.agg cs, tmps.getD u undef, tmps.getD v undef]) w := by
  have hp' : tmps[p]?.getD undef = .pointer (some ⟨g, 0, none⟩) := by simpa using hp
  simp [results, h, hp', asAddr, run_loadVar_row w g t ty cs fr d hg hu hd hi]

def StateIs (B E : Nat) (w' : World) (e : Ending) (r : Tri.St × List Int × Bool) : Prop :=
  ∃ (x : Sw) (a : Option Addr) (n c : Nat), e = .returned (.tuple #[.agg #[x.f, x.s], .slice a n c, .bool r.2.2]) ∧ x.st = r.1 ∧ x.Good w' ∧ x.Front ∧ High E x.a x.n ∧ Sl .u8 w' a n c r.2.1 ∧ Low B a n

def ArcsAt (i : Int) (H : Nat) (b0 : List Int) (k : Nat) (p : Int) (pre : List (Int × Int)) (bb : List Int) (ok : Bool) : Prop :=
  pre.length = k ∧ (-1 ≤ p ∧ p ≤ 2000001 * (k : Int)) ∧ (∀ z ∈ pre, (0 ≤ z.1 ∧ z.1 ≤ 2000001 * (k : Int)) ∧ (i < z.2 ∧ z.2 ≤ i + 2000001)) ∧ Img.dArcs i H (-1) b0 = if ok = true then (pre ++ (Img.dArcs i (H - k) p bb).1, (Img.dArcs i (H - k) p bb).2.1, (Img.dArcs i (H - k) p bb).2.2) else (pre, bb, false)
theorem ArcsAt.next {i : Int} {H : Nat} {b0 : List Int} {k : Nat} {p : Int} {pre : List (Int × Int)} {bb : List Int} (h : ArcsAt i H b0 k p pre bb true) (hk : k < H) :
    ArcsAt i H b0 (k + 1) (p + 1 + ((Img.dTake bb).1 : Int)) (pre ++ [(p + 1 + ((Img.dTake bb).1 : Int), i + 1 + ((Img.dTake (Img.dTake bb).2.1).1 : Int))]) (Img.dTake (Img.dTake bb).2.1).2.1 ((Img.dTake bb).2.2 && (Img.dTake (Img.dTake bb).2.1).2.2) := by
  obtain ⟨h1, h2, h3, h4⟩ := h
  have e1 := Img.dTake_le bb
  have e2 := Img.dTake_le (Img.dTake bb).2.1
  refine ⟨by simp [h1], by omega, ?_, ?_⟩
  · intro z hz
    rcases List.mem_append.1 hz with hz | hz
    · have := h3 z hz; omega
    · simp only [List.mem_singleton] at hz
      subst hz
      simp only
      omega
  · rw [h4, if_pos rfl, show H - k = (H - (k + 1)) + 1 from by omega, Img.dArcs]
    cases (Img.dTake bb).2.2 <;> cases (Img.dTake (Img.dTake bb).2.1).2.2 <;> simp
theorem ArcsAt.done {i : Int} {H : Nat} {b0 : List Int} {k : Nat} {p : Int} {pre : List (Int × Int)} {bb : List Int} {ok : Bool} (h : ArcsAt i H b0 k p pre bb ok) (hk : k = H ∨ ok = false) : Img.dArcs i H (-1) b0 = (pre, bb, ok) := by
  obtain ⟨h1, h2, h3, h4⟩ := h
  rw [h4]
  cases ok with
  | false => rfl
  | true =>
    rcases hk with rfl | hk
    · rw [if_pos rfl, Nat.sub_self, Img.dArcs]; simp
    · cases hk

set_option maxRecDepth 100000 in
theorem info_st2 : (Tryz.prog.info? 42).map (·.size) = some 2 := by kernel_rfl

set_option maxHeartbeats 6400000 in
set_option maxRecDepth 100000 in
theorem rtakeState15_is (B : Nat) (a : Option Addr) (n cap : Nat) (b : List Int) (i : Nat) (w : World) (hs : Sl .u8 w a n cap b) (hl : Low B a n) (hB : B ≤ w.heap.size) (hi : i ≤ 3000000) :
    Calls Tryz.prog 31 #[.slice a n cap, .int .i64 (i : Int)] w fun e w' => StateIs B w.heap.size w' e (Img.dState (i : Int) b) ∧ Below w.heap.size w w' := by
  obtain ⟨N, b0, ok0, hD⟩ : ∃ N b0 ok0, Img.dTake b = (N, b0, ok0) := ⟨_, _, _, rfl⟩
  have hN := Img.dTake_le b
  have HC : Hid (∀ w, Sl .u8 w a n cap b → Calls Tryz.prog 30 #[.slice a n cap] w fun e w' => NumIs B w' e .i64 (N, b0, ok0) ∧ Below w.heap.size w w') := by
    intro w h
    rw [← hD]; exact rtake15_is B a n cap b w h hl
  rw [hD] at hN
  simp only at hN
  have HD := Lib.hid hD
  have hz0 : ok0 = false → N = 0 ∧ b0 = [] := by
    intro h
    subst h
    unfold Img.dTake at hD
    split at hD
    · cases hD
    · cases hD; exact ⟨rfl, rfl⟩
  have HZ := Lib.hid hz0
  have HBB := Lib.hid hB
  have HS := Lib.hid hs
  obtain ⟨H, hH⟩ : ∃ H, H = N / 2 := ⟨_, rfl⟩
  have hH1 : (N : Int) / 2 = (H : Int) := by rw [hH]; omega
  have hH2 : (N : Int).tdiv 2 = (H : Int) := by rw [Int.tdiv_eq_ediv_of_nonneg (by omega)]; exact hH1
  have hH9 : H ≤ 1000000 := by omega
  obtain ⟨R, hR⟩ : ∃ R, R = N % 2 := ⟨_, rfl⟩
  have hR1 : (N : Int) % 2 = (R : Int) := by rw [hR]; omega
  have hR2 : (N : Int).tmod 2 = (R : Int) := by rw [Int.tmod_eq_emod_of_nonneg (by omega)]; exact hR1
  obtain ⟨f, hf⟩ : ∃ f, ((R : Int) == 1) = f := ⟨_, rfl⟩
  have HF : Hid (f = decide (N % 2 = 1)) := by
    show _ = _
    rw [← hf, hR]
    by_cases h : N % 2 = 1
    · rw [h]; rfl
    · rw [show N % 2 = 0 by omega]; rfl
  have HH := Lib.hid hH
  clear hs hD hz0 hl hB hH hR
  go_enter Tryz.func31, Tryz.ntmps31
  go_wp2_with fail
  refine (HC.out _ (HS.out.alloc _)).mono ?_
  rintro e w1 ⟨⟨a1, n1, c1, rfl, hs1, hl1⟩, hb1⟩
  have S1 := Lib.hid hs1
  have L1 := Lib.hid hl1
  have hb1' := hb1.block w.heap.size (by simp)
  rw [heap_alloc_new] at hb1'
  have R1 := Lib.hid hb1'
  have B1 : Hid (Below w.heap.size w w1) := ((Below.refl _ w).alloc (Nat.le_refl _) _).trans (hb1.mono (by simp))
  have hsz1 : w.heap.size + 1 ≤ w1.heap.size := by have := hb1.size; simpa using this
  clear hs1 hl1 hb1 hb1' HC
  go_wp2
  go_loopw [0, 8, 10, 11] (fun bv okv pv kv wr => ∃ (k c nb cb : Nat) (ao ab : Option Addr) (p : Int) (pre : List (Int × Int)) (bb : List Int) (ok : Bool), bv = .slice ab nb cb ∧ okv = .bool ok ∧ pv = .int .i64 p ∧ kv = .int .i64 (k : Int) ∧ k ≤ H ∧ Hid (ok0 = false → ok = false) ∧ Hid (ok0 = true → ArcsAt (i : Int) H b0 k p pre bb ok) ∧ Hid (ok0 = false → pre = [] ∧ bb = []) ∧ Hid (Sl .u8 wr ab nb cb bb) ∧ Hid (Low B ab nb) ∧ Hid (wr.heap[w.heap.size]? = some (.cells #[.bool false, .slice none 0 0] 42 (0, 0))) ∧ Hid (wr.heap[w1.heap.size]? = some (.cells #[.bool f, .slice ao k c] 42 (0, 0))) ∧ Hid (wr.ownsRow (w1.heap.size + 1) 74 2 (.slice ao k c) k (acells pre)) ∧ Hid (∀ z ∈ pre, (0 ≤ z.1 ∧ z.1 ≤ 3000000000000) ∧ (0 ≤ z.2 ∧ z.2 ≤ 6000000)) ∧ Hid (Below w.heap.size w wr) ∧ Hid (w1.heap.size + 1 ≤ wr.heap.size)) (fun _ _ _ kv _ => H - (intOf kv).toNat)
  case atStart =>
    refine ⟨0, 0, n1, c1, none, a1, -1, [], b0, ok0, rfl, rfl, rfl, rfl, Nat.zero_le _, fun h => h, ?_, fun h => ⟨rfl, (HZ.out h).2⟩, S1.out.alloc _, L1.out, ?_, heap_alloc_new _ _, World.ownsRow_nil _ _ _ _, by first | exact (trivial : True) | (intro z hz; simp at hz), B1.out.alloc B1.out.size _, by show _ ≤ _; simp⟩
    · intro h
      refine ⟨rfl, by omega, by simp, ?_⟩
      rw [if_pos h, Nat.sub_zero]; simp
    · show _ = _
      rw [heap_alloc_old _ _ (by omega)]; exact R1.out
  case round =>
    obtain ⟨k, c, nb, cb, ao, ab, p, pre, bb, ok, rfl, rfl, rfl, rfl, hk, HO, HI, HE, HX, HLW, H0, H1, HOW, HP, HBW, HZW⟩ := hrel
    cases ok with
    | false =>
      have HFN : Hid (Img.dState (i : Int) b = (⟨f, pre⟩, bb, false)) := by
        show _ = _
        rw [Img.dState, HD.out]
        cases h0 : ok0 with
        | false =>
          obtain ⟨h1, h2⟩ := HE.out h0
          have h3 : f = false := by rw [HF.out, (HZ.out h0).1]; rfl
          subst h1 h2 h3; rfl
        | true =>
          simp only [if_true]
          rw [← HH.out, (HI.out h0).done (.inr rfl), HF.out]
      have HLP : Hid (pre.length = k) := by
        show _ = _
        have h := HOW.out.1
        rw [acells_length] at h
        omega
      by_cases hlt : k < H
      · have hki : (k : Int) < (H : Int) := by omega
        go_wp2_with (first
          | (refine wpList_load_row (by rfl) 42 (.tmp 9) (by rfl) w1.heap.size (by rfl) 42 #[Value.bool f, Value.slice ao k c] (0, 0) _ H1.out Tryz.underlying42 (by rfl) info_st2 ?_)
          | (refine wpList_store_g (by rfl) 42 (.tmp 4) (.tmp 69) (by rfl) w.heap.size #[Value.bool f, Value.slice ao k c] (by rfl) (by rfl) 42 #[Value.bool false, Value.slice none 0 0] H0.out info_st2 rfl (by simp [Value.oneCell']) ?_; intro we hwe hge hsze; have HWE := Lib.hid hwe; have HGE := Lib.hid hge; clear hwe hge hsze))
        try rw [Exit.noGoto_ret]
        refine bodyPost_ret (results_cell_row_tmp2 rfl _ _ w.heap.size 42 #[Value.bool f, Value.slice ao k c] (0, 0) _ (by rfl) HWE.out Tryz.underlying42 (by rfl) info_st2) rfl ?_
        have hgood : Sw.Good wr ⟨f, ao, k, c, pre⟩ := Ars.of_owns HOW.out (fun z hz => by have := HP.out z hz; exact ⟨WalkArith.wf_i64 ⟨by omega, by omega⟩, WalkArith.wf_i64 ⟨by omega, by omega⟩⟩) HLP.out
        have hfront : Sw.Front ⟨f, ao, k, c, pre⟩ := Front.of_owns HOW.out
        have hbe : Below w.heap.size wr we := (Below.refl _ wr).grown HGE.out (by have := HZW.out; omega) (fun k hk => by cases hk; exact Nat.le_refl _)
        refine ⟨?_, HBW.out.trans hbe⟩
        rw [HFN.out]
        refine ⟨⟨f, ao, k, c, pre⟩, ab, nb, cb, rfl, rfl, hgood.apart hfront HGE.out ?_, hfront, (High.of_owns HOW.out).mono (by omega), HX.out.low (HLW.out.mono HBB.out) hbe, HLW.out⟩
        intro b' hb' z
        cases hb'
        rw [World.cell?, H0.out]
        simp
      · have hki : ¬ (k : Int) < (H : Int) := by omega
        go_wp2_with (first
          | (refine wpList_load_row (by rfl) 42 (.tmp 9) (by rfl) w1.heap.size (by rfl) 42 #[Value.bool f, Value.slice ao k c] (0, 0) _ H1.out Tryz.underlying42 (by rfl) info_st2 ?_)
          | (refine wpList_store_g (by rfl) 42 (.tmp 4) (.tmp 69) (by rfl) w.heap.size #[Value.bool f, Value.slice ao k c] (by rfl) (by rfl) 42 #[Value.bool false, Value.slice none 0 0] H0.out info_st2 rfl (by simp [Value.oneCell']) ?_; intro we hwe hge hsze; have HWE := Lib.hid hwe; have HGE := Lib.hid hge; clear hwe hge hsze))
        try rw [Exit.noGoto_ret]
        refine bodyPost_ret (results_cell_row_tmp2 rfl _ _ w.heap.size 42 #[Value.bool f, Value.slice ao k c] (0, 0) _ (by rfl) HWE.out Tryz.underlying42 (by rfl) info_st2) rfl ?_
        have hgood : Sw.Good wr ⟨f, ao, k, c, pre⟩ := Ars.of_owns HOW.out (fun z hz => by have := HP.out z hz; exact ⟨WalkArith.wf_i64 ⟨by omega, by omega⟩, WalkArith.wf_i64 ⟨by omega, by omega⟩⟩) HLP.out
        have hfront : Sw.Front ⟨f, ao, k, c, pre⟩ := Front.of_owns HOW.out
        have hbe : Below w.heap.size wr we := (Below.refl _ wr).grown HGE.out (by have := HZW.out; omega) (fun k hk => by cases hk; exact Nat.le_refl _)
        refine ⟨?_, HBW.out.trans hbe⟩
        rw [HFN.out]
        refine ⟨⟨f, ao, k, c, pre⟩, ab, nb, cb, rfl, rfl, hgood.apart hfront HGE.out ?_, hfront, (High.of_owns HOW.out).mono (by omega), HX.out.low (HLW.out.mono HBB.out) hbe, HLW.out⟩
        intro b' hb' z
        cases hb'
        rw [World.cell?, H0.out]
        simp
    | true =>
      have h0 : ok0 = true := by
        cases h : ok0 with
        | true => rfl
        | false => have := HO.out h; cases this
      have HIN := Lib.hid (HI.out h0)
      by_cases hlt : k < H
      · skip
        have hki : (k : Int) < (H : Int) := by omega
        have hin := HIN.out.next hlt
        obtain ⟨M1, b1, o1, hD1⟩ : ∃ N b0 ok0, Img.dTake bb = (N, b0, ok0) := ⟨_, _, _, rfl⟩
        have HC1 := Lib.hid (rtake15_is B ab nb cb bb wr HX.out HLW.out)
        have hM1 := Img.dTake_le bb
        rw [hD1] at hM1 HC1 hin
        simp only at hM1 hin
        obtain ⟨M2, b2, o2, hD2⟩ : ∃ N b0 ok0, Img.dTake b1 = (N, b0, ok0) := ⟨_, _, _, rfl⟩
        have HC2 : Hid (∀ W a n c, Sl .u8 W a n c b1 → Low B a n → Calls Tryz.prog 30 #[.slice a n c] W fun e w' => NumIs B w' e .i64 (M2, b2, o2) ∧ Below W.heap.size W w') := by
          intro W a n c h1 h2
          rw [← hD2]; exact rtake15_is B a n c b1 W h1 h2
        have hM2 := Img.dTake_le b1
        rw [hD2] at hM2 hin
        simp only at hM2 hin
        obtain ⟨⟨hp0, hp9⟩, -⟩ := HIN.out.2
        obtain ⟨P1, hP1⟩ : ∃ P1, p + 1 + (M1 : Int) = P1 := ⟨_, rfl⟩
        obtain ⟨T1, hT1⟩ : ∃ T1, (i : Int) + 1 + (M2 : Int) = T1 := ⟨_, rfl⟩
        rw [hP1, hT1] at hin
        have HNX := Lib.hid hin
        have HPB : Hid (∀ z ∈ pre ++ [(P1, T1)], (0 ≤ z.1 ∧ z.1 ≤ 3000000000000) ∧ (0 ≤ z.2 ∧ z.2 ≤ 6000000)) := by
          intro z hz
          have h := hin.2.2.1 z hz
          omega
        have HOK := Lib.hid h0
        have hpr : p ≤ 2000001000000 := by omega
        clear hD1 hD2 hin h0
        go_wp2_with fail
        refine HC1.out.mono ?_
        rintro e w3 ⟨⟨a3, n3, c3, rfl, hs3, hl3⟩, hb3⟩
        have S3 := Lib.hid hs3
        have L3 := Lib.hid hl3
        have B3 := Lib.hid hb3
        have G0 : Hid (w3.heap[w.heap.size]? = some (.cells #[.bool false, .slice none 0 0] 42 (0, 0))) := by show _ = _; rw [hb3.block _ (by have := HZW.out; omega)]; exact H0.out
        have G1 : Hid (w3.heap[w1.heap.size]? = some (.cells #[.bool f, .slice ao k c] 42 (0, 0))) := by show _ = _; rw [hb3.block _ (by have := HZW.out; omega)]; exact H1.out
        have O3 := Lib.hid (ownsRow_below HOW.out hb3 (Nat.le_refl _))
        have Z3 : Hid (w1.heap.size + 1 ≤ w3.heap.size) := Nat.le_trans HZW.out hb3.size
        have E3 : Hid (Below w.heap.size w w3) := HBW.out.trans (hb3.mono HBW.out.size)
        clear hs3 hl3 hb3 HC1 B3 H0 H1 HOW HBW HX HLW
        go_wp2_with fail
        refine (HC2.out _ _ _ _ S3.out L3.out).mono ?_
        rintro e w4 ⟨⟨a4, n4, c4, rfl, hs4, hl4⟩, hb4⟩
        have S4 := Lib.hid hs4
        have L4 := Lib.hid hl4
        have F0 : Hid (w4.heap[w.heap.size]? = some (.cells #[.bool false, .slice none 0 0] 42 (0, 0))) := by show _ = _; rw [hb4.block _ (by have := Z3.out; omega)]; exact G0.out
        have F1 : Hid (w4.heap[w1.heap.size]? = some (.cells #[.bool f, .slice ao k c] 42 (0, 0))) := by show _ = _; rw [hb4.block _ (by have := Z3.out; omega)]; exact G1.out
        have O4 := Lib.hid (ownsRow_below O3.out hb4 (Nat.le_refl _))
        have Z4 : Hid (w1.heap.size + 1 ≤ w4.heap.size) := Nat.le_trans Z3.out hb4.size
        have E4 : Hid (Below w.heap.size w w4) := E3.out.trans (hb4.mono E3.out.size)
        clear hs4 hl4 hb4 HC2 G0 G1 O3 Z3 E3 S3 L3
        have hx1 : w4.cell? ⟨w1.heap.size, 1, none⟩ = some (.slice ao k c) := by rw [cell_of_row w4 w1.heap.size 1 _ _ _ F1.out]; rfl
        cases o1 with
        | false =>
          go_wp2_with (at_builtin; refine append_arc (by rfl) (.tmp 54) (.tmp 61) (by rfl) (w1.heap.size + 1) _ k pre (by rfl) (ownsRow_below O4.out ((Below.refl w4.heap.size w4).alloc (Nat.le_refl _) _) (Nat.le_refl _)) w4.heap.size (P1, T1) (by rfl) (lit2 w4 _ _ _ _).1 (lit2 w4 _ _ _ _).2 (k + 1) rfl (by omega) (by have := Z4.out; simp; omega) ?_; intro a5 c5 w5 hown5 hb5 hg5 hnil5; have O5 := Lib.hid hown5; have B5 : Hid (Below (w1.heap.size + 1) w4 w5) := ((Below.refl _ w4).alloc Z4.out _).trans hb5; have hx5 : w5.cell? ⟨w1.heap.size, 1, none⟩ = some (.slice ao k c) := (by rw [B5.out.cell (p := ⟨w1.heap.size, 1, none⟩) (by show w1.heap.size < w1.heap.size + 1; omega)]; exact hx1); have hf5 : w5.frozen? ⟨w1.heap.size, 1, none⟩ = false := (by have h : w5.heap[w1.heap.size]? = _ := B5.out.block w1.heap.size (by omega); rw [F1.out] at h; simp [World.frozen?, h]); clear hown5 hb5 hg5 hnil5)
          go_roundw
          case rel =>
            have BE : Below w.heap.size w4 (w5.setCell ⟨w1.heap.size, 1, none⟩ (.slice a5 (k + 1) c5)) := (B5.out.mono (by omega)).setCell (p := ⟨w1.heap.size, 1, none⟩) (by show w.heap.size ≤ w1.heap.size; omega) _
            have h5 : w5.heap[w1.heap.size]? = _ := B5.out.block w1.heap.size (by omega)
            rw [F1.out] at h5
            have h6 : w5.heap[w.heap.size]? = _ := B5.out.block w.heap.size (by omega)
            rw [F0.out] at h6
            refine ⟨k + 1, c5, n4, c4, a5, a4, P1, pre ++ [(P1, T1)], b2, false, rfl, rfl, rfl, by go_num, by omega, ?_, fun _ => HNX.out, ?_, S4.out.low (L4.out.mono HBB.out) BE, L4.out, ?_, ?_, ownsRow_setCell_below O5.out (by show w1.heap.size < w1.heap.size + 1; omega) _, HPB.out, E4.out.trans BE, ?_⟩
            · exact fun h => absurd (HOK.out.symm.trans h) (by simp)
            · exact fun h => absurd (HOK.out.symm.trans h) (by simp)
            · show (World.setCell _ _ _).heap[_]? = _
              rw [heap_setCell_other _ _ _ _ (by show w.heap.size ≠ w1.heap.size; omega)]; exact h6
            · show (World.setCell _ _ _).heap[_]? = _
              rw [heap_setCell_same _ _ _ _ _ _ h5]; rfl
            · show _ ≤ _
              have := B5.out.size
              have := Z4.out
              simp
              omega
          case measure => simp [intOf]; omega
        | true =>
          go_wp2_with (at_builtin; refine append_arc (by rfl) (.tmp 54) (.tmp 61) (by rfl) (w1.heap.size + 1) _ k pre (by rfl) (ownsRow_below O4.out ((Below.refl w4.heap.size w4).alloc (Nat.le_refl _) _) (Nat.le_refl _)) w4.heap.size (P1, T1) (by rfl) (lit2 w4 _ _ _ _).1 (lit2 w4 _ _ _ _).2 (k + 1) rfl (by omega) (by have := Z4.out; simp; omega) ?_; intro a5 c5 w5 hown5 hb5 hg5 hnil5; have O5 := Lib.hid hown5; have B5 : Hid (Below (w1.heap.size + 1) w4 w5) := ((Below.refl _ w4).alloc Z4.out _).trans hb5; have hx5 : w5.cell? ⟨w1.heap.size, 1, none⟩ = some (.slice ao k c) := (by rw [B5.out.cell (p := ⟨w1.heap.size, 1, none⟩) (by show w1.heap.size < w1.heap.size + 1; omega)]; exact hx1); have hf5 : w5.frozen? ⟨w1.heap.size, 1, none⟩ = false := (by have h : w5.heap[w1.heap.size]? = _ := B5.out.block w1.heap.size (by omega); rw [F1.out] at h; simp [World.frozen?, h]); clear hown5 hb5 hg5 hnil5)
          go_roundw
          case rel =>
            have BE : Below w.heap.size w4 (w5.setCell ⟨w1.heap.size, 1, none⟩ (.slice a5 (k + 1) c5)) := (B5.out.mono (by omega)).setCell (p := ⟨w1.heap.size, 1, none⟩) (by show w.heap.size ≤ w1.heap.size; omega) _
            have h5 : w5.heap[w1.heap.size]? = _ := B5.out.block w1.heap.size (by omega)
            rw [F1.out] at h5
            have h6 : w5.heap[w.heap.size]? = _ := B5.out.block w.heap.size (by omega)
            rw [F0.out] at h6
            refine ⟨k + 1, c5, n4, c4, a5, a4, P1, pre ++ [(P1, T1)], b2, o2, rfl, rfl, rfl, by go_num, by omega, ?_, fun _ => HNX.out, ?_, S4.out.low (L4.out.mono HBB.out) BE, L4.out, ?_, ?_, ownsRow_setCell_below O5.out (by show w1.heap.size < w1.heap.size + 1; omega) _, HPB.out, E4.out.trans BE, ?_⟩
            · exact fun h => absurd (HOK.out.symm.trans h) (by simp)
            · exact fun h => absurd (HOK.out.symm.trans h) (by simp)
            · show (World.setCell _ _ _).heap[_]? = _
              rw [heap_setCell_other _ _ _ _ (by show w.heap.size ≠ w1.heap.size; omega)]; exact h6
            · show (World.setCell _ _ _).heap[_]? = _
              rw [heap_setCell_same _ _ _ _ _ _ h5]; rfl
            · show _ ≤ _
              have := B5.out.size
              have := Z4.out
              simp
              omega
          case measure => simp [intOf]; omega
      · obtain rfl : k = H := by omega
        have HFN : Hid (Img.dState (i : Int) b = (⟨f, pre⟩, bb, true)) := by
          show _ = _
          rw [Img.dState, HD.out, h0]
          simp only [if_true]
          rw [← HH.out, HIN.out.done (.inl rfl), HF.out]
        have HLP : Hid (pre.length = k) := HIN.out.1
        go_wp2_with (first
          | (refine wpList_load_row (by rfl) 42 (.tmp 9) (by rfl) w1.heap.size (by rfl) 42 #[Value.bool f, Value.slice ao k c] (0, 0) _ H1.out Tryz.underlying42 (by rfl) info_st2 ?_)
          | (refine wpList_store_g (by rfl) 42 (.tmp 4) (.tmp 69) (by rfl) w.heap.size #[Value.bool f, Value.slice ao k c] (by rfl) (by rfl) 42 #[Value.bool false, Value.slice none 0 0] H0.out info_st2 rfl (by simp [Value.oneCell']) ?_; intro we hwe hge hsze; have HWE := Lib.hid hwe; have HGE := Lib.hid hge; clear hwe hge hsze))
        try rw [Exit.noGoto_ret]
        refine bodyPost_ret (results_cell_row_tmp2 rfl _ _ w.heap.size 42 #[Value.bool f, Value.slice ao k c] (0, 0) _ (by rfl) HWE.out Tryz.underlying42 (by rfl) info_st2) rfl ?_
        have hgood : Sw.Good wr ⟨f, ao, k, c, pre⟩ := Ars.of_owns HOW.out (fun z hz => by have := HP.out z hz; exact ⟨WalkArith.wf_i64 ⟨by omega, by omega⟩, WalkArith.wf_i64 ⟨by omega, by omega⟩⟩) HLP.out
        have hfront : Sw.Front ⟨f, ao, k, c, pre⟩ := Front.of_owns HOW.out
        have hbe : Below w.heap.size wr we := (Below.refl _ wr).grown HGE.out (by have := HZW.out; omega) (fun k hk => by cases hk; exact Nat.le_refl _)
        refine ⟨?_, HBW.out.trans hbe⟩
        rw [HFN.out]
        refine ⟨⟨f, ao, k, c, pre⟩, ab, nb, cb, rfl, rfl, hgood.apart hfront HGE.out ?_, hfront, (High.of_owns HOW.out).mono (by omega), HX.out.low (HLW.out.mono HBB.out) hbe, HLW.out⟩
        intro b' hb' z
        cases hb'
        rw [World.cell?, H0.out]
        simp

end Go.Proofs.YtbfjihbkkcggmaaGreat

/- Used by the law. -/
namespace Go.Proofs.YtbfjihbkkcggmaaGreat
open Go.RowKit

def Cw.High (E : Nat) (c : Cw) : Prop := Go.Proofs.YtbfjihbkkcggmaaGreat.High E c.a c.n ∧ ∀ x ∈ c.xs, Go.Proofs.YtbfjihbkkcggmaaGreat.High E x.la x.ln ∧ Go.Proofs.YtbfjihbkkcggmaaGreat.High E x.ra x.rn
def CostsIs (B E : Nat) (w' : World) (e : Ending) (r : File.Cst × List Int × Bool) : Prop :=
  ∃ (x : Cw) (a : Option Addr) (n c : Nat), e = .returned (.tuple #[x.v, .slice a n c, .bool r.2.2]) ∧ x.c = r.1 ∧ x.Good w' ∧ x.High E ∧ Sl .u8 w' a n c r.2.1 ∧ Low B a n

theorem Rs.high {w w' : World} {a : Option Addr} {n cap B : Nat} {xs : List Rw} (h : Rs w a n cap xs) (hh : Go.Proofs.YtbfjihbkkcggmaaGreat.High B a n) (hx : ∀ x ∈ xs, Go.Proofs.YtbfjihbkkcggmaaGreat.High B x.la x.ln ∧ Go.Proofs.YtbfjihbkkcggmaaGreat.High B x.ra x.rn) (hc : ∀ b, B ≤ b → b < w.heap.size → w'.heap[b]? = w.heap[b]?) : Rs w' a n cap xs := by
  obtain ⟨h1, h2, h3, h4, h5⟩ := h
  refine ⟨h1, h2, h3, fun x hxx => ⟨(h4 x hxx).1.high (hx x hxx).1 hc, (h4 x hxx).2.1.high (hx x hxx).2 hc, (h4 x hxx).2.2⟩, ?_⟩
  rcases h5 with h5 | ⟨b, off, ha, hcell⟩
  · exact .inl h5
  · rcases Nat.eq_zero_or_pos n with h0 | hp
    · exact .inl h0
    · refine .inr ⟨b, off, ha, fun i hi => ?_⟩
      rcases hh with hh | ⟨b', o', hb', hB⟩
      · omega
      · rw [ha] at hb'
        cases hb'
        obtain ⟨e1, e2, e3⟩ := hcell i hi
        have hlt := cell_lt e1
        refine ⟨?_, ?_, ?_⟩
        · rw [World.cell?] at e1 ⊢; rw [hc b hB hlt]; exact e1
        · rw [World.cell?] at e2 ⊢; rw [hc b hB hlt]; exact e2
        · rw [World.cell?] at e3 ⊢; rw [hc b hB hlt]; exact e3
theorem Cw.Good.high {w w' : World} {c : Cw} {B : Nat} (h : c.Good w) (hh : c.High B) (hc : ∀ b, B ≤ b → b < w.heap.size → w'.heap[b]? = w.heap[b]?) : c.Good w' := ⟨h.1.high hh.1 hh.2 hc, h.2⟩

def RulesAt (N : Nat) (b0 : List Int) (k : Nat) (pre : List Rul) (bb : List Int) (ok : Bool) : Prop :=
  pre.length = k ∧ Img.dRules N b0 = if ok = true then (pre ++ (Img.dRules (N - k) bb).1, (Img.dRules (N - k) bb).2.1, (Img.dRules (N - k) bb).2.2) else (pre, bb, false)
theorem RulesAt.next {N : Nat} {b0 : List Int} {k : Nat} {pre : List Rul} {bb : List Int} (h : RulesAt N b0 k pre bb true) (hk : k < N) : RulesAt N b0 (k + 1) (pre ++ [(Img.dRule bb).1]) (Img.dRule bb).2.1 (Img.dRule bb).2.2 := by
  obtain ⟨h1, h2⟩ := h
  refine ⟨by simp [h1], ?_⟩
  rw [h2, if_pos rfl, show N - k = (N - (k + 1)) + 1 from by omega, Img.dRules]
  cases (Img.dRule bb).2.2 <;> simp
theorem RulesAt.done {N : Nat} {b0 : List Int} {k : Nat} {pre : List Rul} {bb : List Int} {ok : Bool} (h : RulesAt N b0 k pre bb ok) (hk : k = N ∨ ok = false) : Img.dRules N b0 = (pre, bb, ok) := by
  obtain ⟨h1, h2⟩ := h
  rw [h2]
  cases ok with
  | false => rfl
  | true =>
    rcases hk with rfl | hk
    · rw [if_pos rfl, Nat.sub_self, Img.dRules]; simp
    · cases hk
theorem owns_frontR {w : World} {B : Nat} {T : TypeId} {v : Value} {n : Nat} {xs : List Rw} (h : w.ownsRow B T 3 v n (rcells xs)) : ∀ b, v.ownBlock = some b → xs ≠ [] → ∀ z : Int, w.cell? ⟨b, 0, none⟩ ≠ some (.int .i64 z) := by
  intro b hb hne z
  rcases h.2 with ⟨rfl, _⟩ | ⟨g, c, cur, rfl, _⟩
  · cases hb
  · have : g = b := by simpa [Value.ownBlock] using hb
    subst this
    cases xs with
    | nil => exact absurd rfl hne
    | cons x xs =>
      have hl := h.1
      rw [rcells_length, List.length_cons] at hl
      rw [h.cellAt 0 (by omega)]
      simp [rcells, Rw.cells, Rw.l]
set_option maxRecDepth 100000 in
theorem info_co5 : (Tryz.prog.info? 26).map (·.size) = some 5 := by kernel_rfl

set_option maxHeartbeats 12800000 in
set_option maxRecDepth 100000 in
theorem rtakeCosts15_is (B : Nat) (a : Option Addr) (n cap : Nat) (b : List Int) (w : World) (hs : Sl .u8 w a n cap b) (hl : Low B a n) (hB : B ≤ w.heap.size) :
    Calls Tryz.prog 32 #[.slice a n cap] w fun e w' => CostsIs B w.heap.size w' e (Img.dCosts b) ∧ Below w.heap.size w w' := by
  obtain ⟨m, z1, o1, hD1⟩ : ∃ N b0 ok0, Img.dCost b = (N, b0, ok0) := ⟨_, _, _, rfl⟩
  have hm9 := Img.dCost_lt b
  rw [hD1] at hm9
  simp only at hm9
  have HC1 : Hid (∀ w a n c ok, Sl .u8 w a n c b → Low B a n → Calls Tryz.prog 61 #[.slice a n c, .bool ok] w fun e w' => NumIs B w' e .u64 (m, z1, ok && o1) ∧ Below w.heap.size w w') := by
    intro w a n c ok h1 h2
    have h := rtakeCost15_is B a n c b ok w h1 h2
    rw [hD1] at h; exact h
  obtain ⟨l, z2, o2, hD2⟩ : ∃ N b0 ok0, Img.dCost z1 = (N, b0, ok0) := ⟨_, _, _, rfl⟩
  have hl9 := Img.dCost_lt z1
  rw [hD2] at hl9
  simp only at hl9
  have HC2 : Hid (∀ w a n c ok, Sl .u8 w a n c z1 → Low B a n → Calls Tryz.prog 61 #[.slice a n c, .bool ok] w fun e w' => NumIs B w' e .u64 (l, z2, ok && o2) ∧ Below w.heap.size w w') := by
    intro w a n c ok h1 h2
    have h := rtakeCost15_is B a n c z1 ok w h1 h2
    rw [hD2] at h; exact h
  obtain ⟨o, z3, o3, hD3⟩ : ∃ N b0 ok0, Img.dCost z2 = (N, b0, ok0) := ⟨_, _, _, rfl⟩
  have ho9 := Img.dCost_lt z2
  rw [hD3] at ho9
  simp only at ho9
  have HC3 : Hid (∀ w a n c ok, Sl .u8 w a n c z2 → Low B a n → Calls Tryz.prog 61 #[.slice a n c, .bool ok] w fun e w' => NumIs B w' e .u64 (o, z3, ok && o3) ∧ Below w.heap.size w w') := by
    intro w a n c ok h1 h2
    have h := rtakeCost15_is B a n c z2 ok w h1 h2
    rw [hD3] at h; exact h
  obtain ⟨t, z4, o4, hD4⟩ : ∃ N b0 ok0, Img.dCost z3 = (N, b0, ok0) := ⟨_, _, _, rfl⟩
  have ht9 := Img.dCost_lt z3
  rw [hD4] at ht9
  simp only at ht9
  have HC4 : Hid (∀ w a n c ok, Sl .u8 w a n c z3 → Low B a n → Calls Tryz.prog 61 #[.slice a n c, .bool ok] w fun e w' => NumIs B w' e .u64 (t, z4, ok && o4) ∧ Below w.heap.size w w') := by
    intro w a n c ok h1 h2
    have h := rtakeCost15_is B a n c z3 ok w h1 h2
    rw [hD4] at h; exact h
  obtain ⟨N, b0, ok5, hD5⟩ : ∃ N b0 ok0, Img.dTake z4 = (N, b0, ok0) := ⟨_, _, _, rfl⟩
  have hN := Img.dTake_le z4
  rw [hD5] at hN
  simp only at hN
  have HC5 : Hid (∀ w a n c, Sl .u8 w a n c z4 → Low B a n → Calls Tryz.prog 30 #[.slice a n c] w fun e w' => NumIs B w' e .i64 (N, b0, ok5) ∧ Below w.heap.size w w') := by
    intro w a n c h1 h2
    rw [← hD5]; exact rtake15_is B a n c z4 w h1 h2
  have HF4 : Hid (Img.dFour 4 b = ([(m : Int), (l : Int), (o : Int), (t : Int)], z4, o1 && (o2 && (o3 && (o4 && true))))) := by
    show _ = _
    simp only [Img.dFour, hD1, hD2, hD3, hD4]
  have HD5 := Lib.hid hD5
  obtain ⟨ok0, hok0⟩ : ∃ ok0, (ok5 && (((true && o1) && o2) && o3) && o4) = ok0 := ⟨_, rfl⟩
  have HBAD : Hid (ok0 = false → Img.dCosts b = (⟨[(m : Int), (l : Int), (o : Int), (t : Int)], []⟩, b0, false)) := by
    intro h
    have : ((Img.dFour 4 b).2.2 && (Img.dTake (Img.dFour 4 b).2.1).2.2) = false := by
      rw [HF4.out]
      simp only [hD5]
      rw [h] at hok0
      revert hok0
      cases ok5 <;> cases o1 <;> cases o2 <;> cases o3 <;> cases o4 <;> simp
    rw [Img.dCosts, this, HF4.out]
    simp only [hD5]
    rfl
  have HGOOD : Hid (ok0 = true → Img.dCosts b = (⟨[(m : Int), (l : Int), (o : Int), (t : Int)], (Img.dRules N b0).1⟩, (Img.dRules N b0).2.1, (Img.dRules N b0).2.2)) := by
    intro h
    have : ((Img.dFour 4 b).2.2 && (Img.dTake (Img.dFour 4 b).2.1).2.2) = true := by
      rw [HF4.out]
      simp only [hD5]
      rw [h] at hok0
      revert hok0
      cases ok5 <;> cases o1 <;> cases o2 <;> cases o3 <;> cases o4 <;> simp
    rw [Img.dCosts, this, HF4.out]
    simp only [hD5]
    rfl
  have HOK0 := Lib.hid hok0
  have HBB := Lib.hid hB
  have HLW0 := Lib.hid hl
  have HS := Lib.hid hs
  clear hD1 hD2 hD3 hD4 hD5 hs hl hB hok0 HF4 HD5
  go_enter Tryz.func32, Tryz.ntmps32
  go_wp2_with fail
  refine (HC1.out _ _ _ _ _ (HS.out.alloc _) HLW0.out).mono ?_
  rintro e w1 ⟨⟨a1, n1, c1, rfl, hs1, hl1⟩, hb1⟩
  have S1 := Lib.hid hs1
  have L1 := Lib.hid hl1
  have R1 : Hid (w1.heap[w.heap.size]? = some (.cells #[Value.int .u64 0, Value.int .u64 0, Value.int .u64 0, Value.int .u64 0, Value.slice none 0 0] 26 (0, 0))) := by
    have h := hb1.block w.heap.size (by simp)
    rw [heap_alloc_new] at h; exact h
  have B1 : Hid (Below w.heap.size w w1) := ((Below.refl _ w).alloc (Nat.le_refl _) _).trans (hb1.mono (by simp))
  have Z1 : Hid (w.heap.size + 1 ≤ w1.heap.size) := by have := hb1.size; show _ ≤ _; simpa using this
  clear hs1 hl1 hb1 HC1
  go_wp2_with fail
  refine (HC2.out _ _ _ _ _ S1.out L1.out).mono ?_
  rintro e w2 ⟨⟨a2, n2, c2, rfl, hs2, hl2⟩, hb2⟩
  have S2 := Lib.hid hs2
  have L2 := Lib.hid hl2
  have R2 : Hid (w2.heap[w.heap.size]? = some (.cells #[Value.int .u64 0, Value.int .u64 0, Value.int .u64 0, Value.int .u64 0, Value.slice none 0 0] 26 (0, 0))) := by
    show _ = _
    rw [hb2.block _ (by have := Z1.out; omega)]; exact R1.out
  have B2 : Hid (Below w.heap.size w w2) := B1.out.trans (hb2.mono B1.out.size)
  have Z2 : Hid (w.heap.size + 1 ≤ w2.heap.size) := Nat.le_trans Z1.out hb2.size
  clear hs2 hl2 hb2 HC2 S1 L1 R1 B1 Z1
  go_wp2_with fail
  refine (HC3.out _ _ _ _ _ S2.out L2.out).mono ?_
  rintro e w3 ⟨⟨a3, n3, c3, rfl, hs3, hl3⟩, hb3⟩
  have S3 := Lib.hid hs3
  have L3 := Lib.hid hl3
  have R3 : Hid (w3.heap[w.heap.size]? = some (.cells #[Value.int .u64 0, Value.int .u64 0, Value.int .u64 0, Value.int .u64 0, Value.slice none 0 0] 26 (0, 0))) := by
    show _ = _
    rw [hb3.block _ (by have := Z2.out; omega)]; exact R2.out
  have B3 : Hid (Below w.heap.size w w3) := B2.out.trans (hb3.mono B2.out.size)
  have Z3 : Hid (w.heap.size + 1 ≤ w3.heap.size) := Nat.le_trans Z2.out hb3.size
  clear hs3 hl3 hb3 HC3 S2 L2 R2 B2 Z2
  go_wp2_with fail
  refine (HC4.out _ _ _ _ _ S3.out L3.out).mono ?_
  rintro e w4 ⟨⟨a4, n4, c4, rfl, hs4, hl4⟩, hb4⟩
  have S4 := Lib.hid hs4
  have L4 := Lib.hid hl4
  have R4 : Hid (w4.heap[w.heap.size]? = some (.cells #[Value.int .u64 0, Value.int .u64 0, Value.int .u64 0, Value.int .u64 0, Value.slice none 0 0] 26 (0, 0))) := by
    show _ = _
    rw [hb4.block _ (by have := Z3.out; omega)]; exact R3.out
  have B4 : Hid (Below w.heap.size w w4) := B3.out.trans (hb4.mono B3.out.size)
  have Z4 : Hid (w.heap.size + 1 ≤ w4.heap.size) := Nat.le_trans Z3.out hb4.size
  clear hs4 hl4 hb4 HC4 S3 L3 R3 B3 Z3
  go_wp2_with fail
  refine (HC5.out _ _ _ _ S4.out L4.out).mono ?_
  rintro e w5 ⟨⟨a5, n5, c5, rfl, hs5, hl5⟩, hb5⟩
  have S5 := Lib.hid hs5
  have L5 := Lib.hid hl5
  have R5 : Hid (w5.heap[w.heap.size]? = some (.cells #[Value.int .u64 0, Value.int .u64 0, Value.int .u64 0, Value.int .u64 0, Value.slice none 0 0] 26 (0, 0))) := by
    show _ = _
    rw [hb5.block _ (by have := Z4.out; omega)]; exact R4.out
  have B5 : Hid (Below w.heap.size w w5) := B4.out.trans (hb5.mono B4.out.size)
  have Z5 : Hid (w.heap.size + 1 ≤ w5.heap.size) := Nat.le_trans Z4.out hb5.size
  clear hs5 hl5 hb5 HC5 S4 L4 R4 B4 Z4
  have HBS : Hid (∀ x ∈ [(m : Int), (l : Int), (o : Int), (t : Int)], 0 ≤ x ∧ x < 18446744073709551616) := by
    intro x hx
    simp only [List.mem_cons, List.not_mem_nil, or_false] at hx
    rcases hx with rfl | rfl | rfl | rfl <;> omega
  obtain ⟨q4, hq4⟩ : ∃ q, ((((o1 && o2) && o3) && o4)) = q := ⟨_, rfl⟩
  have hok2 : (ok5 && q4) = ok0 := by rw [← hq4, ← HOK0.out]; cases ok5 <;> simp [Bool.and_assoc]
  cases ok5 with
  | false =>
    have HOF : Hid (ok0 = false) := hok2.symm
    clear hok2
    go_wp2
    go_loopw [18, 19, 21] (fun rv okv kv wr => rv = .slice a5 n5 c5 ∧ okv = .bool false ∧ kv = .int .i64 0 ∧ Hid (wr = w5.alloc (.cells #[Value.int .u64 (m : Int), Value.int .u64 (l : Int), Value.int .u64 (o : Int), Value.int .u64 (t : Int), Value.slice none 0 0] 26))) (fun _ _ _ _ => 0)
    case atStart => exact ⟨rfl, rfl, rfl, rfl⟩
    case round =>
      obtain ⟨rfl, rfl, rfl, HWR⟩ := hrel
      obtain ⟨ao, hao⟩ : ∃ ao : Option Addr, ao = none := ⟨_, rfl⟩
      obtain ⟨k, hk⟩ : ∃ k, k = 0 := ⟨_, rfl⟩
      obtain ⟨c, hc⟩ : ∃ c, c = 0 := ⟨_, rfl⟩
      obtain ⟨xs, hxs⟩ : ∃ xs : List Rw, xs = [] := ⟨_, rfl⟩
      obtain ⟨ab, hab⟩ : ∃ x, x = a5 := ⟨_, rfl⟩
      obtain ⟨nb, hnb⟩ : ∃ x, x = n5 := ⟨_, rfl⟩
      obtain ⟨cb, hcb⟩ : ∃ x, x = c5 := ⟨_, rfl⟩
      have H0 : Hid (wr.heap[w.heap.size]? = some (.cells #[Value.int .u64 0, Value.int .u64 0, Value.int .u64 0, Value.int .u64 0, Value.slice none 0 0] 26 (0, 0))) := by show _ = _; rw [HWR.out, heap_alloc_old _ _ (by have := Z5.out; omega)]; exact R5.out
      have H1 : Hid (wr.heap[w5.heap.size]? = some (.cells #[Value.int .u64 (m : Int), Value.int .u64 (l : Int), Value.int .u64 (o : Int), Value.int .u64 (t : Int), Value.slice ao k c] 26 (0, 0))) := by show _ = _; rw [HWR.out, hao, hk, hc]; exact heap_alloc_new _ _
      have HOW : Hid (wr.ownsRow (w5.heap.size + 1) 72 3 (.slice ao k c) k (rcells xs)) := by show World.ownsRow _ _ _ _ _ _ _; rw [hao, hk, hc, hxs]; exact owns_nil_rules _ _
      have HCH : Hid (∀ x ∈ xs, x.Good wr ∧ (Front x.la x.ln ∧ Front x.ra x.rn) ∧ (High (w5.heap.size + 1) x.la x.ln ∧ High (w5.heap.size + 1) x.ra x.rn)) := by intro x hx; rw [hxs] at hx; cases hx
      have HLP : Hid (xs.length = k) := by show _ = _; rw [hxs, hk]; rfl
      have HX : Hid (Sl .u8 wr ab nb cb b0) := by show Sl _ _ _ _ _ _; rw [HWR.out, hab, hnb, hcb]; exact S5.out.alloc _
      have HLW : Hid (Low B ab nb) := by rw [hab, hnb]; exact L5.out
      have HBW : Hid (Below w.heap.size w wr) := by rw [HWR.out]; exact B5.out.alloc B5.out.size _
      have HZW : Hid (w5.heap.size + 1 ≤ wr.heap.size) := by show _ ≤ _; rw [HWR.out]; simp
      have HFN : Hid (Img.dCosts b = (⟨[(m : Int), (l : Int), (o : Int), (t : Int)], ruls xs⟩, b0, false)) := by show _ = _; rw [hxs]; exact HBAD.out HOF.out
      clear hao hk hc hxs HWR
      subst hab hnb hcb
      by_cases hN0 : 0 < N
      · have hki : (0 : Int) < (N : Int) := by omega
        go_wp2_with (first
          | (refine wpList_load_row (by rfl) 26 (.tmp 20) (by rfl) w5.heap.size (by rfl) 26 #[Value.int .u64 (m : Int), Value.int .u64 (l : Int), Value.int .u64 (o : Int), Value.int .u64 (t : Int), Value.slice ao k c] (0, 0) _ H1.out Tryz.underlying26 (by rfl) info_co5 ?_)
          | (refine wpList_store_g (by rfl) 26 (.tmp 2) (.tmp 114) (by rfl) w.heap.size #[Value.int .u64 (m : Int), Value.int .u64 (l : Int), Value.int .u64 (o : Int), Value.int .u64 (t : Int), Value.slice ao k c] (by rfl) (by rfl) 26 #[Value.int .u64 0, Value.int .u64 0, Value.int .u64 0, Value.int .u64 0, Value.slice none 0 0] H0.out info_co5 rfl (by simp [Value.oneCell']) ?_; intro we hwe hge hsze; have HWE := Lib.hid hwe; have HGE := Lib.hid hge; clear hwe hge hsze))
        try rw [Exit.noGoto_ret]
        refine bodyPost_ret (results_cell_row_tmp2 rfl _ _ w.heap.size 26 #[Value.int .u64 (m : Int), Value.int .u64 (l : Int), Value.int .u64 (o : Int), Value.int .u64 (t : Int), Value.slice ao k c] (0, 0) _ (by rfl) HWE.out Tryz.underlying26 (by rfl) info_co5) rfl ?_
        have hgood : Cw.Good wr ⟨(m : Int), (l : Int), (o : Int), (t : Int), ao, k, c, xs⟩ := ⟨Rs.of_owns HOW.out (fun x hx => (HCH.out x hx).1) HLP.out, HBS.out⟩
        have hhigh : Cw.High (w5.heap.size + 1) ⟨(m : Int), (l : Int), (o : Int), (t : Int), ao, k, c, xs⟩ := ⟨High.of_owns HOW.out, fun x hx => (HCH.out x hx).2.2⟩
        have hbe : Below w.heap.size wr we := (Below.refl _ wr).grown HGE.out (by have := HZW.out; have := Z5.out; omega) (fun k hk => by cases hk; exact Nat.le_refl _)
        refine ⟨?_, HBW.out.trans hbe⟩
        rw [HFN.out]
        refine ⟨⟨(m : Int), (l : Int), (o : Int), (t : Int), ao, k, c, xs⟩, ab, nb, cb, rfl, rfl, hgood.high hhigh ?_, ⟨hhigh.1.mono (by have := Z5.out; show w.heap.size ≤ w5.heap.size + 1; omega), fun x hx => ⟨(hhigh.2 x hx).1.mono (by have := Z5.out; omega), (hhigh.2 x hx).2.mono (by have := Z5.out; omega)⟩⟩, HX.out.low (HLW.out.mono HBB.out) hbe, HLW.out⟩
        intro b' hb' hlt'
        exact HGE.out.block b' hlt' (by intro e; cases e; have := Z5.out; omega)
      · have hki : ¬ (0 : Int) < (N : Int) := by omega
        go_wp2_with (first
          | (refine wpList_load_row (by rfl) 26 (.tmp 20) (by rfl) w5.heap.size (by rfl) 26 #[Value.int .u64 (m : Int), Value.int .u64 (l : Int), Value.int .u64 (o : Int), Value.int .u64 (t : Int), Value.slice ao k c] (0, 0) _ H1.out Tryz.underlying26 (by rfl) info_co5 ?_)
          | (refine wpList_store_g (by rfl) 26 (.tmp 2) (.tmp 114) (by rfl) w.heap.size #[Value.int .u64 (m : Int), Value.int .u64 (l : Int), Value.int .u64 (o : Int), Value.int .u64 (t : Int), Value.slice ao k c] (by rfl) (by rfl) 26 #[Value.int .u64 0, Value.int .u64 0, Value.int .u64 0, Value.int .u64 0, Value.slice none 0 0] H0.out info_co5 rfl (by simp [Value.oneCell']) ?_; intro we hwe hge hsze; have HWE := Lib.hid hwe; have HGE := Lib.hid hge; clear hwe hge hsze))
        try rw [Exit.noGoto_ret]
        refine bodyPost_ret (results_cell_row_tmp2 rfl _ _ w.heap.size 26 #[Value.int .u64 (m : Int), Value.int .u64 (l : Int), Value.int .u64 (o : Int), Value.int .u64 (t : Int), Value.slice ao k c] (0, 0) _ (by rfl) HWE.out Tryz.underlying26 (by rfl) info_co5) rfl ?_
        have hgood : Cw.Good wr ⟨(m : Int), (l : Int), (o : Int), (t : Int), ao, k, c, xs⟩ := ⟨Rs.of_owns HOW.out (fun x hx => (HCH.out x hx).1) HLP.out, HBS.out⟩
        have hhigh : Cw.High (w5.heap.size + 1) ⟨(m : Int), (l : Int), (o : Int), (t : Int), ao, k, c, xs⟩ := ⟨High.of_owns HOW.out, fun x hx => (HCH.out x hx).2.2⟩
        have hbe : Below w.heap.size wr we := (Below.refl _ wr).grown HGE.out (by have := HZW.out; have := Z5.out; omega) (fun k hk => by cases hk; exact Nat.le_refl _)
        refine ⟨?_, HBW.out.trans hbe⟩
        rw [HFN.out]
        refine ⟨⟨(m : Int), (l : Int), (o : Int), (t : Int), ao, k, c, xs⟩, ab, nb, cb, rfl, rfl, hgood.high hhigh ?_, ⟨hhigh.1.mono (by have := Z5.out; show w.heap.size ≤ w5.heap.size + 1; omega), fun x hx => ⟨(hhigh.2 x hx).1.mono (by have := Z5.out; omega), (hhigh.2 x hx).2.mono (by have := Z5.out; omega)⟩⟩, HX.out.low (HLW.out.mono HBB.out) hbe, HLW.out⟩
        intro b' hb' hlt'
        exact HGE.out.block b' hlt' (by intro e; cases e; have := Z5.out; omega)
  | true =>
    cases q4 with
    | false =>
      have HOF : Hid (ok0 = false) := hok2.symm
      clear hok2
      go_wp2
      go_loopw [18, 19, 21] (fun rv okv kv wr => rv = .slice a5 n5 c5 ∧ okv = .bool false ∧ kv = .int .i64 0 ∧ Hid (wr = w5.alloc (.cells #[Value.int .u64 (m : Int), Value.int .u64 (l : Int), Value.int .u64 (o : Int), Value.int .u64 (t : Int), Value.slice none 0 0] 26))) (fun _ _ _ _ => 0)
      case atStart => exact ⟨rfl, rfl, rfl, rfl⟩
      case round =>
        obtain ⟨rfl, rfl, rfl, HWR⟩ := hrel
        obtain ⟨ao, hao⟩ : ∃ ao : Option Addr, ao = none := ⟨_, rfl⟩
        obtain ⟨k, hk⟩ : ∃ k, k = 0 := ⟨_, rfl⟩
        obtain ⟨c, hc⟩ : ∃ c, c = 0 := ⟨_, rfl⟩
        obtain ⟨xs, hxs⟩ : ∃ xs : List Rw, xs = [] := ⟨_, rfl⟩
        obtain ⟨ab, hab⟩ : ∃ x, x = a5 := ⟨_, rfl⟩
        obtain ⟨nb, hnb⟩ : ∃ x, x = n5 := ⟨_, rfl⟩
        obtain ⟨cb, hcb⟩ : ∃ x, x = c5 := ⟨_, rfl⟩
        have H0 : Hid (wr.heap[w.heap.size]? = some (.cells #[Value.int .u64 0, Value.int .u64 0, Value.int .u64 0, Value.int .u64 0, Value.slice none 0 0] 26 (0, 0))) := by show _ = _; rw [HWR.out, heap_alloc_old _ _ (by have := Z5.out; omega)]; exact R5.out
        have H1 : Hid (wr.heap[w5.heap.size]? = some (.cells #[Value.int .u64 (m : Int), Value.int .u64 (l : Int), Value.int .u64 (o : Int), Value.int .u64 (t : Int), Value.slice ao k c] 26 (0, 0))) := by show _ = _; rw [HWR.out, hao, hk, hc]; exact heap_alloc_new _ _
        have HOW : Hid (wr.ownsRow (w5.heap.size + 1) 72 3 (.slice ao k c) k (rcells xs)) := by show World.ownsRow _ _ _ _ _ _ _; rw [hao, hk, hc, hxs]; exact owns_nil_rules _ _
        have HCH : Hid (∀ x ∈ xs, x.Good wr ∧ (Front x.la x.ln ∧ Front x.ra x.rn) ∧ (High (w5.heap.size + 1) x.la x.ln ∧ High (w5.heap.size + 1) x.ra x.rn)) := by intro x hx; rw [hxs] at hx; cases hx
        have HLP : Hid (xs.length = k) := by show _ = _; rw [hxs, hk]; rfl
        have HX : Hid (Sl .u8 wr ab nb cb b0) := by show Sl _ _ _ _ _ _; rw [HWR.out, hab, hnb, hcb]; exact S5.out.alloc _
        have HLW : Hid (Low B ab nb) := by rw [hab, hnb]; exact L5.out
        have HBW : Hid (Below w.heap.size w wr) := by rw [HWR.out]; exact B5.out.alloc B5.out.size _
        have HZW : Hid (w5.heap.size + 1 ≤ wr.heap.size) := by show _ ≤ _; rw [HWR.out]; simp
        have HFN : Hid (Img.dCosts b = (⟨[(m : Int), (l : Int), (o : Int), (t : Int)], ruls xs⟩, b0, false)) := by show _ = _; rw [hxs]; exact HBAD.out HOF.out
        clear hao hk hc hxs HWR
        subst hab hnb hcb
        by_cases hN0 : 0 < N
        · have hki : (0 : Int) < (N : Int) := by omega
          go_wp2_with (first
            | (refine wpList_load_row (by rfl) 26 (.tmp 20) (by rfl) w5.heap.size (by rfl) 26 #[Value.int .u64 (m : Int), Value.int .u64 (l : Int), Value.int .u64 (o : Int), Value.int .u64 (t : Int), Value.slice ao k c] (0, 0) _ H1.out Tryz.underlying26 (by rfl) info_co5 ?_)
            | (refine wpList_store_g (by rfl) 26 (.tmp 2) (.tmp 114) (by rfl) w.heap.size #[Value.int .u64 (m : Int), Value.int .u64 (l : Int), Value.int .u64 (o : Int), Value.int .u64 (t : Int), Value.slice ao k c] (by rfl) (by rfl) 26 #[Value.int .u64 0, Value.int .u64 0, Value.int .u64 0, Value.int .u64 0, Value.slice none 0 0] H0.out info_co5 rfl (by simp [Value.oneCell']) ?_; intro we hwe hge hsze; have HWE := Lib.hid hwe; have HGE := Lib.hid hge; clear hwe hge hsze))
          try rw [Exit.noGoto_ret]
          refine bodyPost_ret (results_cell_row_tmp2 rfl _ _ w.heap.size 26 #[Value.int .u64 (m : Int), Value.int .u64 (l : Int), Value.int .u64 (o : Int), Value.int .u64 (t : Int), Value.slice ao k c] (0, 0) _ (by rfl) HWE.out Tryz.underlying26 (by rfl) info_co5) rfl ?_
          have hgood : Cw.Good wr ⟨(m : Int), (l : Int), (o : Int), (t : Int), ao, k, c, xs⟩ := ⟨Rs.of_owns HOW.out (fun x hx => (HCH.out x hx).1) HLP.out, HBS.out⟩
          have hhigh : Cw.High (w5.heap.size + 1) ⟨(m : Int), (l : Int), (o : Int), (t : Int), ao, k, c, xs⟩ := ⟨High.of_owns HOW.out, fun x hx => (HCH.out x hx).2.2⟩
          have hbe : Below w.heap.size wr we := (Below.refl _ wr).grown HGE.out (by have := HZW.out; have := Z5.out; omega) (fun k hk => by cases hk; exact Nat.le_refl _)
          refine ⟨?_, HBW.out.trans hbe⟩
          rw [HFN.out]
          refine ⟨⟨(m : Int), (l : Int), (o : Int), (t : Int), ao, k, c, xs⟩, ab, nb, cb, rfl, rfl, hgood.high hhigh ?_, ⟨hhigh.1.mono (by have := Z5.out; show w.heap.size ≤ w5.heap.size + 1; omega), fun x hx => ⟨(hhigh.2 x hx).1.mono (by have := Z5.out; omega), (hhigh.2 x hx).2.mono (by have := Z5.out; omega)⟩⟩, HX.out.low (HLW.out.mono HBB.out) hbe, HLW.out⟩
          intro b' hb' hlt'
          exact HGE.out.block b' hlt' (by intro e; cases e; have := Z5.out; omega)
        · have hki : ¬ (0 : Int) < (N : Int) := by omega
          go_wp2_with (first
            | (refine wpList_load_row (by rfl) 26 (.tmp 20) (by rfl) w5.heap.size (by rfl) 26 #[Value.int .u64 (m : Int), Value.int .u64 (l : Int), Value.int .u64 (o : Int), Value.int .u64 (t : Int), Value.slice ao k c] (0, 0) _ H1.out Tryz.underlying26 (by rfl) info_co5 ?_)
            | (refine wpList_store_g (by rfl) 26 (.tmp 2) (.tmp 114) (by rfl) w.heap.size #[Value.int .u64 (m : Int), Value.int .u64 (l : Int), Value.int .u64 (o : Int), Value.int .u64 (t : Int), Value.slice ao k c] (by rfl) (by rfl) 26 #[Value.int .u64 0, Value.int .u64 0, Value.int .u64 0, Value.int .u64 0, Value.slice none 0 0] H0.out info_co5 rfl (by simp [Value.oneCell']) ?_; intro we hwe hge hsze; have HWE := Lib.hid hwe; have HGE := Lib.hid hge; clear hwe hge hsze))
          try rw [Exit.noGoto_ret]
          refine bodyPost_ret (results_cell_row_tmp2 rfl _ _ w.heap.size 26 #[Value.int .u64 (m : Int), Value.int .u64 (l : Int), Value.int .u64 (o : Int), Value.int .u64 (t : Int), Value.slice ao k c] (0, 0) _ (by rfl) HWE.out Tryz.underlying26 (by rfl) info_co5) rfl ?_
          have hgood : Cw.Good wr ⟨(m : Int), (l : Int), (o : Int), (t : Int), ao, k, c, xs⟩ := ⟨Rs.of_owns HOW.out (fun x hx => (HCH.out x hx).1) HLP.out, HBS.out⟩
          have hhigh : Cw.High (w5.heap.size + 1) ⟨(m : Int), (l : Int), (o : Int), (t : Int), ao, k, c, xs⟩ := ⟨High.of_owns HOW.out, fun x hx => (HCH.out x hx).2.2⟩
          have hbe : Below w.heap.size wr we := (Below.refl _ wr).grown HGE.out (by have := HZW.out; have := Z5.out; omega) (fun k hk => by cases hk; exact Nat.le_refl _)
          refine ⟨?_, HBW.out.trans hbe⟩
          rw [HFN.out]
          refine ⟨⟨(m : Int), (l : Int), (o : Int), (t : Int), ao, k, c, xs⟩, ab, nb, cb, rfl, rfl, hgood.high hhigh ?_, ⟨hhigh.1.mono (by have := Z5.out; show w.heap.size ≤ w5.heap.size + 1; omega), fun x hx => ⟨(hhigh.2 x hx).1.mono (by have := Z5.out; omega), (hhigh.2 x hx).2.mono (by have := Z5.out; omega)⟩⟩, HX.out.low (HLW.out.mono HBB.out) hbe, HLW.out⟩
          intro b' hb' hlt'
          exact HGE.out.block b' hlt' (by intro e; cases e; have := Z5.out; omega)
    | true =>
      have HOT : Hid (ok0 = true) := hok2.symm
      have HDC := Lib.hid (HGOOD.out HOT.out)
      clear hok2
      go_wp2
      go_loopw [18, 19, 21] (fun rv okv kv wr => ∃ (k c nb cb : Nat) (ao ab : Option Addr) (xs : List Rw) (bb : List Int) (ok : Bool), rv = .slice ab nb cb ∧ okv = .bool ok ∧ kv = .int .i64 (k : Int) ∧ k ≤ N ∧ Hid (RulesAt N b0 k (ruls xs) bb ok) ∧ Hid (Sl .u8 wr ab nb cb bb) ∧ Hid (Low B ab nb) ∧ Hid (wr.heap[w.heap.size]? = some (.cells #[Value.int .u64 0, Value.int .u64 0, Value.int .u64 0, Value.int .u64 0, Value.slice none 0 0] 26 (0, 0))) ∧ Hid (wr.heap[w5.heap.size]? = some (.cells #[Value.int .u64 (m : Int), Value.int .u64 (l : Int), Value.int .u64 (o : Int), Value.int .u64 (t : Int), Value.slice ao k c] 26 (0, 0))) ∧ Hid (wr.ownsRow (w5.heap.size + 1) 72 3 (.slice ao k c) k (rcells xs)) ∧ Hid (k = 0 → ao = none) ∧ Hid (∀ x ∈ xs, x.Good wr ∧ (Front x.la x.ln ∧ Front x.ra x.rn) ∧ (High (w5.heap.size + 1) x.la x.ln ∧ High (w5.heap.size + 1) x.ra x.rn)) ∧ Hid (Below w.heap.size w wr) ∧ Hid (w5.heap.size + 1 ≤ wr.heap.size)) (fun _ _ kv _ => N - (intOf kv).toNat)
      case atStart =>
        refine ⟨0, 0, n5, c5, none, a5, [], b0, true, rfl, rfl, rfl, Nat.zero_le _, ⟨rfl, by rw [if_pos rfl, Nat.sub_zero]; simp [ruls]⟩, S5.out.alloc _, L5.out, ?_, heap_alloc_new _ _, owns_nil_rules _ _, fun _ => rfl, by first | exact (trivial : True) | (intro x hx; cases hx), B5.out.alloc B5.out.size _, by show _ ≤ _; simp⟩
        show _ = _
        rw [heap_alloc_old _ _ (by have := Z5.out; omega)]; exact R5.out
      case round =>
        obtain ⟨k, c, nb, cb, ao, ab, xs, bb, ok, rfl, rfl, rfl, hk, HI, HX, HLW, H0, H1, HOW, HNO, HCH, HBW, HZW⟩ := hrel
        have HLP : Hid (xs.length = k) := by have h := HI.out.1; rw [ruls_length] at h; exact h
        cases ok with
        | false =>
          have HFN : Hid (Img.dCosts b = (⟨[(m : Int), (l : Int), (o : Int), (t : Int)], ruls xs⟩, bb, false)) := by
            show _ = _
            rw [HDC.out, HI.out.done (.inr rfl)]
          by_cases hlt : k < N
          · have hki : (k : Int) < (N : Int) := by omega
            go_wp2_with (first
              | (refine wpList_load_row (by rfl) 26 (.tmp 20) (by rfl) w5.heap.size (by rfl) 26 #[Value.int .u64 (m : Int), Value.int .u64 (l : Int), Value.int .u64 (o : Int), Value.int .u64 (t : Int), Value.slice ao k c] (0, 0) _ H1.out Tryz.underlying26 (by rfl) info_co5 ?_)
              | (refine wpList_store_g (by rfl) 26 (.tmp 2) (.tmp 114) (by rfl) w.heap.size #[Value.int .u64 (m : Int), Value.int .u64 (l : Int), Value.int .u64 (o : Int), Value.int .u64 (t : Int), Value.slice ao k c] (by rfl) (by rfl) 26 #[Value.int .u64 0, Value.int .u64 0, Value.int .u64 0, Value.int .u64 0, Value.slice none 0 0] H0.out info_co5 rfl (by simp [Value.oneCell']) ?_; intro we hwe hge hsze; have HWE := Lib.hid hwe; have HGE := Lib.hid hge; clear hwe hge hsze))
            try rw [Exit.noGoto_ret]
            refine bodyPost_ret (results_cell_row_tmp2 rfl _ _ w.heap.size 26 #[Value.int .u64 (m : Int), Value.int .u64 (l : Int), Value.int .u64 (o : Int), Value.int .u64 (t : Int), Value.slice ao k c] (0, 0) _ (by rfl) HWE.out Tryz.underlying26 (by rfl) info_co5) rfl ?_
            have hgood : Cw.Good wr ⟨(m : Int), (l : Int), (o : Int), (t : Int), ao, k, c, xs⟩ := ⟨Rs.of_owns HOW.out (fun x hx => (HCH.out x hx).1) HLP.out, HBS.out⟩
            have hhigh : Cw.High (w5.heap.size + 1) ⟨(m : Int), (l : Int), (o : Int), (t : Int), ao, k, c, xs⟩ := ⟨High.of_owns HOW.out, fun x hx => (HCH.out x hx).2.2⟩
            have hbe : Below w.heap.size wr we := (Below.refl _ wr).grown HGE.out (by have := HZW.out; have := Z5.out; omega) (fun k hk => by cases hk; exact Nat.le_refl _)
            refine ⟨?_, HBW.out.trans hbe⟩
            rw [HFN.out]
            refine ⟨⟨(m : Int), (l : Int), (o : Int), (t : Int), ao, k, c, xs⟩, ab, nb, cb, rfl, rfl, hgood.high hhigh ?_, ⟨hhigh.1.mono (by have := Z5.out; show w.heap.size ≤ w5.heap.size + 1; omega), fun x hx => ⟨(hhigh.2 x hx).1.mono (by have := Z5.out; omega), (hhigh.2 x hx).2.mono (by have := Z5.out; omega)⟩⟩, HX.out.low (HLW.out.mono HBB.out) hbe, HLW.out⟩
            intro b' hb' hlt'
            exact HGE.out.block b' hlt' (by intro e; cases e; have := Z5.out; omega)
          · have hki : ¬ (k : Int) < (N : Int) := by omega
            go_wp2_with (first
              | (refine wpList_load_row (by rfl) 26 (.tmp 20) (by rfl) w5.heap.size (by rfl) 26 #[Value.int .u64 (m : Int), Value.int .u64 (l : Int), Value.int .u64 (o : Int), Value.int .u64 (t : Int), Value.slice ao k c] (0, 0) _ H1.out Tryz.underlying26 (by rfl) info_co5 ?_)
              | (refine wpList_store_g (by rfl) 26 (.tmp 2) (.tmp 114) (by rfl) w.heap.size #[Value.int .u64 (m : Int), Value.int .u64 (l : Int), Value.int .u64 (o : Int), Value.int .u64 (t : Int), Value.slice ao k c] (by rfl) (by rfl) 26 #[Value.int .u64 0, Value.int .u64 0, Value.int .u64 0, Value.int .u64 0, Value.slice none 0 0] H0.out info_co5 rfl (by simp [Value.oneCell']) ?_; intro we hwe hge hsze; have HWE := Lib.hid hwe; have HGE := Lib.hid hge; clear hwe hge hsze))
            try rw [Exit.noGoto_ret]
            refine bodyPost_ret (results_cell_row_tmp2 rfl _ _ w.heap.size 26 #[Value.int .u64 (m : Int), Value.int .u64 (l : Int), Value.int .u64 (o : Int), Value.int .u64 (t : Int), Value.slice ao k c] (0, 0) _ (by rfl) HWE.out Tryz.underlying26 (by rfl) info_co5) rfl ?_
            have hgood : Cw.Good wr ⟨(m : Int), (l : Int), (o : Int), (t : Int), ao, k, c, xs⟩ := ⟨Rs.of_owns HOW.out (fun x hx => (HCH.out x hx).1) HLP.out, HBS.out⟩
            have hhigh : Cw.High (w5.heap.size + 1) ⟨(m : Int), (l : Int), (o : Int), (t : Int), ao, k, c, xs⟩ := ⟨High.of_owns HOW.out, fun x hx => (HCH.out x hx).2.2⟩
            have hbe : Below w.heap.size wr we := (Below.refl _ wr).grown HGE.out (by have := HZW.out; have := Z5.out; omega) (fun k hk => by cases hk; exact Nat.le_refl _)
            refine ⟨?_, HBW.out.trans hbe⟩
            rw [HFN.out]
            refine ⟨⟨(m : Int), (l : Int), (o : Int), (t : Int), ao, k, c, xs⟩, ab, nb, cb, rfl, rfl, hgood.high hhigh ?_, ⟨hhigh.1.mono (by have := Z5.out; show w.heap.size ≤ w5.heap.size + 1; omega), fun x hx => ⟨(hhigh.2 x hx).1.mono (by have := Z5.out; omega), (hhigh.2 x hx).2.mono (by have := Z5.out; omega)⟩⟩, HX.out.low (HLW.out.mono HBB.out) hbe, HLW.out⟩
            intro b' hb' hlt'
            exact HGE.out.block b' hlt' (by intro e; cases e; have := Z5.out; omega)
        | true =>
          by_cases hlt : k < N
          · have hki : (k : Int) < (N : Int) := by omega
            obtain ⟨L, b1, p1, hD6⟩ : ∃ N b0 ok0, Img.dSide bb = (N, b0, ok0) := ⟨_, _, _, rfl⟩
            obtain ⟨RR, b2, p2, hD7⟩ : ∃ N b0 ok0, Img.dSide b1 = (N, b0, ok0) := ⟨_, _, _, rfl⟩
            obtain ⟨C, b3, p3, hD8⟩ : ∃ N b0 ok0, Img.dCost b2 = (N, b0, ok0) := ⟨_, _, _, rfl⟩
            have hC9 := Img.dCost_lt b2
            rw [hD8] at hC9
            simp only at hC9
            have hin := HI.out.next hlt
            have hru : Img.dRule bb = (⟨L, RR, (C : Int)⟩, b3, p1 && p2 && p3) := by
              simp only [Img.dRule, hD6, hD7, hD8]
            rw [hru] at hin
            simp only at hin
            have HNX := Lib.hid hin
            have HS6 : Hid (∀ W a n c, Sl .u8 W a n c bb → Low B a n → B ≤ W.heap.size → Calls Tryz.prog 62 #[.slice a n c] W fun e w' => SideIs B W.heap.size w' e (L, b1, p1) ∧ Below W.heap.size W w') := by
              intro W a n c h1 h2 h3
              rw [← hD6]; exact rtakeSide15_is B a n c bb W h1 h2 h3
            have HS7 : Hid (∀ W a n c, Sl .u8 W a n c b1 → Low B a n → B ≤ W.heap.size → Calls Tryz.prog 62 #[.slice a n c] W fun e w' => SideIs B W.heap.size w' e (RR, b2, p2) ∧ Below W.heap.size W w') := by
              intro W a n c h1 h2 h3
              rw [← hD7]; exact rtakeSide15_is B a n c b1 W h1 h2 h3
            have HS8 : Hid (∀ W a n c ok, Sl .u8 W a n c b2 → Low B a n → Calls Tryz.prog 61 #[.slice a n c, .bool ok] W fun e w' => NumIs B w' e .u64 (C, b3, ok && p3) ∧ Below W.heap.size W w') := by
              intro W a n c ok h1 h2
              have h := rtakeCost15_is B a n c b2 ok W h1 h2
              rw [hD8] at h; exact h
            clear hD6 hD7 hD8 hin hru
            go_wp2_with fail
            refine (HS6.out _ _ _ _ HX.out HLW.out (by have := HBB.out; have := HZW.out; have := Z5.out; omega)).mono ?_
            rintro e w6 ⟨⟨a6, n6, c6, d6, m6, k6, rfl, hl6, hf6, hh6, hs6, hw6⟩, hb6⟩
            have I6 := Lib.hid (And.intro hl6 (And.intro hf6 (hh6.mono HZW.out)))
            have S6 := Lib.hid hs6
            have L6 := Lib.hid hw6
            have G6a : Hid (w6.heap[w.heap.size]? = some (.cells #[Value.int .u64 0, Value.int .u64 0, Value.int .u64 0, Value.int .u64 0, Value.slice none 0 0] 26 (0, 0))) := by show _ = _; rw [hb6.block _ (by have := HZW.out; have := Z5.out; omega)]; exact H0.out
            have G6b : Hid (w6.heap[w5.heap.size]? = some (.cells #[Value.int .u64 (m : Int), Value.int .u64 (l : Int), Value.int .u64 (o : Int), Value.int .u64 (t : Int), Value.slice ao k c] 26 (0, 0))) := by show _ = _; rw [hb6.block _ (by have := HZW.out; omega)]; exact H1.out
            have O6 := Lib.hid (ownsRow_below HOW.out hb6 (Nat.le_refl _))
            have C6 : Hid (∀ x ∈ xs, x.Good w6 ∧ (Front x.la x.ln ∧ Front x.ra x.rn) ∧ (High (w5.heap.size + 1) x.la x.ln ∧ High (w5.heap.size + 1) x.ra x.rn)) := fun x hx => ⟨(HCH.out x hx).1.below hb6 (Nat.le_refl _), (HCH.out x hx).2⟩
            have Y6 : Hid (w5.heap.size + 1 ≤ w6.heap.size) := Nat.le_trans HZW.out hb6.size
            have E6 : Hid (Below w.heap.size w w6) := HBW.out.trans (hb6.mono HBW.out.size)
            clear hl6 hf6 hh6 hs6 hw6 hb6 HS6 H0 H1 HOW HCH HZW HBW HX HLW
            go_wp2_with fail
            refine (HS7.out _ _ _ _ S6.out L6.out (by have := HBB.out; have := Y6.out; have := Z5.out; omega)).mono ?_
            rintro e w7 ⟨⟨a7, n7, c7, d7, m7, k7, rfl, hl7, hf7, hh7, hs7, hw7⟩, hb7⟩
            have I7 := Lib.hid (And.intro hl7 (And.intro hf7 (hh7.mono Y6.out)))
            have J7 := Lib.hid (And.intro (I6.out.1.below hb7 (Nat.le_refl _)) I6.out.2)
            have S7 := Lib.hid hs7
            have L7 := Lib.hid hw7
            have G7a : Hid (w7.heap[w.heap.size]? = some (.cells #[Value.int .u64 0, Value.int .u64 0, Value.int .u64 0, Value.int .u64 0, Value.slice none 0 0] 26 (0, 0))) := by show _ = _; rw [hb7.block _ (by have := Y6.out; have := Z5.out; omega)]; exact G6a.out
            have G7b : Hid (w7.heap[w5.heap.size]? = some (.cells #[Value.int .u64 (m : Int), Value.int .u64 (l : Int), Value.int .u64 (o : Int), Value.int .u64 (t : Int), Value.slice ao k c] 26 (0, 0))) := by show _ = _; rw [hb7.block _ (by have := Y6.out; omega)]; exact G6b.out
            have O7 := Lib.hid (ownsRow_below O6.out hb7 (Nat.le_refl _))
            have C7 : Hid (∀ x ∈ xs, x.Good w7 ∧ (Front x.la x.ln ∧ Front x.ra x.rn) ∧ (High (w5.heap.size + 1) x.la x.ln ∧ High (w5.heap.size + 1) x.ra x.rn)) := fun x hx => ⟨(C6.out x hx).1.below hb7 (Nat.le_refl _), (C6.out x hx).2⟩
            have Y7 : Hid (w5.heap.size + 1 ≤ w7.heap.size) := Nat.le_trans Y6.out hb7.size
            have E7 : Hid (Below w.heap.size w w7) := E6.out.trans (hb7.mono E6.out.size)
            clear hl7 hf7 hh7 hs7 hw7 hb7 HS7 G6a G6b O6 C6 Y6 E6 I6 S6 L6
            cases p1 with
            | false =>
              go_wp2_with fail
              refine (HS8.out _ _ _ _ _ S7.out L7.out).mono ?_
              rintro e w8 ⟨⟨d8, m8, k8, rfl, hs8, hw8⟩, hb8⟩
              have I8 := Lib.hid (And.intro (I7.out.1.below hb8 (Nat.le_refl _)) I7.out.2)
              have J8 := Lib.hid (And.intro (J7.out.1.below hb8 (Nat.le_refl _)) J7.out.2)
              have S8 := Lib.hid hs8
              have L8 := Lib.hid hw8
              have G8a : Hid (w8.heap[w.heap.size]? = some (.cells #[Value.int .u64 0, Value.int .u64 0, Value.int .u64 0, Value.int .u64 0, Value.slice none 0 0] 26 (0, 0))) := by show _ = _; rw [hb8.block _ (by have := Y7.out; have := Z5.out; omega)]; exact G7a.out
              have G8b : Hid (w8.heap[w5.heap.size]? = some (.cells #[Value.int .u64 (m : Int), Value.int .u64 (l : Int), Value.int .u64 (o : Int), Value.int .u64 (t : Int), Value.slice ao k c] 26 (0, 0))) := by show _ = _; rw [hb8.block _ (by have := Y7.out; omega)]; exact G7b.out
              have O8 := Lib.hid (ownsRow_below O7.out hb8 (Nat.le_refl _))
              have C8 : Hid (∀ x ∈ xs, x.Good w8 ∧ (Front x.la x.ln ∧ Front x.ra x.rn) ∧ (High (w5.heap.size + 1) x.la x.ln ∧ High (w5.heap.size + 1) x.ra x.rn)) := fun x hx => ⟨(C7.out x hx).1.below hb8 (Nat.le_refl _), (C7.out x hx).2⟩
              have Y8 : Hid (w5.heap.size + 1 ≤ w8.heap.size) := Nat.le_trans Y7.out hb8.size
              have E8 : Hid (Below w.heap.size w w8) := E7.out.trans (hb8.mono E7.out.size)
              clear hs8 hw8 hb8 HS8 G7a G7b O7 C7 Y7 E7 I7 J7 S7 L7
              have hx8 : w8.cell? ⟨w5.heap.size, 4, none⟩ = some (.slice ao k c) := by rw [cell_of_row w8 w5.heap.size 4 _ _ _ G8b.out]; rfl
              have HRG : Hid (Rw.Good w8 ⟨a6, n6, c6, L, a7, n7, c7, RR, (C : Int)⟩) := ⟨J8.out.1, I8.out.1, by show (0 : Int) ≤ (C : Int); omega, by show (C : Int) < _; omega⟩
              have HRS : Hid (Rs (w8.alloc (.cells (rcells [⟨a6, n6, c6, L, a7, n7, c7, RR, (C : Int)⟩]).toArray 72)) (some ⟨w8.heap.size, 0, none⟩) 1 1 [⟨a6, n6, c6, L, a7, n7, c7, RR, (C : Int)⟩]) := Rs.newc [⟨a6, n6, c6, L, a7, n7, c7, RR, (C : Int)⟩] (by intro x hx; simp only [List.mem_singleton] at hx; subst hx; exact HRG.out) (by unfold maxLen; simp) rfl rfl rfl
              go_wp2_with (at_builtin; refine append_rules (by rfl) (.tmp 104) (.tmp 109) (by rfl) (w5.heap.size + 1) _ k xs (by rfl) (ownsRow_below O8.out ((Below.refl w8.heap.size w8).alloc (Nat.le_refl _) _) (Nat.le_refl _)) (some ⟨w8.heap.size, 0, none⟩) 1 1 [⟨a6, n6, c6, L, a7, n7, c7, RR, (C : Int)⟩] (by rfl) HRS.out (k + 1) rfl (by omega) (by have := Y8.out; simp; omega) ?_; intro a9 c9 w9 hown9 hb9 hg9 hnil9; have O9 := Lib.hid hown9; have GR9 := Lib.hid hg9; have B9 : Hid (Below (w5.heap.size + 1) w8 w9) := ((Below.refl _ w8).alloc Y8.out _).trans hb9; have hx9 : w9.cell? ⟨w5.heap.size, 4, none⟩ = some (.slice ao k c) := (by rw [B9.out.cell (p := ⟨w5.heap.size, 4, none⟩) (by show w5.heap.size < w5.heap.size + 1; omega)]; exact hx8); have hf9 : w9.frozen? ⟨w5.heap.size, 4, none⟩ = false := (by have h : w9.heap[w5.heap.size]? = _ := B9.out.block w5.heap.size (by omega); rw [G8b.out] at h; simp [World.frozen?, h]); clear hown9 hb9 hg9 hnil9)
              go_roundw
              case rel =>
                have hap : ∀ b, (Value.slice ao k c).ownBlock = some b → ∀ z : Int, (w8.alloc (.cells (rcells [⟨a6, n6, c6, L, a7, n7, c7, RR, (C : Int)⟩]).toArray 72)).cell? ⟨b, 0, none⟩ ≠ some (.int .i64 z) := by
                  intro b' hb' z
                  by_cases hk0 : k = 0
                  · rw [HNO.out hk0] at hb'; cases hb'
                  · exact owns_frontR (ownsRow_below O8.out ((Below.refl w8.heap.size w8).alloc (Nat.le_refl _) _) (Nat.le_refl _)) b' hb' (by intro e; rw [e] at HLP; exact hk0 HLP.out.symm) z
                have BE : Below w.heap.size w8 (w9.setCell ⟨w5.heap.size, 4, none⟩ (.slice a9 (k + 1) c9)) := (B9.out.mono (by have := Z5.out; omega)).setCell (p := ⟨w5.heap.size, 4, none⟩) (by show w.heap.size ≤ w5.heap.size; have := Z5.out; omega) _
                have h5 : w9.heap[w5.heap.size]? = _ := B9.out.block w5.heap.size (by omega)
                rw [G8b.out] at h5
                have h6 : w9.heap[w.heap.size]? = _ := B9.out.block w.heap.size (by have := Z5.out; omega)
                rw [G8a.out] at h6
                have hset : ∀ b, w5.heap.size + 1 ≤ b → b < w9.heap.size → (w9.setCell ⟨w5.heap.size, 4, none⟩ (.slice a9 (k + 1) c9)).heap[b]? = w9.heap[b]? := by
                  intro b' h1 h2
                  rw [heap_setCell_other _ _ _ _ (by show b' ≠ w5.heap.size; omega)]
                have hsl : ∀ {x : Rw}, x.Good w8 → (Front x.la x.ln ∧ Front x.ra x.rn) → (High (w5.heap.size + 1) x.la x.ln ∧ High (w5.heap.size + 1) x.ra x.rn) → x.Good (w9.setCell ⟨w5.heap.size, 4, none⟩ (.slice a9 (k + 1) c9)) := by
                  intro x hg hf hh
                  have hg' := hg.alloc (.cells (rcells [⟨a6, n6, c6, L, a7, n7, c7, RR, (C : Int)⟩]).toArray 72)
                  exact ⟨((hg'.1.apart hf.1 GR9.out hap).high hh.1 hset), ((hg'.2.1.apart hf.2 GR9.out hap).high hh.2 hset), hg.2.2⟩
                refine ⟨k + 1, c9, m8, k8, a9, d8, xs ++ [Rw.mk a6 n6 c6 L a7 n7 c7 RR (C : Int)], b3, false, rfl, rfl, by go_num, by omega, ?_, S8.out.low (L8.out.mono HBB.out) BE, L8.out, ?_, ?_, ownsRow_setCell_below (a := ⟨w5.heap.size, 4, none⟩) O9.out (by show w5.heap.size < w5.heap.size + 1; omega) _, fun h => by omega, ?_, E8.out.trans BE, ?_⟩
                · show RulesAt _ _ _ _ _ _
                  rw [ruls_app]; exact HNX.out
                · show (World.setCell _ _ _).heap[_]? = _
                  rw [heap_setCell_other _ _ _ _ (by show w.heap.size ≠ w5.heap.size; have := Z5.out; omega)]; exact h6
                · show (World.setCell _ _ _).heap[_]? = _
                  rw [heap_setCell_same _ _ _ _ _ _ h5]; rfl
                · intro x hx
                  rcases List.mem_append.1 hx with hx | hx
                  · obtain ⟨g1, g2, g3⟩ := C8.out x hx
                    exact ⟨hsl g1 g2 g3, g2, g3⟩
                  · simp only [List.mem_singleton] at hx
                    subst hx
                    exact ⟨hsl HRG.out ⟨J8.out.2.1, I8.out.2.1⟩ ⟨J8.out.2.2, I8.out.2.2⟩, ⟨J8.out.2.1, I8.out.2.1⟩, ⟨J8.out.2.2, I8.out.2.2⟩⟩
                · show _ ≤ _
                  have := B9.out.size
                  have := Y8.out
                  simp
                  omega
              case measure => simp [intOf]; omega
            | true =>
              cases p2 with
              | false =>
                go_wp2_with fail
                refine (HS8.out _ _ _ _ _ S7.out L7.out).mono ?_
                rintro e w8 ⟨⟨d8, m8, k8, rfl, hs8, hw8⟩, hb8⟩
                have I8 := Lib.hid (And.intro (I7.out.1.below hb8 (Nat.le_refl _)) I7.out.2)
                have J8 := Lib.hid (And.intro (J7.out.1.below hb8 (Nat.le_refl _)) J7.out.2)
                have S8 := Lib.hid hs8
                have L8 := Lib.hid hw8
                have G8a : Hid (w8.heap[w.heap.size]? = some (.cells #[Value.int .u64 0, Value.int .u64 0, Value.int .u64 0, Value.int .u64 0, Value.slice none 0 0] 26 (0, 0))) := by show _ = _; rw [hb8.block _ (by have := Y7.out; have := Z5.out; omega)]; exact G7a.out
                have G8b : Hid (w8.heap[w5.heap.size]? = some (.cells #[Value.int .u64 (m : Int), Value.int .u64 (l : Int), Value.int .u64 (o : Int), Value.int .u64 (t : Int), Value.slice ao k c] 26 (0, 0))) := by show _ = _; rw [hb8.block _ (by have := Y7.out; omega)]; exact G7b.out
                have O8 := Lib.hid (ownsRow_below O7.out hb8 (Nat.le_refl _))
                have C8 : Hid (∀ x ∈ xs, x.Good w8 ∧ (Front x.la x.ln ∧ Front x.ra x.rn) ∧ (High (w5.heap.size + 1) x.la x.ln ∧ High (w5.heap.size + 1) x.ra x.rn)) := fun x hx => ⟨(C7.out x hx).1.below hb8 (Nat.le_refl _), (C7.out x hx).2⟩
                have Y8 : Hid (w5.heap.size + 1 ≤ w8.heap.size) := Nat.le_trans Y7.out hb8.size
                have E8 : Hid (Below w.heap.size w w8) := E7.out.trans (hb8.mono E7.out.size)
                clear hs8 hw8 hb8 HS8 G7a G7b O7 C7 Y7 E7 I7 J7 S7 L7
                have hx8 : w8.cell? ⟨w5.heap.size, 4, none⟩ = some (.slice ao k c) := by rw [cell_of_row w8 w5.heap.size 4 _ _ _ G8b.out]; rfl
                have HRG : Hid (Rw.Good w8 ⟨a6, n6, c6, L, a7, n7, c7, RR, (C : Int)⟩) := ⟨J8.out.1, I8.out.1, by show (0 : Int) ≤ (C : Int); omega, by show (C : Int) < _; omega⟩
                have HRS : Hid (Rs (w8.alloc (.cells (rcells [⟨a6, n6, c6, L, a7, n7, c7, RR, (C : Int)⟩]).toArray 72)) (some ⟨w8.heap.size, 0, none⟩) 1 1 [⟨a6, n6, c6, L, a7, n7, c7, RR, (C : Int)⟩]) := Rs.newc [⟨a6, n6, c6, L, a7, n7, c7, RR, (C : Int)⟩] (by intro x hx; simp only [List.mem_singleton] at hx; subst hx; exact HRG.out) (by unfold maxLen; simp) rfl rfl rfl
                go_wp2_with (at_builtin; refine append_rules (by rfl) (.tmp 104) (.tmp 109) (by rfl) (w5.heap.size + 1) _ k xs (by rfl) (ownsRow_below O8.out ((Below.refl w8.heap.size w8).alloc (Nat.le_refl _) _) (Nat.le_refl _)) (some ⟨w8.heap.size, 0, none⟩) 1 1 [⟨a6, n6, c6, L, a7, n7, c7, RR, (C : Int)⟩] (by rfl) HRS.out (k + 1) rfl (by omega) (by have := Y8.out; simp; omega) ?_; intro a9 c9 w9 hown9 hb9 hg9 hnil9; have O9 := Lib.hid hown9; have GR9 := Lib.hid hg9; have B9 : Hid (Below (w5.heap.size + 1) w8 w9) := ((Below.refl _ w8).alloc Y8.out _).trans hb9; have hx9 : w9.cell? ⟨w5.heap.size, 4, none⟩ = some (.slice ao k c) := (by rw [B9.out.cell (p := ⟨w5.heap.size, 4, none⟩) (by show w5.heap.size < w5.heap.size + 1; omega)]; exact hx8); have hf9 : w9.frozen? ⟨w5.heap.size, 4, none⟩ = false := (by have h : w9.heap[w5.heap.size]? = _ := B9.out.block w5.heap.size (by omega); rw [G8b.out] at h; simp [World.frozen?, h]); clear hown9 hb9 hg9 hnil9)
                go_roundw
                case rel =>
                  have hap : ∀ b, (Value.slice ao k c).ownBlock = some b → ∀ z : Int, (w8.alloc (.cells (rcells [⟨a6, n6, c6, L, a7, n7, c7, RR, (C : Int)⟩]).toArray 72)).cell? ⟨b, 0, none⟩ ≠ some (.int .i64 z) := by
                    intro b' hb' z
                    by_cases hk0 : k = 0
                    · rw [HNO.out hk0] at hb'; cases hb'
                    · exact owns_frontR (ownsRow_below O8.out ((Below.refl w8.heap.size w8).alloc (Nat.le_refl _) _) (Nat.le_refl _)) b' hb' (by intro e; rw [e] at HLP; exact hk0 HLP.out.symm) z
                  have BE : Below w.heap.size w8 (w9.setCell ⟨w5.heap.size, 4, none⟩ (.slice a9 (k + 1) c9)) := (B9.out.mono (by have := Z5.out; omega)).setCell (p := ⟨w5.heap.size, 4, none⟩) (by show w.heap.size ≤ w5.heap.size; have := Z5.out; omega) _
                  have h5 : w9.heap[w5.heap.size]? = _ := B9.out.block w5.heap.size (by omega)
                  rw [G8b.out] at h5
                  have h6 : w9.heap[w.heap.size]? = _ := B9.out.block w.heap.size (by have := Z5.out; omega)
                  rw [G8a.out] at h6
                  have hset : ∀ b, w5.heap.size + 1 ≤ b → b < w9.heap.size → (w9.setCell ⟨w5.heap.size, 4, none⟩ (.slice a9 (k + 1) c9)).heap[b]? = w9.heap[b]? := by
                    intro b' h1 h2
                    rw [heap_setCell_other _ _ _ _ (by show b' ≠ w5.heap.size; omega)]
                  have hsl : ∀ {x : Rw}, x.Good w8 → (Front x.la x.ln ∧ Front x.ra x.rn) → (High (w5.heap.size + 1) x.la x.ln ∧ High (w5.heap.size + 1) x.ra x.rn) → x.Good (w9.setCell ⟨w5.heap.size, 4, none⟩ (.slice a9 (k + 1) c9)) := by
                    intro x hg hf hh
                    have hg' := hg.alloc (.cells (rcells [⟨a6, n6, c6, L, a7, n7, c7, RR, (C : Int)⟩]).toArray 72)
                    exact ⟨((hg'.1.apart hf.1 GR9.out hap).high hh.1 hset), ((hg'.2.1.apart hf.2 GR9.out hap).high hh.2 hset), hg.2.2⟩
                  refine ⟨k + 1, c9, m8, k8, a9, d8, xs ++ [Rw.mk a6 n6 c6 L a7 n7 c7 RR (C : Int)], b3, false, rfl, rfl, by go_num, by omega, ?_, S8.out.low (L8.out.mono HBB.out) BE, L8.out, ?_, ?_, ownsRow_setCell_below (a := ⟨w5.heap.size, 4, none⟩) O9.out (by show w5.heap.size < w5.heap.size + 1; omega) _, fun h => by omega, ?_, E8.out.trans BE, ?_⟩
                  · show RulesAt _ _ _ _ _ _
                    rw [ruls_app]; exact HNX.out
                  · show (World.setCell _ _ _).heap[_]? = _
                    rw [heap_setCell_other _ _ _ _ (by show w.heap.size ≠ w5.heap.size; have := Z5.out; omega)]; exact h6
                  · show (World.setCell _ _ _).heap[_]? = _
                    rw [heap_setCell_same _ _ _ _ _ _ h5]; rfl
                  · intro x hx
                    rcases List.mem_append.1 hx with hx | hx
                    · obtain ⟨g1, g2, g3⟩ := C8.out x hx
                      exact ⟨hsl g1 g2 g3, g2, g3⟩
                    · simp only [List.mem_singleton] at hx
                      subst hx
                      exact ⟨hsl HRG.out ⟨J8.out.2.1, I8.out.2.1⟩ ⟨J8.out.2.2, I8.out.2.2⟩, ⟨J8.out.2.1, I8.out.2.1⟩, ⟨J8.out.2.2, I8.out.2.2⟩⟩
                  · show _ ≤ _
                    have := B9.out.size
                    have := Y8.out
                    simp
                    omega
                case measure => simp [intOf]; omega
              | true =>
                go_wp2_with fail
                refine (HS8.out _ _ _ _ _ S7.out L7.out).mono ?_
                rintro e w8 ⟨⟨d8, m8, k8, rfl, hs8, hw8⟩, hb8⟩
                have I8 := Lib.hid (And.intro (I7.out.1.below hb8 (Nat.le_refl _)) I7.out.2)
                have J8 := Lib.hid (And.intro (J7.out.1.below hb8 (Nat.le_refl _)) J7.out.2)
                have S8 := Lib.hid hs8
                have L8 := Lib.hid hw8
                have G8a : Hid (w8.heap[w.heap.size]? = some (.cells #[Value.int .u64 0, Value.int .u64 0, Value.int .u64 0, Value.int .u64 0, Value.slice none 0 0] 26 (0, 0))) := by show _ = _; rw [hb8.block _ (by have := Y7.out; have := Z5.out; omega)]; exact G7a.out
                have G8b : Hid (w8.heap[w5.heap.size]? = some (.cells #[Value.int .u64 (m : Int), Value.int .u64 (l : Int), Value.int .u64 (o : Int), Value.int .u64 (t : Int), Value.slice ao k c] 26 (0, 0))) := by show _ = _; rw [hb8.block _ (by have := Y7.out; omega)]; exact G7b.out
                have O8 := Lib.hid (ownsRow_below O7.out hb8 (Nat.le_refl _))
                have C8 : Hid (∀ x ∈ xs, x.Good w8 ∧ (Front x.la x.ln ∧ Front x.ra x.rn) ∧ (High (w5.heap.size + 1) x.la x.ln ∧ High (w5.heap.size + 1) x.ra x.rn)) := fun x hx => ⟨(C7.out x hx).1.below hb8 (Nat.le_refl _), (C7.out x hx).2⟩
                have Y8 : Hid (w5.heap.size + 1 ≤ w8.heap.size) := Nat.le_trans Y7.out hb8.size
                have E8 : Hid (Below w.heap.size w w8) := E7.out.trans (hb8.mono E7.out.size)
                clear hs8 hw8 hb8 HS8 G7a G7b O7 C7 Y7 E7 I7 J7 S7 L7
                have hx8 : w8.cell? ⟨w5.heap.size, 4, none⟩ = some (.slice ao k c) := by rw [cell_of_row w8 w5.heap.size 4 _ _ _ G8b.out]; rfl
                have HRG : Hid (Rw.Good w8 ⟨a6, n6, c6, L, a7, n7, c7, RR, (C : Int)⟩) := ⟨J8.out.1, I8.out.1, by show (0 : Int) ≤ (C : Int); omega, by show (C : Int) < _; omega⟩
                have HRS : Hid (Rs (w8.alloc (.cells (rcells [⟨a6, n6, c6, L, a7, n7, c7, RR, (C : Int)⟩]).toArray 72)) (some ⟨w8.heap.size, 0, none⟩) 1 1 [⟨a6, n6, c6, L, a7, n7, c7, RR, (C : Int)⟩]) := Rs.newc [⟨a6, n6, c6, L, a7, n7, c7, RR, (C : Int)⟩] (by intro x hx; simp only [List.mem_singleton] at hx; subst hx; exact HRG.out) (by unfold maxLen; simp) rfl rfl rfl
                go_wp2_with (at_builtin; refine append_rules (by rfl) (.tmp 104) (.tmp 109) (by rfl) (w5.heap.size + 1) _ k xs (by rfl) (ownsRow_below O8.out ((Below.refl w8.heap.size w8).alloc (Nat.le_refl _) _) (Nat.le_refl _)) (some ⟨w8.heap.size, 0, none⟩) 1 1 [⟨a6, n6, c6, L, a7, n7, c7, RR, (C : Int)⟩] (by rfl) HRS.out (k + 1) rfl (by omega) (by have := Y8.out; simp; omega) ?_; intro a9 c9 w9 hown9 hb9 hg9 hnil9; have O9 := Lib.hid hown9; have GR9 := Lib.hid hg9; have B9 : Hid (Below (w5.heap.size + 1) w8 w9) := ((Below.refl _ w8).alloc Y8.out _).trans hb9; have hx9 : w9.cell? ⟨w5.heap.size, 4, none⟩ = some (.slice ao k c) := (by rw [B9.out.cell (p := ⟨w5.heap.size, 4, none⟩) (by show w5.heap.size < w5.heap.size + 1; omega)]; exact hx8); have hf9 : w9.frozen? ⟨w5.heap.size, 4, none⟩ = false := (by have h : w9.heap[w5.heap.size]? = _ := B9.out.block w5.heap.size (by omega); rw [G8b.out] at h; simp [World.frozen?, h]); clear hown9 hb9 hg9 hnil9)
                go_roundw
                case rel =>
                  have hap : ∀ b, (Value.slice ao k c).ownBlock = some b → ∀ z : Int, (w8.alloc (.cells (rcells [⟨a6, n6, c6, L, a7, n7, c7, RR, (C : Int)⟩]).toArray 72)).cell? ⟨b, 0, none⟩ ≠ some (.int .i64 z) := by
                    intro b' hb' z
                    by_cases hk0 : k = 0
                    · rw [HNO.out hk0] at hb'; cases hb'
                    · exact owns_frontR (ownsRow_below O8.out ((Below.refl w8.heap.size w8).alloc (Nat.le_refl _) _) (Nat.le_refl _)) b' hb' (by intro e; rw [e] at HLP; exact hk0 HLP.out.symm) z
                  have BE : Below w.heap.size w8 (w9.setCell ⟨w5.heap.size, 4, none⟩ (.slice a9 (k + 1) c9)) := (B9.out.mono (by have := Z5.out; omega)).setCell (p := ⟨w5.heap.size, 4, none⟩) (by show w.heap.size ≤ w5.heap.size; have := Z5.out; omega) _
                  have h5 : w9.heap[w5.heap.size]? = _ := B9.out.block w5.heap.size (by omega)
                  rw [G8b.out] at h5
                  have h6 : w9.heap[w.heap.size]? = _ := B9.out.block w.heap.size (by have := Z5.out; omega)
                  rw [G8a.out] at h6
                  have hset : ∀ b, w5.heap.size + 1 ≤ b → b < w9.heap.size → (w9.setCell ⟨w5.heap.size, 4, none⟩ (.slice a9 (k + 1) c9)).heap[b]? = w9.heap[b]? := by
                    intro b' h1 h2
                    rw [heap_setCell_other _ _ _ _ (by show b' ≠ w5.heap.size; omega)]
                  have hsl : ∀ {x : Rw}, x.Good w8 → (Front x.la x.ln ∧ Front x.ra x.rn) → (High (w5.heap.size + 1) x.la x.ln ∧ High (w5.heap.size + 1) x.ra x.rn) → x.Good (w9.setCell ⟨w5.heap.size, 4, none⟩ (.slice a9 (k + 1) c9)) := by
                    intro x hg hf hh
                    have hg' := hg.alloc (.cells (rcells [⟨a6, n6, c6, L, a7, n7, c7, RR, (C : Int)⟩]).toArray 72)
                    exact ⟨((hg'.1.apart hf.1 GR9.out hap).high hh.1 hset), ((hg'.2.1.apart hf.2 GR9.out hap).high hh.2 hset), hg.2.2⟩
                  refine ⟨k + 1, c9, m8, k8, a9, d8, xs ++ [Rw.mk a6 n6 c6 L a7 n7 c7 RR (C : Int)], b3, p3, rfl, rfl, by go_num, by omega, ?_, S8.out.low (L8.out.mono HBB.out) BE, L8.out, ?_, ?_, ownsRow_setCell_below (a := ⟨w5.heap.size, 4, none⟩) O9.out (by show w5.heap.size < w5.heap.size + 1; omega) _, fun h => by omega, ?_, E8.out.trans BE, ?_⟩
                  · show RulesAt _ _ _ _ _ _
                    rw [ruls_app]; exact HNX.out
                  · show (World.setCell _ _ _).heap[_]? = _
                    rw [heap_setCell_other _ _ _ _ (by show w.heap.size ≠ w5.heap.size; have := Z5.out; omega)]; exact h6
                  · show (World.setCell _ _ _).heap[_]? = _
                    rw [heap_setCell_same _ _ _ _ _ _ h5]; rfl
                  · intro x hx
                    rcases List.mem_append.1 hx with hx | hx
                    · obtain ⟨g1, g2, g3⟩ := C8.out x hx
                      exact ⟨hsl g1 g2 g3, g2, g3⟩
                    · simp only [List.mem_singleton] at hx
                      subst hx
                      exact ⟨hsl HRG.out ⟨J8.out.2.1, I8.out.2.1⟩ ⟨J8.out.2.2, I8.out.2.2⟩, ⟨J8.out.2.1, I8.out.2.1⟩, ⟨J8.out.2.2, I8.out.2.2⟩⟩
                  · show _ ≤ _
                    have := B9.out.size
                    have := Y8.out
                    simp
                    omega
                case measure => simp [intOf]; omega
          · obtain rfl : k = N := by omega
            have HFN : Hid (Img.dCosts b = (⟨[(m : Int), (l : Int), (o : Int), (t : Int)], ruls xs⟩, bb, true)) := by
              show _ = _
              rw [HDC.out, HI.out.done (.inl rfl)]
            go_wp2_with (first
              | (refine wpList_load_row (by rfl) 26 (.tmp 20) (by rfl) w5.heap.size (by rfl) 26 #[Value.int .u64 (m : Int), Value.int .u64 (l : Int), Value.int .u64 (o : Int), Value.int .u64 (t : Int), Value.slice ao k c] (0, 0) _ H1.out Tryz.underlying26 (by rfl) info_co5 ?_)
              | (refine wpList_store_g (by rfl) 26 (.tmp 2) (.tmp 114) (by rfl) w.heap.size #[Value.int .u64 (m : Int), Value.int .u64 (l : Int), Value.int .u64 (o : Int), Value.int .u64 (t : Int), Value.slice ao k c] (by rfl) (by rfl) 26 #[Value.int .u64 0, Value.int .u64 0, Value.int .u64 0, Value.int .u64 0, Value.slice none 0 0] H0.out info_co5 rfl (by simp [Value.oneCell']) ?_; intro we hwe hge hsze; have HWE := Lib.hid hwe; have HGE := Lib.hid hge; clear hwe hge hsze))
            try rw [Exit.noGoto_ret]
            refine bodyPost_ret (results_cell_row_tmp2 rfl _ _ w.heap.size 26 #[Value.int .u64 (m : Int), Value.int .u64 (l : Int), Value.int .u64 (o : Int), Value.int .u64 (t : Int), Value.slice ao k c] (0, 0) _ (by rfl) HWE.out Tryz.underlying26 (by rfl) info_co5) rfl ?_
            have hgood : Cw.Good wr ⟨(m : Int), (l : Int), (o : Int), (t : Int), ao, k, c, xs⟩ := ⟨Rs.of_owns HOW.out (fun x hx => (HCH.out x hx).1) HLP.out, HBS.out⟩
            have hhigh : Cw.High (w5.heap.size + 1) ⟨(m : Int), (l : Int), (o : Int), (t : Int), ao, k, c, xs⟩ := ⟨High.of_owns HOW.out, fun x hx => (HCH.out x hx).2.2⟩
            have hbe : Below w.heap.size wr we := (Below.refl _ wr).grown HGE.out (by have := HZW.out; have := Z5.out; omega) (fun k hk => by cases hk; exact Nat.le_refl _)
            refine ⟨?_, HBW.out.trans hbe⟩
            rw [HFN.out]
            refine ⟨⟨(m : Int), (l : Int), (o : Int), (t : Int), ao, k, c, xs⟩, ab, nb, cb, rfl, rfl, hgood.high hhigh ?_, ⟨hhigh.1.mono (by have := Z5.out; show w.heap.size ≤ w5.heap.size + 1; omega), fun x hx => ⟨(hhigh.2 x hx).1.mono (by have := Z5.out; omega), (hhigh.2 x hx).2.mono (by have := Z5.out; omega)⟩⟩, HX.out.low (HLW.out.mono HBB.out) hbe, HLW.out⟩
            intro b' hb' hlt'
            exact HGE.out.block b' hlt' (by intro e; cases e; have := Z5.out; omega)

end Go.Proofs.YtbfjihbkkcggmaaGreat

/- Used by the law. -/
namespace Go.Proofs.YtbfjihbkkcggmaaGreat
open Go.RowKit

namespace Img
theorem take_len {M : Nat} {b r : List Int} {n : Nat} (h : take M b = some (n, r)) : r.length < b.length := by
  rw [take] at h
  split at h
  · rename_i n' r' h1
    split at h
    · cases h
      have := (Var.take_some h1).1
      have hp := Var.enc_pos n
      rw [this, List.length_append]; omega
    · cases h
  · cases h
theorem dTake_len (b : List Int) : (dTake b).2.1.length ≤ b.length := by
  unfold dTake
  split
  · rename_i n r h; have := take_len h; simp; omega
  · simp
theorem dCost_len (b : List Int) : (dCost b).2.1.length ≤ b.length ∧ ((dCost b).2.2 = true → (dCost b).2.1.length < b.length) := by
  unfold dCost
  split
  · rename_i n r h
    have h1 := (Var.take_some h).1
    have hp := Var.enc_pos n
    have : r.length < b.length := by rw [h1, List.length_append]; omega
    exact ⟨by simp; omega, fun _ => by simpa using this⟩
  · exact ⟨by simp, fun h => by cases h⟩
theorem dInts_len : ∀ (n : Nat) (b : List Int), (dInts n b).2.1.length ≤ b.length
  | 0, b => by simp [dInts]
  | n + 1, b => by
    have h1 := dTake_len b
    have h2 := dInts_len n (dTake b).2.1
    rw [dInts]
    split
    · simp only; omega
    · simp only; omega
theorem dSide_len (b : List Int) : (dSide b).2.1.length ≤ b.length := by
  have h1 := dTake_len b
  have h2 := dInts_len (dTake b).1 (dTake b).2.1
  rw [dSide]
  split
  · omega
  · simp
theorem dRule_len (b : List Int) : (dRule b).2.1.length ≤ b.length ∧ ((dRule b).2.2 = true → (dRule b).2.1.length < b.length) := by
  have h1 := dSide_len b
  have h2 := dSide_len (dSide b).2.1
  have h3 := dCost_len (dSide (dSide b).2.1).2.1
  rw [dRule]
  simp only [Bool.and_eq_true]
  exact ⟨by omega, fun h => by have := h3.2 h.2; omega⟩
theorem dRules_few : ∀ (n : Nat) (b : List Int), (dRules n b).1.length ≤ b.length + 1
  | 0, b => by simp [dRules]
  | n + 1, b => by
    have h1 := dRule_len b
    have h2 := dRules_few n (dRule b).2.1
    rw [dRules]
    split
    · rename_i h
      have := h1.2 h
      simp only [List.length_cons]; omega
    · simp
theorem dFour_len : ∀ (n : Nat) (b : List Int), (dFour n b).2.1.length ≤ b.length
  | 0, b => by simp [dFour]
  | n + 1, b => by
    have h1 := (dCost_len b).1
    have h2 := dFour_len n (dCost b).2.1
    rw [dFour]; simp only; omega
theorem dCosts_few (b : List Int) : (dCosts b).1.rules.length ≤ b.length + 1 := by
  have h1 := dFour_len 4 b
  have h2 := dTake_len (dFour 4 b).2.1
  have h3 := dRules_few (dTake (dFour 4 b).2.1).1 (dTake (dFour 4 b).2.1).2.1
  rw [dCosts]
  split
  · simp only; omega
  · simp
theorem dArcs_len (i : Int) : ∀ (n : Nat) (p : Int) (b : List Int), (dArcs i n p b).2.1.length ≤ b.length
  | 0, p, b => by simp [dArcs]
  | n + 1, p, b => by
    have h1 := dTake_len b
    have h2 := dTake_len (dTake b).2.1
    have h3 := dArcs_len i n (p + 1 + ((dTake b).1 : Int)) (dTake (dTake b).2.1).2.1
    rw [dArcs]
    split
    · simp only; omega
    · simp only; omega
theorem dState_len (i : Int) (b : List Int) : (dState i b).2.1.length ≤ b.length := by
  have h1 := dTake_len b
  have h2 := dArcs_len i ((dTake b).1 / 2) (-1) (dTake b).2.1
  rw [dState]
  split
  · simp only; omega
  · simp
theorem dStates_len : ∀ (n : Nat) (i : Int) (b : List Int), (dStates n i b).2.1.length ≤ b.length
  | 0, i, b => by simp [dStates]
  | n + 1, i, b => by
    have h1 := dState_len i b
    have h2 := dStates_len n (i + 1) (dState i b).2.1
    rw [dStates]
    split
    · simp only; omega
    · simp only; omega
theorem dStatesOf_len (b : List Int) : (dStatesOf b).2.1.length ≤ b.length := by
  have h1 := dTake_len b
  have h2 := dStates_len (dTake b).1 0 (dTake b).2.1
  rw [dStatesOf]
  split
  · omega
  · simp
theorem body_few (b : List Int) : (dBody b).1.c.rules.length ≤ b.length + 1 := by
  have h1 := dStatesOf_len b
  have h2 := dCosts_few (dStatesOf b).2.1
  rw [dBody]
  simp only
  omega
end Img

theorem Ars.high {w w' : World} {a : Option Addr} {n cap B : Nat} {l : List (Int × Int)} (h : Ars w a n cap l) (hh : High B a n) (hc : ∀ b, B ≤ b → b < w.heap.size → w'.heap[b]? = w.heap[b]?) : Ars w' a n cap l := by
  obtain ⟨h1, h2, h3, h4, h5⟩ := h
  refine ⟨h1, h2, h3, h4, ?_⟩
  rcases h5 with h5 | ⟨b, off, ha, hcell⟩
  · exact .inl h5
  · rcases Nat.eq_zero_or_pos n with h0 | hp
    · exact .inl h0
    · refine .inr ⟨b, off, ha, fun i hi => ?_⟩
      rcases hh with hh | ⟨b', o', hb', hB⟩
      · omega
      · rw [ha] at hb'
        cases hb'
        obtain ⟨e1, e2⟩ := hcell i hi
        have hlt := cell_lt e1
        refine ⟨?_, ?_⟩
        · rw [World.cell?] at e1 ⊢; rw [hc b hB hlt]; exact e1
        · rw [World.cell?] at e2 ⊢; rw [hc b hB hlt]; exact e2
theorem Sw.Good.high {w w' : World} {x : Sw} {B : Nat} (h : x.Good w) (hh : High B x.a x.n) (hc : ∀ b, B ≤ b → b < w.heap.size → w'.heap[b]? = w.heap[b]?) : x.Good w' := Ars.high h hh hc
theorem Ss.high {w w' : World} {a : Option Addr} {n cap B : Nat} {xs : List Sw} (h : Ss w a n cap xs) (hh : High B a n) (hx : ∀ x ∈ xs, High B x.a x.n) (hc : ∀ b, B ≤ b → b < w.heap.size → w'.heap[b]? = w.heap[b]?) : Ss w' a n cap xs := by
  obtain ⟨h1, h2, h3, h4, h5⟩ := h
  refine ⟨h1, h2, h3, fun x hxx => (h4 x hxx).high (hx x hxx) hc, ?_⟩
  rcases h5 with h5 | ⟨b, off, ha, hcell⟩
  · exact .inl h5
  · rcases Nat.eq_zero_or_pos n with h0 | hp
    · exact .inl h0
    · refine .inr ⟨b, off, ha, fun i hi => ?_⟩
      rcases hh with hh | ⟨b', o', hb', hB⟩
      · omega
      · rw [ha] at hb'
        cases hb'
        obtain ⟨e1, e2⟩ := hcell i hi
        have hlt := cell_lt e1
        refine ⟨?_, ?_⟩
        · rw [World.cell?] at e1 ⊢; rw [hc b hB hlt]; exact e1
        · rw [World.cell?] at e2 ⊢; rw [hc b hB hlt]; exact e2

def StatesAt (N : Nat) (b0 : List Int) (k : Nat) (pre : List Tri.St) (bb : List Int) (ok : Bool) : Prop :=
  pre.length = k ∧ Img.dStates N 0 b0 = if ok = true then (pre ++ (Img.dStates (N - k) (k : Int) bb).1, (Img.dStates (N - k) (k : Int) bb).2.1, (Img.dStates (N - k) (k : Int) bb).2.2) else (pre, bb, false)
theorem StatesAt.next {N : Nat} {b0 : List Int} {k : Nat} {pre : List Tri.St} {bb : List Int} (h : StatesAt N b0 k pre bb true) (hk : k < N) : StatesAt N b0 (k + 1) (pre ++ [(Img.dState (k : Int) bb).1]) (Img.dState (k : Int) bb).2.1 (Img.dState (k : Int) bb).2.2 := by
  obtain ⟨h1, h2⟩ := h
  refine ⟨by simp [h1], ?_⟩
  rw [h2, if_pos rfl, show N - k = (N - (k + 1)) + 1 from by omega, Img.dStates, Int.natCast_add, Int.natCast_one]
  cases (Img.dState (k : Int) bb).2.2 <;> simp
theorem StatesAt.done {N : Nat} {b0 : List Int} {k : Nat} {pre : List Tri.St} {bb : List Int} {ok : Bool} (h : StatesAt N b0 k pre bb ok) (hk : k = N ∨ ok = false) : Img.dStates N 0 b0 = (pre, bb, ok) := by
  obtain ⟨h1, h2⟩ := h
  rw [h2]
  cases ok with
  | false => rfl
  | true =>
    rcases hk with rfl | hk
    · rw [if_pos rfl, Nat.sub_self, Img.dStates]; simp
    · cases hk

end Go.Proofs.YtbfjihbkkcggmaaGreat
