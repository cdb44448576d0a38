/- The taker's costs. -/
import Derived.Test.YtbfjihbkkcggmaaPackV
import Derived.Deep.RegionHeld3
import Derived.Laws.Rows
namespace Go.Proofs.Ytbfjihbkkcggmaa
open Go.RowKit

set_option maxRecDepth 100000 in
theorem grown_store (w : World) (p : Addr) (v : Value) : w.grownBy (w.setCell p v) (some p.block) := ⟨rfl, rfl, rfl, by simp, fun k _ hk => heap_setCell_other _ _ _ _ (fun e => hk (by rw [e]))⟩

set_option maxHeartbeats 6400000 in
set_option maxRecDepth 100000 in
theorem costs_is (B tb : Nat) (a : Option Addr) (n cap : Nat) (b : List Int) (w : World) (ht : Tk w B tb b a n cap) :
    Calls Try.prog 24 #[.pointer (some ⟨tb, 0, none⟩)] w fun e w' => CostsP B tb w.heap.size w' e (Img.qCosts b) ∧ w.grownBy w' (some tb) := by
  have hmx : Try.prog.follows .mixedOrders = true := by kernel_rfl
  have HTB := Lib.hid ht.lt
  have HC1 := Lib.hid (number_is B tb a n cap b (w.alloc (.cells costZero 26)) (ht.below ((Below.refl _ w).alloc (Nat.le_refl _) _) ht.lt))
  have G0 : Hid (w.grownBy (w.alloc (.cells costZero 26)) (some tb)) := World.grownBy_alloc w _ _
  have Q0 : Hid ((w.alloc (.cells costZero 26)).heap[w.heap.size]? = some (.cells costZero 26 (0, 0))) := heap_alloc_new w _
  clear ht
  go_enter Try.func24, Try.ntmps24
  go_wp2_with fail
  refine HC1.out.mono ?_
  rintro e w1 ⟨(⟨hr, rfl⟩ | ⟨m, b1, a1, n1, c1, hr, rfl, ht1⟩), hg⟩
  · exact ⟨rfl, .inl ⟨qCosts_n (pFour_n1  hr), rfl⟩, grown_trans G0.out hg⟩
  have R1 := Lib.hid hr
  have hm9 := (Var.take_some hr).2
  have T1 := Lib.hid ht1
  have G1 : Hid (w.grownBy w1 (some tb)) := grown_trans G0.out hg
  have Q1 : Hid (w1.heap[w.heap.size]? = some (.cells costZero 26 (0, 0))) := (hg.block _ (by simp) (by have := HTB.out; simp; omega)).trans Q0.out
  clear hr ht1 hg HC1
  have HC2 := Lib.hid (number_is B tb a1 n1 c1 b1 w1 T1.out)
  go_wp2_with fail
  refine HC2.out.mono ?_
  rintro e w2 ⟨(⟨hr, rfl⟩ | ⟨l, b2, a2, n2, c2, hr, rfl, ht2⟩), hg⟩
  · exact ⟨rfl, .inl ⟨qCosts_n (pFour_n2 R1.out hr), rfl⟩, grown_trans G1.out hg⟩
  have R2 := Lib.hid hr
  have hl9 := (Var.take_some hr).2
  have T2 := Lib.hid ht2
  have G2 : Hid (w.grownBy w2 (some tb)) := grown_trans G1.out hg
  have Q2 : Hid (w2.heap[w.heap.size]? = some (.cells costZero 26 (0, 0))) := (hg.block _ (by have := Q1.out; exact (Array.getElem?_eq_some_iff.1 this).1) (by have := HTB.out; simp; omega)).trans Q1.out
  clear hr ht2 hg HC2
  have HC3 := Lib.hid (number_is B tb a2 n2 c2 b2 w2 T2.out)
  go_wp2_with fail
  refine HC3.out.mono ?_
  rintro e w3 ⟨(⟨hr, rfl⟩ | ⟨o, b3, a3, n3, c3, hr, rfl, ht3⟩), hg⟩
  · exact ⟨rfl, .inl ⟨qCosts_n (pFour_n3 R1.out R2.out hr), rfl⟩, grown_trans G2.out hg⟩
  have R3 := Lib.hid hr
  have ho9 := (Var.take_some hr).2
  have T3 := Lib.hid ht3
  have G3 : Hid (w.grownBy w3 (some tb)) := grown_trans G2.out hg
  have Q3 : Hid (w3.heap[w.heap.size]? = some (.cells costZero 26 (0, 0))) := (hg.block _ (by have := Q2.out; exact (Array.getElem?_eq_some_iff.1 this).1) (by have := HTB.out; simp; omega)).trans Q2.out
  clear hr ht3 hg HC3
  have HC4 := Lib.hid (number_is B tb a3 n3 c3 b3 w3 T3.out)
  go_wp2_with fail
  refine HC4.out.mono ?_
  rintro e w4 ⟨(⟨hr, rfl⟩ | ⟨t, b4, a4, n4, c4, hr, rfl, ht4⟩), hg⟩
  · exact ⟨rfl, .inl ⟨qCosts_n (pFour_n4 R1.out R2.out R3.out hr), rfl⟩, grown_trans G3.out hg⟩
  have R4 := Lib.hid hr
  have ht9 := (Var.take_some hr).2
  have T4 := Lib.hid ht4
  have G4 : Hid (w.grownBy w4 (some tb)) := grown_trans G3.out hg
  have Q4 : Hid (w4.heap[w.heap.size]? = some (.cells costZero 26 (0, 0))) := (hg.block _ (by have := Q3.out; exact (Array.getElem?_eq_some_iff.1 this).1) (by have := HTB.out; simp; omega)).trans Q3.out
  clear hr ht4 hg HC4
  have HF4 := Lib.hid (pFour_four R1.out R2.out R3.out R4.out)
  clear R1 R2 R3 R4 T1 T2 T3 G1 G2 G3 G0 Q0 Q1 Q2 Q3
  obtain ⟨W5, hW5⟩ : ∃ W5, W5 = w4.alloc (.cells #[.int .u64 (m : Int), .int .u64 (l : Int), .int .u64 (o : Int), .int .u64 (t : Int), .slice none 0 0] 26) := ⟨_, rfl⟩
  have Z4 : Hid (w.heap.size < w4.heap.size) := (Array.getElem?_eq_some_iff.1 Q4.out).1
  have T5 : Hid (Tk W5 B tb b4 a4 n4 c4) := by rw [hW5]; exact T4.out.below ((Below.refl _ w4).alloc (Nat.le_refl _) _) T4.out.lt
  have K5 : Hid (Ck W5 B tb w.heap.size w4.heap.size b4 a4 n4 c4 m l o t none 0 0 []) := by
    refine ⟨T5.out, ⟨HTB.out, Z4.out, by rw [hW5]; simp⟩, ?_, ?_, owns_nil_rules _ _, by intro x hx; cases hx⟩
    · rw [hW5, heap_alloc_old _ _ Z4.out]; exact Q4.out
    · rw [hW5]; exact heap_alloc_new _ _
  have G5 : Hid (w.grownBy W5 (some tb)) := by rw [hW5]; exact grown_alloc G4.out _
  have HC5 := Lib.hid (count_is 200 (by omega) B tb a4 n4 c4 b4 W5 T5.out)
  rw [hW5] at HC5
  have HW5 := Lib.hid hW5
  clear T4 T5 G4 Q4 hW5
  go_wp2_with fail
  refine HC5.out.mono ?_
  rintro e w6 ⟨(⟨hr, rfl⟩ | ⟨N, b5, a5, n5, c5, hr, rfl, ht5⟩), hg⟩
  · rw [← HW5.out] at hg
    exact ⟨rfl, .inl ⟨qCosts_cn HF4.out hr, rfl⟩, grown_trans G5.out hg⟩
  rw [← HW5.out] at hg
  have hN := Img.take_le hr
  have HQ := Lib.hid (qCosts_is HF4.out hr)
  have G6 : Hid (w.grownBy w6 (some tb)) := grown_trans G5.out hg
  have K6 := Lib.hid (K5.out.grown hg ht5)
  clear hr ht5 hg HC5 HW5 K5 G5 HF4
  have HM9 : Hid (∀ x ∈ [(m : Int), (l : Int), (o : Int), (t : Int)], 0 ≤ x ∧ x < 18446744073709551616) := by
    intro x hx
    simp only [List.mem_cons, List.not_mem_nil, or_false] at hx
    rcases hx with rfl | rfl | rfl | rfl <;> omega
  clear hm9 hl9 ho9 ht9
  go_wp2
  go_loopw [15] (fun kv wr => ∃ (k c nb cbp : Nat) (ao ab : Option Addr) (outs : List Rw) (bb : List Int), kv = .int .i64 (k : Int) ∧ k ≤ N ∧ Hid (RulesQ N b5 k (ruls outs) bb) ∧ Hid (Ck wr B tb w.heap.size w4.heap.size bb ab nb cbp m l o t ao k c outs) ∧ Hid (w.grownBy wr (some tb))) (fun kv _ => N - (intOf kv).toNat)
  case atStart => exact ⟨0, 0, n5, c5, none, a5, [], b5, rfl, Nat.zero_le _, RulesQ.start _ _, K6.out, G6.out⟩
  case round =>
    obtain ⟨k, c, nb, cbp, ao, ab, outs, bb, rfl, hk, HI, HX, HG⟩ := hrel
    by_cases hlt : k < N
    · have hki : (k : Int) < (N : Int) := by omega
      have hx0 := HX.out.cell
      have KD : Hid (Ck wr.drew B tb w.heap.size w4.heap.size bb ab nb cbp m l o t ao k c outs) := HX.out.drew
      have GD : Hid (w.grownBy wr.drew (some tb)) := grown_drew HG.out
      have HOWN : Hid (∀ g, (Value.slice ao k c).ownBlock = some g → g < wr.heap.size) := fun g hg => (HX.out.row.lt g hg).2
      have HXX : Hid (w4.heap.size + 1 ≤ wr.heap.size) := HX.out.ord.2.2
      go_wp2
      refine wp_region_held_drew (S := (fun _ => True)) (by kernel_rfl) (by first | (trivial) | ((try dsimp only); trivial)) (fun hHeld => ?_)
      refine wpAnyH_take (i := 0) (v := ?va1) rfl (by kernel_rfl) (by kernel_rfl) (by kernel_rfl) (fun _ _ _ h => h) (Or.inl ⟨by rfl, ?ha1⟩) (by assumption) ?ra1
      case ha1 => intro w hSw; (try dsimp only at hSw); go_simp; try with_reducible rfl
      simp only [Act.put, List.getElem_toArray, List.getElem_cons_succ, List.getElem_cons_zero, List.setIfInBounds_toArray, List.set_cons_succ, List.set_cons_zero]
      refine wpAnyH_take (i := 2) (v := ?va4) rfl (by kernel_rfl) (by kernel_rfl) (by kernel_rfl) (fun _ _ _ h => h) (Or.inl ⟨by rfl, ?ha4⟩) (by assumption) ?ra4
      case ha4 => intro w hSw; (try dsimp only at hSw); go_simp; try with_reducible rfl
      simp only [Act.put, List.getElem_toArray, List.getElem_cons_succ, List.getElem_cons_zero, List.setIfInBounds_toArray, List.set_cons_succ, List.set_cons_zero]
      refine wpAnyH_take (i := 4) (v := ?va7) rfl (by kernel_rfl) (by kernel_rfl) (by kernel_rfl) (fun _ _ _ h => h) (Or.inl ⟨by rfl, ?ha7⟩) (by assumption) ?ra7
      case ha7 => intro w hSw; (try dsimp only at hSw); go_simp; try with_reducible rfl
      simp only [Act.put, List.getElem_toArray, List.getElem_cons_succ, List.getElem_cons_zero, List.setIfInBounds_toArray, List.set_cons_succ, List.set_cons_zero]
      refine wpAnyH_take (i := 6) (v := ?va10) rfl (by kernel_rfl) (by kernel_rfl) (by kernel_rfl) (fun _ _ _ h => h) (Or.inl ⟨by rfl, ?ha10⟩) (by assumption) ?ra10
      case ha10 => intro w hSw; (try dsimp only at hSw); go_simp; try with_reducible rfl
      simp only [Act.put, List.getElem_toArray, List.getElem_cons_succ, List.getElem_cons_zero, List.setIfInBounds_toArray, List.set_cons_succ, List.set_cons_zero]
      refine wpAnyH_ready (rs := [1, 3]) (by kernel_rfl) (by simp) ?_
      refine AllReadyH.cons rfl (fun K hK => ?_) (AllReadyH.cons rfl (fun K hK => ?_) AllReadyH.nil)
      · go_simp
        refine hK.out _ _ (by first | (trivial) | ((try dsimp only); trivial)) (fun hHeld => ?_)
        clear hK K
        try simp only [Act.put, List.getElem_toArray, List.getElem_cons_succ, List.getElem_cons_zero, List.setIfInBounds_toArray, List.set_cons_succ, List.set_cons_zero]
        refine wpAnyH_ready (rs := [3]) (by kernel_rfl) (by simp) ?_
        refine AllReadyH.cons rfl (fun K hK => ?_) AllReadyH.nil
        go_simp
        refine (side_is B tb ab nb cbp bb _ KD.out.tk).mono ?_
        rintro e w7 ⟨(⟨hr, rfl⟩ | ⟨L, r7, la, ln, lc, a7, n7, c7, hr, rfl, hsl, hhi, hfr, ht7⟩), hg⟩
        · exact ⟨rfl, .inl ⟨by rw [HQ.out, HI.out.none hlt (qRule_n1 hr)]; rfl, rfl⟩, grown_trans GD.out hg⟩
        have R7 := Lib.hid hr
        have K7 : Hid (Ck w7 B tb w.heap.size w4.heap.size r7 a7 n7 c7 m l o t ao k c outs) := KD.out.grown hg ht7
        have G7 : Hid (w.grownBy w7 (some tb)) := grown_trans GD.out hg
        have L7 : Hid (Sl .i64 w7 la ln lc L ∧ Front la ln ∧ High wr.heap.size la ln) := ⟨hsl, hfr, hhi⟩
        have hx7 := K7.out.cell
        have Z7 : Hid (wr.heap.size ≤ w7.heap.size) := hg.size
        clear hr hsl hhi hfr ht7 hg
        refine hK.out _ _ (by first | (trivial) | ((try dsimp only); trivial)) (fun hHeld => ?_)
        clear hK K
        try simp only [Act.put, List.getElem_toArray, List.getElem_cons_succ, List.getElem_cons_zero, List.setIfInBounds_toArray, List.set_cons_succ, List.set_cons_zero]
        refine wpAnyH_ready (rs := [5]) (by kernel_rfl) (by simp) ?_
        refine AllReadyH.cons rfl (fun K hK => ?_) AllReadyH.nil
        go_simp
        refine (side_is B tb a7 n7 c7 r7 _ K7.out.tk).mono ?_
        rintro e w8 ⟨(⟨hr, rfl⟩ | ⟨R, r8, qa, qn, qc, a8, n8, c8, hr, rfl, hsl, hhi, hfr, ht8⟩), hg⟩
        · exact ⟨rfl, .inl ⟨by rw [HQ.out, HI.out.none hlt (qRule_n2 R7.out hr)]; rfl, rfl⟩, grown_trans G7.out hg⟩
        have R8 := Lib.hid hr
        have K8 : Hid (Ck w8 B tb w.heap.size w4.heap.size r8 a8 n8 c8 m l o t ao k c outs) := K7.out.grown hg ht8
        have G8 : Hid (w.grownBy w8 (some tb)) := grown_trans G7.out hg
        have L8 : Hid (Sl .i64 w8 la ln lc L) := L7.out.1.high L7.out.2.2 (keep_high hg (by have := HXX.out; have := KD.out.ord; omega))
        have M8 : Hid (Sl .i64 w8 qa qn qc R ∧ Front qa qn ∧ High wr.heap.size qa qn) := ⟨hsl, hfr, hhi.mono Z7.out⟩
        have hx8 := K8.out.cell
        clear hr hsl hhi hfr ht8 hg
        refine hK.out _ _ (by first | (trivial) | ((try dsimp only); trivial)) (fun hHeld => ?_)
        clear hK K
        try simp only [Act.put, List.getElem_toArray, List.getElem_cons_succ, List.getElem_cons_zero, List.setIfInBounds_toArray, List.set_cons_succ, List.set_cons_zero]
        refine wpAnyH_ready (rs := [7]) (by kernel_rfl) (by simp) ?_
        refine AllReadyH.cons rfl (fun K hK => ?_) AllReadyH.nil
        go_simp
        refine (number_is B tb a8 n8 c8 r8 _ K8.out.tk).mono ?_
        rintro e w9 ⟨(⟨hr, rfl⟩ | ⟨C, q, a9, n9, c9, hr, rfl, ht9⟩), hg⟩
        · exact ⟨rfl, .inl ⟨by rw [HQ.out, HI.out.none hlt (qRule_n3 R7.out R8.out hr)]; rfl, rfl⟩, grown_trans G8.out hg⟩
        have hnx := HI.out.next hlt (qRule_is R7.out R8.out hr)
        have HNX : Hid (RulesQ N b5 (k + 1) (ruls (outs ++ [⟨la, ln, lc, L, qa, qn, qc, R, (C : Int)⟩])) q) := by rw [ruls_app]; exact hnx
        have hC9 := (Var.take_some hr).2
        have K9 : Hid (Ck w9 B tb w.heap.size w4.heap.size q a9 n9 c9 m l o t ao k c outs) := K8.out.grown hg ht9
        have G9 : Hid (w.grownBy w9 (some tb)) := grown_trans G8.out hg
        have hh9 := keep_high (E := wr.heap.size) hg (by have := HXX.out; have := KD.out.ord; omega)
        have Y9 : Hid (Rw.Good w9 ⟨la, ln, lc, L, qa, qn, qc, R, (C : Int)⟩ ∧ (Front la ln ∧ Front qa qn) ∧ (High wr.heap.size la ln ∧ High wr.heap.size qa qn)) := ⟨⟨L8.out.high L7.out.2.2 hh9, M8.out.1.high M8.out.2.2 hh9, by show (0 : Int) ≤ (C : Int); omega, by show (C : Int) < _; omega⟩, ⟨L7.out.2.1, M8.out.2.1⟩, ⟨L7.out.2.2, M8.out.2.2⟩⟩
        have hx9 := K9.out.cell
        have Z9 : Hid (w4.heap.size + 1 ≤ w9.heap.size) := K9.out.ord.2.2
        have hx9a : (w9.alloc (.cells #[.slice la ln lc, .slice qa qn qc, .int .u64 (C : Int)] 54)).cell? ⟨w4.heap.size, 4, none⟩ = some (.slice ao k c) := by
          rw [((Below.refl w9.heap.size w9).alloc (Nat.le_refl _) _).cell (p := ⟨w4.heap.size, 4, none⟩) (by show w4.heap.size < w9.heap.size; exact Z9.out)]; exact hx9
        clear hr ht9 hg hnx hC9 hh9
        refine hK.out _ _ (by first | (trivial) | ((try dsimp only); trivial)) (fun hHeld => ?_)
        clear hK K
        try simp only [Act.put, List.getElem_toArray, List.getElem_cons_succ, List.getElem_cons_zero, List.setIfInBounds_toArray, List.set_cons_succ, List.set_cons_zero]
        refine wpAnyH_take (i := 8) (v := ?va72) rfl (by kernel_rfl) (by kernel_rfl) (by kernel_rfl) (fun _ _ _ h => h) (Or.inl ⟨by rfl, ?ha72⟩) (by assumption) ?ra72
        case ha72 => intro w hSw; (try dsimp only at hSw); go_simp; try with_reducible rfl
        simp only [Act.put, List.getElem_toArray, List.getElem_cons_succ, List.getElem_cons_zero, List.setIfInBounds_toArray, List.set_cons_succ, List.set_cons_zero]
        refine wpAnyH_ready (rs := [9]) (by kernel_rfl) (by simp) ?_
        refine AllReadyH.cons rfl (fun K hK => ?_) AllReadyH.nil
        go_simp
        refine hK.out _ _ (by first | (trivial) | ((try dsimp only); trivial)) (fun hHeld => ?_)
        clear hK K
        try simp only [Act.put, List.getElem_toArray, List.getElem_cons_succ, List.getElem_cons_zero, List.setIfInBounds_toArray, List.set_cons_succ, List.set_cons_zero]
        refine wpAnyH_ready (rs := [10]) (by kernel_rfl) (by simp) ?_
        refine AllReadyH.cons rfl (fun K hK => ?_) AllReadyH.nil
        refine step_append_rules (w0 := w9) (by rfl) (.tmp 18) (.tmp 26) (by rfl) (w4.heap.size + 1) _ k outs (by rfl) (ownsRow_below K9.out.row ((Below.refl w9.heap.size w9).alloc (Nat.le_refl _) _) (Nat.le_refl _)) (some ⟨w9.heap.size, 0, none⟩) 1 1 [⟨la, ln, lc, L, qa, qn, qc, R, (C : Int)⟩] (by rfl) (Rs.newc [⟨la, ln, lc, L, qa, qn, qc, R, (C : Int)⟩] (by intro x hx; simp only [List.mem_singleton] at hx; subst hx; exact Y9.out.1) (by unfold maxLen; simp) rfl rfl rfl) (k + 1) rfl (by omega) Z9.out ((Below.refl _ w9).alloc Z9.out _) ?_
        intro aP cP wP hownP hbP hgP hnP
        have OP := Lib.hid hownP
        have BP := Lib.hid hbP
        have GP := Lib.hid hgP
        have hxP : wP.cell? ⟨w4.heap.size, 4, none⟩ = some (.slice ao k c) := (by rw [BP.out.cell (p := ⟨w4.heap.size, 4, none⟩) (by show w4.heap.size < w4.heap.size + 1; omega)]; exact hx9)
        have hfP : wP.frozen? ⟨w4.heap.size, 4, none⟩ = false := (by have h : wP.heap[w4.heap.size]? = _ := BP.out.block w4.heap.size (by omega); have h2 := K9.out.box; rw [h2] at h; simp [World.frozen?, h])
        clear hownP hbP hgP hnP
        refine hK.out _ _ (by first | (trivial) | ((try dsimp only); trivial)) (fun hHeld => ?_)
        clear hK K
        try simp only [Act.put, List.getElem_toArray, List.getElem_cons_succ, List.getElem_cons_zero, List.setIfInBounds_toArray, List.set_cons_succ, List.set_cons_zero]
        refine wpAnyH_take (i := 11) (v := ?va94) rfl (by kernel_rfl) (by kernel_rfl) (by kernel_rfl) (fun _ _ _ h => h) (Or.inl ⟨by rfl, ?ha94⟩) (by assumption) ?ra94
        case ha94 => intro w hSw; (try dsimp only at hSw); go_simp; try with_reducible rfl
        simp only [Act.put, List.getElem_toArray, List.getElem_cons_succ, List.getElem_cons_zero, List.setIfInBounds_toArray, List.set_cons_succ, List.set_cons_zero]
        refine wpAnyH_ready (rs := [12]) (by kernel_rfl) (by simp) ?_
        refine AllReadyH.cons rfl (fun K hK => ?_) AllReadyH.nil
        go_simp
        refine hK.out _ _ (by first | (trivial) | ((try dsimp only); trivial)) (fun hHeld => ?_)
        clear hK K
        try simp only [Act.put, List.getElem_toArray, List.getElem_cons_succ, List.getElem_cons_zero, List.setIfInBounds_toArray, List.set_cons_succ, List.set_cons_zero]
        refine wpAnyH_done (by kernel_rfl) ?_ _
        have KE := Lib.hid (K9.out.push Y9.out HXX.out HOWN.out OP.out BP.out GP.out)
        have GE : Hid (w.grownBy (wP.setCell ⟨w4.heap.size, 4, none⟩ (.slice aP (k + 1) cP)) (some tb)) := grown_own (grown_low G9.out (BP.out.mono (by have := K9.out.ord; omega))) (grown_store wP ⟨w4.heap.size, 4, none⟩ (.slice aP (k + 1) cP)) (fun g hg => by cases hg; have := K9.out.ord; show w.heap.size ≤ w4.heap.size; omega)
        obtain ⟨WE, hWE⟩ : ∃ W, W = wP.setCell ⟨w4.heap.size, 4, none⟩ (.slice aP (k + 1) cP) := ⟨_, rfl⟩
        rw [← hWE] at KE GE ⊢
        clear hWE hx0 hx7 hx8 hx9 hx9a hxP hfP K7 K8 K9 G7 G8 G9 OP BP GP hHeld
        go_wp2
        go_roundw
        case rel => exact ⟨k + 1, cP, n9, c9, aP, a9, outs ++ [Rw.mk la ln lc L qa qn qc R (C : Int)], q, by go_num, by omega, HNX.out, KE.out, GE.out⟩
        case measure => simp [intOf]; omega
      · go_simp
        refine (side_is B tb ab nb cbp bb _ KD.out.tk).mono ?_
        rintro e w7 ⟨(⟨hr, rfl⟩ | ⟨L, r7, la, ln, lc, a7, n7, c7, hr, rfl, hsl, hhi, hfr, ht7⟩), hg⟩
        · exact ⟨rfl, .inl ⟨by rw [HQ.out, HI.out.none hlt (qRule_n1 hr)]; rfl, rfl⟩, grown_trans GD.out hg⟩
        have R7 := Lib.hid hr
        have K7 : Hid (Ck w7 B tb w.heap.size w4.heap.size r7 a7 n7 c7 m l o t ao k c outs) := KD.out.grown hg ht7
        have G7 : Hid (w.grownBy w7 (some tb)) := grown_trans GD.out hg
        have L7 : Hid (Sl .i64 w7 la ln lc L ∧ Front la ln ∧ High wr.heap.size la ln) := ⟨hsl, hfr, hhi⟩
        have hx7 := K7.out.cell
        have Z7 : Hid (wr.heap.size ≤ w7.heap.size) := hg.size
        clear hr hsl hhi hfr ht7 hg
        refine hK.out _ _ (by first | (trivial) | ((try dsimp only); trivial)) (fun hHeld => ?_)
        clear hK K
        try simp only [Act.put, List.getElem_toArray, List.getElem_cons_succ, List.getElem_cons_zero, List.setIfInBounds_toArray, List.set_cons_succ, List.set_cons_zero]
        refine wpAnyH_ready (rs := [1, 5]) (by kernel_rfl) (by simp) ?_
        refine AllReadyH.cons rfl (fun K hK => ?_) (AllReadyH.cons rfl (fun K hK => ?_) AllReadyH.nil)
        · go_simp
          refine hK.out _ _ (by first | (trivial) | ((try dsimp only); trivial)) (fun hHeld => ?_)
          clear hK K
          try simp only [Act.put, List.getElem_toArray, List.getElem_cons_succ, List.getElem_cons_zero, List.setIfInBounds_toArray, List.set_cons_succ, List.set_cons_zero]
          refine wpAnyH_ready (rs := [5]) (by kernel_rfl) (by simp) ?_
          refine AllReadyH.cons rfl (fun K hK => ?_) AllReadyH.nil
          go_simp
          refine (side_is B tb a7 n7 c7 r7 _ K7.out.tk).mono ?_
          rintro e w8 ⟨(⟨hr, rfl⟩ | ⟨R, r8, qa, qn, qc, a8, n8, c8, hr, rfl, hsl, hhi, hfr, ht8⟩), hg⟩
          · exact ⟨rfl, .inl ⟨by rw [HQ.out, HI.out.none hlt (qRule_n2 R7.out hr)]; rfl, rfl⟩, grown_trans G7.out hg⟩
          have R8 := Lib.hid hr
          have K8 : Hid (Ck w8 B tb w.heap.size w4.heap.size r8 a8 n8 c8 m l o t ao k c outs) := K7.out.grown hg ht8
          have G8 : Hid (w.grownBy w8 (some tb)) := grown_trans G7.out hg
          have L8 : Hid (Sl .i64 w8 la ln lc L) := L7.out.1.high L7.out.2.2 (keep_high hg (by have := HXX.out; have := KD.out.ord; omega))
          have M8 : Hid (Sl .i64 w8 qa qn qc R ∧ Front qa qn ∧ High wr.heap.size qa qn) := ⟨hsl, hfr, hhi.mono Z7.out⟩
          have hx8 := K8.out.cell
          clear hr hsl hhi hfr ht8 hg
          refine hK.out _ _ (by first | (trivial) | ((try dsimp only); trivial)) (fun hHeld => ?_)
          clear hK K
          try simp only [Act.put, List.getElem_toArray, List.getElem_cons_succ, List.getElem_cons_zero, List.setIfInBounds_toArray, List.set_cons_succ, List.set_cons_zero]
          refine wpAnyH_ready (rs := [7]) (by kernel_rfl) (by simp) ?_
          refine AllReadyH.cons rfl (fun K hK => ?_) AllReadyH.nil
          go_simp
          refine (number_is B tb a8 n8 c8 r8 _ K8.out.tk).mono ?_
          rintro e w9 ⟨(⟨hr, rfl⟩ | ⟨C, q, a9, n9, c9, hr, rfl, ht9⟩), hg⟩
          · exact ⟨rfl, .inl ⟨by rw [HQ.out, HI.out.none hlt (qRule_n3 R7.out R8.out hr)]; rfl, rfl⟩, grown_trans G8.out hg⟩
          have hnx := HI.out.next hlt (qRule_is R7.out R8.out hr)
          have HNX : Hid (RulesQ N b5 (k + 1) (ruls (outs ++ [⟨la, ln, lc, L, qa, qn, qc, R, (C : Int)⟩])) q) := by rw [ruls_app]; exact hnx
          have hC9 := (Var.take_some hr).2
          have K9 : Hid (Ck w9 B tb w.heap.size w4.heap.size q a9 n9 c9 m l o t ao k c outs) := K8.out.grown hg ht9
          have G9 : Hid (w.grownBy w9 (some tb)) := grown_trans G8.out hg
          have hh9 := keep_high (E := wr.heap.size) hg (by have := HXX.out; have := KD.out.ord; omega)
          have Y9 : Hid (Rw.Good w9 ⟨la, ln, lc, L, qa, qn, qc, R, (C : Int)⟩ ∧ (Front la ln ∧ Front qa qn) ∧ (High wr.heap.size la ln ∧ High wr.heap.size qa qn)) := ⟨⟨L8.out.high L7.out.2.2 hh9, M8.out.1.high M8.out.2.2 hh9, by show (0 : Int) ≤ (C : Int); omega, by show (C : Int) < _; omega⟩, ⟨L7.out.2.1, M8.out.2.1⟩, ⟨L7.out.2.2, M8.out.2.2⟩⟩
          have hx9 := K9.out.cell
          have Z9 : Hid (w4.heap.size + 1 ≤ w9.heap.size) := K9.out.ord.2.2
          have hx9a : (w9.alloc (.cells #[.slice la ln lc, .slice qa qn qc, .int .u64 (C : Int)] 54)).cell? ⟨w4.heap.size, 4, none⟩ = some (.slice ao k c) := by
            rw [((Below.refl w9.heap.size w9).alloc (Nat.le_refl _) _).cell (p := ⟨w4.heap.size, 4, none⟩) (by show w4.heap.size < w9.heap.size; exact Z9.out)]; exact hx9
          clear hr ht9 hg hnx hC9 hh9
          refine hK.out _ _ (by first | (trivial) | ((try dsimp only); trivial)) (fun hHeld => ?_)
          clear hK K
          try simp only [Act.put, List.getElem_toArray, List.getElem_cons_succ, List.getElem_cons_zero, List.setIfInBounds_toArray, List.set_cons_succ, List.set_cons_zero]
          refine wpAnyH_take (i := 8) (v := ?va170) rfl (by kernel_rfl) (by kernel_rfl) (by kernel_rfl) (fun _ _ _ h => h) (Or.inl ⟨by rfl, ?ha170⟩) (by assumption) ?ra170
          case ha170 => intro w hSw; (try dsimp only at hSw); go_simp; try with_reducible rfl
          simp only [Act.put, List.getElem_toArray, List.getElem_cons_succ, List.getElem_cons_zero, List.setIfInBounds_toArray, List.set_cons_succ, List.set_cons_zero]
          refine wpAnyH_ready (rs := [9]) (by kernel_rfl) (by simp) ?_
          refine AllReadyH.cons rfl (fun K hK => ?_) AllReadyH.nil
          go_simp
          refine hK.out _ _ (by first | (trivial) | ((try dsimp only); trivial)) (fun hHeld => ?_)
          clear hK K
          try simp only [Act.put, List.getElem_toArray, List.getElem_cons_succ, List.getElem_cons_zero, List.setIfInBounds_toArray, List.set_cons_succ, List.set_cons_zero]
          refine wpAnyH_ready (rs := [10]) (by kernel_rfl) (by simp) ?_
          refine AllReadyH.cons rfl (fun K hK => ?_) AllReadyH.nil
          refine step_append_rules (w0 := w9) (by rfl) (.tmp 18) (.tmp 26) (by rfl) (w4.heap.size + 1) _ k outs (by rfl) (ownsRow_below K9.out.row ((Below.refl w9.heap.size w9).alloc (Nat.le_refl _) _) (Nat.le_refl _)) (some ⟨w9.heap.size, 0, none⟩) 1 1 [⟨la, ln, lc, L, qa, qn, qc, R, (C : Int)⟩] (by rfl) (Rs.newc [⟨la, ln, lc, L, qa, qn, qc, R, (C : Int)⟩] (by intro x hx; simp only [List.mem_singleton] at hx; subst hx; exact Y9.out.1) (by unfold maxLen; simp) rfl rfl rfl) (k + 1) rfl (by omega) Z9.out ((Below.refl _ w9).alloc Z9.out _) ?_
          intro aP cP wP hownP hbP hgP hnP
          have OP := Lib.hid hownP
          have BP := Lib.hid hbP
          have GP := Lib.hid hgP
          have hxP : wP.cell? ⟨w4.heap.size, 4, none⟩ = some (.slice ao k c) := (by rw [BP.out.cell (p := ⟨w4.heap.size, 4, none⟩) (by show w4.heap.size < w4.heap.size + 1; omega)]; exact hx9)
          have hfP : wP.frozen? ⟨w4.heap.size, 4, none⟩ = false := (by have h : wP.heap[w4.heap.size]? = _ := BP.out.block w4.heap.size (by omega); have h2 := K9.out.box; rw [h2] at h; simp [World.frozen?, h])
          clear hownP hbP hgP hnP
          refine hK.out _ _ (by first | (trivial) | ((try dsimp only); trivial)) (fun hHeld => ?_)
          clear hK K
          try simp only [Act.put, List.getElem_toArray, List.getElem_cons_succ, List.getElem_cons_zero, List.setIfInBounds_toArray, List.set_cons_succ, List.set_cons_zero]
          refine wpAnyH_take (i := 11) (v := ?va192) rfl (by kernel_rfl) (by kernel_rfl) (by kernel_rfl) (fun _ _ _ h => h) (Or.inl ⟨by rfl, ?ha192⟩) (by assumption) ?ra192
          case ha192 => intro w hSw; (try dsimp only at hSw); go_simp; try with_reducible rfl
          simp only [Act.put, List.getElem_toArray, List.getElem_cons_succ, List.getElem_cons_zero, List.setIfInBounds_toArray, List.set_cons_succ, List.set_cons_zero]
          refine wpAnyH_ready (rs := [12]) (by kernel_rfl) (by simp) ?_
          refine AllReadyH.cons rfl (fun K hK => ?_) AllReadyH.nil
          go_simp
          refine hK.out _ _ (by first | (trivial) | ((try dsimp only); trivial)) (fun hHeld => ?_)
          clear hK K
          try simp only [Act.put, List.getElem_toArray, List.getElem_cons_succ, List.getElem_cons_zero, List.setIfInBounds_toArray, List.set_cons_succ, List.set_cons_zero]
          refine wpAnyH_done (by kernel_rfl) ?_ _
          have KE := Lib.hid (K9.out.push Y9.out HXX.out HOWN.out OP.out BP.out GP.out)
          have GE : Hid (w.grownBy (wP.setCell ⟨w4.heap.size, 4, none⟩ (.slice aP (k + 1) cP)) (some tb)) := grown_own (grown_low G9.out (BP.out.mono (by have := K9.out.ord; omega))) (grown_store wP ⟨w4.heap.size, 4, none⟩ (.slice aP (k + 1) cP)) (fun g hg => by cases hg; have := K9.out.ord; show w.heap.size ≤ w4.heap.size; omega)
          obtain ⟨WE, hWE⟩ : ∃ W, W = wP.setCell ⟨w4.heap.size, 4, none⟩ (.slice aP (k + 1) cP) := ⟨_, rfl⟩
          rw [← hWE] at KE GE ⊢
          clear hWE hx0 hx7 hx8 hx9 hx9a hxP hfP K7 K8 K9 G7 G8 G9 OP BP GP hHeld
          go_wp2
          go_roundw
          case rel => exact ⟨k + 1, cP, n9, c9, aP, a9, outs ++ [Rw.mk la ln lc L qa qn qc R (C : Int)], q, by go_num, by omega, HNX.out, KE.out, GE.out⟩
          case measure => simp [intOf]; omega
        · go_simp
          refine (side_is B tb a7 n7 c7 r7 _ K7.out.tk).mono ?_
          rintro e w8 ⟨(⟨hr, rfl⟩ | ⟨R, r8, qa, qn, qc, a8, n8, c8, hr, rfl, hsl, hhi, hfr, ht8⟩), hg⟩
          · exact ⟨rfl, .inl ⟨by rw [HQ.out, HI.out.none hlt (qRule_n2 R7.out hr)]; rfl, rfl⟩, grown_trans G7.out hg⟩
          have R8 := Lib.hid hr
          have K8 : Hid (Ck w8 B tb w.heap.size w4.heap.size r8 a8 n8 c8 m l o t ao k c outs) := K7.out.grown hg ht8
          have G8 : Hid (w.grownBy w8 (some tb)) := grown_trans G7.out hg
          have L8 : Hid (Sl .i64 w8 la ln lc L) := L7.out.1.high L7.out.2.2 (keep_high hg (by have := HXX.out; have := KD.out.ord; omega))
          have M8 : Hid (Sl .i64 w8 qa qn qc R ∧ Front qa qn ∧ High wr.heap.size qa qn) := ⟨hsl, hfr, hhi.mono Z7.out⟩
          have hx8 := K8.out.cell
          clear hr hsl hhi hfr ht8 hg
          refine hK.out _ _ (by first | (trivial) | ((try dsimp only); trivial)) (fun hHeld => ?_)
          clear hK K
          try simp only [Act.put, List.getElem_toArray, List.getElem_cons_succ, List.getElem_cons_zero, List.setIfInBounds_toArray, List.set_cons_succ, List.set_cons_zero]
          refine wpAnyH_ready (rs := [1, 7]) (by kernel_rfl) (by simp) ?_
          refine AllReadyH.cons rfl (fun K hK => ?_) (AllReadyH.cons rfl (fun K hK => ?_) AllReadyH.nil)
          · go_simp
            refine hK.out _ _ (by first | (trivial) | ((try dsimp only); trivial)) (fun hHeld => ?_)
            clear hK K
            try simp only [Act.put, List.getElem_toArray, List.getElem_cons_succ, List.getElem_cons_zero, List.setIfInBounds_toArray, List.set_cons_succ, List.set_cons_zero]
            refine wpAnyH_ready (rs := [7]) (by kernel_rfl) (by simp) ?_
            refine AllReadyH.cons rfl (fun K hK => ?_) AllReadyH.nil
            go_simp
            refine (number_is B tb a8 n8 c8 r8 _ K8.out.tk).mono ?_
            rintro e w9 ⟨(⟨hr, rfl⟩ | ⟨C, q, a9, n9, c9, hr, rfl, ht9⟩), hg⟩
            · exact ⟨rfl, .inl ⟨by rw [HQ.out, HI.out.none hlt (qRule_n3 R7.out R8.out hr)]; rfl, rfl⟩, grown_trans G8.out hg⟩
            have hnx := HI.out.next hlt (qRule_is R7.out R8.out hr)
            have HNX : Hid (RulesQ N b5 (k + 1) (ruls (outs ++ [⟨la, ln, lc, L, qa, qn, qc, R, (C : Int)⟩])) q) := by rw [ruls_app]; exact hnx
            have hC9 := (Var.take_some hr).2
            have K9 : Hid (Ck w9 B tb w.heap.size w4.heap.size q a9 n9 c9 m l o t ao k c outs) := K8.out.grown hg ht9
            have G9 : Hid (w.grownBy w9 (some tb)) := grown_trans G8.out hg
            have hh9 := keep_high (E := wr.heap.size) hg (by have := HXX.out; have := KD.out.ord; omega)
            have Y9 : Hid (Rw.Good w9 ⟨la, ln, lc, L, qa, qn, qc, R, (C : Int)⟩ ∧ (Front la ln ∧ Front qa qn) ∧ (High wr.heap.size la ln ∧ High wr.heap.size qa qn)) := ⟨⟨L8.out.high L7.out.2.2 hh9, M8.out.1.high M8.out.2.2 hh9, by show (0 : Int) ≤ (C : Int); omega, by show (C : Int) < _; omega⟩, ⟨L7.out.2.1, M8.out.2.1⟩, ⟨L7.out.2.2, M8.out.2.2⟩⟩
            have hx9 := K9.out.cell
            have Z9 : Hid (w4.heap.size + 1 ≤ w9.heap.size) := K9.out.ord.2.2
            have hx9a : (w9.alloc (.cells #[.slice la ln lc, .slice qa qn qc, .int .u64 (C : Int)] 54)).cell? ⟨w4.heap.size, 4, none⟩ = some (.slice ao k c) := by
              rw [((Below.refl w9.heap.size w9).alloc (Nat.le_refl _) _).cell (p := ⟨w4.heap.size, 4, none⟩) (by show w4.heap.size < w9.heap.size; exact Z9.out)]; exact hx9
            clear hr ht9 hg hnx hC9 hh9
            refine hK.out _ _ (by first | (trivial) | ((try dsimp only); trivial)) (fun hHeld => ?_)
            clear hK K
            try simp only [Act.put, List.getElem_toArray, List.getElem_cons_succ, List.getElem_cons_zero, List.setIfInBounds_toArray, List.set_cons_succ, List.set_cons_zero]
            refine wpAnyH_take (i := 8) (v := ?va252) rfl (by kernel_rfl) (by kernel_rfl) (by kernel_rfl) (fun _ _ _ h => h) (Or.inl ⟨by rfl, ?ha252⟩) (by assumption) ?ra252
            case ha252 => intro w hSw; (try dsimp only at hSw); go_simp; try with_reducible rfl
            simp only [Act.put, List.getElem_toArray, List.getElem_cons_succ, List.getElem_cons_zero, List.setIfInBounds_toArray, List.set_cons_succ, List.set_cons_zero]
            refine wpAnyH_ready (rs := [9]) (by kernel_rfl) (by simp) ?_
            refine AllReadyH.cons rfl (fun K hK => ?_) AllReadyH.nil
            go_simp
            refine hK.out _ _ (by first | (trivial) | ((try dsimp only); trivial)) (fun hHeld => ?_)
            clear hK K
            try simp only [Act.put, List.getElem_toArray, List.getElem_cons_succ, List.getElem_cons_zero, List.setIfInBounds_toArray, List.set_cons_succ, List.set_cons_zero]
            refine wpAnyH_ready (rs := [10]) (by kernel_rfl) (by simp) ?_
            refine AllReadyH.cons rfl (fun K hK => ?_) AllReadyH.nil
            refine step_append_rules (w0 := w9) (by rfl) (.tmp 18) (.tmp 26) (by rfl) (w4.heap.size + 1) _ k outs (by rfl) (ownsRow_below K9.out.row ((Below.refl w9.heap.size w9).alloc (Nat.le_refl _) _) (Nat.le_refl _)) (some ⟨w9.heap.size, 0, none⟩) 1 1 [⟨la, ln, lc, L, qa, qn, qc, R, (C : Int)⟩] (by rfl) (Rs.newc [⟨la, ln, lc, L, qa, qn, qc, R, (C : Int)⟩] (by intro x hx; simp only [List.mem_singleton] at hx; subst hx; exact Y9.out.1) (by unfold maxLen; simp) rfl rfl rfl) (k + 1) rfl (by omega) Z9.out ((Below.refl _ w9).alloc Z9.out _) ?_
            intro aP cP wP hownP hbP hgP hnP
            have OP := Lib.hid hownP
            have BP := Lib.hid hbP
            have GP := Lib.hid hgP
            have hxP : wP.cell? ⟨w4.heap.size, 4, none⟩ = some (.slice ao k c) := (by rw [BP.out.cell (p := ⟨w4.heap.size, 4, none⟩) (by show w4.heap.size < w4.heap.size + 1; omega)]; exact hx9)
            have hfP : wP.frozen? ⟨w4.heap.size, 4, none⟩ = false := (by have h : wP.heap[w4.heap.size]? = _ := BP.out.block w4.heap.size (by omega); have h2 := K9.out.box; rw [h2] at h; simp [World.frozen?, h])
            clear hownP hbP hgP hnP
            refine hK.out _ _ (by first | (trivial) | ((try dsimp only); trivial)) (fun hHeld => ?_)
            clear hK K
            try simp only [Act.put, List.getElem_toArray, List.getElem_cons_succ, List.getElem_cons_zero, List.setIfInBounds_toArray, List.set_cons_succ, List.set_cons_zero]
            refine wpAnyH_take (i := 11) (v := ?va274) rfl (by kernel_rfl) (by kernel_rfl) (by kernel_rfl) (fun _ _ _ h => h) (Or.inl ⟨by rfl, ?ha274⟩) (by assumption) ?ra274
            case ha274 => intro w hSw; (try dsimp only at hSw); go_simp; try with_reducible rfl
            simp only [Act.put, List.getElem_toArray, List.getElem_cons_succ, List.getElem_cons_zero, List.setIfInBounds_toArray, List.set_cons_succ, List.set_cons_zero]
            refine wpAnyH_ready (rs := [12]) (by kernel_rfl) (by simp) ?_
            refine AllReadyH.cons rfl (fun K hK => ?_) AllReadyH.nil
            go_simp
            refine hK.out _ _ (by first | (trivial) | ((try dsimp only); trivial)) (fun hHeld => ?_)
            clear hK K
            try simp only [Act.put, List.getElem_toArray, List.getElem_cons_succ, List.getElem_cons_zero, List.setIfInBounds_toArray, List.set_cons_succ, List.set_cons_zero]
            refine wpAnyH_done (by kernel_rfl) ?_ _
            have KE := Lib.hid (K9.out.push Y9.out HXX.out HOWN.out OP.out BP.out GP.out)
            have GE : Hid (w.grownBy (wP.setCell ⟨w4.heap.size, 4, none⟩ (.slice aP (k + 1) cP)) (some tb)) := grown_own (grown_low G9.out (BP.out.mono (by have := K9.out.ord; omega))) (grown_store wP ⟨w4.heap.size, 4, none⟩ (.slice aP (k + 1) cP)) (fun g hg => by cases hg; have := K9.out.ord; show w.heap.size ≤ w4.heap.size; omega)
            obtain ⟨WE, hWE⟩ : ∃ W, W = wP.setCell ⟨w4.heap.size, 4, none⟩ (.slice aP (k + 1) cP) := ⟨_, rfl⟩
            rw [← hWE] at KE GE ⊢
            clear hWE hx0 hx7 hx8 hx9 hx9a hxP hfP K7 K8 K9 G7 G8 G9 OP BP GP hHeld
            go_wp2
            go_roundw
            case rel => exact ⟨k + 1, cP, n9, c9, aP, a9, outs ++ [Rw.mk la ln lc L qa qn qc R (C : Int)], q, by go_num, by omega, HNX.out, KE.out, GE.out⟩
            case measure => simp [intOf]; omega
          · go_simp
            refine (number_is B tb a8 n8 c8 r8 _ K8.out.tk).mono ?_
            rintro e w9 ⟨(⟨hr, rfl⟩ | ⟨C, q, a9, n9, c9, hr, rfl, ht9⟩), hg⟩
            · exact ⟨rfl, .inl ⟨by rw [HQ.out, HI.out.none hlt (qRule_n3 R7.out R8.out hr)]; rfl, rfl⟩, grown_trans G8.out hg⟩
            have hnx := HI.out.next hlt (qRule_is R7.out R8.out hr)
            have HNX : Hid (RulesQ N b5 (k + 1) (ruls (outs ++ [⟨la, ln, lc, L, qa, qn, qc, R, (C : Int)⟩])) q) := by rw [ruls_app]; exact hnx
            have hC9 := (Var.take_some hr).2
            have K9 : Hid (Ck w9 B tb w.heap.size w4.heap.size q a9 n9 c9 m l o t ao k c outs) := K8.out.grown hg ht9
            have G9 : Hid (w.grownBy w9 (some tb)) := grown_trans G8.out hg
            have hh9 := keep_high (E := wr.heap.size) hg (by have := HXX.out; have := KD.out.ord; omega)
            have Y9 : Hid (Rw.Good w9 ⟨la, ln, lc, L, qa, qn, qc, R, (C : Int)⟩ ∧ (Front la ln ∧ Front qa qn) ∧ (High wr.heap.size la ln ∧ High wr.heap.size qa qn)) := ⟨⟨L8.out.high L7.out.2.2 hh9, M8.out.1.high M8.out.2.2 hh9, by show (0 : Int) ≤ (C : Int); omega, by show (C : Int) < _; omega⟩, ⟨L7.out.2.1, M8.out.2.1⟩, ⟨L7.out.2.2, M8.out.2.2⟩⟩
            have hx9 := K9.out.cell
            have Z9 : Hid (w4.heap.size + 1 ≤ w9.heap.size) := K9.out.ord.2.2
            have hx9a : (w9.alloc (.cells #[.slice la ln lc, .slice qa qn qc, .int .u64 (C : Int)] 54)).cell? ⟨w4.heap.size, 4, none⟩ = some (.slice ao k c) := by
              rw [((Below.refl w9.heap.size w9).alloc (Nat.le_refl _) _).cell (p := ⟨w4.heap.size, 4, none⟩) (by show w4.heap.size < w9.heap.size; exact Z9.out)]; exact hx9
            clear hr ht9 hg hnx hC9 hh9
            refine hK.out _ _ (by first | (trivial) | ((try dsimp only); trivial)) (fun hHeld => ?_)
            clear hK K
            try simp only [Act.put, List.getElem_toArray, List.getElem_cons_succ, List.getElem_cons_zero, List.setIfInBounds_toArray, List.set_cons_succ, List.set_cons_zero]
            refine wpAnyH_take (i := 8) (v := ?va312) rfl (by kernel_rfl) (by kernel_rfl) (by kernel_rfl) (fun _ _ _ h => h) (Or.inl ⟨by rfl, ?ha312⟩) (by assumption) ?ra312
            case ha312 => intro w hSw; (try dsimp only at hSw); go_simp; try with_reducible rfl
            simp only [Act.put, List.getElem_toArray, List.getElem_cons_succ, List.getElem_cons_zero, List.setIfInBounds_toArray, List.set_cons_succ, List.set_cons_zero]
            refine wpAnyH_ready (rs := [1, 9]) (by kernel_rfl) (by simp) ?_
            refine AllReadyH.cons rfl (fun K hK => ?_) (AllReadyH.cons rfl (fun K hK => ?_) AllReadyH.nil)
            · go_simp
              refine hK.out _ _ (by first | (trivial) | ((try dsimp only); trivial)) (fun hHeld => ?_)
              clear hK K
              try simp only [Act.put, List.getElem_toArray, List.getElem_cons_succ, List.getElem_cons_zero, List.setIfInBounds_toArray, List.set_cons_succ, List.set_cons_zero]
              refine wpAnyH_ready (rs := [9]) (by kernel_rfl) (by simp) ?_
              refine AllReadyH.cons rfl (fun K hK => ?_) AllReadyH.nil
              go_simp
              refine hK.out _ _ (by first | (trivial) | ((try dsimp only); trivial)) (fun hHeld => ?_)
              clear hK K
              try simp only [Act.put, List.getElem_toArray, List.getElem_cons_succ, List.getElem_cons_zero, List.setIfInBounds_toArray, List.set_cons_succ, List.set_cons_zero]
              refine wpAnyH_ready (rs := [10]) (by kernel_rfl) (by simp) ?_
              refine AllReadyH.cons rfl (fun K hK => ?_) AllReadyH.nil
              refine step_append_rules (w0 := w9) (by rfl) (.tmp 18) (.tmp 26) (by rfl) (w4.heap.size + 1) _ k outs (by rfl) (ownsRow_below K9.out.row ((Below.refl w9.heap.size w9).alloc (Nat.le_refl _) _) (Nat.le_refl _)) (some ⟨w9.heap.size, 0, none⟩) 1 1 [⟨la, ln, lc, L, qa, qn, qc, R, (C : Int)⟩] (by rfl) (Rs.newc [⟨la, ln, lc, L, qa, qn, qc, R, (C : Int)⟩] (by intro x hx; simp only [List.mem_singleton] at hx; subst hx; exact Y9.out.1) (by unfold maxLen; simp) rfl rfl rfl) (k + 1) rfl (by omega) Z9.out ((Below.refl _ w9).alloc Z9.out _) ?_
              intro aP cP wP hownP hbP hgP hnP
              have OP := Lib.hid hownP
              have BP := Lib.hid hbP
              have GP := Lib.hid hgP
              have hxP : wP.cell? ⟨w4.heap.size, 4, none⟩ = some (.slice ao k c) := (by rw [BP.out.cell (p := ⟨w4.heap.size, 4, none⟩) (by show w4.heap.size < w4.heap.size + 1; omega)]; exact hx9)
              have hfP : wP.frozen? ⟨w4.heap.size, 4, none⟩ = false := (by have h : wP.heap[w4.heap.size]? = _ := BP.out.block w4.heap.size (by omega); have h2 := K9.out.box; rw [h2] at h; simp [World.frozen?, h])
              clear hownP hbP hgP hnP
              refine hK.out _ _ (by first | (trivial) | ((try dsimp only); trivial)) (fun hHeld => ?_)
              clear hK K
              try simp only [Act.put, List.getElem_toArray, List.getElem_cons_succ, List.getElem_cons_zero, List.setIfInBounds_toArray, List.set_cons_succ, List.set_cons_zero]
              refine wpAnyH_take (i := 11) (v := ?va340) rfl (by kernel_rfl) (by kernel_rfl) (by kernel_rfl) (fun _ _ _ h => h) (Or.inl ⟨by rfl, ?ha340⟩) (by assumption) ?ra340
              case ha340 => intro w hSw; (try dsimp only at hSw); go_simp; try with_reducible rfl
              simp only [Act.put, List.getElem_toArray, List.getElem_cons_succ, List.getElem_cons_zero, List.setIfInBounds_toArray, List.set_cons_succ, List.set_cons_zero]
              refine wpAnyH_ready (rs := [12]) (by kernel_rfl) (by simp) ?_
              refine AllReadyH.cons rfl (fun K hK => ?_) AllReadyH.nil
              go_simp
              refine hK.out _ _ (by first | (trivial) | ((try dsimp only); trivial)) (fun hHeld => ?_)
              clear hK K
              try simp only [Act.put, List.getElem_toArray, List.getElem_cons_succ, List.getElem_cons_zero, List.setIfInBounds_toArray, List.set_cons_succ, List.set_cons_zero]
              refine wpAnyH_done (by kernel_rfl) ?_ _
              have KE := Lib.hid (K9.out.push Y9.out HXX.out HOWN.out OP.out BP.out GP.out)
              have GE : Hid (w.grownBy (wP.setCell ⟨w4.heap.size, 4, none⟩ (.slice aP (k + 1) cP)) (some tb)) := grown_own (grown_low G9.out (BP.out.mono (by have := K9.out.ord; omega))) (grown_store wP ⟨w4.heap.size, 4, none⟩ (.slice aP (k + 1) cP)) (fun g hg => by cases hg; have := K9.out.ord; show w.heap.size ≤ w4.heap.size; omega)
              obtain ⟨WE, hWE⟩ : ∃ W, W = wP.setCell ⟨w4.heap.size, 4, none⟩ (.slice aP (k + 1) cP) := ⟨_, rfl⟩
              rw [← hWE] at KE GE ⊢
              clear hWE hx0 hx7 hx8 hx9 hx9a hxP hfP K7 K8 K9 G7 G8 G9 OP BP GP hHeld
              go_wp2
              go_roundw
              case rel => exact ⟨k + 1, cP, n9, c9, aP, a9, outs ++ [Rw.mk la ln lc L qa qn qc R (C : Int)], q, by go_num, by omega, HNX.out, KE.out, GE.out⟩
              case measure => simp [intOf]; omega
            · go_simp
              refine hK.out _ _ (by first | (trivial) | ((try dsimp only); trivial)) (fun hHeld => ?_)
              clear hK K
              try simp only [Act.put, List.getElem_toArray, List.getElem_cons_succ, List.getElem_cons_zero, List.setIfInBounds_toArray, List.set_cons_succ, List.set_cons_zero]
              refine wpAnyH_ready (rs := [1]) (by kernel_rfl) (by simp) ?_
              refine AllReadyH.cons rfl (fun K hK => ?_) AllReadyH.nil
              go_simp
              refine hK.out _ _ (by first | (trivial) | ((try dsimp only); trivial)) (fun hHeld => ?_)
              clear hK K
              try simp only [Act.put, List.getElem_toArray, List.getElem_cons_succ, List.getElem_cons_zero, List.setIfInBounds_toArray, List.set_cons_succ, List.set_cons_zero]
              refine wpAnyH_ready (rs := [10]) (by kernel_rfl) (by simp) ?_
              refine AllReadyH.cons rfl (fun K hK => ?_) AllReadyH.nil
              refine step_append_rules (w0 := w9) (by rfl) (.tmp 18) (.tmp 26) (by rfl) (w4.heap.size + 1) _ k outs (by rfl) (ownsRow_below K9.out.row ((Below.refl w9.heap.size w9).alloc (Nat.le_refl _) _) (Nat.le_refl _)) (some ⟨w9.heap.size, 0, none⟩) 1 1 [⟨la, ln, lc, L, qa, qn, qc, R, (C : Int)⟩] (by rfl) (Rs.newc [⟨la, ln, lc, L, qa, qn, qc, R, (C : Int)⟩] (by intro x hx; simp only [List.mem_singleton] at hx; subst hx; exact Y9.out.1) (by unfold maxLen; simp) rfl rfl rfl) (k + 1) rfl (by omega) Z9.out ((Below.refl _ w9).alloc Z9.out _) ?_
              intro aP cP wP hownP hbP hgP hnP
              have OP := Lib.hid hownP
              have BP := Lib.hid hbP
              have GP := Lib.hid hgP
              have hxP : wP.cell? ⟨w4.heap.size, 4, none⟩ = some (.slice ao k c) := (by rw [BP.out.cell (p := ⟨w4.heap.size, 4, none⟩) (by show w4.heap.size < w4.heap.size + 1; omega)]; exact hx9)
              have hfP : wP.frozen? ⟨w4.heap.size, 4, none⟩ = false := (by have h : wP.heap[w4.heap.size]? = _ := BP.out.block w4.heap.size (by omega); have h2 := K9.out.box; rw [h2] at h; simp [World.frozen?, h])
              clear hownP hbP hgP hnP
              refine hK.out _ _ (by first | (trivial) | ((try dsimp only); trivial)) (fun hHeld => ?_)
              clear hK K
              try simp only [Act.put, List.getElem_toArray, List.getElem_cons_succ, List.getElem_cons_zero, List.setIfInBounds_toArray, List.set_cons_succ, List.set_cons_zero]
              refine wpAnyH_take (i := 11) (v := ?va382) rfl (by kernel_rfl) (by kernel_rfl) (by kernel_rfl) (fun _ _ _ h => h) (Or.inl ⟨by rfl, ?ha382⟩) (by assumption) ?ra382
              case ha382 => intro w hSw; (try dsimp only at hSw); go_simp; try with_reducible rfl
              simp only [Act.put, List.getElem_toArray, List.getElem_cons_succ, List.getElem_cons_zero, List.setIfInBounds_toArray, List.set_cons_succ, List.set_cons_zero]
              refine wpAnyH_ready (rs := [12]) (by kernel_rfl) (by simp) ?_
              refine AllReadyH.cons rfl (fun K hK => ?_) AllReadyH.nil
              go_simp
              refine hK.out _ _ (by first | (trivial) | ((try dsimp only); trivial)) (fun hHeld => ?_)
              clear hK K
              try simp only [Act.put, List.getElem_toArray, List.getElem_cons_succ, List.getElem_cons_zero, List.setIfInBounds_toArray, List.set_cons_succ, List.set_cons_zero]
              refine wpAnyH_done (by kernel_rfl) ?_ _
              have KE := Lib.hid (K9.out.push Y9.out HXX.out HOWN.out OP.out BP.out GP.out)
              have GE : Hid (w.grownBy (wP.setCell ⟨w4.heap.size, 4, none⟩ (.slice aP (k + 1) cP)) (some tb)) := grown_own (grown_low G9.out (BP.out.mono (by have := K9.out.ord; omega))) (grown_store wP ⟨w4.heap.size, 4, none⟩ (.slice aP (k + 1) cP)) (fun g hg => by cases hg; have := K9.out.ord; show w.heap.size ≤ w4.heap.size; omega)
              obtain ⟨WE, hWE⟩ : ∃ W, W = wP.setCell ⟨w4.heap.size, 4, none⟩ (.slice aP (k + 1) cP) := ⟨_, rfl⟩
              rw [← hWE] at KE GE ⊢
              clear hWE hx0 hx7 hx8 hx9 hx9a hxP hfP K7 K8 K9 G7 G8 G9 OP BP GP hHeld
              go_wp2
              go_roundw
              case rel => exact ⟨k + 1, cP, n9, c9, aP, a9, outs ++ [Rw.mk la ln lc L qa qn qc R (C : Int)], q, by go_num, by omega, HNX.out, KE.out, GE.out⟩
              case measure => simp [intOf]; omega
    · obtain rfl : k = N := by omega
      have HFN : Hid (Img.qCosts b = some (⟨[(m : Int), (l : Int), (o : Int), (t : Int)], ruls outs⟩, bb)) := by show _ = _; rw [HQ.out, HI.out.done]; rfl
      have HO := Lib.hid HX.out.ord
      have H0 := Lib.hid HX.out.zero
      have H1 := Lib.hid HX.out.box
      go_wp2_with (first
        | (refine wpList_load_row (by rfl) 26 (.tmp 3) (by rfl) w4.heap.size (by rfl) 26 #[Value.int .u64 (m : Int), Value.int .u64 (l : Int), Value.int .u64 (o : Int), Value.int .u64 (t : Int), Value.slice ao k c] (0, 0) _ H1.out Try.underlying26 (by rfl) info_co5 ?_)
        | (refine wpList_store_g (by rfl) 26 (.tmp 2) (.tmp 30) (by rfl) w.heap.size #[Value.int .u64 (m : Int), Value.int .u64 (l : Int), Value.int .u64 (o : Int), Value.int .u64 (t : Int), Value.slice ao k c] (by rfl) (by rfl) 26 costZero H0.out info_co5 rfl (by simp [Value.oneCell']) ?_; intro we hwe hge hsze; have HWE := Lib.hid hwe; have HGE := Lib.hid hge; clear hwe hge hsze))
      try rw [Exit.noGoto_ret]
      refine bodyPost_ret (results_cell_row rfl _ _ w.heap.size 26 #[Value.int .u64 (m : Int), Value.int .u64 (l : Int), Value.int .u64 (o : Int), Value.int .u64 (t : Int), Value.slice ao k c] (0, 0) _ (by rfl) HWE.out Try.underlying26 (by rfl) info_co5) rfl ?_
      have hgood : Cw.Good wr ⟨(m : Int), (l : Int), (o : Int), (t : Int), ao, k, c, outs⟩ := ⟨Rs.of_owns HX.out.row (fun x hx => (HX.out.els x hx).1) HX.out.len, HM9.out⟩
      have hhigh : Cw.High (w4.heap.size + 1) ⟨(m : Int), (l : Int), (o : Int), (t : Int), ao, k, c, outs⟩ := ⟨High.of_owns HX.out.row, fun x hx => (HX.out.els x hx).2.2⟩
      refine ⟨.inr ⟨⟨(m : Int), (l : Int), (o : Int), (t : Int), ao, k, c, outs⟩, bb, ab, nb, cbp, HFN.out, rfl, hgood.high hhigh (keep_new HGE.out (fun g hg => by cases hg; have := HO.out; omega)), ⟨hhigh.1.mono (by have := HO.out; omega), fun x hx => ⟨(hhigh.2 x hx).1.mono (by have := HO.out; omega), (hhigh.2 x hx).2.mono (by have := HO.out; omega)⟩⟩, HX.out.tk.keep (fun i hi => HGE.out.block i (by have := HO.out; omega) (by have := HO.out; simp; omega))⟩, grown_own HG.out HGE.out (fun g hg => by cases hg; exact Nat.le_refl _)⟩

end Go.Proofs.Ytbfjihbkkcggmaa
