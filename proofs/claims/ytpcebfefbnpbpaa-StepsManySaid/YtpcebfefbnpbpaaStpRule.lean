import Derived.Test.YtpcebfefbnpbpaaStpOnes
import Derived.Test.YtpcebfefbnpbpaaPackI
import Derived.Test.YtpcebfefbnpbpaaPackA
import Derived.Lib.LazyBuf
import Derived.Deep.RegionHeld3
set_option linter.all false
set_option maxRecDepth 100000
set_option maxHeartbeats 12800000
namespace Go.Proofs.Ytpcebfefbnpbpaa
open Go.RowKit

theorem Sl.cutS {k : IntKind} {w : World} {a : Option Addr} {n cap : Nat} {zs : List Int} (h : Sl k w a n cap zs) (j : Nat) (hj : j ≤ n) : Sl k w a j cap (zs.take j) := by
  obtain ⟨h1, h2, h3, h4, h5⟩ := h
  refine ⟨by simp; omega, by omega, h3, fun z hz => h4 z (List.mem_of_mem_take hz), ?_⟩
  rcases h5 with h5 | ⟨b, off, ha, hc⟩
  · exact .inl (by omega)
  · refine .inr ⟨b, off, ha, fun i hi => ?_⟩
    rw [hc i (by omega)]
    simp [hi]
theorem stands17_is (a b : Option Addr) (n m cap cap2 : Nat) (L rest : List Int) (R : List Int) (C : Int) (r : Bool) (w : World) (ha : Sl .i64 w a n cap L) (hb : Sl .i64 w b m cap2 rest) (hr : Stp.stands rest ⟨L, R, C⟩ = r) :
    Calls Try.prog 37 #[.slice a n cap, .slice b m cap2] w fun e w' => e = .returned (.bool r) ∧ ∃ q, w' = w.drewN q := by
  have hnc := ha.2.1
  have hcm := ha.2.2.1
  unfold maxLen at hcm
  have hmc := hb.2.1
  have hcm2 := hb.2.2.1
  unfold maxLen at hcm2
  by_cases hnm : n ≤ m
  · have hle : (n : Int) ≤ (m : Int) := by omega
    have hle2 : decide ((n : Int) ≤ (m : Int)) = true := decide_eq_true hle
    have hle3 : (n : Int) ≤ (cap2 : Int) := by omega
    have hq := sleq_is a b n n cap cap2 L (rest.take n) r w ha (hb.cutS n hnm) (by
      rw [← hr]; unfold Stp.stands
      rw [show (⟨L, R, C⟩ : Rul).L.length = n from ha.1]
      by_cases h : L = rest.take n
      · rw [decide_eq_true h, decide_eq_true h.symm]
      · rw [decide_eq_false h, decide_eq_false (fun e => h e.symm)])
    have HQ := Lib.hid hq
    clear hq ha hb hr
    go_enter Try.func37, Try.ntmps37
    go_wp2_with fail
    refine HQ.out.mono ?_
    rintro e w2 ⟨rfl, hd⟩
    go_wp2
    go_ret
    exact ⟨rfl, hd⟩
  · have hle : ¬ (n : Int) ≤ (m : Int) := by omega
    have hle2 : decide ((n : Int) ≤ (m : Int)) = false := decide_eq_false hle
    have hrf : r = false := by
      rw [← hr]; exact Stp.stands_no (by rw [hb.1]; show m < L.length; rw [ha.1]; omega)
    subst hrf
    clear ha hb hr
    go_enter Try.func37, Try.ntmps37
    go_wp2
    go_ret
    exact ⟨rfl, 0, rfl⟩

theorem clone17_is (a : Option Addr) (n cap : Nat) (zs : List Int) (w : World) (hs : Sl .i64 w a n cap zs) (hn : n ≤ 100000) :
    Calls Try.prog 55 #[.slice a n cap] w fun e w' => ∃ a' c', e = .returned (.slice a' n c') ∧ w'.ownsRow w.heap.size 3 1 (.slice a' n c') n (i64s zs) ∧ Below w.heap.size w w' := by
  have qT : ∀ (w : World) (a : Option Addr) (n c : Nat), (binOp .eql 26 (.slice a n c) (.slice none 0 0)).run Try.prog w = .ok (.bool a.isNone) w := fun w a n c => run_eql_slice_nil w _ _ a n c Try.underlying26
  cases a with
  | none =>
    have h0 : n = 0 := by
      rcases hs.2.2.2.2 with h | ⟨b, off, h, _⟩
      · exact h
      · cases h
    subst h0
    obtain rfl : zs = [] := List.eq_nil_of_length_eq_zero hs.1
    clear hs hn
    go_enter Try.func55, Try.ntmps55
    go_wp2
    go_ret
    exact ⟨none, 0, rfl, World.ownsRow_nil w _ _ _, Below.refl _ _⟩
  | some y =>
    have HS := Lib.hid hs
    have HB0 : ∀ o, Hid (Below w.heap.size w (w.alloc o)) := fun o => Lib.hid ((Below.refl _ w).alloc (Nat.le_refl _) o)
    clear hs
    go_enter Try.func55, Try.ntmps55
    go_wp2_with (at_builtin; refine append_i64 (by rfl) (.tmp 5) (.tmp 6) (by rfl) w.heap.size _ 0 [] (by rfl) (ownsI_lit w [] 0 rfl (Nat.zero_le _)) (some y) n cap zs (by rfl) (HS.out.alloc _) n (by omega) (by omega) (by simp) ?_; intro a' c' w' hown hb hnil; have HO := Lib.hid hown; have HB : Hid (Below w.heap.size w w') := Lib.hid ((HB0 _).out.trans hb); clear hown hb hnil)
    go_ret
    exact ⟨a', c', rfl, by simpa using HO.out, HB.out⟩

/-- an own row of ints, as what a step puts -/
theorem Pw.New.owned {w0 W : World} {B : Nat} (hB : w0.heap.size ≤ B) {e c : Int} {any : Bool} {a : Option Addr} {n cap : Nat} {zs : List Int} (h : W.ownsRow B 3 1 (.slice a n cap) n (i64s zs)) (hw : ∀ z ∈ zs, (Lit.int .i64 z).wf = true) (hl : zs.length = n) (he : (Lit.int .i64 e).wf = true) (h0 : 0 ≤ c) (h1 : c < 18446744073709551616) : (⟨e, a, n, cap, zs, any, c⟩ : Pw).New w0 W := by
  have hs : Sl .i64 W a n cap zs := Sl.of_owns h hw hl
  rcases h.2 with ⟨hv, h2⟩ | ⟨g, cp, cur, hv, hg, hh, _⟩
  · simp only [Value.slice.injEq] at hv
    obtain ⟨rfl, rfl, rfl⟩ := hv
    obtain rfl : zs = [] := List.eq_nil_of_length_eq_zero hl
    exact Pw.New.none he h0 h1
  · simp only [Value.slice.injEq] at hv
    obtain ⟨rfl, _, rfl⟩ := hv
    exact Pw.New.new hs hh (by omega) he h0 h1

theorem byRule_is (x : Rw) (w : World) (hx : x.Good w) (h8 : x.L.length ≤ 8) (h8r : x.R.length ≤ 8) :
    Calls Try.prog 38 #[x.v] w fun e w' => StepIs w w' e (Stp.step x.r) := by
  have hmx : Try.prog.follows .mixedOrders = true := by kernel_rfl
  obtain ⟨la, ln, lc, L, ra, rn, rc, R, C⟩ := x
  obtain ⟨hl, hr, hC0, hC9⟩ := hx
  dsimp only at hl hr hC0 hC9 h8 h8r
  have hln : ln ≤ 8 := by rw [← hl.1]; exact h8
  have hrn : rn ≤ 8 := by rw [← hr.1]; exact h8r
  have HL : Hid (L.length = ln) := hl.1
  have HR := Lib.hid hr
  have HC := Lib.hid (And.intro hC0 hC9)
  clear hl hr hC0 hC9 h8 h8r
  show Calls _ _ #[.agg #[.slice la ln lc, .slice ra rn rc, .int .u64 C]] w _
  go_enter Try.func38, Try.ntmps38
  go_wp2
  obtain ⟨W1, hW1⟩ : ∃ W1, W1 = (w.alloc (.cells #[.slice la ln lc, .slice ra rn rc, .int .u64 C] 41)).alloc (.cells #[.int .i64 0, .slice none 0 0, .bool false, .int .u64 0] 37) := ⟨_, rfl⟩
  have HK0 : Hid (W1.heap[w.heap.size]? = some (.cells #[.slice la ln lc, .slice ra rn rc, .int .u64 C] 41 (0, 0)) ∧ W1.heap[w.heap.size + 1]? = some (.cells #[.int .i64 0, .slice none 0 0, .bool false, .int .u64 0] 37 (0, 0))) := by
    rw [hW1]
    exact ⟨heap_alloc2_old w _ _, heap_alloc2_new w _ _⟩
  have HB1 : Hid (Below w.heap.size w W1.drew ∧ W1.heap.size = w.heap.size + 1 + 1) := by
    rw [hW1]
    exact ⟨below_drawn (((Below.refl _ w).alloc (Nat.le_refl _) _).alloc (by simp) _) ⟨1, rfl⟩, by simp⟩
  have HK1 : Hid (W1.drew.heap[w.heap.size]? = some (.cells #[.slice la ln lc, .slice ra rn rc, .int .u64 C] 41 (0, 0)) ∧ W1.drew.heap[w.heap.size + 1]? = some (.cells #[.int .i64 0, .slice none 0 0, .bool false, .int .u64 0] 37 (0, 0))) := HK0.out
  have HC2 : Hid (∀ W : World, W.heap[w.heap.size]? = some (.cells #[.slice la ln lc, .slice ra rn rc, .int .u64 C] 41 (0, 0)) → W.cell? ⟨w.heap.size, 0, none⟩ = some (.slice la ln lc) ∧ W.cell? ⟨w.heap.size, 1, none⟩ = some (.slice ra rn rc) ∧ W.cell? ⟨w.heap.size, 2, none⟩ = some (.int .u64 C)) := fun W h => by
    refine ⟨?_, ?_, ?_⟩ <;> (rw [cell_of_row W _ _ _ _ _ h]; rfl)
  have HC1 := Lib.hid (HC2.out _ HK1.out.1)
  have HCL := Lib.hid (clone17_is ra rn rc R W1.drew (HR.out.below HB1.out.1 (Nat.le_refl _)) (by omega))
  rw [← hW1]
  clear hW1 HK0
  refine wp_region_held_drew (S := (fun W => W.cell? ⟨w.heap.size, 0, none⟩ = some (.slice la ln lc) ∧ W.cell? ⟨w.heap.size, 1, none⟩ = some (.slice ra rn rc) ∧ W.cell? ⟨w.heap.size, 2, none⟩ = some (.int .u64 C))) (by kernel_rfl) (by first | (first | exact HC1.out | exact HC2.out _ HK2.out.1 | exact HC2.out _ ((setRow_other _ _ _ _ (by omega)).trans HK2.out.1)) | ((try dsimp only); first | exact HC1.out | exact HC2.out _ HK2.out.1 | exact HC2.out _ ((setRow_other _ _ _ _ (by omega)).trans HK2.out.1))) (fun hHeld => ?_)
  refine wpAnyH_take (i := 0) (v := ?vy1) rfl (by kernel_rfl) (by kernel_rfl) (by kernel_rfl) (fun _ _ _ h => h) (Or.inl ⟨by rfl, ?hy1⟩) (by assumption) ?ry1
  case hy1 => intro w hSw; (try dsimp only at hSw); go_simp; try with_reducible rfl
  simp only [Act.put, List.getElem_toArray, List.getElem_cons_succ, List.getElem_cons_zero, List.setIfInBounds_toArray, List.set_cons_succ, List.set_cons_zero]
  refine wpAnyH_take (i := 1) (v := ?vy4) rfl (by kernel_rfl) (by kernel_rfl) (by kernel_rfl) (fun _ _ _ h => h) (Or.inl ⟨by rfl, ?hy4⟩) (by assumption) ?ry4
  case hy4 => intro w hSw; (try dsimp only at hSw); go_simp; try with_reducible rfl
  simp only [Act.put, List.getElem_toArray, List.getElem_cons_succ, List.getElem_cons_zero, List.setIfInBounds_toArray, List.set_cons_succ, List.set_cons_zero]
  refine wpAnyH_take (i := 2) (v := ?vy7) rfl (by kernel_rfl) (by kernel_rfl) (by kernel_rfl) (fun _ _ _ h => h) (Or.inl ⟨by rfl, ?hy7⟩) (by assumption) ?ry7
  case hy7 => intro w hSw; (try dsimp only at hSw); go_simp; try with_reducible rfl
  simp only [Act.put, List.getElem_toArray, List.getElem_cons_succ, List.getElem_cons_zero, List.setIfInBounds_toArray, List.set_cons_succ, List.set_cons_zero]
  refine wpAnyH_take (i := 3) (v := ?vy10) rfl (by kernel_rfl) (by kernel_rfl) (by kernel_rfl) (fun _ _ _ h => h) (Or.inl ⟨by rfl, ?hy10⟩) (by assumption) ?ry10
  case hy10 => intro w hSw; (try dsimp only at hSw); go_simp; try with_reducible rfl
  simp only [Act.put, List.getElem_toArray, List.getElem_cons_succ, List.getElem_cons_zero, List.setIfInBounds_toArray, List.set_cons_succ, List.set_cons_zero]
  refine wpAnyH_take (i := 4) (v := ?vy13) rfl (by kernel_rfl) (by kernel_rfl) (by kernel_rfl) (fun _ _ _ h => h) (Or.inl ⟨by rfl, ?hy13⟩) (by assumption) ?ry13
  case hy13 => intro w hSw; (try dsimp only at hSw); go_simp; try with_reducible rfl
  simp only [Act.put, List.getElem_toArray, List.getElem_cons_succ, List.getElem_cons_zero, List.setIfInBounds_toArray, List.set_cons_succ, List.set_cons_zero]
  refine wpAnyH_take (i := 6) (v := ?vy16) rfl (by kernel_rfl) (by kernel_rfl) (by kernel_rfl) (fun _ _ _ h => h) (Or.inl ⟨by rfl, ?hy16⟩) (by assumption) ?ry16
  case hy16 => intro w hSw; (try dsimp only at hSw); go_simp; try with_reducible rfl
  simp only [Act.put, List.getElem_toArray, List.getElem_cons_succ, List.getElem_cons_zero, List.setIfInBounds_toArray, List.set_cons_succ, List.set_cons_zero]
  refine wpAnyH_take (i := 7) (v := ?vy19) rfl (by kernel_rfl) (by kernel_rfl) (by kernel_rfl) (fun _ _ _ h => h) (Or.inl ⟨by rfl, ?hy19⟩) (by assumption) ?ry19
  case hy19 => intro w hSw; (try dsimp only at hSw); go_simp; try with_reducible rfl
  simp only [Act.put, List.getElem_toArray, List.getElem_cons_succ, List.getElem_cons_zero, List.setIfInBounds_toArray, List.set_cons_succ, List.set_cons_zero]
  refine wpAnyH_ready (rs := [5]) (by kernel_rfl) (by simp) ?_
  refine AllReadyH.cons rfl (fun K hK => ?_) AllReadyH.nil
  go_simp
  refine HCL.out.mono ?_
  rintro e w2 ⟨a', c', rfl, hcl, hb2⟩
  have HCL2 := Lib.hid hcl
  have HB2 := Lib.hid hb2
  have HK2 := Lib.hid (And.intro ((hb2.block _ (lt_of_obj HK1.out.1)).trans HK1.out.1) ((hb2.block _ (lt_of_obj HK1.out.2)).trans HK1.out.2))
  clear hcl hb2
  refine hK.out _ _ (by first | (first | exact HC1.out | exact HC2.out _ HK2.out.1 | exact HC2.out _ ((setRow_other _ _ _ _ (by omega)).trans HK2.out.1)) | ((try dsimp only); first | exact HC1.out | exact HC2.out _ HK2.out.1 | exact HC2.out _ ((setRow_other _ _ _ _ (by omega)).trans HK2.out.1))) (fun hHeld => ?_)
  clear hK K
  try simp only [Act.put, List.getElem_toArray, List.getElem_cons_succ, List.getElem_cons_zero, List.setIfInBounds_toArray, List.set_cons_succ, List.set_cons_zero]
  refine wpAnyH_take (i := 8) (v := ?vy34) rfl (by kernel_rfl) (by kernel_rfl) (by kernel_rfl) (fun _ _ _ h => h) (Or.inl ⟨by rfl, ?hy34⟩) (by assumption) ?ry34
  case hy34 => intro w hSw; (try dsimp only at hSw); go_simp; try with_reducible rfl
  simp only [Act.put, List.getElem_toArray, List.getElem_cons_succ, List.getElem_cons_zero, List.setIfInBounds_toArray, List.set_cons_succ, List.set_cons_zero]
  refine wpAnyH_ready (rs := [9]) (by kernel_rfl) (by simp) ?_
  refine AllReadyH.cons rfl (fun K hK => ?_) AllReadyH.nil
  rw [if_pos (by rfl)]
  refine wp_store_row 37 (.tmp 2) (.tmp 11) (by rfl) (w.heap.size + 1) #[.int .i64 (ln : Int), .slice a' rn c', .bool false, .int .u64 C] (by rfl) (by rfl) 37 #[.int .i64 0, .slice none 0 0, .bool false, .int .u64 0] HK2.out.2 (info_step4 _ _ _ _) rfl (by simp [Value.oneCell']) ?_
  refine hK.out _ _ (by first | (first | exact HC1.out | exact HC2.out _ HK2.out.1 | exact HC2.out _ ((setRow_other _ _ _ _ (by omega)).trans HK2.out.1)) | ((try dsimp only); first | exact HC1.out | exact HC2.out _ HK2.out.1 | exact HC2.out _ ((setRow_other _ _ _ _ (by omega)).trans HK2.out.1))) (fun hHeld => ?_)
  clear hK K
  try simp only [Act.put, List.getElem_toArray, List.getElem_cons_succ, List.getElem_cons_zero, List.setIfInBounds_toArray, List.set_cons_succ, List.set_cons_zero]
  refine wpAnyH_done (by kernel_rfl) ?_ _
  go_wp2
  refine bodyPost_ret (results_cell_row (by rfl) _ _ (w.heap.size + 1) 37 _ (0, 0) _ (by rfl) (setRow_heap _ _ _ _ _ _ HK2.out.2) Try.underlying37 (by rfl) (info_step4 _ _ _ _)) rfl ?_
  have hs1 : W1.drew.heap.size = w.heap.size + 1 + 1 := HB1.out.2
  have hkeep : (w2.setRow (w.heap.size + 1) #[.int .i64 (ln : Int), .slice a' rn c', .bool false, .int .u64 C]).ownsRow W1.drew.heap.size 3 1 (.slice a' rn c') rn (i64s R) := by
    refine HCL2.out.kept (row := some (w.heap.size + 1)) ⟨rfl, rfl, rfl, by simp, fun k _ hk => setRow_other _ _ _ _ (fun e => hk (by rw [e]))⟩ ?_
    cases hq : (Value.slice a' rn c').ownBlock with
    | none => exact .inl rfl
    | some q => exact .inr (by have := (HCL2.out.lt q hq).1; rw [hs1] at this; simp; omega)
  refine ⟨⟨ln, a', rn, c', R, false, C⟩, rfl, Pw.New.owned (by rw [hs1]; omega) hkeep HR.out.2.2.2.1 HR.out.1 (WalkArith.wf_i64 (n := (ln : Int)) ⟨by omega, by omega⟩) HC.out.1 HC.out.2, ?_, ?_⟩
  · show _ = (⟨((L.length : Nat) : Int), R, false, C⟩ : Stp.St)
    rw [HL.out]; rfl
  · exact below_setRow (HB1.out.1.trans (HB2.out.mono (by rw [hs1]; omega))) (by omega) _
end Go.Proofs.Ytpcebfefbnpbpaa
