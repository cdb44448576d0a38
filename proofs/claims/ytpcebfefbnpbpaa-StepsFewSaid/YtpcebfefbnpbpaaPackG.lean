import Derived.Test.YtpcebfefbnpbpaaPackB
import Derived.Test.YtpcebfefbnpbpaaPackF
import Derived.Test.YtpcebfefbnpbpaaSpecRefF
import Derived.Test.YtpcebfefbnpbpaaPackA
set_option linter.all false
set_option maxRecDepth 100000
set_option maxHeartbeats 12800000
namespace Go.Proofs.Ytpcebfefbnpbpaa
section
open Go.RowKit

/-- the eighteen cells of a rule's sides -/
def sidesC (ok : Bool) (r : Rul) : List Int := if ok = true then sideC true r.L ++ sideC true r.R else List.replicate 18 0

theorem goodL_short {l : List Int} (h : goodL l = true) : l.length ≤ 8 := by
  unfold goodL at h
  rw [Bool.and_eq_true, decide_eq_true_iff] at h
  exact h.2
theorem sideC_inj {l l' : List Int} (h8 : l.length ≤ 8) (h8' : l'.length ≤ 8) (h : sideC true l = sideC true l') : l = l' := by
  unfold sideC at h
  rw [if_pos rfl, if_pos rfl] at h
  have h1 := List.append_inj' h rfl
  have h2 : l.length = l'.length := by have := h1.2; simp only [List.cons.injEq, and_true] at this; omega
  exact (List.append_inj h1.1 h2).1
theorem chk_parts (r : Rul) : chk r = (goodL r.L && goodL r.R && decide (r.C < 18446744073709551615) && !decide (r.L = r.R)) := rfl
theorem chk_good {r : Rul} (h : chk r = true) : goodL r.L = true ∧ goodL r.R = true := by
  rw [chk_parts] at h
  simp only [Bool.and_eq_true] at h
  exact ⟨h.1.1.1, h.1.1.2⟩
theorem sidesC_length {ok : Bool} {r : Rul} (h : ok = true → chk r = true) : (sidesC ok r).length = 18 := by
  unfold sidesC
  split
  · rename_i h'
    have hc := chk_good (h h')
    rw [List.length_append, sideC_length _ _ (fun _ => goodL_short hc.1), sideC_length _ _ (fun _ => goodL_short hc.2)]
  · simp
theorem sidesC_wf {ok : Bool} {r : Rul} (hL : WfI r.L) (hR : WfI r.R) (h : ok = true → chk r = true) : WfI (sidesC ok r) := by
  unfold sidesC
  split
  · rename_i h'
    have hc := chk_good (h h')
    intro z hz
    rcases List.mem_append.1 hz with hz | hz
    · exact sideC_wf hL (fun _ => goodL_short hc.1) z hz
    · exact sideC_wf hR (fun _ => goodL_short hc.2) z hz
  · intro z hz; rw [List.eq_of_mem_replicate hz]; decide
theorem Sl.wf {w : World} {a : Option Addr} {n cap : Nat} {zs : List Int} (h : Sl .i64 w a n cap zs) : WfI zs := h.2.2.2.1

theorem built_lit (a0 a1 a2 a3 a4 a5 a6 a7 n b0 b1 b2 b3 b4 b5 b6 b7 m : Int) : Try.prog.built 66 [(0, .agg #[.int .i64 a0, .int .i64 a1, .int .i64 a2, .int .i64 a3, .int .i64 a4, .int .i64 a5, .int .i64 a6, .int .i64 a7, .int .i64 n]), (1, .agg #[.int .i64 b0, .int .i64 b1, .int .i64 b2, .int .i64 b3, .int .i64 b4, .int .i64 b5, .int .i64 b6, .int .i64 b7, .int .i64 m])] = some (#[.int .i64 a0, .int .i64 a1, .int .i64 a2, .int .i64 a3, .int .i64 a4, .int .i64 a5, .int .i64 a6, .int .i64 a7, .int .i64 n, .int .i64 b0, .int .i64 b1, .int .i64 b2, .int .i64 b3, .int .i64 b4, .int .i64 b5, .int .i64 b6, .int .i64 b7, .int .i64 m] : Array Value) := by kernel_rfl
theorem built_sides (l l' : List Int) (h : l.length = 9) (h' : l'.length = 9) : Try.prog.built 66 [(0, .agg (cellsI l)), (1, .agg (cellsI l'))] = some (cellsI (l ++ l')) := by
  match l, h, l', h' with
  | [a0, a1, a2, a3, a4, a5, a6, a7, n], _, [b0, b1, b2, b3, b4, b5, b6, b7, m], _ => exact built_lit a0 a1 a2 a3 a4 a5 a6 a7 n b0 b1 b2 b3 b4 b5 b6 b7 m

theorem wpList_build_sides {ops : Array Oper} {rest : List Oper} {o : Oper} {a : Act} {w : World} {Q : Exit → Act → World → Prop} (hg : o.guard = none) (x y : Operand) (ho : o.op = .build 66 #[(0, x), (1, y)])
    (l l' : List Int) (h9 : l.length = 9) (h9' : l'.length = 9) (hx : a.eval x = .agg (cellsI l)) (hy : a.eval y = .agg (cellsI l'))
    (h : wpList Try.prog ops Q rest (a.put o.dst (.agg (cellsI (l ++ l')))) w) : wpList Try.prog ops Q (o :: rest) a w := by
  have e : Try.prog.built 66 ((#[(0, x), (1, y)] : Array (Nat × Operand)).map fun (i, x) => (i, a.eval x)).toList = some (cellsI (l ++ l')) := by
    simp only [List.map_toArray, List.map_cons, List.map_nil, hx, hy]
    exact built_sides l l' h9 h9'
  refine wpList_build hg 66 _ ho (by rw [e]; rfl) ?_
  rw [e]; exact h

theorem fit_is (x : Rw) (r : Bool) (w : World) (hx : x.Good w) (hr : chk x.r = r) :
    Calls Try.prog 44 #[x.v] w fun e w' => e = .returned (.tuple #[.agg (cellsI (sidesC r x.r)), .bool r]) ∧ Below w.heap.size w w' := by
  obtain ⟨la, ln, lc, L, ra, rn, rc, R, C⟩ := x
  obtain ⟨hl, hrr, h0, h1⟩ := hx
  have HWL := Lib.hid hl.wf
  have HWR := Lib.hid hrr.wf
  have HL := Lib.hid hl
  have HRR := Lib.hid hrr
  have HK := Lib.hid hr
  obtain ⟨g1, hg1⟩ : ∃ g, goodL L = g := ⟨_, rfl⟩
  obtain ⟨g2, hg2⟩ : ∃ g, goodL R = g := ⟨_, rfl⟩
  have HG1 := Lib.hid hg1
  have HG2 := Lib.hid hg2
  have HS1 : Hid ((sideC g1 L).length = 9) := sideC_length _ _ (fun h => goodL_short (by rw [hg1, h]))
  have HS2 : Hid ((sideC g2 R).length = 9) := sideC_length _ _ (fun h => goodL_short (by rw [hg2, h]))
  have HW1 : Hid (WfI (sideC g1 L)) := sideC_wf hl.wf (fun h => goodL_short (by rw [hg1, h]))
  have HW2 : Hid (WfI (sideC g2 R)) := sideC_wf hrr.wf (fun h => goodL_short (by rw [hg2, h]))
  have HI1 : Hid ((Try.prog.info? 64).map (·.size) = some (cellsI (sideC g1 L)).size) := by show _ = _; rw [info_side, cellsI_size, HS1.out]
  have HI2 : Hid ((Try.prog.info? 64).map (·.size) = some (cellsI (sideC g2 R)).size) := by show _ = _; rw [info_side, cellsI_size, HS2.out]
  have HZ1 : Hid ((cellsI (List.replicate 9 0)).size = (cellsI (sideC g1 L)).size) := by show _ = _; rw [cellsI_size, cellsI_size, HS1.out]; rfl
  have HZ2 : Hid ((cellsI (List.replicate 9 0)).size = (cellsI (sideC g2 R)).size) := by show _ = _; rw [cellsI_size, cellsI_size, HS2.out]; rfl
  have HI18 : Hid ((Try.prog.info? 66).map (·.size) = some (cellsI (List.replicate 18 0)).size) := by show _ = _; rw [info_sides]; rfl
  clear hl hrr hr hg1 hg2
  simp only [Rw.v, Rw.l, Rw.rt, Rw.c]
  go_enter Try.func44, Try.ntmps44
  go_wp2_with fail
  refine (fitSide_is la ln lc L g1 _ ((HL.out.alloc _).alloc _) HG1.out).mono ?_
  rintro e w1 ⟨rfl, hb1⟩
  have hsz1 := hb1.size
  have HB1 := Lib.hid hb1
  have HSZ : Hid (w.heap.size + 2 ≤ w1.heap.size) := by
    have h : ((w.alloc (.cells #[.slice la ln lc, .slice ra rn rc, .int .u64 C] 41 (0, 0))).alloc (.cells (cellsI (List.replicate 18 0)) 66 (0, 0))).heap.size = w.heap.size + 2 := by unfold World.alloc; simp
    show _ ≤ _
    rw [← h]; exact hsz1
  clear hb1 hsz1
  go_wp2_with (first
    | (refine wpList_store_g (by rfl) 64 (.tmp 4) (.tmp 12) (by rfl) w1.heap.size (cellsI (sideC g1 L)) (by rfl) (by rfl) 64 (cellsI (List.replicate 9 0)) (heap_alloc_new _ _) HI1.out HZ1.out (cellsI_one _) ?_
       intro w2 hw2 hgr2 hsz2
       have HF3 := Lib.hid hw2
       have hb2 := below_made HB1.out hgr2
       have HS2' : Hid (w2.heap.size = w1.heap.size + 1) := by show _ = _; rw [hsz2]; unfold World.alloc; simp
       have HB2 := Lib.hid hb2
       have HF1 : Hid (w2.heap[w.heap.size]? = some (.cells #[.slice la ln lc, .slice ra rn rc, .int .u64 C] 41 (0, 0))) := (hb2.block _ (lt_two _ _ _)).trans (heap_alloc2_old w _ _)
       have HF2 : Hid (w2.heap[w.heap.size + 1]? = some (.cells (cellsI (List.replicate 18 0)) 66 (0, 0))) := (hb2.block _ (lt_two' _ _ _)).trans (heap_alloc2_new w _ _)
       have hc1 : w2.cell? ⟨w.heap.size, 1, none⟩ = some (.slice ra rn rc) := cell_of_row w2 _ 1 _ _ _ HF1.out
       have HR2 : Hid (Sl .i64 w2 ra rn rc R) := ((HRR.out.alloc _).alloc _).below hb2 (Nat.le_refl _)
       clear hw2 hgr2 hsz2 hb2))
  refine (fitSide_is ra rn rc R g2 _ HR2.out HG2.out).mono ?_
  rintro e w3 ⟨rfl, hb3⟩
  have HB3 := Lib.hid hb3
  have HSZ3 : Hid (w1.heap.size + 1 ≤ w3.heap.size) := by show _ ≤ _; rw [← HS2'.out]; exact hb3.size
  clear hb3 hc1
  have hcase : (g1 = false ∧ r = false) ∨ (g1 = true ∧ g2 = false ∧ r = false) ∨ (g1 = true ∧ g2 = true ∧ Hid (decide (sideC g1 L = sideC g2 R) = true) ∧ r = false) ∨ (g1 = true ∧ g2 = true ∧ Hid (decide (sideC g1 L = sideC g2 R) = false) ∧ C = 18446744073709551615 ∧ r = false) ∨ (g1 = true ∧ g2 = true ∧ Hid (decide (sideC g1 L = sideC g2 R) = false) ∧ (C == 18446744073709551615) = false ∧ r = true) := by
    have hk := HK.out
    change (goodL L && goodL R && decide (C < 18446744073709551615) && !decide (L = R)) = r at hk
    rw [HG1.out, HG2.out] at hk
    have h8 : g1 = true → g2 = true → (sideC g1 L = sideC g2 R ↔ L = R) := fun e1 e2 => by
      subst e1 e2
      exact ⟨sideC_inj (goodL_short HG1.out) (goodL_short HG2.out), fun h => by rw [h]⟩
    cases g1
    · exact .inl ⟨rfl, by rw [← hk]; rfl⟩
    · cases g2
      · exact .inr (.inl ⟨rfl, rfl, by rw [← hk]; rfl⟩)
      · have h8' := h8 rfl rfl
        by_cases he : L = R
        · exact .inr (.inr (.inl ⟨rfl, rfl, decide_eq_true (h8'.2 he), by rw [← hk]; simp [he]⟩))
        · have hd : decide (sideC true L = sideC true R) = false := decide_eq_false (fun h => he (h8'.1 h))
          by_cases hc : C = 18446744073709551615
          · exact .inr (.inr (.inr (.inl ⟨rfl, rfl, hd, hc, by rw [← hk, hc]; rfl⟩)))
          · exact .inr (.inr (.inr (.inr ⟨rfl, rfl, hd, by simpa using hc, by rw [← hk]; simp [he]; omega⟩)))
  rcases hcase with ⟨rfl, rfl⟩ | ⟨rfl, rfl, rfl⟩ | ⟨rfl, rfl, HD, rfl⟩ | ⟨rfl, rfl, HD, rfl, rfl⟩ | ⟨rfl, rfl, HD, hcf, rfl⟩
  · go_wp2_with (first
      | (refine wpList_store_g (by rfl) 64 (.tmp 6) (.tmp 18) (by rfl) w3.heap.size (cellsI (sideC g2 R)) (by rfl) (by rfl) 64 (cellsI (List.replicate 9 0)) (heap_alloc_new _ _) HI2.out HZ2.out (cellsI_one _) ?_
         intro w4 hw4 hgr4 hsz4
         have HF6 := Lib.hid hw4
         have hb4 := below_made HB3.out hgr4
         have HB4 := Lib.hid hb4
         have HF1' : Hid (w4.heap[w.heap.size]? = some (.cells #[.slice la ln lc, .slice ra rn rc, .int .u64 C] 41 (0, 0))) := (hb4.block _ (by rw [HS2'.out]; have := HSZ.out; omega)).trans HF1.out
         have HF2' : Hid (w4.heap[w.heap.size + 1]? = some (.cells (cellsI (List.replicate 18 0)) 66 (0, 0))) := (hb4.block _ (by rw [HS2'.out]; have := HSZ.out; omega)).trans HF2.out
         have HF4' : Hid (w4.heap[w1.heap.size]? = some (.cells (cellsI (sideC false L)) 64 (0, 0))) := (hb4.block _ (by rw [HS2'.out]; omega)).trans HF3.out
         have hc2 : w4.cell? ⟨w.heap.size, 2, none⟩ = some (.int .u64 C) := cell_of_row w4 _ 2 _ _ _ HF1'.out
         have HBE : Hid (Below w.heap.size w w4) := below_twice HB2.out HB4.out
         clear hw4 hgr4 hsz4 hb4)
      | (refine wpList_store_row (by rfl) 66 (.tmp 2) (.tmp 36) (by rfl) (w.heap.size + 1) (cellsI (List.replicate 18 0)) (by rfl) (by rfl) 66 (cellsI (List.replicate 18 0)) HF2'.out HI18.out rfl (cellsI_one _) ?_))
    refine bodyPost_ret (results_cell_row_tmp rfl _ _ (w.heap.size + 1) 66 (cellsI (List.replicate 18 0)) (0, 0) _ (by rfl) (setRow_heap _ _ _ _ _ _ HF2'.out) Try.underlying66 (by rfl) HI18.out) rfl ?_
    exact ⟨rfl, below_setRow HBE.out (Nat.le_succ _) _⟩
  · go_wp2_with (first
      | (refine wpList_store_g (by rfl) 64 (.tmp 6) (.tmp 18) (by rfl) w3.heap.size (cellsI (sideC false R)) (by rfl) (by rfl) 64 (cellsI (List.replicate 9 0)) (heap_alloc_new _ _) HI2.out HZ2.out (cellsI_one _) ?_
         intro w4 hw4 hgr4 hsz4
         have HF6 := Lib.hid hw4
         have hb4 := below_made HB3.out hgr4
         have HB4 := Lib.hid hb4
         have HF1' : Hid (w4.heap[w.heap.size]? = some (.cells #[.slice la ln lc, .slice ra rn rc, .int .u64 C] 41 (0, 0))) := (hb4.block _ (by rw [HS2'.out]; have := HSZ.out; omega)).trans HF1.out
         have HF2' : Hid (w4.heap[w.heap.size + 1]? = some (.cells (cellsI (List.replicate 18 0)) 66 (0, 0))) := (hb4.block _ (by rw [HS2'.out]; have := HSZ.out; omega)).trans HF2.out
         have HF4' : Hid (w4.heap[w1.heap.size]? = some (.cells (cellsI (sideC true L)) 64 (0, 0))) := (hb4.block _ (by rw [HS2'.out]; omega)).trans HF3.out
         have hc2 : w4.cell? ⟨w.heap.size, 2, none⟩ = some (.int .u64 C) := cell_of_row w4 _ 2 _ _ _ HF1'.out
         have HBE : Hid (Below w.heap.size w w4) := below_twice HB2.out HB4.out
         clear hw4 hgr4 hsz4 hb4)
      | (refine wpList_store_row (by rfl) 66 (.tmp 2) (.tmp 36) (by rfl) (w.heap.size + 1) (cellsI (List.replicate 18 0)) (by rfl) (by rfl) 66 (cellsI (List.replicate 18 0)) HF2'.out HI18.out rfl (cellsI_one _) ?_))
    refine bodyPost_ret (results_cell_row_tmp rfl _ _ (w.heap.size + 1) 66 (cellsI (List.replicate 18 0)) (0, 0) _ (by rfl) (setRow_heap _ _ _ _ _ _ HF2'.out) Try.underlying66 (by rfl) HI18.out) rfl ?_
    exact ⟨rfl, below_setRow HBE.out (Nat.le_succ _) _⟩
  · go_wp2_with (first
      | (refine wpList_store_g (by rfl) 64 (.tmp 6) (.tmp 18) (by rfl) w3.heap.size (cellsI (sideC true R)) (by rfl) (by rfl) 64 (cellsI (List.replicate 9 0)) (heap_alloc_new _ _) HI2.out HZ2.out (cellsI_one _) ?_
         intro w4 hw4 hgr4 hsz4
         have HF6 := Lib.hid hw4
         have hb4 := below_made HB3.out hgr4
         have HB4 := Lib.hid hb4
         have HF1' : Hid (w4.heap[w.heap.size]? = some (.cells #[.slice la ln lc, .slice ra rn rc, .int .u64 C] 41 (0, 0))) := (hb4.block _ (by rw [HS2'.out]; have := HSZ.out; omega)).trans HF1.out
         have HF2' : Hid (w4.heap[w.heap.size + 1]? = some (.cells (cellsI (List.replicate 18 0)) 66 (0, 0))) := (hb4.block _ (by rw [HS2'.out]; have := HSZ.out; omega)).trans HF2.out
         have HF4' : Hid (w4.heap[w1.heap.size]? = some (.cells (cellsI (sideC true L)) 64 (0, 0))) := (hb4.block _ (by rw [HS2'.out]; omega)).trans HF3.out
         have hc2 : w4.cell? ⟨w.heap.size, 2, none⟩ = some (.int .u64 C) := cell_of_row w4 _ 2 _ _ _ HF1'.out
         have HBE : Hid (Below w.heap.size w w4) := below_twice HB2.out HB4.out
         clear hw4 hgr4 hsz4 hb4)
      | (refine wpList_load_row_w (by rfl) 64 (.tmp 4) (by rfl) w1.heap.size (by rfl) 64 (cellsI (sideC true L)) (0, 0) _ HF4'.out Try.underlying64 (by rfl) HI1.out ?_)
      | (refine wpList_load_row_w (by rfl) 64 (.tmp 6) (by rfl) w3.heap.size (by rfl) 64 (cellsI (sideC true R)) (0, 0) _ HF6.out Try.underlying64 (by rfl) HI2.out ?_)
      | (refine wpList_eql_side (by rfl) (.tmp 27) (.tmp 28) (by rfl) (sideC true L) (sideC true R) HS1.out HS2.out HW1.out HW2.out _ HD.out (by rfl) (by rfl) ?_)
      | (refine wpList_store_row (by rfl) 66 (.tmp 2) (.tmp 36) (by rfl) (w.heap.size + 1) (cellsI (List.replicate 18 0)) (by rfl) (by rfl) 66 (cellsI (List.replicate 18 0)) HF2'.out HI18.out rfl (cellsI_one _) ?_))
    refine bodyPost_ret (results_cell_row_tmp rfl _ _ (w.heap.size + 1) 66 (cellsI (List.replicate 18 0)) (0, 0) _ (by rfl) (setRow_heap _ _ _ _ _ _ HF2'.out) Try.underlying66 (by rfl) HI18.out) rfl ?_
    exact ⟨rfl, below_setRow HBE.out (Nat.le_succ _) _⟩
  · go_wp2_with (first
      | (refine wpList_store_g (by rfl) 64 (.tmp 6) (.tmp 18) (by rfl) w3.heap.size (cellsI (sideC true R)) (by rfl) (by rfl) 64 (cellsI (List.replicate 9 0)) (heap_alloc_new _ _) HI2.out HZ2.out (cellsI_one _) ?_
         intro w4 hw4 hgr4 hsz4
         have HF6 := Lib.hid hw4
         have hb4 := below_made HB3.out hgr4
         have HB4 := Lib.hid hb4
         have HF1' : Hid (w4.heap[w.heap.size]? = some (.cells #[.slice la ln lc, .slice ra rn rc, .int .u64 18446744073709551615] 41 (0, 0))) := (hb4.block _ (by rw [HS2'.out]; have := HSZ.out; omega)).trans HF1.out
         have HF2' : Hid (w4.heap[w.heap.size + 1]? = some (.cells (cellsI (List.replicate 18 0)) 66 (0, 0))) := (hb4.block _ (by rw [HS2'.out]; have := HSZ.out; omega)).trans HF2.out
         have HF4' : Hid (w4.heap[w1.heap.size]? = some (.cells (cellsI (sideC true L)) 64 (0, 0))) := (hb4.block _ (by rw [HS2'.out]; omega)).trans HF3.out
         have hc2 : w4.cell? ⟨w.heap.size, 2, none⟩ = some (.int .u64 18446744073709551615) := cell_of_row w4 _ 2 _ _ _ HF1'.out
         have HBE : Hid (Below w.heap.size w w4) := below_twice HB2.out HB4.out
         clear hw4 hgr4 hsz4 hb4)
      | (refine wpList_load_row_w (by rfl) 64 (.tmp 4) (by rfl) w1.heap.size (by rfl) 64 (cellsI (sideC true L)) (0, 0) _ HF4'.out Try.underlying64 (by rfl) HI1.out ?_)
      | (refine wpList_load_row_w (by rfl) 64 (.tmp 6) (by rfl) w3.heap.size (by rfl) 64 (cellsI (sideC true R)) (0, 0) _ HF6.out Try.underlying64 (by rfl) HI2.out ?_)
      | (refine wpList_eql_side (by rfl) (.tmp 27) (.tmp 28) (by rfl) (sideC true L) (sideC true R) HS1.out HS2.out HW1.out HW2.out _ HD.out (by rfl) (by rfl) ?_)
      | (refine wpList_store_row (by rfl) 66 (.tmp 2) (.tmp 36) (by rfl) (w.heap.size + 1) (cellsI (List.replicate 18 0)) (by rfl) (by rfl) 66 (cellsI (List.replicate 18 0)) HF2'.out HI18.out rfl (cellsI_one _) ?_))
    refine bodyPost_ret (results_cell_row_tmp rfl _ _ (w.heap.size + 1) 66 (cellsI (List.replicate 18 0)) (0, 0) _ (by rfl) (setRow_heap _ _ _ _ _ _ HF2'.out) Try.underlying66 (by rfl) HI18.out) rfl ?_
    exact ⟨rfl, below_setRow HBE.out (Nat.le_succ _) _⟩
  · have HIE : Hid ((Try.prog.info? 66).map (·.size) = some (cellsI (sideC true L ++ sideC true R)).size) := by show _ = _; rw [info_sides, cellsI_size, List.length_append, HS1.out, HS2.out]
    have HZE : Hid ((cellsI (List.replicate 18 0)).size = (cellsI (sideC true L ++ sideC true R)).size) := by show _ = _; rw [cellsI_size, cellsI_size, List.length_append, HS1.out, HS2.out]; rfl
    go_wp2_with (first
      | (refine wpList_store_g (by rfl) 64 (.tmp 6) (.tmp 18) (by rfl) w3.heap.size (cellsI (sideC true R)) (by rfl) (by rfl) 64 (cellsI (List.replicate 9 0)) (heap_alloc_new _ _) HI2.out HZ2.out (cellsI_one _) ?_
         intro w4 hw4 hgr4 hsz4
         have HF6 := Lib.hid hw4
         have hb4 := below_made HB3.out hgr4
         have HB4 := Lib.hid hb4
         have HF1' : Hid (w4.heap[w.heap.size]? = some (.cells #[.slice la ln lc, .slice ra rn rc, .int .u64 C] 41 (0, 0))) := (hb4.block _ (by rw [HS2'.out]; have := HSZ.out; omega)).trans HF1.out
         have HF2' : Hid (w4.heap[w.heap.size + 1]? = some (.cells (cellsI (List.replicate 18 0)) 66 (0, 0))) := (hb4.block _ (by rw [HS2'.out]; have := HSZ.out; omega)).trans HF2.out
         have HF4' : Hid (w4.heap[w1.heap.size]? = some (.cells (cellsI (sideC true L)) 64 (0, 0))) := (hb4.block _ (by rw [HS2'.out]; omega)).trans HF3.out
         have hc2 : w4.cell? ⟨w.heap.size, 2, none⟩ = some (.int .u64 C) := cell_of_row w4 _ 2 _ _ _ HF1'.out
         have HBE : Hid (Below w.heap.size w w4) := below_twice HB2.out HB4.out
         clear hw4 hgr4 hsz4 hb4)
      | (refine wpList_load_row_w (by rfl) 64 (.tmp 4) (by rfl) w1.heap.size (by rfl) 64 (cellsI (sideC true L)) (0, 0) _ HF4'.out Try.underlying64 (by rfl) HI1.out ?_)
      | (refine wpList_load_row_w (by rfl) 64 (.tmp 6) (by rfl) w3.heap.size (by rfl) 64 (cellsI (sideC true R)) (0, 0) _ HF6.out Try.underlying64 (by rfl) HI2.out ?_)
      | (refine wpList_eql_side (by rfl) (.tmp 27) (.tmp 28) (by rfl) (sideC true L) (sideC true R) HS1.out HS2.out HW1.out HW2.out _ HD.out (by rfl) (by rfl) ?_)
      | (refine wpList_build_sides (by rfl) (.tmp 37) (.tmp 38) (by rfl) (sideC true L) (sideC true R) HS1.out HS2.out (by rfl) (by rfl) ?_)
      | (refine wpList_store_row (by rfl) 66 (.tmp 2) (.tmp 39) (by rfl) (w.heap.size + 1) (cellsI (sideC true L ++ sideC true R)) (by rfl) (by rfl) 66 (cellsI (List.replicate 18 0)) HF2'.out HIE.out HZE.out (cellsI_one _) ?_))
    refine bodyPost_ret (results_cell_row_tmp rfl _ _ (w.heap.size + 1) 66 (cellsI (sideC true L ++ sideC true R)) (0, 0) _ (by rfl) (setRow_heap _ _ _ _ _ _ HF2'.out) Try.underlying66 (by rfl) HIE.out) rfl ?_
    exact ⟨rfl, below_setRow HBE.out (Nat.le_succ _) _⟩

end
section
open Go.RowKit

theorem check_is (x : Rw) (r : Bool) (w : World) (hx : x.Good w) (hr : chk x.r = r) :
    Calls Try.prog 42 #[x.v] w fun e w' => e = .returned (.bool r) ∧ Below w.heap.size w w' := by
  have HX := Lib.hid hx
  have HR := Lib.hid hr
  have hsz : (sidesC r x.r).length = 18 := sidesC_length (fun h => by rw [hr, h])
  have HI : Hid ((Try.prog.info? 66).map (·.size) = some (cellsI (sidesC r x.r)).size) := by show _ = _; rw [info_sides, cellsI_size, hsz]
  have HZ : Hid ((cellsI (List.replicate 18 0)).size = (cellsI (sidesC r x.r)).size) := by show _ = _; rw [cellsI_size, cellsI_size, hsz]; rfl
  have HB : ∀ o, Hid (Below w.heap.size w (w.alloc o)) := fun o => (Below.refl _ w).alloc (Nat.le_refl _) o
  clear hx hr hsz
  simp only [Rw.v] at *
  go_enter Try.func42, Try.ntmps42
  go_wp2_with fail
  refine (fit_is x r _ (HX.out.alloc _) HR.out).mono ?_
  rintro e w1 ⟨rfl, hb1⟩
  have HB1 : Hid (Below w.heap.size w w1) := (HB _).out.trans (hb1.mono (by simp))
  clear hb1
  go_wp2_with (refine wpList_store_g (by rfl) 66 (.tmp 3) (.tmp 8) (by rfl) w1.heap.size (cellsI (sidesC r x.r)) (by rfl) (by rfl) 66 (cellsI (List.replicate 18 0)) (heap_alloc_new _ _) HI.out HZ.out (cellsI_one _) ?_
               intro w2 hw2 hgr2 hsz2
               have HB2 : Hid (Below w.heap.size w w2) := (HB1.out.alloc HB1.out.size _).grown hgr2 (by have := HB1.out.size; simp; omega) (fun k hk => by cases hk; exact HB1.out.size)
               clear hw2 hgr2 hsz2)
  go_ret
  exact ⟨rfl, HB2.out⟩

end
section
open Go.RowKit

theorem stands_is (a : Option Addr) (n cap : Nat) (l : List Int) (r : Bool) (w : World) (hs : Sl .i64 w a n cap l) (hr : decide (l = [95]) = r) :
    Calls Try.prog 58 #[.slice a n cap] w fun e w' => e = .returned (.bool r) ∧ w = w' := by
  have hnc := hs.2.1
  have hcm := hs.2.2.1
  unfold maxLen at hcm
  have HS := Lib.hid hs
  have HL := Lib.hid hs.1
  have HR := Lib.hid hr
  clear hs hr
  by_cases h1 : n = 1
  · subst h1
    obtain ⟨b1, o1, rfl, hb1, hc1⟩ := HS.out.at (by omega)
    have hx1 := hc1 0 (by omega)
    obtain ⟨x, hx⟩ : ∃ x, l = [x] := by
      match l, HL.out with
      | [x], _ => exact ⟨x, rfl⟩
    subst hx
    have hx2 : w.cell? ⟨b1, o1, none⟩ = some (.int .i64 x) := hx1
    have hxr : (x == 95) = r := by
      rw [← HR.out]
      by_cases h : x = 95
      · subst h; rfl
      · simp [h]
    clear hc1 hb1 hx1
    go_enter Try.func58, Try.ntmps58
    go_wp2
    go_ret
    exact ⟨by rw [← hxr]; rfl, rfl⟩
  · have e1 : ((n : Int) == 1) = false := by simp; omega
    obtain rfl : r = false := by
      rw [← HR.out]
      have : l ≠ [95] := fun h => h1 (by rw [← HL.out, h]; rfl)
      simp [this]
    go_enter Try.func58, Try.ntmps58
    go_wp2
    go_ret
    exact ⟨rfl, rfl⟩

theorem plain_is (a : Option Addr) (n cap : Nat) (l : List Int) (r : Bool) (w : World) (hs : Sl .i64 w a n cap l) (hr : Spec.plain l = r) :
    Calls Try.prog 43 #[.slice a n cap] w fun e w' => e = .returned (.bool r) ∧ w = w' := by
  have hnc := hs.2.1
  have hcm := hs.2.2.1
  unfold maxLen at hcm
  have HS := Lib.hid hs
  have HL := Lib.hid hs.1
  rw [plain_all] at hr
  have HR := Lib.hid hr
  clear hs hr
  go_enter Try.func43, Try.ntmps43
  go_wp2
  go_loopw [7] (fun ix wr => ∃ i : Nat, i ≤ n ∧ ix = .int .i64 (i : Int) ∧ Hid (∀ z ∈ l.take i, plainB z = true) ∧ wr = w) (fun ix _ => n - (intOf ix).toNat)
  case atStart => exact ⟨0, Nat.zero_le _, rfl, by first | trivial | (intro z hz; simp at hz), rfl⟩
  case round =>
    obtain ⟨i, hi, rfl, HT, rfl⟩ := hrel
    by_cases hlt : i < n
    · have hlti : (i : Int) < (n : Int) := by omega
      obtain ⟨b1, o1, rfl, hb1, hc1⟩ := HS.out.at (by omega)
      obtain ⟨x, hx⟩ : ∃ x, x = l.getD i 0 := ⟨_, rfl⟩
      have hx1 := hc1 i hlt
      rw [← hx] at hx1
      have hxm : x ∈ l := by rw [hx, List.getD_eq_getElem?_getD, List.getElem?_eq_getElem (by rw [HL.out]; exact hlt), Option.getD_some]; exact List.getElem_mem _
      have HXM := Lib.hid hxm
      have HX := Lib.hid hx
      have hbad : plainB x = false → r = false := fun h => by
        rw [← HR.out, Bool.and_eq_false_iff]; left
        rw [List.all_eq_false]; exact ⟨x, HXM.out, by rw [h]; decide⟩
      have HBAD := Lib.hid hbad
      clear hc1 hx hxm hb1 hbad
      by_cases h10 : x = 10
      · have e10 : (x == 10) = true := by simpa using h10
        obtain rfl := HBAD.out (by rw [h10]; decide)
        clear h10
        go_wp2
        go_ret
        exact ⟨rfl, rfl⟩
      · have e10 : (x == 10) = false := by simpa using h10
        by_cases h32 : x = 32
        · have e32 : (x == 32) = true := by simpa using h32
          obtain rfl := HBAD.out (by rw [h32]; decide)
          clear h10 h32
          go_wp2
          go_ret
          exact ⟨rfl, rfl⟩
        · have e32 : (x == 32) = false := by simpa using h32
          by_cases h9 : x = 9
          · have e9 : (x == 9) = true := by simpa using h9
            obtain rfl := HBAD.out (by rw [h9]; decide)
            clear h9 h10 h32
            go_wp2
            go_ret
            exact ⟨rfl, rfl⟩
          · have e9 : (x == 9) = false := by simpa using h9
            have HP : Hid (plainB x = true) := by show _ = _; simp [plainB, h9, h10, h32]
            clear h9 h10 h32
            go_wp2
            go_roundw
            case rel =>
              refine ⟨i + 1, by omega, by go_num, ?_, by first | rfl | trivial⟩
              intro z hz
              rw [List.take_succ_eq_append_getElem (by rw [HL.out]; exact hlt)] at hz
              rcases List.mem_append.1 hz with hz | hz
              · exact HT.out z hz
              · rw [List.mem_singleton.1 hz]
                have h := HX.out
                rw [List.getD_eq_getElem?_getD, List.getElem?_eq_getElem (by rw [HL.out]; exact hlt), Option.getD_some] at h
                rw [← h]; exact HP.out
            case measure => simp [intOf]; omega
    · obtain rfl : i = n := by omega
      have hall : l.all plainB = true := by
        rw [List.all_eq_true]
        intro z hz
        exact HT.out z (by rw [List.take_of_length_le (by rw [HL.out]; exact Nat.le_refl _)]; exact hz)
      obtain ⟨q, hq⟩ : ∃ q, decide (l = [95]) = q := ⟨_, rfl⟩
      obtain rfl : (!q) = r := by rw [← HR.out, hall, hq]; rfl
      have HQ := Lib.hid hq
      clear hall hq
      go_wp2_with fail
      refine (stands_is a i cap l q wr HS.out HQ.out).mono ?_
      rintro e w1 ⟨rfl, rfl⟩
      go_wp2
      go_ret
      exact ⟨rfl, rfl⟩

theorem fit7_is (x : Rw) (r : Bool) (w : World) (hx : x.Good w) (hr : Spec.fit x.r = r) :
    Calls Try.prog 31 #[x.v] w fun e w' => e = .returned (.bool r) ∧ Below w.heap.size w w' := by
  obtain ⟨la, ln, lc, L, ra, rn, rc, R, C⟩ := x
  have HX := Lib.hid hx
  obtain ⟨ck, hck⟩ : ∃ b, chk ⟨L, R, C⟩ = b := ⟨_, rfl⟩
  obtain ⟨pl, hpl⟩ : ∃ b, Spec.plain L = b := ⟨_, rfl⟩
  obtain ⟨pr, hpr⟩ : ∃ b, Spec.plain R = b := ⟨_, rfl⟩
  have hrr : (ck && pl && pr) = r := by
    rw [← hr, ← hck, ← hpl, ← hpr]; rfl
  have HCK := Lib.hid hck
  have HPL := Lib.hid hpl
  have HPR := Lib.hid hpr
  have HRR := Lib.hid hrr
  have HB : ∀ o, Hid (Below w.heap.size w (w.alloc o)) := fun o => (Below.refl _ w).alloc (Nat.le_refl _) o
  clear hx hck hpl hpr hrr hr
  simp only [Rw.v, Rw.l, Rw.rt, Rw.c]
  go_enter Try.func31, Try.ntmps31
  go_wp2_with fail
  refine (check_is ⟨la, ln, lc, L, ra, rn, rc, R, C⟩ ck _ (HX.out.alloc _) HCK.out).mono ?_
  rintro e w1 ⟨rfl, hb1⟩
  have hf1 : w1.heap[w.heap.size]? = some (.cells #[.slice la ln lc, .slice ra rn rc, .int .u64 C] 41 (0, 0)) := by
    rw [hb1.block _ (by unfold World.alloc; simp)]
    unfold World.alloc; simp
  have hc0 : w1.cell? ⟨w.heap.size, 0, none⟩ = some (.slice la ln lc) := by simp [World.cell?, hf1]
  have hc1 : w1.cell? ⟨w.heap.size, 1, none⟩ = some (.slice ra rn rc) := by simp [World.cell?, hf1]
  have HB1 : Hid (Below w.heap.size w w1) := (HB _).out.trans (hb1.mono (by simp))
  have HG1 : Hid (Rw.Good w1 ⟨la, ln, lc, L, ra, rn, rc, R, C⟩) := (HX.out.alloc _).below hb1 (Nat.le_refl _)
  clear hb1 hf1
  cases ck
  · go_wp2
    go_ret
    exact ⟨by rw [← HRR.out]; rfl, HB1.out⟩
  · go_wp2_with fail
    refine (plain_is la ln lc L pl w1 HG1.out.1 HPL.out).mono ?_
    rintro e w2 ⟨rfl, rfl⟩
    cases pl
    · go_wp2
      go_ret
      exact ⟨by rw [← HRR.out]; rfl, HB1.out⟩
    · go_wp2_with fail
      refine (plain_is ra rn rc R pr w1 HG1.out.2.1 HPR.out).mono ?_
      rintro e w2 ⟨rfl, rfl⟩
      go_wp2
      go_ret
      exact ⟨by rw [← HRR.out]; simp, HB1.out⟩

end
end Go.Proofs.Ytpcebfefbnpbpaa
