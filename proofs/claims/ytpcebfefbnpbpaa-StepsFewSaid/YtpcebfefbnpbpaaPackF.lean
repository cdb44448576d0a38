import Derived.DeepKeys4
import Derived.Maps.Keyed
import Derived.Test.YtpcebfefbnpbpaaPackB
import Derived.Test.YtpcebfefbnpbpaaChecked
import Derived.Test.YtpcebfefbnpbpaaPackA
import Derived.WalkKit
import Derived.WalkLawsBesides
import Derived.Below
import Derived.ProofKit
import Derived.Outline
import Derived.BigQuiet
import Derived.BigGuardPart
import Derived.Deep.QuietTactic
import Derived.Test.YtpcebfefbnpbpaaPackE
import Derived.Laws.Rows
import Derived.Laws.CopyOwn
import Derived.Laws.StructEq
import Derived.WalkArith
set_option linter.all false
set_option maxRecDepth 100000
set_option maxHeartbeats 12800000
namespace Go.Proofs.Ytpcebfefbnpbpaa
section
open Go.RowKit Go.Maps Go.WideMaps

theorem cells_int : Try.prog.cellsOf 3 = 1 := by kernel_rfl
theorem cells_8 : Try.prog.cellsOf 62 = 8 := by kernel_rfl
theorem cells_side : Try.prog.cellsOf 64 = 9 := by kernel_rfl
theorem cells_sides : Try.prog.cellsOf 66 = 18 := by kernel_rfl
theorem keyType_sides : Try.prog.keyType 66 = true := by kernel_rfl

theorem keyLits_sides (d : Nat) (a0 a1 a2 a3 a4 a5 a6 a7 n b0 b1 b2 b3 b4 b5 b6 b7 m : Int) (ha0 : (Lit.int .i64 a0).wf = true) (ha1 : (Lit.int .i64 a1).wf = true) (ha2 : (Lit.int .i64 a2).wf = true) (ha3 : (Lit.int .i64 a3).wf = true) (ha4 : (Lit.int .i64 a4).wf = true) (ha5 : (Lit.int .i64 a5).wf = true) (ha6 : (Lit.int .i64 a6).wf = true) (ha7 : (Lit.int .i64 a7).wf = true) (hn : (Lit.int .i64 n).wf = true) (hb0 : (Lit.int .i64 b0).wf = true) (hb1 : (Lit.int .i64 b1).wf = true) (hb2 : (Lit.int .i64 b2).wf = true) (hb3 : (Lit.int .i64 b3).wf = true) (hb4 : (Lit.int .i64 b4).wf = true) (hb5 : (Lit.int .i64 b5).wf = true) (hb6 : (Lit.int .i64 b6).wf = true) (hb7 : (Lit.int .i64 b7).wf = true) (hm : (Lit.int .i64 m).wf = true) :
    Try.prog.keyLits (d + 4) 66 ([.int .i64 a0, .int .i64 a1, .int .i64 a2, .int .i64 a3, .int .i64 a4, .int .i64 a5, .int .i64 a6, .int .i64 a7, .int .i64 n, .int .i64 b0, .int .i64 b1, .int .i64 b2, .int .i64 b3, .int .i64 b4, .int .i64 b5, .int .i64 b6, .int .i64 b7, .int .i64 m] : List Value) = some ([.int .i64 a0, .int .i64 a1, .int .i64 a2, .int .i64 a3, .int .i64 a4, .int .i64 a5, .int .i64 a6, .int .i64 a7, .int .i64 n, .int .i64 b0, .int .i64 b1, .int .i64 b2, .int .i64 b3, .int .i64 b4, .int .i64 b5, .int .i64 b6, .int .i64 b7, .int .i64 m] : List Lit) := by
  have hr : List.range 8 = [0, 1, 2, 3, 4, 5, 6, 7] := rfl
  simp [Program.keyLits, Try.underlying66, Try.underlying64, Try.underlying62, Try.underlying3, cells_sides, cells_side, cells_8, cells_int, hr, List.mapM_cons, ha0, ha1, ha2, ha3, ha4, ha5, ha6, ha7, hn, hb0, hb1, hb2, hb3, hb4, hb5, hb6, hb7, hm]
  rw [if_pos (by decide), if_pos (by decide)]
  first | rfl | simp

theorem keyOf_sides (a0 a1 a2 a3 a4 a5 a6 a7 n b0 b1 b2 b3 b4 b5 b6 b7 m : Int) (ha0 : (Lit.int .i64 a0).wf = true) (ha1 : (Lit.int .i64 a1).wf = true) (ha2 : (Lit.int .i64 a2).wf = true) (ha3 : (Lit.int .i64 a3).wf = true) (ha4 : (Lit.int .i64 a4).wf = true) (ha5 : (Lit.int .i64 a5).wf = true) (ha6 : (Lit.int .i64 a6).wf = true) (ha7 : (Lit.int .i64 a7).wf = true) (hn : (Lit.int .i64 n).wf = true) (hb0 : (Lit.int .i64 b0).wf = true) (hb1 : (Lit.int .i64 b1).wf = true) (hb2 : (Lit.int .i64 b2).wf = true) (hb3 : (Lit.int .i64 b3).wf = true) (hb4 : (Lit.int .i64 b4).wf = true) (hb5 : (Lit.int .i64 b5).wf = true) (hb6 : (Lit.int .i64 b6).wf = true) (hb7 : (Lit.int .i64 b7).wf = true) (hm : (Lit.int .i64 m).wf = true) :
    keyOf Try.prog 66 (.agg #[.int .i64 a0, .int .i64 a1, .int .i64 a2, .int .i64 a3, .int .i64 a4, .int .i64 a5, .int .i64 a6, .int .i64 a7, .int .i64 n, .int .i64 b0, .int .i64 b1, .int .i64 b2, .int .i64 b3, .int .i64 b4, .int .i64 b5, .int .i64 b6, .int .i64 b7, .int .i64 m]) = some (.string (keyBytes [.int .i64 a0, .int .i64 a1, .int .i64 a2, .int .i64 a3, .int .i64 a4, .int .i64 a5, .int .i64 a6, .int .i64 a7, .int .i64 n, .int .i64 b0, .int .i64 b1, .int .i64 b2, .int .i64 b3, .int .i64 b4, .int .i64 b5, .int .i64 b6, .int .i64 b7, .int .i64 m])) := by
  have hk := keyLits_sides (Try.prog.types.size - 3) a0 a1 a2 a3 a4 a5 a6 a7 n b0 b1 b2 b3 b4 b5 b6 b7 m ha0 ha1 ha2 ha3 ha4 ha5 ha6 ha7 hn hb0 hb1 hb2 hb3 hb4 hb5 hb6 hb7 hm
  have hs : Try.prog.types.size - 3 + 4 = Try.prog.types.size + 1 := by
    have : 3 ≤ Try.prog.types.size := of_decide_eq_true (by kernel_rfl)
    omega
  rw [hs] at hk
  unfold keyOf
  simp only [Try.underlying66]
  rw [if_pos (by simp [keyType_sides, Value.formed, Try.underlying66, cells_sides])]
  rw [show (Value.agg #[.int .i64 a0, .int .i64 a1, .int .i64 a2, .int .i64 a3, .int .i64 a4, .int .i64 a5, .int .i64 a6, .int .i64 a7, .int .i64 n, .int .i64 b0, .int .i64 b1, .int .i64 b2, .int .i64 b3, .int .i64 b4, .int .i64 b5, .int .i64 b6, .int .i64 b7, .int .i64 m]).cells.toList = ([.int .i64 a0, .int .i64 a1, .int .i64 a2, .int .i64 a3, .int .i64 a4, .int .i64 a5, .int .i64 a6, .int .i64 a7, .int .i64 n, .int .i64 b0, .int .i64 b1, .int .i64 b2, .int .i64 b3, .int .i64 b4, .int .i64 b5, .int .i64 b6, .int .i64 b7, .int .i64 m] : List Value) from rfl, hk]
  rfl

end
section
open Go.RowKit

theorem good_any (n : Int) (w : World) (h0 : -9223372036854775808 ≤ n) (h1 : n ≤ 9223372036854775807) :
    Calls Try.prog 65 #[.int .i64 n] w fun e w' => e = .returned (.bool (Utf.good n)) ∧ w = w' := by
  by_cases a : n < 0
  · have hg : Utf.good n = false := by simp [Utf.good]; omega
    rw [hg]
    go_enter Try.func65, Try.ntmps65
    go_wp2
    go_ret
    exact ⟨rfl, rfl⟩
  · by_cases b : 1114111 < n
    · have hg : Utf.good n = false := by simp [Utf.good]; omega
      rw [hg]
      go_enter Try.func65, Try.ntmps65
      go_wp2
      go_ret
      exact ⟨rfl, rfl⟩
    · by_cases c : 55296 ≤ n
      · by_cases d : n ≤ 57343
        · have hg : Utf.good n = false := by simp [Utf.good]; omega
          rw [hg]
          go_enter Try.func65, Try.ntmps65
          go_wp2
          go_ret
          exact ⟨rfl, rfl⟩
        · have hg : Utf.good n = true := by simp [Utf.good]; omega
          rw [hg]
          go_enter Try.func65, Try.ntmps65
          go_wp2
          go_ret
          exact ⟨rfl, rfl⟩
      · have hg : Utf.good n = true := by simp [Utf.good]; omega
        rw [hg]
        go_enter Try.func65, Try.ntmps65
        go_wp2
        go_ret
        exact ⟨rfl, rfl⟩

end
section
open Go.RowKit

/-- the nine cells of a side -/
def sideC (ok : Bool) (l : List Int) : List Int := if ok = true then l ++ List.replicate (8 - l.length) 0 ++ [(l.length : Int)] else List.replicate 9 0
def sideV (ok : Bool) (l : List Int) : Value := .agg ((sideC ok l).map (Value.int .i64)).toArray
/-- .. of which the first j stand -/
def partC (l : List Int) (j : Nat) (n : Int) : List Int := l.take j ++ List.replicate (8 - j) 0 ++ [n]
def cellsI (l : List Int) : Array Value := (l.map (Value.int .i64)).toArray

theorem partC_set {l : List Int} {j : Nat} (hj : j < l.length) (h8 : j < 8) (n : Int) : (partC l j n).set j (l.getD j 0) = partC l (j + 1) n := by
  have e1 : 8 - j = (8 - (j + 1)) + 1 := by omega
  have e2 : (l.take j).length = j := by simp; omega
  have e3 : l.take (j + 1) = l.take j ++ [l.getD j 0] := by rw [List.take_succ_eq_append_getElem hj]; simp [hj]
  unfold partC
  rw [e1, List.replicate_succ, List.append_assoc, List.set_append_right _ _ (by omega), e2, Nat.sub_self, e3]
  simp only [List.cons_append, List.set_cons_zero, List.append_assoc, List.nil_append]
theorem partC_length (l : List Int) (j : Nat) (n : Int) (hj : j ≤ l.length) (h8 : j ≤ 8) : (partC l j n).length = 9 := by
  unfold partC; simp; omega
theorem partC_all {l : List Int} (h8 : l.length ≤ 8) : partC l l.length (l.length : Int) = sideC true l := by
  unfold partC sideC; simp
theorem cellsI_size (l : List Int) : (cellsI l).size = l.length := by simp [cellsI]
theorem cellsI_one (l : List Int) : (cellsI l).all (·.oneCell') = true := by
  rw [Array.all_eq_true_iff_forall_mem]
  intro v hv
  simp only [cellsI, List.mem_toArray, List.mem_map] at hv
  obtain ⟨z, _, rfl⟩ := hv
  rfl
theorem sideC_length (ok : Bool) (l : List Int) (h : ok = true → l.length ≤ 8) : (sideC ok l).length = 9 := by
  unfold sideC
  split
  · rename_i h'; have := h h'; simp; omega
  · simp
theorem cellsI_set (l : List Int) (j : Nat) (z : Int) : (cellsI l).setIfInBounds j (.int .i64 z) = cellsI (l.set j z) := by
  simp [cellsI, List.map_set]

theorem info_side : (Try.prog.info? 64).map (·.size) = some 9 := by kernel_rfl
theorem info_sides : (Try.prog.info? 66).map (·.size) = some 18 := by kernel_rfl

theorem fitSide_is (a : Option Addr) (n cap : Nat) (L : List Int) (r : Bool) (w : World) (hs : Sl .i64 w a n cap L) (hr : goodL L = r) :
    Calls Try.prog 59 #[.slice a n cap] w fun e w' => e = .returned (.tuple #[sideV r L, .bool r]) ∧ Below w.heap.size w w' := by
  have hnc := hs.2.1
  have hcm := hs.2.2.1
  unfold maxLen at hcm
  have HS := Lib.hid hs
  have HL := Lib.hid hs.1
  have HI : Hid ((Try.prog.info? 64).map (·.size) = some (cellsI (List.replicate 9 0)).size) := by rw [info_side]; rfl
  have HR := Lib.hid hr
  have HB : ∀ o, Hid (Below w.heap.size w (w.alloc o)) := fun o => (Below.refl _ w).alloc (Nat.le_refl _) o
  have HN : Hid (∀ o, (w.alloc o).heap[w.heap.size]? = some o) := fun o => heap_alloc_new w o
  clear hs hr
  by_cases h8 : 8 < n
  · have h8i : (8 : Int) < (n : Int) := by omega
    have hr0 : r = false := by
      rw [← HR.out]; unfold goodL
      rw [show decide (L.length ≤ 8) = false from by rw [decide_eq_false_iff_not, HL.out]; omega, Bool.and_false]
    subst hr0
    go_enter Try.func59, Try.ntmps59
    go_wp2
    refine bodyPost_ret (results_cell_row_tmp rfl _ _ w.heap.size 64 (cellsI (List.replicate 9 0)) (0, 0) _ (by rfl) (HN.out _) Try.underlying64 (by rfl) HI.out) rfl ?_
    exact ⟨rfl, (HB _).out⟩
  · have h8i : ¬ (8 : Int) < (n : Int) := by omega
    go_enter Try.func59, Try.ntmps59
    go_wp2
    go_loopw [16] (fun ix wr => ∃ j : Nat, j ≤ n ∧ ix = .int .i64 (j : Int) ∧ Hid (∀ z ∈ L.take j, Utf.good z = true) ∧ Hid (wr.heap[w.heap.size]? = some (.cells (cellsI (List.replicate 9 0)) 64 (0, 0))) ∧ Hid (wr.heap[w.heap.size + 1]? = some (.cells (cellsI (partC L j n)) 64 (0, 0))) ∧ Hid (Below w.heap.size w wr)) (fun ix _ => n - (intOf ix).toNat)
    case atStart =>
      refine ⟨0, Nat.zero_le _, rfl, (fun z hz => by simp at hz), ?_, ?_, ?_⟩
      · exact heap_alloc2_old w _ _
      · exact heap_alloc2_new w _ _
      · exact (HB _).out.alloc (by simp) _
    case round =>
      obtain ⟨j, hj, rfl, HG, H0, H1, HBW⟩ := hrel
      by_cases hlt : j < n
      · obtain ⟨b1, o1, rfl, hb1, hc1⟩ := HS.out.at (by omega)
        obtain ⟨x, hx⟩ : ∃ x, x = L.getD j 0 := ⟨_, rfl⟩
        have hx1 := hc1 j hlt
        rw [← hx] at hx1
        have hx2 : wr.cell? ⟨b1, o1 + j, none⟩ = some (.int .i64 x) := by rw [HBW.out.cell (p := ⟨b1, o1 + j, none⟩) hb1]; exact hx1
        have hxm : x ∈ L := by rw [hx, List.getD_eq_getElem?_getD, List.getElem?_eq_getElem (by rw [HL.out]; exact hlt), Option.getD_some]; exact List.getElem_mem _
        have hxw := bounds_i64 (HS.out.2.2.2.1 x hxm)
        have HXM := Lib.hid hxm
        have HX := Lib.hid hx
        have hlti : (j : Int) < (n : Int) := by omega
        have hj8 : (j : Int) < 8 := by omega
        have hxa := hxw.1
        have hxb := hxw.2
        obtain ⟨g, hg⟩ : ∃ g, Utf.good x = g := ⟨_, rfl⟩
        have HGX := Lib.hid hg
        have HC : Hid (Calls Try.prog 65 #[.int .i64 x] wr fun e w' => e = .returned (.bool g) ∧ wr = w') := by
          have h := good_any x wr hxa hxb
          rw [hg] at h; exact h
        clear hc1 hx1 hx hg hxm hxw hxa hxb
        cases g
        · have hr0 : r = false := by
            rw [← HR.out]; unfold goodL
            rw [show L.all Utf.good = false from by rw [List.all_eq_false]; exact ⟨x, HXM.out, by rw [HGX.out]; decide⟩, Bool.false_and]
          subst hr0
          go_wp2_with fail
          refine HC.out.mono ?_
          rintro e w1 ⟨rfl, rfl⟩
          go_wp2_with (refine wpList_store_row (by rfl) 64 (.tmp 2) (.tmp 24) (by rfl) w.heap.size (cellsI (List.replicate 9 0)) (by rfl) (by rfl) 64 (cellsI (List.replicate 9 0)) H0.out HI.out rfl (cellsI_one _) ?_)
          refine bodyPost_ret (results_cell_row_tmp rfl _ _ w.heap.size 64 (cellsI (List.replicate 9 0)) (0, 0) _ (by rfl) (setRow_heap _ _ _ _ _ _ H0.out) Try.underlying64 (by rfl) HI.out) rfl ?_
          exact ⟨rfl, below_setRow HBW.out (Nat.le_refl _) _⟩
        · have hcell : wr.cell? ⟨w.heap.size + 1, j, none⟩ = some (.int .i64 ((partC L j n).getD j 0)) := by
            rw [cell_of_row wr (w.heap.size + 1) j _ _ _ H1.out]
            have hl9 := partC_length L j n (by rw [HL.out]; omega) (by omega)
            simp [cellsI, show j < (partC L j n).length by omega]
          have hfr : wr.frozen? ⟨w.heap.size + 1, j, none⟩ = false := by
            have h := H1.out
            simp [World.frozen?, h]
          go_wp2_with fail
          refine HC.out.mono ?_
          rintro e w1 ⟨rfl, rfl⟩
          go_wp2
          go_roundw
          case rel =>
            refine ⟨j + 1, by omega, by go_num, ?_, ?_, ?_, ?_⟩
            · intro z hz
              rw [List.take_succ_eq_append_getElem (by rw [HL.out]; exact hlt)] at hz
              rcases List.mem_append.1 hz with hz | hz
              · exact HG.out z hz
              · rw [List.mem_singleton.1 hz]
                have := HX.out
                rw [List.getD_eq_getElem?_getD, List.getElem?_eq_getElem (by rw [HL.out]; exact hlt), Option.getD_some] at this
                rw [← this]; exact HGX.out
            · show (World.setCell _ _ _).heap[_]? = _
              rw [heap_setCell_other _ _ _ _ (by show w.heap.size ≠ w.heap.size + 1; omega)]; exact H0.out
            · show (World.setCell _ _ _).heap[_]? = _
              rw [heap_setCell_same _ _ _ _ _ _ H1.out, cellsI_set, HX.out, partC_set (by rw [HL.out]; exact hlt) (by omega)]
            · exact HBW.out.setCell (by show w.heap.size ≤ w.heap.size + 1; omega) _
          case measure => simp [intOf]; omega
      · obtain rfl : j = n := by omega
        have hr1 : r = true := by
          rw [← HR.out]; unfold goodL
          rw [Bool.and_eq_true, List.all_eq_true, decide_eq_true_iff, HL.out]
          refine ⟨fun z hz => HG.out z ?_, by omega⟩
          rw [List.take_of_length_le (by rw [HL.out]; omega)]; exact hz
        subst hr1
        have HP : Hid (partC L j j = sideC true L) := by
          show _ = _
          have := partC_all (l := L) (by rw [HL.out]; omega)
          rwa [HL.out] at this
        have HI2 : Hid ((Try.prog.info? 64).map (·.size) = some (cellsI (partC L j j)).size) := by
          show _ = _
          rw [info_side, cellsI_size, HP.out, sideC_length _ _ (fun _ => by rw [HL.out]; omega)]
        have HI3 : Hid ((cellsI (List.replicate 9 0)).size = (cellsI (partC L j j)).size) := by
          show _ = _
          rw [cellsI_size, cellsI_size, HP.out, sideC_length _ _ (fun _ => by rw [HL.out]; omega)]; rfl
        go_wp2_with (first
          | (refine wpList_load_row (by rfl) 64 (.tmp 4) (by rfl) (w.heap.size + 1) (by rfl) 64 (cellsI (partC L j j)) (0, 0) _ H1.out Try.underlying64 (by rfl) HI2.out ?_)
          | (refine wpList_store_row (by rfl) 64 (.tmp 2) (.tmp 30) (by rfl) w.heap.size (cellsI (partC L j j)) (by rfl) (by rfl) 64 (cellsI (List.replicate 9 0)) H0.out HI2.out HI3.out (cellsI_one _) ?_))
        refine bodyPost_ret (results_cell_row_tmp rfl _ _ w.heap.size 64 (cellsI (partC L j j)) (0, 0) _ (by rfl) (setRow_heap _ _ _ _ _ _ H0.out) Try.underlying64 (by rfl) HI2.out) rfl ?_
        exact ⟨by rw [HP.out]; rfl, below_setRow HBW.out (Nat.le_refl _) _⟩

end
section
open Go.RowKit Go.Maps Go.WideMaps

def litsI (l : List Int) : List Lit := l.map (Lit.int .i64)
theorem litsI_inj : ∀ {l l' : List Int}, litsI l = litsI l' → l = l'
  | [], [], _ => rfl
  | [], _ :: _, h => by simp [litsI] at h
  | _ :: _, [], h => by simp [litsI] at h
  | a :: l, b :: l', h => by
    simp only [litsI, List.map_cons, List.cons.injEq, Lit.int.injEq, true_and] at h
    rw [h.1, litsI_inj h.2]
def WfI (l : List Int) : Prop := ∀ z ∈ l, (Lit.int .i64 z).wf = true

theorem sideC_wf {ok : Bool} {l : List Int} (h : WfI l) (h8 : ok = true → l.length ≤ 8) : WfI (sideC ok l) := by
  intro z hz
  unfold sideC at hz
  split at hz
  · rename_i h'
    have := h8 h'
    simp only [List.append_assoc, List.mem_append, List.mem_replicate, List.mem_singleton] at hz
    rcases hz with hz | ⟨_, rfl⟩ | rfl
    · exact h z hz
    · decide
    · exact WalkArith.wf_i64 (by omega)
  · rw [List.eq_of_mem_replicate hz]; decide

theorem keyLits_side (d : Nat) (l : List Int) (h9 : l.length = 9) (hw : WfI l) : Try.prog.keyLits (d + 3) 64 (cellsI l).toList = some (litsI l) := by
  match l, h9 with
  | [a0, a1, a2, a3, a4, a5, a6, a7, n], _ =>
    have ha0 := hw a0 (by simp)
    have ha1 := hw a1 (by simp)
    have ha2 := hw a2 (by simp)
    have ha3 := hw a3 (by simp)
    have ha4 := hw a4 (by simp)
    have ha5 := hw a5 (by simp)
    have ha6 := hw a6 (by simp)
    have ha7 := hw a7 (by simp)
    have hn := hw n (by simp)
    have hr : List.range 8 = [0, 1, 2, 3, 4, 5, 6, 7] := rfl
    show Try.prog.keyLits (d + 3) 64 ([.int .i64 a0, .int .i64 a1, .int .i64 a2, .int .i64 a3, .int .i64 a4, .int .i64 a5, .int .i64 a6, .int .i64 a7, .int .i64 n] : List Value) = some ([.int .i64 a0, .int .i64 a1, .int .i64 a2, .int .i64 a3, .int .i64 a4, .int .i64 a5, .int .i64 a6, .int .i64 a7, .int .i64 n] : List Lit)
    simp [Program.keyLits, Try.underlying64, Try.underlying62, Try.underlying3, cells_side, cells_8, cells_int, hr, List.mapM_cons, ha0, ha1, ha2, ha3, ha4, ha5, ha6, ha7, hn]

theorem keyOf_18 (l : List Int) (h18 : l.length = 18) (hw : WfI l) : keyOf Try.prog 66 (.agg (cellsI l)) = some (.string (keyBytes (litsI l))) := by
  match l, h18 with
  | [a0, a1, a2, a3, a4, a5, a6, a7, n, b0, b1, b2, b3, b4, b5, b6, b7, m], _ =>
    exact keyOf_sides a0 a1 a2 a3 a4 a5 a6 a7 n b0 b1 b2 b3 b4 b5 b6 b7 m (hw _ (by simp)) (hw _ (by simp)) (hw _ (by simp)) (hw _ (by simp)) (hw _ (by simp)) (hw _ (by simp)) (hw _ (by simp)) (hw _ (by simp)) (hw _ (by simp)) (hw _ (by simp)) (hw _ (by simp)) (hw _ (by simp)) (hw _ (by simp)) (hw _ (by simp)) (hw _ (by simp)) (hw _ (by simp)) (hw _ (by simp)) (hw _ (by simp))

theorem formed_side (l : List Int) (h9 : l.length = 9) : (Value.agg (cellsI l)).formed Try.prog 64 = true := by
  simp [Value.formed, Try.underlying64, cells_side, cellsI_size, h9]

theorem eql_side (l l' : List Int) (w : World) (h9 : l.length = 9) (h9' : l'.length = 9) (hw : WfI l) (hw' : WfI l') :
    (binOp .eql 64 (.agg (cellsI l)) (.agg (cellsI l'))).run Try.prog w = .ok (.bool (decide (l = l'))) w := by
  obtain ⟨r, hr, hiff⟩ := run_equalIn_deep (P := Try.prog) 9997 3 64 (by kernel_rfl) w 3 3 (.agg (cellsI l)) (.agg (cellsI l')) _ _ (formed_side l h9) (formed_side l' h9') (keyLits_side 0 l h9 hw) (keyLits_side 0 l' h9' hw')
  rw [run_eql_struct, show (10000 : Nat) = 9997 + 3 from rfl, hr]
  have : r = decide (l = l') := by
    rw [Bool.eq_iff_iff, hiff, decide_eq_true_iff]
    exact ⟨litsI_inj, fun h => by rw [h]⟩
  rw [this]; rfl

theorem wpList_eql_side {ops : Array Oper} {rest : List Oper} {o : Oper} {a : Act} {w : World} {Q : Exit → Act → World → Prop} (hwt : Region.wanted o (yielded ops a.tmps) = true) (x y : Operand) (ho : o.op = .binOp .eql 64 x y 64)
    (l l' : List Int) (h9 : l.length = 9) (h9' : l'.length = 9) (hw : WfI l) (hw' : WfI l') (r : Bool) (hr : decide (l = l') = r) (hx : a.eval x = .agg (cellsI l)) (hy : a.eval y = .agg (cellsI l'))
    (h : wpList Try.prog ops Q rest (a.put o.dst (.bool r)) w) : wpList Try.prog ops Q (o :: rest) a w := by
  refine wpList_step fun K hK => ?_
  rw [if_pos hwt]
  have hg := run_eqGuard_agg (P := Try.prog) w BinOp.eql 64 x y (cellsI l) (cellsI l') (by kernel_rfl)
  unfold Oper.wp execOp
  simp only [ho, hx, hy, Sem.run_bind, hg, Result.andThen_ok, eql_side l l' w h9 h9' hw hw', hr]
  exact hK _ _ h
end
end Go.Proofs.Ytpcebfefbnpbpaa
