/- A side's numbers in memory of their own: the program's own. -/
import Derived.Test.YtcpilhgofdnigaaRuleFit
import Derived.Deep.OwnRows
import Derived.Deep.Matrix
import Derived.Laws.CopyOwn
namespace Go.Proofs.Ytcpilhgofdnigaa
open Go.RowKit Go.Deep

theorem info_int : (Try.prog.info? 3).map (fun i => (i.zero, i.size, i.bytes)) = some (some (.int .i64 0), 1, 8) := by kernel_rfl
theorem size_int : (Try.prog.info? 3).map (·.size) = some 1 := by kernel_rfl
theorem splice_all {α : Type} (L cs : List α) (h : L.length = cs.length) : splice L 0 cs = cs := by
  simp [splice, List.drop_eq_nil_of_le (show L.length ≤ cs.length by omega)]
theorem sideC_at {l : List Int} {j : Nat} (hj : j < l.length) : (sideC true l)[j]? = some l[j] := by
  unfold sideC; rw [if_pos rfl, List.append_assoc, List.getElem?_append_left hj, List.getElem?_eq_getElem hj]
theorem sideC_last {l : List Int} (h8 : l.length ≤ 8) : (sideC true l)[8]? = some (l.length : Int) := by
  unfold sideC
  have e : (l ++ List.replicate (8 - l.length) 0).length = 8 := by simp; omega
  rw [if_pos rfl, List.getElem?_append_right (by rw [e]; exact Nat.le_refl _), e]; rfl
theorem Sl.of_heap {k : IntKind} {w : World} {g n : Nat} {t : TypeId} {fr : Nat × Nat} {zs : List Int} (h : w.heap[g]? = some (.cells (zs.map (.int k)).toArray t fr)) (hw : ∀ z ∈ zs, (Lit.int k z).wf = true) (hl : zs.length = n) (hm : n ≤ maxLen) :
    Sl k w (some ⟨g, 0, none⟩) n n zs := by
  refine ⟨hl, Nat.le_refl _, hm, hw, .inr ⟨g, 0, rfl, fun i hi => ?_⟩⟩
  rw [World.cell?, h]
  simp [hl, hi]

set_option maxHeartbeats 1600000 in
theorem own_is (l : List Int) (w : World) (hw : WfI l) (h8 : l.length ≤ 8) :
    Calls Try.prog 24 #[.agg (cellsI (sideC true l))] w fun e w' => e = .returned (.slice (some ⟨w.heap.size + 1, 0, none⟩) l.length l.length) ∧ Sl .i64 w' (some ⟨w.heap.size + 1, 0, none⟩) l.length l.length l ∧ Below w.heap.size w w' ∧ w.heap.size + 2 ≤ w'.heap.size := by
  obtain ⟨n, hn⟩ : ∃ n, l.length = n := ⟨_, rfl⟩
  have hlast := sideC_last h8
  rw [hn] at h8 hlast ⊢
  have hmk := run_make_row' (P := Try.prog) 23 3 (.int .i64 0) 8 Try.underlying23 info_int rfl .i64 .i64 n (by omega) (by omega)
  have h8c : (cellsI (sideC true l))[8]? = some (.int .i64 (n : Int)) := by
    show ((sideC true l).map (Value.int .i64)).toArray[8]? = _
    rw [List.getElem?_toArray, List.getElem?_map, hlast]; rfl
  obtain ⟨X, hX⟩ : ∃ X, X = l.map (Value.int .i64) := ⟨_, rfl⟩
  have hXl : X.length = n := by rw [hX, List.length_map, hn]
  have hpos : ∀ c : Array Value, ∃ ad, (some ⟨w.heap.size, 0, none⟩ : Option Addr) = some ad ∧ ∀ j v, X[j]? = some v → ((w.alloc (.cells (cellsI (sideC true l)) 38)).alloc (.cells c 3)).cell? (ad.add j) = some v := fun c => by
    refine ⟨_, rfl, fun j v hv => ?_⟩
    have hj : j < l.length := by
      rcases Nat.lt_or_ge j l.length with h | h
      · exact h
      · rw [hX] at hv; simp [List.getElem?_eq_none h] at hv
    have hadd : (⟨w.heap.size, 0, none⟩ : Addr).add j = ⟨w.heap.size, j, none⟩ := by unfold Addr.add; split <;> simp_all
    rw [hadd, cell_of_row _ _ _ _ _ _ (heap_alloc2_old w _ _)]
    show ((sideC true l).map (Value.int .i64)).toArray[j]? = _
    rw [List.getElem?_toArray, List.getElem?_map, sideC_at hj, ← hv, hX]
    simp [hj]
  have h1 : ∀ v ∈ X, v.oneCell' = true := by rw [hX]; exact ints_oneCell .i64 l
  have hg : ∀ c : Array Value, ((w.alloc (.cells (cellsI (sideC true l)) 38)).alloc (.cells c 3)).heap[w.heap.size + 1]? = some (.cells c.toList.toArray 3 (0, 0)) := fun c => by simpa using heap_alloc2_new w (.cells (cellsI (sideC true l)) 38) (.cells c 3)
  have hbw : ∀ c : Array Value, Below w.heap.size w ((w.alloc (.cells (cellsI (sideC true l)) 38)).alloc (.cells c 3)) := fun c => ((Below.refl _ w).alloc (Nat.le_refl _) _).alloc (by simp) _
  have HN := Lib.hid hn
  have HW := Lib.hid hw
  have HX := Lib.hid hX
  have HXL := Lib.hid hXl
  have HP := Lib.hid hpos
  have H1 := Lib.hid h1
  have HG := Lib.hid hg
  have HBW := Lib.hid hbw
  clear hn hw hX hXl hpos h1 hg hbw hlast
  go_enter Try.func24, Try.ntmps24
  go_wp2_with (refine wpList_copy_splice (o := ⟨some 10, _, _, _, _, _⟩) rfl (.tmp 7) (.tmp 9) 23 23 (by rfl) 3 Try.underlying23 size_int _ _ _ _ _ _ (by rfl) (by rfl) (w.heap.size + 1) 0 (madeCells #[.int .i64 0] n).toList 3 (HG.out _) X (by rw [HXL.out]; exact (Nat.min_eq_right h8).symm) (fun _ => ⟨rfl, HP.out _⟩) (by rw [HXL.out]; simp [madeCells]) H1.out w.heap.size w (HBW.out _) (Nat.le_succ _) ?_; intro w2 HG2 hb2)
  go_ret
  have h2 := HG2.out
  have hlt := (Array.getElem?_eq_some_iff.1 h2).1
  rw [splice_all _ _ (by rw [HXL.out]; simp [madeCells]), HX.out] at h2
  exact ⟨rfl, Sl.of_heap h2 HW.out HN.out (by unfold maxLen; omega), hb2, by omega⟩

end Go.Proofs.Ytcpilhgofdnigaa
