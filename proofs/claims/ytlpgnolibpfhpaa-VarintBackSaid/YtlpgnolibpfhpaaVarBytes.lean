/- A number's bytes in an array of ten: the program's bytesOf; and Size. -/
import Derived.Test.YtlpgnolibpfhpaaGenCell
import Derived.Test.YtlpgnolibpfhpaaGenHeap
import Derived.Test.YtlpgnolibpfhpaaGenStr
import Derived.Test.YtlpgnolibpfhpaaVarMath
import Derived.WalkMore
namespace Go.Proofs.Ytlpgnolibpfhpaa
open Go.RowKit

def cells8 (l : List Int) : Array Value := (u8s l).toArray
set_option maxRecDepth 100000 in
theorem cells8_size (l : List Int) : (cells8 l).size = l.length := by simp [cells8, u8s]
set_option maxRecDepth 100000 in
theorem cells8_one (l : List Int) : (cells8 l).all (·.oneCell') = true := by
  rw [Array.all_eq_true_iff_forall_mem]
  intro v hv
  simp only [cells8, u8s, List.mem_toArray, List.mem_map] at hv
  obtain ⟨z, _, rfl⟩ := hv
  rfl
set_option maxRecDepth 100000 in
theorem cells8_set (l : List Int) (j : Nat) (z : Int) : (cells8 l).setIfInBounds j (.int .u8 z) = cells8 (l.set j z) := by
  simp [cells8, u8s, List.map_set]

/-- the first j of some bytes, in room for ten -/
def room (l : List Int) (j : Nat) : List Int := l.take j ++ List.replicate (10 - j) 0
set_option maxRecDepth 100000 in
theorem room_length (l : List Int) (j : Nat) (hj : j ≤ l.length) (h : j ≤ 10) : (room l j).length = 10 := by unfold room; simp; omega
set_option maxRecDepth 100000 in
theorem room_set {l : List Int} {j : Nat} (hj : j < l.length) (h : j < 10) (x : Int) (hx : l.getD j 0 = x) : (room l j).set j x = room l (j + 1) := by
  have e1 : 10 - j = (10 - (j + 1)) + 1 := by omega
  have e2 : (l.take j).length = j := by simp; omega
  have e3 : l.take (j + 1) = l.take j ++ [x] := by rw [List.take_succ_eq_append_getElem hj, ← hx]; simp [hj]
  unfold room
  rw [e1, List.replicate_succ, List.set_append_right _ _ (by omega), e2, Nat.sub_self, e3]
  simp
set_option maxRecDepth 100000 in
theorem room_wf {l : List Int} (h : ∀ z ∈ l, (Lit.int .u8 z).wf = true) (j : Nat) : ∀ z ∈ room l j, (Lit.int .u8 z).wf = true := by
  intro z hz
  unfold room at hz
  rcases List.mem_append.1 hz with hz | hz
  · exact h z (List.mem_of_mem_take hz)
  · rw [(List.mem_replicate.1 hz).2]; decide
set_option maxRecDepth 100000 in
theorem room_take {l : List Int} (j : Nat) (hj : j = l.length) : (room l j).take j = l := by
  subst hj; unfold room; simp

set_option maxRecDepth 100000 in
/-- what is still to come of a number's bytes -/
theorem enc_rest {c v j : Nat} (h : Var.enc c = (Var.enc c).take j ++ Var.enc v) (hj : j ≤ (Var.enc c).length) : j + (Var.enc v).length = (Var.enc c).length := by
  have := congrArg List.length h
  simp only [List.length_append, List.length_take] at this
  omega
set_option maxRecDepth 100000 in
theorem enc_getD {c v j : Nat} (h : Var.enc c = (Var.enc c).take j ++ Var.enc v) (hj : j < (Var.enc c).length) : (Var.enc c).getD j 0 = (Var.enc v).getD 0 0 := by
  have e2 : ((Var.enc c).take j).length = j := by simp; omega
  have : ∀ l : List Int, l = (Var.enc c).take j ++ Var.enc v → l.getD j 0 = (Var.enc v).getD 0 0 := by
    intro l hl
    rw [hl, List.getD_eq_getElem?_getD, List.getElem?_append_right (by omega), e2, Nat.sub_self, ← List.getD_eq_getElem?_getD]
  exact this _ h
set_option maxRecDepth 100000 in
theorem enc_next {c v j : Nat} (h : Var.enc c = (Var.enc c).take j ++ Var.enc v) (hj : j < (Var.enc c).length) (hv : 128 ≤ v) : Var.enc c = (Var.enc c).take (j + 1) ++ Var.enc (v / 128) := by
  have h2 := enc_getD h hj
  rw [Var.enc_big hv] at h2
  rw [List.take_succ_eq_append_getElem hj, List.append_assoc]
  conv => lhs; rw [h, Var.enc_big hv]
  congr 1
  simp [hj] at h2
  simp [h2]

set_option maxRecDepth 100000 in
theorem info_ten : (Try.prog.info? 36).map (·.size) = some 10 := by kernel_rfl

set_option maxHeartbeats 1600000 in
set_option maxRecDepth 100000 in
theorem bytesOf_is (c n : Nat) (hc : c < 18446744073709551616) (hn : (Var.enc c).length = n) (w : World) :
    Calls Try.prog 15 #[.int .u64 (c : Int)] w fun e w' => e = .returned (.tuple #[.agg (cells8 (room (Var.enc c) n)), .int .i64 (n : Int)]) ∧ Below w.heap.size w w' := by
  have h10 := Var.len_10 hc
  have HP := Lib.hid (Var.enc_pos c)
  rw [hn] at h10
  have HL := Lib.hid hn
  have HI : Hid ((Try.prog.info? 36).map (·.size) = some (cells8 (room (Var.enc c) n)).size) := by show _ = _; rw [info_ten, cells8_size, room_length _ _ (by omega) h10]
  have HI3 : Hid ((cells8 (List.replicate 10 0)).size = (cells8 (room (Var.enc c) n)).size) := by show _ = _; rw [cells8_size, cells8_size, room_length _ _ (by omega) h10]; rfl
  have HB : ∀ o, Hid (Below w.heap.size w (w.alloc o)) := fun o => (Below.refl _ w).alloc (Nat.le_refl _) o
  clear hn
  go_enter Try.func15, Try.ntmps15
  go_wp2
  go_step3
  go_wp2
  go_step3
  go_wp2
  go_loopw [0, 7] (fun cv ix wr => ∃ (v j : Nat), cv = .int .u64 (v : Int) ∧ ix = .int .i64 (j : Int) ∧ v < 18446744073709551616 ∧ j ≤ n ∧ Hid (j < n ∧ Var.enc c = (Var.enc c).take j ++ Var.enc v) ∧ Hid (wr.heap[w.heap.size]? = some (.cells (cells8 (List.replicate 10 0)) 36 (0, 0))) ∧ Hid (wr.heap[w.heap.size + 1]? = some (.cells (cells8 (room (Var.enc c) j)) 36 (0, 0))) ∧ Hid (Below w.heap.size w wr)) (fun _ ix _ => 10 - (intOf ix).toNat)
  case atStart =>
    refine ⟨c, 0, rfl, rfl, hc, Nat.zero_le _, ⟨by have := HP.out; rw [HL.out] at this; omega, rfl⟩, ?_, ?_, ?_⟩
    · exact heap_alloc2_old w _ _
    · exact heap_alloc2_new w _ _
    · exact (HB _).out.alloc (by simp) _
  case round =>
    obtain ⟨v, j, rfl, rfl, hv, hj, HR, H0, H1, HBW⟩ := hrel
    have hjn := HR.out.1
    have hj10 : (j : Int) < 10 := by omega
    have HD := Lib.hid (enc_getD HR.out.2 (by rw [HL.out]; exact hjn))
    have hcell : wr.cell? ⟨w.heap.size + 1, j, none⟩ = some (.int .u8 ((room (Var.enc c) j).getD j 0)) := by
      rw [cell_of_row wr (w.heap.size + 1) j _ _ _ H1.out]
      have hl := room_length (Var.enc c) j (by rw [HL.out]; omega) (by omega)
      simp [cells8, u8s, show j < (room (Var.enc c) j).length by omega]
    have hfr : wr.frozen? ⟨w.heap.size + 1, j, none⟩ = false := by
      have h := H1.out
      simp [World.frozen?, h]
    by_cases h128 : v < 128
    · have hb : (v : Int) < 128 := by omega
      have hn1 : j + 1 = n := by
        have := enc_rest HR.out.2 (by rw [HL.out]; omega)
        rw [Var.enc_small h128, HL.out] at this
        simpa using this
      have hw8 : IntKind.u8.wrap (v : Int) = (v : Int) := by
        simp [IntKind.wrap, IntKind.signed, IntKind.bits]; omega
      have H1n : Hid ((wr.setCell ⟨w.heap.size + 1, j, none⟩ (.int .u8 (v : Int))).heap[w.heap.size + 1]? = some (.cells (cells8 (room (Var.enc c) n)) 36 (0, 0))) := by
        show _ = _
        rw [heap_setCell_same _ _ _ _ _ _ H1.out, cells8_set, room_set (by rw [HL.out]; exact hjn) (by omega) (v : Int) (by rw [HD.out, Var.enc_small h128]; rfl), hn1]
      have H0n : Hid ((wr.setCell ⟨w.heap.size + 1, j, none⟩ (.int .u8 (v : Int))).heap[w.heap.size]? = some (.cells (cells8 (List.replicate 10 0)) 36 (0, 0))) := by
        show _ = _
        rw [heap_setCell_other _ _ _ _ (by show w.heap.size ≠ w.heap.size + 1; omega)]; exact H0.out
      have HBn : Hid (Below w.heap.size w (wr.setCell ⟨w.heap.size + 1, j, none⟩ (.int .u8 (v : Int)))) := HBW.out.setCell (by show w.heap.size ≤ w.heap.size + 1; omega) _
      have HN1 : Hid ((j : Int) + 1 = (n : Int)) := by show _ = _; omega
      go_wp2_with (first
        | (refine wpList_load_row (by rfl) 36 (.tmp 4) (by rfl) (w.heap.size + 1) (by rfl) 36 (cells8 (room (Var.enc c) n)) (0, 0) _ H1n.out Try.underlying36 (by rfl) HI.out ?_)
        | (refine wpList_store_row (by rfl) 36 (.tmp 2) (.tmp 28) (by rfl) w.heap.size (cells8 (room (Var.enc c) n)) (by rfl) (by rfl) 36 (cells8 (List.replicate 10 0)) H0n.out HI.out HI3.out (cells8_one _) ?_))
      try rw [Exit.noGoto_ret]
      refine bodyPost_ret (results_cell_row_tmp rfl _ _ w.heap.size 36 (cells8 (room (Var.enc c) n)) (0, 0) _ (by rfl) (setRow_heap _ _ _ _ _ _ H0n.out) Try.underlying36 (by rfl) HI.out) rfl ?_
      exact ⟨by simp [HN1.out], below_setRow HBn.out (Nat.le_refl _) _⟩
    · have hb : ¬ (v : Int) < 128 := by omega
      have hw8 : IntKind.u8.wrap ((v : Int) % 128 + 128) = 128 + ((v % 128 : Nat) : Int) := by
        simp [IntKind.wrap, IntKind.signed, IntKind.bits]; omega
      have HNX := Lib.hid (enc_next HR.out.2 (by rw [HL.out]; exact hjn) (by omega))
      have hjn1 : j + 1 < n := by
        have := enc_rest HNX.out (by rw [HL.out]; omega)
        have := Var.enc_pos (v / 128)
        rw [HL.out] at *
        omega
      go_wp2
      go_roundw
      case rel =>
        refine ⟨v / 128, j + 1, by go_num, by go_num, by omega, by omega, ⟨hjn1, HNX.out⟩, ?_, ?_, ?_⟩
        · show (World.setCell _ _ _).heap[_]? = _
          rw [heap_setCell_other _ _ _ _ (by show w.heap.size ≠ w.heap.size + 1; omega)]; exact H0.out
        · show (World.setCell _ _ _).heap[_]? = _
          rw [heap_setCell_same _ _ _ _ _ _ H1.out, cells8_set, room_set (by rw [HL.out]; exact hjn) (by omega) _ (by rw [HD.out, Var.enc_big (by omega)]; rfl)]
        · exact HBW.out.setCell (by show w.heap.size ≤ w.heap.size + 1; omega) _
      case measure => simp [intOf]; omega

end Go.Proofs.Ytlpgnolibpfhpaa
