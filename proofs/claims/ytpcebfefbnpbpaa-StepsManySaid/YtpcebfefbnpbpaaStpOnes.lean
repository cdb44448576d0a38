import Derived.Test.YtpcebfefbnpbpaaPackD
import Derived.Test.YtpcebfefbnpbpaaPackB
set_option linter.all false
set_option maxRecDepth 100000
set_option maxHeartbeats 12800000
namespace Go.Proofs.Ytpcebfefbnpbpaa
open Go.RowKit

/-- a step that a call answers -/
def StepIs (w w' : World) (e : Ending) (s : Stp.St) : Prop := ∃ x : Pw, e = .returned x.v ∧ x.New w w' ∧ x.s = s ∧ Below w.heap.size w w'
theorem info_step4 (v0 v1 v2 v3 : Value) : (Try.prog.info? 37).map (·.size) = some (#[v0, v1, v2, v3] : Array Value).size := by
  have h : (Try.prog.info? 37).map (·.size) = some 4 := by kernel_rfl
  rw [h]; rfl

theorem other17_is (c : Cw) (w : World) (hc : c.Good w) : Calls Try.prog 50 #[c.v] w fun e w' => StepIs w w' e ⟨1, [], true, c.o⟩ := by
  obtain ⟨cm, cl, co, ct, ra, rn, rcap, xs⟩ := c
  have hbs := hc.2
  simp only [Cw.base, List.mem_cons, List.not_mem_nil, or_false, forall_eq_or_imp, forall_eq] at hbs
  obtain ⟨hm0, hm1, hm2, hm3⟩ := hbs
  have HM := Lib.hid hm2
  have HB : ∀ o o', Hid (Below w.heap.size w ((w.alloc o).alloc o')) := fun o o' => ((Below.refl _ w).alloc (Nat.le_refl _) _).alloc (by simp) _
  have HN : ∀ o o', Hid (((w.alloc o).alloc o').heap[w.heap.size + 1]? = some o') := fun o o' => by
    have h := heap_alloc_new (w.alloc o) o'
    rw [World.size_alloc] at h
    exact h
  clear hc hm0 hm1 hm2 hm3
  show Calls _ _ #[.agg #[.int .u64 cm, .int .u64 cl, .int .u64 co, .int .u64 ct, .slice ra rn rcap]] w _
  go_enter Try.func50, Try.ntmps50
  go_wp2
  refine bodyPost_ret (results_cell_row (by rfl) _ _ (w.heap.size + 1) 37 _ (0, 0) _ (by rfl) (HN _ _).out Try.underlying37 (by rfl) (info_step4 _ _ _ _)) rfl ?_
  exact ⟨⟨1, none, 0, 0, [], true, co⟩, rfl, Pw.New.none (by decide) HM.out.1 HM.out.2, rfl, (HB _ _).out⟩

theorem less17_is (c : Cw) (w : World) (hc : c.Good w) : Calls Try.prog 51 #[c.v] w fun e w' => StepIs w w' e ⟨1, [], false, c.l⟩ := by
  obtain ⟨cm, cl, co, ct, ra, rn, rcap, xs⟩ := c
  have hbs := hc.2
  simp only [Cw.base, List.mem_cons, List.not_mem_nil, or_false, forall_eq_or_imp, forall_eq] at hbs
  obtain ⟨hm0, hm1, hm2, hm3⟩ := hbs
  have HM := Lib.hid hm1
  have HB : ∀ o o', Hid (Below w.heap.size w ((w.alloc o).alloc o')) := fun o o' => ((Below.refl _ w).alloc (Nat.le_refl _) _).alloc (by simp) _
  have HN : ∀ o o', Hid (((w.alloc o).alloc o').heap[w.heap.size + 1]? = some o') := fun o o' => by
    have h := heap_alloc_new (w.alloc o) o'
    rw [World.size_alloc] at h
    exact h
  clear hc hm0 hm1 hm2 hm3
  show Calls _ _ #[.agg #[.int .u64 cm, .int .u64 cl, .int .u64 co, .int .u64 ct, .slice ra rn rcap]] w _
  go_enter Try.func51, Try.ntmps51
  go_wp2
  refine bodyPost_ret (results_cell_row (by rfl) _ _ (w.heap.size + 1) 37 _ (0, 0) _ (by rfl) (HN _ _).out Try.underlying37 (by rfl) (info_step4 _ _ _ _)) rfl ?_
  exact ⟨⟨1, none, 0, 0, [], false, cl⟩, rfl, Pw.New.none (by decide) HM.out.1 HM.out.2, rfl, (HB _ _).out⟩

theorem more17_is (c : Cw) (w : World) (hc : c.Good w) : Calls Try.prog 53 #[c.v] w fun e w' => StepIs w w' e ⟨0, [], true, c.m⟩ := by
  obtain ⟨cm, cl, co, ct, ra, rn, rcap, xs⟩ := c
  have hbs := hc.2
  simp only [Cw.base, List.mem_cons, List.not_mem_nil, or_false, forall_eq_or_imp, forall_eq] at hbs
  obtain ⟨hm0, hm1, hm2, hm3⟩ := hbs
  have HM := Lib.hid hm0
  have HB : ∀ o o', Hid (Below w.heap.size w ((w.alloc o).alloc o')) := fun o o' => ((Below.refl _ w).alloc (Nat.le_refl _) _).alloc (by simp) _
  have HN : ∀ o o', Hid (((w.alloc o).alloc o').heap[w.heap.size + 1]? = some o') := fun o o' => by
    have h := heap_alloc_new (w.alloc o) o'
    rw [World.size_alloc] at h
    exact h
  clear hc hm0 hm1 hm2 hm3
  show Calls _ _ #[.agg #[.int .u64 cm, .int .u64 cl, .int .u64 co, .int .u64 ct, .slice ra rn rcap]] w _
  go_enter Try.func53, Try.ntmps53
  go_wp2
  refine bodyPost_ret (results_cell_row (by rfl) _ _ (w.heap.size + 1) 37 _ (0, 0) _ (by rfl) (HN _ _).out Try.underlying37 (by rfl) (info_step4 _ _ _ _)) rfl ?_
  exact ⟨⟨0, none, 0, 0, [], true, cm⟩, rfl, Pw.New.none (by decide) HM.out.1 HM.out.2, rfl, (HB _ _).out⟩

theorem same_one_is (z : Int) (w : World) (hz : (Lit.int .i64 z).wf = true) : Calls Try.prog 49 #[.int .i64 z] w fun e w' => StepIs w w' e ⟨1, [z], false, 0⟩ := by
  have HZ := Lib.hid hz
  clear hz
  have HB : ∀ o o', Hid (Below w.heap.size w ((w.alloc o).alloc o')) := fun o o' => ((Below.refl _ w).alloc (Nat.le_refl _) _).alloc (by simp) _
  have HN : ∀ o o', Hid (((w.alloc o).alloc o').heap[w.heap.size + 1]? = some o') := fun o o' => by
    have h := heap_alloc_new (w.alloc o) o'
    rw [World.size_alloc] at h
    exact h
  have HO : ∀ o o', Hid (((w.alloc o).alloc o').heap[w.heap.size]? = some o) := fun o o' => (((Below.refl _ (w.alloc o)).alloc (Nat.le_refl _) _).block _ (by simp)).trans (heap_alloc_new w o)
  go_enter Try.func49, Try.ntmps49
  go_wp2
  refine bodyPost_ret (results_cell_row (by rfl) _ _ w.heap.size 37 _ (0, 0) _ (by rfl) (HO _ _).out Try.underlying37 (by rfl) (info_step4 _ _ _ _)) rfl ?_
  refine ⟨⟨1, some ⟨w.heap.size + 1, 0, none⟩, 1, 1, [z], false, 0⟩, rfl, Pw.New.new ?_ (HN _ _).out (by omega) (by decide) (by decide) (by decide), rfl, (HB _ _).out⟩
  exact Sl.newI [z] (by intro y hy; rw [List.mem_singleton.1 hy]; exact HZ.out) (by unfold maxLen; simp) (by simp) rfl rfl

theorem turned_one_is (c : Cw) (x y : Int) (w : World) (hc : c.Good w) (hx : (Lit.int .i64 x).wf = true) (hy : (Lit.int .i64 y).wf = true) : Calls Try.prog 52 #[c.v, .int .i64 x, .int .i64 y] w fun e w' => StepIs w w' e ⟨2, [y, x], false, c.t⟩ := by
  obtain ⟨cm, cl, co, ct, ra, rn, rcap, xs⟩ := c
  have hbs := hc.2
  simp only [Cw.base, List.mem_cons, List.not_mem_nil, or_false, forall_eq_or_imp, forall_eq] at hbs
  obtain ⟨hm0, hm1, hm2, hm3⟩ := hbs
  have HM := Lib.hid hm3
  have HB : ∀ o o', Hid (Below w.heap.size w ((w.alloc o).alloc o')) := fun o o' => ((Below.refl _ w).alloc (Nat.le_refl _) _).alloc (by simp) _
  have HN : ∀ o o', Hid (((w.alloc o).alloc o').heap[w.heap.size + 1]? = some o') := fun o o' => by
    have h := heap_alloc_new (w.alloc o) o'
    rw [World.size_alloc] at h
    exact h
  have HX := Lib.hid (And.intro hx hy)
  have HN2 : ∀ o o' o'', Hid ((((w.alloc o).alloc o').alloc o'').heap[w.heap.size + 1]? = some o' ∧ (((w.alloc o).alloc o').alloc o'').heap[w.heap.size + 1 + 1]? = some o'' ∧ Below w.heap.size w (((w.alloc o).alloc o').alloc o'')) := fun o o' o'' => by
    refine ⟨?_, ?_, (HB o o').out.alloc (HB o o').out.size _⟩
    · rw [((Below.refl _ ((w.alloc o).alloc o')).alloc (Nat.le_refl _) _).block _ (by simp)]; exact (HN o o').out
    · have h := heap_alloc_new ((w.alloc o).alloc o') o''
      rw [World.size_alloc, World.size_alloc] at h
      exact h
  clear hc hm0 hm1 hm2 hm3 hx hy
  show Calls _ _ #[.agg #[.int .u64 cm, .int .u64 cl, .int .u64 co, .int .u64 ct, .slice ra rn rcap], .int .i64 x, .int .i64 y] w _
  go_enter Try.func52, Try.ntmps52
  go_wp2
  have HT := (HN2 (.cells #[.int .u64 cm, .int .u64 cl, .int .u64 co, .int .u64 ct, .slice ra rn rcap] 25) (.cells #[.int .i64 2, .slice (some ⟨w.heap.size + 1 + 1, 0, none⟩) 2 2, .bool false, .int .u64 ct] 37) (.cells #[.int .i64 y, .int .i64 x] 3)).out
  refine bodyPost_ret (results_cell_row (by rfl) _ _ (w.heap.size + 1) 37 _ (0, 0) _ (by rfl) HT.1 Try.underlying37 (by rfl) (info_step4 _ _ _ _)) rfl ?_
  refine ⟨⟨2, some ⟨w.heap.size + 1 + 1, 0, none⟩, 2, 2, [y, x], false, ct⟩, rfl, Pw.New.new ?_ HT.2.1 (by omega) (by decide) HM.out.1 HM.out.2, rfl, HT.2.2⟩
  exact Sl.newI [y, x] (by intro u hu; simp only [List.mem_cons, List.not_mem_nil, or_false] at hu; rcases hu with rfl | rfl; exact HX.out.2; exact HX.out.1) (by unfold maxLen; simp) (by simp) rfl rfl

end Go.Proofs.Ytpcebfefbnpbpaa
