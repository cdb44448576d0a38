/- Whether a rule may be: the program's Check. -/
import Derived.Test.YtdondndalpmdgaaRuleFit
namespace Go.Proofs.Ytdondndalpmdgaa
open Go.RowKit

set_option maxRecDepth 100000 in
set_option maxHeartbeats 1600000 in
theorem check_is (x : Rw) (r : Bool) (w : World) (hx : x.Good w) (hr : chk x.r = r) :
    Calls Try.prog 63 #[x.v] w fun e w' => e = .returned (.bool r) ∧ Below w.heap.size w w' := by
  have HX := Lib.hid hx
  have HR := Lib.hid hr
  have hsz : (sidesC r x.r).length = 18 := sidesC_length (fun h => by rw [hr, h])
  have HI : Hid ((Try.prog.info? 82).map (·.size) = some (cellsI (sidesC r x.r)).size) := by show _ = _; rw [info_sides, cellsI_size, hsz]
  have HZ : Hid ((cellsI (List.replicate 18 0)).size = (cellsI (sidesC r x.r)).size) := by show _ = _; rw [cellsI_size, cellsI_size, hsz]; rfl
  have HB : ∀ o, Hid (Below w.heap.size w (w.alloc o)) := fun o => (Below.refl _ w).alloc (Nat.le_refl _) o
  clear hx hr hsz
  simp only [Rw.v] at *
  go_enter Try.func63, Try.ntmps63
  go_wp2_with fail
  refine (fit_is x r _ (HX.out.alloc _) HR.out).mono ?_
  rintro e w1 ⟨rfl, hb1⟩
  have HB1 : Hid (Below w.heap.size w w1) := (HB _).out.trans (hb1.mono (by simp))
  clear hb1
  go_wp2_with (refine wpList_store_g (by rfl) 82 (.tmp 3) (.tmp 8) (by rfl) w1.heap.size (cellsI (sidesC r x.r)) (by rfl) (by rfl) 82 (cellsI (List.replicate 18 0)) (heap_alloc_new _ _) HI.out HZ.out (cellsI_one _) ?_
               intro w2 hw2 hgr2 hsz2
               have HB2 : Hid (Below w.heap.size w w2) := (HB1.out.alloc HB1.out.size _).grown hgr2 (by have := HB1.out.size; simp; omega) (fun k hk => by cases hk; exact HB1.out.size)
               clear hw2 hgr2 hsz2)
  go_ret
  exact ⟨rfl, HB2.out⟩

end Go.Proofs.Ytdondndalpmdgaa
