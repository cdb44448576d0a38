/- Used by the law. -/
import Derived.DeepKeys4
import Derived.Maps.Keyed
import Derived.Test.YtjmabjeaodojeaaGreatPackB
import Derived.Test.YtjmabjeaodojeaaGreatChecked
namespace Go.Proofs.YtjmabjeaodojeaaGreat
open Go.RowKit Go.Maps Go.WideMaps

set_option maxRecDepth 100000 in
theorem cells_int : Tryz.prog.cellsOf 3 = 1 := by kernel_rfl
set_option maxRecDepth 100000 in
theorem cells_8 : Tryz.prog.cellsOf 97 = 8 := by kernel_rfl
set_option maxRecDepth 100000 in
theorem cells_side : Tryz.prog.cellsOf 99 = 9 := by kernel_rfl
set_option maxRecDepth 100000 in
theorem cells_sides : Tryz.prog.cellsOf 101 = 18 := by kernel_rfl
set_option maxRecDepth 100000 in
theorem keyType_sides : Tryz.prog.keyType 101 = true := by kernel_rfl

set_option maxRecDepth 100000 in
set_option maxHeartbeats 1600000 in
theorem keyLits_sides (d : Nat) (a0 a1 a2 a3 a4 a5 a6 a7 n b0 b1 b2 b3 b4 b5 b6 b7 m : Int) (ha0 : (Lit.int .i64 a0).wf = true) (ha1 : (Lit.int .i64 a1).wf = true) (ha2 : (Lit.int .i64 a2).wf = true) (ha3 : (Lit.int .i64 a3).wf = true) (ha4 : (Lit.int .i64 a4).wf = true) (ha5 : (Lit.int .i64 a5).wf = true) (ha6 : (Lit.int .i64 a6).wf = true) (ha7 : (Lit.int .i64 a7).wf = true) (hn : (Lit.int .i64 n).wf = true) (hb0 : (Lit.int .i64 b0).wf = true) (hb1 : (Lit.int .i64 b1).wf = true) (hb2 : (Lit.int .i64 b2).wf = true) (hb3 : (Lit.int .i64 b3).wf = true) (hb4 : (Lit.int .i64 b4).wf = true) (hb5 : (Lit.int .i64 b5).wf = true) (hb6 : (Lit.int .i64 b6).wf = true) (hb7 : (Lit.int .i64 b7).wf = true) (hm : (Lit.int .i64 m).wf = true) :
    Tryz.prog.keyLits (d + 4) 101 ([.int .i64 a0, .int .i64 a1, .int .i64 a2, .int .i64 a3, .int .i64 a4, .int .i64 a5, .int .i64 a6, .int .i64 a7, .int .i64 n, .int .i64 b0, .int .i64 b1, .int .i64 b2, .int .i64 b3, .int .i64 b4, .int .i64 b5, .int .i64 b6, .int .i64 b7, .int .i64 m] : List Value) = some ([.int .i64 a0, .int .i64 a1, .int .i64 a2, .int .i64 a3, .int .i64 a4, .int .i64 a5, .int .i64 a6, .int .i64 a7, .int .i64 n, .int .i64 b0, .int .i64 b1, .int .i64 b2, .int .i64 b3, .int .i64 b4, .int .i64 b5, .int .i64 b6, .int .i64 b7, .int .i64 m] : List Lit) := by
  have hr : List.range 8 = [0, 1, 2, 3, 4, 5, 6, 7] := rfl
  simp [Program.keyLits, Tryz.underlying101, Tryz.underlying99, Tryz.underlying97, Tryz.underlying3, cells_sides, cells_side, cells_8, cells_int, hr, List.mapM_cons, ha0, ha1, ha2, ha3, ha4, ha5, ha6, ha7, hn, hb0, hb1, hb2, hb3, hb4, hb5, hb6, hb7, hm]
  rw [if_pos (by decide), if_pos (by decide)]
  first | rfl | simp

set_option maxRecDepth 100000 in
theorem keyOf_sides (a0 a1 a2 a3 a4 a5 a6 a7 n b0 b1 b2 b3 b4 b5 b6 b7 m : Int) (ha0 : (Lit.int .i64 a0).wf = true) (ha1 : (Lit.int .i64 a1).wf = true) (ha2 : (Lit.int .i64 a2).wf = true) (ha3 : (Lit.int .i64 a3).wf = true) (ha4 : (Lit.int .i64 a4).wf = true) (ha5 : (Lit.int .i64 a5).wf = true) (ha6 : (Lit.int .i64 a6).wf = true) (ha7 : (Lit.int .i64 a7).wf = true) (hn : (Lit.int .i64 n).wf = true) (hb0 : (Lit.int .i64 b0).wf = true) (hb1 : (Lit.int .i64 b1).wf = true) (hb2 : (Lit.int .i64 b2).wf = true) (hb3 : (Lit.int .i64 b3).wf = true) (hb4 : (Lit.int .i64 b4).wf = true) (hb5 : (Lit.int .i64 b5).wf = true) (hb6 : (Lit.int .i64 b6).wf = true) (hb7 : (Lit.int .i64 b7).wf = true) (hm : (Lit.int .i64 m).wf = true) :
    keyOf Tryz.prog 101 (.agg #[.int .i64 a0, .int .i64 a1, .int .i64 a2, .int .i64 a3, .int .i64 a4, .int .i64 a5, .int .i64 a6, .int .i64 a7, .int .i64 n, .int .i64 b0, .int .i64 b1, .int .i64 b2, .int .i64 b3, .int .i64 b4, .int .i64 b5, .int .i64 b6, .int .i64 b7, .int .i64 m]) = some (.string (keyBytes [.int .i64 a0, .int .i64 a1, .int .i64 a2, .int .i64 a3, .int .i64 a4, .int .i64 a5, .int .i64 a6, .int .i64 a7, .int .i64 n, .int .i64 b0, .int .i64 b1, .int .i64 b2, .int .i64 b3, .int .i64 b4, .int .i64 b5, .int .i64 b6, .int .i64 b7, .int .i64 m])) := by
  have hk := keyLits_sides (Tryz.prog.types.size - 3) a0 a1 a2 a3 a4 a5 a6 a7 n b0 b1 b2 b3 b4 b5 b6 b7 m ha0 ha1 ha2 ha3 ha4 ha5 ha6 ha7 hn hb0 hb1 hb2 hb3 hb4 hb5 hb6 hb7 hm
  have hs : Tryz.prog.types.size - 3 + 4 = Tryz.prog.types.size + 1 := by
    have : 3 ≤ Tryz.prog.types.size := of_decide_eq_true (by kernel_rfl)
    omega
  rw [hs] at hk
  unfold keyOf
  simp only [Tryz.underlying101]
  rw [if_pos (by simp [keyType_sides, Value.formed, Tryz.underlying101, cells_sides])]
  rw [show (Value.agg #[.int .i64 a0, .int .i64 a1, .int .i64 a2, .int .i64 a3, .int .i64 a4, .int .i64 a5, .int .i64 a6, .int .i64 a7, .int .i64 n, .int .i64 b0, .int .i64 b1, .int .i64 b2, .int .i64 b3, .int .i64 b4, .int .i64 b5, .int .i64 b6, .int .i64 b7, .int .i64 m]).cells.toList = ([.int .i64 a0, .int .i64 a1, .int .i64 a2, .int .i64 a3, .int .i64 a4, .int .i64 a5, .int .i64 a6, .int .i64 a7, .int .i64 n, .int .i64 b0, .int .i64 b1, .int .i64 b2, .int .i64 b3, .int .i64 b4, .int .i64 b5, .int .i64 b6, .int .i64 b7, .int .i64 m] : List Value) from rfl, hk]
  rfl

end Go.Proofs.YtjmabjeaodojeaaGreat
