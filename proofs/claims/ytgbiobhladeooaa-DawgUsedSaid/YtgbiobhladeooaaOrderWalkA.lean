/- order's Common. It reads alone. -/
import Derived.Test.YtgbiobhladeooaaPackU
namespace Go.Proofs.Ytgbiobhladeooaa
open Go.RowKit

set_option maxRecDepth 100000 in
set_option maxHeartbeats 400000 in
theorem common_is (a b : Option Addr) (n m cap cap2 : Nat) (xs ys : List Int) (k : Nat) (w : World) (ha : Sl .i64 w a n cap xs) (hb : Sl .i64 w b m cap2 ys) (h : common xs ys = k) :
    Calls Try.prog 18 #[.slice a n cap, .slice b m cap2] w fun e w' => e = .returned (.int .i64 (k : Nat)) ∧ ∃ q, w' = w.drewN q := by
  have HA := Lib.hid ha
  have HB := Lib.hid hb
  have HK := Lib.hid h
  clear ha hb h
  go_enter Try.func18, Try.ntmps18
  go_wp2_with (go_at_call 36; refine (first_is _ _ _ _ _ _ _ _ _ _ HA.out HB.out HK.out).mono ?_; rintro e w' ⟨rfl, q, rfl⟩)
  go_ret
  exact ⟨rfl, q, rfl⟩

end Go.Proofs.Ytgbiobhladeooaa
