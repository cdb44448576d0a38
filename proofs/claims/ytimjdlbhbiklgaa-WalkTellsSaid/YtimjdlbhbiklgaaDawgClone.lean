/- Used by the law. -/
import Derived.Test.YtimjdlbhbiklgaaOrderInts
import Derived.Lib.LazyBuf
namespace Go.Proofs.Ytimjdlbhbiklgaa
open Go.RowKit

/-! ### slices.Clone -/
set_option maxRecDepth 100000 in
theorem clone_is (a : Option Addr) (n cap : Nat) (zs : List Int) (w : World) (hs : Sl .i64 w a n cap zs) (hnil : a = none → cap = 0) (hn : n ≤ 100000) :
    Calls Try.prog 31 #[.slice a n cap] w fun e w' => ∃ a' c', e = .returned (.slice a' n c') ∧ w'.ownsRow w.heap.size 3 1 (.slice a' n c') n (i64s zs) ∧ Below w.heap.size w w' := by
  cases a with
  | none =>
    obtain rfl := hnil rfl
    obtain rfl : n = 0 := by have := hs.2.1; omega
    obtain rfl : zs = [] := List.eq_nil_of_length_eq_zero hs.1
    clear hs hnil
    have qT : ∀ (w : World) (a : Option Addr) (n c : Nat), (binOp .eql 23 (.slice a n c) (.slice none 0 0)).run Try.prog w = .ok (.bool a.isNone) w := fun w a n c => run_eql_slice_nil w _ _ a n c Try.underlying23
    go_enter Try.func31, Try.ntmps31
    go_wp2
    go_ret
    exact ⟨none, 0, rfl, World.ownsRow_nil w _ _ _, Below.refl _ _⟩
  | some y =>
    have HS := Lib.hid hs
    have HB0 : ∀ o, Hid (Below w.heap.size w (w.alloc o)) := fun o => Lib.hid ((Below.refl _ w).alloc (Nat.le_refl _) o)
    clear hs hnil
    have qT : ∀ (w : World) (a : Option Addr) (n c : Nat), (binOp .eql 23 (.slice a n c) (.slice none 0 0)).run Try.prog w = .ok (.bool a.isNone) w := fun w a n c => run_eql_slice_nil w _ _ a n c Try.underlying23
    go_enter Try.func31, Try.ntmps31
    go_wp2_with (at_builtin; refine append_ints (by rfl) (.tmp 5) (.tmp 6) (by rfl) w.heap.size _ 0 [] (by rfl) (owns_none_ints w) (some y) n cap zs (by rfl) (HS.out.alloc _) (by simp) n (by omega) (by omega) (by simp) ?_; intro a' c' w' hown hb hnil; have HO := Lib.hid hown; have HB : Hid (Below w.heap.size w w') := Lib.hid ((HB0 _).out.trans hb); clear hown hb hnil)
    go_ret
    exact ⟨a', c', rfl, by simpa using HO.out, HB.out⟩

end Go.Proofs.Ytimjdlbhbiklgaa
