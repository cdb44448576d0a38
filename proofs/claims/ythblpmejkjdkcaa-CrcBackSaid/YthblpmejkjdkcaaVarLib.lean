/- The library's bytes.Equal, HasPrefix, Clone, slices.Grow and Concat, at bytes. -/
import Derived.Test.YthblpmejkjdkcaaGenStr
import Derived.Lib.LazyBuf
import Derived.Lib.AppendZerosOnto
import Derived.Lib.SliceRun
import Derived.Lib.Walk
import Derived.WalkMore
namespace Go.Proofs.Ythblpmejkjdkcaa
open Go.RowKit

set_option maxRecDepth 100000 in
theorem vstr_app (a b : List Int) : strOfNums a ++ strOfNums b = strOfNums (a ++ b) := by
  apply ByteArray.ext
  simp [strOfNums]
set_option maxRecDepth 100000 in
theorem vstr_size (a : List Int) : (strOfNums a).size = a.length := by
  simp [strOfNums, ByteArray.size]

set_option maxRecDepth 100000 in
theorem bclone_is (a : Option Addr) (n cap : Nat) (zs : List Int) (w : World) (hs : Sl .u8 w a n cap zs) (hn : n ≤ 1000000) :
    Calls Try.prog 15 #[.slice a n cap] w fun e w' => ∃ a' c', e = .returned (.slice a' n c') ∧ w'.ownsRow w.heap.size 5 1 (.slice a' n c') n (u8s zs) ∧ Below w.heap.size w w' := by
  cases a with
  | none =>
    obtain rfl : n = 0 := by
      rcases hs.2.2.2.2 with h | ⟨_, _, h, _⟩
      · exact h
      · cases h
    obtain rfl : zs = [] := List.eq_nil_of_length_eq_zero hs.1
    clear hs
    have qT : ∀ (w : World) (a : Option Addr) (n c : Nat), (binOp .eql 22 (.slice a n c) (.slice none 0 0)).run Try.prog w = .ok (.bool a.isNone) w := fun w a n c => run_eql_slice_nil w _ _ a n c Try.underlying22
    go_enter Try.func15, Try.ntmps15
    go_wp2
    go_ret
    exact ⟨none, 0, rfl, World.ownsRow_nil w _ _ _, Below.refl _ _⟩
  | some y =>
    have HS := Lib.hid hs
    have HB0 : ∀ o, Hid (Below w.heap.size w (w.alloc o)) := fun o => Lib.hid ((Below.refl _ w).alloc (Nat.le_refl _) o)
    have HMD : Hid ((w.alloc (.cells #[] 5)).ownsRow w.heap.size 5 1 (.slice (some ⟨w.heap.size, 0, none⟩) 0 0) 0 (u8s [])) := World.ownsRow_made w #[] 0 (Nat.le_refl _) (Nat.zero_le _) rfl
    clear hs
    have qT : ∀ (w : World) (a : Option Addr) (n c : Nat), (binOp .eql 22 (.slice a n c) (.slice none 0 0)).run Try.prog w = .ok (.bool a.isNone) w := fun w a n c => run_eql_slice_nil w _ _ a n c Try.underlying22
    go_enter Try.func15, Try.ntmps15
    go_wp2_with (at_builtin; refine append_bytes (by rfl) (.tmp 5) (.tmp 6) (by rfl) w.heap.size _ 0 [] (by rfl) HMD.out (some y) n cap zs (by rfl) (HS.out.alloc _) n (by omega) (by omega) (by simp) ?_; intro a' c' w' hown hb hnil; have HO := Lib.hid hown; have HB : Hid (Below w.heap.size w w') := Lib.hid ((HB0 _).out.trans hb); clear hown hb hnil)
    go_ret
    exact ⟨a', c', rfl, by simpa using HO.out, HB.out⟩

set_option maxHeartbeats 1000000 in
set_option maxRecDepth 100000 in
/-- slices.Grow of nothing: room for n bytes -/
theorem grow_is (n : Nat) (h0 : 0 < n) (hn : n ≤ 1000000) (w : World) :
    Calls Try.prog 18 #[.slice none 0 0, .int .i64 (n : Int)] w fun e w' => ∃ c', e = .returned (.slice (some ⟨w.heap.size, 0, none⟩) 0 c') ∧ w'.ownsRow w.heap.size 5 1 (.slice (some ⟨w.heap.size, 0, none⟩) 0 c') 0 (u8s []) ∧ Below w.heap.size w w' := by
  obtain ⟨i0, hi0, hz0, hzs, hzb⟩ := info_parts info_u8
  have h1 : ¬ ((n : Int) < 0) := by omega
  have h4 : (0 : Int) < (n : Int) := by omega
  have hrz : ∀ ty, (Builtin.append_ #[22, 3] ty #[.slice none 0 0, .int .i64 (n : Int)]).run Try.prog w =
      .ok (.slice (some ⟨w.heap.size, 0, none⟩) n (grownCap w n 0 5)) (w.drew.alloc (.cells (([] : List Value).toArray ++ Builtin.zeroCells (Value.int .u8 0).cells n ++ Builtin.zeroCells (Value.int .u8 0).cells (grownCap w n 0 5 - n)) 5)) := fun ty => by
    have h := Lib.run_append_grow_zeros w 22 3 ty 5 i0 (.int .u8 0) .i64 .i64 Try.underlying22 Try.underlying3 hi0 hz0 none 0 0 [] (by rw [hzs]; exact run_firstCells_none w.drew 1 0 0 0) n h0 (by omega) (by omega) (by omega) (by rw [hzb]; omega) (by rw [hzb, Nat.zero_add]; exact growslice_fits (by omega) (by omega))
    rw [Nat.zero_add] at h
    exact h
  have hGn : n ≤ grownCap w n 0 5 := grownCap_ge w _ _ _
  have hGm := grownCap_le_maxLen w n 0 5 (by unfold maxLen; omega)
  obtain ⟨G, hG⟩ : ∃ G, G = grownCap w n 0 5 := ⟨_, rfl⟩
  rw [← hG] at hrz hGn hGm
  obtain ⟨ROW, hROW⟩ : ∃ ROW : Array Value, ROW = ([] : List Value).toArray ++ Builtin.zeroCells (Value.int .u8 0).cells n ++ Builtin.zeroCells (Value.int .u8 0).cells (G - n) := ⟨_, rfl⟩
  rw [← hROW] at hrz
  have hRs : ROW.size = G := by
    rw [hROW]
    simp [Builtin.zeroCells, Value.cells]
    omega
  have HGM := Lib.hid hGm
  have HRS := Lib.hid hRs
  have hG63 : G ≤ 9223372036854775807 := by unfold maxLen at hGm; omega
  clear hROW hG hRs hGm
  go_enter Try.func18, Try.ntmps18
  go_wp2_with (at_builtin; refine Lib.wpList_append_run _ rfl _ _ _ _ rfl _ _ rfl rfl _ _ (hrz _) ?_)
  go_ret
  refine ⟨G, rfl, World.ownsRow_made w.drew ROW G (Nat.le_refl _) HGM.out (by rw [HRS.out, Nat.mul_one]), ?_⟩
  have h := (Below.refl w.heap.size w.drew).alloc (o := .cells ROW 5) (Nat.le_refl _)
  exact ⟨h.os, h.tape, h.output, h.size, h.block⟩

end Go.Proofs.Ythblpmejkjdkcaa
