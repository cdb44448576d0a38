import Derived.Laws.BitsAllLaws
import Derived.Test.YtbfjihbkkcggmaaPackC
import Derived.Test.YtbfjihbkkcggmaaPackD
import Derived.Test.YtbfjihbkkcggmaaPackF
import Derived.WalkMore
import Derived.Laws.StructEq
import Derived.Lib.LazyBuf
import Derived.Lib.AppendZerosOnto
import Derived.Lib.SliceRun
import Derived.Lib.Walk
/- Layer 14's functions: contracts of step, bytesOf and Sum. -/
namespace Go.Proofs.Ytbfjihbkkcggmaa
open Go.RowKit

set_option maxRecDepth 100000 in
theorem Sl.bytes {w : World} {a : Option Addr} {n cap : Nat} {b : List Int} (h : Sl .u8 w a n cap b) : Crc.Bytes b := fun z hz => by
  have := bounds_u8 (h.2.2.2.1 z hz); omega

set_option maxRecDepth 100000 in
theorem Sl.byteAt {w : World} {a : Option Addr} {n cap : Nat} {b : List Int} (h : Sl .u8 w a n cap b) {j : Nat} (hj : j < n) : ∃ x : Nat, (x : Int) = b.getD j 0 ∧ x < 256 := by
  have hl := h.1
  have e : b.getD j 0 = b[j] := by simp [show j < b.length by omega]
  have := h.bytes (b.getD j 0) (by rw [e]; exact List.getElem_mem (by omega))
  exact ⟨(b.getD j 0).toNat, by omega, by omega⟩

set_option maxRecDepth 100000 in
theorem xor_step (s : Nat) (hs : s < 4294967296) : bits .xor .u32 ((s : Int) / 2) ((s : Int) % 2 * 3988292384) = ((Crc.step s : Nat) : Int) := by
  have h1 : (s : Int) / 2 = ((s / 2 : Nat) : Int) := by omega
  have h2 : (s : Int) % 2 * 3988292384 = ((s % 2 * 3988292384 : Nat) : Int) := by omega
  rw [h1, h2, u32_xor_nat _ _ (by omega) (by omega)]
  unfold Crc.step Crc.pol
  by_cases h : s % 2 = 1
  · rw [if_pos h, h, Nat.one_mul]
  · rw [if_neg h, show s % 2 = 0 by omega, Nat.zero_mul]

set_option maxRecDepth 100000 in
theorem cstep_is (s : Nat) (hs : s < 4294967296) (w : World) :
    Calls Try.prog 48 #[.int .u32 (s : Int)] w fun e w' => e = .returned (.int .u32 ((Crc.step s : Nat) : Int)) ∧ w = w' := by
  go_enter Try.func48, Try.ntmps48
  go_wp2
  go_ret
  refine ⟨?_, rfl⟩
  rw [← xor_step s hs]
  rfl

set_option maxRecDepth 100000 in
theorem steps_next (k s : Nat) : Crc.steps (k + 1) s = Crc.step (Crc.steps k s) := by rw [Crc.steps_add]; rfl
set_option maxRecDepth 100000 in
theorem raw_next {b : List Int} {j : Nat} (h : j < b.length) {x : Nat} (hx : (x : Int) = b.getD j 0) (s : Nat) : Crc.raw s (b.take (j + 1)) = Crc.steps 8 (Crc.raw s (b.take j) ^^^ x) := by
  have e : b[j] = (x : Int) := by simpa [h] using hx.symm
  rw [List.take_succ_eq_append_getElem h, Crc.raw_snoc, e, Int.toNat_natCast]

set_option maxHeartbeats 1600000 in
set_option maxRecDepth 100000 in
theorem csum_is (a : Option Addr) (n cap : Nat) (b : List Int) (w : World) (hs : Sl .u8 w a n cap b) :
    Calls Try.prog 27 #[.slice a n cap] w fun e w' => e = .returned (.int .u32 ((Crc.sum b : Nat) : Int)) ∧ w = w' := by
  have hnc := hs.2.1
  have hcm := hs.2.2.1
  unfold maxLen at hcm
  have HS := Lib.hid hs
  have HL := Lib.hid hs.1
  have HBY := Lib.hid hs.bytes
  clear hs
  go_enter Try.func27, Try.ntmps27
  go_wp2
  go_loop [3, 8] (fun sv ix => ∃ (v j : Nat), sv = .int .u32 (v : Int) ∧ ix = .int .i64 (j : Int) ∧ j ≤ n ∧ v < 4294967296 ∧ Hid (v = Crc.raw Crc.ones (b.take j))) (fun _ ix => n - (intOf ix).toNat)
  case atStart => exact ⟨4294967295, 0, rfl, rfl, Nat.zero_le _, by omega, rfl⟩
  case round =>
    obtain ⟨v, j, rfl, rfl, hj, hv, HV⟩ := hrel
    by_cases hlt : j < n
    · obtain ⟨b1, o1, rfl, _, hc1⟩ := HS.out.at (by omega)
      have hx1 := hc1 j hlt
      obtain ⟨x, hx, hx256⟩ := HS.out.byteAt hlt
      have HN := Lib.hid (raw_next (by rw [HL.out]; exact hlt) hx Crc.ones)
      rw [← hx] at hx1
      have hxor : bits .xor .u32 (v : Int) (x : Int) = ((v ^^^ x : Nat) : Int) := u32_xor_nat _ _ hv (by omega)
      have hy9 : v ^^^ x < 4294967296 := Nat.xor_lt_two_pow (n := 32) hv (by omega)
      obtain ⟨y, hy⟩ : ∃ y, y = v ^^^ x := ⟨_, rfl⟩
      rw [← hy] at hxor hy9
      have HY := Lib.hid hy
      have hlti : (j : Int) < (n : Int) := by omega
      have hx255 : (x : Int) ≤ 255 := by omega
      clear hc1 hx hy
      go_wp2
      go_loop [3, 16] (fun sv kv => ∃ (u k : Nat), sv = .int .u32 (u : Int) ∧ kv = .int .i64 (k : Int) ∧ k ≤ 8 ∧ u < 4294967296 ∧ Hid (u = Crc.steps k y)) (fun _ kv => 8 - (intOf kv).toNat)
      case atStart => exact ⟨y, 0, by first | rfl | simp, rfl, Nat.zero_le _, hy9, rfl⟩
      case round =>
        obtain ⟨u, k, rfl, rfl, hk, hu, HU⟩ := hrel
        by_cases hk8 : k < 8
        · have hk8i : (k : Int) < 8 := by omega
          have hsl := Crc.step_lt hu
          obtain ⟨u', hu'⟩ : ∃ u', u' = Crc.step u := ⟨_, rfl⟩
          rw [← hu'] at hsl
          have HC := Lib.hid (cstep_is u hu)
          rw [← hu'] at HC
          have HU' : Hid (u' = Crc.steps (k + 1) y) := by show _ = _; rw [hu', steps_next, ← HU.out]
          clear hu'
          go_wp2_with fail
          refine (HC.out _).mono ?_
          rintro e w1 ⟨rfl, hw1⟩
          obtain rfl := hw1.symm
          go_wp2
          go_round
          case rel => exact ⟨u', k + 1, rfl, by go_num, by omega, hsl, HU'.out⟩
          case measure => simp [intOf]; omega
        · obtain rfl : k = 8 := by omega
          go_wp2
          go_round
          case rel => exact ⟨u, j + 1, rfl, by go_num, by omega, hu, by show u = _; rw [HN.out, ← HV.out, ← HY.out]; exact HU.out⟩
          case measure => simp [intOf]; omega
    · obtain rfl : j = n := by omega
      have hfin : bits .xor .u32 (v : Int) 4294967295 = ((Crc.sum b : Nat) : Int) := by
        have h := u32_xor_nat v 4294967295 hv (by omega)
        have hv2 := HV.out
        rw [List.take_of_length_le (by rw [HL.out]; exact Nat.le_refl _)] at hv2
        rw [hv2] at h ⊢
        exact h
      go_wp2
      go_ret
      exact ⟨by first | rfl | simp [hfin], rfl⟩

end Go.Proofs.Ytbfjihbkkcggmaa

/- Two arrays of four bytes, held against each other. -/
namespace Go.Proofs.Ytbfjihbkkcggmaa
open Go.RowKit

set_option maxRecDepth 100000 in
theorem info_four : (Try.prog.info? 65).map (·.size) = some 4 := by kernel_rfl

set_option maxHeartbeats 1000000 in
set_option maxRecDepth 100000 in
theorem equal4 (w : World) (a b c d a' b' c' d' : Int) :
    (Op.equalIn 10000 65 (.agg #[.int .u8 a, .int .u8 b, .int .u8 c, .int .u8 d]) (.agg #[.int .u8 a', .int .u8 b', .int .u8 c', .int .u8 d'])).run Try.prog w = .ok (a == a' && (b == b' && (c == c' && d == d'))) w := by
  obtain ⟨i0, hi, hz0, hz1, hz2⟩ := info_parts info_u8
  have e := fun (w : World) (x y : Int) => run_equalIn_int w 9998 5 .u8 .u8 x y Try.underlying5
  have hp : ∀ (w : World) (xs : Array Value) (o : Nat) (v : Value), xs[o]? = some v → (part 5 xs o).run Try.prog w = .ok v w := fun w xs o v hx => by
    simp [part, isAgg, run_underlying Try.underlying5, hx]
  have e2 : ∀ (w : World) (x y : Int), (Op.equalIn 9999 5 (.int .u8 x) (.int .u8 y)).run Try.prog w = .ok (x == y) w := e
  clear e
  show (Op.equalIn (9999 + 1) _ _ _).run _ _ = _
  unfold Op.equalIn
  simp only [Sem.run_bind, run_underlying Try.underlying65, Result.andThen_ok]
  simp [Sem.run_bind, sizeOf, typeInfo, hi, hz1, List.range', hp, e2]
  cases ha : a == a' <;> cases hb : b == b' <;> cases hc : c == c' <;> cases hd : d == d' <;> simp_all
end Go.Proofs.Ytbfjihbkkcggmaa

/- The library's bytes.Equal, HasPrefix, Clone, slices.Grow and Concat, at bytes. -/
namespace Go.Proofs.Ytbfjihbkkcggmaa
open Go.RowKit

set_option maxRecDepth 100000 in
theorem vstr_app (a b : List Int) : strOfNums a ++ strOfNums b = strOfNums (a ++ b) := by
  apply ByteArray.ext
  simp [strOfNums]
set_option maxRecDepth 100000 in
theorem vstr_size (a : List Int) : (strOfNums a).size = a.length := by
  simp [strOfNums, ByteArray.size]

set_option maxRecDepth 100000 in
theorem equal_is (a1 a2 : Option Addr) (n1 c1 n2 c2 : Nat) (xs ys : List Int) (r : Bool) (w : World) (h1 : Sl .u8 w a1 n1 c1 xs) (h2 : Sl .u8 w a2 n2 c2 ys) (hr : decide (xs = ys) = r) :
    Calls Try.prog 25 #[.slice a1 n1 c1, .slice a2 n2 c2] w fun e w' => e = .returned (.bool r) ∧ w = w' := by
  have hse := str_eq h1.2.2.2.1 h2.2.2.2.1
  obtain ⟨S1, hS1⟩ : ∃ S1, S1 = strOfNums xs := ⟨_, rfl⟩
  obtain ⟨S2, hS2⟩ : ∃ S2, S2 = strOfNums ys := ⟨_, rfl⟩
  have hk1 : (convert 29 9 (.slice a1 n1 c1)).run Try.prog w = .ok (.string S1) w := by rw [hS1]; exact h1.str
  have hk2 : (convert 29 9 (.slice a2 n2 c2)).run Try.prog w = .ok (.string S2) w := by rw [hS2]; exact h2.str
  rw [← hS1, ← hS2, hr] at hse
  clear hS1 hS2 h1 h2 hr
  go_enter Try.func25, Try.ntmps25
  go_wp2
  go_ret
  exact ⟨by simp [hse], rfl⟩

set_option maxRecDepth 100000 in
theorem hasPrefix_is (a1 a2 : Option Addr) (n1 c1 n2 c2 : Nat) (xs ys : List Int) (r : Bool) (w : World) (h1 : Sl .u8 w a1 n1 c1 xs) (h2 : Sl .u8 w a2 n2 c2 ys) (h0 : 0 < n2) (hr : decide (xs.take n2 = ys) = r) :
    Calls Try.prog 68 #[.slice a1 n1 c1, .slice a2 n2 c2] w fun e w' => e = .returned (.bool r) ∧ w = w' := by
  have hc1 := h1.2.2.1
  have hc2 := h2.2.2.1
  unfold maxLen at hc1 hc2
  have hnc1 := h1.2.1
  have hnc2 := h2.2.1
  by_cases hlt : n1 < n2
  · obtain rfl : r = false := by
      rw [← hr, decide_eq_false_iff_not]
      intro h
      have := congrArg List.length h
      rw [List.length_take, h1.1, h2.1] at this
      omega
    have hb : ¬ (n2 : Int) ≤ (n1 : Int) := by omega
    clear h1 h2 hr
    go_enter Try.func68, Try.ntmps68
    go_wp2
    go_ret
    exact ⟨rfl, rfl⟩
  · obtain ⟨b1, o1, rfl, _, _⟩ := h1.at (by omega)
    have hb : (n2 : Int) ≤ (n1 : Int) := by omega
    have hb2 : (n2 : Int) ≤ (c1 : Int) := by omega
    have H1 := Lib.hid (h1.first n2 (by omega))
    have H2 := Lib.hid h2
    have HR := Lib.hid hr
    clear h1 h2 hr
    go_enter Try.func68, Try.ntmps68
    go_wp2_with (go_at_call 25; refine (equal_is _ _ _ _ _ _ _ _ r _ H1.out H2.out HR.out).mono ?_; rintro e w1 ⟨rfl, hw1⟩; obtain rfl := hw1.symm)
    go_ret
    exact ⟨by simp, rfl⟩

set_option maxRecDepth 100000 in
theorem bclone_is (a : Option Addr) (n cap : Nat) (zs : List Int) (w : World) (hs : Sl .u8 w a n cap zs) (hn : n ≤ 1000000000000) :
    Calls Try.prog 38 #[.slice a n cap] w fun e w' => ∃ a' c', e = .returned (.slice a' n c') ∧ w'.ownsRow w.heap.size 5 1 (.slice a' n c') n (u8s zs) ∧ Below w.heap.size w w' := by
  cases a with
  | none =>
    obtain rfl : n = 0 := by
      rcases hs.2.2.2.2 with h | ⟨_, _, h, _⟩
      · exact h
      · cases h
    obtain rfl : zs = [] := List.eq_nil_of_length_eq_zero hs.1
    clear hs
    have qT : ∀ (w : World) (a : Option Addr) (n c : Nat), (binOp .eql 29 (.slice a n c) (.slice none 0 0)).run Try.prog w = .ok (.bool a.isNone) w := fun w a n c => run_eql_slice_nil w _ _ a n c Try.underlying29
    go_enter Try.func38, Try.ntmps38
    go_wp2
    go_ret
    exact ⟨none, 0, rfl, World.ownsRow_nil w _ _ _, Below.refl _ _⟩
  | some y =>
    have HS := Lib.hid hs
    have HB0 : ∀ o, Hid (Below w.heap.size w (w.alloc o)) := fun o => Lib.hid ((Below.refl _ w).alloc (Nat.le_refl _) o)
    have HMD : Hid ((w.alloc (.cells #[] 5)).ownsRow w.heap.size 5 1 (.slice (some ⟨w.heap.size, 0, none⟩) 0 0) 0 (u8s [])) := World.ownsRow_made w #[] 0 (Nat.le_refl _) (Nat.zero_le _) rfl
    clear hs
    have qT : ∀ (w : World) (a : Option Addr) (n c : Nat), (binOp .eql 29 (.slice a n c) (.slice none 0 0)).run Try.prog w = .ok (.bool a.isNone) w := fun w a n c => run_eql_slice_nil w _ _ a n c Try.underlying29
    go_enter Try.func38, Try.ntmps38
    go_wp2_with (at_builtin; refine append_bytes (by rfl) (.tmp 5) (.tmp 6) (by rfl) w.heap.size _ 0 [] (by rfl) HMD.out (some y) n cap zs (by rfl) (HS.out.alloc _) n (by omega) (by omega) (by simp) ?_; intro a' c' w' hown hb hnil; have HO := Lib.hid hown; have HB : Hid (Below w.heap.size w w') := Lib.hid ((HB0 _).out.trans hb); clear hown hb hnil)
    go_ret
    exact ⟨a', c', rfl, by simpa using HO.out, HB.out⟩

set_option maxHeartbeats 1000000 in
set_option maxRecDepth 100000 in
/-- slices.Grow of nothing: room for n bytes -/
theorem grow_is (n : Nat) (h0 : 0 < n) (hn : n ≤ 1000000000000) (w : World) :
    Calls Try.prog 49 #[.slice none 0 0, .int .i64 (n : Int)] w fun e w' => ∃ c', e = .returned (.slice (some ⟨w.heap.size, 0, none⟩) 0 c') ∧ w'.ownsRow w.heap.size 5 1 (.slice (some ⟨w.heap.size, 0, none⟩) 0 c') 0 (u8s []) ∧ Below w.heap.size w w' := by
  obtain ⟨i0, hi0, hz0, hzs, hzb⟩ := info_parts info_u8
  have h1 : ¬ ((n : Int) < 0) := by omega
  have h4 : (0 : Int) < (n : Int) := by omega
  have hrz : ∀ ty, (Builtin.append_ #[29, 3] ty #[.slice none 0 0, .int .i64 (n : Int)]).run Try.prog w =
      .ok (.slice (some ⟨w.heap.size, 0, none⟩) n (grownCap w n 0 5)) (w.drew.alloc (.cells (([] : List Value).toArray ++ Builtin.zeroCells (Value.int .u8 0).cells n ++ Builtin.zeroCells (Value.int .u8 0).cells (grownCap w n 0 5 - n)) 5)) := fun ty => by
    have h := Lib.run_append_grow_zeros w 29 3 ty 5 i0 (.int .u8 0) .i64 .i64 Try.underlying29 Try.underlying3 hi0 hz0 none 0 0 [] (by rw [hzs]; exact run_firstCells_none w.drew 1 0 0 0) n h0 (by omega) (by omega) (by omega) (by rw [hzb]; omega) (by rw [hzb, Nat.zero_add]; exact growslice_fits (by omega) (by omega))
    rw [Nat.zero_add] at h
    exact h
  have hGn : n ≤ grownCap w n 0 5 := grownCap_ge w _ _ _
  have hGm := grownCap_le_maxLen w n 0 5 (by unfold maxLen; omega)
  obtain ⟨G, hG⟩ : ∃ G, G = grownCap w n 0 5 := ⟨_, rfl⟩
  rw [← hG] at hrz hGn hGm
  obtain ⟨ROW, hROW⟩ : ∃ ROW : Array Value, ROW = ([] : List Value).toArray ++ Builtin.zeroCells (Value.int .u8 0).cells n ++ Builtin.zeroCells (Value.int .u8 0).cells (G - n) := ⟨_, rfl⟩
  rw [← hROW] at hrz
  have hRs : ROW.size = G := by
    rw [hROW]
    simp [Builtin.zeroCells, Value.cells]
    omega
  have HGM := Lib.hid hGm
  have HRS := Lib.hid hRs
  have hG63 : G ≤ 9223372036854775807 := by unfold maxLen at hGm; omega
  clear hROW hG hRs hGm
  go_enter Try.func49, Try.ntmps49
  go_wp2_with (at_builtin; refine Lib.wpList_append_run _ rfl _ _ _ _ rfl _ _ rfl rfl _ _ (hrz _) ?_)
  go_ret
  refine ⟨G, rfl, World.ownsRow_made w.drew ROW G (Nat.le_refl _) HGM.out (by rw [HRS.out, Nat.mul_one]), ?_⟩
  have h := (Below.refl w.heap.size w.drew).alloc (o := .cells ROW 5) (Nat.le_refl _)
  exact ⟨h.os, h.tape, h.output, h.size, h.block⟩

end Go.Proofs.Ytbfjihbkkcggmaa

/- slices.Concat of two slices of bytes. -/
namespace Go.Proofs.Ytbfjihbkkcggmaa
open Go.RowKit

set_option maxHeartbeats 2000000 in
set_option maxRecDepth 100000 in
theorem concat_is (g c : Nat) (a1 a2 : Option Addr) (n1 c1 n2 c2 : Nat) (xs ys : List Int) (w : World) (hx : w.cell? ⟨g, 0, none⟩ = some (.slice a1 n1 c1)) (hy : w.cell? ⟨g, 1, none⟩ = some (.slice a2 n2 c2))
    (h1 : Sl .u8 w a1 n1 c1 xs) (h2 : Sl .u8 w a2 n2 c2 ys) (h0 : 0 < n2) (hb1 : n1 ≤ 200000000000) (hb2 : n2 ≤ 200000000000) :
    Calls Try.prog 28 #[.slice (some ⟨g, 0, none⟩) 2 c] w fun e w' => ∃ a' c', e = .returned (.slice a' (n1 + n2 : Nat) c') ∧ w'.ownsRow w.heap.size 5 1 (.slice a' (n1 + n2) c') (n1 + n2) (u8s (xs ++ ys)) ∧ (a' = none → c' = 0) ∧ Below w.heap.size w w' := by
  have hc1 := h1.2.2.1
  have hc2 := h2.2.2.1
  unfold maxLen at hc1 hc2
  have hnc1 := h1.2.1
  have hnc2 := h2.2.1
  have H1 := Lib.hid h1
  have H2 := Lib.hid h2
  have hg := cell_lt hx
  have HG := Lib.hid hg
  have HX := Lib.hid hx
  have HY := Lib.hid hy
  clear h1 h2 hg
  go_enter Try.func28, Try.ntmps28
  go_wp2
  go_loop [3, 11] (fun sv ix => ∃ (s j : Nat), sv = .int .i64 (s : Int) ∧ ix = .int .i64 (j : Int) ∧ ((j = 0 ∧ s = 0) ∨ (j = 1 ∧ s = n1) ∨ (j = 2 ∧ s = n1 + n2))) (fun _ ix => 2 - (intOf ix).toNat)
  case atStart => exact ⟨0, 0, rfl, rfl, .inl ⟨rfl, rfl⟩⟩
  case round =>
    obtain ⟨s, j, rfl, rfl, (⟨rfl, rfl⟩ | ⟨rfl, rfl⟩ | ⟨rfl, rfl⟩)⟩ := hrel
    · have q1 : ¬ ((n1 : Int) < 0) := by omega
      go_wp2
      go_round
      case rel => exact ⟨n1, 1, by first | rfl | simp, rfl, .inr (.inl ⟨rfl, rfl⟩)⟩
      case measure => simp [intOf]
    · have q1 : ¬ ((s : Int) + (n2 : Int) < 0) := by omega
      go_wp2
      go_round
      case rel => exact ⟨s + n2, 2, by go_num, rfl, .inr (.inr ⟨rfl, rfl⟩)⟩
      case measure => simp [intOf]
    · obtain ⟨N, hN⟩ : ∃ N, N = n1 + n2 := ⟨_, rfl⟩
      rw [← hN]
      have HN := Lib.hid hN
      have hN0 : 0 < N := by omega
      have hNb : N ≤ 400000000000 := by omega
      clear hN hx hy
      go_wp2_with (go_at_call 49; refine (grow_is N hN0 (by omega) _).mono ?_; rintro e w1 ⟨cG, rfl, hown, hb⟩; have HO := Lib.hid hown; have HB := Lib.hid hb; clear hown hb)
      go_loopw [6, 27] (fun sv ix wr => ∃ (j k : Nat) (a' : Option Addr) (c' : Nat) (zs : List Int), sv = .slice a' k c' ∧ ix = .int .i64 (j : Int) ∧ k ≤ 400000000000 ∧ Hid ((j = 0 ∧ k = 0 ∧ zs = []) ∨ (j = 1 ∧ k = n1 ∧ zs = xs) ∨ (j = 2 ∧ k = N ∧ zs = xs ++ ys)) ∧ Hid (a' = none → c' = 0) ∧ Hid (wr.ownsRow w.heap.size 5 1 (.slice a' k c') k (u8s zs)) ∧ Hid (Below w.heap.size w wr)) (fun _ ix _ => 2 - (intOf ix).toNat)
      case atStart => exact ⟨0, 0, _, _, [], rfl, rfl, by omega, .inl ⟨rfl, rfl, rfl⟩, (fun h => by cases h), HO.out, HB.out⟩
      case round =>
        obtain ⟨j, k, a', c', zs, rfl, rfl, hk, HJ, HNIL, HOW, HBW⟩ := hrel
        have hx1 : wr.cell? ⟨g, 0, none⟩ = some (.slice a1 n1 c1) := by rw [HBW.out.cell (p := ⟨g, 0, none⟩) HG.out]; exact HX.out
        have hy1 : wr.cell? ⟨g, 1, none⟩ = some (.slice a2 n2 c2) := by rw [HBW.out.cell (p := ⟨g, 1, none⟩) HG.out]; exact HY.out
        have HS1 := Lib.hid (H1.out.below HBW.out (Nat.le_refl _))
        have HS2 := Lib.hid (H2.out.below HBW.out (Nat.le_refl _))
        have hsz := HBW.out.size
        obtain (⟨rfl, rfl, rfl⟩ | ⟨rfl, rfl, rfl⟩ | ⟨rfl, rfl, rfl⟩) := HJ.out
        · clear HJ HO HB
          go_wp2_with (at_builtin; refine append_bytes (by rfl) (.tmp 31) (.tmp 32) (by rfl) w.heap.size _ 0 [] (by rfl) HOW.out a1 n1 c1 xs (by rfl) HS1.out n1 (by omega) (by omega) hsz ?_; intro a3 c3 w3 hown3 hb3 hn3; have HO3 := Lib.hid hown3; have HB3 := Lib.hid (HBW.out.trans hb3); have HN3 := Lib.hid hn3; clear hown3 hb3 hn3)
          go_roundw
          case rel => exact ⟨1, n1, a3, c3, xs, rfl, rfl, by omega, .inr (.inl ⟨rfl, rfl, rfl⟩), HN3.out, (by show World.ownsRow _ _ _ _ _ _ _; simpa using HO3.out), HB3.out⟩
          case measure => simp [intOf]
        · clear HJ HO HB
          have HNE := Lib.hid HN.out.symm
          go_wp2_with (at_builtin; refine append_bytes (by rfl) (.tmp 31) (.tmp 32) (by rfl) w.heap.size _ k zs (by rfl) HOW.out a2 n2 c2 ys (by rfl) HS2.out N HNE.out (by omega) hsz ?_; intro a3 c3 w3 hown3 hb3 hn3; have HO3 := Lib.hid hown3; have HB3 := Lib.hid (HBW.out.trans hb3); have HN3 := Lib.hid hn3; clear hown3 hb3 hn3)
          go_roundw
          case rel => exact ⟨2, N, a3, c3, zs ++ ys, rfl, rfl, by omega, .inr (.inr ⟨rfl, rfl, rfl⟩), HN3.out, HO3.out, HB3.out⟩
          case measure => simp [intOf]
        · go_wp2
          go_ret
          obtain rfl := HN.out
          exact ⟨_, _, rfl, HOW.out, HNIL.out, HBW.out⟩

end Go.Proofs.Ytbfjihbkkcggmaa

/- A sum's bytes in an array of four: the program's bytesOf; Seal. -/
namespace Go.Proofs.Ytbfjihbkkcggmaa
open Go.RowKit

set_option maxRecDepth 100000 in
theorem le4_wf (s : Nat) : ∀ z ∈ Crc.le4 s, (Lit.int .u8 z).wf = true := by
  intro z hz
  have := Crc.le4_bytes s z hz
  simp [Lit.wf, IntKind.min, IntKind.max, IntKind.signed, IntKind.bits]
  omega
set_option maxRecDepth 100000 in
theorem bytes_wf {l : List Int} (h : Crc.Bytes l) : ∀ z ∈ l, (Lit.int .u8 z).wf = true := by
  intro z hz
  have := h z hz
  simp [Lit.wf, IntKind.min, IntKind.max, IntKind.signed, IntKind.bits]
  omega

set_option maxRecDepth 100000 in
theorem wrap_u8n (x : Nat) : IntKind.u8.wrap (x : Int) = ((x % 256 : Nat) : Int) := by rw [IntKind.wrap_u8']; omega

set_option maxHeartbeats 1600000 in
set_option maxRecDepth 100000 in
theorem cbytesOf_is (s : Nat) (hs : s < 4294967296) (w : World) :
    Calls Try.prog 26 #[.int .u32 (s : Int)] w fun e w' => e = .returned (.agg (cells8 (Crc.le4 s))) ∧ Below w.heap.size w w' := by
  obtain ⟨a, ha⟩ : ∃ a : Int, a = ((s % 256 : Nat) : Int) := ⟨_, rfl⟩
  obtain ⟨b, hb⟩ : ∃ b : Int, b = ((s / 256 % 256 : Nat) : Int) := ⟨_, rfl⟩
  obtain ⟨c, hc⟩ : ∃ c : Int, c = ((s / 65536 % 256 : Nat) : Int) := ⟨_, rfl⟩
  obtain ⟨d, hd⟩ : ∃ d : Int, d = ((s / 16777216 % 256 : Nat) : Int) := ⟨_, rfl⟩
  have hle : Crc.le4 s = [a, b, c, d] := by rw [ha, hb, hc, hd]; rfl
  rw [hle]
  have wa : IntKind.u8.wrap (s : Int) = a := by rw [wrap_u8n, ha]
  have wb : IntKind.u8.wrap ((s : Int) / 256) = b := by rw [show (s : Int) / 256 = ((s / 256 : Nat) : Int) from by omega, wrap_u8n, hb]
  have wc : IntKind.u8.wrap ((s : Int) / 65536) = c := by rw [show (s : Int) / 65536 = ((s / 65536 : Nat) : Int) from by omega, wrap_u8n, hc]
  have wd : IntKind.u8.wrap ((s : Int) / 16777216) = d := by rw [show (s : Int) / 16777216 = ((s / 16777216 : Nat) : Int) from by omega, wrap_u8n, hd]
  have HI : Hid ((Try.prog.info? 65).map (·.size) = some (cells8 [a, b, c, d]).size) := by show _ = _; rw [info_four]; rfl
  have HI3 : Hid ((cells8 [0, 0, 0, 0]).size = (cells8 [a, b, c, d]).size) := rfl
  have HB : ∀ o, Hid (Below w.heap.size w (w.alloc o)) := fun o => (Below.refl _ w).alloc (Nat.le_refl _) o
  clear ha hb hc hd hle
  go_enter Try.func26, Try.ntmps26
  go_wp2
  go_loopw [5] (fun ix wr => ∃ (j : Nat) (l : List Int), ix = .int .i64 (j : Int) ∧ ((j = 0 ∧ l = [0, 0, 0, 0]) ∨ (j = 1 ∧ l = [a, 0, 0, 0]) ∨ (j = 2 ∧ l = [a, b, 0, 0]) ∨ (j = 3 ∧ l = [a, b, c, 0]) ∨ (j = 4 ∧ l = [a, b, c, d])) ∧ Hid (wr.heap[w.heap.size]? = some (.cells (cells8 [0, 0, 0, 0]) 65 (0, 0))) ∧ Hid (wr.heap[w.heap.size + 1]? = some (.cells (cells8 l) 65 (0, 0))) ∧ Hid (Below w.heap.size w wr)) (fun ix _ => 4 - (intOf ix).toNat)
  case atStart =>
    refine ⟨0, _, rfl, .inl ⟨rfl, rfl⟩, ?_, ?_, ?_⟩
    · exact heap_alloc2_old w _ _
    · exact heap_alloc2_new w _ _
    · exact (HB _).out.alloc (by simp) _
  case round =>
    obtain ⟨j, l, rfl, hj, H0, H1, HBW⟩ := hrel
    obtain ⟨rfl, rfl⟩ | ⟨rfl, rfl⟩ | ⟨rfl, rfl⟩ | ⟨rfl, rfl⟩ | ⟨rfl, rfl⟩ := hj
    · have hcell : wr.cell? ⟨w.heap.size + 1, 0, none⟩ = some (.int .u8 0) := by rw [cell_of_row wr (w.heap.size + 1) 0 _ _ _ H1.out]; rfl
      have hfr : wr.frozen? ⟨w.heap.size + 1, 0, none⟩ = false := by
        have h := H1.out
        simp [World.frozen?, h]
      go_wp2
      go_roundw
      case rel =>
        refine ⟨1, [a, 0, 0, 0], rfl, .inr (.inl ⟨rfl, rfl⟩), ?_, ?_, ?_⟩
        · show (World.setCell _ _ _).heap[_]? = _
          rw [heap_setCell_other _ _ _ _ (by show w.heap.size ≠ w.heap.size + 1; omega)]; exact H0.out
        · show (World.setCell _ _ _).heap[_]? = _
          rw [heap_setCell_same _ _ _ _ _ _ H1.out, cells8_set]; rfl
        · exact HBW.out.setCell (by show w.heap.size ≤ w.heap.size + 1; omega) _
      case measure => simp [intOf]
    · have hcell : wr.cell? ⟨w.heap.size + 1, 1, none⟩ = some (.int .u8 0) := by rw [cell_of_row wr (w.heap.size + 1) 1 _ _ _ H1.out]; rfl
      have hfr : wr.frozen? ⟨w.heap.size + 1, 1, none⟩ = false := by
        have h := H1.out
        simp [World.frozen?, h]
      go_wp2
      go_roundw
      case rel =>
        refine ⟨2, [a, b, 0, 0], rfl, .inr (.inr (.inl ⟨rfl, rfl⟩)), ?_, ?_, ?_⟩
        · show (World.setCell _ _ _).heap[_]? = _
          rw [heap_setCell_other _ _ _ _ (by show w.heap.size ≠ w.heap.size + 1; omega)]; exact H0.out
        · show (World.setCell _ _ _).heap[_]? = _
          rw [heap_setCell_same _ _ _ _ _ _ H1.out, cells8_set]; rfl
        · exact HBW.out.setCell (by show w.heap.size ≤ w.heap.size + 1; omega) _
      case measure => simp [intOf]
    · have hcell : wr.cell? ⟨w.heap.size + 1, 2, none⟩ = some (.int .u8 0) := by rw [cell_of_row wr (w.heap.size + 1) 2 _ _ _ H1.out]; rfl
      have hfr : wr.frozen? ⟨w.heap.size + 1, 2, none⟩ = false := by
        have h := H1.out
        simp [World.frozen?, h]
      go_wp2
      go_roundw
      case rel =>
        refine ⟨3, [a, b, c, 0], rfl, .inr (.inr (.inr (.inl ⟨rfl, rfl⟩))), ?_, ?_, ?_⟩
        · show (World.setCell _ _ _).heap[_]? = _
          rw [heap_setCell_other _ _ _ _ (by show w.heap.size ≠ w.heap.size + 1; omega)]; exact H0.out
        · show (World.setCell _ _ _).heap[_]? = _
          rw [heap_setCell_same _ _ _ _ _ _ H1.out, cells8_set]; rfl
        · exact HBW.out.setCell (by show w.heap.size ≤ w.heap.size + 1; omega) _
      case measure => simp [intOf]
    · have hcell : wr.cell? ⟨w.heap.size + 1, 3, none⟩ = some (.int .u8 0) := by rw [cell_of_row wr (w.heap.size + 1) 3 _ _ _ H1.out]; rfl
      have hfr : wr.frozen? ⟨w.heap.size + 1, 3, none⟩ = false := by
        have h := H1.out
        simp [World.frozen?, h]
      go_wp2
      go_roundw
      case rel =>
        refine ⟨4, [a, b, c, d], rfl, .inr (.inr (.inr (.inr (⟨rfl, rfl⟩)))), ?_, ?_, ?_⟩
        · show (World.setCell _ _ _).heap[_]? = _
          rw [heap_setCell_other _ _ _ _ (by show w.heap.size ≠ w.heap.size + 1; omega)]; exact H0.out
        · show (World.setCell _ _ _).heap[_]? = _
          rw [heap_setCell_same _ _ _ _ _ _ H1.out, cells8_set]; rfl
        · exact HBW.out.setCell (by show w.heap.size ≤ w.heap.size + 1; omega) _
      case measure => simp [intOf]
    · go_wp2_with (first
        | (refine wpList_load_row (by rfl) 65 (.tmp 3) (by rfl) (w.heap.size + 1) (by rfl) 65 (cells8 [a, b, c, d]) (0, 0) _ H1.out Try.underlying65 (by rfl) HI.out ?_)
        | (refine wpList_store_row (by rfl) 65 (.tmp 2) (.tmp 16) (by rfl) w.heap.size (cells8 [a, b, c, d]) (by rfl) (by rfl) 65 (cells8 [0, 0, 0, 0]) H0.out HI.out HI3.out (cells8_one _) ?_))
      try rw [Exit.noGoto_ret]
      refine bodyPost_ret (results_cell_row (by rfl) _ _ w.heap.size 65 (cells8 [a, b, c, d]) (0, 0) _ (by rfl) (setRow_heap _ _ _ _ _ _ H0.out) Try.underlying65 (by rfl) HI.out) rfl ?_
      exact ⟨rfl, below_setRow HBW.out (Nat.le_refl _) _⟩

set_option maxHeartbeats 1600000 in
set_option maxRecDepth 100000 in
theorem cseal_is (a : Option Addr) (n1 cap : Nat) (b : List Int) (w : World) (hs : Sl .u8 w a n1 cap b) (hb1 : n1 ≤ 200000000000) :
    Calls Try.prog 11 #[.slice a n1 cap] w fun e w' => MadeB w w' e (Crc.lock b) := by
  have hsum := Crc.sum_lt hs.bytes
  obtain ⟨s, hsd⟩ : ∃ s, s = Crc.sum b := ⟨_, rfl⟩
  rw [← hsd] at hsum
  have HSD := Lib.hid hsd
  have HL := Lib.hid hs.1
  have HS := Lib.hid hs
  have HCS : Hid (Calls Try.prog 27 #[.slice a n1 cap] w fun e w' => e = .returned (.int .u32 ((s : Nat) : Int)) ∧ w = w') := by
    have h := csum_is a n1 cap b w hs
    rw [← hsd] at h; exact h
  have HC := Lib.hid (fun w => cbytesOf_is s hsum w)
  have HW := Lib.hid (le4_wf s)
  have h4 : (Crc.le4 s).length = 4 := rfl
  have HI : Hid ((Try.prog.info? 65).map (·.size) = some (cells8 (Crc.le4 s)).size) := by show _ = _; rw [info_four, cells8_size]; rfl
  have HI3 : Hid ((cells8 [0, 0, 0, 0]).size = (cells8 (Crc.le4 s)).size) := rfl
  clear hs hsd hsum
  go_enter Try.func11, Try.ntmps11
  go_wp2_with (first
    | (go_at_call 27; refine HCS.out.mono ?_; rintro e wz ⟨rfl, hwz⟩; subst hwz)
    | (go_at_call 26; refine (HC.out _).mono ?_; rintro e w1 ⟨rfl, hb⟩; have HB := Lib.hid hb; clear hb)
    | (refine wpList_store_g (by rfl) 65 (.tmp 3) (.tmp 6) (by rfl) _ (cells8 (Crc.le4 s)) (by rfl) (by rfl) 65 (cells8 [0, 0, 0, 0]) (heap_alloc_new _ _) HI.out HI3.out (cells8_one _) ?_; intro w2 hh2 hg2 hs2; have HB2 := Lib.hid (below_made HB.out hg2); have HX2 := Lib.hid (Sl.of_heap (k := .u8) hh2 HW.out h4 (by unfold maxLen; omega)); clear hh2 hg2 hs2)
    | fail)
  obtain ⟨W3, hW3⟩ : ∃ W3, W3 = w2.alloc (.cells #[.slice a n1 cap, .slice (some ⟨w1.heap.size, 0, none⟩) 4 4] 29) := ⟨_, rfl⟩
  rw [← hW3]
  have hB3 : Below w.heap.size w W3 := by rw [hW3]; exact HB2.out.alloc HB2.out.size _
  have hx : W3.cell? ⟨w2.heap.size, 0, none⟩ = some (.slice a n1 cap) := by rw [hW3, World.cell?_alloc_at (w := w2) _ _ _ 0 rfl]; rfl
  have hy : W3.cell? ⟨w2.heap.size, 1, none⟩ = some (.slice (some ⟨w1.heap.size, 0, none⟩) 4 4) := by rw [hW3, World.cell?_alloc_at (w := w2) _ _ _ 1 rfl]; rfl
  have HX3 : Hid (Sl .u8 W3 (some ⟨w1.heap.size, 0, none⟩) 4 4 (Crc.le4 s)) := by show Sl _ _ _ _ _ _; rw [hW3]; exact HX2.out.alloc _
  have HB3 := Lib.hid hB3
  clear hW3 hB3
  refine (concat_is w2.heap.size 2 a _ n1 cap 4 4 b (Crc.le4 s) W3 hx hy (HS.out.below HB3.out (Nat.le_refl _)) HX3.out (by omega) hb1 (by omega)).mono ?_
  rintro e w4 ⟨a4, c4, rfl, hown, hnil, hb⟩
  have HO := Lib.hid (owns_base hown HB3.out.size)
  have HNL := Lib.hid hnil
  have HB4 := Lib.hid (HB3.out.trans (hb.mono HB3.out.size))
  clear hown hnil hb
  go_wp2
  go_ret
  refine ⟨a4, n1 + 4, c4, rfl, by rw [Crc.lock_length, HL.out], ?_, HNL.out, HB4.out⟩
  rw [Crc.lock, ← HSD.out]
  exact HO.out

end Go.Proofs.Ytbfjihbkkcggmaa
