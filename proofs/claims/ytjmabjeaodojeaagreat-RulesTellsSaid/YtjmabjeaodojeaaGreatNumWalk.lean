/- Used by the law. -/
import Derived.ScopeJumps
import Derived.Deep.OwnRows
import Derived.Test.YtjmabjeaodojeaaGreatNumRef
namespace Go.Proofs.YtjmabjeaodojeaaGreat
open Go.RowKit

theorem val_le (zs : List Int) : ∀ k, Num.val (zs.take k) ≤ Num.val zs := by
  intro k
  have h : ∀ (b : List Int) (a : Nat), a ≤ b.foldl (fun a d => a * 10 + (d - 48).toNat) a := by
    intro b
    induction b with
    | nil => intro a; exact Nat.le_refl _
    | cons d b ih => intro a; exact Nat.le_trans (by show a ≤ a * 10 + (d - 48).toNat; omega) (ih _)
  unfold Num.val
  conv => rhs; rw [← List.take_append_drop k zs, List.foldl_append]
  exact h _ _

set_option maxRecDepth 100000 in
theorem digit_is (d : Nat) (hd : d < 10) (w : World) :
    Calls Tryz.prog 66 #[.int .u64 (d : Int)] w fun e w' => e = .returned (.int .i32 (48 + (d : Int))) ∧ w' = w := by
  go_enter Tryz.func66, Tryz.ntmps66
  go_wp2
  go_ret
  exact ⟨rfl, rfl⟩

set_option maxRecDepth 100000 in
theorem digit_0 (w : World) : Calls Tryz.prog 66 #[.int .u64 0] w fun e w' => e = .returned (.int .i32 48) ∧ w' = w := digit_is 0 (by omega) w

set_option maxRecDepth 100000 in
theorem value_is (d : Nat) (hd : d < 10) (w : World) :
    Calls Tryz.prog 67 #[.int .i32 (48 + (d : Int))] w fun e w' => e = .returned (.tuple #[.int .u64 (d : Int), .bool true]) ∧ w' = w := by
  have h1 : ¬ (48 + (d : Int)) < 48 := by omega
  have h2 : ¬ 57 < (48 + (d : Int)) := by omega
  go_enter Tryz.func67, Tryz.ntmps67
  go_wp2
  go_ret2
  have e : 48 + (d : Int) - 48 = (d : Int) := by omega
  exact ⟨by rw [e]; rfl, rfl⟩

set_option maxRecDepth 100000 in
theorem value_none (x : Int) (h0 : 0 ≤ x) (h255 : x ≤ 255) (h : x < 48 ∨ 57 < x) (w : World) :
    Calls Tryz.prog 67 #[.int .i32 x] w fun e w' => e = .returned (.tuple #[.int .u64 0, .bool false]) ∧ w' = w := by
  rcases h with h | h
  · go_enter Tryz.func67, Tryz.ntmps67
    go_wp2
    go_ret2
    exact ⟨rfl, rfl⟩
  · have h1 : ¬ x < 48 := by omega
    go_enter Tryz.func67, Tryz.ntmps67
    go_wp2
    go_ret2
    exact ⟨rfl, rfl⟩

theorem len_big {c : Nat} (h : 10 ≤ c) : (Num.dig c).length = (Num.dig (c / 10)).length + 1 := by rw [Num.dig_big h]; simp
theorem len_small {c : Nat} (h : c < 10) : (Num.dig c).length = 1 := by rw [Num.dig_small h]; rfl

set_option maxRecDepth 100000 in
theorem count_is (c n : Nat) (hc : c < 18446744073709551616) (hn : (Num.dig c).length = n) (w : World) :
    Calls Tryz.prog 85 #[.int .u64 (c : Int)] w fun e w' => e = .returned (.int .i64 (n : Int)) ∧ w' = w := by
  have h20 := Num.len_20 hc
  have HN := Lib.hid hn
  clear hn
  go_enter Tryz.func85, Tryz.ntmps85
  go_wp2
  go_loopw [0, 3] (fun cv nv wr => ∃ (v k : Nat), cv = .int .u64 (v : Int) ∧ nv = .int .i64 (k : Int) ∧ v < 18446744073709551616 ∧ k ≤ 20 ∧ Hid (k + (Num.dig v).length = n + 1) ∧ Hid (wr = w)) (fun cv _ _ => (intOf cv).toNat)
  case atStart => exact ⟨c, 1, rfl, rfl, hc, by omega, (by show 1 + (Num.dig c).length = n + 1; rw [HN.out]; omega), (by first | exact (trivial : True) | rfl)⟩
  case round =>
    obtain ⟨v, k, rfl, rfl, hv, hk, H, HW⟩ := hrel
    obtain rfl := HW.out
    clear HW
    by_cases h10 : 10 ≤ v
    · have hz : (10 : Int) ≤ (v : Int) := by omega
      have h1 := H.out
      rw [len_big h10] at h1
      have h2 := Num.dig_pos (v / 10)
      have hk19 : k + 1 ≤ 20 := by have := HN.out; omega
      have H1 : Hid (k + 1 + (Num.dig (v / 10)).length = n + 1) := by show _ = _; omega
      clear h1 h2
      go_wp2
      go_roundw
      case rel => exact ⟨v / 10, k + 1, by go_num, by go_num, by omega, hk19, H1.out, (by first | exact (trivial : True) | rfl)⟩
      case measure => simp [intOf]; omega
    · have hz : ¬ (10 : Int) ≤ (v : Int) := by omega
      have h1 := H.out
      rw [len_small (by omega)] at h1
      obtain rfl : k = n := by omega
      clear h1
      go_wp2
      go_ret
      exact ⟨rfl, rfl⟩

def Told1 (c v j n : Nat) (xs : List Int) : Prop :=
  xs.length = n ∧ j ≤ n ∧ (∀ z ∈ xs, (Lit.int .u8 z).wf = true) ∧ ((j = 0 ∧ xs = Num.dig c) ∨ (0 < j ∧ Num.dig c = Num.dig v ++ xs.drop j ∧ (Num.dig v).length = j))

theorem drop_set {xs : List Int} {j : Nat} (h : j < xs.length) (d : Int) : (xs.set j d).drop j = d :: xs.drop (j + 1) := by
  rw [List.drop_eq_getElem_cons (by simpa using h)]
  simp [List.drop_set_of_lt]

theorem Told1.step {c v j n : Nat} {xs : List Int} (h : Told1 c v (j + 1) n xs) : Told1 c (v / 10) j n (xs.set j (48 + ((v % 10 : Nat) : Int))) := by
  obtain ⟨h1, hj, h2, h3⟩ := h
  rcases h3 with ⟨h3, _⟩ | ⟨_, h3, h4⟩
  · omega
  have hjn : j < xs.length := by omega
  refine ⟨by simpa using h1, by omega, fun z hz => ?_, ?_⟩
  · rcases List.mem_or_eq_of_mem_set hz with h | h
    · exact h2 z h
    · rw [h]; exact WalkArith.wf_u8 ⟨by omega, by omega⟩
  by_cases h10 : 10 ≤ v
  · rw [len_big h10] at h4
    rw [Num.dig_big h10] at h3
    right
    refine ⟨by have := Num.dig_pos (v / 10); omega, ?_, by omega⟩
    rw [drop_set hjn, h3]; simp
  · rw [len_small (by omega)] at h4
    obtain rfl : j = 0 := by omega
    rw [Num.dig_small (c := v) (by omega)] at h3
    left
    refine ⟨rfl, ?_⟩
    have := drop_set hjn (48 + ((v % 10 : Nat) : Int))
    rw [List.drop_zero] at this
    rw [this, h3, Nat.mod_eq_of_lt (by omega)]; rfl

set_option maxHeartbeats 3200000 in
set_option maxRecDepth 100000 in
theorem write_any (c : Nat) (hc : c < 18446744073709551616) (w : World) :
    Calls Tryz.prog 50 #[.int .u64 c] w fun e w' => BytesIs w w' e (Num.dig c) := by
  have h20 := Num.len_20 hc
  obtain ⟨n, hn⟩ : ∃ n, n = (Num.dig c).length := ⟨_, rfl⟩
  rw [← hn] at h20
  have hmk := run_make_row' (P := Tryz.prog) 22 5 (.int .u8 0) 1 Tryz.underlying22 info_u8 rfl .i64 .i64 n (by omega) (by omega)
  have hown0 : ∀ w : World, (w.alloc (.cells (madeCells #[.int .u8 0] n) 5)).ownsRow w.heap.size 5 1 (.slice (some ⟨w.heap.size, 0, none⟩) n n) n (u8s (List.replicate n 0)) := fun w => by
    have h := World.ownsRow_lit (base := w.heap.size) (e := 5) (size := 1) w (madeCells #[.int .u8 0] n) n (Nat.le_refl _) (by unfold maxLen; omega) (by simp [madeCells])
    have e : (madeCells #[Value.int .u8 0] n).toList = u8s (List.replicate n 0) := by
      apply List.ext_getElem
      · simp [madeCells, u8s]
      · intro i h1 h2
        simp [madeCells, u8s, Nat.mod_one]
    rw [← e]; exact h
  have H0 : Hid (Told1 c c n n (List.replicate n 0)) := by
    refine ⟨by simp, Nat.le_refl _, fun z hz => by rw [(List.mem_replicate.1 hz).2]; exact WalkArith.wf_u8 ⟨by omega, by omega⟩, .inr ⟨by have := Num.dig_pos c; omega, by simp, hn.symm⟩⟩
  have HN := Lib.hid hn
  have HO := Lib.hid hown0
  clear hn hown0
  go_enter Tryz.func50, Tryz.ntmps50
  go_wp2_with (go_at_call 85; refine (count_is _ n hc HN.out.symm _).mono ?_; rintro e w1 ⟨rfl, hw1⟩; obtain rfl := hw1.symm)
  go_loopw [0, 4] (fun cv ix wr => ∃ (v j : Nat) (jx : Int) (xs : List Int), cv = .int .u64 (v : Int) ∧ ix = .int .i64 jx ∧ jx = (j : Int) - 1 ∧ j ≤ n ∧ v < 18446744073709551616 ∧ Hid (Told1 c v j n xs) ∧ Hid (wr.ownsRow w.heap.size 5 1 (.slice (some ⟨w.heap.size, 0, none⟩) n n) n (u8s xs)) ∧ Hid (Below w.heap.size w wr)) (fun _ ix _ => (intOf ix + 1).toNat)
  case atStart => exact ⟨c, n, (n : Int) - 1, _, rfl, by go_num, rfl, Nat.le_refl _, hc, H0.out, HO.out _, (Below.refl _ w).alloc (Nat.le_refl _) _⟩
  case round =>
    obtain ⟨v, j, jx, xs, rfl, rfl, hjx, hjn, hv, H, HOW, HB⟩ := hrel
    by_cases hj : j = 0
    · have hneg' : ¬ 0 ≤ jx := by omega
      subst hj
      clear hjx hmk
      go_wp2
      go_ret
      refine ⟨_, n, n, rfl, HN.out, ?_, (fun h => by cases h), HB.out⟩
      rcases H.out.2.2.2 with ⟨_, h⟩ | ⟨h, _⟩
      · rw [← h]; exact HOW.out
      · omega
    · obtain ⟨i, rfl⟩ : ∃ i, j = i + 1 := ⟨j - 1, by omega⟩
      obtain rfl : jx = (i : Int) := by omega
      have hil : i < xs.length := by rw [H.out.1]; omega
      obtain ⟨x, hx⟩ : ∃ x, x = xs.getD i 0 := ⟨_, rfl⟩
      have hcell : wr.cell? ⟨w.heap.size, i, none⟩ = some (.int .u8 x) := by
        rw [HOW.out.cellAt i (by omega)]
        simp [u8s, hil, hx]
      have hfr : wr.frozen? ⟨w.heap.size, i, none⟩ = false := HOW.out.frozenAt i
      have H1 := Lib.hid H.out.step
      have HOW1 := Lib.hid (owns_set HOW.out i (48 + ((v % 10 : Nat) : Int)))
      have HB1 : Hid (Below w.heap.size w (wr.setCell ⟨w.heap.size, i, none⟩ (.int .u8 (48 + ((v % 10 : Nat) : Int))))) := HB.out.setCell (p := ⟨w.heap.size, i, none⟩) (Nat.le_refl _) _
      obtain ⟨d, hd⟩ : ∃ d, d = v % 10 := ⟨_, rfl⟩
      have hd10 : d < 10 := by omega
      have hdv : (v : Int) % 10 = (d : Int) := by omega
      have hin : (i : Int) < (n : Int) := by omega
      rw [← hd] at H1 HOW1 HB1
      have HJN := Lib.hid hjn
      clear hx hil hmk hjx hj hjn hd
      go_wp2_with (go_at_call 66; refine (digit_is d hd10 _).mono ?_; rintro e w1 ⟨rfl, hw1⟩; obtain rfl := hw1.symm)
      go_roundw
      case rel => exact ⟨v / 10, i, (i : Int) - 1, _, by go_num, by go_num, rfl, (by have := HJN.out; omega), by omega, H1.out, HOW1.out, HB1.out⟩
      case measure => first | (simp [intOf]; done) | (simp [intOf]; omega)

set_option maxHeartbeats 3200000 in
set_option maxRecDepth 100000 in
theorem read_any (a : Option Addr) (n cap : Nat) (zs : List Int) (w : World) (hs : Sl .u8 w a n cap zs) :
    Calls Tryz.prog 37 #[.slice a n cap] w fun e w' => Told e (Num.read zs) ∧ Below w.heap.size w w' := by
  have hnc := hs.2.1
  have hcm := hs.2.2.1
  unfold maxLen at hcm
  have HS := Lib.hid hs
  clear hs
  obtain ⟨r, hrr⟩ : ∃ r, Num.read zs = r := ⟨_, rfl⟩
  rw [hrr]
  have HR := Lib.hid hrr
  clear hrr
  go_enter Tryz.func37, Tryz.ntmps37
  go_wp2
  refine wp_scope_jumps 0 (fun a' w' => (∃ q, w' = w.drewN q) ∧ r = none ∧ ∃ (u0 u1 u2 u3 u4 u5 u6 u7 u8 u9 u10 u11 u12 u13 u14 u15 u16 u17 u18 u19 u20 u21 u22 u23 u24 u25 u26 u27 u28 u29 u30 u31 u32 u33 u34 u35 u36 u37 u38 u39 u40 u41 u42 u43 u44 u45 u46 u47 u48 u49 : Value), a' = { tmps := #[u0, u1, u2, u3, u4, u5, u6, u7, u8, u9, u10, u11, u12, u13, u14, u15, u16, u17, u18, u19, u20, u21, u22, u23, u24, u25, u26, u27, u28, u29, u30, u31, u32, u33, u34, u35, u36, u37, u38, u39, u40, u41, u42, u43, u44, u45, u46, u47, u48, u49], defers := [] }) (fun _ _ => 0) rfl ?_ ?_
  · by_cases h0 : n = 0
    · have hz : zs = [] := List.eq_nil_of_length_eq_zero (by rw [HS.out.1, h0])
      have hb : ((n : Int) == 0) = true := by simp [h0]
      have hr : Num.read zs = none := by rw [hz]; exact Num.read_none_nil
      rw [HR.out] at hr
      have HN := Lib.hid hr
      clear hz h0 hr
      go_wp2
      go_step3
      exact ⟨rfl, ⟨0, rfl⟩, HN.out, _, _, _, _, _, _, _, _, _, _, _, _, _, _, _, _, _, _, _, _, _, _, _, _, _, _, _, _, _, _, _, _, _, _, _, _, _, _, _, _, _, _, _, _, _, _, _, _, _, _, rfl⟩
    have hb0 : ((n : Int) == 0) = false := by simp; omega
    obtain ⟨b, off, rfl, _, hc⟩ := HS.out.at (by omega)
    have hx0 := hc 0 (by omega)
    have hni : (0 : Int) < (n : Int) := by omega
    have hx00 := hx0
    have hnn : 0 < n := by omega
    obtain ⟨hb00, hb255⟩ := bounds_u8 (HS.out.2.2.2.1 _ (getD_mem (i := 0) (by rw [HS.out.1]; omega)))
    rw [Nat.add_zero] at hx0
    have HC := Lib.hid hc
    clear hc
    obtain ⟨x0, hxe⟩ : ∃ x0, x0 = zs.getD 0 0 := ⟨_, rfl⟩
    rw [← hxe] at hx0 hx00 hb00 hb255
    have HXE := Lib.hid hxe
    clear hxe
    by_cases h48 : x0 = 48 ∧ 1 < n
    · obtain ⟨rfl, h1⟩ := h48
      have h1i : (1 : Int) < (n : Int) := by omega
      have hr : Num.read zs = none := Num.read_none_zero (by rw [HS.out.1]; exact h1) HXE.out.symm
      rw [HR.out] at hr
      have HN := Lib.hid hr
      clear hr h1
      go_wp2
      go_quiet ((go_at_call 66; exact Calls.quiet_of_same (digit_0 _)))
      go_wp2
      go_step3
      exact ⟨rfl, ⟨_, rfl⟩, HN.out, _, _, _, _, _, _, _, _, _, _, _, _, _, _, _, _, _, _, _, _, _, _, _, _, _, _, _, _, _, _, _, _, _, _, _, _, _, _, _, _, _, _, _, _, _, _, _, _, _, _, rfl⟩
    have hshape : n = 1 ∨ x0 ≠ 48 := by omega
    have HSH := Lib.hid hshape
    have hguard : decide ((1 : Int) < (n : Int)) = false ∨ ((1 : Int) < (n : Int) ∧ (x0 == 48) = false) := by
      rcases hshape with h | h
      · left; simp; omega
      · by_cases h1 : n = 1
        · left; simp; omega
        · right; exact ⟨by omega, by simpa using h⟩
    clear h48 hshape
    rcases hguard with hg | ⟨hg, hg1⟩
    all_goals (
      go_wp2
      first | (go_quiet ((go_at_call 66; exact Calls.quiet_of_same (digit_0 _)))) | (go_quiet (fail))
      go_wp2
      all_goals (try simp only [hg1])
      go_loopw [4, 25] (fun cv ix wr => ∃ i v : Nat, i ≤ n ∧ ix = .int .i64 (i : Int) ∧ cv = .int .u64 (v : Int) ∧ v < 18446744073709551615 ∧ Hid (v = Num.val (zs.take i)) ∧ Hid (∀ d ∈ zs.take i, 48 ≤ d ∧ d ≤ 57) ∧ Hid (∃ q, wr = w.drewN q)) (fun _ ix _ => n - (intOf ix).toNat)
      case atStart => exact ⟨0, 0, Nat.zero_le _, rfl, rfl, by omega, (by first | exact (trivial : True) | rfl), (by first | exact (trivial : True) | (intro x hx; simp at hx)), (by first | exact ⟨_, rfl⟩ | exact ⟨0, rfl⟩)⟩
      case round =>
        obtain ⟨i, v, hi, rfl, rfl, hv, HV, HD, HW⟩ := hrel
        by_cases hlt : i < n
        · have hx1 : wr.cell? ⟨b, off + i, none⟩ = some (.int .u8 (zs.getD i 0)) := by
            obtain ⟨q, hq⟩ := HW.out
            rw [hq]; exact HC.out i hlt
          have hil : i < zs.length := by rw [HS.out.1]; exact hlt
          have hvt := val_take hil
          have hdt := digits_take hil HD.out
          have hwf := bounds_u8 (HS.out.2.2.2.1 _ (getD_mem hil))
          have hmem := getD_mem hil
          obtain ⟨x, hx⟩ : ∃ x, x = zs.getD i 0 := ⟨_, rfl⟩
          rw [← hx] at hx1 hvt hdt hwf hmem
          obtain ⟨hx0, hx255⟩ := hwf
          have hlti : (i : Int) < (n : Int) := by omega
          have HM := Lib.hid hmem
          clear hx hil hmem
          by_cases h48 : x < 48
          · have hr : Num.read zs = none := Num.read_none_digit HM.out (by omega)
            rw [HR.out] at hr
            have HN := Lib.hid hr
            clear hvt hdt hr
            go_wp2_with (go_at_call 67; refine (value_none x hx0 hx255 (by omega) _).mono ?_; rintro e w1 ⟨rfl, hw1⟩; obtain rfl := hw1.symm)
            go_step3
            exact ⟨rfl, HW.out, HN.out, _, _, _, _, _, _, _, _, _, _, _, _, _, _, _, _, _, _, _, _, _, _, _, _, _, _, _, _, _, _, _, _, _, _, _, _, _, _, _, _, _, _, _, _, _, _, _, _, _, _, rfl⟩
          by_cases h57 : 57 < x
          · have hr : Num.read zs = none := Num.read_none_digit HM.out (by omega)
            rw [HR.out] at hr
            have HN := Lib.hid hr
            clear hvt hdt hr
            go_wp2_with (go_at_call 67; refine (value_none x hx0 hx255 (by omega) _).mono ?_; rintro e w1 ⟨rfl, hw1⟩; obtain rfl := hw1.symm)
            go_step3
            exact ⟨rfl, HW.out, HN.out, _, _, _, _, _, _, _, _, _, _, _, _, _, _, _, _, _, _, _, _, _, _, _, _, _, _, _, _, _, _, _, _, _, _, _, _, _, _, _, _, _, _, _, _, _, _, _, _, _, _, rfl⟩
          have HDT := Lib.hid (hdt ⟨by omega, by omega⟩)
          obtain ⟨d, hd⟩ : ∃ d : Nat, x = 48 + (d : Int) := ⟨(x - 48).toNat, by omega⟩
          subst hd
          have hd9 : d ≤ 9 := by omega
          have hvt2 : Num.val (zs.take (i + 1)) = v * 10 + d := by rw [hvt, ← HV.out]; omega
          have HVT := Lib.hid hvt2
          clear hvt hdt hvt2
          have hd10 : d < 10 := by omega
          by_cases hov : 18446744073709551614 < v * 10 + d
          · have hr : Num.read zs = none := Num.read_none_big (by have h1 := val_le zs (i + 1); have h2 := HVT.out; omega)
            rw [HR.out] at hr
            have HN := Lib.hid hr
            have hq : ((18446744073709551614 - (d : Int)) / 10) < (v : Int) := by omega
            clear hr
            go_wp2_with (go_at_call 67; refine (value_is d hd10 _).mono ?_; rintro e w1 ⟨rfl, hw1⟩; obtain rfl := hw1.symm)
            go_step3
            exact ⟨rfl, HW.out, HN.out, _, _, _, _, _, _, _, _, _, _, _, _, _, _, _, _, _, _, _, _, _, _, _, _, _, _, _, _, _, _, _, _, _, _, _, _, _, _, _, _, _, _, _, _, _, _, _, _, _, _, rfl⟩
          · have hq : ¬ ((18446744073709551614 - (d : Int)) / 10) < (v : Int) := by omega
            go_wp2_with (go_at_call 67; refine (value_is d hd10 _).mono ?_; rintro e w1 ⟨rfl, hw1⟩; obtain rfl := hw1.symm)
            go_roundw
            case rel => exact ⟨i + 1, v * 10 + d, by omega, by go_num, (by first | rfl | (congr 1; done) | (congr 1; omega)), by omega, HVT.out.symm, HDT.out, HW.out⟩
            case measure => simp [intOf]; omega
        · obtain rfl : i = n := by omega
          have htk : zs.take i = zs := List.take_of_length_le (by rw [HS.out.1]; exact Nat.le_refl _)
          have hv9 := HV.out
          have hd9 := HD.out
          rw [htk] at hv9 hd9
          have hr : Num.read zs = some v := by
            rw [hv9]
            refine Num.read_of ?_ hd9 ?_ (by omega)
            · intro h; rw [h] at HS; have := HS.out.1; simp at this; omega
            · rw [HS.out.1]
              rcases HSH.out with h | h
              · exact .inl h
              · right; rw [← HXE.out]; exact h
          rw [HR.out] at hr
          subst hr
          clear htk hv9 hd9 HV HD
          go_wp2
          simp only [Exit.jump]
          go_ret2
          exact ⟨.inl ⟨v, rfl, rfl⟩, below_drawn (Below.refl _ _) HW.out⟩)
  · rintro a' w' ⟨hw, rfl, u0, u1, u2, u3, u4, u5, u6, u7, u8, u9, u10, u11, u12, u13, u14, u15, u16, u17, u18, u19, u20, u21, u22, u23, u24, u25, u26, u27, u28, u29, u30, u31, u32, u33, u34, u35, u36, u37, u38, u39, u40, u41, u42, u43, u44, u45, u46, u47, u48, u49, rfl⟩
    go_wp2
    simp only [Exit.jump]
    go_ret2
    exact ⟨.inr ⟨rfl, rfl⟩, below_drawn (Below.refl _ _) hw⟩


end Go.Proofs.YtjmabjeaodojeaaGreat
