/- The document's Same and Few of words, and order's own: a word in memory of its own. -/
import Derived.Test.YtimjdlbhbiklgaaPackB
import Derived.Test.YtimjdlbhbiklgaaOrderWalkA
import Derived.Test.YtimjdlbhbiklgaaOrderWords
import Derived.Deep.OwnRows
import Derived.Laws.CopyOwn
namespace Go.Proofs.Ytimjdlbhbiklgaa
open Go.RowKit

set_option maxRecDepth 100000 in
theorem nums_take_same {xs ys : List Wd} {j : Nat} (h : (nums xs).take j = (nums ys).take j) (hx : j < xs.length) (hy : j < ys.length) (e : (nums xs).getD j [] = (nums ys).getD j []) :
    (nums xs).take (j + 1) = (nums ys).take (j + 1) := by
  have hx' : j < (nums xs).length := by rw [nums_length]; exact hx
  have hy' : j < (nums ys).length := by rw [nums_length]; exact hy
  rw [List.take_succ_eq_append_getElem hx', List.take_succ_eq_append_getElem hy', h]
  simp only [List.getD_eq_getElem?_getD, List.getElem?_eq_getElem hx', List.getElem?_eq_getElem hy', Option.getD_some] at e
  rw [e]

set_option maxRecDepth 100000 in
set_option maxHeartbeats 800000 in
theorem sames_is (a b : Option Addr) (n m cap cap2 : Nat) (xs ys : List Wd) (r : Bool) (w : World) (ha : Ws w a n cap xs) (hb : Ws w b m cap2 ys) (h : decide (nums xs = nums ys) = r) :
    Calls Try.prog 14 #[.slice a n cap, .slice b m cap2] w fun e w' => e = .returned (.bool r) ∧ ∃ q, w' = w.drewN q := by
  subst h
  have hnc := ha.2.1
  have hcm := ha.2.2.1
  unfold maxLen at hcm
  have hmc := hb.2.1
  have hcm2 := hb.2.2.1
  unfold maxLen at hcm2
  have HA := Lib.hid ha
  have HB := Lib.hid hb
  clear ha hb
  by_cases hnm : n = m
  · subst hnm
    go_enter Try.func14, Try.ntmps14
    go_wp2
    go_loopw [5] (fun ix wr => ∃ j : Nat, j ≤ n ∧ ix = .int .i64 (j : Int) ∧ Hid ((nums xs).take j = (nums ys).take j) ∧ Hid (∃ q, wr = w.drewN q)) (fun ix _ => n - (intOf ix).toNat)
    case atStart => exact ⟨0, Nat.zero_le _, rfl, rfl, ⟨0, rfl⟩⟩
    case round =>
      obtain ⟨j, hj, rfl, HT, HQ⟩ := hrel
      by_cases hlt : j < n
      · obtain ⟨b1, o1, a3, n3, c3, z3, rfl, _, _, hx1, hs1, hz1⟩ := (HA.out.drawn HQ.out).one j hlt
        obtain ⟨b2, o2, a4, n4, c4, z4, rfl, _, _, hx2, hs2, hz2⟩ := (HB.out.drawn HQ.out).one j hlt
        have HS1 := Lib.hid hs1
        have HS2 := Lib.hid hs2
        have HZ1 := Lib.hid hz1
        have HZ2 := Lib.hid hz2
        have hlti : (j : Int) < (n : Int) := by omega
        clear hs1 hs2 hz1 hz2
        by_cases he : z3 = z4
        · have hd : decide (z3 = z4) = true := by simpa using he
          have HE := Lib.hid he
          have HD := Lib.hid hd
          clear hd he
          go_wp2
          go_quiet ((go_at_call 34; exact Calls.quiet_of (same_is _ _ _ _ _ _ z3 z4 true _ (HS1.out.drewN _) (HS2.out.drewN _) HD.out)))
          go_wp2
          go_roundw
          case rel => exact ⟨j + 1, by omega, by go_num, nums_take_same HT.out (by rw [HA.out.1]; exact hlt) (by rw [HB.out.1]; exact hlt) (by rw [HZ1.out, HZ2.out, HE.out]), (by obtain ⟨q, hq⟩ := HQ.out; exact ⟨_, by rw [hq, World.drewN_drewN]⟩)⟩
          case measure => simp [intOf]; omega
        · have hd : decide (z3 = z4) = false := by simpa using he
          have hfin : decide (nums xs = nums ys) = false := by
            rw [decide_eq_false_iff_not]; intro h; apply he; rw [← HZ1.out, ← HZ2.out, h]
          have HF := Lib.hid hfin
          have HD := Lib.hid hd
          clear he hfin hd
          go_wp2
          go_quiet ((go_at_call 34; exact Calls.quiet_of (same_is _ _ _ _ _ _ z3 z4 false _ (HS1.out.drewN _) (HS2.out.drewN _) HD.out)))
          go_wp2
          go_ret
          exact ⟨by rw [HF.out]; rfl, (by obtain ⟨q, hq⟩ := HQ.out; exact ⟨_, by rw [hq, World.drewN_drewN]⟩)⟩
      · have hfin : decide (nums xs = nums ys) = true := by
          rw [decide_eq_true_iff]
          have h := HT.out
          rwa [List.take_of_length_le (by rw [nums_length, HA.out.1]; omega), List.take_of_length_le (by rw [nums_length, HB.out.1]; omega)] at h
        have HF := Lib.hid hfin
        clear hfin
        go_wp2
        go_ret
        exact ⟨by rw [HF.out]; rfl, HQ.out⟩
  · have hfin : decide (nums xs = nums ys) = false := by
      rw [decide_eq_false_iff_not]; intro h
      have := congrArg List.length h
      rw [nums_length, nums_length, HA.out.1, HB.out.1] at this
      exact hnm this
    have h1 : ((n : Int) == (m : Int)) = false := by simp; omega
    have h2 : ((n : Int) != (m : Int)) = true := by simp; omega
    rw [hfin]
    clear hfin
    go_enter Try.func14, Try.ntmps14
    go_wp2
    go_ret
    exact ⟨rfl, 0, rfl⟩

/-- no word longer than a hundred -/
def Short (xs : List Wd) : Prop := ∀ x ∈ xs, x.n ≤ 100
def FewOf (xs : List Wd) (n : Nat) : Prop := Short xs ∧ n ≤ 200
def FewK (K : Nat) (xs : List Wd) (n : Nat) : Prop := Short xs ∧ n ≤ K

set_option maxRecDepth 100000 in
set_option maxHeartbeats 800000 in
theorem few_of (K : Nat) (kk : Int) (a : Option Addr) (n cap : Nat) (xs : List Wd) (w : World) (hk : kk = (K : Int)) (ha : Ws w a n cap xs) :
    Calls Try.prog 21 #[.slice a n cap, .int .i64 kk] w fun e w' => (e = .returned (.bool false) ∨ e = .returned (.bool true) ∧ FewK K xs n) ∧ w = w' := by
  have hnc := ha.2.1
  have hcm := ha.2.2.1
  unfold maxLen at hcm
  have HA := Lib.hid ha
  have HK := Lib.hid hk
  clear ha hk
  go_enter Try.func21, Try.ntmps21
  go_wp2
  go_loop [5] (fun ix => ∃ j : Nat, j ≤ n ∧ ix = .int .i64 (j : Int) ∧ Hid (Short (xs.take j))) (fun ix => n - (intOf ix).toNat)
  case atStart => exact ⟨0, Nat.zero_le _, rfl, (by intro x hx; simp at hx)⟩
  case round =>
    obtain ⟨j, hj, rfl, HT⟩ := hrel
    by_cases hlt : j < n
    · obtain ⟨b1, o1, a3, n3, c3, z3, rfl, _, hx, hx1, hs1, _⟩ := HA.out.one j hlt
      have hlti : (j : Int) < (n : Int) := by omega
      have hnc3 := hs1.2.1
      have hcm3 := hs1.2.2.1
      unfold maxLen at hcm3
      have HX := Lib.hid hx
      clear hs1 hx
      by_cases he : 100 < n3
      · have hei : (100 : Int) < (n3 : Int) := by omega
        go_wp2
        go_ret
        exact ⟨.inl rfl, rfl⟩
      · have hei : ¬ (100 : Int) < (n3 : Int) := by omega
        go_wp2
        go_round
        case rel =>
          refine ⟨j + 1, by omega, by go_num, ?_⟩
          have hjl : j < xs.length := by rw [HA.out.1]; exact hlt
          intro x hx
          rw [List.take_succ_eq_append_getElem hjl] at hx
          rcases List.mem_append.1 hx with hx | hx
          · exact HT.out x hx
          · simp only [List.mem_singleton] at hx
            have e := HX.out
            rw [List.getD_eq_getElem?_getD, List.getElem?_eq_getElem hjl, Option.getD_some] at e
            rw [hx, e]
            show n3 ≤ 100
            omega
        case measure => simp [intOf]; omega
    · have hfin : xs.take j = xs := List.take_of_length_le (by rw [HA.out.1]; omega)
      rw [hfin] at HT
      clear hfin
      by_cases h2 : n ≤ K
      · have hi : decide ((n : Int) ≤ kk) = true := by rw [HK.out]; simp; omega
        have HI := Lib.hid hi
        clear hi
        go_wp2
        go_ret
        exact ⟨.inr ⟨by show Ending.returned (.bool (decide ((n : Int) ≤ kk))) = _; rw [HI.out], ⟨HT.out, h2⟩⟩, rfl⟩
      · have hi : decide ((n : Int) ≤ kk) = false := by rw [HK.out]; simp; omega
        have HI := Lib.hid hi
        clear hi
        go_wp2
        go_ret
        exact ⟨.inl (by show Ending.returned (.bool (decide ((n : Int) ≤ kk))) = _; rw [HI.out]), rfl⟩
set_option maxRecDepth 100000 in
theorem few_any (a : Option Addr) (n cap : Nat) (xs : List Wd) (w : World) (ha : Ws w a n cap xs) :
    Calls Try.prog 21 #[.slice a n cap, .int .i64 200] w fun e w' => (e = .returned (.bool false) ∨ e = .returned (.bool true) ∧ FewOf xs n) ∧ w = w' :=
  few_of 200 200 a n cap xs w rfl ha

set_option maxRecDepth 100000 in
theorem info_int : (Try.prog.info? 3).map (fun i => (i.zero, i.size, i.bytes)) = some (some (.int .i64 0), 1, 8) := by kernel_rfl
set_option maxRecDepth 100000 in
theorem info_words : (Try.prog.info? 23).map (fun i => (i.zero, i.size, i.bytes)) = some (some (.slice none 0 0), 1, 24) := by kernel_rfl

set_option maxRecDepth 100000 in
theorem size_int : (Try.prog.info? 3).map (·.size) = some 1 := by kernel_rfl
set_option maxRecDepth 100000 in
theorem size_words : (Try.prog.info? 23).map (·.size) = some 1 := by kernel_rfl

end Go.Proofs.Ytimjdlbhbiklgaa
