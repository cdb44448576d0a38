/- The document's Few, Step, Same and Check of layer 10. -/
import Derived.Test.YtehdojhblekgeaaTrieWords
import Derived.Test.YtehdojhblekgeaaOrderSame
import Derived.Test.YtehdojhblekgeaaGenGoodR
import Derived.Deep.RegionWith
namespace Go.Proofs.Ytehdojhblekgeaa
open Go.RowKit Tri

/-- no state with more than a hundred arcs -/
def ShortS (xs : List Sw) : Prop := ∀ x ∈ xs, x.n ≤ 100
set_option maxRecDepth 100000 in
theorem ShortS.snoc {xs : List Sw} {j : Nat} (h : ShortS (xs.take j)) (hj : j < xs.length) (hx : (xs.getD j Sw.no).n ≤ 100) : ShortS (xs.take (j + 1)) := by
  intro x hm
  rw [List.take_succ_eq_append_getElem hj] at hm
  rcases List.mem_append.1 hm with hm | hm
  · exact h x hm
  · rw [List.mem_singleton.1 hm]; simpa [hj] using hx

set_option maxRecDepth 100000 in
theorem rfew10_is (a : Option Addr) (n cap : Nat) (xs : List Sw) (most : Nat) (_hmost : most ≤ 10000) (w : World) (ha : Ss w a n cap xs) :
    Calls Try.prog 8 #[.slice a n cap, .int .i64 (most : Int)] w fun e w' => (e = .returned (.bool false) ∨ (e = .returned (.bool true) ∧ ShortS xs ∧ n ≤ most)) ∧ w' = w := by
  have hnc := ha.2.1
  have hcm := ha.2.2.1
  unfold maxLen at hcm
  have HA := Lib.hid ha
  clear ha
  go_enter Try.func8, Try.ntmps8
  go_wp2
  go_loopw [5] (fun ix wr => ∃ j : Nat, j ≤ n ∧ ix = .int .i64 (j : Int) ∧ Hid (ShortS (xs.take j)) ∧ Hid (wr = w)) (fun ix _ => n - (intOf ix).toNat)
  case atStart => exact ⟨0, Nat.zero_le _, rfl, (fun x hx => by simp at hx), rfl⟩
  case round =>
    obtain ⟨j, hj, rfl, HT, HW⟩ := hrel
    obtain rfl := HW.out
    clear HW
    by_cases hlt : j < n
    · obtain ⟨b1, o1, f, sa, sn, sc, arcs, rfl, _, hx1, hx2, _, hz1⟩ := HA.out.one j hlt
      have HZ1 := Lib.hid hz1
      have hlti : (j : Int) < (n : Int) := by omega
      clear hz1
      by_cases h1 : 100 < sn
      · have h1i : (100 : Int) < (sn : Int) := by omega
        go_wp2
        go_ret
        exact ⟨.inl rfl, rfl⟩
      have h1i : ¬ (100 : Int) < (sn : Int) := by omega
      go_wp2
      go_roundw
      case rel => exact ⟨j + 1, by omega, by go_num, HT.out.snoc (by rw [HA.out.1]; exact hlt) (by rw [HZ1.out]; show sn ≤ 100; omega), (by first | exact (trivial : True) | rfl)⟩
      case measure => simp [intOf]; omega
    · have hfin : ShortS xs := by
        have h := HT.out
        rwa [List.take_of_length_le (by rw [HA.out.1]; omega)] at h
      have HF := Lib.hid hfin
      clear hfin
      by_cases hm : n ≤ most
      · have hmi : (n : Int) ≤ (most : Int) := by omega
        go_wp2
        go_ret
        exact ⟨.inr ⟨rfl, HF.out, hm⟩, rfl⟩
      · have hmi : ¬ (n : Int) ≤ (most : Int) := by omega
        go_wp2
        go_ret
        exact ⟨by first | exact .inl rfl | rfl, rfl⟩

set_option maxRecDepth 100000 in
theorem step_out {l : List St} {f s : Int} (h : f < 0 ∨ (l.length : Int) ≤ f) : Tri.step l f s = (0, false) := by unfold Tri.step; rw [if_pos h]
set_option maxRecDepth 100000 in
theorem step_in {l : List St} {i : Nat} {s : Int} (h : i < l.length) : Tri.step l (i : Int) s = match (l.getD i St.no).arcs.find? fun a => decide (a.1 = s) with
    | some a => (a.2, true)
    | none => (0, false) := by
  unfold Tri.step
  rw [if_neg (by omega)]; rfl
set_option maxRecDepth 100000 in
theorem find_at {l : List (Int × Int)} {j : Nat} {s t : Int} (hj : j < l.length) (hx : l.getD j (0, 0) = (s, t)) (h : ∀ x ∈ l.take j, x.1 ≠ s) : (l.find? fun a => decide (a.1 = s)) = some (s, t) := by
  have e : l = l.take j ++ (s, t) :: l.drop (j + 1) := by
    have h1 : l[j] = (s, t) := by rw [← hx]; simp [hj]
    rw [← h1, List.getElem_cons_drop]; exact (List.take_append_drop j l).symm
  rw [e, List.find?_append, List.find?_eq_none.2 (fun x hx => by simpa using h x hx)]
  simp
set_option maxRecDepth 100000 in
theorem find_no {l : List (Int × Int)} {s : Int} (h : ∀ x ∈ l, x.1 ≠ s) : (l.find? fun a => decide (a.1 = s)) = none := List.find?_eq_none.2 (fun x hx => by simpa using h x hx)

set_option maxRecDepth 100000 in
set_option maxHeartbeats 1600000 in
theorem rstep10_is (a : Option Addr) (n cap : Nat) (xs : List Sw) (f s : Int) (r : Int × Bool) (w : World) (ha : Ss w a n cap xs) (hr : Tri.step (sts xs) f s = r) :
    Calls Try.prog 13 #[.slice a n cap, .int .i64 f, .int .i64 s] w fun e w' => e = .returned (.tuple #[.int .i64 r.1, .bool r.2]) ∧ w' = w := by
  have hnc := ha.2.1
  have hcm := ha.2.2.1
  unfold maxLen at hcm
  have HA := Lib.hid ha
  have HR := Lib.hid hr
  have HL : Hid ((sts xs).length = n) := by show _ = _; rw [sts_length, ha.1]
  clear ha hr
  by_cases h0 : f < 0
  · have h0d : decide (f < 0) = true := decide_eq_true h0
    have hrr : r = (0, false) := by rw [← HR.out]; exact step_out (.inl h0)
    subst hrr
    go_enter Try.func13, Try.ntmps13
    go_wp2
    go_ret2
    exact ⟨rfl, rfl⟩
  have h0d : decide (f < 0) = false := decide_eq_false h0
  by_cases h1 : (n : Int) ≤ f
  · have h1d : decide (f ≥ (n : Int)) = true := decide_eq_true h1
    have hrr : r = (0, false) := by rw [← HR.out]; exact step_out (.inr (by rw [HL.out]; exact h1))
    subst hrr
    clear h0
    go_enter Try.func13, Try.ntmps13
    go_wp2
    go_ret2
    exact ⟨rfl, rfl⟩
  have h1d : decide (f ≥ (n : Int)) = false := decide_eq_false h1
  obtain ⟨i, rfl⟩ : ∃ i : Nat, f = (i : Int) := ⟨f.toNat, by omega⟩
  have hi : i < n := by omega
  have hii : (i : Int) < (n : Int) := by omega
  obtain ⟨b1, o1, fi, sa, sn, sc, arcs, rfl, _, hx1, hx2, hars, hz1⟩ := HA.out.one i hi
  have HST : Hid ((match arcs.find? fun a => decide (a.1 = s) with
    | some a => (a.2, true)
    | none => ((0 : Int), false)) = r) := by
    have h := HR.out
    rw [step_in (by rw [HL.out]; exact hi), sts_at, hz1] at h
    exact h
  have HAR := Lib.hid hars
  have HAL := Lib.hid hars.1
  have hsc := hars.2.1
  have hscm := hars.2.2.1
  unfold maxLen at hscm
  clear h0 h1 hars hz1 HR
  go_enter Try.func13, Try.ntmps13
  go_wp2
  go_loopw [8] (fun ix wr => ∃ j : Nat, j ≤ sn ∧ ix = .int .i64 (j : Int) ∧ Hid (∀ x ∈ arcs.take j, x.1 ≠ s) ∧ Hid (wr = w)) (fun ix _ => sn - (intOf ix).toNat)
  case atStart => exact ⟨0, Nat.zero_le _, rfl, (fun x hx => by simp at hx), rfl⟩
  case round =>
    obtain ⟨j, hj, rfl, HT, HW⟩ := hrel
    obtain rfl := HW.out
    clear HW
    by_cases hlt : j < sn
    · obtain ⟨b2, o2, s2, t2, rfl, _, hy1, hy2, _, _, hz2⟩ := HAR.out.one j hlt
      have HZ2 := Lib.hid hz2
      have hlti : (j : Int) < (sn : Int) := by omega
      clear hz2
      by_cases hs : s2 = s
      · subst hs
        have hb : (s2 == s2) = true := by simp
        have hrr : r = (t2, true) := by
          rw [← HST.out, find_at (by rw [HAL.out]; exact hlt) HZ2.out HT.out]
        subst hrr
        go_wp2
        go_ret2
        exact ⟨rfl, rfl⟩
      · have hb : (s2 == s) = false := by simpa using hs
        have HN := Lib.hid hs
        clear hs
        go_wp2
        go_roundw
        case rel =>
          refine ⟨j + 1, by omega, by go_num, ?_, (by first | exact (trivial : True) | rfl)⟩
          intro x hx
          rw [arcs_step (by rw [HAL.out]; exact hlt) HZ2.out] at hx
          rcases List.mem_append.1 hx with hx | hx
          · exact HT.out x hx
          · rw [List.mem_singleton.1 hx]; exact HN.out
        case measure => simp [intOf]; omega
    · have hrr : r = (0, false) := by
        rw [← HST.out, find_no]
        intro x hx
        exact HT.out x (by rw [List.take_of_length_le (by rw [HAL.out]; omega)]; exact hx)
      subst hrr
      go_wp2
      go_ret2
      exact ⟨rfl, rfl⟩

end Go.Proofs.Ytehdojhblekgeaa
