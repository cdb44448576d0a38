import Derived.Test.YtbfjihbkkcggmaaPackD
import Derived.Test.YtbfjihbkkcggmaaPackJ
import Derived.Deep.RegionWith
import Derived.BigQuiet
/- The document's Few, Step, Same and Check of layer 10. -/
namespace Go.Proofs.Ytbfjihbkkcggmaa
open Go.RowKit Tri

/-- no state with more than a hundred arcs -/
def ShortS (xs : List Sw) : Prop := ∀ x ∈ xs, x.n ≤ 100
set_option maxRecDepth 100000 in
theorem ShortS.snoc {xs : List Sw} {j : Nat} (h : ShortS (xs.take j)) (hj : j < xs.length) (hx : (xs.getD j Sw.no).n ≤ 100) : ShortS (xs.take (j + 1)) := by
  intro x hm
  rw [List.take_succ_eq_append_getElem hj] at hm
  rcases List.mem_append.1 hm with hm | hm
  · exact h x hm
  · rw [List.mem_singleton.1 hm]; simpa [hj] using hx

set_option maxRecDepth 100000 in
theorem rfew10_is (a : Option Addr) (n cap : Nat) (xs : List Sw) (most : Nat) (_hmost : most ≤ 10000) (w : World) (ha : Ss w a n cap xs) :
    Calls Try.prog 18 #[.slice a n cap, .int .i64 (most : Int)] w fun e w' => (e = .returned (.bool false) ∨ (e = .returned (.bool true) ∧ ShortS xs ∧ n ≤ most)) ∧ w' = w := by
  have hnc := ha.2.1
  have hcm := ha.2.2.1
  unfold maxLen at hcm
  have HA := Lib.hid ha
  clear ha
  go_enter Try.func18, Try.ntmps18
  go_wp2
  go_loopw [5] (fun ix wr => ∃ j : Nat, j ≤ n ∧ ix = .int .i64 (j : Int) ∧ Hid (ShortS (xs.take j)) ∧ Hid (wr = w)) (fun ix _ => n - (intOf ix).toNat)
  case atStart => exact ⟨0, Nat.zero_le _, rfl, (fun x hx => by simp at hx), rfl⟩
  case round =>
    obtain ⟨j, hj, rfl, HT, HW⟩ := hrel
    obtain rfl := HW.out
    clear HW
    by_cases hlt : j < n
    · obtain ⟨b1, o1, f, sa, sn, sc, arcs, rfl, _, hx1, hx2, _, hz1⟩ := HA.out.one j hlt
      have HZ1 := Lib.hid hz1
      have hlti : (j : Int) < (n : Int) := by omega
      clear hz1
      by_cases h1 : 100 < sn
      · have h1i : (100 : Int) < (sn : Int) := by omega
        go_wp2
        go_ret
        exact ⟨.inl rfl, rfl⟩
      have h1i : ¬ (100 : Int) < (sn : Int) := by omega
      go_wp2
      go_roundw
      case rel => exact ⟨j + 1, by omega, by go_num, HT.out.snoc (by rw [HA.out.1]; exact hlt) (by rw [HZ1.out]; show sn ≤ 100; omega), (by first | exact (trivial : True) | rfl)⟩
      case measure => simp [intOf]; omega
    · have hfin : ShortS xs := by
        have h := HT.out
        rwa [List.take_of_length_le (by rw [HA.out.1]; omega)] at h
      have HF := Lib.hid hfin
      clear hfin
      by_cases hm : n ≤ most
      · have hmi : (n : Int) ≤ (most : Int) := by omega
        go_wp2
        go_ret
        exact ⟨.inr ⟨rfl, HF.out, hm⟩, rfl⟩
      · have hmi : ¬ (n : Int) ≤ (most : Int) := by omega
        go_wp2
        go_ret
        exact ⟨by first | exact .inl rfl | rfl, rfl⟩

set_option maxRecDepth 100000 in
theorem step_out {l : List St} {f s : Int} (h : f < 0 ∨ (l.length : Int) ≤ f) : Tri.step l f s = (0, false) := by unfold Tri.step; rw [if_pos h]
set_option maxRecDepth 100000 in
theorem step_in {l : List St} {i : Nat} {s : Int} (h : i < l.length) : Tri.step l (i : Int) s = match (l.getD i St.no).arcs.find? fun a => decide (a.1 = s) with
    | some a => (a.2, true)
    | none => (0, false) := by
  unfold Tri.step
  rw [if_neg (by omega)]; rfl
set_option maxRecDepth 100000 in
theorem find_at {l : List (Int × Int)} {j : Nat} {s t : Int} (hj : j < l.length) (hx : l.getD j (0, 0) = (s, t)) (h : ∀ x ∈ l.take j, x.1 ≠ s) : (l.find? fun a => decide (a.1 = s)) = some (s, t) := by
  have e : l = l.take j ++ (s, t) :: l.drop (j + 1) := by
    have h1 : l[j] = (s, t) := by rw [← hx]; simp [hj]
    rw [← h1, List.getElem_cons_drop]; exact (List.take_append_drop j l).symm
  rw [e, List.find?_append, List.find?_eq_none.2 (fun x hx => by simpa using h x hx)]
  simp
set_option maxRecDepth 100000 in
theorem find_no {l : List (Int × Int)} {s : Int} (h : ∀ x ∈ l, x.1 ≠ s) : (l.find? fun a => decide (a.1 = s)) = none := List.find?_eq_none.2 (fun x hx => by simpa using h x hx)

end Go.Proofs.Ytbfjihbkkcggmaa

/- The document's Check of layer 10. -/
namespace Go.Proofs.Ytbfjihbkkcggmaa
open Go.RowKit Tri

/-- one arc may be, behind those ahead of it -/
def arcMay (n i : Nat) (p : Option Int) (x : Int × Int) : Bool := Utf.good x.1 && decide ((i : Int) < x.2) && decide (x.2 < (n : Int)) && behind p x.1
set_option maxRecDepth 100000 in
theorem arcsOk_cons (n i : Nat) (p : Option Int) (x : Int × Int) (l : List (Int × Int)) : arcsOk n i p (x :: l) = (arcMay n i p x && arcsOk n i (some x.1) l) := rfl
/-- the sign of the last arc, or what stood ahead -/
def lastS (p : Option Int) (l : List (Int × Int)) : Option Int := (l.getLast?.map fun x => x.1).or p
set_option maxRecDepth 100000 in
theorem lastS_cons (p : Option Int) (y : Int × Int) (l : List (Int × Int)) : lastS p (y :: l) = lastS (some y.1) l := by
  unfold lastS
  cases l with
  | nil => simp
  | cons z l =>
    rw [List.getLast?_cons_cons]
    cases h : (z :: l).getLast? with
    | none => simp at h
    | some u => simp
set_option maxRecDepth 100000 in
theorem lastS_take {l : List (Int × Int)} {p : Nat} {s t : Int} (h : p < l.length) (hx : l.getD p (0, 0) = (s, t)) : lastS none (l.take (p + 1)) = some s := by
  unfold lastS
  rw [List.getLast?_take, if_neg (by omega), Nat.add_sub_cancel, List.getElem?_eq_getElem h]
  have : l[p] = (s, t) := by rw [← hx]; simp [h]
  simp [this]
set_option maxRecDepth 100000 in
theorem arcsOk_snoc {n i : Nat} : ∀ (l : List (Int × Int)) (p : Option Int) (x : Int × Int), arcsOk n i p (l ++ [x]) = (arcsOk n i p l && arcMay n i (lastS p l) x)
  | [], p, x => by
    have e : lastS p [] = p := by simp [lastS]
    rw [List.nil_append, arcsOk_cons, e]
    simp [arcsOk]
  | y :: l, p, x => by
    rw [List.cons_append, arcsOk_cons, arcsOk_cons, arcsOk_snoc l (some y.1) x, lastS_cons, Bool.and_assoc]
set_option maxRecDepth 100000 in
theorem arcsOk_pre {n i : Nat} : ∀ (l r : List (Int × Int)) (p : Option Int), arcsOk n i p (l ++ r) = true → arcsOk n i p l = true
  | [], r, p, _ => rfl
  | y :: l, r, p, h => by
    rw [List.cons_append, arcsOk_cons] at h
    rw [arcsOk_cons]
    simp only [Bool.and_eq_true] at h ⊢
    exact ⟨h.1, arcsOk_pre l r _ h.2⟩
set_option maxRecDepth 100000 in
theorem checkA_app {n : Nat} : ∀ (l r : List St) (i : Nat), checkA n i (l ++ r) = (checkA n i l && checkA n (i + l.length) r)
  | [], r, i => by simp [checkA]
  | s :: l, r, i => by
    rw [List.cons_append, checkA, checkA, checkA_app l r (i + 1), Bool.and_assoc]
    congr 3
    simp; omega
set_option maxRecDepth 100000 in
theorem check_bad {l : List St} {i j : Nat} {s : St} (hi : i < l.length) (hs : l.getD i St.no = s) (h : arcsOk l.length i none (s.arcs.take j) = false) : check l = false := by
  have e : l = l.take i ++ s :: l.drop (i + 1) := by
    have h1 : l[i] = s := by rw [← hs]; simp [hi]
    rw [← h1, List.getElem_cons_drop]; exact (List.take_append_drop i l).symm
  have hb : arcsOk l.length i none s.arcs = false := by
    cases hc : arcsOk l.length i none s.arcs with
    | false => rfl
    | true =>
      have := arcsOk_pre (s.arcs.take j) (s.arcs.drop j) none (by rw [List.take_append_drop]; exact hc)
      rw [h] at this; cases this
  have hA : checkA l.length 0 l = false := by
    conv => lhs; arg 3; rw [e]
    rw [checkA_app, Nat.zero_add, show (l.take i).length = i by simp; omega, checkA, hb]
    simp
  unfold check
  rw [hA]; rfl

end Go.Proofs.Ytbfjihbkkcggmaa

/- The document's Same of layer 10, of automata that are the same. It reads alone. -/
namespace Go.Proofs.Ytbfjihbkkcggmaa
open Go.RowKit Tri

set_option maxRecDepth 100000 in
theorem drew_more {w w1 : World} {q : Nat} (h : ∃ q, w1 = w.drewN q) : ∃ p, w1.drewN q = w.drewN p := by
  obtain ⟨p, rfl⟩ := h
  exact ⟨_, World.drewN_drewN _ _ _⟩

set_option maxRecDepth 100000 in
set_option maxHeartbeats 3200000 in
theorem rsame10_is (a b : Option Addr) (n m cap cap2 : Nat) (xs ys : List Sw) (w : World) (ha : Ss w a n cap xs) (hb : Ss w b m cap2 ys) (he : sts xs = sts ys) :
    Calls Try.prog 36 #[.slice a n cap, .slice b m cap2] w fun e w' => e = .returned (.bool true) ∧ ∃ q, w' = w.drewN q := by
  have hnm : n = m := by
    have := congrArg List.length he
    rw [sts_length, sts_length, ha.1, hb.1] at this; exact this
  subst hnm
  have hnc := ha.2.1
  have hcm := ha.2.2.1
  have hnc2 := hb.2.1
  have hcm2 := hb.2.2.1
  unfold maxLen at hcm hcm2
  have HA := Lib.hid ha
  have HB := Lib.hid hb
  have HE := Lib.hid he
  clear ha hb he
  go_enter Try.func36, Try.ntmps36
  go_wp2
  go_loopw [5] (fun ix wr => ∃ j : Nat, j ≤ n ∧ ix = .int .i64 (j : Int) ∧ Hid (∃ q, wr = w.drewN q)) (fun ix _ => n - (intOf ix).toNat)
  case atStart => exact ⟨0, Nat.zero_le _, rfl, ⟨0, rfl⟩⟩
  case round =>
    obtain ⟨j, hj, rfl, HQ⟩ := hrel
    by_cases hlt : j < n
    · obtain ⟨b1, o1, f, sa, sn, sc, arcs, rfl, _, hx1, hx2, hars, hz1⟩ := (HA.out.drawn HQ.out).one j hlt
      obtain ⟨b2, o2, f', sa', sn', sc', arcs', rfl, _, hy1, hy2, hars', hz2⟩ := (HB.out.drawn HQ.out).one j hlt
      have hst : (⟨f, arcs⟩ : St) = ⟨f', arcs'⟩ := by
        have h1 := sts_at xs j
        have h2 := sts_at ys j
        rw [HE.out, h2, hz1, hz2] at h1
        exact h1.symm
      obtain rfl : f = f' := congrArg St.final hst
      obtain rfl : arcs = arcs' := congrArg St.arcs hst
      obtain rfl : sn = sn' := by rw [← hars.1, ← hars'.1]
      have HAR := Lib.hid hars
      have HAR' := Lib.hid hars'
      have hsc := hars.2.1
      have hscm := hars.2.2.1
      have hsc' := hars'.2.1
      have hscm' := hars'.2.2.1
      unfold maxLen at hscm hscm'
      have hlti : (j : Int) < (n : Int) := by omega
      have hff : (f != f) = false := by simp
      have hss : ((sn : Int) != (sn : Int)) = false := by simp
      clear hars hars' hz1 hz2 hst
      go_wp2
      go_quiet (fail)
      go_wp2
      generalize wr = wo at *
      go_loopw [6] (fun ix wr => ∃ k : Nat, k ≤ sn ∧ ix = .int .i64 (k : Int) ∧ Hid (∃ q, wr = wo.drewN q)) (fun ix _ => sn - (intOf ix).toNat)
      case atStart => exact ⟨0, Nat.zero_le _, rfl, ⟨_, rfl⟩⟩
      case round =>
        obtain ⟨k, hk, rfl, HQ2⟩ := hrel
        obtain ⟨q2, rfl⟩ := HQ2.out
        by_cases hlk : k < sn
        · obtain ⟨b3, o3, s3, t3, rfl, _, hu1, hu2, _, _, hu3⟩ := HAR.out.one k hlk
          obtain ⟨b4, o4, s4, t4, rfl, _, hv1, hv2, _, _, hv3⟩ := HAR'.out.one k hlk
          rw [hu3] at hv3
          simp only [Prod.mk.injEq] at hv3
          obtain ⟨rfl, rfl⟩ := hv3
          have hlki : (k : Int) < (sn : Int) := by omega
          have e1 : (s3 != s3) = false := by simp
          have e2 : (t3 != t3) = false := by simp
          have e3 : (s3 == s3) = true := by simp
          have e4 : (t3 == t3) = true := by simp
          clear hu3
          go_wp2
          go_quiet (fail)
          go_wp2
          go_roundw
          case rel => exact ⟨k + 1, by omega, by go_num, ⟨_, by first | rfl | exact World.drewN_drewN _ _ _⟩⟩
          case measure => simp [intOf]; omega
        · obtain rfl : sn = k := by omega
          go_wp2
          go_roundw
          case rel => exact ⟨j + 1, by omega, by go_num, drew_more HQ.out⟩
          case measure => simp [intOf]; omega
    · go_wp2
      go_ret
      exact ⟨rfl, HQ.out⟩

end Go.Proofs.Ytbfjihbkkcggmaa
