import Derived.Test.YtbfjihbkkcggmaaGreatPackD
import Derived.Test.YtbfjihbkkcggmaaGreatPackJ
import Derived.Deep.RegionWith
import Derived.BigQuiet
/- Used by the law. -/
namespace Go.Proofs.YtbfjihbkkcggmaaGreat
open Go.RowKit Tri

def ShortS (xs : List Sw) : Prop := ∀ x ∈ xs, x.n ≤ 100
theorem ShortS.snoc {xs : List Sw} {j : Nat} (h : ShortS (xs.take j)) (hj : j < xs.length) (hx : (xs.getD j Sw.no).n ≤ 100) : ShortS (xs.take (j + 1)) := by
  intro x hm
  rw [List.take_succ_eq_append_getElem hj] at hm
  rcases List.mem_append.1 hm with hm | hm
  · exact h x hm
  · rw [List.mem_singleton.1 hm]; simpa [hj] using hx

set_option maxRecDepth 100000 in
theorem rfew10_is (a : Option Addr) (n cap : Nat) (xs : List Sw) (most : Nat) (_hmost : most ≤ 10000) (w : World) (ha : Ss w a n cap xs) :
    Calls Tryz.prog 13 #[.slice a n cap, .int .i64 (most : Int)] w fun e w' => (e = .returned (.bool false) ∨ (e = .returned (.bool true) ∧ ShortS xs ∧ n ≤ most)) ∧ w' = w := by
  have hnc := ha.2.1
  have hcm := ha.2.2.1
  unfold maxLen at hcm
  have HA := Lib.hid ha
  clear ha
  go_enter Tryz.func13, Tryz.ntmps13
  go_wp2
  go_loopw [5] (fun ix wr => ∃ j : Nat, j ≤ n ∧ ix = .int .i64 (j : Int) ∧ Hid (ShortS (xs.take j)) ∧ Hid (wr = w)) (fun ix _ => n - (intOf ix).toNat)
  case atStart => exact ⟨0, Nat.zero_le _, rfl, (fun x hx => by simp at hx), rfl⟩
  case round =>
    obtain ⟨j, hj, rfl, HT, HW⟩ := hrel
    obtain rfl := HW.out
    clear HW
    by_cases hlt : j < n
    · obtain ⟨b1, o1, f, sa, sn, sc, arcs, rfl, _, hx1, hx2, _, hz1⟩ := HA.out.one j hlt
      have HZ1 := Lib.hid hz1
      have hlti : (j : Int) < (n : Int) := by omega
      clear hz1
      by_cases h1 : 100 < sn
      · have h1i : (100 : Int) < (sn : Int) := by omega
        go_wp2
        go_ret
        exact ⟨.inl rfl, rfl⟩
      have h1i : ¬ (100 : Int) < (sn : Int) := by omega
      go_wp2
      go_roundw
      case rel => exact ⟨j + 1, by omega, by go_num, HT.out.snoc (by rw [HA.out.1]; exact hlt) (by rw [HZ1.out]; show sn ≤ 100; omega), (by first | exact (trivial : True) | rfl)⟩
      case measure => simp [intOf]; omega
    · have hfin : ShortS xs := by
        have h := HT.out
        rwa [List.take_of_length_le (by rw [HA.out.1]; omega)] at h
      have HF := Lib.hid hfin
      clear hfin
      by_cases hm : n ≤ most
      · have hmi : (n : Int) ≤ (most : Int) := by omega
        go_wp2
        go_ret
        exact ⟨.inr ⟨rfl, HF.out, hm⟩, rfl⟩
      · have hmi : ¬ (n : Int) ≤ (most : Int) := by omega
        go_wp2
        go_ret
        exact ⟨by first | exact .inl rfl | rfl, rfl⟩

end Go.Proofs.YtbfjihbkkcggmaaGreat

/- Used by the law. -/
namespace Go.Proofs.YtbfjihbkkcggmaaGreat
open Go.RowKit Tri

def arcMay (n i : Nat) (p : Option Int) (x : Int × Int) : Bool := Utf.good x.1 && decide ((i : Int) < x.2) && decide (x.2 < (n : Int)) && behind p x.1
theorem arcsOk_cons (n i : Nat) (p : Option Int) (x : Int × Int) (l : List (Int × Int)) : arcsOk n i p (x :: l) = (arcMay n i p x && arcsOk n i (some x.1) l) := rfl
def lastS (p : Option Int) (l : List (Int × Int)) : Option Int := (l.getLast?.map fun x => x.1).or p
theorem lastS_cons (p : Option Int) (y : Int × Int) (l : List (Int × Int)) : lastS p (y :: l) = lastS (some y.1) l := by
  unfold lastS
  cases l with
  | nil => simp
  | cons z l =>
    rw [List.getLast?_cons_cons]
    cases h : (z :: l).getLast? with
    | none => simp at h
    | some u => simp
theorem lastS_take {l : List (Int × Int)} {p : Nat} {s t : Int} (h : p < l.length) (hx : l.getD p (0, 0) = (s, t)) : lastS none (l.take (p + 1)) = some s := by
  unfold lastS
  rw [List.getLast?_take, if_neg (by omega), Nat.add_sub_cancel, List.getElem?_eq_getElem h]
  have : l[p] = (s, t) := by rw [← hx]; simp [h]
  simp [this]
theorem arcsOk_snoc {n i : Nat} : ∀ (l : List (Int × Int)) (p : Option Int) (x : Int × Int), arcsOk n i p (l ++ [x]) = (arcsOk n i p l && arcMay n i (lastS p l) x)
  | [], p, x => by
    have e : lastS p [] = p := by simp [lastS]
    rw [List.nil_append, arcsOk_cons, e]
    simp [arcsOk]
  | y :: l, p, x => by
    rw [List.cons_append, arcsOk_cons, arcsOk_cons, arcsOk_snoc l (some y.1) x, lastS_cons, Bool.and_assoc]
theorem arcsOk_pre {n i : Nat} : ∀ (l r : List (Int × Int)) (p : Option Int), arcsOk n i p (l ++ r) = true → arcsOk n i p l = true
  | [], r, p, _ => rfl
  | y :: l, r, p, h => by
    rw [List.cons_append, arcsOk_cons] at h
    rw [arcsOk_cons]
    simp only [Bool.and_eq_true] at h ⊢
    exact ⟨h.1, arcsOk_pre l r _ h.2⟩
theorem checkA_app {n : Nat} : ∀ (l r : List St) (i : Nat), checkA n i (l ++ r) = (checkA n i l && checkA n (i + l.length) r)
  | [], r, i => by simp [checkA]
  | s :: l, r, i => by
    rw [List.cons_append, checkA, checkA, checkA_app l r (i + 1), Bool.and_assoc]
    congr 3
    simp; omega
theorem check_bad {l : List St} {i j : Nat} {s : St} (hi : i < l.length) (hs : l.getD i St.no = s) (h : arcsOk l.length i none (s.arcs.take j) = false) : check l = false := by
  have e : l = l.take i ++ s :: l.drop (i + 1) := by
    have h1 : l[i] = s := by rw [← hs]; simp [hi]
    rw [← h1, List.getElem_cons_drop]; exact (List.take_append_drop i l).symm
  have hb : arcsOk l.length i none s.arcs = false := by
    cases hc : arcsOk l.length i none s.arcs with
    | false => rfl
    | true =>
      have := arcsOk_pre (s.arcs.take j) (s.arcs.drop j) none (by rw [List.take_append_drop]; exact hc)
      rw [h] at this; cases this
  have hA : checkA l.length 0 l = false := by
    conv => lhs; arg 3; rw [e]
    rw [checkA_app, Nat.zero_add, show (l.take i).length = i by simp; omega, checkA, hb]
    simp
  unfold check
  rw [hA]; rfl

set_option maxRecDepth 100000 in
set_option maxHeartbeats 6400000 in
theorem rcheck10_is (a : Option Addr) (n cap : Nat) (xs : List Sw) (r : Bool) (w : World) (ha : Ss w a n cap xs) (hr : check (sts xs) = r) :
    Calls Tryz.prog 19 #[.slice a n cap] w fun e w' => e = .returned (.bool r) ∧ Below w.heap.size w w' := by
  have hnc := ha.2.1
  have hcm := ha.2.2.1
  unfold maxLen at hcm
  have HA := Lib.hid ha
  have HR := Lib.hid hr
  have HL : Hid ((sts xs).length = n) := by show _ = _; rw [sts_length, ha.1]
  clear ha hr
  go_enter Tryz.func19, Tryz.ntmps19
  go_wp2
  go_loopw [3] (fun ix wr => ∃ i : Nat, i ≤ n ∧ ix = .int .i64 (i : Int) ∧ Hid (checkA n 0 ((sts xs).take i) = true) ∧ Hid (Below w.heap.size w wr)) (fun ix _ => n - (intOf ix).toNat)
  case atStart => exact ⟨0, Nat.zero_le _, rfl, rfl, Below.refl _ _⟩
  case round =>
    obtain ⟨i, hi, rfl, HCK, HBW⟩ := hrel
    by_cases hlt : i < n
    · obtain ⟨b1, o1, f, sa, sn, sc, arcs, rfl, _, hx1, hx2, hars, hz1⟩ := (HA.out.below HBW.out (Nat.le_refl _)).one i hlt
      have HZ1 : Hid ((sts xs).getD i St.no = ⟨f, arcs⟩) := by show _ = _; rw [sts_at, hz1]; rfl
      have HAR := Lib.hid hars
      have HAL := Lib.hid hars.1
      have hsc := hars.2.1
      have hscm := hars.2.2.1
      unfold maxLen at hscm
      have hlti : (i : Int) < (n : Int) := by omega
      clear hars hz1
      go_wp2
      generalize wr = wo at *
      go_loopw [4] (fun ix wr => ∃ k : Nat, k ≤ sn ∧ ix = .int .i64 (k : Int) ∧ Hid (arcsOk n i none (arcs.take k) = true) ∧ Hid (Below wo.heap.size wo wr)) (fun ix _ => sn - (intOf ix).toNat)
      case atStart => exact ⟨0, Nat.zero_le _, rfl, rfl, Below.refl _ _⟩
      case round =>
        obtain ⟨k, hk, rfl, HOK, HBV⟩ := hrel
        have hx2' : wr.cell? ⟨b1, o1 + i * 2 + 1, none⟩ = some (.slice sa sn sc) := by rw [HBV.out.cell (p := ⟨b1, o1 + i * 2 + 1, none⟩) (cell_lt hx2)]; exact hx2
        by_cases hlk : k < sn
        · obtain ⟨b2, o2, s, t, rfl, hb2, hy1, hy2, hws, hwt, hz2⟩ := (HAR.out.below HBV.out (Nat.le_refl _)).one k hlk
          have hsb := bounds_i64 hws
          have hlki : (k : Int) < (sn : Int) := by omega
          have HST : Hid (arcs.take (k + 1) = arcs.take k ++ [(s, t)]) := arcs_step (by rw [HAL.out]; exact hlk) hz2
          have HBX : ∀ o, Hid (Below wo.heap.size wo (wr.alloc o) ∧ Below w.heap.size w (wr.alloc o)) := fun o => ⟨HBV.out.alloc HBV.out.size o, HBW.out.trans ((HBV.out.alloc HBV.out.size o).mono HBW.out.size)⟩
          obtain ⟨g, hg⟩ : ∃ g, Utf.good s = g := ⟨_, rfl⟩
          have HG : ∀ W : World, Hid (Calls Tryz.prog 50 #[.int .i64 s] W fun e w' => e = .returned (.bool g) ∧ W = w') := fun W => by
            rw [← hg]; exact rgood_any s W (by omega) (by omega)
          have HGG := Lib.hid hg
          clear hg
          -- HOLE
          have hx2a : ∀ o, (wr.alloc o).cell? ⟨b1, o1 + i * 2 + 1, none⟩ = some (.slice (some ⟨b2, o2, none⟩) sn sc) := fun o => by rw [((Below.refl wr.heap.size wr).alloc (Nat.le_refl _) o).cell (p := ⟨b1, o1 + i * 2 + 1, none⟩) (cell_lt hx2')]; exact hx2'
          clear hz2 hws hwt hsb
          cases g
          · obtain rfl : r = false := by
              rw [← HR.out]
              refine check_bad (j := k + 1) (by rw [HL.out]; exact hlt) HZ1.out ?_
              rw [HL.out]
              show arcsOk n i none (arcs.take (k + 1)) = false
              rw [HST.out, arcsOk_snoc]
              simp [arcMay, HGG.out]
            go_wp2
            go_quiet ((go_at_call 50; exact Calls.quiet_of_same ((HG _).out.mono fun _ _ h => ⟨h.1, h.2.symm⟩)))
            go_wp2
            go_ret
            exact ⟨rfl, below_drewN (HBX _).out.2 _⟩
          · by_cases c2 : t ≤ (i : Int)
            · have c2d : decide (t ≤ (i : Int)) = true := decide_eq_true c2
              obtain rfl : r = false := by
                rw [← HR.out]
                refine check_bad (j := k + 1) (by rw [HL.out]; exact hlt) HZ1.out ?_
                rw [HL.out]
                show arcsOk n i none (arcs.take (k + 1)) = false
                rw [HST.out, arcsOk_snoc]
                have : decide ((i : Int) < t) = false := decide_eq_false (by omega)
                simp [arcMay, this]
              clear c2
              go_wp2
              go_quiet ((go_at_call 50; exact Calls.quiet_of_same ((HG _).out.mono fun _ _ h => ⟨h.1, h.2.symm⟩)))
              go_wp2
              go_ret
              exact ⟨rfl, below_drewN (HBX _).out.2 _⟩
            · have c2d : decide (t ≤ (i : Int)) = false := decide_eq_false c2
              by_cases c3 : t ≥ (n : Int)
              · have c3d : decide (t ≥ (n : Int)) = true := decide_eq_true c3
                obtain rfl : r = false := by
                  rw [← HR.out]
                  refine check_bad (j := k + 1) (by rw [HL.out]; exact hlt) HZ1.out ?_
                  rw [HL.out]
                  show arcsOk n i none (arcs.take (k + 1)) = false
                  rw [HST.out, arcsOk_snoc]
                  have : decide (t < (n : Int)) = false := decide_eq_false (by omega)
                  simp [arcMay, this]
                clear c2 c3
                go_wp2
                go_quiet ((go_at_call 50; exact Calls.quiet_of_same ((HG _).out.mono fun _ _ h => ⟨h.1, h.2.symm⟩)))
                go_wp2
                go_ret
                exact ⟨rfl, below_drewN (HBX _).out.2 _⟩
              · have c3d : decide (t ≥ (n : Int)) = false := decide_eq_false c3
                have HI : Hid ((i : Int) < t ∧ t < (n : Int)) := ⟨by omega, by omega⟩
                clear c2 c3
                cases k with
                | zero =>
                  have HNEW : Hid (arcsOk n i none (arcs.take (0 + 1)) = true) := by
                    show _ = _
                    rw [HST.out, arcsOk_snoc, HOK.out]
                    simp [arcMay, HGG.out, HI.out.1, HI.out.2, lastS, behind]
                  have ck : decide (((0 : Nat) : Int) > 0) = false := by decide
                  simp only [Nat.zero_mul, Nat.add_zero] at hy1 hy2
                  go_wp2
                  go_quiet ((go_at_call 50; exact Calls.quiet_of_same ((HG _).out.mono fun _ _ h => ⟨h.1, h.2.symm⟩)))
                  go_wp2
                  go_roundw
                  case rel => exact ⟨0 + 1, by omega, by go_num, HNEW.out, below_drewN (HBX _).out.1 _⟩
                  case measure => simp [intOf]; omega
                | succ p =>
                  obtain ⟨b3, o3, s3, t3, hb3, _, hu1, hu2, _, _, hu3⟩ := (HAR.out.below HBV.out (Nat.le_refl _)).one p (by omega)
                  simp only [Option.some.injEq, Addr.mk.injEq, and_true] at hb3
                  obtain ⟨rfl, rfl⟩ := hb3
                  have HLS : Hid (lastS none (arcs.take (p + 1)) = some s3) := lastS_take (by rw [HAL.out]; omega) hu3
                  have hu1' : ∀ o, (wr.alloc o).cell? ⟨b2, o2 + p * 2, none⟩ = some (.int .i64 s3) := fun o => by rw [((Below.refl wr.heap.size wr).alloc (Nat.le_refl _) o).cell (p := ⟨b2, o2 + p * 2, none⟩) (cell_lt hu1)]; exact hu1
                  have ck : decide (((p + 1 : Nat) : Int) > 0) = true := decide_eq_true (by omega)
                  have ck' : decide ((p : Int) + 1 > 0) = true := decide_eq_true (by omega)
                  have hpw : IntKind.i64.wrap (((p + 1 : Nat) : Int) - 1) = (p : Int) := by rw [IntKind.wrap_i64]; omega
                  have hpw' : IntKind.i64.wrap ((p : Int) + 1 - 1) = (p : Int) := by rw [IntKind.wrap_i64]; omega
                  have hpn : (p : Int) < (sn : Int) := by omega
                  have hp0 : (0 : Int) ≤ (p : Int) := by omega
                  clear hu1 hu2 hu3
                  by_cases c4 : s ≤ s3
                  · have c4d : decide (s ≤ s3) = true := decide_eq_true c4
                    obtain rfl : r = false := by
                      rw [← HR.out]
                      refine check_bad (j := p + 1 + 1) (by rw [HL.out]; exact hlt) HZ1.out ?_
                      rw [HL.out]
                      show arcsOk n i none (arcs.take (p + 1 + 1)) = false
                      rw [HST.out, arcsOk_snoc]
                      have : decide (s3 < s) = false := decide_eq_false (by omega)
                      rw [HLS.out]
                      simp [arcMay, behind, this]
                    clear c4
                    go_wp2
                    go_quiet ((go_at_call 50; exact Calls.quiet_of_same ((HG _).out.mono fun _ _ h => ⟨h.1, h.2.symm⟩)))
                    go_wp2
                    go_ret
                    exact ⟨rfl, below_drewN (HBX _).out.2 _⟩
                  · have c4d : decide (s ≤ s3) = false := decide_eq_false c4
                    have HNEW : Hid (arcsOk n i none (arcs.take (p + 1 + 1)) = true) := by
                      show _ = _
                      rw [HST.out, arcsOk_snoc, HOK.out, HLS.out]
                      have : decide (s3 < s) = true := decide_eq_true (by omega)
                      simp [arcMay, HGG.out, HI.out.1, HI.out.2, behind, this]
                    clear c4
                    go_wp2
                    go_quiet ((go_at_call 50; exact Calls.quiet_of_same ((HG _).out.mono fun _ _ h => ⟨h.1, h.2.symm⟩)))
                    go_wp2
                    go_roundw
                    case rel => exact ⟨p + 1 + 1, by omega, by go_num, HNEW.out, below_drewN (HBX _).out.1 _⟩
                    case measure => simp [intOf]; omega
          -- END HOLE
        · obtain rfl : sn = k := by omega
          go_wp2
          go_roundw
          case rel =>
            refine ⟨i + 1, by omega, by go_num, ?_, HBW.out.trans (HBV.out.mono HBW.out.size)⟩
            show _ = _
            have h1 := HOK.out
            rw [List.take_of_length_le (by rw [HAL.out]; exact Nat.le_refl _)] at h1
            have e : (sts xs).take (i + 1) = (sts xs).take i ++ [⟨f, arcs⟩] := by
              rw [List.take_succ_eq_append_getElem (by rw [HL.out]; exact hlt)]
              congr 2
              rw [← HZ1.out]; simp [show i < (sts xs).length by rw [HL.out]; exact hlt]
            rw [e, checkA_app, HCK.out, Nat.zero_add, show ((sts xs).take i).length = i by rw [List.length_take, HL.out]; omega]
            simp [checkA, h1]
          case measure => simp [intOf]; omega
    · obtain rfl : n = i := by omega
      have hck : checkA n 0 (sts xs) = true := by
        have h := HCK.out
        rwa [List.take_of_length_le (by rw [HL.out]; exact Nat.le_refl _)] at h
      have hrr : r = (decide (1 ≤ n) && decide (n ≤ 6001)) := by
        rw [← HR.out]; unfold check; rw [HL.out, hck]; rfl
      clear hck
      by_cases h1 : 1 ≤ n
      · have h1i : (n : Int) ≥ 1 := by omega
        by_cases h2 : n ≤ 6001
        · have h2i : (n : Int) ≤ 6001 := by omega
          obtain rfl : r = true := by rw [hrr]; simp [h1, h2]
          clear hrr
          go_wp2
          go_ret
          exact ⟨rfl, HBW.out⟩
        · have h2i : ¬ (n : Int) ≤ 6001 := by omega
          obtain rfl : r = false := by rw [hrr]; simp [h2]
          clear hrr
          go_wp2
          go_ret
          exact ⟨rfl, HBW.out⟩
      · have h1i : ¬ (n : Int) ≥ 1 := by omega
        obtain rfl : r = false := by rw [hrr]; simp [h1]
        clear hrr
        go_wp2
        go_ret
        exact ⟨rfl, HBW.out⟩

end Go.Proofs.YtbfjihbkkcggmaaGreat

/- Used by the law. -/
namespace Go.Proofs.YtbfjihbkkcggmaaGreat
open Go.RowKit Tri

theorem drew_more {w w1 : World} {q : Nat} (h : ∃ q, w1 = w.drewN q) : ∃ p, w1.drewN q = w.drewN p := by
  obtain ⟨p, rfl⟩ := h
  exact ⟨_, World.drewN_drewN _ _ _⟩

end Go.Proofs.YtbfjihbkkcggmaaGreat
