/- Used by the law. -/
import Derived.Test.YtimjdlbhbiklgaaPackM
import Derived.Test.YtimjdlbhbiklgaaPackA
namespace Go.Proofs.Ytimjdlbhbiklgaa
open Go.RowKit Tri Wlk

theorem fin_len (l : List St) (i : Nat) {b : Bool} (h : (l.getD i St.no).final = b) : ((min (upA l i 0).length 301 : Nat) : Int) = if b then 1 else 0 := by
  rw [upA_zero, h]; cases b <;> rfl
theorem fin_dp (l : List St) (i : Nat) {b : Bool} (h : (l.getD i St.no).final = b) : dp (upA l i 0) = if b then 0 else -1 := by
  rw [upA_zero, h]; cases b <;> rfl

set_option maxRecDepth 100000 in
set_option maxHeartbeats 1600000 in
theorem manyBehind_is {l : List St} (hc : check l = true) (i : Nat) (hi : i < l.length) (x : Sw) (hxs : l.getD i St.no = x.st) (pa : Option Addr) (pn pc : Nat) (ps : List Int) (w : World) (hx : x.Good w) (hp : Sl .i64 w pa pn pc ps) (hpn : pn = l.length)
    (hps : ∀ j, i < j → j < l.length → ps.getD j 0 = (mny l j : Int)) :
    Calls Try.prog 38 #[.agg #[.bool x.fin, .slice x.a x.n x.cap], .slice pa pn pc] w fun e w' => e = .returned (.int .i64 (mny l i : Int)) ∧ Below w.heap.size w w' := by
  obtain ⟨fin, a, n, cap, arcs⟩ := x
  simp only [Sw.Good] at hx
  have hnc := hx.2.1
  have hcm := hx.2.2.1
  have hpc := hp.2.1
  have hpm := hp.2.2.1
  unfold maxLen at hcm hpm
  have hfin : (l.getD i St.no).final = fin := by rw [hxs]; rfl
  have harcs : (l.getD i St.no).arcs = arcs := by rw [hxs]; rfl
  have HF := Lib.hid (fin_len l i hfin)
  have HX := Lib.hid hx
  have HP := Lib.hid hp
  have HL : Hid ((l.getD i St.no).arcs.length = n) := by show _ = _; rw [harcs]; exact hx.1
  have HARC : Hid (∀ k, k < n → ∀ s t, arcs.getD k (0, 0) = (s, t) → ∃ u : Nat, t = (u : Int) ∧ u < pn ∧ ps.getD u 0 = (mny l u : Int) ∧ min (upA l i (k + 1)).length 301 = min (min (upA l i k).length 301 + mny l u) 301) := Lib.hid fun k hk s t hst => by
    have hm : (s, t) ∈ (l.getD i St.no).arcs := by
      rw [harcs, ← hst, List.getD_eq_getElem?_getD, List.getElem?_eq_getElem (by rw [hx.1]; exact hk), Option.getD_some]; exact List.getElem_mem _
    obtain ⟨_, h2, h3⟩ := (check_arcs hc hi).1 _ hm
    simp only at h2 h3
    obtain ⟨u, rfl⟩ : ∃ u : Nat, t = (u : Int) := ⟨t.toNat, by omega⟩
    refine ⟨u, rfl, by omega, hps u (by omega) (by omega), ?_⟩
    have := mny_next l i (k := k) (a := (s, (u : Int))) (by rw [harcs, hx.1]; exact hk) (by rw [harcs]; exact hst)
    rw [Int.toNat_natCast] at this
    exact this
  have HE : Hid (min (upA l i n).length 301 = mny l i) := by
    show _ = _
    rw [← hx.1, ← harcs, upA_all hc hi]; rfl
  have HB0 : ∀ o, Hid (Below w.heap.size w (w.alloc o)) := fun o => Lib.hid ((Below.refl _ w).alloc (Nat.le_refl _) o)
  have HM : ∀ u, Hid (mny l u ≤ 301) := fun u => by show _ ≤ _; unfold mny; omega
  clear hx hp hfin harcs hps hxs hpn hi hc
  cases fin
  all_goals
    simp only [if_true, if_false, Bool.false_eq_true] at HF
    go_enter Try.func38, Try.ntmps38
    go_wp2
    go_loopw [5, 13] (fun mx ix wr => ∃ (k m : Nat), k ≤ n ∧ ix = .int .i64 (k : Int) ∧ mx = .int .i64 (m : Int) ∧ Hid (min (upA l i k).length 301 = m) ∧ Hid (Below w.heap.size w wr)) (fun _ ix _ => n - (intOf ix).toNat)
    case atStart => exact ⟨0, _, Nat.zero_le _, rfl, by rw [HF.out], rfl, (HB0 _).out⟩
    case round =>
      obtain ⟨k, m, hk, rfl, rfl, HMK, HW⟩ := hrel
      have hm : m ≤ 301 := by rw [← HMK.out]; omega
      by_cases hlt : k < n
      · obtain ⟨b2, o2, s2, t2, rfl, hb2, hy1, hy2, _, _, hz2⟩ := (HX.out.below HW.out (Nat.le_refl _)).one k hlt
        obtain ⟨u, rfl, hu, hpu, hnext⟩ := HARC.out k hlt _ _ hz2
        obtain ⟨pb, po, rfl, hpb, hpc0⟩ := (HP.out.below HW.out (Nat.le_refl _)).at (by omega)
        have hcell := hpc0 u hu
        rw [hpu] at hcell
        have hv := (HM u).out
        obtain ⟨v, hvv⟩ : ∃ v, v = mny l u := ⟨_, rfl⟩
        rw [← hvv] at hcell hnext hv
        rw [HMK.out] at hnext
        have HN := Lib.hid hnext
        have hlti : (k : Int) < (n : Int) := by omega
        have HWA : ∀ o, Hid (Below w.heap.size w (wr.alloc o)) := fun o => HW.out.alloc HW.out.size o
        clear hz2 hb2 hpu hnext hvv hpc0
        go_wp2
        go_roundw
        case rel =>
          exact ⟨k + 1, min (m + v) 301, by omega, by go_num, by go_num, HN.out, (HWA _).out⟩
        case measure => simp [intOf]; omega
      · have HRE : Hid (m = mny l i) := by show _ = _; rw [← HMK.out, show k = n by omega, HE.out]
        go_wp2
        go_ret
        exact ⟨by rw [HRE.out]; rfl, HW.out⟩

theorem dp_bound {l : List St} (hc : check l = true) {i : Nat} (hi : i < l.length) : -1 ≤ dp (wds l i) ∧ dp (wds l i) ≤ 6001 := by
  refine ⟨dp_ge _, ?_⟩
  have h := dp_le (ws := wds l i) (n := l.length) fun w hw => by have := (wds_good hc w hi hw).2; omega
  have := (check_size hc).2
  omega
set_option maxRecDepth 100000 in
set_option maxHeartbeats 1600000 in
theorem deepBehind_is {l : List St} (hc : check l = true) (i : Nat) (hi : i < l.length) (x : Sw) (hxs : l.getD i St.no = x.st) (pa : Option Addr) (pn pc : Nat) (ps : List Int) (w : World) (hx : x.Good w) (hp : Sl .i64 w pa pn pc ps) (hpn : pn = l.length)
    (hps : ∀ j, i < j → j < l.length → ps.getD j 0 = dp (wds l j)) :
    Calls Try.prog 39 #[.agg #[.bool x.fin, .slice x.a x.n x.cap], .slice pa pn pc] w fun e w' => e = .returned (.int .i64 (dp (wds l i))) ∧ Below w.heap.size w w' := by
  obtain ⟨fin, a, n, cap, arcs⟩ := x
  simp only [Sw.Good] at hx
  have hnc := hx.2.1
  have hcm := hx.2.2.1
  have hpc := hp.2.1
  have hpm := hp.2.2.1
  unfold maxLen at hcm hpm
  have hfin : (l.getD i St.no).final = fin := by rw [hxs]; rfl
  have harcs : (l.getD i St.no).arcs = arcs := by rw [hxs]; rfl
  have HF := Lib.hid (fin_dp l i hfin)
  have HX := Lib.hid hx
  have HP := Lib.hid hp
  have HARC : Hid (∀ k, k < n → ∀ s t, arcs.getD k (0, 0) = (s, t) → ∃ (u : Nat) (v : Int), t = (u : Int) ∧ u < pn ∧ ps.getD u 0 = v ∧ -1 ≤ v ∧ v ≤ 6001 ∧ dp (upA l i (k + 1)) = if v = -1 then dp (upA l i k) else max (dp (upA l i k)) (v + 1)) := Lib.hid fun k hk s t hst => by
    have hm : (s, t) ∈ (l.getD i St.no).arcs := by
      rw [harcs, ← hst, List.getD_eq_getElem?_getD, List.getElem?_eq_getElem (by rw [hx.1]; exact hk), Option.getD_some]; exact List.getElem_mem _
    obtain ⟨_, h2, h3⟩ := (check_arcs hc hi).1 _ hm
    simp only at h2 h3
    obtain ⟨u, rfl⟩ : ∃ u : Nat, t = (u : Int) := ⟨t.toNat, by omega⟩
    obtain ⟨b1, b2⟩ := dp_bound hc (i := u) (by omega)
    refine ⟨u, _, rfl, by omega, hps u (by omega) (by omega), b1, b2, ?_⟩
    have := dp_next l i (k := k) (a := (s, (u : Int))) (by rw [harcs, hx.1]; exact hk) (by rw [harcs]; exact hst)
    rw [Int.toNat_natCast] at this
    exact this
  have HE : Hid (dp (upA l i n) = dp (wds l i)) := by
    show _ = _
    rw [← hx.1, ← harcs, upA_all hc hi]
  have HB0 : ∀ o, Hid (Below w.heap.size w (w.alloc o)) := fun o => Lib.hid ((Below.refl _ w).alloc (Nat.le_refl _) o)
  clear hx hp hfin harcs hps hxs hpn hi hc
  cases fin
  all_goals
    simp only [if_true, if_false, Bool.false_eq_true] at HF
    go_enter Try.func39, Try.ntmps39
    go_wp2
    go_loopw [5, 13] (fun mx ix wr => ∃ (k : Nat) (d : Int), k ≤ n ∧ ix = .int .i64 (k : Int) ∧ mx = .int .i64 d ∧ -1 ≤ d ∧ d ≤ 6002 ∧ Hid (dp (upA l i k) = d) ∧ Hid (Below w.heap.size w wr)) (fun _ ix _ => n - (intOf ix).toNat)
    case atStart => exact ⟨0, _, Nat.zero_le _, rfl, by rw [HF.out], by rw [HF.out]; omega, by rw [HF.out]; omega, rfl, (HB0 _).out⟩
    case round =>
      obtain ⟨k, d, hk, rfl, rfl, hd1, hd2, HMK, HW⟩ := hrel
      by_cases hlt : k < n
      · obtain ⟨b2, o2, s2, t2, rfl, hb2, hy1, hy2, _, _, hz2⟩ := (HX.out.below HW.out (Nat.le_refl _)).one k hlt
        obtain ⟨u, v, rfl, hu, hpu, hv1, hv2, hnext⟩ := HARC.out k hlt _ _ hz2
        obtain ⟨pb, po, rfl, hpb, hpc0⟩ := (HP.out.below HW.out (Nat.le_refl _)).at (by omega)
        have hcell := hpc0 u hu
        rw [hpu] at hcell
        rw [HMK.out] at hnext
        have hlti : (k : Int) < (n : Int) := by omega
        have HWA : ∀ o, Hid (Below w.heap.size w (wr.alloc o)) := fun o => HW.out.alloc HW.out.size o
        by_cases hv : v = -1
        · rw [if_pos hv] at hnext
          have HN := Lib.hid hnext
          subst hv
          clear hz2 hb2 hpu hnext hpc0 hv1 hv2
          go_wp2
          go_roundw
          case rel =>
            exact ⟨k + 1, d, by omega, by go_num, rfl, hd1, hd2, HN.out, (HWA _).out⟩
          case measure => simp [intOf]; omega
        · rw [if_neg hv] at hnext
          have HN := Lib.hid hnext
          have hne : (v == -1) = false := by simpa using hv
          clear hz2 hb2 hpu hnext hpc0 hv
          go_wp2
          go_roundw
          case rel =>
            exact ⟨k + 1, max d (v + 1), by omega, by go_num, by go_num, by omega, by omega, HN.out, (HWA _).out⟩
          case measure => simp [intOf]; omega
      · have HRE : Hid (d = dp (wds l i)) := by show _ = _; rw [← HMK.out, show k = n by omega, HE.out]
        go_wp2
        go_ret
        exact ⟨by rw [HRE.out]; rfl, HW.out⟩

end Go.Proofs.Ytimjdlbhbiklgaa
