import Derived.Test.YtpcebfefbnpbpaaPackB
import Derived.Test.YtpcebfefbnpbpaaPackE
set_option linter.all false
set_option maxRecDepth 100000
set_option maxHeartbeats 12800000
namespace Go.Proofs.Ytpcebfefbnpbpaa
open Go.RowKit

theorem allGood_take {zs : List Int} {i : Nat} (h : i < zs.length) (h1 : (zs.take i).all Utf.good = true) (h2 : Utf.good (zs.getD i 0) = true) : (zs.take (i + 1)).all Utf.good = true := by
  rw [List.take_succ_eq_append_getElem h, List.all_append, h1]
  simpa [h] using h2
theorem allGood_not {zs : List Int} {i : Nat} (h : i < zs.length) (h2 : Utf.good (zs.getD i 0) = false) : zs.all Utf.good = false := by
  rw [Bool.eq_false_iff]; intro ha
  have := List.all_eq_true.1 ha (zs[i]) (List.getElem_mem h)
  simp [h] at h2
  rw [h2] at this; cases this
theorem Sl.range {w : World} {a : Option Addr} {n cap : Nat} {zs : List Int} (h : Sl .i64 w a n cap zs) (i : Nat) : -9223372036854775808 ≤ zs.getD i 0 ∧ zs.getD i 0 ≤ 9223372036854775807 := by
  rcases Nat.lt_or_ge i zs.length with hi | hi
  · have := h.2.2.2.1 (zs[i]) (List.getElem_mem hi)
    have hb := bounds_i64 this
    simp [hi]; exact hb
  · rw [List.getD_eq_getElem?_getD, List.getElem?_eq_none hi]; decide

theorem rgoods_is (a : Option Addr) (n cap : Nat) (zs : List Int) (r : Bool) (w : World) (hs : Sl .i64 w a n cap zs) (hr : goodL zs = r) :
    Calls Try.prog 56 #[.slice a n cap] w fun e w' => e = .returned (.bool r) ∧ w' = w := by
  have hnc := hs.2.1
  have hcm := hs.2.2.1
  unfold maxLen at hcm
  have HS := Lib.hid hs
  have HR := Lib.hid hr
  clear hs hr
  go_enter Try.func56, Try.ntmps56
  go_wp2
  go_loopw [3] (fun ix wr => ∃ i : Nat, i ≤ n ∧ ix = .int .i64 (i : Int) ∧ Hid ((zs.take i).all Utf.good = true) ∧ Hid (wr = w)) (fun ix _ => n - (intOf ix).toNat)
  case atStart => exact ⟨0, Nat.zero_le _, rfl, (by first | exact (trivial : True) | rfl), (by first | exact (trivial : True) | rfl)⟩
  case round =>
    obtain ⟨i, hi, rfl, H, HW⟩ := hrel
    obtain rfl := HW.out
    clear HW
    by_cases hlt : i < n
    · obtain ⟨b, off, rfl, _, hc⟩ := HS.out.at (by omega)
      have hx1 := hc i hlt
      have hil : i < zs.length := by rw [HS.out.1]; exact hlt
      obtain ⟨hx0, hx9⟩ := HS.out.range i
      obtain ⟨x, hx⟩ : ∃ x, x = zs.getD i 0 := ⟨_, rfl⟩
      rw [← hx] at hx1 hx0 hx9
      have HX := Lib.hid hx
      have HI := Lib.hid hil
      have hlti : (i : Int) < (n : Int) := by omega
      clear hc hx hil
      by_cases hg : Utf.good x = true
      · go_wp2_with (go_at_call 63; refine (rgood_any _ _ hx0 hx9).mono ?_; rintro e w' ⟨rfl, rfl⟩)
        go_roundw
        case rel => exact ⟨i + 1, by omega, by go_num, allGood_take HI.out H.out (by rw [← HX.out]; exact hg), (by first | exact (trivial : True) | rfl)⟩
        case measure => simp [intOf]; omega
      · have hgf : Utf.good x = false := by simpa using hg
        have hrf : r = false := by
          rw [← HR.out]; unfold goodL; rw [allGood_not HI.out (by rw [← HX.out]; exact hgf)]; rfl
        clear hg
        go_wp2_with (go_at_call 63; refine (rgood_any _ _ hx0 hx9).mono ?_; rintro e w' ⟨rfl, rfl⟩)
        go_ret
        exact ⟨by rw [hrf]; rfl, rfl⟩
    · obtain rfl : i = n := by omega
      have h1 := H.out
      rw [List.take_of_length_le (by rw [HS.out.1]; exact Nat.le_refl _)] at h1
      have hrf : r = decide ((i : Int) ≤ 8) := by
        rw [← HR.out]; unfold goodL; rw [h1, HS.out.1, Bool.true_and, decide_eq_decide]; omega
      clear h1 HR
      subst hrf
      go_wp2
      go_ret
      exact ⟨rfl, rfl⟩

theorem rcheck_is (x : Rw) (r : Bool) (w : World) (hx : x.Good w) (hr : chk x.r = r) :
    Calls Try.prog 39 #[x.v] w fun e w' => e = .returned (.bool r) ∧ Below w.heap.size w w' := by
  obtain ⟨la, ln, lc, L, ra, rn, rc, R, C⟩ := x
  obtain ⟨hl, hrr, h0, h1⟩ := hx
  obtain ⟨gl, hgl⟩ : ∃ b, goodL L = b := ⟨_, rfl⟩
  obtain ⟨gr, hgr⟩ : ∃ b, goodL R = b := ⟨_, rfl⟩
  obtain ⟨sm, hsm⟩ : ∃ b, decide (L = R) = b := ⟨_, rfl⟩
  have hre : r = (gl && gr && decide (C < 18446744073709551615) && !sm) := by rw [← hr, ← hgl, ← hgr, ← hsm]; rfl
  have HL := Lib.hid hl
  have HRR := Lib.hid hrr
  have HGL := Lib.hid hgl
  have HGR := Lib.hid hgr
  have HSM := Lib.hid hsm
  have HE := Lib.hid hre
  clear hl hrr hgl hgr hsm hre hr
  simp only [Rw.v, Rw.l, Rw.rt, Rw.c]
  have HB : ∀ o, Hid (Below w.heap.size w (w.alloc o)) := fun o => Lib.hid ((Below.refl _ w).alloc (Nat.le_refl _) o)
  have hcs : gl = false ∨ (gl = true ∧ gr = false) ∨ (gl = true ∧ gr = true ∧ ¬ C < 18446744073709551615) ∨ (gl = true ∧ gr = true ∧ C < 18446744073709551615) := by
    cases gl
    · exact .inl rfl
    · cases gr
      · exact .inr (.inl ⟨rfl, rfl⟩)
      · by_cases hc : C < 18446744073709551615
        · exact .inr (.inr (.inr ⟨rfl, rfl, hc⟩))
        · exact .inr (.inr (.inl ⟨rfl, rfl, hc⟩))
  rcases hcs with rfl | ⟨rfl, rfl⟩ | ⟨rfl, rfl, hc⟩ | ⟨rfl, rfl, hc⟩
  all_goals (
    go_enter Try.func39, Try.ntmps39
    go_wp2_with fail
    refine (rgoods_is la _ _ _ _ _ (HL.out.alloc _) HGL.out).mono ?_
    rintro e w1 ⟨rfl, hw1⟩
    obtain rfl := hw1.symm
    clear hw1
    go_wp2_with fail
    refine (rgoods_is ra _ _ _ _ _ (HRR.out.alloc _) HGR.out).mono ?_
    rintro e w1 ⟨rfl, hw1⟩
    obtain rfl := hw1.symm
    clear hw1
    go_wp2_with fail)
  · go_ret
    exact ⟨by rw [HE.out]; rfl, (HB _).out⟩
  · go_ret
    exact ⟨by rw [HE.out]; rfl, (HB _).out⟩
  · go_ret
    have hd : decide (C < 18446744073709551615) = false := by simp; omega
    exact ⟨by rw [HE.out, hd]; rfl, (HB _).out⟩
  · refine (same_is _ _ _ _ _ _ _ _ _ _ (HL.out.alloc _) (HRR.out.alloc _) HSM.out).mono ?_
    rintro e w1 ⟨rfl, hq⟩
    have HQ := Lib.hid hq
    clear hq
    go_wp2
    go_ret
    exact ⟨by rw [HE.out]; simp [hc], below_drawn (HB _).out HQ.out⟩

theorem rlessR_is (x y : Rw) (r : Bool) (w : World) (hx : x.Good w) (hy : y.Good w) (hr : lessR x.r y.r = r) :
    Calls Try.prog 41 #[x.v, y.v] w fun e w' => e = .returned (.bool r) ∧ Below w.heap.size w w' := by
  obtain ⟨la, ln, lc, L, ra, rn, rc, R, C⟩ := x
  obtain ⟨la', ln', lc', L', ra', rn', rc', R', C'⟩ := y
  obtain ⟨hl, hrr, h0, h1⟩ := hx
  obtain ⟨hl', hrr', h0', h1'⟩ := hy
  obtain ⟨sl, hsl⟩ : ∃ b, decide (L = L') = b := ⟨_, rfl⟩
  obtain ⟨sr, hsr⟩ : ∃ b, decide (R = R') = b := ⟨_, rfl⟩
  obtain ⟨tl, htl⟩ : ∃ b, lessL L L' = b := ⟨_, rfl⟩
  obtain ⟨tr, htr⟩ : ∃ b, lessL R R' = b := ⟨_, rfl⟩
  have hre : r = if sl = true then (if sr = true then decide (C < C') else tr) else tl := by
    rw [← hr, ← hsl, ← hsr, ← htl, ← htr]; simp only [decide_eq_true_eq]; rfl
  have HL := Lib.hid hl
  have HRR := Lib.hid hrr
  have HL' := Lib.hid hl'
  have HRR' := Lib.hid hrr'
  have HSL := Lib.hid hsl
  have HSR := Lib.hid hsr
  have HTL := Lib.hid htl
  have HTR := Lib.hid htr
  have HE := Lib.hid hre
  have HB : ∀ o o', Hid (Below w.heap.size w ((w.alloc o).alloc o')) := fun o o' => Lib.hid (((Below.refl _ w).alloc (Nat.le_refl _) o).alloc (by simp) o')
  clear hl hrr hl' hrr' hsl hsr htl htr hre hr
  simp only [Rw.v, Rw.l, Rw.rt, Rw.c]
  cases sl
  · go_enter Try.func41, Try.ntmps41
    go_wp2_with fail
    refine (same_is _ _ _ _ _ _ _ _ _ _ ((HL.out.alloc _).alloc _) ((HL'.out.alloc _).alloc _) HSL.out).mono ?_
    rintro e w1 ⟨rfl, q, rfl⟩
    go_wp2_with fail
    refine (rless_is _ _ _ _ _ _ _ _ _ _ (((HL.out.alloc _).alloc _).drewN _) (((HL'.out.alloc _).alloc _).drewN _) HTL.out).mono ?_
    rintro e w1 ⟨rfl, hq⟩
    have HQ := Lib.hid hq
    clear hq
    go_wp2
    go_ret
    exact ⟨by rw [HE.out]; rfl, below_drawn (below_drawn (HB _ _).out ⟨_, rfl⟩) HQ.out⟩
  · cases sr
    · go_enter Try.func41, Try.ntmps41
      go_wp2_with fail
      refine (same_is _ _ _ _ _ _ _ _ _ _ ((HL.out.alloc _).alloc _) ((HL'.out.alloc _).alloc _) HSL.out).mono ?_
      rintro e w1 ⟨rfl, q, rfl⟩
      go_wp2_with fail
      refine (same_is _ _ _ _ _ _ _ _ _ _ (((HRR.out.alloc _).alloc _).drewN _) (((HRR'.out.alloc _).alloc _).drewN _) HSR.out).mono ?_
      rintro e w1 ⟨rfl, q2, rfl⟩
      go_wp2_with fail
      refine (rless_is _ _ _ _ _ _ _ _ _ _ (((HRR.out.alloc _).alloc _).drewN _) (((HRR'.out.alloc _).alloc _).drewN _) HTR.out).mono ?_
      rintro e w1 ⟨rfl, hq⟩
      have HQ := Lib.hid hq
      clear hq
      go_wp2
      go_ret
      exact ⟨by rw [HE.out]; rfl, below_drawn (below_drawn (HB _ _).out ⟨_, rfl⟩) HQ.out⟩
    · go_enter Try.func41, Try.ntmps41
      go_wp2_with fail
      refine (same_is _ _ _ _ _ _ _ _ _ _ ((HL.out.alloc _).alloc _) ((HL'.out.alloc _).alloc _) HSL.out).mono ?_
      rintro e w1 ⟨rfl, q, rfl⟩
      go_wp2_with fail
      refine (same_is _ _ _ _ _ _ _ _ _ _ (((HRR.out.alloc _).alloc _).drewN _) (((HRR'.out.alloc _).alloc _).drewN _) HSR.out).mono ?_
      rintro e w1 ⟨rfl, q2, rfl⟩
      go_wp2
      go_ret
      exact ⟨by rw [HE.out]; rfl, below_drawn (HB _ _).out ⟨_, rfl⟩⟩

end Go.Proofs.Ytpcebfefbnpbpaa
