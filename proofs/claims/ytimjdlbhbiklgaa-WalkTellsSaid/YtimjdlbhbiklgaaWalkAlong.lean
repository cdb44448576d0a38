/- Used by the law. -/
import Derived.Test.YtimjdlbhbiklgaaPackP
import Derived.Test.YtimjdlbhbiklgaaOrderInts
import Derived.Test.YtimjdlbhbiklgaaPackA
namespace Go.Proofs.Ytimjdlbhbiklgaa
open Go.RowKit Tri Wlk

theorem own_cell {w : World} {B : Nat} {a : Option Addr} {k c m : Nat} {zs : List Int} {v : Int} (h : w.ownsRow B 3 1 (.slice a k c) k (i64s zs)) (hl : zs.length = k) (hm : m < k) (hv : zs.getD m 0 = v) :
    ∃ g, a = some ⟨g, 0, none⟩ ∧ w.cell? ⟨g, m, none⟩ = some (.int .i64 v) := by
  obtain ⟨g, cap', cur, e, _⟩ := h.2.resolve_left (by rintro ⟨_, h⟩; omega)
  simp only [Value.slice.injEq] at e
  refine ⟨g, e.1, ?_⟩
  rw [e.1] at h
  rw [h.cellAt m (by omega), ← hv]
  unfold i64s
  simp [show m < zs.length by omega]
theorem own_first (w : World) (z : Int) : (w.alloc (.cells #[.int .i64 z] 3)).ownsRow w.heap.size 3 1 (.slice (some ⟨w.heap.size, 0, none⟩) 1 1) 1 (i64s [z]) :=
  ⟨rfl, .inr ⟨w.heap.size, 1, #[.int .i64 z], rfl, Nat.le_refl _, heap_alloc_new w _, Nat.le_refl _, by unfold maxLen; omega, rfl, rfl⟩⟩

theorem wf_small' (t : Nat) (h : t ≤ 10000) : (Lit.int .i64 (t : Int)).wf = true := WalkArith.wf_i64 (by omega)
theorem sl_one (w : World) (z : Int) (hz : (Lit.int .i64 z).wf = true) : Sl .i64 (w.alloc (.cells #[.int .i64 z] 3)) (some ⟨w.heap.size, 0, none⟩) 1 1 [z] :=
  Sl.of_owns (own_first w z) (by simpa using hz) rfl

set_option maxRecDepth 100000 in
set_option maxHeartbeats 3200000 in
theorem along_is {l : List St} (hc : check l = true) (a b : Option Addr) (n cap m cap2 : Nat) (xs : List Sw) (zs : List Int) (w : World) (hx : Ss w a n cap xs) (hxs : sts xs = l) (hz : Sl .i64 w b m cap2 zs) :
    Calls Try.prog 35 #[.slice a n cap, .slice b m cap2] w fun e w' => ∃ a' k c', e = .returned (.slice a' k c') ∧ (Wlk.along l 0 zs).length = k ∧
      w'.ownsRow w.heap.size 3 1 (.slice a' k c') k (i64s (Wlk.along l 0 zs)) ∧ Below w.heap.size w w' := by
  have hn : l.length = n := by rw [← hxs, sts_length]; exact hx.1
  have hN := check_size hc
  have hmc := hz.2.1
  have hmm := hz.2.2.1
  unfold maxLen at hmm
  have HX := Lib.hid hx
  have HZ := Lib.hid hz
  have HZL : Hid (zs.length = m) := Lib.hid hz.1
  have HST : Hid (∀ t z, Tri.step (sts xs) t z = Tri.step l t z) := Lib.hid fun t z => by rw [hxs]
  have HLT : Hid (∀ (t : Nat) (z : Int), t < n → (Tri.step l (t : Int) z).2 = true → (t : Int) < (Tri.step l (t : Int) z).1 ∧ (Tri.step l (t : Int) z).1 < (n : Int)) := Lib.hid fun t z ht h => by
    have := step_lt hc (by omega) h; omega
  have HB0 : ∀ o, Hid (Below w.heap.size w (w.alloc o)) := fun o => Lib.hid ((Below.refl _ w).alloc (Nat.le_refl _) o)
  have hn1 : 1 ≤ n := by omega
  have hn2 : n ≤ 6001 := by omega
  clear hx hz hxs hc hN hn
  go_enter Try.func35, Try.ntmps35
  go_wp2
  go_step3
  go_wp2
  go_step3
  go_wp2
  go_loopw [5, 13] (fun ov ix wr => ∃ (i t : Nat) (pre : List Int) (o' : Option Addr) (oc : Nat), i ≤ m ∧ i ≤ t ∧ t < n ∧ ix = .int .i64 (i : Int) ∧ ov = .slice o' (i + 1) oc ∧ Hid (pre.length = i) ∧ Hid (Wlk.along l 0 zs = pre ++ Wlk.along l (t : Int) (zs.drop i)) ∧
    Hid (wr.ownsRow w.heap.size 3 1 (.slice o' (i + 1) oc) (i + 1) (i64s (pre ++ [(t : Int)]))) ∧ Hid (Below w.heap.size w wr)) (fun _ ix _ => m - (intOf ix).toNat)
  case atStart => exact ⟨0, 0, [], _, _, Nat.zero_le _, Nat.le_refl _, by omega, rfl, rfl, rfl, rfl, own_first w 0, (HB0 _).out⟩
  case round =>
    obtain ⟨i, t, pre, o', oc, him, hit, htn, rfl, rfl, HPL, HAL, HO, HW⟩ := hrel
    by_cases hlt : i < m
    · have hlti : (i : Int) < (m : Int) := by omega
      obtain ⟨b1, o1, rfl, hb1, hc1⟩ := (HZ.out.below HW.out (Nat.le_refl _)).at (by omega)
      have hz1 := hc1 i hlt
      obtain ⟨z, hz⟩ : ∃ z, z = zs.getD i 0 := ⟨_, rfl⟩
      rw [← hz] at hz1
      have hd : zs.drop i = z :: zs.drop (i + 1) := by
        have hi : i < zs.length := by rw [HZL.out]; exact hlt
        rw [List.drop_eq_getElem_cons hi, hz]; simp [hi]
      obtain ⟨g, rfl, hg1⟩ : ∃ g, o' = some ⟨g, 0, none⟩ ∧ wr.cell? ⟨g, i, none⟩ = some (.int .i64 (t : Int)) := by
        obtain ⟨g, cap', cur, e, _⟩ := HO.out.2.resolve_left (by rintro ⟨_, h⟩; omega)
        simp only [Value.slice.injEq] at e
        refine ⟨g, e.1, ?_⟩
        have := HO.out
        rw [e.1] at this
        rw [this.cellAt i (by omega)]
        unfold i64s
        simp [HPL.out]
      obtain ⟨r, hr⟩ : ∃ r, Tri.step l (t : Int) z = r := ⟨_, rfl⟩
      obtain ⟨to, leads⟩ := r
      have HR := Lib.hid hr
      have HAL2 : Hid (Wlk.along l 0 zs = pre ++ ((t : Int) :: if leads = true then Wlk.along l to (zs.drop (i + 1)) else [])) := Lib.hid (by
        rw [HAL.out, hd, Wlk.along, hr])
      have hbo : ∀ w', Below wr.heap.size wr w' → w'.ownsRow w.heap.size 3 1 (.slice (some ⟨g, 0, none⟩) (i + 1) oc) (i + 1) (i64s (pre ++ [(t : Int)])) := fun w' hb => ownsRow_below HO.out hb (Nat.le_refl _)
      have HBO := Lib.hid hbo
      clear hc1 hd hbo hz hr HAL
      cases leads
      · simp only [Bool.false_eq_true, if_false] at HAL2
        go_wp2_with (go_at_call 61; refine (tstep_is a n cap xs (t : Int) z (to, false) _ (HX.out.below HW.out (Nat.le_refl _)) (wf_small' _ (by omega)) ((HST.out _ _).trans HR.out)).mono ?_; rintro e w' ⟨rfl, hb'⟩)
        try rw [Exit.noGoto_ret]
        go_ret
        refine ⟨_, _, _, rfl, ?_, ?_, HW.out.trans (hb'.mono HW.out.size)⟩
        · rw [HAL2.out, List.length_append, HPL.out]; rfl
        · rw [HAL2.out]; exact HBO.out _ hb'
      · simp only [if_true] at HAL2
        obtain ⟨l1, l2⟩ := HLT.out t z htn (by rw [HR.out])
        rw [HR.out] at l1 l2
        simp only at l1 l2
        obtain ⟨u, rfl⟩ : ∃ u : Nat, to = (u : Int) := ⟨to.toNat, by omega⟩
        go_wp2_with (first
          | (go_at_call 61; refine (tstep_is a n cap xs (t : Int) z ((u : Int), true) _ (HX.out.below HW.out (Nat.le_refl _)) (wf_small' _ (by omega)) ((HST.out _ _).trans HR.out)).mono ?_; rintro e w' ⟨rfl, hb'⟩)
          | (at_builtin; refine append_ints (by rfl) (.tmp 28) (.tmp 30) (by rfl) w.heap.size _ (i + 1) (pre ++ [(t : Int)]) (by rfl) ((HBO.out _ hb').alloc _) (some ⟨w'.heap.size, 0, none⟩) 1 1 [(u : Int)] (by rfl) (sl_one w' (u : Int) (wf_small' _ (by omega))) (by simp) (i + 2) (by omega) (by omega) (by have := HW.out.size; have := hb'.size; simp; omega) ?_; intro a' c' w6 hown hb hnil; have HO6 := Lib.hid hown; have HB6 := Lib.hid hb; clear hown hb hnil))
        try rw [Exit.noGoto_ret]
        refine ⟨⟨i + 1, u, pre ++ [(t : Int)], a', c', by omega, by omega, by omega, by go_num, rfl, ?_, ?_, ?_, ?_⟩, by simp [intOf]; omega⟩
        · show _ = _; rw [List.length_append, HPL.out]; rfl
        · show _ = _; rw [HAL2.out, List.append_assoc]; rfl
        · exact HO6.out
        · exact (((HW.out.trans (hb'.mono HW.out.size)).alloc (Nat.le_trans HW.out.size hb'.size) _).trans (HB6.out.mono (Nat.le_refl _)))
    · have hnot : ¬ (i : Int) < (m : Int) := by omega
      have hd : zs.drop i = [] := List.drop_eq_nil_of_le (by rw [HZL.out]; omega)
      have HAE : Hid (Wlk.along l 0 zs = pre ++ [(t : Int)]) := Lib.hid (by rw [HAL.out, hd]; rfl)
      clear hd
      go_wp2
      try rw [Exit.noGoto_ret]
      go_ret
      exact ⟨_, _, _, rfl, by rw [HAE.out, List.length_append, HPL.out]; rfl, by rw [HAE.out]; exact HO.out, HW.out⟩
end Go.Proofs.Ytimjdlbhbiklgaa
