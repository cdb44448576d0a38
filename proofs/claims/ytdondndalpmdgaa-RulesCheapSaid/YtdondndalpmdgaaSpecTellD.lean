/- The program's tellClass of layer 7. -/
import Derived.Test.YtdondndalpmdgaaPackK
import Derived.Test.YtdondndalpmdgaaSpecRefM
namespace Go.Proofs.Ytdondndalpmdgaa
open Go.RowKit

set_option maxRecDepth 100000 in
/-- the first steps of both: two new specs -/
theorem tl_start (w : World) : Tl w ((w.alloc nilSpec).alloc nilSpec) (w.heap.size + 2) [] := by
  have e : (w.alloc nilSpec).heap.size = w.heap.size + 1 := World.size_alloc w nilSpec
  have h1 : ((w.alloc nilSpec).alloc nilSpec).heap[w.heap.size + 1]? = some nilSpec := by rw [← e]; exact heap_alloc_new _ _
  have h0 : ((w.alloc nilSpec).alloc nilSpec).heap[w.heap.size]? = some nilSpec := ((World.grownBy_alloc (w.alloc nilSpec) nilSpec none).block w.heap.size (by omega) (by simp)).trans (heap_alloc_new w nilSpec)
  exact ⟨none, 0, h1, Acc.nil _ _, by simp, h0, ((Below.refl w.heap.size w).alloc (Nat.le_refl _) nilSpec).alloc (by omega) nilSpec, Nat.le_refl _, by rw [World.size_alloc]; omega⟩
set_option maxRecDepth 100000 in
theorem Tl.rules {w W : World} {B : Nat} {outs : List Rw} (h : Tl w W B outs) : ∃ a c, W.heap[w.heap.size + 1]? = some (.cells #[.slice none 0 0, .slice a outs.length c] 41 (0, 0)) ∧ (a = none → c = 0) ∧
    ∀ W', W.grownBy W' (some w.heap.size) → Rs W' a outs.length c outs ∧ W'.ownsRow w.heap.size 48 3 (.slice a outs.length c) outs.length (rcells outs) ∧ (∀ x ∈ outs, x.Far (Value.slice a outs.length c).ownBlock) ∧ ∀ k, k < w.heap.size → True → ∀ x ∈ outs, x.Far (some k) := by
  obtain ⟨a, c, h1, h2, h3, h4, h5, h7, h6⟩ := h
  have hown := own_mono h2.1 (show w.heap.size ≤ B by omega)
  have hown' := own_mono h2.1 (show w.heap.size + 1 ≤ B by omega)
  obtain ⟨a', c', e, hn, hr⟩ := h2.form
  cases e
  refine ⟨a, c, h1, hn, fun W' hg => ⟨?_, hown.kept hg (by
    cases a with
    | none => exact .inl rfl
    | some p =>
      refine .inr fun e => ?_
      rcases hown'.2 with h8 | ⟨g, cap, cur, hv, hgb, _⟩
      · cases h8.1
      · simp only [Value.slice.injEq, Option.some.injEq] at hv
        obtain ⟨rfl, _, _⟩ := hv
        have := Option.some.inj e
        simp only at this
        omega), (fun x hx => (h2.2 x hx).2), fun k hk _ x hx => (h3 x hx).far (fun g hg' => by cases hg'; omega)⟩⟩
  obtain ⟨r1, r2, r3, r4, r5⟩ := hr
  refine ⟨r1, r2, r3, fun x hx => (h2.2 x hx).1.grown hg ((h3 x hx).far (fun g hg' => by cases hg'; omega)), ?_⟩
  rcases r5 with r5 | ⟨b, off, ha, hc⟩
  · exact .inl r5
  · refine .inr ⟨b, off, ha, fun i hi => (hc i hi).grown hg (fun e => ?_)⟩
    have := (h2.row b (by rw [ha]; rfl)).1
    cases e; omega
set_option maxRecDepth 100000 in
theorem mapsG_take {l : List Int} {C : Int} {i : Nat} (hi : i < l.length) : (l.take (i + 1)).flatMap (fun x => Spec.mapsA C x l) = (l.take i).flatMap (fun x => Spec.mapsA C x l) ++ Spec.mapsA C (l.getD i 0) l := by
  rw [take_snoc hi, List.flatMap_append]; simp

set_option maxHeartbeats 6400000 in
set_option maxRecDepth 100000 in
theorem tellClass_is (sa : Option Addr) (sc : Nat) (xs : List Wd) (ca : Option Addr) (cn cc : Nat) (cs : List Int) (l : List Int) (C : Int) (ok : Bool) (rs : List Rul) (w : World) (hs : Ws w sa 1 sc xs) (hc : Sl .u64 w ca cn cc cs) (h1 : 0 < cn)
    (hl : (nums xs).getD 0 [] = l) (hC : cs.getD 0 0 = C) (hok : Spec.rowOk l = ok) (hr : (if ok = true then Spec.mapsG C l else []) = rs) :
    Calls Try.prog 54 #[.slice sa 1 sc, .slice ca cn cc] w fun e w' => TellIs w w' e [] rs ok (fun _ => True) := by
  obtain ⟨b1, o1, la, n, lc, L, rfl, hb1, _, hx1, hL, hn1⟩ := hs.one 0 (by omega)
  obtain rfl : L = l := by rw [← hl, ← hn1]
  obtain ⟨b2, o2, rfl, hb2, hcc⟩ := hc.at h1
  have hx3 := hcc 0 h1
  rw [hC] at hx3
  have hCw : 0 ≤ C ∧ C < 18446744073709551616 := by
    have hm : C ∈ cs := by rw [← hC, List.getD_eq_getElem?_getD, List.getElem?_eq_getElem (by rw [hc.1]; exact h1), Option.getD_some]; exact List.getElem_mem _
    have := hc.2.2.2.1 C hm
    have := bounds_u64 this; omega
  have hcm := hL.2.2.1
  have hnc := hL.2.1
  unfold maxLen at hcm
  have HS := Lib.hid hL
  have HL := Lib.hid hL.1
  have HOK := Lib.hid hok
  have HR := Lib.hid hr
  have HCW := Lib.hid hCw
  have h1i : (0 : Int) < (cn : Int) := by omega
  have hmx : Try.prog.follows .mixedOrders = true := by kernel_rfl
  have HMX := Lib.hid hmx
  have HI : Hid ((Try.prog.info? 41).map (·.size) = some 2) := info_spec
  have HT0 := Lib.hid (tl_start w)
  change w.cell? ⟨b1, o1, none⟩ = some (.slice la n lc) at hx1
  change w.cell? ⟨b2, o2, none⟩ = some (.int .u64 C) at hx3
  have HC3 : Hid (∀ W, Below w.heap.size w W → W.cell? ⟨b2, o2, none⟩ = some (.int .u64 C)) := fun W hB => (hB.cell (p := ⟨b2, o2, none⟩) hb2).trans hx3
  have HCX : Hid (∀ j W, j < n → Below w.heap.size w W → ∃ b o, la = some ⟨b, o, none⟩ ∧ W.cell? ⟨b, o + j, none⟩ = some (.int .i64 (L.getD j 0))) := fun j W hj hB => by
    obtain ⟨b, o, e, hb, hcell⟩ := hL.at (by omega)
    exact ⟨b, o, e, (hB.cell (p := ⟨b, o + j, none⟩) hb).trans (hcell j hj)⟩
  have HWF : Hid (∀ j, j < n → (Lit.int .i64 (L.getD j 0)).wf = true) := fun j hj => by
    refine hL.2.2.2.1 _ ?_
    rw [List.getD_eq_getElem?_getD, List.getElem?_eq_getElem (by rw [hL.1]; exact hj), Option.getD_some]; exact List.getElem_mem _
  have hx2 : ∀ q1 q2, ((w.alloc q1).alloc q2).cell? ⟨b1, o1, none⟩ = some (.slice la n lc) := fun q1 q2 => ((((Below.refl w.heap.size w).alloc (Nat.le_refl _) q1).alloc (by simp) q2).cell (p := ⟨b1, o1, none⟩) hb1).trans hx1
  clear hs hc hl hC hok hr hcc hL hn1 hCw hmx hb1 hb2 hx3 hx1
  go_enter Try.func54, Try.ntmps54
  go_wp2_with fail
  refine (rowFits_is la n lc L ok _ ((HS.out.alloc _).alloc _) HOK.out).mono ?_
  rintro e w1 ⟨rfl, rfl⟩
  obtain ⟨W, hW⟩ : ∃ W, W = (w.alloc (.cells #[.slice none 0 0, .slice none 0 0] 41)).alloc (.cells #[.slice none 0 0, .slice none 0 0] 41) := ⟨_, rfl⟩
  have HT : Hid (Tl w W (w.heap.size + 2) []) := by subst hW; exact HT0.out
  rw [← hW]
  clear hW HT0 hx2
  cases ok
  · obtain rfl : rs = [] := by rw [← HR.out]; rfl
    have H0 : Hid (W.heap[w.heap.size]? = some (.cells #[.slice none 0 0, .slice none 0 0] 41 (0, 0))) := by obtain ⟨_, _, _, _, _, h, _⟩ := HT.out; exact h
    have HBW : Hid (Below w.heap.size w W) := by obtain ⟨_, _, _, _, _, _, h, _⟩ := HT.out; exact h
    go_wp2_with (refine wpList_store_g (by rfl) 41 (.tmp 4) (.tmp 18) (by rfl) w.heap.size #[.slice none 0 0, .slice none 0 0] (by rfl) (by rfl) 41 #[.slice none 0 0, .slice none 0 0] H0.out HI.out rfl (spec_cells _ _ _ _ _ _) ?_
                 intro w5 hw5 hgr5 hsz5
                 have HW5 := Lib.hid hw5
                 have HB5 : Hid (Below w.heap.size w w5) := HBW.out.grown hgr5 HBW.out.size (fun k hk => by cases hk; exact Nat.le_refl _)
                 clear hw5 hgr5 hsz5)
    refine bodyPost_ret (results_cell_row_tmp rfl _ _ w.heap.size 41 #[.slice none 0 0, .slice none 0 0] (0, 0) _ (by rfl) HW5.out Try.underlying41 (by rfl) HI.out) rfl ?_
    exact ⟨none, 0, 0, none, 0, 0, [], rfl, Sl.nil, fun _ => rfl, Rs.nil, rfl, fun _ => rfl, HB5.out, owns_nil_rules _ _, (fun x hx => absurd hx List.not_mem_nil), fun _ _ _ x hx => absurd hx List.not_mem_nil⟩
  · have hn12 : n ≤ 12 := by
      have h := HOK.out
      unfold Spec.rowOk at h
      rw [Bool.and_eq_true] at h
      have := of_decide_eq_true h.1
      rw [HL.out] at this; exact this
    go_wp2
    go_loopw [21] (fun ix wr => ∃ (i : Nat) (outs : List Rw), i ≤ n ∧ ix = .int .i64 (i : Int) ∧ outs.length ≤ i * 12 ∧ Hid (Tl w wr (w.heap.size + 2) outs) ∧ Hid (ruls outs = (L.take i).flatMap fun x => Spec.mapsA C x L)) (fun ix _ => n - (intOf ix).toNat)
    case atStart => exact ⟨0, [], Nat.zero_le _, rfl, Nat.zero_le _, HT.out, by first | rfl | trivial⟩
    case round =>
      obtain ⟨i, outs, hi, rfl, hol, HTL, HRL⟩ := hrel
      have HBW : Hid (Below w.heap.size w wr) := by obtain ⟨_, _, _, _, _, _, h, _⟩ := HTL.out; exact h
      by_cases hlt : i < n
      · have hlti : (i : Int) < (n : Int) := by omega
        obtain ⟨x, hx⟩ : ∃ x, L.getD i 0 = x := ⟨_, rfl⟩
        obtain ⟨bb, oo, rfl, hxi⟩ := HCX.out i wr hlt HBW.out
        rw [hx] at hxi
        have HX := Lib.hid hx
        have HXW : Hid ((Lit.int .i64 x).wf = true) := by show _ = _; rw [← hx]; exact HWF.out i hlt
        clear hx
        go_wp2
        go_loopw [27] (fun kx wr' => ∃ (k : Nat) (outs' : List Rw), k ≤ n ∧ kx = .int .i64 (k : Int) ∧ outs'.length ≤ i * 12 + k ∧ Hid (Tl w wr' (w.heap.size + 2) outs') ∧ Hid (ruls outs' = ((L.take i).flatMap fun x => Spec.mapsA C x L) ++ Spec.mapsA C x (L.take k))) (fun kx _ => n - (intOf kx).toNat)
        case atStart => exact ⟨0, outs, Nat.zero_le _, rfl, by omega, HTL.out, by show _ = _; rw [HRL.out]; simp [Spec.mapsA]⟩
        case round =>
          obtain ⟨k, outs', hk, rfl, hol', HTL', HRL'⟩ := hrel
          have HBW' : Hid (Below w.heap.size w wr) := by obtain ⟨_, _, _, _, _, _, h, _⟩ := HTL'.out; exact h
          by_cases hlk : k < n
          · have hlki : (k : Int) < (n : Int) := by omega
            obtain ⟨y, hy⟩ : ∃ y, L.getD k 0 = y := ⟨_, rfl⟩
            obtain ⟨bb', oo', e, hyk⟩ := HCX.out k wr hlk HBW'.out
            obtain ⟨rfl, rfl⟩ : bb = bb' ∧ oo = oo' := by simpa using e
            rw [hy] at hyk
            have HY := Lib.hid hy
            have HYW : Hid ((Lit.int .i64 y).wf = true) := by show _ = _; rw [← hy]; exact HWF.out k hlk
            obtain ⟨ta, tc, ht1, hacc, hsz, hcall⟩ := HTL'.out.call
            have HACC := Lib.hid hacc
            have HSZ := Lib.hid hsz
            have HCALL := Lib.hid hcall
            have hxc := HC3.out wr HBW'.out
            clear hy e hacc hsz hcall
            go_wp2_with fail
            go_still_tail 7, HMX.out
            change wpList _ _ _ _ _ _
            go_wp2_with fail
            refine (appendUnlike_is (w.heap.size + 2) (.slice ta outs'.length tc) outs' x y C _ wr.drew HACC.out HSZ.out HXW.out HYW.out HCW.out (by omega) rfl).mono ?_
            rintro e w5 ⟨v', zs, rfl, hz, hhi, hacc5, hgr5, hob5⟩
            obtain ⟨ta', tc', M, rfl, ht5, hst⟩ := HCALL.out w5 v' zs hhi hacc5 hgr5
            have HT5 := Lib.hid ht5
            have HST := Lib.hid hst
            have HZ := Lib.hid hz
            clear hz hhi hacc5 hgr5 hob5 ht5 hst
            go_wp2_with (refine wpList_store_told (by rfl) (.tmp 39) (.tmp 38) (by rfl) (w.heap.size + 1) _ _ ta' M tc' (by rfl) (by rfl) _ HT5.out ?_
                         intro w6 hw6 hg6 hsz6
                         have HT6 := Lib.hid (HST.out w6 hw6 hg6).1
                         clear hw6 hg6 hsz6)
            go_roundw
            case rel =>
              refine ⟨k + 1, outs' ++ zs, by omega, by go_num, ?_, HT6.out, ?_⟩
              · have : zs.length ≤ 1 := by
                  rw [← ruls_length, HZ.out]; split <;> simp
                rw [List.length_append]; omega
              · show _ = _
                rw [ruls_app, HRL'.out, HZ.out, List.append_assoc, take_snoc (by rw [HL.out]; exact hlk), mapsA_snoc, HY.out]
                congr 2
                by_cases he : x = y
                · rw [if_pos he, if_neg (fun h => h he)]
                · rw [if_neg he, if_pos he]
            case measure => simp [intOf]; omega
          · obtain rfl : k = n := by omega
            go_wp2
            go_roundw
            case rel =>
              refine ⟨i + 1, outs', by omega, by go_num, by omega, HTL'.out, ?_⟩
              show _ = _
              have hT : L.take k = L := List.take_of_length_le (by rw [HL.out]; exact Nat.le_refl _)
              rw [HRL'.out, mapsG_take (by rw [HL.out]; exact hlt), HX.out, hT]
            case measure => simp [intOf]; omega
      · obtain rfl : i = n := by omega
        obtain ⟨ta, tc, ht1, hnil, hrs⟩ := HTL.out.rules
        have H0 : Hid (wr.heap[w.heap.size]? = some (.cells #[.slice none 0 0, .slice none 0 0] 41 (0, 0))) := by obtain ⟨_, _, _, _, _, h, _⟩ := HTL.out; exact h
        have HT1 := Lib.hid ht1
        have HNIL := Lib.hid hnil
        have HRS := Lib.hid hrs
        have HEND : Hid (ruls outs = rs) := by
          show _ = _
          rw [HRL.out, ← HR.out, List.take_of_length_le (by rw [HL.out]; exact Nat.le_refl _)]; rfl
        have HI2 : Hid ((Try.prog.info? 41).map (·.size) = some (#[Value.slice none 0 0, Value.slice ta outs.length tc]).size) := HI.out
        clear ht1 hnil hrs
        go_wp2_with (first
          | (refine wpList_load_row_w (by rfl) 41 (.tmp 6) (by rfl) (w.heap.size + 1) (by rfl) 41 #[.slice none 0 0, .slice ta outs.length tc] (0, 0) _ HT1.out Try.underlying41 (by rfl) HI2.out ?_)
          | (refine wpList_store_g (by rfl) 41 (.tmp 4) (.tmp 42) (by rfl) w.heap.size #[.slice none 0 0, .slice ta outs.length tc] (by rfl) (by rfl) 41 #[.slice none 0 0, .slice none 0 0] H0.out HI.out rfl (spec_cells _ _ _ _ _ _) ?_
             intro w5 hw5 hgr5 hsz5
             have HW5 := Lib.hid hw5
             have HG5 := Lib.hid hgr5
             clear hw5 hgr5 hsz5))
        refine bodyPost_ret (results_cell_row_tmp rfl _ _ w.heap.size 41 #[.slice none 0 0, .slice ta outs.length tc] (0, 0) _ (by rfl) HW5.out Try.underlying41 (by rfl) HI.out) rfl ?_
        have hB5 : Below w.heap.size w w5 := HBW.out.grown HG5.out HBW.out.size (fun k hk => by cases hk; exact Nat.le_refl _)
        exact ⟨none, 0, 0, ta, outs.length, tc, outs, rfl, Sl.nil, fun _ => rfl, (HRS.out w5 HG5.out).1, HEND.out, HNIL.out, hB5, (HRS.out w5 HG5.out).2⟩

end Go.Proofs.Ytdondndalpmdgaa
