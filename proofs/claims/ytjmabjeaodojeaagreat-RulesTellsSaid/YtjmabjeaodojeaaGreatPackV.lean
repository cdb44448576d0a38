import Derived.Test.YtjmabjeaodojeaaGreatPackK
import Derived.Test.YtjmabjeaodojeaaGreatSpecRefM
/- Used by the law. -/
namespace Go.Proofs.YtjmabjeaodojeaaGreat
open Go.RowKit

theorem tl_start (w : World) : Tl w ((w.alloc nilSpec).alloc nilSpec) (w.heap.size + 2) [] := by
  have e : (w.alloc nilSpec).heap.size = w.heap.size + 1 := World.size_alloc w nilSpec
  have h1 : ((w.alloc nilSpec).alloc nilSpec).heap[w.heap.size + 1]? = some nilSpec := by rw [← e]; exact heap_alloc_new _ _
  have h0 : ((w.alloc nilSpec).alloc nilSpec).heap[w.heap.size]? = some nilSpec := ((World.grownBy_alloc (w.alloc nilSpec) nilSpec none).block w.heap.size (by omega) (by simp)).trans (heap_alloc_new w nilSpec)
  exact ⟨none, 0, h1, Acc.nil _ _, by simp, h0, ((Below.refl w.heap.size w).alloc (Nat.le_refl _) nilSpec).alloc (by omega) nilSpec, Nat.le_refl _, by rw [World.size_alloc]; omega⟩
theorem Tl.rules {w W : World} {B : Nat} {outs : List Rw} (h : Tl w W B outs) : ∃ a c, W.heap[w.heap.size + 1]? = some (.cells #[.slice none 0 0, .slice a outs.length c] 44 (0, 0)) ∧ (a = none → c = 0) ∧
    ∀ W', W.grownBy W' (some w.heap.size) → Rs W' a outs.length c outs ∧ W'.ownsRow w.heap.size 39 3 (.slice a outs.length c) outs.length (rcells outs) ∧ (∀ x ∈ outs, x.Far (Value.slice a outs.length c).ownBlock) ∧ ∀ k, k < w.heap.size → True → ∀ x ∈ outs, x.Far (some k) := by
  obtain ⟨a, c, h1, h2, h3, h4, h5, h7, h6⟩ := h
  have hown := own_mono h2.1 (show w.heap.size ≤ B by omega)
  have hown' := own_mono h2.1 (show w.heap.size + 1 ≤ B by omega)
  obtain ⟨a', c', e, hn, hr⟩ := h2.form
  cases e
  refine ⟨a, c, h1, hn, fun W' hg => ⟨?_, hown.kept hg (by
    cases a with
    | none => exact .inl rfl
    | some p =>
      refine .inr fun e => ?_
      rcases hown'.2 with h8 | ⟨g, cap, cur, hv, hgb, _⟩
      · cases h8.1
      · simp only [Value.slice.injEq, Option.some.injEq] at hv
        obtain ⟨rfl, _, _⟩ := hv
        have := Option.some.inj e
        simp only at this
        omega), (fun x hx => (h2.2 x hx).2), fun k hk _ x hx => (h3 x hx).far (fun g hg' => by cases hg'; omega)⟩⟩
  obtain ⟨r1, r2, r3, r4, r5⟩ := hr
  refine ⟨r1, r2, r3, fun x hx => (h2.2 x hx).1.grown hg ((h3 x hx).far (fun g hg' => by cases hg'; omega)), ?_⟩
  rcases r5 with r5 | ⟨b, off, ha, hc⟩
  · exact .inl r5
  · refine .inr ⟨b, off, ha, fun i hi => (hc i hi).grown hg (fun e => ?_)⟩
    have := (h2.row b (by rw [ha]; rfl)).1
    cases e; omega
theorem mapsG_take {l : List Int} {C : Int} {i : Nat} (hi : i < l.length) : (l.take (i + 1)).flatMap (fun x => Spec.mapsA C x l) = (l.take i).flatMap (fun x => Spec.mapsA C x l) ++ Spec.mapsA C (l.getD i 0) l := by
  rw [take_snoc hi, List.flatMap_append]; simp

set_option maxHeartbeats 6400000 in
set_option maxRecDepth 100000 in
theorem tellClass_is (sa : Option Addr) (sc : Nat) (xs : List Wd) (ca : Option Addr) (cn cc : Nat) (cs : List Int) (l : List Int) (C : Int) (ok : Bool) (rs : List Rul) (w : World) (hs : Ws w sa 1 sc xs) (hc : Sl .u64 w ca cn cc cs) (h1 : 0 < cn)
    (hl : (nums xs).getD 0 [] = l) (hC : cs.getD 0 0 = C) (hok : Spec.rowOk l = ok) (hr : (if ok = true then Spec.mapsG C l else []) = rs) :
    Calls Tryz.prog 64 #[.slice sa 1 sc, .slice ca cn cc] w fun e w' => TellIs w w' e [] rs ok (fun _ => True) := by
  obtain ⟨b1, o1, la, n, lc, L, rfl, hb1, _, hx1, hL, hn1⟩ := hs.one 0 (by omega)
  obtain rfl : L = l := by rw [← hl, ← hn1]
  obtain ⟨b2, o2, rfl, hb2, hcc⟩ := hc.at h1
  have hx3 := hcc 0 h1
  rw [hC] at hx3
  have hCw : 0 ≤ C ∧ C < 18446744073709551616 := by
    have hm : C ∈ cs := by rw [← hC, List.getD_eq_getElem?_getD, List.getElem?_eq_getElem (by rw [hc.1]; exact h1), Option.getD_some]; exact List.getElem_mem _
    have := hc.2.2.2.1 C hm
    have := bounds_u64 this; omega
  have hcm := hL.2.2.1
  have hnc := hL.2.1
  unfold maxLen at hcm
  have HS := Lib.hid hL
  have HL := Lib.hid hL.1
  have HOK := Lib.hid hok
  have HR := Lib.hid hr
  have HCW := Lib.hid hCw
  have h1i : (0 : Int) < (cn : Int) := by omega
  have hmx : Tryz.prog.follows .mixedOrders = true := by kernel_rfl
  have HMX := Lib.hid hmx
  have HI : Hid ((Tryz.prog.info? 44).map (·.size) = some 2) := info_spec
  have HT0 := Lib.hid (tl_start w)
  change w.cell? ⟨b1, o1, none⟩ = some (.slice la n lc) at hx1
  change w.cell? ⟨b2, o2, none⟩ = some (.int .u64 C) at hx3
  have HC3 : Hid (∀ W, Below w.heap.size w W → W.cell? ⟨b2, o2, none⟩ = some (.int .u64 C)) := fun W hB => (hB.cell (p := ⟨b2, o2, none⟩) hb2).trans hx3
  have HCX : Hid (∀ j W, j < n → Below w.heap.size w W → ∃ b o, la = some ⟨b, o, none⟩ ∧ W.cell? ⟨b, o + j, none⟩ = some (.int .i64 (L.getD j 0))) := fun j W hj hB => by
    obtain ⟨b, o, e, hb, hcell⟩ := hL.at (by omega)
    exact ⟨b, o, e, (hB.cell (p := ⟨b, o + j, none⟩) hb).trans (hcell j hj)⟩
  have HWF : Hid (∀ j, j < n → (Lit.int .i64 (L.getD j 0)).wf = true) := fun j hj => by
    refine hL.2.2.2.1 _ ?_
    rw [List.getD_eq_getElem?_getD, List.getElem?_eq_getElem (by rw [hL.1]; exact hj), Option.getD_some]; exact List.getElem_mem _
  have hx2 : ∀ q1 q2, ((w.alloc q1).alloc q2).cell? ⟨b1, o1, none⟩ = some (.slice la n lc) := fun q1 q2 => ((((Below.refl w.heap.size w).alloc (Nat.le_refl _) q1).alloc (by simp) q2).cell (p := ⟨b1, o1, none⟩) hb1).trans hx1
  clear hs hc hl hC hok hr hcc hL hn1 hCw hmx hb1 hb2 hx3 hx1
  go_enter Tryz.func64, Tryz.ntmps64
  go_wp2_with fail
  refine (rowFits_is la n lc L ok _ ((HS.out.alloc _).alloc _) HOK.out).mono ?_
  rintro e w1 ⟨rfl, rfl⟩
  obtain ⟨W, hW⟩ : ∃ W, W = (w.alloc (.cells #[.slice none 0 0, .slice none 0 0] 44)).alloc (.cells #[.slice none 0 0, .slice none 0 0] 44) := ⟨_, rfl⟩
  have HT : Hid (Tl w W (w.heap.size + 2) []) := by subst hW; exact HT0.out
  rw [← hW]
  clear hW HT0 hx2
  cases ok
  · obtain rfl : rs = [] := by rw [← HR.out]; rfl
    have H0 : Hid (W.heap[w.heap.size]? = some (.cells #[.slice none 0 0, .slice none 0 0] 44 (0, 0))) := by obtain ⟨_, _, _, _, _, h, _⟩ := HT.out; exact h
    have HBW : Hid (Below w.heap.size w W) := by obtain ⟨_, _, _, _, _, _, h, _⟩ := HT.out; exact h
    go_wp2_with (refine wpList_store_g (by rfl) 44 (.tmp 4) (.tmp 18) (by rfl) w.heap.size #[.slice none 0 0, .slice none 0 0] (by rfl) (by rfl) 44 #[.slice none 0 0, .slice none 0 0] H0.out HI.out rfl (spec_cells _ _ _ _ _ _) ?_
                 intro w5 hw5 hgr5 hsz5
                 have HW5 := Lib.hid hw5
                 have HB5 : Hid (Below w.heap.size w w5) := HBW.out.grown hgr5 HBW.out.size (fun k hk => by cases hk; exact Nat.le_refl _)
                 clear hw5 hgr5 hsz5)
    refine bodyPost_ret (results_cell_row_tmp rfl _ _ w.heap.size 44 #[.slice none 0 0, .slice none 0 0] (0, 0) _ (by rfl) HW5.out Tryz.underlying44 (by rfl) HI.out) rfl ?_
    exact ⟨none, 0, 0, none, 0, 0, [], rfl, Sl.nil, fun _ => rfl, Rs.nil, rfl, fun _ => rfl, HB5.out, owns_nil_rules _ _, (fun x hx => absurd hx List.not_mem_nil), fun _ _ _ x hx => absurd hx List.not_mem_nil⟩
  · have hn12 : n ≤ 12 := by
      have h := HOK.out
      unfold Spec.rowOk at h
      rw [Bool.and_eq_true] at h
      have := of_decide_eq_true h.1
      rw [HL.out] at this; exact this
    go_wp2
    go_loopw [21] (fun ix wr => ∃ (i : Nat) (outs : List Rw), i ≤ n ∧ ix = .int .i64 (i : Int) ∧ outs.length ≤ i * 12 ∧ Hid (Tl w wr (w.heap.size + 2) outs) ∧ Hid (ruls outs = (L.take i).flatMap fun x => Spec.mapsA C x L)) (fun ix _ => n - (intOf ix).toNat)
    case atStart => exact ⟨0, [], Nat.zero_le _, rfl, Nat.zero_le _, HT.out, by first | rfl | trivial⟩
    case round =>
      obtain ⟨i, outs, hi, rfl, hol, HTL, HRL⟩ := hrel
      have HBW : Hid (Below w.heap.size w wr) := by obtain ⟨_, _, _, _, _, _, h, _⟩ := HTL.out; exact h
      by_cases hlt : i < n
      · have hlti : (i : Int) < (n : Int) := by omega
        obtain ⟨x, hx⟩ : ∃ x, L.getD i 0 = x := ⟨_, rfl⟩
        obtain ⟨bb, oo, rfl, hxi⟩ := HCX.out i wr hlt HBW.out
        rw [hx] at hxi
        have HX := Lib.hid hx
        have HXW : Hid ((Lit.int .i64 x).wf = true) := by show _ = _; rw [← hx]; exact HWF.out i hlt
        clear hx
        go_wp2
        go_loopw [27] (fun kx wr' => ∃ (k : Nat) (outs' : List Rw), k ≤ n ∧ kx = .int .i64 (k : Int) ∧ outs'.length ≤ i * 12 + k ∧ Hid (Tl w wr' (w.heap.size + 2) outs') ∧ Hid (ruls outs' = ((L.take i).flatMap fun x => Spec.mapsA C x L) ++ Spec.mapsA C x (L.take k))) (fun kx _ => n - (intOf kx).toNat)
        case atStart => exact ⟨0, outs, Nat.zero_le _, rfl, by omega, HTL.out, by show _ = _; rw [HRL.out]; simp [Spec.mapsA]⟩
        case round =>
          obtain ⟨k, outs', hk, rfl, hol', HTL', HRL'⟩ := hrel
          have HBW' : Hid (Below w.heap.size w wr) := by obtain ⟨_, _, _, _, _, _, h, _⟩ := HTL'.out; exact h
          by_cases hlk : k < n
          · have hlki : (k : Int) < (n : Int) := by omega
            obtain ⟨y, hy⟩ : ∃ y, L.getD k 0 = y := ⟨_, rfl⟩
            obtain ⟨bb', oo', e, hyk⟩ := HCX.out k wr hlk HBW'.out
            obtain ⟨rfl, rfl⟩ : bb = bb' ∧ oo = oo' := by simpa using e
            rw [hy] at hyk
            have HY := Lib.hid hy
            have HYW : Hid ((Lit.int .i64 y).wf = true) := by show _ = _; rw [← hy]; exact HWF.out k hlk
            obtain ⟨ta, tc, ht1, hacc, hsz, hcall⟩ := HTL'.out.call
            have HACC := Lib.hid hacc
            have HSZ := Lib.hid hsz
            have HCALL := Lib.hid hcall
            have hxc := HC3.out wr HBW'.out
            clear hy e hacc hsz hcall
            go_wp2_with fail
            go_still_tail 7, HMX.out
            change wpList _ _ _ _ _ _
            go_wp2_with fail
            refine (appendUnlike_is (w.heap.size + 2) (.slice ta outs'.length tc) outs' x y C _ wr.drew HACC.out HSZ.out HXW.out HYW.out HCW.out (by omega) rfl).mono ?_
            rintro e w5 ⟨v', zs, rfl, hz, hhi, hacc5, hgr5, hob5⟩
            obtain ⟨ta', tc', M, rfl, ht5, hst⟩ := HCALL.out w5 v' zs hhi hacc5 hgr5
            have HT5 := Lib.hid ht5
            have HST := Lib.hid hst
            have HZ := Lib.hid hz
            clear hz hhi hacc5 hgr5 hob5 ht5 hst
            go_wp2_with (refine wpList_store_told (by rfl) (.tmp 39) (.tmp 38) (by rfl) (w.heap.size + 1) _ _ ta' M tc' (by rfl) (by rfl) _ HT5.out ?_
                         intro w6 hw6 hg6 hsz6
                         have HT6 := Lib.hid (HST.out w6 hw6 hg6).1
                         clear hw6 hg6 hsz6)
            go_roundw
            case rel =>
              refine ⟨k + 1, outs' ++ zs, by omega, by go_num, ?_, HT6.out, ?_⟩
              · have : zs.length ≤ 1 := by
                  rw [← ruls_length, HZ.out]; split <;> simp
                rw [List.length_append]; omega
              · show _ = _
                rw [ruls_app, HRL'.out, HZ.out, List.append_assoc, take_snoc (by rw [HL.out]; exact hlk), mapsA_snoc, HY.out]
                congr 2
                by_cases he : x = y
                · rw [if_pos he, if_neg (fun h => h he)]
                · rw [if_neg he, if_pos he]
            case measure => simp [intOf]; omega
          · obtain rfl : k = n := by omega
            go_wp2
            go_roundw
            case rel =>
              refine ⟨i + 1, outs', by omega, by go_num, by omega, HTL'.out, ?_⟩
              show _ = _
              have hT : L.take k = L := List.take_of_length_le (by rw [HL.out]; exact Nat.le_refl _)
              rw [HRL'.out, mapsG_take (by rw [HL.out]; exact hlt), HX.out, hT]
            case measure => simp [intOf]; omega
      · obtain rfl : i = n := by omega
        obtain ⟨ta, tc, ht1, hnil, hrs⟩ := HTL.out.rules
        have H0 : Hid (wr.heap[w.heap.size]? = some (.cells #[.slice none 0 0, .slice none 0 0] 44 (0, 0))) := by obtain ⟨_, _, _, _, _, h, _⟩ := HTL.out; exact h
        have HT1 := Lib.hid ht1
        have HNIL := Lib.hid hnil
        have HRS := Lib.hid hrs
        have HEND : Hid (ruls outs = rs) := by
          show _ = _
          rw [HRL.out, ← HR.out, List.take_of_length_le (by rw [HL.out]; exact Nat.le_refl _)]; rfl
        have HI2 : Hid ((Tryz.prog.info? 44).map (·.size) = some (#[Value.slice none 0 0, Value.slice ta outs.length tc]).size) := HI.out
        clear ht1 hnil hrs
        go_wp2_with (first
          | (refine wpList_load_row_w (by rfl) 44 (.tmp 6) (by rfl) (w.heap.size + 1) (by rfl) 44 #[.slice none 0 0, .slice ta outs.length tc] (0, 0) _ HT1.out Tryz.underlying44 (by rfl) HI2.out ?_)
          | (refine wpList_store_g (by rfl) 44 (.tmp 4) (.tmp 42) (by rfl) w.heap.size #[.slice none 0 0, .slice ta outs.length tc] (by rfl) (by rfl) 44 #[.slice none 0 0, .slice none 0 0] H0.out HI.out rfl (spec_cells _ _ _ _ _ _) ?_
             intro w5 hw5 hgr5 hsz5
             have HW5 := Lib.hid hw5
             have HG5 := Lib.hid hgr5
             clear hw5 hgr5 hsz5))
        refine bodyPost_ret (results_cell_row_tmp rfl _ _ w.heap.size 44 #[.slice none 0 0, .slice ta outs.length tc] (0, 0) _ (by rfl) HW5.out Tryz.underlying44 (by rfl) HI.out) rfl ?_
        have hB5 : Below w.heap.size w w5 := HBW.out.grown HG5.out HBW.out.size (fun k hk => by cases hk; exact Nat.le_refl _)
        exact ⟨none, 0, 0, ta, outs.length, tc, outs, rfl, Sl.nil, fun _ => rfl, (HRS.out w5 HG5.out).1, HEND.out, HNIL.out, hB5, (HRS.out w5 HG5.out).2⟩

end Go.Proofs.YtjmabjeaodojeaaGreat

/- Used by the law. -/
namespace Go.Proofs.YtjmabjeaodojeaaGreat
open Go.RowKit

theorem tl_late {w W1 : World} (hb : Below ((w.alloc nilSpec).alloc nilSpec).heap.size ((w.alloc nilSpec).alloc nilSpec) W1) : Tl w W1 W1.heap.size [] := by
  have e : (w.alloc nilSpec).heap.size = w.heap.size + 1 := World.size_alloc w nilSpec
  have e2 : ((w.alloc nilSpec).alloc nilSpec).heap.size = w.heap.size + 2 := by rw [World.size_alloc]; omega
  have h1 : ((w.alloc nilSpec).alloc nilSpec).heap[w.heap.size + 1]? = some nilSpec := by rw [← e]; exact heap_alloc_new _ _
  have h0 : ((w.alloc nilSpec).alloc nilSpec).heap[w.heap.size]? = some nilSpec := ((World.grownBy_alloc (w.alloc nilSpec) nilSpec none).block w.heap.size (by omega) (by simp)).trans (heap_alloc_new w nilSpec)
  have hs := hb.size
  exact ⟨none, 0, (hb.block _ (by omega)).trans h1, Acc.nil _ _, by simp, (hb.block _ (by omega)).trans h0,
    (((Below.refl w.heap.size w).alloc (Nat.le_refl _) nilSpec).alloc (by omega) nilSpec).trans (hb.mono (by omega)), by omega, Nat.le_refl _⟩
theorem one_len {zs : List Rw} {x y C : Int} (h : ruls zs = if x = y then [] else [⟨[x], [y], C⟩]) : zs.length ≤ 1 := by
  rw [← ruls_length, h]; split <;> simp
theorem rowG_take {zs : List Int} {C : Int} {k : Nat} (h : k + 1 < zs.length) :
    Spec.rowG C (zs.take (k + 2)) = Spec.rowG C (zs.take (k + 1)) ++ if zs.getD k 0 = zs.getD (k + 1) 0 then [] else Spec.both (zs.getD k 0) (zs.getD (k + 1) 0) C := by
  rw [take_snoc h, take_snoc (show k < zs.length by omega), Spec.rowG_snoc]
theorem flat_take {L : List (List Int)} {C : Int} {j : Nat} (h : j < L.length) : (L.take (j + 1)).flatMap (Spec.rowG C) = (L.take j).flatMap (Spec.rowG C) ++ Spec.rowG C (L.getD j []) := by
  rw [List.take_succ_eq_append_getElem h, List.flatMap_append]; simp [h]
theorem all_take {L : List (List Int)} {j : Nat} (h : j < L.length) (h1 : (L.take j).all Spec.rowOk = true) (h2 : Spec.rowOk (L.getD j []) = true) : (L.take (j + 1)).all Spec.rowOk = true := by
  rw [List.take_succ_eq_append_getElem h, List.all_append, h1]
  have e : L.getD j [] = L[j] := by simp [h]
  rw [e] at h2
  simp [h2]

set_option maxHeartbeats 12800000 in
set_option maxRecDepth 100000 in
theorem tellNeighbours_is (sa : Option Addr) (sc : Nat) (xs : List Wd) (ca : Option Addr) (cn cc : Nat) (cs : List Int) (l : List Int) (C : Int) (ok : Bool) (rs : List Rul) (w : World) (hs : Ws w sa 1 sc xs) (hc : Sl .u64 w ca cn cc cs) (h1 : 0 < cn)
    (hform : ∀ x ∈ xs, (x.a = none ∧ x.cap = 0) ∨ ∃ b off, x.a = some ⟨b, off, none⟩) (hlen : l.length ≤ 5000)
    (hl : (nums xs).getD 0 [] = l) (hC : cs.getD 0 0 = C) (hok : Spec.keysOk 0 l = ok) (hr : (if ok = true then Spec.keysG C 0 0 l else []) = rs) :
    Calls Tryz.prog 63 #[.slice sa 1 sc, .slice ca cn cc] w fun e w' => TellIs w w' e [] rs ok (fun _ => True) := by
  obtain ⟨b1, o1, la, n, lc, L, rfl, hb1, hxe, hx1, hL, hn1⟩ := hs.one 0 (by omega)
  obtain rfl : L = l := by rw [← hl, ← hn1]
  have hf0 := hform (xs.getD 0 Wd.no) (by
    rw [List.getD_eq_getElem?_getD, List.getElem?_eq_getElem (by rw [hs.1]; omega), Option.getD_some]; exact List.getElem_mem _)
  rw [hxe] at hf0
  obtain ⟨b2, o2, rfl, hb2, hcc⟩ := hc.at h1
  have hx3 := hcc 0 h1
  rw [hC] at hx3
  have hCw : 0 ≤ C ∧ C < 18446744073709551616 := by
    have hm : C ∈ cs := by rw [← hC, List.getD_eq_getElem?_getD, List.getElem?_eq_getElem (by rw [hc.1]; exact h1), Option.getD_some]; exact List.getElem_mem _
    have := hc.2.2.2.1 C hm
    have := bounds_u64 this; omega
  have HS := Lib.hid hL
  have HF0 : Hid ((la = none ∧ lc = 0) ∨ ∃ b off, la = some ⟨b, off, none⟩) := hf0
  have HL := Lib.hid hL.1
  have HLN := Lib.hid hlen
  have HOK := Lib.hid hok
  have HR := Lib.hid hr
  have HCW := Lib.hid hCw
  have h1i : (0 : Int) < (cn : Int) := by omega
  have hmx : Tryz.prog.follows .mixedOrders = true := by kernel_rfl
  have HMX := Lib.hid hmx
  have HI : Hid ((Tryz.prog.info? 44).map (·.size) = some 2) := info_spec
  change w.cell? ⟨b1, o1, none⟩ = some (.slice la n lc) at hx1
  change w.cell? ⟨b2, o2, none⟩ = some (.int .u64 C) at hx3
  have HC3 : Hid (∀ W, Below w.heap.size w W → W.cell? ⟨b2, o2, none⟩ = some (.int .u64 C)) := fun W hB => (hB.cell (p := ⟨b2, o2, none⟩) hb2).trans hx3
  have hx2 : ∀ q1 q2, ((w.alloc q1).alloc q2).cell? ⟨b1, o1, none⟩ = some (.slice la n lc) := fun q1 q2 => ((((Below.refl w.heap.size w).alloc (Nat.le_refl _) q1).alloc (by simp) q2).cell (p := ⟨b1, o1, none⟩) hb1).trans hx1
  have HB2 : Hid (∀ q1 q2, Below w.heap.size w ((w.alloc q1).alloc q2)) := fun q1 q2 => ((Below.refl w.heap.size w).alloc (Nat.le_refl _) q1).alloc (by simp) q2
  clear hs hc hl hC hok hr hcc hL hn1 hCw hmx hb1 hb2 hx3 hx1 hform hf0 hxe hlen
  go_enter Tryz.func63, Tryz.ntmps63
  go_wp2_with fail
  refine (rows_is la n lc L w _ HS.out (HB2.out _ _) HF0.out (by have h1 := HL.out; have h2 := HLN.out; omega)).mono ?_
  rintro e W1 ⟨ra, m, rc, ys, rfl, hys, hyn, hbw1, hkeep⟩
  have HYN := Lib.hid hyn
  have HKEEP : Hid (∀ W', W1.grownBy W' (some (w.heap.size + 1)) → Ws W' ra m rc ys) := fun W' hg => hkeep W' (w.heap.size + 1) (by omega) (by simp) hg
  have HT : Hid (Tl w W1 W1.heap.size []) := tl_late hbw1
  obtain ⟨B, hB⟩ : ∃ B, W1.heap.size = B := ⟨_, rfl⟩
  rw [hB] at HT
  have HB : Hid (W1.heap.size ≤ B) := Nat.le_of_eq hB
  have HM : Hid ((nums ys).length = m) := by show _ = _; rw [nums_length, hys.1]
  have hm1 : m ≤ 5001 := by
    have h1 := Spec.rowsA_len L []
    have h2 := HLN.out
    rw [← HM.out, hyn]; omega
  clear hys hyn hbw1 hkeep hB hx2
  go_wp2
  go_loopw [15] (fun jx wr => ∃ (j : Nat) (outs : List Rw), j ≤ m ∧ jx = .int .i64 (j : Int) ∧ outs.length ≤ j * 24 ∧ Hid (Tl w wr B outs) ∧ Hid (W1.grownBy wr (some (w.heap.size + 1))) ∧ Hid (ruls outs = ((nums ys).take j).flatMap (Spec.rowG C)) ∧ Hid (((nums ys).take j).all Spec.rowOk = true)) (fun jx _ => m - (intOf jx).toNat)
  case atStart => exact ⟨0, [], Nat.zero_le _, rfl, Nat.zero_le _, HT.out, World.grownBy.refl _ _, by first | rfl | trivial, by first | rfl | trivial⟩
  case round =>
    obtain ⟨j, outs, hj, rfl, hol, HTL, HGR, HRL, HALL⟩ := hrel
    have HBW : Hid (Below w.heap.size w wr) := by obtain ⟨_, _, _, _, _, _, h, _⟩ := HTL.out; exact h
    have H0 : Hid (wr.heap[w.heap.size]? = some (.cells #[.slice none 0 0, .slice none 0 0] 44 (0, 0))) := by obtain ⟨_, _, _, _, _, h, _⟩ := HTL.out; exact h
    by_cases hlt : j < m
    · have hlti : (j : Int) < (m : Int) := by omega
      obtain ⟨gb, go, a1, n1, c1, zs, rfl, hgb, hyj, hrow, hsl, hzs⟩ := (HKEEP.out wr HGR.out).one j hlt
      have hc1 := hsl.2.1
      have hcm := hsl.2.2.1
      unfold maxLen at hcm
      have HZL := Lib.hid hsl.1
      have HSL := Lib.hid hsl
      have HSLK : Hid (∀ W', W1.grownBy W' (some (w.heap.size + 1)) → Sl .i64 W' a1 n1 c1 zs) := fun W' hg => by
        have := (HKEEP.out W' hg).good j
        rw [hyj] at this; exact this
      have HZS := Lib.hid hzs
      obtain ⟨q, hq⟩ : ∃ q, Spec.rowOk zs = q := ⟨_, rfl⟩
      have HQ := Lib.hid hq
      clear hsl hzs hq hgb hyj
      go_wp2_with fail
      refine (rowFits_is a1 n1 c1 zs q wr HSL.out HQ.out).mono ?_
      rintro e wx ⟨rfl, rfl⟩
      cases q
      · obtain rfl : ok = false := by
          rw [← HOK.out, ← Spec.rows_all, ← HYN.out]
          rw [List.all_eq_false]
          refine ⟨zs, ?_, by rw [HQ.out]; decide⟩
          rw [← HZS.out, List.getD_eq_getElem?_getD, List.getElem?_eq_getElem (by rw [HM.out]; exact hlt), Option.getD_some]; exact List.getElem_mem _
        obtain rfl : rs = [] := by rw [← HR.out]; rfl
        go_wp2_with (refine wpList_store_g (by rfl) 44 (.tmp 4) (.tmp 22) (by rfl) w.heap.size #[.slice none 0 0, .slice none 0 0] (by rfl) (by rfl) 44 #[.slice none 0 0, .slice none 0 0] H0.out HI.out rfl (spec_cells _ _ _ _ _ _) ?_
                     intro w5 hw5 hgr5 hsz5
                     have HW5 := Lib.hid hw5
                     have HB5 : Hid (Below w.heap.size w w5) := HBW.out.grown hgr5 HBW.out.size (fun k hk => by cases hk; exact Nat.le_refl _)
                     clear hw5 hgr5 hsz5)
        refine bodyPost_ret (results_cell_row_tmp rfl _ _ w.heap.size 44 #[.slice none 0 0, .slice none 0 0] (0, 0) _ (by rfl) HW5.out Tryz.underlying44 (by rfl) HI.out) rfl ?_
        exact ⟨none, 0, 0, none, 0, 0, [], rfl, Sl.nil, fun _ => rfl, Rs.nil, rfl, fun _ => rfl, HB5.out, owns_nil_rules _ _, (fun x hx => absurd hx List.not_mem_nil), fun _ _ _ x hx => absurd hx List.not_mem_nil⟩
      · have hn12 : n1 ≤ 12 := by
          have h := HQ.out
          unfold Spec.rowOk at h
          rw [Bool.and_eq_true] at h
          have := of_decide_eq_true h.1
          rw [HZL.out] at this; exact this
        have HWF : Hid (∀ k, k < n1 → (Lit.int .i64 (zs.getD k 0)).wf = true) := fun k hk => by
          refine HSL.out.2.2.2.1 _ ?_
          rw [List.getD_eq_getElem?_getD, List.getElem?_eq_getElem (by rw [HZL.out]; exact hk), Option.getD_some]; exact List.getElem_mem _
        have HNX : Hid (∀ (outs' : List Rw) (k : Nat), n1 ≤ k + 1 → ruls outs' = ((nums ys).take j).flatMap (Spec.rowG C) ++ Spec.rowG C (zs.take (k + 1)) → ruls outs' = ((nums ys).take (j + 1)).flatMap (Spec.rowG C)) := fun outs' k hk h => by
          rw [h, flat_take (by rw [HM.out]; exact hlt), HZS.out, List.take_of_length_le (show zs.length ≤ k + 1 by rw [HZL.out]; exact hk)]
        have HAN : Hid (((nums ys).take (j + 1)).all Spec.rowOk = true) := all_take (by rw [HM.out]; exact hlt) HALL.out (by rw [HZS.out]; exact HQ.out)
        go_wp2
        go_loopw [26] (fun kx wr' => ∃ (k : Nat) (outs' : List Rw), (k = 0 ∨ k + 1 ≤ n1) ∧ kx = .int .i64 (k : Int) ∧ outs'.length ≤ j * 24 + 2 * k ∧ Hid (Tl w wr' B outs') ∧ Hid (W1.grownBy wr' (some (w.heap.size + 1))) ∧ Hid (ruls outs' = ((nums ys).take j).flatMap (Spec.rowG C) ++ Spec.rowG C (zs.take (k + 1)))) (fun kx _ => n1 - (intOf kx).toNat)
        case atStart =>
          refine ⟨0, outs, .inl rfl, rfl, by omega, HTL.out, HGR.out, ?_⟩
          show _ = _
          rw [HRL.out]
          cases zs <;> simp [Spec.rowG]
        case round =>
          obtain ⟨k, outs', hk, rfl, hol', HTL', HGR', HRL'⟩ := hrel
          have HBW' : Hid (Below w.heap.size w wr) := by obtain ⟨_, _, _, _, _, _, h, _⟩ := HTL'.out; exact h
          by_cases hlk : k + 1 < n1
          · have hlki : (k : Int) < (n1 : Int) - 1 := by omega
            obtain ⟨p, hp⟩ : ∃ p, zs.getD k 0 = p := ⟨_, rfl⟩
            obtain ⟨x, hx⟩ : ∃ x, zs.getD (k + 1) 0 = x := ⟨_, rfl⟩
            obtain ⟨bb, oo, rfl, hbb, hcell⟩ := (HSLK.out wr HGR'.out).at (by omega)
            have hp1 := hcell k (by omega)
            have hx1 := hcell (k + 1) (by omega)
            rw [hp] at hp1
            rw [hx] at hx1
            have HPX : Hid (∀ W', W1.grownBy W' (some (w.heap.size + 1)) → W'.cell? ⟨bb, oo + k, none⟩ = some (.int .i64 p) ∧ W'.cell? ⟨bb, oo + (k + 1), none⟩ = some (.int .i64 x)) := fun W' hg => by
              obtain ⟨bb', oo', e, _, hc⟩ := (HSLK.out W' hg).at (by omega)
              simp only [Option.some.injEq, Addr.mk.injEq, and_true] at e
              obtain ⟨rfl, rfl⟩ := e
              exact ⟨by rw [← hp]; exact hc k (by omega), by rw [← hx]; exact hc (k + 1) (by omega)⟩
            have HPW : Hid ((Lit.int .i64 p).wf = true) := by show _ = _; rw [← hp]; exact HWF.out k (by omega)
            have HXW : Hid ((Lit.int .i64 x).wf = true) := by show _ = _; rw [← hx]; exact HWF.out (k + 1) hlk
            have HP := Lib.hid hp
            have HX := Lib.hid hx
            have hxc := HC3.out wr HBW'.out
            have hk0 : (0 : Int) ≤ (k : Int) := by omega
            have hkl : (k : Int) < (n1 : Int) := by omega
            have hkn : k < n1 := by omega
            have hwr : IntKind.i64.wrap ((k : Int) + 1) = (k : Int) + 1 := by rw [IntKind.wrap_i64]; omega
            have hkp : ((k : Int) + 1).toNat = k + 1 := by omega
            have hk1 : (k : Int) + 1 < (n1 : Int) := by omega
            have hk2 : (0 : Int) ≤ (k : Int) + 1 := by omega
            clear hcell hbb hp hx
            obtain ⟨ta1, tc1, ht1, hacc1, hsz1, hcall1⟩ := HTL'.out.call
            have HACC1 := Lib.hid hacc1
            have HSZ1 := Lib.hid hsz1
            have HCALL1 := Lib.hid hcall1
            clear hacc1 hsz1 hcall1
            try go_wp2_with fail
            go_still_tail 14, HMX.out
            change wpList _ _ _ _ _ _
            go_wp2_with fail
            refine (appendUnlike_is B (.slice ta1 (outs').length tc1) (outs') p x C _ wr.drew HACC1.out HSZ1.out HPW.out HXW.out HCW.out (by omega) rfl).mono ?_
            rintro e v1w ⟨v1, zs1, rfl, hz1, hhi1, haccx1, hgrx1, hobx1⟩
            obtain ⟨tax1, tcx1, M1, rfl, htx1, hst1⟩ := HCALL1.out v1w v1 zs1 hhi1 haccx1 hgrx1
            have HT1 := Lib.hid htx1
            have HST1 := Lib.hid hst1
            have HZ1 := Lib.hid hz1
            clear hz1 hhi1 haccx1 hgrx1 hobx1 htx1 hst1
            go_wp2_with (refine wpList_store_told (by rfl) (.tmp 44) (.tmp 43) (by rfl) (w.heap.size + 1) _ _ tax1 M1 tcx1 (by rfl) (by rfl) _ HT1.out ?_
                         intro w1 hw1 hg1 hsz1
                         have HTN1 := Lib.hid (HST1.out w1 hw1 hg1).1
                         have HGN1 := Lib.hid ((HST1.out w1 hw1 hg1).2 W1 HB.out HGR'.out)
                         clear hw1 hg1 hsz1)
            obtain ⟨outs1, ho1⟩ : ∃ o, outs' ++ zs1 = o := ⟨_, rfl⟩
            rw [ho1] at HTN1
            have HOL1 : Hid (outs1.length ≤ 200000) := by
              show _ ≤ _
              rw [← ho1, List.length_append]; have := one_len HZ1.out; omega
            have HO1 := Lib.hid ho1
            clear ho1
            have hp2 := (HPX.out w1 HGN1.out).1
            have hx2 := (HPX.out w1 HGN1.out).2
            have hxc2 := HC3.out w1 (by obtain ⟨_, _, _, _, _, _, h, _⟩ := HTN1.out; exact h)
            obtain ⟨ta2, tc2, ht2, hacc2, hsz2, hcall2⟩ := HTN1.out.call
            have HACC2 := Lib.hid hacc2
            have HSZ2 := Lib.hid hsz2
            have HCALL2 := Lib.hid hcall2
            clear hacc2 hsz2 hcall2
            go_still_tail 14, HMX.out
            change wpList _ _ _ _ _ _
            go_wp2_with fail
            refine (appendUnlike_is B (.slice ta2 (outs1).length tc2) (outs1) x p C _ w1.drew HACC2.out HSZ2.out HXW.out HPW.out HCW.out (HOL1.out) rfl).mono ?_
            rintro e v2w ⟨v2, zs2, rfl, hz2, hhi2, haccx2, hgrx2, hobx2⟩
            obtain ⟨tax2, tcx2, M2, rfl, htx2, hst2⟩ := HCALL2.out v2w v2 zs2 hhi2 haccx2 hgrx2
            have HT2 := Lib.hid htx2
            have HST2 := Lib.hid hst2
            have HZ2 := Lib.hid hz2
            clear hz2 hhi2 haccx2 hgrx2 hobx2 htx2 hst2
            go_wp2_with (refine wpList_store_told (by rfl) (.tmp 60) (.tmp 59) (by rfl) (w.heap.size + 1) _ _ tax2 M2 tcx2 (by rfl) (by rfl) _ HT2.out ?_
                         intro w2 hw2 hg2 hsz2
                         have HTN2 := Lib.hid (HST2.out w2 hw2 hg2).1
                         have HGN2 := Lib.hid ((HST2.out w2 hw2 hg2).2 W1 HB.out HGN1.out)
                         clear hw2 hg2 hsz2)
            go_roundw
            case rel =>
              refine ⟨k + 1, outs1 ++ zs2, .inr (by omega), by go_num, ?_, HTN2.out, HGN2.out, ?_⟩
              · have l1 : zs1.length ≤ 1 := by
                  rw [← ruls_length, HZ1.out]; split <;> simp
                have l2 : zs2.length ≤ 1 := by
                  rw [← ruls_length, HZ2.out]; split <;> simp
                rw [← HO1.out, List.length_append, List.length_append]; omega
              · show _ = _
                rw [← HO1.out, ruls_app, ruls_app, HRL'.out, HZ1.out, HZ2.out, rowG_take (by rw [HZL.out]; exact hlk), HP.out, HX.out, List.append_assoc, List.append_assoc]
                congr 2
                by_cases he : p = x
                · rw [if_pos he, if_pos he.symm, if_pos he]; rfl
                · rw [if_neg he, if_neg (fun h => he h.symm), if_neg he]; rfl
            case measure => simp [intOf]; omega
          · have hlki : ¬ (k : Int) < (n1 : Int) - 1 := by omega
            go_wp2
            go_roundw
            case rel =>
              refine ⟨j + 1, outs', by omega, by go_num, by omega, HTL'.out, HGR'.out, HNX.out outs' k (by omega) HRL'.out, HAN.out⟩
            case measure => simp [intOf]; omega
    · obtain rfl : j = m := by omega
      have hT : (nums ys).take j = nums ys := List.take_of_length_le (by rw [HM.out]; exact Nat.le_refl _)
      obtain rfl : ok = true := by
        rw [← HOK.out, ← Spec.rows_all, ← HYN.out, ← hT]; exact HALL.out
      obtain ⟨ta, tc, ht1, hnil, hrs⟩ := HTL.out.rules
      have HT1 := Lib.hid ht1
      have HNIL := Lib.hid hnil
      have HRS := Lib.hid hrs
      have HEND : Hid (ruls outs = rs) := by
        show _ = _
        rw [HRL.out, ← HR.out, hT, HYN.out, Spec.rows_flat]; rfl
      have HI2 : Hid ((Tryz.prog.info? 44).map (·.size) = some (#[Value.slice none 0 0, Value.slice ta outs.length tc]).size) := HI.out
      clear ht1 hnil hrs hT
      go_wp2_with (first
        | (refine wpList_load_row_w (by rfl) 44 (.tmp 6) (by rfl) (w.heap.size + 1) (by rfl) 44 #[.slice none 0 0, .slice ta outs.length tc] (0, 0) _ HT1.out Tryz.underlying44 (by rfl) HI2.out ?_)
        | (refine wpList_store_g (by rfl) 44 (.tmp 4) (.tmp 63) (by rfl) w.heap.size #[.slice none 0 0, .slice ta outs.length tc] (by rfl) (by rfl) 44 #[.slice none 0 0, .slice none 0 0] H0.out HI.out rfl (spec_cells _ _ _ _ _ _) ?_
           intro w5 hw5 hgr5 hsz5
           have HW5 := Lib.hid hw5
           have HG5 := Lib.hid hgr5
           clear hw5 hgr5 hsz5))
      refine bodyPost_ret (results_cell_row_tmp rfl _ _ w.heap.size 44 #[.slice none 0 0, .slice ta outs.length tc] (0, 0) _ (by rfl) HW5.out Tryz.underlying44 (by rfl) HI.out) rfl ?_
      have hB5 : Below w.heap.size w w5 := HBW.out.grown HG5.out HBW.out.size (fun k hk => by cases hk; exact Nat.le_refl _)
      exact ⟨none, 0, 0, ta, outs.length, tc, outs, rfl, Sl.nil, fun _ => rfl, (HRS.out w5 HG5.out).1, HEND.out, HNIL.out, hB5, (HRS.out w5 HG5.out).2⟩

end Go.Proofs.YtjmabjeaodojeaaGreat
