/- The program's tellNeighbours of layer 7. Written by wip/gen/spec_telln.py. -/
import Derived.Test.YtdondndalpmdgaaSpecTellD
namespace Go.Proofs.Ytdondndalpmdgaa
open Go.RowKit

set_option maxRecDepth 100000 in
theorem tl_late {w W1 : World} (hb : Below ((w.alloc nilSpec).alloc nilSpec).heap.size ((w.alloc nilSpec).alloc nilSpec) W1) : Tl w W1 W1.heap.size [] := by
  have e : (w.alloc nilSpec).heap.size = w.heap.size + 1 := World.size_alloc w nilSpec
  have e2 : ((w.alloc nilSpec).alloc nilSpec).heap.size = w.heap.size + 2 := by rw [World.size_alloc]; omega
  have h1 : ((w.alloc nilSpec).alloc nilSpec).heap[w.heap.size + 1]? = some nilSpec := by rw [← e]; exact heap_alloc_new _ _
  have h0 : ((w.alloc nilSpec).alloc nilSpec).heap[w.heap.size]? = some nilSpec := ((World.grownBy_alloc (w.alloc nilSpec) nilSpec none).block w.heap.size (by omega) (by simp)).trans (heap_alloc_new w nilSpec)
  have hs := hb.size
  exact ⟨none, 0, (hb.block _ (by omega)).trans h1, Acc.nil _ _, by simp, (hb.block _ (by omega)).trans h0,
    (((Below.refl w.heap.size w).alloc (Nat.le_refl _) nilSpec).alloc (by omega) nilSpec).trans (hb.mono (by omega)), by omega, Nat.le_refl _⟩
set_option maxRecDepth 100000 in
theorem one_len {zs : List Rw} {x y C : Int} (h : ruls zs = if x = y then [] else [⟨[x], [y], C⟩]) : zs.length ≤ 1 := by
  rw [← ruls_length, h]; split <;> simp
set_option maxRecDepth 100000 in
theorem rowG_take {zs : List Int} {C : Int} {k : Nat} (h : k + 1 < zs.length) :
    Spec.rowG C (zs.take (k + 2)) = Spec.rowG C (zs.take (k + 1)) ++ if zs.getD k 0 = zs.getD (k + 1) 0 then [] else Spec.both (zs.getD k 0) (zs.getD (k + 1) 0) C := by
  rw [take_snoc h, take_snoc (show k < zs.length by omega), Spec.rowG_snoc]
set_option maxRecDepth 100000 in
theorem flat_take {L : List (List Int)} {C : Int} {j : Nat} (h : j < L.length) : (L.take (j + 1)).flatMap (Spec.rowG C) = (L.take j).flatMap (Spec.rowG C) ++ Spec.rowG C (L.getD j []) := by
  rw [List.take_succ_eq_append_getElem h, List.flatMap_append]; simp [h]
set_option maxRecDepth 100000 in
theorem all_take {L : List (List Int)} {j : Nat} (h : j < L.length) (h1 : (L.take j).all Spec.rowOk = true) (h2 : Spec.rowOk (L.getD j []) = true) : (L.take (j + 1)).all Spec.rowOk = true := by
  rw [List.take_succ_eq_append_getElem h, List.all_append, h1]
  have e : L.getD j [] = L[j] := by simp [h]
  rw [e] at h2
  simp [h2]

set_option maxHeartbeats 12800000 in
set_option maxRecDepth 100000 in
theorem tellNeighbours_is (sa : Option Addr) (sc : Nat) (xs : List Wd) (ca : Option Addr) (cn cc : Nat) (cs : List Int) (l : List Int) (C : Int) (ok : Bool) (rs : List Rul) (w : World) (hs : Ws w sa 1 sc xs) (hc : Sl .u64 w ca cn cc cs) (h1 : 0 < cn)
    (hform : ∀ x ∈ xs, (x.a = none ∧ x.cap = 0) ∨ ∃ b off, x.a = some ⟨b, off, none⟩) (hlen : l.length ≤ 5000)
    (hl : (nums xs).getD 0 [] = l) (hC : cs.getD 0 0 = C) (hok : Spec.keysOk 0 l = ok) (hr : (if ok = true then Spec.keysG C 0 0 l else []) = rs) :
    Calls Try.prog 53 #[.slice sa 1 sc, .slice ca cn cc] w fun e w' => TellIs w w' e [] rs ok (fun _ => True) := by
  obtain ⟨b1, o1, la, n, lc, L, rfl, hb1, hxe, hx1, hL, hn1⟩ := hs.one 0 (by omega)
  obtain rfl : L = l := by rw [← hl, ← hn1]
  have hf0 := hform (xs.getD 0 Wd.no) (by
    rw [List.getD_eq_getElem?_getD, List.getElem?_eq_getElem (by rw [hs.1]; omega), Option.getD_some]; exact List.getElem_mem _)
  rw [hxe] at hf0
  obtain ⟨b2, o2, rfl, hb2, hcc⟩ := hc.at h1
  have hx3 := hcc 0 h1
  rw [hC] at hx3
  have hCw : 0 ≤ C ∧ C < 18446744073709551616 := by
    have hm : C ∈ cs := by rw [← hC, List.getD_eq_getElem?_getD, List.getElem?_eq_getElem (by rw [hc.1]; exact h1), Option.getD_some]; exact List.getElem_mem _
    have := hc.2.2.2.1 C hm
    have := bounds_u64 this; omega
  have HS := Lib.hid hL
  have HF0 : Hid ((la = none ∧ lc = 0) ∨ ∃ b off, la = some ⟨b, off, none⟩) := hf0
  have HL := Lib.hid hL.1
  have HLN := Lib.hid hlen
  have HOK := Lib.hid hok
  have HR := Lib.hid hr
  have HCW := Lib.hid hCw
  have h1i : (0 : Int) < (cn : Int) := by omega
  have hmx : Try.prog.follows .mixedOrders = true := by kernel_rfl
  have HMX := Lib.hid hmx
  have HI : Hid ((Try.prog.info? 41).map (·.size) = some 2) := info_spec
  change w.cell? ⟨b1, o1, none⟩ = some (.slice la n lc) at hx1
  change w.cell? ⟨b2, o2, none⟩ = some (.int .u64 C) at hx3
  have HC3 : Hid (∀ W, Below w.heap.size w W → W.cell? ⟨b2, o2, none⟩ = some (.int .u64 C)) := fun W hB => (hB.cell (p := ⟨b2, o2, none⟩) hb2).trans hx3
  have hx2 : ∀ q1 q2, ((w.alloc q1).alloc q2).cell? ⟨b1, o1, none⟩ = some (.slice la n lc) := fun q1 q2 => ((((Below.refl w.heap.size w).alloc (Nat.le_refl _) q1).alloc (by simp) q2).cell (p := ⟨b1, o1, none⟩) hb1).trans hx1
  have HB2 : Hid (∀ q1 q2, Below w.heap.size w ((w.alloc q1).alloc q2)) := fun q1 q2 => ((Below.refl w.heap.size w).alloc (Nat.le_refl _) q1).alloc (by simp) q2
  clear hs hc hl hC hok hr hcc hL hn1 hCw hmx hb1 hb2 hx3 hx1 hform hf0 hxe hlen
  go_enter Try.func53, Try.ntmps53
  go_wp2_with fail
  refine (rows_is la n lc L w _ HS.out (HB2.out _ _) HF0.out (by have h1 := HL.out; have h2 := HLN.out; omega)).mono ?_
  rintro e W1 ⟨ra, m, rc, ys, rfl, hys, hyn, hbw1, hkeep⟩
  have HYN := Lib.hid hyn
  have HKEEP : Hid (∀ W', W1.grownBy W' (some (w.heap.size + 1)) → Ws W' ra m rc ys) := fun W' hg => hkeep W' (w.heap.size + 1) (by omega) (by simp) hg
  have HT : Hid (Tl w W1 W1.heap.size []) := tl_late hbw1
  obtain ⟨B, hB⟩ : ∃ B, W1.heap.size = B := ⟨_, rfl⟩
  rw [hB] at HT
  have HB : Hid (W1.heap.size ≤ B) := Nat.le_of_eq hB
  have HM : Hid ((nums ys).length = m) := by show _ = _; rw [nums_length, hys.1]
  have hm1 : m ≤ 5001 := by
    have h1 := Spec.rowsA_len L []
    have h2 := HLN.out
    rw [← HM.out, hyn]; omega
  clear hys hyn hbw1 hkeep hB hx2
  go_wp2
  go_loopw [15] (fun jx wr => ∃ (j : Nat) (outs : List Rw), j ≤ m ∧ jx = .int .i64 (j : Int) ∧ outs.length ≤ j * 24 ∧ Hid (Tl w wr B outs) ∧ Hid (W1.grownBy wr (some (w.heap.size + 1))) ∧ Hid (ruls outs = ((nums ys).take j).flatMap (Spec.rowG C)) ∧ Hid (((nums ys).take j).all Spec.rowOk = true)) (fun jx _ => m - (intOf jx).toNat)
  case atStart => exact ⟨0, [], Nat.zero_le _, rfl, Nat.zero_le _, HT.out, World.grownBy.refl _ _, by first | rfl | trivial, by first | rfl | trivial⟩
  case round =>
    obtain ⟨j, outs, hj, rfl, hol, HTL, HGR, HRL, HALL⟩ := hrel
    have HBW : Hid (Below w.heap.size w wr) := by obtain ⟨_, _, _, _, _, _, h, _⟩ := HTL.out; exact h
    have H0 : Hid (wr.heap[w.heap.size]? = some (.cells #[.slice none 0 0, .slice none 0 0] 41 (0, 0))) := by obtain ⟨_, _, _, _, _, h, _⟩ := HTL.out; exact h
    by_cases hlt : j < m
    · have hlti : (j : Int) < (m : Int) := by omega
      obtain ⟨gb, go, a1, n1, c1, zs, rfl, hgb, hyj, hrow, hsl, hzs⟩ := (HKEEP.out wr HGR.out).one j hlt
      have hc1 := hsl.2.1
      have hcm := hsl.2.2.1
      unfold maxLen at hcm
      have HZL := Lib.hid hsl.1
      have HSL := Lib.hid hsl
      have HSLK : Hid (∀ W', W1.grownBy W' (some (w.heap.size + 1)) → Sl .i64 W' a1 n1 c1 zs) := fun W' hg => by
        have := (HKEEP.out W' hg).good j
        rw [hyj] at this; exact this
      have HZS := Lib.hid hzs
      obtain ⟨q, hq⟩ : ∃ q, Spec.rowOk zs = q := ⟨_, rfl⟩
      have HQ := Lib.hid hq
      clear hsl hzs hq hgb hyj
      go_wp2_with fail
      refine (rowFits_is a1 n1 c1 zs q wr HSL.out HQ.out).mono ?_
      rintro e wx ⟨rfl, rfl⟩
      cases q
      · obtain rfl : ok = false := by
          rw [← HOK.out, ← Spec.rows_all, ← HYN.out]
          rw [List.all_eq_false]
          refine ⟨zs, ?_, by rw [HQ.out]; decide⟩
          rw [← HZS.out, List.getD_eq_getElem?_getD, List.getElem?_eq_getElem (by rw [HM.out]; exact hlt), Option.getD_some]; exact List.getElem_mem _
        obtain rfl : rs = [] := by rw [← HR.out]; rfl
        go_wp2_with (refine wpList_store_g (by rfl) 41 (.tmp 4) (.tmp 22) (by rfl) w.heap.size #[.slice none 0 0, .slice none 0 0] (by rfl) (by rfl) 41 #[.slice none 0 0, .slice none 0 0] H0.out HI.out rfl (spec_cells _ _ _ _ _ _) ?_
                     intro w5 hw5 hgr5 hsz5
                     have HW5 := Lib.hid hw5
                     have HB5 : Hid (Below w.heap.size w w5) := HBW.out.grown hgr5 HBW.out.size (fun k hk => by cases hk; exact Nat.le_refl _)
                     clear hw5 hgr5 hsz5)
        refine bodyPost_ret (results_cell_row_tmp rfl _ _ w.heap.size 41 #[.slice none 0 0, .slice none 0 0] (0, 0) _ (by rfl) HW5.out Try.underlying41 (by rfl) HI.out) rfl ?_
        exact ⟨none, 0, 0, none, 0, 0, [], rfl, Sl.nil, fun _ => rfl, Rs.nil, rfl, fun _ => rfl, HB5.out, owns_nil_rules _ _, (fun x hx => absurd hx List.not_mem_nil), fun _ _ _ x hx => absurd hx List.not_mem_nil⟩
      · have hn12 : n1 ≤ 12 := by
          have h := HQ.out
          unfold Spec.rowOk at h
          rw [Bool.and_eq_true] at h
          have := of_decide_eq_true h.1
          rw [HZL.out] at this; exact this
        have HWF : Hid (∀ k, k < n1 → (Lit.int .i64 (zs.getD k 0)).wf = true) := fun k hk => by
          refine HSL.out.2.2.2.1 _ ?_
          rw [List.getD_eq_getElem?_getD, List.getElem?_eq_getElem (by rw [HZL.out]; exact hk), Option.getD_some]; exact List.getElem_mem _
        have HNX : Hid (∀ (outs' : List Rw) (k : Nat), n1 ≤ k + 1 → ruls outs' = ((nums ys).take j).flatMap (Spec.rowG C) ++ Spec.rowG C (zs.take (k + 1)) → ruls outs' = ((nums ys).take (j + 1)).flatMap (Spec.rowG C)) := fun outs' k hk h => by
          rw [h, flat_take (by rw [HM.out]; exact hlt), HZS.out, List.take_of_length_le (show zs.length ≤ k + 1 by rw [HZL.out]; exact hk)]
        have HAN : Hid (((nums ys).take (j + 1)).all Spec.rowOk = true) := all_take (by rw [HM.out]; exact hlt) HALL.out (by rw [HZS.out]; exact HQ.out)
        go_wp2
        go_loopw [26] (fun kx wr' => ∃ (k : Nat) (outs' : List Rw), (k = 0 ∨ k + 1 ≤ n1) ∧ kx = .int .i64 (k : Int) ∧ outs'.length ≤ j * 24 + 2 * k ∧ Hid (Tl w wr' B outs') ∧ Hid (W1.grownBy wr' (some (w.heap.size + 1))) ∧ Hid (ruls outs' = ((nums ys).take j).flatMap (Spec.rowG C) ++ Spec.rowG C (zs.take (k + 1)))) (fun kx _ => n1 - (intOf kx).toNat)
        case atStart =>
          refine ⟨0, outs, .inl rfl, rfl, by omega, HTL.out, HGR.out, ?_⟩
          show _ = _
          rw [HRL.out]
          cases zs <;> simp [Spec.rowG]
        case round =>
          obtain ⟨k, outs', hk, rfl, hol', HTL', HGR', HRL'⟩ := hrel
          have HBW' : Hid (Below w.heap.size w wr) := by obtain ⟨_, _, _, _, _, _, h, _⟩ := HTL'.out; exact h
          by_cases hlk : k + 1 < n1
          · have hlki : (k : Int) < (n1 : Int) - 1 := by omega
            obtain ⟨p, hp⟩ : ∃ p, zs.getD k 0 = p := ⟨_, rfl⟩
            obtain ⟨x, hx⟩ : ∃ x, zs.getD (k + 1) 0 = x := ⟨_, rfl⟩
            obtain ⟨bb, oo, rfl, hbb, hcell⟩ := (HSLK.out wr HGR'.out).at (by omega)
            have hp1 := hcell k (by omega)
            have hx1 := hcell (k + 1) (by omega)
            rw [hp] at hp1
            rw [hx] at hx1
            have HPX : Hid (∀ W', W1.grownBy W' (some (w.heap.size + 1)) → W'.cell? ⟨bb, oo + k, none⟩ = some (.int .i64 p) ∧ W'.cell? ⟨bb, oo + (k + 1), none⟩ = some (.int .i64 x)) := fun W' hg => by
              obtain ⟨bb', oo', e, _, hc⟩ := (HSLK.out W' hg).at (by omega)
              simp only [Option.some.injEq, Addr.mk.injEq, and_true] at e
              obtain ⟨rfl, rfl⟩ := e
              exact ⟨by rw [← hp]; exact hc k (by omega), by rw [← hx]; exact hc (k + 1) (by omega)⟩
            have HPW : Hid ((Lit.int .i64 p).wf = true) := by show _ = _; rw [← hp]; exact HWF.out k (by omega)
            have HXW : Hid ((Lit.int .i64 x).wf = true) := by show _ = _; rw [← hx]; exact HWF.out (k + 1) hlk
            have HP := Lib.hid hp
            have HX := Lib.hid hx
            have hxc := HC3.out wr HBW'.out
            have hk0 : (0 : Int) ≤ (k : Int) := by omega
            have hkl : (k : Int) < (n1 : Int) := by omega
            have hkn : k < n1 := by omega
            have hwr : IntKind.i64.wrap ((k : Int) + 1) = (k : Int) + 1 := by rw [IntKind.wrap_i64]; omega
            have hkp : ((k : Int) + 1).toNat = k + 1 := by omega
            have hk1 : (k : Int) + 1 < (n1 : Int) := by omega
            have hk2 : (0 : Int) ≤ (k : Int) + 1 := by omega
            clear hcell hbb hp hx
            obtain ⟨ta1, tc1, ht1, hacc1, hsz1, hcall1⟩ := HTL'.out.call
            have HACC1 := Lib.hid hacc1
            have HSZ1 := Lib.hid hsz1
            have HCALL1 := Lib.hid hcall1
            clear hacc1 hsz1 hcall1
            try go_wp2_with fail
            go_still_tail 14, HMX.out
            change wpList _ _ _ _ _ _
            go_wp2_with fail
            refine (appendUnlike_is B (.slice ta1 (outs').length tc1) (outs') p x C _ wr.drew HACC1.out HSZ1.out HPW.out HXW.out HCW.out (by omega) rfl).mono ?_
            rintro e v1w ⟨v1, zs1, rfl, hz1, hhi1, haccx1, hgrx1, hobx1⟩
            obtain ⟨tax1, tcx1, M1, rfl, htx1, hst1⟩ := HCALL1.out v1w v1 zs1 hhi1 haccx1 hgrx1
            have HT1 := Lib.hid htx1
            have HST1 := Lib.hid hst1
            have HZ1 := Lib.hid hz1
            clear hz1 hhi1 haccx1 hgrx1 hobx1 htx1 hst1
            go_wp2_with (refine wpList_store_told (by rfl) (.tmp 44) (.tmp 43) (by rfl) (w.heap.size + 1) _ _ tax1 M1 tcx1 (by rfl) (by rfl) _ HT1.out ?_
                         intro w1 hw1 hg1 hsz1
                         have HTN1 := Lib.hid (HST1.out w1 hw1 hg1).1
                         have HGN1 := Lib.hid ((HST1.out w1 hw1 hg1).2 W1 HB.out HGR'.out)
                         clear hw1 hg1 hsz1)
            obtain ⟨outs1, ho1⟩ : ∃ o, outs' ++ zs1 = o := ⟨_, rfl⟩
            rw [ho1] at HTN1
            have HOL1 : Hid (outs1.length ≤ 200000) := by
              show _ ≤ _
              rw [← ho1, List.length_append]; have := one_len HZ1.out; omega
            have HO1 := Lib.hid ho1
            clear ho1
            have hp2 := (HPX.out w1 HGN1.out).1
            have hx2 := (HPX.out w1 HGN1.out).2
            have hxc2 := HC3.out w1 (by obtain ⟨_, _, _, _, _, _, h, _⟩ := HTN1.out; exact h)
            obtain ⟨ta2, tc2, ht2, hacc2, hsz2, hcall2⟩ := HTN1.out.call
            have HACC2 := Lib.hid hacc2
            have HSZ2 := Lib.hid hsz2
            have HCALL2 := Lib.hid hcall2
            clear hacc2 hsz2 hcall2
            go_still_tail 14, HMX.out
            change wpList _ _ _ _ _ _
            go_wp2_with fail
            refine (appendUnlike_is B (.slice ta2 (outs1).length tc2) (outs1) x p C _ w1.drew HACC2.out HSZ2.out HXW.out HPW.out HCW.out (HOL1.out) rfl).mono ?_
            rintro e v2w ⟨v2, zs2, rfl, hz2, hhi2, haccx2, hgrx2, hobx2⟩
            obtain ⟨tax2, tcx2, M2, rfl, htx2, hst2⟩ := HCALL2.out v2w v2 zs2 hhi2 haccx2 hgrx2
            have HT2 := Lib.hid htx2
            have HST2 := Lib.hid hst2
            have HZ2 := Lib.hid hz2
            clear hz2 hhi2 haccx2 hgrx2 hobx2 htx2 hst2
            go_wp2_with (refine wpList_store_told (by rfl) (.tmp 60) (.tmp 59) (by rfl) (w.heap.size + 1) _ _ tax2 M2 tcx2 (by rfl) (by rfl) _ HT2.out ?_
                         intro w2 hw2 hg2 hsz2
                         have HTN2 := Lib.hid (HST2.out w2 hw2 hg2).1
                         have HGN2 := Lib.hid ((HST2.out w2 hw2 hg2).2 W1 HB.out HGN1.out)
                         clear hw2 hg2 hsz2)
            go_roundw
            case rel =>
              refine ⟨k + 1, outs1 ++ zs2, .inr (by omega), by go_num, ?_, HTN2.out, HGN2.out, ?_⟩
              · have l1 : zs1.length ≤ 1 := by
                  rw [← ruls_length, HZ1.out]; split <;> simp
                have l2 : zs2.length ≤ 1 := by
                  rw [← ruls_length, HZ2.out]; split <;> simp
                rw [← HO1.out, List.length_append, List.length_append]; omega
              · show _ = _
                rw [← HO1.out, ruls_app, ruls_app, HRL'.out, HZ1.out, HZ2.out, rowG_take (by rw [HZL.out]; exact hlk), HP.out, HX.out, List.append_assoc, List.append_assoc]
                congr 2
                by_cases he : p = x
                · rw [if_pos he, if_pos he.symm, if_pos he]; rfl
                · rw [if_neg he, if_neg (fun h => he h.symm), if_neg he]; rfl
            case measure => simp [intOf]; omega
          · have hlki : ¬ (k : Int) < (n1 : Int) - 1 := by omega
            go_wp2
            go_roundw
            case rel =>
              refine ⟨j + 1, outs', by omega, by go_num, by omega, HTL'.out, HGR'.out, HNX.out outs' k (by omega) HRL'.out, HAN.out⟩
            case measure => simp [intOf]; omega
    · obtain rfl : j = m := by omega
      have hT : (nums ys).take j = nums ys := List.take_of_length_le (by rw [HM.out]; exact Nat.le_refl _)
      obtain rfl : ok = true := by
        rw [← HOK.out, ← Spec.rows_all, ← HYN.out, ← hT]; exact HALL.out
      obtain ⟨ta, tc, ht1, hnil, hrs⟩ := HTL.out.rules
      have HT1 := Lib.hid ht1
      have HNIL := Lib.hid hnil
      have HRS := Lib.hid hrs
      have HEND : Hid (ruls outs = rs) := by
        show _ = _
        rw [HRL.out, ← HR.out, hT, HYN.out, Spec.rows_flat]; rfl
      have HI2 : Hid ((Try.prog.info? 41).map (·.size) = some (#[Value.slice none 0 0, Value.slice ta outs.length tc]).size) := HI.out
      clear ht1 hnil hrs hT
      go_wp2_with (first
        | (refine wpList_load_row_w (by rfl) 41 (.tmp 6) (by rfl) (w.heap.size + 1) (by rfl) 41 #[.slice none 0 0, .slice ta outs.length tc] (0, 0) _ HT1.out Try.underlying41 (by rfl) HI2.out ?_)
        | (refine wpList_store_g (by rfl) 41 (.tmp 4) (.tmp 63) (by rfl) w.heap.size #[.slice none 0 0, .slice ta outs.length tc] (by rfl) (by rfl) 41 #[.slice none 0 0, .slice none 0 0] H0.out HI.out rfl (spec_cells _ _ _ _ _ _) ?_
           intro w5 hw5 hgr5 hsz5
           have HW5 := Lib.hid hw5
           have HG5 := Lib.hid hgr5
           clear hw5 hgr5 hsz5))
      refine bodyPost_ret (results_cell_row_tmp rfl _ _ w.heap.size 41 #[.slice none 0 0, .slice ta outs.length tc] (0, 0) _ (by rfl) HW5.out Try.underlying41 (by rfl) HI.out) rfl ?_
      have hB5 : Below w.heap.size w w5 := HBW.out.grown HG5.out HBW.out.size (fun k hk => by cases hk; exact Nat.le_refl _)
      exact ⟨none, 0, 0, ta, outs.length, tc, outs, rfl, Sl.nil, fun _ => rfl, (HRS.out w5 HG5.out).1, HEND.out, HNIL.out, hB5, (HRS.out w5 HG5.out).2⟩

end Go.Proofs.Ytdondndalpmdgaa
