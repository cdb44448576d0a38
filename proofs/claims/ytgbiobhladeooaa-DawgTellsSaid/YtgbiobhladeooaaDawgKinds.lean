/- The document's kinds of layer 11. Written by wip/gen/dawg_kinds.py. -/
import Derived.Test.YtgbiobhladeooaaPackK
import Derived.Test.YtgbiobhladeooaaTrieRefE
import Derived.Deep.RegionHeld3
import Derived.Lib.MinMax
import Derived.Deep.CutBlock
namespace Go.Proofs.Ytgbiobhladeooaa
open Go.RowKit Tri Daw

/-- what kinds answers -/
def KindsIs (w w' : World) (e : Ending) (l : List Kd) : Prop := ∃ a n c xs, e = .returned (.slice a n c) ∧ Ks w' a n c xs ∧ kds xs = l ∧ (a = none → c = 0) ∧ Below w.heap.size w w'
set_option maxRecDepth 100000 in
theorem allK_next {ws B : List (List Int)} {i : Nat} {q : List Int} (hi : i < B.length) (hq : B.getD i [] = q) : (B.take (i + 1)).foldl (addK ws) [] = addK ws ((B.take i).foldl (addK ws) []) q := by
  rw [List.take_succ_eq_append_getElem hi, List.foldl_append]
  have : B[i] = q := by rw [← hq]; simp [hi]
  rw [this]; rfl
set_option maxRecDepth 100000 in
theorem addK_none {ws : List (List Int)} {all : List Kd} {q : List Int} (h : findK all (ends ws q) = none) : addK ws all q = all ++ [⟨ends ws q, q.length, q⟩] := by unfold addK; rw [h]
set_option maxRecDepth 100000 in
theorem addK_some {ws : List (List Int)} {all : List Kd} {q : List Int} {k : Nat} (h : findK all (ends ws q) = some k) : addK ws all q = all.set k ⟨(all.getD k Kd.no).E, max (all.getD k Kd.no).L q.length, if lessL q (all.getD k Kd.no).F = true then q else (all.getD k Kd.no).F⟩ := by unfold addK; rw [h]

set_option maxHeartbeats 12800000 in
set_option maxRecDepth 100000 in
theorem rkinds_is (a : Option Addr) (n cap : Nat) (xs : List Wd) (w : World) (hs : Ws w a n cap xs) (hnil : a = none → cap = 0) (hn : n ≤ 300) (hr : Rise (nums xs)) (hne : ∀ z ∈ nums xs, z ≠ []) (hsh : Tri.Short (nums xs)) :
    Calls Try.prog 26 #[.slice a n cap] w fun e w' => KindsIs w w' e (kinds (nums xs)) := by
  have HS := Lib.hid hs
  have HNE := Lib.hid hne
  have HSH := Lib.hid hsh
  have HLX : Hid ((nums xs).length = n) := by show _ = _; rw [nums_length, hs.1]
  have HR := Lib.hid hr
  have HNIL := Lib.hid hnil
  have HMX : Hid (Try.prog.follows .mixedOrders = true) := by show _ = _; kernel_rfl
  clear hs hnil hr hne hsh
  go_enter Try.func26, Try.ntmps26
  go_wp2_with fail
  refine (rbegs_is a n cap xs w HS.out HNIL.out (by omega) HR.out).mono ?_
  rintro e w1 ⟨ba, nb, bc, bs, rfl, hbs, hbn, -, hb1⟩
  have HB1 := Lib.hid hb1
  have HBS := Lib.hid hbs
  have HBN := Lib.hid hbn
  have HS1 : Hid (Ws w1 a n cap xs) := HS.out.below hb1 (Nat.le_refl _)
  have HLB : Hid ((begs (nums xs)).length = nb) := by show _ = _; rw [← hbn, nums_length, hbs.1]
  have hnb : nb ≤ 6001 := by have h := begs_le (nums xs); rw [HLB.out, HLX.out] at h; omega
  have hbnc := hbs.2.1
  have hbcm := hbs.2.2.1
  unfold maxLen at hbcm
  clear hbs hbn hb1
  go_wp2
  go_loopw [4, 5] (fun av ix wr => ∃ (i N : Nat) (a1 : Option Addr) (c1 : Nat) (kx : List Kw), i ≤ nb ∧ N ≤ i ∧ av = .slice a1 N c1 ∧ ix = .int .i64 (i : Int) ∧ Hid (a1 = none → c1 = 0) ∧ Hid (wr.ownsRow w1.heap.size 62 3 (.slice a1 N c1) N (kcells kx)) ∧ Hid (∀ x ∈ kx, KOwn w1 wr x) ∧ Hid (kds kx = ((begs (nums xs)).take i).foldl (addK (nums xs)) []) ∧ Hid (Below w1.heap.size w1 wr)) (fun _ ix _ => nb - (intOf ix).toNat)
  case atStart => exact ⟨0, 0, none, 0, [], Nat.zero_le _, Nat.le_refl _, rfl, rfl, (fun _ => rfl), ⟨rfl, .inl ⟨rfl, rfl⟩⟩, (by show ∀ x ∈ ([] : List Kw), KOwn w1 w1 x; simp), rfl, Below.refl _ _⟩
  case round =>
    obtain ⟨i, N, a1, c1, kx, hi, hNi, rfl, rfl, HN1, HOW, HKO, HKD, HBW⟩ := hrel
    by_cases hlt : i < nb
    · obtain ⟨qb, qo, fa, fn, fc, fz, rfl, hqb, _, hqc, hqs, hqz⟩ := HBS.out.one i hlt
      have hqcw : wr.cell? ⟨qb, qo + i, none⟩ = some (.slice fa fn fc) := by rw [HBW.out.cell (p := ⟨qb, qo + i, none⟩) hqb]; exact hqc
      have HQC := Lib.hid hqc
      have HQB := Lib.hid hqb
      have HQS := Lib.hid hqs
      have HQN := Lib.hid hqs.1
      have HQZ : Hid ((begs (nums xs)).getD i [] = fz) := by show _ = _; rw [← HBN.out]; exact hqz
      have hf20 : fn ≤ 20 := by rw [← HQN.out]; exact begs_short HSH.out (by rw [← HQZ.out, List.getD_eq_getElem?_getD, List.getElem?_eq_getElem (by rw [HLB.out]; exact hlt), Option.getD_some]; exact List.getElem_mem _)
      have HADD0 := Lib.hid (allK_next (ws := nums xs) (by rw [HLB.out]; exact hlt) HQZ.out)
      have hlti : (i : Int) < (nb : Int) := by omega
      clear hqb hqc hqs hqz
      go_wp2_with fail
      refine (rendings_own a fa n cap fn fc xs fz w1 wr HS1.out HBW.out (HQS.out.below HBW.out (Nat.le_refl _)) HNE.out (by omega)).mono ?_
      rintro e w2 ⟨ea, en, ec, ys, rfl, hro2, hgo2, hen2, hnn2, hnl2, hb2⟩
      have HOWN2 : Hid (w2.ownsRow w1.heap.size 62 3 (.slice a1 N c1) N (kcells kx)) := ownsRow_below HOW.out hb2 (Nat.le_refl _)
      have HKO2 : Hid (∀ x ∈ kx, KOwn w1 w2 x) := fun x hx => (HKO.out x hx).below hb2
      have HBW2 : Hid (Below w1.heap.size w1 w2) := HBW.out.trans (hb2.mono HBW.out.size)
      have HNEW2 : Hid (KOwn w1 w2 ⟨ea, en, ec, ys, fn, ⟨fa, fn, fc, fz⟩⟩) := ⟨own_mono hro2 HBW.out.size, hgo2, HQS.out, by show fn ≤ 1000; omega⟩
      have HEN := Lib.hid hen2
      clear hro2 hgo2 hen2 hnl2 hb2 hqcw
      go_wp2_with fail
      refine (rfind11_is a1 ea N c1 en ec kx ys w2 (Ks.of_owns HOWN2.out (fun x hx => (HKO2.out x hx).good HBW2.out)) (HNEW2.out.good HBW2.out).1).mono ?_
      rintro e w3 ⟨rfl, hq3⟩
      have HO3 : Hid (w3.drew.ownsRow w1.heap.size 62 3 (.slice a1 N c1) N (kcells kx)) := by obtain ⟨q, rfl⟩ := hq3; exact HOWN2.out
      have HK3 : Hid (∀ x ∈ kx, KOwn w1 w3.drew x) := by
        obtain ⟨q, rfl⟩ := hq3
        exact fun x hx => (HKO2.out x hx).below (below_drawn (below_drewN (Below.refl _ _) q) ⟨1, rfl⟩)
      have HNEW : Hid (KOwn w1 w3.drew ⟨ea, en, ec, ys, fn, ⟨fa, fn, fc, fz⟩⟩) := by
        obtain ⟨q, rfl⟩ := hq3
        exact HNEW2.out.below (below_drawn (below_drewN (Below.refl _ _) q) ⟨1, rfl⟩)
      have HB3 : Hid (Below w1.heap.size w1 w3.drew) := below_drawn (below_drawn HBW2.out hq3) ⟨1, rfl⟩
      have HQ3 : Hid (w3.drew.cell? ⟨qb, qo + i, none⟩ = some (.slice fa fn fc)) := by show _ = _; rw [HB3.out.cell (p := ⟨qb, qo + i, none⟩) HQB.out]; exact HQC.out
      clear HOWN2 HKO2 HNEW2 hq3
      rw [HEN.out, HKD.out]
      cases hfk : findK (((begs (nums xs)).take i).foldl (addK (nums xs)) []) (ends (nums xs) fz) with
      | none =>
        have hfv : findV (((begs (nums xs)).take i).foldl (addK (nums xs)) []) (ends (nums xs) fz) = -1 := by unfold findV; rw [hfk]
        have HADD : Hid (((begs (nums xs)).take (i + 1)).foldl (addK (nums xs)) [] = kds kx ++ [⟨nums ys, fn, fz⟩]) := by
          show _ = _
          rw [HADD0.out, addK_none hfk, HKD.out, HEN.out, HQN.out]
        rw [hfv]
        have hmx := HMX.out
        have hq3c : w3.cell? ⟨qb, qo + i, none⟩ = some (.slice fa fn fc) := HQ3.out
        clear hfv hfk
        go_wp2_with fail
        refine wp_region_held_drew (S := (fun W => W.cell? ⟨qb, qo + i, none⟩ = some (.slice fa fn fc))) (by kernel_rfl) (by first | ((first | exact hq5 | exact hqB | exact HQ3.out)) | ((try dsimp only); (first | exact hq5 | exact hqB | exact HQ3.out))) (fun hHeld => ?_)
        refine wpAnyH_take (i := 0) (v := ?vka1) rfl (by kernel_rfl) (by kernel_rfl) (by kernel_rfl) (fun _ _ _ h => h) (Or.inl ⟨by rfl, ?hka1⟩) (by assumption) ?rka1
        case hka1 => intro w hSw; (try dsimp only at hSw); go_simp; try with_reducible rfl
        simp only [Act.put, List.getElem_toArray, List.getElem_cons_zero, List.setIfInBounds_toArray, List.set_cons_succ, List.set_cons_zero]
        refine wpAnyH_take (i := 1) (v := ?vka4) rfl (by kernel_rfl) (by kernel_rfl) (by kernel_rfl) (fun _ _ _ h => h) (Or.inl ⟨by rfl, ?hka4⟩) (by assumption) ?rka4
        case hka4 => intro w hSw; (try dsimp only at hSw); go_simp; try with_reducible rfl
        simp only [Act.put, List.getElem_toArray, List.getElem_cons_succ, List.getElem_cons_zero, List.setIfInBounds_toArray, List.set_cons_succ, List.set_cons_zero]
        refine wpAnyH_take (i := 2) (v := ?vka7) rfl (by kernel_rfl) (by kernel_rfl) (by kernel_rfl) (fun _ _ _ h => h) (Or.inl ⟨by rfl, ?hka7⟩) (by assumption) ?rka7
        case hka7 => intro w hSw; (try dsimp only at hSw); go_simp; try with_reducible rfl
        simp only [Act.put, List.getElem_toArray, List.getElem_cons_succ, List.getElem_cons_zero, List.setIfInBounds_toArray, List.set_cons_succ, List.set_cons_zero]
        refine wpAnyH_take (i := 3) (v := ?vka10) rfl (by kernel_rfl) (by kernel_rfl) (by kernel_rfl) (fun _ _ _ h => h) (Or.inl ⟨by rfl, ?hka10⟩) (by assumption) ?rka10
        case hka10 => intro w hSw; (try dsimp only at hSw); go_simp; try with_reducible rfl
        simp only [Act.put, List.getElem_toArray, List.getElem_cons_succ, List.getElem_cons_zero, List.setIfInBounds_toArray, List.set_cons_succ, List.set_cons_zero]
        refine wpAnyH_take (i := 4) (v := ?vka13) rfl (by kernel_rfl) (by kernel_rfl) (by kernel_rfl) (fun _ _ _ h => h) (Or.inl ⟨by rfl, ?hka13⟩) (by assumption) ?rka13
        case hka13 => intro w hSw; (try dsimp only at hSw); go_simp; try with_reducible rfl
        simp only [Act.put, List.getElem_toArray, List.getElem_cons_succ, List.getElem_cons_zero, List.setIfInBounds_toArray, List.set_cons_succ, List.set_cons_zero]
        refine wpAnyH_take (i := 5) (v := ?vka16) rfl (by kernel_rfl) (by kernel_rfl) (by kernel_rfl) (fun _ _ _ h => h) (Or.inl ⟨by rfl, ?hka16⟩) (by assumption) ?rka16
        case hka16 => intro w hSw; (try dsimp only at hSw); go_simp; try with_reducible rfl
        simp only [Act.put, List.getElem_toArray, List.getElem_cons_succ, List.getElem_cons_zero, List.setIfInBounds_toArray, List.set_cons_succ, List.set_cons_zero]
        refine wpAnyH_take (i := 6) (v := ?vka19) rfl (by kernel_rfl) (by kernel_rfl) (by kernel_rfl) (fun _ _ _ h => h) (Or.inl ⟨by rfl, ?hka19⟩) (by assumption) ?rka19
        case hka19 => intro w hSw; (try dsimp only at hSw); go_simp; try with_reducible rfl
        simp only [Act.put, List.getElem_toArray, List.getElem_cons_succ, List.getElem_cons_zero, List.setIfInBounds_toArray, List.set_cons_succ, List.set_cons_zero]
        refine wpAnyH_take (i := 7) (v := ?vka22) rfl (by kernel_rfl) (by kernel_rfl) (by kernel_rfl) (fun _ _ _ h => h) (Or.inl ⟨by rfl, ?hka22⟩) (by assumption) ?rka22
        case hka22 => intro w hSw; (try dsimp only at hSw); go_simp; try with_reducible rfl
        simp only [Act.put, List.getElem_toArray, List.getElem_cons_succ, List.getElem_cons_zero, List.setIfInBounds_toArray, List.set_cons_succ, List.set_cons_zero]
        refine wpAnyH_take (i := 8) (v := ?vka25) rfl (by kernel_rfl) (by kernel_rfl) (by kernel_rfl) (fun _ _ _ h => h) (Or.inl ⟨by rfl, ?hka25⟩) (by assumption) ?rka25
        case hka25 => intro w hSw; (try dsimp only at hSw); go_simp; try with_reducible rfl
        simp only [Act.put, List.getElem_toArray, List.getElem_cons_succ, List.getElem_cons_zero, List.setIfInBounds_toArray, List.set_cons_succ, List.set_cons_zero]
        refine wpAnyH_take (i := 9) (v := ?vka28) rfl (by kernel_rfl) (by kernel_rfl) (by kernel_rfl) (fun _ _ _ h => h) (Or.inl ⟨by rfl, ?hka28⟩) (by assumption) ?rka28
        case hka28 => intro w hSw; (try dsimp only at hSw); go_simp; try with_reducible rfl
        simp only [Act.put, List.getElem_toArray, List.getElem_cons_succ, List.getElem_cons_zero, List.setIfInBounds_toArray, List.set_cons_succ, List.set_cons_zero]
        refine wpAnyH_take (i := 10) (v := ?vka31) rfl (by kernel_rfl) (by kernel_rfl) (by kernel_rfl) (fun _ _ _ h => h) (Or.inl ⟨by rfl, ?hka31⟩) (by assumption) ?rka31
        case hka31 => intro w hSw; (try dsimp only at hSw); go_simp; try with_reducible rfl
        simp only [Act.put, List.getElem_toArray, List.getElem_cons_succ, List.getElem_cons_zero, List.setIfInBounds_toArray, List.set_cons_succ, List.set_cons_zero]
        refine wpAnyH_take (i := 11) (v := ?vka34) rfl (by kernel_rfl) (by kernel_rfl) (by kernel_rfl) (fun _ _ _ h => h) (Or.inl ⟨by rfl, ?hka34⟩) (by assumption) ?rka34
        case hka34 => intro w hSw; (try dsimp only at hSw); go_simp; try with_reducible rfl
        simp only [Act.put, List.getElem_toArray, List.getElem_cons_succ, List.getElem_cons_zero, List.setIfInBounds_toArray, List.set_cons_succ, List.set_cons_zero]
        refine wpAnyH_ready (rs := [12]) (by kernel_rfl) (by simp) ?_
        refine AllReadyH.cons rfl (fun K hK => ?_) AllReadyH.nil
        refine step_build_kind (by rfl) (.tmp 42) ⟨ea, en, ec, ys, fn, ⟨fa, fn, fc, fz⟩⟩ (by rfl) (by rfl) ?_
        intro gB wB hgB0 hgB1 hgB2 hbB
        have hqB : wB.cell? ⟨qb, qo + i, none⟩ = some (.slice fa fn fc) := by rw [hbB.cell (p := ⟨qb, qo + i, none⟩) (cell_lt HQ3.out)]; exact HQ3.out
        refine hK.out _ _ (by (try dsimp only); (first | exact hq5 | exact hqB | exact HQ3.out)) (fun hHeld => ?_)
        clear hK K
        try simp only [Act.put, List.getElem_toArray, List.getElem_cons_succ, List.getElem_cons_zero, List.setIfInBounds_toArray, List.set_cons_succ, List.set_cons_zero]
        refine wpAnyH_ready (rs := [13]) (by kernel_rfl) (by simp) ?_
        refine AllReadyH.cons rfl (fun K hK => ?_) AllReadyH.nil
        refine step_append_kinds (by rfl) (.tmp 31) (.tmp 43) (by rfl) w1.heap.size _ N kx (by rfl) (ownsRow_below HO3.out hbB (Nat.le_refl _)) (some ⟨gB, 0, none⟩) 1 1 [⟨ea, en, ec, ys, fn, ⟨fa, fn, fc, fz⟩⟩] (by rfl) (Ks.single ((HNEW.out).good HB3.out) hgB0 hgB1 hgB2 hbB) (N + 1) rfl (by omega) (Nat.le_trans HB3.out.size hbB.size) ?_
        intro a5 c5 w5 hown5 hb5 hg5 hnil5
        have hq5 : w5.cell? ⟨qb, qo + i, none⟩ = some (.slice fa fn fc) := by rw [hb5.cell (p := ⟨qb, qo + i, none⟩) HQB.out]; exact hqB
        have hk5 : ∀ x ∈ kx ++ [⟨ea, en, ec, ys, fn, ⟨fa, fn, fc, fz⟩⟩], KOwn w1 w5 x := fun x hx => by
          have h1 : KOwn w1 wB x := by
            rcases List.mem_append.1 hx with hx | hx
            · exact (HK3.out x hx).below hbB
            · rw [List.mem_singleton.1 hx]; exact HNEW.out.below hbB
          exact h1.row_kept (ownsRow_below HO3.out hbB (Nat.le_refl _)) hg5
        have hbb5 : Below w1.heap.size w1 w5 := (HB3.out.trans (hbB.mono HB3.out.size)).trans hb5
        refine hK.out _ _ (by (try dsimp only); (first | exact hq5 | exact hqB | exact HQ3.out)) (fun hHeld => ?_)
        clear hK K
        try simp only [Act.put, List.getElem_toArray, List.getElem_cons_succ, List.getElem_cons_zero, List.setIfInBounds_toArray, List.set_cons_succ, List.set_cons_zero]
        refine wpAnyH_take (i := 14) (v := ?vka60) rfl (by kernel_rfl) (by kernel_rfl) (by kernel_rfl) (fun _ _ _ h => h) (Or.inl ⟨by rfl, ?hka60⟩) (by assumption) ?rka60
        case hka60 => intro w hSw; (try dsimp only at hSw); go_simp; try with_reducible rfl
        simp only [Act.put, List.getElem_toArray, List.getElem_cons_succ, List.getElem_cons_zero, List.setIfInBounds_toArray, List.set_cons_succ, List.set_cons_zero]
        refine wpAnyH_done (by kernel_rfl) ?_ _
        have HO5 := Lib.hid hown5
        have HN5 := Lib.hid hnil5
        have HK5 := Lib.hid hk5
        have HB5 := Lib.hid hbb5
        clear hown5 hb5 hg5 hnil5 hk5 hbb5 hq5 hqB hgB0 hgB1 hgB2 hbB hHeld
        go_wp2
        go_roundw
        case rel => exact ⟨i + 1, N + 1, a5, c5, _, by omega, by omega, rfl, by go_num, HN5.out, HO5.out, HK5.out, (by show _ = _; rw [kds_app, HADD.out]; rfl), HB5.out⟩
        case measure => simp [intOf]; omega
      | some k =>
        obtain ⟨hkl, hkE⟩ := findK_some hfk
        have hfv : findV (((begs (nums xs)).take i).foldl (addK (nums xs)) []) (ends (nums xs) fz) = (k : Int) := by unfold findV; rw [hfk]
        rw [← HKD.out, kds_length] at hkl
        have hkN : k < N := by have h := HO3.out.1; rw [kcells_length] at h; omega
        obtain ⟨ab, rfl⟩ := own_head HO3.out (by omega)
        obtain ⟨x, hx⟩ : ∃ x, kx.getD k Kw.no = x := ⟨_, rfl⟩
        obtain ⟨xa, xn, xc, xes, XL, ⟨ga, gn, gc, gz⟩⟩ := x
        have HXK := Lib.hid hx
        have HXM : Hid ((⟨xa, xn, xc, xes, XL, ⟨ga, gn, gc, gz⟩⟩ : Kw) ∈ kx) := by show _ ∈ _; rw [← hx, List.getD_eq_getElem?_getD, List.getElem?_eq_getElem hkl, Option.getD_some]; exact List.getElem_mem _
        have HKL := Lib.hid hkl
        have HSET : Hid (((begs (nums xs)).take (i + 1)).foldl (addK (nums xs)) [] = (kds kx).set k ⟨nums xes, max XL fn, if lessL fz gz = true then fz else gz⟩) := by
          show _ = _
          rw [HADD0.out, addK_some hfk, ← HKD.out, kds_at, hx, HQN.out]; rfl
        have hXL : XL ≤ 1000 := (HK3.out _ HXM.out).long
        rw [hfv]
        have hk0 : ¬ (k : Int) < 0 := by omega
        have hk0d : decide ((k : Int) < 0) = false := decide_eq_false hk0
        have hkNi : (k : Int) < (N : Int) := by omega
        have hkn0 : (0 : Int) ≤ (k : Int) := by omega
        have hc1 : w3.drew.cell? ⟨ab, k * 3 + 1, none⟩ = some (.int .i64 (XL : Int)) := by rw [HO3.out.cellAt (k * 3 + 1) (by omega), kcells_at kx k 1 hkl (by omega), hx]; rfl
        have hf1 : w3.drew.frozen? ⟨ab, k * 3 + 1, none⟩ = false := HO3.out.frozenAt _
        have hqS : ∀ v, (w3.drew.setCell ⟨ab, k * 3 + 1, none⟩ v).cell? ⟨qb, qo + i, none⟩ = some (.slice fa fn fc) := fun v => (grown_set w3.drew ⟨ab, k * 3 + 1, none⟩ v).cell HQ3.out (fun e => by
          have h1 := (HO3.out.lt ab rfl).1
          have h2 : qb = ab := Option.some.inj e
          have h3 := HQB.out
          omega)
        have hmxi : max (XL : Int) (fn : Int) = ((max XL fn : Nat) : Int) := by omega
        have hmx := HMX.out
        have hq3c : w3.cell? ⟨qb, qo + i, none⟩ = some (.slice fa fn fc) := HQ3.out
        clear hfv hfk hkE hx
        go_wp2_with fail
        refine wp_region_held_drew (S := (fun W => W.cell? ⟨qb, qo + i, none⟩ = some (.slice fa fn fc))) (by kernel_rfl) (by first | ((first | exact hqS _ | exact HQ3.out)) | ((try dsimp only); (first | exact hqS _ | exact HQ3.out))) (fun hHeld => ?_)
        refine wpAnyH_take (i := 0) (v := ?vkb1) rfl (by kernel_rfl) (by kernel_rfl) (by kernel_rfl) (fun _ _ _ h => h) (Or.inl ⟨by rfl, ?hkb1⟩) (by assumption) ?rkb1
        case hkb1 => intro w hSw; (try dsimp only at hSw); go_simp; try with_reducible rfl
        simp only [Act.put, List.getElem_toArray, List.getElem_cons_zero, List.setIfInBounds_toArray, List.set_cons_succ, List.set_cons_zero]
        refine wpAnyH_take (i := 1) (v := ?vkb4) rfl (by kernel_rfl) (by kernel_rfl) (by kernel_rfl) (fun _ _ _ h => h) (Or.inl ⟨by rfl, ?hkb4⟩) (by assumption) ?rkb4
        case hkb4 => intro w hSw; (try dsimp only at hSw); go_simp; try with_reducible rfl
        simp only [Act.put, List.getElem_toArray, List.getElem_cons_succ, List.getElem_cons_zero, List.setIfInBounds_toArray, List.set_cons_succ, List.set_cons_zero]
        refine wpAnyH_take (i := 2) (v := ?vkb7) rfl (by kernel_rfl) (by kernel_rfl) (by kernel_rfl) (fun _ _ _ h => h) (Or.inl ⟨by rfl, ?hkb7⟩) (by assumption) ?rkb7
        case hkb7 => intro w hSw; (try dsimp only at hSw); go_simp; try with_reducible rfl
        simp only [Act.put, List.getElem_toArray, List.getElem_cons_succ, List.getElem_cons_zero, List.setIfInBounds_toArray, List.set_cons_succ, List.set_cons_zero]
        refine wpAnyH_take (i := 3) (v := ?vkb10) rfl (by kernel_rfl) (by kernel_rfl) (by kernel_rfl) (fun _ _ _ h => h) (Or.inl ⟨by rfl, ?hkb10⟩) (by assumption) ?rkb10
        case hkb10 => intro w hSw; (try dsimp only at hSw); go_simp; try with_reducible rfl
        simp only [Act.put, List.getElem_toArray, List.getElem_cons_succ, List.getElem_cons_zero, List.setIfInBounds_toArray, List.set_cons_succ, List.set_cons_zero]
        refine wpAnyH_take (i := 4) (v := ?vkb13) rfl (by kernel_rfl) (by kernel_rfl) (by kernel_rfl) (fun _ _ _ h => h) (Or.inl ⟨by rfl, ?hkb13⟩) (by assumption) ?rkb13
        case hkb13 => intro w hSw; (try dsimp only at hSw); go_simp; try with_reducible rfl
        simp only [Act.put, List.getElem_toArray, List.getElem_cons_succ, List.getElem_cons_zero, List.setIfInBounds_toArray, List.set_cons_succ, List.set_cons_zero]
        refine wpAnyH_take (i := 5) (v := ?vkb16) rfl (by kernel_rfl) (by kernel_rfl) (by kernel_rfl) (fun _ _ _ h => h) (Or.inl ⟨by rfl, ?hkb16⟩) (by assumption) ?rkb16
        case hkb16 => intro w hSw; (try dsimp only at hSw); go_simp; try with_reducible rfl
        simp only [Act.put, List.getElem_toArray, List.getElem_cons_succ, List.getElem_cons_zero, List.setIfInBounds_toArray, List.set_cons_succ, List.set_cons_zero]
        refine wpAnyH_take (i := 7) (v := ?vkb19) rfl (by kernel_rfl) (by kernel_rfl) (by kernel_rfl) (fun _ _ _ h => h) (Or.inl ⟨by rfl, ?hkb19⟩) (by assumption) ?rkb19
        case hkb19 => intro w hSw; (try dsimp only at hSw); go_simp; try with_reducible rfl
        simp only [Act.put, List.getElem_toArray, List.getElem_cons_succ, List.getElem_cons_zero, List.setIfInBounds_toArray, List.set_cons_succ, List.set_cons_zero]
        refine wpAnyH_take (i := 8) (v := ?vkb22) rfl (by kernel_rfl) (by kernel_rfl) (by kernel_rfl) (fun _ _ _ h => h) (Or.inl ⟨by rfl, ?hkb22⟩) (by assumption) ?rkb22
        case hkb22 => intro w hSw; (try dsimp only at hSw); go_simp; try with_reducible rfl
        simp only [Act.put, List.getElem_toArray, List.getElem_cons_succ, List.getElem_cons_zero, List.setIfInBounds_toArray, List.set_cons_succ, List.set_cons_zero]
        refine wpAnyH_take (i := 9) (v := ?vkb25) rfl (by kernel_rfl) (by kernel_rfl) (by kernel_rfl) (fun _ _ _ h => h) (Or.inl ⟨by rfl, ?hkb25⟩) (by assumption) ?rkb25
        case hkb25 => intro w hSw; (try dsimp only at hSw); go_simp; try with_reducible rfl
        simp only [Act.put, List.getElem_toArray, List.getElem_cons_succ, List.getElem_cons_zero, List.setIfInBounds_toArray, List.set_cons_succ, List.set_cons_zero]
        refine wpAnyH_take (i := 10) (v := ?vkb28) rfl (by kernel_rfl) (by kernel_rfl) (by kernel_rfl) (fun _ _ _ h => h) (Or.inl ⟨by rfl, ?hkb28⟩) (by assumption) ?rkb28
        case hkb28 => intro w hSw; (try dsimp only at hSw); go_simp; try with_reducible rfl
        simp only [Act.put, List.getElem_toArray, List.getElem_cons_succ, List.getElem_cons_zero, List.setIfInBounds_toArray, List.set_cons_succ, List.set_cons_zero]
        refine wpAnyH_take (i := 11) (v := ?vkb31) rfl (by kernel_rfl) (by kernel_rfl) (by kernel_rfl) (fun _ _ _ h => h) (Or.inl ⟨by rfl, ?hkb31⟩) (by assumption) ?rkb31
        case hkb31 => intro w hSw; (try dsimp only at hSw); go_simp; try with_reducible rfl
        simp only [Act.put, List.getElem_toArray, List.getElem_cons_succ, List.getElem_cons_zero, List.setIfInBounds_toArray, List.set_cons_succ, List.set_cons_zero]
        refine wpAnyH_ready (rs := [6]) (by kernel_rfl) (by simp) ?_
        refine AllReadyH.cons rfl (fun K hK => ?_) AllReadyH.nil
        go_simp
        refine hK.out _ _ (by (try dsimp only); (first | exact hqS _ | exact HQ3.out)) (fun hHeld => ?_)
        clear hK K
        try simp only [Act.put, List.getElem_toArray, List.getElem_cons_succ, List.getElem_cons_zero, List.setIfInBounds_toArray, List.set_cons_succ, List.set_cons_zero]
        refine wpAnyH_ready (rs := [12]) (by kernel_rfl) (by simp) ?_
        refine AllReadyH.cons rfl (fun K hK => ?_) AllReadyH.nil
        go_simp
        refine hK.out _ _ (by (try dsimp only); (first | exact hqS _ | exact HQ3.out)) (fun hHeld => ?_)
        clear hK K
        try simp only [Act.put, List.getElem_toArray, List.getElem_cons_succ, List.getElem_cons_zero, List.setIfInBounds_toArray, List.set_cons_succ, List.set_cons_zero]
        refine wpAnyH_take (i := 13) (v := ?vkb46) rfl (by kernel_rfl) (by kernel_rfl) (by kernel_rfl) (fun _ _ _ h => h) (Or.inl ⟨by rfl, ?hkb46⟩) (by assumption) ?rkb46
        case hkb46 => intro w hSw; (try dsimp only at hSw); go_simp; try with_reducible rfl
        simp only [Act.put, List.getElem_toArray, List.getElem_cons_succ, List.getElem_cons_zero, List.setIfInBounds_toArray, List.set_cons_succ, List.set_cons_zero]
        refine wpAnyH_take (i := 14) (v := ?vkb49) rfl (by kernel_rfl) (by kernel_rfl) (by kernel_rfl) (fun _ _ _ h => h) (Or.inl ⟨by rfl, ?hkb49⟩) (by assumption) ?rkb49
        case hkb49 => intro w hSw; (try dsimp only at hSw); go_simp; try with_reducible rfl
        simp only [Act.put, List.getElem_toArray, List.getElem_cons_succ, List.getElem_cons_zero, List.setIfInBounds_toArray, List.set_cons_succ, List.set_cons_zero]
        refine wpAnyH_ready (rs := [15]) (by kernel_rfl) (by simp) ?_
        refine AllReadyH.cons rfl (fun K hK => ?_) AllReadyH.nil
        go_simp
        refine hK.out _ _ (by (try dsimp only); (first | exact hqS _ | exact HQ3.out)) (fun hHeld => ?_)
        clear hK K
        try simp only [Act.put, List.getElem_toArray, List.getElem_cons_succ, List.getElem_cons_zero, List.setIfInBounds_toArray, List.set_cons_succ, List.set_cons_zero]
        refine wpAnyH_done (by kernel_rfl) ?_ _
        generalize hW4 : World.drew (World.setCell w3 _ _) = w4
        have HG4 : Hid (w3.drew.grownBy w4 (some ab)) := by rw [← hW4]; exact grown_set w3.drew ⟨ab, k * 3 + 1, none⟩ _
        have HO4 : Hid (w4.ownsRow w1.heap.size 62 3 (.slice (some ⟨ab, 0, none⟩) N c1) N (kcells (kx.set k ⟨xa, xn, xc, xes, max XL fn, ⟨ga, gn, gc, gz⟩⟩))) := by
          have h := (HO3.out.stored (k * 3 + 1) (.int .i64 ((max XL fn : Nat) : Int))).1
          rw [← kset1 HKL.out HXK.out] at h
          rw [← hW4]; exact h
        have HK4 : Hid (∀ x ∈ kx.set k ⟨xa, xn, xc, xes, max XL fn, ⟨ga, gn, gc, gz⟩⟩, KOwn w1 w4 x) := by
          have h1 : ∀ x ∈ kx, KOwn w1 w4 x := fun x hx => (HK3.out x hx).row_kept HO3.out HG4.out
          have h2 := h1 _ HXM.out
          exact kown_set h1 ⟨h2.row, h2.words, h2.first, by show max XL fn ≤ 1000; omega⟩
        have HB4 : Hid (Below w1.heap.size w1 w4) := HB3.out.grown HG4.out HB3.out.size (fun q e => by cases e; exact (HO3.out.lt ab rfl).1)
        have hq4 : w4.cell? ⟨qb, qo + i, none⟩ = some (.slice fa fn fc) := by rw [HB4.out.cell (p := ⟨qb, qo + i, none⟩) HQB.out]; exact HQC.out
        have hlk : k < (kx.set k (⟨xa, xn, xc, xes, max XL fn, ⟨ga, gn, gc, gz⟩⟩ : Kw)).length := by rw [List.length_set]; exact HKL.out
        have hx4 : (kx.set k (⟨xa, xn, xc, xes, max XL fn, ⟨ga, gn, gc, gz⟩⟩ : Kw)).getD k Kw.no = ⟨xa, xn, xc, xes, max XL fn, ⟨ga, gn, gc, gz⟩⟩ := by simp [HKL.out]
        have hc4 : w4.cell? ⟨ab, k * 3 + 2, none⟩ = some (.slice ga gn gc) := by rw [HO4.out.cellAt (k * 3 + 2) (by omega), kcells_at _ k 2 hlk (by omega), hx4]; rfl
        have HLK := Lib.hid hlk
        have HX4 := Lib.hid hx4
        have HXM4 : Hid ((⟨xa, xn, xc, xes, max XL fn, ⟨ga, gn, gc, gz⟩⟩ : Kw) ∈ kx.set k ⟨xa, xn, xc, xes, max XL fn, ⟨ga, gn, gc, gz⟩⟩) := List.mem_set HKL.out _
        have HXS : Hid (Sl .i64 w4 ga gn gc gz) := Wd.Good.below (x := ⟨ga, gn, gc, gz⟩) (HK4.out _ HXM4.out).first HB4.out (Nat.le_refl _)
        have HQW : Hid (Sl .i64 w4 fa fn fc fz) := HQS.out.below HB4.out (Nat.le_refl _)
        obtain ⟨lb, hlb⟩ : ∃ g, lessL fz gz = g := ⟨_, rfl⟩
        have HLB2 := Lib.hid hlb
        clear hW4 hlk hx4 hlb hHeld hc1 hf1 hqS hq3c
        cases lb
        · have HSET2 : Hid (((begs (nums xs)).take (i + 1)).foldl (addK (nums xs)) [] = kds (kx.set k ⟨xa, xn, xc, xes, max XL fn, ⟨ga, gn, gc, gz⟩⟩)) := by
            show _ = _
            rw [HSET.out, kds_set, HLB2.out]; rfl
          go_wp2
          go_quiet ((go_at_call 53; exact Calls.quiet_of (rless_is _ _ _ _ _ _ fz gz false _ (HQW.out.drewN _) (HXS.out.drewN _) HLB2.out)))
          go_wp2
          go_roundw
          case rel => exact ⟨i + 1, N, _, c1, _, by omega, by omega, rfl, by go_num, (fun h => by cases h), HO4.out, (fun x hx => (HK4.out x hx).below (below_drewN (Below.refl _ _) _)), HSET2.out.symm, below_drewN HB4.out _⟩
          case measure => simp [intOf]; omega
        · have HSET2 : Hid (((begs (nums xs)).take (i + 1)).foldl (addK (nums xs)) [] = kds ((kx.set k ⟨xa, xn, xc, xes, max XL fn, ⟨ga, gn, gc, gz⟩⟩).set k ⟨xa, xn, xc, xes, max XL fn, ⟨fa, fn, fc, fz⟩⟩)) := by
            show _ = _
            rw [HSET.out, kds_set, kds_set, List.set_set, HLB2.out]; rfl
          have hf4 : w4.frozen? ⟨ab, k * 3 + 2, none⟩ = false := HO4.out.frozenAt _
          go_wp2
          go_quiet ((go_at_call 53; exact Calls.quiet_of (rless_is _ _ _ _ _ _ fz gz true _ (HQW.out.drewN _) (HXS.out.drewN _) HLB2.out)))
          go_wp2
          go_roundw
          case rel =>
            have HO6 : Hid ((w4.drewN nq).ownsRow w1.heap.size 62 3 (.slice (some ⟨ab, 0, none⟩) N c1) N (kcells (kx.set k ⟨xa, xn, xc, xes, max XL fn, ⟨ga, gn, gc, gz⟩⟩))) := HO4.out
            have HK6 : Hid (∀ x ∈ kx.set k ⟨xa, xn, xc, xes, max XL fn, ⟨ga, gn, gc, gz⟩⟩, KOwn w1 (w4.drewN nq) x) := fun x hx => (HK4.out x hx).below (below_drewN (Below.refl _ _) _)
            refine ⟨i + 1, N, _, c1, _, by omega, by omega, rfl, by go_num, (fun h => by cases h), ?_, ?_, HSET2.out.symm, ?_⟩
            · have h := (HO6.out.stored (k * 3 + 2) (.slice fa fn fc)).1
              rw [show (Value.slice fa fn fc) = (⟨fa, fn, fc, fz⟩ : Wd).v from rfl, ← kset2 HLK.out HX4.out] at h
              exact h
            · have h1 : ∀ x ∈ kx.set k ⟨xa, xn, xc, xes, max XL fn, ⟨ga, gn, gc, gz⟩⟩, KOwn w1 ((w4.drewN nq).setCell ⟨ab, k * 3 + 2, none⟩ (.slice fa fn fc)) x := fun x hx => (HK6.out x hx).row_kept HO6.out (grown_set (w4.drewN nq) ⟨ab, k * 3 + 2, none⟩ _)
              have h2 := h1 _ HXM4.out
              exact kown_set h1 ⟨h2.row, h2.words, HQS.out, h2.long⟩
            · exact Below.setCell (p := ⟨ab, k * 3 + 2, none⟩) (below_drewN HB4.out _) (HO4.out.lt ab rfl).1 _
          case measure => simp [intOf]; omega
    · obtain rfl : nb = i := by omega
      have HKA : Hid (kds kx = allK (nums xs) (begs (nums xs))) := by
        have h := HKD.out
        rw [List.take_of_length_le (by rw [HLB.out]; exact Nat.le_refl _)] at h
        exact h
      have HKS : Hid (Ks wr a1 N c1 kx) := Ks.of_owns HOW.out (fun x hx => (HKO.out x hx).good HBW.out)
      have HXL : Hid (kx.length = N) := by have h := HOW.out.1; rw [kcells_length] at h; show _ = _; omega
      have HBA : Hid (Below w.heap.size w wr) := HB1.out.trans (HBW.out.mono HB1.out.size)
      have HNC : Hid (N ≤ c1 ∧ c1 ≤ 9223372036854775807) := ⟨HKS.out.2.1, by have h := HKS.out.2.2.1; unfold maxLen at h; omega⟩
      clear HKD HOW HKO HBW HN1
      generalize wr = wo at *
      go_wp2
      go_loopw [8, 9] (fun ov ix wr => ∃ (i N2 : Nat) (oa : Option Addr) (oc : Nat) (outs : List Kw), i ≤ N ∧ N2 ≤ i ∧ ov = .slice oa N2 oc ∧ ix = .int .i64 (i : Int) ∧ Hid (Ks wr oa N2 oc outs) ∧ Hid ((oa = none ∧ oc = 0 ∧ N2 = 0) ∨ ∃ ob, oa = some ⟨ob, 0, none⟩) ∧ Hid (kds outs = ((kds kx).take i).foldl insK []) ∧ Hid (Below wo.heap.size wo wr)) (fun _ ix _ => N - (intOf ix).toNat)
      case atStart => exact ⟨0, 0, none, 0, [], Nat.zero_le _, Nat.le_refl _, rfl, rfl, Ks.nil, .inl ⟨rfl, rfl, rfl⟩, rfl, Below.refl _ _⟩
      case round =>
        obtain ⟨i2, N2, oa, oc, outs, hi2, hNi2, rfl, rfl, HOU, HOF, HOD, HBO⟩ := hrel
        by_cases hlt2 : i2 < N
        · have hlti2 : (i2 : Int) < (N : Int) := by omega
          have HXG : Hid ((kx.getD i2 Kw.no).Good wr) := (HKS.out.good i2).below HBO.out (Nat.le_refl _)
          obtain ⟨x, hx⟩ : ∃ x, kx.getD i2 Kw.no = x := ⟨_, rfl⟩
          rw [hx] at HXG
          have HXK := Lib.hid hx
          obtain ⟨ab, ao, xa, xn, xc, xes, XL, ga, gn, gc, gz, rfl, hab, hx0, hx1, hx2, _, _, _, hxe⟩ := HKS.out.one i2 hlt2
          have hxx : x = ⟨xa, xn, xc, xes, XL, ⟨ga, gn, gc, gz⟩⟩ := by rw [← hx]; exact hxe
          subst hxx
          have HAB : Hid (ab < wo.heap.size) := hab
          have HX0 : Hid (∀ W, Below wo.heap.size wo W → W.cell? ⟨ab, ao + i2 * 3, none⟩ = some (.slice xa xn xc) ∧ W.cell? ⟨ab, ao + i2 * 3 + 1, none⟩ = some (.int .i64 (XL : Int)) ∧ W.cell? ⟨ab, ao + i2 * 3 + 2, none⟩ = some (.slice ga gn gc)) := fun W hW => by
            refine ⟨?_, ?_, ?_⟩
            · rw [hW.cell (p := ⟨ab, ao + i2 * 3, none⟩) hab]; exact hx0
            · rw [hW.cell (p := ⟨ab, ao + i2 * 3 + 1, none⟩) hab]; exact hx1
            · rw [hW.cell (p := ⟨ab, ao + i2 * 3 + 2, none⟩) hab]; exact hx2
          clear hx hxe hx0 hx1 hx2 hab
          have HXI : Hid (∀ W, Below wr.heap.size wr W → W.cell? ⟨ab, ao + i2 * 3, none⟩ = some (.slice xa xn xc) ∧ W.cell? ⟨ab, ao + i2 * 3 + 1, none⟩ = some (.int .i64 (XL : Int)) ∧ W.cell? ⟨ab, ao + i2 * 3 + 2, none⟩ = some (.slice ga gn gc)) := fun W hW => HX0.out W (HBO.out.trans (hW.mono HBO.out.size))
          generalize wr = wi at *
          go_upto_block 4 with fail
          go_cut [10] from 84 to 100 (fun v W => ∃ t : Nat, t ≤ N2 ∧ v = .int .i64 (t : Int) ∧ Hid (∀ p, p < t → aheadK ((kds outs).getD p Kd.no) ⟨nums xes, XL, gz⟩ = true) ∧ Hid (t = N2 ∨ aheadK ((kds outs).getD t Kd.no) ⟨nums xes, XL, gz⟩ = false) ∧ Hid (Below wi.heap.size wi W))
          case first =>
            go_wp2_with fail
            go_loopw [10] (fun ix wr => ∃ t : Nat, t ≤ N2 ∧ ix = .int .i64 (t : Int) ∧ Hid (∀ p, p < t → aheadK ((kds outs).getD p Kd.no) ⟨nums xes, XL, gz⟩ = true) ∧ Hid (Below wi.heap.size wi wr)) (fun ix _ => N2 - (intOf ix).toNat)
            case atStart => exact ⟨0, Nat.zero_le _, rfl, (fun p hp => by omega), Below.refl _ _⟩
            case round =>
              obtain ⟨t, ht, rfl, HT, HBI⟩ := hrel
              have hmx := HMX.out
              by_cases hlt3 : t < N2
              · have hlti3 : (t : Int) < (N2 : Int) := by omega
                obtain ⟨ob, oo, ya, yn, yc, yes, YL, ha, hn1, hc, hz, rfl, hob, hy0, hy1, hy2, hyw, hyf, hyl, hye⟩ := HOU.out.one t hlt3
                have HY0 : Hid (∀ W, Below wi.heap.size wi W → W.cell? ⟨ob, oo + t * 3, none⟩ = some (.slice ya yn yc) ∧ W.cell? ⟨ob, oo + t * 3 + 1, none⟩ = some (.int .i64 (YL : Int)) ∧ W.cell? ⟨ob, oo + t * 3 + 2, none⟩ = some (.slice ha hn1 hc)) := fun W hW => by
                  refine ⟨?_, ?_, ?_⟩
                  · rw [hW.cell (p := ⟨ob, oo + t * 3, none⟩) hob]; exact hy0
                  · rw [hW.cell (p := ⟨ob, oo + t * 3 + 1, none⟩) hob]; exact hy1
                  · rw [hW.cell (p := ⟨ob, oo + t * 3 + 2, none⟩) hob]; exact hy2
                have HYG : Hid (Kw.Good wr ⟨ya, yn, yc, yes, YL, ⟨ha, hn1, hc, hz⟩⟩) := Kw.Good.below (w := wi) ⟨hyw, hyf, hyl⟩ HBI.out (Nat.le_refl _)
                have HXW : Hid (Kw.Good wr ⟨xa, xn, xc, xes, XL, ⟨ga, gn, gc, gz⟩⟩) := HXG.out.below HBI.out (Nat.le_refl _)
                have hyk : (kds outs).getD t Kd.no = ⟨nums yes, YL, hz⟩ := by rw [kds_at, hye]; rfl
                have ht0 : (0 : Int) ≤ (t : Int) := by omega
                have hi0 : (0 : Int) ≤ (i2 : Int) := by omega
                obtain ⟨g, hg⟩ : ∃ g, aheadK (⟨nums yes, YL, hz⟩ : Kd) ⟨nums xes, XL, gz⟩ = g := ⟨_, rfl⟩
                have HG : Hid (aheadK (⟨ya, yn, yc, yes, YL, ⟨ha, hn1, hc, hz⟩⟩ : Kw).k (⟨xa, xn, xc, xes, XL, ⟨ga, gn, gc, gz⟩⟩ : Kw).k = g) := hg
                have HGT : Hid (aheadK ((kds outs).getD t Kd.no) ⟨nums xes, XL, gz⟩ = g) := by show _ = _; rw [hyk]; exact hg
                clear hy0 hy1 hy2 hyw hyf hye hyk hg hob
                go_wp2_with fail
                cases g
                · skip
                  refine wp_region_held_drew (S := (fun W => (W.cell? ⟨ob, oo + t * 3, none⟩ = some (.slice ya yn yc) ∧ W.cell? ⟨ob, oo + t * 3 + 1, none⟩ = some (.int .i64 (YL : Int)) ∧ W.cell? ⟨ob, oo + t * 3 + 2, none⟩ = some (.slice ha hn1 hc)) ∧ W.cell? ⟨ab, ao + i2 * 3, none⟩ = some (.slice xa xn xc) ∧ W.cell? ⟨ab, ao + i2 * 3 + 1, none⟩ = some (.int .i64 (XL : Int)) ∧ W.cell? ⟨ab, ao + i2 * 3 + 2, none⟩ = some (.slice ga gn gc))) (by kernel_rfl) (by first | ((first | exact ⟨HY0.out _ hB6, HXI.out _ hB6⟩ | exact ⟨HY0.out _ (below_drawn HBI.out ⟨1, rfl⟩), HXI.out _ (below_drawn HBI.out ⟨1, rfl⟩)⟩)) | ((try dsimp only); (first | exact ⟨HY0.out _ hB6, HXI.out _ hB6⟩ | exact ⟨HY0.out _ (below_drawn HBI.out ⟨1, rfl⟩), HXI.out _ (below_drawn HBI.out ⟨1, rfl⟩)⟩))) (fun hHeld => ?_)
                  refine wpAnyH_take (i := 0) (v := ?vkd1) rfl (by kernel_rfl) (by kernel_rfl) (by kernel_rfl) (fun _ _ _ h => h) (Or.inl ⟨by rfl, ?hkd1⟩) (by assumption) ?rkd1
                  case hkd1 => intro w hSw; (try dsimp only at hSw); go_simp; try with_reducible rfl
                  simp only [Act.put, List.getElem_toArray, List.getElem_cons_zero, List.setIfInBounds_toArray, List.set_cons_succ, List.set_cons_zero]
                  refine wpAnyH_take (i := 1) (v := ?vkd4) rfl (by kernel_rfl) (by kernel_rfl) (by kernel_rfl) (fun _ _ _ h => h) (Or.inl ⟨by rfl, ?hkd4⟩) (by assumption) ?rkd4
                  case hkd4 => intro w hSw; (try dsimp only at hSw); go_simp; try with_reducible rfl
                  simp only [Act.put, List.getElem_toArray, List.getElem_cons_succ, List.getElem_cons_zero, List.setIfInBounds_toArray, List.set_cons_succ, List.set_cons_zero]
                  refine wpAnyH_take (i := 2) (v := ?vkd7) rfl (by kernel_rfl) (by kernel_rfl) (by kernel_rfl) (fun _ _ _ h => h) (Or.inl ⟨by rfl, ?hkd7⟩) (by assumption) ?rkd7
                  case hkd7 => intro w hSw; (try dsimp only at hSw); go_simp; try with_reducible rfl
                  simp only [Act.put, List.getElem_toArray, List.getElem_cons_succ, List.getElem_cons_zero, List.setIfInBounds_toArray, List.set_cons_succ, List.set_cons_zero]
                  refine wpAnyH_take (i := 3) (v := ?vkd10) rfl (by kernel_rfl) (by kernel_rfl) (by kernel_rfl) (fun _ _ _ h => h) (Or.inl ⟨by rfl, ?hkd10⟩) (by assumption) ?rkd10
                  case hkd10 => intro w hSw; (try dsimp only at hSw); go_simp; try with_reducible rfl
                  simp only [Act.put, List.getElem_toArray, List.getElem_cons_succ, List.getElem_cons_zero, List.setIfInBounds_toArray, List.set_cons_succ, List.set_cons_zero]
                  refine wpAnyH_take (i := 4) (v := ?vkd13) rfl (by kernel_rfl) (by kernel_rfl) (by kernel_rfl) (fun _ _ _ h => h) (Or.inl ⟨by rfl, ?hkd13⟩) (by assumption) ?rkd13
                  case hkd13 => intro w hSw; (try dsimp only at hSw); go_simp; try with_reducible rfl
                  simp only [Act.put, List.getElem_toArray, List.getElem_cons_succ, List.getElem_cons_zero, List.setIfInBounds_toArray, List.set_cons_succ, List.set_cons_zero]
                  refine wpAnyH_take (i := 5) (v := ?vkd16) rfl (by kernel_rfl) (by kernel_rfl) (by kernel_rfl) (fun _ _ _ h => h) (Or.inl ⟨by rfl, ?hkd16⟩) (by assumption) ?rkd16
                  case hkd16 => intro w hSw; (try dsimp only at hSw); go_simp; try with_reducible rfl
                  simp only [Act.put, List.getElem_toArray, List.getElem_cons_succ, List.getElem_cons_zero, List.setIfInBounds_toArray, List.set_cons_succ, List.set_cons_zero]
                  refine wpAnyH_take (i := 6) (v := ?vkd19) rfl (by kernel_rfl) (by kernel_rfl) (by kernel_rfl) (fun _ _ _ h => h) (Or.inl ⟨by rfl, ?hkd19⟩) (by assumption) ?rkd19
                  case hkd19 => intro w hSw; (try dsimp only at hSw); go_simp; try with_reducible rfl
                  simp only [Act.put, List.getElem_toArray, List.getElem_cons_succ, List.getElem_cons_zero, List.setIfInBounds_toArray, List.set_cons_succ, List.set_cons_zero]
                  refine wpAnyH_take (i := 7) (v := ?vkd22) rfl (by kernel_rfl) (by kernel_rfl) (by kernel_rfl) (fun _ _ _ h => h) (Or.inl ⟨by rfl, ?hkd22⟩) (by assumption) ?rkd22
                  case hkd22 => intro w hSw; (try dsimp only at hSw); go_simp; try with_reducible rfl
                  simp only [Act.put, List.getElem_toArray, List.getElem_cons_succ, List.getElem_cons_zero, List.setIfInBounds_toArray, List.set_cons_succ, List.set_cons_zero]
                  refine wpAnyH_take (i := 8) (v := ?vkd25) rfl (by kernel_rfl) (by kernel_rfl) (by kernel_rfl) (fun _ _ _ h => h) (Or.inl ⟨by rfl, ?hkd25⟩) (by assumption) ?rkd25
                  case hkd25 => intro w hSw; (try dsimp only at hSw); go_simp; try with_reducible rfl
                  simp only [Act.put, List.getElem_toArray, List.getElem_cons_succ, List.getElem_cons_zero, List.setIfInBounds_toArray, List.set_cons_succ, List.set_cons_zero]
                  refine wpAnyH_take (i := 9) (v := ?vkd28) rfl (by kernel_rfl) (by kernel_rfl) (by kernel_rfl) (fun _ _ _ h => h) (Or.inl ⟨by rfl, ?hkd28⟩) (by assumption) ?rkd28
                  case hkd28 => intro w hSw; (try dsimp only at hSw); go_simp; try with_reducible rfl
                  simp only [Act.put, List.getElem_toArray, List.getElem_cons_succ, List.getElem_cons_zero, List.setIfInBounds_toArray, List.set_cons_succ, List.set_cons_zero]
                  refine wpAnyH_take (i := 10) (v := ?vkd31) rfl (by kernel_rfl) (by kernel_rfl) (by kernel_rfl) (fun _ _ _ h => h) (Or.inl ⟨by rfl, ?hkd31⟩) (by assumption) ?rkd31
                  case hkd31 => intro w hSw; (try dsimp only at hSw); go_simp; try with_reducible rfl
                  simp only [Act.put, List.getElem_toArray, List.getElem_cons_succ, List.getElem_cons_zero, List.setIfInBounds_toArray, List.set_cons_succ, List.set_cons_zero]
                  refine wpAnyH_take (i := 11) (v := ?vkd34) rfl (by kernel_rfl) (by kernel_rfl) (by kernel_rfl) (fun _ _ _ h => h) (Or.inl ⟨by rfl, ?hkd34⟩) (by assumption) ?rkd34
                  case hkd34 => intro w hSw; (try dsimp only at hSw); go_simp; try with_reducible rfl
                  simp only [Act.put, List.getElem_toArray, List.getElem_cons_succ, List.getElem_cons_zero, List.setIfInBounds_toArray, List.set_cons_succ, List.set_cons_zero]
                  refine wpAnyH_take (i := 12) (v := ?vkd37) rfl (by kernel_rfl) (by kernel_rfl) (by kernel_rfl) (fun _ _ _ h => h) (Or.inl ⟨by rfl, ?hkd37⟩) (by assumption) ?rkd37
                  case hkd37 => intro w hSw; (try dsimp only at hSw); go_simp; try with_reducible rfl
                  simp only [Act.put, List.getElem_toArray, List.getElem_cons_succ, List.getElem_cons_zero, List.setIfInBounds_toArray, List.set_cons_succ, List.set_cons_zero]
                  refine wpAnyH_ready (rs := [13]) (by kernel_rfl) (by simp) ?_
                  refine AllReadyH.cons rfl (fun K hK => ?_) AllReadyH.nil
                  go_simp
                  refine (rahead_is ⟨ya, yn, yc, yes, YL, ⟨ha, hn1, hc, hz⟩⟩ ⟨xa, xn, xc, xes, XL, ⟨ga, gn, gc, gz⟩⟩ false wr.drew (Kw.Good.below HYG.out (below_drawn (Below.refl _ _) ⟨1, rfl⟩) (Nat.le_refl _)) (Kw.Good.below HXW.out (below_drawn (Below.refl _ _) ⟨1, rfl⟩) (Nat.le_refl _)) HG.out).mono ?_
                  rintro e w6 ⟨rfl, hb6⟩
                  have hB6 : Below wi.heap.size wi w6 := (below_drawn HBI.out ⟨1, rfl⟩).trans (hb6.mono HBI.out.size)
                  refine hK.out _ _ (by (try dsimp only); (first | exact ⟨HY0.out _ hB6, HXI.out _ hB6⟩ | exact ⟨HY0.out _ (below_drawn HBI.out ⟨1, rfl⟩), HXI.out _ (below_drawn HBI.out ⟨1, rfl⟩)⟩)) (fun hHeld => ?_)
                  clear hK K
                  try simp only [Act.put, List.getElem_toArray, List.getElem_cons_succ, List.getElem_cons_zero, List.setIfInBounds_toArray, List.set_cons_succ, List.set_cons_zero]
                  refine wpAnyH_take (i := 14) (v := ?vkd49) rfl (by kernel_rfl) (by kernel_rfl) (by kernel_rfl) (fun _ _ _ h => h) (Or.inl ⟨by rfl, ?hkd49⟩) (by assumption) ?rkd49
                  case hkd49 => intro w hSw; (try dsimp only at hSw); go_simp; try with_reducible rfl
                  simp only [Act.put, List.getElem_toArray, List.getElem_cons_succ, List.getElem_cons_zero, List.setIfInBounds_toArray, List.set_cons_succ, List.set_cons_zero]
                  refine wpAnyH_done (by kernel_rfl) ?_ _
                  have HB6 := Lib.hid hB6
                  clear hB6 hb6 hHeld
                  go_wp2_with fail
                  go_meet
                  case rel => exact ⟨t, by omega, rfl, HT.out, .inr HGT.out, HB6.out⟩
                · skip
                  refine wp_region_held_drew (S := (fun W => (W.cell? ⟨ob, oo + t * 3, none⟩ = some (.slice ya yn yc) ∧ W.cell? ⟨ob, oo + t * 3 + 1, none⟩ = some (.int .i64 (YL : Int)) ∧ W.cell? ⟨ob, oo + t * 3 + 2, none⟩ = some (.slice ha hn1 hc)) ∧ W.cell? ⟨ab, ao + i2 * 3, none⟩ = some (.slice xa xn xc) ∧ W.cell? ⟨ab, ao + i2 * 3 + 1, none⟩ = some (.int .i64 (XL : Int)) ∧ W.cell? ⟨ab, ao + i2 * 3 + 2, none⟩ = some (.slice ga gn gc))) (by kernel_rfl) (by first | ((first | exact ⟨HY0.out _ hB6, HXI.out _ hB6⟩ | exact ⟨HY0.out _ (below_drawn HBI.out ⟨1, rfl⟩), HXI.out _ (below_drawn HBI.out ⟨1, rfl⟩)⟩)) | ((try dsimp only); (first | exact ⟨HY0.out _ hB6, HXI.out _ hB6⟩ | exact ⟨HY0.out _ (below_drawn HBI.out ⟨1, rfl⟩), HXI.out _ (below_drawn HBI.out ⟨1, rfl⟩)⟩))) (fun hHeld => ?_)
                  refine wpAnyH_take (i := 0) (v := ?vkc1) rfl (by kernel_rfl) (by kernel_rfl) (by kernel_rfl) (fun _ _ _ h => h) (Or.inl ⟨by rfl, ?hkc1⟩) (by assumption) ?rkc1
                  case hkc1 => intro w hSw; (try dsimp only at hSw); go_simp; try with_reducible rfl
                  simp only [Act.put, List.getElem_toArray, List.getElem_cons_zero, List.setIfInBounds_toArray, List.set_cons_succ, List.set_cons_zero]
                  refine wpAnyH_take (i := 1) (v := ?vkc4) rfl (by kernel_rfl) (by kernel_rfl) (by kernel_rfl) (fun _ _ _ h => h) (Or.inl ⟨by rfl, ?hkc4⟩) (by assumption) ?rkc4
                  case hkc4 => intro w hSw; (try dsimp only at hSw); go_simp; try with_reducible rfl
                  simp only [Act.put, List.getElem_toArray, List.getElem_cons_succ, List.getElem_cons_zero, List.setIfInBounds_toArray, List.set_cons_succ, List.set_cons_zero]
                  refine wpAnyH_take (i := 2) (v := ?vkc7) rfl (by kernel_rfl) (by kernel_rfl) (by kernel_rfl) (fun _ _ _ h => h) (Or.inl ⟨by rfl, ?hkc7⟩) (by assumption) ?rkc7
                  case hkc7 => intro w hSw; (try dsimp only at hSw); go_simp; try with_reducible rfl
                  simp only [Act.put, List.getElem_toArray, List.getElem_cons_succ, List.getElem_cons_zero, List.setIfInBounds_toArray, List.set_cons_succ, List.set_cons_zero]
                  refine wpAnyH_take (i := 3) (v := ?vkc10) rfl (by kernel_rfl) (by kernel_rfl) (by kernel_rfl) (fun _ _ _ h => h) (Or.inl ⟨by rfl, ?hkc10⟩) (by assumption) ?rkc10
                  case hkc10 => intro w hSw; (try dsimp only at hSw); go_simp; try with_reducible rfl
                  simp only [Act.put, List.getElem_toArray, List.getElem_cons_succ, List.getElem_cons_zero, List.setIfInBounds_toArray, List.set_cons_succ, List.set_cons_zero]
                  refine wpAnyH_take (i := 4) (v := ?vkc13) rfl (by kernel_rfl) (by kernel_rfl) (by kernel_rfl) (fun _ _ _ h => h) (Or.inl ⟨by rfl, ?hkc13⟩) (by assumption) ?rkc13
                  case hkc13 => intro w hSw; (try dsimp only at hSw); go_simp; try with_reducible rfl
                  simp only [Act.put, List.getElem_toArray, List.getElem_cons_succ, List.getElem_cons_zero, List.setIfInBounds_toArray, List.set_cons_succ, List.set_cons_zero]
                  refine wpAnyH_take (i := 5) (v := ?vkc16) rfl (by kernel_rfl) (by kernel_rfl) (by kernel_rfl) (fun _ _ _ h => h) (Or.inl ⟨by rfl, ?hkc16⟩) (by assumption) ?rkc16
                  case hkc16 => intro w hSw; (try dsimp only at hSw); go_simp; try with_reducible rfl
                  simp only [Act.put, List.getElem_toArray, List.getElem_cons_succ, List.getElem_cons_zero, List.setIfInBounds_toArray, List.set_cons_succ, List.set_cons_zero]
                  refine wpAnyH_take (i := 6) (v := ?vkc19) rfl (by kernel_rfl) (by kernel_rfl) (by kernel_rfl) (fun _ _ _ h => h) (Or.inl ⟨by rfl, ?hkc19⟩) (by assumption) ?rkc19
                  case hkc19 => intro w hSw; (try dsimp only at hSw); go_simp; try with_reducible rfl
                  simp only [Act.put, List.getElem_toArray, List.getElem_cons_succ, List.getElem_cons_zero, List.setIfInBounds_toArray, List.set_cons_succ, List.set_cons_zero]
                  refine wpAnyH_take (i := 7) (v := ?vkc22) rfl (by kernel_rfl) (by kernel_rfl) (by kernel_rfl) (fun _ _ _ h => h) (Or.inl ⟨by rfl, ?hkc22⟩) (by assumption) ?rkc22
                  case hkc22 => intro w hSw; (try dsimp only at hSw); go_simp; try with_reducible rfl
                  simp only [Act.put, List.getElem_toArray, List.getElem_cons_succ, List.getElem_cons_zero, List.setIfInBounds_toArray, List.set_cons_succ, List.set_cons_zero]
                  refine wpAnyH_take (i := 8) (v := ?vkc25) rfl (by kernel_rfl) (by kernel_rfl) (by kernel_rfl) (fun _ _ _ h => h) (Or.inl ⟨by rfl, ?hkc25⟩) (by assumption) ?rkc25
                  case hkc25 => intro w hSw; (try dsimp only at hSw); go_simp; try with_reducible rfl
                  simp only [Act.put, List.getElem_toArray, List.getElem_cons_succ, List.getElem_cons_zero, List.setIfInBounds_toArray, List.set_cons_succ, List.set_cons_zero]
                  refine wpAnyH_take (i := 9) (v := ?vkc28) rfl (by kernel_rfl) (by kernel_rfl) (by kernel_rfl) (fun _ _ _ h => h) (Or.inl ⟨by rfl, ?hkc28⟩) (by assumption) ?rkc28
                  case hkc28 => intro w hSw; (try dsimp only at hSw); go_simp; try with_reducible rfl
                  simp only [Act.put, List.getElem_toArray, List.getElem_cons_succ, List.getElem_cons_zero, List.setIfInBounds_toArray, List.set_cons_succ, List.set_cons_zero]
                  refine wpAnyH_take (i := 10) (v := ?vkc31) rfl (by kernel_rfl) (by kernel_rfl) (by kernel_rfl) (fun _ _ _ h => h) (Or.inl ⟨by rfl, ?hkc31⟩) (by assumption) ?rkc31
                  case hkc31 => intro w hSw; (try dsimp only at hSw); go_simp; try with_reducible rfl
                  simp only [Act.put, List.getElem_toArray, List.getElem_cons_succ, List.getElem_cons_zero, List.setIfInBounds_toArray, List.set_cons_succ, List.set_cons_zero]
                  refine wpAnyH_take (i := 11) (v := ?vkc34) rfl (by kernel_rfl) (by kernel_rfl) (by kernel_rfl) (fun _ _ _ h => h) (Or.inl ⟨by rfl, ?hkc34⟩) (by assumption) ?rkc34
                  case hkc34 => intro w hSw; (try dsimp only at hSw); go_simp; try with_reducible rfl
                  simp only [Act.put, List.getElem_toArray, List.getElem_cons_succ, List.getElem_cons_zero, List.setIfInBounds_toArray, List.set_cons_succ, List.set_cons_zero]
                  refine wpAnyH_take (i := 12) (v := ?vkc37) rfl (by kernel_rfl) (by kernel_rfl) (by kernel_rfl) (fun _ _ _ h => h) (Or.inl ⟨by rfl, ?hkc37⟩) (by assumption) ?rkc37
                  case hkc37 => intro w hSw; (try dsimp only at hSw); go_simp; try with_reducible rfl
                  simp only [Act.put, List.getElem_toArray, List.getElem_cons_succ, List.getElem_cons_zero, List.setIfInBounds_toArray, List.set_cons_succ, List.set_cons_zero]
                  refine wpAnyH_ready (rs := [13]) (by kernel_rfl) (by simp) ?_
                  refine AllReadyH.cons rfl (fun K hK => ?_) AllReadyH.nil
                  go_simp
                  refine (rahead_is ⟨ya, yn, yc, yes, YL, ⟨ha, hn1, hc, hz⟩⟩ ⟨xa, xn, xc, xes, XL, ⟨ga, gn, gc, gz⟩⟩ true wr.drew (Kw.Good.below HYG.out (below_drawn (Below.refl _ _) ⟨1, rfl⟩) (Nat.le_refl _)) (Kw.Good.below HXW.out (below_drawn (Below.refl _ _) ⟨1, rfl⟩) (Nat.le_refl _)) HG.out).mono ?_
                  rintro e w6 ⟨rfl, hb6⟩
                  have hB6 : Below wi.heap.size wi w6 := (below_drawn HBI.out ⟨1, rfl⟩).trans (hb6.mono HBI.out.size)
                  refine hK.out _ _ (by (try dsimp only); (first | exact ⟨HY0.out _ hB6, HXI.out _ hB6⟩ | exact ⟨HY0.out _ (below_drawn HBI.out ⟨1, rfl⟩), HXI.out _ (below_drawn HBI.out ⟨1, rfl⟩)⟩)) (fun hHeld => ?_)
                  clear hK K
                  try simp only [Act.put, List.getElem_toArray, List.getElem_cons_succ, List.getElem_cons_zero, List.setIfInBounds_toArray, List.set_cons_succ, List.set_cons_zero]
                  refine wpAnyH_take (i := 14) (v := ?vkc49) rfl (by kernel_rfl) (by kernel_rfl) (by kernel_rfl) (fun _ _ _ h => h) (Or.inl ⟨by rfl, ?hkc49⟩) (by assumption) ?rkc49
                  case hkc49 => intro w hSw; (try dsimp only at hSw); go_simp; try with_reducible rfl
                  simp only [Act.put, List.getElem_toArray, List.getElem_cons_succ, List.getElem_cons_zero, List.setIfInBounds_toArray, List.set_cons_succ, List.set_cons_zero]
                  refine wpAnyH_done (by kernel_rfl) ?_ _
                  have HB6 := Lib.hid hB6
                  clear hB6 hb6 hHeld
                  go_wp2
                  go_roundw
                  case rel =>
                    refine ⟨t + 1, by omega, by go_num, fun p hp => ?_, HB6.out⟩
                    rcases Nat.lt_or_ge p t with h | h
                    · exact HT.out p h
                    · rw [show p = t by omega]; exact HGT.out
                  case measure => simp [intOf]; omega
              · obtain rfl : N2 = t := by omega
                go_wp2_with fail
                go_quiet (fail)
                go_wp2_with fail
                go_meet
                case rel => exact ⟨N2, Nat.le_refl _, rfl, HT.out, .inl rfl, below_drewN HBI.out _⟩
          case rest =>
            obtain ⟨t, ht, rfl, HT, HTX, HBC⟩ := hcut
            generalize wc = we at *
            have HOC : Hid (Ks we oa N2 oc outs) := HOU.out.below HBC.out (Nat.le_refl _)
            have hoc := HOC.out.2.1
            have hocm := HOC.out.2.2.1
            unfold maxLen at hocm
            have ht0 : (0 : Int) ≤ (t : Int) := by omega
            have htN : (t : Int) ≤ (N2 : Int) := by omega
            have htc : (t : Int) ≤ (oc : Int) := by omega
            go_upto_region 20 with fail
            go_cut [11] from 101 to 105 (fun v W => ∃ ra rc, v = .slice ra (N2 - t) rc ∧ Hid (Ks W ra (N2 - t) rc (outs.drop t)) ∧ Hid (Below wi.heap.size wi W))
            case first =>
              have HBC2 : ∀ o, Hid (Below wi.heap.size wi (we.alloc o)) := fun o => HBC.out.alloc HBC.out.size o
              have HNW := Lib.hid (World.ownsRow_lit (base := we.heap.size) (e := 62) (size := 3) we #[] 0 (Nat.le_refl _) (by unfold maxLen; omega) (by simp))
              have HKC : ∀ o, Hid (Ks (we.alloc o) oa N2 oc outs) := fun o => HOC.out.below ((Below.refl _ we).alloc (Nat.le_refl _) o) (Nat.le_refl _)
              have HKG : Hid (∀ y ∈ outs, y.Good wi) := HOU.out.2.2.2.1
              rcases HOF.out with ⟨rfl, rfl, rfl⟩ | ⟨ob, rfl⟩
              · obtain rfl : t = 0 := by omega
                obtain rfl : outs = [] := List.eq_nil_of_length_eq_zero HOC.out.1
                go_wp2_with (first
                  | (at_builtin
                     refine append_kinds (by rfl) (.tmp 101) (.tmp 104) (by rfl) we.heap.size _ 0 [] (by rfl) HNW.out none 0 0 [] (by rfl) Ks.nil 0 rfl (by omega) (by simp) ?_
                     intro a5 c5 w5 hown5 hb5 hg5 hnil5
                     have HO5 := Lib.hid hown5
                     have HB5 : Hid (Below wi.heap.size wi w5) := HBC.out.trans ((((Below.refl _ we).alloc (Nat.le_refl _) _).trans hb5).mono HBC.out.size)
                     clear hown5 hb5 hg5 hnil5))
                go_meet
                case rel => exact ⟨_, _, rfl, Ks.of_owns HO5.out (fun y hy => by cases hy), HB5.out⟩
              · by_cases hct : oc = t
                · obtain rfl : N2 = t := by omega
                  subst hct
                  have hdr : outs.drop oc = [] := by rw [List.drop_eq_nil_iff, HOC.out.1]; exact Nat.le_refl _
                  have HDR := Lib.hid hdr
                  clear hdr
                  go_wp2_with (first
                    | (at_builtin
                       refine append_kinds (by rfl) (.tmp 101) (.tmp 104) (by rfl) we.heap.size _ 0 [] (by rfl) HNW.out _ 0 0 [] (by rfl) Ks.none_at 0 rfl (by omega) (by simp) ?_
                       intro a5 c5 w5 hown5 hb5 hg5 hnil5
                       have HO5 := Lib.hid hown5
                       have HB5 : Hid (Below wi.heap.size wi w5) := HBC.out.trans ((((Below.refl _ we).alloc (Nat.le_refl _) _).trans hb5).mono HBC.out.size)
                       clear hown5 hb5 hg5 hnil5))
                  go_meet
                  case rel => exact ⟨a5, c5, by rw [Nat.sub_self], by rw [HDR.out, Nat.sub_self]; exact Ks.of_owns HO5.out (fun y hy => by cases hy), HB5.out⟩
                · go_wp2_with (first
                    | (at_builtin
                       refine append_kinds (by rfl) (.tmp 101) (.tmp 104) (by rfl) we.heap.size _ 0 [] (by rfl) HNW.out (some ⟨ob, t * 3, none⟩) (N2 - t) (oc - t) (outs.drop t) (by rfl) ((HKC _).out.behind ht (by omega) rfl rfl) (N2 - t) (by omega) (by omega) (by simp) ?_
                       intro a5 c5 w5 hown5 hb5 hg5 hnil5
                       have HO5 := Lib.hid hown5
                       have HB5 : Hid (Below wi.heap.size wi w5) := HBC.out.trans ((((Below.refl _ we).alloc (Nat.le_refl _) _).trans hb5).mono HBC.out.size)
                       clear hown5 hb5 hg5 hnil5))
                  go_meet
                  case rel => exact ⟨a5, c5, rfl, Ks.of_owns HO5.out (fun y hy => (HKG.out y (List.mem_of_mem_drop (by simpa using hy))).below HB5.out (Nat.le_refl _)), HB5.out⟩
            case rest =>
              obtain ⟨ra, rc, rfl, HRS, HBE⟩ := hcut
              have HBW2 : Hid (Below wi.heap.size wi wc.drew) := below_drawn HBE.out ⟨1, rfl⟩
              have HBD : Hid (Below wo.heap.size wo wc.drew) := HBO.out.trans (HBW2.out.mono HBO.out.size)
              have HXD : Hid (Kw.Good wc.drew ⟨xa, xn, xc, xes, XL, ⟨ga, gn, gc, gz⟩⟩) := HXG.out.below HBW2.out (Nat.le_refl _)
              have HRD : Hid (Ks wc.drew ra (N2 - t) rc (outs.drop t)) := HRS.out
              have HXE : Hid (∀ W, Below wc.drew.heap.size wc.drew W → W.cell? ⟨ab, ao + i2 * 3, none⟩ = some (.slice xa xn xc) ∧ W.cell? ⟨ab, ao + i2 * 3 + 1, none⟩ = some (.int .i64 (XL : Int)) ∧ W.cell? ⟨ab, ao + i2 * 3 + 2, none⟩ = some (.slice ga gn gc)) := fun W hW => HXI.out W (HBW2.out.trans (hW.mono HBW2.out.size))
              have HKG : Hid (∀ y ∈ outs, y.Good wi) := HOU.out.2.2.2.1
              have HEL : Hid (∀ y ∈ outs.take t ++ [(⟨xa, xn, xc, xes, XL, ⟨ga, gn, gc, gz⟩⟩ : Kw)] ++ outs.drop t, y.Good wc.drew) := fun y hy => by
                rcases List.mem_append.1 hy with hy | hy
                · rcases List.mem_append.1 hy with hy | hy
                  · exact (HKG.out y (List.mem_of_mem_take hy)).below HBW2.out (Nat.le_refl _)
                  · rw [List.mem_singleton.1 hy]; exact HXD.out
                · exact (HKG.out y (List.mem_of_mem_drop hy)).below HBW2.out (Nat.le_refl _)
              have HNX : Hid (((kds kx).take (i2 + 1)).foldl insK [] = insK (kds outs) ⟨nums xes, XL, gz⟩) := by
                show _ = _
                have hil : i2 < (kds kx).length := by rw [kds_length, HXL.out]; exact hlt2
                rw [List.take_succ_eq_append_getElem hil, List.foldl_append, ← HOD.out]
                have e : (kds kx)[i2] = ⟨nums xes, XL, gz⟩ := by
                  have h := kds_at kx i2
                  rw [HXK.out, List.getD_eq_getElem?_getD, List.getElem?_eq_getElem hil, Option.getD_some] at h
                  exact h
                rw [e]; rfl
              have HKJ : Hid (kds (outs.take t ++ [(⟨xa, xn, xc, xes, XL, ⟨ga, gn, gc, gz⟩⟩ : Kw)] ++ outs.drop t) = insK (kds outs) ⟨nums xes, XL, gz⟩) := by
                show _ = _
                have hol : (kds outs).length = N2 := by rw [kds_length, HOC.out.1]
                rw [insK_at (by rw [hol]; exact ht) HT.out (by rw [hol]; exact HTX.out), kds_app, kds_app, kds_take, kds_drop, List.append_assoc]; rfl
              have hmx := HMX.out
              have hi0 : (0 : Int) ≤ (i2 : Int) := by omega
              rcases HOF.out with ⟨rfl, rfl, rfl⟩ | ⟨ob, rfl⟩
              · obtain rfl : t = 0 := by omega
                have HOT : Hid (∀ W, Below wc.drew.heap.size wc.drew W → Ks W none 0 0 (outs.take 0)) := fun W hW => ((HOU.out.below (HBW2.out.trans (hW.mono HBW2.out.size)) (Nat.le_refl _)).first (Nat.zero_le _))
                go_wp2_with fail
                refine wp_region_held_drew (S := (fun W => W.cell? ⟨ab, ao + i2 * 3, none⟩ = some (.slice xa xn xc) ∧ W.cell? ⟨ab, ao + i2 * 3 + 1, none⟩ = some (.int .i64 (XL : Int)) ∧ W.cell? ⟨ab, ao + i2 * 3 + 2, none⟩ = some (.slice ga gn gc))) (by kernel_rfl) (by first | ((first | exact HXE.out _ hbT | exact HXE.out _ hbS | exact HXE.out _ hbR | exact HXE.out _ hbQ | exact HXE.out _ hbP | exact HXE.out _ (Below.refl _ _))) | ((try dsimp only); (first | exact HXE.out _ hbT | exact HXE.out _ hbS | exact HXE.out _ hbR | exact HXE.out _ hbQ | exact HXE.out _ hbP | exact HXE.out _ (Below.refl _ _)))) (fun hHeld => ?_)
                refine wpAnyH_take (i := 1) (v := ?vke1) rfl (by kernel_rfl) (by kernel_rfl) (by kernel_rfl) (fun _ _ _ h => h) (Or.inl ⟨by rfl, ?hke1⟩) (by assumption) ?rke1
                case hke1 => intro w hSw; (try dsimp only at hSw); go_simp; try with_reducible rfl
                simp only [Act.put, List.getElem_toArray, List.getElem_cons_succ, List.getElem_cons_zero, List.setIfInBounds_toArray, List.set_cons_succ, List.set_cons_zero]
                refine wpAnyH_take (i := 2) (v := ?vke4) rfl (by kernel_rfl) (by kernel_rfl) (by kernel_rfl) (fun _ _ _ h => h) (Or.inl ⟨by rfl, ?hke4⟩) (by assumption) ?rke4
                case hke4 => intro w hSw; (try dsimp only at hSw); go_simp; try with_reducible rfl
                simp only [Act.put, List.getElem_toArray, List.getElem_cons_succ, List.getElem_cons_zero, List.setIfInBounds_toArray, List.set_cons_succ, List.set_cons_zero]
                refine wpAnyH_take (i := 3) (v := ?vke7) rfl (by kernel_rfl) (by kernel_rfl) (by kernel_rfl) (fun _ _ _ h => h) (Or.inl ⟨by rfl, ?hke7⟩) (by assumption) ?rke7
                case hke7 => intro w hSw; (try dsimp only at hSw); go_simp; try with_reducible rfl
                simp only [Act.put, List.getElem_toArray, List.getElem_cons_succ, List.getElem_cons_zero, List.setIfInBounds_toArray, List.set_cons_succ, List.set_cons_zero]
                refine wpAnyH_take (i := 5) (v := ?vke10) rfl (by kernel_rfl) (by kernel_rfl) (by kernel_rfl) (fun _ _ _ h => h) (Or.inl ⟨by rfl, ?hke10⟩) (by assumption) ?rke10
                case hke10 => intro w hSw; (try dsimp only at hSw); go_simp; try with_reducible rfl
                simp only [Act.put, List.getElem_toArray, List.getElem_cons_succ, List.getElem_cons_zero, List.setIfInBounds_toArray, List.set_cons_succ, List.set_cons_zero]
                refine wpAnyH_take (i := 6) (v := ?vke13) rfl (by kernel_rfl) (by kernel_rfl) (by kernel_rfl) (fun _ _ _ h => h) (Or.inl ⟨by rfl, ?hke13⟩) (by assumption) ?rke13
                case hke13 => intro w hSw; (try dsimp only at hSw); go_simp; try with_reducible rfl
                simp only [Act.put, List.getElem_toArray, List.getElem_cons_succ, List.getElem_cons_zero, List.setIfInBounds_toArray, List.set_cons_succ, List.set_cons_zero]
                refine wpAnyH_take (i := 7) (v := ?vke16) rfl (by kernel_rfl) (by kernel_rfl) (by kernel_rfl) (fun _ _ _ h => h) (Or.inl ⟨by rfl, ?hke16⟩) (by assumption) ?rke16
                case hke16 => intro w hSw; (try dsimp only at hSw); go_simp; try with_reducible rfl
                simp only [Act.put, List.getElem_toArray, List.getElem_cons_succ, List.getElem_cons_zero, List.setIfInBounds_toArray, List.set_cons_succ, List.set_cons_zero]
                refine wpAnyH_take (i := 8) (v := ?vke19) rfl (by kernel_rfl) (by kernel_rfl) (by kernel_rfl) (fun _ _ _ h => h) (Or.inl ⟨by rfl, ?hke19⟩) (by assumption) ?rke19
                case hke19 => intro w hSw; (try dsimp only at hSw); go_simp; try with_reducible rfl
                simp only [Act.put, List.getElem_toArray, List.getElem_cons_succ, List.getElem_cons_zero, List.setIfInBounds_toArray, List.set_cons_succ, List.set_cons_zero]
                refine wpAnyH_take (i := 11) (v := ?vke22) rfl (by kernel_rfl) (by kernel_rfl) (by kernel_rfl) (fun _ _ _ h => h) (Or.inl ⟨by rfl, ?hke22⟩) (by assumption) ?rke22
                case hke22 => intro w hSw; (try dsimp only at hSw); go_simp; try with_reducible rfl
                simp only [Act.put, List.getElem_toArray, List.getElem_cons_succ, List.getElem_cons_zero, List.setIfInBounds_toArray, List.set_cons_succ, List.set_cons_zero]
                refine wpAnyH_ready (rs := [0, 9]) (by kernel_rfl) (by simp) ?_
                refine AllReadyH.cons rfl (fun K hK => ?_) (AllReadyH.cons rfl (fun K hK => ?_) AllReadyH.nil)
                · refine step_build_none (by rfl) (by rfl) ?_
                  intro wP hownP hbP0
                  have hbP : Below wc.drew.heap.size wc.drew wP := (Below.refl wc.drew.heap.size wc.drew).trans (hbP0.mono (Below.refl wc.drew.heap.size wc.drew).size)
                  have hoP := own_mono hownP (show wc.drew.heap.size ≤ _ from (Below.refl wc.drew.heap.size wc.drew).size)
                  refine hK.out _ _ (by (try dsimp only); (first | exact HXE.out _ hbT | exact HXE.out _ hbS | exact HXE.out _ hbR | exact HXE.out _ hbQ | exact HXE.out _ hbP | exact HXE.out _ (Below.refl _ _))) (fun hHeld => ?_)
                  clear hK K
                  try simp only [Act.put, List.getElem_toArray, List.getElem_cons_zero, List.setIfInBounds_toArray, List.set_cons_succ, List.set_cons_zero]
                  refine wpAnyH_ready (rs := [4, 9]) (by kernel_rfl) (by simp) ?_
                  refine AllReadyH.cons rfl (fun K hK => ?_) (AllReadyH.cons rfl (fun K hK => ?_) AllReadyH.nil)
                  · refine step_append_kinds (by rfl) (.tmp 106) (.tmp 109) (by rfl) wc.drew.heap.size _ 0 [] (by rfl) hoP none 0 0 (outs.take 0) (by rfl) (HOT.out _ hbP) 0 (by omega) (by omega) hbP.size ?_
                    intro aR cR wR hoR hbR0 hgR hnR
                    have hbR : Below wc.drew.heap.size wc.drew wR := hbP.trans hbR0
                    refine hK.out _ _ (by (try dsimp only); (first | exact HXE.out _ hbT | exact HXE.out _ hbS | exact HXE.out _ hbR | exact HXE.out _ hbQ | exact HXE.out _ hbP | exact HXE.out _ (Below.refl _ _))) (fun hHeld => ?_)
                    clear hK K
                    try simp only [Act.put, List.getElem_toArray, List.getElem_cons_succ, List.getElem_cons_zero, List.setIfInBounds_toArray, List.set_cons_succ, List.set_cons_zero]
                    refine wpAnyH_ready (rs := [9]) (by kernel_rfl) (by simp) ?_
                    refine AllReadyH.cons rfl (fun K hK => ?_) AllReadyH.nil
                    refine step_build_kind_at (by rfl) (.tmp 114) ⟨xa, xn, xc, xes, XL, ⟨ga, gn, gc, gz⟩⟩ (by rfl) (by rfl) ?_
                    intro wQ hgQ0 hgQ1 hgQ2 hbQ0
                    have hbQ : Below wc.drew.heap.size wc.drew wQ := hbR.trans (hbQ0.mono hbR.size)
                    have hqQ := Ks.single (HXD.out.below hbR (Nat.le_refl _)) hgQ0 hgQ1 hgQ2 hbQ0
                    have hoQ := ownsRow_below hoR hbQ0 (Nat.le_refl _)
                    refine hK.out _ _ (by (try dsimp only); (first | exact HXE.out _ hbT | exact HXE.out _ hbS | exact HXE.out _ hbR | exact HXE.out _ hbQ | exact HXE.out _ hbP | exact HXE.out _ (Below.refl _ _))) (fun hHeld => ?_)
                    clear hK K
                    try simp only [Act.put, List.getElem_toArray, List.getElem_cons_succ, List.getElem_cons_zero, List.setIfInBounds_toArray, List.set_cons_succ, List.set_cons_zero]
                    refine wpAnyH_ready (rs := [10]) (by kernel_rfl) (by simp) ?_
                    refine AllReadyH.cons rfl (fun K hK => ?_) AllReadyH.nil
                    refine step_append_kinds (by rfl) (.tmp 110) (.tmp 115) (by rfl) wc.drew.heap.size _ 0 (outs.take 0) (by rfl) hoQ _ 1 1 [⟨xa, xn, xc, xes, XL, ⟨ga, gn, gc, gz⟩⟩] (by rfl) hqQ (0 + 1) rfl (by omega) hbQ.size ?_
                    intro aS cS wS hoS hbS0 hgS hnS
                    have hbS : Below wc.drew.heap.size wc.drew wS := hbQ.trans hbS0
                    refine hK.out _ _ (by (try dsimp only); (first | exact HXE.out _ hbT | exact HXE.out _ hbS | exact HXE.out _ hbR | exact HXE.out _ hbQ | exact HXE.out _ hbP | exact HXE.out _ (Below.refl _ _))) (fun hHeld => ?_)
                    clear hK K
                    try simp only [Act.put, List.getElem_toArray, List.getElem_cons_succ, List.getElem_cons_zero, List.setIfInBounds_toArray, List.set_cons_succ, List.set_cons_zero]
                    refine wpAnyH_ready (rs := [12]) (by kernel_rfl) (by simp) ?_
                    refine AllReadyH.cons rfl (fun K hK => ?_) AllReadyH.nil
                    refine step_append_kinds (by rfl) (.tmp 116) (.tmp 117) (by rfl) wc.drew.heap.size _ (0 + 1) _ (by rfl) hoS ra (0 - 0) rc (outs.drop 0) (by rfl) (HRD.out.below hbS (Nat.le_refl _)) (0 + 1) (by omega) (by omega) hbS.size ?_
                    intro aT cT wT hoT hbT0 hgT hnT
                    have hbT : Below wc.drew.heap.size wc.drew wT := hbS.trans hbT0
                    refine hK.out _ _ (by (try dsimp only); (first | exact HXE.out _ hbT | exact HXE.out _ hbS | exact HXE.out _ hbR | exact HXE.out _ hbQ | exact HXE.out _ hbP | exact HXE.out _ (Below.refl _ _))) (fun hHeld => ?_)
                    clear hK K
                    try simp only [Act.put, List.getElem_toArray, List.getElem_cons_succ, List.getElem_cons_zero, List.setIfInBounds_toArray, List.set_cons_succ, List.set_cons_zero]
                    refine wpAnyH_take (i := 13) (v := ?vke68) rfl (by kernel_rfl) (by kernel_rfl) (by kernel_rfl) (fun _ _ _ h => h) (Or.inl ⟨by rfl, ?hke68⟩) (by assumption) ?rke68
                    case hke68 => intro w hSw; (try dsimp only at hSw); go_simp; try with_reducible rfl
                    simp only [Act.put, List.getElem_toArray, List.getElem_cons_succ, List.getElem_cons_zero, List.setIfInBounds_toArray, List.set_cons_succ, List.set_cons_zero]
                    refine wpAnyH_done (by kernel_rfl) ?_ _
                    have HOT2 := Lib.hid hoT
                    have HBT := Lib.hid hbT
                    clear hHeld
                    go_wp2
                    go_roundw
                    case rel => exact ⟨i2 + 1, 0 + 1, aT, cT, _, by omega, by omega, rfl, by go_num, Ks.of_owns HOT2.out (fun y hy => (HEL.out y hy).below HBT.out (Nat.le_refl _)), .inr (own_head HOT2.out (Nat.succ_pos _)), (by show _ = _; rw [HNX.out]; exact HKJ.out), HBD.out.trans (HBT.out.mono HBD.out.size)⟩
                    case measure => simp [intOf]; omega
                  · refine step_build_kind_at (by rfl) (.tmp 114) ⟨xa, xn, xc, xes, XL, ⟨ga, gn, gc, gz⟩⟩ (by rfl) (by rfl) ?_
                    intro wQ hgQ0 hgQ1 hgQ2 hbQ0
                    have hbQ : Below wc.drew.heap.size wc.drew wQ := hbP.trans (hbQ0.mono hbP.size)
                    have hqQ := Ks.single (HXD.out.below hbP (Nat.le_refl _)) hgQ0 hgQ1 hgQ2 hbQ0
                    have hoQ := ownsRow_below hoP hbQ0 (Nat.le_refl _)
                    refine hK.out _ _ (by (try dsimp only); (first | exact HXE.out _ hbT | exact HXE.out _ hbS | exact HXE.out _ hbR | exact HXE.out _ hbQ | exact HXE.out _ hbP | exact HXE.out _ (Below.refl _ _))) (fun hHeld => ?_)
                    clear hK K
                    try simp only [Act.put, List.getElem_toArray, List.getElem_cons_succ, List.getElem_cons_zero, List.setIfInBounds_toArray, List.set_cons_succ, List.set_cons_zero]
                    refine wpAnyH_ready (rs := [4]) (by kernel_rfl) (by simp) ?_
                    refine AllReadyH.cons rfl (fun K hK => ?_) AllReadyH.nil
                    refine step_append_kinds (by rfl) (.tmp 106) (.tmp 109) (by rfl) wc.drew.heap.size _ 0 [] (by rfl) hoQ none 0 0 (outs.take 0) (by rfl) (HOT.out _ hbQ) 0 (by omega) (by omega) hbQ.size ?_
                    intro aR cR wR hoR hbR0 hgR hnR
                    have hbR : Below wc.drew.heap.size wc.drew wR := hbQ.trans hbR0
                    have hqR : Ks wR (some ⟨wP.heap.size, 0, none⟩) 1 1 [⟨xa, xn, xc, xes, XL, ⟨ga, gn, gc, gz⟩⟩] := ks_single_kept hqQ (HXD.out.below hbR (Nat.le_refl _)) hgR (by intro e; have e' : wP.heap.size = wc.drew.heap.size := Option.some.inj e; have h1 : wc.drew.heap.size < wP.heap.size := (hownP.lt _ rfl).2; have h2 := cell_lt hgQ0; omega)
                    refine hK.out _ _ (by (try dsimp only); (first | exact HXE.out _ hbT | exact HXE.out _ hbS | exact HXE.out _ hbR | exact HXE.out _ hbQ | exact HXE.out _ hbP | exact HXE.out _ (Below.refl _ _))) (fun hHeld => ?_)
                    clear hK K
                    try simp only [Act.put, List.getElem_toArray, List.getElem_cons_succ, List.getElem_cons_zero, List.setIfInBounds_toArray, List.set_cons_succ, List.set_cons_zero]
                    refine wpAnyH_ready (rs := [10]) (by kernel_rfl) (by simp) ?_
                    refine AllReadyH.cons rfl (fun K hK => ?_) AllReadyH.nil
                    refine step_append_kinds (by rfl) (.tmp 110) (.tmp 115) (by rfl) wc.drew.heap.size _ 0 (outs.take 0) (by rfl) hoR _ 1 1 [⟨xa, xn, xc, xes, XL, ⟨ga, gn, gc, gz⟩⟩] (by rfl) hqR (0 + 1) rfl (by omega) hbR.size ?_
                    intro aS cS wS hoS hbS0 hgS hnS
                    have hbS : Below wc.drew.heap.size wc.drew wS := hbR.trans hbS0
                    refine hK.out _ _ (by (try dsimp only); (first | exact HXE.out _ hbT | exact HXE.out _ hbS | exact HXE.out _ hbR | exact HXE.out _ hbQ | exact HXE.out _ hbP | exact HXE.out _ (Below.refl _ _))) (fun hHeld => ?_)
                    clear hK K
                    try simp only [Act.put, List.getElem_toArray, List.getElem_cons_succ, List.getElem_cons_zero, List.setIfInBounds_toArray, List.set_cons_succ, List.set_cons_zero]
                    refine wpAnyH_ready (rs := [12]) (by kernel_rfl) (by simp) ?_
                    refine AllReadyH.cons rfl (fun K hK => ?_) AllReadyH.nil
                    refine step_append_kinds (by rfl) (.tmp 116) (.tmp 117) (by rfl) wc.drew.heap.size _ (0 + 1) _ (by rfl) hoS ra (0 - 0) rc (outs.drop 0) (by rfl) (HRD.out.below hbS (Nat.le_refl _)) (0 + 1) (by omega) (by omega) hbS.size ?_
                    intro aT cT wT hoT hbT0 hgT hnT
                    have hbT : Below wc.drew.heap.size wc.drew wT := hbS.trans hbT0
                    refine hK.out _ _ (by (try dsimp only); (first | exact HXE.out _ hbT | exact HXE.out _ hbS | exact HXE.out _ hbR | exact HXE.out _ hbQ | exact HXE.out _ hbP | exact HXE.out _ (Below.refl _ _))) (fun hHeld => ?_)
                    clear hK K
                    try simp only [Act.put, List.getElem_toArray, List.getElem_cons_succ, List.getElem_cons_zero, List.setIfInBounds_toArray, List.set_cons_succ, List.set_cons_zero]
                    refine wpAnyH_take (i := 13) (v := ?vke112) rfl (by kernel_rfl) (by kernel_rfl) (by kernel_rfl) (fun _ _ _ h => h) (Or.inl ⟨by rfl, ?hke112⟩) (by assumption) ?rke112
                    case hke112 => intro w hSw; (try dsimp only at hSw); go_simp; try with_reducible rfl
                    simp only [Act.put, List.getElem_toArray, List.getElem_cons_succ, List.getElem_cons_zero, List.setIfInBounds_toArray, List.set_cons_succ, List.set_cons_zero]
                    refine wpAnyH_done (by kernel_rfl) ?_ _
                    have HOT2 := Lib.hid hoT
                    have HBT := Lib.hid hbT
                    clear hHeld
                    go_wp2
                    go_roundw
                    case rel => exact ⟨i2 + 1, 0 + 1, aT, cT, _, by omega, by omega, rfl, by go_num, Ks.of_owns HOT2.out (fun y hy => (HEL.out y hy).below HBT.out (Nat.le_refl _)), .inr (own_head HOT2.out (Nat.succ_pos _)), (by show _ = _; rw [HNX.out]; exact HKJ.out), HBD.out.trans (HBT.out.mono HBD.out.size)⟩
                    case measure => simp [intOf]; omega
                · refine step_build_kind_at (by rfl) (.tmp 114) ⟨xa, xn, xc, xes, XL, ⟨ga, gn, gc, gz⟩⟩ (by rfl) (by rfl) ?_
                  intro wQ hgQ0 hgQ1 hgQ2 hbQ0
                  have hbQ : Below wc.drew.heap.size wc.drew wQ := (Below.refl wc.drew.heap.size wc.drew).trans (hbQ0.mono (Below.refl wc.drew.heap.size wc.drew).size)
                  have hqQ := Ks.single (HXD.out.below (Below.refl wc.drew.heap.size wc.drew) (Nat.le_refl _)) hgQ0 hgQ1 hgQ2 hbQ0
                  refine hK.out _ _ (by (try dsimp only); (first | exact HXE.out _ hbT | exact HXE.out _ hbS | exact HXE.out _ hbR | exact HXE.out _ hbQ | exact HXE.out _ hbP | exact HXE.out _ (Below.refl _ _))) (fun hHeld => ?_)
                  clear hK K
                  try simp only [Act.put, List.getElem_toArray, List.getElem_cons_succ, List.getElem_cons_zero, List.setIfInBounds_toArray, List.set_cons_succ, List.set_cons_zero]
                  refine wpAnyH_ready (rs := [0]) (by kernel_rfl) (by simp) ?_
                  refine AllReadyH.cons rfl (fun K hK => ?_) AllReadyH.nil
                  refine step_build_none (by rfl) (by rfl) ?_
                  intro wP hownP hbP0
                  have hbP : Below wc.drew.heap.size wc.drew wP := hbQ.trans (hbP0.mono hbQ.size)
                  have hoP := own_mono hownP (show wc.drew.heap.size ≤ _ from hbQ.size)
                  have hqP : Ks wP (some ⟨wc.drew.heap.size, 0, none⟩) 1 1 [⟨xa, xn, xc, xes, XL, ⟨ga, gn, gc, gz⟩⟩] := hqQ.below hbP0 (Nat.le_refl _)
                  refine hK.out _ _ (by (try dsimp only); (first | exact HXE.out _ hbT | exact HXE.out _ hbS | exact HXE.out _ hbR | exact HXE.out _ hbQ | exact HXE.out _ hbP | exact HXE.out _ (Below.refl _ _))) (fun hHeld => ?_)
                  clear hK K
                  try simp only [Act.put, List.getElem_toArray, List.getElem_cons_zero, List.setIfInBounds_toArray, List.set_cons_succ, List.set_cons_zero]
                  refine wpAnyH_ready (rs := [4]) (by kernel_rfl) (by simp) ?_
                  refine AllReadyH.cons rfl (fun K hK => ?_) AllReadyH.nil
                  refine step_append_kinds (by rfl) (.tmp 106) (.tmp 109) (by rfl) wc.drew.heap.size _ 0 [] (by rfl) hoP none 0 0 (outs.take 0) (by rfl) (HOT.out _ hbP) 0 (by omega) (by omega) hbP.size ?_
                  intro aR cR wR hoR hbR0 hgR hnR
                  have hbR : Below wc.drew.heap.size wc.drew wR := hbP.trans hbR0
                  have hqR : Ks wR (some ⟨wc.drew.heap.size, 0, none⟩) 1 1 [⟨xa, xn, xc, xes, XL, ⟨ga, gn, gc, gz⟩⟩] := ks_single_kept hqP (HXD.out.below hbR (Nat.le_refl _)) hgR (by intro e; have e' : wc.drew.heap.size = wQ.heap.size := Option.some.inj e; have h1 : wQ.heap.size < wP.heap.size := (hownP.lt _ rfl).2; have h2 := cell_lt hgQ0; omega)
                  refine hK.out _ _ (by (try dsimp only); (first | exact HXE.out _ hbT | exact HXE.out _ hbS | exact HXE.out _ hbR | exact HXE.out _ hbQ | exact HXE.out _ hbP | exact HXE.out _ (Below.refl _ _))) (fun hHeld => ?_)
                  clear hK K
                  try simp only [Act.put, List.getElem_toArray, List.getElem_cons_succ, List.getElem_cons_zero, List.setIfInBounds_toArray, List.set_cons_succ, List.set_cons_zero]
                  refine wpAnyH_ready (rs := [10]) (by kernel_rfl) (by simp) ?_
                  refine AllReadyH.cons rfl (fun K hK => ?_) AllReadyH.nil
                  refine step_append_kinds (by rfl) (.tmp 110) (.tmp 115) (by rfl) wc.drew.heap.size _ 0 (outs.take 0) (by rfl) hoR _ 1 1 [⟨xa, xn, xc, xes, XL, ⟨ga, gn, gc, gz⟩⟩] (by rfl) hqR (0 + 1) rfl (by omega) hbR.size ?_
                  intro aS cS wS hoS hbS0 hgS hnS
                  have hbS : Below wc.drew.heap.size wc.drew wS := hbR.trans hbS0
                  refine hK.out _ _ (by (try dsimp only); (first | exact HXE.out _ hbT | exact HXE.out _ hbS | exact HXE.out _ hbR | exact HXE.out _ hbQ | exact HXE.out _ hbP | exact HXE.out _ (Below.refl _ _))) (fun hHeld => ?_)
                  clear hK K
                  try simp only [Act.put, List.getElem_toArray, List.getElem_cons_succ, List.getElem_cons_zero, List.setIfInBounds_toArray, List.set_cons_succ, List.set_cons_zero]
                  refine wpAnyH_ready (rs := [12]) (by kernel_rfl) (by simp) ?_
                  refine AllReadyH.cons rfl (fun K hK => ?_) AllReadyH.nil
                  refine step_append_kinds (by rfl) (.tmp 116) (.tmp 117) (by rfl) wc.drew.heap.size _ (0 + 1) _ (by rfl) hoS ra (0 - 0) rc (outs.drop 0) (by rfl) (HRD.out.below hbS (Nat.le_refl _)) (0 + 1) (by omega) (by omega) hbS.size ?_
                  intro aT cT wT hoT hbT0 hgT hnT
                  have hbT : Below wc.drew.heap.size wc.drew wT := hbS.trans hbT0
                  refine hK.out _ _ (by (try dsimp only); (first | exact HXE.out _ hbT | exact HXE.out _ hbS | exact HXE.out _ hbR | exact HXE.out _ hbQ | exact HXE.out _ hbP | exact HXE.out _ (Below.refl _ _))) (fun hHeld => ?_)
                  clear hK K
                  try simp only [Act.put, List.getElem_toArray, List.getElem_cons_succ, List.getElem_cons_zero, List.setIfInBounds_toArray, List.set_cons_succ, List.set_cons_zero]
                  refine wpAnyH_take (i := 13) (v := ?vke165) rfl (by kernel_rfl) (by kernel_rfl) (by kernel_rfl) (fun _ _ _ h => h) (Or.inl ⟨by rfl, ?hke165⟩) (by assumption) ?rke165
                  case hke165 => intro w hSw; (try dsimp only at hSw); go_simp; try with_reducible rfl
                  simp only [Act.put, List.getElem_toArray, List.getElem_cons_succ, List.getElem_cons_zero, List.setIfInBounds_toArray, List.set_cons_succ, List.set_cons_zero]
                  refine wpAnyH_done (by kernel_rfl) ?_ _
                  have HOT2 := Lib.hid hoT
                  have HBT := Lib.hid hbT
                  clear hHeld
                  go_wp2
                  go_roundw
                  case rel => exact ⟨i2 + 1, 0 + 1, aT, cT, _, by omega, by omega, rfl, by go_num, Ks.of_owns HOT2.out (fun y hy => (HEL.out y hy).below HBT.out (Nat.le_refl _)), .inr (own_head HOT2.out (Nat.succ_pos _)), (by show _ = _; rw [HNX.out]; exact HKJ.out), HBD.out.trans (HBT.out.mono HBD.out.size)⟩
                  case measure => simp [intOf]; omega
              · have HOT : Hid (∀ W, Below wc.drew.heap.size wc.drew W → Ks W (some ⟨ob, 0, none⟩) t oc (outs.take t)) := fun W hW => ((HOU.out.below (HBW2.out.trans (hW.mono HBW2.out.size)) (Nat.le_refl _)).first ht)
                go_wp2_with fail
                refine wp_region_held_drew (S := (fun W => W.cell? ⟨ab, ao + i2 * 3, none⟩ = some (.slice xa xn xc) ∧ W.cell? ⟨ab, ao + i2 * 3 + 1, none⟩ = some (.int .i64 (XL : Int)) ∧ W.cell? ⟨ab, ao + i2 * 3 + 2, none⟩ = some (.slice ga gn gc))) (by kernel_rfl) (by first | ((first | exact HXE.out _ hbT | exact HXE.out _ hbS | exact HXE.out _ hbR | exact HXE.out _ hbQ | exact HXE.out _ hbP | exact HXE.out _ (Below.refl _ _))) | ((try dsimp only); (first | exact HXE.out _ hbT | exact HXE.out _ hbS | exact HXE.out _ hbR | exact HXE.out _ hbQ | exact HXE.out _ hbP | exact HXE.out _ (Below.refl _ _)))) (fun hHeld => ?_)
                refine wpAnyH_take (i := 1) (v := ?vkf1) rfl (by kernel_rfl) (by kernel_rfl) (by kernel_rfl) (fun _ _ _ h => h) (Or.inl ⟨by rfl, ?hkf1⟩) (by assumption) ?rkf1
                case hkf1 => intro w hSw; (try dsimp only at hSw); go_simp; try with_reducible rfl
                simp only [Act.put, List.getElem_toArray, List.getElem_cons_succ, List.getElem_cons_zero, List.setIfInBounds_toArray, List.set_cons_succ, List.set_cons_zero]
                refine wpAnyH_take (i := 2) (v := ?vkf4) rfl (by kernel_rfl) (by kernel_rfl) (by kernel_rfl) (fun _ _ _ h => h) (Or.inl ⟨by rfl, ?hkf4⟩) (by assumption) ?rkf4
                case hkf4 => intro w hSw; (try dsimp only at hSw); go_simp; try with_reducible rfl
                simp only [Act.put, List.getElem_toArray, List.getElem_cons_succ, List.getElem_cons_zero, List.setIfInBounds_toArray, List.set_cons_succ, List.set_cons_zero]
                refine wpAnyH_take (i := 3) (v := ?vkf7) rfl (by kernel_rfl) (by kernel_rfl) (by kernel_rfl) (fun _ _ _ h => h) (Or.inl ⟨by rfl, ?hkf7⟩) (by assumption) ?rkf7
                case hkf7 => intro w hSw; (try dsimp only at hSw); go_simp; try with_reducible rfl
                simp only [Act.put, List.getElem_toArray, List.getElem_cons_succ, List.getElem_cons_zero, List.setIfInBounds_toArray, List.set_cons_succ, List.set_cons_zero]
                refine wpAnyH_take (i := 5) (v := ?vkf10) rfl (by kernel_rfl) (by kernel_rfl) (by kernel_rfl) (fun _ _ _ h => h) (Or.inl ⟨by rfl, ?hkf10⟩) (by assumption) ?rkf10
                case hkf10 => intro w hSw; (try dsimp only at hSw); go_simp; try with_reducible rfl
                simp only [Act.put, List.getElem_toArray, List.getElem_cons_succ, List.getElem_cons_zero, List.setIfInBounds_toArray, List.set_cons_succ, List.set_cons_zero]
                refine wpAnyH_take (i := 6) (v := ?vkf13) rfl (by kernel_rfl) (by kernel_rfl) (by kernel_rfl) (fun _ _ _ h => h) (Or.inl ⟨by rfl, ?hkf13⟩) (by assumption) ?rkf13
                case hkf13 => intro w hSw; (try dsimp only at hSw); go_simp; try with_reducible rfl
                simp only [Act.put, List.getElem_toArray, List.getElem_cons_succ, List.getElem_cons_zero, List.setIfInBounds_toArray, List.set_cons_succ, List.set_cons_zero]
                refine wpAnyH_take (i := 7) (v := ?vkf16) rfl (by kernel_rfl) (by kernel_rfl) (by kernel_rfl) (fun _ _ _ h => h) (Or.inl ⟨by rfl, ?hkf16⟩) (by assumption) ?rkf16
                case hkf16 => intro w hSw; (try dsimp only at hSw); go_simp; try with_reducible rfl
                simp only [Act.put, List.getElem_toArray, List.getElem_cons_succ, List.getElem_cons_zero, List.setIfInBounds_toArray, List.set_cons_succ, List.set_cons_zero]
                refine wpAnyH_take (i := 8) (v := ?vkf19) rfl (by kernel_rfl) (by kernel_rfl) (by kernel_rfl) (fun _ _ _ h => h) (Or.inl ⟨by rfl, ?hkf19⟩) (by assumption) ?rkf19
                case hkf19 => intro w hSw; (try dsimp only at hSw); go_simp; try with_reducible rfl
                simp only [Act.put, List.getElem_toArray, List.getElem_cons_succ, List.getElem_cons_zero, List.setIfInBounds_toArray, List.set_cons_succ, List.set_cons_zero]
                refine wpAnyH_take (i := 11) (v := ?vkf22) rfl (by kernel_rfl) (by kernel_rfl) (by kernel_rfl) (fun _ _ _ h => h) (Or.inl ⟨by rfl, ?hkf22⟩) (by assumption) ?rkf22
                case hkf22 => intro w hSw; (try dsimp only at hSw); go_simp; try with_reducible rfl
                simp only [Act.put, List.getElem_toArray, List.getElem_cons_succ, List.getElem_cons_zero, List.setIfInBounds_toArray, List.set_cons_succ, List.set_cons_zero]
                refine wpAnyH_ready (rs := [0, 9]) (by kernel_rfl) (by simp) ?_
                refine AllReadyH.cons rfl (fun K hK => ?_) (AllReadyH.cons rfl (fun K hK => ?_) AllReadyH.nil)
                · refine step_build_none (by rfl) (by rfl) ?_
                  intro wP hownP hbP0
                  have hbP : Below wc.drew.heap.size wc.drew wP := (Below.refl wc.drew.heap.size wc.drew).trans (hbP0.mono (Below.refl wc.drew.heap.size wc.drew).size)
                  have hoP := own_mono hownP (show wc.drew.heap.size ≤ _ from (Below.refl wc.drew.heap.size wc.drew).size)
                  refine hK.out _ _ (by (try dsimp only); (first | exact HXE.out _ hbT | exact HXE.out _ hbS | exact HXE.out _ hbR | exact HXE.out _ hbQ | exact HXE.out _ hbP | exact HXE.out _ (Below.refl _ _))) (fun hHeld => ?_)
                  clear hK K
                  try simp only [Act.put, List.getElem_toArray, List.getElem_cons_zero, List.setIfInBounds_toArray, List.set_cons_succ, List.set_cons_zero]
                  refine wpAnyH_ready (rs := [4, 9]) (by kernel_rfl) (by simp) ?_
                  refine AllReadyH.cons rfl (fun K hK => ?_) (AllReadyH.cons rfl (fun K hK => ?_) AllReadyH.nil)
                  · refine step_append_kinds (by rfl) (.tmp 106) (.tmp 109) (by rfl) wc.drew.heap.size _ 0 [] (by rfl) hoP (some ⟨ob, 0, none⟩) t oc (outs.take t) (by rfl) (HOT.out _ hbP) t (by omega) (by omega) hbP.size ?_
                    intro aR cR wR hoR hbR0 hgR hnR
                    have hbR : Below wc.drew.heap.size wc.drew wR := hbP.trans hbR0
                    refine hK.out _ _ (by (try dsimp only); (first | exact HXE.out _ hbT | exact HXE.out _ hbS | exact HXE.out _ hbR | exact HXE.out _ hbQ | exact HXE.out _ hbP | exact HXE.out _ (Below.refl _ _))) (fun hHeld => ?_)
                    clear hK K
                    try simp only [Act.put, List.getElem_toArray, List.getElem_cons_succ, List.getElem_cons_zero, List.setIfInBounds_toArray, List.set_cons_succ, List.set_cons_zero]
                    refine wpAnyH_ready (rs := [9]) (by kernel_rfl) (by simp) ?_
                    refine AllReadyH.cons rfl (fun K hK => ?_) AllReadyH.nil
                    refine step_build_kind_at (by rfl) (.tmp 114) ⟨xa, xn, xc, xes, XL, ⟨ga, gn, gc, gz⟩⟩ (by rfl) (by rfl) ?_
                    intro wQ hgQ0 hgQ1 hgQ2 hbQ0
                    have hbQ : Below wc.drew.heap.size wc.drew wQ := hbR.trans (hbQ0.mono hbR.size)
                    have hqQ := Ks.single (HXD.out.below hbR (Nat.le_refl _)) hgQ0 hgQ1 hgQ2 hbQ0
                    have hoQ := ownsRow_below hoR hbQ0 (Nat.le_refl _)
                    refine hK.out _ _ (by (try dsimp only); (first | exact HXE.out _ hbT | exact HXE.out _ hbS | exact HXE.out _ hbR | exact HXE.out _ hbQ | exact HXE.out _ hbP | exact HXE.out _ (Below.refl _ _))) (fun hHeld => ?_)
                    clear hK K
                    try simp only [Act.put, List.getElem_toArray, List.getElem_cons_succ, List.getElem_cons_zero, List.setIfInBounds_toArray, List.set_cons_succ, List.set_cons_zero]
                    refine wpAnyH_ready (rs := [10]) (by kernel_rfl) (by simp) ?_
                    refine AllReadyH.cons rfl (fun K hK => ?_) AllReadyH.nil
                    refine step_append_kinds (by rfl) (.tmp 110) (.tmp 115) (by rfl) wc.drew.heap.size _ t (outs.take t) (by rfl) hoQ _ 1 1 [⟨xa, xn, xc, xes, XL, ⟨ga, gn, gc, gz⟩⟩] (by rfl) hqQ (t + 1) rfl (by omega) hbQ.size ?_
                    intro aS cS wS hoS hbS0 hgS hnS
                    have hbS : Below wc.drew.heap.size wc.drew wS := hbQ.trans hbS0
                    refine hK.out _ _ (by (try dsimp only); (first | exact HXE.out _ hbT | exact HXE.out _ hbS | exact HXE.out _ hbR | exact HXE.out _ hbQ | exact HXE.out _ hbP | exact HXE.out _ (Below.refl _ _))) (fun hHeld => ?_)
                    clear hK K
                    try simp only [Act.put, List.getElem_toArray, List.getElem_cons_succ, List.getElem_cons_zero, List.setIfInBounds_toArray, List.set_cons_succ, List.set_cons_zero]
                    refine wpAnyH_ready (rs := [12]) (by kernel_rfl) (by simp) ?_
                    refine AllReadyH.cons rfl (fun K hK => ?_) AllReadyH.nil
                    refine step_append_kinds (by rfl) (.tmp 116) (.tmp 117) (by rfl) wc.drew.heap.size _ (t + 1) _ (by rfl) hoS ra (N2 - t) rc (outs.drop t) (by rfl) (HRD.out.below hbS (Nat.le_refl _)) (N2 + 1) (by omega) (by omega) hbS.size ?_
                    intro aT cT wT hoT hbT0 hgT hnT
                    have hbT : Below wc.drew.heap.size wc.drew wT := hbS.trans hbT0
                    refine hK.out _ _ (by (try dsimp only); (first | exact HXE.out _ hbT | exact HXE.out _ hbS | exact HXE.out _ hbR | exact HXE.out _ hbQ | exact HXE.out _ hbP | exact HXE.out _ (Below.refl _ _))) (fun hHeld => ?_)
                    clear hK K
                    try simp only [Act.put, List.getElem_toArray, List.getElem_cons_succ, List.getElem_cons_zero, List.setIfInBounds_toArray, List.set_cons_succ, List.set_cons_zero]
                    refine wpAnyH_take (i := 13) (v := ?vkf68) rfl (by kernel_rfl) (by kernel_rfl) (by kernel_rfl) (fun _ _ _ h => h) (Or.inl ⟨by rfl, ?hkf68⟩) (by assumption) ?rkf68
                    case hkf68 => intro w hSw; (try dsimp only at hSw); go_simp; try with_reducible rfl
                    simp only [Act.put, List.getElem_toArray, List.getElem_cons_succ, List.getElem_cons_zero, List.setIfInBounds_toArray, List.set_cons_succ, List.set_cons_zero]
                    refine wpAnyH_done (by kernel_rfl) ?_ _
                    have HOT2 := Lib.hid hoT
                    have HBT := Lib.hid hbT
                    clear hHeld
                    go_wp2
                    go_roundw
                    case rel => exact ⟨i2 + 1, N2 + 1, aT, cT, _, by omega, by omega, rfl, by go_num, Ks.of_owns HOT2.out (fun y hy => (HEL.out y hy).below HBT.out (Nat.le_refl _)), .inr (own_head HOT2.out (Nat.succ_pos _)), (by show _ = _; rw [HNX.out]; exact HKJ.out), HBD.out.trans (HBT.out.mono HBD.out.size)⟩
                    case measure => simp [intOf]; omega
                  · refine step_build_kind_at (by rfl) (.tmp 114) ⟨xa, xn, xc, xes, XL, ⟨ga, gn, gc, gz⟩⟩ (by rfl) (by rfl) ?_
                    intro wQ hgQ0 hgQ1 hgQ2 hbQ0
                    have hbQ : Below wc.drew.heap.size wc.drew wQ := hbP.trans (hbQ0.mono hbP.size)
                    have hqQ := Ks.single (HXD.out.below hbP (Nat.le_refl _)) hgQ0 hgQ1 hgQ2 hbQ0
                    have hoQ := ownsRow_below hoP hbQ0 (Nat.le_refl _)
                    refine hK.out _ _ (by (try dsimp only); (first | exact HXE.out _ hbT | exact HXE.out _ hbS | exact HXE.out _ hbR | exact HXE.out _ hbQ | exact HXE.out _ hbP | exact HXE.out _ (Below.refl _ _))) (fun hHeld => ?_)
                    clear hK K
                    try simp only [Act.put, List.getElem_toArray, List.getElem_cons_succ, List.getElem_cons_zero, List.setIfInBounds_toArray, List.set_cons_succ, List.set_cons_zero]
                    refine wpAnyH_ready (rs := [4]) (by kernel_rfl) (by simp) ?_
                    refine AllReadyH.cons rfl (fun K hK => ?_) AllReadyH.nil
                    refine step_append_kinds (by rfl) (.tmp 106) (.tmp 109) (by rfl) wc.drew.heap.size _ 0 [] (by rfl) hoQ (some ⟨ob, 0, none⟩) t oc (outs.take t) (by rfl) (HOT.out _ hbQ) t (by omega) (by omega) hbQ.size ?_
                    intro aR cR wR hoR hbR0 hgR hnR
                    have hbR : Below wc.drew.heap.size wc.drew wR := hbQ.trans hbR0
                    have hqR : Ks wR (some ⟨wP.heap.size, 0, none⟩) 1 1 [⟨xa, xn, xc, xes, XL, ⟨ga, gn, gc, gz⟩⟩] := ks_single_kept hqQ (HXD.out.below hbR (Nat.le_refl _)) hgR (by intro e; have e' : wP.heap.size = wc.drew.heap.size := Option.some.inj e; have h1 : wc.drew.heap.size < wP.heap.size := (hownP.lt _ rfl).2; have h2 := cell_lt hgQ0; omega)
                    refine hK.out _ _ (by (try dsimp only); (first | exact HXE.out _ hbT | exact HXE.out _ hbS | exact HXE.out _ hbR | exact HXE.out _ hbQ | exact HXE.out _ hbP | exact HXE.out _ (Below.refl _ _))) (fun hHeld => ?_)
                    clear hK K
                    try simp only [Act.put, List.getElem_toArray, List.getElem_cons_succ, List.getElem_cons_zero, List.setIfInBounds_toArray, List.set_cons_succ, List.set_cons_zero]
                    refine wpAnyH_ready (rs := [10]) (by kernel_rfl) (by simp) ?_
                    refine AllReadyH.cons rfl (fun K hK => ?_) AllReadyH.nil
                    refine step_append_kinds (by rfl) (.tmp 110) (.tmp 115) (by rfl) wc.drew.heap.size _ t (outs.take t) (by rfl) hoR _ 1 1 [⟨xa, xn, xc, xes, XL, ⟨ga, gn, gc, gz⟩⟩] (by rfl) hqR (t + 1) rfl (by omega) hbR.size ?_
                    intro aS cS wS hoS hbS0 hgS hnS
                    have hbS : Below wc.drew.heap.size wc.drew wS := hbR.trans hbS0
                    refine hK.out _ _ (by (try dsimp only); (first | exact HXE.out _ hbT | exact HXE.out _ hbS | exact HXE.out _ hbR | exact HXE.out _ hbQ | exact HXE.out _ hbP | exact HXE.out _ (Below.refl _ _))) (fun hHeld => ?_)
                    clear hK K
                    try simp only [Act.put, List.getElem_toArray, List.getElem_cons_succ, List.getElem_cons_zero, List.setIfInBounds_toArray, List.set_cons_succ, List.set_cons_zero]
                    refine wpAnyH_ready (rs := [12]) (by kernel_rfl) (by simp) ?_
                    refine AllReadyH.cons rfl (fun K hK => ?_) AllReadyH.nil
                    refine step_append_kinds (by rfl) (.tmp 116) (.tmp 117) (by rfl) wc.drew.heap.size _ (t + 1) _ (by rfl) hoS ra (N2 - t) rc (outs.drop t) (by rfl) (HRD.out.below hbS (Nat.le_refl _)) (N2 + 1) (by omega) (by omega) hbS.size ?_
                    intro aT cT wT hoT hbT0 hgT hnT
                    have hbT : Below wc.drew.heap.size wc.drew wT := hbS.trans hbT0
                    refine hK.out _ _ (by (try dsimp only); (first | exact HXE.out _ hbT | exact HXE.out _ hbS | exact HXE.out _ hbR | exact HXE.out _ hbQ | exact HXE.out _ hbP | exact HXE.out _ (Below.refl _ _))) (fun hHeld => ?_)
                    clear hK K
                    try simp only [Act.put, List.getElem_toArray, List.getElem_cons_succ, List.getElem_cons_zero, List.setIfInBounds_toArray, List.set_cons_succ, List.set_cons_zero]
                    refine wpAnyH_take (i := 13) (v := ?vkf112) rfl (by kernel_rfl) (by kernel_rfl) (by kernel_rfl) (fun _ _ _ h => h) (Or.inl ⟨by rfl, ?hkf112⟩) (by assumption) ?rkf112
                    case hkf112 => intro w hSw; (try dsimp only at hSw); go_simp; try with_reducible rfl
                    simp only [Act.put, List.getElem_toArray, List.getElem_cons_succ, List.getElem_cons_zero, List.setIfInBounds_toArray, List.set_cons_succ, List.set_cons_zero]
                    refine wpAnyH_done (by kernel_rfl) ?_ _
                    have HOT2 := Lib.hid hoT
                    have HBT := Lib.hid hbT
                    clear hHeld
                    go_wp2
                    go_roundw
                    case rel => exact ⟨i2 + 1, N2 + 1, aT, cT, _, by omega, by omega, rfl, by go_num, Ks.of_owns HOT2.out (fun y hy => (HEL.out y hy).below HBT.out (Nat.le_refl _)), .inr (own_head HOT2.out (Nat.succ_pos _)), (by show _ = _; rw [HNX.out]; exact HKJ.out), HBD.out.trans (HBT.out.mono HBD.out.size)⟩
                    case measure => simp [intOf]; omega
                · refine step_build_kind_at (by rfl) (.tmp 114) ⟨xa, xn, xc, xes, XL, ⟨ga, gn, gc, gz⟩⟩ (by rfl) (by rfl) ?_
                  intro wQ hgQ0 hgQ1 hgQ2 hbQ0
                  have hbQ : Below wc.drew.heap.size wc.drew wQ := (Below.refl wc.drew.heap.size wc.drew).trans (hbQ0.mono (Below.refl wc.drew.heap.size wc.drew).size)
                  have hqQ := Ks.single (HXD.out.below (Below.refl wc.drew.heap.size wc.drew) (Nat.le_refl _)) hgQ0 hgQ1 hgQ2 hbQ0
                  refine hK.out _ _ (by (try dsimp only); (first | exact HXE.out _ hbT | exact HXE.out _ hbS | exact HXE.out _ hbR | exact HXE.out _ hbQ | exact HXE.out _ hbP | exact HXE.out _ (Below.refl _ _))) (fun hHeld => ?_)
                  clear hK K
                  try simp only [Act.put, List.getElem_toArray, List.getElem_cons_succ, List.getElem_cons_zero, List.setIfInBounds_toArray, List.set_cons_succ, List.set_cons_zero]
                  refine wpAnyH_ready (rs := [0]) (by kernel_rfl) (by simp) ?_
                  refine AllReadyH.cons rfl (fun K hK => ?_) AllReadyH.nil
                  refine step_build_none (by rfl) (by rfl) ?_
                  intro wP hownP hbP0
                  have hbP : Below wc.drew.heap.size wc.drew wP := hbQ.trans (hbP0.mono hbQ.size)
                  have hoP := own_mono hownP (show wc.drew.heap.size ≤ _ from hbQ.size)
                  have hqP : Ks wP (some ⟨wc.drew.heap.size, 0, none⟩) 1 1 [⟨xa, xn, xc, xes, XL, ⟨ga, gn, gc, gz⟩⟩] := hqQ.below hbP0 (Nat.le_refl _)
                  refine hK.out _ _ (by (try dsimp only); (first | exact HXE.out _ hbT | exact HXE.out _ hbS | exact HXE.out _ hbR | exact HXE.out _ hbQ | exact HXE.out _ hbP | exact HXE.out _ (Below.refl _ _))) (fun hHeld => ?_)
                  clear hK K
                  try simp only [Act.put, List.getElem_toArray, List.getElem_cons_zero, List.setIfInBounds_toArray, List.set_cons_succ, List.set_cons_zero]
                  refine wpAnyH_ready (rs := [4]) (by kernel_rfl) (by simp) ?_
                  refine AllReadyH.cons rfl (fun K hK => ?_) AllReadyH.nil
                  refine step_append_kinds (by rfl) (.tmp 106) (.tmp 109) (by rfl) wc.drew.heap.size _ 0 [] (by rfl) hoP (some ⟨ob, 0, none⟩) t oc (outs.take t) (by rfl) (HOT.out _ hbP) t (by omega) (by omega) hbP.size ?_
                  intro aR cR wR hoR hbR0 hgR hnR
                  have hbR : Below wc.drew.heap.size wc.drew wR := hbP.trans hbR0
                  have hqR : Ks wR (some ⟨wc.drew.heap.size, 0, none⟩) 1 1 [⟨xa, xn, xc, xes, XL, ⟨ga, gn, gc, gz⟩⟩] := ks_single_kept hqP (HXD.out.below hbR (Nat.le_refl _)) hgR (by intro e; have e' : wc.drew.heap.size = wQ.heap.size := Option.some.inj e; have h1 : wQ.heap.size < wP.heap.size := (hownP.lt _ rfl).2; have h2 := cell_lt hgQ0; omega)
                  refine hK.out _ _ (by (try dsimp only); (first | exact HXE.out _ hbT | exact HXE.out _ hbS | exact HXE.out _ hbR | exact HXE.out _ hbQ | exact HXE.out _ hbP | exact HXE.out _ (Below.refl _ _))) (fun hHeld => ?_)
                  clear hK K
                  try simp only [Act.put, List.getElem_toArray, List.getElem_cons_succ, List.getElem_cons_zero, List.setIfInBounds_toArray, List.set_cons_succ, List.set_cons_zero]
                  refine wpAnyH_ready (rs := [10]) (by kernel_rfl) (by simp) ?_
                  refine AllReadyH.cons rfl (fun K hK => ?_) AllReadyH.nil
                  refine step_append_kinds (by rfl) (.tmp 110) (.tmp 115) (by rfl) wc.drew.heap.size _ t (outs.take t) (by rfl) hoR _ 1 1 [⟨xa, xn, xc, xes, XL, ⟨ga, gn, gc, gz⟩⟩] (by rfl) hqR (t + 1) rfl (by omega) hbR.size ?_
                  intro aS cS wS hoS hbS0 hgS hnS
                  have hbS : Below wc.drew.heap.size wc.drew wS := hbR.trans hbS0
                  refine hK.out _ _ (by (try dsimp only); (first | exact HXE.out _ hbT | exact HXE.out _ hbS | exact HXE.out _ hbR | exact HXE.out _ hbQ | exact HXE.out _ hbP | exact HXE.out _ (Below.refl _ _))) (fun hHeld => ?_)
                  clear hK K
                  try simp only [Act.put, List.getElem_toArray, List.getElem_cons_succ, List.getElem_cons_zero, List.setIfInBounds_toArray, List.set_cons_succ, List.set_cons_zero]
                  refine wpAnyH_ready (rs := [12]) (by kernel_rfl) (by simp) ?_
                  refine AllReadyH.cons rfl (fun K hK => ?_) AllReadyH.nil
                  refine step_append_kinds (by rfl) (.tmp 116) (.tmp 117) (by rfl) wc.drew.heap.size _ (t + 1) _ (by rfl) hoS ra (N2 - t) rc (outs.drop t) (by rfl) (HRD.out.below hbS (Nat.le_refl _)) (N2 + 1) (by omega) (by omega) hbS.size ?_
                  intro aT cT wT hoT hbT0 hgT hnT
                  have hbT : Below wc.drew.heap.size wc.drew wT := hbS.trans hbT0
                  refine hK.out _ _ (by (try dsimp only); (first | exact HXE.out _ hbT | exact HXE.out _ hbS | exact HXE.out _ hbR | exact HXE.out _ hbQ | exact HXE.out _ hbP | exact HXE.out _ (Below.refl _ _))) (fun hHeld => ?_)
                  clear hK K
                  try simp only [Act.put, List.getElem_toArray, List.getElem_cons_succ, List.getElem_cons_zero, List.setIfInBounds_toArray, List.set_cons_succ, List.set_cons_zero]
                  refine wpAnyH_take (i := 13) (v := ?vkf165) rfl (by kernel_rfl) (by kernel_rfl) (by kernel_rfl) (fun _ _ _ h => h) (Or.inl ⟨by rfl, ?hkf165⟩) (by assumption) ?rkf165
                  case hkf165 => intro w hSw; (try dsimp only at hSw); go_simp; try with_reducible rfl
                  simp only [Act.put, List.getElem_toArray, List.getElem_cons_succ, List.getElem_cons_zero, List.setIfInBounds_toArray, List.set_cons_succ, List.set_cons_zero]
                  refine wpAnyH_done (by kernel_rfl) ?_ _
                  have HOT2 := Lib.hid hoT
                  have HBT := Lib.hid hbT
                  clear hHeld
                  go_wp2
                  go_roundw
                  case rel => exact ⟨i2 + 1, N2 + 1, aT, cT, _, by omega, by omega, rfl, by go_num, Ks.of_owns HOT2.out (fun y hy => (HEL.out y hy).below HBT.out (Nat.le_refl _)), .inr (own_head HOT2.out (Nat.succ_pos _)), (by show _ = _; rw [HNX.out]; exact HKJ.out), HBD.out.trans (HBT.out.mono HBD.out.size)⟩
                  case measure => simp [intOf]; omega
        · obtain rfl : N = i2 := by omega
          go_wp2
          go_ret
          refine ⟨oa, N2, oc, outs, rfl, HOU.out, ?_, ?_, HBA.out.trans (HBO.out.mono HBA.out.size)⟩
          · rw [HOD.out, List.take_of_length_le (by rw [kds_length, HXL.out]; exact Nat.le_refl _), HKA.out]; rfl
          · intro e
            rcases HOF.out with ⟨_, h, _⟩ | ⟨ob, h⟩
            · exact h
            · rw [h] at e; cases e

end Go.Proofs.Ytgbiobhladeooaa
