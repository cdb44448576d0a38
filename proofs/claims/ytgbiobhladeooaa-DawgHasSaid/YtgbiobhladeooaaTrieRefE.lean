/- The document's Make of layer 10. -/
import Derived.Test.YtgbiobhladeooaaTrieRefD
import Derived.Test.YtgbiobhladeooaaPackZ
import Derived.Test.YtgbiobhladeooaaPackL
import Derived.Deep.RegionHeld3
namespace Go.Proofs.Ytgbiobhladeooaa
open Go.RowKit Tri

/-- what Make answers -/
def MadeIs (w w' : World) (e : Ending) (p : List St × Int) : Prop :=
  ∃ a n c ys, e = .returned (.tuple #[.slice a n c, .int .i64 p.2]) ∧ Ss w' a n c ys ∧ sts ys = p.1 ∧ (a = none → c = 0) ∧ Below w.heap.size w w'
noncomputable def made (ws : List (List Int)) : List St × Int := if (Wl.write ws).2 = 0 then (make ws, 0) else ([], (Wl.write ws).2)
set_option maxRecDepth 100000 in
theorem info_st : (Try.prog.info? 39).map (·.size) = some 2 := by kernel_rfl
set_option maxRecDepth 100000 in
theorem Ars.far {w w' : World} {a : Option Addr} {n cap : Nat} {l : List (Int × Int)} {k : Option Nat} (h : Ars w a n cap l) (hg : w.grownBy w' k) (hne : ∀ b off, a = some ⟨b, off, none⟩ → k ≠ some b) : Ars w' a n cap l := by
  obtain ⟨h1, h2, h3, h4, h5⟩ := h
  refine ⟨h1, h2, h3, h4, ?_⟩
  rcases h5 with h5 | ⟨b, off, ha, hc⟩
  · exact .inl h5
  · exact .inr ⟨b, off, ha, fun i hi => ⟨hg.cell (hc i hi).1 (fun e => hne b off ha e.symm), hg.cell (hc i hi).2 (fun e => hne b off ha e.symm)⟩⟩
set_option maxRecDepth 100000 in
theorem owns_at {w : World} {B : Nat} {T : TypeId} {s : Nat} {a : Option Addr} {c n : Nat} {l : List Value} (h : w.ownsRow B T s (.slice a n c) n l) : n = 0 ∨ ∃ b, a = some ⟨b, 0, none⟩ ∧ B ≤ b ∧ b < w.heap.size := by
  rcases h.2 with ⟨_, h0⟩ | ⟨g, c', cur, hv, hb, _⟩
  · exact .inl h0
  · simp only [Value.slice.injEq] at hv
    obtain ⟨rfl, _, _⟩ := hv
    exact .inr ⟨g, rfl, (h.lt g rfl).1, (h.lt g rfl).2⟩
set_option maxRecDepth 100000 in
theorem begs_short {ws : List (List Int)} (hs : Tri.Short ws) {p : List Int} (hp : p ∈ begs ws) : p.length ≤ 20 := by
  rcases (mem_begs hs).1 hp with rfl | ⟨w, hw, h⟩
  · simp
  · exact Nat.le_trans h.length_le (hs w hw)
set_option maxRecDepth 100000 in
theorem make_take {ws : List (List Int)} {i : Nat} {p : List Int} {f : Bool} (hi : i < (begs ws).length) (hp : (begs ws).getD i [] = p) (hf : decide (p ∈ ws) = f) : (make ws).take (i + 1) = (make ws).take i ++ [⟨f, arcsOf (begs ws) p⟩] := by
  have hl := make_length ws
  have hi' : i < (make ws).length := by omega
  rw [List.take_succ_eq_append_getElem hi', make_at hi']
  have e : (begs ws)[i] = p := by rw [← hp]; simp [hi]
  simp only [e, hf]

set_option maxHeartbeats 12800000 in
set_option maxRecDepth 100000 in
theorem rmake10_is (a : Option Addr) (n cap : Nat) (xs : List Wd) (g : List St × Int) (w : World) (hs : Ws w a n cap xs) (hnil : a = none → cap = 0) (hg : made (nums xs) = g) :
    Calls Try.prog 25 #[.slice a n cap] w fun e w' => MadeIs w w' e g := by
  have hnc := hs.2.1
  have hcm := hs.2.2.1
  unfold maxLen at hcm
  have HS := Lib.hid hs
  have HNIL := Lib.hid hnil
  have HG := Lib.hid hg
  have HLX : Hid ((nums xs).length = n) := by show _ = _; rw [nums_length, hs.1]
  obtain ⟨⟨bs, er⟩, hp⟩ : ∃ p, Wl.write (nums xs) = p := ⟨_, rfl⟩
  have HP := Lib.hid hp
  have hmx : Try.prog.follows .mixedOrders = true := by kernel_rfl
  have HMX := Lib.hid hmx
  clear hs hnil hg hp hmx
  go_enter Try.func25, Try.ntmps25
  go_wp2_with fail
  refine (rwwrite_is a n cap xs _ w HS.out HP.out).mono ?_
  rintro e v1 ⟨pa0, pc0, rfl, -, -, hb1⟩
  have HB1 : Hid (Below w.heap.size w v1) := hb1
  obtain ⟨bl, hbl⟩ : ∃ m, bs.length = m := ⟨_, rfl⟩
  simp only [hbl]
  clear hb1 hbl
  by_cases her : er = 0
  · subst her
    have hwe := Wl.write_err (nums xs)
    rw [HP.out] at hwe
    have hw3 : (nums xs).length ≤ 300 ∧ (∀ z ∈ nums xs, Wl.fit z = true) ∧ Rise (nums xs) := by
      rcases hwe with ⟨_, h1, h2, h3, _⟩ | ⟨h, _⟩
      · exact ⟨h1, h2, h3⟩
      · simp at h
    have HRISE := Lib.hid hw3.2.2
    have hn300 : n ≤ 300 := by rw [← HLX.out]; exact hw3.1
    have HGM : Hid ((make (nums xs), (0 : Int)) = g) := by
      show _ = _
      rw [← HG.out]; unfold made; rw [HP.out]; simp
    have HSHORT : Hid (Tri.Short (nums xs)) := fun z hz => (Wl.fit_parts (hw3.2.1 z hz)).2.1
    clear hwe hw3
    go_wp2_with fail
    refine (rbegs_is a n cap xs v1 (HS.out.below HB1.out (Nat.le_refl _)) HNIL.out (by omega) HRISE.out).mono ?_
    rintro e v2 ⟨ba, N, bc, ys, rfl, hys, hyn, -, hb2⟩
    have HY := Lib.hid hys
    have HB2 : Hid (Below w.heap.size w v2) := HB1.out.trans (hb2.mono HB1.out.size)
    have HYN := Lib.hid hyn
    have HLB : Hid ((begs (nums xs)).length = N) := by show _ = _; rw [← hyn, nums_length, hys.1]
    have hN : N ≤ 6001 := by have h := begs_le (nums xs); rw [HLB.out, HLX.out] at h; omega
    have hNc := hys.2.1
    have hNcm := hys.2.2.1
    unfold maxLen at hNcm
    clear hys hyn hb2
    go_wp2
    go_loopw [7, 8] (fun ov ix wr => ∃ (i : Nat) (a1 : Option Addr) (c1 : Nat) (outs : List Sw), i ≤ N ∧ ov = .slice a1 i c1 ∧ ix = .int .i64 (i : Int) ∧ Hid (a1 = none → c1 = 0) ∧ Hid (wr.ownsRow v2.heap.size 39 2 (.slice a1 i c1) i (scells outs)) ∧ Hid (∀ x ∈ outs, x.Good wr) ∧ Hid (∀ x ∈ outs, x.Front) ∧ Hid (sts outs = (make (nums xs)).take i) ∧ Hid (Below v2.heap.size v2 wr)) (fun _ ix _ => N - (intOf ix).toNat)
    case atStart => exact ⟨0, none, 0, [], Nat.zero_le _, rfl, rfl, (fun _ => rfl), ⟨rfl, .inl ⟨rfl, rfl⟩⟩, (by show ∀ x ∈ ([] : List Sw), x.Good v2; simp), (by show ∀ x ∈ ([] : List Sw), x.Front; simp), rfl, Below.refl _ _⟩
    case round =>
      obtain ⟨i, a1, c1, outs, hi, rfl, rfl, HN1, HOW, HGD, HFR, HST, HBW⟩ := hrel
      by_cases hlt : i < N
      · obtain ⟨b1, o1, pa, pn, pc, pz, rfl, hb1, hgd, hcl, hsl, hz⟩ := HY.out.one i hlt
        have hcl' : wr.cell? ⟨b1, o1 + i, none⟩ = some (.slice pa pn pc) := by rw [HBW.out.cell (p := ⟨b1, o1 + i, none⟩) hb1]; exact hcl
        have HPS : Hid (Sl .i64 wr pa pn pc pz) := hsl.below HBW.out (Nat.le_refl _)
        have HPL := Lib.hid hsl.1
        have HCL : Hid (∀ W, Below v2.heap.size v2 W → W.cell? ⟨b1, o1 + i, none⟩ = some (.slice pa pn pc)) := fun W hW => by rw [hW.cell (p := ⟨b1, o1 + i, none⟩) hb1]; exact hcl
        have hpcm := hsl.2.2.1
        have hpnc := hsl.2.1
        unfold maxLen at hpcm
        have HPZ : Hid ((begs (nums xs)).getD i [] = pz) := by show _ = _; rw [← HYN.out]; exact hz
        have hp20 : pn ≤ 20 := by rw [← HPL.out]; exact begs_short HSHORT.out (by rw [← HPZ.out, List.getD_eq_getElem?_getD, List.getElem?_eq_getElem (by rw [HLB.out]; exact hlt), Option.getD_some]; exact List.getElem_mem _)
        obtain ⟨fin, hfin⟩ : ∃ f, decide (pz ∈ nums xs) = f := ⟨_, rfl⟩
        have HFIN := Lib.hid hfin
        have hlti : (i : Int) < (N : Int) := by omega
        have HBX : Hid (Below w.heap.size w wr) := HB2.out.trans (HBW.out.mono HB2.out.size)
        clear hgd hcl hsl hz hfin
        go_wp2_with fail
        refine (ris_is a pa n pn cap pc xs pz fin wr (HS.out.below HBX.out (Nat.le_refl _)) HPS.out HFIN.out).mono ?_
        rintro e w3 ⟨rfl, hq3⟩
        have HOW3 : Hid (w3.ownsRow v2.heap.size 39 2 (.slice a1 i c1) i (scells outs)) := by obtain ⟨q, rfl⟩ := hq3; exact HOW.out
        have HGD3 : Hid (∀ x ∈ outs, x.Good w3) := by obtain ⟨q, rfl⟩ := hq3; exact HGD.out
        have HPS3 : Hid (Sl .i64 w3 pa pn pc pz) := HPS.out.drawn hq3
        have HBW3 : Hid (Below v2.heap.size v2 w3) := below_drawn HBW.out hq3
        have HNEW : Hid (∀ o, (w3.alloc o).heap[w3.heap.size]? = some o ∧ Below w3.heap.size w3 (w3.alloc o) ∧ w3.heap.size + 1 ≤ (w3.alloc o).heap.size) := fun o => ⟨heap_alloc_new w3 o, (Below.refl _ w3).alloc (Nat.le_refl _) o, by rw [World.size_alloc]; exact Nat.le_refl _⟩
        clear hq3 hcl' hb1 HOW HGD HPS HBX HBW
        go_wp2
        generalize wr = wo at *
        go_loopw [10] (fun ix wr => ∃ (k m : Nat) (aa : Option Addr) (cc : Nat), k ≤ N ∧ ix = .int .i64 (k : Int) ∧ m ≤ k ∧ Hid (aa = none → cc = 0) ∧ Hid (wr.heap[w3.heap.size]? = some (.cells #[.bool fin, .slice aa m cc] 39 (0, 0))) ∧ Hid (wr.ownsRow (w3.heap.size + 1) 43 2 (.slice aa m cc) m (acells (arcsUp (begs (nums xs)) pz k))) ∧ Hid (Below w3.heap.size w3 wr) ∧ Hid (w3.heap.size + 1 ≤ wr.heap.size)) (fun ix _ => N - (intOf ix).toNat)
        case atStart => exact ⟨0, 0, none, 0, Nat.zero_le _, rfl, Nat.le_refl _, (fun _ => rfl), (HNEW.out _).1, ⟨rfl, .inl ⟨rfl, rfl⟩⟩, (HNEW.out _).2.1, (HNEW.out _).2.2⟩
        case round =>
          obtain ⟨k, m, aa, cc, hk, rfl, hmk, HNA, HBOX, HOA, HBV, HSZ⟩ := hrel
          by_cases hlk : k < N
          · obtain ⟨b2, o2, qa, qn, qc, qz, hb2, hbl, _, hclv, hslv, hz2⟩ := HY.out.one k hlk
            simp only [Option.some.injEq, Addr.mk.injEq, and_true] at hb2
            obtain ⟨rfl, rfl⟩ := hb2
            have HV2 : Hid (∀ W, Below w3.heap.size w3 W → Below v2.heap.size v2 W) := fun W hW => HBW3.out.trans (hW.mono HBW3.out.size)
            have HCK : Hid (∀ W, Below w3.heap.size w3 W → W.cell? ⟨b1, o1 + k, none⟩ = some (.slice qa qn qc)) := fun W hW => by rw [(HV2.out W hW).cell (p := ⟨b1, o1 + k, none⟩) hbl]; exact hclv
            have hcl2 : wr.cell? ⟨b1, o1 + k, none⟩ = some (.slice qa qn qc) := HCK.out wr HBV.out
            have hsl2 : Sl .i64 wr qa qn qc qz := hslv.below (HV2.out wr HBV.out) (Nat.le_refl _)
            have HQV := Lib.hid hslv
            have hcl3 : wr.cell? ⟨b1, o1 + i, none⟩ = some (.slice pa pn pc) := HCL.out wr (HBW3.out.trans (HBV.out.mono HBW3.out.size))
            have HPW : Hid (Sl .i64 wr pa pn pc pz) := HPS3.out.below HBV.out (Nat.le_refl _)
            have HQS := Lib.hid hsl2
            have HQL := Lib.hid hsl2.1
            have HQZ : Hid ((begs (nums xs)).getD k [] = qz) := by show _ = _; rw [← HYN.out]; exact hz2
            have HUP0 := Lib.hid (arcsUp_next (p := pz) (by rw [HLB.out]; exact hlk) HQZ.out)
            have hqcm := hsl2.2.2.1
            have hqnc := hsl2.2.1
            unfold maxLen at hqcm
            have hlki : (k : Int) < (N : Int) := by omega
            have hbx1 : wr.cell? ⟨w3.heap.size, 1, none⟩ = some (.slice aa m cc) := by simp only [World.cell?]; rw [HBOX.out]; rfl
            have hpw1 : IntKind.i64.wrap ((pn : Int) + 1) = (pn : Int) + 1 := by rw [IntKind.wrap_i64]; omega
            clear hsl2 hz2 hclv hslv hbl
            by_cases c1 : qn = pn + 1
            · subst c1
              have d1 : (((pn + 1 : Nat) : Int) == (pn : Int) + 1) = true := by simp
              have hpw : IntKind.i64.wrap (((pn + 1 : Nat) : Int) - 1) = (pn : Int) := by rw [IntKind.wrap_i64]; omega
              have hpw' : IntKind.i64.wrap ((pn : Int) + 1 - 1) = (pn : Int) := by rw [IntKind.wrap_i64]; omega
              have hpw0 : IntKind.i64.wrap (pn : Int) = (pn : Int) := by rw [IntKind.wrap_i64]; omega
              have hp0 : (0 : Int) ≤ (pn : Int) := by omega
              have hpc : (pn : Int) ≤ (qc : Int) := by omega
              have hpl : (pn : Int) < ((pn + 1 : Nat) : Int) := by omega
              have hpl' : (pn : Int) < (pn : Int) + 1 := by omega
              obtain ⟨qb, qo, rfl, hqbl, hqcv⟩ := HQV.out.at (by omega)
              have HQK : Hid (∀ W, Below w3.heap.size w3 W → W.cell? ⟨qb, qo + pn, none⟩ = some (.int .i64 (qz.getD pn 0))) := fun W hW => by rw [(HV2.out W hW).cell (p := ⟨qb, qo + pn, none⟩) hqbl]; exact hqcv pn (by omega)
              clear hqcv hqbl
              obtain ⟨sg, hsg⟩ : ∃ z, qz.getD pn 0 = z := ⟨_, rfl⟩
              rw [hsg] at HQK
              have HSG := Lib.hid hsg
              have HQF : Hid (Sl .i64 wr (some ⟨qb, qo, none⟩) pn qc (qz.take pn)) := HQS.out.first pn (by omega)
              obtain ⟨sm, hsm⟩ : ∃ q, decide (qz.take pn = pz) = q := ⟨_, rfl⟩
              have HSM := Lib.hid hsm
              clear hsg hsm
              cases sm
              · have HUP : Hid (arcsUp (begs (nums xs)) pz (k + 1) = arcsUp (begs (nums xs)) pz k) := by
                  show _ = _
                  rw [HUP0.out, if_neg (fun h => of_decide_eq_false HSM.out (by have := h.2; rw [HPL.out] at this; exact this)), List.append_nil]
                go_wp2
                go_quiet ((go_at_call 30; exact Calls.quiet_of (same_is (some ⟨qb, qo, none⟩) pa pn pn qc pc (qz.take pn) pz false _ (Sl.drewN HQF.out _) (Sl.drewN HPW.out _) HSM.out)))
                go_wp2
                go_roundw
                case rel => exact ⟨k + 1, m, aa, cc, by omega, by go_num, by omega, HNA.out, HBOX.out, (by show World.ownsRow _ _ _ _ _ _ _; rw [HUP.out]; exact HOA.out), below_drewN HBV.out _, HSZ.out⟩
                case measure => simp [intOf]; omega
              · have HUP : Hid (arcsUp (begs (nums xs)) pz (k + 1) = arcsUp (begs (nums xs)) pz k ++ [(sg, (k : Int))]) := by
                  show _ = _
                  rw [HUP0.out, if_pos ⟨by rw [HQL.out, HPL.out], by rw [HPL.out]; exact of_decide_eq_true HSM.out⟩, HPL.out, HSG.out]
                have hkwf : (Lit.int .i64 (k : Int)).wf = true := by apply WalkArith.wf_i64; omega
                go_wp2
                go_quiet ((go_at_call 30; exact Calls.quiet_of (same_is (some ⟨qb, qo, none⟩) pa pn pn qc pc (qz.take pn) pz true _ (Sl.drewN HQF.out _) (Sl.drewN HPW.out _) HSM.out)))
                go_wp2_with fail
                generalize hW5 : World.drewN wr _ = w5
                have hbx5 : w5.cell? ⟨w3.heap.size, 1, none⟩ = some (.slice aa m cc) := by rw [← hW5]; exact hbx1
                have HOA5 : Hid (w5.drew.ownsRow (w3.heap.size + 1) 43 2 (.slice aa m cc) m (acells (arcsUp (begs (nums xs)) pz k))) := by rw [← hW5]; exact HOA.out
                have HBOX5 : Hid (w5.drew.heap[w3.heap.size]? = some (.cells #[.bool fin, .slice aa m cc] 39 (0, 0))) := by rw [← hW5]; exact HBOX.out
                have hbv5 : Below w3.heap.size w3 w5.drew := by rw [← hW5]; exact below_drawn (below_drewN HBV.out _) ⟨1, rfl⟩
                have HSZ5 : Hid (w3.heap.size + 1 ≤ w5.drew.heap.size) := by rw [← hW5]; exact HSZ.out
                have hmx := HMX.out
                clear hW5 hbx1 hcl2 hcl3
                refine wp_region_held_drew (S := (fun W => W.cell? ⟨b1, o1 + k, none⟩ = some (.slice (some ⟨qb, qo, none⟩) (pn + 1) qc) ∧ W.cell? ⟨qb, qo + pn, none⟩ = some (.int .i64 sg))) (by kernel_rfl) (by first | ((first | exact ⟨HCK.out _ hbs7, HQK.out _ hbs7⟩ | exact ⟨HCK.out _ hbv7, HQK.out _ hbv7⟩ | exact ⟨HCK.out _ hbvB, HQK.out _ hbvB⟩ | exact ⟨HCK.out _ hbv5, HQK.out _ hbv5⟩ | exact ⟨HCK.out _ (Below.setCell (p := ⟨w3.heap.size, 1, none⟩) hbv7 (Nat.le_refl _) _), HQK.out _ (Below.setCell (p := ⟨w3.heap.size, 1, none⟩) hbv7 (Nat.le_refl _) _)⟩)) | ((try dsimp only); (first | exact ⟨HCK.out _ hbs7, HQK.out _ hbs7⟩ | exact ⟨HCK.out _ hbv7, HQK.out _ hbv7⟩ | exact ⟨HCK.out _ hbvB, HQK.out _ hbvB⟩ | exact ⟨HCK.out _ hbv5, HQK.out _ hbv5⟩ | exact ⟨HCK.out _ (Below.setCell (p := ⟨w3.heap.size, 1, none⟩) hbv7 (Nat.le_refl _) _), HQK.out _ (Below.setCell (p := ⟨w3.heap.size, 1, none⟩) hbv7 (Nat.le_refl _) _)⟩))) (fun hHeld => ?_)
                refine wpAnyH_take (i := 0) (v := ?vrb1) rfl (by kernel_rfl) (by kernel_rfl) (by kernel_rfl) (fun _ _ _ h => h) (Or.inl ⟨by rfl, ?hrb1⟩) (by assumption) ?rrb1
                case hrb1 => intro w hSw; (try dsimp only at hSw); go_simp; try with_reducible rfl
                simp only [Act.put, List.getElem_toArray, List.getElem_cons_zero, List.setIfInBounds_toArray, List.set_cons_succ, List.set_cons_zero]
                refine wpAnyH_take (i := 2) (v := ?vrb4) rfl (by kernel_rfl) (by kernel_rfl) (by kernel_rfl) (fun _ _ _ h => h) (Or.inl ⟨by rfl, ?hrb4⟩) (by assumption) ?rrb4
                case hrb4 => intro w hSw; (try dsimp only at hSw); go_simp; try with_reducible rfl
                simp only [Act.put, List.getElem_toArray, List.getElem_cons_succ, List.getElem_cons_zero, List.setIfInBounds_toArray, List.set_cons_succ, List.set_cons_zero]
                refine wpAnyH_take (i := 3) (v := ?vrb7) rfl (by kernel_rfl) (by kernel_rfl) (by kernel_rfl) (fun _ _ _ h => h) (Or.inl ⟨by rfl, ?hrb7⟩) (by assumption) ?rrb7
                case hrb7 => intro w hSw; (try dsimp only at hSw); go_simp; try with_reducible rfl
                simp only [Act.put, List.getElem_toArray, List.getElem_cons_succ, List.getElem_cons_zero, List.setIfInBounds_toArray, List.set_cons_succ, List.set_cons_zero]
                refine wpAnyH_take (i := 4) (v := ?vrb10) rfl (by kernel_rfl) (by kernel_rfl) (by kernel_rfl) (fun _ _ _ h => h) (Or.inl ⟨by rfl, ?hrb10⟩) (by assumption) ?rrb10
                case hrb10 => intro w hSw; (try dsimp only at hSw); go_simp; try with_reducible rfl
                simp only [Act.put, List.getElem_toArray, List.getElem_cons_succ, List.getElem_cons_zero, List.setIfInBounds_toArray, List.set_cons_succ, List.set_cons_zero]
                refine wpAnyH_take (i := 5) (v := ?vrb13) rfl (by kernel_rfl) (by kernel_rfl) (by kernel_rfl) (fun _ _ _ h => h) (Or.inl ⟨by rfl, ?hrb13⟩) (by assumption) ?rrb13
                case hrb13 => intro w hSw; (try dsimp only at hSw); go_simp; try with_reducible rfl
                simp only [Act.put, List.getElem_toArray, List.getElem_cons_succ, List.getElem_cons_zero, List.setIfInBounds_toArray, List.set_cons_succ, List.set_cons_zero]
                refine wpAnyH_take (i := 6) (v := ?vrb16) rfl (by kernel_rfl) (by kernel_rfl) (by kernel_rfl) (fun _ _ _ h => h) (Or.inl ⟨by rfl, ?hrb16⟩) (by assumption) ?rrb16
                case hrb16 => intro w hSw; (try dsimp only at hSw); go_simp; try with_reducible rfl
                simp only [Act.put, List.getElem_toArray, List.getElem_cons_succ, List.getElem_cons_zero, List.setIfInBounds_toArray, List.set_cons_succ, List.set_cons_zero]
                refine wpAnyH_take (i := 7) (v := ?vrb19) rfl (by kernel_rfl) (by kernel_rfl) (by kernel_rfl) (fun _ _ _ h => h) (Or.inl ⟨by rfl, ?hrb19⟩) (by assumption) ?rrb19
                case hrb19 => intro w hSw; (try dsimp only at hSw); go_simp; try with_reducible rfl
                simp only [Act.put, List.getElem_toArray, List.getElem_cons_succ, List.getElem_cons_zero, List.setIfInBounds_toArray, List.set_cons_succ, List.set_cons_zero]
                refine wpAnyH_take (i := 8) (v := ?vrb22) rfl (by kernel_rfl) (by kernel_rfl) (by kernel_rfl) (fun _ _ _ h => h) (Or.inl ⟨by rfl, ?hrb22⟩) (by assumption) ?rrb22
                case hrb22 => intro w hSw; (try dsimp only at hSw); go_simp; try with_reducible rfl
                simp only [Act.put, List.getElem_toArray, List.getElem_cons_succ, List.getElem_cons_zero, List.setIfInBounds_toArray, List.set_cons_succ, List.set_cons_zero]
                refine wpAnyH_take (i := 9) (v := ?vrb25) rfl (by kernel_rfl) (by kernel_rfl) (by kernel_rfl) (fun _ _ _ h => h) (Or.inl ⟨by rfl, ?hrb25⟩) (by assumption) ?rrb25
                case hrb25 => intro w hSw; (try dsimp only at hSw); go_simp; try with_reducible rfl
                simp only [Act.put, List.getElem_toArray, List.getElem_cons_succ, List.getElem_cons_zero, List.setIfInBounds_toArray, List.set_cons_succ, List.set_cons_zero]
                refine wpAnyH_take (i := 10) (v := ?vrb28) rfl (by kernel_rfl) (by kernel_rfl) (by kernel_rfl) (fun _ _ _ h => h) (Or.inl ⟨by rfl, ?hrb28⟩) (by assumption) ?rrb28
                case hrb28 => intro w hSw; (try dsimp only at hSw); go_simp; try with_reducible rfl
                simp only [Act.put, List.getElem_toArray, List.getElem_cons_succ, List.getElem_cons_zero, List.setIfInBounds_toArray, List.set_cons_succ, List.set_cons_zero]
                refine wpAnyH_take (i := 11) (v := ?vrb31) rfl (by kernel_rfl) (by kernel_rfl) (by kernel_rfl) (fun _ _ _ h => h) (Or.inl ⟨by rfl, ?hrb31⟩) (by assumption) ?rrb31
                case hrb31 => intro w hSw; (try dsimp only at hSw); go_simp; try with_reducible rfl
                simp only [Act.put, List.getElem_toArray, List.getElem_cons_succ, List.getElem_cons_zero, List.setIfInBounds_toArray, List.set_cons_succ, List.set_cons_zero]
                refine wpAnyH_ready (rs := [1, 12]) (by kernel_rfl) (by simp) ?_
                refine AllReadyH.cons rfl (fun K hK => ?_) (AllReadyH.cons rfl (fun K hK => ?_) AllReadyH.nil)
                · go_simp
                  refine hK.out _ _ (by (try dsimp only); (first | exact ⟨HCK.out _ hbs7, HQK.out _ hbs7⟩ | exact ⟨HCK.out _ hbv7, HQK.out _ hbv7⟩ | exact ⟨HCK.out _ hbvB, HQK.out _ hbvB⟩ | exact ⟨HCK.out _ hbv5, HQK.out _ hbv5⟩ | exact ⟨HCK.out _ (Below.setCell (p := ⟨w3.heap.size, 1, none⟩) hbv7 (Nat.le_refl _) _), HQK.out _ (Below.setCell (p := ⟨w3.heap.size, 1, none⟩) hbv7 (Nat.le_refl _) _)⟩)) (fun hHeld => ?_)
                  clear hK K
                  try simp only [Act.put, List.getElem_toArray, List.getElem_cons_succ, List.getElem_cons_zero, List.setIfInBounds_toArray, List.set_cons_succ, List.set_cons_zero]
                  refine wpAnyH_ready (rs := [12]) (by kernel_rfl) (by simp) ?_
                  refine AllReadyH.cons rfl (fun K hK => ?_) AllReadyH.nil
                  refine step_build_arc (by rfl) (.tmp 79) sg (k : Int) (by rfl) (by rfl) ?_
                  intro gB wB hgB0 hgB1 hbB
                  have hbvB := hbv5.trans (hbB.mono hbv5.size)
                  have hbxB : wB.cell? ⟨w3.heap.size, 1, none⟩ = some (.slice aa m cc) := by simp only [World.cell?]; rw [hbB.block _ (show w3.heap.size < w5.drew.heap.size by have := HSZ5.out; omega)]; rw [HBOX5.out]; rfl
                  have hszB : w3.heap.size + 1 ≤ wB.heap.size := Nat.le_trans HSZ5.out hbB.size
                  refine hK.out _ _ (by (try dsimp only); (first | exact ⟨HCK.out _ hbs7, HQK.out _ hbs7⟩ | exact ⟨HCK.out _ hbv7, HQK.out _ hbv7⟩ | exact ⟨HCK.out _ hbvB, HQK.out _ hbvB⟩ | exact ⟨HCK.out _ hbv5, HQK.out _ hbv5⟩ | exact ⟨HCK.out _ (Below.setCell (p := ⟨w3.heap.size, 1, none⟩) hbv7 (Nat.le_refl _) _), HQK.out _ (Below.setCell (p := ⟨w3.heap.size, 1, none⟩) hbv7 (Nat.le_refl _) _)⟩)) (fun hHeld => ?_)
                  clear hK K
                  try simp only [Act.put, List.getElem_toArray, List.getElem_cons_succ, List.getElem_cons_zero, List.setIfInBounds_toArray, List.set_cons_succ, List.set_cons_zero]
                  refine wpAnyH_ready (rs := [13]) (by kernel_rfl) (by simp) ?_
                  refine AllReadyH.cons rfl (fun K hK => ?_) AllReadyH.nil
                  refine step_append_arc (by rfl) (.tmp 69) (.tmp 80) (by rfl) (w3.heap.size + 1) _ m _ (by rfl) (ownsRow_below HOA5.out hbB (Nat.le_refl _)) gB (sg, (k : Int)) (by rfl) hgB0 hgB1 (m + 1) rfl (by omega) hszB ?_
                  intro a5 c5 w7 hown7 hb7 hg7 hnil7
                  have hbb : Below (w3.heap.size + 1) w5.drew w7 := (hbB.mono HSZ5.out).trans hb7
                  have hh7 : w7.heap[w3.heap.size]? = some (.cells #[.bool fin, .slice aa m cc] 39 (0, 0)) := (hbb.block _ (Nat.lt_succ_self _)).trans HBOX5.out
                  have hbv7 : Below w3.heap.size w3 w7 := hbv5.trans (hbb.mono (Nat.le_succ _))
                  have hsz7 : w3.heap.size + 1 ≤ w7.heap.size := Nat.le_trans HSZ5.out hbb.size
                  have hc7 : w7.cell? ⟨w3.heap.size, 1, none⟩ = some (.slice aa m cc) := by simp only [World.cell?]; rw [hh7]; rfl
                  have hf7 : w7.frozen? ⟨w3.heap.size, 1, none⟩ = false := by simp only [World.frozen?]; rw [hh7]; rfl
                  refine hK.out _ _ (by (try dsimp only); (first | exact ⟨HCK.out _ hbs7, HQK.out _ hbs7⟩ | exact ⟨HCK.out _ hbv7, HQK.out _ hbv7⟩ | exact ⟨HCK.out _ hbvB, HQK.out _ hbvB⟩ | exact ⟨HCK.out _ hbv5, HQK.out _ hbv5⟩ | exact ⟨HCK.out _ (Below.setCell (p := ⟨w3.heap.size, 1, none⟩) hbv7 (Nat.le_refl _) _), HQK.out _ (Below.setCell (p := ⟨w3.heap.size, 1, none⟩) hbv7 (Nat.le_refl _) _)⟩)) (fun hHeld => ?_)
                  clear hK K
                  try simp only [Act.put, List.getElem_toArray, List.getElem_cons_succ, List.getElem_cons_zero, List.setIfInBounds_toArray, List.set_cons_succ, List.set_cons_zero]
                  refine wpAnyH_take (i := 14) (v := ?vrb63) rfl (by kernel_rfl) (by kernel_rfl) (by kernel_rfl) (fun _ _ _ h => h) (Or.inl ⟨by rfl, ?hrb63⟩) (by assumption) ?rrb63
                  case hrb63 => intro w hSw; (try dsimp only at hSw); go_simp; try with_reducible rfl
                  simp only [Act.put, List.getElem_toArray, List.getElem_cons_succ, List.getElem_cons_zero, List.setIfInBounds_toArray, List.set_cons_succ, List.set_cons_zero]
                  refine wpAnyH_ready (rs := [15]) (by kernel_rfl) (by simp) ?_
                  refine AllReadyH.cons rfl (fun K hK => ?_) AllReadyH.nil
                  go_simp
                  refine hK.out _ _ (by (try dsimp only); (first | exact ⟨HCK.out _ hbs7, HQK.out _ hbs7⟩ | exact ⟨HCK.out _ hbv7, HQK.out _ hbv7⟩ | exact ⟨HCK.out _ hbvB, HQK.out _ hbvB⟩ | exact ⟨HCK.out _ hbv5, HQK.out _ hbv5⟩ | exact ⟨HCK.out _ (Below.setCell (p := ⟨w3.heap.size, 1, none⟩) hbv7 (Nat.le_refl _) _), HQK.out _ (Below.setCell (p := ⟨w3.heap.size, 1, none⟩) hbv7 (Nat.le_refl _) _)⟩)) (fun hHeld => ?_)
                  clear hK K
                  try simp only [Act.put, List.getElem_toArray, List.getElem_cons_succ, List.getElem_cons_zero, List.setIfInBounds_toArray, List.set_cons_succ, List.set_cons_zero]
                  refine wpAnyH_done (by kernel_rfl) ?_ _
                  have HO7 := Lib.hid hown7
                  have HN7 := Lib.hid hnil7
                  have HH7 := Lib.hid hh7
                  have HBV7 := Lib.hid hbv7
                  have HSZ7 := Lib.hid hsz7
                  clear hown7 hb7 hg7 hnil7 hbb hh7 hbv7 hsz7 hHeld hbB hgB0 hgB1 hbvB hbxB hszB hbv5
                  go_wp2
                  go_roundw
                  case rel =>
                    refine ⟨k + 1, m + 1, a5, c5, by omega, by go_num, by omega, HN7.out, ?_, ?_, ?_, ?_⟩
                    · show _ = _
                      rw [heap_setCell_same _ _ _ _ _ _ HH7.out]; rfl
                    · show World.ownsRow _ _ _ _ _ _ _
                      rw [HUP.out]
                      refine HO7.out.kept (w' := w7.setCell ⟨w3.heap.size, 1, none⟩ (.slice a5 (m + 1) c5)) (row := some w3.heap.size) ⟨rfl, rfl, rfl, by simp, fun k _ hk => heap_setCell_other _ _ _ _ (fun e => hk (by rw [e]))⟩ ?_
                      cases hob : (Value.slice a5 (m + 1) c5).ownBlock with
                      | none => exact .inl rfl
                      | some q => exact .inr (fun e => by have h1 := (HO7.out.lt q hob).1; have h2 := Option.some.inj e; omega)
                    · exact Below.setCell (p := ⟨w3.heap.size, 1, none⟩) HBV7.out (Nat.le_refl _) _
                    · show _ ≤ _
                      have := HSZ7.out; simp; omega
                  case measure => simp [intOf]; omega
  
                · refine step_build_arc (by rfl) (.tmp 79) sg (k : Int) (by rfl) (by rfl) ?_
                  intro gB wB hgB0 hgB1 hbB
                  have hbvB := hbv5.trans (hbB.mono hbv5.size)
                  have hbxB : wB.cell? ⟨w3.heap.size, 1, none⟩ = some (.slice aa m cc) := by simp only [World.cell?]; rw [hbB.block _ (show w3.heap.size < w5.drew.heap.size by have := HSZ5.out; omega)]; rw [HBOX5.out]; rfl
                  have hszB : w3.heap.size + 1 ≤ wB.heap.size := Nat.le_trans HSZ5.out hbB.size
                  refine hK.out _ _ (by (try dsimp only); (first | exact ⟨HCK.out _ hbs7, HQK.out _ hbs7⟩ | exact ⟨HCK.out _ hbv7, HQK.out _ hbv7⟩ | exact ⟨HCK.out _ hbvB, HQK.out _ hbvB⟩ | exact ⟨HCK.out _ hbv5, HQK.out _ hbv5⟩ | exact ⟨HCK.out _ (Below.setCell (p := ⟨w3.heap.size, 1, none⟩) hbv7 (Nat.le_refl _) _), HQK.out _ (Below.setCell (p := ⟨w3.heap.size, 1, none⟩) hbv7 (Nat.le_refl _) _)⟩)) (fun hHeld => ?_)
                  clear hK K
                  try simp only [Act.put, List.getElem_toArray, List.getElem_cons_succ, List.getElem_cons_zero, List.setIfInBounds_toArray, List.set_cons_succ, List.set_cons_zero]
                  refine wpAnyH_ready (rs := [1]) (by kernel_rfl) (by simp) ?_
                  refine AllReadyH.cons rfl (fun K hK => ?_) AllReadyH.nil
                  go_simp
                  refine hK.out _ _ (by (try dsimp only); (first | exact ⟨HCK.out _ hbs7, HQK.out _ hbs7⟩ | exact ⟨HCK.out _ hbv7, HQK.out _ hbv7⟩ | exact ⟨HCK.out _ hbvB, HQK.out _ hbvB⟩ | exact ⟨HCK.out _ hbv5, HQK.out _ hbv5⟩ | exact ⟨HCK.out _ (Below.setCell (p := ⟨w3.heap.size, 1, none⟩) hbv7 (Nat.le_refl _) _), HQK.out _ (Below.setCell (p := ⟨w3.heap.size, 1, none⟩) hbv7 (Nat.le_refl _) _)⟩)) (fun hHeld => ?_)
                  clear hK K
                  try simp only [Act.put, List.getElem_toArray, List.getElem_cons_succ, List.getElem_cons_zero, List.setIfInBounds_toArray, List.set_cons_succ, List.set_cons_zero]
                  refine wpAnyH_ready (rs := [13]) (by kernel_rfl) (by simp) ?_
                  refine AllReadyH.cons rfl (fun K hK => ?_) AllReadyH.nil
                  refine step_append_arc (by rfl) (.tmp 69) (.tmp 80) (by rfl) (w3.heap.size + 1) _ m _ (by rfl) (ownsRow_below HOA5.out hbB (Nat.le_refl _)) gB (sg, (k : Int)) (by rfl) hgB0 hgB1 (m + 1) rfl (by omega) hszB ?_
                  intro a5 c5 w7 hown7 hb7 hg7 hnil7
                  have hbb : Below (w3.heap.size + 1) w5.drew w7 := (hbB.mono HSZ5.out).trans hb7
                  have hh7 : w7.heap[w3.heap.size]? = some (.cells #[.bool fin, .slice aa m cc] 39 (0, 0)) := (hbb.block _ (Nat.lt_succ_self _)).trans HBOX5.out
                  have hbv7 : Below w3.heap.size w3 w7 := hbv5.trans (hbb.mono (Nat.le_succ _))
                  have hsz7 : w3.heap.size + 1 ≤ w7.heap.size := Nat.le_trans HSZ5.out hbb.size
                  have hc7 : w7.cell? ⟨w3.heap.size, 1, none⟩ = some (.slice aa m cc) := by simp only [World.cell?]; rw [hh7]; rfl
                  have hf7 : w7.frozen? ⟨w3.heap.size, 1, none⟩ = false := by simp only [World.frozen?]; rw [hh7]; rfl
                  refine hK.out _ _ (by (try dsimp only); (first | exact ⟨HCK.out _ hbs7, HQK.out _ hbs7⟩ | exact ⟨HCK.out _ hbv7, HQK.out _ hbv7⟩ | exact ⟨HCK.out _ hbvB, HQK.out _ hbvB⟩ | exact ⟨HCK.out _ hbv5, HQK.out _ hbv5⟩ | exact ⟨HCK.out _ (Below.setCell (p := ⟨w3.heap.size, 1, none⟩) hbv7 (Nat.le_refl _) _), HQK.out _ (Below.setCell (p := ⟨w3.heap.size, 1, none⟩) hbv7 (Nat.le_refl _) _)⟩)) (fun hHeld => ?_)
                  clear hK K
                  try simp only [Act.put, List.getElem_toArray, List.getElem_cons_succ, List.getElem_cons_zero, List.setIfInBounds_toArray, List.set_cons_succ, List.set_cons_zero]
                  refine wpAnyH_take (i := 14) (v := ?vrb123) rfl (by kernel_rfl) (by kernel_rfl) (by kernel_rfl) (fun _ _ _ h => h) (Or.inl ⟨by rfl, ?hrb123⟩) (by assumption) ?rrb123
                  case hrb123 => intro w hSw; (try dsimp only at hSw); go_simp; try with_reducible rfl
                  simp only [Act.put, List.getElem_toArray, List.getElem_cons_succ, List.getElem_cons_zero, List.setIfInBounds_toArray, List.set_cons_succ, List.set_cons_zero]
                  refine wpAnyH_ready (rs := [15]) (by kernel_rfl) (by simp) ?_
                  refine AllReadyH.cons rfl (fun K hK => ?_) AllReadyH.nil
                  go_simp
                  refine hK.out _ _ (by (try dsimp only); (first | exact ⟨HCK.out _ hbs7, HQK.out _ hbs7⟩ | exact ⟨HCK.out _ hbv7, HQK.out _ hbv7⟩ | exact ⟨HCK.out _ hbvB, HQK.out _ hbvB⟩ | exact ⟨HCK.out _ hbv5, HQK.out _ hbv5⟩ | exact ⟨HCK.out _ (Below.setCell (p := ⟨w3.heap.size, 1, none⟩) hbv7 (Nat.le_refl _) _), HQK.out _ (Below.setCell (p := ⟨w3.heap.size, 1, none⟩) hbv7 (Nat.le_refl _) _)⟩)) (fun hHeld => ?_)
                  clear hK K
                  try simp only [Act.put, List.getElem_toArray, List.getElem_cons_succ, List.getElem_cons_zero, List.setIfInBounds_toArray, List.set_cons_succ, List.set_cons_zero]
                  refine wpAnyH_done (by kernel_rfl) ?_ _
                  have HO7 := Lib.hid hown7
                  have HN7 := Lib.hid hnil7
                  have HH7 := Lib.hid hh7
                  have HBV7 := Lib.hid hbv7
                  have HSZ7 := Lib.hid hsz7
                  clear hown7 hb7 hg7 hnil7 hbb hh7 hbv7 hsz7 hHeld hbB hgB0 hgB1 hbvB hbxB hszB hbv5
                  go_wp2
                  go_roundw
                  case rel =>
                    refine ⟨k + 1, m + 1, a5, c5, by omega, by go_num, by omega, HN7.out, ?_, ?_, ?_, ?_⟩
                    · show _ = _
                      rw [heap_setCell_same _ _ _ _ _ _ HH7.out]; rfl
                    · show World.ownsRow _ _ _ _ _ _ _
                      rw [HUP.out]
                      refine HO7.out.kept (w' := w7.setCell ⟨w3.heap.size, 1, none⟩ (.slice a5 (m + 1) c5)) (row := some w3.heap.size) ⟨rfl, rfl, rfl, by simp, fun k _ hk => heap_setCell_other _ _ _ _ (fun e => hk (by rw [e]))⟩ ?_
                      cases hob : (Value.slice a5 (m + 1) c5).ownBlock with
                      | none => exact .inl rfl
                      | some q => exact .inr (fun e => by have h1 := (HO7.out.lt q hob).1; have h2 := Option.some.inj e; omega)
                    · exact Below.setCell (p := ⟨w3.heap.size, 1, none⟩) HBV7.out (Nat.le_refl _) _
                    · show _ ≤ _
                      have := HSZ7.out; simp; omega
                  case measure => simp [intOf]; omega
  
            · have HUP : Hid (arcsUp (begs (nums xs)) pz (k + 1) = arcsUp (begs (nums xs)) pz k) := by
                show _ = _
                rw [HUP0.out, if_neg (fun h => c1 (by have := h.1; rw [HQL.out, HPL.out] at this; exact this)), List.append_nil]
              have d1 : ((qn : Int) == (pn : Int) + 1) = false := by simp; omega
              clear c1
              go_wp2
              go_quiet (fail)
              go_wp2
              go_roundw
              case rel => exact ⟨k + 1, m, aa, cc, by omega, by go_num, by omega, HNA.out, HBOX.out, (by show World.ownsRow _ _ _ _ _ _ _; rw [HUP.out]; exact HOA.out), below_drewN HBV.out _, HSZ.out⟩
              case measure => simp [intOf]; omega
          · obtain rfl : N = k := by omega
            have HALL : Hid (arcsUp (begs (nums xs)) pz N = arcsOf (begs (nums xs)) pz) := by show _ = _; rw [← HLB.out]; exact arcsUp_all _ _
            have HMT := Lib.hid (make_take (by rw [HLB.out]; exact hlt) HPZ.out HFIN.out)
            obtain ⟨arcs, harcs⟩ : ∃ l, arcsOf (begs (nums xs)) pz = l := ⟨_, rfl⟩
            have HOA' : Hid (wr.ownsRow (w3.heap.size + 1) 43 2 (.slice aa m cc) m (acells arcs)) := by rw [← harcs, ← HALL.out]; exact HOA.out
            have HAW : Hid (∀ x ∈ arcs, (Lit.int .i64 x.1).wf = true ∧ (Lit.int .i64 x.2).wf = true) := fun x hx => by
              rw [← harcs] at hx
              obtain ⟨t, ht, h1, h2⟩ := mem_arcs.1 hx
              refine ⟨?_, by rw [h2]; apply WalkArith.wf_i64; rw [HLB.out] at ht; omega⟩
              have hm : pz ++ [x.1] ∈ nums ys := by rw [HYN.out, ← h1]; exact List.getElem_mem _
              obtain ⟨y, hy, hyz⟩ := List.mem_map.1 hm
              exact (HY.out.2.2.2.1 y hy).2.2.2.1 x.1 (by rw [hyz]; simp)
            have HARC : Hid (Ars wr aa m cc arcs) := Ars.of_owns HOA'.out HAW.out (by have h := HOA'.out.1; rw [acells_length] at h; omega)
            have HATT := Lib.hid (owns_at HOA'.out)
            rw [harcs] at HMT
            have HI2 : Hid ((Try.prog.info? 39).map (·.size) = some (#[Value.bool fin, Value.slice aa m cc]).size) := info_st
            have HBVV : Hid (Below v2.heap.size v2 wr) := HBW3.out.trans (HBV.out.mono HBW3.out.size)
            clear harcs
            go_wp2_with first
              | (refine wpList_load_row_w (by rfl) 39 (.tmp 9) (by rfl) w3.heap.size (by rfl) 39 #[.bool fin, .slice aa m cc] (0, 0) _ HBOX.out Try.underlying39 (by rfl) HI2.out ?_)
              | (at_builtin; refine append_state (by rfl) (.tmp 83) (.tmp 85) (by rfl) v2.heap.size _ i outs (by rfl) (World.ownsRow.alloc (ownsRow_below HOW3.out HBV.out (Nat.le_refl _)) _) wr.heap.size ⟨fin, aa, m, cc, arcs⟩ (by rfl) (lit2 _ _ _ _ _).1 (lit2 _ _ _ _ _).2 (i + 1) rfl (by omega) (by rw [World.size_alloc]; have := HBVV.out.size; omega) ?_
                 intro a5 c5 w7 hown7 hb7 hg7 hnil7
                 have HO7 := Lib.hid hown7
                 have HN7 := Lib.hid hnil7
                 have HB7 : Hid (Below v2.heap.size v2 w7) := (HBVV.out.alloc HBVV.out.size _).trans hb7
                 have HKEEP : Hid (∀ x : Sw, x.Good wr → (x ∈ outs ∧ x.Front ∨ x.n = 0 ∨ ∃ b, x.a = some ⟨b, 0, none⟩ ∧ w3.heap.size < b) → x.Good w7) := fun x hx hor => by
                   rcases hor with ⟨hm, hf⟩ | h0 | ⟨b, hb, hlt3⟩
                   · exact Sw.Good.apart (hx.alloc _) hf hg7 (fun b hb => owns_front (World.ownsRow.alloc (ownsRow_below HOW3.out HBV.out (Nat.le_refl _)) _) b hb (by intro e; rw [e] at hm; simp at hm))
                   · exact ⟨hx.1, hx.2.1, hx.2.2.1, hx.2.2.2.1, .inl h0⟩
                   · exact Ars.far (hx.alloc _) hg7 (fun b' off' e h => by
                       rw [hb] at e
                       have e1 := (Addr.mk.inj (Option.some.inj e)).1
                       have h2 := (World.ownsRow.lt HOW3.out b' h).2
                       omega)
                 clear hown7 hb7 hg7 hnil7)
            go_roundw
            case rel =>
              refine ⟨i + 1, a5, c5, outs ++ [Sw.mk fin aa m cc arcs], by omega, rfl, by go_num, HN7.out, HO7.out, ?_, ?_, ?_, HB7.out⟩
              · intro x hx
                rcases List.mem_append.1 hx with hx | hx
                · exact HKEEP.out x ((HGD3.out x hx).below HBV.out (Nat.le_refl _)) (.inl ⟨hx, HFR.out x hx⟩)
                · rw [List.mem_singleton.1 hx]
                  refine HKEEP.out _ HARC.out (.inr ?_)
                  rcases HATT.out with h | ⟨b, h1, h2, _⟩
                  · exact .inl h
                  · exact .inr ⟨b, h1, by omega⟩
              · intro x hx
                rcases List.mem_append.1 hx with hx | hx
                · exact HFR.out x hx
                · rw [List.mem_singleton.1 hx]
                  rcases HATT.out with h | ⟨b, h1, _, _⟩
                  · exact .inl h
                  · exact .inr ⟨b, h1⟩
              · show _ = _
                rw [sts_app, HST.out, HMT.out]; rfl
            case measure => simp [intOf]; omega
      · obtain rfl : N = i := by omega
        go_wp2
        go_ret2
        refine ⟨a1, N, c1, outs, ?_, Ss.of_owns HOW.out HGD.out ?_, ?_, HN1.out, HB2.out.trans (HBW.out.mono HB2.out.size)⟩
        · rw [← HGM.out]; rfl
        · have h := HOW.out.1
          rw [scells_length] at h; omega
        · rw [HST.out, ← HGM.out, List.take_of_length_le (by rw [make_length, HLB.out]; exact Nat.le_refl _)]
  · have hne : (er != 0) = true := by simpa using her
    have hgg : g = ([], er) := by rw [← HG.out]; unfold made; rw [HP.out]; simp [her]
    subst hgg
    clear her
    go_wp2
    go_ret2
    exact ⟨none, 0, 0, [], rfl, Ss.nil, rfl, fun _ => rfl, HB1.out⟩

end Go.Proofs.Ytgbiobhladeooaa
