import Derived.StillTailTactics
import Derived.Deep.RegionWith
import Derived.Deep.RegionLaw
import Derived.LoopN
import Derived.Test.YtpcebfefbnpbpaaPackK
import Derived.Test.YtpcebfefbnpbpaaRuleLike
set_option linter.all false
set_option maxRecDepth 100000
set_option maxHeartbeats 12800000
namespace Go.Proofs.Ytpcebfefbnpbpaa
open Go.RowKit

theorem own_at {w : World} {base : Nat} {e : TypeId} {size b o n c : Nat} {l : List Value} (h : w.ownsRow base e size (.slice (some ⟨b, o, none⟩) n c) n l) : o = 0 := by
  rcases h.2 with ⟨h', _⟩ | ⟨g', c', cur, h', _⟩
  · simp at h'
  · simp only [Value.slice.injEq, Option.some.injEq, Addr.mk.injEq] at h'
    exact h'.1.2.1
theorem Outs.like {w W W' : World} {b : Option Addr} {L c j : Nat} {xs outs : List Rw} (h : Outs w W b L c j xs outs) (e1 : W'.heap = W.heap) (e2 : W'.os = W.os) (e3 : W'.tape = W.tape) (e4 : W'.output = W.output) : Outs w W' b L c j xs outs :=
  h.below ⟨e2, e3, e4, by rw [e1]; exact Nat.le_refl _, fun k _ => by rw [e1]⟩
theorem rnorm_any (a : Option Addr) (n cap : Nat) (xs : List Rw) (w : World) (hs : Rs w a n cap xs) (hn : n ≤ 20000) :
    Calls Try.prog 29 #[.slice a n cap] w fun e w' => RulesIs w w' e (nrm (ruls xs)) n := by
  have hnc := hs.2.1
  have hcm := hs.2.2.1
  unfold maxLen at hcm
  have HS := Lib.hid hs
  clear hs
  go_enter Try.func29, Try.ntmps29
  go_wp2
  go_loopw [3, 4] (fun ov ix wr => ∃ (j L c : Nat) (b : Option Addr) (outs : List Rw), j ≤ n ∧ ix = .int .i64 (j : Int) ∧ ov = .slice b L c ∧ L ≤ j ∧ Hid (Outs w wr b L c j xs outs)) (fun _ ix _ => n - (intOf ix).toNat)
  case atStart => exact ⟨0, 0, 0, none, [], Nat.zero_le _, rfl, rfl, Nat.le_refl _, ⟨owns_nil_rules _ _, by simp, by simp [ruls, nrm], rfl, Below.refl _ _⟩⟩
  case round =>
    obtain ⟨j, L, c, b, outs, hj, rfl, rfl, hLj, HO⟩ := hrel
    by_cases hlt : j < n
    · obtain ⟨b1, o1, la, ln, lc, LL, ra, rn, rc, RR, C, rfl, hb1, hx1, hx2, hx3, hsl, hsr, hC0, hC1, hz1⟩ := HS.out.one j hlt
      have hB := HO.out.2.2.2.2
      have hszw := hB.size
      have hx1' : wr.cell? ⟨b1, o1 + j * 3, none⟩ = some (.slice la ln lc) := by rw [hB.cell (p := ⟨b1, o1 + j * 3, none⟩) hb1]; exact hx1
      have hx2' : wr.cell? ⟨b1, o1 + j * 3 + 1, none⟩ = some (.slice ra rn rc) := by rw [hB.cell (p := ⟨b1, o1 + j * 3 + 1, none⟩) hb1]; exact hx2
      have hx3' : wr.cell? ⟨b1, o1 + j * 3 + 2, none⟩ = some (.int .u64 C) := by rw [hB.cell (p := ⟨b1, o1 + j * 3 + 2, none⟩) hb1]; exact hx3
      have HGX : Hid ((⟨la, ln, lc, LL, ra, rn, rc, RR, C⟩ : Rw).Good w) := ⟨hsl, hsr, hC0, hC1⟩
      have HZ1 := Lib.hid hz1
      have HJX : Hid (j < xs.length) := by show j < _; rw [HS.out.1]; exact hlt
      have hlti : (j : Int) < (n : Int) := by omega
      obtain ⟨ck, hck⟩ : ∃ b, chk ⟨LL, RR, C⟩ = b := ⟨_, rfl⟩
      have HCK := Lib.hid hck
      clear hsl hsr hz1 hck hx1 hx2 hx3 hB
      cases ck
      · go_wp2_with fail
        refine (rcheck_is ⟨la, ln, lc, LL, ra, rn, rc, RR, C⟩ false wr (HGX.out.below HO.out.2.2.2.2 (Nat.le_refl _)) HCK.out).mono ?_
        rintro e w1 ⟨rfl, hb⟩
        have HB := Lib.hid hb
        clear hb
        go_wp2
        go_roundw
        case rel =>
          have h1 := HO.out.below HB.out
          refine ⟨j + 1, L, c, b, outs, by omega, by go_num, rfl, by omega, ⟨h1.1, h1.2.1, ?_, h1.2.2.2⟩⟩
          rw [h1.2.2.1, take_nrm (by rw [ruls_length, HS.out.1]; exact hlt) (by rw [ruls_at, HZ1.out])]
          show _ = stepR _ ⟨LL, RR, C⟩
          unfold stepR; rw [if_neg (by rw [HCK.out]; decide)]
        case measure => simp [intOf]; omega
      · go_wp2_with fail
        refine (rcheck_is ⟨la, ln, lc, LL, ra, rn, rc, RR, C⟩ true wr (HGX.out.below HO.out.2.2.2.2 (Nat.le_refl _)) HCK.out).mono ?_
        rintro e w1 ⟨rfl, hb⟩
        have hsz := hb.size
        have hx1 : w1.cell? ⟨b1, o1 + j * 3, none⟩ = some (.slice la ln lc) := by rw [hb.cell (p := ⟨b1, o1 + j * 3, none⟩) (by show b1 < _; omega)]; exact hx1'
        have hx2 : w1.cell? ⟨b1, o1 + j * 3 + 1, none⟩ = some (.slice ra rn rc) := by rw [hb.cell (p := ⟨b1, o1 + j * 3 + 1, none⟩) (by show b1 < _; omega)]; exact hx2'
        have hx3 : w1.cell? ⟨b1, o1 + j * 3 + 2, none⟩ = some (.int .u64 C) := by rw [hb.cell (p := ⟨b1, o1 + j * 3 + 2, none⟩) (by show b1 < _; omega)]; exact hx3'
        have HO1 := Lib.hid (HO.out.below hb)
        have hb1w1 : b1 < w1.heap.size := by omega
        clear hb hx1' hx2' hx3' HO hsz hszw hb1
        go_wp2
        go_loopw [5] (fun kx wr' => ∃ k : Nat, k ≤ L ∧ kx = .int .i64 (k : Int) ∧ Hid (∀ y ∈ (ruls outs).take k, lessS y ⟨LL, RR, C⟩ = true) ∧ Hid (Below w1.heap.size w1 wr')) (fun kx _ => L - (intOf kx).toNat)
        case atStart => exact ⟨0, Nat.zero_le _, rfl, (fun y hy => by simp at hy), Below.refl _ _⟩
        case round =>
          obtain ⟨k, hk, rfl, HK, HB⟩ := hrel
          have hy1 : wr.cell? ⟨b1, o1 + j * 3, none⟩ = some (.slice la ln lc) := by rw [HB.out.cell (p := ⟨b1, o1 + j * 3, none⟩) hb1w1]; exact hx1
          have hy2 : wr.cell? ⟨b1, o1 + j * 3 + 1, none⟩ = some (.slice ra rn rc) := by rw [HB.out.cell (p := ⟨b1, o1 + j * 3 + 1, none⟩) hb1w1]; exact hx2
          have hy3 : wr.cell? ⟨b1, o1 + j * 3 + 2, none⟩ = some (.int .u64 C) := by rw [HB.out.cell (p := ⟨b1, o1 + j * 3 + 2, none⟩) hb1w1]; exact hx3
          have HGX' : Hid ((⟨la, ln, lc, LL, ra, rn, rc, RR, C⟩ : Rw).Good wr) := (HGX.out.below HO1.out.2.2.2.2 (Nat.le_refl _)).below HB.out (Nat.le_refl _)
          have hbw : b1 < wr.heap.size := cell_lt hy1
          clear hx1 hx2 hx3
          by_cases hkl : k < L
          · obtain ⟨b2, o2, la', ln', lc', LL', ra', rn', rc', RR', C', rfl, hb2, hz1, hz2, hz3, hsl', hsr', hC0', hC1', hz⟩ := (HO1.out.rs.below HB.out (Nat.le_refl _)).one k hkl
            obtain rfl := own_at HO1.out.1
            simp only [Nat.zero_add] at hz1 hz2 hz3
            have hkli : (k : Int) < (L : Int) := by omega
            have HG2 : Hid ((⟨la', ln', lc', LL', ra', rn', rc', RR', 0⟩ : Rw).Good wr) := ⟨hsl', hsr', Int.le_refl _, by show (0 : Int) < _; decide⟩
            have HG1 : Hid ((⟨la, ln, lc, LL, ra, rn, rc, RR, 0⟩ : Rw).Good wr) := ⟨HGX'.out.1, HGX'.out.2.1, Int.le_refl _, by show (0 : Int) < _; decide⟩
            have HZ := Lib.hid hz
            obtain ⟨ls, hls⟩ : ∃ q, lessS ⟨LL', RR', C'⟩ ⟨LL, RR, C⟩ = q := ⟨_, rfl⟩
            have HLS := Lib.hid hls
            clear hsl' hsr' hz hls
            cases ls
            · go_wp2_with fail
              go_still_tail 27, (by kernel_rfl)
              change wpList _ _ _ _ _ _
              go_wp2_with fail
              refine (rlessR_is ⟨la', ln', lc', LL', ra', rn', rc', RR', 0⟩ ⟨la, ln, lc, LL, ra, rn, rc, RR, 0⟩ false wr.drew (HG2.out.drawn ⟨1, rfl⟩) (HG1.out.drawn ⟨1, rfl⟩) ((lessR_sides ⟨LL', RR', C'⟩ ⟨LL, RR, C⟩).trans HLS.out)).mono ?_
              rintro e w3 ⟨rfl, hb3⟩
              have HB3 : Hid (Below wr.heap.size wr w3) := (below_drawn (Below.refl _ wr) ⟨1, rfl⟩).trans hb3
              clear hb3
              have hp1 : w3.cell? ⟨b2, k * 3, none⟩ = some (.slice la' ln' lc') := (HB3.out.cell (p := ⟨b2, k * 3, none⟩) hb2).trans hz1
              have hp2 : w3.cell? ⟨b2, k * 3 + 1, none⟩ = some (.slice ra' rn' rc') := (HB3.out.cell (p := ⟨b2, k * 3 + 1, none⟩) hb2).trans hz2
              have hp3 : w3.cell? ⟨b2, k * 3 + 2, none⟩ = some (.int .u64 C') := (HB3.out.cell (p := ⟨b2, k * 3 + 2, none⟩) hb2).trans hz3
              have hq1 : w3.cell? ⟨b1, o1 + j * 3, none⟩ = some (.slice la ln lc) := (HB3.out.cell (p := ⟨b1, o1 + j * 3, none⟩) hbw).trans hy1
              have hq2 : w3.cell? ⟨b1, o1 + j * 3 + 1, none⟩ = some (.slice ra rn rc) := (HB3.out.cell (p := ⟨b1, o1 + j * 3 + 1, none⟩) hbw).trans hy2
              have hq3 : w3.cell? ⟨b1, o1 + j * 3 + 2, none⟩ = some (.int .u64 C) := (HB3.out.cell (p := ⟨b1, o1 + j * 3 + 2, none⟩) hbw).trans hy3
              have HOX := Lib.hid ((HO1.out.below HB.out).below HB3.out)
              have HSL : Hid (Sl .i64 w3 la ln lc LL) := HG1.out.1.below HB3.out (Nat.le_refl _)
              have HSR : Hid (Sl .i64 w3 ra rn rc RR) := HG1.out.2.1.below HB3.out (Nat.le_refl _)
              have HSL' : Hid (Sl .i64 w3 la' ln' lc' LL') := HG2.out.1.below HB3.out (Nat.le_refl _)
              have HSR' : Hid (Sl .i64 w3 ra' rn' rc' RR') := HG2.out.2.1.below HB3.out (Nat.le_refl _)
              have hb1x : b1 < w3.heap.size := cell_lt hq1
              clear hz1 hz2 hz3 hy1 hy2 hy3 HG1 HG2 HGX' hb2 hbw
              have hcase : (LL' = LL ∧ RR' = RR) ∨ LL' ≠ LL ∨ (LL' = LL ∧ RR' ≠ RR) := by
                by_cases h1 : LL' = LL
                · by_cases h2 : RR' = RR
                  · exact .inl ⟨h1, h2⟩
                  · exact .inr (.inr ⟨h1, h2⟩)
                · exact .inr (.inl h1)
              rcases hcase with ⟨h1, h2⟩ | h1 | ⟨h1, h2⟩
              · have HD1 := Lib.hid (decide_eq_true h1)
                have HD2 := Lib.hid (decide_eq_true h2)
                have HLK : Hid ((⟨LL', RR', C'⟩ : Rul).like ⟨LL, RR, C⟩) := ⟨h1, h2⟩
                have hfr : w3.frozen? ⟨b2, k * 3 + 2, none⟩ = false := HOX.out.1.frozenAt _
                clear h1 h2
                go_wp2
                go_quiet (first | (go_at_call_of 16 la; exact Calls.quiet_of (same_is la' la ln' ln lc' lc LL' LL true _ (HSL'.out.drewN _) (HSL.out.drewN _) HD1.out)) | (go_at_call_of 16 ra; exact Calls.quiet_of (same_is ra' ra rn' rn rc' rc RR' RR true _ (HSR'.out.drewN _) (HSR.out.drewN _) HD2.out)))
                go_wp2_with fail
                generalize hW4 : w3.drewN nq = w4
                have hr3 : w4.cell? ⟨b2, k * 3 + 2, none⟩ = some (.int .u64 C') := by rw [← hW4]; exact hp3
                have hs3 : w4.cell? ⟨b1, o1 + j * 3 + 2, none⟩ = some (.int .u64 C) := by rw [← hW4]; exact hq3
                have hfr4 : w4.frozen? ⟨b2, k * 3 + 2, none⟩ = false := by rw [← hW4]; exact hfr
                have HO4 : Hid (Outs w w4 (some ⟨b2, 0, none⟩) L c j xs outs) := by rw [← hW4]; exact HOX.out.like rfl rfl rfl rfl
                clear hW4 hp1 hp2 hp3 hq1 hq2 hq3 hfr HOX
                go_still_tail 13, (by kernel_rfl)
                change wpList _ _ _ _ _ _
                go_wp2
                go_roundw
                case rel => exact ⟨j + 1, L, c, some ⟨b2, 0, none⟩, _, by omega, by go_num, rfl, by omega, (HO4.out.set hkl HJX.out HZ1.out HGX.out HCK.out HK.out HZ.out HLS.out HLK.out (show (if C < C' then C else C') = min C' C by omega)).like rfl rfl rfl rfl⟩
                case measure => simp [intOf]; omega
              · have HD1 := Lib.hid (decide_eq_false h1)
                have HNL : Hid (k < L → lessS ((ruls outs).getD k Rul.no) ⟨LL, RR, C⟩ = false ∧ ¬ ((ruls outs).getD k Rul.no).like ⟨LL, RR, C⟩) := fun _ => by
                  rw [ruls_at, HZ.out]
                  exact ⟨HLS.out, fun h => h1 h.1⟩
                have hkL : k ≤ L := by omega
                have hLc := HOX.out.rs.2.1
                have hcM := HOX.out.rs.2.2.1
                unfold maxLen at hcM
                have hkc1 : k < c := by omega
                have hkL1 : (k : Int) ≤ (L : Int) := by omega
                have hkL2 : (0 : Int) ≤ (k : Int) := by omega
                have hLc1 : (L : Int) ≤ (c : Int) := by omega
                have hkc2 : ¬ (k : Int) = (c : Int) := by omega
                have hkc3 : (k : Int) ≤ (c : Int) := by omega
                have hkc4 : k ≤ c := by omega
                have HPC : Hid (∀ W, Rs W (some ⟨b2, 0, none⟩) L c outs → Rs W (some ⟨b2, k * 3, none⟩) (L - k) (c - k) (outs.drop k)) := by
                  intro W hW
                  have h := hW.piece k (L - k) (by omega)
                  rw [Nat.zero_add, List.take_of_length_le (by have := hW.1; simp; omega)] at h
                  exact h
                clear h1
                go_wp2
                go_quiet (first | (go_at_call_of 16 la; exact Calls.quiet_of (same_is la' la ln' ln lc' lc LL' LL false _ (HSL'.out.drewN _) (HSL.out.drewN _) HD1.out)) | fail)
                go_wp2_with (first
                  | (at_builtin; refine append_rules (by rfl) (.tmp 95) (.tmp 98) (by rfl) w3.heap.size _ 0 [] (by rfl) (owns0_rules _) (some ⟨b2, k * 3, none⟩) (L - k) (c - k) (outs.drop k) (by rfl) ((HPC.out _ ((HOX.out.rs.drawn ⟨_, rfl⟩).alloc _))) (L - k) (by omega) (by omega) (by simp) ?_; intro a5 c5 w2 hown2 hb2 _ hnil5; have B2 : Below w3.heap.size w3 w2 := ((below_drawn (Below.refl _ w3) ⟨_, rfl⟩).alloc (Nat.le_refl _) _).trans hb2)
                  | fail)
                simp only [List.nil_append] at hown2
                have HO2 := Lib.hid (HOX.out.below B2)
                have hx1 : w2.cell? ⟨b1, o1 + j * 3, none⟩ = some (.slice la ln lc) := (B2.cell (p := ⟨b1, o1 + j * 3, none⟩) hb1x).trans hq1
                have hx2 : w2.cell? ⟨b1, o1 + j * 3 + 1, none⟩ = some (.slice ra rn rc) := (B2.cell (p := ⟨b1, o1 + j * 3 + 1, none⟩) hb1x).trans hq2
                have hx3 : w2.cell? ⟨b1, o1 + j * 3 + 2, none⟩ = some (.int .u64 C) := (B2.cell (p := ⟨b1, o1 + j * 3 + 2, none⟩) hb1x).trans hq3
                have HR2 : Hid (Rs w2 a5 (L - k) c5 (outs.drop k)) := by
                  exact Rs.of_owns hown2 (fun x hx => (HO2.out.2.1 x (List.mem_of_mem_drop hx)).below HO2.out.2.2.2.2 (Nat.le_refl _)) (by have := HO2.out.2.2.2.1; simp; omega)
                have HN5 := Lib.hid hnil5
                have HGW : Hid ((⟨la, ln, lc, LL, ra, rn, rc, RR, C⟩ : Rw).Good w2) := HGX.out.below HO2.out.2.2.2.2 (Nat.le_refl _)
                have bel1 : ∀ o, Below w2.heap.size w2 (w2.alloc o) := fun o => (Below.refl _ w2).alloc (Nat.le_refl _) o
                have bel2 : ∀ o o', Below w2.heap.size w2 ((w2.alloc o).alloc o') := fun o o' => ((Below.refl _ w2).alloc (Nat.le_refl _) o).alloc (by simp) o'
                have BEL1 := Lib.hid bel1
                have BEL2 := Lib.hid bel2
                have hb12 := cell_lt hx1
                have hne : w2.heap.size ≠ b1 := by omega
                have hne1 : w2.heap.size + 1 ≠ b1 := by omega
                clear hown2 hb2 hnil5 hq1 hq2 hq3 B2 bel1 bel2
                go_region_law (first
                  | (refine step_append_rules (w0 := w2) (by rfl) (.tmp 100) (.tmp 103) (by rfl) w2.heap.size _ 0 [] (by rfl) (by first | exact owns0_rules w2 | exact (owns0_rules w2).alloc _ | exact owns1_rules w2 _) (some ⟨b2, 0, none⟩) k c (outs.take k) (by rfl) (by first | exact (HO2.out.rs.first k hkL).alloc _ | exact ((HO2.out.rs.first k hkL).alloc _).alloc _) k (by omega) (by omega) (Nat.le_refl _) (by first | exact Below.like (BEL1.out _) rfl rfl rfl rfl | exact Below.like (BEL2.out _ _) rfl rfl rfl rfl) ?_; intro a6 c6 w5 hown5 hb5 hgrow5 _; simp only [List.nil_append] at hown5; have hx5 : w5.cell? ⟨b1, o1 + j * 3, none⟩ = some (.slice la ln lc) := (hb5.cell (p := ⟨b1, o1 + j * 3, none⟩) hb12).trans hx1; have hx6 : w5.cell? ⟨b1, o1 + j * 3 + 1, none⟩ = some (.slice ra rn rc) := (hb5.cell (p := ⟨b1, o1 + j * 3 + 1, none⟩) hb12).trans hx2; have hx7 : w5.cell? ⟨b1, o1 + j * 3 + 2, none⟩ = some (.int .u64 C) := (hb5.cell (p := ⟨b1, o1 + j * 3 + 2, none⟩) hb12).trans hx3; have hne5 : w5.heap.size ≠ b1 := (by have := hb5.size; omega); have HG5 := Lib.hid (HGW.out.below hb5 (Nat.le_refl _)))
                  | (refine step_append_rules (w0 := w2) (by rfl) (.tmp 104) (.tmp 109) (by rfl) w2.heap.size _ k (outs.take k) (by rfl) (by first | exact hown5 | exact hown5.alloc _) (some ⟨_, 0, none⟩) 1 1 [⟨la, ln, lc, LL, ra, rn, rc, RR, C⟩] (by rfl) (by first | exact Rs.single HG5.out ((RwAt.second w2 ⟨la, ln, lc, LL, ra, rn, rc, RR, C⟩ _ _).drw.grown hgrow5 (fun h => by have h' : some (w2.heap.size + 1) = some w2.heap.size := h; simp at h')) | exact Rs.single HG5.out (((RwAt.new w2 ⟨la, ln, lc, LL, ra, rn, rc, RR, C⟩ _).alloc _).drw.grown hgrow5 (fun h => by have h' : some w2.heap.size = some (w2.heap.size + 1) := h; simp at h')) | exact Rs.single (HG5.out.alloc _) (RwAt.new w5 ⟨la, ln, lc, LL, ra, rn, rc, RR, C⟩ _)) (k + 1) (by rfl) (by omega) (Nat.le_refl _) (by first | exact Below.like hb5 rfl rfl rfl rfl | exact Below.like (hb5.alloc hb5.size _) rfl rfl rfl rfl) ?_; intro a7 c7 w6 hown6 hb6 hgrow6 _)
                  | (refine step_append_rules (w0 := w2) (by rfl) (.tmp 110) (.tmp 111) (by rfl) w2.heap.size _ (k + 1) (outs.take k ++ [⟨la, ln, lc, LL, ra, rn, rc, RR, C⟩]) (by rfl) (by exact hown6) a5 (L - k) c5 (outs.drop k) (by rfl) (by exact HR2.out.below hb6 (Nat.le_refl _)) (L + 1) (by omega) (by omega) (Nat.le_refl _) (by exact Below.like hb6 rfl rfl rfl rfl) ?_; intro a8 c8 w7 hown7 hb7 hgrow7 hnil7))
                all_goals
                  have HO7 := Lib.hid (HO2.out.ins hkL HJX.out HZ1.out HGX.out HCK.out HK.out HNL.out hown7 hb7)
                  clear hown5 hown6 hown7 hgrow5 hgrow6 hgrow7 hb5 hb6 hb7 hnil7 hx1 hx2 hx3 hx5 hx6 hx7
                  go_wp2
                  go_roundw
                  case rel => exact ⟨j + 1, L + 1, c8, a8, _, by omega, by go_num, rfl, by omega, HO7.out⟩
                  case measure => simp [intOf]; omega
              · have HD1 := Lib.hid (decide_eq_true h1)
                have HD2 := Lib.hid (decide_eq_false h2)
                have HNL : Hid (k < L → lessS ((ruls outs).getD k Rul.no) ⟨LL, RR, C⟩ = false ∧ ¬ ((ruls outs).getD k Rul.no).like ⟨LL, RR, C⟩) := fun _ => by
                  rw [ruls_at, HZ.out]
                  exact ⟨HLS.out, fun h => h2 h.2⟩
                have hkL : k ≤ L := by omega
                have hLc := HOX.out.rs.2.1
                have hcM := HOX.out.rs.2.2.1
                unfold maxLen at hcM
                have hkc1 : k < c := by omega
                have hkL1 : (k : Int) ≤ (L : Int) := by omega
                have hkL2 : (0 : Int) ≤ (k : Int) := by omega
                have hLc1 : (L : Int) ≤ (c : Int) := by omega
                have hkc2 : ¬ (k : Int) = (c : Int) := by omega
                have hkc3 : (k : Int) ≤ (c : Int) := by omega
                have hkc4 : k ≤ c := by omega
                have HPC : Hid (∀ W, Rs W (some ⟨b2, 0, none⟩) L c outs → Rs W (some ⟨b2, k * 3, none⟩) (L - k) (c - k) (outs.drop k)) := by
                  intro W hW
                  have h := hW.piece k (L - k) (by omega)
                  rw [Nat.zero_add, List.take_of_length_le (by have := hW.1; simp; omega)] at h
                  exact h
                clear h1 h2
                go_wp2
                go_quiet (first | (go_at_call_of 16 la; exact Calls.quiet_of (same_is la' la ln' ln lc' lc LL' LL true _ (HSL'.out.drewN _) (HSL.out.drewN _) HD1.out)) | (go_at_call_of 16 ra; exact Calls.quiet_of (same_is ra' ra rn' rn rc' rc RR' RR false _ (HSR'.out.drewN _) (HSR.out.drewN _) HD2.out)))
                go_wp2_with (first
                  | (at_builtin; refine append_rules (by rfl) (.tmp 95) (.tmp 98) (by rfl) w3.heap.size _ 0 [] (by rfl) (owns0_rules _) (some ⟨b2, k * 3, none⟩) (L - k) (c - k) (outs.drop k) (by rfl) ((HPC.out _ ((HOX.out.rs.drawn ⟨_, rfl⟩).alloc _))) (L - k) (by omega) (by omega) (by simp) ?_; intro a5 c5 w2 hown2 hb2 _ hnil5; have B2 : Below w3.heap.size w3 w2 := ((below_drawn (Below.refl _ w3) ⟨_, rfl⟩).alloc (Nat.le_refl _) _).trans hb2)
                  | fail)
                simp only [List.nil_append] at hown2
                have HO2 := Lib.hid (HOX.out.below B2)
                have hx1 : w2.cell? ⟨b1, o1 + j * 3, none⟩ = some (.slice la ln lc) := (B2.cell (p := ⟨b1, o1 + j * 3, none⟩) hb1x).trans hq1
                have hx2 : w2.cell? ⟨b1, o1 + j * 3 + 1, none⟩ = some (.slice ra rn rc) := (B2.cell (p := ⟨b1, o1 + j * 3 + 1, none⟩) hb1x).trans hq2
                have hx3 : w2.cell? ⟨b1, o1 + j * 3 + 2, none⟩ = some (.int .u64 C) := (B2.cell (p := ⟨b1, o1 + j * 3 + 2, none⟩) hb1x).trans hq3
                have HR2 : Hid (Rs w2 a5 (L - k) c5 (outs.drop k)) := by
                  exact Rs.of_owns hown2 (fun x hx => (HO2.out.2.1 x (List.mem_of_mem_drop hx)).below HO2.out.2.2.2.2 (Nat.le_refl _)) (by have := HO2.out.2.2.2.1; simp; omega)
                have HN5 := Lib.hid hnil5
                have HGW : Hid ((⟨la, ln, lc, LL, ra, rn, rc, RR, C⟩ : Rw).Good w2) := HGX.out.below HO2.out.2.2.2.2 (Nat.le_refl _)
                have bel1 : ∀ o, Below w2.heap.size w2 (w2.alloc o) := fun o => (Below.refl _ w2).alloc (Nat.le_refl _) o
                have bel2 : ∀ o o', Below w2.heap.size w2 ((w2.alloc o).alloc o') := fun o o' => ((Below.refl _ w2).alloc (Nat.le_refl _) o).alloc (by simp) o'
                have BEL1 := Lib.hid bel1
                have BEL2 := Lib.hid bel2
                have hb12 := cell_lt hx1
                have hne : w2.heap.size ≠ b1 := by omega
                have hne1 : w2.heap.size + 1 ≠ b1 := by omega
                clear hown2 hb2 hnil5 hq1 hq2 hq3 B2 bel1 bel2
                go_region_law (first
                  | (refine step_append_rules (w0 := w2) (by rfl) (.tmp 100) (.tmp 103) (by rfl) w2.heap.size _ 0 [] (by rfl) (by first | exact owns0_rules w2 | exact (owns0_rules w2).alloc _ | exact owns1_rules w2 _) (some ⟨b2, 0, none⟩) k c (outs.take k) (by rfl) (by first | exact (HO2.out.rs.first k hkL).alloc _ | exact ((HO2.out.rs.first k hkL).alloc _).alloc _) k (by omega) (by omega) (Nat.le_refl _) (by first | exact Below.like (BEL1.out _) rfl rfl rfl rfl | exact Below.like (BEL2.out _ _) rfl rfl rfl rfl) ?_; intro a6 c6 w5 hown5 hb5 hgrow5 _; simp only [List.nil_append] at hown5; have hx5 : w5.cell? ⟨b1, o1 + j * 3, none⟩ = some (.slice la ln lc) := (hb5.cell (p := ⟨b1, o1 + j * 3, none⟩) hb12).trans hx1; have hx6 : w5.cell? ⟨b1, o1 + j * 3 + 1, none⟩ = some (.slice ra rn rc) := (hb5.cell (p := ⟨b1, o1 + j * 3 + 1, none⟩) hb12).trans hx2; have hx7 : w5.cell? ⟨b1, o1 + j * 3 + 2, none⟩ = some (.int .u64 C) := (hb5.cell (p := ⟨b1, o1 + j * 3 + 2, none⟩) hb12).trans hx3; have hne5 : w5.heap.size ≠ b1 := (by have := hb5.size; omega); have HG5 := Lib.hid (HGW.out.below hb5 (Nat.le_refl _)))
                  | (refine step_append_rules (w0 := w2) (by rfl) (.tmp 104) (.tmp 109) (by rfl) w2.heap.size _ k (outs.take k) (by rfl) (by first | exact hown5 | exact hown5.alloc _) (some ⟨_, 0, none⟩) 1 1 [⟨la, ln, lc, LL, ra, rn, rc, RR, C⟩] (by rfl) (by first | exact Rs.single HG5.out ((RwAt.second w2 ⟨la, ln, lc, LL, ra, rn, rc, RR, C⟩ _ _).drw.grown hgrow5 (fun h => by have h' : some (w2.heap.size + 1) = some w2.heap.size := h; simp at h')) | exact Rs.single HG5.out (((RwAt.new w2 ⟨la, ln, lc, LL, ra, rn, rc, RR, C⟩ _).alloc _).drw.grown hgrow5 (fun h => by have h' : some w2.heap.size = some (w2.heap.size + 1) := h; simp at h')) | exact Rs.single (HG5.out.alloc _) (RwAt.new w5 ⟨la, ln, lc, LL, ra, rn, rc, RR, C⟩ _)) (k + 1) (by rfl) (by omega) (Nat.le_refl _) (by first | exact Below.like hb5 rfl rfl rfl rfl | exact Below.like (hb5.alloc hb5.size _) rfl rfl rfl rfl) ?_; intro a7 c7 w6 hown6 hb6 hgrow6 _)
                  | (refine step_append_rules (w0 := w2) (by rfl) (.tmp 110) (.tmp 111) (by rfl) w2.heap.size _ (k + 1) (outs.take k ++ [⟨la, ln, lc, LL, ra, rn, rc, RR, C⟩]) (by rfl) (by exact hown6) a5 (L - k) c5 (outs.drop k) (by rfl) (by exact HR2.out.below hb6 (Nat.le_refl _)) (L + 1) (by omega) (by omega) (Nat.le_refl _) (by exact Below.like hb6 rfl rfl rfl rfl) ?_; intro a8 c8 w7 hown7 hb7 hgrow7 hnil7))
                all_goals
                  have HO7 := Lib.hid (HO2.out.ins hkL HJX.out HZ1.out HGX.out HCK.out HK.out HNL.out hown7 hb7)
                  clear hown5 hown6 hown7 hgrow5 hgrow6 hgrow7 hb5 hb6 hb7 hnil7 hx1 hx2 hx3 hx5 hx6 hx7
                  go_wp2
                  go_roundw
                  case rel => exact ⟨j + 1, L + 1, c8, a8, _, by omega, by go_num, rfl, by omega, HO7.out⟩
                  case measure => simp [intOf]; omega
            · go_wp2_with fail
              go_still_tail 27, (by kernel_rfl)
              change wpList _ _ _ _ _ _
              go_wp2_with fail
              refine (rlessR_is ⟨la', ln', lc', LL', ra', rn', rc', RR', 0⟩ ⟨la, ln, lc, LL, ra, rn, rc, RR, 0⟩ true wr.drew (HG2.out.drawn ⟨1, rfl⟩) (HG1.out.drawn ⟨1, rfl⟩) ((lessR_sides ⟨LL', RR', C'⟩ ⟨LL, RR, C⟩).trans HLS.out)).mono ?_
              rintro e w3 ⟨rfl, hb3⟩
              have HB3 : Hid (Below wr.heap.size wr w3) := (below_drawn (Below.refl _ wr) ⟨1, rfl⟩).trans hb3
              clear hb3
              go_wp2
              go_roundw
              case rel =>
                refine ⟨k + 1, by omega, by go_num, ?_, HB.out.trans (HB3.out.mono HB.out.size)⟩
                intro y hy
                have hkr : k < (ruls outs).length := by rw [ruls_length, HO1.out.2.2.2.1]; exact hkl
                rw [List.take_succ_eq_append_getElem hkr] at hy
                rcases List.mem_append.1 hy with hy | hy
                · exact HK.out y hy
                · rw [List.mem_singleton.1 hy]
                  have h1 := ruls_at outs k
                  rw [HZ.out, List.getD_eq_getElem?_getD, List.getElem?_eq_getElem hkr, Option.getD_some] at h1
                  rw [h1]; exact HLS.out
              case measure => simp [intOf]; omega
          · obtain rfl : k = L := by omega
            have hkf : decide ((k : Int) < (k : Int)) = false := by simp
            have HNL : Hid (k < k → lessS ((ruls outs).getD k Rul.no) ⟨LL, RR, C⟩ = false ∧ ¬ ((ruls outs).getD k Rul.no).like ⟨LL, RR, C⟩) := fun h => absurd h (by omega)
            have hkL : k ≤ k := Nat.le_refl _
            have HOX := Lib.hid (HO1.out.below HB.out)
            have hLc := HOX.out.rs.2.1
            have hcM := HOX.out.rs.2.2.1
            unfold maxLen at hcM
            have hq1 := hy1
            have hq2 := hy2
            have hq3 := hy3
            have hb1x := hbw
            have hkc3 : (k : Int) ≤ (c : Int) := by omega
            have hkL2 : (0 : Int) ≤ (k : Int) := by omega
            clear hy1 hy2 hy3 HGX' hbw hkl
            obtain ⟨b9, c9, hbe, hnil9⟩ := own_form HO1.out.1
            cases hbe
            rcases b with _ | ⟨g, o, spot⟩
            · obtain rfl : c = 0 := hnil9 rfl
              obtain rfl : k = 0 := by omega
              clear hnil9
              go_wp2
              go_quiet (fail)
              go_wp2
              go_quiet (fail)
              go_wp2_with (first
                | (at_builtin; refine append_rules (by rfl) (.tmp 95) (.tmp 98) (by rfl) wr.heap.size _ 0 [] (by rfl) (owns0_rules _) none 0 _ [] (by rfl) Rs.nil 0 (by omega) (by omega) (by simp) ?_; intro a5 c5 w2 hown2 hb2 _ hnil5; have B2 : Below wr.heap.size wr w2 := ((below_drawn (Below.refl _ wr) ⟨_, rfl⟩).alloc (Nat.le_refl _) _).trans hb2)
                | fail)
              simp only [List.nil_append] at hown2
              have HO2 := Lib.hid (HOX.out.below B2)
              have hx1 : w2.cell? ⟨b1, o1 + j * 3, none⟩ = some (.slice la ln lc) := (B2.cell (p := ⟨b1, o1 + j * 3, none⟩) hb1x).trans hq1
              have hx2 : w2.cell? ⟨b1, o1 + j * 3 + 1, none⟩ = some (.slice ra rn rc) := (B2.cell (p := ⟨b1, o1 + j * 3 + 1, none⟩) hb1x).trans hq2
              have hx3 : w2.cell? ⟨b1, o1 + j * 3 + 2, none⟩ = some (.int .u64 C) := (B2.cell (p := ⟨b1, o1 + j * 3 + 2, none⟩) hb1x).trans hq3
              have HR2 : Hid (Rs w2 a5 0 c5 (outs.drop 0)) := by
                have e : outs.drop 0 = [] := List.drop_eq_nil_of_le (by have := HO2.out.2.2.2.1; omega)
                show Rs _ _ _ _ _
                rw [e]
                exact Rs.of_owns hown2 (by simp) rfl
              have HN5 := Lib.hid hnil5
              have HGW : Hid ((⟨la, ln, lc, LL, ra, rn, rc, RR, C⟩ : Rw).Good w2) := HGX.out.below HO2.out.2.2.2.2 (Nat.le_refl _)
              have bel1 : ∀ o, Below w2.heap.size w2 (w2.alloc o) := fun o => (Below.refl _ w2).alloc (Nat.le_refl _) o
              have bel2 : ∀ o o', Below w2.heap.size w2 ((w2.alloc o).alloc o') := fun o o' => ((Below.refl _ w2).alloc (Nat.le_refl _) o).alloc (by simp) o'
              have BEL1 := Lib.hid bel1
              have BEL2 := Lib.hid bel2
              have hb12 := cell_lt hx1
              have hne : w2.heap.size ≠ b1 := by omega
              have hne1 : w2.heap.size + 1 ≠ b1 := by omega
              clear hown2 hb2 hnil5 hq1 hq2 hq3 B2 bel1 bel2
              go_region_law (first
                | (refine step_append_rules (w0 := w2) (by rfl) (.tmp 100) (.tmp 103) (by rfl) w2.heap.size _ 0 [] (by rfl) (by first | exact owns0_rules w2 | exact (owns0_rules w2).alloc _ | exact owns1_rules w2 _) none 0 0 (outs.take 0) (by rfl) (by first | exact (HO2.out.rs.first 0 hkL).alloc _ | exact ((HO2.out.rs.first 0 hkL).alloc _).alloc _) 0 (by omega) (by omega) (Nat.le_refl _) (by first | exact Below.like (BEL1.out _) rfl rfl rfl rfl | exact Below.like (BEL2.out _ _) rfl rfl rfl rfl) ?_; intro a6 c6 w5 hown5 hb5 hgrow5 _; simp only [List.nil_append] at hown5; have hx5 : w5.cell? ⟨b1, o1 + j * 3, none⟩ = some (.slice la ln lc) := (hb5.cell (p := ⟨b1, o1 + j * 3, none⟩) hb12).trans hx1; have hx6 : w5.cell? ⟨b1, o1 + j * 3 + 1, none⟩ = some (.slice ra rn rc) := (hb5.cell (p := ⟨b1, o1 + j * 3 + 1, none⟩) hb12).trans hx2; have hx7 : w5.cell? ⟨b1, o1 + j * 3 + 2, none⟩ = some (.int .u64 C) := (hb5.cell (p := ⟨b1, o1 + j * 3 + 2, none⟩) hb12).trans hx3; have hne5 : w5.heap.size ≠ b1 := (by have := hb5.size; omega); have HG5 := Lib.hid (HGW.out.below hb5 (Nat.le_refl _)))
                | (refine step_append_rules (w0 := w2) (by rfl) (.tmp 104) (.tmp 109) (by rfl) w2.heap.size _ 0 (outs.take 0) (by rfl) (by first | exact hown5 | exact hown5.alloc _) (some ⟨_, 0, none⟩) 1 1 [⟨la, ln, lc, LL, ra, rn, rc, RR, C⟩] (by rfl) (by first | exact Rs.single HG5.out ((RwAt.second w2 ⟨la, ln, lc, LL, ra, rn, rc, RR, C⟩ _ _).drw.grown hgrow5 (fun h => by have h' : some (w2.heap.size + 1) = some w2.heap.size := h; simp at h')) | exact Rs.single HG5.out (((RwAt.new w2 ⟨la, ln, lc, LL, ra, rn, rc, RR, C⟩ _).alloc _).drw.grown hgrow5 (fun h => by have h' : some w2.heap.size = some (w2.heap.size + 1) := h; simp at h')) | exact Rs.single (HG5.out.alloc _) (RwAt.new w5 ⟨la, ln, lc, LL, ra, rn, rc, RR, C⟩ _)) (0 + 1) (by rfl) (by omega) (Nat.le_refl _) (by first | exact Below.like hb5 rfl rfl rfl rfl | exact Below.like (hb5.alloc hb5.size _) rfl rfl rfl rfl) ?_; intro a7 c7 w6 hown6 hb6 hgrow6 _)
                | (refine step_append_rules (w0 := w2) (by rfl) (.tmp 110) (.tmp 111) (by rfl) w2.heap.size _ (0 + 1) (outs.take 0 ++ [⟨la, ln, lc, LL, ra, rn, rc, RR, C⟩]) (by rfl) (by exact hown6) a5 0 c5 (outs.drop 0) (by rfl) (by exact HR2.out.below hb6 (Nat.le_refl _)) (0 + 1) (by omega) (by omega) (Nat.le_refl _) (by exact Below.like hb6 rfl rfl rfl rfl) ?_; intro a8 c8 w7 hown7 hb7 hgrow7 hnil7))
              all_goals
                have HO7 := Lib.hid (HO2.out.ins hkL HJX.out HZ1.out HGX.out HCK.out HK.out HNL.out hown7 hb7)
                clear hown5 hown6 hown7 hgrow5 hgrow6 hgrow7 hb5 hb6 hb7 hnil7 hx1 hx2 hx3 hx5 hx6 hx7
                go_wp2
                go_roundw
                case rel => exact ⟨j + 1, 0 + 1, c8, a8, _, by omega, by go_num, rfl, by omega, HO7.out⟩
                case measure => simp [intOf]; omega
            · have hspot : spot = none := by
                rcases HO1.out.1.2 with ⟨h', _⟩ | ⟨g', c', cur, h', _⟩
                · simp at h'
                · simp only [Value.slice.injEq, Option.some.injEq, Addr.mk.injEq] at h'; exact h'.1.2.2
              subst hspot
              obtain rfl := own_at HO1.out.1
              clear hnil9
              by_cases hkc : k = c
              · subst hkc
                go_wp2
                go_quiet (fail)
                go_wp2
                go_quiet (fail)
                go_wp2_with (first
                  | (at_builtin; refine append_rules (by rfl) (.tmp 95) (.tmp 98) (by rfl) wr.heap.size _ 0 [] (by rfl) (owns0_rules _) _ 0 _ [] (by rfl) (Rs.empty (by unfold maxLen; omega)) 0 (by omega) (by omega) (by simp) ?_; intro a5 c5 w2 hown2 hb2 _ hnil5; have B2 : Below wr.heap.size wr w2 := ((below_drawn (Below.refl _ wr) ⟨_, rfl⟩).alloc (Nat.le_refl _) _).trans hb2)
                  | fail)
                simp only [List.nil_append] at hown2
                have HO2 := Lib.hid (HOX.out.below B2)
                have hx1 : w2.cell? ⟨b1, o1 + j * 3, none⟩ = some (.slice la ln lc) := (B2.cell (p := ⟨b1, o1 + j * 3, none⟩) hb1x).trans hq1
                have hx2 : w2.cell? ⟨b1, o1 + j * 3 + 1, none⟩ = some (.slice ra rn rc) := (B2.cell (p := ⟨b1, o1 + j * 3 + 1, none⟩) hb1x).trans hq2
                have hx3 : w2.cell? ⟨b1, o1 + j * 3 + 2, none⟩ = some (.int .u64 C) := (B2.cell (p := ⟨b1, o1 + j * 3 + 2, none⟩) hb1x).trans hq3
                have HR2 : Hid (Rs w2 a5 0 c5 (outs.drop k)) := by
                  have e : outs.drop k = [] := List.drop_eq_nil_of_le (by have := HO2.out.2.2.2.1; omega)
                  show Rs _ _ _ _ _
                  rw [e]
                  exact Rs.of_owns hown2 (by simp) rfl
                have HN5 := Lib.hid hnil5
                have HGW : Hid ((⟨la, ln, lc, LL, ra, rn, rc, RR, C⟩ : Rw).Good w2) := HGX.out.below HO2.out.2.2.2.2 (Nat.le_refl _)
                have bel1 : ∀ o, Below w2.heap.size w2 (w2.alloc o) := fun o => (Below.refl _ w2).alloc (Nat.le_refl _) o
                have bel2 : ∀ o o', Below w2.heap.size w2 ((w2.alloc o).alloc o') := fun o o' => ((Below.refl _ w2).alloc (Nat.le_refl _) o).alloc (by simp) o'
                have BEL1 := Lib.hid bel1
                have BEL2 := Lib.hid bel2
                have hb12 := cell_lt hx1
                have hne : w2.heap.size ≠ b1 := by omega
                have hne1 : w2.heap.size + 1 ≠ b1 := by omega
                clear hown2 hb2 hnil5 hq1 hq2 hq3 B2 bel1 bel2
                go_region_law (first
                  | (refine step_append_rules (w0 := w2) (by rfl) (.tmp 100) (.tmp 103) (by rfl) w2.heap.size _ 0 [] (by rfl) (by first | exact owns0_rules w2 | exact (owns0_rules w2).alloc _ | exact owns1_rules w2 _) (some ⟨g, 0, none⟩) k k (outs.take k) (by rfl) (by first | exact (HO2.out.rs.first k hkL).alloc _ | exact ((HO2.out.rs.first k hkL).alloc _).alloc _) k (by omega) (by omega) (Nat.le_refl _) (by first | exact Below.like (BEL1.out _) rfl rfl rfl rfl | exact Below.like (BEL2.out _ _) rfl rfl rfl rfl) ?_; intro a6 c6 w5 hown5 hb5 hgrow5 _; simp only [List.nil_append] at hown5; have hx5 : w5.cell? ⟨b1, o1 + j * 3, none⟩ = some (.slice la ln lc) := (hb5.cell (p := ⟨b1, o1 + j * 3, none⟩) hb12).trans hx1; have hx6 : w5.cell? ⟨b1, o1 + j * 3 + 1, none⟩ = some (.slice ra rn rc) := (hb5.cell (p := ⟨b1, o1 + j * 3 + 1, none⟩) hb12).trans hx2; have hx7 : w5.cell? ⟨b1, o1 + j * 3 + 2, none⟩ = some (.int .u64 C) := (hb5.cell (p := ⟨b1, o1 + j * 3 + 2, none⟩) hb12).trans hx3; have hne5 : w5.heap.size ≠ b1 := (by have := hb5.size; omega); have HG5 := Lib.hid (HGW.out.below hb5 (Nat.le_refl _)))
                  | (refine step_append_rules (w0 := w2) (by rfl) (.tmp 104) (.tmp 109) (by rfl) w2.heap.size _ k (outs.take k) (by rfl) (by first | exact hown5 | exact hown5.alloc _) (some ⟨_, 0, none⟩) 1 1 [⟨la, ln, lc, LL, ra, rn, rc, RR, C⟩] (by rfl) (by first | exact Rs.single HG5.out ((RwAt.second w2 ⟨la, ln, lc, LL, ra, rn, rc, RR, C⟩ _ _).drw.grown hgrow5 (fun h => by have h' : some (w2.heap.size + 1) = some w2.heap.size := h; simp at h')) | exact Rs.single HG5.out (((RwAt.new w2 ⟨la, ln, lc, LL, ra, rn, rc, RR, C⟩ _).alloc _).drw.grown hgrow5 (fun h => by have h' : some w2.heap.size = some (w2.heap.size + 1) := h; simp at h')) | exact Rs.single (HG5.out.alloc _) (RwAt.new w5 ⟨la, ln, lc, LL, ra, rn, rc, RR, C⟩ _)) (k + 1) (by rfl) (by omega) (Nat.le_refl _) (by first | exact Below.like hb5 rfl rfl rfl rfl | exact Below.like (hb5.alloc hb5.size _) rfl rfl rfl rfl) ?_; intro a7 c7 w6 hown6 hb6 hgrow6 _)
                  | (refine step_append_rules (w0 := w2) (by rfl) (.tmp 110) (.tmp 111) (by rfl) w2.heap.size _ (k + 1) (outs.take k ++ [⟨la, ln, lc, LL, ra, rn, rc, RR, C⟩]) (by rfl) (by exact hown6) a5 0 c5 (outs.drop k) (by rfl) (by exact HR2.out.below hb6 (Nat.le_refl _)) (k + 1) (by omega) (by omega) (Nat.le_refl _) (by exact Below.like hb6 rfl rfl rfl rfl) ?_; intro a8 c8 w7 hown7 hb7 hgrow7 hnil7))
                all_goals
                  have HO7 := Lib.hid (HO2.out.ins hkL HJX.out HZ1.out HGX.out HCK.out HK.out HNL.out hown7 hb7)
                  clear hown5 hown6 hown7 hgrow5 hgrow6 hgrow7 hb5 hb6 hb7 hnil7 hx1 hx2 hx3 hx5 hx6 hx7
                  go_wp2
                  go_roundw
                  case rel => exact ⟨j + 1, k + 1, c8, a8, _, by omega, by go_num, rfl, by omega, HO7.out⟩
                  case measure => simp [intOf]; omega
              · have hkc1 : k < c := by omega
                have hkc2 : ¬ (k : Int) = (c : Int) := by omega
                have hkc4 : k ≤ c := by omega
                go_wp2
                go_quiet (fail)
                go_wp2
                go_quiet (fail)
                go_wp2_with (first
                  | (at_builtin; refine append_rules (by rfl) (.tmp 95) (.tmp 98) (by rfl) wr.heap.size _ 0 [] (by rfl) (owns0_rules _) _ 0 _ [] (by rfl) (Rs.empty (by unfold maxLen; omega)) 0 (by omega) (by omega) (by simp) ?_; intro a5 c5 w2 hown2 hb2 _ hnil5; have B2 : Below wr.heap.size wr w2 := ((below_drawn (Below.refl _ wr) ⟨_, rfl⟩).alloc (Nat.le_refl _) _).trans hb2)
                  | fail)
                simp only [List.nil_append] at hown2
                have HO2 := Lib.hid (HOX.out.below B2)
                have hx1 : w2.cell? ⟨b1, o1 + j * 3, none⟩ = some (.slice la ln lc) := (B2.cell (p := ⟨b1, o1 + j * 3, none⟩) hb1x).trans hq1
                have hx2 : w2.cell? ⟨b1, o1 + j * 3 + 1, none⟩ = some (.slice ra rn rc) := (B2.cell (p := ⟨b1, o1 + j * 3 + 1, none⟩) hb1x).trans hq2
                have hx3 : w2.cell? ⟨b1, o1 + j * 3 + 2, none⟩ = some (.int .u64 C) := (B2.cell (p := ⟨b1, o1 + j * 3 + 2, none⟩) hb1x).trans hq3
                have HR2 : Hid (Rs w2 a5 0 c5 (outs.drop k)) := by
                  have e : outs.drop k = [] := List.drop_eq_nil_of_le (by have := HO2.out.2.2.2.1; omega)
                  show Rs _ _ _ _ _
                  rw [e]
                  exact Rs.of_owns hown2 (by simp) rfl
                have HN5 := Lib.hid hnil5
                have HGW : Hid ((⟨la, ln, lc, LL, ra, rn, rc, RR, C⟩ : Rw).Good w2) := HGX.out.below HO2.out.2.2.2.2 (Nat.le_refl _)
                have bel1 : ∀ o, Below w2.heap.size w2 (w2.alloc o) := fun o => (Below.refl _ w2).alloc (Nat.le_refl _) o
                have bel2 : ∀ o o', Below w2.heap.size w2 ((w2.alloc o).alloc o') := fun o o' => ((Below.refl _ w2).alloc (Nat.le_refl _) o).alloc (by simp) o'
                have BEL1 := Lib.hid bel1
                have BEL2 := Lib.hid bel2
                have hb12 := cell_lt hx1
                have hne : w2.heap.size ≠ b1 := by omega
                have hne1 : w2.heap.size + 1 ≠ b1 := by omega
                clear hown2 hb2 hnil5 hq1 hq2 hq3 B2 bel1 bel2
                go_region_law (first
                  | (refine step_append_rules (w0 := w2) (by rfl) (.tmp 100) (.tmp 103) (by rfl) w2.heap.size _ 0 [] (by rfl) (by first | exact owns0_rules w2 | exact (owns0_rules w2).alloc _ | exact owns1_rules w2 _) (some ⟨g, 0, none⟩) k c (outs.take k) (by rfl) (by first | exact (HO2.out.rs.first k hkL).alloc _ | exact ((HO2.out.rs.first k hkL).alloc _).alloc _) k (by omega) (by omega) (Nat.le_refl _) (by first | exact Below.like (BEL1.out _) rfl rfl rfl rfl | exact Below.like (BEL2.out _ _) rfl rfl rfl rfl) ?_; intro a6 c6 w5 hown5 hb5 hgrow5 _; simp only [List.nil_append] at hown5; have hx5 : w5.cell? ⟨b1, o1 + j * 3, none⟩ = some (.slice la ln lc) := (hb5.cell (p := ⟨b1, o1 + j * 3, none⟩) hb12).trans hx1; have hx6 : w5.cell? ⟨b1, o1 + j * 3 + 1, none⟩ = some (.slice ra rn rc) := (hb5.cell (p := ⟨b1, o1 + j * 3 + 1, none⟩) hb12).trans hx2; have hx7 : w5.cell? ⟨b1, o1 + j * 3 + 2, none⟩ = some (.int .u64 C) := (hb5.cell (p := ⟨b1, o1 + j * 3 + 2, none⟩) hb12).trans hx3; have hne5 : w5.heap.size ≠ b1 := (by have := hb5.size; omega); have HG5 := Lib.hid (HGW.out.below hb5 (Nat.le_refl _)))
                  | (refine step_append_rules (w0 := w2) (by rfl) (.tmp 104) (.tmp 109) (by rfl) w2.heap.size _ k (outs.take k) (by rfl) (by first | exact hown5 | exact hown5.alloc _) (some ⟨_, 0, none⟩) 1 1 [⟨la, ln, lc, LL, ra, rn, rc, RR, C⟩] (by rfl) (by first | exact Rs.single HG5.out ((RwAt.second w2 ⟨la, ln, lc, LL, ra, rn, rc, RR, C⟩ _ _).drw.grown hgrow5 (fun h => by have h' : some (w2.heap.size + 1) = some w2.heap.size := h; simp at h')) | exact Rs.single HG5.out (((RwAt.new w2 ⟨la, ln, lc, LL, ra, rn, rc, RR, C⟩ _).alloc _).drw.grown hgrow5 (fun h => by have h' : some w2.heap.size = some (w2.heap.size + 1) := h; simp at h')) | exact Rs.single (HG5.out.alloc _) (RwAt.new w5 ⟨la, ln, lc, LL, ra, rn, rc, RR, C⟩ _)) (k + 1) (by rfl) (by omega) (Nat.le_refl _) (by first | exact Below.like hb5 rfl rfl rfl rfl | exact Below.like (hb5.alloc hb5.size _) rfl rfl rfl rfl) ?_; intro a7 c7 w6 hown6 hb6 hgrow6 _)
                  | (refine step_append_rules (w0 := w2) (by rfl) (.tmp 110) (.tmp 111) (by rfl) w2.heap.size _ (k + 1) (outs.take k ++ [⟨la, ln, lc, LL, ra, rn, rc, RR, C⟩]) (by rfl) (by exact hown6) a5 0 c5 (outs.drop k) (by rfl) (by exact HR2.out.below hb6 (Nat.le_refl _)) (k + 1) (by omega) (by omega) (Nat.le_refl _) (by exact Below.like hb6 rfl rfl rfl rfl) ?_; intro a8 c8 w7 hown7 hb7 hgrow7 hnil7))
                all_goals
                  have HO7 := Lib.hid (HO2.out.ins hkL HJX.out HZ1.out HGX.out HCK.out HK.out HNL.out hown7 hb7)
                  clear hown5 hown6 hown7 hgrow5 hgrow6 hgrow7 hb5 hb6 hb7 hnil7 hx1 hx2 hx3 hx5 hx6 hx7
                  go_wp2
                  go_roundw
                  case rel => exact ⟨j + 1, k + 1, c8, a8, _, by omega, by go_num, rfl, by omega, HO7.out⟩
                  case measure => simp [intOf]; omega
    · obtain rfl : j = n := by omega
      have hfin : ruls outs = nrm (ruls xs) := by
        rw [HO.out.2.2.1, List.take_of_length_le (by rw [ruls_length, HS.out.1]; omega)]
      have HFI := Lib.hid hfin
      obtain ⟨b9, c9, hbe, hnil9⟩ := own_form HO.out.1
      cases hbe
      have HN9 := Lib.hid hnil9
      clear hfin hnil9
      go_wp2
      go_ret
      exact ⟨b, L, c, outs, rfl, HO.out.rs, HFI.out, hLj, HN9.out, HO.out.2.2.2.2⟩

end Go.Proofs.Ytpcebfefbnpbpaa
